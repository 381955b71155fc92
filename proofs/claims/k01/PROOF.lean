import PyProof.Rows.All
import Wide.All
import OpenK.AllK
import Wide.FinOn
import PyProof.EqAt
import PyProof.EqKinds
import PyProof.TupleCall
import Lean
import PySem.Challenge.RW_strongboxes_k01_makings_let_by
set_option Elab.async false
set_option linter.all false
set_option maxRecDepth 100000
set_option maxHeartbeats 4000000

namespace L2
open PySem PySem.Spec PyProof.Rows
noncomputable abbrev Key := Sum Int Str
noncomputable def keyIs : Key → Value → Bool
  | .inl k, v => Value.isInt k v
  | .inr x, v => Value.isStrOf x v
noncomputable def keyH (w : World) : Key → Int
  | .inl k => hashInt k
  | .inr x => hashStr w x
theorem keyIs_shape : ∀ {k : Key} {v : Value}, keyIs k v = true → (∃ i t, k = Sum.inl i ∧ v = Value.int i t) ∨ (∃ x t, k = Sum.inr x ∧ v = Value.str x t)
  | .inl i, v, h => by
    obtain ⟨t, e⟩ := Value.isInt_shape (k := i) (v := v) h
    exact .inl ⟨i, t, rfl, e⟩
  | .inr x, v, h => by
    obtain ⟨t, e⟩ := Value.isStrOf_shape (x := x) (v := v) h
    exact .inr ⟨x, t, rfl, e⟩
theorem keyIs_int (i : Int) (t : Tok) : keyIs (.inl i) (.int i t) = true := by simp [keyIs, Value.isInt]
theorem keyIs_str (x : Str) (t : Tok) : keyIs (.inr x) (.str x t) = true := by simp [keyIs, Value.isStrOf]
theorem key_ll (a b : Int) : decide ((Sum.inl a : Key) = Sum.inl b) = (a == b) := by
  by_cases e : a = b
  · subst e; simp
  · have h : ¬ (Sum.inl a : Key) = Sum.inl b := fun q => e (Sum.inl.inj q)
    rw [decide_eq_false h]
    exact (beq_eq_false_iff_ne.mpr e).symm
theorem key_rr (a b : Str) : decide ((Sum.inr a : Key) = Sum.inr b) = decide (a = b) := by
  by_cases e : a = b
  · subst e; simp
  · have h : ¬ (Sum.inr a : Key) = Sum.inr b := fun q => e (Sum.inr.inj q)
    rw [decide_eq_false h, decide_eq_false e]
theorem key_lr (a : Int) (b : Str) : decide ((Sum.inl a : Key) = Sum.inr b) = false := decide_eq_false (fun q => nomatch q)
theorem key_rl (a : Str) (b : Int) : decide ((Sum.inr a : Key) = Sum.inl b) = false := decide_eq_false (fun q => nomatch q)
noncomputable def mixKind (prog : Program) (w : World) : PySem.KeyKind prog w Key where
  is := keyIs
  hash := keyH w
  inj := fun v a b ha hb => by
    rcases keyIs_shape ha with ⟨i, t, rfl, rfl⟩ | ⟨x, t, rfl, rfl⟩
    · rcases keyIs_shape hb with ⟨j, u, rfl, e⟩ | ⟨y, u, rfl, e⟩
      · injection e with e1 _; rw [e1]
      · exact nomatch e
    · rcases keyIs_shape hb with ⟨j, u, rfl, e⟩ | ⟨y, u, rfl, e⟩
      · exact nomatch e
      · injection e with e1 _; rw [e1]
  byValue := fun k v h => by
    rcases keyIs_shape h with ⟨i, t, rfl, rfl⟩ | ⟨x, t, rfl, rfl⟩ <;> rfl
  pyHash := fun hv h => by
    rcases keyIs_shape hv with ⟨i, t, rfl, rfl⟩ | ⟨x, t, rfl, rfl⟩
    · exact wpAny_pyHash_int h
    · exact wpAny_pyHash_str h
  eqBool := fun hu hv h => by
    rcases keyIs_shape hu with ⟨i, t, rfl, rfl⟩ | ⟨x, t, rfl, rfl⟩
    · rcases keyIs_shape hv with ⟨j, u, rfl, rfl⟩ | ⟨y, u, rfl, rfl⟩
      · rw [key_ll] at h; exact wpAny_eqBool_int h
      · rw [key_lr] at h; exact SeqAt.EqAt.int_str i t y u _ _ _ _ h
    · rcases keyIs_shape hv with ⟨j, u, rfl, rfl⟩ | ⟨y, u, rfl, rfl⟩
      · rw [key_rl] at h; exact SeqAt.EqAt.str_int x t j u _ _ _ _ h
      · rw [key_rr] at h; exact wpAny_eqBool_str h
  «strs» := fun k x t v h => by
    rcases keyIs_shape h with ⟨i, u, rfl, e⟩ | ⟨y, u, rfl, e⟩
    · exact nomatch e
    · injection e with e1 _
      subst e1
      cases v <;> rfl
theorem mixKind_int (prog : Program) (w : World) (i : Int) (t : Tok) : (mixKind prog w).is (.inl i) (.int i t) = true := keyIs_int i t
theorem mixKind_str (prog : Program) (w : World) (x : Str) (t : Tok) : (mixKind prog w).is (.inr x) (.str x t) = true := keyIs_str x t
end L2
namespace L2
open PySem PySem.Spec PyProof.Rows
inductive V where
  | non | bl (b : Bool) | int (i : Int) | str (x : Str) | byt (b : Array UInt8) | flt (b : UInt64) | ref (a : Addr) | ty (n : String)
  deriving DecidableEq
noncomputable def RelV : V → Value → Prop
  | .non, u => u = Value.none
  | .bl b, u => u = Value.bool b
  | .int i, u => ∃ t, u = Value.int i t
  | .str x, u => ∃ t, u = Value.str x t
  | .byt b, u => ∃ t, u = Value.bytes b t
  | .flt b, u => ∃ t, u = Value.float b t
  | .ref a, u => u = Value.ref a
  | .ty n, u => u = Value.type n
noncomputable abbrev Vals : List V → List Value → Prop := Paired RelV
theorem Vals.length {xs : List V} {us : List Value} (r : Vals xs us) : xs.length = us.length := Paired.length r
theorem Vals.get : ∀ {xs : List V} {us : List Value} {i : Nat} {x : V}, Vals xs us → xs[i]? = some x → ∃ u, us[i]? = some u ∧ RelV x u
  | _, _, _, _, .nil, e => by simp at e
  | _, _, 0, _, .cons r _, e => by simp at e; subst e; exact ⟨_, rfl, r⟩
  | _, _, i + 1, x, .cons _ t, e => by
    obtain ⟨u, h1, h2⟩ := Vals.get (i := i) (x := x) t (by simpa using e)
    exact ⟨u, by simpa using h1, h2⟩
theorem Vals.set {x : V} {u : Value} (r : RelV x u) : ∀ {xs : List V} {us : List Value} (i : Nat), Vals xs us → Vals (xs.set i x) (us.set i u)
  | _, _, _, .nil => .nil
  | _, _, 0, .cons _ t => .cons r t
  | _, _, i + 1, .cons q t => .cons q (Vals.set r i t)
theorem Vals.append : ∀ {xs ys : List V} {us ws : List Value}, Vals xs us → Vals ys ws → Vals (xs ++ ys) (us ++ ws)
  | _, _, _, _, .nil, s => s
  | _, _, _, _, .cons r t, s => .cons r (Vals.append t s)
theorem Vals.take : ∀ {xs : List V} {us : List Value} (n : Nat), Vals xs us → Vals (xs.take n) (us.take n)
  | _, _, 0, _ => .nil
  | _, _, _ + 1, .nil => .nil
  | _, _, n + 1, .cons r t => .cons r (Vals.take n t)
theorem Vals.drop : ∀ {xs : List V} {us : List Value} (n : Nat), Vals xs us → Vals (xs.drop n) (us.drop n)
  | _, _, 0, r => r
  | _, _, _ + 1, .nil => .nil
  | _, _, n + 1, .cons _ t => Vals.drop n t
noncomputable def RelO : Option V → Option Value → Prop
  | some v, some u => RelV v u
  | none, none => True
  | _, _ => False
noncomputable def KV {κ : Type} : List (κ × V) → List (κ × Value) → Prop := Paired fun (p : κ × V) (q : κ × Value) => p.1 = q.1 ∧ RelV p.2 q.2
noncomputable def kV : Key → V
  | .inl i => .int i
  | .inr x => .str x
inductive HO where
  | lst (xs : List V)
  | tup (xs : List V)
  | dK (kvs : List (Key × V)) | dT (kvs : List (List Key × V))
  | set (S : Int → Bool) (n : Nat)
  | ins (C dx : Addr) (fs : List (Str × V))
  | own (x : Addr)
  | xd (fs : List (Str × V))
  | met (f x : Addr)
  | rng (lo hi : Int)
  | frz (o : Obj) (u : HO)
  | tbl (ps : Array Value)
  | ext (φ : Heap → Prop)
noncomputable abbrev Hp := Addr → Option HO
noncomputable def upd (H : Hp) (a : Addr) (o : HO) : Hp := fun b => if b = a then some o else H b
theorem upd_same {H : Hp} {a : Addr} {o : HO} : upd H a o a = some o := by unfold upd; rw [if_pos rfl]
theorem upd_ne {H : Hp} {a b : Addr} {o : HO} (h : b ≠ a) : upd H a o b = H b := by unfold upd; rw [if_neg h]
theorem ne_of {H : Hp} {a b : Addr} {o u : HO} (h : H a = some o) (h' : H b = some u) (d : o ≠ u) : a ≠ b := by
  intro e; subst e; rw [h] at h'; exact d (Option.some.inj h')
theorem ne_of_none {H : Hp} {a b : Addr} {o : HO} (h : H a = some o) (h' : H b = none) : a ≠ b := by
  intro e; subst e; rw [h] at h'; cases h'
section
variable (P : Program) (w : World)
noncomputable def ObjOk (H : Hp) (h : Heap) (a : Addr) : HO → Prop
  | .lst xs => xs.length ≤ sizeLine ∧ ∃ (its : List Value) (n : Nat), Vals xs its ∧ h.get? a = some { cls := .type "list", data := .seq its.toArray n }
  | .tup xs => xs.length ≤ sizeLine ∧ ∃ its : List Value, Vals xs its ∧ IsTup h a its.toArray
  | .dK kvs => kvs.length ≤ sizeLine ∧ (a == sysModules) = false ∧ ∃ vs, KV kvs vs ∧ h.DictOf (mixKind P w) a vs
  | .dT kvs => kvs.length ≤ sizeLine ∧ (a == sysModules) = false ∧ ∃ xs : List (List Key × Addr × Value),
      Paired (fun (p : List Key × V) (q : List Key × Addr × Value) => p.1 = q.1 ∧ H q.2.1 = some (.tup (p.1.map kV)) ∧ RelV p.2 q.2.2) kvs xs ∧
      ∃ o es ep, h.get? a = some o ∧ o.ExactDict ∧ o.data = .dict es ep ∧ es.toList = xs.map (entryOfKey (tupleKind (mixKind P w))) ∧ (xs.map (·.1)).Nodup
  | .set S n => h.SetOf (intKind P w) a S n
  | .ins C dx fs => H dx = some (.own a) ∧ fs.length ≤ 1000 ∧ dx ≠ a ∧ h.get? a = some (PySem.W.instObj C dx) ∧
      ∃ mA, h.Ns1 dx mA ∧ (∀ f, RelO (fs.lookup f) (mA f)) ∧ PySem.Within mA (fs.map (·.1))
  | .own _ => ∃ o, h.get? a = some o
  | .xd fs => ∃ mA, h.Ns1 a mA ∧ ∀ f, RelO (fs.lookup f) (mA f)
  | .rng lo hi => ∃ t u v, h.get? a = some { cls := .type "range", data := .fields #[.int lo t, .int hi u, .int 1 v] }
  | .frz o u => h.get? a = some o ∧ ObjOk H h a u
  | .tbl ps => h.get? a = some { cls := .none, data := .fields ps }
  | .met f x => h.get? a = some (PySem.W.methodObj (.ref f) (.ref x))
  | .ext φ => φ h ∧ (∃ o, h.get? a = some o) ∧ ∀ h1 h2 : Heap, φ h1 → (∀ o, h1.get? a = some o → h2.get? a = some o) → φ h2
noncomputable def HOk (H : Hp) (h : Heap) : Prop := ∀ a o, H a = some o → ObjOk P w H h a o
end
section
variable {P : Program} {w : World} {H H' : Hp} {h h' : Heap} {a : Addr} {o : HO}
theorem ObjOk.lt (x : ObjOk P w H h a o) : a < h.objs.size := by
  cases o with
  | lst xs => obtain ⟨_, _, _, _, e⟩ := x; exact Heap.lt_size e
  | tup xs => obtain ⟨_, _, _, p⟩ := x; exact p.lt
  | dK kvs => obtain ⟨_, _, _, _, o, _, _, e, _⟩ := x; exact Heap.lt_size e
  | dT kvs => obtain ⟨_, _, _, _, o, _, _, e, _⟩ := x; exact Heap.lt_size e
  | set S n => obtain ⟨o, _, _, _, e, _⟩ := x; exact Heap.lt_size e
  | ins C dx fs => obtain ⟨_, _, _, e, _⟩ := x; exact Heap.lt_size e
  | own y => obtain ⟨_, e⟩ := x; exact Heap.lt_size e
  | xd fs => obtain ⟨_, ⟨_, _, _, e, _⟩, _⟩ := x; exact Heap.lt_size e
  | rng lo hi => obtain ⟨_, _, _, e⟩ := x; exact Heap.lt_size e
  | frz ob u => obtain ⟨e, _⟩ := x; exact Heap.lt_size e
  | tbl ps => exact Heap.lt_size (show h.get? a = some _ from x)
  | met f y => exact Heap.lt_size (show h.get? a = some _ from x)
  | ext φ => obtain ⟨_, ⟨_, e⟩, _⟩ := x; exact Heap.lt_size e
theorem Paired.mapP {α β : Type} {F G : α → β → Prop} : ∀ {l₁ : List α} {l₂ : List β}, Paired F l₁ l₂ → (∀ a b, F a b → G a b) → Paired G l₁ l₂
  | _, _, .nil, _ => .nil
  | _, _, .cons r t, f => .cons (f _ _ r) (Paired.mapP t f)
theorem ObjOk.stay (x : ObjOk P w H h a o) (k : ∀ b u, (b = a ∨ H b = some (.own a)) → h.get? b = some u → h'.get? b = some u)
    (ho : ∀ b, H b = some (.own a) → H' b = some (.own a)) (ht : ∀ b xs, H b = some (.tup xs) → H' b = some (.tup xs)) : ObjOk P w H' h' a o := by
  induction o with
  | lst xs => obtain ⟨z, its, n, r, e⟩ := x; exact ⟨z, its, n, r, k _ _ (.inl rfl) e⟩
  | tup xs => obtain ⟨z, its, r, ob, e, c⟩ := x; exact ⟨z, its, r, ob, k _ _ (.inl rfl) e, c⟩
  | dK kvs => obtain ⟨z, y, vs, r, ob, es, ep, e, c⟩ := x; exact ⟨z, y, vs, r, ob, es, ep, k _ _ (.inl rfl) e, c⟩
  | dT kvs =>
    obtain ⟨z, y, xs, r, ob, es, ep, e, c⟩ := x
    exact ⟨z, y, xs, Paired.mapP r fun p q z => ⟨z.1, ht _ _ z.2.1, z.2.2⟩, ob, es, ep, k _ _ (.inl rfl) e, c⟩
  | set S n => obtain ⟨ob, es, ep, t, e, c⟩ := x; exact ⟨ob, es, ep, t, k _ _ (.inl rfl) e, c⟩
  | ins C dx fs =>
    obtain ⟨d, z, ne, e, mA, ⟨od, es, ep, e2, c⟩, r⟩ := x
    exact ⟨ho _ d, z, ne, k _ _ (.inl rfl) e, mA, ⟨od, es, ep, k _ _ (.inr d) e2, c⟩, r⟩
  | own y => obtain ⟨ob, e⟩ := x; exact ⟨ob, k _ _ (.inl rfl) e⟩
  | xd fs => obtain ⟨mA, ⟨od, es, ep, e, c⟩, r⟩ := x; exact ⟨mA, ⟨od, es, ep, k _ _ (.inl rfl) e, c⟩, r⟩
  | rng lo hi => obtain ⟨t, u, v, e⟩ := x; exact ⟨t, u, v, k _ _ (.inl rfl) e⟩
  | frz ob u ih => obtain ⟨e, q⟩ := x; exact ⟨k _ _ (.inl rfl) e, ih q⟩
  | tbl ps =>
    have e : h.get? a = some { cls := .none, data := .fields ps } := x
    show h'.get? a = some { cls := .none, data := .fields ps }
    exact k a _ (.inl rfl) e
  | met f y =>
    have e : h.get? a = some (PySem.W.methodObj (.ref f) (.ref y)) := x
    show h'.get? a = some (PySem.W.methodObj (.ref f) (.ref y))
    exact k a _ (.inl rfl) e
  | ext φ => obtain ⟨p, ⟨o, e⟩, st⟩ := x; exact ⟨st _ _ p fun o q => k _ _ (.inl rfl) q, ⟨o, k _ _ (.inl rfl) e⟩, st⟩
theorem HOk.lt (x : HOk P w H h) (e : H a = some o) : a < h.objs.size := (x a o e).lt
theorem HOk.fresh (x : HOk P w H h) (e : h.objs.size ≤ a) : H a = none := by
  cases q : H a with
  | none => rfl
  | some u => exact absurd (Nat.lt_of_lt_of_le (x.lt q) e) (Nat.lt_irrefl _)
theorem HOk.kept (x : HOk P w H h) (k : ∀ b u, h.get? b = some u → h'.get? b = some u) : HOk P w H h' := fun a o e =>
  (x a o e).stay (fun b u _ q => k b u q) (fun _ q => q) fun _ _ q => q
theorem HOk.laid (x : HOk P w H h) (k : ∀ b u, h.get? b = some u → h'.get? b = some u) (hp : h.objs.size ≤ a) (new : ObjOk P w (upd H a o) h' a o) : HOk P w (upd H a o) h' := fun b u e => by
  have hn := x.fresh hp
  by_cases hb : b = a
  · subst hb; rw [upd_same] at e; cases e; exact new
  · rw [upd_ne hb] at e
    exact (x b u e).stay (fun c v _ q => k c v q) (fun c q => by rw [upd_ne (ne_of_none q hn)]; exact q) fun c xs q => by rw [upd_ne (ne_of_none q hn)]; exact q
end
noncomputable def Rd (H : Hp) (a : Addr) (u : HO) : Prop := H a = some u ∨ ∃ o, H a = some (.frz o u)
theorem Rd.ok {P : Program} {w : World} {H : Hp} {h : Heap} {a : Addr} {u : HO} (r : Rd H a u) (x : HOk P w H h) : ObjOk P w H h a u := by
  rcases r with r | ⟨o, r⟩
  · exact x a u r
  · obtain ⟨_, q⟩ := x a _ r
    exact q
noncomputable def Mut : Option HO → Prop
  | some (.lst _) => True
  | some (.dK _) => True
  | some (.dT _) => True
  | some (.set _ _) => True
  | some (.ins _ _ _) => True
  | some (.ext _) => True
  | _ => False
section
variable {P : Program} {w : World} {H : Hp} {h h' : Heap} {x e : Addr} {o' : HO}
theorem HOk.write (ok : HOk P w H h) (mu : Mut (H x)) (he : e = x ∨ H e = some (.own x)) (k : ∀ b u, b ≠ e → h.get? b = some u → h'.get? b = some u) (heo : ∃ u, h'.get? e = some u)
    (new : ObjOk P w (upd H x o') h' x o') : HOk P w (upd H x o') h' := fun b u q => by
  have nown : ∀ c y, H c = some (.own y) → c ≠ x := fun c y r z => by subst z; rw [r] at mu; exact mu
  have ntup : ∀ c xs, H c = some (.tup xs) → c ≠ x := fun c xs r z => by subst z; rw [r] at mu; exact mu
  by_cases hb : b = x
  · subst hb; rw [upd_same] at q; cases q; exact new
  · rw [upd_ne hb] at q
    by_cases hbe : b = e
    · have q' : H b = some (.own x) := by
        rcases he with z | z
        · exact absurd (hbe.trans z) hb
        · rw [hbe]; exact z
      rw [q] at q'; cases q'
      obtain ⟨v, hv⟩ := heo
      exact ⟨v, by rw [hbe]; exact hv⟩
    · refine (ok b u q).stay (fun c v hc r => k c v ?_ r) (fun c r => by rw [upd_ne (nown c b r)]; exact r) fun c xs r => by rw [upd_ne (ntup c xs r)]; exact r
      rcases hc with rfl | hc
      · exact hbe
      · rintro rfl
        rcases he with z | z
        · exact nown c b hc z
        · rw [hc] at z; cases z; exact hb rfl
end
structure Un (fs ex : List Addr) (H H' : Hp) (h h' : Heap) : Prop where
  keep : ∀ b o, h.get? b = some o → H b = none → b ∉ fs → b ∉ ex → h'.get? b = some o
  slot : ∀ b o, h.get? b = some o → H b = none → b ∈ fs → b ∉ ex → ∃ sl, h'.get? b = some { o with slots := sl }
  free : ∀ b o, h.get? b = some o → H b = none → b ∉ ex → H' b = none
  there : ∀ b o, h.get? b = some o → b ∉ ex → ∃ o', h'.get? b = some o'
  tups : ∀ b xs, H b = some (.tup xs) → H' b = some (.tup xs)
  frzs : ∀ b o u, H b = some (.frz o u) → H' b = some (.frz o u)
  tbls : ∀ b ps, H b = some (.tbl ps) → ∃ more, H' b = some (.tbl (ps ++ more))
section
variable {fs fs' ex ex' : List Addr} {H H1 H2 : Hp} {h h1 h2 h' : Heap} {a x e : Addr} {o : HO}
theorem Un.any (u : Un fs ex H H1 h h1) {b : Addr} {ob : Obj} (q : h.get? b = some ob) (n : H b = none) (hx : b ∉ ex) : ∃ sl, h1.get? b = some { ob with slots := sl } := by
  by_cases hb : b ∈ fs
  · exact u.slot b ob q n hb hx
  · exact ⟨ob.slots, u.keep b ob q n hb hx⟩
theorem Un.kept (k : ∀ b u, h.get? b = some u → h'.get? b = some u) : Un fs ex H H h h' :=
  ⟨fun b ob q _ _ _ => k b ob q, fun b ob q _ _ _ => ⟨ob.slots, k b ob q⟩, fun _ _ _ n _ => n, fun b ob q _ => ⟨ob, k b ob q⟩, fun _ _ q => q, fun _ _ _ q => q, fun _ ps q => ⟨#[], by rw [q]; simp⟩⟩
theorem Un.refl : Un fs ex H H h h := Un.kept fun _ _ q => q
theorem Un.laid (k : ∀ b u, h.get? b = some u → h'.get? b = some u) (hp : h.objs.size ≤ a) (hn : H a = none) : Un fs ex H (upd H a o) h h' where
  keep := fun b u q _ _ _ => k b u q
  slot := fun b u q _ _ _ => ⟨u.slots, k b u q⟩
  free := fun b u q n _ => by rw [upd_ne (Nat.ne_of_lt (Nat.lt_of_lt_of_le (Heap.lt_size q) hp))]; exact n
  there := fun b u q _ => ⟨u, k b u q⟩
  tups := fun b xs q => by rw [upd_ne (ne_of_none q hn)]; exact q
  frzs := fun b u xs q => by rw [upd_ne (ne_of_none q hn)]; exact q
  tbls := fun b ps q => ⟨#[], by rw [upd_ne (ne_of_none q hn), q]; simp⟩
theorem Un.write (mu : Mut (H x)) (he : e = x ∨ H e = some (.own x)) (k : ∀ b u, b ≠ e → h.get? b = some u → h'.get? b = some u) (heo : ∃ u, h'.get? e = some u) : Un fs ex H (upd H x o) h h' := by
  have hx : ∀ b, H b = none → b ≠ x := fun b n z => by subst z; rw [n] at mu; exact mu
  have hb : ∀ b, H b = none → b ≠ e := fun b n z => by
    subst z
    rcases he with r | r
    · exact hx b n r
    · rw [n] at r; cases r
  have hm : ∀ b u, H b = some u → ¬ Mut (some u) → b ≠ x := fun b u q nm z => by subst z; rw [q] at mu; exact nm mu
  refine ⟨fun b u q n _ _ => k b u (hb b n) q, fun b u q n _ _ => ⟨u.slots, k b u (hb b n) q⟩, fun b u q n _ => by rw [upd_ne (hx b n)]; exact n, fun b u q _ => ?_,
    fun b xs q => by rw [upd_ne (hm b _ q fun z => z)]; exact q, fun b u xs q => by rw [upd_ne (hm b _ q fun z => z)]; exact q, fun b ps q => ⟨#[], by rw [upd_ne (hm b _ q fun z => z), q]; simp⟩⟩
  by_cases hbe : b = e
  · subst hbe; exact heo
  · exact ⟨u, k b u hbe q⟩
end
noncomputable def trk (h : Heap) (H : Hp) : List Addr := (List.range h.objs.size).filter fun a => (H a).isSome
noncomputable def hidT (h : Heap) (H : Hp) : Heap := PySem.W.hideAll h (trk h H)
theorem hidT_size (h : Heap) (H : Hp) : (hidT h H).objs.size = h.objs.size := PySem.W.hideAll_size _ _
theorem hidT_get {h : Heap} {H : Hp} {b : Addr} {o : Obj} (e : h.get? b = some o) (n : H b = none) : (hidT h H).get? b = some o :=
  PySem.W.hideAll_get _ e fun hm => by
    have q : (H b).isSome = true := (List.mem_filter.mp hm).2
    rw [n] at q; simp at q
theorem of_hidT {h : Heap} {H : Hp} {b : Addr} {o : Obj} (e : (hidT h H).get? b = some o) : h.get? b = some o ∧ H b = none := by
  have e' : h.get? b = some o := PySem.W.of_hideAll (trk h H) e
  refine ⟨e', ?_⟩
  cases q : H b with
  | none => rfl
  | some x =>
    have hm : b ∈ trk h H := List.mem_filter.mpr ⟨List.mem_range.mpr (Heap.lt_size e'), by simp [q]⟩
    have z : (hidT h H).get? b = none := PySem.W.hideAll_none (trk h H) hm
    rw [z] at e; cases e
noncomputable def allNews (g h : Heap) (L : Addr) : List (Addr × Obj) := (List.range h.objs.size).filterMap fun a => if a = L ∨ (g.get? a).isSome = true then none else (h.get? a).map fun o => (a, o)
noncomputable def rest (g h : Heap) (L d : Addr) : List (Addr × Obj) := (allNews g h L).filter fun p => decide (p.1 ≠ d)
end L2
namespace L2
open PySem PySem.Spec PyProof.Rows
structure Mod (K : PySem.W.Frag) (mg : Str → Option Value) (base : Heap) : Prop where
  kin : K.In base
  glob : base.Ns mainGlobals mg
  blt : ∃ mb, base.Ns builtinsNs mb ∧ ∀ x : Str, x ≠ "__name__" → mb x = bootBuiltins x
  nolimit : base.NoLimit
structure Cx where
  prog : Program
  w : World
  K : PySem.W.Frag
  mg : Str → Option Value
  base : Heap
  A : Around
  N : List Str
  s₀ : Shared
  H₀ : Hp
  env : Env
  outer : List Env
  stack : List Env
  ex : List Addr
  fn : Str → Bool
  calm : Bool
  pn : List (Addr × Obj)
  xe : Value → Shared → Prop
noncomputable def frs (l : List Env) : List Addr := l.filterMap (·.frame)
noncomputable abbrev Cx.fs (X : Cx) : List Addr := frs X.outer
noncomputable def Vis (sc : Scope) (x : Str) : Prop := sc.names.lookup x = some .local ∨ sc.names.lookup x = some .cell ∨ sc.names.lookup x = some .free
noncomputable def Loc (sc : Scope) (x : Str) : Prop := sc.names.lookup x = some .local ∨ sc.names.lookup x = some .cell
noncomputable def Look (env : Env) (h : Heap) (m : Str → Option Value) (x : Str) (u : Value) : Prop :=
  (env.kindOf x = some .local ∧ m x = some u) ∨ ((env.kindOf x = some .cell ∨ env.kindOf x = some .free) ∧ ∃ c, env.cells.lookup x = some c ∧ h.IsCell c (some u))
structure Cx.Ok (X : Cx) : Prop where
  mod : Mod X.K X.mg X.base
  kind : X.env.scope.kind = .function
  glob : X.env.globals = mainGlobals
  blt : X.env.builtins = builtinsNs
  above : X.s₀.heap.objs.size ≤ X.env.locals
  inj : ∀ x y c, X.env.cells.lookup x = some c → X.env.cells.lookup y = some c → x = y
  has : ∀ x, (X.env.kindOf x = some .cell ∨ X.env.kindOf x = some .free) → ∃ c, X.env.cells.lookup x = some c
  cab : ∀ x c, X.fn x = true → X.env.cells.lookup x = some c → X.s₀.heap.objs.size ≤ c
  hd : X.calm = true → X.A.handled = none
  frames : X.A.frames = some X.stack
  stk : X.stack = X.outer ∨ (X.stack = X.env :: X.outer ∧ X.env.frame = some X.env.locals)
  exf : ∀ b ∈ X.ex, b ≠ X.env.locals ∧ ∀ x c, X.env.cells.lookup x = some c → c ≠ b
  bs : ∀ b o, X.base.get? b = some o → X.s₀.heap.get? b = some o ∧ X.H₀ b = none
  bsz : X.base.objs.size ≤ X.s₀.heap.objs.size
  noex : ∀ b o, X.base.get? b = some o → b ∉ X.ex
  exfs : ∀ b ∈ X.ex, b ∉ X.fs
  funs : X.s₀.heap.FunFrames X.base X.outer
  frf : ∀ b ∈ X.fs, X.H₀ b = none
structure Inv (X : Cx) (pins : List (Addr × Obj)) (σ : List (Option V)) (H : Hp) (s : Shared) : Prop where
  ok : X.Ok
  os : s.os = X.s₀.os
  bare : AllBare s.gens
  base : Un X.fs X.ex X.H₀ H X.s₀.heap s.heap
  loc : ∃ m, s.heap.Ns X.env.locals m ∧ ∀ (i : Nat) (x : Str) (v : V), X.N[i]? = some x → σ[i]? = some (some v) → Vis X.env.scope x → ∃ u, RelV v u ∧ Look X.env s.heap m x u
  cell : ∀ x c, X.env.cells.lookup x = some c → ∃ v, s.heap.IsCell c v
  free : H X.env.locals = none
  freeC : ∀ x c, X.env.cells.lookup x = some c → H c = none
  pin : ∀ p ∈ X.pn ++ pins, s.heap.get? p.1 = some p.2 ∧ H p.1 = none ∧ p.1 ≠ X.env.locals ∧ p.1 ∉ X.fs ∧ ∀ v, p.2.data ≠ .cell v
  hok : HOk X.prog X.w H s.heap
  len : σ.length = X.N.length
section
variable {X : Cx} {pins : List (Addr × Obj)} {σ : List (Option V)} {H H' : Hp} {s : Shared} {h' : Heap}
theorem Cx.Ok.nofr (ok : X.Ok) {b : Addr} {o : Obj} (e : X.base.get? b = some o) : b ∉ X.fs := fun hb => by
  have := (ok.funs.mem hb).1
  rw [e] at this; cases this
theorem Inv.bs (I : Inv X pins σ H s) : ∀ b o, X.base.get? b = some o → s.heap.get? b = some o ∧ H b = none := fun b o e =>
  ⟨I.base.keep b o (I.ok.bs b o e).1 (I.ok.bs b o e).2 (I.ok.nofr e) (I.ok.noex b o e), I.base.free b o (I.ok.bs b o e).1 (I.ok.bs b o e).2 (I.ok.noex b o e)⟩
theorem Inv.bk (I : Inv X pins σ H s) : ∀ b o, X.base.get? b = some o → s.heap.get? b = some o := fun b o e => (I.bs b o e).1
theorem Inv.mod (I : Inv X pins σ H s) : Mod X.K X.mg X.base := I.ok.mod
theorem Inv.kIn (I : Inv X pins σ H s) : X.K.In s.heap := I.ok.mod.kin.keeps I.bk
theorem Inv.fr (I : Inv X pins σ H s) : ∃ m, Fr X.base X.env.locals s.heap m :=
  let ⟨m, hn, _⟩ := I.loc
  ⟨m, hn, I.bk, Nat.le_trans I.ok.bsz I.ok.above⟩
theorem Inv.lt (I : Inv X pins σ H s) : X.env.locals < s.heap.objs.size := let ⟨_, hn, _⟩ := I.loc; hn.lt
theorem Inv.sz (I : Inv X pins σ H s) : X.s₀.heap.objs.size ≤ s.heap.objs.size := Nat.le_trans I.ok.above (Nat.le_of_lt I.lt)
theorem Inv.nofs (I : Inv X pins σ H s) {a : Addr} (h : s.heap.objs.size ≤ a) : a ∉ X.fs := fun hb => by
  obtain ⟨_, o, ho, _⟩ := I.ok.funs.mem hb
  exact absurd (Nat.lt_of_lt_of_le (Heap.lt_size ho) (Nat.le_trans I.sz h)) (Nat.lt_irrefl _)
theorem Inv.cne (I : Inv X pins σ H s) : ∀ x c, X.env.cells.lookup x = some c → c ≠ X.env.locals := fun x c e z => by
  obtain ⟨v, o, ho, hd⟩ := I.cell x c e
  obtain ⟨m, ⟨o', es, ep, ho', hd', _⟩, _⟩ := I.loc
  rw [z, ho'] at ho; cases ho; rw [hd'] at hd; cases hd
theorem Inv.funs (I : Inv X pins σ H s) : s.heap.FunFrames X.base X.outer := by
  have all : ∀ (l : List Env), (∀ b ∈ frs l, b ∈ X.fs) → X.s₀.heap.FunFrames X.base l → s.heap.FunFrames X.base l := by
    intro l
    induction l with
    | nil => intro _ _; trivial
    | cons env r ih =>
      intro hs hl
      obtain ⟨hk, ⟨L, o, hf, hn, ho, hd⟩, hr⟩ := hl
      have hL : L ∈ X.fs := hs L (by unfold frs; rw [List.filterMap_cons, hf]; exact List.mem_cons_self)
      obtain ⟨sl, e⟩ := I.base.slot L o ho (I.ok.frf L hL) hL fun z => I.ok.exfs L z hL
      exact ⟨hk, ⟨L, _, hf, hn, e, hd⟩, ih (fun b hb => hs b (by unfold frs; rw [List.filterMap_cons, hf]; exact List.mem_cons_of_mem _ hb)) hr⟩
  exact all X.outer (fun _ hb => hb) I.ok.funs
theorem Inv.stack (I : Inv X pins σ H s) : s.heap.FunFrames X.base X.stack := by
  rcases I.ok.stk with e | ⟨e, hf⟩
  · rw [e]; exact I.funs
  · rw [e]
    obtain ⟨m, hn, _⟩ := I.loc
    refine .cons (by rw [I.ok.kind]; decide) hf hn ?_ I.funs
    exact Heap.get?_none_of_le (Nat.le_trans I.ok.bsz I.ok.above)
theorem Inv.stkSub (I : Inv X pins σ H s) : ∀ b ∈ frs X.stack, b ∈ X.env.locals :: X.fs := fun b hb => by
  rcases I.ok.stk with e | ⟨e, hf⟩
  · rw [e] at hb; exact List.mem_cons_of_mem _ hb
  · rw [e] at hb
    unfold frs at hb
    rw [List.filterMap_cons, hf] at hb
    exact hb
theorem Inv.stkFree (I : Inv X pins σ H s) : ∀ b ∈ frs X.stack, H b = none := fun b hb => by
  rcases List.mem_cons.mp (I.stkSub b hb) with e | hb
  · rw [e]; exact I.free
  · obtain ⟨_, o, ho, _⟩ := I.ok.funs.mem hb
    exact I.base.free b o ho (I.ok.frf b hb) fun z => I.ok.exfs b z hb
theorem Inv.step {g' : Array GenState} {t' : Nat} {d' : Drawn} {ch : List Addr} (I : Inv X pins σ H s)
    (hch : ∀ b ∈ ch, (b ∈ X.ex ∨ X.s₀.heap.objs.size ≤ b) ∧ b ≠ X.env.locals ∧ (∀ x c, X.env.cells.lookup x = some c → c ≠ b) ∧ ∀ p ∈ X.pn ++ pins, p.1 ≠ b)
    (keep : ∀ b o, b ≠ X.env.locals → b ∉ X.fs → b ∉ ch → s.heap.get? b = some o → H b = none → h'.get? b = some o)
    (slot : ∀ b o, b ≠ X.env.locals → b ∈ X.fs → b ∉ ch → s.heap.get? b = some o → H b = none → ∃ sl, h'.get? b = some { o with slots := sl }) (free : ∀ b o, b ∉ ch → s.heap.get? b = some o → H b = none → H' b = none)
    (there : ∀ b o, b ∉ ch → s.heap.get? b = some o → ∃ o', h'.get? b = some o')
    (tups : ∀ b xs, H b = some (.tup xs) → H' b = some (.tup xs)) (frzs : ∀ b o u, H b = some (.frz o u) → H' b = some (.frz o u)) (tbls : ∀ b ps, H b = some (.tbl ps) → ∃ more, H' b = some (.tbl (ps ++ more)))
    (ns : ∀ m, s.heap.Ns X.env.locals m → h'.Ns X.env.locals m) (hok : HOk X.prog X.w H' h') (hg : AllBare g') :
    Inv X pins σ H' { s with heap := h', gens := g', drawn := d', toks := t' } := by
  have neL : ∀ b o, X.s₀.heap.get? b = some o → b ≠ X.env.locals := fun b o e => Nat.ne_of_lt (Nat.lt_of_lt_of_le (Heap.lt_size e) I.ok.above)
  have neC : ∀ b o, X.s₀.heap.get? b = some o → b ∉ X.ex → b ∉ ch := fun b o e hx hb => by
    rcases (hch b hb).1 with z | z
    · exact hx z
    · exact absurd (Nat.lt_of_lt_of_le (Heap.lt_size e) z) (Nat.lt_irrefl _)
  have cellK : ∀ x c, X.env.cells.lookup x = some c → ∀ v, s.heap.IsCell c v → h'.IsCell c v := fun x c e v ⟨o, ho, hd⟩ => by
    have nch : c ∉ ch := fun z => (hch c z).2.2.1 x c e rfl
    by_cases hc : c ∈ X.fs
    · obtain ⟨sl, q⟩ := slot c o (I.cne x c e) hc nch ho (I.freeC x c e)
      exact ⟨_, q, hd⟩
    · exact ⟨o, keep c o (I.cne x c e) hc nch ho (I.freeC x c e), hd⟩
  refine ⟨I.ok, I.os, hg, ⟨fun b o e n hb hx => ?_, fun b o e n hb hx => ?_, fun b o e n hx => ?_, fun b o e hx => ?_, fun b xs e => tups b xs (I.base.tups b xs e), fun b o xs e => frzs b o xs (I.base.frzs b o xs e), fun b ps e => ?_⟩, ?_, fun x c e => ?_, ?_, fun x c e => ?_, fun p hp => ?_, hok, I.len⟩
  · exact keep b o (neL b o e) hb (neC b o e hx) (I.base.keep b o e n hb hx) (I.base.free b o e n hx)
  · obtain ⟨sl, e1⟩ := I.base.slot b o e n hb hx
    obtain ⟨sl', e2⟩ := slot b _ (neL b o e) hb (neC b o e hx) e1 (I.base.free b o e n hx)
    exact ⟨sl', e2⟩
  · obtain ⟨o', e1⟩ := I.base.there b o e hx
    exact free b o' (neC b o e hx) e1 (I.base.free b o e n hx)
  · obtain ⟨o', e1⟩ := I.base.there b o e hx
    exact there b o' (neC b o e hx) e1
  · obtain ⟨m1, e1⟩ := I.base.tbls b ps e
    obtain ⟨m2, e2⟩ := tbls b _ e1
    exact ⟨m1 ++ m2, by rw [e2, Array.append_assoc]⟩
  · obtain ⟨m, hn, hl⟩ := I.loc
    refine ⟨m, ns m hn, fun i x v e1 e2 e3 => ?_⟩
    obtain ⟨u, r, l⟩ := hl i x v e1 e2 e3
    refine ⟨u, r, ?_⟩
    rcases l with l | ⟨k, c, e, z⟩
    · exact .inl l
    · exact .inr ⟨k, c, e, cellK x c e _ z⟩
  · obtain ⟨v, z⟩ := I.cell x c e
    exact ⟨v, cellK x c e v z⟩
  · obtain ⟨m, ⟨o, _, _, ho, _⟩, _⟩ := I.loc
    exact free _ o (fun z => (hch _ z).2.1 rfl) ho I.free
  · obtain ⟨v, o, ho, hd⟩ := I.cell x c e
    exact free c o (fun z => (hch c z).2.2.1 x c e rfl) ho (I.freeC x c e)
  · obtain ⟨e, n, ne, nf, d⟩ := I.pin p hp
    have nch : p.1 ∉ ch := fun z => (hch p.1 z).2.2.2 p hp rfl
    exact ⟨keep p.1 p.2 ne nf nch e n, free p.1 p.2 nch e n, ne, nf, d⟩
theorem Inv.un {t' : Nat} (I : Inv X pins σ H s) (u : Un X.fs [] H H' s.heap h') (hok : HOk X.prog X.w H' h') : Inv X pins σ H' { s with heap := h', toks := t' } := by
  obtain ⟨m, ⟨o, es, ep, ho, r⟩, _⟩ := id I.loc
  obtain ⟨sl, hL⟩ := u.any ho I.free (by simp)
  exact I.step (g' := s.gens) (d' := s.drawn) (ch := []) (fun _ z => nomatch z) (fun b o _ hb _ e n => u.keep b o e n hb (by simp)) (fun b o _ hb _ e n => u.slot b o e n hb (by simp)) (fun b o _ e n => u.free b o e n (by simp)) (fun b o _ e => u.there b o e (by simp)) u.tups u.frzs u.tbls (fun m' hm => by
    obtain ⟨o', es', ep', ho', r'⟩ := hm
    rw [ho] at ho'; cases ho'
    exact ⟨_, es', ep', hL, r'⟩) hok I.bare
theorem Inv.call {g' : Array GenState} {t' : Nat} {d' : Drawn} {ch : List Addr} (I : Inv X pins σ H s) (u : Un (frs X.stack) ch H H' s.heap h') (hok : HOk X.prog X.w H' h') (hg : AllBare g')
    (hch : ∀ b ∈ ch, (b ∈ X.ex ∨ X.s₀.heap.objs.size ≤ b) ∧ b ≠ X.env.locals ∧ (∀ x c, X.env.cells.lookup x = some c → c ≠ b) ∧ ∀ p ∈ X.pn ++ pins, p.1 ≠ b) :
    Inv X pins σ H' { s with heap := h', gens := g', drawn := d', toks := t' } := by
  obtain ⟨m, ⟨o, es, ep, ho, r⟩, _⟩ := id I.loc
  obtain ⟨sl, hL⟩ := u.any ho I.free fun z => (hch _ z).2.1 rfl
  exact I.step (ch := ch) hch (fun b o hL hb hc e n => u.keep b o e n (fun z => (List.mem_cons.mp (I.stkSub b z)).elim hL hb) hc) (fun b o _ _ hc e n => u.any e n hc) (fun b o hc e n => u.free b o e n hc) (fun b o hc e => u.there b o e hc) u.tups u.frzs u.tbls (fun m' hm => by
    obtain ⟨o', es', ep', ho', r'⟩ := hm
    rw [ho] at ho'; cases ho'
    exact ⟨_, es', ep', hL, r'⟩) hok hg
theorem Inv.turned {t' : Nat} {it : Addr} (I : Inv X pins σ H s) (k : ∀ b o, b ≠ it → s.heap.get? b = some o → h'.get? b = some o) (hn : H it = none) (hL : it ≠ X.env.locals)
    (h1 : it ∈ X.ex ∨ X.s₀.heap.objs.size ≤ it) (h2 : ∀ x c, X.env.cells.lookup x = some c → c ≠ it) (h3 : ∀ p ∈ X.pn ++ pins, p.1 ≠ it) : Inv X pins σ H { s with heap := h', toks := t' } := by
  have nit : ∀ b u, H b = some u → b ≠ it := fun b u e z => by rw [z, hn] at e; cases e
  refine I.step (g' := s.gens) (d' := s.drawn) (ch := [it]) (fun b hb => ?_) (fun b o _ _ hc e _ => k b o (fun z => hc (by simp [z])) e) (fun b o _ _ hc e _ => ⟨o.slots, k b o (fun z => hc (by simp [z])) e⟩) (fun _ _ _ _ n => n)
    (fun b o hc e => ⟨o, k b o (fun z => hc (by simp [z])) e⟩) (fun _ _ e => e) (fun _ _ _ e => e) (fun b ps e => ⟨#[], by rw [e]; simp⟩) (fun m hm => ?_) (fun b u e => ?_) I.bare
  · have e : b = it := by simpa using hb
    subst e
    exact ⟨h1, hL, h2, h3⟩
  · obtain ⟨o, es, ep, ho, r⟩ := hm
    exact ⟨o, es, ep, k _ o (Ne.symm hL) ho, r⟩
  · refine (I.hok b u e).stay (fun c v hc q => k c v ?_ q) (fun _ q => q) fun _ _ q => q
    rcases hc with z | z
    · rw [z]; exact nit b u e
    · exact nit c _ z
theorem Inv.tok (I : Inv X pins σ H s) (t : Nat) : Inv X pins σ H { s with toks := t } := I.un (h' := s.heap) (t' := t) Un.refl I.hok
theorem Inv.kept {t' : Nat} (I : Inv X pins σ H s) (k : ∀ b u, s.heap.get? b = some u → h'.get? b = some u) : Inv X pins σ H { s with heap := h', toks := t' } := I.un (Un.kept k) (I.hok.kept k)
theorem Inv.laid {a : Addr} {o : HO} {t' : Nat} (I : Inv X pins σ H s) (k : ∀ b u, s.heap.get? b = some u → h'.get? b = some u) (hp : s.heap.objs.size ≤ a) (new : ObjOk X.prog X.w (upd H a o) h' a o) :
    Inv X pins σ (upd H a o) { s with heap := h', toks := t' } := I.un (Un.laid k hp (I.hok.fresh hp)) (I.hok.laid k hp new)
theorem Inv.write {x e : Addr} {o : HO} {t' : Nat} (I : Inv X pins σ H s) (mu : Mut (H x)) (he : e = x ∨ H e = some (.own x)) (k : ∀ b u, b ≠ e → s.heap.get? b = some u → h'.get? b = some u) (heo : ∃ u, h'.get? e = some u)
    (new : ObjOk X.prog X.w (upd H x o) h' x o) : Inv X pins σ (upd H x o) { s with heap := h', toks := t' } := I.un (Un.write mu he k heo) (I.hok.write mu he k heo new)
theorem Inv.weak {σ' : List (Option V)} (I : Inv X pins σ H s) (hl : σ'.length = σ.length) (w : ∀ (i : Nat) v, σ'[i]? = some (some v) → σ[i]? = some (some v)) : Inv X pins σ' H s :=
  ⟨I.ok, I.os, I.bare, I.base, let ⟨m, hn, hl'⟩ := I.loc; ⟨m, hn, fun i x v e1 e2 e3 => hl' i x v e1 (w i v e2) e3⟩, I.cell, I.free, I.freeC, I.pin, I.hok, hl.trans I.len⟩
theorem Inv.pins_of {pins' : List (Addr × Obj)} (I : Inv X pins σ H s) (h : ∀ p ∈ pins', s.heap.get? p.1 = some p.2 ∧ H p.1 = none ∧ p.1 ≠ X.env.locals ∧ p.1 ∉ X.fs ∧ ∀ v, p.2.data ≠ .cell v) : Inv X pins' σ H s :=
  ⟨I.ok, I.os, I.bare, I.base, I.loc, I.cell, I.free, I.freeC, fun p hp => (List.mem_append.mp hp).elim (fun z => I.pin p (List.mem_append_left _ z)) (h p), I.hok, I.len⟩
theorem nodup_ix {N : List Str} (hN : N.Nodup) {i j : Nat} {x : Str} (a : N[i]? = some x) (b : N[j]? = some x) : i = j := by
  obtain ⟨h1, e1⟩ := List.getElem?_eq_some_iff.mp a
  obtain ⟨h2, e2⟩ := List.getElem?_eq_some_iff.mp b
  exact (List.getElem_inj hN).mp (e1.trans e2.symm)
theorem store_ok2 {M : Model} {A : Around} {E : Value → Shared → Prop} {i : Nat} {x : Str} {v : V} {u : Value} {Q : Unit → Shared → Prop} (I : Inv X pins σ H s) (hN : X.N.Nodup) (hi : X.N[i]? = some x) (hx : Loc X.env.scope x) (r : RelV v u)
    (h : ∀ s', Inv X pins (σ.set i (some v)) H s' → (∃ a, Heap.SameBut a s.heap s'.heap ∧ (a = X.env.locals ∨ X.env.cells.lookup x = some a)) → Q () s') (hf : X.fn x = true ∨ X.env.scope.names.lookup x = some .local := by first | exact .inl rfl | exact .inr rfl | assumption) : wpAny M A (storeName X.env x u) Q E s := by
  obtain ⟨m, hn, hl⟩ := id I.loc
  have hcls : (X.env.scope.kind == .class || (X.env.scope.kind == .module && X.env.locals != X.env.globals)) = false := by rw [I.ok.kind]; rfl
  have hiσ : i < σ.length := by rw [I.len]; exact (List.getElem?_eq_some_iff.mp hi).1
  have cne := I.cne
  have tracked : ∀ {a : Addr} {h' : Heap}, (∃ o, s.heap.get? a = some o ∧ H a = none) → Heap.SameBut a s.heap h' → HOk X.prog X.w H h' := fun {a h'} ha hs b ob e => by
    obtain ⟨_, _, hfree⟩ := ha
    refine (I.hok b ob e).stay (fun c w' hc q => (hs.2 c ?_).trans q) (fun _ q => q) fun _ _ q => q
    rintro rfl
    rcases hc with rfl | hc
    · rw [hfree] at e; cases e
    · rw [hfree] at hc; cases hc
  rcases hx with hk | hk
  · refine wpAny_storeName_local hk hn (fun h' hn' hs => ?_) hcls
    obtain ⟨oL, _, _, hoL, _⟩ := id hn
    refine h _ ⟨I.ok, I.os, I.bare, ⟨fun b o e n hb hx => ?_, fun b o e n hb hx => ?_, I.base.free, fun b o e hx => ?_, I.base.tups, I.base.frzs, I.base.tbls⟩, ⟨_, hn', fun j y v' e1 e2 e3 => ?_⟩, fun y c e => ?_, I.free, I.freeC, fun p hp => ?_, tracked ⟨oL, hoL, I.free⟩ hs, by simpa using I.len⟩ ⟨_, hs, .inl rfl⟩
    · exact (hs.2 b (Nat.ne_of_lt (Nat.lt_of_lt_of_le (Heap.lt_size e) I.ok.above))).trans (I.base.keep b o e n hb hx)
    · obtain ⟨sl, e1⟩ := I.base.slot b o e n hb hx
      exact ⟨sl, (hs.2 b (Nat.ne_of_lt (Nat.lt_of_lt_of_le (Heap.lt_size e) I.ok.above))).trans e1⟩
    · obtain ⟨o', e1⟩ := I.base.there b o e hx
      exact ⟨o', (hs.2 b (Nat.ne_of_lt (Nat.lt_of_lt_of_le (Heap.lt_size e) I.ok.above))).trans e1⟩
    · by_cases hj : j = i
      · subst hj
        rw [hi] at e1; cases e1
        rw [List.getElem?_set_self hiσ] at e2
        cases e2
        exact ⟨u, r, .inl ⟨hk, by simp⟩⟩
      · rw [List.getElem?_set_ne (Ne.symm hj)] at e2
        obtain ⟨u', r', q⟩ := hl j y v' e1 e2 e3
        refine ⟨u', r', ?_⟩
        rcases q with ⟨k, e⟩ | ⟨k, c, e, z⟩
        · refine .inl ⟨k, ?_⟩
          have : y ≠ x := fun e => hj (nodup_ix hN e1 (e ▸ hi))
          simp [this, e]
        · exact .inr ⟨k, c, e, z.sameBut hs (cne y c e)⟩
    · obtain ⟨w', z⟩ := I.cell y c e
      exact ⟨w', z.sameBut hs (cne y c e)⟩
    · obtain ⟨e, n, ne, nf, d⟩ := I.pin p hp
      exact ⟨(hs.2 p.1 ne).trans e, n, ne, nf, d⟩
  · have hfn : X.fn x = true := by
      rcases hf with z | z
      · exact z
      · rw [z] at hk; cases hk
    obtain ⟨c, hc⟩ := I.ok.has x (.inl hk)
    obtain ⟨w', z⟩ := I.cell x c hc
    refine wpAny_storeName_cell I.ok.kind hk hc z (fun h' hc' hs => ?_)
    obtain ⟨oc, hoc, hocd⟩ := id z
    refine h { s with heap := h' } ⟨I.ok, I.os, I.bare, ⟨fun b o e n hb hx => ?_, fun b o e n hb hx => ?_, I.base.free, fun b o e hx => ?_, I.base.tups, I.base.frzs, I.base.tbls⟩, ⟨m, hn.sameBut hs (Ne.symm (cne x c hc)), fun j y v' e1 e2 e3 => ?_⟩, fun y c' e => ?_, I.free, I.freeC, fun p hp => ?_, tracked ⟨oc, hoc, I.freeC x c hc⟩ hs, by simpa using I.len⟩ ⟨c, hs, .inr hc⟩
    · exact (hs.2 b (Nat.ne_of_lt (Nat.lt_of_lt_of_le (Heap.lt_size e) (I.ok.cab x c hfn hc)))).trans (I.base.keep b o e n hb hx)
    · obtain ⟨sl, e1⟩ := I.base.slot b o e n hb hx
      exact ⟨sl, (hs.2 b (Nat.ne_of_lt (Nat.lt_of_lt_of_le (Heap.lt_size e) (I.ok.cab x c hfn hc)))).trans e1⟩
    · obtain ⟨o', e1⟩ := I.base.there b o e hx
      exact ⟨o', (hs.2 b (Nat.ne_of_lt (Nat.lt_of_lt_of_le (Heap.lt_size e) (I.ok.cab x c hfn hc)))).trans e1⟩
    · by_cases hj : j = i
      · subst hj
        rw [hi] at e1; cases e1
        rw [List.getElem?_set_self hiσ] at e2
        cases e2
        exact ⟨u, r, .inr ⟨.inl hk, c, hc, hc'⟩⟩
      · rw [List.getElem?_set_ne (Ne.symm hj)] at e2
        obtain ⟨u', r', q⟩ := hl j y v' e1 e2 e3
        refine ⟨u', r', ?_⟩
        rcases q with q | ⟨k, c', e, z'⟩
        · exact .inl q
        · refine .inr ⟨k, c', e, z'.sameBut hs ?_⟩
          rintro rfl
          exact hj (nodup_ix hN e1 (I.ok.inj _ _ _ e hc ▸ hi))
    · by_cases hcc : c' = c
      · subst hcc; exact ⟨_, hc'⟩
      · obtain ⟨w2, z2⟩ := I.cell y c' e
        exact ⟨w2, z2.sameBut hs hcc⟩
    · obtain ⟨e, n, ne, nf, d⟩ := I.pin p hp
      refine ⟨(hs.2 p.1 ?_).trans e, n, ne, nf, d⟩
      intro q
      rw [q, hoc] at e
      have q' : oc = p.2 := Option.some.inj e
      exact d w' (by rw [← q']; exact hocd)
theorem store_ok {M : Model} {A : Around} {E : Value → Shared → Prop} {i : Nat} {x : Str} {v : V} {u : Value} {Q : Unit → Shared → Prop} (I : Inv X pins σ H s) (hN : X.N.Nodup) (hi : X.N[i]? = some x) (hx : Loc X.env.scope x) (r : RelV v u)
    (h : ∀ s', Inv X pins (σ.set i (some v)) H s' → Q () s') (hf : X.fn x = true ∨ X.env.scope.names.lookup x = some .local := by first | exact .inl rfl | exact .inr rfl | assumption) : wpAny M A (storeName X.env x u) Q E s :=
  store_ok2 I hN hi hx r (fun s' I' _ => h s' I') hf
theorem Inv.call' {s' : Shared} {ch : List Addr} (I : Inv X pins σ H s) (ho : s'.os = s.os) (u : Un (frs X.stack) ch H H' s.heap s'.heap) (hok : HOk X.prog X.w H' s'.heap) (hg : AllBare s'.gens)
    (hch : ∀ b ∈ ch, (b ∈ X.ex ∨ X.s₀.heap.objs.size ≤ b) ∧ b ≠ X.env.locals ∧ (∀ x c, X.env.cells.lookup x = some c → c ≠ b) ∧ ∀ p ∈ X.pn ++ pins, p.1 ≠ b) : Inv X pins σ H' s' := by
  obtain ⟨h', g', d', t', o'⟩ := s'
  have e : o' = s.os := ho
  subst e
  exact I.call (g' := g') (t' := t') (d' := d') u hok hg hch
end
noncomputable abbrev XK := Value → Option Addr → Hp → Prop
noncomputable abbrev St := List (Option V)
noncomputable abbrev VK := V → Hp → Prop
noncomputable abbrev TE := St → Hp → VK → Prop
noncomputable abbrev TT := St → Hp → (Bool → Hp → Prop) → Prop
noncomputable abbrev TA := St → Hp → (List V → Hp → Prop) → Prop
structure Ends where
  nx : St → Hp → Prop
  rt : VK
  bk : St → Hp → Prop := fun _ _ => False
  ct : St → Hp → Prop := fun _ _ => False
noncomputable abbrev TS := Ends → St → Hp → Prop
noncomputable def EP (X : Cx) (pins : List (Addr × Obj)) (σ : St) (Q : VK) (u : Value) (s' : Shared) : Prop := ∃ v H', Inv X pins σ H' s' ∧ RelV v u ∧ Q v H'
noncomputable def TP (X : Cx) (pins : List (Addr × Obj)) (σ : St) (Q : Bool → Hp → Prop) (b : Bool) (s' : Shared) : Prop := ∃ H', Inv X pins σ H' s' ∧ Q b H'
noncomputable def AP (X : Cx) (pins : List (Addr × Obj)) (σ : St) (Q : List V → Hp → Prop) (us : List Value) (s' : Shared) : Prop := ∃ vs H', Inv X pins σ H' s' ∧ Vals vs us ∧ Q vs H'
noncomputable def SP (X : Cx) (pins : List (Addr × Obj)) (D : Ends) (f : Flow) (s' : Shared) : Prop :=
  match f with
  | .next => ∃ σ' H', Inv X pins σ' H' s' ∧ D.nx σ' H'
  | .brk => ∃ σ' H', Inv X pins σ' H' s' ∧ D.bk σ' H'
  | .cont => ∃ σ' H', Inv X pins σ' H' s' ∧ D.ct σ' H'
  | .ret u => ∃ v σ' H', Inv X pins σ' H' s' ∧ RelV v u ∧ D.rt v H'
noncomputable def PE (X : Cx) (e : Expr) (t : TE) : Prop :=
  ∀ (pins : List (Addr × Obj)) (s : Shared) (σ : St) (H : Hp) (Q : VK), Inv X pins σ H s → t σ H Q → wpAny (model X.prog X.w) X.A (eval e X.env) (EP X pins σ Q) X.xe s
noncomputable def PT (X : Cx) (e : Expr) (t : TT) : Prop :=
  ∀ (pins : List (Addr × Obj)) (s : Shared) (σ : St) (H : Hp) (Q : Bool → Hp → Prop), Inv X pins σ H s → t σ H Q → wpAny (model X.prog X.w) X.A (isTrue e X.env (eval e X.env)) (TP X pins σ Q) X.xe s
noncomputable def PW (X : Cx) (e : Expr) (t : TT) : Prop :=
  ∀ (whole : Sem Value) (pins : List (Addr × Obj)) (s : Shared) (σ : St) (H : Hp) (Q : Bool → Hp → Prop), Inv X pins σ H s → t σ H Q → wpAny (model X.prog X.w) X.A (isTrue e X.env whole) (TP X pins σ Q) X.xe s
theorem PW.pt {X : Cx} {e : Expr} {t : TT} (h : PW X e t) : PT X e t := h _
noncomputable def PA (X : Cx) (es : List Expr) (t : TA) : Prop :=
  ∀ (pos : Pos) (pins : List (Addr × Obj)) (s : Shared) (σ : St) (H : Hp) (Q : List V → Hp → Prop), Inv X pins σ H s → t σ H Q → wpAny (model X.prog X.w) X.A (spliced (backTo pos (starEach es X.env))) (AP X pins σ Q) X.xe s
noncomputable def PS (X : Cx) (st : Stmt) (t : TS) : Prop :=
  ∀ (pins : List (Addr × Obj)) (s : Shared) (σ : St) (H : Hp) (D : Ends), Inv X pins σ H s → t D σ H → wpAny (model X.prog X.w) X.A (exec st X.env) (SP X pins D) X.xe s
noncomputable def PSs (X : Cx) (st : List Stmt) (t : TS) : Prop :=
  ∀ (pins : List (Addr × Obj)) (s : Shared) (σ : St) (H : Hp) (D : Ends), Inv X pins σ H s → t D σ H → wpAny (model X.prog X.w) X.A (execs st X.env) (SP X pins D) X.xe s
theorem thn {α : Type} {t : Sem α} {Q Q' : α → Shared → Prop} {M : Model} {A : Around} {E : Value → Shared → Prop} {s : Shared} (h : wpAny M A t Q E s) (hQ : ∀ a s, Q a s → Q' a s) : wpAny M A t Q' E s := wpAny_mono h hQ fun _ _ x => x
end L2
namespace L2
open PySem PySem.Spec PyProof.Rows
section
variable {X : Cx}
noncomputable def tVar (i : Nat) : TE := fun σ H Q => ∃ v, σ[i]? = some (some v) ∧ Q v H
noncomputable def tC (v : V) : TE := fun _ H Q => Q v H
theorem pe_var {i : Nat} {x : Str} {pos : Pos} (hN : X.N[i]? = some x) (hv : Vis X.env.scope x) (hd : (x == ("__debug__" : Str)) = false := by decide) (hcd : (x == ("__classdict__" : Str)) = false := by decide) : PE X (.Name x pos) (tVar i) := by
  intro pins s σ H Q I h
  obtain ⟨v, e, h⟩ := h
  obtain ⟨m, hn, hl⟩ := I.loc
  obtain ⟨u, r, l⟩ := hl i x v hN e hv
  have fin : EP X pins σ Q u s := ⟨v, H, I, r, h⟩
  rcases l with ⟨hk, hm⟩ | ⟨hk, c, hc, hcell⟩
  · exact wpAny_Name (wpAny_loadName_local I.ok.kind hk hn hm fin) hd
  · rcases hk with hk | hk
    · exact wpAny_Name (wpAny_loadName_cell I.ok.kind hk hc hcell fin) hd
    · exact wpAny_Name (wpAny_loadName_free I.ok.kind hk hc hcell fin hcd) hd
theorem pe_int {i j pos} : PE X (.Constant (.int i) j pos) (tC (.int i)) := fun _ _ _ H _ I h => wpAny_Constant_int ⟨.int i, H, I.tok _, ⟨_, rfl⟩, h⟩
theorem pe_bl {b j pos} : PE X (.Constant (.bool b) j pos) (tC (.bl b)) := fun _ _ _ H _ I h => Constant_bool ⟨.bl b, H, I, rfl, h⟩
theorem pe_non {j pos} : PE X (.Constant .none j pos) (tC .non) := fun _ _ _ H _ I h => Constant_none ⟨.non, H, I, rfl, h⟩
theorem pe_str {x j pos} : PE X (.Constant (.str x) j pos) (tC (.str x)) := fun _ _ _ H _ I h => Calls.Constant_str ⟨.str x, H, I.tok _, ⟨_, rfl⟩, h⟩
noncomputable def Gl (X : Cx) (x : Str) : Prop := X.env.kindOf x = some .globalImplicit
theorem ld_glob {E : Value → Shared → Prop} {pins : List (Addr × Obj)} {s : Shared} {σ : St} {H : Hp} {x : Str} {u : Value} {pos : Pos} {Q : Value → Shared → Prop} (I : Inv X pins σ H s) (hg : Gl X x) (hm : X.mg x = some u) (h : Q u s)
    (hd : (x == ("__debug__" : Str)) = false := by decide) : wpAny (model X.prog X.w) X.A (eval (.Name x pos) X.env) Q E s :=
  Calls.Name_function_global I.ok.kind hg (Calls.loadGlobal_global (by rw [I.ok.glob]; exact I.mod.glob.keeps I.bk) hm h) hd
theorem ld_blt {E : Value → Shared → Prop} {pins : List (Addr × Obj)} {s : Shared} {σ : St} {H : Hp} {x : Str} {u : Value} {pos : Pos} {Q : Value → Shared → Prop} (I : Inv X pins σ H s) (hg : Gl X x) (hm : X.mg x = none) (hv : bootBuiltins x = some u) (h : Q u s)
    (hn : x ≠ "__name__" := by decide) (hd : (x == ("__debug__" : Str)) = false := by decide) : wpAny (model X.prog X.w) X.A (eval (.Name x pos) X.env) Q E s := by
  obtain ⟨mb, h1, h2⟩ := I.mod.blt
  exact Calls.Name_function_global I.ok.kind hg (Calls.loadGlobal_builtin (by rw [I.ok.glob]; exact I.mod.glob.keeps I.bk) hm (by rw [I.ok.blt]; exact h1.keeps I.bk) ((h2 x hn).trans hv) h) hd
theorem pe_glob {x : Str} {v : V} {u : Value} {pos : Pos} (hg : Gl X x) (hm : X.mg x = some u) (r : RelV v u) (hd : (x == ("__debug__" : Str)) = false := by decide) : PE X (.Name x pos) (tC v) :=
  fun _ _ _ H _ I h => ld_glob I hg hm ⟨v, H, I, r, h⟩ hd
theorem pe_bltn {x : Str} {v : V} {u : Value} {pos : Pos} (hg : Gl X x) (hm : X.mg x = none) (hv : bootBuiltins x = some u) (r : RelV v u) (hn : x ≠ "__name__" := by decide) (hd : (x == ("__debug__" : Str)) = false := by decide) : PE X (.Name x pos) (tC v) :=
  fun _ _ _ H _ I h => ld_blt I hg hm hv ⟨v, H, I, r, h⟩ hn hd
variable {a b : Expr} {ta tb : TE} {pos : Pos}
noncomputable def PC (X : Cx) (op : CmpOp) (a b : Expr) (t : TE) : Prop :=
  ∀ (pins : List (Addr × Obj)) (s : Shared) (σ : St) (H : Hp) (Q : VK), Inv X pins σ H s → t σ H Q →
    wpAny (model X.prog X.w) X.A (eval a X.env) (fun v s₁ => wpAny (model X.prog X.w) X.A (eval b X.env) (fun u s₂ => wpAny (model X.prog X.w) X.A (compareOp op v u) (EP X pins σ Q) X.xe s₂) X.xe s₁) X.xe s
noncomputable def tB (t : TE) : TT := fun σ H Q => t σ H fun x H1 => ∃ c, x = .bl c ∧ Q c H1
theorem pe_cmp {op : CmpOp} {t : TE} (h : PC X op a b t) (h1 : behindInMarks op b = false := by first | exact nobehind _ (by decide) (by decide) | rfl) : PE X (.Compare a [op] [b] pos) t := fun pins s σ H Q I hw => wpAny_Compare1 (h pins s σ H Q I hw) h1
theorem pt_val {e : Expr} {t : TE} (h : PE X e t) (he : ∀ whole, isTrue e X.env whole = (do let v ← whole; standAt e.pos; holding [v] (truthy v)) := by intro _; rfl) : PT X e (tB t) := by
  intro pins s σ H Q I hw
  refine isTrue_plain (thn (h pins s σ H _ I hw) fun v s1 ⟨x, H1, I1, r1, q1⟩ => ?_) (he _)
  obtain ⟨d, rfl, q⟩ := q1
  cases r1
  exact wpAny_truthy_bool ⟨H1, I1, q⟩
variable {tA tB' : TT} {rest : List Expr}
noncomputable def tAnd (t u : TT) : TT := fun σ H Q => t σ H fun c H1 => if c = true then u σ H1 Q else Q false H1
noncomputable def tOr (t u : TT) : TT := fun σ H Q => t σ H fun c H1 => if c = true then Q true H1 else u σ H1 Q
noncomputable def tNot (t : TT) : TT := fun σ H Q => t σ H fun c H1 => Q (!c) H1
theorem pw_and1 (ha : PT X a tA) : PW X (.BoolOp .And [a] pos) tA := by
  intro wh pins s σ H Q I h
  refine isTrue_and (thn (ha pins s σ H Q I h) fun c s1 e => ?_)
  cases c with
  | true => exact isTrue_and_nil e
  | false => exact e
theorem pw_or1 (ha : PT X a tA) : PW X (.BoolOp .Or [a] pos) tA := by
  intro wh pins s σ H Q I h
  refine isTrue_or (thn (ha pins s σ H Q I h) fun c s1 e => ?_)
  cases c with
  | false => exact isTrue_or_nil e
  | true => exact e
theorem pw_and (ha : PT X a tA) (hb : PW X (.BoolOp .And (b :: rest) pos) tB') : PW X (.BoolOp .And (a :: b :: rest) pos) (tAnd tA tB') := by
  intro wh pins s σ H Q I h
  refine isTrue_and (thn (ha pins s σ H _ I h) fun c s1 ⟨H1, I1, q1⟩ => ?_)
  cases c with
  | true => exact hb wh pins s1 σ H1 Q I1 q1
  | false => exact ⟨H1, I1, q1⟩
theorem pw_or (ha : PT X a tA) (hb : PW X (.BoolOp .Or (b :: rest) pos) tB') : PW X (.BoolOp .Or (a :: b :: rest) pos) (tOr tA tB') := by
  intro wh pins s σ H Q I h
  refine isTrue_or (thn (ha pins s σ H _ I h) fun c s1 ⟨H1, I1, q1⟩ => ?_)
  cases c with
  | true => exact ⟨H1, I1, q1⟩
  | false => exact hb wh pins s1 σ H1 Q I1 q1
theorem pt_not (ha : PT X a tA) : PT X (.UnaryOp .Not a pos) (tNot tA) := by
  intro pins s σ H Q I h
  exact isTrue_not (ha pins s σ H (fun c H1 => Q (!c) H1) I h)
noncomputable def tAndV (ta tb : TE) : TE := fun σ H Q => ta σ H fun x H1 => ∃ c, x = .bl c ∧ if c = true then tb σ H1 Q else Q (.bl false) H1
noncomputable def tOrV (ta tb : TE) : TE := fun σ H Q => ta σ H fun x H1 => ∃ c, x = .bl c ∧ if c = true then Q (.bl true) H1 else tb σ H1 Q
noncomputable def tNotV (ta : TE) : TE := fun σ H Q => ta σ H fun x H1 => ∃ c, x = .bl c ∧ Q (.bl (!c)) H1
theorem pe_one {op} {t : TE} (h : PE X a t) : PE X (.BoolOp op [a] pos) t := fun pins s σ H Q I hw => BoolOp_one (h pins s σ H Q I hw)
theorem pe_and (ha : PE X a ta) (hb : PE X (.BoolOp .And (b :: rest) pos) tb) : PE X (.BoolOp .And (a :: b :: rest) pos) (tAndV ta tb) := by
  intro pins s σ H Q I h
  refine BoolOp_and (thn (ha pins s σ H _ I h) fun v s1 ⟨x, H1, I1, r1, q1⟩ => ?_)
  obtain ⟨c, rfl, q1⟩ := q1
  cases r1
  refine wpAny_truthy_bool ?_
  cases c with
  | true => exact hb pins s1 σ H1 Q I1 q1
  | false => exact ⟨.bl false, H1, I1, rfl, q1⟩
theorem pe_or (ha : PE X a ta) (hb : PE X (.BoolOp .Or (b :: rest) pos) tb) : PE X (.BoolOp .Or (a :: b :: rest) pos) (tOrV ta tb) := by
  intro pins s σ H Q I h
  refine BoolOp_or (thn (ha pins s σ H _ I h) fun v s1 ⟨x, H1, I1, r1, q1⟩ => ?_)
  obtain ⟨c, rfl, q1⟩ := q1
  cases r1
  refine wpAny_truthy_bool ?_
  cases c with
  | false => exact hb pins s1 σ H1 Q I1 q1
  | true => exact ⟨.bl true, H1, I1, rfl, q1⟩
theorem pe_not (ha : PE X a ta) : PE X (.UnaryOp .Not a pos) (tNotV ta) := by
  intro pins s σ H Q I h
  refine UnaryOp_ (thn (ha pins s σ H _ I h) fun v s1 ⟨x, H1, I1, r1, q1⟩ => ?_)
  obtain ⟨c, rfl, q1⟩ := q1
  cases r1
  exact not_of (wpAny_truthy_bool ⟨.bl (!c), H1, I1, rfl, q1⟩)
end
end L2
namespace L2
open PySem PySem.Spec PyProof.Rows
noncomputable def SqL (K : PySem.W.Frag) (H : Hp) (a : Addr) (xs : List V) : Prop :=
  Rd H a (.lst xs) ∨
    ∃ (o : Obj) (its : Array Value) (n : Nat), K.lookup a = some o ∧ o.cls = .type "list" ∧ o.dict = none ∧ o.data = .seq its n ∧ its.size ≤ sizeLine ∧ Vals xs its.toList
noncomputable def SqT (K : PySem.W.Frag) (H : Hp) (a : Addr) (xs : List V) : Prop :=
  Rd H a (.tup xs) ∨
    ∃ (o : Obj) (its : Array Value) (n : Nat), K.lookup a = some o ∧ o.cls = .type "tuple" ∧ o.data = .seq its n ∧ its.size ≤ sizeLine ∧ Vals xs its.toList
noncomputable def absV : Value → Option V
  | .none => some .non
  | .bool b => some (.bl b)
  | .int i _ => some (.int i)
  | .str x _ => some (.str x)
  | .bytes b _ => some (.byt b)
  | .float b _ => some (.flt b)
  | .ref a => some (.ref a)
  | .type n => some (.ty n)
  | _ => none
theorem RelV.abs {x : V} {u : Value} (r : RelV x u) : absV u = some x := by
  cases x with
  | non => cases r; rfl
  | bl _ => cases r; rfl
  | int _ => obtain ⟨t, rfl⟩ := r; rfl
  | str _ => obtain ⟨t, rfl⟩ := r; rfl
  | byt _ => obtain ⟨t, rfl⟩ := r; rfl
  | flt _ => obtain ⟨t, rfl⟩ := r; rfl
  | ref _ => cases r; rfl
  | ty _ => cases r; rfl
theorem RelV.inj {x y : V} {u : Value} (r : RelV x u) (q : RelV y u) : x = y := Option.some.inj (r.abs.symm.trans q.abs)
theorem Vals.inj : ∀ {xs ys : List V} {us : List Value}, Vals xs us → Vals ys us → xs = ys
  | _, _, _, .nil, .nil => rfl
  | _, _, _, .cons r t, .cons r' t' => by rw [r.inj r', Vals.inj t t']
section
variable {X : Cx} {pins : List (Addr × Obj)} {σ : St} {H : Hp} {s : Shared} {a : Addr} {xs ys : List V}
theorem SqL.of {K : PySem.W.Frag} (h : H a = some (.lst xs)) : SqL K H a xs := .inl (.inl h)
theorem SqT.of {K : PySem.W.Frag} (h : H a = some (.tup xs)) : SqT K H a xs := .inl (.inl h)
theorem Inv.list (I : Inv X pins σ H s) (h : SqL X.K H a xs) : ∃ its : List Value, Vals xs its ∧ PlainL s.heap a its.toArray ∧ xs.length ≤ sizeLine := by
  rcases h with h | ⟨o, its, n, hk, hc, hd, hs, hz, r⟩
  · obtain ⟨z, its, n, r, e⟩ := h.ok I.hok
    exact ⟨its, r, ⟨_, n, e, rfl, rfl, rfl⟩, z⟩
  · refine ⟨its.toList, r, ⟨o, n, I.kIn a o hk, hc, hd, by simpa using hs⟩, ?_⟩
    have e := r.length
    simp only [Array.length_toList] at e
    omega
theorem Inv.tuple (I : Inv X pins σ H s) (h : SqT X.K H a xs) : ∃ its : List Value, Vals xs its ∧ IsTup s.heap a its.toArray ∧ xs.length ≤ sizeLine := by
  rcases h with h | ⟨o, its, n, hk, hc, hs, hz, r⟩
  · obtain ⟨z, its, r, p⟩ := h.ok I.hok
    exact ⟨its, r, p, z⟩
  · refine ⟨its.toList, r, ⟨o, I.kIn a o hk, hc, n, by simpa using hs⟩, ?_⟩
    have e := r.length
    simp only [Array.length_toList] at e
    omega
theorem Inv.list_inj (I : Inv X pins σ H s) (h : SqL X.K H a xs) (h' : SqL X.K H a ys) : xs = ys := by
  obtain ⟨its, r, ⟨o, n, e, _, _, d⟩, _⟩ := I.list h
  obtain ⟨its', r', ⟨o', n', e', _, _, d'⟩, _⟩ := I.list h'
  rw [e] at e'; cases e'
  rw [d] at d'
  injection d' with d1 _
  have : its = its' := by simpa using congrArg Array.toList d1
  subst this
  exact r.inj r'
theorem Inv.tuple_inj (I : Inv X pins σ H s) (h : SqT X.K H a xs) (h' : SqT X.K H a ys) : xs = ys := by
  obtain ⟨its, r, ⟨o, e, _, n, d⟩, _⟩ := I.tuple h
  obtain ⟨its', r', ⟨o', e', _, n', d'⟩, _⟩ := I.tuple h'
  rw [e] at e'; cases e'
  rw [d] at d'
  injection d' with d1 _
  have : its = its' := by simpa using congrArg Array.toList d1
  subst this
  exact r.inj r'
end
noncomputable abbrev Cx.wish (X : Cx) (E : Value → Shared → Prop) : Cx := { X with xe := E }
noncomputable abbrev Cx.nox (X : Cx) : Cx := X.wish fun _ _ => False
theorem Cx.Ok.wish {X : Cx} (ok : X.Ok) (E : Value → Shared → Prop) : (X.wish E).Ok :=
  ⟨ok.mod, ok.kind, ok.glob, ok.blt, ok.above, ok.inj, ok.has, ok.cab, ok.hd, ok.frames, ok.stk, ok.exf, ok.bs, ok.bsz, ok.noex, ok.exfs, ok.funs, ok.frf⟩
theorem Cx.Ok.unwish {X : Cx} {E : Value → Shared → Prop} (ok : (X.wish E).Ok) : X.Ok :=
  ⟨ok.mod, ok.kind, ok.glob, ok.blt, ok.above, ok.inj, ok.has, ok.cab, ok.hd, ok.frames, ok.stk, ok.exf, ok.bs, ok.bsz, ok.noex, ok.exfs, ok.funs, ok.frf⟩
section
variable {X : Cx} {pins : List (Addr × Obj)} {σ : St} {H : Hp} {s : Shared} {E : Value → Shared → Prop}
theorem Inv.wish (I : Inv X pins σ H s) (E : Value → Shared → Prop) : Inv (X.wish E) pins σ H s := ⟨I.ok.wish E, I.os, I.bare, I.base, I.loc, I.cell, I.free, I.freeC, I.pin, I.hok, I.len⟩
theorem Inv.unwish (I : Inv (X.wish E) pins σ H s) : Inv X pins σ H s := ⟨I.ok.unwish, I.os, I.bare, I.base, I.loc, I.cell, I.free, I.freeC, I.pin, I.hok, I.len⟩
theorem SP.unwish {D : Ends} {f : Flow} {s' : Shared} (h : SP (X.wish E) pins D f s') : SP X pins D f s' := by
  cases f with
  | next => obtain ⟨σ', H', I, q⟩ := h; exact ⟨σ', H', I.unwish, q⟩
  | brk => obtain ⟨σ', H', I, q⟩ := h; exact ⟨σ', H', I.unwish, q⟩
  | cont => obtain ⟨σ', H', I, q⟩ := h; exact ⟨σ', H', I.unwish, q⟩
  | ret u => obtain ⟨v, σ', H', I, r, q⟩ := h; exact ⟨v, σ', H', I.unwish, r, q⟩
theorem PSs.nox {st : List Stmt} {t : TS} (h : PSs X.nox st t) : PSs X st t := fun pins s σ H D I hw =>
  wpAny_mono (h pins s σ H D (I.wish _) hw) (fun _ _ q => q.unwish) fun _ _ z => False.elim z
end
section
variable {X : Cx} {st : Stmt} {rest : List Stmt} {t u : TS} {e : Expr} {te : TE} {pos : Pos}
noncomputable def tNext : TS := fun D σ H => D.nx σ H
noncomputable def tSeq (t u : TS) : TS := fun D σ H => t { D with nx := u D } σ H
theorem pss_nil : PSs X [] tNext := fun _ _ σ H _ I h => wpAny_execs_nil ⟨σ, H, I, h⟩
theorem pss_cons (h1 : PS X st t) (h2 : PSs X rest u) : PSs X (st :: rest) (tSeq t u) := by
  intro pins s σ H D I h
  refine wpAny_execs_cons (thn (h1 pins s σ H { D with nx := u D } I h) fun f s1 q => ?_)
  cases f with
  | next =>
    obtain ⟨σ', H', I', q⟩ := q
    exact h2 pins s1 σ' H' D I' q
  | ret v => exact q
  | brk => exact q
  | cont => exact q
theorem pss_one (h1 : PS X st t) : PSs X [st] t := by
  intro pins s σ H D I h
  refine wpAny_execs_cons (thn (h1 pins s σ H D I h) fun f s1 q => ?_)
  cases f with
  | next => exact wpAny_execs_nil q
  | ret v => exact q
  | brk => exact q
  | cont => exact q
theorem Inv.quiet {pins : List (Addr × Obj)} {σ : St} {H : Hp} {s : Shared} (I : Inv X pins σ H s) : interactive X.env = false := by simp [interactive, I.ok.kind]
noncomputable def tDrop (te : TE) : TS := fun D σ H => te σ H fun _ H1 => D.nx σ H1
theorem ps_expr (he : PE X e te) (hs : swapsWith e none pos.line X.env = pure false := by rfl) : PS X (.Expr e pos) (tDrop te) := by
  intro pins s σ H D I h
  exact wpAny_Expr_any (thn (he pins s σ H _ I h) fun v s1 ⟨x, H1, I1, r1, q1⟩ => ⟨σ, H1, I1, q1⟩) I.quiet hs
noncomputable def tRet (te : TE) : TS := fun D σ H => te σ H D.rt
theorem ps_ret (he : PE X e te) : PS X (.Return (some e) pos) (tRet te) := by
  intro pins s σ H D I h
  exact wpAny_Return_some (thn (he pins s σ H _ I h) fun v s1 ⟨x, H1, I1, r1, q1⟩ => ⟨x, σ, H1, I1, r1, q1⟩)
noncomputable def tIfS (c : TT) (t u : TS) : TS := fun D σ H => c σ H fun b H1 => if b = true then t D σ H1 else u D σ H1
theorem ps_if {c : Expr} {a b : List Stmt} {tc : TT} (hc : PT X c tc) (ha : PSs X a t) (hb : PSs X b u) : PS X (.If c a b pos) (tIfS tc t u) := by
  intro pins s σ H D I h
  refine wpAny_If (thn (hc pins s σ H _ I h) fun d s1 ⟨H1, I1, q1⟩ => ?_)
  cases d with
  | true => exact ha pins s1 σ H1 D I1 q1
  | false => exact hb pins s1 σ H1 D I1 q1
noncomputable def tNever : TS := fun _ _ _ => False
theorem ps_never : PS X st tNever := fun _ _ _ _ _ _ h => h.elim
end
noncomputable abbrev TG := V → St → Hp → (St → Hp → Prop) → Prop
noncomputable abbrev TGs := List V → St → Hp → (St → Hp → Prop) → Prop
noncomputable def PG (X : Cx) (target : Expr) (t : TG) : Prop :=
  ∀ (pins : List (Addr × Obj)) (s : Shared) (σ : St) (H : Hp) (v : V) (u : Value) (Q : St → Hp → Prop), Inv X pins σ H s → RelV v u → t v σ H Q →
    wpAny (model X.prog X.w) X.A (assign target X.env u) (fun _ s' => ∃ σ' H', Inv X pins σ' H' s' ∧ Q σ' H') X.xe s
noncomputable def PGs (X : Cx) (ts : List Expr) (t : TGs) : Prop :=
  ∀ (pins : List (Addr × Obj)) (s : Shared) (σ : St) (H : Hp) (vs : List V) (us : List Value) (Q : St → Hp → Prop), Inv X pins σ H s → Vals vs us → t vs σ H Q →
    wpAny (model X.prog X.w) X.A (assignInOrder ((assignEach ts X.env).map (·.2)) us) (fun _ s' => ∃ σ' H', Inv X pins σ' H' s' ∧ Q σ' H') X.xe s
noncomputable abbrev TSet := V → V → V → Hp → (Hp → Prop) → Prop
noncomputable def PSet (X : Cx) (t : TSet) : Prop :=
  ∀ (pins : List (Addr × Obj)) (s : Shared) (σ : St) (H : Hp) (o i v : V) (ov iv u : Value) (Q : Hp → Prop), Inv X pins σ H s → RelV o ov → RelV i iv → RelV v u → t o i v H Q →
    wpAny (model X.prog X.w) X.A (setItem ov iv u) (fun _ s' => ∃ H', Inv X pins σ H' s' ∧ Q H') X.xe s
section
variable {X : Cx} {pos : Pos}
noncomputable def gName (i : Nat) : TG := fun v σ H Q => Q (σ.set i (some v)) H
theorem pg_name {i : Nat} {x : Str} (hN : X.N.Nodup) (hi : X.N[i]? = some x) (hx : Loc X.env.scope x) (hf : X.fn x = true ∨ X.env.scope.names.lookup x = some .local := by first | exact .inl rfl | exact .inr rfl | assumption) : PG X (.Name x pos) (gName i) := by
  intro pins s σ H v u Q I r h
  exact wpAny_assign_Name (store_ok I hN hi hx r (fun s' I' => ⟨_, H, I', h⟩) hf)
noncomputable def gNil : TGs := fun vs σ H Q => vs = [] ∧ Q σ H
noncomputable def gCons (t : TG) (u : TGs) : TGs := fun vs σ H Q => ∃ v r, vs = v :: r ∧ t v σ H fun σ' H' => u r σ' H' Q
theorem pgs_nil : PGs X [] gNil := by
  intro pins s σ H vs us Q I r h
  obtain ⟨e, h⟩ := h
  subst e
  cases r
  exact assignInOrder_nil ⟨σ, H, I, h⟩
theorem pgs_cons {e : Expr} {es : List Expr} {t : TG} {u : TGs} (h1 : PG X e t) (h2 : PGs X es u)
    (hs : (assignEach (e :: es) X.env).map (·.2) = assign e X.env :: (assignEach es X.env).map (·.2) := by rfl) : PGs X (e :: es) (gCons t u) := by
  intro pins s σ H vs us Q I r h
  obtain ⟨v, vr, e1, h⟩ := h
  subst e1
  cases r with
  | cons r rr =>
    rw [hs]
    refine assignInOrder_cons (thn (h1 pins s σ H _ _ _ I r h) fun _ s1 ⟨σ1, H1, I1, q1⟩ => ?_)
    exact h2 pins s1 σ1 H1 _ _ Q I1 rr q1
noncomputable def gTup (K : PySem.W.Frag) (n : Nat) (t : TGs) : TG := fun v σ H Q => ∃ a xs, v = .ref a ∧ SqT K H a xs ∧ xs.length = n ∧ t xs σ H Q
theorem pg_tup {es : List Expr} {k : Nat} {t : TGs} {n : Nat} (hc : X.calm = true) (h : PGs X es t)
    (hn : (assignEach es X.env).length = n := by rfl) (hst : (assignEach es X.env).findIdx? (·.1) = none := by rfl) : PG X (.Tuple es k pos) (gTup X.K n t) := by
  intro pins s σ H v u Q I r hw
  obtain ⟨a, xs, e1, hq, hl, hw⟩ := hw
  subst e1
  cases r
  obtain ⟨its, rv, ht, hz⟩ := I.tuple hq
  refine assign_Tuple_tuple (I.ok.hd hc) ht (by simp [hn, ← hl, rv.length]) hst fun h' hx => ?_
  have I1 : Inv X pins σ H { s with heap := h' } := I.kept (t' := s.toks) fun b o e => hx b o (Nat.ne_of_lt (Heap.lt_size e)) e
  exact h pins _ σ H xs _ Q I1 (by simpa using rv) hw
noncomputable def gSub (to ti : TE) (t : TSet) : TG := fun v σ H Q => to σ H fun o H1 => ti σ H1 fun i H2 => t o i v H2 fun H3 => Q σ H3
theorem pg_sub {o i : Expr} {to ti : TE} {t : TSet} (ho : PE X o to) (hi : PE X i ti) (hs : PSet X t)
    (ha : ∀ v, assign (.Subscript o i pos) X.env v = (do
      let ov ← holding [v] (eval o X.env)
      let iv ← holding [v, ov] (eval i X.env)
      standAt pos
      holding [v, ov, iv] (setItem ov iv v)
      release [v, ov, iv] []) := by intro _; rfl) : PG X (.Subscript o i pos) (gSub to ti t) := by
  intro pins s σ H v u Q I r h
  rw [ha]
  refine wpAny_bind (wpAny_holding (thn (ho pins s σ H _ I h) fun ov s1 ⟨x, H1, I1, r1, q1⟩ => ?_))
  refine wpAny_bind (wpAny_holding (thn (hi pins s1 σ H1 _ I1 q1) fun iv s2 ⟨y, H2, I2, r2, q2⟩ => ?_))
  refine wpAny_bind (wpAny_standAt (wpAny_bind (wpAny_holding (thn (hs pins s2 σ H2 x y v ov iv u _ I2 r1 r2 r q2) fun _ s3 ⟨H3, I3, q3⟩ => ?_))))
  exact wpAny_release ⟨σ, H3, I3, q3⟩
noncomputable def tAsg (te : TE) (g : TG) : TS := fun D σ H => te σ H fun x H1 => g x σ H1 D.nx
theorem ps_asg {tg e : Expr} {te : TE} {g : TG} (he : PE X e te) (hg : PG X tg g) (hs : swapsWithSole [tg] e pos.line X.env = pure false := by rfl) (hw : swappedStores [tg] e X.env = pure none := by rfl)
    (h1 : (assignEach [tg] X.env).map (·.2) = [assign tg X.env] := by rfl) : PS X (.Assign [tg] e pos) (tAsg te g) := by
  intro pins s σ H D I h
  refine wpAny_Assign_stores (thn (he pins s σ H _ I h) fun v s1 ⟨x, H1, I1, r1, q1⟩ => ?_) hs hw
  rw [h1]
  exact thn (hg pins s1 σ H1 x v _ I1 r1 q1) fun _ s2 q => q
theorem ps_set {i : Nat} {x : Str} {e : Expr} {te : TE} {pos' : Pos} (hN : X.N.Nodup) (hi : X.N[i]? = some x) (hx : Loc X.env.scope x) (he : PE X e te) (hs : swapsWith e (some (.Name x pos')) pos.line X.env = pure false := by rfl) (hf : X.fn x = true ∨ X.env.scope.names.lookup x = some .local := by first | exact .inl rfl | exact .inr rfl | assumption) :
    PS X (.Assign [.Name x pos'] e pos) (tAsg te (gName i)) := by
  intro pins s σ H D I h
  refine wpAny_Assign_Name (thn (he pins s σ H _ I h) fun v s1 ⟨y, H1, I1, r1, q1⟩ => ?_) hs
  exact store_ok I1 hN hi hx r1 (fun s2 I2 => ⟨_, H1, I2, q1⟩) hf
end
section
variable {X : Cx} {pos : Pos}
end
structure It where
  go : Nat → Hp → Prop
  yld : Nat → Hp → V → Hp → Prop
  stop : Nat → Hp → Prop
noncomputable def FpOk (X : Cx) (pins : List (Addr × Obj)) (H : Hp) (b : Addr) : Prop :=
  H b = none ∧ b ≠ X.env.locals ∧ b ∉ X.fs ∧ (b ∈ X.ex ∨ X.s₀.heap.objs.size ≤ b) ∧ (∀ x c, X.env.cells.lookup x = some c → c ≠ b) ∧ ∀ p ∈ X.pn ++ pins, p.1 ≠ b
theorem Inv.fpOk {X : Cx} {pins : List (Addr × Obj)} {σ : St} {H H' : Hp} {s : Shared} {b : Addr} (I : Inv X pins σ H s) (hb : s.heap.objs.size ≤ b) (hn : H' b = none) : FpOk X pins H' b := by
  refine ⟨hn, Nat.ne_of_gt (Nat.lt_of_lt_of_le I.lt hb), I.nofs hb, .inr (Nat.le_trans I.sz hb), fun x c e z => ?_, fun p hp z => ?_⟩
  · obtain ⟨v, q⟩ := I.cell x c e
    exact absurd (Nat.lt_of_lt_of_le q.lt (by rw [z]; exact hb)) (Nat.lt_irrefl _)
  · exact absurd (Nat.lt_of_lt_of_le (Heap.lt_size (I.pin p hp).1) (by rw [z]; exact hb)) (Nat.lt_irrefl _)
structure Turn (P : Program) (w : World) (K : PySem.W.Frag) (tg : Expr) (J : It) (fp : List Addr) (it : Addr) (tn : Nat → Heap → Prop) : Prop where
  mem : it ∈ fp
  obj : ∀ i h, tn i h → ∀ b ∈ fp, ∃ o, h.get? b = some o ∧ ∀ v, o.data ≠ .cell v
  keep : ∀ i h h', tn i h → (∀ b ∈ fp, ∀ o, h.get? b = some o → h'.get? b = some o) → tn i h'
  item : ∀ (X : Cx), X.prog = P → X.w = w → X.K = K → X.calm = true → ∀ (i : Nat) (pins : List (Addr × Obj)) (s : Shared) (σ : St) (H : Hp) (E : Value → Shared → Prop), Inv X pins σ H s → (∀ b ∈ fp, FpOk X pins H b) → tn i s.heap → J.go i H →
    wpAny (model P w) X.A (pyNext (.ref it)) (fun r s1 => ∃ u, r = some u ∧
      wpAny (model P w) X.A (letOwnedTupleGo tg (.ref it) u) (fun _ s2 => ∃ x H', Inv X pins σ H' s2 ∧ RelV x u ∧ J.yld i H x H' ∧ tn (i + 1) s2.heap ∧ ∀ b ∈ fp, H' b = none) E s1) E s
  done : ∀ (X : Cx), X.prog = P → X.w = w → X.K = K → X.calm = true → ∀ (i : Nat) (pins : List (Addr × Obj)) (s : Shared) (σ : St) (H : Hp) (E : Value → Shared → Prop), Inv X pins σ H s → (∀ b ∈ fp, FpOk X pins H b) → tn i s.heap → J.stop i H →
    wpAny (model P w) X.A (pyNext (.ref it)) (fun r s1 => r = none ∧ Inv X pins σ H s1) E s
  self : ∀ (A : Around) (i : Nat) (s : Shared) (Q : Value → Shared → Prop) (E : Value → Shared → Prop), tn i s.heap → Q (.ref it) s → wpAny (model P w) A (pyIter (.ref it)) Q E s
noncomputable abbrev TI := St → Hp → (It → Hp → Prop) → Prop
noncomputable def PIE (X : Cx) (pins : List (Addr × Obj)) (σ : St) (tg : Expr) (R : It → Hp → Prop) (itv : Value) (s2 : Shared) : Prop :=
  ∃ (it : Addr) (fp : List Addr) (tn : Nat → Heap → Prop) (J : It) (H' : Hp), itv = .ref it ∧ Inv X pins σ H' s2 ∧ Turn X.prog X.w X.K tg J fp it tn ∧ tn 0 s2.heap ∧ (∀ b ∈ fp, FpOk X pins H' b) ∧ R J H'
noncomputable def PI (X : Cx) (tg iter : Expr) (wi : TI) : Prop :=
  ∀ (pins : List (Addr × Obj)) (s : Shared) (σ : St) (H : Hp) (R : It → Hp → Prop), Inv X pins σ H s → wi σ H R →
    wpAny (model X.prog X.w) X.A (eval iter X.env) (fun v s1 => wpAny (model X.prog X.w) X.A (pyIter v) (PIE X pins σ tg R) X.xe s1) X.xe s
theorem go_of {M : Model} {A : Around} {E : Value → Shared → Prop} {s : Shared} {tg : Expr} {it : Addr} {u : Value} {o : Obj} {n : String} {vs : Array Value} {Q : Unit → Shared → Prop} (ho : s.heap.get? it = some o) (hc : o.cls = .type n) (hd : o.data = .fields vs)
    (hn : ["enumerate", "zip", "dict_itemiterator", "dict_reverseitemiterator", "odict_iterator", "itertools.zip_longest", "itertools.pairwise"].contains n = false) (hQ : Q () s) : wpAny M A (letOwnedTupleGo tg (.ref it) u) Q E s := by
  unfold letOwnedTupleGo
  cases tg <;> first
    | exact wpAny_pure hQ
    | (cases u <;> first
        | exact wpAny_pure hQ
        | (refine wpAny_bind (wpAny_load ho ?_)
           rw [hc, hd]
           show wpAny M A (if (["enumerate", "zip", "dict_itemiterator", "dict_reverseitemiterator", "odict_iterator", "itertools.zip_longest", "itertools.pairwise"].contains n && vs[0]? == some (rawInt _)) = true then _ else _) Q E s
           rw [if_neg (by intro h; rw [hn, Bool.false_and] at h; cases h)]
           exact wpAny_pure hQ))
noncomputable def Itl (K : PySem.W.Frag) (a : Addr) : It :=
  ⟨fun i H => ∃ xs x, SqL K H a xs ∧ xs[i]? = some x, fun i H x H' => H' = H ∧ ∀ xs, SqL K H a xs → xs[i]? = some x, fun i H => ∃ xs, SqL K H a xs ∧ xs.length ≤ i⟩
noncomputable def Itt (K : PySem.W.Frag) (a : Addr) : It :=
  ⟨fun i H => ∃ xs x, SqT K H a xs ∧ xs[i]? = some x, fun i H x H' => H' = H ∧ ∀ xs, SqT K H a xs → xs[i]? = some x, fun i H => ∃ xs, SqT K H a xs ∧ xs.length ≤ i⟩
noncomputable def Itr (lo : Int) (n : Nat) : It := ⟨fun i _ => i < n, fun i H x H' => H' = H ∧ x = .int (lo + i), fun i _ => n ≤ i⟩
theorem turn_list {P : Program} {w : World} {K : PySem.W.Frag} {tg : Expr} (a it : Addr) : Turn P w K tg (Itl K a) [it] it (fun i h => h.IsListIter it a i) where
  mem := by simp
  obj := fun i h st b hb => by
    have e : b = it := by simpa using hb
    subst e
    obtain ⟨o, e, c, d⟩ := st
    exact ⟨o, e, fun v z => by rw [d] at z; cases z⟩
  keep := fun i h h' st k => st.at fun o e => k it (by simp) o e
  item := by
    intro X hP hw hK hc i pins s σ H E I hf st hg
    subst hP hw hK
    obtain ⟨xs, x, hq, hx⟩ := hg
    obtain ⟨its, rv, p, hz⟩ := I.list hq
    obtain ⟨u, hu, ru⟩ := rv.get hx
    obtain ⟨f0, f1, f2, f3, f4, f5⟩ := hf it (by simp)
    refine wpAny_pyNext_list_item st p.isList (x := u) (by simpa using hu) fun h' st' sb => ?_
    have I1 : Inv X pins σ H { s with heap := h' } := I.turned (t' := s.toks) (fun b o hb e => (sb.2 b hb).trans e) f0 f1 f3 f4 f5
    obtain ⟨o, e, c, d⟩ := id st'
    exact ⟨u, rfl, go_of (s := { s with heap := h' }) e c d (by decide) ⟨x, H, I1, ru, ⟨rfl, fun ys hy => by rw [I.list_inj hy hq]; exact hx⟩, st', fun b hb => (hf b hb).1⟩⟩
  done := by
    intro X hP hw hK hc i pins s σ H E I hf st hg
    subst hP hw hK
    obtain ⟨xs, hq, hx⟩ := hg
    obtain ⟨its, rv, p, hz⟩ := I.list hq
    obtain ⟨f0, f1, f2, f3, f4, f5⟩ := hf it (by simp)
    have hl := rv.length
    exact wpAny_pyNext_list_end (I.ok.hd hc) st p.isList (by simp; omega) fun h' eb => ⟨rfl, I.turned (t' := s.toks) (fun b o hb e => eb b o hb e) f0 f1 f3 f4 f5⟩
  self := fun _ _ _ _ _ st h => wpAny_pyIter_listiter st h
theorem turn_tuple {P : Program} {w : World} {K : PySem.W.Frag} {tg : Expr} (a it : Addr) : Turn P w K tg (Itt K a) [it] it (fun i h => h.IsTupleIter it a i) where
  mem := by simp
  obj := fun i h st b hb => by
    have e : b = it := by simpa using hb
    subst e
    obtain ⟨o, e, c, d⟩ := st
    exact ⟨o, e, fun v z => by rw [d] at z; cases z⟩
  keep := fun i h h' st k => st.at fun o e => k it (by simp) o e
  item := by
    intro X hP hw hK hc i pins s σ H E I hf st hg
    subst hP hw hK
    obtain ⟨xs, x, hq, hx⟩ := hg
    obtain ⟨its, rv, p, hz⟩ := I.tuple hq
    obtain ⟨u, hu, ru⟩ := rv.get hx
    obtain ⟨f0, f1, f2, f3, f4, f5⟩ := hf it (by simp)
    refine wpAny_pyNext_tuple_item st (show s.heap.IsTuple a its.toArray from p) (x := u) (by simpa using hu) fun h' st' sb => ?_
    have I1 : Inv X pins σ H { s with heap := h' } := I.turned (t' := s.toks) (fun b o hb e => (sb.2 b hb).trans e) f0 f1 f3 f4 f5
    obtain ⟨o, e, c, d⟩ := id st'
    exact ⟨u, rfl, go_of (s := { s with heap := h' }) e c d (by decide) ⟨x, H, I1, ru, ⟨rfl, fun ys hy => by rw [I.tuple_inj hy hq]; exact hx⟩, st', fun b hb => (hf b hb).1⟩⟩
  done := by
    intro X hP hw hK hc i pins s σ H E I hf st hg
    subst hP hw hK
    obtain ⟨xs, hq, hx⟩ := hg
    obtain ⟨its, rv, p, hz⟩ := I.tuple hq
    obtain ⟨f0, f1, f2, f3, f4, f5⟩ := hf it (by simp)
    have hl := rv.length
    exact wpAny_pyNext_tuple_end (I.ok.hd hc) st (show s.heap.IsTuple a its.toArray from p) (by simp; omega) fun h' eb => ⟨rfl, I.turned (t' := s.toks) (fun b o hb e => eb b o hb e) f0 f1 f3 f4 f5⟩
  self := fun _ _ _ _ _ st h => wpAny_pyIter_tupleiter st h
theorem turn_range {P : Program} {w : World} {K : PySem.W.Frag} {tg : Expr} (it : Addr) (lo : Int) (n : Nat) : Turn P w K tg (Itr lo n) [it] it (fun i h => IsRangeIter h it (lo + (i : Nat) * 1) ((n : Int) - (i : Nat)) 1) where
  mem := by simp
  obj := fun i h st b hb => by
    have e : b = it := by simpa using hb
    subst e
    exact ⟨_, st, fun v z => by
      have z' : Data.fields _ = Data.cell v := z
      cases z'⟩
  keep := fun i h h' st k => k it (by simp) _ st
  item := by
    intro X hP hw hK hc i pins s σ H E I hf st hg
    subst hP hw hK
    obtain ⟨f0, f1, f2, f3, f4, f5⟩ := hf it (by simp)
    have W := Walks.range (prog := X.prog) (w := X.w) (I.ok.hd hc) it lo 1 n
    refine W.item i s _ _ hg st fun v h' tk hv st' kk => ?_
    obtain ⟨t, rfl⟩ := hv
    have I1 : Inv X pins σ H { s with heap := h', toks := tk } := I.turned (fun b o hb e => kk b o (by simpa using hb) e) f0 f1 f3 f4 f5
    refine ⟨_, rfl, go_of (s := { s with heap := h', toks := tk }) (n := "range_iterator") st' rfl rfl (by decide) ⟨.int (lo + i), H, I1, ⟨t, ?_⟩, ⟨rfl, rfl⟩, st', fun b hb => (hf b hb).1⟩⟩
    rw [Int.mul_one]
  done := by
    intro X hP hw hK hc i pins s σ H E I hf st hg
    subst hP hw hK
    obtain ⟨f0, f1, f2, f3, f4, f5⟩ := hf it (by simp)
    exact wpAny_pyNext_range_end (I.ok.hd hc) st (by have : n ≤ i := hg; omega) fun h' eb => ⟨rfl, I.turned (t' := s.toks) (fun b o hb e => eb b o hb e) f0 f1 f3 f4 f5⟩
  self := fun _ _ _ _ _ st h => wpAny_pyIter_rangeiter st h
end L2
namespace L2
open PySem PySem.Spec PyProof.Rows
section
variable {X : Cx} {tg : Expr}
noncomputable def iList (K : PySem.W.Frag) (tl : TE) : TI := fun σ H R => tl σ H fun x H1 => ∃ a, x = .ref a ∧ (∃ xs, SqL K H1 a xs) ∧ R (Itl K a) H1
noncomputable def iTup (K : PySem.W.Frag) (tl : TE) : TI := fun σ H R => tl σ H fun x H1 => ∃ a, x = .ref a ∧ (∃ xs, SqT K H1 a xs) ∧ R (Itt K a) H1
theorem pi_list {l : Expr} {tl : TE} (hl : PE X l tl) : PI X tg l (iList X.K tl) := by
  intro pins s σ H R I h
  refine thn (hl pins s σ H _ I h) fun v s1 ⟨x, H1, I1, r1, q1⟩ => ?_
  obtain ⟨a, e, ⟨xs, hq⟩, q⟩ := q1
  subst e
  cases r1
  obtain ⟨its, rv, p, hz⟩ := I1.list hq
  refine wpAny_pyIter_list p.isList ?_
  refine ⟨s1.heap.objs.size, [s1.heap.objs.size], _, _, H1, rfl, I1.kept (t' := s1.toks) fun b o e => Heap.get?_push_of_some _ e, turn_list a _, ⟨_, Heap.get?_push_size _ rfl, rfl, rfl⟩, fun b hb => ?_, q⟩
  have e : b = s1.heap.objs.size := by simpa using hb
  subst e
  exact I1.fpOk (Nat.le_refl _) (I1.hok.fresh (Nat.le_refl _))
theorem pi_tup {l : Expr} {tl : TE} (hl : PE X l tl) : PI X tg l (iTup X.K tl) := by
  intro pins s σ H R I h
  refine thn (hl pins s σ H _ I h) fun v s1 ⟨x, H1, I1, r1, q1⟩ => ?_
  obtain ⟨a, e, ⟨xs, hq⟩, q⟩ := q1
  subst e
  cases r1
  obtain ⟨its, rv, p, hz⟩ := I1.tuple hq
  refine wpAny_pyIter_tuple (show s1.heap.IsTuple a its.toArray from p) ?_
  refine ⟨s1.heap.objs.size, [s1.heap.objs.size], _, _, H1, rfl, I1.kept (t' := s1.toks) fun b o e => Heap.get?_push_of_some _ e, turn_tuple a _, ⟨_, Heap.get?_push_size _ rfl, rfl, rfl⟩, fun b hb => ?_, q⟩
  have e : b = s1.heap.objs.size := by simpa using hb
  subst e
  exact I1.fpOk (Nat.le_refl _) (I1.hok.fresh (Nat.le_refl _))
theorem range_it {pins : List (Addr × Obj)} {σ : St} {H : Hp} {s : Shared} {R : It → Hp → Prop} {E : Value → Shared → Prop} {lo hi : Int} {t u v : Tok} {tk : Nat} (I : Inv X pins σ H s) (h1 : -(2 ^ 62) ≤ lo) (h2 : lo < 2 ^ 62) (h3 : -(2 ^ 62) ≤ hi) (h4 : hi < 2 ^ 62)
    (q : R (Itr lo (hi - lo).toNat) H) : wpAny (model X.prog X.w) X.A (pyIter (.ref s.heap.objs.size)) (PIE X pins σ tg R) E { s with heap := s.heap.push { cls := .type "range", data := .fields #[.int lo t, .int hi u, .int 1 v] }, toks := tk } := by
  refine wpAny_pyIter_range (IsRange.new ..) (small_one h1 h2 h3 h4) ?_
  have I1 : Inv X pins σ H { s with heap := s.heap.push { cls := .type "range", data := .fields #[.int lo t, .int hi u, .int 1 v] }, toks := tk } := I.kept fun b o e => Heap.get?_push_of_some _ e
  refine ⟨(s.heap.push { cls := .type "range", data := .fields #[.int lo t, .int hi u, .int 1 v] }).objs.size, [(s.heap.push { cls := .type "range", data := .fields #[.int lo t, .int hi u, .int 1 v] }).objs.size], _, _, H, rfl,
    I1.kept (t' := tk) fun b o e => Heap.get?_push_of_some _ e, turn_range _ lo (hi - lo).toNat, ?_, fun b hb => ?_, q⟩
  · have e1 : lo + ((0 : Nat) : Int) * 1 = lo := by simp
    have e2 : (((hi - lo).toNat : Nat) : Int) - ((0 : Nat) : Int) = Builtin.Range.rangeSize lo hi 1 := by rw [rangeSize_one]; split <;> omega
    show IsRangeIter _ _ (lo + ((0 : Nat) : Int) * 1) ((((hi - lo).toNat : Nat) : Int) - ((0 : Nat) : Int)) 1
    rw [e1, e2]
    exact Heap.get?_push_size _ rfl
  · have e : b = (s.heap.push { cls := .type "range", data := .fields #[.int lo t, .int hi u, .int 1 v] }).objs.size := by simpa using hb
    subst e
    exact I1.fpOk (Nat.le_refl _) (I1.hok.fresh (Nat.le_refl _))
noncomputable def iRng1 (ta : TA) : TI := fun σ H R => ta σ H fun vs H1 => ∃ j : Int, vs = [.int j] ∧ -(2 ^ 62) ≤ j ∧ j < 2 ^ 62 ∧ R (Itr 0 j.toNat) H1
theorem pi_range1 {a : Expr} {ta : TA} {p pos : Pos} (hg : Gl X "range") (hm : X.mg "range" = none) (ha : PA X [a] ta) (hs : starEach [a] X.env = [(false, eval a X.env)] := by rfl) : PI X tg (.Call (.Name "range" p) [a] [] pos) (iRng1 ta) := by
  intro pins s σ H R I h
  refine Call_ (ld_blt I hg hm boot_range (PyProof.Rows.callWith_type1 (thn (ha pos pins s σ H _ I h) fun us s1 ⟨vs, H1, I1, r1, q1⟩ => ?_) hs rfl))
  obtain ⟨j, e, q1, q2, q⟩ := q1
  subst e
  cases r1 with
  | cons r rr =>
    cases rr
    obtain ⟨t, rfl⟩ := r
    exact call_range_1 (range_it I1 (by omega) (by omega) q1 q2 (by simpa using q))
noncomputable def tFor (wi : TI) (g : TG) (tb : TS) : TS := fun D σ H => wi σ H fun J H1 => ∃ W : Nat → Nat → St → Hp → Prop, (∃ m, W 0 m σ H1) ∧ ∀ i m σ H, W i m σ H →
  (J.stop i H ∧ D.nx σ H) ∨ (J.go i H ∧ ∃ N : St → Hp → Prop, (∀ σ' H', N σ' H' → ∃ m', m' < m ∧ W (i + 1) m' σ' H') ∧ ∀ x H', J.yld i H x H' → g x σ H' fun σ2 H2 => tb { D with nx := N, ct := N, bk := D.nx } σ2 H2)
noncomputable def pinsAt (fp : List Addr) (h : Heap) : List (Addr × Obj) := fp.filterMap fun b => (h.get? b).map fun o => (b, o)
theorem mem_pinsAt {fp : List Addr} {h : Heap} {b : Addr} {o : Obj} (hb : b ∈ fp) (e : h.get? b = some o) : (b, o) ∈ pinsAt fp h := List.mem_filterMap.mpr ⟨b, hb, by rw [e]; rfl⟩
theorem of_pinsAt {fp : List Addr} {h : Heap} {p : Addr × Obj} (hp : p ∈ pinsAt fp h) : p.1 ∈ fp ∧ h.get? p.1 = some p.2 := by
  obtain ⟨b, hb, e⟩ := List.mem_filterMap.mp hp
  cases q : h.get? b with
  | none => rw [q] at e; cases e
  | some o =>
    rw [q] at e
    have e' : (b, o) = p := Option.some.inj e
    subst e'
    exact ⟨hb, q⟩
theorem Inv.pinned {pins : List (Addr × Obj)} {σ : St} {H : Hp} {s : Shared} {fp : List Addr} (I : Inv X pins σ H s) (hf : ∀ b ∈ fp, FpOk X pins H b) (ho : ∀ b ∈ fp, ∃ o, s.heap.get? b = some o ∧ ∀ v, o.data ≠ .cell v) : Inv X (pins ++ pinsAt fp s.heap) σ H s :=
  I.pins_of fun p hp => (List.mem_append.mp hp).elim (fun z => I.pin p (List.mem_append_right _ z)) fun z => by
    obtain ⟨hb, e⟩ := of_pinsAt z
    obtain ⟨f0, f1, f2, _⟩ := hf p.1 hb
    obtain ⟨o, e', d⟩ := ho p.1 hb
    rw [e] at e'; cases e'
    exact ⟨e, f0, f1, f2, d⟩
theorem Inv.unpinned {pins pl : List (Addr × Obj)} {σ : St} {H : Hp} {s : Shared} (I : Inv X (pins ++ pl) σ H s) : Inv X pins σ H s := I.pins_of fun p hp => I.pin p (List.mem_append_right _ (List.mem_append_left _ hp))
theorem ps_for {iter : Expr} {body : List Stmt} {wi : TI} {g : TG} {tb : TS} {pos : Pos} (hp : PassesOwn (model X.prog X.w) X.A X.env X.xe) (hc : X.calm = true) (hi : PI X tg iter wi) (hg : PG X tg g) (hb : PSs X body tb)
    (hs : ∀ x, foldedSetIterable iter X.env x = pure x := by intro _; rfl) : PS X (.For tg iter body [] pos) (tFor wi g tb) := by
  intro pins s σ H D I h
  refine wpAny_For (thn (hi pins s σ H _ I h) fun v s1 h1 => thn h1 fun itv s2 h2 => ?_) hs
  obtain ⟨it, fp, tn, J, H2, e, I2, T, st2, f2, W, ⟨m0, w0⟩, turn⟩ := h2
  subst e
  have stat : ∀ {H' : Hp}, (∀ b ∈ fp, H' b = none) → ∀ b ∈ fp, FpOk X pins H' b := fun hn b hb => ⟨hn b hb, (f2 b hb).2⟩
  refine codeAny_forLoop_any (fun n s' => ∃ i σ' H', Inv X pins σ' H' s' ∧ tn i s'.heap ∧ (∀ b ∈ fp, H' b = none) ∧ W i n σ' H') ?_ m0 ⟨0, σ, H2, I2, st2, fun b hb => (f2 b hb).1, w0⟩
  rintro n s3 ⟨i, σ3, H3, I3, st3, fr3, w3⟩
  rcases turn i n σ3 H3 w3 with ⟨stop, qn⟩ | ⟨go, N, hN, step⟩
  · refine wpAny_passesOwn hp (thn (T.done X rfl rfl rfl hc i pins s3 σ3 H3 X.xe I3 (stat fr3) st3 stop) fun r s4 ⟨hr, I4⟩ => ?_)
    subst hr
    exact wpAny_execs_nil ⟨σ3, H3, I4, qn⟩
  · refine wpAny_passesOwn hp (thn (T.item X rfl rfl rfl hc i pins s3 σ3 H3 X.xe I3 (stat fr3) st3 go) fun r s4 ⟨u, hr, h4⟩ => ?_)
    subst hr
    refine wpAny_passesOwn hp (thn h4 fun _ s5 ⟨x, H5, I5, r5, y5, st5, fr5⟩ => ?_)
    have I5' := I5.pinned (stat fr5) (T.obj _ _ st5)
    refine wpAny_passesOwn hp (thn (hg _ s5 σ3 H5 x u _ I5' r5 (step x H5 y5)) fun _ s6 ⟨σ6, H6, I6, q6⟩ => ?_)
    refine wpAny_passesOwn hp (thn (hb _ s6 σ6 H6 _ I6 q6) fun f s7 q7 => ?_)
    have again : ∀ {σ7 : St} {H7 : Hp}, Inv X (pins ++ pinsAt fp s5.heap) σ7 H7 s7 → N σ7 H7 → ∃ m, m < n ∧ ∃ i σ' H', Inv X pins σ' H' s7 ∧ tn i s7.heap ∧ (∀ b ∈ fp, H' b = none) ∧ W i m σ' H' := fun {σ7 H7} I7 n7 => by
      obtain ⟨m', hm, w7⟩ := hN σ7 H7 n7
      refine ⟨m', hm, i + 1, σ7, H7, I7.unpinned, T.keep _ _ _ st5 fun b hb o e => (I7.pin (b, o) (List.mem_append_right _ (List.mem_append_right _ (mem_pinsAt hb e)))).1, fun b hb => ?_, w7⟩
      obtain ⟨o, e, d⟩ := T.obj _ _ st5 b hb
      exact (I7.pin (b, o) (List.mem_append_right _ (List.mem_append_right _ (mem_pinsAt hb e)))).2.1
    cases f with
    | next => obtain ⟨σ7, H7, I7, n7⟩ := q7; exact again I7 n7
    | cont => obtain ⟨σ7, H7, I7, n7⟩ := q7; exact again I7 n7
    | brk => obtain ⟨σ7, H7, I7, q7⟩ := q7; exact ⟨σ7, H7, I7.unpinned, q7⟩
    | ret v => obtain ⟨x7, σ7, H7, I7, r7, q7⟩ := q7; exact ⟨x7, σ7, H7, I7.unpinned, r7, q7⟩
end
end L2
namespace L2
open PySem PySem.Spec PyProof.Rows
noncomputable abbrev R2 := V → V → Hp → VK → Prop
noncomputable def OpR (X : Cx) (f : Value → Value → Sem Value) (r : R2) : Prop :=
  ∀ (pins : List (Addr × Obj)) (s : Shared) (σ : St) (H : Hp) (x y : V) (v u : Value) (Q : VK), Inv X pins σ H s → RelV x v → RelV y u → r x y H Q →
    wpAny (model X.prog X.w) X.A (f v u) (EP X pins σ Q) X.xe s
noncomputable def CallR (X : Cx) (f : Value) (r : List V → Hp → VK → Prop) : Prop :=
  ∀ (pins : List (Addr × Obj)) (s : Shared) (σ : St) (H : Hp) (xs : List V) (us : List Value) (Q : VK), Inv X pins σ H s → Vals xs us → r xs H Q →
    wpAny (model X.prog X.w) X.A (call f us) (EP X pins σ Q) X.xe s
noncomputable def tOp (r : R2) (ta tb : TE) : TE := fun σ H Q => ta σ H fun x H1 => tb σ H1 fun y H2 => r x y H2 Q
noncomputable def rI (C : Int → Int → Prop) (g : Int → Int → V) : R2 := fun x y H Q => ∃ i j, x = .int i ∧ y = .int j ∧ C i j ∧ Q (g i j) H
noncomputable def rI0 (g : Int → Int → V) : R2 := fun x y H Q => ∃ i j, x = .int i ∧ y = .int j ∧ Q (g i j) H
section
variable {X : Cx} {a b c : Expr} {ta tb tc : TE} {pos : Pos}
theorem binT (ha : PE X a ta) (hb : PE X b tb) {pins : List (Addr × Obj)} {s : Shared} {σ : St} {H : Hp} {R : V → V → Hp → Prop} (I : Inv X pins σ H s)
    (h : ta σ H fun x H1 => tb σ H1 fun y H2 => R x y H2) {Q : Value → Shared → Prop} {f : Value → Value → Sem Value}
    (hf : ∀ v u s2 x y H2, Inv X pins σ H2 s2 → RelV x v → RelV y u → R x y H2 → wpAny (model X.prog X.w) X.A (f v u) Q X.xe s2) :
    wpAny (model X.prog X.w) X.A (eval a X.env) (fun v s₁ => wpAny (model X.prog X.w) X.A (eval b X.env) (fun u s₂ => wpAny (model X.prog X.w) X.A (f v u) Q X.xe s₂) X.xe s₁) X.xe s := by
  refine thn (ha pins s σ H _ I h) fun v s1 ⟨x, H1, I1, r1, q1⟩ => ?_
  refine thn (hb pins s1 σ H1 _ I1 q1) fun u s2 ⟨y, H2, I2, r2, q2⟩ => ?_
  exact hf v u s2 x y H2 I2 r1 r2 q2
theorem pe_op {op : Operator} {r : R2} (ho : OpR X (binaryOp op) r) (ha : PE X a ta) (hb : PE X b tb) : PE X (.BinOp a op b pos) (tOp r ta tb) := by
  intro pins s σ H Q I h
  exact wpAny_BinOp (binT ha hb I h fun v u s2 x y H2 I2 rx ry q => ho pins s2 σ H2 x y v u Q I2 rx ry q)
theorem opI {f : Value → Value → Sem Value} {C : Int → Int → Prop} {g : Int → Int → Int}
    (rule : ∀ (i j : Int) (t u : Tok) (s : Shared) (Q : Value → Shared → Prop) (E : Value → Shared → Prop), C i j → Q (.int (g i j) s.toks) { s with toks := s.toks + 1 } → wpAny (model X.prog X.w) X.A (f (.int i t) (.int j u)) Q E s) :
    OpR X f (rI C fun i j => .int (g i j)) := by
  intro pins s σ H x y v u Q I rx ry h
  obtain ⟨i, j, rfl, rfl, hc, q⟩ := h
  obtain ⟨t, rfl⟩ := rx
  obtain ⟨t', rfl⟩ := ry
  exact rule i j t t' s _ _ hc ⟨.int (g i j), H, I.tok _, ⟨_, rfl⟩, q⟩
theorem opI0 {f : Value → Value → Sem Value} {g : Int → Int → Int}
    (rule : ∀ (i j : Int) (t u : Tok) (s : Shared) (Q : Value → Shared → Prop) (E : Value → Shared → Prop), Q (.int (g i j) s.toks) { s with toks := s.toks + 1 } → wpAny (model X.prog X.w) X.A (f (.int i t) (.int j u)) Q E s) :
    OpR X f (rI0 fun i j => .int (g i j)) := by
  intro pins s σ H x y v u Q I rx ry h
  obtain ⟨i, j, rfl, rfl, q⟩ := h
  obtain ⟨t, rfl⟩ := rx
  obtain ⟨t', rfl⟩ := ry
  exact rule i j t t' s _ _ ⟨.int (g i j), H, I.tok _, ⟨_, rfl⟩, q⟩
theorem opB0 {f : Value → Value → Sem Value} {g : Int → Int → Bool}
    (rule : ∀ (i j : Int) (t u : Tok) (s : Shared) (Q : Value → Shared → Prop) (E : Value → Shared → Prop), Q (.bool (g i j)) s → wpAny (model X.prog X.w) X.A (f (.int i t) (.int j u)) Q E s) :
    OpR X f (rI0 fun i j => .bl (g i j)) := by
  intro pins s σ H x y v u Q I rx ry h
  obtain ⟨i, j, rfl, rfl, q⟩ := h
  obtain ⟨t, rfl⟩ := rx
  obtain ⟨t', rfl⟩ := ry
  exact rule i j t t' s _ _ ⟨.bl (g i j), H, I, rfl, q⟩
noncomputable def CDiv (i j : Int) : Prop := 0 < j ∧ j < 1073741824
noncomputable def CPow (i j : Int) : Prop := 0 ≤ j ∧ j ≤ 1000000 ∧ i.natAbs < 2 ^ 64
noncomputable def CMul (i j : Int) : Prop := (-(2 ^ 64) < i ∧ i < 2 ^ 64) ∨ (-(2 ^ 64) < j ∧ j < 2 ^ 64)
theorem CMul.ok {i j : Int} (h : CMul i j) : IntMulOk i j := by
  rcases h with ⟨h1, h2⟩ | ⟨h1, h2⟩
  · exact .of_left (intBits_le_64 h1 h2)
  · exact .of_right (intBits_le_64 h1 h2)
theorem op_add : OpR X (binaryOp .Add) (rI0 fun i j => .int (i + j)) := opI0 fun _ _ _ _ _ _ _ q => add_int q
theorem op_sub : OpR X (binaryOp .Sub) (rI0 fun i j => .int (i - j)) := opI0 fun _ _ _ _ _ _ _ q => sub_int q
theorem op_mul : OpR X (binaryOp .Mult) (rI CMul fun i j => .int (i * j)) := opI fun _ _ _ _ _ _ _ hc q => mul_int q hc.ok
theorem op_fdiv : OpR X (binaryOp .FloorDiv) (rI CDiv fun i j => .int (i / j)) := opI fun i j _ _ _ _ _ hc q => by
  have h1 : (0 : Int) < j := hc.1
  have h2 : j < 1073741824 := hc.2
  exact floordiv_int (by omega) (by rw [Int.fdiv_eq_ediv_of_nonneg i (by omega)]; exact q) (.inl (PyProof.noPylong_small (by omega)))
theorem op_mod : OpR X (binaryOp .Mod) (rI (fun _ j => 0 < j) fun i j => .int (i % j)) := opI fun i j _ _ _ _ _ hc q => by
  have h1 : (0 : Int) < j := hc
  exact mod_int' (by omega) (by rw [Int.fmod_eq_emod_of_nonneg i (by omega)]; exact q)
theorem op_pow : OpR X (binaryOp .Pow) (rI CPow fun i j => .int (i ^ j.toNat)) := opI fun _ _ _ _ _ _ _ hc q => pow_int_small hc.1 hc.2.1 hc.2.2 q
end
section
variable {X : Cx} {a b c : Expr} {ta tb tc : TE} {pos : Pos}
theorem fin_bl {pins : List (Addr × Obj)} {σ : St} {H : Hp} {s : Shared} {Q : VK} {k k' : Bool} (I : Inv X pins σ H s) (q : Q (.bl k) H) (e : k = k') : EP X pins σ Q (.bool k') s := by
  subst e
  exact ⟨.bl k, H, I, rfl, q⟩
theorem op_lt : OpR X (compareOp .Lt) (rI0 fun i j => .bl (decide (i < j))) := opB0 fun _ _ _ _ _ _ _ q => lt_int q
theorem op_le : OpR X (compareOp .LtE) (rI0 fun i j => .bl (decide (i ≤ j))) := opB0 fun _ _ _ _ _ _ _ q => le_int q
theorem op_gt : OpR X (compareOp .Gt) (rI0 fun i j => .bl (decide (j < i))) := opB0 fun _ _ _ _ _ _ _ q => gt_int q
theorem op_in_str : OpR X (compareOp .In) (fun x y H Q => ∃ i j, x = .str i ∧ y = .str j ∧ Q (.bl (!(Builtin.Str.occurrences j i 0 j.length 1).isEmpty)) H) := by
  intro pins s σ H x y v u Q I rx ry h
  obtain ⟨i, j, rfl, rfl, q⟩ := h
  obtain ⟨t, rfl⟩ := rx
  obtain ⟨t', rfl⟩ := ry
  exact in_str (fin_bl I q rfl)
theorem op_isN : OpR X (compareOp .Is) (fun x y H Q => y = .non ∧ Q (.bl (decide (x = .non))) H) := by
  intro pins s σ H x y v u Q I rx ry h
  obtain ⟨rfl, q⟩ := h
  cases ry
  refine is_none_gen (fin_bl I q ?_)
  cases x <;> first
    | (cases rx; rfl)
    | (obtain ⟨t, rfl⟩ := rx; rfl)
theorem op_notN : OpR X (compareOp .IsNot) (fun x y H Q => y = .non ∧ Q (.bl (!decide (x = .non))) H) := by
  intro pins s σ H x y v u Q I rx ry h
  obtain ⟨rfl, q⟩ := h
  cases ry
  refine isnot_none_gen (fin_bl I q ?_)
  cases x <;> first
    | (cases rx; rfl)
    | (obtain ⟨t, rfl⟩ := rx; rfl)
theorem op_notin_str : OpR X (compareOp .NotIn) (fun x y H Q => ∃ i j, x = .str i ∧ y = .str j ∧ Q (.bl (!(!(Builtin.Str.occurrences j i 0 j.length 1).isEmpty))) H) := by
  intro pins s σ H x y v u Q I rx ry h
  obtain ⟨i, j, rfl, rfl, q⟩ := h
  obtain ⟨t, rfl⟩ := rx
  obtain ⟨t', rfl⟩ := ry
  exact notIn_str (fin_bl I q rfl)
theorem nomark (b : Expr) {op : CmpOp} (h : op ≠ .In := by decide) (h2 : op ≠ .NotIn := by decide) : behindInMarks op b = false := by
  have e1 : (op == CmpOp.In) = false := by cases op <;> first | rfl | exact absurd rfl h
  have e2 : (op == CmpOp.NotIn) = false := by cases op <;> first | rfl | exact absurd rfl h2
  cases b <;> simp [behindInMarks, e1, e2]
theorem pe_cmpR {op : CmpOp} {r : R2} (ho : OpR X (compareOp op) r) (ha : PE X a ta) (hb : PE X b tb) (hm : behindInMarks op b = false) : PE X (.Compare a [op] [b] pos) (tOp r ta tb) := by
  intro pins s σ H Q I h
  exact wpAny_Compare1 (binT ha hb I h fun v u s2 x y H2 I2 rx ry q => ho pins s2 σ H2 x y v u Q I2 rx ry q) hm
noncomputable def tTest (t : TE) : TT := fun σ H Q => t σ H fun x H' => ∃ k, x = .bl k ∧ Q k H'
theorem pt_cmpR {op : CmpOp} {r : R2} (ho : OpR X (compareOp op) r) (ha : PE X a ta) (hb : PE X b tb) (hm : behindInMarks op b = false) : PT X (.Compare a [op] [b] pos) (tTest (tOp r ta tb)) := by
  intro pins s σ H Q I h
  refine wpAny_isTrue_Compare1 (thn (ha pins s σ H _ I h) fun v s1 ⟨x, H1, I1, r1, q1⟩ => thn (hb pins s1 σ H1 _ I1 q1) fun u s2 ⟨y, H2, I2, r2, q2⟩ =>
    thn (ho pins s2 σ H2 x y v u _ I2 r1 r2 q2) fun c s3 ⟨z, H3, I3, r3, k, e, q3⟩ => ?_) hm
  subst e
  cases r3
  exact wpAny_truthy_bool ⟨H3, I3, q3⟩
noncomputable def tChain (r r' : R2) (ta tb tc : TE) : TE := fun σ H Q => ta σ H fun x H1 => tb σ H1 fun y H2 => r x y H2 fun z H3 => ∃ k, z = .bl k ∧
  (if k = true then tc σ H3 fun w' H4 => r' y w' H4 Q else Q (.bl false) H3)
theorem pe_chain {op op' : CmpOp} {r r' : R2} (ho : OpR X (compareOp op) r) (ho' : OpR X (compareOp op') r') (ha : PE X a ta) (hb : PE X b tb) (hc : PE X c tc)
    (hm : lastMarks [op, op'] [b, c] = false := by with_unfolding_all rfl) : PE X (.Compare a [op, op'] [b, c] pos) (tChain r r' ta tb tc) := by
  intro pins s σ H Q I h
  refine Compare_chain (thn (ha pins s σ H _ I h) fun v s1 ⟨x, H1, I1, r1, q1⟩ => chain_link (thn (hb pins s1 σ H1 _ I1 q1) fun u s2 ⟨y, H2, I2, r2, q2⟩ =>
    thn (ho pins s2 σ H2 x y v u _ I2 r1 r2 q2) fun d s3 ⟨z, H3, I3, r3, k, e, q3⟩ => ?_)) hm
  subst e
  cases r3
  refine wpAny_truthy_bool ?_
  cases k with
  | false => exact ite_ff ⟨.bl false, H3, I3, rfl, q3⟩
  | true => exact ite_tt (chain_last (thn (hc pins s3 σ H3 _ I3 q3) fun w' s4 ⟨z', H4, I4, r4, q4⟩ => ho' pins s4 σ H4 y z' u w' Q I4 r2 r4 q4))
theorem line63 : (sizeLine : Nat) < 2 ^ 63 := by rw [sizeLine_eq]; decide
theorem op_add_str : OpR X (binaryOp .Add) (fun x y H Q => ∃ i j, x = .str i ∧ y = .str j ∧ i.length + j.length ≤ sizeLine ∧ Q (.str (i ++ j)) H) := by
  intro pins s σ H x y v u Q I rx ry h
  obtain ⟨i, j, rfl, rfl, hz, q⟩ := h
  obtain ⟨t, rfl⟩ := rx
  obtain ⟨t', rfl⟩ := ry
  exact add_str (fun t' tk => ⟨.str (i ++ j), H, I.tok _, ⟨_, rfl⟩, q⟩) hz
theorem vals1 {x : V} {us : List Value} (r : Vals [x] us) : ∃ u, us = [u] ∧ RelV x u := by
  cases r with
  | cons r1 r2 => cases r2; exact ⟨_, rfl, r1⟩
theorem vals2 {x y : V} {us : List Value} (r : Vals [x, y] us) : ∃ u w', us = [u, w'] ∧ RelV x u ∧ RelV y w' := by
  cases r with
  | cons r1 r2 =>
    cases r2 with
    | cons r3 r4 => cases r4; exact ⟨_, _, rfl, r1, r3⟩
theorem call_max2 (hc : X.calm = true) : CallR X (.builtin "max") (fun xs H Q => ∃ i j, xs = [.int i, .int j] ∧ Q (.int (if j > i then j else i)) H) := by
  intro pins s σ H xs us Q I r h
  obtain ⟨i, j, rfl, q⟩ := h
  obtain ⟨u, w', rfl, ⟨t, rfl⟩, ⟨t', rfl⟩⟩ := vals2 r
  refine max_two_ints (I.ok.hd hc) fun h' tk k => ⟨_, H, I.kept k, ?_, q⟩
  by_cases hj : j > i
  · rw [if_pos hj, if_pos hj]; exact ⟨_, rfl⟩
  · rw [if_neg hj, if_neg hj]; exact ⟨_, rfl⟩
theorem call_min2 (hc : X.calm = true) : CallR X (.builtin "min") (fun xs H Q => ∃ i j, xs = [.int i, .int j] ∧ Q (.int (if j < i then j else i)) H) := by
  intro pins s σ H xs us Q I r h
  obtain ⟨i, j, rfl, q⟩ := h
  obtain ⟨u, w', rfl, ⟨t, rfl⟩, ⟨t', rfl⟩⟩ := vals2 r
  refine min_two_ints (I.ok.hd hc) fun h' tk k => ⟨_, H, I.kept k, ?_, q⟩
  by_cases hj : j < i
  · rw [if_pos hj, if_pos hj]; exact ⟨_, rfl⟩
  · rw [if_neg hj, if_neg hj]; exact ⟨_, rfl⟩
theorem call_int1 : CallR X (.type "int") (fun xs H Q => (∃ i, xs = [.int i] ∧ Q (.int i) H) ∨ ∃ k, xs = [.bl k] ∧ Q (.int (if k then 1 else 0)) H) := by
  intro pins s σ H xs us Q I r h
  rcases h with ⟨i, rfl, q⟩ | ⟨k, rfl, q⟩
  · obtain ⟨u, rfl, t, rfl⟩ := vals1 r
    exact call_int_int ⟨.int i, H, I, ⟨_, rfl⟩, q⟩
  · obtain ⟨u, rfl, r1⟩ := vals1 r
    cases r1
    exact call_int_bool ⟨.int (if k then 1 else 0), H, I.tok _, ⟨_, rfl⟩, q⟩
noncomputable def LenV (K : PySem.W.Frag) (x : V) (H : Hp) (n : Nat) : Prop :=
  match x with
  | .str y => y.length ≤ sizeLine ∧ n = y.length
  | .byt y => y.size ≤ sizeLine ∧ n = y.size
  | .ref p => (∃ xs, SqL K H p xs ∧ n = xs.length) ∨ ∃ xs, SqT K H p xs ∧ n = xs.length
  | _ => False
theorem call_len : CallR X (.builtin "len") (fun xs H Q => ∃ x n, xs = [x] ∧ LenV X.K x H n ∧ Q (.int n) H) := by
  intro pins s σ H xs us Q I r h
  obtain ⟨x, n, rfl, e, q⟩ := h
  obtain ⟨u, rfl, rx⟩ := vals1 r
  have hl := line63
  have hs : sizeLine = 16777216 := sizeLine_eq
  cases x with
  | str y =>
    obtain ⟨t, rfl⟩ := rx
    obtain ⟨hy, e'⟩ : y.length ≤ sizeLine ∧ n = y.length := e
    subst e'
    exact len_str (by omega) ⟨.int _, H, I.tok _, ⟨_, rfl⟩, q⟩
  | byt y =>
    obtain ⟨t, rfl⟩ := rx
    obtain ⟨hy, e'⟩ : y.size ≤ sizeLine ∧ n = y.size := e
    subst e'
    exact PySem.W.len_bytes (by omega) ⟨.int _, H, I.tok _, ⟨_, rfl⟩, q⟩
  | ref p =>
    cases rx
    have e' : (∃ xs, SqL X.K H p xs ∧ n = xs.length) ∨ ∃ xs, SqT X.K H p xs ∧ n = xs.length := e
    rcases e' with ⟨xs, hx, e'⟩ | ⟨xs, hx, e'⟩
    · subst e'
      obtain ⟨its, r', pl, hz⟩ := I.list hx
      have hlen := r'.length
      exact Calls.call_len_list pl.isList (by simp only [List.size_toArray]; omega) ⟨.int xs.length, H, I.tok _, ⟨_, by simp only [List.size_toArray]; rw [hlen]⟩, q⟩
    · subst e'
      obtain ⟨its, r', pl, hz⟩ := I.tuple hx
      have hlen := r'.length
      exact len_tuple pl (by simp only [List.size_toArray]; omega) ⟨.int xs.length, H, I.tok _, ⟨_, by simp only [List.size_toArray]; rw [hlen]⟩, q⟩
  | _ => exact (show False from e).elim
end
end L2
namespace L2
open PySem PySem.Spec PyProof.Rows
structure ObjM (h : Heap) (x dx C : Addr) (mA : Str → Option Value) : Prop where
  obj : h.get? x = some (PySem.W.instObj C dx)
  ns : h.Ns1 dx mA
  ne : dx ≠ x
theorem lookIn_ns {h : Heap} {dx : Addr} {mA : Str → Option Value} (n : h.Ns1 dx mA) : ∃ od, h.get? dx = some od ∧ ∀ name, PySem.W.lookIn name od = some (mA name) := by
  obtain ⟨o, es, ep, ho, hd, hk, _, hm⟩ := n
  refine ⟨o, ho, fun name => ?_⟩
  have e := hm name
  unfold nsFind findBy at e
  rw [← Array.find?_toList] at e
  unfold PySem.W.lookIn
  rw [hd]
  dsimp only
  split
  · rename_i y q
    rw [q] at e
    exact congrArg some e
  · rename_i q
    rw [q] at e
    have a : es.toList.any (·.refKey) = false := by
      rw [List.any_eq_false]
      intro y hy
      obtain ⟨z, t, hkey⟩ := hk y (Array.mem_toList_iff.mp hy)
      simp [DictEntry.refKey, hkey]
    have a' : ¬ es.toList.any (·.refKey) = true := by rw [a]; exact Bool.false_ne_true
    rw [if_neg a']
    exact congrArg some e
theorem ObjM.look {h : Heap} {x dx C : Addr} {mA : Str → Option Value} (I : ObjM h x dx C mA) : ∃ od, PySem.W.InstAt h x (PySem.W.instObj C dx) C (some od) ∧ ∀ name, PySem.W.lookIn name od = some (mA name) :=
  let ⟨od, ho, hl⟩ := lookIn_ns I.ns
  ⟨od, ⟨I.obj, rfl, rfl, ho⟩, hl⟩
section
variable {prog : Program} {w : World} {A : Around} {E : Value → Shared → Prop} {s : Shared} {K : PySem.W.Frag} {x dx C f : Addr} {mA : Str → Option Value} {name : Str} {v : Value}
end
theorem RelO.some_of {v : V} {o : Option Value} (r : RelO (some v) o) : ∃ u, o = some u ∧ RelV v u := by
  cases o with
  | none => exact (show False from r).elim
  | some u => exact ⟨u, rfl, r⟩
section
variable {P : Program} {w : World} {H H' : Hp} {h h' : Heap} {a C dx : Addr} {fs fs' : List (Str × V)}
theorem ins_get (hok : HOk P w H h) (e : H a = some (.ins C dx fs)) : ∃ mA, ObjM h a dx C mA ∧ (∀ f, RelO (fs.lookup f) (mA f)) ∧ PySem.Within mA (fs.map (·.1)) ∧ fs.length ≤ 1000 ∧ H dx = some (.own a) := by
  obtain ⟨d, z, ne, ob, mA, n, r, q⟩ := (show ObjOk P w H h a (.ins C dx fs) from hok a _ e)
  exact ⟨mA, ⟨ob, n, ne⟩, r, q, z, d⟩
end
structure Cls (K : PySem.W.Frag) (C : Addr) : Prop where
  pg : PySem.W.plainGet K C Str.empty = true
  hd : PySem.W.hasDictIn K C = true
  po : PySem.W.plainOver K C = true
  sa : PySem.W.findIn K (.ref C) "__setattr__" = some (some (.builtin "object.__setattr__"))
theorem Cls.get {K : PySem.W.Frag} {C : Addr} (c : Cls K C) (f : Str) : PySem.W.plainGet K C f = true := c.pg
structure Con (K : PySem.W.Frag) (C : Addr) (f : Str) (v : V) (u : Value) : Prop where
  at_ : PySem.W.findIn K (.ref C) f = some (some u)
  rel : RelV v u
  get : PySem.W.specialIn K u "__get__" = some none
  cp : PySem.W.copiedNames.contains f = false
structure Meth (K : PySem.W.Frag) (C : Addr) (m : Str) (f : Addr) : Prop where
  at_ : PySem.W.findIn K (.ref C) m = some (some (.ref f))
  fn : PySem.W.isFn K (.ref f) = true
  kp : PySem.W.keepIn K (.ref f) = true
section
variable {X : Cx} {pins : List (Addr × Obj)} {σ : St} {H : Hp} {s : Shared} {a C dx : Addr} {fs : List (Str × V)} {f : Str} {v : V} {A : Around} {E : Value → Shared → Prop}
end
section
variable {X : Cx} {o e value : Expr} {f : Str} {pos pos' tpos : Pos} {ta tv : TE}
end
section
variable {X : Cx} {pins : List (Addr × Obj)} {σ : St} {H : Hp} {s : Shared} {A : Around} {E : Value → Shared → Prop} {Q : Value → Shared → Prop} {c : Value} {b : Bool}
inductive TyOf (K : PySem.W.Frag) (H : Hp) : V → Value → Prop where
  | non : TyOf K H .non (.type "NoneType")
  | bl (x : Bool) : TyOf K H (.bl x) (.type "bool")
  | int (i : Int) : TyOf K H (.int i) (.type "int")
  | str (x : Str) : TyOf K H (.str x) (.type "str")
  | flt (x : UInt64) : TyOf K H (.flt x) (.type "float")
  | lst {a : Addr} {xs : List V} (e : H a = some (.lst xs)) : TyOf K H (.ref a) (.type "list")
  | frz {a : Addr} {o : Obj} {xs : List V} (e : H a = some (.frz o (.lst xs))) : TyOf K H (.ref a) (.type "list")
  | tup {a : Addr} {xs : List V} (e : H a = some (.tup xs)) : TyOf K H (.ref a) (.type "tuple")
  | dK {a : Addr} {kvs : List (Key × V)} (e : H a = some (.dK kvs)) : TyOf K H (.ref a) (.type "dict")
  | dT {a : Addr} {kvs : List (List Key × V)} (e : H a = some (.dT kvs)) : TyOf K H (.ref a) (.type "dict")
  | ins {a C dx : Addr} {fs : List (Str × V)} (e : H a = some (.ins C dx fs)) (cl : Cls K C) (ha : PySem.W.findIn K (.ref C) "__class__" = some (some (.builtin "object.__class__")))
      (hn : PySem.W.specialIn K (.builtin "object.__class__") "__get__" = some (some (.builtin "getset_descriptor.__get__"))) (htk : PySem.W.takesIn K (.builtin "object.__class__") = some true)
      (hm : PySem.W.mroIn K C (.type "object") = some true) : TyOf K H (.ref a) (.ref C)
theorem isinst_ok {x : V} {u t : Value} (I : Inv X pins σ H s) (rx : RelV x u) (ty : TyOf X.K H x t) (e : PySem.W.kitOne X.K t c = some b) (h : ∀ tk, Q (.bool b) { s with toks := tk }) :
    wpAny (model X.prog X.w) A (call (.builtin "isinstance") [u, c]) Q E s := by
  cases ty with
  | non => cases (show u = Value.none from rx); exact PySem.W.kia_one PySem.W.kitx_none I.kIn True.intro e (fun z => nomatch z) h
  | bl y => cases (show u = Value.bool y from rx); exact PySem.W.kia_one PySem.W.kitx_bool I.kIn True.intro e (fun z => nomatch z) h
  | int i => obtain ⟨t, q⟩ := (show ∃ t, u = Value.int i t from rx); cases q; exact PySem.W.kia_one PySem.W.kitx_int I.kIn True.intro e (fun z => nomatch z) h
  | str y => obtain ⟨t, q⟩ := (show ∃ t, u = Value.str y t from rx); cases q; exact PySem.W.kia_one PySem.W.kitx_str I.kIn True.intro e (fun z => nomatch z) h
  | flt y => obtain ⟨t, q⟩ := (show ∃ t, u = Value.float y t from rx); cases q; exact PySem.W.kia_one PySem.W.kitx_float I.kIn True.intro e (fun z => nomatch z) h
  | @lst a xs ea =>
    cases (show u = Value.ref a from rx)
    obtain ⟨_, _, n, _, h1⟩ := (show ObjOk X.prog X.w H s.heap a (.lst xs) from I.hok a _ ea)
    exact PySem.W.kia_one PySem.W.kitx_list I.kIn ⟨_, h1, rfl⟩ e (fun z => nomatch z) h
  | @frz a ob xs ea =>
    cases (show u = Value.ref a from rx)
    obtain ⟨_, _, _, n, _, h1⟩ := (show ObjOk X.prog X.w H s.heap a (.frz ob (.lst xs)) from I.hok a _ ea)
    exact PySem.W.kia_one PySem.W.kitx_list I.kIn ⟨_, h1, rfl⟩ e (fun z => nomatch z) h
  | @tup a xs ea =>
    cases (show u = Value.ref a from rx)
    obtain ⟨_, _, _, p⟩ := (show ObjOk X.prog X.w H s.heap a (.tup xs) from I.hok a _ ea)
    obtain ⟨o, h1, h2, _⟩ := p
    exact PySem.W.kia_one PySem.W.kitx_tuple I.kIn ⟨o, h1, h2⟩ e (fun z => nomatch z) h
  | @dK a kvs ea =>
    cases (show u = Value.ref a from rx)
    obtain ⟨_, _, vs, _, p⟩ := (show ObjOk X.prog X.w H s.heap a (.dK kvs) from I.hok a _ ea)
    obtain ⟨o, es, ep, h1, h2, _⟩ := p
    exact PySem.W.kia_one PySem.W.kitx_dict I.kIn ⟨o, h1, h2.1⟩ e (fun z => nomatch z) h
  | @dT a kvs ea =>
    cases (show u = Value.ref a from rx)
    obtain ⟨_, _, xs, _, o, es, ep, h1, h2, _⟩ := (show ObjOk X.prog X.w H s.heap a (.dT kvs) from I.hok a _ ea)
    exact PySem.W.kia_one PySem.W.kitx_dict I.kIn ⟨o, h1, h2.1⟩ e (fun z => nomatch z) h
  | @ins a C dx fs ea cl ha hn htk hm =>
    cases (show u = Value.ref a from rx)
    obtain ⟨mA, O, _⟩ := ins_get I.hok ea
    obtain ⟨od, J, _⟩ := O.look
    exact PySem.W.kia_one (PySem.W.kitx_own (cl.get _) cl.hd ha hn htk hm) I.kIn J e (fun z => nomatch z) h
end
end L2
namespace L2
open PySem PySem.Spec PyProof.Rows
structure Room (k : Nat) (A : Around) : Prop where
  hd : A.handled = none
  dp : A.depth + 3 * k + 5 < recursionLimit
  un : A.units + 16 * k + 200 < cLine
theorem Room.mono {j k : Nat} {A : Around} (r : Room k A) (h : j ≤ k) : Room j A := ⟨r.hd, by have := r.dp; omega, by have := r.un; omega⟩
theorem Room.deeper {k : Nat} {A : Around} (r : Room (k + 1) A) (env : Env) : Room k (A.deeper env) :=
  ⟨r.hd, by have := r.dp; show A.depth + 1 + 3 * k + 5 < _; omega, by have := r.un; show A.units + 3 + 16 * k + 200 < _; omega⟩
theorem Room.depth {k : Nat} {A : Around} (r : Room k A) : A.depth < recursionLimit := by have := r.dp; omega
theorem Room.units {k : Nat} {A : Around} (r : Room k A) : A.units + 64 < cLine := by have := r.un; omega
noncomputable def tNil : TA := fun _ H Q => Q [] H
noncomputable def tCons (ta : TE) (tr : TA) : TA := fun σ H Q => ta σ H fun x H1 => tr σ H1 fun xs H2 => Q (x :: xs) H2
section
variable {X : Cx} {e : Expr} {es : List Expr} {te : TE} {t : TA} {pos : Pos}
theorem pa_nil : PA X [] tNil := fun _ _ _ _ H Q I h => Calls.spliced_nil ⟨[], H, I, .nil, h⟩
theorem pa_cons (ha : PE X e te) (hr : PA X es t) (hs : starEach (e :: es) X.env = (false, eval e X.env) :: starEach es X.env := by rfl) : PA X (e :: es) (tCons te t) := by
  intro pos pins s σ H Q I h
  rw [hs]
  show wpAny _ _ (spliced ((false, eval e X.env) :: backTo pos (starEach es X.env))) _ _ s
  refine Calls.spliced_cons (thn (ha pins s σ H _ I h) fun u s1 ⟨x, H1, I1, r1, q1⟩ => ?_)
  exact thn (hr pos pins s1 σ H1 _ I1 q1) fun us s2 ⟨xs, H2, I2, r2, q2⟩ => ⟨x :: xs, H2, I2, .cons r1 r2, q2⟩
noncomputable def tTup (t : TA) : TE := fun σ H Q => t σ H fun xs H1 => xs.length ≤ sizeLine ∧ ∀ p, H1 p = none → Q (.ref p) (upd H1 p (.tup xs))
noncomputable def tLst (t : TA) : TE := fun σ H Q => t σ H fun xs H1 => xs.length ≤ sizeLine ∧ ∀ p, H1 p = none → Q (.ref p) (upd H1 p (.lst xs))
theorem pe_tup {x1} (h : PA X es t) : PE X (.Tuple es x1 pos) (tTup t) := by
  intro pins s σ H Q I hq
  refine wpAny_Tuple_spliced (thn (h pos pins s σ H _ I hq) fun us s1 ⟨xs, H1, I1, r, z, q⟩ => ⟨by rw [← r.length]; exact z, ?_⟩)
  have hf : H1 s1.heap.objs.size = none := I1.hok.fresh (Nat.le_refl _)
  refine ⟨.ref s1.heap.objs.size, upd H1 s1.heap.objs.size (.tup xs), I1.laid (t' := s1.toks) (fun b u e => Heap.get?_push_of_some _ e) (Nat.le_refl _) ?_, rfl, q _ hf⟩
  exact ⟨z, us, r, ⟨_, Heap.get?_push_size _ rfl, rfl, _, rfl⟩⟩
theorem pe_lst (h : PA X es t) : PE X (.List es pos) (tLst t) := by
  intro pins s σ H Q I hq
  refine wpAny_List_spliced (thn (h pos pins s σ H _ I hq) fun us s1 ⟨xs, H1, I1, r, z, q⟩ => ⟨by rw [← r.length]; exact z, ?_⟩)
  have hf : H1 s1.heap.objs.size = none := I1.hok.fresh (Nat.le_refl _)
  refine ⟨.ref s1.heap.objs.size, upd H1 s1.heap.objs.size (.lst xs), I1.laid (t' := s1.toks) (fun b u e => Heap.get?_push_of_some _ e) (Nat.le_refl _) ?_, rfl, q _ hf⟩
  exact ⟨z, us, 0, r, Heap.get?_push_size _ rfl⟩
end
noncomputable abbrev Sp := List V → Hp → VK → XK → Prop
noncomputable abbrev CXT := List Env → Hp → Shared → XK → Value → Shared → Prop
structure Env0 (P : Program) (w : World) (K : PySem.W.Frag) (mg : Str → Option Value) (base : Heap) (A : Around) (outer : List Env) (s : Shared) (H : Hp) : Prop where
  frames : A.frames = some outer
  mod : Mod K mg base
  bs : ∀ b o, base.get? b = some o → s.heap.get? b = some o ∧ H b = none
  bsz : base.objs.size ≤ s.heap.objs.size
  funs : s.heap.FunFrames base outer
  frf : ∀ b ∈ frs outer, H b = none
  hok : HOk P w H s.heap
  bare : AllBare s.gens
noncomputable def CE (outer : List Env) (P : Program) (w : World) (H : Hp) (s : Shared) (Q : VK) (u : Value) (s' : Shared) : Prop :=
  ∃ v H', s'.os = s.os ∧ AllBare s'.gens ∧ Un (frs outer) [] H H' s.heap s'.heap ∧ HOk P w H' s'.heap ∧ RelV v u ∧ Q v H'
noncomputable def CR (CX : CXT) (outer : List Env) (P : Program) (w : World) (H : Hp) (s : Shared) (Q : VK) (E : XK) (r : Result) (s' : Shared) : Prop :=
  match r with
  | .ok (.ret u) => CE outer P w H s Q u s'
  | .ok _ => False
  | .error e => CX outer H s E e s'
structure FnOk (P : Program) (w : World) (K : PySem.W.Frag) (mg : Str → Option Value) (base : Heap) (CX : CXT) (k : Nat) (f : Addr) (fd : FuncData) (ps : List Str) (sp : Sp) : Prop where
  len : ∀ vs H Q E, sp vs H Q E → vs.length = ps.length
  run : ∀ (A : Around) (outer : List Env) (s : Shared) (H : Hp) (args : Args) (us : List Value) (vs : List V) (Q : VK) (E : XK), Room k A → Env0 P w K mg base A outer s H → BindsTo s fd args (ps.zip us) → Vals vs us → sp vs H Q E →
    codeAny (model P w) A (.call (.ref f) args) (CR CX outer P w H s Q E) s
theorem FnOk.mono {P : Program} {w : World} {K : PySem.W.Frag} {mg : Str → Option Value} {base : Heap} {CX : CXT} {j k : Nat} {f : Addr} {fd : FuncData} {ps : List Str} {sp : Sp} (F : FnOk P w K mg base CX j f fd ps sp) (h : j ≤ k) :
    FnOk P w K mg base CX k f fd ps sp := ⟨F.len, fun A outer s H args us vs Q E hr => F.run A outer s H args us vs Q E (hr.mono h)⟩
theorem FnOk.imp {P : Program} {w : World} {K : PySem.W.Frag} {mg : Str → Option Value} {base : Heap} {CX : CXT} {k : Nat} {f : Addr} {fd : FuncData} {ps : List Str} {sp sp' : Sp} (F : FnOk P w K mg base CX k f fd ps sp)
    (h : ∀ vs H Q E, sp' vs H Q E → sp vs H Q E) : FnOk P w K mg base CX k f fd ps sp' :=
  ⟨fun vs H Q E q => F.len vs H Q E (h _ _ _ _ q), fun A outer s H args us vs Q E hr he hb hv hs => F.run A outer s H args us vs Q E hr he hb hv (h _ _ _ _ hs)⟩
section
variable {X : Cx} {pins : List (Addr × Obj)} {σ : St} {H : Hp} {s s' : Shared}
theorem Inv.env0 (I : Inv X pins σ H s) : Env0 X.prog X.w X.K X.mg X.base X.A X.stack s H :=
  ⟨I.ok.frames, I.ok.mod, I.bs, Nat.le_trans I.ok.bsz I.sz, I.stack, I.stkFree, I.hok, I.bare⟩
theorem Inv.after {Q : VK} {u : Value} (I : Inv X pins σ H s) (h : CE X.stack X.prog X.w H s Q u s') : EP X pins σ Q u s' := by
  obtain ⟨v, H', os, bare, un, hok, r, q⟩ := h
  obtain ⟨hh, g, d, t, os'⟩ := s'
  obtain rfl : os' = s.os := os
  exact ⟨v, H', I.call (h' := hh) (g' := g) (d' := d) (t' := t) (ch := []) un hok bare (fun b z => absurd z (by simp)), r, q⟩
end
noncomputable def tCall (sp : Sp) (dvs : List V) (E : XK) (t : TA) : TE := fun σ H Q => t σ H fun vs H1 => sp (vs ++ dvs) H1 Q E
noncomputable def Binds (K : PySem.W.Frag) (fd : FuncData) (ps : List Str) (ds : List Value) : Prop :=
  ∀ (s : Shared) (us : List Value), K.In s.heap → (us ++ ds).length = ps.length → BindsTo s fd ⟨us, []⟩ (ps.zip (us ++ ds))
theorem Binds.all {K : PySem.W.Frag} {fd : FuncData} {ps : List Str} (h : ∀ us : List Value, us.length = ps.length → bindArgs fd ⟨us, []⟩ = pure (ps.zip us)) : Binds K fd ps [] := fun s us _ hl => by
  rw [List.append_nil] at hl ⊢
  exact .of_eq (h us hl)
noncomputable def Passes (CX : CXT) (X : Cx) (E : XK) : Prop := ∀ (pins : List (Addr × Obj)) (σ : St) (H : Hp) (s : Shared) (e : Value) (s' : Shared), Inv X pins σ H s → CX X.stack H s E e s' → X.xe e s'
section
variable {X : Cx} {CX : CXT} {k : Nat} {f C : Addr} {fd : FuncData} {ps : List Str} {sp : Sp} {dvs : List V} {ds : List Value} {E : XK} {x m : Str} {p pos apos : Pos} {e o : Expr} {es : List Expr} {ta : TE} {t : TA}
theorem run_fn {pins : List (Addr × Obj)} {σ : St} {H : Hp} {s : Shared} {Q : VK} {us : List Value} {vs : List V} (F : FnOk X.prog X.w X.K X.mg X.base CX k f fd ps sp) (hr : Room k X.A) (hb : Binds X.K fd ps ds) (hd : Vals dvs ds) (hx : Passes CX X E)
    (I : Inv X pins σ H s) (r : Vals vs us) (h : sp (vs ++ dvs) H Q E) : wpAny (model X.prog X.w) X.A (call (.ref f) us) (EP X pins σ Q) X.xe s := by
  have r2 : Vals (vs ++ dvs) (us ++ ds) := r.append hd
  have hl : (us ++ ds).length = ps.length := by rw [← r2.length]; exact F.len _ _ _ _ h
  refine wpAny_call (codeAny_mono (F.run X.A X.stack s H ⟨us, []⟩ (us ++ ds) (vs ++ dvs) Q E hr I.env0 (hb s us I.kIn hl) r2 h) fun r s' hq => ?_)
  cases r with
  | error e => exact hx pins σ H s e s' I hq
  | ok fl =>
    cases fl with
    | ret u => exact I.after hq
    | next => exact False.elim hq
    | brk => exact False.elim hq
    | cont => exact False.elim hq
theorem pe_call (F : FnOk X.prog X.w X.K X.mg X.base CX k f fd ps sp) (hr : Room k X.A) (hg : Gl X x) (hm : X.mg x = some (.ref f)) (hk : PySem.W.keepIn X.K (.ref f) = true) (hb : Binds X.K fd ps ds) (hd : Vals dvs ds) (hx : Passes CX X E)
    (ha : PA X (e :: es) t) (hdb : (x == ("__debug__" : Str)) = false := by decide) (he : starEach (e :: es) X.env = (false, eval e X.env) :: starEach es X.env := by rfl) (hpl : (backTo pos (starEach es X.env)).any (·.1) = false := by rfl) :
    PE X (.Call (.Name x p) (e :: es) [] pos) (tCall sp dvs E t) := by
  intro pins s σ H Q I h
  refine wpAny_Call_Name_kw (ld_glob I hg hm ?_ hdb)
  refine PySem.W.callWith_K (h₀ := X.base) I.ok.mod.kin hk (thn (ha pos pins s σ H _ I h) fun us s1 ⟨vs, H1, I1, r, q⟩ => ⟨I1.kIn, ?_⟩) he hpl
  exact run_fn F hr hb hd hx I1 r q
structure Mk (K : PySem.W.Frag) (C f : Addr) : Prop where
  makes : PySem.W.makesIn K C = true
  init : PySem.W.findIn K (.ref C) "__init__" = some (some (.ref f))
  fn : PySem.W.isFn K (.ref f) = true
  kp : PySem.W.keepIn K (.ref C) = true
end
section
variable {X : Cx} {CX : CXT} {k : Nat} {f C : Addr} {fd : FuncData} {ps ks : List Str} {sp : Sp} {E : XK} {x m : Str} {p pos apos kpos : Pos} {e o : Expr} {es : List Expr} {kws : List Keyword} {te ta : TE} {t tk : TA} {nm : Option Str}
structure KBinds (K : PySem.W.Frag) (fd : FuncData) (ps ks : List Str) (g : List Value → List Value → List Value) (gV : List V → List V → List V) : Prop where
  to : ∀ (s : Shared) (us ws : List Value), K.In s.heap → (g us ws).length = ps.length → BindsTo s fd ⟨us, ks.zip ws⟩ (ps.zip (g us ws))
  rel : ∀ {vs : List V} {us : List Value} {zs : List V} {ws : List Value}, Vals vs us → Vals zs ws → Vals (gV vs zs) (g us ws)
variable {g : List Value → List Value → List Value} {gV : List V → List V → List V}
end
structure FnScope (N P : List Str) (sc : Scope) : Prop where
  kind : sc.kind = .function
  co : sc.isCoroutine = false
  gen : sc.isGenerator = false
  nd : N.Nodup
  pre : N.take P.length = P
  par : ∀ x ∈ P, sc.names.lookup x = some .local ∨ sc.names.lookup x = some .cell
  nofree : ∀ y ∈ sc.names, y.2 ≠ .free
theorem bindL_out {kindOf : Str → Option NameKind} {x : Str} : ∀ {binds : List (Str × Value)} {m : Str → Option Value}, (∀ v, (x, v) ∉ binds) → bindL kindOf binds m x = m x
  | [], _, _ => rfl
  | (n, v) :: r, m, h => by
    unfold bindL
    rw [bindL_out fun w hw => h w (List.mem_cons_of_mem _ hw)]
    split
    · have : x ≠ n := by rintro rfl; exact h v List.mem_cons_self
      simp [this]
    · rfl
theorem bindC_out {kindOf : Str → Option NameKind} {x : Str} : ∀ {binds : List (Str × Value)} {m : Str → Option Value}, (∀ v, (x, v) ∉ binds) → bindC kindOf binds m x = m x
  | [], _, _ => rfl
  | (n, v) :: r, m, h => by
    unfold bindC
    rw [bindC_out fun w hw => h w (List.mem_cons_of_mem _ hw)]
    split
    · rfl
    · have : x ≠ n := by rintro rfl; exact h v List.mem_cons_self
      simp [this]
theorem bindL_get {kindOf : Str → Option NameKind} {x : Str} {v : Value} : ∀ {P : List Str} {vs : List Value} {i : Nat} {m : Str → Option Value}, P.Nodup → P[i]? = some x → vs[i]? = some v → kindOf x = some .local →
    bindL kindOf (P.zip vs) m x = some v
  | [], _, _, _, _, h, _, _ => by simp at h
  | _ :: _, [], _, _, _, _, h, _ => by simp at h
  | p :: P, w :: vs, 0, m, nd, h1, h2, hk => by
    simp at h1 h2; subst h1; subst h2
    show bindL kindOf ((p, w) :: P.zip vs) m p = _
    unfold bindL
    rw [bindL_out fun v hv => (List.nodup_cons.mp nd).1 (List.of_mem_zip hv).1, if_pos hk]
    simp
  | p :: P, w :: vs, i + 1, m, nd, h1, h2, hk => by
    show bindL kindOf ((p, w) :: P.zip vs) m x = _
    unfold bindL
    exact bindL_get (i := i) (List.nodup_cons.mp nd).2 (by simpa using h1) (by simpa using h2) hk
theorem bindC_get {kindOf : Str → Option NameKind} {x : Str} {v : Value} : ∀ {P : List Str} {vs : List Value} {i : Nat} {m : Str → Option Value}, P.Nodup → P[i]? = some x → vs[i]? = some v → kindOf x ≠ some .local →
    bindC kindOf (P.zip vs) m x = some v
  | [], _, _, _, _, h, _, _ => by simp at h
  | _ :: _, [], _, _, _, _, h, _ => by simp at h
  | p :: P, w :: vs, 0, m, nd, h1, h2, hk => by
    simp at h1 h2; subst h1; subst h2
    show bindC kindOf ((p, w) :: P.zip vs) m p = _
    unfold bindC
    rw [bindC_out fun v hv => (List.nodup_cons.mp nd).1 (List.of_mem_zip hv).1, if_neg hk]
    simp
  | p :: P, w :: vs, i + 1, m, nd, h1, h2, hk => by
    show bindC kindOf ((p, w) :: P.zip vs) m x = _
    unfold bindC
    exact bindC_get (i := i) (List.nodup_cons.mp nd).2 (by simpa using h1) (by simpa using h2) hk
noncomputable def start (N : List Str) (vs : List V) : St := vs.map some ++ List.replicate (N.length - vs.length) none
noncomputable def cxOf (CX : CXT) (P : Program) (w : World) (K : PySem.W.Frag) (mg : Str → Option Value) (base : Heap) (N : List Str) (qual : Str) (scope : Scope) (f : Addr) (cd : Value) (A : Around) (outer : List Env) (s : Shared) (H : Hp) (E : XK) : Cx where
  prog := P
  w := w
  K := K
  mg := mg
  base := base
  A := A.deeper (envOfC qual scope s.heap.objs.size f cd)
  N := N
  s₀ := s
  H₀ := H
  env := envOfC qual scope s.heap.objs.size f cd
  outer := outer
  stack := envOfC qual scope s.heap.objs.size f cd :: outer
  ex := []
  calm := true
  fn := fun _ => true
  pn := []
  xe := fun e s' => wpAny (model P w) (A.deeper (envOfC qual scope s.heap.objs.size f cd)) (leaving (envOfC qual scope s.heap.objs.size f cd) e) (fun _ s'' => CX outer H s E e s'') (fun e' s'' => CX outer H s E e' s'') s'
theorem cell_has {sc : Scope} {n : Nat} {x : Str} (h : sc.names.lookup x = some .cell) : ∃ c, (cellsFrom n sc.names []).lookup x = some c := by
  have q := PySem.W.cellsFrom_some sc.names n [] (.inl h)
  exact Option.isSome_iff_exists.mp q
theorem inv_start {CX : CXT} {P : Program} {w : World} {K : PySem.W.Frag} {mg : Str → Option Value} {base : Heap} {N ps : List Str} {qual : Str} {scope : Scope} {f : Addr} {cd : Value} {A : Around} {outer : List Env} {s s1 : Shared} {H : Hp} {E : XK} {us : List Value} {vs : List V}
    (S : FnScope N ps scope) (hd : A.handled = none) (e0 : Env0 P w K mg base A outer s H) (hl : vs.length = ps.length) (r : Vals vs us)
    (x : InCallC s s.heap.objs.size (bindL (envOfC qual scope s.heap.objs.size f cd).kindOf (ps.zip us) fun _ => none) (cellsFrom (s.heap.objs.size + 1) scope.names []) (bindC (envOfC qual scope s.heap.objs.size f cd).kindOf (ps.zip us) fun _ => none) s1) :
    Inv (cxOf CX P w K mg base N qual scope f cd A outer s H E) [] (start N vs) H s1 := by
  have hpl : ps.length ≤ N.length := by have := congrArg List.length S.pre; rw [List.length_take] at this; omega
  obtain ⟨h1, tk, rfl, hk⟩ := x.done
  have noA : ∀ b : Addr, b ∉ (cxOf CX P w K mg base N qual scope f cd A outer s H E).ex := fun b z => absurd (show b ∈ ([] : List Addr) from z) (by simp)
  refine ⟨⟨e0.mod, S.kind, rfl, rfl, Nat.le_refl _, fun y z c h1 h2 => ?_, fun y hy => ?_, fun y c _ h => ?_, fun _ => hd, Around.frames_deeper e0.frames, .inr ⟨rfl, rfl⟩, fun b z => absurd z (noA b), e0.bs, e0.bsz, fun b _ _ => noA b, fun b z => absurd z (noA b), e0.funs, e0.frf⟩,
    rfl, e0.bare, Un.kept hk, ⟨_, x.toInCall.ns, fun i y v h1 h2 h3 => ?_⟩, fun y c h => ⟨_, x.cell y c h⟩, e0.hok.fresh (Nat.le_refl _), fun y c h => ?_, fun p hp => absurd (show p ∈ ([] : List (Addr × Obj)) from hp) (by simp), e0.hok.kept hk, ?_⟩
  · exact name_of_addr x.apart (PySem.mem_of_lookup h1) (PySem.mem_of_lookup h2)
  · have hy : scope.names.lookup y = some .cell ∨ scope.names.lookup y = some .free := hy
    rcases hy with hy | hy
    · exact cell_has hy
    · exact absurd rfl (S.nofree _ (PySem.mem_of_lookup hy))
  · exact Nat.le_of_lt (x.above y c (PySem.mem_of_lookup h))
  · have hi : i < vs.length := by
      unfold start at h2
      by_cases hi : i < vs.length
      · exact hi
      · rw [List.getElem?_append_right (by simpa using hi)] at h2
        rw [List.getElem?_replicate] at h2
        split at h2 <;> cases h2
    have ha : vs[i]? = some v := by
      unfold start at h2
      rw [List.getElem?_append_left (by simpa using hi), List.getElem?_map] at h2
      cases e : vs[i]? with
      | none => rw [e] at h2; cases h2
      | some a => rw [e] at h2; cases h2; rfl
    obtain ⟨u, hu, rv⟩ := r.get ha
    have hp : ps[i]? = some y := by
      rw [← S.pre, List.getElem?_take_of_lt (by omega)]; exact h1
    have ndP : ps.Nodup := by rw [← S.pre]; exact S.nd.sublist (List.take_sublist _ _)
    refine ⟨u, rv, ?_⟩
    rcases S.par y (List.mem_of_getElem? hp) with k | k
    · exact .inl ⟨k, bindL_get ndP hp hu k⟩
    · obtain ⟨c, e⟩ := cell_has (n := s.heap.objs.size + 1) k
      refine .inr ⟨.inl k, c, e, ?_⟩
      have q := x.cell y c e
      rw [bindC_get ndP hp hu (by show scope.names.lookup y ≠ _; rw [k]; decide)] at q
      exact q
  · exact e0.hok.fresh (Nat.le_of_lt (x.above y c (PySem.mem_of_lookup h)))
  · unfold start
    show _ = N.length
    rw [List.length_append, List.length_map, List.length_replicate]
    omega
theorem fn_of {CX : CXT} {P : Program} {w : World} {K : PySem.W.Frag} {mg : Str → Option Value} {base : Heap} {k : Nat} {f : Addr} {name qual : Str} {params : Arguments} {body : List Stmt} {scope : Scope} {dV kV doc pm cdv ct oc : Value} {an od : Option Addr}
    {osl : Array (Option Value)} {N ps : List Str} {sp : Sp} (lk : K.lookup f = some ⟨oc, od, .func (PySem.W.fnOf name qual params body scope dV kV doc pm an cdv ct), osl⟩) (hcd : PySem.W.codeIn K cdv qual = true) (S : FnScope N ps scope)
    (len : ∀ vs H Q E, sp vs H Q E → vs.length = ps.length)
    (hbody : ∀ (A : Around) (outer : List Env) (s : Shared) (H : Hp) (vs : List V) (Q : VK) (E : XK), Room k (A.deeper (envOfC qual scope s.heap.objs.size f cdv)) → sp vs H Q E →
      ∃ t, PSs (cxOf CX P w K mg base N qual scope f cdv A outer s H E) body t ∧ t { nx := fun _ H' => Q .non H', rt := Q } (start N vs) H) :
    FnOk P w K mg base CX (k + 1) f (PySem.W.fnOf name qual params body scope dV kV doc pm an cdv ct) ps sp := by
  refine ⟨len, fun A outer s H args us vs Q E hr e0 hb r hsp => ?_⟩
  have hl := len _ _ _ _ hsp
  have KX : K.In s.heap := e0.mod.kin.keeps fun b o e => (e0.bs b o e).1
  have lim : s.heap.NoLimit := e0.mod.nolimit.keeps fun b o e => (e0.bs b o e).1
  have hkind : ∀ y ∈ ps.zip us, scope.names.lookup y.1 = some .local ∨ (scope.names.lookup y.1 = some .cell ∧ ((cellsFrom (s.heap.objs.size + 1) scope.names []).lookup y.1).isSome = true) := fun ⟨n, v⟩ hy => by
    rcases S.par n (List.of_mem_zip hy).1 with q | q
    · exact .inl q
    · exact .inr ⟨q, PySem.W.cellsFrom_some _ _ _ (.inl q)⟩
  refine codeAny_call_function hr.depth (KX _ _ lk) rfl S.co S.gen rfl (PySem.W.codeRec_of KX hcd) (hb _ _ _ _ ?_)
  refine wpAny_newFunctionEnv_cells S.kind hkind fun env he s1 x => ?_
  subst he
  refine ⟨lim.keeps x.toInCall.keep, codeAny_func ?_⟩
  obtain ⟨t, ht, hq⟩ := hbody A outer s H vs Q E (hr.deeper _) hsp
  have I : Inv (cxOf CX P w K mg base N qual scope f cdv A outer s H E) [] (start N vs) H s1 := inv_start S hr.hd e0 hl r x
  refine wpAny_mono (ht [] s1 (start N vs) H _ I hq) (fun fl s' hs => ?_) fun e s' hs => hs
  have fin : ∀ {σ' : St} {H' : Hp} {v : V} {u : Value}, Inv (cxOf CX P w K mg base N qual scope f cdv A outer s H E) [] σ' H' s' → RelV v u → Q v H' → CE outer P w H s Q u s' :=
    fun {σ' H' v u} J rv q => ⟨v, H', J.os, J.bare, J.base, J.hok, rv, q⟩
  cases fl with
  | ret u =>
    obtain ⟨v, σ', H', J, rv, q⟩ := hs
    exact fin J rv q
  | next =>
    obtain ⟨σ', H', J, q⟩ := hs
    exact fin (v := V.non) (u := Value.none) J rfl q
  | brk =>
    obtain ⟨_, _, _, q⟩ := hs
    exact False.elim q
  | cont =>
    obtain ⟨_, _, _, q⟩ := hs
    exact False.elim q
end L2
namespace L2
open PySem PySem.Spec PyProof.Rows
section
variable {X : Cx} {x : Str} {p pos : Pos} {e : Expr} {es : List Expr} {t : TA} {id T : String} {r : List V → Hp → VK → Prop}
noncomputable def tCB (r : List V → Hp → VK → Prop) (t : TA) : TE := fun σ H Q => t σ H fun vs H1 => r vs H1 Q
theorem pe_callB (hc : CallR X (.builtin id) r) (hg : Gl X x) (hm : X.mg x = none) (hv : bootBuiltins x = some (.builtin id)) (ha : PA X (e :: es) t) (hn : x ≠ "__name__" := by decide) (hdb : (x == ("__debug__" : Str)) = false := by decide)
    (he : starEach (e :: es) X.env = (false, eval e X.env) :: starEach es X.env := by rfl) (hpl : (backTo pos (starEach es X.env)).any (·.1) = false := by rfl) : PE X (.Call (.Name x p) (e :: es) [] pos) (tCB r t) := by
  intro pins s σ H Q I h
  refine wpAny_Call_Name_kw (ld_blt I hg hm hv ?_ hn hdb)
  exact PyProof.Rows.callWith_builtin1 (thn (ha pos pins s σ H _ I h) fun us s1 ⟨vs, H1, I1, r1, q1⟩ => hc pins s1 σ H1 vs us Q I1 r1 q1) he hpl
theorem pe_callTy (hc : CallR X (.type T) r) (hg : Gl X x) (hm : X.mg x = none) (hv : bootBuiltins x = some (.type T)) (ha : PA X (e :: es) t) (hn : x ≠ "__name__" := by decide) (hdb : (x == ("__debug__" : Str)) = false := by decide)
    (he : starEach (e :: es) X.env = (false, eval e X.env) :: starEach es X.env := by rfl) (hpl : (backTo pos (starEach es X.env)).any (·.1) = false := by rfl) : PE X (.Call (.Name x p) (e :: es) [] pos) (tCB r t) := by
  intro pins s σ H Q I h
  refine wpAny_Call_Name_kw (ld_blt I hg hm hv ?_ hn hdb)
  exact PyProof.Rows.callWith_type1 (thn (ha pos pins s σ H _ I h) fun us s1 ⟨vs, H1, I1, r1, q1⟩ => hc pins s1 σ H1 vs us Q I1 r1 q1) he hpl
end
end L2
namespace HT
open PySem PyProof.Rows
section
open PySem.SeqAt
open PySem.AutoSeq1 (wpAny_loadPart')
open PySem.MeetsSeq PySem.MeetsSeq2 PySem.MeetsSeq3
end
section
variable {prog : Program} {w : World} {A : Around} {E : Value → Shared → Prop} {s : Shared}
theorem cat_tup {t b : Addr} {vs ws : List Value} {Q : Value → Shared → Prop} (ht : IsTup s.heap t vs.toArray) (hb : IsTup s.heap b ws.toArray) (hv : vs ≠ [])
    (h1 : ws = [] → Q (.ref t) s) (h2 : ws ≠ [] → Q (.ref s.heap.objs.size) { s with heap := s.heap.push { cls := .type "tuple", data := .seq (vs ++ ws).toArray } })
    (hsz : vs.length + ws.length ≤ sizeLine) : wpAny (model prog w) A (binaryOp .Add (.ref t) (.ref b)) Q E s := by
  obtain ⟨⟨cls, dd, data, sl⟩, ho, hc, n, hd⟩ := id ht
  obtain ⟨⟨cls2, dd2, data2, sl2⟩, ho2, hc2, n2, hd2⟩ := id hb
  simp only at hc hd hc2 hd2
  subst hc hd hc2 hd2
  have e : vs.toArray ++ ws.toArray = (vs ++ ws).toArray := by simp
  by_cases hw : ws = []
  · exact concat_meets ⟨_, ho, rfl⟩ ⟨_, ho2, rfl⟩ noFill_tuple_add seq_tuple_add PySem.F.slot_tuple_add PySem.F.entry_tuple_add (PySem.F.args_tuple_add_2 _ _)
      (tuple_addW1 t b vs.toArray ws.toArray n n2 dd dd2 sl sl2 (by simpa using hv) (by simp [hw])) ⟨ho, ho2, h1 hw⟩
  · refine concat_meets ⟨_, ho, rfl⟩ ⟨_, ho2, rfl⟩ noFill_tuple_add seq_tuple_add PySem.F.slot_tuple_add PySem.F.entry_tuple_add (PySem.F.args_tuple_add_2 _ _)
      (tuple_addW2 t b vs.toArray ws.toArray n n2 dd dd2 sl sl2 (by simpa using hv) (by simpa using hw) (by rw [List.size_toArray, List.size_toArray]; exact hsz)) ⟨ho, ho2, ?_⟩
    rw [e]
    exact h2 hw
noncomputable def sIx (n d : Nat) : Option Int → Nat
  | none => d
  | some v => if v < 0 then (v + (n : Int)).toNat else min v.toNat n
theorem sIx_nat (n d k : Nat) : sIx n d (some (k : Int)) = min k n := by
  show (if (k : Int) < 0 then ((k : Int) + (n : Int)).toNat else min (k : Int).toNat n) = min k n
  rw [if_neg (by omega), Int.toNat_natCast]
theorem sIx_le (n d : Nat) (hd : d ≤ n) (o : Option Int) : sIx n d o ≤ n := by
  cases o with
  | none => exact hd
  | some v =>
    show (if v < 0 then (v + (n : Int)).toNat else min v.toNat n) ≤ n
    by_cases hv : v < 0
    · rw [if_pos hv]; omega
    · rw [if_neg hv]; exact Nat.min_le_right _ _
theorem clip_eq (v : Int) (n d : Nat) : (if v < 0 then max (v + (n : Int)) 0 else min v (n : Int)) = ((sIx n d (some v) : Nat) : Int) := by
  show (if v < 0 then max (v + (n : Int)) 0 else min v (n : Int)) = (((if v < 0 then (v + (n : Int)).toNat else min v.toNat n) : Nat) : Int)
  by_cases hv : v < 0
  · simp only [if_pos hv]; omega
  · simp only [if_neg hv]; omega
theorem adjust_gen (lo hi : Option Int) (n : Nat) : Builtin.Slice.sliceAdjust lo hi 1 (n : Int) = (((sIx n 0 lo : Nat) : Int), ((sIx n n hi : Nat) : Int)) := by
  have h1 : ¬ ((1 : Int) < 0) := by omega
  unfold Builtin.Slice.sliceAdjust
  simp only [h1, if_false]
  refine Prod.ext ?_ ?_
  · cases lo with
    | none => rfl
    | some v => exact clip_eq v n 0
  · cases hi with
    | none => rfl
    | some v => exact clip_eq v n n
theorem places_gen (i j : Nat) : Builtin.Slice.slicePlaces (i : Int) (j : Int) 1 = j - i := by
  unfold Builtin.Slice.slicePlaces
  have h1 : (1 : Int) > 0 := by omega
  simp only [h1, if_true, Int.ediv_one]
  split <;> omega
theorem slicePart_ {v : Value} {o : Option Int} {Q : Option Int → Shared → Prop} (p : IsPart v o) (h : Q o s) : wpAny (model prog w) A (Builtin.Slice.slicePartIndex v) Q E s := by
  cases p with
  | none => exact slicePart_none h
  | int i t => exact slicePart_int h
theorem sliceApplied_gen {sl : Addr} {vl vu : Value} {lo hi : Option Int} {n : Nat} {Q : Int × Int × Nat → Shared → Prop} (hs : s.heap.IsSliceOf sl vl vu .none) (pl : IsPart vl lo) (pu : IsPart vu hi)
    (h : Q (((sIx n 0 lo : Nat) : Int), 1, sIx n n hi - sIx n 0 lo) s) : wpAny (model prog w) A (Builtin.Slice.sliceApplied (.ref sl) (pure (n : Int))) Q E s := by
  obtain ⟨os, hos, hcs, hds⟩ := id hs
  unfold Builtin.Slice.sliceApplied Builtin.Slice.sliceFields
  refine wpAny_bind (wpAny_bind (wpAny_field hos hds (x := vl) rfl (wpAny_bind (wpAny_field hos hds (x := vu) rfl (wpAny_bind (wpAny_field hos hds (x := .none) rfl (wpAny_pure ?_)))))))
  refine wpAny_bind (slicePart_none ?_)
  show wpAny _ _ (if ((1 : Int) == 0) = true then _ else _) _ _ s
  rw [if_neg (by decide)]
  refine wpAny_bind (slicePart_ pl (wpAny_bind (slicePart_ pu (wpAny_bind (wpAny_pure ?_)))))
  show wpAny _ _ (match Builtin.Slice.sliceAdjust lo hi 1 (n : Int) with | (lo, hi) => pure (lo, (1 : Int), Builtin.Slice.slicePlaces lo hi 1)) _ _ s
  rw [adjust_gen lo hi n]
  show wpAny _ _ (pure (((sIx n 0 lo : Nat) : Int), (1 : Int), Builtin.Slice.slicePlaces ((sIx n 0 lo : Nat) : Int) ((sIx n n hi : Nat) : Int) 1)) _ _ s
  rw [places_gen]
  exact wpAny_pure h
theorem pick_gen (xs : Array Value) (i k : Nat) : ((List.range k).filterMap fun (m : Nat) => xs[((i : Int) + (m : Int) * 1).toNat]?).toArray = ((xs.toList.drop i).take k).toArray := by
  have e : (fun (m : Nat) => xs[((i : Int) + (m : Int) * 1).toNat]?) = fun m => xs[i + m]? := by
    funext m
    have : ((i : Int) + (m : Int) * 1).toNat = i + m := by omega
    rw [this]
  rw [e]
  have := pick_run xs i k
  rw [List.filterMap_map] at this
  have e2 : ((fun x => xs[x]?) ∘ fun x => i + x) = fun m => xs[i + m]? := rfl
  rw [e2] at this
  rw [this]
theorem getItem_tuple_cut {t sl : Addr} {items : Array Value} {vl vu : Value} {lo hi : Option Int} {Q : Value → Shared → Prop} (ht : IsTup s.heap t items) (hs : s.heap.IsSliceOf sl vl vu .none) (pl : IsPart vl lo) (pu : IsPart vu hi)
    (hw : ¬ (sIx items.size 0 lo = 0 ∧ sIx items.size items.size hi = items.size))
    (h : Q (.ref s.heap.objs.size) { s with heap := s.heap.push { cls := .type "tuple", data := .seq ((items.toList.drop (sIx items.size 0 lo)).take (sIx items.size items.size hi - sIx items.size 0 lo)).toArray } })
    (hsz : items.size ≤ sizeLine) : wpAny (model prog w) A (getItem (.ref t) (.ref sl)) Q E s := by
  have htake : sizeOk (.seq ((items.toList.drop (sIx items.size 0 lo)).take (sIx items.size items.size hi - sIx items.size 0 lo)).toArray) := by
    show ((items.toList.drop (sIx items.size 0 lo)).take (sIx items.size items.size hi - sIx items.size 0 lo)).toArray.size ≤ sizeLine
    rw [List.size_toArray, List.length_take, List.length_drop, Array.length_toList]
    omega
  have hj : sIx items.size items.size hi ≤ items.size := sIx_le _ _ (Nat.le_refl _) hi
  obtain ⟨os, hos, hcs, hds⟩ := id hs
  have hTs : s.TypeIs (.ref sl) "slice" := ⟨os, hos, hcs⟩
  unfold getItem
  try with_reducible refine wpAny_holding ?_
  first | refine wpAny_bind (wpAny_pure ?_) | skip
  refine wpAny_bind (wpAny_sequenceKey ht.typeIs (by decide) ?_)
  refine wpAny_bind (wpAny_callSpecial?_slot (name := Str.ofString "__getitem__") ht.typeIs PyProof.Rows.slot_tuple_getitem
    (wpAny_call_entry PyProof.Rows.slot_tuple_getitem ht.typeIs entry_tuple_getitem ?_ (args_tuple_getitem _ _)))
  show wpAny _ _ (Builtin.Tuple.tupleItemsOf (.ref t) >>= _) _ _ s
  refine wpAny_bind (tupleItemsOf_ ht ?_)
  refine wpAny_bind (wpAny_typeOf hTs ?_)
  rw [if_pos (by decide)]
  refine wpAny_bind (sliceApplied_gen hs pl pu ?_)
  have hno : ¬ ((((sIx items.size 0 lo : Nat) : Int) == 0 && (1 : Int) == 1 && (sIx items.size items.size hi - sIx items.size 0 lo) == items.size) = true) := by
    intro q
    rw [Bool.and_eq_true, Bool.and_eq_true] at q
    have q1 : ((sIx items.size 0 lo : Nat) : Int) = 0 := eq_of_beq q.1.1
    have q2 : sIx items.size items.size hi - sIx items.size 0 lo = items.size := eq_of_beq q.2
    exact hw ⟨by omega, by omega⟩
  show wpAny _ _ (if (((sIx items.size 0 lo : Nat) : Int) == 0 && (1 : Int) == 1 && (sIx items.size items.size hi - sIx items.size 0 lo) == items.size) = true then _ else _) _ _ s
  rw [if_neg hno, pick_gen]
  first
    | exact wpAny_bind (m := Builtin.Tuple.tupleExact _) (wpAny_newObj_type (wpAny_pure ⟨_, rfl, wpAny_pure h⟩) htake)
    | exact wpAny_bind (m := Builtin.Tuple.tupleExact _) (wpAny_newObj_type (wpAny_bind (wpAny_pure (wpAny_pure ⟨_, rfl, wpAny_pure h⟩))) htake)
    | exact wpAny_bind (wpAny_bind (m := Builtin.Tuple.tupleExact _) (wpAny_newObj_type (wpAny_pure (wpAny_pure ⟨_, rfl, wpAny_pure h⟩)) htake))
    | exact wpAny_bind (wpAny_bind (m := Builtin.Tuple.tupleExact _) (wpAny_newObj_type (wpAny_pure ⟨_, rfl, wpAny_pure h⟩) htake))
end
end HT
namespace L2
open PySem PySem.Spec PyProof.Rows
noncomputable abbrev TO := St → Hp → (Option Int → Hp → Prop) → Prop
noncomputable def PO (X : Cx) (e : Option Expr) (t : TO) : Prop :=
  ∀ (pins : List (Addr × Obj)) (s : Shared) (σ : St) (H : Hp) (Q : Option Int → Hp → Prop), Inv X pins σ H s → t σ H Q →
    wpAny (model X.prog X.w) X.A (evalPart e X.env) (fun u s' => ∃ o H', Inv X pins σ H' s' ∧ IsPart u o ∧ Q o H') X.xe s
noncomputable def tNoPart : TO := fun _ H Q => Q none H
noncomputable def tPart (t : TE) : TO := fun σ H Q => t σ H fun x H1 => ∃ i, x = .int i ∧ Q (some i) H1
section
variable {X : Cx} {e : Expr} {te : TE} {lo hi : Option Expr} {tl th : TO} {pos p2 : Pos}
theorem po_none : PO X none tNoPart := by
  intro pins s σ H Q I h
  rw [evalPart_none]
  exact wpAny_pure ⟨none, H, I, .none, h⟩
theorem po_some (h : PE X e te) : PO X (some e) (tPart te) := by
  intro pins s σ H Q I hw
  rw [evalPart_some]
  refine thn (h pins s σ H _ I hw) fun u s1 ⟨x, H1, I1, r1, q1⟩ => ?_
  obtain ⟨i, rfl, q⟩ := q1
  obtain ⟨t, rfl⟩ := r1
  exact ⟨some i, H1, I1, .int i t, q⟩
noncomputable def SlR (X : Cx) (r : V → Option Int → Option Int → Hp → VK → Prop) : Prop :=
  ∀ (pins : List (Addr × Obj)) (s : Shared) (σ : St) (H : Hp) (x : V) (v vl vu : Value) (lo hi : Option Int) (sl : Addr) (Q : VK), Inv X pins σ H s → RelV x v → s.heap.IsSliceOf sl vl vu .none → IsPart vl lo → IsPart vu hi → r x lo hi H Q →
    ∃ T id, typeLookup (.type T) "__getitem__" = pure (some (.builtin id)) ∧ s.TypeIs v T ∧ wpAny (model X.prog X.w) X.A (getItem v (.ref sl)) (EP X pins σ Q) X.xe s
theorem SlR.or {r r' : V → Option Int → Option Int → Hp → VK → Prop} (h : SlR X r) (h' : SlR X r') : SlR X (fun x lo hi H Q => r x lo hi H Q ∨ r' x lo hi H Q) := by
  intro pins s σ H x v vl vu lo hi sl Q I rx hs pl pu q
  rcases q with q | q
  · exact h pins s σ H x v vl vu lo hi sl Q I rx hs pl pu q
  · exact h' pins s σ H x v vl vu lo hi sl Q I rx hs pl pu q
noncomputable def tSl (r : V → Option Int → Option Int → Hp → VK → Prop) (te : TE) (tl th : TO) : TE := fun σ H Q => te σ H fun x H1 => tl σ H1 fun l H2 => th σ H2 fun u H3 => r x l u H3 Q
theorem pe_slice {r : V → Option Int → Option Int → Hp → VK → Prop} (hr : SlR X r) (he : PE X e te) (hl : PO X lo tl) (hu : PO X hi th) : PE X (.Subscript e (.Slice lo hi none p2) pos) (tSl r te tl th) := by
  intro pins s σ H Q I h
  refine Subscript_ (thn (he pins s σ H _ I h) fun v s1 ⟨x, H1, I1, r1, q1⟩ => ?_)
  refine wpAny_Slice (thn (hl pins s1 σ H1 _ I1 q1) fun vl s2 ⟨l, H2, I2, pl, q2⟩ => thn (hu pins s2 σ H2 _ I2 q2) fun vu s3 ⟨u, H3, I3, pu, q3⟩ => ?_)
  rw [evalPart_none]
  refine wpAny_pure ?_
  have I4 : Inv X pins σ H3 { s3 with heap := s3.heap.push { cls := .type "slice", data := .fields #[vl, vu, .none] } } := I3.kept (t' := s3.toks) fun b ob q => Heap.get?_push_of_some _ q
  obtain ⟨T, id, hT, ht, hg⟩ := hr pins { s3 with heap := s3.heap.push { cls := .type "slice", data := .fields #[vl, vu, .none] } } σ H3 x v vl vu l u s3.heap.objs.size Q I4 r1 (Heap.IsSliceOf.new ..) pl pu q3
  show wpAny (model X.prog X.w) X.A (subscriptTail e (.Slice lo hi none p2) v (.ref s3.heap.objs.size)) (EP X pins σ Q) X.xe { s3 with heap := s3.heap.push { cls := .type "slice", data := .fields #[vl, vu, .none] } }
  exact tail_any (ops := [.ref s3.heap.objs.size, v]) ht hT hg (by with_unfolding_all rfl)
noncomputable def cutV (xs : List V) (lo hi : Option Int) : List V := (xs.drop (HT.sIx xs.length 0 lo)).take (HT.sIx xs.length xs.length hi - HT.sIx xs.length 0 lo)
theorem cutV_length (xs : List V) (lo hi : Option Int) : (cutV xs lo hi).length ≤ xs.length := by
  unfold cutV
  rw [List.length_take, List.length_drop]
  omega
noncomputable def rSlT (K : PySem.W.Frag) : V → Option Int → Option Int → Hp → VK → Prop := fun x lo hi H Q => ∃ a xs, x = .ref a ∧ SqT K H a xs ∧
  ¬ (HT.sIx xs.length 0 lo = 0 ∧ HT.sIx xs.length xs.length hi = xs.length) ∧ ∀ p, H p = none → Q (.ref p) (upd H p (.tup (cutV xs lo hi)))
theorem sl_tup : SlR X (rSlT X.K) := by
  intro pins s σ H x v vl vu lo hi sl Q I rx hs pl pu h
  obtain ⟨a, xs, rfl, hx, hw, q⟩ := h
  cases rx
  obtain ⟨its, r, ht, hz⟩ := I.tuple hx
  have hlen : its.toArray.size = xs.length := by rw [List.size_toArray]; exact r.length.symm
  refine ⟨"tuple", _, PyProof.Rows.slot_tuple_getitem.lookup, ht.typeIs, ?_⟩
  refine HT.getItem_tuple_cut ht hs pl pu (by rw [hlen]; exact hw) ?_ (by rw [hlen]; exact hz)
  rw [hlen]
  refine ⟨.ref s.heap.objs.size, _, I.laid (t' := s.toks) (o := .tup (cutV xs lo hi)) (fun b ob q => Heap.get?_push_of_some _ q) (Nat.le_refl _) ?_, rfl, q _ (I.hok.fresh (Nat.le_refl _))⟩
  exact ⟨Nat.le_trans (cutV_length xs lo hi) hz, _, (r.drop (HT.sIx xs.length 0 lo)).take (HT.sIx xs.length xs.length hi - HT.sIx xs.length 0 lo), IsTup.new _ _⟩
noncomputable def rCatT (K : PySem.W.Frag) : R2 := fun x y H Q => ∃ a b xs ys, x = .ref a ∧ y = .ref b ∧ SqT K H a xs ∧ SqT K H b ys ∧ xs ≠ [] ∧ xs.length + ys.length ≤ sizeLine ∧
  (ys = [] → Q (.ref a) H) ∧ (ys ≠ [] → ∀ p, H p = none → Q (.ref p) (upd H p (.tup (xs ++ ys))))
theorem Vals.nil_iff {xs : List V} {us : List Value} (r : Vals xs us) : us = [] ↔ xs = [] := by
  cases r with
  | nil => simp
  | cons _ _ => simp
theorem op_catT : OpR X (binaryOp .Add) (rCatT X.K) := by
  intro pins s σ H x y v u Q I rx ry h
  obtain ⟨a, b, xs, ys, rfl, rfl, ha, hb, hx, hz, q1, q2⟩ := h
  cases rx
  cases ry
  obtain ⟨its, r1, p1, _⟩ := I.tuple ha
  obtain ⟨its2, r2, p2, _⟩ := I.tuple hb
  refine HT.cat_tup p1 p2 (fun z => hx (r1.nil_iff.mp z)) (fun z => ⟨.ref a, H, I, rfl, q1 (r2.nil_iff.mp z)⟩) (fun z => ?_) (by rw [← r1.length, ← r2.length]; exact hz)
  refine ⟨.ref s.heap.objs.size, _, I.laid (t' := s.toks) (o := .tup (xs ++ ys)) (fun b ob q => Heap.get?_push_of_some _ q) (Nat.le_refl _) ?_, rfl, q2 (fun w => z (r2.nil_iff.mpr w)) _ (I.hok.fresh (Nat.le_refl _))⟩
  exact ⟨by rw [List.length_append]; exact hz, _, r1.append r2, IsTup.new _ _⟩
theorem call_tupleT : CallR X (.type "tuple") (fun xs H Q => ∃ a ys, xs = [.ref a] ∧ SqT X.K H a ys ∧ Q (.ref a) H) := by
  intro pins s σ H xs us Q I r h
  obtain ⟨a, ys, rfl, ha, q⟩ := h
  obtain ⟨u, rfl, ru⟩ := vals1 r
  cases ru
  obtain ⟨its, _, p1, _⟩ := I.tuple ha
  exact call_tuple_same (items := its.toArray) p1 ⟨.ref a, H, I, rfl, q⟩
end
end L2
namespace L2
open PySem PySem.Spec PyProof.Rows
noncomputable def ixN (n : Nat) (i : Int) : Option Nat := if 0 ≤ i then (if i < n then some i.toNat else none) else if -(n : Int) ≤ i then some (i + n).toNat else none
noncomputable def atI {α : Type} (xs : List α) (i : Int) : Option α := (ixN xs.length i).bind fun j => xs[j]?
theorem ixN_seq {n : Nat} {i : Int} {j : Nat} (h : ixN n i = some j) : seqIndex? i n = some j ∧ j < n ∧ -(n : Int) ≤ i ∧ i < n := by
  unfold ixN at h
  by_cases h0 : 0 ≤ i
  · rw [if_pos h0] at h
    by_cases h1 : i < n
    · rw [if_pos h1] at h
      have e : i.toNat = j := Option.some.inj h
      exact ⟨by rw [seqIndex_of h0 h1, e], by omega, by omega, h1⟩
    · rw [if_neg h1] at h; cases h
  · rw [if_neg h0] at h
    by_cases h1 : -(n : Int) ≤ i
    · rw [if_pos h1] at h
      have e : (i + n).toNat = j := Option.some.inj h
      exact ⟨by rw [seqIndex_neg (by omega) h1, e], by omega, h1, by omega⟩
    · rw [if_neg h1] at h; cases h
theorem atI_get {α : Type} {xs : List α} {i : Int} {v : α} (h : atI xs i = some v) : ∃ j, seqIndex? i xs.length = some j ∧ xs[j]? = some v ∧ j < xs.length ∧ -(xs.length : Int) ≤ i ∧ i < xs.length := by
  unfold atI at h
  cases e : ixN xs.length i with
  | none => rw [e] at h; cases h
  | some j =>
    rw [e] at h
    obtain ⟨h1, h2, h3, h4⟩ := ixN_seq e
    exact ⟨j, h1, h, h2, h3, h4⟩
noncomputable def PlainIx (b : Expr) : Prop := ∀ o i, subscripted b false o i = operate [o, i] (getItem o i)
noncomputable def IxR (X : Cx) (r : R2) : Prop :=
  ∀ (value slice : Expr) (pins : List (Addr × Obj)) (s : Shared) (σ : St) (H : Hp) (x y : V) (v u : Value) (Q : VK), Inv X pins σ H s → RelV x v → RelV y u → r x y H Q →
    subscripted slice false v u = operate [v, u] (getItem v u) → wpAny (model X.prog X.w) X.A (subscriptTail value slice v u) (EP X pins σ Q) X.xe s
noncomputable def MtR (X : Cx) (id : String) (r : V → List V → Hp → VK → Prop) : Prop :=
  ∀ (pins : List (Addr × Obj)) (s : Shared) (σ : St) (H : Hp) (x : V) (xs : List V) (v : Value) (us : List Value) (Q : VK), Inv X pins σ H s → RelV x v → Vals xs us → r x xs H Q →
    wpAny (model X.prog X.w) X.A (call (.builtin id) (v :: us)) (EP X pins σ Q) X.xe s
section
variable {X : Cx} {a b : Expr} {ta tb : TE} {pos : Pos}
theorem IxR.or {r r' : R2} (h : IxR X r) (h' : IxR X r') : IxR X (fun x y H Q => r x y H Q ∨ r' x y H Q) := by
  intro value slice pins s σ H x y v u Q I rx ry q hs
  rcases q with q | q
  · exact h value slice pins s σ H x y v u Q I rx ry q hs
  · exact h' value slice pins s σ H x y v u Q I rx ry q hs
theorem pe_ix {r : R2} (hr : IxR X r) (ha : PE X a ta) (hb : PE X b tb) (hs : PlainIx b) : PE X (.Subscript a b pos) (tOp r ta tb) := by
  intro pins s σ H Q I h
  exact Subscript_ (binT ha hb I h fun v u s2 x y H2 I2 rx ry q => hr a b pins s2 σ H2 x y v u Q I2 rx ry q (hs _ _))
noncomputable def rIxL (K : PySem.W.Frag) : R2 := fun x y H Q => ∃ p xs i v, x = .ref p ∧ y = .int i ∧ SqL K H p xs ∧ atI xs i = some v ∧ Q v H
noncomputable def rIxT (K : PySem.W.Frag) : R2 := fun x y H Q => ∃ p xs i v, x = .ref p ∧ y = .int i ∧ SqT K H p xs ∧ atI xs i = some v ∧ Q v H
noncomputable def rIxS : R2 := fun x y H Q => ∃ z i c, x = .str z ∧ y = .int i ∧ z.length ≤ sizeLine ∧ atI z.cps.toList i = some c ∧ Q (.str ⟨#[c]⟩) H
theorem ix_list : IxR X (rIxL X.K) := by
  intro value slice pins s σ H x y v u Q I rx ry h hs
  obtain ⟨p, xs, i, z, rfl, rfl, hq, he, q⟩ := h
  cases rx
  obtain ⟨t, rfl⟩ := ry
  obtain ⟨its, r, pl, hz⟩ := I.list hq
  obtain ⟨j, h1, h2, h3, h4, h5⟩ := atI_get he
  obtain ⟨w, ew, rw'⟩ := r.get h2
  have hl := r.length
  have hn := line63
  have fin : EP X pins σ Q w s := ⟨z, H, I, rw', q⟩
  by_cases h0 : 0 ≤ i
  · have hj : i.toNat = j := by
      rw [seqIndex_of h0 h5] at h1
      exact Option.some.inj h1
    exact item_listR pl.isList h0 (by omega) (by rw [hj]; simpa using ew) fin hs
  · have hj : (i + (its.toArray.size : Int)).toNat = j := by
      rw [seqIndex_neg (by omega) h4] at h1
      rw [List.size_toArray, ← hl]
      exact Option.some.inj h1
    exact subscriptTail_builtinR (x := w) pl.isList.typeIs slot_list_getitem.lookup
      (wpAny_getItem_list_neg (Q := fun r s' => r = w ∧ EP X pins σ Q r s') pl.isList (by omega) (by rw [List.size_toArray] <;> omega) (by omega) (by rw [hj]; simpa using ew) ⟨rfl, fin⟩) hs
theorem ix_tup : IxR X (rIxT X.K) := by
  intro value slice pins s σ H x y v u Q I rx ry h hs
  obtain ⟨p, xs, i, z, rfl, rfl, hq, he, q⟩ := h
  cases rx
  obtain ⟨t, rfl⟩ := ry
  obtain ⟨its, r, pl, hz⟩ := I.tuple hq
  obtain ⟨j, h1, h2, h3, h4, h5⟩ := atI_get he
  obtain ⟨w, ew, rw'⟩ := r.get h2
  have hl := r.length
  have hn := line63
  have fin : EP X pins σ Q w s := ⟨z, H, I, rw', q⟩
  exact subscriptTail_builtinR (x := w) pl.typeIs slot_tuple_getitem.lookup
    (getItem_tuple (j := j) (Q := fun r s' => r = w ∧ EP X pins σ Q r s') pl (by omega) (by omega) (by rw [List.size_toArray, ← hl]; exact h1) (by simpa using ew) ⟨rfl, fin⟩) hs
theorem ix_str : IxR X rIxS := by
  intro value slice pins s σ H x y v u Q I rx ry h hs
  obtain ⟨z, i, c, rfl, rfl, hz, he, q⟩ := h
  obtain ⟨t, rfl⟩ := rx
  obtain ⟨t', rfl⟩ := ry
  obtain ⟨j, h1, h2, h3, h4, h5⟩ := atI_get he
  have hl : z.cps.toList.length = z.length := by simp [Str.length]
  rw [hl] at h1 h4 h5
  have hn := line63
  exact tail_any (typeIs_str s z t) slot_str_getitem.lookup (getItem_str (c := c) (by
    have e1 : decide (i < -(2 ^ 63 : Int)) = false := decide_eq_false (by omega)
    have e2 : decide (i ≥ 2 ^ 63) = false := decide_eq_false (by omega)
    rw [e1, e2, Bool.or_false]) (by rw [h1]; simpa using h2) ⟨.str ⟨#[c]⟩, H, I.tok _, ⟨_, rfl⟩, q⟩) hs
noncomputable def rIx (K : PySem.W.Frag) : R2 := fun x y H Q => rIxL K x y H Q ∨ rIxT K x y H Q ∨ rIxS x y H Q
theorem ix_seq : IxR X (rIx X.K) := ix_list.or (ix_tup.or ix_str)
theorem mapSeq_set (its : List Value) (n j : Nat) (u : Value) : Obj.mapSeq (·.setIfInBounds j u) { cls := .type "list", data := .seq its.toArray n } = { cls := .type "list", data := .seq (its.set j u).toArray n } := by
  simp [Obj.mapSeq]
theorem Inv.lst {pins : List (Addr × Obj)} {σ : St} {H : Hp} {s : Shared} {p : Addr} {xs : List V} (I : Inv X pins σ H s) (h : H p = some (.lst xs)) :
    ∃ (its : List Value) (n : Nat), Vals xs its ∧ s.heap.get? p = some { cls := .type "list", data := .seq its.toArray n } ∧ xs.length ≤ sizeLine := by
  obtain ⟨z, its, n, r, e⟩ := I.hok p _ h
  exact ⟨its, n, r, e, z⟩
theorem Inv.lstUpd {pins : List (Addr × Obj)} {σ : St} {H : Hp} {s : Shared} {p : Addr} {xs ys : List V} {its its' : List Value} {n n' : Nat} {f : Obj → Obj} (I : Inv X pins σ H s) (h : H p = some (.lst xs))
    (ho : s.heap.get? p = some { cls := .type "list", data := .seq its.toArray n }) (hf : f { cls := .type "list", data := .seq its.toArray n } = { cls := .type "list", data := .seq its'.toArray n' }) (r : Vals ys its') (hz : ys.length ≤ sizeLine) (t : Nat) :
    Inv X pins σ (upd H p (.lst ys)) { s with heap := s.heap.update p f, toks := t } := by
  have e : (s.heap.update p f).get? p = some { cls := .type "list", data := .seq its'.toArray n' } := by
    rw [Heap.get?_update_self f ho (by rw [hf] <;> rfl), hf]
  refine I.write (x := p) (e := p) (by rw [h]; trivial) (.inl rfl) (fun b u hb q => (Heap.get?_update_other _ _ (Ne.symm hb)).trans q) ⟨_, e⟩ ?_
  exact ⟨hz, its', n', r, e⟩
noncomputable def rSetL : V → V → V → Hp → (Hp → Prop) → Prop := fun o i v H Q => ∃ p xs k j, o = .ref p ∧ i = .int k ∧ H p = some (.lst xs) ∧ ixN xs.length k = some j ∧ Q (upd H p (.lst (xs.set j v)))
theorem set_list : PSet X rSetL := by
  intro pins s σ H o i v ov iv u Q I ro ri rv h
  obtain ⟨p, xs, k, j, rfl, rfl, hp, hj, q⟩ := h
  cases ro
  obtain ⟨t, rfl⟩ := ri
  obtain ⟨its, n, r, ho, hz⟩ := I.lst hp
  obtain ⟨h1, h2, h3, h4⟩ := ixN_seq hj
  have hl := r.length
  have hn := line63
  have I' : Inv X pins σ (upd H p (.lst (xs.set j v))) { s with heap := s.heap.update p (Obj.mapSeq (·.setIfInBounds j u)) } :=
    I.lstUpd hp ho (mapSeq_set its n j u) (r.set rv j) (by rw [List.length_set]; exact hz) s.toks
  by_cases h0 : 0 ≤ k
  · have hk : k.toNat = j := by
      rw [seqIndex_of h0 h4] at h1
      exact Option.some.inj h1
    exact PySem.W.ki_setAt ho h0 (by omega) (by rw [List.size_toArray, ← hl]; exact h4) (by rw [hk]; exact ⟨_, I', q⟩)
  · have hk : (k + (its.toArray.size : Int)).toNat = j := by
      rw [seqIndex_neg (by omega) h3] at h1
      rw [List.size_toArray, ← hl]
      exact Option.some.inj h1
    exact PySem.W.ki_setBack ho (by omega) (by rw [List.size_toArray, ← hl]; exact h3) (by omega) (by rw [hk]; exact ⟨_, I', q⟩)
theorem slice_bounds (lo hi : Option Int) (n : Nat) : (sliceBounds lo hi none n).1 = ((HT.sIx n 0 lo : Nat) : Int) ∧ (sliceBounds lo hi none n).2.1 = ((HT.sIx n n hi : Nat) : Int) ∧ (sliceBounds lo hi none n).2.2 = 1 := by
  refine ⟨?_, ?_, rfl⟩
  · cases lo with
    | none => simp [sliceBounds, HT.sIx]
    | some i =>
      simp only [sliceBounds, HT.sIx, Option.getD_none, show (1 : Int) > 0 by decide, if_true]
      by_cases h : i < 0
      · simp only [h, if_true] <;> omega
      · simp only [h, if_false] <;> omega
  · cases hi with
    | none => simp [sliceBounds, HT.sIx]
    | some i =>
      simp only [sliceBounds, HT.sIx, Option.getD_none, show (1 : Int) > 0 by decide, if_true]
      by_cases h : i < 0
      · simp only [h, if_true] <;> omega
      · simp only [h, if_false] <;> omega
theorem slicePick_cut (its : List Value) (lo hi : Option Int) : slicePick its.toArray lo hi none = ((its.drop (HT.sIx its.length 0 lo)).take (HT.sIx its.length its.length hi - HT.sIx its.length 0 lo)).toArray := by
  obtain ⟨h1, h2, h3⟩ := slice_bounds lo hi its.toArray.size
  unfold slicePick
  rw [h1, h2, h3]
  simp only [sliceRange_one, pick_run, List.size_toArray] <;> rfl
noncomputable def rSlL (K : PySem.W.Frag) : V → Option Int → Option Int → Hp → VK → Prop := fun x lo hi H Q => ∃ a xs, x = .ref a ∧ SqL K H a xs ∧ ∀ p, H p = none → Q (.ref p) (upd H p (.lst (cutV xs lo hi)))
theorem sl_list : SlR X (rSlL X.K) := by
  intro pins s σ H x v vl vu lo hi sl Q I rx hs pl pu h
  obtain ⟨a, xs, rfl, hx, q⟩ := h
  cases rx
  obtain ⟨its, r, ht, hz⟩ := I.list hx
  have hlen := r.length
  refine ⟨"list", _, slot_list_getitem.lookup, ht.isList.typeIs, ?_⟩
  refine wpAny_getItem_list_slice ht.isList hs pl pu .none (by simp) ?_ (by rw [List.size_toArray] <;> omega)
  rw [slicePick_cut, ← hlen]
  refine ⟨.ref s.heap.objs.size, _, I.laid (t' := s.toks) (o := .lst (cutV xs lo hi)) (fun b ob q => Heap.get?_push_of_some _ q) (Nat.le_refl _) ?_, rfl, q _ (I.hok.fresh (Nat.le_refl _))⟩
  exact ⟨Nat.le_trans (cutV_length xs lo hi) hz, _, 0, (r.drop (HT.sIx xs.length 0 lo)).take (HT.sIx xs.length xs.length hi - HT.sIx xs.length 0 lo), Heap.get?_push_size _ rfl⟩
noncomputable def flatV : V → Bool
  | .non => true
  | .bl _ => true
  | .int _ => true
  | .str _ => true
  | _ => false
noncomputable def eqV : V → V → Bool
  | .non, .non => true
  | .bl a, .bl b => a == b
  | .bl a, .int b => (if a then 1 else 0) == b
  | .int a, .bl b => a == (if b then 1 else 0)
  | .int a, .int b => a == b
  | .str a, .str b => a == b
  | _, _ => false
theorem eqAt_V {A : Around} {s : Shared} {y x : V} {u v : Value} (ry : RelV y u) (rx : RelV x v) (fy : flatV y = true) (fx : flatV x = true) : SeqAt.EqAt A s u v (eqV y x) := by
  cases y with
  | non =>
    cases ry
    cases x with
    | non => cases rx; exact SeqAt.EqAt.same _
    | bl b => cases rx; exact SeqAt.EqAt.none_bool b
    | int b => obtain ⟨t, rfl⟩ := rx; exact SeqAt.EqAt.none_int b t
    | str b => obtain ⟨t, rfl⟩ := rx; exact SeqAt.EqAt.none_str b t
    | _ => exact absurd (show false = true from fx) Bool.false_ne_true
  | bl a =>
    cases ry
    cases x with
    | non => cases rx; exact SeqAt.EqAt.bool_none a
    | bl b => cases rx; exact SeqAt.EqAt.bool_bool a b
    | int b => obtain ⟨t, rfl⟩ := rx; exact SeqAt.EqAt.bool_int a b t
    | str b => obtain ⟨t, rfl⟩ := rx; exact SeqAt.EqAt.bool_str a b t
    | _ => exact absurd (show false = true from fx) Bool.false_ne_true
  | int a =>
    obtain ⟨t', rfl⟩ := ry
    cases x with
    | non => cases rx; exact SeqAt.EqAt.int_none a t'
    | bl b => cases rx; exact SeqAt.EqAt.int_bool a t' b
    | int b => obtain ⟨t, rfl⟩ := rx; exact SeqAt.EqAt.int_int a t' b t
    | str b => obtain ⟨t, rfl⟩ := rx; exact SeqAt.EqAt.int_str a t' b t
    | _ => exact absurd (show false = true from fx) Bool.false_ne_true
  | str a =>
    obtain ⟨t', rfl⟩ := ry
    cases x with
    | non => cases rx; exact SeqAt.EqAt.str_none a t'
    | bl b => cases rx; exact SeqAt.EqAt.str_bool a t' b
    | int b => obtain ⟨t, rfl⟩ := rx; exact SeqAt.EqAt.str_int a t' b t
    | str b => obtain ⟨t, rfl⟩ := rx; exact SeqAt.EqAt.str_str a t' b t
    | _ => exact absurd (show false = true from fx) Bool.false_ne_true
  | _ => exact absurd (show false = true from fy) Bool.false_ne_true
noncomputable def eqU (x : V) (u : Value) : Bool := match u with
  | .none => eqV .non x
  | .bool b => eqV (.bl b) x
  | .int i _ => eqV (.int i) x
  | .str z _ => eqV (.str z) x
  | _ => false
theorem eqU_of {x y : V} {u : Value} (r : RelV y u) (f : flatV y = true) : eqU x u = eqV y x := by
  cases y with
  | non => cases r; rfl
  | bl b => cases r; rfl
  | int i => obtain ⟨t, rfl⟩ := r; rfl
  | str z => obtain ⟨t, rfl⟩ := r; rfl
  | _ => exact absurd (show false = true from f) Bool.false_ne_true
theorem any_eqU {x : V} : ∀ {xs : List V} {us : List Value}, Vals xs us → xs.all flatV = true → us.any (eqU x) = xs.any fun y => eqV y x
  | _, _, .nil, _ => rfl
  | y :: xs, u :: us, .cons r t, f => by
    rw [List.all_cons, Bool.and_eq_true] at f
    rw [List.any_cons, List.any_cons, eqU_of r f.1, any_eqU t f.2]
theorem mem_eqAt {A : Around} {s : Shared} {x : V} {v : Value} (rx : RelV x v) (fx : flatV x = true) : ∀ {xs : List V} {us : List Value}, Vals xs us → xs.all flatV = true → ∀ u ∈ us, SeqAt.EqAt A s u v (eqU x u)
  | _, _, .nil, _ => fun u hu => by cases hu
  | y :: xs, u :: us, .cons r t, f => fun u' hu => by
    rw [List.all_cons, Bool.and_eq_true] at f
    rcases List.mem_cons.mp hu with rfl | hu
    · rw [eqU_of r f.1]; exact eqAt_V r rx f.1 fx
    · exact mem_eqAt rx fx t f.2 u' hu
noncomputable def inV (x : V) (xs : List V) : Bool := xs.any fun y => eqV y x
noncomputable def rIn (K : PySem.W.Frag) (neg : Bool) : R2 := fun x y H Q => ∃ p xs, y = .ref p ∧ (SqL K H p xs ∨ SqT K H p xs) ∧ flatV x = true ∧ xs.all flatV = true ∧ Q (.bl (if neg then !inV x xs else inV x xs)) H
theorem op_in_seq : OpR X (compareOp .In) (rIn X.K false) := by
  intro pins s σ H x y v u Q I rx ry h
  obtain ⟨p, xs, rfl, hq, fx, fs, q⟩ := h
  cases ry
  rcases hq with hq | hq
  · obtain ⟨its, r, pl, hz⟩ := I.list hq
    refine SeqAt.in_listAt (eqU x) pl.isList (fun w hw => mem_eqAt rx fx r fs w (by simpa using hw)) ⟨.bl _, H, I, rfl, ?_⟩
    rw [show its.toArray.any (eqU x) = its.any (eqU x) by simp, any_eqU r fs]
    exact q
  · obtain ⟨its, r, pl, hz⟩ := I.tuple hq
    refine SeqAt.in_tupleAt (eqU x) pl (fun w hw => mem_eqAt rx fx r fs w (by simpa using hw)) ⟨.bl _, H, I, rfl, ?_⟩
    rw [show its.toArray.any (eqU x) = its.any (eqU x) by simp, any_eqU r fs]
    exact q
theorem op_notIn_seq : OpR X (compareOp .NotIn) (rIn X.K true) := by
  intro pins s σ H x y v u Q I rx ry h
  obtain ⟨p, xs, rfl, hq, fx, fs, q⟩ := h
  cases ry
  rcases hq with hq | hq
  · obtain ⟨its, r, pl, hz⟩ := I.list hq
    refine SeqAt.notIn_listAt (eqU x) pl.isList (fun w hw => mem_eqAt rx fx r fs w (by simpa using hw)) ⟨.bl _, H, I, rfl, ?_⟩
    rw [show its.toArray.any (eqU x) = its.any (eqU x) by simp, any_eqU r fs]
    exact q
  · obtain ⟨its, r, pl, hz⟩ := I.tuple hq
    refine SeqAt.notIn_tupleAt (eqU x) pl (fun w hw => mem_eqAt rx fx r fs w (by simpa using hw)) ⟨.bl _, H, I, rfl, ?_⟩
    rw [show its.toArray.any (eqU x) = its.any (eqU x) by simp, any_eqU r fs]
    exact q
noncomputable def tyV (K : PySem.W.Frag) (T : String) (x : V) (H : Hp) : Prop := match x with
  | .str _ => T = "str"
  | .int _ => T = "int"
  | .ref p => (T = "list" ∧ ∃ xs, SqL K H p xs) ∨ (T = "tuple" ∧ ∃ o, K.lookup p = some o ∧ o.cls = .type "tuple" ∧ o.dict = none) ∨
      (T = "dict" ∧ ((∃ kvs, H p = some (.dK kvs)) ∨ ∃ kvs, H p = some (.dT kvs))) ∨ (T = "set" ∧ ∃ S n, H p = some (.set S n))
  | _ => False
theorem tyV_is {pins : List (Addr × Obj)} {σ : St} {H : Hp} {s : Shared} {T : String} {x : V} {v : Value} (I : Inv X pins σ H s) (r : RelV x v) (ty : tyV X.K T x H) :
    s.TypeIs v T ∧ ∀ a, v = .ref a → ∃ ob, s.heap.get? a = some ob ∧ ob.dict = none := by
  cases x with
  | str z =>
    obtain ⟨t, rfl⟩ := r
    cases (show T = "str" from ty)
    exact ⟨typeIs_str s z t, fun _ e => nomatch e⟩
  | int i =>
    obtain ⟨t, rfl⟩ := r
    cases (show T = "int" from ty)
    exact ⟨typeIs_int s i t, fun _ e => nomatch e⟩
  | ref p =>
    cases r
    rcases ty with ⟨rfl, xs, hq⟩ | ⟨rfl, o, hk, hc, hd⟩ | ⟨rfl, hk⟩ | ⟨rfl, S, n, hk⟩
    · obtain ⟨its, _, pl, _⟩ := I.list hq
      refine ⟨pl.isList.typeIs, fun a e => ?_⟩
      cases e
      obtain ⟨o, n, e, c, hd, _⟩ := pl
      exact ⟨o, e, hd⟩
    · refine ⟨⟨o, I.kIn p o hk, hc⟩, fun a e => ?_⟩
      cases e
      exact ⟨o, I.kIn _ o hk, hd⟩
    · have z : ∃ o, s.heap.get? p = some o ∧ o.ExactDict := by
        rcases hk with ⟨kvs, hk⟩ | ⟨kvs, hk⟩
        · obtain ⟨_, _, _, _, o, _, _, e, ex, _⟩ := I.hok p _ hk
          exact ⟨o, e, ex⟩
        · obtain ⟨_, _, _, _, o, _, _, e, ex, _⟩ := I.hok p _ hk
          exact ⟨o, e, ex⟩
      obtain ⟨o, e, ex⟩ := z
      refine ⟨⟨o, e, ex.1⟩, fun a e2 => ?_⟩
      cases e2
      exact ⟨o, e, ex.2.1⟩
    · obtain ⟨o, _, _, _, e, ex, _⟩ := I.hok p _ hk
      refine ⟨⟨o, e, ex.1⟩, fun a e2 => ?_⟩
      cases e2
      exact ⟨o, e, ex.2.1⟩
  | _ => exact False.elim ty
noncomputable def tBM (K : PySem.W.Frag) (T : String) (r : V → List V → Hp → VK → Prop) (to : TE) (t : TA) : TE := fun σ H Q => to σ H fun x H1 => tyV K T x H1 ∧ t σ H1 fun xs H2 => r x xs H2 Q
variable {o e : Expr} {es : List Expr} {to : TE} {t : TA} {name : Str} {apos cpos : Pos} {T id : String} {r : V → List V → Hp → VK → Prop}
theorem pe_bm (pa : PlainAttrs T) (slot : Slot T name id) (hty : typeOf (.builtin id) = pure (.type "method_descriptor")) (hm : MtR X id r) (ho : PE X o to) (ha : PA X (e :: es) t)
    (hbase : attributeBase o name X.env (eval o X.env) = eval o X.env := by rfl)
    (hfew : ((backTo cpos (starEach (e :: es) X.env)).all (fun x => !x.1) && (backToKw cpos (keywordEach [] X.env)).all (fun x => x.1.isSome)
      && decide ((e :: es).length + ([] : List Keyword).length + (if ([] : List Keyword).isEmpty then 0 else 1) < 30)) = true := by rfl)
    (hline : (apos.endLine == cpos.line) = true := by rfl) (hs : starEach (e :: es) X.env = (false, eval e X.env) :: starEach es X.env := by rfl) (hplain : (backTo cpos (starEach es X.env)).any (·.1) = false := by rfl) :
    PE X (.Call (.Attribute o name apos) (e :: es) [] cpos) (tBM X.K T r to t) := by
  intro pins s σ H Q I h
  refine wpAny_Call_method_late hbase hfew hline rfl (thn (ho pins s σ H _ I h) fun v s1 ⟨x, H1, I1, r1, ty, q1⟩ => ?_)
  obtain ⟨h1, h2⟩ := tyV_is I1 r1 ty
  refine ⟨T, id, pa, slot, hty, h1, h2, ?_⟩
  have hA := ha cpos pins s1 σ H1 _ I1 q1
  rw [hs] at hA ⊢
  refine Calls.callWith_builtin (by show (false || (backTo cpos (starEach es X.env)).any (·.1)) = false; rw [hplain] <;> rfl) (Calls.evalArgs_plain ?_)
  exact thn hA fun us s2 ⟨vs, H2, I2, r2, q2⟩ => hm pins s2 σ H2 x vs v us Q I2 r1 r2 q2
end
end L2
namespace L2
open PySem PySem.Spec PyProof.Rows
noncomputable def MtM (X : Cx) (id : String) (r : V → List V → Hp → VK → Prop) : Prop :=
  ∀ (pins : List (Addr × Obj)) (s : Shared) (σ : St) (H : Hp) (x : V) (xs : List V) (v : Value) (us : List Value) (Q : VK), Inv X pins σ H s → RelV x v → Vals xs us → r x xs H Q →
    wpAny (model X.prog X.w) X.A (call (.builtin id) (v :: us)) (EP X pins σ Q) X.xe s
theorem Vals.one : ∀ {x : V} {us : List Value}, Vals [x] us → ∃ u, us = [u] ∧ RelV x u
  | _, _, .cons r .nil => ⟨_, rfl, r⟩
theorem Vals.two : ∀ {x y : V} {us : List Value}, Vals [x, y] us → ∃ u v, us = [u, v] ∧ RelV x u ∧ RelV y v
  | _, _, _, .cons r (.cons q .nil) => ⟨_, _, rfl, r, q⟩
theorem Vals.rep {xs : List V} {us : List Value} (h : Vals xs us) : ∀ k : Nat, Vals (List.replicate k xs).flatten (List.replicate k us).flatten
  | 0 => .nil
  | k + 1 => by
    rw [List.replicate_succ, List.replicate_succ, List.flatten_cons, List.flatten_cons]
    exact Vals.append h (Vals.rep h k)
theorem foldl_rep (its : List Value) : ∀ (k : Nat) (acc : List Value),
    List.foldl (fun x1 x2 => x1 ++ x2) acc.toArray (List.replicate k its.toArray) = (acc ++ (List.replicate k its).flatten).toArray
  | 0, acc => by simp
  | k + 1, acc => by
    have e : acc.toArray ++ its.toArray = (acc ++ its).toArray := by simp
    have e2 : (acc ++ its) ++ (List.replicate k its).flatten = acc ++ (List.replicate (k + 1) its).flatten := by
      rw [List.replicate_succ, List.flatten_cons, List.append_assoc]
    rw [← e2, ← foldl_rep its k (acc ++ its), ← e, List.replicate_succ, List.foldl_cons]
section
variable {X : Cx} {pins : List (Addr × Obj)} {σ : St} {H : Hp} {s : Shared} {l b : Addr} {xs ys zs : List V}
theorem Inv.lset {its its' : List Value} {n : Nat} {f : Array Value → Array Value} {t' : Nat} (I : Inv X pins σ H s) (hH : H l = some (.lst xs))
    (e : s.heap.get? l = some { cls := .type "list", data := .seq its.toArray n }) (hf : f its.toArray = its'.toArray) (hv : Vals ys its') (hz : ys.length ≤ sizeLine) :
    Inv X pins σ (upd H l (.lst ys)) { s with heap := s.heap.update l (Obj.mapSeq f), toks := t' } := by
  have q := PySem.IsL.update e f
  rw [hf] at q
  refine I.write (x := l) (e := l) (by rw [hH]; exact trivial) (.inl rfl) (fun b' u hb hu => (Heap.get?_update_other s.heap (Obj.mapSeq f) (Ne.symm hb)).trans hu) ⟨_, q⟩ ?_
  exact ⟨hz, its', _, hv, q⟩
theorem Inv.lnew {its : List Value} {t' : Nat} (I : Inv X pins σ H s) (hv : Vals ys its) (hz : ys.length ≤ sizeLine) :
    Inv X pins σ (upd H s.heap.objs.size (.lst ys)) { s with heap := s.heap.push { cls := .type "list", data := .seq its.toArray }, toks := t' } :=
  I.laid (fun _ _ q => Heap.get?_push_of_some _ q) (Nat.le_refl _) ⟨hz, its, 0, hv, Heap.get?_push_size _ rfl⟩
theorem Inv.fresh (I : Inv X pins σ H s) : H s.heap.objs.size = none := I.hok.fresh (Nat.le_refl _)
theorem Inv.lstM (I : Inv X pins σ H s) (hH : H l = some (.lst xs)) : xs.length ≤ sizeLine ∧ ∃ (its : List Value) (n : Nat), Vals xs its ∧ xs.length = its.length ∧ s.heap.get? l = some { cls := .type "list", data := .seq its.toArray n } := by
  obtain ⟨z, its, n, r, e⟩ := I.hok l _ hH
  exact ⟨z, its, n, r, r.length, e⟩
theorem notLongL {n : Nat} (h : n ≤ sizeLine) : Builtin.List.listTooLong n = false := by
  unfold Builtin.List.listTooLong
  exact decide_eq_false (by omega)
end
section
variable {X : Cx}
noncomputable def rAppend : V → List V → Hp → VK → Prop := fun x vs H Q => ∃ l xs y, x = .ref l ∧ vs = [y] ∧ H l = some (.lst xs) ∧ xs.length < sizeLine ∧ Q .non (upd H l (.lst (xs ++ [y])))
theorem mt_append : MtM X "list.append" rAppend := by
  intro pins s σ H x vs v us Q I rx rv h
  obtain ⟨l, xs, y, rfl, rfl, hH, hz, q⟩ := h
  cases rx
  obtain ⟨u, rfl, ru⟩ := rv.one
  obtain ⟨z, its, n, r, hl, e⟩ := I.lstM hH
  refine call_meets F.slot_list_append ⟨_, e, rfl⟩ F.entry_list_append (F.args_list_append_2 _ _) (PySem.list_append l its.toArray n u (by rw [List.size_toArray]; omega)) ⟨e, ?_⟩
  refine ⟨.non, _, I.lset (its' := its ++ [u]) hH e (by simp) (r.append (.cons ru .nil)) ?_, rfl, q⟩
  rw [List.length_append, List.length_singleton]
  omega
noncomputable def rExtend : V → List V → Hp → VK → Prop := fun x vs H Q => ∃ l b xs zs, x = .ref l ∧ vs = [.ref b] ∧ H l = some (.lst xs) ∧ H b = some (.lst zs) ∧ xs.length + zs.length ≤ sizeLine ∧ Q .non (upd H l (.lst (xs ++ zs)))
theorem mt_extend : MtM X "list.extend" rExtend := by
  intro pins s σ H x vs v us Q I rx rv h
  obtain ⟨l, b, xs, zs, rfl, rfl, hH, hB, hz, q⟩ := h
  cases rx
  obtain ⟨u, rfl, ru⟩ := rv.one
  cases ru
  obtain ⟨z, its, n, r, hl, e⟩ := I.lstM hH
  obtain ⟨z2, its2, n2, r2, hl2, e2⟩ := I.lstM hB
  have hsz : its.toArray.size + its2.toArray.size ≤ sizeLine := by rw [List.size_toArray, List.size_toArray]; omega
  have hlong : ¬ (!its.toArray.isEmpty && Builtin.List.listTooLong (its.toArray.size + its2.toArray.size)) = true := by
    rw [notLongL hsz, Bool.and_false]
    exact Bool.false_ne_true
  refine call_meets F.slot_list_extend ⟨_, e, rfl⟩ F.entry_list_extend (F.args_list_extend_2 _ _)
    (AutoSeq1.list_extend_list_list_0 l its.toArray n b its2.toArray n2 hlong (by rw [List.size_toArray]; omega) (by omega)) ⟨e, e2, ?_⟩
  refine ⟨.non, _, I.lset (its' := its ++ its2) hH e (by simp) (r.append r2) ?_, rfl, q⟩
  rw [List.length_append]
  omega
noncomputable def rCat : R2 := fun x y H Q => ∃ l b xs zs, x = .ref l ∧ y = .ref b ∧ H l = some (.lst xs) ∧ H b = some (.lst zs) ∧ xs.length + zs.length ≤ sizeLine ∧ ∀ p, H p = none → Q (.ref p) (upd H p (.lst (xs ++ zs)))
theorem op_cat : OpR X (binaryOp .Add) rCat := by
  intro pins s σ H x y v u Q I rx ry h
  obtain ⟨l, b, xs, zs, rfl, rfl, hH, hB, hz, q⟩ := h
  cases rx
  cases ry
  obtain ⟨z, its, n, r, hl, e⟩ := I.lstM hH
  obtain ⟨z2, its2, n2, r2, hl2, e2⟩ := I.lstM hB
  refine PySem.P.add_list e e2 ?_ (by rw [List.size_toArray, List.size_toArray]; omega)
  have ea : its.toArray ++ its2.toArray = (its ++ its2).toArray := by simp
  rw [ea]
  exact ⟨.ref _, _, I.lnew (t' := s.toks) (r.append r2) (by rw [List.length_append]; omega), rfl, q _ I.fresh⟩
noncomputable def rRep : R2 := fun x y H Q => ∃ l k xs, x = .ref l ∧ y = .int k ∧ H l = some (.lst xs) ∧ -(2 ^ 63) ≤ k ∧ k < 2 ^ 63 ∧ xs.length * k.toNat ≤ sizeLine ∧
  ∀ p, H p = none → Q (.ref p) (upd H p (.lst (List.replicate k.toNat xs).flatten))
theorem len_rep {α : Type} (xs : List α) (k : Nat) : (List.replicate k xs).flatten.length = k * xs.length := by
  induction k with
  | zero => simp
  | succ k ih => rw [List.replicate_succ, List.flatten_cons, List.length_append, ih, Nat.succ_mul, Nat.add_comm]
theorem op_rep : OpR X (binaryOp .Mult) rRep := by
  intro pins s σ H x y v u Q I rx ry h
  obtain ⟨l, k, xs, rfl, rfl, hH, h1, h2, hz, q⟩ := h
  cases rx
  obtain ⟨t, rfl⟩ := ry
  obtain ⟨z, its, n, r, hl, e⟩ := I.lstM hH
  have hlen : its.toArray.size * k.toNat ≤ sizeLine := by rw [List.size_toArray, ← hl]; exact hz
  have hcap : ¬ its.toArray.size * k.toNat > (2 ^ 63 - 1) / 8 := by
    have : (sizeLine : Nat) ≤ (2 ^ 63 - 1) / 8 := by decide
    omega
  have hfit : ¬ (!Builtin.List.listFitsIndex k) = true := by
    rw [fitsIndex_both h1 h2]
    exact Bool.false_ne_true
  have hlong : ¬ Builtin.List.listTooLong (its.toArray.size * k.toNat) = true := by
    rw [notLongL hlen]
    exact Bool.false_ne_true
  have hnew : List.foldl (fun x1 x2 => x1 ++ x2) #[] (List.replicate (if its.toArray.isEmpty = true then 0 else k.toNat) its.toArray) = (List.replicate k.toNat its).flatten.toArray := by
    have f0 : ∀ m : Nat, List.foldl (fun x1 x2 => x1 ++ x2) #[] (List.replicate m its.toArray) = (List.replicate m its).flatten.toArray := fun m => by
      have := foldl_rep its m []
      rw [List.nil_append] at this
      exact this
    rw [f0]
    cases its with
    | nil => simp
    | cons a r' => rw [if_neg (by simp)]
  refine wpAny_binaryOp_repeat_ref (T := "list") (U := "int") (by decide) ⟨_, e, rfl⟩ (fun s' => typeIs_int s' k t) noFill_list_mul F.fills_int_mul F.slot_int_rmul repeat_list F.slot_int_index.lookup
    (call_meets F.slot_int_rmul (typeIs_int s k t) F.entry_int_rmul (F.args_int_rmul_2 _ _) (int___rmul___int_list k t l its.toArray n)
      ⟨e, rfl, ⟨_, e, rfl⟩, call_meets F.slot_list_mul ⟨_, e, rfl⟩ F.entry_list_mul (F.args_list_mul_2 _ _) (AutoListH.list___mul___list_int_3 l its.toArray n k t hfit hcap hlong) ⟨e, ?_⟩⟩)
  rw [hnew]
  exact ⟨.ref _, _, I.lnew (t' := s.toks) (r.rep k.toNat) (by rw [len_rep, Nat.mul_comm]; exact hz), rfl, q _ I.fresh⟩
end
section
variable {prog : Program} {w : World} {A : Around} {E : Value → Shared → Prop} {s : Shared}
end
section
variable {X : Cx}
end
end L2
namespace L2
open PySem PySem.Spec PyProof.Rows
section
variable {κ : Type} [DecidableEq κ]
noncomputable def valV (kvs : List (κ × V)) (k : κ) : Option V := (kvs.find? fun kv => decide (kv.1 = k)).map (·.2)
noncomputable def putK (kvs : List (κ × V)) (k : κ) (v : V) : List (κ × V) :=
  if (kvs.any fun kv => decide (kv.1 = k)) = true then kvs.map (fun kv => if kv.1 = k then (kv.1, v) else kv) else kvs ++ [(k, v)]
noncomputable def dropK (kvs : List (κ × V)) (k : κ) : List (κ × V) := kvs.filter fun kv => decide (kv.1 ≠ k)
theorem valV_pos {p : κ × V} {r : List (κ × V)} {k : κ} (e : p.1 = k) : valV (p :: r) k = some p.2 := by simp [valV, List.find?_cons, e]
theorem valV_neg {p : κ × V} {r : List (κ × V)} {k : κ} (e : ¬ p.1 = k) : valV (p :: r) k = valV r k := by simp [valV, List.find?_cons, e]
theorem valV_any (k : κ) : ∀ kvs : List (κ × V), (kvs.any fun kv => decide (kv.1 = k)) = (valV kvs k).isSome
  | [] => rfl
  | p :: r => by
    rw [List.any_cons]
    by_cases e : p.1 = k
    · simp only [valV_pos e, decide_eq_true e, Bool.true_or, Option.isSome_some]
    · rw [valV_neg e, decide_eq_false e, Bool.false_or]; exact valV_any k r
theorem length_putK (kvs : List (κ × V)) (k : κ) (v : V) : (putK kvs k v).length ≤ kvs.length + 1 := by
  unfold putK
  split
  · rw [List.length_map]; omega
  · rw [List.length_append, List.length_cons, List.length_nil]; omega
theorem RelO.isSome_eq {o : Option V} {u : Option Value} (r : RelO o u) : o.isSome = u.isSome := by
  cases o with
  | none => cases u with
    | none => rfl
    | some _ => exact (show False from r).elim
  | some _ => cases u with
    | none => exact (show False from r).elim
    | some _ => rfl
theorem RelO.getD {o : Option V} {u : Option Value} {d : V} {d' : Value} (r : RelO o u) (rd : RelV d d') : RelV (o.getD d) (u.getD d') := by
  cases o with
  | none => cases u with
    | none => exact rd
    | some _ => exact (show False from r).elim
  | some _ => cases u with
    | none => exact (show False from r).elim
    | some _ => exact r
theorem KV.val {kvs : List (κ × V)} {vs : List (κ × Value)} (r : KV kvs vs) (k : κ) : RelO (valV kvs k) (valueAt vs k) := by
  unfold KV at r
  induction r with
  | nil => exact True.intro
  | @cons p q ps qs h t ih =>
    obtain ⟨h1, h2⟩ := h
    by_cases e : p.1 = k
    · have e' : q.1 = k := h1.symm.trans e
      have b : valueAt (q :: qs) k = some q.2 := by simp [valueAt, List.find?_cons, e']
      rw [valV_pos e, b]; exact h2
    · have e' : ¬ q.1 = k := fun z => e (h1.trans z)
      have b : valueAt (q :: qs) k = valueAt qs k := by simp [valueAt, List.find?_cons, e']
      rw [valV_neg e, b]; exact ih
theorem KV.any {kvs : List (κ × V)} {vs : List (κ × Value)} (r : KV kvs vs) (k : κ) : (kvs.any fun kv => decide (kv.1 = k)) = vs.any fun kv => decide (kv.1 = k) := by
  unfold KV at r
  induction r with
  | nil => rfl
  | cons h t ih => rw [List.any_cons, List.any_cons, ih, h.1]
theorem KV.repl {kvs : List (κ × V)} {vs : List (κ × Value)} (r : KV kvs vs) (k : κ) {y : V} {u : Value} (ry : RelV y u) :
    KV (kvs.map fun kv => if kv.1 = k then (kv.1, y) else kv) (vs.map fun kv => if kv.1 = k then (kv.1, u) else kv) := by
  unfold KV at r ⊢
  induction r with
  | nil => exact .nil
  | @cons p q ps qs h t ih =>
    rw [List.map_cons, List.map_cons]
    refine .cons ?_ ih
    obtain ⟨h1, h2⟩ := h
    by_cases e : p.1 = k
    · rw [if_pos e, if_pos (h1.symm.trans e)]; exact ⟨h1, ry⟩
    · rw [if_neg e, if_neg (fun z => e (h1.trans z))]; exact ⟨h1, h2⟩
theorem KV.put {kvs : List (κ × V)} {vs : List (κ × Value)} (r : KV kvs vs) (k : κ) {y : V} {u : Value} (ry : RelV y u) : KV (putK kvs k y) (stored vs k u) := by
  unfold putK stored
  rw [r.any k]
  by_cases e : (vs.any fun kv => decide (kv.1 = k)) = true
  · rw [if_pos e, if_pos e]; exact r.repl k ry
  · rw [if_neg e, if_neg e]; exact Paired.snoc r ⟨rfl, ry⟩
theorem KV.length {kvs : List (κ × V)} {vs : List (κ × Value)} (r : KV kvs vs) : kvs.length = vs.length := Paired.length r
end
theorem kV_is {P : Program} {w : World} {k : Key} {u : Value} (r : RelV (kV k) u) : (mixKind P w).is k u = true := by
  cases k with
  | inl i => obtain ⟨t, e⟩ := (show ∃ t, u = Value.int i t from r); subst e; exact mixKind_int P w i t
  | inr x => obtain ⟨t, e⟩ := (show ∃ t, u = Value.str x t from r); subst e; exact mixKind_str P w x t
theorem items_are {P : Program} {w : World} : ∀ {ks : List Key} {us : List Value}, Vals (ks.map kV) us → ItemsAre (mixKind P w) ks us
  | [], _, r => by rw [List.map_nil] at r; cases r; exact .nil
  | k :: ks, _, r => by
    rw [List.map_cons] at r
    cases r with
    | cons h t => exact .cons (kV_is h) (items_are t)
noncomputable abbrev KT (H : Hp) : List (List Key × V) → List (List Key × Addr × Value) → Prop := Paired fun p q => p.1 = q.1 ∧ H q.2.1 = some (.tup (p.1.map kV)) ∧ RelV p.2 q.2.2
theorem KT.val {H : Hp} {kvs : List (List Key × V)} {xs : List (List Key × Addr × Value)} (r : KT H kvs xs) (k : List Key) : RelO (valV kvs k) ((atKey xs k).map (·.2)) := by
  induction r with
  | nil => exact True.intro
  | @cons p q ps qs h t ih =>
    obtain ⟨h1, _, h2⟩ := h
    by_cases e : p.1 = k
    · have e' : q.1 = k := h1.symm.trans e
      have b : atKey (q :: qs) k = some q.2 := by simp [atKey, List.find?_cons, e']
      rw [valV_pos e, b]; exact h2
    · have e' : ¬ q.1 = k := fun z => e (h1.trans z)
      have b : atKey (q :: qs) k = atKey qs k := by simp [atKey, List.find?_cons, e']
      rw [valV_neg e, b]; exact ih
theorem KT.repl {H : Hp} {kvs : List (List Key × V)} {xs : List (List Key × Addr × Value)} (r : KT H kvs xs) (k : List Key) {y : V} {u : Value} (ry : RelV y u) :
    KT H (kvs.map fun kv => if kv.1 = k then (kv.1, y) else kv) (xs.map (putAt k u)) := by
  induction r with
  | nil => exact .nil
  | @cons p q ps qs h t ih =>
    rw [List.map_cons, List.map_cons]
    refine .cons ?_ ih
    obtain ⟨h1, h2, h3⟩ := h
    unfold putAt
    by_cases e : p.1 = k
    · rw [if_pos e, if_pos (h1.symm.trans e)]; exact ⟨h1, h2, ry⟩
    · rw [if_neg e, if_neg (fun z => e (h1.trans z))]; exact ⟨h1, h2, h3⟩
theorem KT.put {H : Hp} {kvs : List (List Key × V)} {xs : List (List Key × Addr × Value)} (r : KT H kvs xs) (k : List Key) {b : Addr} {y : V} {u : Value} (hb : H b = some (.tup (k.map kV))) (ry : RelV y u) :
    KT H (putK kvs k y) (storedH xs k b u) := by
  have e : (kvs.any fun kv => decide (kv.1 = k)) = (atKey xs k).isSome := by
    rw [valV_any, (r.val k).isSome_eq, Option.isSome_map]
  unfold putK storedH
  rw [e]
  by_cases q : (atKey xs k).isSome = true
  · rw [if_pos q, if_pos q]; exact r.repl k ry
  · rw [if_neg q, if_neg q]; exact Paired.snoc r ⟨rfl, hb, ry⟩
theorem KT.keeps {H H' : Hp} {kvs : List (List Key × V)} {xs : List (List Key × Addr × Value)} (r : KT H kvs xs) (ht : ∀ b ys, H b = some (.tup ys) → H' b = some (.tup ys)) : KT H' kvs xs :=
  Paired.mapP r fun _ _ z => ⟨z.1, ht _ _ z.2.1, z.2.2⟩
section
variable {P : Program} {w : World} {H : Hp} {h : Heap} {a : Addr}
theorem rd_of {u : HO} (ok : HOk P w H h) (e : Rd H a u) : ObjOk P w H h a u := e.ok ok
theorem dk_rd {kvs : List (Key × V)} (ok : HOk P w H h) (e : Rd H a (.dK kvs)) : kvs.length ≤ sizeLine ∧ (a == sysModules) = false ∧ ∃ vs, KV kvs vs ∧ h.DictOf (mixKind P w) a vs :=
  show ObjOk P w H h a (.dK kvs) from rd_of ok e
theorem dk_of {kvs : List (Key × V)} (ok : HOk P w H h) (e : H a = some (.dK kvs)) : kvs.length ≤ sizeLine ∧ (a == sysModules) = false ∧ ∃ vs, KV kvs vs ∧ h.DictOf (mixKind P w) a vs := dk_rd ok (.inl e)
theorem key_of {ks : List Key} (ok : HOk P w H h) (e : H a = some (.tup (ks.map kV))) : (tupleKind (mixKind P w)).is h ks a := by
  obtain ⟨_, its, r, o, h1, h2, n, h3⟩ := (show ObjOk P w H h a (.tup (ks.map kV)) from ok a _ e)
  exact ⟨o, its.toArray, n, h1, h2, h3, by simpa using items_are r⟩
theorem dt_rd {kvs : List (List Key × V)} (ok : HOk P w H h) (e : Rd H a (.dT kvs)) : kvs.length ≤ sizeLine ∧ (a == sysModules) = false ∧
    ∃ xs, KT H kvs xs ∧ h.DictOfH (tupleKind (mixKind P w)) a xs := by
  obtain ⟨z, y, xs, r, o, es, ep, h1, h2, h3, h4, h5⟩ := (show ObjOk P w H h a (.dT kvs) from rd_of ok e)
  refine ⟨z, y, xs, r, o, es, ep, h1, h2, h3, h4, fun x hx => ?_, h5⟩
  have all : ∀ {l : List (List Key × V)} {m : List (List Key × Addr × Value)}, KT H l m → ∀ x ∈ m, (tupleKind (mixKind P w)).is h x.1 x.2.1 := by
    intro l m q
    induction q with
    | nil => intro x hx; exact nomatch hx
    | @cons p q ps qs hq t ih =>
      intro x hx
      rcases List.mem_cons.mp hx with e | hx
      · subst e
        exact key_of ok (by rw [← hq.1]; exact hq.2.1)
      · exact ih x hx
  exact all r x hx
theorem dt_of {kvs : List (List Key × V)} (ok : HOk P w H h) (e : H a = some (.dT kvs)) : kvs.length ≤ sizeLine ∧ (a == sysModules) = false ∧
    ∃ xs, KT H kvs xs ∧ h.DictOfH (tupleKind (mixKind P w)) a xs := dt_rd ok (.inl e)
end
noncomputable def DGet (H : Hp) (a : Addr) (y : V) (r : Option V) : Prop :=
  (∃ kvs k, Rd H a (.dK kvs) ∧ y = kV k ∧ r = valV kvs k) ∨ ∃ kvs k b, Rd H a (.dT kvs) ∧ y = .ref b ∧ H b = some (.tup (k.map kV)) ∧ r = valV kvs k
noncomputable def DPut (H : Hp) (a : Addr) (y v : V) (H' : Hp) : Prop :=
  (∃ kvs k, H a = some (.dK kvs) ∧ y = kV k ∧ kvs.length < sizeLine ∧ H' = upd H a (.dK (putK kvs k v))) ∨
  ∃ kvs k b, H a = some (.dT kvs) ∧ y = .ref b ∧ H b = some (.tup (k.map kV)) ∧ kvs.length < sizeLine ∧ H' = upd H a (.dT (putK kvs k v))
theorem DGet.k {H : Hp} {a : Addr} {kvs : List (Key × V)} {k : Key} (e : H a = some (.dK kvs)) : DGet H a (kV k) (valV kvs k) := .inl ⟨kvs, k, .inl e, rfl, rfl⟩
theorem DPut.k {H : Hp} {a : Addr} {kvs : List (Key × V)} {k : Key} {v : V} (e : H a = some (.dK kvs)) (hl : kvs.length < sizeLine) : DPut H a (kV k) v (upd H a (.dK (putK kvs k v))) := .inl ⟨kvs, k, e, rfl, hl, rfl⟩
section
variable {X : Cx} {pins : List (Addr × Obj)} {σ : St} {H : Hp} {s : Shared} {a : Addr} {y v : V} {u r : Value} {o : Option V} {A : Around} {E : Value → Shared → Prop}
theorem Inv.big (I : Inv X pins σ H s) : sysModules < s.heap.objs.size := by
  have h : mainGlobals < s.heap.objs.size := (I.mod.glob.keeps I.bk).lt
  exact Nat.lt_trans (by decide) h
theorem d_in {Q : Value → Shared → Prop} (hu : A.units + 1 < cLine) (I : Inv X pins σ H s) (g : DGet H a y o) (ry : RelV y u) (h : ∀ s', Inv X pins σ H s' → Q (.bool o.isSome) s') :
    wpAny (model X.prog X.w) A (compareOp .In u (.ref a)) Q E s := by
  rcases g with ⟨kvs, k, e, ey, l⟩ | ⟨kvs, k, b, e, ey, eb, l⟩
  · subst ey
    obtain ⟨z, hd, vs, rel, dd⟩ := dk_rd I.hok e
    refine wpAny_in_of (kV_is ry) hd dd.mapOf ?_
    rw [← (rel.val k).isSome_eq, ← l]
    exact h _ (I.tok _)
  · subst ey
    cases (show u = Value.ref b from ry)
    obtain ⟨z, hd, xs, rel, dd⟩ := dt_rd I.hok e
    refine wpAny_in_heap (tupleKind_room_in1 hu) (key_of I.hok eb) hd dd ?_
    have q := (rel.val k).isSome_eq
    rw [Option.isSome_map] at q
    rw [← q, ← l]
    exact h _ (I.tok _)
theorem d_write {h' : Heap} {t' : Nat} {ob : HO} (I : Inv X pins σ H s) (mu : Mut (H a)) (hs : Heap.SameBut a s.heap h') (he : ∃ q, h'.get? a = some q) (new : ObjOk X.prog X.w (upd H a ob) h' a ob) :
    Inv X pins σ (upd H a ob) { s with heap := h', toks := t' } :=
  I.write (x := a) (e := a) mu (.inl rfl) (fun b q hb z => (hs.2 b hb).trans z) he new
theorem dk_new {P : Program} {w : World} {H' : Hp} {h' : Heap} {kvs : List (Key × V)} {vs : List (Key × Value)} (z : kvs.length ≤ sizeLine) (hd : (a == sysModules) = false) (rel : KV kvs vs) (dd : h'.DictOf (mixKind P w) a vs) :
    ObjOk P w H' h' a (.dK kvs) := ⟨z, hd, vs, rel, dd⟩
theorem d_setItem {H' : Hp} {Q : Unit → Shared → Prop} (hu : A.units + 1 < cLine) (I : Inv X pins σ H s) (g : DPut H a y v H') (ry : RelV y u) (rv : RelV v r) (h : ∀ s', Inv X pins σ H' s' → Q () s') :
    wpAny (model X.prog X.w) A (setItem (.ref a) u r) Q E s := by
  rcases g with ⟨kvs, k, e, ey, l, eH⟩ | ⟨kvs, k, b, e, ey, eb, l, eH⟩
  · subst ey eH
    obtain ⟨z, hd, vs, rel, dd⟩ := dk_of I.hok e
    have hz : vs.length ≤ sizeLine := by rw [← rel.length]; exact z
    have hl : (putK kvs k v).length ≤ sizeLine := by have := length_putK kvs k v; omega
    refine wpAny_setItem_pairs (hsz := hz) (kV_is ry) dd fun h' dd' hs => h _ ?_
    have he : ∃ q, h'.get? a = some q := let ⟨q, _, _, hq, _⟩ := dd'; ⟨q, hq⟩
    exact d_write I (by rw [e]; exact True.intro) hs he (dk_new hl hd (rel.put k rv) dd')
  · subst ey eH
    cases (show u = Value.ref b from ry)
    obtain ⟨z, hd, xs, rel, dd⟩ := dt_of I.hok e
    have hz : xs.length ≤ sizeLine := by rw [← Paired.length rel]; exact z
    have hl : (putK kvs k v).length ≤ sizeLine := by have := length_putK kvs k v; omega
    refine wpAny_setItem_heap (hsz := hz) (tupleKind_room_in1 hu) (key_of I.hok eb) dd fun h' dd' hs => h _ ?_
    obtain ⟨q, es, ep, hq, h2, h3, h4, _, h5⟩ := dd'
    refine d_write I (by rw [e]; exact True.intro) hs ⟨q, hq⟩ ⟨hl, hd, _, (rel.put k eb rv).keeps fun c ys ec => ?_, q, es, ep, hq, h2, h3, h4, h5⟩
    rw [upd_ne (ne_of ec e (fun z => nomatch z))]
    exact ec
end
section
variable {X : Cx} {pins : List (Addr × Obj)} {σ : St} {H : Hp} {s : Shared} {a : Addr} {kvs : List (Key × V)} {k : Key} {u : Value} {A : Around} {E : Value → Shared → Prop}
end
noncomputable def NoSl (i : Expr) : Prop := ∀ ov iv, subscripted i false ov iv = operate [ov, iv] (getItem ov iv)
theorem subD_of {prog : Program} {w : World} {A : Around} {E : Value → Shared → Prop} {s : Shared} {env : Env} {value slice : Expr} {pos : Pos} {T id : String} {Q : Value → Shared → Prop}
    (hl : typeLookup (.type T) "__getitem__" = pure (some (.builtin id))) (hs : NoSl slice)
    (h : wpAny (model prog w) A (eval value env) (fun o s₁ => wpAny (model prog w) A (eval slice env) (fun i s₂ => s₂.TypeIs o T ∧ wpAny (model prog w) A (getItem o i) Q E s₂) E s₁) E s) :
    wpAny (model prog w) A (eval (.Subscript value slice pos) env) Q E s := by
  refine Subscript_ (wpAny_mono h (fun o s₁ h₁ => wpAny_mono h₁ (fun i s₂ h₂ => ?_) fun _ _ x => x) fun _ _ x => x)
  obtain ⟨hT, h₂⟩ := h₂
  unfold subscriptTail
  refine wpAny_bind ?_
  rw [getitemInPython_of_ne hT.not_modules]
  refine wpAny_bind (wpAny_specialOf hT hl ?_)
  have fin : wpAny (model prog w) A (subscripted slice false o i) (fun r s₃ => wpAny (model prog w) A (letTemporaryGo value o r >>= fun _ => pure r) Q E s₃) E s₂ := by
    rw [hs o i]
    exact wpAny_operating (wpAny_mono h₂ (fun r s₃ h₃ => wpAny_bind (wpAny_letTemporaryGo (wpAny_pure h₃))) fun _ _ x => x)
  first
    | exact wpAny_pure (wpAny_bind fin)
    | exact wpAny_bind (wpAny_pure (wpAny_bind fin))
    | exact wpAny_bind fin
noncomputable def tDIn (ty td : TE) : TE := fun σ H Q => ty σ H fun y H1 => td σ H1 fun x H2 => ∃ a o, x = .ref a ∧ DGet H2 a y o ∧ Q (.bl o.isSome) H2
noncomputable def sDPut (td ty tv : TE) : TS := fun D σ H => tv σ H fun v H1 => td σ H1 fun x H2 => ty σ H2 fun y H3 => ∃ a H4, x = .ref a ∧ DPut H3 a y v H4 ∧ D.nx σ H4
section
variable {X : Cx} {o i e value : Expr} {pos pos' tpos : Pos} {td ty tv : TE}
theorem pc_din (hu : X.A.units + 1 < cLine) (hi : PE X i ty) (ho : PE X o td) : PC X .In i o (tDIn ty td) := by
  intro pins s σ H Q I h
  refine thn (hi pins s σ H _ I h) fun iv s1 ⟨y, H1, I1, ry, q1⟩ => thn (ho pins s1 σ H1 _ I1 q1) fun u s2 ⟨x, H2, I2, rx, a, ov, ex, g, q2⟩ => ?_
  subst ex
  obtain rfl : u = Value.ref a := rx
  exact d_in hu I2 g ry fun s3 I3 => ⟨.bl ov.isSome, H2, I3, rfl, q2⟩
theorem ps_dput (hu : X.A.units + 1 < cLine) (ho : PE X o td) (hi : PE X i ty) (hv : PE X value tv) (hs : swapsWith value (some (.Subscript o i pos')) pos.line X.env = pure false) :
    PS X (.Assign [.Subscript o i pos'] value pos) (sDPut td ty tv) := by
  intro pins s σ H D I h
  refine wpAny_Assign_Subscript (thn (hv pins s σ H _ I h) fun r s1 ⟨v, H1, I1, rv, q1⟩ => thn (ho pins s1 σ H1 _ I1 q1) fun u s2 ⟨x, H2, I2, rx, q2⟩ => thn (hi pins s2 σ H2 _ I2 q2) fun iv s3 ⟨y, H3, I3, ry, a, H4, ex, g, q3⟩ => ?_) hs
  subst ex
  obtain rfl : u = Value.ref a := rx
  exact d_setItem hu I3 g ry rv fun s4 I4 => ⟨σ, H4, I4, q3⟩
end
theorem dk_empty {P : Program} {w : World} {H : Hp} (h : Heap) (hb : sysModules < h.objs.size) : ObjOk P w H (h.push { cls := .type "dict", data := .dict #[] }) h.objs.size (.dK []) :=
  ⟨Nat.zero_le _, beq_eq_false_iff_ne.mpr (Ne.symm (Nat.ne_of_lt hb)), [], .nil, Heap.DictOf.new h⟩
noncomputable def tDNewK : TE := fun _ H Q => ∀ p, H p = none → Q (.ref p) (upd H p (.dK []))
section
variable {X : Cx} {pos : Pos}
theorem pe_dnewK : PE X (.Dict [] [] pos) tDNewK := fun pins s σ H Q I h =>
  wpAny_Dict_empty ⟨.ref s.heap.objs.size, _, I.laid (a := s.heap.objs.size) (o := .dK []) (t' := s.toks) (fun _ _ q => Heap.get?_push_of_some _ q) (Nat.le_refl _) (dk_empty s.heap I.big), rfl, h _ (I.hok.fresh (Nat.le_refl _))⟩
end
structure M1 (X : Cx) (o : Expr) (m : Str) (apos : Pos) (e : Expr) (cpos : Pos) : Prop where
  base : attributeBase o m X.env (eval o X.env) = eval o X.env
  few : ((backTo cpos (starEach [e] X.env)).all (fun x => !x.1) && (backToKw cpos (keywordEach [] X.env)).all (fun x => x.1.isSome)
    && decide (([e] : List Expr).length + ([] : List Keyword).length + (if ([] : List Keyword).isEmpty then 0 else 1) < 30)) = true
  line : (apos.endLine == cpos.line) = true
  trees : backTo cpos (starEach [e] X.env) = [(false, eval e X.env)]
structure M2 (X : Cx) (o : Expr) (m : Str) (apos : Pos) (e f : Expr) (cpos : Pos) : Prop where
  base : attributeBase o m X.env (eval o X.env) = eval o X.env
  few : ((backTo cpos (starEach [e, f] X.env)).all (fun x => !x.1) && (backToKw cpos (keywordEach [] X.env)).all (fun x => x.1.isSome)
    && decide (([e, f] : List Expr).length + ([] : List Keyword).length + (if ([] : List Keyword).isEmpty then 0 else 1) < 30)) = true
  line : (apos.endLine == cpos.line) = true
  trees : backTo cpos (starEach [e, f] X.env) = [(false, eval e X.env), (false, eval f X.env)]
noncomputable def IsD (H : Hp) (a : Addr) : Prop := (∃ kvs, Rd H a (.dK kvs)) ∨ ∃ kvs, Rd H a (.dT kvs)
theorem isD_at {X : Cx} {pins : List (Addr × Obj)} {σ : St} {H : Hp} {s : Shared} {a : Addr} (I : Inv X pins σ H s) (d : IsD H a) :
    s.TypeIs (.ref a) "dict" ∧ (∀ b, Value.ref a = .ref b → ∃ ob, s.heap.get? b = some ob ∧ ob.dict = none) ∧ (a == sysModules) = false := by
  rcases d with ⟨kvs, e⟩ | ⟨kvs, e⟩
  · obtain ⟨_, hd, vs, _, dd⟩ := dk_rd I.hok e
    refine ⟨dd.typeIs, fun b q => ?_, hd⟩
    cases q
    obtain ⟨ob, _, _, h1, h2, _⟩ := dd
    exact ⟨ob, h1, h2.2.1⟩
  · obtain ⟨_, hd, xs, _, dd⟩ := dt_rd I.hok e
    refine ⟨dd.typeIs, fun b q => ?_, hd⟩
    cases q
    obtain ⟨ob, _, _, h1, h2, _⟩ := dd
    exact ⟨ob, h1, h2.2.1⟩
section
variable {X : Cx} {pins : List (Addr × Obj)} {σ : St} {H : Hp} {s : Shared} {a : Addr} {y d : V} {u r : Value} {o : Option V} {A : Around} {E : Value → Shared → Prop}
theorem d_get1 {Q : Value → Shared → Prop} (hu : A.units + 1 < cLine) (I : Inv X pins σ H s) (g : DGet H a y o) (ry : RelV y u) (h : ∀ w' s', Inv X pins σ H s' → RelV (o.getD .non) w' → Q w' s') :
    wpAny (model X.prog X.w) A (call (.builtin "dict.get") [.ref a, u]) Q E s := by
  rcases g with ⟨kvs, k, e, ey, l⟩ | ⟨kvs, k, b, e, ey, eb, l⟩
  · subst ey
    obtain ⟨z, hd, vs, rel, dd⟩ := dk_rd I.hok e
    refine call_meetsIn PySem.F.slot_dict_get dd.typeIs PySem.F.entry_dict_get (PySem.F.args_dict_get_2 _ _) (meets_dict_get (mixKind X.prog X.w) a (kV_is ry) hd) ⟨_, dd.mapOf, h _ _ (I.tok _) ?_⟩
    rw [l]
    exact (rel.val k).getD rfl
  · subst ey
    cases (show u = Value.ref b from ry)
    obtain ⟨z, hd, xs, rel, dd⟩ := dt_rd I.hok e
    refine call_meetsIn PySem.F.slot_dict_get dd.typeIs PySem.F.entry_dict_get (PySem.F.args_dict_get_2 _ _) (meetsH_dict_get (tupleKind (mixKind X.prog X.w)) a b hd) ⟨tupleKind_room_in1 hu, k, xs, key_of I.hok eb, dd, h _ _ (I.tok _) ?_⟩
    rw [l]
    exact (rel.val k).getD rfl
end
noncomputable def tDGet1 (td ty : TE) : TE := fun σ H Q => td σ H fun x H1 => ∃ a, x = .ref a ∧ IsD H1 a ∧ ty σ H1 fun y H2 => ∃ o, DGet H2 a y o ∧ Q (o.getD .non) H2
section
variable {X : Cx} {o e f : Expr} {apos cpos : Pos} {td ty tx : TE}
theorem pe_dget1 (hu : X.A.units + 1 < cLine) (ho : PE X o td) (he : PE X e ty) (m : M1 X o "get" apos e cpos) : PE X (.Call (.Attribute o "get" apos) [e] [] cpos) (tDGet1 td ty) := by
  intro pins s σ H Q I h
  refine wpAny_Call_method m.base m.few m.line PySem.F.plainAttrs_dict PySem.F.slot_dict_get PySem.F.type_dict_get (thn (ho pins s σ H _ I h) fun u s1 ⟨x, H1, I1, rx, a, ex, d, q1⟩ => ?_)
  subst ex
  obtain rfl : u = Value.ref a := rx
  obtain ⟨t1, t2, _⟩ := isD_at I1 d
  refine ⟨t1, t2, ?_⟩
  rw [m.trees]
  refine Calls.callWith_builtin rfl (Calls.evalArgs_plain (Calls.spliced_cons (thn (he pins s1 σ H1 _ I1 q1) fun iv s2 ⟨y, H2, I2, ry, ov, g, q2⟩ => Calls.spliced_nil ?_)))
  exact d_get1 hu I2 g ry fun w' s3 I3 rw' => ⟨_, H2, I3, rw', q2⟩
end
section
variable {X : Cx} {pins : List (Addr × Obj)} {σ : St} {H : Hp} {s : Shared} {a : Addr} {kvs : List (Key × V)} {A : Around} {E : Value → Shared → Prop}
end
section
variable {X : Cx} {pins : List (Addr × Obj)} {σ : St} {H : Hp} {s : Shared} {a : Addr} {y : V} {u : Value} {A : Around} {E : Value → Shared → Prop}
end
end L2
namespace Att
open PySem PySem.W PySem.Calls PyProof.Rows
theorem ints_of_wellAll {P : Params} {h : Heap} : ∀ (ns : List Int) (vs : List Value), WellAll P h vs (ns.map WData.int) → IntsAre vs ns := by
  intro ns
  induction ns with
  | nil =>
    intro vs w
    rw [List.map_nil] at w
    cases w
    exact .nil
  | cons n ns ih =>
    intro vs w
    rw [List.map_cons] at w
    cases w with
    | cons a b =>
      cases a
      exact .cons _ _ (ih _ b)
theorem script_of {l : OpenLaw} {n : Nat} (hn : l.most = some n) {P : Params} {h : Heap} {args : List WData} {vals : List Value}
    (hpre : l.row.toRowW.claim.pre args = true) (hwl : WellAll P h vals args) :
    ∃ a vs ns, vals = [Value.ref a] ∧ args = [WData.list (ns.map WData.int)] ∧ h.get? a = some { cls := .type "list", data := .seq vs.toArray } ∧ IntsAre vs ns ∧ ns.length ≤ n := by
  have hsh : WShape.hasAll [] args [.list .int] = true := (pre_splitW hpre).1
  have hc : l.pre.holds [] { args := args } = true := (pre_splitW hpre).2
  obtain ⟨d, r, rfl, h1, h2⟩ := hasAllW_cons hsh
  obtain rfl := hasAllW_nil h2
  obtain ⟨xs, rfl, h3⟩ := hasW_list h1
  obtain ⟨ns, rfl⟩ := items_int h3
  have hlen : ns.length ≤ n := by
    unfold OpenLaw.pre at hc
    have h4 : (WTm.not (.lt (.lit (.int (n : Int))) (.len (.arg 0)))).holds [] { args := [.list (ns.map .int)] } = true := by
      have h4 := (holds_andW hc).1
      rw [hn] at h4
      exact h4
    have h5 := condW_of h4 (w_not (w_lt w_lit (w_len_list (w_arg rfl))))
    rw [List.length_map] at h5
    refine Nat.le_of_not_lt fun q => ?_
    have q' : (n : Int) < ((ns.length : Nat) : Int) := by omega
    first
      | (rw [decide_eq_true q'] at h5; exact absurd h5 (by decide))
      | (simp at h5; omega)
  cases hwl with
  | cons w1 w2 =>
    cases w2
    cases w1 with
    | list ho hall => exact ⟨_, _, ns, rfl, rfl, ho, ints_of_wellAll ns _ hall, hlen⟩
theorem post_true (l : OpenLaw) (args : List WData) : l.row.toRowW.claim.post args (.bool true) args = true :=
  postW_of (r := l.row.toRowW) (X := (true == true))
    (show WShape.has [] (.bool true) .bool = true by first | rfl | decide | simp [WShape.has, WShape.arms, WShape.armsAll])
    (show (WTm.eq .res (.lit (.bool true))).value [] { args := args, res := some (.bool true), after := args } = some (.bool (true == true)) from w_eq_bool (w_res rfl) w_lit) rfl
theorem attach_call {l : OpenLaw} {n : Nat} {q : Program} {loose : List Str} {XP : (Str → Option Value) → Heap → Prop} {YP : World → Heap → Prop} {d : DefRec}
    (hn : l.most = some n) (hdf : d.params.defaults = [])
    (call : ∀ (w : World) (s₀ s₁ : Shared) (mg mb : Str → Option Value) (fa : Addr) (o : Obj) (pm cd doc : Value) (a : Addr) (vs : List Value) (ns : List Int),
      Ground q loose [] XP w s₀ mg mb s₁.heap → YP w s₁.heap →
      s₁.heap.get? fa = some o → o.data = .func (docDef d.name d.params d.body d.scope pm cd doc) → s₁.heap.CodeRec cd d.name → mg d.name = some (.ref fa) →
      s₁.heap.get? a = some { cls := .type "list", data := .seq vs.toArray } → IntsAre vs ns → ns.length ≤ n → s₁.gens = #[] →
      codeAny (model l.prog w) callerA (.call (.ref fa) ⟨[.ref a], []⟩) (fun r s' => r = .ok (.ret (.bool true)) ∧ OldK s₁.heap s'.heap ∧ s'.os = s₁.os ∧ AllBare s'.gens) s₁) :
    WalkO q loose XP YP l.row.toRowW d [] (fun f vs => PySem.call f vs) := by
  intro w s₀ s₁ mg mb G Y fa o pm cd doc dV kV ho hd hcd hD hmg hg args vals as hpre hlay hrd hwl hlo
  obtain rfl : dV = .none := Dflts.none hD hdf
  obtain rfl : kV = .none := Dflts.noKw hD
  obtain ⟨a, vs, ns, rfl, rfl, hobj, hints, hlen⟩ := script_of hn hpre hwl
  refine enter_call (codeAny_mono (call w s₀ s₁ mg mb fa o pm cd doc a vs ns G Y ho (fd_plain hd) hcd hmg hobj hints hlen hg) fun r s' hq => ?_)
  obtain ⟨rfl, h2, h3, h4⟩ := hq
  exact ⟨.inl ⟨.bool true, .bool true, [], rfl, fun _ => rfl, .bool true, post_true l _, fun _ => ⟨List.Pairwise.nil, fun _ hm => (nomatch hm)⟩⟩, h2, h3, h4⟩
section
variable {prog : Program} {w : World} {A : Around} {E : Value → Shared → Prop} {s : Shared} {K : Frag}
end
end Att
namespace L2
open PySem PySem.Spec PyProof.Rows
theorem vals_ints : ∀ {vs : List Value} {ns : List Int}, IntsAre vs ns → Vals (ns.map V.int) vs
  | _, _, .nil => .nil
  | _, _, .cons n t h => .cons ⟨t, rfl⟩ (vals_ints h)
noncomputable def Only (H : Hp) : Prop := ∀ b, H b = none ∨ ∃ o xs, H b = some (.frz o (.lst xs))
theorem law_call {P : Program} {w : World} {K : PySem.W.Frag} {mg mb : Str → Option Value} {CX : CXT} {k : Nat} {fa a : Addr} {fd : FuncData} {x : Str} {sp : Sp} {s₁ : Shared} {vs : List Value} {ns : List Int}
    (KX : K.In s₁.heap) (hns : s₁.heap.Ns mainGlobals mg) (hb : s₁.heap.Ns builtinsNs mb) (hbb : ∀ x : Str, x ≠ "__name__" → mb x = bootBuiltins x) (hlim : s₁.heap.NoLimit) (hg : s₁.gens = #[])
    (ha : s₁.heap.get? a = some { cls := .type "list", data := .seq vs.toArray }) (hi : IntsAre vs ns) (hl : ns.length ≤ sizeLine) (hr : Room k callerA)
    (F : ∀ base : Heap, K.In base → base.Ns mainGlobals mg → FnOk P w K mg base CX k fa fd [x] sp) (hbind : ∀ (s : Shared) (u : Value), BindsTo s fd ⟨[u], []⟩ [(x, u)])
    (hsp : ∀ H : Hp, Only H → SqL K H a (ns.map V.int) → sp [.ref a] H (fun v _ => v = .bl true) fun _ _ _ => False)
    (hCX : ∀ H e s', CX [] H s₁ (fun _ _ _ => False) e s' → False) :
    codeAny (model P w) callerA (.call (.ref fa) ⟨[.ref a], []⟩) (fun r s' => r = .ok (.ret (.bool true)) ∧ OldK s₁.heap s'.heap ∧ s'.os = s₁.os ∧ AllBare s'.gens) s₁ := by
  have rv := vals_ints hi
  have lenV := hi.length
  have core : ∀ H : Hp, Only H → SqL K H a (ns.map V.int) → HOk P w H s₁.heap → (∀ b, H b ≠ none → b = a) → (H a ≠ none → K.lookup a = none) →
      codeAny (model P w) callerA (.call (.ref fa) ⟨[.ref a], []⟩) (fun r s' => r = .ok (.ret (.bool true)) ∧ OldK s₁.heap s'.heap ∧ s'.os = s₁.os ∧ AllBare s'.gens) s₁ := by
    intro H hO hS hok hA hK
    have base_of : ∀ {b : Addr} {o : Obj}, s₁.heap.get? b = some o → H b = none → (hidT s₁.heap H).get? b = some o := fun e n => hidT_get e n
    have noA : ∀ {b : Addr} {o : Obj} {es : Array DictEntry} {ep : Nat}, s₁.heap.get? b = some o → o.data = .dict es ep → H b = none := fun {b o es ep} e d => by
      cases q : H b with
      | none => rfl
      | some u =>
        have e' : b = a := hA b (by rw [q]; simp)
        subst e'
        rw [ha] at e; cases e
        have d' : Data.seq vs.toArray _ = Data.dict es ep := d
        cases d'
    have nsK : ∀ {b : Addr} {m : Str → Option Value}, s₁.heap.Ns b m → (hidT s₁.heap H).Ns b m := fun {b m} ⟨o, es, ep, e, d, r⟩ => ⟨o, es, ep, base_of e (noA e d), d, r⟩
    have hKb : K.In (hidT s₁.heap H) := fun b o e => base_of (KX b o e) (by
      cases q : H b with
      | none => rfl
      | some u =>
        have e' : b = a := hA b (by rw [q]; simp)
        subst e'
        rw [hK (by rw [q]; simp)] at e; cases e)
    have hM : Mod K mg (hidT s₁.heap H) := ⟨hKb, nsK hns, ⟨mb, nsK hb, hbb⟩, let ⟨mc, h1, h2⟩ := hlim; ⟨mc, nsK h1, h2⟩⟩
    have e0 : Env0 P w K mg (hidT s₁.heap H) callerA [] s₁ H := ⟨rfl, hM, fun b o e => of_hidT e, Nat.le_of_eq (hidT_size _ _), trivial, fun b hb => absurd (show b ∈ ([] : List Addr) from hb) (by simp), hok, .of_eq hg⟩
    refine codeAny_mono ((F _ hKb (nsK hns)).run callerA [] s₁ H ⟨[.ref a], []⟩ [.ref a] [.ref a] _ _ hr e0 (hbind s₁ (.ref a)) (.cons rfl .nil) (hsp H hO hS)) fun r s' h => ?_
    cases r with
    | error e => exact (hCX H e s' h).elim
    | ok fl =>
      cases fl with
      | next => exact False.elim h
      | brk => exact False.elim h
      | cont => exact False.elim h
      | ret u =>
        obtain ⟨v, H', os, bare, un, hok', r', q⟩ := h
        have q' : v = .bl true := q
        subst q'
        obtain rfl : u = Value.bool true := r'
        refine ⟨rfl, OldK.of_keep fun b o e => ?_, os, bare⟩
        cases q : H b with
        | none => exact un.keep b o e q (by intro z; exact absurd (show b ∈ ([] : List Addr) from z) (by simp)) (by simp)
        | some u =>
          rcases hO b with z | ⟨ob, xs, z⟩
          · rw [q] at z; cases z
          · have z2 := un.frzs b ob _ z
            obtain ⟨e1, _⟩ := hok b _ z
            obtain ⟨e2, _⟩ := hok' b _ z2
            rw [e] at e1; cases e1
            exact e2
  cases hk : K.lookup a with
  | some o =>
    have e := KX a o hk
    rw [ha] at e
    cases e
    refine core (fun _ => none) (fun _ => .inl rfl) (.inr ⟨_, vs.toArray, _, hk, rfl, rfl, rfl, by rw [List.size_toArray, lenV]; exact hl, by simpa using rv⟩) (fun b u z => by have z' : (none : Option HO) = some u := z; cases z') (fun b z => absurd rfl z) fun z => absurd rfl z
  | none =>
    refine core (fun b => if b = a then some (.frz { cls := .type "list", data := .seq vs.toArray } (.lst (ns.map V.int))) else none) (fun b => ?_) (.inl (.inr ⟨{ cls := .type "list", data := .seq vs.toArray }, if_pos rfl⟩)) (fun b u z => ?_) (fun b z => ?_) fun _ => hk
    · by_cases hb : b = a
      · exact .inr ⟨_, _, if_pos hb⟩
      · exact .inl (if_neg hb)
    · by_cases hb : b = a
      · have z' := (if_pos hb).symm.trans z
        cases z'
        subst hb
        exact ⟨ha, by rw [List.length_map]; exact hl, vs, _, rv, ha⟩
      · have z' := (if_neg hb).symm.trans z
        cases z'
    · by_cases hb : b = a
      · exact hb
      · exact absurd (if_neg hb) z
end L2
namespace L2
open PySem PySem.Spec PyProof.Rows
theorem walk_of {l : PySem.W.OpenLaw} {n k : Nat} {q : Program} {loose : List Str} {XP : (Str → Option Value) → Heap → Prop} {YP : World → Heap → Prop} {d : DefRec} {K : Params → PySem.W.Frag} {CX : World → CXT} {sp : World → Sp} {x : Str}
    (hn : l.most = some n) (hn2 : n ≤ sizeLine) (hdf : d.params.defaults = []) (hr : Room k callerA)
    (hY : ∀ (w : World) (h : Heap), YP w h → (K w.params).In h)
    (F : ∀ (w : World) (mg : Str → Option Value) (fa : Addr) (h : Heap), (K w.params).In h → h.Ns mainGlobals mg → mg d.name = some (.ref fa) →
      ∃ fd : FuncData, (∀ (s : Shared) (u : Value), BindsTo s fd ⟨[u], []⟩ [(x, u)]) ∧
        ∀ base : Heap, (K w.params).In base → base.Ns mainGlobals mg → FnOk l.prog w (K w.params) mg base (CX w) k fa fd [x] (sp w))
    (hsp : ∀ (w : World) (H : Hp) (a : Addr) (ns : List Int), ns.length ≤ n → Only H → SqL (K w.params) H a (ns.map V.int) → sp w [.ref a] H (fun v _ => v = .bl true) fun _ _ _ => False)
    (hCX : ∀ (w : World) (H : Hp) (s : Shared) (e : Value) (s' : Shared), CX w [] H s (fun _ _ _ => False) e s' → False) :
    PySem.W.WalkO q loose XP YP l.row.toRowW d [] (fun f vs => PySem.call f vs) := by
  refine Att.attach_call hn hdf fun w s₀ s₁ mg mb fa o pm cd doc a vs ns G Y ho hd hcd hmg hobj hints hlen hg => ?_
  have KX := hY w _ Y
  obtain ⟨fd, hb, hF⟩ := F w mg fa _ KX G.T.g hmg
  exact law_call KX G.T.g G.T.b G.T.builtins G.T.nolimit hg hobj hints (Nat.le_trans hlen hn2) hr hF hb (fun H hO hS => hsp w H a ns hlen hO hS) fun H e s' => hCX w H s₁ e s'
end L2
namespace L2
open PySem PySem.Spec PyProof.Rows
noncomputable def defArgs (s : Stmt) : Arguments := match s with
  | .FunctionDef _ a _ _ _ _ _ _ _ _ => a
  | _ => { posonlyargs := [], args := [], vararg := none, kwonlyargs := [], kw_defaults := [], kwarg := none, defaults := [] }
noncomputable def defBody (s : Stmt) : List Stmt := match s with
  | .FunctionDef _ _ b _ _ _ _ _ _ _ => b
  | _ => []
noncomputable def defScope (s : Stmt) : Scope := match s with
  | .FunctionDef _ _ _ _ _ _ sc _ _ _ => sc
  | _ => { kind := .function, names := [], isGenerator := false, isCoroutine := false }
noncomputable abbrev CX0 : CXT := fun _ _ _ _ _ _ => False
noncomputable abbrev E0 : XK := fun _ _ _ => False
theorem pass0 {X : Cx} : Passes CX0 X E0 := fun _ _ _ _ _ _ _ h => h.elim
structure Fun (K : PySem.W.Frag) (x qual : Str) (st : Stmt) (f : Addr) (fd : FuncData) : Prop where
  ex : ∃ (oc : Value) (od : Option Addr) (kV doc pm : Value) (an : Option Addr) (cdv ct : Value) (osl : Array (Option Value)),
    fd = PySem.W.fnOf x qual (defArgs st) (defBody st) (defScope st) .none kV doc pm an cdv ct ∧ K.lookup f = some ⟨oc, od, .func fd, osl⟩ ∧ PySem.W.codeIn K cdv qual = true
  kp : PySem.W.keepIn K (.ref f) = true
section
variable {P : Program} {w : World} {K : PySem.W.Frag} {mg : Str → Option Value} {base : Heap}
theorem Fun.ok {x qual : Str} {st : Stmt} {f : Addr} {fd : FuncData} {N ps : List Str} {k : Nat} {sp : Sp} (F : Fun K x qual st f fd) (S : FnScope N ps (defScope st)) (len : ∀ vs H Q E, sp vs H Q E → vs.length = ps.length)
    (hbody : ∀ (cdv : Value) (A : Around) (outer : List Env) (s : Shared) (H : Hp) (vs : List V) (Q : VK) (E : XK), Room k (A.deeper (envOfC qual (defScope st) s.heap.objs.size f cdv)) → sp vs H Q E →
      ∃ t, PSs (cxOf CX0 P w K mg base N qual (defScope st) f cdv A outer s H E).nox (defBody st) t ∧ t { nx := fun _ H' => Q .non H', rt := Q } (start N vs) H) : FnOk P w K mg base CX0 (k + 1) f fd ps sp := by
  obtain ⟨oc, od, kV, doc, pm, an, cdv, ct, osl, rfl, lk, hcd⟩ := F.ex
  refine fn_of lk hcd S len fun A outer s H vs Q E hr hsp => ?_
  obtain ⟨t, h, q⟩ := hbody cdv A outer s H vs Q E hr hsp
  exact ⟨t, h.nox, q⟩
theorem Fun.binds {x qual : Str} {st : Stmt} {f : Addr} {fd : FuncData} {ps : List Str} (F : Fun K x qual st f fd)
    (h : ∀ (kV doc pm : Value) (an : Option Addr) (cdv ct : Value) (us : List Value), us.length = ps.length → bindArgs (PySem.W.fnOf x qual (defArgs st) (defBody st) (defScope st) .none kV doc pm an cdv ct) ⟨us, []⟩ = pure (ps.zip us)) : Binds K fd ps [] := by
  obtain ⟨oc, od, kV, doc, pm, an, cdv, ct, osl, rfl, lk, hcd⟩ := F.ex
  exact .all (h kV doc pm an cdv ct)
theorem fun_mk {x qual : Str} {st : Stmt} {f : Addr} {oc : Value} {od an : Option Addr} {osl : Array (Option Value)} {kV doc pm cdv ct : Value} (l : K.lookup f = some ⟨oc, od, .func (PySem.W.fnOf x qual (defArgs st) (defBody st) (defScope st) .none kV doc pm an cdv ct), osl⟩)
    (c : PySem.W.codeIn K cdv qual = true) (k : PySem.W.keepIn K (.ref f) = true) : Fun K x qual st f (PySem.W.fnOf x qual (defArgs st) (defBody st) (defScope st) .none kV doc pm an cdv ct) := ⟨⟨oc, od, kV, doc, pm, an, cdv, ct, osl, rfl, l, c⟩, k⟩
end
theorem hu_of {A : Around} {k : Nat} (hr : Room k A) : A.units + 1 < cLine := Nat.lt_of_le_of_lt (Nat.add_le_add_left (by decide : 1 ≤ 64) _) hr.units
theorem small1000 {n : Nat} (h : n ≤ 1000) : n < sizeLine := Nat.lt_of_le_of_lt h (by decide)
section
variable {X : Cx}
end
noncomputable def Same (H H' : Hp) : Prop := ∀ b o, H b = some o → H' b = some o
section
variable {κ : Type} [DecidableEq κ]
end
end L2
namespace L2
open PySem PySem.Spec PyProof.Rows
noncomputable def clOf (env : Env) : List (Str × NameKind) → List (Str × Addr) → List (Str × Addr)
  | [], cs => cs
  | (n, k) :: r, cs => clOf env r (if k == .free then (match env.cells.lookup n with | some c => (n, c) :: cs | none => cs) else cs)
theorem closureFor_fold {env : Env} : ∀ (l : List (Str × NameKind)) (cs : List (Str × Addr)), (∀ x ∈ l, x.2 = .free → ∃ c, env.cells.lookup x.1 = some c) →
    (forIn l cs fun (x : Str × NameKind) (r : List (Str × Addr)) => (if (x.2 == NameKind.free) = true then (do let a ← cellOf env x.1; pure (ForInStep.yield ((x.1, a) :: r))) else pure (ForInStep.yield r) : Sem (ForInStep (List (Str × Addr))))) = pure (clOf env l cs)
  | [], cs, _ => by rw [List.forIn_nil]; rfl
  | (n, k) :: r, cs, h => by
    have hr : ∀ x ∈ r, x.2 = .free → ∃ c, env.cells.lookup x.1 = some c := fun x hx => h x (List.mem_cons_of_mem _ hx)
    rw [List.forIn_cons]
    by_cases hk : k = .free
    · subst hk
      obtain ⟨c, hc⟩ := h (n, .free) List.mem_cons_self rfl
      have e : cellOf env n = pure c := by unfold cellOf; rw [hc]
      dsimp only
      rw [if_pos (by decide), e, pure_bind, pure_bind]
      dsimp only
      rw [closureFor_fold r _ hr]
      show _ = pure (clOf env r (if (NameKind.free == NameKind.free) = true then (match env.cells.lookup n with | some c => (n, c) :: cs | none => cs) else cs))
      rw [if_pos (by decide), hc]
    · have hb : ¬ (k == NameKind.free) = true := by simpa using hk
      dsimp only
      rw [if_neg hb, pure_bind]
      dsimp only
      rw [closureFor_fold r _ hr]
      show _ = pure (clOf env r (if (k == NameKind.free) = true then (match env.cells.lookup n with | some c => (n, c) :: cs | none => cs) else cs))
      rw [if_neg hb]
theorem closureFor_cells {scope : Scope} {env : Env} (h : ∀ x ∈ scope.names, x.2 = .free → ∃ c, env.cells.lookup x.1 = some c) : closureFor scope env = pure (clOf env scope.names []) := by
  have e := closureFor_fold (env := env) scope.names [] h
  unfold closureFor
  dsimp only
  rw [← bind_pure (pure (clOf env scope.names [])), ← e]
theorem clOf_sub {env : Env} : ∀ (l : List (Str × NameKind)) (cs : List (Str × Addr)), (∀ x c, cs.lookup x = some c → env.cells.lookup x = some c) → ∀ x c, (clOf env l cs).lookup x = some c → env.cells.lookup x = some c
  | [], cs, h => h
  | (n, k) :: r, cs, h => by
    refine clOf_sub r _ ?_
    intro x c
    by_cases hk : (k == NameKind.free) = true
    · rw [if_pos hk]
      cases hl : env.cells.lookup n with
      | none => exact h x c
      | some d =>
        intro q
        by_cases hx : x = n
        · subst hx
          rw [List.lookup_cons_self] at q
          rw [hl]; exact q
        · have hb : (x == n) = false := beq_eq_false_iff_ne.mpr hx
          simp only [List.lookup_cons, hb] at q
          exact h x c q
    · rw [if_neg hk]; exact h x c
theorem clOf_keeps {env : Env} : ∀ (l : List (Str × NameKind)) (cs : List (Str × Addr)) (x : Str), (cs.lookup x).isSome = true → ((clOf env l cs).lookup x).isSome = true
  | [], cs, x, h => h
  | (n, k) :: r, cs, x, h => by
    refine clOf_keeps r _ x ?_
    by_cases hk : (k == NameKind.free) = true
    · rw [if_pos hk]
      cases hl : env.cells.lookup n with
      | none => exact h
      | some d =>
        by_cases hx : (x == n) = true
        · simp only [List.lookup_cons, hx, Option.isSome_some]
        · have hb : (x == n) = false := by simpa using hx
          simp only [List.lookup_cons, hb]; exact h
    · rw [if_neg hk]; exact h
theorem clOf_has {env : Env} : ∀ (l : List (Str × NameKind)) (cs : List (Str × Addr)) (x : Str) (c : Addr), (x, NameKind.free) ∈ l → env.cells.lookup x = some c → ((clOf env l cs).lookup x).isSome = true
  | [], cs, x, c, h, _ => by simp at h
  | (n, k) :: r, cs, x, c, h, hc => by
    rcases List.mem_cons.mp h with e | e
    · obtain ⟨rfl, rfl⟩ := Prod.mk.inj e
      refine clOf_keeps r _ _ ?_
      rw [if_pos (by decide), hc]
      simp only [List.lookup_cons_self, Option.isSome_some]
    · exact clOf_has r _ x c e hc
theorem clOf_look {env : Env} {l : List (Str × NameKind)} {x : Str} {c : Addr} (h : (x, NameKind.free) ∈ l) (hc : env.cells.lookup x = some c) : (clOf env l []).lookup x = some c := by
  obtain ⟨d, hd⟩ := Option.isSome_iff_exists.mp (clOf_has l [] x c h hc)
  have := clOf_sub l [] (fun _ _ z => by simp at z) x d hd
  rw [hc] at this; cases this
  exact hd
noncomputable def freesL : List (Str × NameKind) → List Str
  | [] => []
  | (n, .free) :: r => n :: freesL r
  | _ :: r => freesL r
theorem mem_freesL {x : Str} : ∀ {l : List (Str × NameKind)}, x ∈ freesL l → (x, NameKind.free) ∈ l
  | [], h => by simp [freesL] at h
  | (n, k) :: r, h => by
    cases k <;> first
      | (rcases List.mem_cons.mp (show x ∈ n :: freesL r from h) with e | e
         · subst e; exact List.mem_cons_self
         · exact List.mem_cons_of_mem _ (mem_freesL e))
      | exact List.mem_cons_of_mem _ (mem_freesL (show x ∈ freesL r from h))
theorem freesL_of {x : Str} : ∀ {l : List (Str × NameKind)}, (x, NameKind.free) ∈ l → x ∈ freesL l
  | [], h => by simp at h
  | (n, k) :: r, h => by
    rcases List.mem_cons.mp h with e | e
    · cases e; exact List.mem_cons_self
    · have ih := freesL_of e
      cases k <;> first
        | exact List.mem_cons_of_mem _ ih
        | exact ih
theorem lookup_changed {x : Str} (f : Str × NameKind → Str × NameKind) (hf : ∀ p, f p = p ∨ p.2 = .free ∧ f p = (p.1, .cell)) : ∀ (l : List (Str × NameKind)) (k : NameKind), (l.map f).lookup x = some k → l.lookup x = some k ∨ l.lookup x = some .free ∧ k = .cell
  | [], _, h => nomatch h
  | (y, j) :: l, k, h => by
    have rest := lookup_changed (x := x) f hf l k
    rw [List.map_cons] at h
    rcases hf (y, j) with e | ⟨ej, e⟩ <;> rw [e] at h <;> cases he : x == y <;> simp only [List.lookup_cons, he] at h ⊢
    · exact rest h
    · exact .inl h
    · exact rest h
    · cases h
      cases (show j = NameKind.free from ej)
      exact .inr ⟨rfl, rfl⟩
theorem relabel_lookup {scope : Scope} {env : Env} {x : Str} {k : NameKind} (h : (relabel scope env).names.lookup x = some k) : scope.names.lookup x = some k ∨ scope.names.lookup x = some .free ∧ k = .cell := by
  unfold relabel at h
  refine lookup_changed _ (fun p => ?_) _ _ h
  obtain ⟨n, j⟩ := p
  dsimp only
  split
  · rename_i hc
    refine .inr ⟨?_, rfl⟩
    simp only [Bool.and_eq_true, beq_iff_eq] at hc
    exact hc.1.1
  · exact .inl rfl
noncomputable def pickS (ix : List Nat) (σ : St) : St := ix.map fun j => (σ[j]?).getD none
noncomputable def cxB (X : Cx) (scope : Scope) (tgs : List Str) (fp : List Addr) (C : Addr) (s : Shared) (H : Hp) : Cx :=
  { X with N := tgs ++ freesL scope.names, s₀ := s, H₀ := H, env := compEnvC scope (clOf X.env scope.names []) C X.env, outer := X.stack, ex := fp, fn := fun _ => false, pn := [], xe := fun _ _ => False }
noncomputable def AllL {α : Type} (P : α → Prop) : List α → Prop
  | [] => True
  | x :: r => P x ∧ AllL P r
theorem allL_mem {α : Type} {P : α → Prop} : ∀ {l : List α}, AllL P l → ∀ x ∈ l, P x
  | [], _, _, h => by simp at h
  | _ :: _, h, x, hx => by
    rcases List.mem_cons.mp hx with e | e
    · subst e; exact h.1
    · exact allL_mem h.2 x e
structure BScope (X : Cx) (scope : Scope) (tgs : List Str) (ix : List Nat) : Prop where
  kind : scope.kind = .function
  nocell : ∀ y ∈ scope.names, y.2 ≠ .cell
  loc : ∀ y ∈ scope.names, y.2 = .local → scope.names.lookup y.1 = some .local
  fre : AllL (fun x => X.env.kindOf x = some .cell ∨ X.env.kindOf x = some .free) (freesL scope.names)
  ixs : (freesL scope.names).map some = ix.map fun j => X.N[j]?
  ndl : ∀ x ∈ freesL scope.names, scope.names.lookup x = some .free
section
variable {X : Cx} {scope : Scope} {tgs : List Str} {ix : List Nat}
theorem BScope.cells (S : BScope X scope tgs ix) (ok : X.Ok) : ∀ x ∈ scope.names, x.2 = .free → ∃ c, X.env.cells.lookup x.1 = some c := fun x hx hk => by
  obtain ⟨n, k⟩ := x
  subst hk
  exact ok.has n (allL_mem S.fre n (freesL_of hx))
theorem Inv.cellLt {pins : List (Addr × Obj)} {σ : St} {H : Hp} {s : Shared} (I : Inv X pins σ H s) {x : Str} {c : Addr} (e : X.env.cells.lookup x = some c) : c < s.heap.objs.size := by
  obtain ⟨v, q⟩ := I.cell x c e
  exact q.lt
theorem Inv.track {pins : List (Addr × Obj)} {σ : St} {H : Hp} {s : Shared} {D : Addr} {o : HO} (I : Inv X pins σ H s) (f : FpOk X pins H D) (new : ObjOk X.prog X.w (upd H D o) s.heap D o) : Inv X pins σ (upd H D o) s := by
  obtain ⟨f0, f1, f2, f3, f4, f5⟩ := f
  have nD : ∀ b u, H b = some u → b ≠ D := fun b u e z => by rw [z, f0] at e; cases e
  have := I.step (h' := s.heap) (H' := upd H D o) (g' := s.gens) (t' := s.toks) (d' := s.drawn) (ch := [D]) (fun b hb => ?_) (fun b u _ _ _ e _ => e) (fun b u _ _ _ e _ => ⟨u.slots, e⟩) (fun b u hb e n => ?_) (fun b u _ e => ⟨u, e⟩)
    (fun b xs e => ?_) (fun b u v e => ?_) (fun b ps e => ?_) (fun m hm => hm) (fun b u e => ?_) I.bare
  · exact this
  · have e : b = D := by simpa using hb
    subst e
    exact ⟨f3, f1, f4, f5⟩
  · rw [upd_ne (fun z => hb (by simp [z]))]; exact n
  · rw [upd_ne (nD b _ e)]; exact e
  · rw [upd_ne (nD b _ e)]; exact e
  · exact ⟨#[], by rw [upd_ne (nD b _ e), e]; simp⟩
  · by_cases hb : b = D
    · subst hb; rw [upd_same] at e; cases e; exact new
    · rw [upd_ne hb] at e
      exact (I.hok b u e).stay (fun _ _ _ q => q) (fun c q => by rw [upd_ne (nD c _ q)]; exact q) fun c xs q => by rw [upd_ne (nD c _ q)]; exact q
theorem cxB_ok {pins : List (Addr × Obj)} {σ : St} {H : Hp} {s : Shared} {fp : List Addr} {C : Addr} (S : BScope X scope tgs ix) (I : Inv X pins σ H s) (hf : ∀ b ∈ fp, FpOk X pins H b) (hfo : ∀ b ∈ fp, b < s.heap.objs.size) (hC : s.heap.objs.size ≤ C) :
    (cxB X scope tgs fp C s H).Ok := by
  have sub : ∀ x c, (clOf X.env scope.names []).lookup x = some c → X.env.cells.lookup x = some c := clOf_sub scope.names [] (fun _ _ z => by simp at z)
  refine ⟨I.ok.mod, S.kind, I.ok.glob, I.ok.blt, hC, fun x y c h1 h2 => I.ok.inj x y c (sub x c h1) (sub y c h2), fun x hx => ?_, fun x c h => absurd h (by simp [cxB]), I.ok.hd, I.ok.frames, .inl rfl, fun b hb => ⟨?_, fun x c e => ?_⟩, fun b o e => I.bs b o e,
    Nat.le_trans I.ok.bsz I.sz, fun b o e hb => ?_, fun b hb hz => ?_, I.stack, I.stkFree⟩
  · have hx' : (relabel scope X.env).names.lookup x = some .cell ∨ (relabel scope X.env).names.lookup x = some .free := hx
    have hm : (x, NameKind.free) ∈ scope.names := by
      rcases hx' with h | h
      · rcases relabel_lookup h with q | q
        · exact absurd rfl (S.nocell _ (PySem.mem_of_lookup q))
        · exact PySem.mem_of_lookup q.1
      · rcases relabel_lookup h with q | q
        · exact PySem.mem_of_lookup q
        · exact absurd q.2 (by decide)
    obtain ⟨c, hc⟩ := S.cells I.ok _ hm rfl
    exact ⟨c, clOf_look hm hc⟩
  · exact fun z => absurd (hfo b hb) (by rw [z]; exact Nat.not_lt.mpr hC)
  · exact (hf b hb).2.2.2.2.1 x c (sub x c e)
  · obtain ⟨f0, f1, f2, f3, f4, f5⟩ := hf b hb
    rcases f3 with z | z
    · exact I.ok.noex b o e z
    · exact absurd (Heap.lt_size (I.ok.bs b o e).1) (Nat.not_lt.mpr z)
  · obtain ⟨f0, f1, f2, f3, f4, f5⟩ := hf b hb
    rcases List.mem_cons.mp (I.stkSub b hz) with z | z
    · exact f1 z
    · exact f2 z
end
end L2
namespace L2
open PySem PySem.Spec PyProof.Rows
section
variable {X : Cx} {scope : Scope} {tgs : List Str} {ix : List Nat}
noncomputable abbrev startB (tgs : List Str) (ix : List Nat) (σ : St) : St := List.replicate tgs.length none ++ pickS ix σ
theorem startB_get {σ : St} {k : Nat} {v : V} (h : (startB tgs ix σ)[k]? = some (some v)) : tgs.length ≤ k ∧ ∃ j, ix[k - tgs.length]? = some j ∧ σ[j]? = some (some v) := by
  have hk : tgs.length ≤ k := by
    rcases Nat.lt_or_ge k tgs.length with z | z
    · rw [List.getElem?_append_left (by simpa using z), List.getElem?_replicate, if_pos z] at h
      cases h
    · exact z
  refine ⟨hk, ?_⟩
  rw [List.getElem?_append_right (by simpa using hk), List.length_replicate] at h
  unfold pickS at h
  rw [List.getElem?_map] at h
  cases e : ix[k - tgs.length]? with
  | none => rw [e] at h; cases h
  | some j =>
    rw [e] at h
    refine ⟨j, rfl, ?_⟩
    have h' : (σ[j]?).getD none = some v := Option.some.inj h
    cases q : σ[j]? with
    | none => rw [q] at h'; cases h'
    | some o =>
      rw [q] at h'
      have h'' : o = some v := h'
      rw [h'']
theorem invB_start {pins : List (Addr × Obj)} {σ : St} {H : Hp} {s s4 : Shared} {fp : List Addr} {C D : Addr} {o : Obj} (S : BScope X scope tgs ix) (I : Inv X pins σ H s) (hf : ∀ b ∈ fp, FpOk X pins H b) (hfo : ∀ b ∈ fp, b < s.heap.objs.size)
    (hC : s.heap.objs.size ≤ C) (hD : s.heap.objs.size ≤ D) (hDC : D ≠ C) {m : Str → Option Value} (hn : s4.heap.Ns C m) (hk : ∀ b u, s.heap.get? b = some u → s4.heap.get? b = some u) (hos : s4.os = s.os) (hg : s4.gens = s.gens)
    (hDo : s4.heap.get? D = some o) (hcell : ∀ v, o.data ≠ .cell v) : Inv (cxB X scope tgs fp C s H) [(D, o)] (startB tgs ix σ) H s4 := by
  have ok := cxB_ok (tgs := tgs) (ix := ix) (C := C) S I hf hfo hC
  have sub : ∀ x c, (clOf X.env scope.names []).lookup x = some c → X.env.cells.lookup x = some c := clOf_sub scope.names [] (fun _ _ z => by simp at z)
  refine ⟨ok, hos, by rw [hg]; exact I.bare, Un.kept hk, ⟨m, hn, fun k x v h1 h2 h3 => ?_⟩, fun x c e => ?_, I.hok.fresh hC, fun x c e => I.freeC x c (sub x c e), fun p hp => ?_, I.hok.kept hk, ?_⟩
  · obtain ⟨hkl, j, hj, hσ⟩ := startB_get h2
    have h1' : (freesL scope.names)[k - tgs.length]? = some x := by
      have : (tgs ++ freesL scope.names)[k]? = some x := h1
      rwa [List.getElem?_append_right hkl] at this
    have hx : x ∈ freesL scope.names := List.mem_of_getElem? h1'
    have hXN : X.N[j]? = some x := by
      have e := congrArg (fun l => l[k - tgs.length]?) S.ixs
      simp only [List.getElem?_map, h1', hj, Option.map_some] at e
      exact (Option.some.inj e).symm
    have kx := allL_mem S.fre x hx
    obtain ⟨m0, hn0, hl⟩ := I.loc
    obtain ⟨u, r, l⟩ := hl j x v hXN hσ (by rcases kx with z | z; exact .inr (.inl z); exact .inr (.inr z))
    refine ⟨u, r, ?_⟩
    rcases l with ⟨z, _⟩ | ⟨_, c, hc, q⟩
    · rcases kx with y | y <;> rw [z] at y <;> cases y
    · refine .inr ⟨?_, c, clOf_look (mem_freesL hx) hc, ?_⟩
      · have h3' : (relabel scope X.env).names.lookup x = some .local ∨ (relabel scope X.env).names.lookup x = some .cell ∨ (relabel scope X.env).names.lookup x = some .free := h3
        rcases h3' with z | z | z
        · exfalso
          rcases relabel_lookup z with w | w
          · have lk : scope.names.lookup x = some .local := w
            have := S.ndl x hx
            rw [lk] at this; cases this
          · exact absurd w.2 (by decide)
        · exact .inl z
        · exact .inr z
      · obtain ⟨oc, hoc, hd⟩ := q
        exact ⟨oc, hk c oc hoc, hd⟩
  · obtain ⟨v, oc, hoc, hd⟩ := I.cell x c (sub x c e)
    exact ⟨v, oc, hk c oc hoc, hd⟩
  · have e : p = (D, o) := by simpa [cxB] using hp
    subst e
    refine ⟨hDo, I.hok.fresh hD, hDC, fun hz => ?_, hcell⟩
    have hz' : D ∈ frs X.stack := hz
    rcases List.mem_cons.mp (I.stkSub D hz') with z | z
    · exact absurd I.lt (by rw [← z]; exact Nat.not_lt.mpr hD)
    · exact I.nofs hD z
  · show (List.replicate tgs.length none ++ pickS ix σ).length = (tgs ++ freesL scope.names).length
    have e := congrArg List.length S.ixs
    simp only [List.length_map] at e
    rw [List.length_append, List.length_append, List.length_replicate, e]
    unfold pickS
    rw [List.length_map]
noncomputable def PIfs (X : Cx) (ifs : List Expr) (tc : TT) : Prop :=
  ∀ (pins : List (Addr × Obj)) (s : Shared) (σ : St) (H : Hp) (Q : Bool → Hp → Prop), Inv X pins σ H s → tc σ H Q →
    wpAny (model X.prog X.w) X.A (forIn ifs true fun c r => if r = true then do let ok ← isTrue c X.env (eval c X.env); pure (ForInStep.yield ok) else pure (ForInStep.yield r)) (TP X pins σ Q) X.xe s
noncomputable def tTrue : TT := fun _ H Q => Q true H
theorem pifs_nil : PIfs X [] tTrue := fun pins s σ H Q I h => wpAny_tests_nil ⟨H, I, h⟩
theorem pifs_one {c : Expr} {tc : TT} (h : PT X c tc) : PIfs X [c] tc := fun pins s σ H Q I hw => wpAny_tests_one (h pins s σ H Q I hw)
noncomputable def GK (n : Nat) (g : TG) : Prop := ∀ x σ H Q, g x σ H Q → g x σ H fun σ2 H2 => Q σ2 H2 ∧ σ2.length = σ.length ∧ σ2.drop n = σ.drop n
theorem gk_name {n i : Nat} (h : i < n) : GK n (gName i) := fun x σ H Q q => ⟨q, by simp, by rw [List.drop_set_of_lt h]⟩
noncomputable def CompB (tgs : List Str) (ix : List Nat) (g : TG) (tc : TT) (te : TE) (σ : St) (Q : VK) (J : It) (H1 : Hp) : Prop := ∃ W : Nat → Nat → List V → Hp → Prop, (∃ m, W 0 m [] H1) ∧ ∀ i m ys H, W i m ys H →
  (J.stop i H ∧ ys.length ≤ sizeLine ∧ ∀ p, H p = none → Q (.ref p) (upd H p (.lst ys))) ∨
  (J.go i H ∧ ys.length < sizeLine ∧ ∃ N : List V → Hp → Prop, (∀ ys' H', N ys' H' → ∃ m', m' < m ∧ W (i + 1) m' ys' H') ∧ ∀ x H', J.yld i H x H' → g x (startB tgs ix σ) H' fun σ2 H2 => tc σ2 H2 fun b H3 =>
    if b = true then te σ2 H3 fun v H4 => N (ys ++ [v]) H4 else N ys H3)
noncomputable def tComp (tgs : List Str) (ix : List Nat) (wi : TI) (g : TG) (tc : TT) (te : TE) : TE := fun σ H Q => wi σ H fun J H1 => CompB tgs ix g tc te σ Q J H1
theorem calmly {α : Type} {t : Sem α} {Q Q' : α → Shared → Prop} {M : Model} {A : Around} {E : Value → Shared → Prop} {s : Shared} (h : wpAny M A t Q (fun _ _ => False) s) (hQ : ∀ a s, Q a s → Q' a s) : wpAny M A t Q' E s := wpAny_mono h hQ fun _ _ x => x.elim
theorem past_pure {α : Type} {u : Sem Unit} {t : Sem α} {P : Unit → Shared → Prop} {Q : α → Shared → Prop} {M : Model} {A : Around} {E : Value → Shared → Prop} {s : Shared} (hu : u = pure ()) (h : wpAny M A u P E s) (k : ∀ s', P () s' → wpAny M A t Q E s') : wpAny M A t Q E s := by
  subst hu
  have z : wpAny M A ((pure () : Sem Unit) >>= fun _ => t) Q E s := wpAny_bind (wpAny_mono h (fun _ s' p => k s' p) fun _ _ x => x)
  exact z
end
end L2
namespace L2
open PySem PySem.Spec PyProof.Rows
section
variable {X : Cx} {scope : Scope} {tgs : List Str} {ix : List Nat}
noncomputable abbrev lobj (its : List Value) (k : Nat) : Obj := { cls := .type "list", data := .seq its.toArray k }
theorem weakB {fp : List Addr} {C : Addr} {s0 : Shared} {H0 : Hp} {pins : List (Addr × Obj)} {σ σ6 : St} {H : Hp} {s : Shared} (I : Inv (cxB X scope tgs fp C s0 H0) pins σ6 H s) (l6 : σ6.length = (startB tgs ix σ).length)
    (d6 : σ6.drop tgs.length = (startB tgs ix σ).drop tgs.length) : Inv (cxB X scope tgs fp C s0 H0) pins (startB tgs ix σ) H s := by
  refine I.weak l6.symm fun k v e => ?_
  obtain ⟨hk, _⟩ := startB_get e
  have e1 : σ6[k]? = (σ6.drop tgs.length)[k - tgs.length]? := by rw [List.getElem?_drop]; congr 1; omega
  have e2 : (startB tgs ix σ)[k]? = ((startB tgs ix σ).drop tgs.length)[k - tgs.length]? := by rw [List.getElem?_drop]; congr 1; omega
  rw [e1, d6, ← e2]
  exact e
theorem comp_block {elt tg iter : Expr} {ifs : List Expr} {pos : Pos} {g : TG} {tc : TT} {te : TE} {pins : List (Addr × Obj)} {σ : St} {H2 : Hp} {s2 : Shared} {it : Addr} {fp : List Addr} {tn : Nat → Heap → Prop} {J : It} {Q : VK}
    (S : BScope X scope tgs ix) (ht : ∀ o v, letOwnedTupleGo tg o v = pure ()) (hc : X.calm = true) (hg : ∀ fp C s H, PG (cxB X scope tgs fp C s H) tg g) (hgk : GK tgs.length g) (hi : ∀ fp C s H, PIfs (cxB X scope tgs fp C s H) ifs tc) (he : ∀ fp C s H, PE (cxB X scope tgs fp C s H) elt te)
    (I2 : Inv X pins σ H2 s2) (T : Turn X.prog X.w X.K tg J fp it tn) (t0 : tn 0 s2.heap) (hf : ∀ b ∈ fp, FpOk X pins H2 b)
    (W : Nat → Nat → List V → Hp → Prop) (w0 : ∃ m, W 0 m [] H2)
    (turn : ∀ i m ys H, W i m ys H → (J.stop i H ∧ ys.length ≤ sizeLine ∧ ∀ p, H p = none → Q (.ref p) (upd H p (.lst ys))) ∨
      (J.go i H ∧ ys.length < sizeLine ∧ ∃ N : List V → Hp → Prop, (∀ ys' H', N ys' H' → ∃ m', m' < m ∧ W (i + 1) m' ys' H') ∧ ∀ x H', J.yld i H x H' → g x (startB tgs ix σ) H' fun σ2 H2 => tc σ2 H2 fun b H3 =>
        if b = true then te σ2 H3 fun v H4 => N (ys ++ [v]) H4 else N ys H3))
    {RR : Value → Addr → Result → Shared → Prop}
    (fin : ∀ (D C : Addr) (s' : Shared) (H' : Hp) (m : Str → Option Value), Inv X pins σ H' s' → Q (.ref D) H' → s'.heap.Ns C m → FpOk X pins H' C → RR (.ref D) C (.ok .next) s') :
    wpAny (model X.prog X.w) X.A (newList []) (fun acc s₃ => wpAny (model X.prog X.w) X.A (newFunctionEnv scope X.env.globals (clOf X.env scope.names []) [] X.env.qual none .none (some X.env)) (fun cenv s₄ =>
      codeAny (model X.prog X.w) X.A (.compStart (.ListComp elt [⟨tg, iter, ifs, 0⟩] scope pos) 0 (.ref it) acc { cenv with scope := relabel scope X.env }) (RR acc cenv.locals) s₄) X.xe s₃) X.xe s2 := by
  refine wpAny_newObj_type (wpAny_newFunctionEnv S.nocell (by intro y hy; simp at hy) (fun h₁ hns₁ hsb₁ => ?_) S.kind)
  dsimp only at hns₁ hsb₁ ⊢
  generalize hH2 : s2.heap.push { cls := .type "list", dict := none, data := .seq ([] : List Value).toArray } = G2 at hns₁ hsb₁ ⊢
  have hC : G2.objs.size = s2.heap.objs.size + 1 := by rw [← hH2, Heap.size_push]
  have hCle : s2.heap.objs.size ≤ G2.objs.size := by rw [hC]; exact Nat.le_succ _
  have hDC : s2.heap.objs.size ≠ G2.objs.size := by rw [hC]; exact Nat.ne_of_lt (Nat.lt_succ_self _)
  have below : ∀ b, b < s2.heap.objs.size → b ≠ G2.objs.size ∧ b ≠ s2.heap.objs.size := fun b hb => ⟨by rw [hC]; exact Nat.ne_of_lt (Nat.lt_succ_of_lt hb), Nat.ne_of_lt hb⟩
  have old : ∀ b o, s2.heap.get? b = some o → h₁.get? b = some o := fun b o e => hsb₁.extBut b o (below b (Heap.lt_size e)).1 (Heap.get?_push_of_some _ (hH2 ▸ Heap.get?_push_of_some _ e))
  have hacc : h₁.get? s2.heap.objs.size = some (lobj [] 0) := hsb₁.extBut _ _ hDC (Heap.get?_push_of_some _ (hH2 ▸ Heap.get?_push_size _ rfl))
  have hfo : ∀ b ∈ fp, b < s2.heap.objs.size := fun b hb => let ⟨o, e, _⟩ := T.obj 0 _ t0 b hb; Heap.lt_size e
  have ok := cxB_ok (tgs := tgs) (ix := ix) (C := G2.objs.size) S I2 hf hfo hCle
  have sub : ∀ x c, (clOf X.env scope.names []).lookup x = some c → X.env.cells.lookup x = some c := clOf_sub scope.names [] (fun _ _ z => by simp at z)
  have nDfs : s2.heap.objs.size ∉ frs X.stack := fun hz => by
    rcases List.mem_cons.mp (I2.stkSub _ hz) with z | z
    · exact absurd I2.lt (by rw [← z]; exact Nat.lt_irrefl _)
    · exact I2.nofs (Nat.le_refl _) z
  have nDcell : ∀ x c, (clOf X.env scope.names []).lookup x = some c → c ≠ s2.heap.objs.size := fun x c e => Nat.ne_of_lt (I2.cellLt (sub x c e))
  have ncell : ∀ (its : List Value) (k : Nat) (v : Option Value), (lobj its k).data ≠ .cell v := fun its k v z => by cases z
  have stat : ∀ {Hx : Hp} {o : Obj}, (∀ b ∈ fp, Hx b = none) → ∀ b ∈ fp, FpOk (cxB X scope tgs fp G2.objs.size s2 H2) [(s2.heap.objs.size, o)] Hx b := fun {Hx o} hn b hb =>
    ⟨hn b hb, (ok.exf b hb).1, ok.exfs b hb, .inl hb, (ok.exf b hb).2, fun p hp z => by
      have e : p = (s2.heap.objs.size, o) := by simpa [cxB] using hp
      subst e
      exact absurd (hfo b hb) (by rw [← z]; exact Nat.lt_irrefl _)⟩
  have loop : ∀ s₃ : Shared, s₃ = { s2 with heap := h₁, toks := s2.toks + ([] : List (Str × Value)).length } →
      codeAny (model X.prog X.w) X.A (.compLoop (.ListComp elt [⟨tg, iter, ifs, 0⟩] scope pos) 0 (.ref it) (.ref s2.heap.objs.size) (compEnvC scope (clOf X.env scope.names []) G2.objs.size X.env)) (RR (.ref s2.heap.objs.size) G2.objs.size) s₃ := by
    rintro s₃ rfl
    obtain ⟨m0, w0⟩ := w0
    refine codeAny_compLoop_tests (fun n s => ∃ i ys its k H, Inv (cxB X scope tgs fp G2.objs.size s2 H2) [(s2.heap.objs.size, lobj its k)] (startB tgs ix σ) H s ∧ tn i s.heap ∧ (∀ b ∈ fp, H b = none) ∧ Vals ys its ∧ W i n ys H) ?_ m0
      ⟨0, [], [], 0, H2, invB_start S I2 hf hfo hCle (Nat.le_refl _) hDC hns₁ old rfl rfl hacc (ncell _ _), T.keep 0 _ _ t0 fun b _ o e => old b o e, fun b hb => (hf b hb).1, .nil, w0⟩ (ht _)
    rintro n s ⟨i, ys, its, k, H, I, st, fr, rv, w⟩
    rcases turn i n ys H w with ⟨stop, hz, q⟩ | ⟨go, hz8, N, hN, step⟩
    · refine thn (T.done (cxB X scope tgs fp G2.objs.size s2 H2) rfl rfl rfl hc i _ s _ H _ I (stat fr) st stop) fun r s1 ⟨hr, I1⟩ => ?_
      subst hr
      obtain ⟨pe, pn, _⟩ := I1.pin (s2.heap.objs.size, lobj its k) (List.mem_append_right _ (by simp))
      have J0 : Inv X pins σ H s1 := I2.call' I1.os I1.base I1.hok I1.bare fun b hb => ⟨(hf b hb).2.2.2.1, (hf b hb).2.1, (hf b hb).2.2.2.2.1, (hf b hb).2.2.2.2.2⟩
      have J1 : Inv X pins σ (upd H s2.heap.objs.size (.lst ys)) s1 := J0.track (I2.fpOk (Nat.le_refl _) pn) ⟨hz, its, k, rv, pe⟩
      obtain ⟨m, hn, _⟩ := I1.loc
      exact fin _ _ s1 _ m J1 (q _ pn) hn (I2.fpOk hCle (by rw [upd_ne (Ne.symm hDC)]; exact I1.free))
    · refine thn (T.item (cxB X scope tgs fp G2.objs.size s2 H2) rfl rfl rfl hc i _ s _ H _ I (stat fr) st go) fun r s1 ⟨u, hr, h1⟩ => ?_
      subst hr
      refine past_pure (ht _ _) h1 fun s5 ⟨x, H5, I5, r5, y5, st5, fr5⟩ => ?_
      have I5' := I5.pinned (stat fr5) (T.obj _ _ st5)
      refine calmly (hg fp G2.objs.size s2 H2 _ s5 _ H5 x u _ I5' r5 (hgk _ _ _ _ (step x H5 y5))) fun _ s6 ⟨σ6, H6, I6, q6, l6, d6⟩ => ?_
      refine calmly (hi fp G2.objs.size s2 H2 _ s6 σ6 H6 _ I6 q6) fun okb s7 ⟨H7, I7, q7⟩ => ?_
      cases okb with
      | false =>
        rw [if_neg Bool.false_ne_true] at q7 ⊢
        obtain ⟨m', hm, w7⟩ := hN _ _ q7
        refine ⟨m', hm, i + 1, ys, its, k, H7, weakB I7.unpinned l6 d6, T.keep _ _ _ st5 fun b hb o e => (I7.pin (b, o) (List.mem_append_right _ (List.mem_append_right _ (mem_pinsAt hb e)))).1, fun b hb => ?_, rv, w7⟩
        obtain ⟨o, e, _⟩ := T.obj _ _ st5 b hb
        exact (I7.pin (b, o) (List.mem_append_right _ (List.mem_append_right _ (mem_pinsAt hb e)))).2.1
      | true =>
        rw [if_pos rfl] at q7 ⊢
        refine calmly (he fp G2.objs.size s2 H2 _ s7 σ6 H7 _ I7 q7) fun xv s8 ⟨v, H8, I8, rv8, q8⟩ => ?_
        obtain ⟨m', hm, w8⟩ := hN _ _ q8
        obtain ⟨pe, pn, _⟩ := I8.pin (s2.heap.objs.size, lobj its k) (List.mem_append_right _ (List.mem_append_left _ (by simp)))
        have hlen := rv.length
        refine call_meets PySem.F.slot_list_append ⟨_, pe, rfl⟩ PySem.F.entry_list_append (PySem.F.args_list_append_2 _ _) (PySem.list_append s2.heap.objs.size its.toArray k xv (by rw [List.size_toArray]; omega)) ⟨pe, ?_⟩
        have hp : its.toArray.push xv = (its ++ [xv]).toArray := by simp
        have q' : ∃ k', (s8.heap.update s2.heap.objs.size (Obj.mapSeq (fun a => a.push xv))).get? s2.heap.objs.size = some (lobj (its ++ [xv]) k') := ⟨_, by
          unfold lobj
          rw [← hp]
          exact PySem.IsL.update pe (fun a => a.push xv)⟩
        obtain ⟨k', q'⟩ := q'
        have I9 : Inv (cxB X scope tgs fp G2.objs.size s2 H2) [] σ6 H8 { s8 with heap := s8.heap.update s2.heap.objs.size (Obj.mapSeq (fun a => a.push xv)) } :=
          (I8.pins_of (pins' := []) (fun p hp => absurd hp (by simp))).turned (t' := s8.toks) (fun b o hb e => (Heap.get?_update_other s8.heap (Obj.mapSeq (fun a => a.push xv)) (Ne.symm hb)).trans e) pn hDC (.inr (Nat.le_refl _)) nDcell (fun p hp => absurd hp (by simp [cxB]))
        have I10 : Inv (cxB X scope tgs fp G2.objs.size s2 H2) [(s2.heap.objs.size, lobj (its ++ [xv]) k')] σ6 H8 { s8 with heap := s8.heap.update s2.heap.objs.size (Obj.mapSeq (fun a => a.push xv)) } :=
          I9.pins_of fun p hp => by
            have e : p = (s2.heap.objs.size, lobj (its ++ [xv]) k') := by simpa using hp
            subst e
            exact ⟨q', pn, hDC, nDfs, ncell _ _⟩
        refine ⟨m', hm, i + 1, ys ++ [v], its ++ [xv], k', H8, weakB I10 l6 d6, T.keep _ _ _ st5 fun b hb o e => ?_, fun b hb => ?_, rv.append (.cons rv8 .nil), w8⟩
        · exact (Heap.get?_update_other s8.heap (Obj.mapSeq (fun a => a.push xv)) (Ne.symm (below b (hfo b hb)).2)).trans (I8.pin (b, o) (List.mem_append_right _ (List.mem_append_right _ (mem_pinsAt hb e)))).1
        · obtain ⟨o, e, _⟩ := T.obj _ _ st5 b hb
          exact (I8.pin (b, o) (List.mem_append_right _ (List.mem_append_right _ (mem_pinsAt hb e)))).2.1
  exact codeAny_compStart_list (loop _ rfl) (T.self _ 0 _ _ _ (T.keep 0 _ _ t0 fun b _ o e => old b o e) (loop _ rfl))
theorem pe_comp {elt tg iter : Expr} {ifs : List Expr} {pos : Pos} {wi : TI} {g : TG} {tc : TT} {te : TE} (S : BScope X scope tgs ix) (hc : X.calm = true) (hi : PI X tg iter wi) (hg : ∀ fp C s H, PG (cxB X scope tgs fp C s H) tg g) (hgk : GK tgs.length g)
    (hif : ∀ fp C s H, PIfs (cxB X scope tgs fp C s H) ifs tc) (he : ∀ fp C s H, PE (cxB X scope tgs fp C s H) elt te) (hs : ∀ x, foldedSetIterable iter X.env x = pure x := by intro _; rfl) (ht : ∀ o v, letOwnedTupleGo tg o v = pure () := by intro _ _; rfl) :
    PE X (.ListComp elt [⟨tg, iter, ifs, 0⟩] scope pos) (tComp tgs ix wi g tc te) := by
  intro pins s σ H Q I h
  rw [eval_ListComp]
  refine wpAny_comprehension_free (use := none) rfl hs (closureFor_cells (S.cells I.ok)) S.kind S.loc ?_
  show wpAny _ _ (eval iter X.env) _ _ s
  refine thn (hi pins s σ H _ I h) fun v s1 h1 => thn h1 fun itv s2 h2 => ?_
  obtain ⟨it, fp, tn, J, H2, e, I2, T, t0, f2, W, w0, turn⟩ := h2
  subst e
  refine comp_block (RR := fun acc C => compPost (model X.prog X.w) X.A X.xe none (EP X pins σ Q) acc C) S ht hc hg hgk hif he I2 T t0 f2 W w0 turn ?_
  intro D C s' H' m J1 q hn fC
  obtain ⟨f0, f1, f2, f3, f4, f5⟩ := fC
  exact ⟨m, hn, fun h' sb => ⟨.ref D, H', J1.turned (t' := s'.toks) (fun b o hb e => (sb.2 b hb).trans e) f0 f1 f3 f4 f5, rfl, q⟩⟩
theorem ps_setComp {i : Nat} {y : Str} {py : Pos} {elt tg iter : Expr} {ifs : List Expr} {pos spos : Pos} {wi : TI} {g : TG} {tc : TT} {te : TE} (hN : X.N.Nodup) (hiN : X.N[i]? = some y) (hy : X.env.scope.names.lookup y = some .local)
    (S : BScope X scope tgs ix) (hc : X.calm = true) (hi : PI X tg iter wi) (hg : ∀ fp C s H, PG (cxB X scope tgs fp C s H) tg g) (hgk : GK tgs.length g)
    (hif : ∀ fp C s H, PIfs (cxB X scope tgs fp C s H) ifs tc) (he : ∀ fp C s H, PE (cxB X scope tgs fp C s H) elt te)
    (hsw : swapsWith (.ListComp elt [⟨tg, iter, ifs, 0⟩] scope pos) (some (.Name y py)) spos.line X.env = pure true := by rfl) (hs : ∀ x, foldedSetIterable iter X.env x = pure x := by intro _; rfl) (ht : ∀ o v, letOwnedTupleGo tg o v = pure () := by intro _ _; rfl) :
    PS X (.Assign [.Name y py] (.ListComp elt [⟨tg, iter, ifs, 0⟩] scope pos) spos) (tAsg (tComp tgs ix wi g tc te) (gName i)) := by
  intro pins s σ H D0 I h
  rw [exec_Assign_Name_used _ _ _ _ hsw]
  refine wpAny_bind (wpAny_standAt (wpAny_bind ?_))
  show wpAny _ X.A (do let _ ← comprehension (.ListComp elt [⟨tg, iter, ifs, 0⟩] scope pos) scope X.env _ (newList []) false (eval iter X.env) (some (assign (.Name y py) X.env))) _ _ s
  refine wpAny_bind (wpAny_mono (wpAny_comprehension_free (use := some (assign (.Name y py) X.env)) (Q := fun _ s' => SP X pins D0 .next s') rfl hs (closureFor_cells (S.cells I.ok)) S.kind S.loc ?_) (fun _ s' hq => wpAny_pure (wpAny_pure hq)) fun _ _ e => e)
  refine thn (hi pins s σ H _ I h) fun v s1 h1 => thn h1 fun itv s2 h2 => ?_
  obtain ⟨it, fp, tn, J, H2, e, I2, T, t0, f2, W, w0, turn⟩ := h2
  subst e
  refine comp_block (Q := fun x H1 => gName i x σ H1 D0.nx) (RR := fun acc C => compPost (model X.prog X.w) X.A X.xe (some (assign (.Name y py) X.env)) (fun _ s' => SP X pins D0 .next s') acc C) S ht hc hg hgk hif he I2 T t0 f2 W w0 turn ?_
  intro D C s' H' m J1 q hn fC
  obtain ⟨f0, f1, f2, f3, f4, f5⟩ := fC
  show wpAny _ X.A (assign (.Name y py) X.env (.ref D)) _ _ _
  refine wpAny_assign_Name (store_ok2 (v := .ref D) J1 hN hiN (.inl hy) rfl (fun s'' I'' hsb => ?_) (.inr hy))
  obtain ⟨a, sb, ha⟩ := hsb
  have hCa : C ≠ a := by
    rcases ha with z | z
    · rw [z]; exact f1
    · exact Ne.symm (f4 y a z)
  exact ⟨m, hn.sameBut sb hCa, fun h' sb' => ⟨_, H', I''.turned (t' := s''.toks) (fun b o hb e => (sb'.2 b hb).trans e) f0 f1 f3 f4 f5, q⟩⟩
end
end L2
namespace L2
open PySem PySem.Spec PyProof.Rows
section
variable {X : Cx}
theorem call_isinst : CallR X (.builtin "isinstance") (fun xs H Q => ∃ x T t b, xs = [x, .ty T] ∧ TyOf X.K H x t ∧ PySem.W.kitOne X.K t (.type T) = some b ∧ Q (.bl b) H) := by
  intro pins s σ H xs us Q I r h
  obtain ⟨x, T, t, b, rfl, ty, e, q⟩ := h
  obtain ⟨u, w', rfl, rx, ry⟩ := vals2 r
  cases ry
  exact isinst_ok I rx ty e fun tk => ⟨.bl b, H, I.tok tk, rfl, q⟩
end
section
variable {prog : Program} {w : World} {A : Around} {E : Value → Shared → Prop} {s : Shared}
end
end L2
namespace L2
open PySem PySem.Spec PyProof.Rows
section
variable {prog : Program} {w : World} {A : Around} {R : Result → Shared → Prop}
end
section
variable {X : Cx}
end
end L2
namespace L2
open PySem PySem.Spec PyProof.Rows
noncomputable def Its (x : Str) : It := ⟨fun i _ => i < x.cps.size, fun i H v H' => H' = H ∧ ∃ c, x.cps[i]? = some c ∧ v = .str ⟨#[c]⟩, fun i _ => i = x.cps.size⟩
theorem ownNo {tg : Expr} {it : Addr} {x : Str} {u : Tok} : letOwnedTupleGo tg (.ref it) (.str x u) = pure () := by
  unfold letOwnedTupleGo
  cases tg <;> rfl
theorem turn_str {P : Program} {w : World} {K : PySem.W.Frag} {tg : Expr} (it : Addr) (ty : String) (x : Str) (t : Tok)
    (W : ∀ A : Around, A.handled = none → Walks P w A it [it] [it] x.cps.size (SignAt x) (fun i h => h.IsStrIter it ty x t i)) (sf : ∀ (A : Around) (i : Nat) (s : Shared) (Q : Value → Shared → Prop) (E : Value → Shared → Prop), s.heap.IsStrIter it ty x t i → Q (.ref it) s → wpAny (model P w) A (pyIter (.ref it)) Q E s) :
    Turn P w K tg (Its x) [it] it (fun i h => h.IsStrIter it ty x t i) where
  mem := by simp
  obj := fun i h st b hb => by
    have e : b = it := by simpa using hb
    subst e
    obtain ⟨o, e, c, d⟩ := st
    exact ⟨o, e, fun v z => by rw [d] at z; cases z⟩
  keep := fun i h h' st k => by
    obtain ⟨o, e, r⟩ := st
    exact ⟨o, k it (by simp) o e, r⟩
  item := by
    intro X hP hw hK hc i pins s σ H E I hf st hg
    subst hP hw hK
    obtain ⟨f0, f1, f2, f3, f4, f5⟩ := hf it (by simp)
    refine (W X.A (I.ok.hd hc)).item i s _ _ hg st fun v h' tk hv st' kk => ?_
    obtain ⟨c, u, hcu, rfl⟩ := hv
    have I1 : Inv X pins σ H { s with heap := h', toks := tk } := I.turned (fun b o hb e => kk b o (by simpa using hb) e) f0 f1 f3 f4 f5
    exact ⟨_, rfl, wpAny_of_eq ownNo ⟨.str ⟨#[c]⟩, H, I1, ⟨u, rfl⟩, ⟨rfl, c, hcu, rfl⟩, st', fun b hb => (hf b hb).1⟩⟩
  done := by
    intro X hP hw hK hc i pins s σ H E I hf st hg
    subst hP hw hK
    obtain ⟨f0, f1, f2, f3, f4, f5⟩ := hf it (by simp)
    have hi : i = x.cps.size := hg
    subst hi
    exact (W X.A (I.ok.hd hc)).done s _ _ st fun h' tk kk => ⟨rfl, I.turned (fun b o hb e => kk b o (by simpa using hb) e) f0 f1 f3 f4 f5⟩
  self := fun A i s Q E st h => sf A i s Q E st h
noncomputable def iStr (tl : TE) : TI := fun σ H R => tl σ H fun v H1 => ∃ x, v = .str x ∧ R (Its x) H1
theorem pi_str {X : Cx} {tg l : Expr} {tl : TE} (hl : PE X l tl) : PI X tg l (iStr tl) := by
  intro pins s σ H R I h
  refine thn (hl pins s σ H _ I h) fun v s1 ⟨y, H1, I1, r1, q1⟩ => ?_
  obtain ⟨x, e, q⟩ := q1
  subst e
  obtain ⟨t, rfl⟩ := r1
  have fp : ∀ b ∈ [s1.heap.objs.size], FpOk X pins H1 b := fun b hb => by
    have e : b = s1.heap.objs.size := by simpa using hb
    subst e
    exact I1.fpOk (Nat.le_refl _) (I1.hok.fresh (Nat.le_refl _))
  cases ha : x.cps.all (· < 128) with
  | false =>
    refine wpAny_pyIter_wide ha ?_
    exact ⟨s1.heap.objs.size, [s1.heap.objs.size], _, Its x, H1, rfl, I1.kept (t' := s1.toks) fun b o e => Heap.get?_push_of_some _ e, turn_str _ "str_iterator" x t (fun A hA => Walks.strWide hA _ x t) (fun _ _ _ _ _ st h => wpAny_pyIter_striter_wide st h), ⟨_, Heap.get?_push_size _ rfl, rfl, rfl⟩, fp, q⟩
  | true =>
    refine wpAny_pyIter_ascii ha ?_
    exact ⟨s1.heap.objs.size, [s1.heap.objs.size], _, Its x, H1, rfl, I1.kept (t' := s1.toks) fun b o e => Heap.get?_push_of_some _ e, turn_str _ "str_ascii_iterator" x t (fun A hA => Walks.strAscii hA _ x t) (fun _ _ _ _ _ st h => wpAny_pyIter_striter_ascii st h), ⟨_, Heap.get?_push_size _ rfl, rfl, rfl⟩, fp, q⟩
theorem range_getD {α : Type} (d : α) (bs : List α) : (List.range bs.length).map (fun i => bs.getD i d) = bs := by
  apply List.ext_getElem
  · simp
  · intro i h1 h2
    simp [List.getD, h2]
theorem range_all (bs : List Bool) : ((List.range bs.length).all fun i => bs.getD i true) = bs.all id := by
  conv => rhs; rw [← range_getD true bs]
  rw [List.all_map]; rfl
section
variable {X : Cx}
theorem truth_bools {P : Program} {w : World} {A : Around} {bs : List Bool} {its : List Value} (r : Vals (bs.map V.bl) its) : TruthOf P w A (fun i v => its.toArray[i]? = some v) (fun i => bs.getD i true) := by
  intro i v s Q E hP hQ
  have hi : its[i]? = some v := by simpa using hP
  have hlt : i < its.length := (List.getElem?_eq_some_iff.mp hi).1
  have hl := r.length
  rw [List.length_map] at hl
  have hb : (bs.map V.bl)[i]? = some (V.bl (bs.getD i true)) := by
    rw [List.getElem?_map, List.getElem?_eq_getElem (show i < bs.length by omega)]
    simp [List.getD, show i < bs.length by omega]
  obtain ⟨u, hu, ru⟩ := r.get hb
  rw [hi] at hu; cases hu
  cases ru
  exact wpAny_truthy_bool hQ
theorem bools_walk (hc : X.calm = true) {pins : List (Addr × Obj)} {s : Shared} {σ : St} {H : Hp} {a : Addr} {bs : List Bool} {Q : VK} {c : Bool} {f : (Nat → Bool) → List Nat → Bool} (I : Inv X pins σ H s) (ha : SqL X.K H a (bs.map V.bl)) (hf : f (fun i => bs.getD i true) (List.range bs.length) = c) (q : Q (.bl c) H) :
    wpAny (model X.prog X.w) X.A.in1 (pyIter (.ref a)) (fun it s₂ => ∃ I fp wr n P St tr, it = .ref I ∧ Walks X.prog X.w X.A.in1 I fp wr n P St ∧ St 0 s₂.heap ∧ TruthOf X.prog X.w X.A.in1 P tr ∧
      ∀ h' tk, (∀ b o, b ∉ wr → s₂.heap.get? b = some o → h'.get? b = some o) → EP X pins σ Q (.bool (f tr (List.range n))) { s₂ with heap := h', toks := tk }) X.xe s := by
  obtain ⟨its, r, p, hz⟩ := I.list ha
  refine wpAny_pyIter_list p.isList ?_
  have hlt : a < s.heap.objs.size := by
    obtain ⟨o, n, e, _⟩ := p
    exact Heap.lt_size e
  have I1 : Inv X pins σ H { s with heap := s.heap.push { cls := .type "list_iterator", data := .fields #[.ref a, .int 0 0] } } := I.kept (t' := s.toks) fun b o e => Heap.get?_push_of_some _ e
  obtain ⟨f0, f1, f2, f3, f4, f5⟩ := I.fpOk (H' := H) (Nat.le_refl _) (I.hok.fresh (Nat.le_refl _))
  refine ⟨s.heap.objs.size, _, _, _, _, _, _, rfl, Walks.list (prog := X.prog) (w := X.w) (A := X.A.in1) (show X.A.handled = none from I.ok.hd hc) s.heap.objs.size a (Nat.ne_of_lt hlt) its.toArray, ⟨⟨_, Heap.get?_push_size _ rfl, rfl, rfl⟩, p.isList.push _⟩, truth_bools r, fun h' tk kk => ?_⟩
  have hl := r.length
  rw [List.length_map] at hl
  rw [List.size_toArray, ← hl, hf]
  exact ⟨.bl c, H, I1.turned (t' := tk) (fun b o hb e => kk b o (by simpa using hb) e) f0 f1 f3 f4 f5, rfl, q⟩
theorem call_allB (hc : X.calm = true) : CallR X (.builtin "all") (fun xs H Q => ∃ (a : Addr) (bs : List Bool), xs = [.ref a] ∧ SqL X.K H a (bs.map V.bl) ∧ Q (.bl (bs.all id)) H) := by
  intro pins s σ H xs us Q I r h
  obtain ⟨a, bs, rfl, ha, q⟩ := h
  obtain ⟨u, rfl, ru⟩ := vals1 r
  cases ru
  exact call_all_walk (bools_walk (f := fun tr l => l.all tr) hc I ha (range_all bs) q)
end
mutual
inductive DatV (K : PySem.W.Frag) (H : Hp) : V → PyData → Prop
  | non : DatV K H .non .none
  | bl (b : Bool) : DatV K H (.bl b) (.bool b)
  | int (i : Int) : DatV K H (.int i) (.int i)
  | str (x : Str) : DatV K H (.str x) (.str x)
  | tup {a : Addr} {xs : List V} {ds : List PyData} : SqT K H a xs → DatVs K H xs ds → DatV K H (.ref a) (.tuple ds)
  | lst {a : Addr} {xs : List V} {ds : List PyData} : SqL K H a xs → DatVs K H xs ds → DatV K H (.ref a) (.list ds)
inductive DatVs (K : PySem.W.Frag) (H : Hp) : List V → List PyData → Prop
  | nil : DatVs K H [] []
  | cons {v : V} {d : PyData} {vs : List V} {ds : List PyData} : DatV K H v d → DatVs K H vs ds → DatVs K H (v :: vs) (d :: ds)
end
section
variable {X : Cx} {pins : List (Addr × Obj)} {σ : St} {H : Hp} {s : Shared}
mutual
theorem DatV.reads (I : Inv X pins σ H s) : ∀ {v : V} {d : PyData}, DatV X.K H v d → ∀ {u : Value}, RelV v u → ∃ as, Reads s.heap u d as
  | _, _, .non, _, r => by cases r; exact ⟨[], .none⟩
  | _, _, .bl b, _, r => by cases r; exact ⟨[], .bool b⟩
  | _, _, .int i, _, r => by obtain ⟨t, rfl⟩ := r; exact ⟨[], .int i t⟩
  | _, _, .str x, _, r => by obtain ⟨t, rfl⟩ := r; exact ⟨[], .str x t⟩
  | _, _, .tup hq hs, _, r => by
    cases r
    obtain ⟨its, rv, ⟨o, e, c, n, d⟩, _⟩ := I.tuple hq
    obtain ⟨as, ra⟩ := DatVs.reads I hs rv
    exact ⟨_, .tuple e c d (by simpa using ra)⟩
  | _, _, .lst hq hs, _, r => by
    cases r
    obtain ⟨its, rv, ⟨o, n, e, c, _, d⟩, _⟩ := I.list hq
    obtain ⟨as, ra⟩ := DatVs.reads I hs rv
    exact ⟨_, .list e c d (by simpa using ra)⟩
theorem DatVs.reads (I : Inv X pins σ H s) : ∀ {vs : List V} {ds : List PyData}, DatVs X.K H vs ds → ∀ {us : List Value}, Vals vs us → ∃ as, ReadsAll s.heap us ds as
  | _, _, .nil, _, .nil => ⟨[], .nil⟩
  | _, _, .cons h t, _, .cons r rr => by
    obtain ⟨a, ra⟩ := DatV.reads I h r
    obtain ⟨b, rb⟩ := DatVs.reads I t rr
    exact ⟨_, .cons ra rb⟩
end
end
section
variable {X : Cx}
theorem op_eqP (hu : X.A.units + 64 < cLine) : OpR X (compareOp .Eq) (fun x y H Q => ∃ d d', DatV X.K H x d ∧ DatV X.K H y d' ∧ SeqAt.shaped d = true ∧ SeqAt.shaped d' = true ∧ Q (.bl (PyData.eqv d d')) H) := by
  intro pins s σ H x y v u Q I rx ry h
  obtain ⟨d, d', h1, h2, s1, s2, q⟩ := h
  obtain ⟨as, ra⟩ := h1.reads I rx
  obtain ⟨bs, rb⟩ := h2.reads I ry
  exact SeqAt.compareEq_shaped ra rb s1 s2 hu ⟨.bl _, H, I, rfl, q⟩
theorem op_neP (hu : X.A.units + 64 < cLine) : OpR X (compareOp .NotEq) (fun x y H Q => ∃ d d', DatV X.K H x d ∧ DatV X.K H y d' ∧ SeqAt.shaped d = true ∧ SeqAt.shaped d' = true ∧ Q (.bl (!PyData.eqv d d')) H) := by
  intro pins s σ H x y v u Q I rx ry h
  obtain ⟨d, d', h1, h2, s1, s2, q⟩ := h
  obtain ⟨as, ra⟩ := h1.reads I rx
  obtain ⟨bs, rb⟩ := h2.reads I ry
  exact SeqAt.compareNe_shaped ra rb s1 s2 hu ⟨.bl _, H, I, rfl, q⟩
theorem room64 {A : Around} {k : Nat} (hr : Room k A) : A.units + 64 < cLine := hr.units
end
end L2
namespace L2
open PySem PySem.Spec PyProof.Rows
theorem Inv.turnedL {X : Cx} {pins : List (Addr × Obj)} {σ : St} {H : Hp} {s : Shared} {h' : Heap} {t' : Nat} {ch : List Addr} (I : Inv X pins σ H s) (k : ∀ b o, b ∉ ch → s.heap.get? b = some o → h'.get? b = some o) (hf : ∀ b ∈ ch, FpOk X pins H b) : Inv X pins σ H { s with heap := h', toks := t' } := by
  have nit : ∀ b u, H b = some u → b ∉ ch := fun b u e z => by rw [(hf b z).1] at e; cases e
  refine I.step (g' := s.gens) (d' := s.drawn) (ch := ch) (fun b hb => ⟨(hf b hb).2.2.2.1, (hf b hb).2.1, (hf b hb).2.2.2.2.1, (hf b hb).2.2.2.2.2⟩) (fun b o _ _ hc e _ => k b o hc e) (fun b o _ _ hc e _ => ⟨o.slots, k b o hc e⟩) (fun _ _ _ _ n => n)
    (fun b o hc e => ⟨o, k b o hc e⟩) (fun _ _ e => e) (fun _ _ _ e => e) (fun b ps e => ⟨#[], by rw [e]; simp⟩) (fun m hm => ?_) (fun b u e => ?_) I.bare
  · obtain ⟨o, es, ep, ho, r⟩ := hm
    exact ⟨o, es, ep, k _ o (fun z => (hf _ z).2.1 rfl) ho, r⟩
  · refine (I.hok b u e).stay (fun c v hc q => k c v ?_ q) (fun _ q => q) fun _ _ q => q
    rcases hc with z | z
    · rw [z]; exact nit b u e
    · exact nit c _ z
noncomputable def ItP (K : PySem.W.Frag) (n : Nat) (src : Nat → List V) (Cond : PySem.W.Frag → Hp → Prop) : It :=
  ⟨fun i H => i < n ∧ Cond K H, fun i H v H' => ∃ T, H T = none ∧ v = .ref T ∧ H' = upd H T (.tup (src i)), fun i H => i = n ∧ Cond K H⟩
theorem turn_pairs {P : Program} {w : World} {K : PySem.W.Frag} {es : List Expr} {k0 : Nat} {pos : Pos} {I0 : Addr} {ι : Type} {fp wr : List Addr} {n : Nat} {src : Nat → List V} {good : ι → Prop} {Pt : ι → Nat → Array Value → Prop} {Sw : ι → Nat → Heap → Prop} {Mid : ι → Nat → Addr → Heap → Prop} {tn : Nat → Heap → Prop} {Cond : PySem.W.Frag → Hp → Prop}
    (W : ∀ A : Around, A.handled = none → ∀ z, good z → WalksT P w A I0 fp wr n (Pt z) (Sw z) (Mid z)) (hmem : I0 ∈ wr) (hPt : ∀ z i vals, good z → Pt z i vals → Vals (src i) vals.toList) (hlen : ∀ i, (src i).length ≤ sizeLine)
    (obj : ∀ i h, tn i h → ∀ b ∈ wr, ∃ o, h.get? b = some o ∧ ∀ v, o.data ≠ .cell v)
    (keep : ∀ i h h', tn i h → (∀ b ∈ wr, ∀ o, h.get? b = some o → h'.get? b = some o) → tn i h')
    (into : ∀ (X : Cx) (pins : List (Addr × Obj)) (σ : St) (H : Hp) (s : Shared) (i : Nat), X.prog = P → X.w = w → X.K = K → Inv X pins σ H s → Cond K H → tn i s.heap → ∃ z, good z ∧ Sw z i s.heap) (out : ∀ z i h, Sw z i h → tn i h)
    (self : ∀ (A : Around) (i : Nat) (s : Shared) (Q : Value → Shared → Prop) (E : Value → Shared → Prop), tn i s.heap → Q (.ref I0) s → wpAny (model P w) A (pyIter (.ref I0)) Q E s) :
    Turn P w K (.Tuple es k0 pos) (ItP K n src Cond) wr I0 tn where
  mem := hmem
  obj := obj
  keep := keep
  item := by
    intro X hP hw hK hc i pins s σ H E I hf st hg
    obtain ⟨hi, hcond⟩ := hg
    obtain ⟨z, gz, sz⟩ := into X pins σ H s i hP hw hK I hcond st
    have W' := W X.A (I.ok.hd hc) z gz
    refine W'.item i s _ _ hi sz fun T vals h' tk hp hT ht hm kk => ⟨_, rfl, ?_⟩
    have I1 : Inv X pins σ H { s with heap := h', toks := tk } := I.turnedL kk hf
    refine W'.go es k0 pos i T _ _ _ hm fun h2 st2 kk2 => ?_
    have I2 : Inv X pins σ H { s with heap := h2, toks := tk } := I1.turnedL (t' := tk) kk2 hf
    have hn : H T = none := I.hok.fresh hT
    have ht2 : IsTup h2 T vals := by
      obtain ⟨o, e, r⟩ := ht
      exact ⟨o, kk2 T o (W'.apart i T _ hm) e, r⟩
    refine ⟨.ref T, upd H T (.tup (src i)), I2.track (I.fpOk hT hn) ⟨hlen i, vals.toList, hPt z i vals gz hp, by simpa using ht2⟩, rfl, ⟨T, hn, rfl, rfl⟩, out z _ _ st2, fun b hb => ?_⟩
    have hbT : b ≠ T := fun z => W'.apart i T _ hm (by rw [← z]; exact hb)
    rw [upd_ne hbT]
    exact (hf b hb).1
  done := by
    intro X hP hw hK hc i pins s σ H E I hf st hg
    obtain ⟨hi, hcond⟩ := hg
    subst hi
    obtain ⟨z, gz, sz⟩ := into X pins σ H s i hP hw hK I hcond st
    exact (W X.A (I.ok.hd hc) z gz).done s _ _ sz fun h' tk kk => ⟨rfl, I.turnedL kk hf⟩
  self := self
noncomputable def enSrc (xs : List V) (i : Nat) : List V := [.int i, xs.getD i .non]
theorem enSrc_vals {xs : List V} {its : List Value} (r : Vals xs its) {i : Nat} {vals : Array Value} (h : ∃ t x, its.toArray[i]? = some x ∧ vals = #[.int i t, x]) : Vals (enSrc xs i) vals.toList := by
  obtain ⟨t, x, hx, rfl⟩ := h
  have hx' : its[i]? = some x := by simpa using hx
  have hlt : i < its.length := (List.getElem?_eq_some_iff.mp hx').1
  have hl := r.length
  have hv : xs[i]? = some (xs.getD i .non) := by
    rw [List.getElem?_eq_getElem (by omega)]
    simp [List.getD, show i < xs.length by omega]
  obtain ⟨u, hu, ru⟩ := r.get hv
  rw [hx'] at hu; cases hu
  exact .cons ⟨t, rfl⟩ (.cons ru .nil)
theorem en_self {P : Program} {w : World} {e it : Addr} {f : Nat → Heap → Prop} (A : Around) (i : Nat) (s : Shared) (Q : Value → Shared → Prop) (E : Value → Shared → Prop) (st : (∃ old, IsEnum s.heap e it i old) ∧ f i s.heap) (h : Q (.ref e) s) : wpAny (model P w) A (pyIter (.ref e)) Q E s := by
  obtain ⟨⟨old, he⟩, _⟩ := st
  exact wpAny_pyIter_enum he h
theorem en_obj {e it : Addr} {h : Heap} {i : Nat} {o : Obj} (he : ∃ old, IsEnum h e it i old) (ho : h.get? it = some o) (hd : ∃ vs, o.data = .fields vs) : ∀ b ∈ [e, it], ∃ o, h.get? b = some o ∧ ∀ v, o.data ≠ .cell v := fun b hb => by
  rcases List.mem_cons.mp hb with z | z
  · subst z
    obtain ⟨old, he⟩ := he
    exact ⟨_, he, fun v q => by cases q⟩
  · rw [List.mem_singleton.mp z]
    obtain ⟨vs, hd⟩ := hd
    exact ⟨o, ho, fun v q => by rw [hd] at q; cases q⟩
theorem turn_enumL {P : Program} {w : World} {K : PySem.W.Frag} {es : List Expr} {k0 : Nat} {pos : Pos} (a e it : Addr) (xs : List V) (hei : e ≠ it) (hea : e ≠ a) (hai : a ≠ it) :
    Turn P w K (.Tuple es k0 pos) (ItP K xs.length (enSrc xs) fun K H => SqL K H a xs) [e, it] e (fun i h => (∃ old, IsEnum h e it i old) ∧ h.IsListIter it a i) :=
  turn_pairs (ι := List Value) (good := fun its => Vals xs its) (Pt := fun its i vals => ∃ t x, its.toArray[i]? = some x ∧ vals = #[.int i t, x]) (Sw := fun its i h => (∃ old, IsEnum h e it i old) ∧ h.IsListIter it a i ∧ h.IsList a its.toArray)
    (fun A hA its r => by
      have hl : xs.length = its.toArray.size := by rw [List.size_toArray]; exact r.length
      rw [hl]
      exact WalksT.enumerateD (Draws.list (show A.in1.handled = none from hA) it a hai its.toArray) e hei (by simp [hei, hea]) (by simp))
    (by simp) (fun its i vals r h => enSrc_vals r h) (fun i => (by show 2 ≤ sizeLine; decide))
    (fun i h st => by obtain ⟨o, ho, _, hd⟩ := st.2; exact en_obj st.1 ho ⟨_, hd⟩)
    (fun i h h' st k => ⟨by obtain ⟨old, q⟩ := st.1; exact ⟨old, k e (by simp) _ q⟩, st.2.at fun o q => k it (by simp) o q⟩)
    (fun X pins σ H s i hP hw hK I hc st => by
      subst hK
      obtain ⟨its, r, p, _⟩ := I.list hc
      exact ⟨its, r, st.1, st.2, p.isList⟩)
    (fun z i h st => ⟨st.1, st.2.1⟩) (fun A i s Q E st h => en_self (f := fun i h => h.IsListIter it a i) A i s Q E st h)
end L2
namespace L2
open PySem PySem.Spec PyProof.Rows
open AutoSeq1 (wpAny_loadPart')
section
variable {X : Cx} {es : List Expr} {k0 : Nat} {tpos : Pos}
noncomputable def iEnumL (K : PySem.W.Frag) (ta : TA) : TI := fun σ H R => ta σ H fun vs H1 => ∃ a xs, vs = [.ref a] ∧ SqL K H1 a xs ∧ R (ItP K xs.length (enSrc xs) fun K H => SqL K H a xs) H1
theorem boot_enum : bootBuiltins "enumerate" = some (.type "enumerate") := by decide +kernel
theorem two_fp {pins : List (Addr × Obj)} {σ : St} {H : Hp} {s : Shared} (I : Inv X pins σ H s) : ∀ b ∈ [s.heap.objs.size + 1, s.heap.objs.size], FpOk X pins H b := fun b hb => by
  have hb' : b = s.heap.objs.size + 1 ∨ b = s.heap.objs.size := by simpa using hb
  rcases hb' with e | e <;> subst e
  · exact I.fpOk (Nat.le_succ _) (I.hok.fresh (Nat.le_succ _))
  · exact I.fpOk (Nat.le_refl _) (I.hok.fresh (Nat.le_refl _))
theorem pi_enumL {a : Expr} {ta : TA} {p pos : Pos} (hg : Gl X "enumerate") (hm : X.mg "enumerate" = none) (ha : PA X [a] ta) (hs : starEach [a] X.env = [(false, eval a X.env)] := by rfl) : PI X (.Tuple es k0 tpos) (.Call (.Name "enumerate" p) [a] [] pos) (iEnumL X.K ta) := by
  intro pins s σ H R I h
  refine Call_ (ld_blt I hg hm boot_enum (PyProof.Rows.callWith_type1 (thn (ha pos pins s σ H _ I h) fun us s1 ⟨vs, H1, I1, r1, q1⟩ => ?_) hs rfl))
  obtain ⟨l, xs, e, hq, q⟩ := q1
  subst e
  obtain ⟨u, rfl, ru⟩ := vals1 r1
  cases ru
  obtain ⟨its, rv, pl, hz⟩ := I1.list hq
  have hlt : l < s1.heap.objs.size := by obtain ⟨o, n, e, _⟩ := pl; exact Heap.lt_size e
  refine call_enumerate_list pl.isList fun h' he hit hsz kk => wpAny_pyIter_enum he ?_
  exact ⟨s1.heap.objs.size + 1, [s1.heap.objs.size + 1, s1.heap.objs.size], _, _, H1, rfl, I1.kept (t' := s1.toks) kk, turn_enumL l _ _ xs (Nat.succ_ne_self _) (Nat.ne_of_gt (Nat.lt_succ_of_lt hlt)) (Nat.ne_of_lt hlt), ⟨⟨_, he⟩, hit⟩, two_fp I1, q⟩
end
end L2
namespace L2
open PySem PySem.Spec PyProof.Rows
noncomputable def KGet (P : Params) (K : PySem.W.Frag) (a : Addr) (y : V) (r : Option V) : Prop :=
  ∃ x es n r', y = .str x ∧ K.lookup a = some ⟨.type "dict", none, .dict es n, #[]⟩ ∧ PySem.W.KeysLit P es.toList ∧ PySem.W.nsIn K a x = some r' ∧ RelO r r' ∧ (a == sysModules) = false
section
variable {X : Cx} {pins : List (Addr × Obj)} {σ : St} {H : Hp} {s : Shared} {a : Addr} {y v : V} {u r : Value} {o : Option V} {A : Around} {E : Value → Shared → Prop}
theorem KGet.typeIs (I : Inv X pins σ H s) (g : KGet X.w.params X.K a y o) : s.TypeIs (.ref a) "dict" := by
  obtain ⟨x, es, n, r', _, hl, _⟩ := g
  exact ⟨_, I.kIn a _ hl, rfl⟩
theorem k_getItem {Q : Value → Shared → Prop} (I : Inv X pins σ H s) (g : KGet X.w.params X.K a y (some v)) (ry : RelV y u) (h : ∀ w' s', Inv X pins σ H s' → RelV v w' → Q w' s') :
    wpAny (model X.prog X.w) A (getItem (.ref a) u) Q E s := by
  obtain ⟨x, es, n, r', e, hl, hk, hn, ro, _⟩ := g
  subst e
  obtain ⟨t, rfl⟩ := ry
  obtain ⟨w', rfl, rw'⟩ := RelO.some_of ro
  exact wpAny_getItem_of (strKind_is X.prog X.w x t) (PySem.W.mapOf_K (prog := X.prog) (fun a o q => I.kIn a o q) hl hk) (PySem.W.find_K hl hn) (h w' _ (I.tok _) rw')
theorem k_in {Q : Value → Shared → Prop} (I : Inv X pins σ H s) (g : KGet X.w.params X.K a y o) (ry : RelV y u) (h : ∀ s', Inv X pins σ H s' → Q (.bool o.isSome) s') :
    wpAny (model X.prog X.w) A (compareOp .In u (.ref a)) Q E s := by
  obtain ⟨x, es, n, r', e, hl, hk, hn, ro, lo⟩ := g
  subst e
  obtain ⟨t, rfl⟩ := ry
  refine wpAny_in_of (strKind_is X.prog X.w x t) lo (PySem.W.mapOf_K (prog := X.prog) (fun a o q => I.kIn a o q) hl hk) ?_
  rw [PySem.W.find_K hl hn, ← ro.isSome_eq]
  exact h _ (I.tok _)
end
noncomputable def tKGet (P : Params) (K : PySem.W.Frag) (td ty : TE) : TE := fun σ H Q => td σ H fun x H1 => ty σ H1 fun y H2 => ∃ a v, x = .ref a ∧ KGet P K a y (some v) ∧ Q v H2
noncomputable def tKIn (P : Params) (K : PySem.W.Frag) (ty td : TE) : TE := fun σ H Q => ty σ H fun y H1 => td σ H1 fun x H2 => ∃ a o, x = .ref a ∧ KGet P K a y o ∧ Q (.bl o.isSome) H2
section
variable {X : Cx} {o i e value : Expr} {pos pos' tpos : Pos} {td ty tv : TE}
theorem pe_kget (ho : PE X o td) (hi : PE X i ty) (hs : NoSl i) : PE X (.Subscript o i pos) (tKGet X.w.params X.K td ty) := by
  intro pins s σ H Q I h
  refine subD_of PySem.F.slot_dict_getitem.lookup hs (thn (ho pins s σ H _ I h) fun u s1 ⟨x, H1, I1, rx, q1⟩ => thn (hi pins s1 σ H1 _ I1 q1) fun iv s2 ⟨y, H2, I2, ry, a, v, ex, g, q2⟩ => ?_)
  subst ex
  obtain rfl : u = Value.ref a := rx
  exact ⟨g.typeIs I2, k_getItem I2 g ry fun w' s3 I3 rw' => ⟨v, H2, I3, rw', q2⟩⟩
theorem pc_kin (hi : PE X i ty) (ho : PE X o td) : PC X .In i o (tKIn X.w.params X.K ty td) := by
  intro pins s σ H Q I h
  refine thn (hi pins s σ H _ I h) fun iv s1 ⟨y, H1, I1, ry, q1⟩ => thn (ho pins s1 σ H1 _ I1 q1) fun u s2 ⟨x, H2, I2, rx, a, ov, ex, g, q2⟩ => ?_
  subst ex
  obtain rfl : u = Value.ref a := rx
  exact k_in I2 g ry fun s3 I3 => ⟨.bl ov.isSome, H2, I3, rfl, q2⟩
end
end L2
namespace L2
open PySem PySem.Spec PyProof.Rows
noncomputable def tFmt (tv : TE) : TE := fun σ H Q => tv σ H fun v H1 => (∃ x, v = .str x ∧ x.length ≤ sizeLine ∧ Q (.str x) H1) ∨ ∃ a : Int, v = .int a ∧ a.natAbs.log2 < 1920 ∧ Q (.str (toString a)) H1
noncomputable def tJoin : List TE → Str → TE
  | [], out => fun _ H Q => out.length ≤ sizeLine ∧ Q (.str out) H
  | t :: r, out => fun σ H Q => t σ H fun v H1 => ∃ y, v = .str y ∧ (out ++ y).length ≤ sizeLine ∧ tJoin r (out ++ y) σ H1 Q
noncomputable def PJ (X : Cx) (es : List Expr) (ts : List TE) : Prop :=
  ∀ (out : Str) (pins : List (Addr × Obj)) (s : Shared) (σ : St) (H : Hp) (Q : VK), Inv X pins σ H s → tJoin ts out σ H Q → wpAny (model X.prog X.w) X.A (joinParts out (evalEach es X.env)) (EP X pins σ Q) X.xe s
section
variable {X : Cx} {value e e2 : Expr} {es : List Expr} {pos : Pos} {tv t t2 : TE} {ts : List TE}
theorem pe_fmt (hv : PE X value tv) : PE X (.FormattedValue value (-1) none pos) (tFmt tv) := by
  intro pins s σ H Q I h
  refine FormattedValue_plain (thn (hv pins s σ H _ I h) fun u s1 ⟨v, H1, I1, r, q⟩ => ?_)
  rcases q with ⟨x, e, hz, q⟩ | ⟨a, e, hz, q⟩
  · subst e
    obtain ⟨t, rfl⟩ := r
    exact formatField_str (fun t' tk => ⟨.str x, H1, I1.tok _, ⟨t', rfl⟩, q⟩) hz
  · subst e
    obtain ⟨t, rfl⟩ := r
    exact formatField_int_small hz ⟨.str (toString a), H1, I1.tok _, ⟨_, rfl⟩, q⟩
theorem pj_nil : PJ X [] [] := fun out pins s σ H Q I h => joinParts_nil ⟨.str out, H, I.tok _, ⟨_, rfl⟩, h.2⟩ h.1
theorem pj_cons (he : PE X e t) (hr : PJ X es ts) : PJ X (e :: es) (t :: ts) := fun out pins s σ H Q I h => by
  show wpAny _ _ (joinParts out (eval e X.env :: evalEach es X.env)) _ _ _
  refine joinParts_cons (thn (he pins s σ H _ I h) fun u s1 ⟨v, H1, I1, r, y, e, hz, q⟩ => ?_)
  subst e
  obtain ⟨tk, rfl⟩ := r
  exact ⟨hz, hr _ pins s1 σ H1 Q I1 q⟩
theorem pe_joined (h : PJ X (e :: e2 :: es) (t :: t2 :: ts)) : PE X (.JoinedStr (e :: e2 :: es) pos) (tJoin (t :: t2 :: ts) Str.empty) := fun pins s σ H Q I q => JoinedStr_many (h Str.empty pins s σ H Q I q)
end
end L2
namespace Mi
open PySem L2
inductive D where
  | non | bl (b : Bool) | int (i : Int) | str (x : Str) | ty (n : String) | scr (ns : List Int) | tup (xs : List D) | lst (xs : List D) | ref (n : Nat)
inductive MO where
  | lst (xs : List D) | dK (kvs : List (Key × D))
noncomputable abbrev Mh := List MO
noncomputable abbrev M (α : Type) := Mh → Option (α × Mh)
noncomputable abbrev Sl := List (Option D)
noncomputable def ret {α : Type} (a : α) : M α := fun μ => some (a, μ)
noncomputable def bnd {α β : Type} (m : M α) (f : α → M β) : M β := fun μ => match m μ with
  | some (a, μ1) => f a μ1
  | none => none
noncomputable def fail {α : Type} : M α := fun _ => none
theorem bnd_some {α β : Type} {m : M α} {f : α → M β} {μ : Mh} {r : β × Mh} (h : bnd m f μ = some r) : ∃ a μ1, m μ = some (a, μ1) ∧ f a μ1 = some r := by
  unfold bnd at h
  cases e : m μ with
  | none => rw [e] at h; cases h
  | some p => obtain ⟨a, μ1⟩ := p; rw [e] at h; exact ⟨a, μ1, rfl, h⟩
@[simp] theorem bnd_ret {α β : Type} (a : α) (f : α → M β) : bnd (ret a) f = f a := rfl
theorem bnd_of {α β : Type} {m : M α} {f : α → M β} {μ μ1 : Mh} {a : α} (h : m μ = some (a, μ1)) : bnd m f μ = f a μ1 := by unfold bnd; rw [h]
noncomputable def ScrAt (K : PySem.W.Frag) (H : Hp) (a : Addr) (xs : List V) : Prop :=
  (∃ o, H a = some (.frz o (.lst xs))) ∨ ∃ (o : Obj) (its : Array Value) (n : Nat), K.lookup a = some o ∧ o.cls = .type "list" ∧ o.dict = none ∧ o.data = .seq its n ∧ its.size ≤ sizeLine ∧ Vals xs its.toList
theorem ScrAt.sq {K : PySem.W.Frag} {H : Hp} {a : Addr} {xs : List V} (h : ScrAt K H a xs) : SqL K H a xs := h.elim (fun z => .inl (.inr z)) .inr
mutual
noncomputable def Is (K : PySem.W.Frag) (ι : Nat → Addr) (k : Nat) (H : Hp) : D → V → Prop
  | .non, v => v = .non
  | .bl b, v => v = .bl b
  | .int i, v => v = .int i
  | .str x, v => v = .str x
  | .ty n, v => v = .ty n
  | .scr ns, v => ∃ p, v = .ref p ∧ ScrAt K H p (ns.map V.int)
  | .tup ds, v => ∃ p vs, v = .ref p ∧ SqT K H p vs ∧ IsL K ι k H ds vs
  | .lst ds, v => ∃ p vs, v = .ref p ∧ H p = some (.lst vs) ∧ (∀ n, n < k → ι n ≠ p) ∧ IsL K ι k H ds vs
  | .ref n, v => n < k ∧ v = .ref (ι n)
noncomputable def IsL (K : PySem.W.Frag) (ι : Nat → Addr) (k : Nat) (H : Hp) : List D → List V → Prop
  | [], vs => vs = []
  | d :: ds, vs => ∃ v vs', vs = v :: vs' ∧ Is K ι k H d v ∧ IsL K ι k H ds vs'
end
section
variable {K : PySem.W.Frag} {ι ι' ι2 : Nat → Addr} {k k' k2 : Nat} {H H' H2 : Hp}
theorem IsL.length : ∀ {ds : List D} {vs : List V}, IsL K ι k H ds vs → vs.length = ds.length
  | [], _, h => by unfold IsL at h; subst h; rfl
  | _ :: _, _, h => by
    unfold IsL at h
    obtain ⟨v, vs', rfl, _, h⟩ := h
    simp only [List.length_cons, IsL.length h]
theorem IsL.get : ∀ {ds : List D} {vs : List V} {i : Nat} {d : D}, IsL K ι k H ds vs → ds[i]? = some d → ∃ v, vs[i]? = some v ∧ Is K ι k H d v
  | [], _, _, _, _, e => by simp at e
  | _ :: _, _, 0, _, h, e => by
    unfold IsL at h
    obtain ⟨v, vs', rfl, h1, _⟩ := h
    simp at e; subst e
    exact ⟨v, rfl, h1⟩
  | _ :: _, _, i + 1, d, h, e => by
    unfold IsL at h
    obtain ⟨v, vs', rfl, _, h⟩ := h
    obtain ⟨u, e1, e2⟩ := IsL.get (i := i) (d := d) h (by simpa using e)
    exact ⟨u, by simpa using e1, e2⟩
theorem IsL.append : ∀ {ds es : List D} {vs us : List V}, IsL K ι k H ds vs → IsL K ι k H es us → IsL K ι k H (ds ++ es) (vs ++ us)
  | [], _, _, _, h, q => by unfold IsL at h; subst h; exact q
  | _ :: _, _, _, _, h, q => by
    unfold IsL at h
    obtain ⟨v, vs', rfl, h1, h⟩ := h
    show IsL K ι k H (_ :: (_ ++ _)) _
    unfold IsL
    exact ⟨v, _, rfl, h1, IsL.append h q⟩
theorem IsL.take : ∀ (n : Nat) {ds : List D} {vs : List V}, IsL K ι k H ds vs → IsL K ι k H (ds.take n) (vs.take n)
  | 0, ds, vs, _ => by rw [List.take_zero, List.take_zero]; unfold IsL; rfl
  | n + 1, [], _, h => by unfold IsL at h; subst h; simp only [List.take_nil]; unfold IsL; rfl
  | n + 1, _ :: _, _, h => by
    unfold IsL at h
    obtain ⟨v, vs', rfl, h1, h⟩ := h
    simp only [List.take_succ_cons]
    unfold IsL
    exact ⟨v, _, rfl, h1, IsL.take n h⟩
theorem IsL.drop : ∀ (n : Nat) {ds : List D} {vs : List V}, IsL K ι k H ds vs → IsL K ι k H (ds.drop n) (vs.drop n)
  | 0, _, _, h => h
  | n + 1, [], _, h => by unfold IsL at h; subst h; simp only [List.drop_nil]; unfold IsL; rfl
  | n + 1, _ :: _, _, h => by
    unfold IsL at h
    obtain ⟨v, vs', rfl, h1, h⟩ := h
    simp only [List.drop_succ_cons]
    exact IsL.drop n h
theorem IsL.cons {d : D} {ds : List D} {v : V} {vs : List V} (h : Is K ι k H d v) (t : IsL K ι k H ds vs) : IsL K ι k H (d :: ds) (v :: vs) := by
  unfold IsL
  exact ⟨v, vs, rfl, h, t⟩
theorem IsL.nil : IsL K ι k H [] [] := by unfold IsL; rfl
theorem IsL.one {d : D} {v : V} (h : Is K ι k H d v) : IsL K ι k H [d] [v] := .cons h .nil
theorem IsL.set {d : D} {v : V} (h1 : Is K ι k H d v) : ∀ {ds : List D} {vs : List V} (i : Nat), IsL K ι k H ds vs → IsL K ι k H (ds.set i d) (vs.set i v)
  | [], _, _, h => by unfold IsL at h; subst h; exact .nil
  | _ :: _, _, 0, h => by
    unfold IsL at h
    obtain ⟨v, vs', rfl, _, h⟩ := h
    exact .cons h1 h
  | _ :: _, _, i + 1, h => by
    unfold IsL at h
    obtain ⟨v, vs', rfl, h0, h⟩ := h
    exact .cons h0 (IsL.set h1 i h)
theorem IsL.ofInts : ∀ (ns : List Int), IsL K ι k H (ns.map D.int) (ns.map V.int)
  | [] => .nil
  | n :: r => .cons (by unfold Is; rfl) (IsL.ofInts r)
noncomputable def isMut : HO → Bool
  | .lst _ => true
  | .dK _ => true
  | _ => false
noncomputable def Muts (ι : Nat → Addr) (k : Nat) (H : Hp) : Prop := ∀ n, n < k → ∃ o, H (ι n) = some o ∧ isMut o = true
structure Ext (ι : Nat → Addr) (k : Nat) (H : Hp) (ι' : Nat → Addr) (k' : Nat) (H' : Hp) : Prop where
  le : k ≤ k'
  agree : ∀ n, n < k → ι' n = ι n
  fresh : ∀ n, k ≤ n → n < k' → H (ι' n) = none
  keep : ∀ p o, H p = some o → (∀ n, n < k → ι n ≠ p) → H' p = some o
  was : Muts ι k H
  there : Muts ι k H'
theorem Ext.refl (h : Muts ι k H) : Ext ι k H ι k H := ⟨Nat.le_refl _, fun _ _ => rfl, fun n h1 h2 => absurd h1 (by omega), fun _ _ e _ => e, h, h⟩
theorem Ext.trans (a : Ext ι k H ι' k' H') (b : Ext ι' k' H' ι2 k2 H2) : Ext ι k H ι2 k2 H2 where
  le := Nat.le_trans a.le b.le
  agree := fun n h => (b.agree n (Nat.lt_of_lt_of_le h a.le)).trans (a.agree n h)
  fresh := fun n h1 h2 => by
    rcases Nat.lt_or_ge n k' with z | z
    · rw [b.agree n z]; exact a.fresh n h1 z
    · have q := b.fresh n z h2
      cases e : H (ι2 n) with
      | none => rfl
      | some o =>
        by_cases hx : ∃ m, m < k ∧ ι m = ι2 n
        · obtain ⟨m, hm, e2⟩ := hx
          obtain ⟨o', q', _⟩ := a.there m hm
          rw [e2, q] at q'; cases q'
        · have := a.keep _ o e (fun m hm e2 => hx ⟨m, hm, e2⟩)
          rw [q] at this; cases this
  keep := fun p o e hn => b.keep p o (a.keep p o e hn) (fun n hlt e2 => by
    rcases Nat.lt_or_ge n k with z | z
    · rw [a.agree n z] at e2; exact hn n z e2
    · have := a.fresh n z hlt
      rw [e2, e] at this; cases this)
  was := a.was
  there := fun n h => by
    have := b.there n (Nat.lt_of_lt_of_le h a.le)
    rw [a.agree n h] at this; exact this
theorem Ext.out (a : Ext ι k H ι' k' H') {p : Addr} {o : HO} (e : H p = some o) (hn : ∀ n, n < k → ι n ≠ p) : ∀ n, n < k' → ι' n ≠ p := fun n h e2 => by
  rcases Nat.lt_or_ge n k with z | z
  · rw [a.agree n z] at e2; exact hn n z e2
  · have := a.fresh n z h
    rw [e2, e] at this; cases this
theorem Muts.ne (a : Muts ι k H) {p : Addr} {o : HO} (e : H p = some o) (hm : isMut o = false) : ∀ n, n < k → ι n ≠ p := fun n hn e2 => by
  obtain ⟨o', q, h⟩ := a n hn
  rw [e2, e] at q; cases q
  rw [hm] at h; cases h
theorem sqT_ext {p : Addr} {vs : List V} (a : Ext ι k H ι' k' H') (h : SqT K H p vs) : SqT K H' p vs := by
  rcases h with h | h
  · rcases h with h | ⟨o, h⟩
    · exact .inl (.inl (a.keep p _ h (a.was.ne h rfl)))
    · exact .inl (.inr ⟨o, a.keep p _ h (a.was.ne h rfl)⟩)
  · exact .inr h
theorem scr_ext {p : Addr} {vs : List V} (a : Ext ι k H ι' k' H') (h : ScrAt K H p vs) : ScrAt K H' p vs := by
  rcases h with ⟨o, h⟩ | h
  · exact .inl ⟨o, a.keep p _ h (a.was.ne h rfl)⟩
  · exact .inr h
mutual
theorem Is.ext (a : Ext ι k H ι' k' H') : ∀ {d : D} {v : V}, Is K ι k H d v → Is K ι' k' H' d v
  | .non, _, h => by unfold Is at h ⊢; exact h
  | .bl _, _, h => by unfold Is at h ⊢; exact h
  | .int _, _, h => by unfold Is at h ⊢; exact h
  | .str _, _, h => by unfold Is at h ⊢; exact h
  | .ty _, _, h => by unfold Is at h ⊢; exact h
  | .scr ns, _, h => by
    unfold Is at h ⊢
    obtain ⟨p, rfl, h⟩ := h
    exact ⟨p, rfl, scr_ext a h⟩
  | .tup ds, _, h => by
    unfold Is at h ⊢
    obtain ⟨p, vs, rfl, h1, h2⟩ := h
    exact ⟨p, vs, rfl, sqT_ext a h1, IsL.ext a h2⟩
  | .lst ds, _, h => by
    unfold Is at h ⊢
    obtain ⟨p, vs, rfl, h1, hn, h2⟩ := h
    exact ⟨p, vs, rfl, a.keep p _ h1 hn, a.out h1 hn, IsL.ext a h2⟩
  | .ref n, _, h => by
    unfold Is at h ⊢
    obtain ⟨h, rfl⟩ := h
    exact ⟨Nat.lt_of_lt_of_le h a.le, by rw [a.agree n h]⟩
theorem IsL.ext (a : Ext ι k H ι' k' H') : ∀ {ds : List D} {vs : List V}, IsL K ι k H ds vs → IsL K ι' k' H' ds vs
  | [], _, h => by unfold IsL at h ⊢; exact h
  | _ :: _, _, h => by
    unfold IsL at h ⊢
    obtain ⟨v, vs', rfl, h1, h2⟩ := h
    exact ⟨v, vs', rfl, Is.ext a h1, IsL.ext a h2⟩
end
noncomputable def KVs (K : PySem.W.Frag) (ι : Nat → Addr) (k : Nat) (H : Hp) : List (Key × D) → List (Key × V) → Prop
  | [], r => r = []
  | (y, d) :: l, r => ∃ v r', r = (y, v) :: r' ∧ Is K ι k H d v ∧ KVs K ι k H l r'
theorem KVs.ext (a : Ext ι k H ι' k' H') : ∀ {l : List (Key × D)} {r : List (Key × V)}, KVs K ι k H l r → KVs K ι' k' H' l r
  | [], _, h => h
  | (_, _) :: _, _, h => by
    obtain ⟨v, r', rfl, h1, h2⟩ := h
    exact ⟨v, r', rfl, h1.ext a, h2.ext a⟩
noncomputable def ObjIs (K : PySem.W.Frag) (ι : Nat → Addr) (k : Nat) (H : Hp) : MO → HO → Prop
  | .lst ds, o => ∃ vs, o = .lst vs ∧ IsL K ι k H ds vs
  | .dK l, o => ∃ r, o = .dK r ∧ KVs K ι k H l r
structure RelH (K : PySem.W.Frag) (ι : Nat → Addr) (μ : Mh) (H : Hp) : Prop where
  inj : ∀ i j, i < μ.length → j < μ.length → ι i = ι j → i = j
  obj : ∀ n o, μ[n]? = some o → ∃ u, H (ι n) = some u ∧ ObjIs K ι μ.length H o u
theorem ObjIs.mut {o : MO} {u : HO} (h : ObjIs K ι k H o u) : isMut u = true := by
  cases o with
  | lst ds => obtain ⟨vs, rfl, _⟩ := h; rfl
  | dK l => obtain ⟨r, rfl, _⟩ := h; rfl
theorem ObjIs.ext (a : Ext ι k H ι' k' H') {o : MO} {u : HO} (h : ObjIs K ι k H o u) : ObjIs K ι' k' H' o u := by
  cases o with
  | lst ds => obtain ⟨vs, rfl, h⟩ := h; exact ⟨vs, rfl, h.ext a⟩
  | dK l => obtain ⟨r, rfl, h⟩ := h; exact ⟨r, rfl, h.ext a⟩
theorem RelH.muts {μ : Mh} (r : RelH K ι μ H) : Muts ι μ.length H := fun n hn => by
  obtain ⟨u, e, h⟩ := r.obj n μ[n] (by simp [hn])
  exact ⟨u, e, h.mut⟩
theorem RelH.ext0 {μ : Mh} (r : RelH K ι μ H) : Ext ι μ.length H ι μ.length H := Ext.refl r.muts
theorem RelH.laid {μ : Mh} (r : RelH K ι μ H) {p : Addr} (o : HO) (hp : H p = none) : Ext ι μ.length H ι μ.length (upd H p o) ∧ RelH K ι μ (upd H p o) := by
  have kp : ∀ q u, H q = some u → upd H p o q = some u := fun q u e => by rw [upd_ne (ne_of_none e hp)]; exact e
  have a : Ext ι μ.length H ι μ.length (upd H p o) := ⟨Nat.le_refl _, fun _ _ => rfl, fun n h1 h2 => absurd h1 (by omega), fun q u e _ => kp q u e, r.muts, fun n hn => by
    obtain ⟨u, e, h⟩ := r.muts n hn
    exact ⟨u, kp _ _ e, h⟩⟩
  refine ⟨a, r.inj, fun n o' e => ?_⟩
  obtain ⟨u, e1, h⟩ := r.obj n o' e
  exact ⟨u, kp _ _ e1, h.ext a⟩
theorem RelH.grown {μ : Mh} (r : RelH K ι μ H) {p : Addr} {o : HO} {m : MO} (hp : H p = none) (h : ObjIs K ι μ.length H m o) :
    ∃ ι', Ext ι μ.length H ι' (μ ++ [m]).length (upd H p o) ∧ RelH K ι' (μ ++ [m]) (upd H p o) ∧ ι' μ.length = p := by
  have kp : ∀ q u, H q = some u → upd H p o q = some u := fun q u e => by rw [upd_ne (ne_of_none e hp)]; exact e
  let ι' : Nat → Addr := fun n => if n = μ.length then p else ι n
  have e0 : ι' μ.length = p := if_pos rfl
  have e1 : ∀ n, n < μ.length → ι' n = ι n := fun n hn => if_neg (by omega)
  have a : Ext ι μ.length H ι' (μ ++ [m]).length (upd H p o) := ⟨by simp, e1, fun n h1 h2 => by
      have : n = μ.length := by simp at h2; omega
      rw [this, e0]; exact hp, fun q u e _ => kp q u e, r.muts, fun n hn => by
    obtain ⟨u, e, h⟩ := r.muts n hn
    exact ⟨u, kp _ _ e, h⟩⟩
  refine ⟨ι', a, ⟨fun i j hi hj e => ?_, fun n o' e => ?_⟩, e0⟩
  · simp at hi hj
    have old : ∀ i, i < μ.length → ι' i ≠ p := fun i hi e => by
      obtain ⟨u, q, _⟩ := r.muts i hi
      rw [← e1 i hi, e, hp] at q; cases q
    rcases Nat.lt_or_ge i μ.length with zi | zi <;> rcases Nat.lt_or_ge j μ.length with zj | zj
    · rw [e1 i zi, e1 j zj] at e; exact r.inj i j zi zj e
    · have : j = μ.length := by omega
      subst this; rw [e0] at e; exact absurd e (old i zi)
    · have : i = μ.length := by omega
      subst this; rw [e0] at e; exact absurd e.symm (old j zj)
    · omega
  · rcases Nat.lt_or_ge n μ.length with z | z
    · rw [List.getElem?_append_left z] at e
      obtain ⟨u, q, hq⟩ := r.obj n o' e
      exact ⟨u, by rw [e1 n z]; exact kp _ _ q, hq.ext a⟩
    · have hn : n = μ.length := by
        have := (List.getElem?_eq_some_iff.mp e).1
        simp at this; omega
      subst hn
      rw [List.getElem?_append_right (Nat.le_refl _), Nat.sub_self] at e
      simp at e; subst e
      exact ⟨o, by rw [e0, upd_same], h.ext a⟩
theorem RelH.changed {μ : Mh} (r : RelH K ι μ H) {n : Nat} {o : HO} {m : MO} (hn : n < μ.length) (h : ObjIs K ι μ.length H m o) :
    Ext ι μ.length H ι (μ.set n m).length (upd H (ι n) o) ∧ RelH K ι (μ.set n m) (upd H (ι n) o) := by
  have ne : ∀ i, i < μ.length → i ≠ n → ι i ≠ ι n := fun i hi hne e => hne (r.inj i n hi hn e)
  have a : Ext ι μ.length H ι (μ.set n m).length (upd H (ι n) o) := ⟨by simp, fun _ _ => rfl, fun i h1 h2 => by simp at h2; omega, fun q u e hq => by rw [upd_ne (fun z => hq n hn z.symm)]; exact e, r.muts, fun i hi => by
    by_cases z : i = n
    · subst z; exact ⟨o, upd_same, h.mut⟩
    · obtain ⟨u, e, hu⟩ := r.muts i hi
      exact ⟨u, by rw [upd_ne (ne i hi z)]; exact e, hu⟩⟩
  refine ⟨a, fun i j hi hj => r.inj i j (by simpa using hi) (by simpa using hj), fun i o' e => ?_⟩
  by_cases z : i = n
  · subst z
    rw [List.getElem?_set_self hn] at e
    cases e
    exact ⟨o, upd_same, h.ext a⟩
  · rw [List.getElem?_set_ne (Ne.symm z)] at e
    have hi : i < μ.length := (List.getElem?_eq_some_iff.mp e).1
    obtain ⟨u, q, hq⟩ := r.obj i o' e
    exact ⟨u, by rw [upd_ne (ne i hi z)]; exact q, hq.ext a⟩
structure RelS (K : PySem.W.Frag) (ι : Nat → Addr) (k : Nat) (H : Hp) (τ : Sl) (σ : St) : Prop where
  len : σ.length = τ.length
  get : ∀ (i : Nat) (d : D), τ[i]? = some (some d) → ∃ v, σ[i]? = some (some v) ∧ Is K ι k H d v
theorem RelS.ext {τ : Sl} {σ : St} (a : Ext ι k H ι' k' H') (r : RelS K ι k H τ σ) : RelS K ι' k' H' τ σ := ⟨r.len, fun i d e => by
  obtain ⟨v, e1, h⟩ := r.get i d e
  exact ⟨v, e1, h.ext a⟩⟩
theorem RelS.set {τ : Sl} {σ : St} (r : RelS K ι k H τ σ) {d : D} {v : V} (i : Nat) (h : Is K ι k H d v) : RelS K ι k H (τ.set i (some d)) (σ.set i (some v)) := ⟨by simp [r.len], fun j e q => by
  by_cases z : i = j
  · subst z
    have hi : i < τ.length := by
      have := (List.getElem?_eq_some_iff.mp q).1
      simpa using this
    rw [List.getElem?_set_self hi] at q
    cases q
    exact ⟨v, List.getElem?_set_self (by rw [r.len]; exact hi), h⟩
  · rw [List.getElem?_set_ne z] at q
    obtain ⟨u, e1, hu⟩ := r.get j e q
    exact ⟨u, by rw [List.getElem?_set_ne z]; exact e1, hu⟩⟩
end
end Mi
namespace Mi
open PySem L2
inductive Fl where
  | next | brk | cont | rt (d : D)
noncomputable abbrev Aft (K : PySem.W.Frag) (ι : Nat → Addr) (μ : Mh) (H : Hp) (μ' : Mh) (φ : (Nat → Addr) → Hp → Prop) : Prop :=
  ∀ ι' H', Ext ι μ.length H ι' μ'.length H' → RelH K ι' μ' H' → φ ι' H'
noncomputable def tE (K : PySem.W.Frag) (m : Sl → M D) : TE := fun σ H Q => ∃ ι μ τ d μ', RelH K ι μ H ∧ RelS K ι μ.length H τ σ ∧ m τ μ = some (d, μ') ∧
  Aft K ι μ H μ' fun ι' H' => ∀ v, Is K ι' μ'.length H' d v → Q v H'
noncomputable def tT (K : PySem.W.Frag) (m : Sl → M Bool) : TT := fun σ H Q => ∃ ι μ τ b μ', RelH K ι μ H ∧ RelS K ι μ.length H τ σ ∧ m τ μ = some (b, μ') ∧
  Aft K ι μ H μ' fun _ H' => Q b H'
noncomputable def tL (K : PySem.W.Frag) (m : Sl → M (List D)) : TA := fun σ H Q => ∃ ι μ τ ds μ', RelH K ι μ H ∧ RelS K ι μ.length H τ σ ∧ m τ μ = some (ds, μ') ∧
  Aft K ι μ H μ' fun ι' H' => ∀ vs, IsL K ι' μ'.length H' ds vs → Q vs H'
noncomputable def FlP (K : PySem.W.Frag) (Dn : Ends) (ι' : Nat → Addr) (k : Nat) (H' : Hp) (τ' : Sl) (σ' : St) : Fl → Prop
  | .next => Dn.nx σ' H'
  | .brk => Dn.bk σ' H'
  | .cont => Dn.ct σ' H'
  | .rt d => ∀ v, Is K ι' k H' d v → Dn.rt v H'
noncomputable def tSt (K : PySem.W.Frag) (m : Sl → M (Fl × Sl)) : TS := fun Dn σ H => ∃ ι μ τ f τ' μ', RelH K ι μ H ∧ RelS K ι μ.length H τ σ ∧ m τ μ = some ((f, τ'), μ') ∧
  Aft K ι μ H μ' fun ι' H' => ∀ σ', RelS K ι' μ'.length H' τ' σ' → FlP K Dn ι' μ'.length H' τ' σ' f
structure RE (X : Cx) (e : Expr) (m : Sl → M D) : Prop where
  pe : PE X e (tE X.K m)
structure RT (X : Cx) (e : Expr) (m : Sl → M Bool) : Prop where
  pe : PT X e (tT X.K m)
structure RW (X : Cx) (e : Expr) (m : Sl → M Bool) : Prop where
  pe : PW X e (tT X.K m)
structure RA (X : Cx) (es : List Expr) (m : Sl → M (List D)) : Prop where
  pe : PA X es (tL X.K m)
structure RS (X : Cx) (st : Stmt) (m : Sl → M (Fl × Sl)) : Prop where
  pe : PS X st (tSt X.K m)
structure RSs (X : Cx) (st : List Stmt) (m : Sl → M (Fl × Sl)) : Prop where
  pe : PSs X st (tSt X.K m)
section
variable {X : Cx} {e a b c : Expr} {es : List Expr} {pos : Pos}
theorem PE.wk {t t' : TE} (h : PE X e t) (w : ∀ σ H Q, t' σ H Q → t σ H Q) : PE X e t' := fun pins s σ H Q I q => h pins s σ H Q I (w σ H Q q)
theorem RE.wk {m : Sl → M D} {t : TE} (h : PE X e t) (w : ∀ σ H Q, tE X.K m σ H Q → t σ H Q) : RE X e m := ⟨PE.wk h w⟩
theorem PT.wk {t t' : TT} (h : PT X e t) (w : ∀ σ H Q, t' σ H Q → t σ H Q) : PT X e t' := fun pins s σ H Q I q => h pins s σ H Q I (w σ H Q q)
theorem RT.wk {m : Sl → M Bool} {t : TT} (h : PT X e t) (w : ∀ σ H Q, tT X.K m σ H Q → t σ H Q) : RT X e m := ⟨PT.wk h w⟩
theorem PW.wk {t t' : TT} (h : PW X e t) (w : ∀ σ H Q, t' σ H Q → t σ H Q) : PW X e t' := fun wh pins s σ H Q I q => h wh pins s σ H Q I (w σ H Q q)
theorem RW.wk {m : Sl → M Bool} {t : TT} (h : PW X e t) (w : ∀ σ H Q, tT X.K m σ H Q → t σ H Q) : RW X e m := ⟨PW.wk h w⟩
theorem PA.wk {t t' : TA} (h : PA X es t) (w : ∀ σ H Q, t' σ H Q → t σ H Q) : PA X es t' := fun p pins s σ H Q I q => h p pins s σ H Q I (w σ H Q q)
theorem RA.wk {m : Sl → M (List D)} {t : TA} (h : PA X es t) (w : ∀ σ H Q, tL X.K m σ H Q → t σ H Q) : RA X es m := ⟨PA.wk h w⟩
theorem PS.wk {st : Stmt} {t t' : TS} (h : PS X st t) (w : ∀ D σ H, t' D σ H → t D σ H) : PS X st t' := fun pins s σ H D I q => h pins s σ H D I (w D σ H q)
theorem RS.wk {m : Sl → M (Fl × Sl)} {st : Stmt} {t : TS} (h : PS X st t) (w : ∀ D σ H, tSt X.K m D σ H → t D σ H) : RS X st m := ⟨PS.wk h w⟩
theorem PSs.wk {st : List Stmt} {t t' : TS} (h : PSs X st t) (w : ∀ D σ H, t' D σ H → t D σ H) : PSs X st t' := fun pins s σ H D I q => h pins s σ H D I (w D σ H q)
theorem RSs.wk {m : Sl → M (Fl × Sl)} {st : List Stmt} {t : TS} (h : PSs X st t) (w : ∀ D σ H, tSt X.K m D σ H → t D σ H) : RSs X st m := ⟨PSs.wk h w⟩
theorem OpR.wk {f : Value → Value → Sem Value} {r r' : R2} (h : OpR X f r) (w : ∀ x y H Q, r' x y H Q → r x y H Q) : OpR X f r' := fun pins s σ H x y v u Q I rx ry q => h pins s σ H x y v u Q I rx ry (w x y H Q q)
noncomputable def isStar : Expr → Bool
  | .Starred _ _ => true
  | _ => false
theorem star_cons {e : Expr} {es : List Expr} {env : Env} (h : isStar e = false) : starEach (e :: es) env = (false, eval e env) :: starEach es env := by
  cases e <;> first | rfl | cases h
theorem star_plain {pos : Pos} {env : Env} : ∀ {es : List Expr}, (es.all fun e => !isStar e) = true → (backTo pos (starEach es env)).any (·.1) = false
  | [], _ => rfl
  | e :: es, h => by
    rw [List.all_cons, Bool.and_eq_true] at h
    have h1 : isStar e = false := by simpa using h.1
    have ih := star_plain (pos := pos) (env := env) h.2
    rw [star_cons h1]
    unfold backTo at ih ⊢
    simpa using ih
noncomputable def mSlot (i : Nat) : Sl → M D := fun τ μ => match τ[i]? with
  | some (some d) => some (d, μ)
  | _ => none
noncomputable def mC (d : D) : Sl → M D := fun _ => ret d
theorem re_slot (i : Nat) {x : Str} (hN : X.N[i]? = some x := by rfl) (hv : Vis X.env.scope x := by first | exact Or.inl rfl | exact Or.inr (Or.inl rfl) | exact Or.inr (Or.inr rfl)) (hd : (x == ("__debug__" : Str)) = false := by decide)
    (hcd : (x == ("__classdict__" : Str)) = false := by decide) : RE X (.Name x pos) (mSlot i) := RE.wk (pe_var hN hv hd hcd) fun σ H Q h => by
  obtain ⟨ι, μ, τ, d, μ', R, S, e, q⟩ := h
  unfold mSlot at e
  split at e
  · rename_i d' ed
    cases e
    obtain ⟨v, e1, h1⟩ := S.get i _ ed
    exact ⟨v, e1, q ι H R.ext0 R v h1⟩
  · cases e
theorem re_c {t : TE} {d : D} {v : V} (h : PE X e (tC v)) (hd : ∀ ι k H, Is X.K ι k H d v) : RE X e (mC d) := RE.wk h fun σ H Q h => by
  obtain ⟨ι, μ, τ, d, μ', R, S, e, q⟩ := h
  cases e
  exact q ι H R.ext0 R v (hd _ _ _)
theorem re_int {i j} : RE X (.Constant (.int i) j pos) (mC (.int i)) := re_c (t := fun _ _ _ => True) pe_int fun _ _ _ => by unfold Is; rfl
theorem re_bl {i j} : RE X (.Constant (.bool i) j pos) (mC (.bl i)) := re_c (t := fun _ _ _ => True) pe_bl fun _ _ _ => by unfold Is; rfl
theorem re_non {j} : RE X (.Constant .none j pos) (mC .non) := re_c (t := fun _ _ _ => True) pe_non fun _ _ _ => by unfold Is; rfl
theorem re_str {i j} : RE X (.Constant (.str i) j pos) (mC (.str i)) := re_c (t := fun _ _ _ => True) pe_str fun _ _ _ => by unfold Is; rfl
theorem re_glob {x : Str} {v : V} {u : Value} {d : D} (hm : X.mg x = some u) (r : RelV v u) (hd : ∀ ι k H, Is X.K ι k H d v) (hg : Gl X x := by rfl) (hdb : (x == ("__debug__" : Str)) = false := by decide) : RE X (.Name x pos) (mC d) :=
  re_c (t := fun _ _ _ => True) (pe_glob hg hm r hdb) hd
noncomputable def mOp (g : D → D → M D) (ma mb : Sl → M D) : Sl → M D := fun τ => bnd (ma τ) fun x => bnd (mb τ) fun y => g x y
noncomputable def mUn (g : D → M D) (ma : Sl → M D) : Sl → M D := fun τ => bnd (ma τ) g
noncomputable def rM (K : PySem.W.Frag) (g : D → D → M D) : R2 := fun x y H Q => ∃ ι μ a b d μ', RelH K ι μ H ∧ Is K ι μ.length H a x ∧ Is K ι μ.length H b y ∧ g a b μ = some (d, μ') ∧
  Aft K ι μ H μ' fun ι' H' => ∀ v, Is K ι' μ'.length H' d v → Q v H'
noncomputable def rMA (K : PySem.W.Frag) (g : List D → M D) : List V → Hp → VK → Prop := fun xs H Q => ∃ ι μ as d μ', RelH K ι μ H ∧ IsL K ι μ.length H as xs ∧ g as μ = some (d, μ') ∧
  Aft K ι μ H μ' fun ι' H' => ∀ v, Is K ι' μ'.length H' d v → Q v H'
theorem tE_op {K : PySem.W.Frag} {g : D → D → M D} {ma mb : Sl → M D} {σ : St} {H : Hp} {Q : VK} (h : tE K (mOp g ma mb) σ H Q) : tOp (rM K g) (tE K ma) (tE K mb) σ H Q := by
  obtain ⟨ι, μ, τ, d, μ', R, S, e, q⟩ := h
  obtain ⟨x, μ1, e1, e⟩ := bnd_some e
  obtain ⟨y, μ2, e2, e3⟩ := bnd_some e
  refine ⟨ι, μ, τ, x, μ1, R, S, e1, fun ι1 H1 E1 R1 v1 i1 => ?_⟩
  refine ⟨ι1, μ1, τ, y, μ2, R1, S.ext E1, e2, fun ι2 H2 E2 R2 v2 i2 => ?_⟩
  exact ⟨ι2, μ2, x, y, d, μ', R2, i1.ext E2, i2, e3, fun ι3 H3 E3 R3 v3 i3 => q ι3 H3 ((E1.trans E2).trans E3) R3 v3 i3⟩
theorem re_op {op : Operator} {g : D → D → M D} {ma mb : Sl → M D} (ho : OpR X (binaryOp op) (rM X.K g)) (ha : RE X a ma) (hb : RE X b mb) : RE X (.BinOp a op b pos) (mOp g ma mb) := RE.wk (pe_op ho ha.pe hb.pe) fun _ _ _ h => tE_op h
theorem re_cmp {op : CmpOp} {g : D → D → M D} {ma mb : Sl → M D} (ho : OpR X (compareOp op) (rM X.K g)) (ha : RE X a ma) (hb : RE X b mb) (hm : behindInMarks op b = false := by first | exact nomark _ | rfl) : RE X (.Compare a [op] [b] pos) (mOp g ma mb) :=
  RE.wk (pe_cmpR ho ha.pe hb.pe hm) fun _ _ _ h => tE_op h
theorem re_ix {g : D → D → M D} {ma mb : Sl → M D} (ho : IxR X (rM X.K g)) (ha : RE X a ma) (hb : RE X b mb) (hs : PlainIx b := by exact fun _ _ => rfl) : RE X (.Subscript a b pos) (mOp g ma mb) := RE.wk (pe_ix ho ha.pe hb.pe hs) fun _ _ _ h => tE_op h
noncomputable def asB : D → M Bool
  | .bl b => ret b
  | _ => fail
noncomputable def mTest (m : Sl → M D) : Sl → M Bool := fun τ => bnd (m τ) asB
theorem tT_test {K : PySem.W.Frag} {m : Sl → M D} {σ : St} {H : Hp} {Q : Bool → Hp → Prop} (h : tT K (mTest m) σ H Q) : tE K m σ H fun x H' => ∃ k, x = .bl k ∧ Q k H' := by
  obtain ⟨ι, μ, τ, b, μ', R, S, e, q⟩ := h
  obtain ⟨x, μ1, e1, e⟩ := bnd_some e
  refine ⟨ι, μ, τ, x, μ1, R, S, e1, fun ι1 H1 E1 R1 v1 i1 => ?_⟩
  cases x with
  | bl k =>
    cases e
    unfold Is at i1
    exact ⟨b, i1, q ι1 H1 E1 R1⟩
  | _ => cases e
theorem rt_cmp {op : CmpOp} {g : D → D → M D} {ma mb : Sl → M D} (ho : OpR X (compareOp op) (rM X.K g)) (ha : RE X a ma) (hb : RE X b mb) (hm : behindInMarks op b = false := by first | exact nomark _ | rfl) : RT X (.Compare a [op] [b] pos) (mTest (mOp g ma mb)) :=
  RT.wk (pt_cmpR ho ha.pe hb.pe hm) fun σ H Q h => tE_op (Q := fun x H' => ∃ k, x = .bl k ∧ Q k H') (tT_test h)
theorem rt_val {m : Sl → M D} (h : RE X e m) (he : ∀ whole, isTrue e X.env whole = (do let v ← whole; standAt e.pos; holding [v] (truthy v)) := by intro _; rfl) : RT X e (mTest m) :=
  RT.wk (pt_val h.pe he) fun _ _ _ q => tT_test q
noncomputable def mAnd (ma mb : Sl → M Bool) : Sl → M Bool := fun τ => bnd (ma τ) fun x => if x = true then mb τ else ret false
noncomputable def mOr (ma mb : Sl → M Bool) : Sl → M Bool := fun τ => bnd (ma τ) fun x => if x = true then ret true else mb τ
noncomputable def mNot (ma : Sl → M Bool) : Sl → M Bool := fun τ => bnd (ma τ) fun x => ret (!x)
theorem rt_not {ma : Sl → M Bool} (ha : RT X a ma) : RT X (.UnaryOp .Not a pos) (mNot ma) := RT.wk (pt_not ha.pe) fun σ H Q h => by
  obtain ⟨ι, μ, τ, b, μ', R, S, e, q⟩ := h
  obtain ⟨x, μ1, e1, e⟩ := bnd_some e
  cases e
  exact ⟨ι, μ, τ, x, _, R, S, e1, q⟩
theorem rw_and1 {ma : Sl → M Bool} (ha : RT X a ma) : RW X (.BoolOp .And [a] pos) ma := ⟨pw_and1 ha.pe⟩
theorem rw_or1 {ma : Sl → M Bool} (ha : RT X a ma) : RW X (.BoolOp .Or [a] pos) ma := ⟨pw_or1 ha.pe⟩
theorem rw_and {rest : List Expr} {ma mb : Sl → M Bool} (ha : RT X a ma) (hb : RW X (.BoolOp .And (b :: rest) pos) mb) : RW X (.BoolOp .And (a :: b :: rest) pos) (mAnd ma mb) := RW.wk (pw_and ha.pe hb.pe) fun σ H Q h => by
  obtain ⟨ι, μ, τ, z, μ', R, S, e, q⟩ := h
  obtain ⟨x, μ1, e1, e⟩ := bnd_some e
  refine ⟨ι, μ, τ, x, μ1, R, S, e1, fun ι1 H1 E1 R1 => ?_⟩
  cases x with
  | true => exact ⟨ι1, μ1, τ, z, μ', R1, S.ext E1, e, fun ι2 H2 E2 R2 => q ι2 H2 (E1.trans E2) R2⟩
  | false => cases e; exact q ι1 H1 E1 R1
theorem rw_or {rest : List Expr} {ma mb : Sl → M Bool} (ha : RT X a ma) (hb : RW X (.BoolOp .Or (b :: rest) pos) mb) : RW X (.BoolOp .Or (a :: b :: rest) pos) (mOr ma mb) := RW.wk (pw_or ha.pe hb.pe) fun σ H Q h => by
  obtain ⟨ι, μ, τ, z, μ', R, S, e, q⟩ := h
  obtain ⟨x, μ1, e1, e⟩ := bnd_some e
  refine ⟨ι, μ, τ, x, μ1, R, S, e1, fun ι1 H1 E1 R1 => ?_⟩
  cases x with
  | true => cases e; exact q ι1 H1 E1 R1
  | false => exact ⟨ι1, μ1, τ, z, μ', R1, S.ext E1, e, fun ι2 H2 E2 R2 => q ι2 H2 (E1.trans E2) R2⟩
theorem RW.rt {m : Sl → M Bool} (h : RW X e m) : RT X e m := ⟨h.pe.pt⟩
noncomputable def mAndV (ma mb : Sl → M D) : Sl → M D := fun τ => bnd (ma τ) fun x => bnd (asB x) fun c => if c = true then mb τ else ret (.bl false)
noncomputable def mOrV (ma mb : Sl → M D) : Sl → M D := fun τ => bnd (ma τ) fun x => bnd (asB x) fun c => if c = true then ret (.bl true) else mb τ
noncomputable def mNotV (ma : Sl → M D) : Sl → M D := fun τ => bnd (ma τ) fun x => bnd (asB x) fun c => ret (.bl (!c))
theorem asB_some {x : D} {μ μ1 : Mh} {c : Bool} (h : asB x μ = some (c, μ1)) : x = .bl c ∧ μ1 = μ := by
  cases x with
  | bl k => cases h; exact ⟨rfl, rfl⟩
  | _ => cases h
theorem re_one {op} {m : Sl → M D} (h : RE X a m) : RE X (.BoolOp op [a] pos) m := ⟨pe_one h.pe⟩
theorem re_and {rest : List Expr} {ma mb : Sl → M D} (ha : RE X a ma) (hb : RE X (.BoolOp .And (b :: rest) pos) mb) : RE X (.BoolOp .And (a :: b :: rest) pos) (mAndV ma mb) := RE.wk (pe_and ha.pe hb.pe) fun σ H Q h => by
  obtain ⟨ι, μ, τ, z, μ', R, S, e, q⟩ := h
  obtain ⟨x, μ1, e1, e⟩ := bnd_some e
  obtain ⟨c, μ2, e2, e⟩ := bnd_some e
  obtain ⟨rfl, rfl⟩ := asB_some e2
  refine ⟨ι, μ, τ, _, μ2, R, S, e1, fun ι1 H1 E1 R1 v1 i1 => ⟨c, by unfold Is at i1; exact i1, ?_⟩⟩
  cases c with
  | true => exact ⟨ι1, μ2, τ, z, μ', R1, S.ext E1, e, fun ι2 H2 E2 R2 => q ι2 H2 (E1.trans E2) R2⟩
  | false => cases e; exact q ι1 H1 E1 R1 _ (by unfold Is; rfl)
theorem re_or {rest : List Expr} {ma mb : Sl → M D} (ha : RE X a ma) (hb : RE X (.BoolOp .Or (b :: rest) pos) mb) : RE X (.BoolOp .Or (a :: b :: rest) pos) (mOrV ma mb) := RE.wk (pe_or ha.pe hb.pe) fun σ H Q h => by
  obtain ⟨ι, μ, τ, z, μ', R, S, e, q⟩ := h
  obtain ⟨x, μ1, e1, e⟩ := bnd_some e
  obtain ⟨c, μ2, e2, e⟩ := bnd_some e
  obtain ⟨rfl, rfl⟩ := asB_some e2
  refine ⟨ι, μ, τ, _, μ2, R, S, e1, fun ι1 H1 E1 R1 v1 i1 => ⟨c, by unfold Is at i1; exact i1, ?_⟩⟩
  cases c with
  | true => cases e; exact q ι1 H1 E1 R1 _ (by unfold Is; rfl)
  | false => exact ⟨ι1, μ2, τ, z, μ', R1, S.ext E1, e, fun ι2 H2 E2 R2 => q ι2 H2 (E1.trans E2) R2⟩
theorem re_not {ma : Sl → M D} (ha : RE X a ma) : RE X (.UnaryOp .Not a pos) (mNotV ma) := RE.wk (pe_not ha.pe) fun σ H Q h => by
  obtain ⟨ι, μ, τ, z, μ', R, S, e, q⟩ := h
  obtain ⟨x, μ1, e1, e⟩ := bnd_some e
  obtain ⟨c, μ2, e2, e⟩ := bnd_some e
  obtain ⟨rfl, rfl⟩ := asB_some e2
  cases e
  exact ⟨ι, μ, τ, _, _, R, S, e1, fun ι1 H1 E1 R1 v1 i1 => ⟨c, by unfold Is at i1; exact i1, q ι1 H1 E1 R1 _ (by unfold Is; rfl)⟩⟩
noncomputable def mChain (g g' : D → D → M D) (ma mb mc : Sl → M D) : Sl → M D := fun τ => bnd (ma τ) fun x => bnd (mb τ) fun y => bnd (g x y) fun z => bnd (asB z) fun k => if k = true then bnd (mc τ) fun w => g' y w else ret (.bl false)
noncomputable def aNil : Sl → M (List D) := fun _ => ret []
noncomputable def aCons (m : Sl → M D) (r : Sl → M (List D)) : Sl → M (List D) := fun τ => bnd (m τ) fun x => bnd (r τ) fun xs => ret (x :: xs)
theorem ra_nil : RA X [] aNil := RA.wk pa_nil fun σ H Q h => by
  obtain ⟨ι, μ, τ, z, μ', R, S, e, q⟩ := h
  cases e
  exact q ι H R.ext0 R [] .nil
theorem ra_cons {m : Sl → M D} {r : Sl → M (List D)} (h : RE X e m) (hr : RA X es r) (hs : starEach (e :: es) X.env = (false, eval e X.env) :: starEach es X.env := by exact star_cons rfl) : RA X (e :: es) (aCons m r) := RA.wk (pa_cons h.pe hr.pe hs) fun σ H Q h => by
  obtain ⟨ι, μ, τ, z, μ', R, S, e, q⟩ := h
  obtain ⟨x, μ1, e1, e⟩ := bnd_some e
  obtain ⟨xs, μ2, e2, e⟩ := bnd_some e
  cases e
  exact ⟨ι, μ, τ, x, μ1, R, S, e1, fun ι1 H1 E1 R1 v1 i1 => ⟨ι1, μ1, τ, xs, _, R1, S.ext E1, e2, fun ι2 H2 E2 R2 vs i2 => q ι2 H2 (E1.trans E2) R2 _ (.cons (i1.ext E2) i2)⟩⟩
noncomputable def lim (n : Nat) : M Unit := fun μ => if n ≤ sizeLine then some ((), μ) else none
theorem lim_some {n : Nat} {μ μ1 : Mh} {u : Unit} (h : lim n μ = some (u, μ1)) : n ≤ sizeLine ∧ μ1 = μ := by
  unfold lim at h
  split at h
  · rename_i hn; cases h; exact ⟨hn, rfl⟩
  · cases h
noncomputable def newT (ds : List D) : M D := bnd (lim ds.length) fun _ => ret (.tup ds)
noncomputable def newL (ds : List D) : M D := bnd (lim ds.length) fun _ => ret (.lst ds)
noncomputable def newB (ds : List D) : M D := bnd (lim ds.length) fun _ => fun μ => some (.ref μ.length, μ ++ [.lst ds])
noncomputable def mDisp (f : List D → M D) (m : Sl → M (List D)) : Sl → M D := fun τ => bnd (m τ) f
theorem newT_ok {K : PySem.W.Frag} {ι : Nat → Addr} {μ μ' : Mh} {H : Hp} {ds : List D} {vs : List V} {d : D} {Q : VK} (R : RelH K ι μ H) (i : IsL K ι μ.length H ds vs) (e : newT ds μ = some (d, μ')) (q : Aft K ι μ H μ' fun ι' H' => ∀ v, Is K ι' μ'.length H' d v → Q v H') :
    vs.length ≤ sizeLine ∧ ∀ p, H p = none → Q (.ref p) (upd H p (.tup vs)) := by
  obtain ⟨u, μ1, e1, e2⟩ := bnd_some e
  clear e
  obtain ⟨hl, e3⟩ := lim_some e1
  cases e2
  cases e3
  refine ⟨by rw [i.length]; exact hl, fun p hp => ?_⟩
  obtain ⟨E1, R1⟩ := R.laid (.tup vs) hp
  exact q ι _ E1 R1 _ (by unfold Is; exact ⟨p, vs, rfl, SqT.of upd_same, i.ext E1⟩)
theorem newL_ok {K : PySem.W.Frag} {ι : Nat → Addr} {μ μ' : Mh} {H : Hp} {ds : List D} {vs : List V} {d : D} {Q : VK} (R : RelH K ι μ H) (i : IsL K ι μ.length H ds vs) (e : newL ds μ = some (d, μ')) (q : Aft K ι μ H μ' fun ι' H' => ∀ v, Is K ι' μ'.length H' d v → Q v H') :
    vs.length ≤ sizeLine ∧ ∀ p, H p = none → Q (.ref p) (upd H p (.lst vs)) := by
  obtain ⟨u, μ1, e1, e2⟩ := bnd_some e
  clear e
  obtain ⟨hl, e3⟩ := lim_some e1
  cases e2
  cases e3
  refine ⟨by rw [i.length]; exact hl, fun p hp => ?_⟩
  obtain ⟨E1, R1⟩ := R.laid (.lst vs) hp
  have ho : ∀ n, n < μ.length → ι n ≠ p := fun n hn z => by
    obtain ⟨o, e, _⟩ := R.muts n hn
    rw [z, hp] at e; cases e
  exact q ι _ E1 R1 _ (by unfold Is; exact ⟨p, vs, rfl, upd_same, ho, i.ext E1⟩)
theorem newB_ok {K : PySem.W.Frag} {ι : Nat → Addr} {μ μ' : Mh} {H : Hp} {ds : List D} {vs : List V} {d : D} {Q : VK} (R : RelH K ι μ H) (i : IsL K ι μ.length H ds vs) (e : newB ds μ = some (d, μ')) (q : Aft K ι μ H μ' fun ι' H' => ∀ v, Is K ι' μ'.length H' d v → Q v H') :
    vs.length ≤ sizeLine ∧ ∀ p, H p = none → Q (.ref p) (upd H p (.lst vs)) := by
  obtain ⟨u, μ1, e1, e2⟩ := bnd_some e
  clear e
  obtain ⟨hl, e3⟩ := lim_some e1
  cases e2
  cases e3
  refine ⟨by rw [i.length]; exact hl, fun p hp => ?_⟩
  obtain ⟨ι', E1, R1, e0⟩ := R.grown (m := .lst ds) hp ⟨vs, rfl, i⟩
  exact q ι' _ E1 R1 _ (by unfold Is; exact ⟨by simp, by rw [e0]⟩)
theorem tE_disp {K : PySem.W.Frag} {f : List D → M D} {m : Sl → M (List D)} {σ : St} {H : Hp} {Q : VK} {R : List V → Hp → Prop} (h : tE K (mDisp f m) σ H Q)
    (hf : ∀ ι μ μ' H ds vs d, RelH K ι μ H → IsL K ι μ.length H ds vs → f ds μ = some (d, μ') → (Aft K ι μ H μ' fun ι' H' => ∀ v, Is K ι' μ'.length H' d v → Q v H') → R vs H) : tL K m σ H R := by
  obtain ⟨ι, μ, τ, z, μ', S1, S, e, q⟩ := h
  obtain ⟨ds, μ1, e1, e⟩ := bnd_some e
  exact ⟨ι, μ, τ, ds, μ1, S1, S, e1, fun ι1 H1 E1 R1 vs iv => hf ι1 μ1 μ' H1 ds vs z R1 iv e fun ι2 H2 E2 R2 => q ι2 H2 (E1.trans E2) R2⟩
theorem re_tup {x1} {m : Sl → M (List D)} (h : RA X es m) : RE X (.Tuple es x1 pos) (mDisp newT m) := RE.wk (pe_tup h.pe) fun _ _ _ q => tE_disp q fun _ _ _ _ _ _ _ R i e q => newT_ok R i e q
theorem re_lst {m : Sl → M (List D)} (h : RA X es m) : RE X (.List es pos) (mDisp newL m) := RE.wk (pe_lst h.pe) fun _ _ _ q => tE_disp q fun _ _ _ _ _ _ _ R i e q => newL_ok R i e q
theorem re_lstB {m : Sl → M (List D)} (h : RA X es m) : RE X (.List es pos) (mDisp newB m) := RE.wk (pe_lst h.pe) fun _ _ _ q => tE_disp q fun _ _ _ _ _ _ _ R i e q => newB_ok R i e q
theorem re_callB {id : String} {x : Str} {g : List D → M D} {m : Sl → M (List D)} {p : Pos} (hc : CallR X (.builtin id) (rMA X.K g)) (hm : X.mg x = none) (hv : bootBuiltins x = some (.builtin id)) (ha : RA X (e :: es) m) (hg : Gl X x := by rfl) (hn : x ≠ "__name__" := by decide) (hdb : (x == ("__debug__" : Str)) = false := by decide)
    (he : starEach (e :: es) X.env = (false, eval e X.env) :: starEach es X.env := by exact star_cons rfl) (hpl : (backTo pos (starEach es X.env)).any (·.1) = false := by exact star_plain rfl) : RE X (.Call (.Name x p) (e :: es) [] pos) (mDisp g m) :=
  RE.wk (pe_callB hc hg hm hv ha.pe hn hdb he hpl) fun _ _ _ q => tE_disp q fun ι μ μ' H ds vs d R i e q => ⟨ι, μ, ds, d, μ', R, i, e, q⟩
theorem re_callTy {T : String} {x : Str} {g : List D → M D} {m : Sl → M (List D)} {p : Pos} (hc : CallR X (.type T) (rMA X.K g)) (hm : X.mg x = none) (hv : bootBuiltins x = some (.type T)) (ha : RA X (e :: es) m) (hg : Gl X x := by rfl) (hn : x ≠ "__name__" := by decide) (hdb : (x == ("__debug__" : Str)) = false := by decide)
    (he : starEach (e :: es) X.env = (false, eval e X.env) :: starEach es X.env := by exact star_cons rfl) (hpl : (backTo pos (starEach es X.env)).any (·.1) = false := by exact star_plain rfl) : RE X (.Call (.Name x p) (e :: es) [] pos) (mDisp g m) :=
  RE.wk (pe_callTy hc hg hm hv ha.pe hn hdb he hpl) fun _ _ _ q => tE_disp q fun ι μ μ' H ds vs d R i e q => ⟨ι, μ, ds, d, μ', R, i, e, q⟩
noncomputable def spM (K : PySem.W.Frag) (n : Nat) (φ : List D → M D) : Sp := fun vs H Q _ => vs.length = n ∧ rMA K φ vs H Q
theorem re_call {n k : Nat} {φ : List D → M D} {f : Addr} {fd : FuncData} {ps : List Str} {x : Str} {m : Sl → M (List D)} {p : Pos} (F : FnOk X.prog X.w X.K X.mg X.base CX0 k f fd ps (spM X.K n φ)) (hr : Room k X.A) (hm : X.mg x = some (.ref f)) (hk : PySem.W.keepIn X.K (.ref f) = true) (hb : Binds X.K fd ps [])
    (hφ : ∀ ds μ r, φ ds μ = some r → ds.length = n) (ha : RA X (e :: es) m) (hg : Gl X x := by rfl) (hdb : (x == ("__debug__" : Str)) = false := by decide) (he : starEach (e :: es) X.env = (false, eval e X.env) :: starEach es X.env := by exact star_cons rfl) (hpl : (backTo pos (starEach es X.env)).any (·.1) = false := by exact star_plain rfl) :
    RE X (.Call (.Name x p) (e :: es) [] pos) (mDisp φ m) :=
  RE.wk (pe_call F hr hg hm hk hb .nil pass0 ha.pe hdb he hpl) fun _ _ _ q => tE_disp q fun ι μ μ' H ds vs d R i e q => by
    rw [List.append_nil]
    exact ⟨by rw [i.length]; exact hφ ds μ _ e, ι, μ, ds, d, μ', R, i, e, q⟩
end
end Mi
namespace Mi
open PySem L2
section
variable {X : Cx} {e a b c tg iter : Expr} {es : List Expr} {pos : Pos} {st : Stmt} {rest body : List Stmt}
noncomputable def sNil : Sl → M (Fl × Sl) := fun τ => ret (.next, τ)
noncomputable def sSeq (m1 m2 : Sl → M (Fl × Sl)) : Sl → M (Fl × Sl) := fun τ => bnd (m1 τ) fun r => match r.1 with
  | .next => m2 r.2
  | f => ret (f, r.2)
theorem rss_nil : RSs X [] sNil := RSs.wk pss_nil fun Dn σ H h => by
  obtain ⟨ι, μ, τ, f, τ', μ', R, S, e, q⟩ := h
  cases e
  exact q ι H R.ext0 R σ S
theorem rss_cons {m1 m2 : Sl → M (Fl × Sl)} (h1 : RS X st m1) (h2 : RSs X rest m2) : RSs X (st :: rest) (sSeq m1 m2) := RSs.wk (pss_cons h1.pe h2.pe) fun Dn σ H h => by
  obtain ⟨ι, μ, τ, f, τ', μ', R, S, e, q⟩ := h
  obtain ⟨⟨f1, τ1⟩, μ1, e1, e⟩ := bnd_some e
  refine ⟨ι, μ, τ, f1, τ1, μ1, R, S, e1, fun ι1 H1 E1 R1 σ1 S1 => ?_⟩
  cases f1 with
  | next => exact ⟨ι1, μ1, τ1, f, τ', μ', R1, S1, e, fun ι2 H2 E2 R2 => q ι2 H2 (E1.trans E2) R2⟩
  | brk => cases e; exact q ι1 H1 E1 R1 σ1 S1
  | cont => cases e; exact q ι1 H1 E1 R1 σ1 S1
  | rt d => cases e; exact q ι1 H1 E1 R1 σ1 S1
theorem rss_one {m : Sl → M (Fl × Sl)} (h : RS X st m) : RSs X [st] m := ⟨pss_one h.pe⟩
noncomputable def sExpr (m : Sl → M D) : Sl → M (Fl × Sl) := fun τ => bnd (m τ) fun _ => ret (.next, τ)
theorem rs_expr {m : Sl → M D} (h : RE X e m) (hs : swapsWith e none pos.line X.env = pure false := by rfl) : RS X (.Expr e pos) (sExpr m) := RS.wk (ps_expr h.pe hs) fun Dn σ H h => by
  obtain ⟨ι, μ, τ, f, τ', μ', R, S, e, q⟩ := h
  obtain ⟨x, μ1, e1, e⟩ := bnd_some e
  cases e
  exact ⟨ι, μ, _, x, _, R, S, e1, fun ι1 H1 E1 R1 v i1 => q ι1 H1 E1 R1 σ (S.ext E1)⟩
noncomputable def sRet (m : Sl → M D) : Sl → M (Fl × Sl) := fun τ => bnd (m τ) fun d => ret (.rt d, τ)
theorem rs_ret {m : Sl → M D} (h : RE X e m) : RS X (.Return (some e) pos) (sRet m) := RS.wk (ps_ret h.pe) fun Dn σ H h => by
  obtain ⟨ι, μ, τ, f, τ', μ', R, S, e, q⟩ := h
  obtain ⟨x, μ1, e1, e⟩ := bnd_some e
  cases e
  exact ⟨ι, μ, _, x, _, R, S, e1, fun ι1 H1 E1 R1 v i1 => q ι1 H1 E1 R1 σ (S.ext E1) v i1⟩
noncomputable def sRetN : Sl → M (Fl × Sl) := fun τ => ret (.rt .non, τ)
noncomputable def sIf (mc : Sl → M Bool) (m1 m2 : Sl → M (Fl × Sl)) : Sl → M (Fl × Sl) := fun τ => bnd (mc τ) fun x => if x = true then m1 τ else m2 τ
theorem rs_if {mc : Sl → M Bool} {m1 m2 : Sl → M (Fl × Sl)} (hc : RT X c mc) (h1 : RSs X body m1) (h2 : RSs X rest m2) : RS X (.If c body rest pos) (sIf mc m1 m2) := RS.wk (ps_if hc.pe h1.pe h2.pe) fun Dn σ H h => by
  obtain ⟨ι, μ, τ, f, τ', μ', R, S, e, q⟩ := h
  obtain ⟨x, μ1, e1, e⟩ := bnd_some e
  refine ⟨ι, μ, τ, x, μ1, R, S, e1, fun ι1 H1 E1 R1 => ?_⟩
  cases x with
  | true => exact ⟨ι1, μ1, τ, f, τ', μ', R1, S.ext E1, e, fun ι2 H2 E2 R2 => q ι2 H2 (E1.trans E2) R2⟩
  | false => exact ⟨ι1, μ1, τ, f, τ', μ', R1, S.ext E1, e, fun ι2 H2 E2 R2 => q ι2 H2 (E1.trans E2) R2⟩
noncomputable def sNever : Sl → M (Fl × Sl) := fun _ => fail
theorem rs_never : RS X st sNever := RS.wk ps_never fun Dn σ H h => by
  obtain ⟨ι, μ, τ, f, τ', μ', R, S, e, q⟩ := h
  cases e
noncomputable def tG (K : PySem.W.Frag) (bf : D → Sl → M Sl) : TG := fun v σ H Q => ∃ ι μ τ d τ' μ', RelH K ι μ H ∧ RelS K ι μ.length H τ σ ∧ Is K ι μ.length H d v ∧ bf d τ μ = some (τ', μ') ∧
  Aft K ι μ H μ' fun ι' H' => ∀ σ', RelS K ι' μ'.length H' τ' σ' → Q σ' H'
structure RG (X : Cx) (tg : Expr) (bf : D → Sl → M Sl) : Prop where
  pe : PG X tg (tG X.K bf)
theorem PG.wk {t t' : TG} (h : PG X tg t) (w : ∀ v σ H Q, t' v σ H Q → t v σ H Q) : PG X tg t' := fun pins s σ H v u Q I r q => h pins s σ H v u Q I r (w v σ H Q q)
theorem RG.wk {bf : D → Sl → M Sl} {t : TG} (h : PG X tg t) (w : ∀ v σ H Q, tG X.K bf v σ H Q → t v σ H Q) : RG X tg bf := ⟨PG.wk h w⟩
noncomputable def bName (i : Nat) : D → Sl → M Sl := fun d τ => ret (τ.set i (some d))
theorem tG_name {K : PySem.W.Frag} {i : Nat} {v : V} {σ : St} {H : Hp} {Q : St → Hp → Prop} (h : tG K (bName i) v σ H Q) : gName i v σ H Q := by
  obtain ⟨ι, μ, τ, d, τ', μ', R, S, i1, e, q⟩ := h
  cases e
  exact q ι H R.ext0 R _ (S.set i i1)
theorem rg_name (i : Nat) {x : Str} (hN : X.N.Nodup) (hi : X.N[i]? = some x := by rfl) (hx : Loc X.env.scope x := by first | exact Or.inl rfl | exact Or.inr rfl) (hf : X.fn x = true ∨ X.env.scope.names.lookup x = some .local := by first | exact .inl rfl | exact .inr rfl | assumption) : RG X (.Name x pos) (bName i) :=
  RG.wk (pg_name hN hi hx hf) fun _ _ _ _ h => tG_name h
noncomputable def bNames : List Nat → List D → Sl → M Sl
  | [], [], τ => ret τ
  | i :: is, d :: ds, τ => bnd (bName i d τ) fun τ1 => bNames is ds τ1
  | _, _, _ => fail
noncomputable def bTup (is : List Nat) : D → Sl → M Sl
  | .tup ds, τ => if ds.length = is.length then bNames is ds τ else fail
  | _, _ => fail
noncomputable def gNames : List Nat → TGs
  | [] => gNil
  | i :: is => gCons (gName i) (gNames is)
theorem gNames_of {K : PySem.W.Frag} : ∀ {is : List Nat} {ds : List D} {vs : List V} {τ τ' : Sl} {σ : St} {ι : Nat → Addr} {μ μ' : Mh} {H : Hp} {Q : St → Hp → Prop}, RelH K ι μ H → RelS K ι μ.length H τ σ → IsL K ι μ.length H ds vs → bNames is ds τ μ = some (τ', μ') →
    (μ' = μ → ∀ σ', RelS K ι μ.length H τ' σ' → Q σ' H) → gNames is vs σ H Q
  | [], [], _, _, _, _, _, _, _, _, _, R, S, i, e, q => by
    cases e
    unfold IsL at i; subst i
    exact ⟨rfl, q rfl _ S⟩
  | _ :: is, _ :: ds, _, τ, τ', σ, ι, μ, μ', H, Q, R, S, i, e, q => by
    unfold IsL at i
    obtain ⟨v, vs', rfl, i1, i2⟩ := i
    exact ⟨v, vs', rfl, gNames_of (is := is) (ds := ds) R (S.set _ i1) i2 e q⟩
  | [], _ :: _, _, _, _, _, _, _, _, _, _, _, _, _, e, _ => by cases e
  | _ :: _, [], _, _, _, _, _, _, _, _, _, _, _, _, e, _ => by cases e
theorem rg_tup {is : List Nat} {k : Nat} (hc : X.calm = true) (h : PGs X es (gNames is)) (hn : (assignEach es X.env).length = is.length := by rfl) (hst : (assignEach es X.env).findIdx? (·.1) = none := by rfl) : RG X (.Tuple es k pos) (bTup is) :=
  RG.wk (pg_tup hc h hn hst) fun v σ H Q h => by
    obtain ⟨ι, μ, τ, d, τ', μ', R, S, i1, e, q⟩ := h
    cases d with
    | tup ds =>
      unfold Is at i1
      obtain ⟨p, vs, rfl, h1, h2⟩ := i1
      have e' : (if ds.length = is.length then bNames is ds τ else fail) μ = some (τ', μ') := e
      by_cases hl : ds.length = is.length
      · rw [if_pos hl] at e'
        have e := e'
        refine ⟨p, vs, rfl, h1, by rw [h2.length, hl], gNames_of R S h2 e fun z σ' S' => ?_⟩
        subst z
        exact q ι H R.ext0 R σ' S'
      · rw [if_neg hl] at e'; cases e'
    | _ => cases e
noncomputable def sAsg (m : Sl → M D) (bf : D → Sl → M Sl) : Sl → M (Fl × Sl) := fun τ => bnd (m τ) fun d => bnd (bf d τ) fun τ' => ret (.next, τ')
theorem tSt_asg {K : PySem.W.Frag} {m : Sl → M D} {bf : D → Sl → M Sl} {g : TG} {Dn : Ends} {σ : St} {H : Hp} (hg : ∀ v H Q, tG K bf v σ H Q → g v σ H Q) (h : tSt K (sAsg m bf) Dn σ H) : tAsg (tE K m) g Dn σ H := by
  obtain ⟨ι, μ, τ, f, τ', μ', R, S, e, q⟩ := h
  obtain ⟨x, μ1, e1, e⟩ := bnd_some e
  obtain ⟨τ1, μ2, e2, e⟩ := bnd_some e
  cases e
  exact ⟨ι, μ, τ, x, μ1, R, S, e1, fun ι1 H1 E1 R1 v i1 => hg _ _ _ ⟨ι1, μ1, τ, x, _, _, R1, S.ext E1, i1, e2, fun ι2 H2 E2 R2 σ' S' => q ι2 H2 (E1.trans E2) R2 σ' S'⟩⟩
theorem rs_set (i : Nat) {x : Str} {m : Sl → M D} {pos' : Pos} (hN : X.N.Nodup) (he : RE X e m) (hi : X.N[i]? = some x := by rfl) (hx : Loc X.env.scope x := by first | exact Or.inl rfl | exact Or.inr rfl) (hs : swapsWith e (some (.Name x pos')) pos.line X.env = pure false := by rfl) (hf : X.fn x = true ∨ X.env.scope.names.lookup x = some .local := by first | exact .inl rfl | exact .inr rfl | assumption) :
    RS X (.Assign [.Name x pos'] e pos) (sAsg m (bName i)) := RS.wk (ps_set hN hi hx he.pe hs hf) fun _ _ _ h => tSt_asg (fun _ _ _ q => tG_name q) h
theorem rs_asg {m : Sl → M D} {bf : D → Sl → M Sl} (he : RE X e m) (hg : RG X tg bf) (hs : swapsWithSole [tg] e pos.line X.env = pure false := by rfl) (hw : swappedStores [tg] e X.env = pure none := by rfl)
    (h1 : (assignEach [tg] X.env).map (·.2) = [assign tg X.env] := by rfl) : RS X (.Assign [tg] e pos) (sAsg m bf) := RS.wk (ps_asg he.pe hg.pe hs hw h1) fun _ _ _ h => tSt_asg (fun _ _ _ q => q) h
noncomputable def ItM (K : PySem.W.Frag) (J : It) (ds : List D) (ι : Nat → Addr) (μ : Mh) (H : Hp) : Prop := ∀ ι' (μ' : Mh) H', Ext ι μ.length H ι' μ'.length H' → RelH K ι' μ' H' →
  (∀ i, i < ds.length → J.go i H') ∧ J.stop ds.length H' ∧ ∀ (i : Nat) x H2 d, ds[i]? = some d → J.yld i H' x H2 → Ext ι' μ'.length H' ι' μ'.length H2 ∧ RelH K ι' μ' H2 ∧ Is K ι' μ'.length H2 d x
theorem ItM.ext {K : PySem.W.Frag} {J : It} {ds : List D} {ι ι' : Nat → Addr} {μ μ' : Mh} {H H' : Hp} (h : ItM K J ds ι μ H) (E : Ext ι μ.length H ι' μ'.length H') : ItM K J ds ι' μ' H' := fun ι2 μ2 H2 E2 R2 => h ι2 μ2 H2 (E.trans E2) R2
noncomputable def tI (K : PySem.W.Frag) (m : Sl → M (List D)) : TI := fun σ H R => ∃ ι μ τ ds μ', RelH K ι μ H ∧ RelS K ι μ.length H τ σ ∧ m τ μ = some (ds, μ') ∧
  Aft K ι μ H μ' fun ι' H' => ∀ J, ItM K J ds ι' μ' H' → R J H'
structure RI (X : Cx) (tg iter : Expr) (m : Sl → M (List D)) : Prop where
  pe : PI X tg iter (tI X.K m)
theorem PI.wk {t t' : TI} (h : PI X tg iter t) (w : ∀ σ H R, t' σ H R → t σ H R) : PI X tg iter t' := fun pins s σ H R I q => h pins s σ H R I (w σ H R q)
theorem RI.wk {m : Sl → M (List D)} {t : TI} (h : PI X tg iter t) (w : ∀ σ H R, tI X.K m σ H R → t σ H R) : RI X tg iter m := ⟨PI.wk h w⟩
theorem PI.or {t t' : TI} (h : PI X tg iter t) (h' : PI X tg iter t') : PI X tg iter (fun σ H R => t σ H R ∨ t' σ H R) := fun pins s σ H R I q => q.elim (h pins s σ H R I) (h' pins s σ H R I)
noncomputable def asSeq : D → M (List D)
  | .lst ds => ret ds
  | .tup ds => ret ds
  | .scr ns => ret (ns.map D.int)
  | _ => fail
noncomputable def mSrc (m : Sl → M D) : Sl → M (List D) := fun τ => bnd (m τ) asSeq
theorem itm_list {K : PySem.W.Frag} {ι : Nat → Addr} {μ : Mh} {H : Hp} {p : Addr} {vs : List V} {ds : List D} (st : ∀ ι' (μ' : Mh) H', Ext ι μ.length H ι' μ'.length H' → RelH K ι' μ' H' → SqL K H' p vs) (i : IsL K ι μ.length H ds vs) : ItM K (Itl K p) ds ι μ H := by
  intro ι' μ' H' E R
  have h := st ι' μ' H' E R
  have hl := i.length
  refine ⟨fun j hj => ⟨vs, vs[j], h, by simp⟩, ⟨vs, h, by omega⟩, fun j x H2 d hd y => ?_⟩
  obtain ⟨e, y⟩ := y
  subst e
  obtain ⟨v, ev, iv⟩ := (i.ext E).get hd
  have := y vs h
  rw [ev] at this; cases this
  exact ⟨R.ext0, R, iv⟩
theorem itm_tup {K : PySem.W.Frag} {ι : Nat → Addr} {μ : Mh} {H : Hp} {p : Addr} {vs : List V} {ds : List D} (h : SqT K H p vs) (i : IsL K ι μ.length H ds vs) : ItM K (Itt K p) ds ι μ H := by
  intro ι' μ' H' E R
  have h := sqT_ext E h
  have hl := i.length
  refine ⟨fun j hj => ⟨vs, vs[j], h, by simp⟩, ⟨vs, h, by omega⟩, fun j x H2 d hd y => ?_⟩
  obtain ⟨e, y⟩ := y
  subst e
  obtain ⟨v, ev, iv⟩ := (i.ext E).get hd
  have := y vs h
  rw [ev] at this; cases this
  exact ⟨R.ext0, R, iv⟩
theorem ri_seqT {m : Sl → M D} {σ : St} {H : Hp} {R : It → Hp → Prop} {K : PySem.W.Frag} (q : tI K (mSrc m) σ H R) : iList K (tE K m) σ H R ∨ iTup K (tE K m) σ H R := by
  obtain ⟨ι, μ, τ, ds, μ', R0, S, e, q⟩ := q
  obtain ⟨x, μ1, e1, e⟩ := bnd_some e
  cases x with
  | lst es =>
    cases e
    refine .inl ⟨ι, μ, τ, _, _, R0, S, e1, fun ι1 H1 E1 R1 v i1 => ?_⟩
    unfold Is at i1
    obtain ⟨p, vs, rfl, h1, hn, h2⟩ := i1
    exact ⟨p, rfl, ⟨vs, SqL.of h1⟩, q ι1 H1 E1 R1 _ (itm_list (fun ι' μ' H' E _ => SqL.of (E.keep p _ h1 hn)) h2)⟩
  | tup es =>
    cases e
    refine .inr ⟨ι, μ, τ, _, _, R0, S, e1, fun ι1 H1 E1 R1 v i1 => ?_⟩
    unfold Is at i1
    obtain ⟨p, vs, rfl, h1, h2⟩ := i1
    exact ⟨p, rfl, ⟨vs, h1⟩, q ι1 H1 E1 R1 _ (itm_tup h1 h2)⟩
  | scr ns =>
    cases e
    refine .inl ⟨ι, μ, τ, _, _, R0, S, e1, fun ι1 H1 E1 R1 v i1 => ?_⟩
    unfold Is at i1
    obtain ⟨p, rfl, h1⟩ := i1
    exact ⟨p, rfl, ⟨_, h1.sq⟩, q ι1 H1 E1 R1 _ (itm_list (fun ι' μ' H' E _ => (scr_ext E h1).sq) (IsL.ofInts ns))⟩
  | non => cases e
  | bl _ => cases e
  | int _ => cases e
  | str _ => cases e
  | ty _ => cases e
  | ref _ => cases e
theorem ri_seq {m : Sl → M D} (h : RE X e m) : RI X tg e (mSrc m) := RI.wk (PI.or (pi_list h.pe) (pi_tup h.pe)) fun _ _ _ q => ri_seqT q
noncomputable def rngD (lo hi : Int) : List D := (List.range (hi - lo).toNat).map fun (j : Nat) => D.int (lo + (j : Int))
noncomputable def rng1F : List D → M (List D)
  | [.int j] => fun μ => if -(2 ^ 62) ≤ j ∧ j < 2 ^ 62 then some (rngD 0 j, μ) else none
  | _ => fail
noncomputable def mRng1 (m : Sl → M (List D)) : Sl → M (List D) := fun τ => bnd (m τ) rng1F
theorem itm_rng {K : PySem.W.Frag} {ι : Nat → Addr} {μ : Mh} {H : Hp} {lo hi : Int} : ItM K (Itr lo (hi - lo).toNat) (rngD lo hi) ι μ H := by
  intro ι' μ' H' E R
  have hl : (rngD lo hi).length = (hi - lo).toNat := by simp [rngD]
  rw [hl]
  refine ⟨fun j hj => hj, Nat.le_refl _, fun j x H2 d hd y => ?_⟩
  obtain ⟨e, y⟩ := y
  subst e
  unfold rngD at hd
  rw [List.getElem?_map] at hd
  cases q : (List.range (hi - lo).toNat)[j]? with
  | none => rw [q] at hd; cases hd
  | some z =>
    rw [q] at hd
    have hz : z = j := by
      have := (List.getElem?_eq_some_iff.mp q).2
      simpa using this.symm
    subst hz
    cases hd
    exact ⟨R.ext0, R, by unfold Is; exact y⟩
theorem ri_range1 {a : Expr} {m : Sl → M (List D)} {p : Pos} (hm : X.mg "range" = none) (ha : RA X [a] m) (hg : Gl X "range" := by rfl) (hs : starEach [a] X.env = [(false, eval a X.env)] := by rfl) : RI X tg (.Call (.Name "range" p) [a] [] pos) (mRng1 m) :=
  RI.wk (pi_range1 hg hm ha.pe hs) fun σ H R q => by
    obtain ⟨ι, μ, τ, ds, μ', R0, S, e, q⟩ := q
    obtain ⟨xs, μ1, e1, e⟩ := bnd_some e
    refine ⟨ι, μ, τ, xs, μ1, R0, S, e1, fun ι1 H1 E1 R1 vs i1 => ?_⟩
    unfold rng1F at e
    split at e
    · rename_i j
      split at e
      · rename_i hb
        cases e
        unfold IsL Is at i1
        obtain ⟨v, vs', rfl, rfl, i2⟩ := i1
        unfold IsL at i2
        subst i2
        refine ⟨j, rfl, hb.1, hb.2, q ι1 H1 E1 R1 _ ?_⟩
        have := itm_rng (K := X.K) (ι := ι1) (μ := μ') (H := H1) (lo := 0) (hi := j)
        rw [Int.sub_zero] at this
        exact this
      · cases e
    · cases e
noncomputable def forGo (bf : D → Sl → M Sl) (mb : Sl → M (Fl × Sl)) : List D → Sl → M (Fl × Sl)
  | [], τ => ret (.next, τ)
  | x :: xs, τ => bnd (bf x τ) fun τ1 => bnd (mb τ1) fun r => match r.1 with
    | .next => forGo bf mb xs r.2
    | .cont => forGo bf mb xs r.2
    | .brk => ret (.next, r.2)
    | .rt d => ret (.rt d, r.2)
noncomputable def sFor (src : Sl → M (List D)) (bf : D → Sl → M Sl) (mb : Sl → M (Fl × Sl)) : Sl → M (Fl × Sl) := fun τ => bnd (src τ) fun ds => forGo bf mb ds τ
theorem rs_for {src : Sl → M (List D)} {bf : D → Sl → M Sl} {mb : Sl → M (Fl × Sl)} (hp : PassesOwn (model X.prog X.w) X.A X.env X.xe) (hc : X.calm = true) (hi : RI X tg iter src) (hg : RG X tg bf) (hb : RSs X body mb)
    (hs : ∀ x, foldedSetIterable iter X.env x = pure x := by intro _; rfl) : RS X (.For tg iter body [] pos) (sFor src bf mb) := RS.wk (ps_for hp hc hi.pe hg.pe hb.pe hs) fun Dn σ H h => by
  obtain ⟨ι, μ, τ, f, τ', μ', R, S, e, q⟩ := h
  obtain ⟨ds, μ1, e1, e⟩ := bnd_some e
  refine ⟨ι, μ, τ, ds, μ1, R, S, e1, fun ι1 H1 E1 R1 J it => ?_⟩
  let W : Nat → Nat → St → Hp → Prop := fun i m σ H => m = ds.length - i ∧ i ≤ ds.length ∧ ∃ ι μ τ f τ' μ', RelH X.K ι μ H ∧ RelS X.K ι μ.length H τ σ ∧ ItM X.K J ds ι μ H ∧ forGo bf mb (ds.drop i) τ μ = some ((f, τ'), μ') ∧
    Aft X.K ι μ H μ' fun ι' H' => ∀ σ', RelS X.K ι' μ'.length H' τ' σ' → FlP X.K Dn ι' μ'.length H' τ' σ' f
  refine ⟨W, ⟨ds.length, by simp, Nat.zero_le _, ι1, μ1, τ, f, τ', μ', R1, S.ext E1, it, e, fun ι2 H2 E2 R2 => q ι2 H2 (E1.trans E2) R2⟩, ?_⟩
  rintro i m σ H ⟨hm, hil, ι, μ, τ, f, τ', μ', R, S, it, e, q⟩
  obtain ⟨go, stop, yl⟩ := it ι μ H R.ext0 R
  by_cases hlt : i < ds.length
  · refine .inr ⟨go i hlt, fun σ' H' => W (i + 1) (ds.length - (i + 1)) σ' H', fun σ' H' z => ⟨_, by omega, z⟩, fun x H2 y => ?_⟩
    have hd : ds[i]? = some ds[i] := by simp [hlt]
    obtain ⟨E2, R2, ix⟩ := yl i x H2 _ hd y
    rw [List.drop_eq_getElem_cons hlt] at e
    obtain ⟨τ1, μ1, e1, e⟩ := bnd_some e
    obtain ⟨⟨f2, τ2⟩, μ2, e2, e⟩ := bnd_some e
    refine ⟨ι, μ, τ, _, τ1, μ1, R2, S.ext E2, ix, e1, fun ι3 H3 E3 R3 σ3 S3 => ?_⟩
    refine ⟨ι3, μ1, τ1, f2, τ2, μ2, R3, S3, e2, fun ι4 H4 E4 R4 σ4 S4 => ?_⟩
    have E14 := (E2.trans E3).trans E4
    cases f2 with
    | next => exact ⟨rfl, hlt, ι4, μ2, τ2, f, τ', μ', R4, S4, it.ext E14, e, fun ι5 H5 E5 R5 => q ι5 H5 (E14.trans E5) R5⟩
    | cont => exact ⟨rfl, hlt, ι4, μ2, τ2, f, τ', μ', R4, S4, it.ext E14, e, fun ι5 H5 E5 R5 => q ι5 H5 (E14.trans E5) R5⟩
    | brk => cases e; exact q ι4 H4 E14 R4 σ4 S4
    | rt d => cases e; exact q ι4 H4 E14 R4 σ4 S4
  · have hi' : i = ds.length := by omega
    subst hi'
    rw [List.drop_length] at e
    cases e
    exact .inl ⟨stop, q ι H R.ext0 R σ S⟩
end
end Mi
namespace Mi
open PySem L2
section
variable {X : Cx} {scope : Scope} {tgs : List Str} {ix : List Nat} {elt tg iter : Expr} {pos : Pos}
noncomputable def pickL (ix : List Nat) (τ : Sl) : Sl := ix.map fun j => (τ[j]?).getD none
noncomputable def startBl (n : Nat) (ix : List Nat) (τ : Sl) : Sl := List.replicate n none ++ pickL ix τ
noncomputable def compGo (bf : D → Sl → M Sl) (mc : Sl → M Bool) (me : Sl → M D) (τ0 : Sl) : List D → List D → M (List D)
  | [], ys => ret ys
  | x :: xs, ys => bnd (bf x τ0) fun τ1 => bnd (mc τ1) fun c => if c = true then bnd (me τ1) fun y => compGo bf mc me τ0 xs (ys ++ [y]) else compGo bf mc me τ0 xs ys
noncomputable def mComp (n : Nat) (ix : List Nat) (src : Sl → M (List D)) (bf : D → Sl → M Sl) (mc : Sl → M Bool) (me : Sl → M D) (fin : List D → M D) : Sl → M D := fun τ => bnd (src τ) fun ds => bnd (lim ds.length) fun _ => bnd (compGo bf mc me (startBl n ix τ) ds []) fin
noncomputable def mTrue : Sl → M Bool := fun _ => ret true
theorem RelS.block {K : PySem.W.Frag} {ι : Nat → Addr} {k : Nat} {H : Hp} {τ : Sl} {σ : St} (S : RelS K ι k H τ σ) : RelS K ι k H (startBl tgs.length ix τ) (startB tgs ix σ) := by
  refine ⟨by simp [startBl, startB, pickL, pickS], fun i d e => ?_⟩
  unfold startBl at e
  have hk : tgs.length ≤ i := by
    rcases Nat.lt_or_ge i tgs.length with z | z
    · rw [List.getElem?_append_left (by simpa using z), List.getElem?_replicate, if_pos z] at e
      cases e
    · exact z
  rw [List.getElem?_append_right (by simpa using hk), List.length_replicate] at e
  unfold pickL at e
  rw [List.getElem?_map] at e
  cases q : ix[i - tgs.length]? with
  | none => rw [q] at e; cases e
  | some j =>
    rw [q] at e
    have e' : (τ[j]?).getD none = some d := Option.some.inj e
    cases q2 : τ[j]? with
    | none => rw [q2] at e'; cases e'
    | some o =>
      rw [q2] at e'
      have e'' : o = some d := e'
      subst e''
      obtain ⟨v, ev, iv⟩ := S.get j d q2
      refine ⟨v, ?_, iv⟩
      unfold startB
      rw [List.getElem?_append_right (by simpa using hk), List.length_replicate]
      unfold pickS
      rw [List.getElem?_map, q, Option.map_some, ev]
      rfl
theorem tE_comp {K : PySem.W.Frag} {n : Nat} {src : Sl → M (List D)} {i : Nat} {mc : Sl → M Bool} {me : Sl → M D} {fin : List D → M D} {σ : St} {H : Hp} {Q : VK} (hn : tgs.length = n) (hf : ∀ ι μ μ' H ds vs d (Q : VK), RelH K ι μ H → IsL K ι μ.length H ds vs → fin ds μ = some (d, μ') → (Aft K ι μ H μ' fun ι' H' => ∀ v, Is K ι' μ'.length H' d v → Q v H') →
      vs.length ≤ sizeLine ∧ ∀ p, H p = none → Q (.ref p) (upd H p (.lst vs)))
    (h : tE K (mComp n ix src (bName i) mc me fin) σ H Q) : tComp tgs ix (tI K src) (gName i) (tT K mc) (tE K me) σ H Q := by
  subst hn
  obtain ⟨ι, μ, τ, d, μ', R, S, e, q⟩ := h
  obtain ⟨ds, μ1, e1, e5⟩ := bnd_some e
  obtain ⟨u, μ2, e2, e6⟩ := bnd_some e5
  obtain ⟨zs, μ3, e3, e7⟩ := bnd_some e6
  obtain ⟨hl, e4⟩ := lim_some e2
  clear e e5 e6
  subst e4
  refine ⟨ι, μ, τ, ds, _, R, S, e1, fun ι1 H1 E1 R1 J it => ?_⟩
  refine ⟨fun i' m ys H => m = ds.length - i' ∧ i' ≤ ds.length ∧ ys.length ≤ i' ∧ ∃ (ι : Nat → Addr) (μ : Mh) (as : List D), RelH K ι μ H ∧ RelS K ι μ.length H τ σ ∧ ItM K J ds ι μ H ∧ IsL K ι μ.length H as ys ∧ compGo (bName i) mc me (startBl tgs.length ix τ) (ds.drop i') as μ = some (zs, μ3) ∧
    Aft K ι μ H μ' fun ι' H' => ∀ v, Is K ι' μ'.length H' d v → Q v H', ⟨ds.length, by simp, Nat.zero_le _, Nat.le_refl _, ι1, _, [], R1, S.ext E1, it, .nil, e3, fun ι2 H2 E2 R2 => q ι2 H2 (E1.trans E2) R2⟩, ?_⟩
  rintro i' m ys H ⟨hm, hil, hyl, ι, μ, as, R, S, it, ia, e3, q⟩
  obtain ⟨go, stop, yl⟩ := it ι μ H R.ext0 R
  by_cases hlt : i' < ds.length
  · refine .inr ⟨go i' hlt, by omega, fun ys' H' => ys'.length ≤ i' + 1 ∧ ∃ (ι : Nat → Addr) (μ : Mh) (as : List D), RelH K ι μ H' ∧ RelS K ι μ.length H' τ σ ∧ ItM K J ds ι μ H' ∧ IsL K ι μ.length H' as ys' ∧ compGo (bName i) mc me (startBl tgs.length ix τ) (ds.drop (i' + 1)) as μ = some (zs, μ3) ∧
      Aft K ι μ H' μ' fun ι' H' => ∀ v, Is K ι' μ'.length H' d v → Q v H', fun ys' H' z => ⟨_, (by omega : ds.length - (i' + 1) < m), rfl, hlt, z⟩, fun x H2 y => ?_⟩
    have hd : ds[i']? = some ds[i'] := by simp [hlt]
    obtain ⟨E2, R2, ix2⟩ := yl i' x H2 _ hd y
    rw [List.drop_eq_getElem_cons hlt] at e3
    obtain ⟨τ1, μ1, e1, e3⟩ := bnd_some e3
    cases e1
    obtain ⟨cc, μ2, e2, e3⟩ := bnd_some e3
    have S2 := (S.ext E2).block (tgs := tgs) (ix := ix)
    show tT K mc _ H2 _
    refine ⟨ι, _, _, cc, μ2, R2, S2.set i ix2, e2, fun ι3 H3 E3 R3 => ?_⟩
    have E13 := E2.trans E3
    cases cc with
    | false =>
      exact ⟨by omega, ι3, μ2, as, R3, S.ext E13, it.ext E13, ia.ext E13, e3, fun ι5 H5 E5 R5 => q ι5 H5 (E13.trans E5) R5⟩
    | true =>
      obtain ⟨y', μ4, e4, e3⟩ := bnd_some e3
      refine ⟨ι3, μ2, _, y', μ4, R3, (S2.set i ix2).ext E3, e4, fun ι4 H4 E4 R4 v iv => ?_⟩
      have E14 := E13.trans E4
      exact ⟨by simp; omega, ι4, μ4, as ++ [y'], R4, S.ext E14, it.ext E14, (ia.ext E14).append (.one iv), e3, fun ι5 H5 E5 R5 => q ι5 H5 (E14.trans E5) R5⟩
  · have hi' : i' = ds.length := by omega
    subst hi'
    rw [List.drop_length] at e3
    cases e3
    obtain ⟨z1, z2⟩ := hf ι _ μ' H _ ys d Q R ia e7 q
    exact .inl ⟨stop, z1, z2⟩
theorem re_comp {n : Nat} {ifs : List Expr} {src : Sl → M (List D)} {i : Nat} {mc : Sl → M Bool} {me : Sl → M D} (S : BScope X scope tgs ix) (hc : X.calm = true) (hi : RI X tg iter src) (hg : ∀ fp C s H, PG (cxB X scope tgs fp C s H) tg (gName i)) (hif : ∀ fp C s H, PIfs (cxB X scope tgs fp C s H) ifs (tT X.K mc)) (he : ∀ fp C s H, RE (cxB X scope tgs fp C s H) elt me)
    (hin : i < tgs.length := by decide) (hn : tgs.length = n := by rfl) (hs : ∀ x, foldedSetIterable iter X.env x = pure x := by intro _; rfl) (ht : ∀ o v, letOwnedTupleGo tg o v = pure () := by intro _ _; rfl) : RE X (.ListComp elt [⟨tg, iter, ifs, 0⟩] scope pos) (mComp n ix src (bName i) mc me newL) :=
  RE.wk (pe_comp (te := tE X.K me) S hc hi.pe hg (gk_name hin) hif (fun fp C s H => (he fp C s H).pe) hs ht) fun _ _ _ h => tE_comp hn (fun _ _ _ _ _ _ _ _ R i e q => newL_ok R i e q) h
theorem rifs_nil {K : PySem.W.Frag} : PIfs X [] (tT K mTrue) := fun pins s σ H Q I h => by
  obtain ⟨ι, μ, τ, b, μ', R, S, e, q⟩ := h
  cases e
  exact pifs_nil pins s σ H Q I (q ι H R.ext0 R)
theorem rifs_one {c : Expr} {mc : Sl → M Bool} (h : RT X c mc) : PIfs X [c] (tT X.K mc) := pifs_one h.pe
theorem rs_setComp (k : Nat) {n : Nat} {y : Str} {py spos : Pos} {ifs : List Expr} {src : Sl → M (List D)} {i : Nat} {mc : Sl → M Bool} {me : Sl → M D} {fin : List D → M D} (hN : X.N.Nodup) (S : BScope X scope tgs ix) (hc : X.calm = true) (hi : RI X tg iter src) (hg : ∀ fp C s H, PG (cxB X scope tgs fp C s H) tg (gName i)) (hif : ∀ fp C s H, PIfs (cxB X scope tgs fp C s H) ifs (tT X.K mc)) (he : ∀ fp C s H, RE (cxB X scope tgs fp C s H) elt me)
    (hfin : ∀ ι μ μ' H ds vs d (Q : VK), RelH X.K ι μ H → IsL X.K ι μ.length H ds vs → fin ds μ = some (d, μ') → (Aft X.K ι μ H μ' fun ι' H' => ∀ v, Is X.K ι' μ'.length H' d v → Q v H') → vs.length ≤ sizeLine ∧ ∀ p, H p = none → Q (.ref p) (upd H p (.lst vs)))
    (hiN : X.N[k]? = some y := by rfl) (hy : X.env.scope.names.lookup y = some .local := by rfl) (hin : i < tgs.length := by decide) (hn : tgs.length = n := by rfl)
    (hsw : swapsWith (.ListComp elt [⟨tg, iter, ifs, 0⟩] scope pos) (some (.Name y py)) spos.line X.env = pure true := by rfl) (hs : ∀ x, foldedSetIterable iter X.env x = pure x := by intro _; rfl) (ht : ∀ o v, letOwnedTupleGo tg o v = pure () := by intro _ _; rfl) :
    RS X (.Assign [.Name y py] (.ListComp elt [⟨tg, iter, ifs, 0⟩] scope pos) spos) (sAsg (mComp n ix src (bName i) mc me fin) (bName k)) :=
  RS.wk (ps_setComp (te := tE X.K me) hN hiN hy S hc hi.pe hg (gk_name hin) hif (fun fp C s H => (he fp C s H).pe) hsw hs ht) fun Dn σ H h => by
    obtain ⟨ι, μ, τ, f, τ', μ', R, S, e, q⟩ := h
    obtain ⟨x, μ1, e1, e⟩ := bnd_some e
    obtain ⟨τ1, μ2, e2, e⟩ := bnd_some e
    cases e2
    cases e
    refine tE_comp hn hfin ⟨ι, μ, τ, x, _, R, S, e1, fun ι1 H1 E1 R1 v i1 => ?_⟩
    exact q ι1 H1 E1 R1 _ ((S.ext E1).set k i1)
mutual
noncomputable def Cl (k : Nat) : D → Prop
  | .tup ds => ClL k ds
  | .lst ds => ClL k ds
  | .ref n => n < k
  | _ => True
noncomputable def ClL (k : Nat) : List D → Prop
  | [] => True
  | d :: ds => Cl k d ∧ ClL k ds
end
noncomputable def ClO (k : Nat) : MO → Prop
  | .lst ds => ClL k ds
  | .dK l => ClL k (l.map (·.2))
section
variable {K : PySem.W.Frag} {ι : Nat → Addr} {k k' : Nat} {H : Hp}
mutual
theorem Is.down (hk : k ≤ k') : ∀ {d : D} {v : V}, Cl k d → Is K ι k' H d v → Is K ι k H d v
  | .non, _, _, h => by unfold Is at h ⊢; exact h
  | .bl _, _, _, h => by unfold Is at h ⊢; exact h
  | .int _, _, _, h => by unfold Is at h ⊢; exact h
  | .str _, _, _, h => by unfold Is at h ⊢; exact h
  | .ty _, _, _, h => by unfold Is at h ⊢; exact h
  | .scr _, _, _, h => by unfold Is at h ⊢; exact h
  | .tup ds, _, c, h => by
    unfold Is at h ⊢
    obtain ⟨p, vs, e, h1, h2⟩ := h
    exact ⟨p, vs, e, h1, IsL.down hk (by unfold Cl at c; exact c) h2⟩
  | .lst ds, _, c, h => by
    unfold Is at h ⊢
    obtain ⟨p, vs, e, h1, hn, h2⟩ := h
    exact ⟨p, vs, e, h1, fun n z => hn n (Nat.lt_of_lt_of_le z hk), IsL.down hk (by unfold Cl at c; exact c) h2⟩
  | .ref n, _, c, h => by
    unfold Is at h ⊢
    exact ⟨by unfold Cl at c; exact c, h.2⟩
theorem IsL.down (hk : k ≤ k') : ∀ {ds : List D} {vs : List V}, ClL k ds → IsL K ι k' H ds vs → IsL K ι k H ds vs
  | [], _, _, h => by unfold IsL at h ⊢; exact h
  | _ :: _, _, c, h => by
    unfold IsL at h ⊢
    unfold ClL at c
    obtain ⟨v, vs', e, h1, h2⟩ := h
    exact ⟨v, vs', e, Is.down hk c.1 h1, IsL.down hk c.2 h2⟩
end
mutual
theorem Is.cl : ∀ {d : D} {v : V}, Is K ι k H d v → Cl k d
  | .non, _, _ => by unfold Cl; trivial
  | .bl _, _, _ => by unfold Cl; trivial
  | .int _, _, _ => by unfold Cl; trivial
  | .str _, _, _ => by unfold Cl; trivial
  | .ty _, _, _ => by unfold Cl; trivial
  | .scr _, _, _ => by unfold Cl; trivial
  | .tup ds, _, h => by
    unfold Is at h; unfold Cl
    obtain ⟨p, vs, e, h1, h2⟩ := h
    exact IsL.cl h2
  | .lst ds, _, h => by
    unfold Is at h; unfold Cl
    obtain ⟨p, vs, e, h1, hn, h2⟩ := h
    exact IsL.cl h2
  | .ref n, _, h => by
    unfold Is at h; unfold Cl
    exact h.1
theorem IsL.cl : ∀ {ds : List D} {vs : List V}, IsL K ι k H ds vs → ClL k ds
  | [], _, _ => by unfold ClL; trivial
  | _ :: _, _, h => by
    unfold IsL at h; unfold ClL
    obtain ⟨v, vs', e, h1, h2⟩ := h
    exact ⟨Is.cl h1, IsL.cl h2⟩
end
theorem KVs.cl : ∀ {l : List (Key × D)} {r : List (Key × V)}, KVs K ι k H l r → ClL k (l.map (·.2))
  | [], _, _ => by unfold List.map ClL; trivial
  | (_, _) :: _, _, h => by
    obtain ⟨v, r', e, h1, h2⟩ := h
    rw [List.map_cons]
    unfold ClL
    exact ⟨h1.cl, KVs.cl h2⟩
theorem KVs.down (hk : k ≤ k') : ∀ {l : List (Key × D)} {r : List (Key × V)}, ClL k (l.map (·.2)) → KVs K ι k' H l r → KVs K ι k H l r
  | [], _, _, h => h
  | (_, _) :: _, _, c, h => by
    rw [List.map_cons] at c
    unfold ClL at c
    obtain ⟨v, r', e, h1, h2⟩ := h
    exact ⟨v, r', e, h1.down hk c.1, KVs.down hk c.2 h2⟩
theorem ObjIs.cl {o : MO} {u : HO} (h : ObjIs K ι k H o u) : ClO k o := by
  cases o with
  | lst ds => obtain ⟨vs, _, h⟩ := h; exact h.cl
  | dK l => obtain ⟨r, _, h⟩ := h; exact h.cl
theorem ObjIs.down (hk : k ≤ k') {o : MO} {u : HO} (c : ClO k o) (h : ObjIs K ι k' H o u) : ObjIs K ι k H o u := by
  cases o with
  | lst ds => obtain ⟨vs, e, h⟩ := h; exact ⟨vs, e, h.down hk c⟩
  | dK l => obtain ⟨r, e, h⟩ := h; exact ⟨r, e, h.down hk c⟩
end
noncomputable def Conv (μ2 μ' : Mh) (d' d : D) : Prop := (d' = d ∧ Cl μ'.length d) ∨ ∃ n ds, d' = .ref n ∧ μ2[n]? = some (.lst ds) ∧ μ'.length ≤ n ∧ d = .lst ds ∧ ClL μ'.length ds
structure Tells (μ μ2 μ' : Mh) (d' d : D) : Prop where
  grow : ∃ g, μ2 = μ' ++ g
  le : μ.length ≤ μ'.length
  old : ∀ (n : Nat) (o : MO), μ'[n]? = some o → μ[n]? = some o ∨ ClO μ'.length o
  conv : Conv μ2 μ' d' d
noncomputable def resD : Fl → D
  | .rt d => d
  | _ => .non
theorem tells_of {K : PySem.W.Frag} {ι ι2 : Nat → Addr} {μ μ2 μ' : Mh} {H H2 : Hp} {d' d : D} (R : RelH K ι μ H) (E : Ext ι μ.length H ι2 μ2.length H2) (R2 : RelH K ι2 μ2 H2) (t : Tells μ μ2 μ' d' d) :
    Ext ι μ.length H ι2 μ'.length H2 ∧ RelH K ι2 μ' H2 ∧ ∀ v, Is K ι2 μ2.length H2 d' v → Is K ι2 μ'.length H2 d v := by
  obtain ⟨⟨g, hg⟩, le, old, conv⟩ := t
  have hle : μ'.length ≤ μ2.length := by rw [hg]; simp
  have hget : ∀ (n : Nat) (o : MO), μ'[n]? = some o → μ2[n]? = some o := fun n o e => by
    rw [hg, List.getElem?_append_left (List.getElem?_eq_some_iff.mp e).1]; exact e
  refine ⟨⟨le, E.agree, fun n h1 h2 => E.fresh n h1 (Nat.lt_of_lt_of_le h2 hle), E.keep, E.was, E.there⟩, ⟨fun i j hi hj => R2.inj i j (Nat.lt_of_lt_of_le hi hle) (Nat.lt_of_lt_of_le hj hle), fun n o e => ?_⟩, fun v iv => ?_⟩
  · obtain ⟨u, q, hq⟩ := R2.obj n o (hget n o e)
    refine ⟨u, q, hq.down hle ?_⟩
    rcases old n o e with z | z
    · obtain ⟨u0, _, h0⟩ := R.obj n o z
      have c := h0.cl
      cases o with
      | lst ds => exact clL_mono le c
      | dK l => exact clL_mono le c
    · exact z
  · rcases conv with ⟨rfl, c⟩ | ⟨n, ds, rfl, hn, hle2, rfl, c⟩
    · exact iv.down hle c
    · obtain ⟨u, q, vs, rfl, il⟩ := R2.obj n _ hn
      have hn2 : n < μ2.length := (List.getElem?_eq_some_iff.mp hn).1
      unfold Is at iv ⊢
      refine ⟨ι2 n, vs, iv.2, q, fun m hm z => ?_, il.down hle c⟩
      have := R2.inj m n (Nat.lt_of_lt_of_le hm hle) hn2 z
      omega
where
  cl_mono {k k' : Nat} (h : k ≤ k') : ∀ {d : D}, Cl k d → Cl k' d
    | .non, _ => by unfold Cl; trivial
    | .bl _, _ => by unfold Cl; trivial
    | .int _, _ => by unfold Cl; trivial
    | .str _, _ => by unfold Cl; trivial
    | .ty _, _ => by unfold Cl; trivial
    | .scr _, _ => by unfold Cl; trivial
    | .tup ds, c => by unfold Cl at c ⊢; exact clL_mono h c
    | .lst ds, c => by unfold Cl at c ⊢; exact clL_mono h c
    | .ref n, c => by unfold Cl at c ⊢; exact Nat.lt_of_lt_of_le c h
  clL_mono {k k' : Nat} (h : k ≤ k') : ∀ {ds : List D}, ClL k ds → ClL k' ds
    | [], _ => by unfold ClL; trivial
    | _ :: _, c => by unfold ClL at c ⊢; exact ⟨cl_mono h c.1, clL_mono h c.2⟩
noncomputable def startD (n : Nat) (ds : List D) : Sl := ds.map some ++ List.replicate (n - ds.length) none
theorem RelS.start {K : PySem.W.Frag} {ι : Nat → Addr} {k : Nat} {H : Hp} {N : List Str} {ds : List D} {vs : List V} (i : IsL K ι k H ds vs) : RelS K ι k H (startD N.length ds) (L2.start N vs) := by
  have hl := i.length
  refine ⟨by simp [startD, L2.start, hl], fun j d e => ?_⟩
  unfold startD at e
  unfold L2.start
  rcases Nat.lt_or_ge j ds.length with z | z
  · rw [List.getElem?_append_left (by simpa using z), List.getElem?_map] at e
    rw [List.getElem?_append_left (by simpa [hl] using z), List.getElem?_map]
    cases q : ds[j]? with
    | none => rw [q] at e; cases e
    | some d0 =>
      rw [q] at e
      cases e
      obtain ⟨v, ev, iv⟩ := i.get q
      exact ⟨v, by rw [ev]; rfl, iv⟩
  · rw [List.getElem?_append_right (by simpa using z), List.getElem?_replicate] at e
    split at e <;> cases e
theorem fn_mirror {P : Program} {w : World} {K : PySem.W.Frag} {mg : Str → Option Value} {base : Heap} {x qual : Str} {st : Stmt} {f : Addr} {fd : FuncData} {N ps : List Str} {k n : Nat} {φ : List D → M D} {mb : Sl → M (Fl × Sl)} (F : Fun K x qual st f fd) (S : FnScope N ps (defScope st)) (hn : ps.length = n := by rfl)
    (body : ∀ (cdv : Value) (A : Around) (outer : List Env) (s : Shared) (H : Hp) (E : XK), Room k (A.deeper (PyProof.Rows.envOfC qual (defScope st) s.heap.objs.size f cdv)) → RSs (cxOf CX0 P w K mg base N qual (defScope st) f cdv A outer s H E).nox (defBody st) mb)
    (run : ∀ ds μ d μ', φ ds μ = some (d, μ') → ∃ fl τ2 μ2, mb (startD N.length ds) μ = some ((fl, τ2), μ2) ∧ (fl = .next ∨ ∃ d, fl = .rt d) ∧ Tells μ μ2 μ' (resD fl) d) : FnOk P w K mg base CX0 (k + 1) f fd ps (spM K n φ) := by
  refine F.ok S (fun vs H Q E h => by rw [hn]; exact h.1) (fun cdv A outer s H vs Q E hr h => ⟨_, (body cdv A outer s H E hr).pe, ?_⟩)
  obtain ⟨hl, ι, μ, ds, d, μ', R, i, e, q⟩ := h
  obtain ⟨fl, τ2, μ2, e2, hfl, t⟩ := run ds μ d μ' e
  refine ⟨ι, μ, _, fl, τ2, μ2, R, RelS.start i, e2, fun ι2 H2 E2 R2 σ2 S2 => ?_⟩
  obtain ⟨E3, R3, c⟩ := tells_of R E2 R2 t
  rcases hfl with rfl | ⟨d0, rfl⟩
  · exact q ι2 H2 E3 R3 _ (c _ (by unfold resD Is; rfl))
  · exact fun v iv => q ι2 H2 E3 R3 v (c v iv)
end
end Mi
namespace Mi
open PySem L2
noncomputable def asList : D → M (List D)
  | .lst ds => ret ds
  | .scr ns => ret (ns.map D.int)
  | .ref n => fun μ => match μ[n]? with
    | some (.lst ds) => some (ds, μ)
    | _ => none
  | _ => fail
section
variable {K : PySem.W.Frag} {ι : Nat → Addr} {μ μ' : Mh} {H : Hp} {d a b : D} {v x y : V} {ds : List D}
theorem asList_sq (R : RelH K ι μ H) (i : Is K ι μ.length H d v) (e : asList d μ = some (ds, μ')) : μ' = μ ∧ ∃ p vs, v = .ref p ∧ SqL K H p vs ∧ IsL K ι μ.length H ds vs := by
  cases d with
  | lst es =>
    cases e
    unfold Is at i
    obtain ⟨p, vs, rfl, h1, hn, h2⟩ := i
    exact ⟨rfl, p, vs, rfl, SqL.of h1, h2⟩
  | scr ns =>
    cases e
    unfold Is at i
    obtain ⟨p, rfl, h1⟩ := i
    exact ⟨rfl, p, _, rfl, h1.sq, IsL.ofInts ns⟩
  | ref n =>
    unfold Is at i
    obtain ⟨hn, rfl⟩ := i
    have e' : (match μ[n]? with | some (.lst ds) => some (ds, μ) | _ => none) = some (ds, μ') := e
    split at e'
    · rename_i es hq
      cases e'
      obtain ⟨u, h1, vs, rfl, h2⟩ := R.obj n _ hq
      exact ⟨rfl, _, vs, rfl, SqL.of h1, h2⟩
    · cases e'
  | _ => cases e
theorem is_int {i : Int} (h : Is K ι μ.length H (.int i) v) : v = .int i := by unfold Is at h; exact h
theorem is_str {i : Str} (h : Is K ι μ.length H (.str i) v) : v = .str i := by unfold Is at h; exact h
theorem is_bl {i : Bool} (h : Is K ι μ.length H (.bl i) v) : v = .bl i := by unfold Is at h; exact h
theorem is_non (h : Is K ι μ.length H .non v) : v = .non := by unfold Is at h; exact h
theorem is_ty {n : String} (h : Is K ι μ.length H (.ty n) v) : v = .ty n := by unfold Is at h; exact h
theorem ofI {k : Nat} (i : Int) : Is K ι k H (.int i) (.int i) := by unfold Is; rfl
theorem ofS {k : Nat} (i : Str) : Is K ι k H (.str i) (.str i) := by unfold Is; rfl
theorem ofB {k : Nat} (i : Bool) : Is K ι k H (.bl i) (.bl i) := by unfold Is; rfl
theorem ofN {k : Nat} : Is K ι k H .non .non := by unfold Is; rfl
theorem isL1 {d : D} {vs : List V} {k : Nat} (h : IsL K ι k H [d] vs) : ∃ v, vs = [v] ∧ Is K ι k H d v := by
  unfold IsL at h
  obtain ⟨v, vs', rfl, h1, h2⟩ := h
  unfold IsL at h2
  subst h2
  exact ⟨v, rfl, h1⟩
theorem isL2 {d d' : D} {vs : List V} {k : Nat} (h : IsL K ι k H [d, d'] vs) : ∃ v v', vs = [v, v'] ∧ Is K ι k H d v ∧ Is K ι k H d' v' := by
  unfold IsL at h
  obtain ⟨v, vs', rfl, h1, h2⟩ := h
  obtain ⟨v', rfl, h3⟩ := isL1 h2
  exact ⟨v, v', rfl, h1, h3⟩
theorem atI_is {i : Int} {vs : List V} {k : Nat} (h : IsL K ι k H ds vs) (e : atI ds i = some d) : ∃ v, atI vs i = some v ∧ Is K ι k H d v := by
  unfold atI at e ⊢
  rw [h.length]
  cases q : ixN ds.length i with
  | none => rw [q] at e; cases e
  | some j =>
    rw [q] at e
    exact h.get e
theorem cut_is {vs : List V} {k : Nat} {lo hi : Option Int} (h : IsL K ι k H ds vs) : IsL K ι k H ((ds.drop (HT.sIx ds.length 0 lo)).take (HT.sIx ds.length ds.length hi - HT.sIx ds.length 0 lo)) (cutV vs lo hi) := by
  unfold cutV
  rw [h.length]
  exact (h.drop _).take _
end
noncomputable def int2 (C : Int → Int → Prop) [∀ i j, Decidable (C i j)] (g : Int → Int → D) : D → D → M D
  | .int i, .int j => fun μ => if C i j then some (g i j, μ) else none
  | _, _ => fail
noncomputable def pySub : D → D → M D := int2 (fun _ _ => True) fun i j => .int (i - j)
noncomputable def pyFdiv : D → D → M D := int2 (fun _ j => 0 < j ∧ j < 1073741824) fun i j => .int (i / j)
noncomputable def pyMod : D → D → M D := int2 (fun _ j => 0 < j) fun i j => .int (i % j)
noncomputable def pyPow : D → D → M D := int2 (fun i j => 0 ≤ j ∧ j ≤ 1000000 ∧ i.natAbs < 2 ^ 64) fun i j => .int (i ^ j.toNat)
noncomputable def pyLt : D → D → M D := int2 (fun _ _ => True) fun i j => .bl (decide (i < j))
noncomputable def pyLe : D → D → M D := int2 (fun _ _ => True) fun i j => .bl (decide (i ≤ j))
noncomputable def pyGt : D → D → M D := int2 (fun _ _ => True) fun i j => .bl (decide (j < i))
section
variable {X : Cx}
theorem o_int2 {f : Value → Value → Sem Value} {C : Int → Int → Prop} [∀ i j, Decidable (C i j)] {g : Int → Int → D} {gv : Int → Int → V} (hg : ∀ i j ι k H, Is X.K ι k H (g i j) (gv i j)) (ho : OpR X f (rI C gv)) : OpR X f (rM X.K (int2 C g)) := OpR.wk ho fun x y H Q h => by
  obtain ⟨ι, μ, a, b, d, μ', R, ia, ib, e, q⟩ := h
  cases a with
  | int i =>
    cases b with
    | int j =>
      have e' : (if C i j then some (g i j, μ) else none) = some (d, μ') := e
      split at e'
      · rename_i hc
        cases e'
        exact ⟨i, j, is_int ia, is_int ib, hc, q ι H R.ext0 R _ (hg i j _ _ _)⟩
      · cases e'
    | _ => cases e
  | _ => cases e
theorem OpR.ofI0 {f : Value → Value → Sem Value} {gv : Int → Int → V} (ho : OpR X f (rI0 gv)) : OpR X f (rI (fun _ _ => True) gv) := OpR.wk ho fun x y H Q h => by
  obtain ⟨i, j, h1, h2, _, q⟩ := h
  exact ⟨i, j, h1, h2, q⟩
theorem o_sub : OpR X (binaryOp .Sub) (rM X.K pySub) := o_int2 (fun _ _ _ _ _ => ofI _) (OpR.ofI0 op_sub)
theorem o_fdiv : OpR X (binaryOp .FloorDiv) (rM X.K pyFdiv) := o_int2 (fun _ _ _ _ _ => ofI _) op_fdiv
theorem o_mod : OpR X (binaryOp .Mod) (rM X.K pyMod) := o_int2 (fun _ _ _ _ _ => ofI _) op_mod
theorem o_pow : OpR X (binaryOp .Pow) (rM X.K pyPow) := o_int2 (fun _ _ _ _ _ => ofI _) op_pow
theorem o_lt : OpR X (compareOp .Lt) (rM X.K pyLt) := o_int2 (fun _ _ _ _ _ => ofB _) (OpR.ofI0 op_lt)
theorem o_le : OpR X (compareOp .LtE) (rM X.K pyLe) := o_int2 (fun _ _ _ _ _ => ofB _) (OpR.ofI0 op_le)
theorem o_gt : OpR X (compareOp .Gt) (rM X.K pyGt) := o_int2 (fun _ _ _ _ _ => ofB _) (OpR.ofI0 op_gt)
noncomputable def pyAdd : D → D → M D
  | .int i, .int j => ret (.int (i + j))
  | .str i, .str j => bnd (lim (i.length + j.length)) fun _ => ret (.str (i ++ j))
  | .lst a, .lst b => newL (a ++ b)
  | .tup [], .tup b => fail
  | .tup (a :: as), .tup b => newT (a :: as ++ b)
  | _, _ => fail
theorem o_add : OpR X (binaryOp .Add) (rM X.K pyAdd) := fun pins s σ H x y v u Q I rx ry h => by
  obtain ⟨ι, μ, a, b, d, μ', R, ia, ib, e, q⟩ := h
  unfold pyAdd at e
  split at e
  · cases e
    cases is_int ia
    cases is_int ib
    exact op_add pins s σ H _ _ v u Q I rx ry ⟨_, _, rfl, rfl, q ι H R.ext0 R _ (ofI _)⟩
  · obtain ⟨_, μ1, e1, e2⟩ := bnd_some e
    obtain ⟨hl, rfl⟩ := lim_some e1
    cases e2
    cases is_str ia
    cases is_str ib
    exact op_add_str pins s σ H _ _ v u Q I rx ry ⟨_, _, rfl, rfl, hl, q ι H R.ext0 R _ (ofS _)⟩
  · unfold Is at ia ib
    obtain ⟨p, vs, rfl, h1, hn, h2⟩ := ia
    obtain ⟨p', vs', rfl, h1', hn', h2'⟩ := ib
    obtain ⟨hl, w⟩ := newL_ok R (h2.append h2') e q
    exact op_cat pins s σ H _ _ v u Q I rx ry ⟨p, p', vs, vs', rfl, rfl, h1, h1', by rw [← List.length_append]; exact hl, w⟩
  · cases e
  · rename_i a as bs
    unfold Is at ia ib
    obtain ⟨p, vs, rfl, h1, h2⟩ := ia
    obtain ⟨p', vs', rfl, h1', h2'⟩ := ib
    obtain ⟨hl, w⟩ := newT_ok R (h2.append h2') e q
    refine op_catT pins s σ H _ _ v u Q I rx ry ⟨p, p', vs, vs', rfl, rfl, h1, h1', fun z => ?_, by rw [← List.length_append]; exact hl, fun z => ?_, fun _ => w⟩
    · have := h2.length
      rw [z] at this; cases this
    · subst z
      have hb : bs = [] := by
        have := h2'.length
        cases bs with
        | nil => rfl
        | cons _ _ => cases this
      subst hb
      obtain ⟨_, μ1, e1, e2⟩ := bnd_some e
      obtain ⟨hl, rfl⟩ := lim_some e1
      cases e2
      exact q ι H R.ext0 R _ (by unfold Is; exact ⟨p, vs, rfl, h1, by rw [List.append_nil]; exact h2⟩)
  · cases e
noncomputable def pyMul : D → D → M D
  | .int i, .int j => fun μ => if (-(2 ^ 64) < i ∧ i < 2 ^ 64) ∨ (-(2 ^ 64) < j ∧ j < 2 ^ 64) then some (.int (i * j), μ) else none
  | .lst a, .int j => fun μ => if -(2 ^ 63) ≤ j ∧ j < 2 ^ 63 ∧ a.length * j.toNat ≤ sizeLine then newL (List.replicate j.toNat a).flatten μ else none
  | _, _ => fail
theorem IsL.rep {K : PySem.W.Frag} {ι : Nat → Addr} {k : Nat} {H : Hp} {ds : List D} {vs : List V} (h : IsL K ι k H ds vs) : ∀ n : Nat, IsL K ι k H (List.replicate n ds).flatten (List.replicate n vs).flatten
  | 0 => .nil
  | n + 1 => by
    rw [List.replicate_succ, List.replicate_succ, List.flatten_cons, List.flatten_cons]
    exact h.append (IsL.rep h n)
theorem o_mul : OpR X (binaryOp .Mult) (rM X.K pyMul) := fun pins s σ H x y v u Q I rx ry h => by
  obtain ⟨ι, μ, a, b, d, μ', R, ia, ib, e, q⟩ := h
  unfold pyMul at e
  split at e
  · split at e
    · rename_i hc
      cases e
      cases is_int ia
      cases is_int ib
      exact op_mul pins s σ H _ _ v u Q I rx ry ⟨_, _, rfl, rfl, hc, q ι H R.ext0 R _ (ofI _)⟩
    · cases e
  · split at e
    · rename_i hc
      cases is_int ib
      unfold Is at ia
      obtain ⟨p, vs, rfl, h1, hn, h2⟩ := ia
      obtain ⟨hl, w⟩ := newL_ok R (h2.rep _) e q
      exact op_rep pins s σ H _ _ v u Q I rx ry ⟨p, _, vs, rfl, rfl, h1, hc.1, hc.2.1, by rw [h2.length]; exact hc.2.2, w⟩
    · cases e
  · cases e
mutual
noncomputable def toP (μ : Mh) : D → Option PyData
  | .non => some .none
  | .bl b => some (.bool b)
  | .int i => some (.int i)
  | .str x => some (.str x)
  | .ty _ => none
  | .scr ns => some (.list (ns.map PyData.int))
  | .tup ds => (toPs μ ds).map PyData.tuple
  | .lst ds => (toPs μ ds).map PyData.list
  | .ref _ => none
noncomputable def toPs (μ : Mh) : List D → Option (List PyData)
  | [] => some []
  | d :: ds => (toP μ d).bind fun p => (toPs μ ds).map (p :: ·)
end
noncomputable def toP1 (μ : Mh) : D → Option PyData
  | .ref n => match μ[n]? with
    | some (.lst ds) => (toPs μ ds).map PyData.list
    | _ => none
  | d => toP μ d
section
variable {K : PySem.W.Frag} {ι : Nat → Addr} {μ : Mh} {H : Hp} {k : Nat}
theorem datInts : ∀ (ns : List Int), DatVs K H (ns.map V.int) (ns.map PyData.int)
  | [] => .nil
  | n :: r => .cons (.int n) (datInts r)
mutual
theorem Is.dat : ∀ {d : D} {v : V} {p : PyData}, Is K ι k H d v → toP μ d = some p → DatV K H v p
  | .non, _, _, h, e => by unfold Is at h; unfold toP at e; cases e; subst h; exact .non
  | .bl b, _, _, h, e => by unfold Is at h; unfold toP at e; cases e; subst h; exact .bl b
  | .int b, _, _, h, e => by unfold Is at h; unfold toP at e; cases e; subst h; exact .int b
  | .str b, _, _, h, e => by unfold Is at h; unfold toP at e; cases e; subst h; exact .str b
  | .ty b, _, _, h, e => by unfold toP at e; cases e
  | .scr ns, _, _, h, e => by
    unfold Is at h; unfold toP at e; cases e
    obtain ⟨p, rfl, h⟩ := h
    exact .lst h.sq (datInts ns)
  | .tup ds, _, _, h, e => by
    unfold Is at h; unfold toP at e
    obtain ⟨p, vs, rfl, h1, h2⟩ := h
    cases q : toPs μ ds with
    | none => rw [q] at e; cases e
    | some ps => rw [q] at e; cases e; exact .tup h1 (IsL.dat h2 q)
  | .lst ds, _, _, h, e => by
    unfold Is at h; unfold toP at e
    obtain ⟨p, vs, rfl, h1, _, h2⟩ := h
    cases q : toPs μ ds with
    | none => rw [q] at e; cases e
    | some ps => rw [q] at e; cases e; exact .lst (SqL.of h1) (IsL.dat h2 q)
  | .ref n, _, _, h, e => by unfold toP at e; cases e
theorem IsL.dat : ∀ {ds : List D} {vs : List V} {ps : List PyData}, IsL K ι k H ds vs → toPs μ ds = some ps → DatVs K H vs ps
  | [], _, _, h, e => by unfold IsL at h; unfold toPs at e; cases e; subst h; exact .nil
  | d :: ds, _, _, h, e => by
    unfold IsL at h; unfold toPs at e
    obtain ⟨v, vs', rfl, h1, h2⟩ := h
    cases q : toP μ d with
    | none => rw [q] at e; cases e
    | some p =>
      rw [q] at e
      cases q2 : toPs μ ds with
      | none => rw [q2] at e; cases e
      | some ps => rw [q2] at e; cases e; exact .cons (Is.dat h1 q) (IsL.dat h2 q2)
end
theorem dat1 (R : RelH K ι μ H) {d : D} {v : V} {p : PyData} (h : Is K ι μ.length H d v) (e : toP1 μ d = some p) : DatV K H v p := by
  cases d with
  | ref n =>
    unfold Is at h
    obtain ⟨_, rfl⟩ := h
    have e' : (match μ[n]? with | some (.lst ds) => (toPs μ ds).map PyData.list | _ => none) = some p := e
    split at e'
    · rename_i ds hq
      obtain ⟨u, h1, vs, rfl, h2⟩ := R.obj n _ hq
      cases q : toPs μ ds with
      | none => rw [q] at e'; cases e'
      | some ps => rw [q] at e'; cases e'; exact .lst (SqL.of h1) (IsL.dat h2 q)
    · cases e'
  | _ => exact Is.dat (μ := μ) h e
end
noncomputable def pyEqB (neg : Bool) (a b : D) : M D := fun μ => match toP1 μ a, toP1 μ b with
  | some p, some q => if SeqAt.shaped p = true ∧ SeqAt.shaped q = true then some (.bl (if neg then !PyData.eqv p q else PyData.eqv p q), μ) else none
  | _, _ => none
noncomputable def pyEq : D → D → M D := pyEqB false
noncomputable def pyNe : D → D → M D := pyEqB true
theorem pyEqB_some {neg : Bool} {a b d : D} {μ μ' : Mh} (e : pyEqB neg a b μ = some (d, μ')) : ∃ p q, toP1 μ a = some p ∧ toP1 μ b = some q ∧ SeqAt.shaped p = true ∧ SeqAt.shaped q = true ∧ d = .bl (if neg then !PyData.eqv p q else PyData.eqv p q) ∧ μ' = μ := by
  unfold pyEqB at e
  split at e
  · rename_i p q e1 e2
    split at e
    · rename_i h
      cases e
      exact ⟨p, q, e1, e2, h.1, h.2, rfl, rfl⟩
    · cases e
  · cases e
theorem o_eq {k : Nat} (hr : Room k X.A) : OpR X (compareOp .Eq) (rM X.K pyEq) := OpR.wk (op_eqP (room64 hr)) fun x y H Q h => by
  obtain ⟨ι, μ, a, b, d, μ', R, ia, ib, e, q⟩ := h
  obtain ⟨p, p', e1, e2, s1, s2, rfl, rfl⟩ := pyEqB_some e
  exact ⟨p, p', dat1 R ia e1, dat1 R ib e2, s1, s2, q ι H R.ext0 R _ (ofB _)⟩
theorem o_ne {k : Nat} (hr : Room k X.A) : OpR X (compareOp .NotEq) (rM X.K pyNe) := OpR.wk (op_neP (room64 hr)) fun x y H Q h => by
  obtain ⟨ι, μ, a, b, d, μ', R, ia, ib, e, q⟩ := h
  obtain ⟨p, p', e1, e2, s1, s2, rfl, rfl⟩ := pyEqB_some e
  exact ⟨p, p', dat1 R ia e1, dat1 R ib e2, s1, s2, q ι H R.ext0 R _ (ofB _)⟩
noncomputable def isN : D → Bool
  | .non => true
  | _ => false
noncomputable def pyIs (neg : Bool) : D → D → M D
  | a, .non => ret (.bl (if neg then !isN a else isN a))
  | _, _ => fail
theorem isN_dec {K : PySem.W.Frag} {ι : Nat → Addr} {k : Nat} {H : Hp} {a : D} {x : V} (h : Is K ι k H a x) : decide (x = V.non) = isN a := by
  cases a with
  | non => unfold Is at h; subst h; rfl
  | bl b => unfold Is at h; subst h; rfl
  | int b => unfold Is at h; subst h; rfl
  | str b => unfold Is at h; subst h; rfl
  | ty b => unfold Is at h; subst h; rfl
  | scr ns => unfold Is at h; obtain ⟨p, rfl, _⟩ := h; rfl
  | tup ns => unfold Is at h; obtain ⟨p, o, rfl, _⟩ := h; rfl
  | lst ns => unfold Is at h; obtain ⟨p, o, rfl, _⟩ := h; rfl
  | ref ns => unfold Is at h; obtain ⟨_, rfl⟩ := h; rfl
theorem o_is : OpR X (compareOp .Is) (rM X.K (pyIs false)) := OpR.wk op_isN fun x y H Q h => by
  obtain ⟨ι, μ, a, b, d, μ', R, ia, ib, e, q⟩ := h
  cases b with
  | non => cases e; exact ⟨is_non ib, by rw [isN_dec ia]; exact q ι H R.ext0 R _ (ofB _)⟩
  | _ => cases e
theorem o_isnot : OpR X (compareOp .IsNot) (rM X.K (pyIs true)) := OpR.wk op_notN fun x y H Q h => by
  obtain ⟨ι, μ, a, b, d, μ', R, ia, ib, e, q⟩ := h
  cases b with
  | non => cases e; exact ⟨is_non ib, by rw [isN_dec ia]; exact q ι H R.ext0 R _ (ofB _)⟩
  | _ => cases e
noncomputable def flatD : D → Option V
  | .non => some .non
  | .bl b => some (.bl b)
  | .int i => some (.int i)
  | .str x => some (.str x)
  | _ => none
noncomputable def flatDs : List D → Option (List V)
  | [] => some []
  | d :: ds => (flatD d).bind fun v => (flatDs ds).map (v :: ·)
section
variable {K : PySem.W.Frag} {ι : Nat → Addr} {H : Hp} {k : Nat}
theorem flatD_is {d : D} {v x : V} (h : Is K ι k H d x) (e : flatD d = some v) : x = v ∧ flatV v = true := by
  cases d with
  | non => cases e; unfold Is at h; exact ⟨h, rfl⟩
  | bl b => cases e; unfold Is at h; exact ⟨h, rfl⟩
  | int b => cases e; unfold Is at h; exact ⟨h, rfl⟩
  | str b => cases e; unfold Is at h; exact ⟨h, rfl⟩
  | _ => cases e
theorem flatDs_is : ∀ {ds : List D} {vs xs : List V}, IsL K ι k H ds xs → flatDs ds = some vs → xs = vs ∧ vs.all flatV = true
  | [], _, _, h, e => by cases e; unfold IsL at h; exact ⟨h, rfl⟩
  | d :: ds, _, _, h, e => by
    unfold IsL at h
    obtain ⟨v, vs', rfl, h1, h2⟩ := h
    unfold flatDs at e
    cases q : flatD d with
    | none => rw [q] at e; cases e
    | some w =>
      rw [q] at e
      cases q2 : flatDs ds with
      | none => rw [q2] at e; cases e
      | some ws =>
        rw [q2] at e; cases e
        obtain ⟨rfl, f1⟩ := flatD_is h1 q
        obtain ⟨rfl, f2⟩ := flatDs_is h2 q2
        exact ⟨rfl, by rw [List.all_cons, f1, f2]; rfl⟩
end
noncomputable def asSeq1 : D → M (List D)
  | .tup ds => ret ds
  | d => asList d
theorem asSeq1_sq {K : PySem.W.Frag} {ι : Nat → Addr} {μ μ' : Mh} {H : Hp} {d : D} {v : V} {ds : List D} (R : RelH K ι μ H) (i : Is K ι μ.length H d v) (e : asSeq1 d μ = some (ds, μ')) : μ' = μ ∧ ∃ p vs, v = .ref p ∧ (SqL K H p vs ∨ SqT K H p vs) ∧ IsL K ι μ.length H ds vs := by
  cases d with
  | tup es =>
    cases e
    unfold Is at i
    obtain ⟨p, vs, rfl, h1, h2⟩ := i
    exact ⟨rfl, p, vs, rfl, .inr h1, h2⟩
  | lst es => obtain ⟨h, p, vs, a, b, c⟩ := asList_sq R i e; exact ⟨h, p, vs, a, .inl b, c⟩
  | scr es => obtain ⟨h, p, vs, a, b, c⟩ := asList_sq R i e; exact ⟨h, p, vs, a, .inl b, c⟩
  | ref es => obtain ⟨h, p, vs, a, b, c⟩ := asList_sq R i e; exact ⟨h, p, vs, a, .inl b, c⟩
  | _ => cases e
noncomputable def inSeq (neg : Bool) (a b : D) : M D := bnd (asSeq1 b) fun ds => fun μ => match flatD a, flatDs ds with
  | some x, some xs => some (.bl (if neg then !inV x xs else inV x xs), μ)
  | _, _ => none
noncomputable def pyIn (neg : Bool) : D → D → M D
  | .str i, .str j => ret (.bl (if neg then !(!(Builtin.Str.occurrences j i 0 j.length 1).isEmpty) else !(Builtin.Str.occurrences j i 0 j.length 1).isEmpty))
  | a, b => inSeq neg a b
theorem rIn_of {K : PySem.W.Frag} {neg : Bool} {x y : V} {H : Hp} {Q : VK} {ι : Nat → Addr} {μ μ' : Mh} {a b d : D} (R : RelH K ι μ H) (ia : Is K ι μ.length H a x) (ib : Is K ι μ.length H b y) (e : inSeq neg a b μ = some (d, μ')) (q : Aft K ι μ H μ' fun ι' H' => ∀ v, Is K ι' μ'.length H' d v → Q v H') : rIn K neg x y H Q := by
  obtain ⟨ds, μ1, e1, e2⟩ := bnd_some e
  obtain ⟨hm, p, vs, rfl, h1, h2⟩ := asSeq1_sq R ib e1
  subst hm
  split at e2
  · rename_i w ws q1 q2
    cases e2
    obtain ⟨rfl, f1⟩ := flatD_is ia q1
    obtain ⟨rfl, f2⟩ := flatDs_is h2 q2
    exact ⟨p, _, rfl, h1, f1, f2, q ι H R.ext0 R _ (ofB _)⟩
  · cases e2
theorem o_in : OpR X (compareOp .In) (rM X.K (pyIn false)) := fun pins s σ H x y v u Q I rx ry h => by
  obtain ⟨ι, μ, a, b, d, μ', R, ia, ib, e, q⟩ := h
  unfold pyIn at e
  split at e
  · cases e
    cases is_str ia
    cases is_str ib
    exact op_in_str pins s σ H _ _ v u Q I rx ry ⟨_, _, rfl, rfl, q ι H R.ext0 R _ (ofB _)⟩
  · exact op_in_seq pins s σ H _ _ v u Q I rx ry (rIn_of R ia ib e q)
theorem o_notin : OpR X (compareOp .NotIn) (rM X.K (pyIn true)) := fun pins s σ H x y v u Q I rx ry h => by
  obtain ⟨ι, μ, a, b, d, μ', R, ia, ib, e, q⟩ := h
  unfold pyIn at e
  split at e
  · cases e
    cases is_str ia
    cases is_str ib
    exact op_notin_str pins s σ H _ _ v u Q I rx ry ⟨_, _, rfl, rfl, q ι H R.ext0 R _ (ofB _)⟩
  · exact op_notIn_seq pins s σ H _ _ v u Q I rx ry (rIn_of R ia ib e q)
noncomputable def ixD (ds : List D) (i : Int) : M D := fun μ => (atI ds i).map fun d => (d, μ)
noncomputable def pyIx : D → D → M D
  | .str z, .int i => fun μ => if z.length ≤ sizeLine then (atI z.cps.toList i).map fun c => (.str ⟨#[c]⟩, μ) else none
  | a, .int i => bnd (asSeq1 a) fun ds => ixD ds i
  | _, _ => fail
theorem o_ix : IxR X (rM X.K pyIx) := fun va sl pins s σ H x y v u Q I rx ry h hsl => by
  obtain ⟨ι, μ, a, b, d, μ', R, ia, ib, e, q⟩ := h
  unfold pyIx at e
  split at e
  · split at e
    · rename_i z i hl
      cases is_str ia
      cases is_int ib
      cases qq : atI z.cps.toList i with
      | none => rw [qq] at e; cases e
      | some c =>
        rw [qq] at e; cases e
        exact ix_seq va sl pins s σ H _ _ v u Q I rx ry (.inr (.inr ⟨z, i, c, rfl, rfl, hl, qq, q ι H R.ext0 R _ (ofS _)⟩)) hsl
    · cases e
  · cases is_int ib
    obtain ⟨ds, μ1, e1, e2⟩ := bnd_some e
    obtain ⟨hm, p, vs, rfl, h1, h2⟩ := asSeq1_sq R ia e1
    subst hm
    rename_i i _
    unfold ixD at e2
    cases qq : atI ds i with
    | none => rw [qq] at e2; cases e2
    | some c =>
      rw [qq] at e2; cases e2
      obtain ⟨w, ew, iw⟩ := atI_is h2 qq
      rcases h1 with h1 | h1
      · exact ix_seq va sl pins s σ H _ _ v u Q I rx ry (.inl ⟨p, vs, i, w, rfl, rfl, h1, ew, q ι H R.ext0 R _ iw⟩) hsl
      · exact ix_seq va sl pins s σ H _ _ v u Q I rx ry (.inr (.inl ⟨p, vs, i, w, rfl, rfl, h1, ew, q ι H R.ext0 R _ iw⟩)) hsl
  · cases e
noncomputable def lenF : List D → M D
  | [.str z] => fun μ => if z.length ≤ sizeLine then some (.int z.length, μ) else none
  | [.ref n] => fun μ => match μ[n]? with
    | some (.lst ds) => some (.int ds.length, μ)
    | _ => none
  | [d] => bnd (asSeq1 d) fun ds => ret (.int ds.length)
  | _ => fail
theorem c_len : CallR X (.builtin "len") (rMA X.K lenF) := fun pins s σ H xs us Q I r h => by
  obtain ⟨ι, μ, as, d, μ', R, ia, e, q⟩ := h
  refine call_len pins s σ H xs us Q I r ?_
  unfold lenF at e
  split at e
  · rename_i z
    obtain ⟨v, rfl, i1⟩ := isL1 ia
    split at e
    · rename_i hl
      cases e
      cases is_str i1
      exact ⟨_, _, rfl, ⟨hl, rfl⟩, q ι H R.ext0 R _ (ofI _)⟩
    · cases e
  · rename_i n
    obtain ⟨v, rfl, i1⟩ := isL1 ia
    unfold Is at i1
    obtain ⟨_, rfl⟩ := i1
    split at e
    · rename_i ds hq
      cases e
      obtain ⟨u, h1, vs, rfl, h2⟩ := R.obj n _ hq
      exact ⟨_, _, rfl, .inl ⟨vs, SqL.of h1, rfl⟩, by rw [h2.length]; exact q ι H R.ext0 R _ (ofI _)⟩
    · cases e
  · obtain ⟨v, rfl, i1⟩ := isL1 ia
    obtain ⟨ds, μ1, e1, e2⟩ := bnd_some e
    obtain ⟨hm, p, vs, rfl, h1, h2⟩ := asSeq1_sq R i1 e1
    subst hm
    cases e2
    rw [← h2.length] at q
    rcases h1 with h1 | h1
    · exact ⟨_, _, rfl, .inl ⟨vs, h1, rfl⟩, q ι H R.ext0 R _ (ofI _)⟩
    · exact ⟨_, _, rfl, .inr ⟨vs, h1, rfl⟩, q ι H R.ext0 R _ (ofI _)⟩
  · cases e
noncomputable def cutD (ds : List D) (lo hi : Option Int) : List D := (ds.drop (HT.sIx ds.length 0 lo)).take (HT.sIx ds.length ds.length hi - HT.sIx ds.length 0 lo)
noncomputable def pySl (lo hi : Option Int) : D → M D
  | .tup ds => if HT.sIx ds.length 0 lo = 0 ∧ HT.sIx ds.length ds.length hi = ds.length then fail else ret (.tup (cutD ds lo hi))
  | d => bnd (asList d) fun ds => ret (.lst (cutD ds lo hi))
noncomputable def rMS (K : PySem.W.Frag) : V → Option Int → Option Int → Hp → VK → Prop := fun x lo hi H Q => ∃ ι μ a d μ', RelH K ι μ H ∧ Is K ι μ.length H a x ∧ pySl lo hi a μ = some (d, μ') ∧
  Aft K ι μ H μ' fun ι' H' => ∀ v, Is K ι' μ'.length H' d v → Q v H'
theorem laidL {K : PySem.W.Frag} {ι : Nat → Addr} {μ : Mh} {H : Hp} {ds : List D} {vs : List V} {Q : VK} (R : RelH K ι μ H) (i : IsL K ι μ.length H ds vs) (q : Aft K ι μ H μ fun ι' H' => ∀ v, Is K ι' μ.length H' (.lst ds) v → Q v H') (p : Addr) (hp : H p = none) : Q (.ref p) (upd H p (.lst vs)) := by
  obtain ⟨E1, R1⟩ := R.laid (.lst vs) hp
  have ho : ∀ n, n < μ.length → ι n ≠ p := fun n hn z => by
    obtain ⟨o, e, _⟩ := R.muts n hn
    rw [z, hp] at e; cases e
  exact q ι _ E1 R1 _ (by unfold Is; exact ⟨p, vs, rfl, upd_same, ho, i.ext E1⟩)
theorem laidT {K : PySem.W.Frag} {ι : Nat → Addr} {μ : Mh} {H : Hp} {ds : List D} {vs : List V} {Q : VK} (R : RelH K ι μ H) (i : IsL K ι μ.length H ds vs) (q : Aft K ι μ H μ fun ι' H' => ∀ v, Is K ι' μ.length H' (.tup ds) v → Q v H') (p : Addr) (hp : H p = none) : Q (.ref p) (upd H p (.tup vs)) := by
  obtain ⟨E1, R1⟩ := R.laid (.tup vs) hp
  exact q ι _ E1 R1 _ (by unfold Is; exact ⟨p, vs, rfl, SqT.of upd_same, i.ext E1⟩)
theorem o_sl : SlR X (rMS X.K) := fun pins s σ H x v vl vu lo hi sl Q I rx hs pl pu h => by
  obtain ⟨ι, μ, a, d, μ', R, ia, e, q⟩ := h
  refine (SlR.or sl_list sl_tup) pins s σ H x v vl vu lo hi sl Q I rx hs pl pu ?_
  unfold pySl at e
  split at e
  · rename_i ds
    unfold Is at ia
    obtain ⟨p, vs, rfl, h1, h2⟩ := ia
    split at e
    · cases e
    · rename_i hc
      cases e
      exact .inr ⟨p, vs, rfl, h1, by rw [h2.length]; exact hc, fun p hp => laidT R (cut_is h2) q p hp⟩
  · obtain ⟨ds, μ1, e1, e2⟩ := bnd_some e
    obtain ⟨hm, p, vs, rfl, h1, h2⟩ := asList_sq R ia e1
    subst hm
    cases e2
    exact .inl ⟨p, vs, rfl, h1, fun p hp => laidL R (cut_is h2) q p hp⟩
noncomputable def mSl (me : Sl → M D) (ml mh : Sl → M (Option Int)) : Sl → M D := fun τ => bnd (me τ) fun x => bnd (ml τ) fun l => bnd (mh τ) fun h => pySl l h x
noncomputable def noPart : Sl → M (Option Int) := fun _ => ret none
noncomputable def asI : D → M (Option Int)
  | .int i => ret (some i)
  | _ => fail
noncomputable def mPart (m : Sl → M D) : Sl → M (Option Int) := fun τ => bnd (m τ) asI
noncomputable def tPt (K : PySem.W.Frag) (m : Sl → M (Option Int)) : TO := fun σ H Q => ∃ ι μ τ b μ', RelH K ι μ H ∧ RelS K ι μ.length H τ σ ∧ m τ μ = some (b, μ') ∧ Aft K ι μ H μ' fun _ H' => Q b H'
structure RO (X : Cx) (e : Option Expr) (m : Sl → M (Option Int)) : Prop where
  pe : PO X e (tPt X.K m)
theorem PO.wk {e : Option Expr} {t t' : TO} (h : PO X e t) (w : ∀ σ H Q, t' σ H Q → t σ H Q) : PO X e t' := fun pins s σ H Q I q => h pins s σ H Q I (w σ H Q q)
theorem RO.wk {e : Option Expr} {m : Sl → M (Option Int)} {t : TO} (h : PO X e t) (w : ∀ σ H Q, tPt X.K m σ H Q → t σ H Q) : RO X e m := ⟨PO.wk h w⟩
theorem ro_none : RO X none noPart := RO.wk po_none fun σ H Q h => by
  obtain ⟨ι, μ, τ, b, μ', R, S, e, q⟩ := h
  cases e
  exact q ι H R.ext0 R
theorem ro_some {e : Expr} {m : Sl → M D} (h : RE X e m) : RO X (some e) (mPart m) := RO.wk (po_some h.pe) fun σ H Q h => by
  obtain ⟨ι, μ, τ, b, μ', R, S, e, q⟩ := h
  obtain ⟨x, μ1, e1, e⟩ := bnd_some e
  refine ⟨ι, μ, τ, x, μ1, R, S, e1, fun ι1 H1 E1 R1 v i1 => ?_⟩
  cases x with
  | int i => cases e; exact ⟨i, is_int i1, q ι1 H1 E1 R1⟩
  | _ => cases e
theorem re_sl {e : Expr} {lo hi : Option Expr} {me : Sl → M D} {ml mh : Sl → M (Option Int)} {pos p2 : Pos} (he : RE X e me) (hl : RO X lo ml) (hh : RO X hi mh) : RE X (.Subscript e (.Slice lo hi none p2) pos) (mSl me ml mh) := RE.wk (pe_slice o_sl he.pe hl.pe hh.pe) fun σ H Q h => by
  obtain ⟨ι, μ, τ, z, μ', R, S, e, q⟩ := h
  obtain ⟨x, μ1, e1, e⟩ := bnd_some e
  obtain ⟨l, μ2, e2, e⟩ := bnd_some e
  obtain ⟨u, μ3, e3, e⟩ := bnd_some e
  refine ⟨ι, μ, τ, x, μ1, R, S, e1, fun ι1 H1 E1 R1 v i1 => ⟨ι1, μ1, τ, l, μ2, R1, S.ext E1, e2, fun ι2 H2 E2 R2 => ⟨ι2, μ2, τ, u, μ3, R2, S.ext (E1.trans E2), e3, fun ι3 H3 E3 R3 => ?_⟩⟩⟩
  have E23 := E2.trans E3
  exact ⟨ι3, μ3, x, z, μ', R3, i1.ext E23, e, fun ι4 H4 E4 R4 => q ι4 H4 ((E1.trans E23).trans E4) R4⟩
noncomputable def tyD (μ : Mh) : D → Option String
  | .non => some "NoneType"
  | .bl _ => some "bool"
  | .int _ => some "int"
  | .str _ => some "str"
  | .tup _ => some "tuple"
  | .lst _ => some "list"
  | .scr _ => none
  | .ref n => match μ[n]? with
    | some (.lst _) => some "list"
    | some (.dK _) => some "dict"
    | none => none
  | .ty _ => none
noncomputable def isSub (t T : String) : Option Bool :=
  if t ∈ ["NoneType", "bool", "int", "str", "tuple", "list", "dict"] ∧ T ∈ ["bool", "int", "str", "tuple", "list", "dict"] then some (t == T || (t == "bool" && T == "int")) else none
theorem kit_all {K : PySem.W.Frag} {t T : String} {b : Bool} (h : isSub t T = some b) : PySem.W.kitOne K (.type t) (.type T) = some b := by
  unfold isSub at h
  split at h
  · rename_i hm
    obtain ⟨h1, h2⟩ := hm
    simp only [List.mem_cons, List.not_mem_nil, or_false] at h1 h2
    rcases h1 with rfl | rfl | rfl | rfl | rfl | rfl | rfl <;> rcases h2 with rfl | rfl | rfl | rfl | rfl | rfl <;> (cases h; kernel_rfl)
  · cases h
noncomputable def instF : List D → M D
  | [a, .ty T] => fun μ => match tyD μ a with
    | some t => (isSub t T).map fun b => (.bl b, μ)
    | none => none
  | _ => fail
theorem c_inst : CallR X (.builtin "isinstance") (rMA X.K instF) := fun pins s σ H xs us Q I r h => by
  obtain ⟨ι, μ, as, d, μ', R, ia, e, q⟩ := h
  unfold instF at e
  split at e
  · rename_i a T
    obtain ⟨v, v', rfl, i1, i2⟩ := isL2 ia
    cases is_ty i2
    split at e
    · rename_i t ht
      cases hk : isSub t T with
      | none => rw [hk] at e; cases e
      | some b =>
        rw [hk] at e; cases e
        have kit := kit_all (K := X.K) hk
        have fin := q ι H R.ext0 R _ (ofB b)
        have byTy : TyOf X.K H v (.type t) → wpAny (model X.prog X.w) X.A (call (.builtin "isinstance") us) (EP X pins σ Q) X.xe s := fun ty =>
          call_isinst pins s σ H _ us Q I r ⟨v, T, _, b, rfl, ty, kit, fin⟩
        cases a with
        | non => cases ht; cases is_non i1; exact byTy .non
        | bl x => cases ht; cases is_bl i1; exact byTy (.bl x)
        | int x => cases ht; cases is_int i1; exact byTy (.int x)
        | str x => cases ht; cases is_str i1; exact byTy (.str x)
        | ty n => cases ht
        | lst ds => cases ht; unfold Is at i1; obtain ⟨p, vs, rfl, h1, _⟩ := i1; exact byTy (.lst h1)
        | scr ns => cases ht
        | ref n =>
          unfold Is at i1
          obtain ⟨_, rfl⟩ := i1
          have ht : (match μ[n]? with | some (.lst _) => some "list" | some (.dK _) => some "dict" | none => none) = some t := ht
          split at ht
          · rename_i ds hq; cases ht; obtain ⟨u, h1, vs, rfl, h2⟩ := R.obj n _ hq; exact byTy (.lst h1)
          · rename_i ds hq; cases ht; obtain ⟨u, h1, vs, rfl, h2⟩ := R.obj n _ hq; exact byTy (.dK h1)
          · cases ht
        | tup ds =>
          cases ht
          unfold Is at i1
          obtain ⟨p, vs, rfl, h1, h2⟩ := i1
          obtain ⟨its, _, ⟨o, g1, g2, _⟩, _⟩ := I.tuple h1
          obtain ⟨u1, u2, rfl, r1, r2⟩ := Vals.two r
          cases r1
          cases r2
          exact PySem.W.kia_one PySem.W.kitx_tuple I.kIn ⟨o, g1, g2⟩ kit (fun z => nomatch z) fun tk => ⟨.bl b, H, I.tok _, rfl, fin⟩
    · cases e
  · cases e
noncomputable def intF : List D → M D
  | [.int i] => ret (.int i)
  | [.bl b] => ret (.int (if b then 1 else 0))
  | _ => fail
theorem c_int : CallR X (.type "int") (rMA X.K intF) := fun pins s σ H xs us Q I r h => by
  obtain ⟨ι, μ, as, d, μ', R, ia, e, q⟩ := h
  refine call_int1 pins s σ H xs us Q I r ?_
  unfold intF at e
  split at e
  · obtain ⟨v, rfl, i1⟩ := isL1 ia; cases e; cases is_int i1; exact .inl ⟨_, rfl, q ι H R.ext0 R _ (ofI _)⟩
  · obtain ⟨v, rfl, i1⟩ := isL1 ia; cases e; cases is_bl i1; exact .inr ⟨_, rfl, q ι H R.ext0 R _ (ofI _)⟩
  · cases e
noncomputable def maxF : List D → M D
  | [.int i, .int j] => ret (.int (if j > i then j else i))
  | _ => fail
noncomputable def minF : List D → M D
  | [.int i, .int j] => ret (.int (if j < i then j else i))
  | _ => fail
theorem c_max (hc : X.calm = true) : CallR X (.builtin "max") (rMA X.K maxF) := fun pins s σ H xs us Q I r h => by
  obtain ⟨ι, μ, as, d, μ', R, ia, e, q⟩ := h
  refine call_max2 hc pins s σ H xs us Q I r ?_
  unfold maxF at e
  split at e
  · obtain ⟨v, w, rfl, i1, i2⟩ := isL2 ia; cases e; cases is_int i1; cases is_int i2; exact ⟨_, _, rfl, q ι H R.ext0 R _ (ofI _)⟩
  · cases e
theorem c_min (hc : X.calm = true) : CallR X (.builtin "min") (rMA X.K minF) := fun pins s σ H xs us Q I r h => by
  obtain ⟨ι, μ, as, d, μ', R, ia, e, q⟩ := h
  refine call_min2 hc pins s σ H xs us Q I r ?_
  unfold minF at e
  split at e
  · obtain ⟨v, w, rfl, i1, i2⟩ := isL2 ia; cases e; cases is_int i1; cases is_int i2; exact ⟨_, _, rfl, q ι H R.ext0 R _ (ofI _)⟩
  · cases e
noncomputable def tupleF : List D → M D
  | [.tup ds] => ret (.tup ds)
  | [d] => bnd (asList d) fun ds => ret (.tup ds)
  | _ => fail
theorem c_tuple : CallR X (.type "tuple") (rMA X.K tupleF) := fun pins s σ H xs us Q I r h => by
  obtain ⟨ι, μ, as, d, μ', R, ia, e, q⟩ := h
  unfold tupleF at e
  split at e
  · obtain ⟨v, rfl, i1⟩ := isL1 ia
    cases e
    have i2 := i1
    unfold Is at i1
    obtain ⟨p, vs, rfl, h1, h2⟩ := i1
    exact call_tupleT pins s σ H _ us Q I r ⟨p, vs, rfl, h1, q ι H R.ext0 R _ i2⟩
  · obtain ⟨v, rfl, i1⟩ := isL1 ia
    obtain ⟨ds, μ1, e1, e2⟩ := bnd_some e
    obtain ⟨hm, p, vs, rfl, h1, h2⟩ := asList_sq R i1 e1
    subst hm
    cases e2
    obtain ⟨u, rfl, ru⟩ := Vals.one r
    cases ru
    obtain ⟨its, rv, pl, hz⟩ := I.list h1
    refine PySem.call_tuple_list pl.isList (fun h' hk => ?_) (by rw [List.size_toArray, ← rv.length]; exact hz)
    have I1 : Inv X pins σ H { s with heap := h' } := I.kept (t' := s.toks) hk
    have I2 : Inv X pins σ (upd H h'.objs.size (.tup vs)) { s with heap := h'.push { cls := .type "tuple", data := .seq its.toArray } } := I1.laid (t' := s.toks) (o := .tup vs) (fun b ob q => Heap.get?_push_of_some _ q) (Nat.le_refl _) ⟨hz, its, rv, PyProof.Rows.IsTup.new _ _⟩
    exact ⟨.ref h'.objs.size, _, I2, rfl, laidT R h2 q _ (I1.hok.fresh (Nat.le_refl _))⟩
  · cases e
end
end Mi
namespace Mi
open PySem L2
section
variable {X : Cx} {e a b c o i f tg : Expr} {es : List Expr} {pos apos cpos : Pos}
theorem tE_chain {K : PySem.W.Frag} {g g' : D → D → M D} {ma mb mc : Sl → M D} {σ : St} {H : Hp} {Q : VK} (h : tE K (mChain g g' ma mb mc) σ H Q) : tChain (rM K g) (rM K g') (tE K ma) (tE K mb) (tE K mc) σ H Q := by
  obtain ⟨ι, μ, τ, d, μ', R, S, e, q⟩ := h
  obtain ⟨x, μ1, e1, ee1⟩ := bnd_some e
  obtain ⟨y, μ2, e2, ee2⟩ := bnd_some ee1
  obtain ⟨z, μ3, e3, ee3⟩ := bnd_some ee2
  obtain ⟨k, μ4, e4, ee4⟩ := bnd_some ee3
  obtain ⟨hz, hm⟩ := asB_some e4
  subst hm
  subst hz
  refine ⟨ι, μ, τ, x, μ1, R, S, e1, fun ι1 H1 E1 R1 v1 i1 => ⟨ι1, μ1, τ, y, μ2, R1, S.ext E1, e2, fun ι2 H2 E2 R2 v2 i2 => ?_⟩⟩
  refine ⟨ι2, μ2, x, y, _, _, R2, i1.ext E2, i2, e3, fun ι3 H3 E3 R3 v3 i3 => ⟨k, is_bl i3, ?_⟩⟩
  have E13 := (E1.trans E2).trans E3
  cases k with
  | false => cases ee4; exact q ι3 H3 E13 R3 _ (ofB _)
  | true =>
    obtain ⟨w, μ5, e5, ee5⟩ := bnd_some ee4
    exact ⟨ι3, _, τ, w, μ5, R3, S.ext E13, e5, fun ι4 H4 E4 R4 v4 i4 => ⟨ι4, μ5, y, w, d, μ', R4, i2.ext (E3.trans E4), i4, ee5, fun ι5 H5 E5 R5 => q ι5 H5 ((E13.trans E4).trans E5) R5⟩⟩
theorem re_chain {op op' : CmpOp} {g g' : D → D → M D} {ma mb mc : Sl → M D} (ho : OpR X (compareOp op) (rM X.K g)) (ho' : OpR X (compareOp op') (rM X.K g')) (ha : RE X a ma) (hb : RE X b mb) (hc : RE X c mc) (hm : lastMarks [op, op'] [b, c] = false := by with_unfolding_all rfl) :
    RE X (.Compare a [op, op'] [b, c] pos) (mChain g g' ma mb mc) := RE.wk (pe_chain ho ho' ha.pe hb.pe hc.pe hm) fun _ _ _ h => tE_chain h
theorem re_bltn {x : Str} {n : String} (hm : X.mg x = none) (hv : bootBuiltins x = some (.type n)) (hg : Gl X x := by rfl) (hn : x ≠ "__name__" := by decide) (hdb : (x == ("__debug__" : Str)) = false := by decide) : RE X (.Name x pos) (mC (.ty n)) :=
  re_c (t := fun _ _ _ => True) (pe_bltn (v := .ty n) hg hm hv rfl hn hdb) fun _ _ _ => by unfold Is; rfl
noncomputable def guardL (d : D) : M Unit := bnd (asList d) fun _ => ret ()
noncomputable def mMethL (g : D → List D → M D) (mo : Sl → M D) (ma : Sl → M (List D)) : Sl → M D := fun τ => bnd (mo τ) fun x => bnd (guardL x) fun _ => bnd (ma τ) fun xs => g x xs
noncomputable def rMM (K : PySem.W.Frag) (g : D → List D → M D) : V → List V → Hp → VK → Prop := fun x xs H Q => ∃ ι μ a as d μ', RelH K ι μ H ∧ Is K ι μ.length H a x ∧ IsL K ι μ.length H as xs ∧ g a as μ = some (d, μ') ∧
  Aft K ι μ H μ' fun ι' H' => ∀ v, Is K ι' μ'.length H' d v → Q v H'
theorem guardL_some {K : PySem.W.Frag} {ι : Nat → Addr} {μ μ' : Mh} {H : Hp} {d : D} {v : V} {u : Unit} (R : RelH K ι μ H) (i : Is K ι μ.length H d v) (e : guardL d μ = some (u, μ')) : μ' = μ ∧ tyV K "list" v H := by
  obtain ⟨ds, μ1, e1, ee1⟩ := bnd_some e
  cases ee1
  obtain ⟨hm, p, vs, rfl, h1, h2⟩ := asList_sq R i e1
  exact ⟨hm, .inl ⟨rfl, vs, h1⟩⟩
theorem guardL_mu {μ μ' : Mh} {d : D} {u : Unit} (e : guardL d μ = some (u, μ')) : μ' = μ := by
  obtain ⟨ds, μ1, e1, ee1⟩ := bnd_some e
  cases ee1
  cases d with
  | lst _ => cases e1; rfl
  | scr _ => cases e1; rfl
  | ref n =>
    have e1 : (match μ[n]? with | some (.lst ds) => some (ds, μ) | _ => none) = some (ds, μ') := e1
    split at e1
    · cases e1; rfl
    · cases e1
  | _ => cases e1
theorem tE_methL {K : PySem.W.Frag} {g : D → List D → M D} {mo : Sl → M D} {ma : Sl → M (List D)} {σ : St} {H : Hp} {Q : VK} (h : tE K (mMethL g mo ma) σ H Q) : tBM K "list" (rMM K g) (tE K mo) (tL K ma) σ H Q := by
  obtain ⟨ι, μ, τ, d, μ', R, S, e, q⟩ := h
  obtain ⟨x, μ1, e1, ee1⟩ := bnd_some e
  obtain ⟨u, μ2, e2, ee2⟩ := bnd_some ee1
  obtain ⟨as, μ3, e3, ee3⟩ := bnd_some ee2
  have hm := guardL_mu e2
  subst hm
  refine ⟨ι, μ, τ, x, _, R, S, e1, fun ι1 H1 E1 R1 v1 i1 => ⟨(guardL_some R1 i1 e2).2, ?_⟩⟩
  refine ⟨ι1, _, τ, as, μ3, R1, S.ext E1, e3, fun ι2 H2 E2 R2 vs i2 => ?_⟩
  exact ⟨ι2, μ3, x, as, d, μ', R2, i1.ext E2, i2, ee3, fun ι3 H3 E3 R3 => q ι3 H3 ((E1.trans E2).trans E3) R3⟩
theorem re_methL {name : Str} {id : String} {g : D → List D → M D} {mo : Sl → M D} {ma : Sl → M (List D)} (slot : Slot "list" name id) (hty : typeOf (.builtin id) = pure (.type "method_descriptor")) (hm : MtR X id (rMM X.K g)) (ho : RE X o mo) (ha : RA X (e :: es) ma)
    (hbase : attributeBase o name X.env (eval o X.env) = eval o X.env := by rfl)
    (hfew : ((backTo cpos (starEach (e :: es) X.env)).all (fun x => !x.1) && (backToKw cpos (keywordEach [] X.env)).all (fun x => x.1.isSome)
      && decide ((e :: es).length + ([] : List Keyword).length + (if ([] : List Keyword).isEmpty then 0 else 1) < 30)) = true := by rfl)
    (hline : (apos.endLine == cpos.line) = true := by rfl) (hs : starEach (e :: es) X.env = (false, eval e X.env) :: starEach es X.env := by exact star_cons rfl) (hplain : (backTo cpos (starEach es X.env)).any (·.1) = false := by exact star_plain rfl) :
    RE X (.Call (.Attribute o name apos) (e :: es) [] cpos) (mMethL g mo ma) := RE.wk (pe_bm PySem.F.plainAttrs_list slot hty hm ho.pe ha.pe hbase hfew hline hs hplain) fun _ _ _ h => tE_methL h
noncomputable def updL (n : Nat) (k : List D → Option (D × List D)) : M D := fun μ => match μ[n]? with
  | some (.lst ds) => (k ds).map fun r => (r.1, μ.set n (.lst r.2))
  | _ => none
theorem updL_some {n : Nat} {k : List D → Option (D × List D)} {μ μ' : Mh} {d : D} (e : updL n k μ = some (d, μ')) : ∃ ds es, μ[n]? = some (.lst ds) ∧ k ds = some (d, es) ∧ μ' = μ.set n (.lst es) := by
  unfold updL at e
  split at e
  · rename_i ds hq
    cases hk : k ds with
    | none => rw [hk] at e; cases e
    | some r => rw [hk] at e; cases e; exact ⟨ds, r.2, hq, hk, rfl⟩
  · cases e
theorem upd_end {K : PySem.W.Frag} {ι : Nat → Addr} {μ : Mh} {H : Hp} {n : Nat} {d : D} {es : List D} {ws : List V} {v : V} {Q : VK} {ds : List D} (R : RelH K ι μ H) (hn : μ[n]? = some (.lst ds)) (iw : IsL K ι μ.length H es ws) (iv : Is K ι μ.length H d v)
    (q : Aft K ι μ H (μ.set n (.lst es)) fun ι' H' => ∀ v, Is K ι' (μ.set n (.lst es)).length H' d v → Q v H') : Q v (upd H (ι n) (.lst ws)) := by
  have hlt : n < μ.length := (List.getElem?_eq_some_iff.mp hn).1
  obtain ⟨E1, R1⟩ := R.changed (m := .lst es) (o := .lst ws) hlt ⟨ws, rfl, iw⟩
  exact q ι _ E1 R1 v (iv.ext E1)
noncomputable def appF : D → List D → M D
  | .ref n, [d] => updL n fun ds => if ds.length < sizeLine then some (.non, ds ++ [d]) else none
  | _, _ => fail
theorem m_append : MtR X "list.append" (rMM X.K appF) := fun pins s σ H x xs v us Q I rx rs h => by
  obtain ⟨ι, μ, a, as, d, μ', R, ia, ib, e, q⟩ := h
  unfold appF at e
  split at e
  · rename_i n y
    obtain ⟨ds, es, h1, h2, rfl⟩ := updL_some e
    split at h2
    · rename_i hl
      cases h2
      obtain ⟨w, rfl, iw⟩ := isL1 ib
      unfold Is at ia
      obtain ⟨_, rfl⟩ := ia
      obtain ⟨u, g1, vs, rfl, g2⟩ := R.obj n _ h1
      exact mt_append pins s σ H _ _ v us Q I rx rs ⟨_, vs, w, rfl, rfl, g1, by rw [g2.length]; exact hl, upd_end R h1 (g2.append (.one iw)) ofN q⟩
    · cases h2
  · cases e
noncomputable def extF : D → List D → M D
  | .ref n, [.lst zs] => updL n fun ds => if ds.length + zs.length ≤ sizeLine then some (.non, ds ++ zs) else none
  | _, _ => fail
theorem m_extend : MtR X "list.extend" (rMM X.K extF) := fun pins s σ H x xs v us Q I rx rs h => by
  obtain ⟨ι, μ, a, as, d, μ', R, ia, ib, e, q⟩ := h
  unfold extF at e
  split at e
  · rename_i n zs
    obtain ⟨ds, es, h1, h2, rfl⟩ := updL_some e
    split at h2
    · rename_i hl
      cases h2
      obtain ⟨w, rfl, iw⟩ := isL1 ib
      unfold Is at ia iw
      obtain ⟨_, rfl⟩ := ia
      obtain ⟨p, ws, rfl, k1, _, k2⟩ := iw
      obtain ⟨u, g1, vs, rfl, g2⟩ := R.obj n _ h1
      exact mt_extend pins s σ H _ _ v us Q I rx rs ⟨_, p, vs, ws, rfl, rfl, g1, k1, by rw [g2.length, k2.length]; exact hl, upd_end R h1 (g2.append k2) ofN q⟩
    · cases h2
  · cases e
noncomputable def insF : D → List D → M D
  | .ref n, [.int i, d] => updL n fun ds => if 0 ≤ i ∧ i < 2 ^ 62 ∧ ds.length < sizeLine then some (.non, ds.take i.toNat ++ d :: ds.drop i.toNat) else none
  | _, _ => fail
theorem arr_insert (xs : List Value) (k : Nat) (y : Value) (hk : k ≤ xs.length) : (xs.toArray.extract 0 k).push y ++ xs.toArray.extract k = (xs.take k ++ y :: xs.drop k).toArray := by
  apply Array.toList_inj.mp
  simp [Array.toList_extract, List.extract_eq_take_drop, List.append_assoc]
  exact List.take_of_length_le (by simp)
theorem fits62 {i : Int} (h0 : 0 ≤ i) (h : i < 2 ^ 62) : Builtin.List.listFitsIndex i = true := fitsIndex_both (by omega) (by omega)
theorem m_insert : MtR X "list.insert" (rMM X.K insF) := fun pins s σ H x xs v us Q I rx rs h => by
  obtain ⟨ι, μ, a, as, d, μ', R, ia, ib, e, q⟩ := h
  unfold insF at e
  split at e
  · rename_i n i y
    obtain ⟨ds, es, h1, h2, rfl⟩ := updL_some e
    split at h2
    · rename_i hl
      cases h2
      obtain ⟨w, w', rfl, iw, iw'⟩ := isL2 ib
      cases is_int iw
      unfold Is at ia
      obtain ⟨_, rfl⟩ := ia
      obtain ⟨u, g1, vs, rfl, g2⟩ := R.obj n _ h1
      cases rx
      obtain ⟨u1, u2, rfl, r1, r2⟩ := Vals.two rs
      obtain ⟨t, rfl⟩ := r1
      obtain ⟨z, its, nn, r, hl2, e2⟩ := I.lstM g1
      refine call_meets PySem.F.slot_list_insert ⟨_, e2, rfl⟩ PySem.F.entry_list_insert (PySem.F.args_list_insert_3 _ _ _) (PySem.AutoSeq1.list_insert_list_int_val_1 _ its.toArray nn i t u2 (by simp [fits62 hl.1 hl.2.1]) (by rw [List.size_toArray, ← hl2]; exact z)) ⟨e2, ?_⟩
      have hk : (if i < 0 then (i + ((its.toArray.size : Nat) : Int)).toNat else min i.toNat its.toArray.size) = min i.toNat its.length := by rw [if_neg (by omega), List.size_toArray]
      have ht : its.take (min i.toNat its.length) = its.take i.toNat := by
        rcases Nat.le_total i.toNat its.length with z | z
        · rw [Nat.min_eq_left z]
        · rw [Nat.min_eq_right z, List.take_length, List.take_of_length_le z]
      have hd : its.drop (min i.toNat its.length) = its.drop i.toNat := by
        rcases Nat.le_total i.toNat its.length with z | z
        · rw [Nat.min_eq_left z]
        · rw [Nat.min_eq_right z, List.drop_length, List.drop_of_length_le z]
      refine ⟨.non, _, I.lset (its' := its.take i.toNat ++ u2 :: its.drop i.toNat) (ys := vs.take i.toNat ++ w' :: vs.drop i.toNat) g1 e2 ?_ ((r.take _).append (.cons r2 (r.drop _))) ?_, rfl, upd_end R h1 ((g2.take _).append (.cons iw' (g2.drop _))) ofN q⟩
      · show (its.toArray.extract 0 _).push u2 ++ its.toArray.extract _ = _
        rw [hk, arr_insert _ _ _ (Nat.min_le_right _ _), ht, hd]
      · have h3 := g2.length
        rw [List.length_append, List.length_cons, List.length_take, List.length_drop]
        omega
    · cases h2
  · cases e
noncomputable def setF : D → D → D → M Unit
  | .ref n, .int k, d => fun μ => match μ[n]? with
    | some (.lst ds) => (ixN ds.length k).map fun j => ((), μ.set n (.lst (ds.set j d)))
    | _ => none
  | _, _, _ => fail
noncomputable def bSub (mo mi : Sl → M D) : D → Sl → M Sl := fun d τ => bnd (mo τ) fun x => bnd (mi τ) fun y => bnd (setF x y d) fun _ => ret τ
theorem setF_some {x y d : D} {μ μ' : Mh} {u : Unit} (e : setF x y d μ = some (u, μ')) : ∃ n k ds j, x = .ref n ∧ y = .int k ∧ μ[n]? = some (.lst ds) ∧ ixN ds.length k = some j ∧ μ' = μ.set n (.lst (ds.set j d)) := by
  unfold setF at e
  split at e
  · rename_i n k
    split at e
    · rename_i ds hq
      cases hk : ixN ds.length k with
      | none => rw [hk] at e; cases e
      | some j => rw [hk] at e; cases e; exact ⟨n, k, ds, j, rfl, rfl, hq, hk, rfl⟩
    · cases e
  · cases e
theorem rg_sub {mo mi : Sl → M D} (ho : RE X o mo) (hi : RE X i mi)
    (ha : ∀ v, assign (.Subscript o i pos) X.env v = (do
      let ov ← holding [v] (eval o X.env)
      let iv ← holding [v, ov] (eval i X.env)
      standAt pos
      holding [v, ov, iv] (setItem ov iv v)
      release [v, ov, iv] []) := by intro _; rfl) : RG X (.Subscript o i pos) (bSub mo mi) := RG.wk (pg_sub ho.pe hi.pe set_list ha) fun v σ H Q h => by
  obtain ⟨ι, μ, τ, d, τ', μ', R, S, i1, e, q⟩ := h
  obtain ⟨x, μ1, e1, ee1⟩ := bnd_some e
  obtain ⟨y, μ2, e2, ee2⟩ := bnd_some ee1
  obtain ⟨u, μ3, e3, ee3⟩ := bnd_some ee2
  cases ee3
  refine ⟨ι, μ, _, x, μ1, R, S, e1, fun ι1 H1 E1 R1 v1 j1 => ⟨ι1, μ1, _, y, μ2, R1, S.ext E1, e2, fun ι2 H2 E2 R2 v2 j2 => ?_⟩⟩
  obtain ⟨n, k, ds, j, rfl, rfl, g1, g2, rfl⟩ := setF_some e3
  have E12 := E1.trans E2
  have j1' := j1.ext E2
  unfold Is at j1'
  obtain ⟨hlt, rfl⟩ := j1'
  cases is_int j2
  obtain ⟨w, k1, vs, rfl, k2⟩ := R2.obj n _ g1
  obtain ⟨E3, R3⟩ := R2.changed (m := .lst (ds.set j d)) (o := .lst (vs.set j v)) hlt ⟨_, rfl, k2.set (i1.ext E12) j⟩
  exact ⟨_, vs, k, j, rfl, rfl, k1, by rw [k2.length]; exact g2, q ι2 _ (E12.trans E3) R3 σ (S.ext (E12.trans E3))⟩
noncomputable def keyD : D → Option Key
  | .int i => some (.inl i)
  | .str x => some (.inr x)
  | _ => none
noncomputable def asDict : D → M (Nat × List (Key × D))
  | .ref n => fun μ => match μ[n]? with
    | some (.dK l) => some ((n, l), μ)
    | _ => none
  | _ => fail
noncomputable def valD (l : List (Key × D)) (k : Key) : Option D := (l.find? fun kv => decide (kv.1 = k)).map (·.2)
noncomputable def putD (l : List (Key × D)) (k : Key) (d : D) : List (Key × D) :=
  if (l.any fun kv => decide (kv.1 = k)) = true then l.map (fun kv => if kv.1 = k then (kv.1, d) else kv) else l ++ [(k, d)]
noncomputable def newD : Sl → M D := fun _ μ => some (.ref μ.length, μ ++ [.dK []])
theorem re_dnew : RE X (.Dict [] [] pos) newD := RE.wk pe_dnewK fun σ H Q h => by
  obtain ⟨ι, μ, τ, d, μ', R, S, e, q⟩ := h
  cases e
  intro p hp
  obtain ⟨ι', E1, R1, e0⟩ := R.grown (m := .dK []) (o := .dK []) hp ⟨[], rfl, rfl⟩
  exact q ι' _ E1 R1 _ (by unfold Is; exact ⟨by simp, by rw [e0]⟩)
section
variable {K : PySem.W.Frag} {ι : Nat → Addr} {k : Nat} {H : Hp}
theorem KVs.val : ∀ {l : List (Key × D)} {r : List (Key × V)} (y : Key), KVs K ι k H l r → (valD l y = none ∧ valV r y = none) ∨ ∃ d v, valD l y = some d ∧ valV r y = some v ∧ Is K ι k H d v
  | [], _, y, h => by cases h; exact .inl ⟨rfl, rfl⟩
  | (z, d) :: l, _, y, h => by
    obtain ⟨v, r', rfl, h1, h2⟩ := h
    by_cases hz : z = y
    · subst hz
      exact .inr ⟨d, v, by simp [valD], by simp [valV], h1⟩
    · have := KVs.val y h2
      simpa [valD, valV, List.find?_cons, hz] using this
theorem KVs.any : ∀ {l : List (Key × D)} {r : List (Key × V)} (y : Key), KVs K ι k H l r → (l.any fun kv => decide (kv.1 = y)) = (r.any fun kv => decide (kv.1 = y))
  | [], _, y, h => by cases h; rfl
  | (z, d) :: l, _, y, h => by
    obtain ⟨v, r', rfl, h1, h2⟩ := h
    rw [List.any_cons, List.any_cons, KVs.any y h2]
theorem KVs.length : ∀ {l : List (Key × D)} {r : List (Key × V)}, KVs K ι k H l r → r.length = l.length
  | [], _, h => by cases h; rfl
  | (z, d) :: l, _, h => by
    obtain ⟨v, r', rfl, h1, h2⟩ := h
    rw [List.length_cons, List.length_cons, KVs.length h2]
theorem KVs.app : ∀ {l : List (Key × D)} {r : List (Key × V)} {y : Key} {d : D} {v : V}, KVs K ι k H l r → Is K ι k H d v → KVs K ι k H (l ++ [(y, d)]) (r ++ [(y, v)])
  | [], _, y, d, v, h, h1 => by cases h; exact ⟨v, [], rfl, h1, rfl⟩
  | (z, e) :: l, _, y, d, v, h, h1 => by
    obtain ⟨w, r', rfl, h2, h3⟩ := h
    exact ⟨w, _, rfl, h2, KVs.app h3 h1⟩
theorem KVs.mapPut : ∀ {l : List (Key × D)} {r : List (Key × V)} {y : Key} {d : D} {v : V}, KVs K ι k H l r → Is K ι k H d v → KVs K ι k H (l.map fun kv => if kv.1 = y then (kv.1, d) else kv) (r.map fun kv => if kv.1 = y then (kv.1, v) else kv)
  | [], _, y, d, v, h, h1 => by cases h; rfl
  | (z, e) :: l, _, y, d, v, h, h1 => by
    obtain ⟨w, r', rfl, h2, h3⟩ := h
    rw [List.map_cons, List.map_cons]
    by_cases hz : z = y
    · subst hz
      simp only [if_true]
      exact ⟨v, _, rfl, h1, KVs.mapPut h3 h1⟩
    · simp only [hz, if_false]
      exact ⟨w, _, rfl, h2, KVs.mapPut h3 h1⟩
theorem KVs.put {l : List (Key × D)} {r : List (Key × V)} {y : Key} {d : D} {v : V} (h : KVs K ι k H l r) (h1 : Is K ι k H d v) : KVs K ι k H (putD l y d) (putK r y v) := by
  unfold putD putK
  rw [h.any y]
  split
  · exact h.mapPut h1
  · exact h.app h1
theorem keyD_is {d : D} {y : Key} {v : V} (h : Is K ι k H d v) (e : keyD d = some y) : v = kV y := by
  cases d with
  | int i => cases e; unfold Is at h; exact h
  | str i => cases e; unfold Is at h; exact h
  | _ => cases e
theorem asDict_some {μ μ' : Mh} {d : D} {v : V} {r : Nat × List (Key × D)} (R : RelH K ι μ H) (i : Is K ι μ.length H d v) (e : asDict d μ = some (r, μ')) : μ' = μ ∧ d = .ref r.1 ∧ μ[r.1]? = some (.dK r.2) ∧ v = .ref (ι r.1) ∧ ∃ kvs, H (ι r.1) = some (.dK kvs) ∧ KVs K ι μ.length H r.2 kvs := by
  cases d with
  | ref n =>
    have e : (match μ[n]? with | some (.dK l) => some ((n, l), μ) | _ => none) = some (r, μ') := e
    split at e
    · rename_i l hq
      cases e
      unfold Is at i
      obtain ⟨u, h1, kvs, rfl, h2⟩ := R.obj n _ hq
      exact ⟨rfl, rfl, hq, i.2, kvs, h1, h2⟩
    · cases e
  | _ => cases e
end
noncomputable def dget1F (d y : D) : M D := bnd (asDict d) fun r => fun μ => (keyD y).map fun k => ((valD r.2 k).getD .non, μ)
noncomputable def guardD (d : D) : M Unit := bnd (asDict d) fun _ => ret ()
noncomputable def mDget1 (mo mi : Sl → M D) : Sl → M D := fun τ => bnd (mo τ) fun x => bnd (guardD x) fun _ => bnd (mi τ) fun y => dget1F x y
theorem guardD_mu {μ μ' : Mh} {d : D} {u : Unit} (e : guardD d μ = some (u, μ')) : μ' = μ ∧ ∃ r, asDict d μ = some (r, μ) := by
  obtain ⟨r, μ1, e1, ee1⟩ := bnd_some e
  cases ee1
  cases d with
  | ref n =>
    have e2 : (match μ[n]? with | some (.dK l) => some ((n, l), μ) | _ => none) = some (r, μ') := e1
    split at e2
    · cases e2; exact ⟨rfl, _, e1⟩
    · cases e2
  | _ => cases e1
theorem re_dget1 {mo mi : Sl → M D} {k : Nat} (hr : Room k X.A) (ho : RE X o mo) (hi : RE X e mi) (m : M1 X o "get" apos e cpos := by exact ⟨rfl, rfl, rfl, rfl⟩) : RE X (.Call (.Attribute o "get" apos) [e] [] cpos) (mDget1 mo mi) := RE.wk (pe_dget1 (hu_of hr) ho.pe hi.pe m) fun σ H Q h => by
  obtain ⟨ι, μ, τ, d, μ', R, S, e, q⟩ := h
  obtain ⟨x, μ1, e1, ee1⟩ := bnd_some e
  obtain ⟨u, μ4, e4, ee2⟩ := bnd_some ee1
  obtain ⟨y, μ2, e2, ee3⟩ := bnd_some ee2
  obtain ⟨r, μ3, e3, ee4⟩ := bnd_some ee3
  obtain ⟨hm, r0, e5⟩ := guardD_mu e4
  subst hm
  refine ⟨ι, μ, τ, x, _, R, S, e1, fun ι1 H1 E1 R1 v1 i1 => ?_⟩
  obtain ⟨_, _, _, rfl, kvs0, g0, _⟩ := asDict_some R1 i1 e5
  refine ⟨_, rfl, .inl ⟨kvs0, .inl g0⟩, ι1, _, τ, y, μ2, R1, S.ext E1, e2, fun ι2 H2 E2 R2 v2 i2 => ?_⟩
  obtain ⟨hm, hx, g1, hv, kvs, g2, g3⟩ := asDict_some R2 (i1.ext E2) e3
  subst hm
  cases hk : keyD y with
  | none => rw [hk] at ee4; cases ee4
  | some ky =>
    rw [hk] at ee4
    cases ee4
    cases keyD_is i2 hk
    have hv' : ι1 r0.1 = ι2 r.1 := V.ref.inj hv
    rw [hv']
    refine ⟨valV kvs ky, DGet.k g2, ?_⟩
    rcases g3.val ky with ⟨z1, z2⟩ | ⟨dd, vv, z1, z2, z3⟩
    · rw [z2]; rw [z1] at q; exact q ι2 H2 (E1.trans E2) R2 _ ofN
    · rw [z2]; rw [z1] at q; exact q ι2 H2 (E1.trans E2) R2 vv z3
noncomputable def dinF (neg : Bool) (y d : D) : M D := bnd (asDict d) fun r => fun μ => (keyD y).map fun k => (.bl (if neg then !(valD r.2 k).isSome else (valD r.2 k).isSome), μ)
theorem tE_din {K : PySem.W.Frag} {mi mo : Sl → M D} {σ : St} {H : Hp} {Q : VK} (h : tE K (mOp (dinF false) mi mo) σ H Q) : tDIn (tE K mi) (tE K mo) σ H Q := by
  obtain ⟨ι, μ, τ, d, μ', R, S, e, q⟩ := h
  obtain ⟨y, μ1, e1, ee1⟩ := bnd_some e
  obtain ⟨x, μ2, e2, ee2⟩ := bnd_some ee1
  obtain ⟨r, μ3, e3, ee3⟩ := bnd_some ee2
  refine ⟨ι, μ, τ, y, μ1, R, S, e1, fun ι1 H1 E1 R1 v1 i1 => ⟨ι1, μ1, τ, x, μ2, R1, S.ext E1, e2, fun ι2 H2 E2 R2 v2 i2 => ?_⟩⟩
  obtain ⟨hm, _, g1, rfl, kvs, g2, g3⟩ := asDict_some R2 i2 e3
  subst hm
  cases hk : keyD y with
  | none => rw [hk] at ee3; cases ee3
  | some ky =>
    rw [hk] at ee3
    cases ee3
    cases keyD_is (i1.ext E2) hk
    refine ⟨_, valV kvs ky, rfl, DGet.k g2, ?_⟩
    rcases g3.val ky with ⟨z1, z2⟩ | ⟨dd, vv, z1, z2, z3⟩
    · rw [z2]; rw [z1] at q; exact q ι2 H2 (E1.trans E2) R2 _ (ofB _)
    · rw [z2]; rw [z1] at q; exact q ι2 H2 (E1.trans E2) R2 _ (ofB _)
theorem re_din {mo mi : Sl → M D} {k : Nat} (hr : Room k X.A) (hi : RE X i mi) (ho : RE X o mo) (h1 : behindInMarks .In o = false := by first | exact nobehind _ (by decide) (by decide) | rfl) : RE X (.Compare i [.In] [o] pos) (mOp (dinF false) mi mo) := RE.wk (pe_cmp (pc_din (hu_of hr) hi.pe ho.pe) h1) fun _ _ _ h => tE_din h
noncomputable def sDput (mo mi mv : Sl → M D) : Sl → M (Fl × Sl) := fun τ => bnd (mv τ) fun v => bnd (mo τ) fun x => bnd (mi τ) fun y => bnd (asDict x) fun r => fun μ => match keyD y with
  | some k => if r.2.length < sizeLine then some ((.next, τ), μ.set r.1 (.dK (putD r.2 k v))) else none
  | none => none
theorem rs_dput {value : Expr} {pos' : Pos} {mo mi mv : Sl → M D} {k : Nat} (hr : Room k X.A) (ho : RE X o mo) (hi : RE X i mi) (hv : RE X value mv) (hs : swapsWith value (some (.Subscript o i pos')) pos.line X.env = pure false := by rfl) : RS X (.Assign [.Subscript o i pos'] value pos) (sDput mo mi mv) := RS.wk (ps_dput (hu_of hr) ho.pe hi.pe hv.pe hs) fun Dn σ H h => by
  obtain ⟨ι, μ, τ, f, τ', μ', R, S, e, q⟩ := h
  obtain ⟨v, μ1, e1, ee1⟩ := bnd_some e
  obtain ⟨x, μ2, e2, ee2⟩ := bnd_some ee1
  obtain ⟨y, μ3, e3, ee3⟩ := bnd_some ee2
  obtain ⟨r, μ4, e4, ee4⟩ := bnd_some ee3
  refine ⟨ι, μ, τ, v, μ1, R, S, e1, fun ι1 H1 E1 R1 v1 i1 => ⟨ι1, μ1, τ, x, μ2, R1, S.ext E1, e2, fun ι2 H2 E2 R2 v2 i2 => ⟨ι2, μ2, τ, y, μ3, R2, S.ext (E1.trans E2), e3, fun ι3 H3 E3 R3 v3 i3 => ?_⟩⟩⟩
  obtain ⟨hm, hx, g1, hv2, kvs, g2, g3⟩ := asDict_some R3 (i2.ext E3) e4
  subst hm
  have E13 := (E1.trans E2).trans E3
  cases hk : keyD y with
  | none => rw [hk] at ee4; cases ee4
  | some ky =>
    rw [hk] at ee4
    have ee4 : (if r.2.length < sizeLine then some ((Fl.next, τ), List.set μ4 r.1 (MO.dK (putD r.2 ky v))) else none) = some ((f, τ'), μ') := ee4
    split at ee4
    · rename_i hl
      cases ee4
      cases keyD_is i3 hk
      have hlt : r.1 < List.length μ4 := (List.getElem?_eq_some_iff.mp g1).1
      obtain ⟨E4, R4⟩ := R3.changed (m := .dK (putD r.2 ky v)) (o := .dK (putK kvs ky v1)) hlt ⟨_, rfl, g3.put (i1.ext (E2.trans E3))⟩
      exact ⟨_, _, hv2, DPut.k g2 (by rw [g3.length]; exact hl), q ι3 _ (E13.trans E4) R4 σ (S.ext (E13.trans E4))⟩
    · cases ee4
noncomputable def asStr : D → M (List D)
  | .str x => ret (x.cps.toList.map fun c => .str ⟨#[c]⟩)
  | _ => fail
noncomputable def mSrcS (m : Sl → M D) : Sl → M (List D) := fun τ => bnd (m τ) asStr
theorem itm_str {K : PySem.W.Frag} {ι : Nat → Addr} {μ : Mh} {H : Hp} {x : Str} : ItM K (Its x) (x.cps.toList.map fun c => .str ⟨#[c]⟩) ι μ H := by
  intro ι' μ' H' E R
  have hl : (x.cps.toList.map fun c => D.str ⟨#[c]⟩).length = x.cps.size := by simp
  rw [hl]
  refine ⟨fun j hj => hj, rfl, fun j v H2 d hd y => ?_⟩
  obtain ⟨e, c, hc, y⟩ := y
  subst e
  rw [List.getElem?_map, Array.getElem?_toList, hc] at hd
  cases hd
  exact ⟨R.ext0, R, by unfold Is; exact y⟩
theorem ri_str {m : Sl → M D} (h : RE X e m) : RI X tg e (mSrcS m) := RI.wk (pi_str h.pe) fun σ H R q => by
  obtain ⟨ι, μ, τ, ds, μ', R0, S, e, q⟩ := q
  obtain ⟨x, μ1, e1, ee1⟩ := bnd_some e
  refine ⟨ι, μ, τ, x, μ1, R0, S, e1, fun ι1 H1 E1 R1 v i1 => ?_⟩
  cases x with
  | str x => cases ee1; exact ⟨x, is_str i1, q ι1 H1 E1 R1 _ itm_str⟩
  | _ => cases ee1
noncomputable def enumD : Nat → List D → List D
  | _, [] => []
  | k, d :: ds => .tup [.int k, d] :: enumD (k + 1) ds
theorem enumD_len : ∀ (k : Nat) (ds : List D), (enumD k ds).length = ds.length
  | _, [] => rfl
  | k, _ :: ds => by unfold enumD; simp [enumD_len (k + 1) ds]
theorem enumD_get : ∀ (k : Nat) (ds : List D) (j : Nat), (enumD k ds)[j]? = (ds[j]?).map fun d => .tup [.int ((k + j : Nat) : Int), d]
  | _, [], j => by simp [enumD]
  | k, d :: ds, 0 => by simp [enumD]
  | k, d :: ds, j + 1 => by
    unfold enumD
    rw [List.getElem?_cons_succ, List.getElem?_cons_succ, enumD_get (k + 1) ds j]
    have : k + 1 + j = k + (j + 1) := by omega
    rw [this]
noncomputable def frozenL : List D → M (List D)
  | [.lst ds] => ret ds
  | [.scr ns] => ret (ns.map D.int)
  | _ => fail
noncomputable def mEnum (m : Sl → M (List D)) : Sl → M (List D) := fun τ => bnd (m τ) fun as => bnd (frozenL as) fun ds => ret (enumD 0 ds)
theorem itm_enum {K : PySem.W.Frag} {ι : Nat → Addr} {μ : Mh} {H : Hp} {vs : List V} {ds : List D} {Cond : PySem.W.Frag → Hp → Prop} (st : ∀ ι' (μ' : Mh) H', Ext ι μ.length H ι' μ'.length H' → RelH K ι' μ' H' → Cond K H') (i : IsL K ι μ.length H ds vs) :
    ItM K (ItP K vs.length (enSrc vs) Cond) (enumD 0 ds) ι μ H := by
  intro ι' μ' H' E R
  have h := st ι' μ' H' E R
  rw [enumD_len, ← i.length]
  refine ⟨fun j hj => ⟨hj, h⟩, ⟨rfl, h⟩, fun j x H2 d hd y => ?_⟩
  obtain ⟨T, hT, rfl, rfl⟩ := y
  obtain ⟨E2, R2⟩ := R.laid (.tup (enSrc vs j)) hT
  refine ⟨E2, R2, ?_⟩
  rw [enumD_get] at hd
  cases q : ds[j]? with
  | none => rw [q] at hd; cases hd
  | some d0 =>
    rw [q] at hd
    cases hd
    obtain ⟨w, ew, iw⟩ := (i.ext E).get q
    have e0 : vs.getD j V.non = w := by simp [List.getD, ew]
    have es : enSrc vs j = [.int j, w] := by unfold enSrc; rw [e0]
    have key : IsL K ι' (List.length μ') (upd H' T (.tup (enSrc vs j))) [.int ((0 + j : Nat) : Int), d0] [.int j, w] := .cons (by unfold Is; simp) (.one (iw.ext E2))
    unfold Is
    exact ⟨T, _, rfl, SqT.of upd_same, (congrArg (IsL K ι' (List.length μ') (upd H' T (.tup (enSrc vs j))) [.int ((0 + j : Nat) : Int), d0]) es).mpr key⟩
theorem ri_enumL {p tpos : Pos} {k0 : Nat} {m : Sl → M (List D)} (hm : X.mg "enumerate" = none) (ha : RA X [a] m) (hg : Gl X "enumerate" := by rfl) (hs : starEach [a] X.env = [(false, eval a X.env)] := by rfl) : RI X (.Tuple es k0 tpos) (.Call (.Name "enumerate" p) [a] [] pos) (mEnum m) :=
  RI.wk (pi_enumL hg hm ha.pe hs) fun σ H R q => by
    obtain ⟨ι, μ, τ, ds, μ', R0, S, e, q⟩ := q
    obtain ⟨xs, μ1, e1, ee1⟩ := bnd_some e
    obtain ⟨zs, μ2, e2, ee2⟩ := bnd_some ee1
    cases ee2
    refine ⟨ι, μ, τ, xs, μ1, R0, S, e1, fun ι1 H1 E1 R1 vs i1 => ?_⟩
    unfold frozenL at e2
    split at e2
    · cases e2
      obtain ⟨v, rfl, i2⟩ := isL1 i1
      unfold Is at i2
      obtain ⟨p, ws, rfl, h1, hn, h2⟩ := i2
      exact ⟨p, ws, rfl, SqL.of h1, q ι1 H1 E1 R1 _ (itm_enum (fun ι' μ' H' E _ => SqL.of (E.keep p _ h1 hn)) h2)⟩
    · cases e2
      obtain ⟨v, rfl, i2⟩ := isL1 i1
      unfold Is at i2
      obtain ⟨p, rfl, h1⟩ := i2
      exact ⟨p, _, rfl, h1.sq, q ι1 H1 E1 R1 _ (itm_enum (fun ι' μ' H' E _ => (scr_ext E h1).sq) (IsL.ofInts _))⟩
    · cases e2
noncomputable def blsD : List D → Option (List Bool)
  | [] => some []
  | .bl b :: ds => (blsD ds).map (b :: ·)
  | _ => none
theorem blsD_is {K : PySem.W.Frag} {ι : Nat → Addr} {k : Nat} {H : Hp} : ∀ {ds : List D} {vs : List V} {bs : List Bool}, IsL K ι k H ds vs → blsD ds = some bs → vs = bs.map V.bl
  | [], _, _, h, e => by cases e; unfold IsL at h; exact h
  | .bl b :: ds, _, _, h, e => by
    unfold IsL at h
    obtain ⟨v, vs', rfl, h1, h2⟩ := h
    unfold blsD at e
    cases q : blsD ds with
    | none => rw [q] at e; cases e
    | some bs =>
      rw [q] at e; cases e
      unfold Is at h1
      rw [h1, blsD_is h2 q]; rfl
  | .non :: _, _, _, _, e => by cases e
  | .int _ :: _, _, _, _, e => by cases e
  | .str _ :: _, _, _, _, e => by cases e
  | .ty _ :: _, _, _, _, e => by cases e
  | .scr _ :: _, _, _, _, e => by cases e
  | .tup _ :: _, _, _, _, e => by cases e
  | .lst _ :: _, _, _, _, e => by cases e
  | .ref _ :: _, _, _, _, e => by cases e
noncomputable def allF : List D → M D
  | [.lst ds] => fun μ => (blsD ds).map fun bs => (.bl (bs.all id), μ)
  | _ => fail
theorem c_all (hc : X.calm = true) : CallR X (.builtin "all") (rMA X.K allF) := fun pins s σ H xs us Q I r h => by
  obtain ⟨ι, μ, as, d, μ', R, ia, e, q⟩ := h
  refine call_allB hc pins s σ H xs us Q I r ?_
  unfold allF at e
  split at e
  · rename_i ds
    cases hb : blsD ds with
    | none => rw [hb] at e; cases e
    | some bs =>
      rw [hb] at e; cases e
      obtain ⟨v, rfl, i1⟩ := isL1 ia
      unfold Is at i1
      obtain ⟨p, vs, rfl, h1, _, h2⟩ := i1
      exact ⟨p, bs, rfl, SqL.of (by rw [← blsD_is h2 hb]; exact h1), q ι H R.ext0 R _ (ofB _)⟩
  · cases e
end
end Mi
namespace Mi
open PySem L2
theorem boot_len : bootBuiltins "len" = some (.builtin "len") := by decide +kernel
theorem boot_isinstance : bootBuiltins "isinstance" = some (.builtin "isinstance") := by decide +kernel
theorem boot_max : bootBuiltins "max" = some (.builtin "max") := by decide +kernel
theorem boot_min : bootBuiltins "min" = some (.builtin "min") := by decide +kernel
theorem boot_all : bootBuiltins "all" = some (.builtin "all") := by decide +kernel
theorem boot_int : bootBuiltins "int" = some (.type "int") := by decide +kernel
theorem boot_str : bootBuiltins "str" = some (.type "str") := by decide +kernel
theorem boot_bool : bootBuiltins "bool" = some (.type "bool") := by decide +kernel
theorem boot_tuple : bootBuiltins "tuple" = some (.type "tuple") := by decide +kernel
theorem boot_set : bootBuiltins "set" = some (.type "set") := by decide +kernel
structure Fn (P : Program) (w : World) (K : PySem.W.Frag) (mg : Str → Option Value) (base : Heap) (x : Str) (ps : List Str) (k : Nat) (φ : List D → M D) : Prop where
  len : ∀ ds μ r, φ ds μ = some r → ds.length = ps.length
  ex : ∃ f fd, FnOk P w K mg base CX0 k f fd ps (spM K ps.length φ) ∧ mg x = some (.ref f) ∧ PySem.W.keepIn K (.ref f) = true ∧ Binds K fd ps []
noncomputable def Glo (K : PySem.W.Frag) (mg : Str → Option Value) (x : Str) (d : D) : Prop := ∃ u v, mg x = some u ∧ RelV v u ∧ ∀ ι k H, Is K ι k H d v
section
variable {X : Cx} {e : Expr} {es : List Expr} {pos p : Pos}
theorem re_fn {x : Str} {ps : List Str} {k j : Nat} {φ : List D → M D} {m : Sl → M (List D)} (F : Fn X.prog X.w X.K X.mg X.base x ps k φ) (hr : Room j X.A) (ha : RA X (e :: es) m) (hkj : k ≤ j := by decide) (hg : Gl X x := by rfl) (hdb : (x == ("__debug__" : Str)) = false := by decide)
    (he : starEach (e :: es) X.env = (false, eval e X.env) :: starEach es X.env := by exact star_cons rfl) (hpl : (backTo pos (starEach es X.env)).any (·.1) = false := by exact star_plain rfl) : RE X (.Call (.Name x p) (e :: es) [] pos) (mDisp φ m) := by
  obtain ⟨len, f, fd, F, hm, hk, hb⟩ := F
  exact re_call F (hr.mono hkj) hm hk hb len ha hg hdb he hpl
theorem re_gl {x : Str} {d : D} (h : Glo X.K X.mg x d) (hg : Gl X x := by rfl) (hdb : (x == ("__debug__" : Str)) = false := by decide) : RE X (.Name x pos) (mC d) := by
  obtain ⟨u, v, hm, r, hd⟩ := h
  exact re_glob hm r hd hg hdb
end
theorem fn_of' {P : Program} {w : World} {K : PySem.W.Frag} {mg : Str → Option Value} {base : Heap} {x qual : Str} {st : Stmt} {f : Addr} {fd : FuncData} {N ps : List Str} {k : Nat} {φ : List D → M D} {mb : Sl → M (Fl × Sl)} (F : Fun K x qual st f fd) (S : FnScope N ps (defScope st)) (hm : mg x = some (.ref f)) (hb : Binds K fd ps [])
    (body : ∀ (cdv : Value) (A : Around) (outer : List Env) (s : Shared) (H : Hp) (E : XK), Room k (A.deeper (PyProof.Rows.envOfC qual (defScope st) s.heap.objs.size f cdv)) → RSs (cxOf CX0 P w K mg base N qual (defScope st) f cdv A outer s H E).nox (defBody st) mb)
    (len : ∀ ds μ r, φ ds μ = some r → ds.length = ps.length)
    (run : ∀ ds μ d μ', φ ds μ = some (d, μ') → ∃ fl τ2 μ2, mb (startD N.length ds) μ = some ((fl, τ2), μ2) ∧ (fl = .next ∨ ∃ d, fl = .rt d) ∧ Tells μ μ2 μ' (resD fl) d) : Fn P w K mg base x ps (k + 1) φ :=
  ⟨len, f, fd, fn_mirror F S rfl body run, hm, F.kp, hb⟩
theorem tells_drop {μ g : Mh} {d : D} (h : Cl μ.length d) : Tells μ (μ ++ g) μ d d := ⟨⟨g, rfl⟩, Nat.le_refl _, fun _ _ e => .inl e, .inl ⟨rfl, h⟩⟩
end Mi
namespace Mi
open PySem L2
section
variable {X : Cx} {e a b c o i : Expr} {es : List Expr} {pos p apos cpos : Pos}
structure KTab (w : World) (K : PySem.W.Frag) (mg : Str → Option Value) (x : Str) (t : Str → Option D) : Prop where
  ex : ∃ ad, mg x = some (.ref ad) ∧ ∀ y : Str, ∃ r, KGet w.params K ad (.str y) r ∧ ((t y = none ∧ r = none) ∨ ∃ d v, t y = some d ∧ r = some v ∧ ∀ ι k H, Is K ι k H d v)
noncomputable def kgetF (t : Str → Option D) : D → M D
  | .str y => fun μ => (t y).map fun d => (d, μ)
  | _ => fail
noncomputable def kinF (t : Str → Option D) : D → M D
  | .str y => fun μ => some (.bl (t y).isSome, μ)
  | _ => fail
theorem re_kget {x : Str} {t : Str → Option D} {mi : Sl → M D} (k : KTab X.w X.K X.mg x t) (hi : RE X i mi) (hg : Gl X x := by rfl) (hdb : (x == ("__debug__" : Str)) = false := by decide) (hs : NoSl i := by exact fun _ _ => rfl) : RE X (.Subscript (.Name x p) i pos) (mUn (kgetF t) mi) := by
  obtain ⟨ad, hm, kk⟩ := k
  refine RE.wk (pe_kget (pe_glob (v := .ref ad) hg hm rfl hdb) hi.pe hs) fun σ H Q h => ?_
  obtain ⟨ι, μ, τ, d, μ', R, S, e, q⟩ := h
  obtain ⟨y, μ1, e1, e2⟩ := bnd_some e
  refine ⟨ι, μ, τ, y, μ1, R, S, e1, fun ι1 H1 E1 R1 v1 i1 => ?_⟩
  cases y with
  | str y =>
    cases is_str i1
    obtain ⟨r, g, z⟩ := kk y
    rcases z with ⟨z1, _⟩ | ⟨d0, v0, z1, rfl, z3⟩
    · have e3 : (t y).map (fun d => (d, μ1)) = some (d, μ') := e2
      rw [z1] at e3; cases e3
    · have e3 : (t y).map (fun d => (d, μ1)) = some (d, μ') := e2
      rw [z1] at e3; cases e3
      exact ⟨ad, v0, rfl, g, q ι1 H1 E1 R1 v0 (z3 _ _ _)⟩
  | _ => cases e2
theorem tE_kin {K : PySem.W.Frag} {w : World} {t : Str → Option D} {mi : Sl → M D} {ad : Addr} {σ : St} {H : Hp} {Q : VK} (kk : ∀ y : Str, ∃ r, KGet w.params K ad (.str y) r ∧ ((t y = none ∧ r = none) ∨ ∃ d v, t y = some d ∧ r = some v ∧ ∀ ι k H, Is K ι k H d v))
    (h : tE K (mUn (kinF t) mi) σ H Q) : tKIn w.params K (tE K mi) (tC (.ref ad)) σ H Q := by
  obtain ⟨ι, μ, τ, d, μ', R, S, e, q⟩ := h
  obtain ⟨y, μ1, e1, e2⟩ := bnd_some e
  refine ⟨ι, μ, τ, y, μ1, R, S, e1, fun ι1 H1 E1 R1 v1 i1 => ?_⟩
  cases y with
  | str y =>
    cases is_str i1
    obtain ⟨r, g, z⟩ := kk y
    cases e2
    rcases z with ⟨z1, rfl⟩ | ⟨d0, v0, z1, rfl, z3⟩
    · exact ⟨ad, none, rfl, g, by rw [z1] at q; exact q ι1 H1 E1 R1 _ (ofB _)⟩
    · exact ⟨ad, some v0, rfl, g, by rw [z1] at q; exact q ι1 H1 E1 R1 _ (ofB _)⟩
  | _ => cases e2
theorem re_kin {x : Str} {t : Str → Option D} {mi : Sl → M D} (k : KTab X.w X.K X.mg x t) (hi : RE X i mi) (hg : Gl X x := by rfl) (hdb : (x == ("__debug__" : Str)) = false := by decide) (h1 : behindInMarks .In (.Name x p) = false := by first | exact nobehind _ (by decide) (by decide) | rfl) : RE X (.Compare i [.In] [.Name x p] pos) (mUn (kinF t) mi) := by
  obtain ⟨ad, hm, kk⟩ := k
  exact RE.wk (pe_cmp (pc_kin hi.pe (pe_glob (v := .ref ad) hg hm rfl hdb)) h1) fun σ H Q h => tE_kin kk h
noncomputable def fmtF : D → M D
  | .str x => fun μ => if x.length ≤ sizeLine then some (.str x, μ) else none
  | _ => fail
noncomputable def mFmt (m : Sl → M D) : Sl → M D := mUn fmtF m
theorem re_fmt {m : Sl → M D} (h : RE X e m) : RE X (.FormattedValue e (-1) none pos) (mFmt m) := RE.wk (pe_fmt h.pe) fun σ H Q h => by
  obtain ⟨ι, μ, τ, d, μ', R, S, e, q⟩ := h
  obtain ⟨y, μ1, e1, e2⟩ := bnd_some e
  refine ⟨ι, μ, τ, y, μ1, R, S, e1, fun ι1 H1 E1 R1 v1 i1 => ?_⟩
  cases y with
  | str y =>
    have e3 : (if y.length ≤ sizeLine then some (D.str y, μ1) else none) = some (d, μ') := e2
    split at e3
    · rename_i hl
      cases e3
      exact .inl ⟨y, is_str i1, hl, q ι1 H1 E1 R1 _ (ofS _)⟩
    · cases e3
  | _ => cases e2
noncomputable def joinGo : List (Sl → M D) → Str → Sl → M D
  | [], out => fun _ => bnd (lim out.length) fun _ => ret (.str out)
  | m :: r, out => fun τ => bnd (m τ) fun d => match d with
    | .str y => bnd (lim (out ++ y).length) fun _ => joinGo r (out ++ y) τ
    | _ => fail
noncomputable def mJoin (ms : List (Sl → M D)) : Sl → M D := joinGo ms Str.empty
structure RJ (X : Cx) (es : List Expr) (ms : List (Sl → M D)) : Prop where
  pe : PJ X es (ms.map (tE X.K))
theorem rj_nil : RJ X [] [] := ⟨pj_nil⟩
theorem rj_cons {m : Sl → M D} {ms : List (Sl → M D)} (h : RE X e m) (hr : RJ X es ms) : RJ X (e :: es) (m :: ms) := ⟨pj_cons h.pe hr.pe⟩
theorem tE_join {K : PySem.W.Frag} : ∀ {ms : List (Sl → M D)} {out : Str} {σ : St} {H : Hp} {Q : VK}, tE K (joinGo ms out) σ H Q → tJoin (ms.map (tE K)) out σ H Q
  | [], out, σ, H, Q, h => by
    obtain ⟨ι, μ, τ, d, μ', R, S, e, q⟩ := h
    obtain ⟨_, μ1, e1, e2⟩ := bnd_some e
    obtain ⟨hl, hm⟩ := lim_some e1
    subst hm
    cases e2
    exact ⟨hl, q ι H R.ext0 R _ (ofS _)⟩
  | m :: ms, out, σ, H, Q, h => by
    obtain ⟨ι, μ, τ, d, μ', R, S, e, q⟩ := h
    obtain ⟨y, μ1, e1, e2⟩ := bnd_some e
    refine ⟨ι, μ, τ, y, μ1, R, S, e1, fun ι1 H1 E1 R1 v1 i1 => ?_⟩
    cases y with
    | str y =>
      obtain ⟨_, μ2, e3, e4⟩ := bnd_some e2
      obtain ⟨hl, hm⟩ := lim_some e3
      subst hm
      exact ⟨y, is_str i1, hl, tE_join ⟨ι1, _, τ, d, μ', R1, S.ext E1, e4, fun ι2 H2 E2 R2 => q ι2 H2 (E1.trans E2) R2⟩⟩
    | _ => cases e2
theorem re_joined {e2 : Expr} {m m2 : Sl → M D} {ms : List (Sl → M D)} (h : RJ X (e :: e2 :: es) (m :: m2 :: ms)) : RE X (.JoinedStr (e :: e2 :: es) pos) (mJoin (m :: m2 :: ms)) := RE.wk (pe_joined h.pe) fun σ H Q h => tE_join h
end
end Mi
namespace L2
open PySem PySem.Spec PyProof.Rows Sem
section
variable {prog : Program} {w : World} {A : Around} {E : Value → Shared → Prop} {s : Shared}
theorem wpAny_of_eq_if_neg {M : Model} {A : Around} {α : Type} {c : Prop} [Decidable c] {a b : Sem α} {Q : α → Shared → Prop} {E : Value → Shared → Prop} {s : Shared} (h : ¬ c) (hb : wpAny M A b Q E s) : wpAny M A (if c then a else b) Q E s := by
  rw [if_neg h]; exact hb
theorem tup_draw {it t : Addr} {i : Nat} {items : Array Value} {Q : Value → Shared → Prop} (hh : A.handled = none) (hit : s.heap.IsTupleIter it t i) (ht : s.heap.IsTuple t items)
    (more : ∀ x h', items[i]? = some x → h'.IsTupleIter it t (i + 1) → Heap.SameBut it s.heap h' → Q x { s with heap := h' })
    (over : items[i]? = none → ∀ h' e, Heap.ExtBut it s.heap h' → (∃ o, h'.get? e = some o ∧ o.cls = .type "StopIteration") → E (.ref e) { s with heap := h' }) :
    wpAny (model prog w) A (Builtin.SmallTypes.nextOf (.ref it)) Q E s := by
  have ty := hit.typeIs
  obtain ⟨o, at_it, hc, hd⟩ := hit
  obtain ⟨ot, at_t, _, n, hdt⟩ := ht
  have put : ∀ (k : Nat) (v : Value), (s.heap.update it (Obj.mapFields (fun fs => fs.set! k v))).get? it = some (Obj.mapFields (fun fs => fs.set! k v) o) := fun k v => Heap.get?_update_self _ at_it (Obj.isFreed_of_fields (Obj.data_mapFields hd _))
  unfold Builtin.SmallTypes.nextOf
  refine wpAny_bind (wpAny_callSpecial?_slot ty F.slot_tuple_iterator_next (wpAny_call_entry F.slot_tuple_iterator_next ty F.entry_tuple_iterator_next ?_ (F.args_tuple_iterator_next_1 _)))
  have notNone : ¬ (Value.ref t == Value.none) = true := Bool.false_ne_true
  refine wpAny_bind (m := field (.ref it) 0) (wpAny_field at_it hd (x := .ref t) rfl ?_)
  refine wpAny_of_eq_if_neg notNone ?_
  refine wpAny_bind (m := field (.ref it) 1) (wpAny_field at_it hd (x := .int i 0) rfl (wpAny_bind (m := seqItems? (.ref t)) (wpAny_seqItems at_t hdt ?_)))
  have ei : ((i : Int)).toNat = i := Int.toNat_natCast i
  cases hx : items[i]? with
  | some x =>
    dsimp only
    rw [ei, hx]
    refine wpAny_bind (wpAny_setField at_it hd (by simp) (wpAny_pure ⟨x, rfl, wpAny_pure (more x _ hx ⟨_, put _ _, ?_, ?_⟩ (Heap.SameBut.update ..))⟩))
    · exact (Obj.cls_mapFields ..).trans hc
    · rw [Obj.data_mapFields hd]
      rfl
  | none =>
    dsimp only
    rw [ei, hx]
    refine wpAny_bind (wpAny_rule (wpAny_bind (wpAny_setField at_it hd (by simp) ?_)))
    have first : firstArgMember (.type "StopIteration") [] = pure Value.none := by first | rfl | (unfold firstArgMember; rfl)
    unfold Builtin.SmallTypes.stopIteration newExc newTuple
    refine wpAny_bind (wpAny_bind (wpAny_newObj_type (wpAny_bind (wpAny_of_eq first (wpAny_newObj_type (wpAny_raiseNew_none hh ?_) (by size_fits)))) (by size_fits)))
    exact over hx _ _ (((Heap.SameBut.update ..).extBut.push _).push _) ⟨_, Heap.get?_push_size _ rfl, rfl⟩
theorem draws_tup (hh : A.handled = none) (it t : Addr) (hne : t ≠ it) (items : Array Value) :
    Draws prog w A it [it, t] items.size (fun i v => items[i]? = some v) (fun i h => h.IsTupleIter it t i ∧ h.IsTuple t items) := by
  refine ⟨fun i h st => ?_, fun i h h' st k => ⟨?_, ?_⟩, fun i s Q E hi st q => ?_, fun s Q E st q => ?_⟩
  · obtain ⟨⟨o, e, _⟩, _⟩ := st
    exact ⟨o, e⟩
  · obtain ⟨⟨o, e, r⟩, _⟩ := st
    exact ⟨o, k it (by simp) o e, r⟩
  · obtain ⟨_, ⟨o, e, r⟩⟩ := st
    exact ⟨o, k t (by simp) o e, r⟩
  · exact tup_draw hh st.1 st.2 (fun x h' hx st' sb => q x h' s.toks hx ⟨st', st.2.extBut sb.extBut hne⟩ sb) fun no => absurd no (by simp [hi])
  · exact tup_draw hh st.1 st.2 (fun x h' hx => absurd hx (by simp)) fun _ h' e eb so => q h' e eb so
noncomputable abbrev enumObj (it : Addr) : Obj := { cls := .type "enumerate", data := .fields #[.none, .bool false, .ref it, rawInt 0, .none, .none] }
theorem enum_any (v : Value) (ob : Obj) (good : Heap → Prop) (hv : ∀ (prog : Program) (w : World) (A : Around) (E : Value → Shared → Prop) (s : Shared) (Q : Value → Shared → Prop), good s.heap → Q (.ref s.heap.objs.size) { s with heap := s.heap.push ob } → wpAny (model prog w) A (pyIter v) Q E s) :
    Meets (Builtin.«enumerate.__new__» ⟨[.type "enumerate", v], []⟩) (fun _ R s => good s.heap ∧ R (.ok (.ret (.ref (s.heap.push ob).objs.size))) { s with heap := (s.heap.push ob).push (enumObj s.heap.objs.size) }) := by
  refine .of_wp fun prog w A R s ⟨g, q⟩ => ?_
  have own := sub_enumerate
  have walk : ∀ (A : Around) (E : Value → Shared → Prop) (Q : Value → Shared → Prop), Q (.ref s.heap.objs.size) { s with heap := s.heap.push ob } → wpAny (model prog w) A (pyIter v) Q E s := fun A E Q z => hv prog w A E s Q g z
  obtain ⟨hp, gs, dr, tk, os⟩ := s
  wp_walk
  refine wpAny_stack_any fun st => wpAny_pure ?_
  split
  · rename_i c _ _ _ _ _
    cases (c == Value.type "enumerate") <;> (wp_walk using walk; exact ⟨_, rfl, q⟩)
  · wp_walk using walk
    exact ⟨_, rfl, q⟩
end
end L2
namespace L2
open PySem PySem.Spec PyProof.Rows
theorem turn_enumT {P : Program} {w : World} {K : PySem.W.Frag} {es : List Expr} {k0 : Nat} {pos : Pos} (a e it : Addr) (xs : List V) (hei : e ≠ it) (hea : e ≠ a) (hai : a ≠ it) :
    Turn P w K (.Tuple es k0 pos) (ItP K xs.length (enSrc xs) fun K H => SqT K H a xs) [e, it] e (fun i h => (∃ old, IsEnum h e it i old) ∧ h.IsTupleIter it a i) := by
  refine turn_pairs (ι := List Value) (fp := [e, it, a]) (Mid := fun its i T h => (∃ x, IsEnumOut h e it ((i : Int) + 1) x T) ∧ (h.IsTupleIter it a (i + 1) ∧ h.IsTuple a its.toArray) ∧ T ≠ e ∧ T ≠ it) (good := fun its => Vals xs its) (Pt := fun its i vals => ∃ t x, its.toArray[i]? = some x ∧ vals = #[.int i t, x]) (Sw := fun its i h => (∃ old, IsEnum h e it i old) ∧ h.IsTupleIter it a i ∧ h.IsTuple a its.toArray)
    (fun A hA its r => ?walk) List.mem_cons_self (fun its i vals r h => enSrc_vals r h) (fun i => (by show 2 ≤ sizeLine; decide)) (fun i h st => ?obj) (fun i h h' st k => ?keep) (fun X pins σ H s i hP hw hK I hc st => ?into) (fun z i h st => ⟨st.1, st.2.1⟩) (fun A i s Q E st h => ?self)
  case walk =>
    have hl : xs.length = its.toArray.size := by rw [List.size_toArray]; exact r.length
    have D := draws_tup (prog := P) (w := w) (A := A.in1) hA it a hai its.toArray
    rw [hl]
    exact WalksT.enumerateD D e hei (by simp [hei, hea]) (by simp)
  case obj =>
    obtain ⟨o, ho, _, hd⟩ := st.2
    exact en_obj st.1 ho ⟨_, hd⟩
  case keep =>
    obtain ⟨⟨old, q⟩, o, ho, r⟩ := st
    exact ⟨⟨old, k e (by simp) _ q⟩, o, k it (by simp) o ho, r⟩
  case into =>
    subst hK
    obtain ⟨its, r, p, _⟩ := I.tuple hc
    exact ⟨its, r, st.1, st.2, p⟩
  case self => exact en_self (f := fun i h => h.IsTupleIter it a i) A i s Q E st h
section
variable {X : Cx} {es : List Expr} {k0 : Nat} {tpos : Pos}
noncomputable def iEnumT (K : PySem.W.Frag) (ta : TA) : TI := fun σ H R => ta σ H fun vs H1 => ∃ a xs, vs = [.ref a] ∧ SqT K H1 a xs ∧ R (ItP K xs.length (enSrc xs) fun K H => SqT K H a xs) H1
theorem pi_enumT {a : Expr} {ta : TA} {p pos : Pos} (hg : Gl X "enumerate") (hm : X.mg "enumerate" = none) (ha : PA X [a] ta) (hs : starEach [a] X.env = [(false, eval a X.env)] := by rfl) : PI X (.Tuple es k0 tpos) (.Call (.Name "enumerate" p) [a] [] pos) (iEnumT X.K ta) := by
  intro pins s σ H R I h
  refine Call_ (ld_blt I hg hm boot_enum (PyProof.Rows.callWith_type1 (thn (ha pos pins s σ H _ I h) fun us s1 ⟨vs, H1, I1, r1, q1⟩ => ?_) hs rfl))
  obtain ⟨l, xs, ev, hq, q⟩ := q1
  subst ev
  obtain ⟨u, eu, ru⟩ := vals1 r1
  subst eu
  cases ru
  obtain ⟨its, rv, pl, hz⟩ := I1.tuple hq
  have lt : l < s1.heap.objs.size := by obtain ⟨o, e, _⟩ := pl; exact Heap.lt_size e
  have new := enum_any (.ref l) { cls := .type "tuple_iterator", data := .fields #[.ref l, .int 0 0] } (fun h => h.IsTuple l its.toArray) (fun _ _ _ _ _ _ g z => wpAny_pyIter_tuple g z)
  refine callType_new F.called_enumerate (by decide) (F.typeCall_enumerate_1 _) (F.newCall_enumerate_1 _) (fun obj => F.args_object_init_2 obj _) F.entry_enumerate_new new ⟨pl, ?_⟩
  generalize hG : s1.heap.push { cls := .type "tuple_iterator", data := .fields #[.ref l, .int 0 0] } = G
  have hsz : G.objs.size = s1.heap.objs.size + 1 := by rw [← hG]; exact Heap.size_push ..
  have at_e : (G.push (enumObj s1.heap.objs.size)).get? (s1.heap.objs.size + 1) = some (enumObj s1.heap.objs.size) := by rw [← hsz]; exact Heap.get?_push_size _ rfl
  have he : IsEnum (G.push (enumObj s1.heap.objs.size)) (s1.heap.objs.size + 1) s1.heap.objs.size 0 .none := at_e
  have at_i : (G.push (enumObj s1.heap.objs.size)).IsTupleIter s1.heap.objs.size l 0 := ⟨_, Heap.get?_push_of_some _ (hG ▸ Heap.get?_push_size _ rfl), rfl, rfl⟩
  show _ ∧ _
  rw [hsz]
  refine ⟨⟨_, at_e, rfl⟩, wpAny_pyIter_enum he ?_⟩
  refine ⟨s1.heap.objs.size + 1, [s1.heap.objs.size + 1, s1.heap.objs.size], fun i h => (∃ old, IsEnum h (s1.heap.objs.size + 1) s1.heap.objs.size i old) ∧ h.IsTupleIter s1.heap.objs.size l i, _, H1, rfl, I1.kept (t' := s1.toks) fun b o x => Heap.get?_push_of_some _ (hG ▸ Heap.get?_push_of_some _ x), ?_, ⟨⟨_, he⟩, at_i⟩, two_fp I1, q⟩
  exact turn_enumT l _ _ xs (Nat.succ_ne_self _) (Nat.ne_of_gt (Nat.lt_succ_of_lt lt)) (Nat.ne_of_lt lt)
end
end L2
namespace Mi
open PySem L2
section
variable {X : Cx} {a : Expr} {es : List Expr} {pos : Pos}
noncomputable def tupOne : List D → M (List D)
  | [.tup ds] => ret ds
  | _ => fail
noncomputable def mEnumT (m : Sl → M (List D)) : Sl → M (List D) := fun τ => bnd (m τ) fun as => bnd (tupOne as) fun ds => ret (enumD 0 ds)
theorem ri_enumT {p tpos : Pos} {k0 : Nat} {m : Sl → M (List D)} (hm : X.mg "enumerate" = none) (ha : RA X [a] m) (hg : Gl X "enumerate" := by rfl) (hs : starEach [a] X.env = [(false, eval a X.env)] := by exact star_cons rfl) : RI X (.Tuple es k0 tpos) (.Call (.Name "enumerate" p) [a] [] pos) (mEnumT m) :=
  RI.wk (pi_enumT hg hm ha.pe hs) fun σ H R q => by
    obtain ⟨ι, μ, τ, ds, μ', R0, S, e, q⟩ := q
    obtain ⟨xs, μ1, e1, e2⟩ := bnd_some e
    obtain ⟨zs, μ2, e3, e4⟩ := bnd_some e2
    cases e4
    refine ⟨ι, μ, τ, xs, μ1, R0, S, e1, fun ι1 H1 E1 R1 vs i1 => ?_⟩
    unfold tupOne at e3
    split at e3
    · cases e3
      obtain ⟨v, rfl, i2⟩ := isL1 i1
      unfold Is at i2
      obtain ⟨p, ws, rfl, h1, h2⟩ := i2
      exact ⟨p, ws, rfl, h1, q ι1 H1 E1 R1 _ (itm_enum (fun ι' μ' H' E _ => sqT_ext E h1) h2)⟩
    · cases e3
end
end Mi
namespace L2
open PySem PySem.Spec PyProof.Rows Sem
noncomputable def TwoAt (h : Heap) (T : Addr) (a b : Value) : Prop := ∃ n, h.get? T = some { cls := .type "tuple", data := .seq #[a, b] n }
noncomputable abbrev zipRec (TI TO : Addr) (f0 : Value) : Obj := { cls := .type "zip", data := .fields #[f0, .bool false, .bool false, .ref TI, .ref TO] }
theorem TwoAt.keep {h h' : Heap} {T : Addr} {a b : Value} (x : TwoAt h T a b) (k : ∀ o, h.get? T = some o → h'.get? T = some o) : TwoAt h' T a b := by
  obtain ⟨n, e⟩ := x
  exact ⟨n, k _ e⟩
section
variable {prog : Program} {w : World} {A : Around} {E : Value → Shared → Prop} {s : Shared}
theorem two_put {T : Addr} {a b x c d : Value} {k : Nat} {Q : Unit → Shared → Prop} (t : TwoAt s.heap T a b) (sh : (#[a, b] : Array Value).setIfInBounds k x = #[c, d]) (h : ∀ h', TwoAt h' T c d → Heap.SameBut T s.heap h' → Q () { s with heap := h' }) :
    wpAny (model prog w) A (updateSeq T fun xs => xs.setIfInBounds k x) Q E s := by
  obtain ⟨n, e⟩ := t
  refine wpAny_updateSeq e rfl (h _ ⟨n, ?_⟩ (Heap.SameBut.update ..)) (by simp [sizeLine]) (by simp [sizeLine])
  rw [Heap.get?_update_self _ e rfl]
  show some ({ cls := .type "tuple", data := .seq ((#[a, b] : Array Value).setIfInBounds k x) (if (((#[a, b] : Array Value).setIfInBounds k x).size == (#[a, b] : Array Value).size) = true then n else n + 1) } : Obj) = _
  rw [sh]
  rfl
structure ZApart (z TI TO i1 i2 : Addr) (f1 f2 : List Addr) : Prop where
  zTI : z ≠ TI
  zTO : z ≠ TO
  io : TI ≠ TO
  z1 : z ∉ f1
  z2 : z ∉ f2
  o1 : TO ∉ f1
  o2 : TO ∉ f2
  n1 : TI ≠ i1
  n2 : TI ≠ i2
  m1 : i1 ∈ f1
  m2 : i2 ∈ f2
  x12 : i1 ∉ f2
  x21 : i2 ∉ f1
theorem zip_more {z TI TO i1 i2 : Addr} {n k : Nat} {a b : Value} {P1 P2 : Nat → Value → Prop} {S1 S2 : Nat → Heap → Prop} {f1 f2 : List Addr} {Q : Value → Shared → Prop} (ap : ZApart z TI TO i1 i2 f1 f2)
    (D1 : Draws prog w A.in1 i1 f1 n P1 S1) (D2 : Draws prog w A.in1 i2 f2 n P2 S2) (hk : k < n)
    (hz : s.heap.get? z = some (zipRec TI TO .none)) (hI : TwoAt s.heap TI (.ref i1) (.ref i2)) (hO : TwoAt s.heap TO a b) (s1 : S1 k s.heap) (s2 : S2 k s.heap)
    (q : ∀ x y T h' tk, P1 k x → P2 k y → s.heap.objs.size ≤ T → h'.IsTuple T #[x, y] → h'.get? z = some (zipRec TI TO (rawInt T)) → TwoAt h' TI (.ref i1) (.ref i2) → TwoAt h' TO x y → S1 (k + 1) h' → S2 (k + 1) h' → (∀ c o, c ≠ z → c ≠ TO → c ≠ i1 → c ≠ i2 → s.heap.get? c = some o → h'.get? c = some o) → Q (.ref T) { s with heap := h', toks := tk }) :
    wpAny (model prog w) A.in1 (Builtin.«zip.__next__» ⟨[.ref z], []⟩) (fun fin s' => ∃ v, fin = .done (.ret v) ∧ Q v s') E s := by
  obtain ⟨nI, eI⟩ := id hI
  refine wpAny_bind (m := field (.ref z) 2) (wpAny_field hz rfl (x := .bool false) rfl ?_)
  refine wpAny_bind (m := field (.ref z) 3) (wpAny_field hz rfl (x := .ref TI) rfl ?_)
  refine wpAny_bind (m := seqItems? (.ref TI)) (wpAny_seqItems eI rfl ?_)
  refine wpAny_of_eq_if_neg (by simp) ?_
  refine wpAny_bind (m := Builtin.SmallTypes.ownedTupleIsFree (.ref z)) ?_
  unfold Builtin.SmallTypes.ownedTupleIsFree
  refine wpAny_bind (m := field (.ref z) 0) (wpAny_field hz rfl (x := .none) rfl (wpAny_pure ?_))
  rw [if_pos rfl]
  refine wpAny_bind (wpAny_rule ?_)
  refine wpAny_bind (m := field (.ref z) 4) (wpAny_field hz rfl (x := .ref TO) rfl ?_)
  refine wpAny_bind (wpAny_setField_rec hz (by simp) fun h1 z1 b1 => ?_)
  have k1 : ∀ c o, c ≠ z → s.heap.get? c = some o → h1.get? c = some o := fun c o hc e => (b1.2 c hc).trans e
  have z1' : h1.get? z = some (zipRec TI TO .ellipsis) := z1
  have hI1 := hI.keep (h' := h1) fun o e => k1 TI o ap.zTI.symm e
  have hO1 := hO.keep (h' := h1) fun o e => k1 TO o ap.zTO.symm e
  have s11 := D1.frame _ _ h1 s1 fun c hc o e => k1 c o (fun y => ap.z1 (y ▸ hc)) e
  have s21 := D2.frame _ _ h1 s2 fun c hc o e => k1 c o (fun y => ap.z2 (y ▸ hc)) e
  refine wpAny_bind (m := forIn [(Value.ref i1, 0), (Value.ref i2, 1)] _ _) ?_
  rw [List.forIn_cons]
  refine wpAny_bind (wpAny_bind (wpAny_onRaise (wpAny_bind (D1.item k { s with heap := h1 } _ _ hk s11 fun x h2 t2 px s12 b2 => wpAny_pure ?_))))
  have k2 : ∀ c o, c ≠ i1 → h1.get? c = some o → h2.get? c = some o := fun c o hc e => (b2.2 c hc).trans e
  have ne1 : ∀ {c : Addr}, c ∉ f1 → c ≠ i1 := fun hc y => hc (y ▸ ap.m1)
  have ne2 : ∀ {c : Addr}, c ∉ f2 → c ≠ i2 := fun hc y => hc (y ▸ ap.m2)
  have hO2 := hO1.keep (h' := h2) fun o e => k2 TO o (ne1 ap.o1) e
  have hI2 := hI1.keep (h' := h2) fun o e => k2 TI o ap.n1 e
  have z2 := k2 z _ (ne1 ap.z1) z1'
  have s22 := D2.frame _ _ h2 s21 fun c hc o e => k2 c o (fun y => ap.x12 (y ▸ hc)) e
  obtain ⟨nO, eO⟩ := id hO2
  refine wpAny_bind (m := seqItems? (.ref TO)) (wpAny_seqItems eO rfl ?_)
  refine wpAny_bind (two_put (s := { s with heap := h2, toks := t2 }) (c := x) (d := b) hO2 rfl fun h3 hO3 b3 => wpAny_bind (wpAny_letGo (wpAny_pure ?_)))
  have k3 : ∀ c o, c ≠ TO → h2.get? c = some o → h3.get? c = some o := fun c o hc e => (b3.2 c hc).trans e
  have hI3 := hI2.keep (h' := h3) fun o e => k3 TI o ap.io e
  have z3 := k3 z _ ap.zTO z2
  have s13 := D1.frame _ _ h3 s12 fun c hc o e => k3 c o (fun y => ap.o1 (y ▸ hc)) e
  have s23 := D2.frame _ _ h3 s22 fun c hc o e => k3 c o (fun y => ap.o2 (y ▸ hc)) e
  show wpAny _ _ (forIn [(Value.ref i2, 1)] _ _) _ _ _
  rw [List.forIn_cons]
  refine wpAny_bind (wpAny_bind (wpAny_onRaise (wpAny_bind (D2.item k { s with heap := h3, toks := t2 } _ _ hk s23 fun y h4 t4 py s24 b4 => wpAny_pure ?_))))
  have k4 : ∀ c o, c ≠ i2 → h3.get? c = some o → h4.get? c = some o := fun c o hc e => (b4.2 c hc).trans e
  have hO4 := hO3.keep (h' := h4) fun o e => k4 TO o (ne2 ap.o2) e
  have hI4 := hI3.keep (h' := h4) fun o e => k4 TI o ap.n2 e
  have z4 := k4 z _ (ne2 ap.z2) z3
  have s14 := D1.frame _ _ h4 s13 fun c hc o e => k4 c o (fun y => ap.x21 (y ▸ hc)) e
  obtain ⟨nO4, eO4⟩ := id hO4
  refine wpAny_bind (m := seqItems? (.ref TO)) (wpAny_seqItems eO4 rfl ?_)
  refine wpAny_bind (two_put (s := { s with heap := h4, toks := t4 }) (c := x) (d := y) hO4 rfl fun h5 hO5 b5 => wpAny_bind (wpAny_letGo (wpAny_pure ?_)))
  have k5 : ∀ c o, c ≠ TO → h4.get? c = some o → h5.get? c = some o := fun c o hc e => (b5.2 c hc).trans e
  have hI5 := hI4.keep (h' := h5) fun o e => k5 TI o ap.io e
  have z5 := k5 z _ ap.zTO z4
  have s15 := D1.frame _ _ h5 s14 fun c hc o e => k5 c o (fun y => ap.o1 (y ▸ hc)) e
  have s25 := D2.frame _ _ h5 s24 fun c hc o e => k5 c o (fun y => ap.o2 (y ▸ hc)) e
  show wpAny _ _ (forIn [] _ _) _ _ _
  rw [List.forIn_nil]
  refine wpAny_pure ?_
  obtain ⟨nO5, eO5⟩ := id hO5
  refine wpAny_bind (m := seqItems? (.ref TO)) (wpAny_seqItems eO5 rfl ?_)
  refine wpAny_bind (wpAny_newTuple ?_ (by simp [sizeLine]))
  have kp : ∀ c o, h5.get? c = some o → (h5.push { cls := .type "tuple", data := .seq #[x, y] }).get? c = some o := fun c o e => Heap.get?_push_of_some _ e
  unfold Builtin.SmallTypes.ownedTupleHandOut
  refine wpAny_bind (wpAny_bind (wpAny_setField_rec (s := { s with heap := h5.push { cls := .type "tuple", data := .seq #[x, y] }, toks := t4 }) (kp z _ z5) (by simp) fun h6 z6 b6 => wpAny_setField_rec (s := { s with heap := h6, toks := t4 }) z6 (by simp) fun h7 z7 b7 => wpAny_pure ⟨_, rfl, ?_⟩))
  have sz : h5.objs.size = s.heap.objs.size := by rw [b5.1, b4.1, b3.1, b2.1, b1.1]
  have zlt : z < h5.objs.size := Heap.lt_size z5
  have k7 : ∀ c o, c ≠ z → h5.get? c = some o → h7.get? c = some o := fun c o hc e => (b7.2 c hc).trans ((b6.2 c hc).trans (kp c o e))
  refine q x y h5.objs.size h7 t4 px py (by rw [sz]; exact Nat.le_refl _) ?_ z7 (hI5.keep fun o e => k7 TI o ap.zTI.symm e) (hO5.keep fun o e => k7 TO o ap.zTO.symm e) (D1.frame _ _ h7 s15 fun c hc o e => k7 c o (fun y => ap.z1 (y ▸ hc)) e) (D2.frame _ _ h7 s25 fun c hc o e => k7 c o (fun y => ap.z2 (y ▸ hc)) e) ?_
  · refine ⟨{ cls := .type "tuple", data := .seq #[x, y] }, ?_, rfl, 0, rfl⟩
    have ne : h5.objs.size ≠ z := Nat.ne_of_gt zlt
    exact (b7.2 _ ne).trans ((b6.2 _ ne).trans (Heap.get?_push_size _ rfl))
  · intro c o c1 c2 c3 c4 e
    exact k7 c o c1 (k5 c o c2 (k4 c o c4 (k3 c o c2 (k2 c o c3 (k1 c o c1 e)))))
theorem zip_over {z TI TO i1 i2 : Addr} {n : Nat} {a b : Value} {P1 : Nat → Value → Prop} {S1 : Nat → Heap → Prop} {f1 f2 : List Addr} {Q : PySem.Fin → Shared → Prop} (ap : ZApart z TI TO i1 i2 f1 f2) (D1 : Draws prog w A.in1 i1 f1 n P1 S1)
    (hz : s.heap.get? z = some (zipRec TI TO .none)) (hI : TwoAt s.heap TI (.ref i1) (.ref i2)) (hO : TwoAt s.heap TO a b) (s1 : S1 n s.heap)
    (q : ∀ h' e, (∀ c o, c ≠ z → c ≠ i1 → s.heap.get? c = some o → h'.get? c = some o) → (∃ o, h'.get? e = some o ∧ o.cls = .type "StopIteration") → E (.ref e) { s with heap := h' }) :
    wpAny (model prog w) A.in1 (Builtin.«zip.__next__» ⟨[.ref z], []⟩) Q E s := by
  obtain ⟨nI, eI⟩ := id hI
  refine wpAny_bind (m := field (.ref z) 2) (wpAny_field hz rfl (x := .bool false) rfl (wpAny_bind (m := field (.ref z) 3) (wpAny_field hz rfl (x := .ref TI) rfl (wpAny_bind (m := seqItems? (.ref TI)) (wpAny_seqItems eI rfl ?_)))))
  refine wpAny_of_eq_if_neg (by simp) (wpAny_bind (m := Builtin.SmallTypes.ownedTupleIsFree (.ref z)) ?_)
  unfold Builtin.SmallTypes.ownedTupleIsFree
  refine wpAny_bind (m := field (.ref z) 0) (wpAny_field hz rfl (x := .none) rfl (wpAny_pure ?_))
  rw [if_pos rfl]
  refine wpAny_bind (wpAny_rule (wpAny_bind (m := field (.ref z) 4) (wpAny_field hz rfl (x := .ref TO) rfl (wpAny_bind (wpAny_setField_rec hz (by simp) fun h1 z1 b1 => ?_)))))
  have s11 := D1.frame _ _ h1 s1 fun c hc o e => (b1.2 c (fun y => ap.z1 (y ▸ hc))).trans e
  refine wpAny_bind (m := forIn [(Value.ref i1, 0), (Value.ref i2, 1)] _ _) ?_
  rw [List.forIn_cons]
  refine wpAny_bind (wpAny_bind (wpAny_onRaise (wpAny_bind (D1.done { s with heap := h1 } _ _ s11 fun h2 e eb so => ?_))))
  have zne : z ≠ i1 := fun y => ap.z1 (y ▸ ap.m1)
  have z2 : h2.get? z = some (zipRec TI TO .ellipsis) := eb z _ zne z1
  obtain ⟨oe, he, hce⟩ := so
  refine wpAny_setField_rec (s := { s with heap := h2 }) z2 (by simp) fun h3 z3 b3 => q h3 e (fun c o c1 c2 x => (b3.2 c c1).trans (eb c o c2 ((b1.2 c c1).trans x))) ⟨oe, ?_, hce⟩
  have ez : e ≠ z := fun y => by
    rw [y, z2] at he
    cases he
    exact absurd (Value.type.inj (show Value.type "zip" = Value.type "StopIteration" from hce)) (by decide)
  exact (b3.2 e ez).trans he
theorem zip_self {z TI TO : Addr} {f0 : Value} {Q : Value → Shared → Prop} (hz : s.heap.get? z = some (zipRec TI TO f0)) (h : Q (.ref z) s) : wpAny (model prog w) A (pyIter (.ref z)) Q E s := wpAny_pyIter_zip hz h
theorem walks_zip (hh : A.handled = none) {z TI TO i1 i2 : Addr} {n : Nat} {P1 P2 : Nat → Value → Prop} {S1 S2 : Nat → Heap → Prop} {f1 f2 : List Addr} (ap : ZApart z TI TO i1 i2 f1 f2)
    (D1 : Draws prog w A.in1 i1 f1 n P1 S1) (D2 : Draws prog w A.in1 i2 f2 n P2 S2) :
    WalksT prog w A z (z :: TI :: TO :: (f1 ++ f2)) [z, TI, TO, i1, i2] n (fun k vals => ∃ x y, P1 k x ∧ P2 k y ∧ vals = #[x, y])
      (fun k h => h.get? z = some (zipRec TI TO .none) ∧ TwoAt h TI (.ref i1) (.ref i2) ∧ (∃ a b, TwoAt h TO a b) ∧ S1 k h ∧ S2 k h)
      (fun k T h => h.get? z = some (zipRec TI TO (rawInt T)) ∧ TwoAt h TI (.ref i1) (.ref i2) ∧ (∃ a b, TwoAt h TO a b) ∧ S1 (k + 1) h ∧ S2 (k + 1) h ∧ T ≠ z ∧ T ≠ TI ∧ T ≠ TO ∧ T ≠ i1 ∧ T ≠ i2) where
  sub := fun c hc => by
    have hc' : c = z ∨ c = TI ∨ c = TO ∨ c = i1 ∨ c = i2 := by simpa using hc
    rcases hc' with e | e | e | e | e <;> subst e
    · simp
    · simp
    · simp
    · simp [ap.m1]
    · simp [ap.m2]
  frame := fun k h h' st kp => by
    obtain ⟨a1, a2, ⟨a, b, a3⟩, a4, a5⟩ := st
    exact ⟨kp z (by simp) _ a1, a2.keep fun o e => kp TI (by simp) o e, ⟨a, b, a3.keep fun o e => kp TO (by simp) o e⟩, D1.frame _ _ _ a4 fun c hc o e => kp c (by simp [hc]) o e, D2.frame _ _ _ a5 fun c hc o e => kp c (by simp [hc]) o e⟩
  item := fun k s Q E hk st q => by
    obtain ⟨a1, a2, ⟨a, b, a3⟩, a4, a5⟩ := st
    have ty : s.TypeIs (.ref z) "zip" := ⟨_, a1, rfl⟩
    unfold pyNext
    refine wpAny_bind (wpAny_attempt (wpAny_callSpecial?_slot (name := Str.ofString "__next__") ty F.slot_zip_next (wpAny_call_entry F.slot_zip_next ty F.entry_zip_next (zip_more ap D1 D2 hk a1 a2 a3 a4 a5 fun x y T h' tk px py hT tup b1 b2 b3 b4 b5 kp => ?_) (F.args_zip_next_1 _))))
    have lt : ∀ {c : Addr} {o : Obj}, s.heap.get? c = some o → T ≠ c := fun e => Nat.ne_of_gt (Nat.lt_of_lt_of_le (Heap.lt_size e) hT)
    obtain ⟨o1, e1⟩ := D1.live _ _ a4
    obtain ⟨o2, e2⟩ := D2.live _ _ a5
    obtain ⟨n3, e3⟩ := a3
    obtain ⟨n4, e4⟩ := id a2
    refine wpAny_pure (q T #[x, y] h' tk ⟨x, y, px, py, rfl⟩ hT tup ⟨b1, b2, ⟨x, y, b3⟩, b4, b5, lt a1, lt e4, lt e3, lt e1, lt e2⟩ fun c o hc e => ?_)
    exact kp c o (fun z => hc (by simp [z])) (fun z => hc (by simp [z])) (fun z => hc (by simp [z])) (fun z => hc (by simp [z])) e
  go := fun es k0 pos k T s Q E st q => by
    obtain ⟨a1, a2, a3, a4, a5, t1, t5, t2, t3, t4⟩ := st
    refine wpAny_letOwnedTupleGo_zip a1 fun h' hz' sb => ?_
    have kp : ∀ c o, c ≠ z → s.heap.get? c = some o → h'.get? c = some o := fun c o hc e => (sb.2 c hc).trans e
    obtain ⟨a, b, a3⟩ := a3
    refine q h' ⟨hz', a2.keep fun o e => kp TI o ap.zTI.symm e, ⟨a, b, a3.keep fun o e => kp TO o ap.zTO.symm e⟩, D1.frame _ _ _ a4 fun c hc o e => kp c o (fun y => ap.z1 (y ▸ hc)) e, D2.frame _ _ _ a5 fun c hc o e => kp c o (fun y => ap.z2 (y ▸ hc)) e⟩ fun c o hc e => kp c o (fun y => hc (by simp [y])) e
  apart := fun k T h st hT => by
    obtain ⟨_, _, _, _, _, t1, t5, t2, t3, t4⟩ := st
    have hT' : T = z ∨ T = TI ∨ T = TO ∨ T = i1 ∨ T = i2 := by simpa using hT
    rcases hT' with e | e | e | e | e
    · exact t1 e
    · exact t5 e
    · exact t2 e
    · exact t3 e
    · exact t4 e
  done := fun s Q E st q => by
    obtain ⟨a1, a2, ⟨a, b, a3⟩, a4, a5⟩ := st
    have ty : s.TypeIs (.ref z) "zip" := ⟨_, a1, rfl⟩
    unfold pyNext
    refine wpAny_bind (wpAny_attempt (wpAny_callSpecial?_slot (name := Str.ofString "__next__") ty F.slot_zip_next (wpAny_call_entry F.slot_zip_next ty F.entry_zip_next (zip_over ap D1 a1 a2 a3 a4 fun h' e kp so => ?_) (F.args_zip_next_1 _))))
    obtain ⟨o, ho, hc⟩ := so
    refine wpAny_bind (wpAny_isInstance (T := "StopIteration") (b := true) ⟨o, ho, hc⟩ isSubtype_stop (wpAny_pure (q h' s.toks fun c o hc e => ?_)))
    exact kp c o (fun y => hc (by simp [y])) (fun y => hc (by simp [y])) e
  self := fun k s Q E st h => zip_self st.1 h
end
end L2
namespace L2
open PySem PySem.Spec PyProof.Rows
noncomputable abbrev twoRec (a b : Value) : Obj := { cls := .type "tuple", data := .seq #[a, b] }
noncomputable abbrev zh2 (h : Heap) (o1 o2 : Obj) : Heap := (h.push o1).push o2
noncomputable abbrev zh4 (h : Heap) (o1 o2 : Obj) : Heap := ((zh2 h o1 o2).push (twoRec (.ref h.objs.size) (.ref (h.push o1).objs.size))).push (twoRec .none .none)
noncomputable abbrev zh5 (h : Heap) (o1 o2 : Obj) : Heap := (zh4 h o1 o2).push (zipRec (zh2 h o1 o2).objs.size ((zh2 h o1 o2).push (twoRec (.ref h.objs.size) (.ref (h.push o1).objs.size))).objs.size .none)
theorem zip_any (v1 v2 : Value) (o1 o2 : Obj) (g1 g2 : Heap → Prop) (g2p : ∀ h, g2 h → g2 (h.push o1))
    (w1 : ∀ (prog : Program) (w : World) (A : Around) (E : Value → Shared → Prop) (s : Shared) (Q : Value → Shared → Prop), g1 s.heap → Q (.ref s.heap.objs.size) { s with heap := s.heap.push o1 } → wpAny (model prog w) A (pyIter v1) Q E s)
    (w2 : ∀ (prog : Program) (w : World) (A : Around) (E : Value → Shared → Prop) (s : Shared) (Q : Value → Shared → Prop), g2 s.heap → Q (.ref s.heap.objs.size) { s with heap := s.heap.push o2 } → wpAny (model prog w) A (pyIter v2) Q E s) :
    Meets (Builtin.«zip.__new__» ⟨[.type "zip", v1, v2], []⟩) (fun _ R s => g1 s.heap ∧ g2 s.heap ∧ R (.ok (.ret (.ref (zh4 s.heap o1 o2).objs.size))) { s with heap := zh5 s.heap o1 o2 }) := by
  refine .of_wp fun prog w A R s ⟨x1, x2, q⟩ => ?_
  have own := sub_zip
  have walk1 : ∀ (A : Around) (E : Value → Shared → Prop) (Q : Value → Shared → Prop), Q (.ref s.heap.objs.size) { s with heap := s.heap.push o1 } → wpAny (model prog w) A (pyIter v1) Q E s := fun A E Q z => w1 prog w A E s Q x1 z
  have walk2 : ∀ (A : Around) (E : Value → Shared → Prop) (Q : Value → Shared → Prop), Q (.ref (s.heap.push o1).objs.size) { s with heap := zh2 s.heap o1 o2 } → wpAny (model prog w) A (pyIter v2) Q E { s with heap := s.heap.push o1 } := fun A E Q z => w2 prog w A E { s with heap := s.heap.push o1 } Q (g2p _ x2) z
  obtain ⟨hp, gs, dr, tk, os⟩ := s
  wp_walk using walk1, walk2
  exact ⟨_, rfl, q⟩
noncomputable def zSrc (xs ys : List V) (i : Nat) : List V := [xs.getD i .non, ys.getD i .non]
theorem zSrc_vals {xs ys : List V} {its jts : List Value} (r : Vals xs its) (r2 : Vals ys jts) {i : Nat} {vals : Array Value} (h : ∃ x y, its.toArray[i]? = some x ∧ jts.toArray[i]? = some y ∧ vals = #[x, y]) : Vals (zSrc xs ys i) vals.toList := by
  obtain ⟨x, y, hx, hy, rfl⟩ := h
  have one : ∀ {zs : List V} {us : List Value} {u : Value}, Vals zs us → us.toArray[i]? = some u → RelV (zs.getD i .non) u := fun {zs us u} rz hu => by
    have hu' : us[i]? = some u := by simpa using hu
    have hl := rz.length
    have lt : i < zs.length := by have := (List.getElem?_eq_some_iff.mp hu').1; omega
    obtain ⟨u', e1, e2⟩ := rz.get (show zs[i]? = some zs[i] by simp [lt])
    rw [hu'] at e1; cases e1
    simpa [List.getD, lt] using e2
  exact .cons (one r hx) (.cons (one r2 hy) .nil)
theorem turn_zipT {P : Program} {w : World} {K : PySem.W.Frag} {es : List Expr} {k0 : Nat} {pos : Pos} (a b z TI TO i1 i2 : Addr) (xs ys : List V) (hl : ys.length = xs.length) (ap : ZApart z TI TO i1 i2 [i1, a] [i2, b]) (h1 : a ≠ i1) (h2 : b ≠ i2) :
    Turn P w K (.Tuple es k0 pos) (ItP K xs.length (zSrc xs ys) fun K H => SqT K H a xs ∧ SqT K H b ys) [z, TI, TO, i1, i2] z (fun i h => h.get? z = some (zipRec TI TO .none) ∧ TwoAt h TI (.ref i1) (.ref i2) ∧ (∃ c d, TwoAt h TO c d) ∧ h.IsTupleIter i1 a i ∧ h.IsTupleIter i2 b i) := by
  refine turn_pairs (ι := List Value × List Value) (good := fun p => Vals xs p.1 ∧ Vals ys p.2) (Pt := fun p i vals => ∃ x y, p.1.toArray[i]? = some x ∧ p.2.toArray[i]? = some y ∧ vals = #[x, y])
    (Sw := fun p i h => h.get? z = some (zipRec TI TO .none) ∧ TwoAt h TI (.ref i1) (.ref i2) ∧ (∃ c d, TwoAt h TO c d) ∧ (h.IsTupleIter i1 a i ∧ h.IsTuple a p.1.toArray) ∧ (h.IsTupleIter i2 b i ∧ h.IsTuple b p.2.toArray))
    (Mid := fun p i T h => h.get? z = some (zipRec TI TO (rawInt T)) ∧ TwoAt h TI (.ref i1) (.ref i2) ∧ (∃ c d, TwoAt h TO c d) ∧ (h.IsTupleIter i1 a (i + 1) ∧ h.IsTuple a p.1.toArray) ∧ (h.IsTupleIter i2 b (i + 1) ∧ h.IsTuple b p.2.toArray) ∧ T ≠ z ∧ T ≠ TI ∧ T ≠ TO ∧ T ≠ i1 ∧ T ≠ i2)
    (fp := z :: TI :: TO :: ([i1, a] ++ [i2, b]))
    (fun A hA p r => ?walk) List.mem_cons_self (fun p i vals r h => zSrc_vals r.1 r.2 h) (fun i => (by show 2 ≤ sizeLine; decide)) (fun i h st => ?obj) (fun i h h' st k => ?keep) (fun X pins σ H s i hP hw hK I hc st => ?into) (fun p i h st => ⟨st.1, st.2.1, st.2.2.1, st.2.2.2.1.1, st.2.2.2.2.1⟩) (fun A i s Q E st h => zip_self st.1 h)
  case walk =>
    have l1 : p.1.toArray.size = xs.length := by rw [List.size_toArray]; exact r.1.length.symm
    have l2 : p.2.toArray.size = xs.length := by rw [List.size_toArray, ← hl]; exact r.2.length.symm
    have D1 := draws_tup (prog := P) (w := w) (A := A.in1) hA i1 a h1 p.1.toArray
    have D2 := draws_tup (prog := P) (w := w) (A := A.in1) hA i2 b h2 p.2.toArray
    rw [l1] at D1
    rw [l2] at D2
    exact walks_zip hA ap D1 D2
  case obj =>
    intro c hc
    obtain ⟨a1, ⟨n1, a2⟩, ⟨c0, d0, n2, a3⟩, ⟨o4, a4, _, d4⟩, ⟨o5, a5, _, d5⟩⟩ := st
    have hc' : c = z ∨ c = TI ∨ c = TO ∨ c = i1 ∨ c = i2 := by simpa using hc
    rcases hc' with e | e | e | e | e <;> subst e
    · exact ⟨_, a1, fun v q => by cases q⟩
    · exact ⟨_, a2, fun v q => by cases q⟩
    · exact ⟨_, a3, fun v q => by cases q⟩
    · exact ⟨_, a4, fun v q => by rw [d4] at q; cases q⟩
    · exact ⟨_, a5, fun v q => by rw [d5] at q; cases q⟩
  case keep =>
    obtain ⟨a1, a2, ⟨c0, d0, a3⟩, ⟨o4, a4, r4⟩, ⟨o5, a5, r5⟩⟩ := st
    exact ⟨k z (by simp) _ a1, a2.keep fun o e => k TI (by simp) o e, ⟨c0, d0, a3.keep fun o e => k TO (by simp) o e⟩, ⟨o4, k i1 (by simp) o4 a4, r4⟩, ⟨o5, k i2 (by simp) o5 a5, r5⟩⟩
  case into =>
    subst hK
    obtain ⟨c1, c2⟩ := hc
    obtain ⟨a1, a2, a3, a4, a5⟩ := st
    obtain ⟨its, r, p, _⟩ := I.tuple c1
    obtain ⟨jts, r2, p2, _⟩ := I.tuple c2
    exact ⟨(its, jts), ⟨r, r2⟩, a1, a2, a3, ⟨a4, p⟩, ⟨a5, p2⟩⟩
section
variable {X : Cx} {es : List Expr} {k0 : Nat} {tpos : Pos}
theorem boot_zip : bootBuiltins "zip" = some (.type "zip") := by decide +kernel
noncomputable def iZipT (K : PySem.W.Frag) (ta : TA) : TI := fun σ H R => ta σ H fun vs H1 => ∃ a b xs ys, vs = [.ref a, .ref b] ∧ SqT K H1 a xs ∧ SqT K H1 b ys ∧ ys.length = xs.length ∧ R (ItP K xs.length (zSrc xs ys) fun K H => SqT K H a xs ∧ SqT K H b ys) H1
end
end L2
namespace L2
open PySem PySem.Spec PyProof.Rows
section
variable {X : Cx} {es : List Expr} {k0 : Nat} {tpos : Pos}
theorem nin {n l c : Nat} (h1 : c ≠ n) (h2 : c ≠ l) : c ∉ ([n, l] : List Nat) := fun h => by
  have h' : c = n ∨ c = l := by simpa using h
  exact h'.elim h1 h2
theorem zap (n l m : Nat) (hl : l < n) (hm : m < n) : ZApart (n + 4) (n + 2) (n + 3) n (n + 1) [n, l] [n + 1, m] where
  zTI := (by omega : ¬ (n + 4 : Nat) = n + 2)
  zTO := (by omega : ¬ (n + 4 : Nat) = n + 3)
  io := (by omega : ¬ (n + 2 : Nat) = n + 3)
  z1 := nin (by omega) (by omega)
  z2 := nin (by omega) (by omega)
  o1 := nin (by omega) (by omega)
  o2 := nin (by omega) (by omega)
  n1 := (by omega : ¬ (n + 2 : Nat) = n)
  n2 := (by omega : ¬ (n + 2 : Nat) = n + 1)
  m1 := List.mem_cons_self
  m2 := List.mem_cons_self
  x12 := nin (by omega) (by omega)
  x21 := nin (by omega) (by omega)
theorem five_fp {pins : List (Addr × Obj)} {σ : St} {H : Hp} {s : Shared} (I : Inv X pins σ H s) (c : Addr) (hc : s.heap.objs.size ≤ c) : FpOk X pins H c := I.fpOk hc (I.hok.fresh hc)
theorem pi_zipT {a b : Expr} {ta : TA} {p pos : Pos} (hg : Gl X "zip") (hm : X.mg "zip" = none) (ha : PA X [a, b] ta) (hs : starEach [a, b] X.env = (false, eval a X.env) :: starEach [b] X.env) (hpl : (backTo pos (starEach [b] X.env)).any (·.1) = false) :
    PI X (.Tuple es k0 tpos) (.Call (.Name "zip" p) [a, b] [] pos) (iZipT X.K ta) := by
  intro pins s σ H R I h
  refine Call_ (ld_blt I hg hm boot_zip (PyProof.Rows.callWith_type1 (thn (ha pos pins s σ H _ I h) fun us s1 ⟨vs, H1, I1, r1, q1⟩ => ?_) hs hpl))
  obtain ⟨l, m, xs, ys, ev, hx, hy, hl, q⟩ := q1
  subst ev
  obtain ⟨u1, u2, eu, ru1, ru2⟩ := Vals.two r1
  subst eu
  cases ru1
  cases ru2
  obtain ⟨its, rx, px, _⟩ := I1.tuple hx
  obtain ⟨jts, ry, py, _⟩ := I1.tuple hy
  have ltl : l < s1.heap.objs.size := by obtain ⟨o, e, _⟩ := px; exact Heap.lt_size e
  have ltm : m < s1.heap.objs.size := by obtain ⟨o, e, _⟩ := py; exact Heap.lt_size e
  have new := zip_any (.ref l) (.ref m) { cls := .type "tuple_iterator", data := .fields #[.ref l, .int 0 0] } { cls := .type "tuple_iterator", data := .fields #[.ref m, .int 0 0] } (fun h => h.IsTuple l its.toArray) (fun h => h.IsTuple m jts.toArray) (fun h x => x.push _) (fun _ _ _ _ _ _ g z => wpAny_pyIter_tuple g z) (fun _ _ _ _ _ _ g z => wpAny_pyIter_tuple g z)
  refine callType_new F.called_zip (by decide) (F.typeCall_zip_2 _ _) (F.newCall_zip_2 _ _) (fun obj => F.args_object_init_3 obj _ _) F.entry_zip_new new ⟨px, py, ?_⟩
  generalize ho1 : ({ cls := .type "tuple_iterator", data := .fields #[.ref l, .int 0 0] } : Obj) = o1
  generalize ho2 : ({ cls := .type "tuple_iterator", data := .fields #[.ref m, .int 0 0] } : Obj) = o2
  have n1 : (s1.heap.push o1).objs.size = s1.heap.objs.size + 1 := Heap.size_push ..
  have n2 : (zh2 s1.heap o1 o2).objs.size = s1.heap.objs.size + 2 := by rw [Heap.size_push, n1]
  have n3 : ((zh2 s1.heap o1 o2).push (twoRec (.ref s1.heap.objs.size) (.ref (s1.heap.push o1).objs.size))).objs.size = s1.heap.objs.size + 3 := by rw [Heap.size_push, n2]
  have n4 : (zh4 s1.heap o1 o2).objs.size = s1.heap.objs.size + 4 := by rw [Heap.size_push, n3]
  have kp : ∀ c o, s1.heap.get? c = some o → (zh5 s1.heap o1 o2).get? c = some o := fun c o e => Heap.get?_push_of_some _ (Heap.get?_push_of_some _ (Heap.get?_push_of_some _ (Heap.get?_push_of_some _ (Heap.get?_push_of_some _ e))))
  have f1 : o1.isFreed = false := by rw [← ho1]; rfl
  have f2 : o2.isFreed = false := by rw [← ho2]; rfl
  have a1 : (zh5 s1.heap o1 o2).get? s1.heap.objs.size = some o1 := Heap.get?_push_of_some _ (Heap.get?_push_of_some _ (Heap.get?_push_of_some _ (Heap.get?_push_of_some _ (Heap.get?_push_size _ f1))))
  have a2 : (zh5 s1.heap o1 o2).get? (s1.heap.objs.size + 1) = some o2 := by rw [← n1]; exact Heap.get?_push_of_some _ (Heap.get?_push_of_some _ (Heap.get?_push_of_some _ (Heap.get?_push_size _ f2)))
  have a3 : (zh5 s1.heap o1 o2).get? (s1.heap.objs.size + 2) = some (twoRec (.ref s1.heap.objs.size) (.ref (s1.heap.objs.size + 1))) := by
    rw [← n1, ← n2]
    exact Heap.get?_push_of_some _ (Heap.get?_push_of_some _ (Heap.get?_push_size _ rfl))
  have a4 : (zh5 s1.heap o1 o2).get? (s1.heap.objs.size + 3) = some (twoRec .none .none) := by
    rw [← n3]
    exact Heap.get?_push_of_some _ (Heap.get?_push_size _ rfl)
  have a5 : (zh5 s1.heap o1 o2).get? (s1.heap.objs.size + 4) = some (zipRec (s1.heap.objs.size + 2) (s1.heap.objs.size + 3) .none) := by
    rw [← n4, ← n2, ← n3]
    exact Heap.get?_push_size _ rfl
  show _ ∧ _
  rw [n4]
  refine ⟨⟨_, a5, rfl⟩, zip_self a5 ?_⟩
  refine ⟨s1.heap.objs.size + 4, [s1.heap.objs.size + 4, s1.heap.objs.size + 2, s1.heap.objs.size + 3, s1.heap.objs.size, s1.heap.objs.size + 1], _, _, H1, rfl, I1.kept (t' := s1.toks) kp,
    turn_zipT l m (s1.heap.objs.size + 4) (s1.heap.objs.size + 2) (s1.heap.objs.size + 3) s1.heap.objs.size (s1.heap.objs.size + 1) xs ys hl (zap _ l m ltl ltm) (Nat.ne_of_lt ltl) (Nat.ne_of_lt (Nat.lt_succ_of_lt ltm)), ⟨a5, ⟨_, a3⟩, ⟨_, _, _, a4⟩, ⟨o1, a1, by rw [← ho1], by rw [← ho1]; rfl⟩, ⟨o2, a2, by rw [← ho2], by rw [← ho2]; rfl⟩⟩, fun c hc => five_fp I1 c ?_, q⟩
  have hc' : c = s1.heap.objs.size + 4 ∨ c = s1.heap.objs.size + 2 ∨ c = s1.heap.objs.size + 3 ∨ c = s1.heap.objs.size ∨ c = s1.heap.objs.size + 1 := by simpa using hc
  rcases hc' with e | e | e | e | e <;> subst e <;> first | exact Nat.le_refl _ | exact Nat.le_add_right _ _
end
end L2
namespace Mi
open PySem L2
section
variable {X : Cx} {a b : Expr} {es : List Expr} {pos : Pos}
noncomputable def zipD : List D → List D → List D
  | x :: xs, y :: ys => .tup [x, y] :: zipD xs ys
  | _, _ => []
noncomputable def zipArgs : List D → M (List D)
  | [.tup xs, .tup ys] => fun μ => if ys.length = xs.length then some (zipD xs ys, μ) else none
  | _ => fail
noncomputable def mZip (m : Sl → M (List D)) : Sl → M (List D) := fun τ => bnd (m τ) zipArgs
theorem zipD_len : ∀ {xs ys : List D}, ys.length = xs.length → (zipD xs ys).length = xs.length
  | [], [], _ => rfl
  | x :: xs, y :: ys, h => by unfold zipD; simp at h ⊢; exact zipD_len h
  | [], _ :: _, h => by simp at h
  | _ :: _, [], h => by simp at h
theorem zipD_get : ∀ {xs ys : List D} {j : Nat} {d : D}, (zipD xs ys)[j]? = some d → ∃ x y, xs[j]? = some x ∧ ys[j]? = some y ∧ d = .tup [x, y]
  | [], _, j, d, h => by simp [zipD] at h
  | _ :: _, [], j, d, h => by simp [zipD] at h
  | x :: xs, y :: ys, 0, d, h => by simp [zipD] at h; exact ⟨x, y, rfl, rfl, h.symm⟩
  | x :: xs, y :: ys, j + 1, d, h => by
    obtain ⟨x', y', h1, h2, h3⟩ := zipD_get (xs := xs) (ys := ys) (j := j) (d := d) (by simpa [zipD] using h)
    exact ⟨x', y', by simpa using h1, by simpa using h2, h3⟩
theorem itm_zip {K : PySem.W.Frag} {ι : Nat → Addr} {μ : Mh} {H : Hp} {vs ws : List V} {ds es : List D} {Cond : PySem.W.Frag → Hp → Prop} (st : ∀ ι' (μ' : Mh) H', Ext ι μ.length H ι' μ'.length H' → RelH K ι' μ' H' → Cond K H') (i : IsL K ι μ.length H ds vs) (j : IsL K ι μ.length H es ws) (hl : es.length = ds.length) :
    ItM K (ItP K vs.length (zSrc vs ws) Cond) (zipD ds es) ι μ H := by
  intro ι' μ' H' E R
  have h := st ι' μ' H' E R
  rw [zipD_len hl, ← i.length]
  refine ⟨fun j hj => ⟨hj, h⟩, ⟨rfl, h⟩, fun k x H2 d hd y => ?_⟩
  obtain ⟨T, hT, rfl, rfl⟩ := y
  obtain ⟨E2, R2⟩ := R.laid (.tup (zSrc vs ws k)) hT
  refine ⟨E2, R2, ?_⟩
  obtain ⟨x, y, h1, h2, rfl⟩ := zipD_get hd
  obtain ⟨v, ev, iv⟩ := (i.ext E).get h1
  obtain ⟨u, eu, iu⟩ := (j.ext E).get h2
  have es' : zSrc vs ws k = [v, u] := by unfold zSrc; simp [List.getD, ev, eu]
  have key : IsL K ι' (List.length μ') (upd H' T (.tup (zSrc vs ws k))) [x, y] [v, u] := .cons (iv.ext E2) (.one (iu.ext E2))
  unfold Is
  exact ⟨T, _, rfl, SqT.of upd_same, (congrArg (IsL K ι' (List.length μ') (upd H' T (.tup (zSrc vs ws k))) [x, y]) es').mpr key⟩
theorem ri_zipT {p tpos : Pos} {k0 : Nat} {m : Sl → M (List D)} (hm : X.mg "zip" = none) (ha : RA X [a, b] m) (hg : Gl X "zip" := by rfl) (hs : starEach [a, b] X.env = (false, eval a X.env) :: starEach [b] X.env := by exact star_cons rfl) (hpl : (backTo pos (starEach [b] X.env)).any (·.1) = false := by exact star_plain rfl) :
    RI X (.Tuple es k0 tpos) (.Call (.Name "zip" p) [a, b] [] pos) (mZip m) :=
  RI.wk (pi_zipT hg hm ha.pe hs hpl) fun σ H R q => by
    obtain ⟨ι, μ, τ, ds, μ', R0, S, e, q⟩ := q
    obtain ⟨xs, μ1, e1, e2⟩ := bnd_some e
    refine ⟨ι, μ, τ, xs, μ1, R0, S, e1, fun ι1 H1 E1 R1 vs i1 => ?_⟩
    unfold zipArgs at e2
    split at e2
    · rename_i xs ys
      split at e2
      · rename_i hl
        cases e2
        obtain ⟨v, u, rfl, i2, i3⟩ := isL2 i1
        unfold Is at i2 i3
        obtain ⟨p, ws, rfl, h1, h2⟩ := i2
        obtain ⟨p', ws', rfl, h1', h2'⟩ := i3
        exact ⟨p, p', ws, ws', rfl, h1, h1', by rw [h2.length, h2'.length]; exact hl, q ι1 H1 E1 R1 _ (itm_zip (fun ι' μ' H' E _ => ⟨sqT_ext E h1, sqT_ext E h1'⟩) h2 h2' hl)⟩
      · cases e2
    · cases e2
end
end Mi
namespace L2
open PySem PySem.Spec PyProof.Rows Sem
noncomputable def nubS (xs : List Str) : List Str := xs.foldl (fun ys x => if x ∈ ys then ys else ys ++ [x]) []
theorem nubS_snoc (xs : List Str) (x : Str) : nubS (xs ++ [x]) = if x ∈ nubS xs then nubS xs else nubS xs ++ [x] := by
  unfold nubS
  rw [List.foldl_append]
  rfl
theorem nubS_from : ∀ (xs ys : List Str), (xs.foldl (fun ys x => if x ∈ ys then ys else ys ++ [x]) ys).length ≤ ys.length + xs.length
  | [], ys => Nat.le_refl _
  | x :: xs, ys => by
    rw [List.foldl_cons]
    have := nubS_from xs (if x ∈ ys then ys else ys ++ [x])
    split at this <;> simp at this ⊢ <;> (try split) <;> simp_all <;> omega
theorem nubS_le (xs : List Str) : (nubS xs).length ≤ xs.length := by
  have := nubS_from xs []
  simpa [nubS] using this
section
variable {prog : Program} {w : World} {A : Around} {E : Value → Shared → Prop} {s : Shared}
theorem set_more {S : Addr} {xs : List Str} {x : Str} {t : Tok} {Q : Bool → Shared → Prop} (hS : s.heap.SetOf (strKind prog w) S (fun k => decide (k ∈ nubS xs)) (nubS xs).length) (room : xs.length + 2 < scanBound)
    (q : ∀ b h' tk, Heap.SameBut S s.heap h' → h'.SetOf (strKind prog w) S (fun k => decide (k ∈ nubS (xs ++ [x]))) (nubS (xs ++ [x])).length → Q b { s with heap := h', toks := tk }) :
    wpAny (model prog w) A (setAdd S (.str x t)) Q E s := by
  unfold setAdd
  refine wpAny_holding (wpAny_bind ((strKind prog w).pyHash (strKind_is prog w x t) ?_))
  have le := nubS_le xs
  refine wpAny_setAddHashed_of (knd := strKind prog w) (s := { s with toks := s.toks + 1 }) (strKind_is prog w x t) rfl hS (by omega) fun h' sb hS' => q _ h' _ sb ?_
  have e1 : (fun k' : Str => decide (k' ∈ nubS xs) || decide (k' = x)) = fun k' => decide (k' ∈ nubS (xs ++ [x])) := by
    funext k'
    rw [nubS_snoc]
    split
    · rename_i hx
      by_cases e : k' = x
      · subst e; simp [hx]
      · simp [e]
    · simp
  have e2 : (if decide (x ∈ nubS xs) = true then (nubS xs).length else (nubS xs).length + 1) = (nubS (xs ++ [x])).length := by
    rw [nubS_snoc]
    by_cases hx : x ∈ nubS xs <;> simp [hx]
  rw [e1, e2] at hS'
  exact hS'
theorem set_loop {I l S : Addr} {its : List Value} {ss : List Str} (hh : A.in1.handled = none) (hlI : l ≠ I) (hSI : S ≠ I) (hSl : S ≠ l) (rv : Vals (ss.map V.str) its) (room : ss.length + 2 < scanBound) {R : Result → Shared → Prop} :
    ∀ (m i : Nat) (s : Shared), ss.length - i = m → i ≤ ss.length → s.heap.IsListIter I l i → s.heap.IsList l its.toArray → s.heap.SetOf (strKind prog w) S (fun k => decide (k ∈ nubS (ss.take i))) (nubS (ss.take i)).length →
      (∀ h' tk, (∀ c o, c ≠ S → c ≠ I → s.heap.get? c = some o → h'.get? c = some o) → h'.SetOf (strKind prog w) S (fun k => decide (k ∈ nubS ss)) (nubS ss).length → R (.ok (.ret .none)) { s with heap := h', toks := tk }) →
      codeAny (model prog w) A (.builtin "set.update.loop" ⟨[.ref S, .ref I], []⟩) R s := by
  have hl : its.length = ss.length := by have := rv.length; simpa using this.symm
  have W := Walks.list (prog := prog) (w := w) hh I l hlI its.toArray
  intro m
  induction m with
  | zero =>
    intro i s hm hi hit hls hS q
    have ei : i = ss.length := by omega
    subst ei
    refine codeAny_builtin PyProof.Rows.F.entry_set_update_loop ?_
    rw [Around.under_plainId PyProof.Rows.F.plain_set_update_loop _]
    refine wpAny_bind (m := pyNext (.ref I)) (W.done s _ _ ⟨by rw [List.size_toArray, hl]; exact hit, hls⟩ fun h' tk kp => wpAny_pure ?_)
    rw [List.take_length] at hS
    obtain ⟨o, es, ep, tb, ho, rest⟩ := hS
    exact q h' tk (fun c o _ c2 e => kp c o (by simpa using c2) e) ⟨o, es, ep, tb, kp S o (by simpa using hSI) ho, rest⟩
  | succ m ih =>
    intro i s hm hi hit hls hS q
    have lt : i < ss.length := by omega
    refine codeAny_builtin PyProof.Rows.F.entry_set_update_loop ?_
    rw [Around.under_plainId PyProof.Rows.F.plain_set_update_loop _]
    refine wpAny_bind (m := pyNext (.ref I)) (W.item i s _ _ (by rw [List.size_toArray, hl]; exact lt) ⟨hit, hls⟩ fun v h' tk hv st kp => ?_)
    obtain ⟨u, eu, ru⟩ := rv.get (show (ss.map V.str)[i]? = some (V.str ss[i]) by simp [lt])
    have hv' : its[i]? = some v := by simpa using hv
    rw [eu] at hv'
    cases hv'
    obtain ⟨t, rfl⟩ := ru
    obtain ⟨o, es, ep, tb, ho, rest⟩ := hS
    have hS1 : h'.SetOf (strKind prog w) S (fun k => decide (k ∈ nubS (ss.take i))) (nubS (ss.take i)).length := ⟨o, es, ep, tb, kp S o (by simpa using hSI) ho, rest⟩
    refine wpAny_bind (wpAny_holding (set_more (s := { s with heap := h', toks := tk }) hS1 (by rw [List.length_take]; omega) fun b h2 t2 sb hS2 => ?_))
    have tk1 : ss.take i ++ [ss[i]] = ss.take (i + 1) := by rw [List.take_succ, List.getElem?_eq_getElem lt]; rfl
    rw [tk1] at hS2
    have k2 : ∀ c o, c ≠ S → h'.get? c = some o → h2.get? c = some o := fun c o hc e => (sb.2 c hc).trans e
    refine wpAny_pure ⟨plainId_quiet PyProof.Rows.F.plain_set_update_loop _, ih (i + 1) _ (by omega) lt (st.1.at fun o e => k2 I o hSI.symm e) (st.2.at fun o e => k2 l o hSl.symm e) hS2 fun h3 t3 kp3 hS3 => ?_⟩
    exact q h3 t3 (fun c o c1 c2 e => kp3 c o c1 c2 (k2 c o c1 (kp c o (by simpa using c2) e))) hS3
end
end L2
namespace L2
open PySem PySem.Spec PyProof.Rows Sem
section
variable {prog : Program} {w : World} {A : Around} {E : Value → Shared → Prop} {s : Shared}
set_option maxHeartbeats 2000000 in
theorem made_by {T nid iid : String} {args : List Value} {Q Q₁ : Value → Shared → Prop} (ft : TypeCalled T nid iid) (ok : checkTypeCall T ⟨args, []⟩ = pure ())
    (new : codeAny (model prog w) A.in1 (.call (.builtin nid) ⟨.type T :: args, []⟩) (wants Q₁ E) s)
    (init : ∀ x s₁, Q₁ x s₁ → s₁.TypeIs x T ∧ codeAny (model prog w) A.in1 (.call (.builtin iid) ⟨x :: args, []⟩) (wants (fun r s₂ => r = .none ∧ Q x s₂) E) s₁) :
    wpAny (model prog w) A (call (.type T) args) Q E s := by
  have a1 := ft.notType
  have a2 := ft.canCreate
  have a3 := ft.made
  have a4 := ft.sub
  obtain ⟨c, tl, a5⟩ := ft.mro
  have step : codeAny (model prog w) A (.builtin "type.__call__" ⟨.type T :: args, []⟩) (wants Q E) s := by
    refine codeAny_builtin F.entry_type_call ?_
    rw [Around.under_plain (weight_type_call_type T args []) rfl]
    unfold Builtin.«type.__call__»
    iterate 3 (any_goals (first | assumption | wp_step))
    first | refine wpAny_of_eq ok ?_ | refine wpAny_bind (wpAny_of_eq ok ?_)
    repeat (any_goals (first | assumption | wp_step))
    refine codeAny_mono new fun r s₁ hr => ?_
    match r, hr with
    | .error e, hr => exact hr
    | .ok (.ret x), hr =>
      obtain ⟨ty, run⟩ := init x s₁ hr
      have b1 := ft.init.lookup
      have b2 := ft.init.bind x
      repeat (any_goals (first | assumption | wp_step))
      refine codeAny_mono run fun r₂ s₂ hr₂ => ?_
      match r₂, hr₂ with
      | .error e, hr₂ => exact hr₂
      | .ok (.ret y), hr₂ =>
        obtain ⟨ey, hq⟩ := hr₂
        subst ey
        repeat (any_goals (first | assumption | wp_step))
  exact wpAny_call (codeAny_of_tree (wpAny_pure ⟨Code.quiet_builtin _ (by decide +kernel), step⟩))
noncomputable abbrev freshSet (led : Bool) : Obj := { cls := .type "set", data := .set #[] 0 (.fresh 0 0 led) }
set_option maxHeartbeats 2000000 in
theorem call_setS {l : Addr} {its : List Value} {ss : List Str} {Q : Value → Shared → Prop} (hh : A.handled = none) (hl : s.heap.IsList l its.toArray) (rv : Vals (ss.map V.str) its) (room : ss.length + 2 < scanBound)
    (q : ∀ h' tk, (∀ c o, s.heap.get? c = some o → h'.get? c = some o) → h'.SetOf (strKind prog w) s.heap.objs.size (fun k => decide (k ∈ nubS ss)) (nubS ss).length → Q (.ref s.heap.objs.size) { s with heap := h', toks := tk }) :
    wpAny (model prog w) A (call (.type "set") [.ref l]) Q E s := by
  refine made_by F.called_set (F.typeCall_set_1 _) (code_set_new_1 (.ref l) (Q₁ := fun x s₁ => ∃ led : Bool, x = .ref s.heap.objs.size ∧ s₁ = { s with heap := s.heap.push (freshSet led) }) fun led => ⟨led, rfl, rfl⟩) ?_
  rintro x s₁ ⟨led, rfl, rfl⟩
  have at_S : (s.heap.push (freshSet led)).get? s.heap.objs.size = some (freshSet led) := Heap.get?_push_size _ rfl
  have ty : Shared.TypeIs { s with heap := s.heap.push (freshSet led) } (.ref s.heap.objs.size) "set" := ⟨_, at_S, rfl⟩
  have lt : l < s.heap.objs.size := by obtain ⟨o, e, _⟩ := hl; exact Heap.lt_size e
  have hl1 : (s.heap.push (freshSet led)).IsList l its.toArray := hl.push _
  have tyl : Shared.TypeIs { s with heap := s.heap.push (freshSet led) } (.ref l) "list" := hl1.typeIs
  refine ⟨ty, codeAny_call_builtin F.called_set.init.plain F.entry_set_init (check_set_init_1 ty ?_)⟩
  have c1 := F.sub_list_set
  have c2 := F.sub_list_frozenset
  unfold Builtin.«set.__init__» noKeywords Builtin.Frozenset.updateFrom
  have walk : ∀ (A : Around) (E : Value → Shared → Prop) (Q : Value → Shared → Prop), Q (.ref (s.heap.push (freshSet led)).objs.size) { s with heap := (s.heap.push (freshSet led)).push { cls := .type "list_iterator", data := .fields #[.ref l, .int 0 0] } } → wpAny (model prog w) A (pyIter (.ref l)) Q E { s with heap := s.heap.push (freshSet led) } := fun A E Q z => wpAny_pyIter_list hl1 z
  wp_walk using walk
  have sz : (s.heap.push (freshSet led)).objs.size = s.heap.objs.size + 1 := Heap.size_push ..
  refine set_loop (l := l) (ss := ss) (A := A.in1.in1) (by simp [hh]) (by rw [sz]; exact Nat.ne_of_lt (Nat.lt_succ_of_lt lt)) (by rw [sz]; exact Nat.ne_of_lt (Nat.lt_succ_self _)) (Nat.ne_of_gt lt) rv room ss.length 0 _ (Nat.sub_zero _) (Nat.zero_le _) ⟨_, Heap.get?_push_size _ rfl, rfl, rfl⟩ (hl1.push _) ?start fun h' tk kp hS => ?fin
  case start =>
    exact (setObjOf_fresh (knd := strKind prog w) led).setOf (Heap.get?_push_of_some _ at_S) (by decide)
  case fin =>
    have ltS : ∀ {c : Addr} {o : Obj}, s.heap.get? c = some o → c < s.heap.objs.size := fun e => Heap.lt_size e
    exact wpAny_pure (wpAny_pure ⟨rfl, q h' tk (fun c o e => kp c o (Nat.ne_of_lt (ltS e)) (by rw [sz]; exact Nat.ne_of_lt (Nat.lt_succ_of_lt (ltS e))) (Heap.get?_push_of_some _ (Heap.get?_push_of_some _ e))) hS⟩)
end
noncomputable def setS (P : Program) (w : World) (p : Addr) (ss : List Str) : HO := .ext fun h => h.SetOf (strKind P w) p (fun k => decide (k ∈ nubS ss)) (nubS ss).length
section
variable {X : Cx}
theorem call_setT (hc : X.calm = true) : CallR X (.type "set") (fun xs H Q => ∃ a ss, xs = [.ref a] ∧ SqL X.K H a (ss.map V.str) ∧ ss.length + 2 < scanBound ∧ ∀ p, H p = none → Q (.ref p) (upd H p (setS X.prog X.w p ss))) := by
  intro pins s σ H xs us Q I r h
  obtain ⟨a, ss, rfl, ha, room, q⟩ := h
  obtain ⟨u, rfl, ru⟩ := Vals.one r
  cases ru
  obtain ⟨its, rv, pl, hz⟩ := I.list ha
  refine call_setS (I.ok.hd hc) pl.isList rv room fun h' tk kp hS => ?_
  refine ⟨.ref s.heap.objs.size, _, I.laid (o := setS X.prog X.w s.heap.objs.size ss) kp (Nat.le_refl _) ?_, rfl, q _ (I.hok.fresh (Nat.le_refl _))⟩
  obtain ⟨o, es, ep, t, e, rest⟩ := id hS
  refine ⟨hS, ⟨o, e⟩, fun h1 h2 z k => ?_⟩
  obtain ⟨o, es, ep, t, e, rest⟩ := z
  exact ⟨o, es, ep, t, k o e, rest⟩
theorem call_lenS : CallR X (.builtin "len") (fun xs H Q => ∃ p ss, xs = [.ref p] ∧ H p = some (setS X.prog X.w p ss) ∧ Q (.int (nubS ss).length) H) := by
  intro pins s σ H xs us Q I r h
  obtain ⟨p, ss, rfl, hp, q⟩ := h
  obtain ⟨u, rfl, ru⟩ := Vals.one r
  cases ru
  obtain ⟨hS, _⟩ := I.hok p _ hp
  obtain ⟨o, es, ep, t, e, ex, hd, _, _, hb, hf, hn⟩ := hS
  refine call_len_set e ex hd hf (by unfold scanBound at hb; omega) ?_
  rw [hn]
  exact ⟨.int (nubS ss).length, H, I.tok _, ⟨_, rfl⟩, q⟩
end
end L2
namespace Mi
open PySem L2
noncomputable def strsD : List D → Option (List Str)
  | [] => some []
  | .str x :: ds => (strsD ds).map (x :: ·)
  | _ => none
theorem strsD_is {K : PySem.W.Frag} {ι : Nat → Addr} {k : Nat} {H : Hp} : ∀ {ds : List D} {vs : List V} {ss : List Str}, IsL K ι k H ds vs → strsD ds = some ss → vs = ss.map V.str
  | [], _, _, h, e => by cases e; unfold IsL at h; exact h
  | d :: ds, _, _, h, e => by
    cases d with
    | str x =>
      unfold IsL at h
      obtain ⟨v, vs', rfl, h1, h2⟩ := h
      have e' : (strsD ds).map (x :: ·) = some _ := e
      cases q : strsD ds with
      | none => rw [q] at e'; cases e'
      | some ss =>
        rw [q] at e'; cases e'
        unfold Is at h1
        rw [h1, strsD_is h2 q]; rfl
    | _ => cases e
noncomputable def lensetF (d : D) : M D := bnd (asList d) fun ds => fun μ => match strsD ds with
  | some ss => if ss.length + 2 < scanBound then some (.int (nubS ss).length, μ) else none
  | none => none
section
variable {X : Cx} {e : Expr} {pos p p2 pos2 : Pos}
theorem re_lenset {m : Sl → M D} (yl : X.mg "len" = none) (ys : X.mg "set" = none) (he : RE X e m) (hc : X.calm = true := by rfl) (hgl : Gl X "len" := by rfl) (hgs : Gl X "set" := by rfl) (hst : isStar e = false := by rfl) :
    RE X (.Call (.Name "len" p) [.Call (.Name "set" p2) [e] [] pos2] [] pos) (mUn lensetF m) := by
  have hs : PE X (.Call (.Name "set" p2) [e] [] pos2) _ := pe_callTy (call_setT hc) hgs ys Mi.boot_set (pa_cons he.pe pa_nil (star_cons hst)) (by decide) (by decide) (star_cons hst) rfl
  refine RE.wk (pe_callB call_lenS hgl yl Mi.boot_len (pa_cons hs pa_nil (star_cons rfl)) (by decide) (by decide) (star_cons rfl) rfl) fun σ H Q h => ?_
  obtain ⟨ι, μ, τ, d, μ', R, S, ev, q⟩ := h
  obtain ⟨x, μ1, e1, e2⟩ := bnd_some ev
  obtain ⟨ds, μ2, e3, e4⟩ := bnd_some e2
  refine ⟨ι, μ, τ, x, μ1, R, S, e1, fun ι1 H1 E1 R1 v1 i1 => ?_⟩
  obtain ⟨hm, a, vs, rfl, h1, h2⟩ := asList_sq R1 i1 e3
  subst hm
  cases hx : strsD ds with
  | none => rw [hx] at e4; cases e4
  | some ss =>
    rw [hx] at e4
    have e5 : (if ss.length + 2 < scanBound then some (D.int (nubS ss).length, μ2) else none) = some (d, μ') := e4
    split at e5
    · rename_i room
      cases e5
      refine ⟨a, ss, rfl, by rw [← strsD_is h2 hx]; exact h1, room, fun p hp => ?_⟩
      obtain ⟨E2, R2⟩ := R1.laid (setS X.prog X.w p ss) hp
      exact ⟨p, ss, rfl, upd_same, q ι1 _ (E1.trans E2) R2 _ (ofI _)⟩
    · cases e5
end
end Mi
namespace Mi
open PySem L2
inductive How where
  | all | drop | frz
noncomputable def outD (μ2 : Mh) : How → D → D
  | .frz, .ref n => match μ2[n]? with
    | some (.lst ds) => .lst ds
    | _ => .ref n
  | _, d => d
noncomputable def outM (μ μ2 : Mh) : How → Mh
  | .all => μ2
  | _ => μ2.take μ.length
open Classical in
noncomputable def callF (hw : How) (n ps : Nat) (mb : Sl → M (Fl × Sl)) : List D → M D := fun ds μ => match mb (startD n ds) μ with
  | some ((fl, _), μ2) => if ds.length = ps ∧ (fl = .next ∨ ∃ d, fl = .rt d) ∧ Tells μ μ2 (outM μ μ2 hw) (resD fl) (outD μ2 hw (resD fl)) then some (outD μ2 hw (resD fl), outM μ μ2 hw) else none
  | none => none
theorem callF_some {hw : How} {n ps : Nat} {mb : Sl → M (Fl × Sl)} {ds : List D} {μ μ' : Mh} {d : D} (h : callF hw n ps mb ds μ = some (d, μ')) :
    ds.length = ps ∧ ∃ fl τ2 μ2, mb (startD n ds) μ = some ((fl, τ2), μ2) ∧ (fl = .next ∨ ∃ d, fl = .rt d) ∧ Tells μ μ2 μ' (resD fl) d := by
  unfold callF at h
  split at h
  · rename_i fl τ2 μ2 e
    split at h
    · rename_i c
      cases h
      exact ⟨c.1, fl, τ2, μ2, e, c.2.1, c.2.2⟩
    · cases h
  · cases h
theorem callF_eq {hw : How} {n ps : Nat} {mb : Sl → M (Fl × Sl)} {ds : List D} {μ μ2 : Mh} {fl : Fl} {τ2 : Sl} (e : mb (startD n ds) μ = some ((fl, τ2), μ2)) (hl : ds.length = ps) (hf : fl = .next ∨ ∃ d, fl = .rt d) (t : Tells μ μ2 (outM μ μ2 hw) (resD fl) (outD μ2 hw (resD fl))) :
    callF hw n ps mb ds μ = some (outD μ2 hw (resD fl), outM μ μ2 hw) := by
  unfold callF
  rw [e]
  exact if_pos ⟨hl, hf, t⟩
theorem callF_pure {n ps : Nat} {mb : Sl → M (Fl × Sl)} {ds : List D} {μ g : Mh} {d : D} {τ2 : Sl} (e : mb (startD n ds) μ = some ((.rt d, τ2), μ ++ g)) (hl : ds.length = ps) (c : Cl μ.length d) : callF .drop n ps mb ds μ = some (d, μ) := by
  have t : outM μ (μ ++ g) .drop = μ := by show (μ ++ g).take μ.length = μ; rw [List.take_left]
  have h := callF_eq (hw := .drop) e hl (.inr ⟨d, rfl⟩) (by rw [t]; exact tells_drop c)
  rw [t] at h
  exact h
theorem callF_pureN {n ps : Nat} {mb : Sl → M (Fl × Sl)} {ds : List D} {μ g : Mh} {τ2 : Sl} (e : mb (startD n ds) μ = some ((.next, τ2), μ ++ g)) (hl : ds.length = ps) : callF .drop n ps mb ds μ = some (.non, μ) := by
  have t : outM μ (μ ++ g) .drop = μ := by show (μ ++ g).take μ.length = μ; rw [List.take_left]
  have h := callF_eq (hw := .drop) e hl (.inl rfl) (by rw [t]; exact tells_drop (by show Cl _ D.non; unfold Cl; trivial))
  rw [t] at h
  exact h
theorem callF_frz {n ps : Nat} {mb : Sl → M (Fl × Sl)} {ds es : List D} {μ g : Mh} {k : Nat} {τ2 : Sl} (e : mb (startD n ds) μ = some ((.rt (.ref k), τ2), μ ++ g)) (hl : ds.length = ps) (hk : μ.length ≤ k) (hg : (μ ++ g)[k]? = some (.lst es)) (c : ClL μ.length es) : callF .frz n ps mb ds μ = some (.lst es, μ) := by
  have t : outM μ (μ ++ g) .frz = μ := by show (μ ++ g).take μ.length = μ; rw [List.take_left]
  have o : outD (μ ++ g) .frz (resD (.rt (.ref k))) = .lst es := by
    show (match (μ ++ g)[k]? with | some (.lst ds) => D.lst ds | _ => .ref k) = _
    rw [hg]
  have h := callF_eq (hw := .frz) e hl (.inr ⟨_, rfl⟩) (by rw [t, o]; exact ⟨⟨g, rfl⟩, Nat.le_refl _, fun _ _ z => .inl z, .inr ⟨k, es, rfl, hg, hk, rfl, c⟩⟩)
  rw [t, o] at h
  exact h
theorem callF_frz' {n ps : Nat} {mb : Sl → M (Fl × Sl)} {ds es : List D} {μ g : Mh} {τ2 : Sl} (e : mb (startD n ds) μ = some ((.rt (.lst es), τ2), μ ++ g)) (hl : ds.length = ps) (c : ClL μ.length es) : callF .frz n ps mb ds μ = some (.lst es, μ) := by
  have t : outM μ (μ ++ g) .frz = μ := by show (μ ++ g).take μ.length = μ; rw [List.take_left]
  have h := callF_eq (hw := .frz) e hl (.inr ⟨_, rfl⟩) (by rw [t]; exact tells_drop (by show Cl _ (D.lst es); unfold Cl; exact c))
  rw [t] at h
  exact h
theorem fn_self (hw : How) {P : Program} {w : World} {K : PySem.W.Frag} {mg : Str → Option Value} {base : Heap} {x qual : Str} {st : Stmt} {f : Addr} {fd : FuncData} {N ps : List Str} {k : Nat} {mb : Sl → M (Fl × Sl)} (F : Fun K x qual st f fd) (S : FnScope N ps (defScope st)) (hm : mg x = some (.ref f)) (hb : Binds K fd ps [])
    (body : ∀ (cdv : Value) (A : Around) (outer : List Env) (s : Shared) (H : Hp) (E : XK), Room k (A.deeper (PyProof.Rows.envOfC qual (defScope st) s.heap.objs.size f cdv)) → RSs (cxOf CX0 P w K mg base N qual (defScope st) f cdv A outer s H E).nox (defBody st) mb) :
    Fn P w K mg base x ps (k + 1) (callF hw N.length ps.length mb) :=
  fn_of' F S hm hb body (fun ds μ r h => (callF_some (d := r.1) (μ' := r.2) h).1) (fun ds μ d μ' h => (callF_some h).2)
theorem Fn.mono {P : Program} {w : World} {K : PySem.W.Frag} {mg : Str → Option Value} {base : Heap} {x : Str} {ps : List Str} {j k : Nat} {φ : List D → M D} (F : Fn P w K mg base x ps j φ) (h : j ≤ k) : Fn P w K mg base x ps k φ := by
  obtain ⟨len, f, fd, F, hm, hk, hb⟩ := F
  exact ⟨len, f, fd, F.mono h, hm, hk, hb⟩
theorem fn_never {P : Program} {w : World} {K : PySem.W.Frag} {mg : Str → Option Value} {base : Heap} {x qual : Str} {st : Stmt} {f : Addr} {fd : FuncData} {ps : List Str} {k : Nat} (F : Fun K x qual st f fd) (hm : mg x = some (.ref f)) (hb : Binds K fd ps []) : Fn P w K mg base x ps k (fun _ => fail) := by
  refine ⟨(fun ds μ r h => absurd (show (none : Option (D × Mh)) = some r from h) (by simp)), ⟨f, fd, ⟨fun vs H Q E h => ?_, fun A outer s H args us vs Q E _ _ _ _ h => ?_⟩, hm, F.kp, hb⟩⟩
  · obtain ⟨_, ι, μ, as, d, μ', _, _, e, _⟩ := h
    cases e
  · obtain ⟨_, ι, μ, as, d, μ', _, _, e, _⟩ := h
    cases e
end Mi
namespace Mi
open PySem L2
section
variable {P : Program} {w : World} {K : PySem.W.Frag} {mg : Str → Option Value} {base h : Heap} {x : Str}
noncomputable def strsOf : List Value → Option (List Str)
  | [] => some []
  | .str s _ :: r => (strsOf r).map (s :: ·)
  | _ :: _ => none
theorem strsOf_vals : ∀ {us : List Value} {xs : List Str}, strsOf us = some xs → Vals (xs.map V.str) us
  | [], xs, e => by cases e; exact .nil
  | u :: r, xs, e => by
    cases u with
    | str s t =>
      have e : (strsOf r).map (s :: ·) = some xs := e
      cases q : strsOf r with
      | none => rw [q] at e; cases e
      | some ys => rw [q] at e; cases e; exact .cons ⟨t, rfl⟩ (strsOf_vals q)
    | _ => cases e
noncomputable def TupLit (K : PySem.W.Frag) (p : Addr) (xs : List Str) : Prop := ∃ od its n sl, K.lookup p = some ⟨.type "tuple", od, .seq its n, sl⟩ ∧ strsOf its.toList = some xs
theorem tl_mk {p : Addr} {xs : List Str} {od : Option Addr} {its : Array Value} {n : Nat} {sl : Array (Option Value)} (l : K.lookup p = some ⟨.type "tuple", od, .seq its n, sl⟩) (e : strsOf its.toList = some xs) : TupLit K p xs := ⟨od, its, n, sl, l, e⟩
theorem isl_strs {ι : Nat → Addr} {k : Nat} {H : Hp} : ∀ xs : List Str, IsL K ι k H (xs.map D.str) (xs.map V.str)
  | [] => .nil
  | _ :: r => .cons (by unfold Is; rfl) (isl_strs r)
theorem TupLit.is {p : Addr} {xs : List Str} (h : TupLit K p xs) (hl : xs.length ≤ 1000) {ι : Nat → Addr} {k : Nat} {H : Hp} : Is K ι k H (.tup (xs.map D.str)) (.ref p) := by
  obtain ⟨od, its, n, sl, l, e⟩ := h
  have v := strsOf_vals e
  unfold Is
  refine ⟨p, _, rfl, .inr ⟨_, its, n, l, rfl, rfl, ?_, v⟩, isl_strs xs⟩
  have := v.length
  rw [List.length_map] at this
  have z : its.size = xs.length := by rw [this]; simp
  rw [z]
  exact Nat.le_of_lt (small1000 hl)
theorem glo_int {i : Int} {t : Tok} (X : K.In h) (G : h.Ns mainGlobals mg) (a : PySem.W.nsIn K mainGlobals x = some (some (.int i t))) : Glo K mg x (.int i) :=
  ⟨_, .int i, PySem.W.mg_of X G a, ⟨t, rfl⟩, fun _ _ _ => by unfold Is; rfl⟩
theorem glo_str {s : Str} {t : Tok} (X : K.In h) (G : h.Ns mainGlobals mg) (a : PySem.W.nsIn K mainGlobals x = some (some (.str s t))) : Glo K mg x (.str s) :=
  ⟨_, .str s, PySem.W.mg_of X G a, ⟨t, rfl⟩, fun _ _ _ => by unfold Is; rfl⟩
theorem glo_tup {p : Addr} {xs : List Str} (X : K.In h) (G : h.Ns mainGlobals mg) (a : PySem.W.nsIn K mainGlobals x = some (some (.ref p))) (l : TupLit K p xs) (hl : xs.length ≤ 1000) : Glo K mg x (.tup (xs.map D.str)) :=
  ⟨_, .ref p, PySem.W.mg_of X G a, rfl, fun _ _ _ => l.is hl⟩
noncomputable def TabIs (K : PySem.W.Frag) : List DictEntry → List (Str × List Str) → Prop
  | [], t => t = []
  | e :: es, t => ∃ x ys t' tok p, t = (x, ys) :: t' ∧ e.key = .str x tok ∧ e.val = .ref p ∧ TupLit K p ys ∧ ys.length ≤ 1000 ∧ TabIs K es t'
theorem TabIs.noref : ∀ {es : List DictEntry} {t : List (Str × List Str)}, TabIs K es t → es.any (·.refKey) = false
  | [], _, _ => rfl
  | e :: es, t, h => by
    obtain ⟨x, ys, t', tok, p, rfl, hk, _, _, _, r⟩ := h
    rw [List.any_cons, r.noref, Bool.or_false]
    show DictEntry.refKey e = false
    unfold DictEntry.refKey
    rw [hk]
noncomputable def tabF (t : List (Str × List Str)) (y : Str) : Option D := (t.find? (·.1 == y)).map fun p => .tup (p.2.map D.str)
theorem TabIs.find : ∀ {es : List DictEntry} {t : List (Str × List Str)} (y : Str), TabIs K es t → (es.find? (·.key.isStr y) = none ∧ tabF t y = none) ∨ ∃ e p ys, es.find? (·.key.isStr y) = some e ∧ e.val = .ref p ∧ TupLit K p ys ∧ ys.length ≤ 1000 ∧ tabF t y = some (.tup (ys.map D.str))
  | [], t, y, h => by cases (show t = [] from h); exact .inl ⟨rfl, rfl⟩
  | e :: es, t, y, h => by
    obtain ⟨x, ys, t', tok, p, rfl, hk, hv, l, hl, r⟩ := h
    have q : e.key.isStr y = (x == y) := by rw [hk]; rfl
    cases b : (x == y) with
    | true =>
      right
      refine ⟨e, p, ys, ?_, hv, l, hl, ?_⟩
      · rw [List.find?_cons]; simp only [q, b]
      · unfold tabF; rw [List.find?_cons]; simp only [b]; rfl
    | false =>
      have z1 : (e :: es).find? (·.key.isStr y) = es.find? (·.key.isStr y) := by rw [List.find?_cons]; simp only [q, b]
      have z2 : tabF ((x, ys) :: t') y = tabF t' y := by unfold tabF; rw [List.find?_cons]; simp only [b]
      rw [z1, z2]
      exact r.find y
theorem ktab_mk {ad : Addr} {es : Array DictEntry} {n : Nat} {t : List (Str × List Str)} (X : K.In h) (G : h.Ns mainGlobals mg) (a : PySem.W.nsIn K mainGlobals x = some (some (.ref ad))) (l : K.lookup ad = some ⟨.type "dict", none, .dict es n, #[]⟩) (kl : PySem.W.KeysLit w.params es.toList)
    (hs : (ad == sysModules) = false) (T : TabIs K es.toList t) : KTab w K mg x (tabF t) := by
  refine ⟨ad, PySem.W.mg_of X G a, fun y => ?_⟩
  have nr := T.noref
  rcases T.find y with ⟨f, g⟩ | ⟨e, p, ys, f, hv, tl, hl, g⟩
  · refine ⟨none, ⟨y, es, n, none, rfl, l, kl, ?_, trivial, hs⟩, .inl ⟨g, rfl⟩⟩
    unfold PySem.W.nsIn
    rw [l]
    simp only [f, nr]
    rfl
  · refine ⟨some (.ref p), ⟨y, es, n, some (.ref p), rfl, l, kl, ?_, rfl, hs⟩, .inr ⟨_, .ref p, g, rfl, fun _ _ _ => tl.is hl⟩⟩
    unfold PySem.W.nsIn
    rw [l]
    simp only [f, hv]
structure Df (K : PySem.W.Frag) (x : Str) (st : Stmt) (f : Addr) (fd : FuncData) : Prop where
  a : PySem.W.nsIn K mainGlobals x = some (some (.ref f))
  F : Fun K x x st f fd
theorem df_mk {st : Stmt} {f : Addr} {oc : Value} {od an : Option Addr} {osl : Array (Option Value)} {kV doc pm cdv ct : Value} (a : PySem.W.nsIn K mainGlobals x = some (some (.ref f))) (l : K.lookup f = some ⟨oc, od, .func (PySem.W.fnOf x x (defArgs st) (defBody st) (defScope st) .none kV doc pm an cdv ct), osl⟩)
    (c : PySem.W.codeIn K cdv x = true) (k : PySem.W.keepIn K (.ref f) = true) : ∃ f fd, Df K x st f fd := ⟨f, _, a, fun_mk l c k⟩
theorem fok_self (hw : How) {qual : Str} {st : Stmt} {f : Addr} {fd : FuncData} {N ps : List Str} {k : Nat} {mb : Sl → M (Fl × Sl)} (F : Fun K x qual st f fd) (S : FnScope N ps (defScope st))
    (body : ∀ (cdv : Value) (A : Around) (outer : List Env) (s : Shared) (H : Hp) (E : XK), Room k (A.deeper (PyProof.Rows.envOfC qual (defScope st) s.heap.objs.size f cdv)) → RSs (cxOf CX0 P w K mg base N qual (defScope st) f cdv A outer s H E).nox (defBody st) mb) :
    FnOk P w K mg base CX0 (k + 1) f fd ps (spM K ps.length (callF hw N.length ps.length mb)) :=
  fn_mirror F S rfl body (fun ds μ d μ' h => (callF_some h).2)
noncomputable def spTop (K : PySem.W.Frag) : Sp := fun vs H Q _ => ∃ (a : Addr) (ns : List Int), vs = [.ref a] ∧ ScrAt K H a (ns.map V.int) ∧ ns.length ≤ 63 ∧ ∀ H', Q (.bl true) H'
theorem top_of {k : Nat} {f : Addr} {fd : FuncData} {φ : List D → M D} (F : FnOk P w K mg base CX0 k f fd ["_law_script"] (spM K 1 φ)) (hφ : ∀ ns : List Int, ns.length ≤ 63 → ∃ μ', φ [.scr ns] [] = some (.bl true, μ')) : FnOk P w K mg base CX0 k f fd ["_law_script"] (spTop K) :=
  F.imp fun vs H Q E q => by
    obtain ⟨a, ns, rfl, s, hl, q⟩ := q
    obtain ⟨μ', e⟩ := hφ ns hl
    refine ⟨rfl, fun _ => a, [], [.scr ns], .bl true, μ', ⟨fun i j h => absurd h (Nat.not_lt_zero _), fun n o e => by simp at e⟩, .one (by unfold Is; exact ⟨a, rfl, s⟩), e, fun ι2 H2 E2 R2 v i => ?_⟩
    unfold Is at i
    rw [i]
    exact q H2
theorem scr_of_only {H : Hp} {a : Addr} {xs : List V} (o : Only H) (s : SqL K H a xs) : ScrAt K H a xs := by
  rcases s with z | z
  · rcases z with z | ⟨p, z⟩
    · rcases o a with q | ⟨p, ys, q⟩
      · rw [q] at z; cases z
      · rw [q] at z; cases z
    · exact .inl ⟨p, z⟩
  · exact .inr z
end
theorem walkM {l : PySem.W.OpenLaw} {q : Program} {loose : List Str} {XP : (Str → Option Value) → Heap → Prop} {YP : World → Heap → Prop} {d : DefRec} {K : Params → PySem.W.Frag} {k : Nat} (hn : l.most = some 63) (hdf : d.params.defaults = []) (hk : k ≤ 60)
    (hY : ∀ (w : World) (h : Heap), YP w h → (K w.params).In h)
    (F : ∀ (w : World) (mg : Str → Option Value) (fa : Addr) (h : Heap), (K w.params).In h → h.Ns mainGlobals mg → mg d.name = some (.ref fa) →
      ∃ fd : FuncData, (∀ (s : Shared) (u : Value), BindsTo s fd ⟨[u], []⟩ [("_law_script", u)]) ∧ ∀ base : Heap, (K w.params).In base → base.Ns mainGlobals mg → FnOk l.prog w (K w.params) mg base CX0 k fa fd ["_law_script"] (spTop (K w.params))) :
    PySem.W.WalkO q loose XP YP l.row.toRowW d [] (fun f vs => PySem.call f vs) :=
  L2.walk_of (n := 63) (k := k) (x := "_law_script") (CX := fun _ => CX0) (sp := fun w => spTop (K w.params)) hn (by decide) hdf (Room.mono (j := k) (k := 60) ⟨rfl, by decide, by decide⟩ hk) hY F (fun _ _ a ns hl o hS => ⟨a, ns, rfl, scr_of_only o hS, hl, fun _ => rfl⟩) fun _ _ _ _ _ z => z
end Mi
namespace Mi
open PySem L2
noncomputable def Pu {α : Type} (m : Sl → M α) : Prop := ∀ τ μ a μ', m τ μ = some (a, μ') → μ' = μ
noncomputable def Pu2 (g : D → D → M D) : Prop := ∀ x y μ a μ', g x y μ = some (a, μ') → μ' = μ
theorem pu_slot {i : Nat} : Pu (mSlot i) := fun τ μ a μ' e => by
  unfold mSlot at e
  split at e
  · cases e; rfl
  · cases e
theorem pu_c {d : D} : Pu (mC d) := fun τ μ a μ' e => by cases e; rfl
theorem pu_true : Pu mTrue := fun τ μ a μ' e => by cases e; rfl
theorem pu_op {g : D → D → M D} {ma mb : Sl → M D} (hg : Pu2 g) (ha : Pu ma) (hb : Pu mb) : Pu (mOp g ma mb) := fun τ μ a μ' e => by
  obtain ⟨x, μ1, e1, e2⟩ := bnd_some e
  obtain ⟨y, μ2, e3, e4⟩ := bnd_some e2
  rw [hg _ _ _ _ _ e4, hb _ _ _ _ e3, ha _ _ _ _ e1]
theorem pu_test {m : Sl → M D} (h : Pu m) : Pu (mTest m) := fun τ μ a μ' e => by
  obtain ⟨x, μ1, e1, e2⟩ := bnd_some e
  have z := h _ _ _ _ e1
  cases x with
  | bl b => cases e2; exact z
  | _ => cases e2
theorem pu_eqB {n : Bool} : Pu2 (pyEqB n) := fun x y μ a μ' e => by
  unfold pyEqB at e
  split at e
  · split at e
    · cases e; rfl
    · cases e
  · cases e
theorem asList_pu {d : D} {μ μ' : Mh} {ds : List D} (e : asList d μ = some (ds, μ')) : μ' = μ := by
  cases d with
  | lst _ => cases e; rfl
  | scr _ => cases e; rfl
  | ref n =>
    have e : (match μ[n]? with | some (.lst ds) => some (ds, μ) | _ => none) = some (ds, μ') := e
    split at e
    · cases e; rfl
    · cases e
  | _ => cases e
theorem asSeq1_pu {d : D} {μ μ' : Mh} {ds : List D} (e : asSeq1 d μ = some (ds, μ')) : μ' = μ := by
  cases d with
  | tup _ => cases e; rfl
  | _ => exact asList_pu (by unfold asSeq1 at e; exact e)
theorem pu_ix : Pu2 pyIx := fun x y μ a μ' e => by
  unfold pyIx at e
  split at e
  · split at e
    · rename_i z i hl
      cases q : atI z.cps.toList i with
      | none => rw [q] at e; cases e
      | some c => rw [q] at e; cases e; rfl
    · cases e
  · obtain ⟨ds, μ1, e1, e2⟩ := bnd_some e
    have z := asSeq1_pu e1
    unfold ixD at e2
    rename_i i _
    cases q : atI ds i with
    | none => rw [q] at e2; cases e2
    | some c => rw [q] at e2; cases e2; exact z
  · cases e
section
variable {X : Cx} {scope : Scope} {tgs : List Str} {ix : List Nat} {e elt tg iter : Expr} {pos : Pos}
noncomputable def asBox : D → M (List D)
  | .ref n => fun μ => match μ[n]? with
    | some (.lst ds) => some (ds, μ)
    | _ => none
  | _ => fail
noncomputable def mSrcR (m : Sl → M D) : Sl → M (List D) := fun τ => bnd (m τ) asBox
noncomputable def ItP (K : PySem.W.Frag) (J : It) (ds : List D) (ι : Nat → Addr) (μ : Mh) (H : Hp) : Prop := ∀ ι' H', Ext ι μ.length H ι' μ.length H' → RelH K ι' μ H' →
  (∀ i, i < ds.length → J.go i H') ∧ J.stop ds.length H' ∧ ∀ (i : Nat) x H2 d, ds[i]? = some d → J.yld i H' x H2 → Ext ι' μ.length H' ι' μ.length H2 ∧ RelH K ι' μ H2 ∧ Is K ι' μ.length H2 d x
theorem ItP.ext {K : PySem.W.Frag} {J : It} {ds : List D} {ι ι' : Nat → Addr} {μ : Mh} {H H' : Hp} (h : ItP K J ds ι μ H) (E : Ext ι μ.length H ι' μ.length H') : ItP K J ds ι' μ H' := fun ι2 H2 E2 R2 => h ι2 H2 (E.trans E2) R2
noncomputable def tIP (K : PySem.W.Frag) (m : Sl → M (List D)) : TI := fun σ H R => ∃ ι μ τ ds μ', RelH K ι μ H ∧ RelS K ι μ.length H τ σ ∧ m τ μ = some (ds, μ') ∧
  Aft K ι μ H μ' fun ι' H' => ∀ J, ItP K J ds ι' μ' H' → R J H'
structure RIP (X : Cx) (tg iter : Expr) (m : Sl → M (List D)) : Prop where
  pe : PI X tg iter (tIP X.K m)
theorem ri_box {m : Sl → M D} (h : RE X e m) : RIP X tg e (mSrcR m) := ⟨PI.wk (pi_list h.pe) fun σ H Q q => by
  obtain ⟨ι, μ, τ, ds, μ', R0, S, e, q⟩ := q
  obtain ⟨x, μ1, e1, e⟩ := bnd_some e
  cases x with
  | ref n =>
    have e : (match μ1[n]? with | some (.lst ds) => some (ds, μ1) | _ => none) = some (ds, μ') := e
    split at e
    · rename_i es hn
      cases e
      refine ⟨ι, μ, τ, _, _, R0, S, e1, fun ι1 H1 E1 R1 v i1 => ?_⟩
      unfold Is at i1
      obtain ⟨hk, rfl⟩ := i1
      obtain ⟨u, hu, o⟩ := R1.obj n _ hn
      obtain ⟨vs, rfl, iv⟩ := o
      refine ⟨_, rfl, ⟨vs, SqL.of hu⟩, q ι1 H1 E1 R1 _ ?_⟩
      intro ι2 H2 E2 R2
      obtain ⟨u2, hu2, o2⟩ := R2.obj n _ hn
      obtain ⟨vs2, rfl, iv2⟩ := o2
      rw [E2.agree n hk] at hu2
      have hl := iv2.length
      refine ⟨fun j hj => ⟨vs2, vs2[j], SqL.of hu2, by simp⟩, ⟨vs2, SqL.of hu2, by omega⟩, fun j x H3 d hd y => ?_⟩
      obtain ⟨z, y⟩ := y
      subst z
      obtain ⟨v, ev, iv3⟩ := iv2.get hd
      have := y vs2 (SqL.of hu2)
      rw [ev] at this; cases this
      exact ⟨R2.ext0, R2, iv3⟩
    · cases e
  | _ => cases e⟩
theorem tE_compP {K : PySem.W.Frag} {n : Nat} {src : Sl → M (List D)} {i : Nat} {mc : Sl → M Bool} {me : Sl → M D} {fin : List D → M D} {σ : St} {H : Hp} {Q : VK} (pc : Pu mc) (pm : Pu me) (hn : tgs.length = n) (hf : ∀ ι μ μ' H ds vs d (Q : VK), RelH K ι μ H → IsL K ι μ.length H ds vs → fin ds μ = some (d, μ') → (Aft K ι μ H μ' fun ι' H' => ∀ v, Is K ι' μ'.length H' d v → Q v H') →
      vs.length ≤ sizeLine ∧ ∀ p, H p = none → Q (.ref p) (upd H p (.lst vs)))
    (h : tE K (mComp n ix src (bName i) mc me fin) σ H Q) : tComp tgs ix (tIP K src) (gName i) (tT K mc) (tE K me) σ H Q := by
  subst hn
  obtain ⟨ι, μ, τ, d, μ', R, S, e, q⟩ := h
  obtain ⟨ds, ν, e1, e5⟩ := bnd_some e
  obtain ⟨u, μ2, e2, e6⟩ := bnd_some e5
  obtain ⟨zs, μ3, e3, e7⟩ := bnd_some e6
  obtain ⟨hl, e4⟩ := lim_some e2
  clear e e5 e6
  subst e4
  refine ⟨ι, μ, τ, ds, _, R, S, e1, fun ι1 H1 E1 R1 J it => ?_⟩
  refine ⟨fun i' m ys H => m = ds.length - i' ∧ i' ≤ ds.length ∧ ys.length ≤ i' ∧ ∃ (ι : Nat → Addr) (as : List D), RelH K ι μ2 H ∧ RelS K ι μ2.length H τ σ ∧ ItP K J ds ι μ2 H ∧ IsL K ι μ2.length H as ys ∧ compGo (bName i) mc me (startBl tgs.length ix τ) (ds.drop i') as μ2 = some (zs, μ3) ∧
    Aft K ι μ2 H μ' fun ι' H' => ∀ v, Is K ι' μ'.length H' d v → Q v H', ⟨ds.length, by simp, Nat.zero_le _, Nat.le_refl _, ι1, [], R1, S.ext E1, it, .nil, e3, fun ι2 H2 E2 R2 => q ι2 H2 (E1.trans E2) R2⟩, ?_⟩
  rintro i' m ys H ⟨hm, hil, hyl, ι, as, R, S, it, ia, e3, q⟩
  obtain ⟨go, stop, yl⟩ := it ι H R.ext0 R
  by_cases hlt : i' < ds.length
  · refine .inr ⟨go i' hlt, by omega, fun ys' H' => ys'.length ≤ i' + 1 ∧ ∃ (ι : Nat → Addr) (as : List D), RelH K ι μ2 H' ∧ RelS K ι μ2.length H' τ σ ∧ ItP K J ds ι μ2 H' ∧ IsL K ι μ2.length H' as ys' ∧ compGo (bName i) mc me (startBl tgs.length ix τ) (ds.drop (i' + 1)) as μ2 = some (zs, μ3) ∧
      Aft K ι μ2 H' μ' fun ι' H' => ∀ v, Is K ι' μ'.length H' d v → Q v H', fun ys' H' z => ⟨_, (by omega : ds.length - (i' + 1) < m), rfl, hlt, z⟩, fun x H2 y => ?_⟩
    have hd : ds[i']? = some ds[i'] := by simp [hlt]
    obtain ⟨E2, R2, ix2⟩ := yl i' x H2 _ hd y
    rw [List.drop_eq_getElem_cons hlt] at e3
    obtain ⟨τ1, μ1, e1, e3⟩ := bnd_some e3
    cases e1
    obtain ⟨cc, μ5, e2, e3⟩ := bnd_some e3
    have z5 := pc _ _ _ _ e2
    subst z5
    have S2 := (S.ext E2).block (tgs := tgs) (ix := ix)
    show tT K mc _ H2 _
    refine ⟨ι, _, _, cc, _, R2, S2.set i ix2, e2, fun ι3 H3 E3 R3 => ?_⟩
    have E13 := E2.trans E3
    cases cc with
    | false =>
      exact ⟨by omega, ι3, as, R3, S.ext E13, it.ext E13, ia.ext E13, e3, fun ι5 H5 E5 R5 => q ι5 H5 (E13.trans E5) R5⟩
    | true =>
      obtain ⟨y', μ4, e4, e8⟩ := bnd_some e3
      clear e3
      have z4 := pm _ _ _ _ e4
      subst z4
      refine ⟨ι3, _, _, y', _, R3, (S2.set i ix2).ext E3, e4, fun ι4 H4 E4 R4 v iv => ?_⟩
      have E14 := E13.trans E4
      exact ⟨by simp; omega, ι4, as ++ [y'], R4, S.ext E14, it.ext E14, (ia.ext E14).append (.one iv), e8, fun ι5 H5 E5 R5 => q ι5 H5 (E14.trans E5) R5⟩
  · have hi' : i' = ds.length := by omega
    subst hi'
    rw [List.drop_length] at e3
    cases e3
    obtain ⟨z1, z2⟩ := hf ι _ μ' H _ ys d Q R ia e7 q
    exact .inl ⟨stop, z1, z2⟩
theorem re_compP {n : Nat} {ifs : List Expr} {src : Sl → M (List D)} {i : Nat} {mc : Sl → M Bool} {me : Sl → M D} (pc : Pu mc) (pm : Pu me) (S : BScope X scope tgs ix) (hc : X.calm = true) (hi : RIP X tg iter src) (hg : ∀ fp C s H, PG (cxB X scope tgs fp C s H) tg (gName i)) (hif : ∀ fp C s H, PIfs (cxB X scope tgs fp C s H) ifs (tT X.K mc)) (he : ∀ fp C s H, RE (cxB X scope tgs fp C s H) elt me)
    (hin : i < tgs.length := by decide) (hn : tgs.length = n := by rfl) (hs : ∀ x, foldedSetIterable iter X.env x = pure x := by intro _; rfl) (ht : ∀ o v, letOwnedTupleGo tg o v = pure () := by intro _ _; rfl) : RE X (.ListComp elt [⟨tg, iter, ifs, 0⟩] scope pos) (mComp n ix src (bName i) mc me newL) :=
  RE.wk (pe_comp (te := tE X.K me) S hc hi.pe hg (gk_name hin) hif (fun fp C s H => (he fp C s H).pe) hs ht) fun _ _ _ h => tE_compP pc pm hn (fun _ _ _ _ _ _ _ _ R i e q => newL_ok R i e q) h
noncomputable def addRef (n : Nat) : D → M D
  | .lst b => fun μ => match μ[n]? with
    | some (.lst a) => newL (a ++ b) μ
    | _ => none
  | _ => fail
noncomputable def pyAdd1 (a b : D) : M D := match a with
  | .ref n => addRef n b
  | _ => pyAdd a b
theorem o_add1 : OpR X (binaryOp .Add) (rM X.K pyAdd1) := fun pins s σ H x y v u Q I rx ry h => by
  obtain ⟨ι, μ, a, b, d, μ', R, ia, ib, e, q⟩ := h
  cases a with
  | ref n =>
    cases b with
    | lst bs =>
      have e : (match μ[n]? with | some (.lst a) => newL (a ++ bs) μ | _ => none) = some (d, μ') := e
      split at e
      · rename_i as hn
        obtain ⟨w, hu, o⟩ := R.obj n _ hn
        obtain ⟨vs, rfl, iv⟩ := o
        unfold Is at ia ib
        obtain ⟨hk, rfl⟩ := ia
        obtain ⟨p', vs', rfl, h1', hn', h2'⟩ := ib
        obtain ⟨hl, w⟩ := newL_ok R (iv.append h2') e q
        exact op_cat pins s σ H _ _ v u Q I rx ry ⟨_, p', vs, vs', rfl, rfl, hu, h1', by rw [← List.length_append]; exact hl, w⟩
      · cases e
    | _ => cases e
  | _ => exact o_add pins s σ H _ _ v u Q I rx ry ⟨ι, μ, _, b, d, μ', R, ia, ib, e, q⟩
end
end Mi
namespace Mi
open PySem L2
section
variable {τ τ1 τ2 : Sl} {μ μ1 μ2 μ3 μ4 : Mh} {d x y z : D} {ds : List D} {ma mb mc me : Sl → M D} {tc tb : Sl → M Bool} {b : Bool} {m1 m2 : Sl → M (Fl × Sl)} {g g' : D → D → M D} {r : Fl × Sl}
theorem ev_slot {i : Nat} (h : τ[i]? = some (some d)) : mSlot i τ μ = some (d, μ) := by unfold mSlot; rw [h]
theorem ev_c : mC d τ μ = some (d, μ) := rfl
theorem ev_op (h1 : ma τ μ = some (x, μ1)) (h2 : mb τ μ1 = some (y, μ2)) (h3 : g x y μ2 = some (d, μ3)) : mOp g ma mb τ μ = some (d, μ3) := by unfold mOp; rw [bnd_of h1, bnd_of h2, h3]
theorem ev_un {u : D → M D} (h1 : ma τ μ = some (x, μ1)) (h3 : u x μ1 = some (d, μ3)) : mUn u ma τ μ = some (d, μ3) := by unfold mUn; rw [bnd_of h1, h3]
theorem ev_nilA : aNil τ μ = some ([], μ) := rfl
theorem ev_consA {as : Sl → M (List D)} (h1 : ma τ μ = some (x, μ1)) (h2 : as τ μ1 = some (ds, μ2)) : aCons ma as τ μ = some (x :: ds, μ2) := by unfold aCons; rw [bnd_of h1, bnd_of h2]; rfl
theorem ev_disp {f : List D → M D} {as : Sl → M (List D)} (h1 : as τ μ = some (ds, μ1)) (h2 : f ds μ1 = some (d, μ2)) : mDisp f as τ μ = some (d, μ2) := by unfold mDisp; rw [bnd_of h1, h2]
theorem ev_meth {f : D → List D → M D} {as : Sl → M (List D)} {u : Unit} (h1 : ma τ μ = some (x, μ1)) (h0 : guardL x μ1 = some (u, μ2)) (h2 : as τ μ2 = some (ds, μ3)) (h3 : f x ds μ3 = some (d, μ4)) : mMethL f ma as τ μ = some (d, μ4) := by unfold mMethL; rw [bnd_of h1, bnd_of h0, bnd_of h2, h3]
theorem ev_test (h : ma τ μ = some (.bl b, μ1)) : mTest ma τ μ = some (b, μ1) := by unfold mTest; rw [bnd_of h]; rfl
theorem ev_not (h : tc τ μ = some (b, μ1)) : mNot tc τ μ = some (!b, μ1) := by unfold mNot; rw [bnd_of h]; rfl
theorem ev_andT (h1 : tc τ μ = some (true, μ1)) (h2 : tb τ μ1 = some (b, μ2)) : mAnd tc tb τ μ = some (b, μ2) := by unfold mAnd; rw [bnd_of h1, if_pos rfl, h2]
theorem ev_andF (h1 : tc τ μ = some (false, μ1)) : mAnd tc tb τ μ = some (false, μ1) := by unfold mAnd; rw [bnd_of h1]; rfl
theorem ev_orT (h1 : tc τ μ = some (true, μ1)) : mOr tc tb τ μ = some (true, μ1) := by unfold mOr; rw [bnd_of h1]; rfl
theorem ev_orF (h1 : tc τ μ = some (false, μ1)) (h2 : tb τ μ1 = some (b, μ2)) : mOr tc tb τ μ = some (b, μ2) := by unfold mOr; rw [bnd_of h1, if_neg (by decide), h2]
theorem ev_andVT (h1 : ma τ μ = some (.bl true, μ1)) (h2 : mb τ μ1 = some (d, μ2)) : mAndV ma mb τ μ = some (d, μ2) := by
  unfold mAndV; rw [bnd_of h1, bnd_of (show asB (.bl true) μ1 = some (true, μ1) from rfl), if_pos rfl, h2]
theorem ev_orVT (h1 : ma τ μ = some (.bl true, μ1)) : mOrV ma mb τ μ = some (.bl true, μ1) := by
  unfold mOrV; rw [bnd_of h1, bnd_of (show asB (.bl true) μ1 = some (true, μ1) from rfl)]; rfl
theorem ev_orVF (h1 : ma τ μ = some (.bl false, μ1)) (h2 : mb τ μ1 = some (d, μ2)) : mOrV ma mb τ μ = some (d, μ2) := by
  unfold mOrV; rw [bnd_of h1, bnd_of (show asB (.bl false) μ1 = some (false, μ1) from rfl), if_neg (by decide), h2]
theorem ev_notV (h : ma τ μ = some (.bl b, μ1)) : mNotV ma τ μ = some (.bl (!b), μ1) := by
  unfold mNotV; rw [bnd_of h, bnd_of (show asB (.bl b) μ1 = some (b, μ1) from rfl)]; rfl
theorem ev_notF (h : tc τ μ = some (true, μ1)) : mNot tc τ μ = some (false, μ1) := ev_not h
theorem ev_notVT (h : ma τ μ = some (.bl false, μ1)) : mNotV ma τ μ = some (.bl true, μ1) := ev_notV h
theorem ev_chainT (h1 : ma τ μ = some (x, μ1)) (h2 : mb τ μ1 = some (y, μ2)) (h3 : g x y μ2 = some (.bl true, μ3)) (h4 : mc τ μ3 = some (z, μ4)) (h5 : g' y z μ4 = some (d, μ4)) : mChain g g' ma mb mc τ μ = some (d, μ4) := by
  unfold mChain; rw [bnd_of h1, bnd_of h2, bnd_of h3, bnd_of (show asB (.bl true) μ3 = some (true, μ3) from rfl), if_pos rfl, bnd_of h4, h5]
theorem ev_noPart : noPart τ μ = some (none, μ) := rfl
theorem ev_part {i : Int} (h : ma τ μ = some (.int i, μ1)) : mPart ma τ μ = some (some i, μ1) := by unfold mPart; rw [bnd_of h]; rfl
theorem ev_sl {l h : Sl → M (Option Int)} {a b : Option Int} (h1 : ma τ μ = some (x, μ1)) (h2 : l τ μ1 = some (a, μ2)) (h3 : h τ μ2 = some (b, μ3)) (h4 : pySl a b x μ3 = some (d, μ4)) : mSl ma l h τ μ = some (d, μ4) := by unfold mSl; rw [bnd_of h1, bnd_of h2, bnd_of h3, h4]
theorem ev_nil : sNil τ μ = some ((.next, τ), μ) := rfl
theorem ev_seq (h1 : m1 τ μ = some ((.next, τ1), μ1)) (h2 : m2 τ1 μ1 = some (r, μ2)) : sSeq m1 m2 τ μ = some (r, μ2) := by unfold sSeq; rw [bnd_of h1]; exact h2
theorem ev_seqR (h1 : m1 τ μ = some ((.rt d, τ1), μ1)) : sSeq m1 m2 τ μ = some ((.rt d, τ1), μ1) := by unfold sSeq; rw [bnd_of h1]; rfl
theorem ev_expr (h1 : ma τ μ = some (d, μ1)) : sExpr ma τ μ = some ((.next, τ), μ1) := by unfold sExpr; rw [bnd_of h1]; rfl
theorem ev_ret (h1 : ma τ μ = some (d, μ1)) : sRet ma τ μ = some ((.rt d, τ), μ1) := by unfold sRet; rw [bnd_of h1]; rfl
theorem ev_ifT (h1 : tc τ μ = some (true, μ1)) (h2 : m1 τ μ1 = some (r, μ2)) : sIf tc m1 m2 τ μ = some (r, μ2) := by unfold sIf; rw [bnd_of h1, if_pos rfl, h2]
theorem ev_ifF (h1 : tc τ μ = some (false, μ1)) (h2 : m2 τ μ1 = some (r, μ2)) : sIf tc m1 m2 τ μ = some (r, μ2) := by unfold sIf; rw [bnd_of h1, if_neg (by decide), h2]
theorem ev_asg {bf : D → Sl → M Sl} (h1 : ma τ μ = some (d, μ1)) (h2 : bf d τ μ1 = some (τ1, μ2)) : sAsg ma bf τ μ = some ((.next, τ1), μ2) := by unfold sAsg; rw [bnd_of h1, bnd_of h2]; rfl
theorem ev_name {i : Nat} (h : τ.set i (some d) = τ1) : bName i d τ μ = some (τ1, μ) := by rw [← h]; rfl
theorem ev_sub {u : Unit} (h1 : ma τ μ = some (x, μ1)) (h2 : mb τ μ1 = some (y, μ2)) (h3 : setF x y d μ2 = some (u, μ3)) : bSub ma mb d τ μ = some (τ, μ3) := by unfold bSub; rw [bnd_of h1, bnd_of h2, bnd_of h3]; rfl
theorem ev_for {src : Sl → M (List D)} {bf : D → Sl → M Sl} (h1 : src τ μ = some (ds, μ1)) (h2 : forGo bf m1 ds τ μ1 = some (r, μ2)) : sFor src bf m1 τ μ = some (r, μ2) := by unfold sFor; rw [bnd_of h1, h2]
theorem l_lt {i j : Int} (h : i < j) : pyLt (.int i) (.int j) μ = some (.bl true, μ) := by show some (D.bl (decide (i < j)), μ) = _; rw [decide_eq_true h]
theorem l_ltF {i j : Int} (h : j ≤ i) : pyLt (.int i) (.int j) μ = some (.bl false, μ) := by show some (D.bl (decide (i < j)), μ) = _; rw [decide_eq_false (by omega)]
theorem l_le {i j : Int} (h : i ≤ j) : pyLe (.int i) (.int j) μ = some (.bl true, μ) := by show some (D.bl (decide (i ≤ j)), μ) = _; rw [decide_eq_true h]
theorem l_gt {i j : Int} (h : j < i) : pyGt (.int i) (.int j) μ = some (.bl true, μ) := by show some (D.bl (decide (j < i)), μ) = _; rw [decide_eq_true h]
theorem l_gtF {i j : Int} (h : i ≤ j) : pyGt (.int i) (.int j) μ = some (.bl false, μ) := by show some (D.bl (decide (j < i)), μ) = _; rw [decide_eq_false (by omega)]
theorem l_mod {i j : Int} (h : 0 < j) : pyMod (.int i) (.int j) μ = some (.int (i % j), μ) := by show (if 0 < j then some (D.int (i % j), μ) else none) = _; rw [if_pos h]
theorem l_fdiv {i j : Int} (h : 0 < j) (h2 : j < 1073741824) : pyFdiv (.int i) (.int j) μ = some (.int (i / j), μ) := by show (if 0 < j ∧ j < 1073741824 then some (D.int (i / j), μ) else none) = _; rw [if_pos ⟨h, h2⟩]
theorem l_mul {i j : Int} (h : (-(2 ^ 64) < i ∧ i < 2 ^ 64) ∨ (-(2 ^ 64) < j ∧ j < 2 ^ 64)) : pyMul (.int i) (.int j) μ = some (.int (i * j), μ) := by show (if (-(2 ^ 64) < i ∧ i < 2 ^ 64) ∨ (-(2 ^ 64) < j ∧ j < 2 ^ 64) then some (D.int (i * j), μ) else none) = _; rw [if_pos h]
theorem l_add {i j : Int} : pyAdd (.int i) (.int j) μ = some (.int (i + j), μ) := rfl
theorem l_sub {i j : Int} : pySub (.int i) (.int j) μ = some (.int (i - j), μ) := rfl
theorem l_inst_ii {i : Int} : instF [.int i, .ty "int"] μ = some (.bl true, μ) := by
  show (isSub "int" "int").map (fun b => (D.bl b, μ)) = _; rw [show isSub "int" "int" = some true from by decide]; rfl
theorem l_inst_ib {i : Int} : instF [.int i, .ty "bool"] μ = some (.bl false, μ) := by
  show (isSub "int" "bool").map (fun b => (D.bl b, μ)) = _; rw [show isSub "int" "bool" = some false from by decide]; rfl
theorem l_inst_ss {x : Str} : instF [.str x, .ty "str"] μ = some (.bl true, μ) := by
  show (isSub "str" "str").map (fun b => (D.bl b, μ)) = _; rw [show isSub "str" "str" = some true from by decide]; rfl
theorem l_inst_tt {ds : List D} : instF [.tup ds, .ty "tuple"] μ = some (.bl true, μ) := by
  show (isSub "tuple" "tuple").map (fun b => (D.bl b, μ)) = _; rw [show isSub "tuple" "tuple" = some true from by decide]; rfl
theorem l_ixRef {n : Nat} {ds : List D} {i : Int} (h : μ[n]? = some (.lst ds)) (h2 : atI ds i = some d) : pyIx (.ref n) (.int i) μ = some (d, μ) := by
  show bnd (asSeq1 (.ref n)) (fun ds => ixD ds i) μ = _
  rw [bnd_of (show asSeq1 (.ref n) μ = some (ds, μ) from by show (match μ[n]? with | some (.lst ds) => some (ds, μ) | _ => none) = _; rw [h])]
  unfold ixD; rw [h2]; rfl
theorem l_ixT {ds : List D} {i : Int} (h2 : atI ds i = some d) : pyIx (.tup ds) (.int i) μ = some (d, μ) := by
  show bnd (asSeq1 (.tup ds)) (fun ds => ixD ds i) μ = _
  rw [bnd_of (show asSeq1 (.tup ds) μ = some (ds, μ) from rfl)]
  unfold ixD; rw [h2]; rfl
theorem l_ixL {ds : List D} {i : Int} (h2 : atI ds i = some d) : pyIx (.lst ds) (.int i) μ = some (d, μ) := by
  show bnd (asSeq1 (.lst ds)) (fun ds => ixD ds i) μ = _
  rw [bnd_of (show asSeq1 (.lst ds) μ = some (ds, μ) from rfl)]
  unfold ixD; rw [h2]; rfl
theorem l_set {n j : Nat} {k : Int} {ds : List D} (h : μ[n]? = some (.lst ds)) (h2 : ixN ds.length k = some j) : setF (.ref n) (.int k) d μ = some ((), μ.set n (.lst (ds.set j d))) := by
  show (match μ[n]? with | some (.lst ds) => (ixN ds.length k).map fun j => ((), μ.set n (.lst (ds.set j d))) | _ => none) = _
  rw [h]; show (ixN ds.length k).map _ = _; rw [h2]; rfl
end
end Mi
local macro_rules | `(tactic| wtm_at "own qleaf") => `(tactic| first | rfl | assumption)
local macro_rules | `(tactic| wtm_at "own qev") => `(tactic| first
  | (with_reducible apply Mi.ev_nil) | (with_reducible apply Mi.ev_nilA) | (with_reducible apply Mi.ev_c) | (with_reducible apply Mi.ev_noPart) | (with_reducible apply Mi.ev_retN)
  | ((with_reducible apply Mi.ev_slot); first | rfl | assumption)
  | ((with_reducible apply Mi.ev_seqR); wtm_at "own qev")
  | ((with_reducible apply Mi.ev_seq); (wtm_at "own qev"); (wtm_at "own qev"))
  | ((with_reducible apply Mi.ev_asg); (wtm_at "own qev"); (wtm_at "own qev"))
  | ((with_reducible apply Mi.ev_name); rfl)
  | ((with_reducible apply Mi.ev_sub); (wtm_at "own qev"); (wtm_at "own qev"); (wtm_at "own qev"))
  | ((with_reducible apply Mi.ev_expr); wtm_at "own qev")
  | ((with_reducible apply Mi.ev_ret); wtm_at "own qev")
  | ((with_reducible apply Mi.ev_ifT); (wtm_at "own qev"); (wtm_at "own qev"))
  | ((with_reducible apply Mi.ev_ifF); (wtm_at "own qev"); (wtm_at "own qev"))
  | ((with_reducible apply Mi.ev_op); (wtm_at "own qev"); (wtm_at "own qev"); (wtm_at "own qev"))
  | ((with_reducible apply Mi.ev_un); (wtm_at "own qev"); (wtm_at "own qev"))
  | ((with_reducible apply Mi.ev_disp); (wtm_at "own qev"); (wtm_at "own qev"))
  | ((with_reducible apply Mi.ev_consA); (wtm_at "own qev"); (wtm_at "own qev"))
  | ((with_reducible apply Mi.ev_meth); (wtm_at "own qev"); (wtm_at "own qev"); (wtm_at "own qev"); (wtm_at "own qev"))
  | ((with_reducible apply Mi.ev_test); wtm_at "own qev")
  | ((with_reducible apply Mi.ev_notT); wtm_at "own qev")
  | ((with_reducible apply Mi.ev_notF); wtm_at "own qev")
  | ((with_reducible apply Mi.ev_andT); (wtm_at "own qev"); (wtm_at "own qev"))
  | ((with_reducible apply Mi.ev_andF); wtm_at "own qev")
  | ((with_reducible apply Mi.ev_orF); (wtm_at "own qev"); (wtm_at "own qev"))
  | ((with_reducible apply Mi.ev_orT); wtm_at "own qev")
  | ((with_reducible apply Mi.ev_andVT); (wtm_at "own qev"); (wtm_at "own qev"))
  | ((with_reducible apply Mi.ev_andVF); wtm_at "own qev")
  | ((with_reducible apply Mi.ev_orVF); (wtm_at "own qev"); (wtm_at "own qev"))
  | ((with_reducible apply Mi.ev_orVT); wtm_at "own qev")
  | ((with_reducible apply Mi.ev_notVT); wtm_at "own qev")
  | ((with_reducible apply Mi.ev_notVF); wtm_at "own qev")
  | ((with_reducible apply Mi.ev_chainT); (wtm_at "own qev"); (wtm_at "own qev"); (wtm_at "own qev"); (wtm_at "own qev"); (wtm_at "own qev"))
  | ((with_reducible apply Mi.ev_chainF); (wtm_at "own qev"); (wtm_at "own qev"); (wtm_at "own qev"))
  | ((with_reducible apply Mi.ev_part); wtm_at "own qev")
  | ((with_reducible apply Mi.ev_sl); (wtm_at "own qev"); (wtm_at "own qev"); (wtm_at "own qev"); (wtm_at "own qev"))
  | wtm_at "own qleaf")
local macro_rules | `(tactic| wtm_at "own qnums") => `(tactic| first | assumption | decide | omega)
local macro_rules | `(tactic| wtm_at "own qleaf") => `(tactic| first
  | ((with_reducible apply Mi.l_le); wtm_at "own qnums") | ((with_reducible apply Mi.l_leF); wtm_at "own qnums") | ((with_reducible apply Mi.l_lt); wtm_at "own qnums") | ((with_reducible apply Mi.l_ltF); wtm_at "own qnums") | ((with_reducible apply Mi.l_gt); wtm_at "own qnums") | ((with_reducible apply Mi.l_gtF); wtm_at "own qnums")
  | (with_reducible apply Mi.l_inst_ii) | (with_reducible apply Mi.l_inst_ib) | (with_reducible apply Mi.l_inst_ss) | (with_reducible apply Mi.l_inst_tt) | (with_reducible apply Mi.l_add) | (with_reducible apply Mi.l_sub) | ((with_reducible apply Mi.l_mod); wtm_at "own qnums") | ((with_reducible apply Mi.l_fdiv); (wtm_at "own qnums"); (wtm_at "own qnums")) | ((with_reducible apply Mi.l_mul); first | (left; omega) | (right; omega))
  | ((with_reducible apply Mi.l_ixT); rfl) | ((with_reducible apply Mi.l_ixL); rfl) | ((with_reducible apply Mi.l_ixRef); (first | assumption | rfl); (rfl)) | ((with_reducible apply Mi.l_set); (first | assumption | rfl); (rfl)))
namespace K1
open PySem L2 Mi
noncomputable def sl (xs : List Str) : D := .tup (xs.map D.str)
noncomputable def d_LETTERS : D := .str "abcdefghijklmnopqrstuvwxyz"
noncomputable def d_GREATEST : D := .int 9
noncomputable def d_DEEPEST : D := .int 5
noncomputable def d_PAIR_WORDS : D := sl ["+", "-", "=", "<", "and", "or"]
noncomputable def d_KINDS : D := sl ["safe", "steady", "whole"]
noncomputable def d_MOST_BOXES : D := .int 6
noncomputable def d_LEAST_HANDS : D := .int 2
noncomputable def d_MOST_HANDS : D := .int 4
noncomputable def d_MOST_ROWS : D := .int 60
noncomputable def d_MOST_WITHIN : D := .int 400
noncomputable def d_LEAST_SIZE : D := .int 2
noncomputable def d_MOST_SIZE : D := .int 10
noncomputable def d_NO_VARIABLES : D := sl ["not", "and", "or"]
noncomputable def tab_PARTS : List (Str × List Str) := [("put", ["box", "expression"]), ("get", ["variable", "box"]), ("let", ["variable", "expression"]), ("unless", ["expression", "target"]), ("jump", ["target"]), ("tell", ["expression"]), ("done", [])]
noncomputable def t_PARTS : Str → Option D := tabF tab_PARTS
noncomputable def m_is_whole  : Sl → M (Fl × Sl) :=
    (sRet (mAndV (mDisp instF (aCons (mSlot 0) (aCons (mC (.ty "int")) aNil))) (mAndV (mNotV (mDisp instF (aCons (mSlot 0) (aCons (mC (.ty "bool")) aNil)))) (mChain pyLe pyLe (mSlot 1) (mSlot 0) (mSlot 2)))))
noncomputable def m_is_name  : Sl → M (Fl × Sl) :=
    (sRet (mAndV (mDisp instF (aCons (mSlot 0) (aCons (mC (.ty "str")) aNil))) (mAndV (mChain pyLe pyLe (mC (.int 1)) (mDisp lenF (aCons (mSlot 0) aNil)) (mC (.int 8))) (mDisp allF (aCons (mComp 1 [] (mSrcS (mSlot 0)) (bName 0) mTrue (mOp (pyIn false) (mSlot 0) (mC d_LETTERS)) newL) aNil)))))
noncomputable def m_is_expression (φ_is_expression : List D → M D) (φ_is_whole : List D → M D) (φ_is_name : List D → M D) : Sl → M (Fl × Sl) :=
    (sSeq (sIf (mOr (mTest (mOp pyLt (mSlot 1) (mC (.int 1)))) (mOr (mNot (mTest (mDisp instF (aCons (mSlot 0) (aCons (mC (.ty "tuple")) aNil))))) (mTest (mOp pyEq (mDisp lenF (aCons (mSlot 0) aNil)) (mC (.int 0)))))) (sRet (mC (.bl false))) sNil)
    (sSeq (sAsg (mOp pyIx (mSlot 0) (mC (.int 0))) (bName 2))
    (sSeq (sIf (mTest (mOp (pyIn false) (mSlot 2) (mC d_PAIR_WORDS))) (sRet (mAndV (mOp pyEq (mDisp lenF (aCons (mSlot 0) aNil)) (mC (.int 3))) (mAndV (mDisp φ_is_expression (aCons (mOp pyIx (mSlot 0) (mC (.int 1))) (aCons (mOp pySub (mSlot 1) (mC (.int 1))) aNil))) (mDisp φ_is_expression (aCons (mOp pyIx (mSlot 0) (mC (.int 2))) (aCons (mOp pySub (mSlot 1) (mC (.int 1))) aNil)))))) sNil)
    (sSeq (sIf (mTest (mOp pyNe (mDisp lenF (aCons (mSlot 0) aNil)) (mC (.int 2)))) (sRet (mC (.bl false))) sNil)
    (sSeq (sIf (mTest (mOp pyEq (mSlot 2) (mC (.str "num")))) (sRet (mDisp φ_is_whole (aCons (mOp pyIx (mSlot 0) (mC (.int 1))) (aCons (mC (.int 0)) (aCons (mC d_GREATEST) aNil))))) sNil)
    (sSeq (sIf (mTest (mOp pyEq (mSlot 2) (mC (.str "var")))) (sRet (mDisp φ_is_name (aCons (mOp pyIx (mSlot 0) (mC (.int 1))) aNil))) sNil)
    (sRet (mAndV (mOp pyEq (mSlot 2) (mC (.str "not"))) (mDisp φ_is_expression (aCons (mOp pyIx (mSlot 0) (mC (.int 1))) (aCons (mOp pySub (mSlot 1) (mC (.int 1))) aNil)))))))))))
noncomputable def m_variables_in (φ_variables_in : List D → M D) : Sl → M (Fl × Sl) :=
    (sSeq (sIf (mTest (mOp pyEq (mOp pyIx (mSlot 0) (mC (.int 0))) (mC (.str "num")))) (sRet (mDisp newL aNil)) sNil)
    (sSeq (sIf (mTest (mOp pyEq (mOp pyIx (mSlot 0) (mC (.int 0))) (mC (.str "var")))) (sRet (mDisp newL (aCons (mOp pyIx (mSlot 0) (mC (.int 1))) aNil))) sNil)
    (sSeq (sAsg (mDisp newB aNil) (bName 1))
    (sSeq (sFor (mSrc (mSl (mSlot 0) (mPart (mC (.int 1))) noPart)) (bName 2) (sExpr (mMethL extF (mSlot 1) (aCons (mDisp φ_variables_in (aCons (mSlot 2) aNil)) aNil))))
    (sRet (mSlot 1))))))
noncomputable def m_need  : Sl → M (Fl × Sl) :=
    (sIf (mNot (mTest (mSlot 0))) sNever sNil)
noncomputable def m_is_tuple  : Sl → M (Fl × Sl) :=
    (sRet (mAndV (mDisp instF (aCons (mSlot 0) (aCons (mC (.ty "tuple")) aNil))) (mChain pyLe pyLe (mSlot 1) (mDisp lenF (aCons (mSlot 0) aNil)) (mSlot 2))))
noncomputable def m_check_worths (φ_need : List D → M D) (φ_is_whole : List D → M D) : Sl → M (Fl × Sl) :=
    (sSeq (sExpr (mDisp φ_need (aCons (mOp (pyIn false) (mSlot 0) (mC d_KINDS)) (aCons (mC (.str "a kind is safe, steady or whole")) aNil))))
    (sSeq (sExpr (mDisp φ_need (aCons (mDisp φ_is_whole (aCons (mSlot 1) (aCons (mC d_LEAST_SIZE) (aCons (mC d_MOST_SIZE) aNil)))) (aCons (mC (.str "a size is a whole number from 2 to 10")) aNil))))
    (sExpr (mDisp φ_need (aCons (mDisp φ_is_whole (aCons (mSlot 2) (aCons (mC (.int 0)) (aCons (mOp pySub (mSlot 1) (mC (.int 1))) aNil)))) (aCons (mC (.str "a begin is a worth of its box")) aNil))))))
noncomputable def m_is_part (φ_is_expression : List D → M D) (φ_is_whole : List D → M D) (φ_is_name : List D → M D) : Sl → M (Fl × Sl) :=
    (sSeq (sIf (mTest (mOp pyEq (mSlot 0) (mC (.str "expression")))) (sRet (mDisp φ_is_expression (aCons (mSlot 1) (aCons (mC d_DEEPEST) aNil)))) sNil)
    (sSeq (sIf (mTest (mOp pyEq (mSlot 0) (mC (.str "target")))) (sRet (mDisp φ_is_whole (aCons (mSlot 1) (aCons (mC (.int 0)) (aCons (mSlot 2) aNil))))) sNil)
    (sRet (mDisp φ_is_name (aCons (mSlot 1) aNil)))))
noncomputable def m_check_ending (φ_need : List D → M D) : Sl → M (Fl × Sl) :=
    (sIf (mTest (mSlot 1)) (sExpr (mDisp φ_need (aCons (mOp pyNe (mSlot 0) (mC (.str "tell"))) (aCons (mC (.str "the writer tells nothing")) aNil)))) (sExpr (mDisp φ_need (aCons (mOp pyNe (mSlot 0) (mC (.str "done"))) (aCons (mC (.str "a reader ends by telling")) aNil)))))
noncomputable def m_check_making (φ_is_tuple : List D → M D) (φ_need : List D → M D) (φ_check_worths : List D → M D) (φ_check_boxes : List D → M D) (φ_check_hands : List D → M D) (φ_check_rows : List D → M D) : Sl → M (Fl × Sl) :=
    (sSeq (sExpr (mDisp φ_need (aCons (mDisp φ_is_tuple (aCons (mSlot 0) (aCons (mC (.int 5)) (aCons (mC (.int 5)) aNil)))) (aCons (mC (.str "a making is a tuple of five parts")) aNil))))
    (sSeq (sExpr (mDisp φ_check_worths (aCons (mOp pyIx (mSlot 0) (mC (.int 0))) (aCons (mOp pyIx (mSlot 0) (mC (.int 1))) (aCons (mOp pyIx (mSlot 0) (mC (.int 2))) aNil)))))
    (sSeq (sExpr (mDisp φ_check_boxes (aCons (mOp pyIx (mSlot 0) (mC (.int 3))) aNil)))
    (sSeq (sExpr (mDisp φ_check_hands (aCons (mOp pyIx (mSlot 0) (mC (.int 4))) aNil)))
    (sSeq (sAsg (mComp 1 [] (mSrc (mOp pyIx (mSlot 0) (mC (.int 4)))) (bName 0) mTrue (mOp pyIx (mSlot 0) (mC (.int 0))) newL) (bName 1))
    (sSeq (sAsg newD (bName 2))
    (sSeq (sFor (mSrc (mOp pyIx (mSlot 0) (mC (.int 3)))) (bName 3) (sSeq (sExpr (mDisp φ_need (aCons (mOp (pyIn false) (mOp pyIx (mSlot 3) (mC (.int 4))) (mSlot 1)) (aCons (mC (.str "the hand of a box is none")) aNil))))
    (sDput (mSlot 2) (mOp pyIx (mSlot 3) (mC (.int 0))) (mOp pyIx (mSlot 3) (mC (.int 4))))))
    (sFor (mEnumT (aCons (mOp pyIx (mSlot 0) (mC (.int 4))) aNil)) (bTup [4, 5]) (sExpr (mDisp φ_check_rows (aCons (mSlot 5) (aCons (mOp pyEq (mSlot 4) (mC (.int 0))) (aCons (mSlot 2) aNil)))))))))))))
noncomputable def m_check_boxes (φ_is_tuple : List D → M D) (φ_need : List D → M D) (φ_is_name : List D → M D) (φ_check_worths : List D → M D) (φ_are_unlike : List D → M D) : Sl → M (Fl × Sl) :=
    (sSeq (sExpr (mDisp φ_need (aCons (mDisp φ_is_tuple (aCons (mSlot 0) (aCons (mC (.int 0)) (aCons (mC d_MOST_BOXES) aNil)))) (aCons (mC (.str "boxes are a tuple of at most six")) aNil))))
    (sSeq (sFor (mSrc (mSlot 0)) (bName 1) (sSeq (sExpr (mDisp φ_need (aCons (mDisp φ_is_tuple (aCons (mSlot 1) (aCons (mC (.int 5)) (aCons (mC (.int 5)) aNil)))) (aCons (mC (.str "a box is a tuple of five parts")) aNil))))
    (sSeq (sExpr (mDisp φ_need (aCons (mDisp φ_is_name (aCons (mOp pyIx (mSlot 1) (mC (.int 0))) aNil)) (aCons (mC (.str "a box has a name")) aNil))))
    (sExpr (mDisp φ_check_worths (aCons (mOp pyIx (mSlot 1) (mC (.int 1))) (aCons (mOp pyIx (mSlot 1) (mC (.int 2))) (aCons (mOp pyIx (mSlot 1) (mC (.int 3))) aNil))))))))
    (sExpr (mDisp φ_need (aCons (mDisp φ_are_unlike (aCons (mComp 1 [] (mSrc (mSlot 0)) (bName 0) mTrue (mOp pyIx (mSlot 0) (mC (.int 0))) newL) aNil)) (aCons (mC (.str "two boxes have one name")) aNil))))))
noncomputable def m_check_hands (φ_is_tuple : List D → M D) (φ_need : List D → M D) (φ_is_name : List D → M D) (φ_is_whole : List D → M D) (φ_are_unlike : List D → M D) : Sl → M (Fl × Sl) :=
    (sSeq (sExpr (mDisp φ_need (aCons (mDisp φ_is_tuple (aCons (mSlot 0) (aCons (mC d_LEAST_HANDS) (aCons (mC d_MOST_HANDS) aNil)))) (aCons (mC (.str "hands are a tuple of two to four")) aNil))))
    (sSeq (sFor (mSrc (mSlot 0)) (bName 1) (sSeq (sExpr (mDisp φ_need (aCons (mDisp φ_is_tuple (aCons (mSlot 1) (aCons (mC (.int 3)) (aCons (mC (.int 3)) aNil)))) (aCons (mC (.str "a hand is a tuple of three parts")) aNil))))
    (sSeq (sExpr (mDisp φ_need (aCons (mDisp φ_is_name (aCons (mOp pyIx (mSlot 1) (mC (.int 0))) aNil)) (aCons (mC (.str "a hand has a name")) aNil))))
    (sSeq (sExpr (mDisp φ_need (aCons (mDisp φ_is_whole (aCons (mOp pyIx (mSlot 1) (mC (.int 1))) (aCons (mC (.int 0)) (aCons (mC d_MOST_WITHIN) aNil)))) (aCons (mC (.str "a told count is a whole number from 0 to 400")) aNil))))
    (sExpr (mDisp φ_need (aCons (mDisp φ_is_tuple (aCons (mOp pyIx (mSlot 1) (mC (.int 2))) (aCons (mC (.int 0)) (aCons (mC d_MOST_ROWS) aNil)))) (aCons (mC (.str "rows are a tuple of at most sixty")) aNil))))))))
    (sExpr (mDisp φ_need (aCons (mDisp φ_are_unlike (aCons (mComp 1 [] (mSrc (mSlot 0)) (bName 0) mTrue (mOp pyIx (mSlot 0) (mC (.int 0))) newL) aNil)) (aCons (mC (.str "two hands have one name")) aNil))))))
noncomputable def m_are_unlike  : Sl → M (Fl × Sl) :=
    (sRet (mOp pyEq (mUn lensetF (mSlot 0)) (mDisp lenF (aCons (mSlot 0) aNil))))
noncomputable def m_check_rows (φ_check_form : List D → M D) (φ_check_ending : List D → M D) (φ_check_variables : List D → M D) (φ_need : List D → M D) : Sl → M (Fl × Sl) :=
    (sFor (mSrc (mOp pyIx (mSlot 0) (mC (.int 2)))) (bName 3) (sSeq (sExpr (mDisp φ_check_form (aCons (mSlot 3) (aCons (mDisp lenF (aCons (mOp pyIx (mSlot 0) (mC (.int 2))) aNil)) aNil))))
    (sSeq (sExpr (mDisp φ_check_ending (aCons (mOp pyIx (mSlot 3) (mC (.int 0))) (aCons (mSlot 1) aNil))))
    (sSeq (sExpr (mDisp φ_check_variables (aCons (mSlot 3) (aCons (mSlot 1) aNil))))
    (sSeq (sIf (mTest (mOp pyEq (mOp pyIx (mSlot 3) (mC (.int 0))) (mC (.str "put")))) (sExpr (mDisp φ_need (aCons (mOp pyEq (mDget1 (mSlot 2) (mOp pyIx (mSlot 3) (mC (.int 1)))) (mOp pyIx (mSlot 0) (mC (.int 0)))) (aCons (mC (.str "a hand puts a box that it does not write")) aNil)))) sNil)
    (sIf (mTest (mOp pyEq (mOp pyIx (mSlot 3) (mC (.int 0))) (mC (.str "get")))) (sExpr (mDisp φ_need (aCons (mOp (dinF false) (mOp pyIx (mSlot 3) (mC (.int 2))) (mSlot 2)) (aCons (mC (.str "a hand gets a box that is none")) aNil)))) sNil))))))
noncomputable def m_check_form (φ_is_tuple : List D → M D) (φ_need : List D → M D) (φ_is_part : List D → M D) : Sl → M (Fl × Sl) :=
    (sSeq (sExpr (mDisp φ_need (aCons (mDisp φ_is_tuple (aCons (mSlot 0) (aCons (mC (.int 1)) (aCons (mC (.int 3)) aNil)))) (aCons (mC (.str "a row is a tuple of one to three parts")) aNil))))
    (sSeq (sExpr (mDisp φ_need (aCons (mAndV (mDisp instF (aCons (mOp pyIx (mSlot 0) (mC (.int 0))) (aCons (mC (.ty "str")) aNil))) (mUn (kinF t_PARTS) (mOp pyIx (mSlot 0) (mC (.int 0))))) (aCons (mC (.str "a row begins with one of seven words")) aNil))))
    (sSeq (sAsg (mUn (kgetF t_PARTS) (mOp pyIx (mSlot 0) (mC (.int 0)))) (bName 2))
    (sSeq (sExpr (mDisp φ_need (aCons (mOp pyEq (mDisp lenF (aCons (mSlot 0) aNil)) (mOp pyAdd (mC (.int 1)) (mDisp lenF (aCons (mSlot 2) aNil)))) (aCons (mC (.str "a row has the parts of its word")) aNil))))
    (sFor (mZip (aCons (mSlot 2) (aCons (mSl (mSlot 0) (mPart (mC (.int 1))) noPart) aNil))) (bTup [3, 4]) (sExpr (mDisp φ_need (aCons (mDisp φ_is_part (aCons (mSlot 3) (aCons (mSlot 4) (aCons (mSlot 1) aNil)))) (aCons (mJoin [(mC (.str "a row has another thing than its ")), (mFmt (mSlot 3))]) aNil)))))))))
noncomputable def m_check_variables (φ_variables_of : List D → M D) (φ_need : List D → M D) : Sl → M (Fl × Sl) :=
    (sSeq (sFor (mSrc (mDisp φ_variables_of (aCons (mSlot 0) aNil))) (bName 2) (sSeq (sExpr (mDisp φ_need (aCons (mOp (pyIn true) (mSlot 2) (mC d_NO_VARIABLES)) (aCons (mC (.str "a variable is called like a word of expressions")) aNil))))
    (sExpr (mDisp φ_need (aCons (mOrV (mSlot 1) (mOp pyNe (mSlot 2) (mC (.str "v")))) (aCons (mC (.str "a reader has no variable v")) aNil))))))
    (sIf (mTest (mOp (pyIn false) (mOp pyIx (mSlot 0) (mC (.int 0))) (mDisp newT (aCons (mC (.str "get")) (aCons (mC (.str "let")) aNil))))) (sExpr (mDisp φ_need (aCons (mOp pyNe (mOp pyIx (mSlot 0) (mC (.int 1))) (mC (.str "v"))) (aCons (mC (.str "the variable v is set by no row")) aNil)))) sNil))
noncomputable def m_variables_of (φ_variables_in : List D → M D) : Sl → M (Fl × Sl) :=
    (sSeq (sAsg (mDisp newB aNil) (bName 1))
    (sSeq (sFor (mZip (aCons (mUn (kgetF t_PARTS) (mOp pyIx (mSlot 0) (mC (.int 0)))) (aCons (mSl (mSlot 0) (mPart (mC (.int 1))) noPart) aNil))) (bTup [2, 3]) (sSeq (sIf (mTest (mOp pyEq (mSlot 2) (mC (.str "variable")))) (sExpr (mMethL appF (mSlot 1) (aCons (mSlot 3) aNil))) sNil)
    (sIf (mTest (mOp pyEq (mSlot 2) (mC (.str "expression")))) (sExpr (mMethL extF (mSlot 1) (aCons (mDisp φ_variables_in (aCons (mSlot 3) aNil)) aNil))) sNil)))
    (sRet (mSlot 1))))
noncomputable def m__law_cell_at  : Sl → M (Fl × Sl) :=
    (sSeq (sIf (mTest (mOp pyLt (mSlot 1) (mDisp lenF (aCons (mSlot 0) aNil)))) (sRet (mOp pyIx (mSlot 0) (mSlot 1))) sNil)
    (sRet (mC (.int 0))))
noncomputable def m__law_well  : Sl → M (Fl × Sl) :=
    (sRet (mDisp newB (aCons (mDisp maxF (aCons (mC (.int 0)) (aCons (mOp pySub (mSlot 0) (mOp pyPow (mC (.int 10)) (mC (.int 9)))) aNil))) (aCons (mOp pyMod (mSlot 0) (mC (.int 2147483647))) (aCons (mC (.int 0)) aNil)))))
noncomputable def m__law_draw  : Sl → M (Fl × Sl) :=
    (sSeq (sIf (mTest (mOp pyGt (mOp pyIx (mSlot 0) (mC (.int 0))) (mC (.int 0)))) (sSeq (sAsg (mOp pyMod (mOp pyIx (mSlot 0) (mC (.int 0))) (mSlot 1)) (bName 2))
    (sSeq (sAsg (mOp pyFdiv (mOp pyIx (mSlot 0) (mC (.int 0))) (mSlot 1)) (bSub (mSlot 0) (mC (.int 0))))
    (sRet (mSlot 2)))) sNil)
    (sSeq (sAsg (mOp pyAdd (mOp pyIx (mSlot 0) (mC (.int 2))) (mC (.int 1))) (bSub (mSlot 0) (mC (.int 2))))
    (sSeq (sAsg (mOp pyMod (mOp pyMul (mOp pyAdd (mOp pyAdd (mOp pyIx (mSlot 0) (mC (.int 1))) (mOp pyMul (mC (.int 7919)) (mOp pyIx (mSlot 0) (mC (.int 2))))) (mC (.int 1))) (mC (.int 48271))) (mC (.int 2147483647))) (bName 3))
    (sSeq (sAsg (mOp pyMod (mOp pyMul (mSlot 3) (mOp pyAdd (mOp pyFdiv (mSlot 3) (mC (.int 1009))) (mC (.int 69621)))) (mC (.int 2147483647))) (bName 3))
    (sSeq (sAsg (mOp pyMod (mOp pyMul (mSlot 3) (mOp pyAdd (mOp pyFdiv (mSlot 3) (mC (.int 2003))) (mC (.int 40692)))) (mC (.int 2147483399))) (bName 3))
    (sRet (mOp pyMod (mOp pyAdd (mOp pyMul (mSlot 3) (mC (.int 48271))) (mOp pyFdiv (mSlot 3) (mC (.int 7)))) (mSlot 1))))))))
noncomputable def m__law_expr (φ__law_draw : List D → M D) (φ__law_expr : List D → M D) : Sl → M (Fl × Sl) :=
    (sSeq (sAsg (mDisp φ__law_draw (aCons (mSlot 0) (aCons (mC (.int 10)) aNil))) (bName 3))
    (sSeq (sIf (mOr (mTest (mOp pyEq (mSlot 2) (mC (.int 1)))) (mTest (mOp pyLt (mSlot 3) (mC (.int 3))))) (sSeq (sIf (mOr (mTest (mOp pyEq (mSlot 1) (mDisp newL aNil))) (mTest (mOp pyEq (mDisp φ__law_draw (aCons (mSlot 0) (aCons (mC (.int 2)) aNil))) (mC (.int 0))))) (sRet (mDisp newT (aCons (mC (.str "num")) (aCons (mDisp φ__law_draw (aCons (mSlot 0) (aCons (mC (.int 10)) aNil))) aNil)))) sNil)
    (sRet (mDisp newT (aCons (mC (.str "var")) (aCons (mOp pyIx (mSlot 1) (mDisp φ__law_draw (aCons (mSlot 0) (aCons (mDisp lenF (aCons (mSlot 1) aNil)) aNil)))) aNil))))) sNil)
    (sSeq (sIf (mTest (mOp pyEq (mSlot 3) (mC (.int 3)))) (sRet (mDisp newT (aCons (mC (.str "not")) (aCons (mDisp φ__law_expr (aCons (mSlot 0) (aCons (mSlot 1) (aCons (mOp pySub (mSlot 2) (mC (.int 1))) aNil)))) aNil)))) sNil)
    (sSeq (sAsg (mOp pyIx (mDisp newL (aCons (mC (.str "+")) (aCons (mC (.str "-")) (aCons (mC (.str "=")) (aCons (mC (.str "<")) (aCons (mC (.str "and")) (aCons (mC (.str "or")) aNil))))))) (mOp pySub (mSlot 3) (mC (.int 4)))) (bName 4))
    (sSeq (sAsg (mDisp φ__law_expr (aCons (mSlot 0) (aCons (mSlot 1) (aCons (mOp pySub (mSlot 2) (mC (.int 1))) aNil)))) (bName 5))
    (sSeq (sAsg (mDisp φ__law_expr (aCons (mSlot 0) (aCons (mSlot 1) (aCons (mDisp minF (aCons (mOp pySub (mSlot 2) (mC (.int 1))) (aCons (mC (.int 2)) aNil))) aNil)))) (bName 6))
    (sRet (mOp pyIx (mDisp newL (aCons (mDisp newT (aCons (mSlot 4) (aCons (mSlot 5) (aCons (mSlot 6) aNil)))) (aCons (mDisp newT (aCons (mSlot 4) (aCons (mSlot 6) (aCons (mSlot 5) aNil)))) aNil))) (mDisp φ__law_draw (aCons (mSlot 0) (aCons (mC (.int 2)) aNil)))))))))))
noncomputable def m__law_row (φ__law_draw : List D → M D) (φ__law_expr : List D → M D) : Sl → M (Fl × Sl) :=
    (sSeq (sAsg (mDisp φ__law_draw (aCons (mSlot 0) (aCons (mC (.int 8)) aNil))) (bName 6))
    (sSeq (sAsg (mOp pyIx (mDisp newL (aCons (mC (.int 1)) (aCons (mC (.int 2)) (aCons (mC (.int 3)) (aCons (mC (.int 5)) aNil))))) (mDisp φ__law_draw (aCons (mSlot 0) (aCons (mC (.int 4)) aNil)))) (bName 7))
    (sSeq (sIf (mTest (mOp pyGt (mSlot 4) (mC (.int 9)))) (sAsg (mDisp minF (aCons (mSlot 7) (aCons (mC (.int 2)) aNil))) (bName 7)) sNil)
    (sSeq (sAsg (mOp pyAdd (mSlot 3) (mOp pyMul (mDisp newL (aCons (mC (.str "v")) aNil)) (mDisp intF (aCons (mSlot 5) aNil)))) (bName 8))
    (sSeq (sIf (mAnd (mTest (mOp pyLt (mSlot 6) (mC (.int 2)))) (mTest (mOp pyNe (mSlot 1) (mDisp newL aNil)))) (sRet (mDisp newT (aCons (mC (.str "put")) (aCons (mOp pyIx (mSlot 1) (mDisp φ__law_draw (aCons (mSlot 0) (aCons (mDisp lenF (aCons (mSlot 1) aNil)) aNil)))) (aCons (mDisp φ__law_expr (aCons (mSlot 0) (aCons (mSlot 8) (aCons (mSlot 7) aNil)))) aNil))))) sNil)
    (sSeq (sIf (mAnd (mTest (mOp pyLt (mSlot 6) (mC (.int 4)))) (mTest (mOp pyNe (mSlot 2) (mDisp newL aNil)))) (sRet (mDisp newT (aCons (mC (.str "get")) (aCons (mOp pyIx (mSlot 3) (mDisp φ__law_draw (aCons (mSlot 0) (aCons (mDisp lenF (aCons (mSlot 3) aNil)) aNil)))) (aCons (mOp pyIx (mSlot 2) (mDisp φ__law_draw (aCons (mSlot 0) (aCons (mDisp lenF (aCons (mSlot 2) aNil)) aNil)))) aNil))))) sNil)
    (sSeq (sIf (mTest (mOp pyLt (mSlot 6) (mC (.int 5)))) (sRet (mDisp newT (aCons (mC (.str "let")) (aCons (mOp pyIx (mSlot 3) (mDisp φ__law_draw (aCons (mSlot 0) (aCons (mDisp lenF (aCons (mSlot 3) aNil)) aNil)))) (aCons (mDisp φ__law_expr (aCons (mSlot 0) (aCons (mSlot 8) (aCons (mSlot 7) aNil)))) aNil))))) sNil)
    (sSeq (sIf (mTest (mOp pyEq (mSlot 6) (mC (.int 5)))) (sRet (mDisp newT (aCons (mC (.str "unless")) (aCons (mDisp φ__law_expr (aCons (mSlot 0) (aCons (mSlot 8) (aCons (mSlot 7) aNil)))) (aCons (mDisp φ__law_draw (aCons (mSlot 0) (aCons (mOp pyAdd (mSlot 4) (mC (.int 1))) aNil))) aNil))))) sNil)
    (sSeq (sIf (mTest (mOp pyEq (mSlot 6) (mC (.int 6)))) (sRet (mDisp newT (aCons (mC (.str "jump")) (aCons (mDisp φ__law_draw (aCons (mSlot 0) (aCons (mOp pyAdd (mSlot 4) (mC (.int 1))) aNil))) aNil)))) sNil)
    (sRet (mOp pyIx (mDisp newL (aCons (mDisp newT (aCons (mC (.str "tell")) (aCons (mDisp φ__law_expr (aCons (mSlot 0) (aCons (mSlot 8) (aCons (mSlot 7) aNil)))) aNil))) (aCons (mDisp newT (aCons (mC (.str "done")) aNil)) aNil))) (mDisp intF (aCons (mSlot 5) aNil)))))))))))))
noncomputable def m__law_any_name (φ__law_draw : List D → M D) : Sl → M (Fl × Sl) :=
    (sSeq (sAsg (mC (.str "")) (bName 2))
    (sSeq (sFor (mRng1 (aCons (mOp pyAdd (mC (.int 1)) (mDisp φ__law_draw (aCons (mSlot 0) (aCons (mC (.int 8)) aNil)))) aNil)) (bName 3) (sAsg (mOp pyAdd (mSlot 2) (mOp pyIx (mC (.str "abcdefghijklmnopqrstuvwxyz")) (mDisp φ__law_draw (aCons (mSlot 0) (aCons (mC (.int 26)) aNil))))) (bName 2)))
    (sSeq (sIf (mTest (mOp (pyIn false) (mSlot 2) (mSlot 1))) (sAsg (mC (.str "abcdefgh")) (bName 2)) sNil)
    (sRet (mSlot 2)))))
noncomputable def m__law_making (φ__law_any_name : List D → M D) (φ__law_draw : List D → M D) (φ__law_row : List D → M D) : Sl → M (Fl × Sl) :=
    (sSeq (sAsg (mDisp newB (aCons (mC (.str "w")) (aCons (mC (.str "r")) (aCons (mC (.str "put")) (aCons (mC (.str "makes")) (aCons (mC (.str "box")) (aCons (mC (.str "hand")) (aCons (mC (.str "z")) (aCons (mC (.str "not")) (aCons (mC (.str "v")) (aCons (mC (.str "safe")) (aCons (mC (.str "x")) aNil)))))))))))) (bName 1))
    (sSeq (sExpr (mMethL insF (mSlot 1) (aCons (mC (.int 6)) (aCons (mDisp φ__law_any_name (aCons (mSlot 0) (aCons (mSlot 1) aNil))) aNil))))
    (sSeq (sAsg (mDisp φ__law_draw (aCons (mSlot 0) (aCons (mC (.int 12)) aNil))) (bName 2))
    (sSeq (sAsg (mOp pyAdd (mSl (mSlot 1) (mPart (mSlot 2)) noPart) (mSl (mSlot 1) noPart (mPart (mSlot 2)))) (bName 1))
    (sSeq (sAsg (mSl (mSlot 1) noPart (mPart (mOp pyAdd (mC (.int 2)) (mDisp φ__law_draw (aCons (mSlot 0) (aCons (mC (.int 3)) aNil)))))) (bName 3))
    (sSeq (sAsg (mDisp newB aNil) (bName 4))
    (sSeq (sFor (mRng1 (aCons (mDisp φ__law_draw (aCons (mSlot 0) (aCons (mC (.int 7)) aNil))) aNil)) (bName 5) (sSeq (sAsg (mOp pyAdd (mC (.int 2)) (mDisp φ__law_draw (aCons (mSlot 0) (aCons (mC (.int 9)) aNil)))) (bName 6))
    (sSeq (sAsg (mOp pyIx (mDisp newL (aCons (mC (.str "safe")) (aCons (mC (.str "steady")) (aCons (mC (.str "whole")) aNil)))) (mDisp φ__law_draw (aCons (mSlot 0) (aCons (mC (.int 3)) aNil)))) (bName 7))
    (sExpr (mMethL appF (mSlot 4) (aCons (mDisp newT (aCons (mOp pyIx (mSlot 1) (mOp pySub (mC (.int 11)) (mSlot 5))) (aCons (mSlot 7) (aCons (mSlot 6) (aCons (mDisp φ__law_draw (aCons (mSlot 0) (aCons (mSlot 6) aNil))) (aCons (mOp pyIx (mSlot 3) (mDisp φ__law_draw (aCons (mSlot 0) (aCons (mDisp lenF (aCons (mSlot 3) aNil)) aNil)))) aNil)))))) aNil))))))
    (sSeq (sAsg (mDisp newB aNil) (bName 8))
    (sSeq (sAsg (mDisp φ__law_draw (aCons (mSlot 0) (aCons (mOp pyMul (mC (.int 9)) (mDisp lenF (aCons (mSlot 3) aNil))) aNil))) (bName 9))
    (sSeq (sFor (mEnum (aCons (mSlot 3) aNil)) (bTup [5, 10]) (sSeq (sAsg (mOp pyIx (mDisp newL (aCons (mC (.int 0)) (aCons (mC (.int 1)) (aCons (mC (.int 3)) (aCons (mC (.int 5)) (aCons (mC (.int 7)) aNil)))))) (mDisp φ__law_draw (aCons (mSlot 0) (aCons (mC (.int 5)) aNil)))) (bName 11))
    (sSeq (sIf (mTest (mOp pyEq (mSlot 5) (mSlot 9))) (sAsg (mC (.int 60)) (bName 11)) sNil)
    (sSeq (sAsg (mComp 1 [10] (mSrcR (mSlot 4)) (bName 0) (mTest (mOp pyEq (mOp pyIx (mSlot 0) (mC (.int 4))) (mSlot 1))) (mOp pyIx (mSlot 0) (mC (.int 0))) newL) (bName 12))
    (sSeq (sAsg (mDisp newB (aCons (mC (.str "x")) (aCons (mC (.str "tell")) (aCons (mC (.str "vv")) (aCons (mC (.str "if")) aNil))))) (bName 13))
    (sSeq (sExpr (mMethL insF (mSlot 13) (aCons (mC (.int 1)) (aCons (mDisp φ__law_any_name (aCons (mSlot 0) (aCons (mOp pyAdd1 (mSlot 13) (mDisp newL (aCons (mC (.str "v")) (aCons (mC (.str "not")) (aCons (mC (.str "and")) (aCons (mC (.str "or")) aNil)))))) aNil))) aNil))))
    (sSeq (sAsg (mSl (mSlot 13) noPart (mPart (mOp pyAdd (mC (.int 1)) (mDisp φ__law_draw (aCons (mSlot 0) (aCons (mC (.int 5)) aNil)))))) (bName 13))
    (sSeq (sAsg (mComp 1 [4, 5, 11, 12, 13, 0] (mRng1 (aCons (mSlot 11) aNil)) (bName 0) mTrue (mDisp φ__law_row (aCons (mSlot 6) (aCons (mSlot 4) (aCons (mComp 1 [] (mSrcR (mSlot 1)) (bName 0) mTrue (mOp pyIx (mSlot 0) (mC (.int 0))) newL) (aCons (mSlot 5) (aCons (mSlot 3) (aCons (mOp pyEq (mSlot 2) (mC (.int 0))) aNil))))))) newL) (bName 14))
    (sExpr (mMethL appF (mSlot 8) (aCons (mDisp newT (aCons (mSlot 10) (aCons (mOp pyIx (mDisp newL (aCons (mC (.int 0)) (aCons (mC (.int 1)) (aCons (mC (.int 9)) (aCons (mC (.int 99)) (aCons (mC (.int 400)) aNil)))))) (mDisp φ__law_draw (aCons (mSlot 0) (aCons (mC (.int 5)) aNil)))) (aCons (mDisp tupleF (aCons (mSlot 14) aNil)) aNil)))) aNil)))))))))))
    (sSeq (sAsg (mOp pyAdd (mC (.int 2)) (mDisp φ__law_draw (aCons (mSlot 0) (aCons (mC (.int 9)) aNil)))) (bName 6))
    (sSeq (sAsg (mOp pyIx (mDisp newL (aCons (mC (.str "safe")) (aCons (mC (.str "steady")) (aCons (mC (.str "whole")) aNil)))) (mDisp φ__law_draw (aCons (mSlot 0) (aCons (mC (.int 3)) aNil)))) (bName 7))
    (sRet (mDisp newT (aCons (mSlot 7) (aCons (mSlot 6) (aCons (mDisp φ__law_draw (aCons (mSlot 0) (aCons (mSlot 6) aNil))) (aCons (mDisp tupleF (aCons (mSlot 4) aNil)) (aCons (mDisp tupleF (aCons (mSlot 8) aNil)) aNil)))))))))))))))))))
noncomputable def m_law (φ__law_cell_at : List D → M D) (φ__law_well : List D → M D) (φ__law_making : List D → M D) (φ_check_making : List D → M D) (φ__law_draw : List D → M D) : Sl → M (Fl × Sl) :=
    (sSeq (sFor (mSrc (mOp pyAdd (mDisp newL (aCons (mDisp φ__law_cell_at (aCons (mSlot 0) (aCons (mC (.int 0)) aNil))) aNil)) (mSl (mSlot 0) (mPart (mC (.int 1))) (mPart (mC (.int 4)))))) (bName 1) (sSeq (sAsg (mDisp φ__law_well (aCons (mSlot 1) aNil)) (bName 2))
    (sSeq (sAsg (mDisp φ__law_making (aCons (mSlot 2) aNil)) (bName 3))
    (sSeq (sIf (mOr (mTest (mOp (pyIs true) (mDisp φ_check_making (aCons (mSlot 3) aNil)) (mC .non))) (mTest (mOp (pyIs true) (mDisp φ_check_making (aCons (mSlot 3) aNil)) (mC .non)))) (sRet (mC (.bl false))) sNil)
    (sSeq (sAsg (mDisp newL (aCons (mDisp newT (aCons (mC (.str "safe")) (aCons (mC (.int 2)) (aCons (mC (.int 0)) aNil)))) (aCons (mDisp newT (aCons (mC (.str "safe")) (aCons (mC (.int 2)) (aCons (mC (.int 1)) aNil)))) (aCons (mDisp newT (aCons (mC (.str "whole")) (aCons (mC (.int 10)) (aCons (mC (.int 9)) aNil)))) (aCons (mDisp newT (aCons (mC (.str "steady")) (aCons (mC (.int 10)) (aCons (mC (.int 0)) aNil)))) aNil))))) (bName 4))
    (sSeq (sIf (mTest (mOp (pyIs true) (mDisp φ_check_making (aCons (mOp pyAdd (mOp pyIx (mSlot 4) (mDisp φ__law_draw (aCons (mSlot 2) (aCons (mC (.int 4)) aNil)))) (mSl (mSlot 3) (mPart (mC (.int 3))) noPart)) aNil)) (mC .non))) (sRet (mC (.bl false))) sNil)
    (sSeq (sAsg (mOp pyIx (mOp pyIx (mSlot 3) (mC (.int 4))) (mC (.int 0))) (bTup [5, 6, 7]))
    (sSeq (sAsg (mDisp newT (aCons (mSlot 5) (aCons (mOp pyIx (mDisp newL (aCons (mC (.int 0)) (aCons (mC (.int 400)) aNil))) (mDisp φ__law_draw (aCons (mSlot 2) (aCons (mC (.int 2)) aNil)))) (aCons (mSlot 7) aNil)))) (bName 8))
    (sIf (mTest (mOp (pyIs true) (mDisp φ_check_making (aCons (mOp pyAdd (mSl (mSlot 3) noPart (mPart (mC (.int 4)))) (mDisp newT (aCons (mOp pyAdd (mDisp newT (aCons (mSlot 8) aNil)) (mSl (mOp pyIx (mSlot 3) (mC (.int 4))) (mPart (mC (.int 1))) noPart)) aNil))) aNil)) (mC .non))) (sRet (mC (.bl false))) sNil)))))))))
    (sSeq (sAsg (mDisp newT (aCons (mDisp newT (aCons (mC (.str "a")) (aCons (mC (.int 0)) (aCons (mDisp newT aNil) aNil)))) (aCons (mDisp newT (aCons (mC (.str "b")) (aCons (mC (.int 0)) (aCons (mDisp newT aNil) aNil)))) aNil))) (bName 9))
    (sRet (mOp (pyIs false) (mDisp φ_check_making (aCons (mDisp newT (aCons (mC (.str "safe")) (aCons (mC (.int 2)) (aCons (mC (.int 0)) (aCons (mDisp newT aNil) (aCons (mSlot 9) aNil)))))) aNil)) (mC .non)))))
end K1
namespace K1
open PySem L2 Mi
noncomputable def f__law_cell_at : List D → M D := callF .drop 2 2 (m__law_cell_at)
noncomputable def f__law_well : List D → M D := callF .all 1 1 (m__law_well)
noncomputable def f__law_draw : List D → M D := callF .drop 4 2 (m__law_draw)
noncomputable def f__law_any_name : List D → M D := callF .drop 4 2 (m__law_any_name f__law_draw)
noncomputable def f__law_expr : Nat → List D → M D
  | 0 => fun _ => fail
  | n + 1 => callF .drop 7 3 (m__law_expr f__law_draw (f__law_expr n))
noncomputable def f__law_row : List D → M D := callF .drop 9 6 (m__law_row f__law_draw (f__law_expr 6))
noncomputable def f__law_making : List D → M D := callF .drop 15 1 (m__law_making f__law_any_name f__law_draw f__law_row)
noncomputable def f_is_tuple : List D → M D := callF .drop 3 3 (m_is_tuple)
noncomputable def f_need : List D → M D := callF .drop 2 2 (m_need)
noncomputable def f_is_whole : List D → M D := callF .drop 3 3 (m_is_whole)
noncomputable def f_check_worths : List D → M D := callF .drop 3 3 (m_check_worths f_need f_is_whole)
noncomputable def f_is_name : List D → M D := callF .drop 1 1 (m_is_name)
noncomputable def f_are_unlike : List D → M D := callF .drop 1 1 (m_are_unlike)
noncomputable def f_check_boxes : List D → M D := callF .drop 2 1 (m_check_boxes f_is_tuple f_need f_is_name f_check_worths f_are_unlike)
noncomputable def f_check_hands : List D → M D := callF .drop 2 1 (m_check_hands f_is_tuple f_need f_is_name f_is_whole f_are_unlike)
noncomputable def f_is_expression : Nat → List D → M D
  | 0 => fun _ => fail
  | n + 1 => callF .drop 3 2 (m_is_expression (f_is_expression n) f_is_whole f_is_name)
noncomputable def f_is_part : List D → M D := callF .drop 3 3 (m_is_part (f_is_expression 6) f_is_whole f_is_name)
noncomputable def f_check_form : List D → M D := callF .drop 5 2 (m_check_form f_is_tuple f_need f_is_part)
noncomputable def f_check_ending : List D → M D := callF .drop 2 2 (m_check_ending f_need)
noncomputable def f_variables_in : Nat → List D → M D
  | 0 => fun _ => fail
  | n + 1 => callF .frz 3 1 (m_variables_in (f_variables_in n))
noncomputable def f_variables_of : List D → M D := callF .frz 4 1 (m_variables_of (f_variables_in 6))
noncomputable def f_check_variables : List D → M D := callF .drop 3 2 (m_check_variables f_variables_of f_need)
noncomputable def f_check_rows : List D → M D := callF .drop 4 3 (m_check_rows f_check_form f_check_ending f_check_variables f_need)
noncomputable def f_check_making : List D → M D := callF .drop 6 1 (m_check_making f_is_tuple f_need f_check_worths f_check_boxes f_check_hands f_check_rows)
noncomputable def f_law : List D → M D := callF .drop 10 1 (m_law f__law_cell_at f__law_well f__law_making f_check_making f__law_draw)
end K1
namespace K1
open PySem L2 Mi
section
variable {μ μ1 μ2 μ' : Mh} {n : Nat} {b : Int} {d : D} {x y : Str}
theorem l_eqI {i j : Int} : pyEq (.int i) (.int j) μ = some (.bl (i == j), μ) := rfl
theorem l_eqIT {i j : Int} (h : i = j) : pyEq (.int i) (.int j) μ = some (.bl true, μ) := by rw [l_eqI, h, beq_self_eq_true]
theorem l_eqIF {i j : Int} (h : i ≠ j) : pyEq (.int i) (.int j) μ = some (.bl false, μ) := by rw [l_eqI, beq_eq_false_iff_ne.mpr h]
theorem l_neI {i j : Int} : pyNe (.int i) (.int j) μ = some (.bl (!(i == j)), μ) := rfl
theorem l_neIF {i j : Int} (h : i = j) : pyNe (.int i) (.int j) μ = some (.bl false, μ) := by rw [l_neI, h, beq_self_eq_true]; rfl
theorem shaped_str (h : PyData.strOk x = true) : SeqAt.shaped (.str x) = true := by
  show (PyData.strOk x && decide ((PyData.str x).depth ≤ 64)) = true
  rw [h]; rfl
theorem l_eqS (h1 : PyData.strOk x = true) (h2 : PyData.strOk y = true) : pyEq (.str x) (.str y) μ = some (.bl (x == y), μ) := by
  show (if SeqAt.shaped (.str x) = true ∧ SeqAt.shaped (.str y) = true then some (D.bl (x == y), μ) else none) = _
  rw [if_pos ⟨shaped_str h1, shaped_str h2⟩]
theorem l_neS (h1 : PyData.strOk x = true) (h2 : PyData.strOk y = true) : pyNe (.str x) (.str y) μ = some (.bl (!(x == y)), μ) := by
  show (if SeqAt.shaped (.str x) = true ∧ SeqAt.shaped (.str y) = true then some (D.bl (!(x == y)), μ) else none) = _
  rw [if_pos ⟨shaped_str h1, shaped_str h2⟩]
theorem l_eqST (h1 : PyData.strOk x = true) (h2 : PyData.strOk y = true) (h : x = y) : pyEq (.str x) (.str y) μ = some (.bl true, μ) := by rw [l_eqS h1 h2, h, beq_self_eq_true]
theorem l_eqSF (h1 : PyData.strOk x = true) (h2 : PyData.strOk y = true) (h : x ≠ y) : pyEq (.str x) (.str y) μ = some (.bl false, μ) := by rw [l_eqS h1 h2, beq_eq_false_iff_ne.mpr h]
theorem l_neST (h1 : PyData.strOk x = true) (h2 : PyData.strOk y = true) (h : x ≠ y) : pyNe (.str x) (.str y) μ = some (.bl true, μ) := by rw [l_neS h1 h2, beq_eq_false_iff_ne.mpr h]; rfl
theorem flat_strs : ∀ xs : List Str, flatDs (xs.map D.str) = some (xs.map V.str)
  | [] => rfl
  | x :: r => by show (flatD (.str x)).bind _ = _; rw [flat_strs r]; rfl
theorem inV_strs : ∀ xs : List Str, inV (.str x) (xs.map V.str) = decide (x ∈ xs)
  | [] => rfl
  | y :: r => by
    have h := inV_strs r
    unfold inV at h ⊢
    rw [List.map_cons, List.any_cons, h]
    show ((y == x) || decide (x ∈ r)) = _
    by_cases e : x = y
    · subst e; simp
    · have : (y == x) = false := beq_eq_false_iff_ne.mpr fun z => e z.symm
      rw [this, Bool.false_or]; simp [e]
theorem l_inSeq {neg : Bool} {ds : List D} {c : D} {xs : List Str} (h : asSeq1 c μ = some (xs.map D.str, μ)) : inSeq neg (.str x) c μ = some (.bl (if neg then !decide (x ∈ xs) else decide (x ∈ xs)), μ) := by
  unfold inSeq
  rw [bnd_of h]
  simp only [flat_strs]
  show (match flatD (.str x), some (xs.map V.str) with | some x, some xs => some (D.bl (if neg then !inV x xs else inV x xs), μ) | _, _ => none) = _
  show some (D.bl (if neg then !inV (.str x) (xs.map V.str) else inV (.str x) (xs.map V.str)), μ) = _
  rw [inV_strs]
theorem l_inT {xs : List Str} (h : x ∈ xs) : pyIn false (.str x) (sl xs) μ = some (.bl true, μ) := by
  show inSeq false (.str x) (.tup (xs.map D.str)) μ = _
  rw [l_inSeq (ds := []) rfl, decide_eq_true h]; rfl
theorem l_inF {xs : List Str} (h : x ∉ xs) : pyIn false (.str x) (sl xs) μ = some (.bl false, μ) := by
  show inSeq false (.str x) (.tup (xs.map D.str)) μ = _
  rw [l_inSeq (ds := []) rfl, decide_eq_false h]; rfl
theorem l_ninT {xs : List Str} (h : x ∉ xs) : pyIn true (.str x) (sl xs) μ = some (.bl true, μ) := by
  show inSeq true (.str x) (.tup (xs.map D.str)) μ = _
  rw [l_inSeq (ds := []) rfl, decide_eq_false h]; rfl
theorem l_lenT {ds : List D} : lenF [.tup ds] μ = some (.int ds.length, μ) := rfl
theorem l_lenL {ds : List D} : lenF [.lst ds] μ = some (.int ds.length, μ) := rfl
end
end K1
local macro_rules | `(tactic| wtm_at "own qstrs") => `(tactic| first | assumption | decide +kernel)
local macro_rules | `(tactic| wtm_at "own qleaf") => `(tactic| first
  | (with_reducible apply K1.l_lenT) | (with_reducible apply K1.l_lenL)
  | ((with_reducible apply K1.l_eqIT); wtm_at "own qnums") | ((with_reducible apply K1.l_eqIF); wtm_at "own qnums") | ((with_reducible apply K1.l_neIT); wtm_at "own qnums") | ((with_reducible apply K1.l_neIF); wtm_at "own qnums")
  | ((with_reducible apply K1.l_eqST); (wtm_at "own qstrs"); (wtm_at "own qstrs"); (first | rfl | wtm_at "own qstrs")) | ((with_reducible apply K1.l_eqSF); (wtm_at "own qstrs"); (wtm_at "own qstrs"); (wtm_at "own qstrs")) | ((with_reducible apply K1.l_neST); (wtm_at "own qstrs"); (wtm_at "own qstrs"); (wtm_at "own qstrs")) | ((with_reducible apply K1.l_neSF); (wtm_at "own qstrs"); (wtm_at "own qstrs"); (first | rfl | wtm_at "own qstrs"))
  | ((with_reducible apply K1.l_inT); wtm_at "own qstrs") | ((with_reducible apply K1.l_inF); wtm_at "own qstrs") | ((with_reducible apply K1.l_ninT); wtm_at "own qstrs"))
namespace K1
open PySem L2 Mi
section
variable {μ μ1 μ2 μ' : Mh} {n : Nat} {b : Int} {d : D} {x y : Str}
theorem v_need {w : Str} : f_need [.bl true, .str w] μ = some (.non, μ) :=
  callF_pureN (g := []) (τ2 := _) (by rw [List.append_nil]; rfl) rfl
theorem v_is_whole {i a b : Int} (h1 : a ≤ i) (h2 : i ≤ b) : f_is_whole [.int i, .int a, .int b] μ = some (.bl true, μ) :=
  callF_pure (g := []) (τ2 := _) (by
    rw [List.append_nil]; unfold m_is_whole; wtm_at "own qev") rfl (by unfold Cl; trivial)
theorem v_is_tuple {ds : List D} {a b : Int} (h1 : a ≤ ds.length) (h2 : (ds.length : Int) ≤ b) : f_is_tuple [.tup ds, .int a, .int b] μ = some (.bl true, μ) :=
  callF_pure (g := []) (τ2 := _) (by
    rw [List.append_nil]; unfold m_is_tuple; wtm_at "own qev") rfl (by unfold Cl; trivial)
end
end K1
local macro_rules | `(tactic| wtm_at "own qleaf") => `(tactic| first
  | (with_reducible apply K1.v_need) | ((with_reducible apply K1.v_is_whole); (wtm_at "own qnums"); (wtm_at "own qnums")) | ((with_reducible apply K1.v_is_tuple); (first | wtm_at "own qnums" | simp); (first | wtm_at "own qnums" | simp)))
namespace K1
open PySem L2 Mi
section
variable {μ μ1 μ2 μ' : Mh} {n : Nat} {b : Int} {d : D} {x y : Str}
theorem v_check_worths {k : Str} {s g : Int} (hk : k ∈ (["safe", "steady", "whole"] : List Str)) (h1 : 2 ≤ s) (h2 : s ≤ 10) (h3 : 0 ≤ g) (h4 : g ≤ s - 1) : f_check_worths [.str k, .int s, .int g] μ = some (.non, μ) :=
  callF_pureN (g := []) (τ2 := _) (by
    rw [List.append_nil]; unfold m_check_worths d_KINDS d_LEAST_SIZE d_MOST_SIZE; wtm_at "own qev") rfl
end
end K1
namespace K1
open PySem L2 Mi
noncomputable def WellAt (μ : Mh) (n : Nat) : Prop := ∃ a m c : Int, μ[n]? = some (.lst [.int a, .int m, .int c]) ∧ 0 ≤ a
noncomputable def Upd (n : Nat) (μ μ' : Mh) : Prop := ∃ a m c : Int, 0 ≤ a ∧ μ' = μ.set n (.lst [.int a, .int m, .int c])
section
variable {μ μ1 μ2 μ' : Mh} {n : Nat} {b : Int} {d : D} {x y : Str} {τ τ1 τ2 : Sl}
theorem WellAt.lt (h : WellAt μ n) : n < μ.length := by
  obtain ⟨_, _, _, h, _⟩ := h
  exact (List.getElem?_eq_some_iff.mp h).1
theorem WellAt.refl (h : WellAt μ n) : Upd n μ μ := by
  have hl := h.lt
  obtain ⟨a, m, c, h, ha⟩ := h
  refine ⟨a, m, c, ha, ?_⟩
  apply List.ext_getElem?
  intro j
  rw [List.getElem?_set]
  split
  · rename_i e; subst e; exact h
  · rfl
theorem Upd.trans (h : Upd n μ μ1) (h2 : Upd n μ1 μ2) : Upd n μ μ2 := by
  obtain ⟨a, m, c, ha, rfl⟩ := h
  obtain ⟨a2, m2, c2, ha2, rfl⟩ := h2
  exact ⟨a2, m2, c2, ha2, by rw [List.set_set]⟩
theorem Upd.len (h : Upd n μ μ1) : μ1.length = μ.length := by
  obtain ⟨a, m, c, ha, rfl⟩ := h
  simp
theorem Upd.well (h : Upd n μ μ1) (hn : n < μ.length) : WellAt μ1 n := by
  obtain ⟨a, m, c, ha, rfl⟩ := h
  exact ⟨a, m, c, by rw [List.getElem?_set_self hn], ha⟩
theorem Upd.other (h : Upd n μ μ1) {j : Nat} (hj : j ≠ n) : μ1[j]? = μ[j]? := by
  obtain ⟨a, m, c, ha, rfl⟩ := h
  rw [List.getElem?_set_ne (fun e => hj e.symm)]
theorem Upd.app {g : Mh} (h : Upd n (μ ++ g) μ1) (hn : n < μ.length) : ∃ μ2, Upd n μ μ2 ∧ μ1 = μ2 ++ g := by
  obtain ⟨a, m, c, ha, rfl⟩ := h
  exact ⟨_, ⟨a, m, c, ha, rfl⟩, by rw [List.set_append_left _ _ hn]⟩
theorem clInts {k : Nat} {a m c : Int} : ClL k [D.int a, .int m, .int c] := by simp [ClL, Cl]
theorem Upd.tells {g : Mh} (h : Upd n μ μ1) (c : Cl μ.length d) : Tells μ (μ1 ++ g) μ1 d d := by
  refine ⟨⟨g, rfl⟩, by rw [h.len]; exact Nat.le_refl _, fun j o e => ?_, .inl ⟨rfl, by rw [h.len]; exact c⟩⟩
  by_cases hj : j = n
  · subst hj
    obtain ⟨a, m, c, ha, rfl⟩ := h
    right
    rw [List.getElem?_set] at e
    simp at e
    obtain ⟨_, rfl⟩ := e
    exact clInts
  · left; rw [← h.other hj]; exact e
theorem callF_upd {N ps : Nat} {mb : Sl → M (Fl × Sl)} {ds : List D} {g : Mh} (e : mb (startD N ds) μ = some ((.rt d, τ2), μ1 ++ g)) (hl : ds.length = ps) (u : Upd n μ μ1) (c : Cl μ.length d) : callF .drop N ps mb ds μ = some (d, μ1) := by
  have t : outM μ (μ1 ++ g) .drop = μ1 := by show (μ1 ++ g).take μ.length = μ1; rw [← u.len, List.take_left]
  have h := callF_eq (hw := .drop) e hl (.inr ⟨d, rfl⟩) (by rw [t]; exact u.tells c)
  rw [t] at h
  exact h
theorem l_ixSet {ds : List D} {i : Int} (hn : n < μ.length) (h2 : atI ds i = some d) : pyIx (.ref n) (.int i) (μ.set n (.lst ds)) = some (d, μ.set n (.lst ds)) := l_ixRef (List.getElem?_set_self hn) h2
end
end K1
local macro_rules | `(tactic| wtm_at "own qleaf") => `(tactic| first
  | ((with_reducible apply K1.l_ixSet); (assumption); (rfl)) | ((with_reducible apply K1.l_setSet); (assumption); (rfl)))
namespace K1
open PySem L2 Mi
section
variable {μ μ1 μ2 μ' : Mh} {n : Nat} {b : Int} {d : D} {x y : Str} {τ τ1 τ2 : Sl}
theorem v_draw (w : WellAt μ n) (hb : 0 < b) (hb2 : b < 1073741824) : ∃ r μ', f__law_draw [.ref n, .int b] μ = some (.int r, μ') ∧ 0 ≤ r ∧ r < b ∧ Upd n μ μ' := by
  have hn := w.lt
  obtain ⟨a, m, c, h, ha⟩ := w
  have hne : b ≠ 0 := by omega
  by_cases h0 : 0 < a
  · have e : ∃ τ2, m__law_draw (startD 4 [.ref n, .int b]) μ = some ((.rt (.int (a % b)), τ2), μ.set n (.lst [.int (a / b), .int m, .int c])) := by
      refine' ⟨_, Eq.trans ?e ?f⟩
      case e => unfold m__law_draw; wtm_at "own qev"
      case f => rfl
    obtain ⟨τ2, e⟩ := e
    have u : Upd n μ (μ.set n (.lst [.int (a / b), .int m, .int c])) := ⟨_, _, _, Int.ediv_nonneg ha (by omega), rfl⟩
    exact ⟨_, _, callF_upd (g := []) (by rw [List.append_nil]; exact e) rfl u (by unfold Cl; trivial), Int.emod_nonneg _ hne, Int.emod_lt_of_pos _ hb, u⟩
  · have e : ∃ q τ2, m__law_draw (startD 4 [.ref n, .int b]) μ = some ((.rt (.int (q % b)), τ2), μ.set n (.lst [.int a, .int m, .int (c + 1)])) := by
      refine' ⟨_, _, Eq.trans ?e ?f⟩
      case e => unfold m__law_draw; wtm_at "own qev"
      case f => rfl
    obtain ⟨q, τ2, e⟩ := e
    have u : Upd n μ (μ.set n (.lst [.int a, .int m, .int (c + 1)])) := ⟨_, _, _, ha, rfl⟩
    exact ⟨_, _, callF_upd (g := []) (by rw [List.append_nil]; exact e) rfl u (by unfold Cl; trivial), Int.emod_nonneg _ hne, Int.emod_lt_of_pos _ hb, u⟩
end
end K1
namespace K1
open PySem L2 Mi
section
variable {μ μ1 μ2 μ' : Mh} {n : Nat} {b : Int} {d : D} {x y : Str} {τ τ1 τ2 : Sl}
theorem ev_comp {N : Nat} {ix : List Nat} {src : Sl → M (List D)} {bf : D → Sl → M Sl} {mc : Sl → M Bool} {me : Sl → M D} {fin : List D → M D} {ds es : List D} (h1 : src τ μ = some (ds, μ1)) (hl : ds.length ≤ sizeLine) (h2 : compGo bf mc me (startBl N ix τ) ds [] μ1 = some (es, μ2)) (h3 : fin es μ2 = some (d, μ')) : mComp N ix src bf mc me fin τ μ = some (d, μ') := by
  unfold mComp
  rw [bnd_of h1, bnd_of (show lim ds.length μ1 = some ((), μ1) from by unfold lim; rw [if_pos hl]), bnd_of h2, h3]
theorem comp_map {me : Sl → M D} {τ0 : Sl} {F : D → D} : ∀ {xs ys : List D}, (∀ z ∈ xs, me (τ0.set 0 (some z)) μ = some (F z, μ)) → compGo (bName 0) mTrue me τ0 xs ys μ = some (ys ++ xs.map F, μ)
  | [], ys, _ => by show some (ys, μ) = _; simp
  | z :: xs, ys, h => by
    show bnd (bName 0 z τ0) _ μ = _
    rw [bnd_of (show bName 0 z τ0 μ = some (τ0.set 0 (some z), μ) from rfl), bnd_of (show mTrue (τ0.set 0 (some z)) μ = some (true, μ) from rfl), if_pos rfl, bnd_of (h z (by simp))]
    rw [comp_map fun w hw => h w (by simp [hw])]
    simp
theorem newL_eq {ds : List D} (h : ds.length ≤ sizeLine) : newL ds μ = some (.lst ds, μ) := by
  unfold newL
  rw [bnd_of (show lim ds.length μ = some ((), μ) from by unfold lim; rw [if_pos h])]; rfl
noncomputable def Letters (x : Str) : Prop := ∀ c ∈ x.cps.toList, 97 ≤ c ∧ c < 123
structure GoodName (x : Str) : Prop where
  lo : 1 ≤ x.length
  hi : x.length ≤ 8
  ab : Letters x
theorem letter_in : ∀ c, c < 123 → 97 ≤ c → (!(Builtin.Str.occurrences "abcdefghijklmnopqrstuvwxyz" ⟨#[c]⟩ 0 (Str.length "abcdefghijklmnopqrstuvwxyz") 1).isEmpty) = true := by decide +kernel
theorem GoodName.ok (h : GoodName x) : PyData.strOk x = true := by
  unfold PyData.strOk
  rw [Array.all_eq_true_iff_forall_mem]
  intro c hc
  have := h.ab c (by simpa using hc)
  simp; omega
theorem bls_true : ∀ k : Nat, blsD (List.replicate k (D.bl true)) = some (List.replicate k true)
  | 0 => rfl
  | k + 1 => by
    rw [List.replicate_succ, List.replicate_succ]
    show (blsD (List.replicate k (D.bl true))).map (true :: ·) = _
    rw [bls_true k]; rfl
theorem v_is_name (h : GoodName x) : f_is_name [.str x] μ = some (.bl true, μ) :=
  callF_pure (g := []) (τ2 := _) (by
    rw [List.append_nil]
    have hs : x.length ≤ sizeLine := Nat.le_trans h.hi (by decide)
    have h1 : (1 : Int) ≤ x.length := by have := h.lo; omega
    have h8 : (x.length : Int) ≤ 8 := by have := h.hi; omega
    have l : lenF [.str x] μ = some (.int x.length, μ) := by show (if x.length ≤ sizeLine then some (D.int x.length, μ) else none) = _; rw [if_pos hs]
    have hl : (x.cps.toList.map fun c => D.str ⟨#[c]⟩).length = x.length := by simp [Str.length]
    have c : mComp 1 [] (mSrcS (mSlot 0)) (bName 0) mTrue (mOp (pyIn false) (mSlot 0) (mC d_LETTERS)) newL (startD 1 [.str x]) μ = some (.lst (List.replicate x.length (.bl true)), μ) := by
      refine ev_comp (ds := x.cps.toList.map fun c => D.str ⟨#[c]⟩) rfl (by rw [hl]; exact hs) (comp_map (F := fun _ => .bl true) fun z hz => ?_) ?_
      · rw [List.mem_map] at hz
        obtain ⟨c, hc, rfl⟩ := hz
        have := h.ab c hc
        refine ev_op (x := .str ⟨#[c]⟩) (y := d_LETTERS) (ev_slot rfl) ev_c ?_
        show some (D.bl (!(Builtin.Str.occurrences "abcdefghijklmnopqrstuvwxyz" ⟨#[c]⟩ 0 (Str.length "abcdefghijklmnopqrstuvwxyz") 1).isEmpty), μ) = _
        rw [letter_in c this.2 this.1]
      · rw [List.nil_append, List.map_const', hl]
        exact newL_eq (by rw [List.length_replicate]; exact hs)
    have a : allF [.lst (List.replicate x.length (.bl true))] μ = some (.bl true, μ) := by
      show (blsD (List.replicate x.length (D.bl true))).map (fun bs => (D.bl (bs.all id), μ)) = _
      rw [bls_true]; show some (D.bl ((List.replicate x.length true).all id), μ) = _
      simp
    unfold m_is_name
    wtm_at "own qev") rfl (by unfold Cl; trivial)
end
end K1
local macro_rules | `(tactic| wtm_at "own qnums") => `(tactic| first | assumption | (simp only [List.length_cons, List.length_nil]; first | decide | omega))
local macro_rules | `(tactic| wtm_at "own qleaf") => `(tactic| ((with_reducible apply K1.v_is_name); assumption))
namespace K1
open PySem L2 Mi
inductive Ex where
  | num (i : Int) | var (x : Str) | neg (e : Ex) | pair (w : Str) (a b : Ex)
noncomputable def Ex.toD : Ex → D
  | .num i => .tup [.str "num", .int i]
  | .var x => .tup [.str "var", .str x]
  | .neg e => .tup [.str "not", e.toD]
  | .pair w a b => .tup [.str w, a.toD, b.toD]
noncomputable def pairWords : List Str := ["+", "-", "=", "<", "and", "or"]
noncomputable def Ex.Ok : Nat → Ex → Prop
  | 0, _ => False
  | _ + 1, .num i => 0 ≤ i ∧ i ≤ 9
  | _ + 1, .var x => GoodName x
  | k + 1, .neg e => e.Ok k
  | k + 1, .pair w a b => w ∈ pairWords ∧ a.Ok k ∧ b.Ok k
noncomputable def Ex.vars : Ex → List Str
  | .num _ => []
  | .var x => [x]
  | .neg e => e.vars
  | .pair _ a b => a.vars ++ b.vars
theorem Ex.Ok.succ : ∀ {k : Nat} {e : Ex}, e.Ok k → e.Ok (k + 1)
  | _ + 1, .num _, h => h
  | _ + 1, .var _, h => h
  | k + 1, .neg e, h => Ex.Ok.succ (k := k) (e := e) h
  | k + 1, .pair _ a b, h => ⟨h.1, Ex.Ok.succ (k := k) (e := a) h.2.1, Ex.Ok.succ (k := k) (e := b) h.2.2⟩
theorem Ex.Ok.mono {k j : Nat} {e : Ex} (h : e.Ok k) (hj : k ≤ j) : e.Ok j := by
  induction hj with
  | refl => exact h
  | step _ ih => exact ih.succ
section
variable {μ μ1 μ2 μ' : Mh} {n : Nat} {b : Int} {d : D} {x y : Str} {τ τ1 τ2 : Sl}
theorem v_is_expression : ∀ (k n : Nat) (e : Ex) (j : Int) (μ : Mh), j = k → k ≤ n → e.Ok k → f_is_expression n [e.toD, .int j] μ = some (.bl true, μ)
  | 0, _, _, _, _, _, _, h => by cases h
  | _ + 1, 0, _, _, _, _, hn, _ => by omega
  | k + 1, n + 1, .num i, j, μ, hj, hn, h => by
    have hj1 : 1 ≤ j := by omega
    obtain ⟨h1, h2⟩ : 0 ≤ i ∧ i ≤ 9 := h
    exact callF_pure (g := []) (τ2 := _) (by rw [List.append_nil]; unfold m_is_expression d_PAIR_WORDS d_GREATEST Ex.toD; wtm_at "own qev") rfl (by unfold Cl; trivial)
  | k + 1, n + 1, .var x, j, μ, hj, hn, h => by
    have hj1 : 1 ≤ j := by omega
    have h : GoodName x := h
    exact callF_pure (g := []) (τ2 := _) (by rw [List.append_nil]; unfold m_is_expression d_PAIR_WORDS d_GREATEST Ex.toD; wtm_at "own qev") rfl (by unfold Cl; trivial)
  | k + 1, n + 1, .neg e, j, μ, hj, hn, h => by
    have hj1 : 1 ≤ j := by omega
    have ih := v_is_expression k n e (j - 1) μ (by omega) (by omega) h
    exact callF_pure (g := []) (τ2 := _) (by rw [List.append_nil]; unfold m_is_expression d_PAIR_WORDS d_GREATEST Ex.toD; wtm_at "own qev") rfl (by unfold Cl; trivial)
  | k + 1, n + 1, .pair w a b, j, μ, hj, hn, h => by
    have hj1 : 1 ≤ j := by omega
    obtain ⟨hw, ha, hb⟩ := h
    have hw : w ∈ (["+", "-", "=", "<", "and", "or"] : List Str) := hw
    have ia := v_is_expression k n a (j - 1) μ (by omega) (by omega) ha
    have ib := v_is_expression k n b (j - 1) μ (by omega) (by omega) hb
    exact callF_pure (g := []) (τ2 := _) (by rw [List.append_nil]; unfold m_is_expression d_PAIR_WORDS d_GREATEST Ex.toD; wtm_at "own qev") rfl (by unfold Cl; trivial)
end
end K1
namespace K1
open PySem L2 Mi
section
variable {μ μ1 μ2 μ3 μ4 μ' : Mh} {n : Nat} {b : Int} {d x y z : D} {τ τ1 τ2 : Sl} {ma mb : Sl → M D} {ds es : List D} {r : Fl × Sl} {m1 : Sl → M (Fl × Sl)} {bf : D → Sl → M Sl}
theorem ev_src (h1 : ma τ μ = some (x, μ1)) (h2 : asSeq x μ1 = some (ds, μ2)) : mSrc ma τ μ = some (ds, μ2) := by unfold mSrc; rw [bnd_of h1, h2]
theorem l_seqT : asSeq (.tup ds) μ = some (ds, μ) := rfl
theorem ev_forNil : forGo bf m1 [] τ μ = some ((.next, τ), μ) := rfl
theorem ev_forCons (h1 : bf x τ μ = some (τ1, μ1)) (h2 : m1 τ1 μ1 = some ((.next, τ2), μ2)) (h3 : forGo bf m1 ds τ2 μ2 = some (r, μ3)) : forGo bf m1 (x :: ds) τ μ = some (r, μ3) := by
  show bnd (bf x τ) _ μ = _
  rw [bnd_of h1, bnd_of h2]; exact h3
theorem ev_zip {m : Sl → M (List D)} (h1 : m τ μ = some (ds, μ1)) (h2 : zipArgs ds μ1 = some (es, μ2)) : mZip m τ μ = some (es, μ2) := by unfold mZip; rw [bnd_of h1, h2]
theorem l_zip0 : zipArgs [.tup [], .tup []] μ = some ([], μ) := rfl
theorem l_zip1 : zipArgs [.tup [x], .tup [y]] μ = some ([.tup [x, y]], μ) := rfl
theorem l_zip2 {x' y' : D} : zipArgs [.tup [x, x'], .tup [y, y']] μ = some ([.tup [x, y], .tup [x', y']], μ) := rfl
theorem l_bTup2 {i j : Nat} : bTup [i, j] (.tup [x, y]) τ μ = some ((τ.set i (some x)).set j (some y), μ) := rfl
theorem l_tail : pySl (some 1) none (.tup (x :: ds)) μ = some (.tup ds, μ) := by
  have h1 : HT.sIx (x :: ds).length 0 (some 1) = 1 := by rw [show (some (1 : Int)) = some ((1 : Nat) : Int) from rfl, HT.sIx_nat]; simp
  have h2 : HT.sIx (x :: ds).length (x :: ds).length none = (x :: ds).length := rfl
  show (if HT.sIx (x :: ds).length 0 (some 1) = 0 ∧ HT.sIx (x :: ds).length (x :: ds).length none = (x :: ds).length then (Mi.fail : M D) else Mi.ret (D.tup (cutD (x :: ds) (some 1) none))) μ = _
  rw [if_neg (by rw [h1]; simp)]
  show some (D.tup (cutD (x :: ds) (some 1) none), μ) = _
  unfold cutD
  rw [h1, h2]; simp
theorem newB_eq (h : ds.length ≤ sizeLine) : newB ds μ = some (.ref μ.length, μ ++ [.lst ds]) := by
  unfold newB
  rw [bnd_of (show lim ds.length μ = some ((), μ) from by unfold lim; rw [if_pos h])]
theorem newT_eq (h : ds.length ≤ sizeLine) : newT ds μ = some (.tup ds, μ) := by
  unfold newT
  rw [bnd_of (show lim ds.length μ = some ((), μ) from by unfold lim; rw [if_pos h])]; rfl
theorem l_guard : guardL (.ref μ.length) (μ ++ [.lst ds]) = some ((), μ ++ [.lst ds]) := by
  unfold guardL
  rw [bnd_of (show asList (.ref μ.length) (μ ++ [.lst ds]) = some (ds, μ ++ [.lst ds]) from by
    unfold asList; dsimp only
    rw [List.getElem?_concat_length])]; rfl
theorem upd_last {k : List D → Option (D × List D)} (h : k ds = some (d, es)) : updL μ.length k (μ ++ [.lst ds]) = some (d, μ ++ [.lst es]) := by
  unfold updL
  rw [List.getElem?_concat_length]
  show (k ds).map _ = _
  rw [h]
  show some (d, (μ ++ [MO.lst ds]).set μ.length (.lst es)) = _
  simp
theorem l_ext (h : ds.length + es.length ≤ sizeLine) : extF (.ref μ.length) [.lst es] (μ ++ [.lst ds]) = some (.non, μ ++ [.lst (ds ++ es)]) := upd_last (by rw [if_pos h])
theorem l_app (h : ds.length < sizeLine) : appF (.ref μ.length) [d] (μ ++ [.lst ds]) = some (.non, μ ++ [.lst (ds ++ [d])]) := upd_last (by rw [if_pos h])
theorem ev_join {i : Nat} {u v : Str} (h : τ[i]? = some (some (.str v))) (h1 : (Str.empty ++ u).length ≤ sizeLine) (h2 : v.length ≤ sizeLine) (h3 : (Str.empty ++ u ++ v).length ≤ sizeLine) : mJoin [mC (.str u), mFmt (mSlot i)] τ μ = some (.str (Str.empty ++ u ++ v), μ) := by
  have lm : ∀ k : Nat, k ≤ sizeLine → lim k μ = some ((), μ) := fun k hk => by unfold lim; rw [if_pos hk]
  unfold mJoin joinGo
  rw [bnd_of ev_c]
  dsimp only
  rw [bnd_of (lm _ h1)]
  unfold joinGo
  rw [bnd_of (show mFmt (mSlot i) τ μ = some (.str v, μ) from ev_un (ev_slot h) (by show (if v.length ≤ sizeLine then some (D.str v, μ) else none) = _; rw [if_pos h2]))]
  dsimp only
  rw [bnd_of (lm _ h3)]
  unfold joinGo
  rw [bnd_of (lm _ h3)]; rfl
theorem p_put : t_PARTS "put" = some (.tup [.str "box", .str "expression"]) := by kernel_rfl
theorem p_get : t_PARTS "get" = some (.tup [.str "variable", .str "box"]) := by kernel_rfl
theorem p_let : t_PARTS "let" = some (.tup [.str "variable", .str "expression"]) := by kernel_rfl
theorem p_unless : t_PARTS "unless" = some (.tup [.str "expression", .str "target"]) := by kernel_rfl
theorem p_jump : t_PARTS "jump" = some (.tup [.str "target"]) := by kernel_rfl
theorem p_tell : t_PARTS "tell" = some (.tup [.str "expression"]) := by kernel_rfl
theorem p_done : t_PARTS "done" = some (.tup []) := by kernel_rfl
theorem l_kget {w : Str} (h : t_PARTS w = some d) : kgetF t_PARTS (.str w) μ = some (d, μ) := by show (t_PARTS w).map _ = _; rw [h]; rfl
theorem l_kin {w : Str} (h : t_PARTS w = some d) : kinF t_PARTS (.str w) μ = some (.bl true, μ) := by show some (D.bl (t_PARTS w).isSome, μ) = _; rw [h]; rfl
end
end K1
local macro_rules | `(tactic| wtm_at "own qsmall") => `(tactic| first | assumption | decide | (simp only [List.length_cons, List.length_nil, List.length_append, List.length_map]; first | decide | omega))
local macro_rules | `(tactic| wtm_at "own qparts") => `(tactic| first | exact K1.p_put | exact K1.p_get | exact K1.p_let | exact K1.p_unless | exact K1.p_jump | exact K1.p_tell | exact K1.p_done)
local macro_rules | `(tactic| wtm_at "own qleaf") => `(tactic| first
  | ((with_reducible apply K1.ev_src); (wtm_at "own qev"); (wtm_at "own qev")) | (with_reducible apply K1.l_seqT) | (with_reducible apply K1.l_seqL) | ((with_reducible apply Mi.ev_for); (wtm_at "own qev"); (wtm_at "own qev")) | (with_reducible apply K1.ev_forNil) | ((with_reducible apply K1.ev_forCons); (wtm_at "own qev"); (wtm_at "own qev"); (wtm_at "own qev"))
  | ((with_reducible apply K1.ev_zip); (wtm_at "own qev"); (wtm_at "own qev")) | (with_reducible apply K1.l_zip0) | (with_reducible apply K1.l_zip1) | (with_reducible apply K1.l_zip2) | (with_reducible apply K1.l_bTup2) | (with_reducible apply K1.l_tail)
  | ((with_reducible apply K1.newL_eq); wtm_at "own qsmall") | ((with_reducible apply K1.newB_eq); wtm_at "own qsmall") | ((with_reducible apply K1.newT_eq); wtm_at "own qsmall") | (with_reducible apply K1.l_guard) | ((with_reducible apply K1.l_ext); wtm_at "own qsmall") | ((with_reducible apply K1.l_app); wtm_at "own qsmall")
  | ((with_reducible apply K1.l_kget); wtm_at "own qparts") | ((with_reducible apply K1.l_kin); wtm_at "own qparts") | ((with_reducible apply K1.ev_join); (rfl); (decide +kernel); (decide +kernel); (decide +kernel)))
namespace K1
open PySem L2 Mi
section
variable {μ μ1 μ2 μ' : Mh} {n : Nat} {b : Int} {d : D} {x y : Str} {τ τ1 τ2 : Sl}
theorem Ex.vlen : ∀ {k : Nat} {e : Ex}, e.Ok k → e.vars.length ≤ 2 ^ k
  | k + 1, .num _, _ => by simp [Ex.vars]
  | k + 1, .var _, _ => by show 1 ≤ 2 ^ (k + 1); exact Nat.one_le_two_pow
  | k + 1, .neg e, h => by have := Ex.vlen (k := k) (e := e) h; show e.vars.length ≤ 2 ^ (k + 1); rw [Nat.pow_succ]; omega
  | k + 1, .pair _ a b, h => by
    have h1 := Ex.vlen (k := k) (e := a) h.2.1
    have h2 := Ex.vlen (k := k) (e := b) h.2.2
    show (a.vars ++ b.vars).length ≤ 2 ^ (k + 1)
    rw [List.length_append, Nat.pow_succ]; omega
theorem clStrs {k : Nat} : ∀ xs : List Str, ClL k (xs.map D.str)
  | [] => by simp [ClL]
  | x :: r => by rw [List.map_cons]; unfold ClL; exact ⟨by unfold Cl; trivial, clStrs r⟩
theorem v_variables_in : ∀ (k n : Nat) (e : Ex) (μ : Mh), k ≤ n → k ≤ 6 → e.Ok k → f_variables_in n [e.toD] μ = some (.lst (e.vars.map D.str), μ)
  | 0, _, _, _, _, _, h => by cases h
  | _ + 1, 0, _, _, hn, _, _ => by omega
  | k + 1, n + 1, .num i, μ, hn, h6, h => callF_frz' (g := []) (τ2 := _) (by rw [List.append_nil]; unfold m_variables_in Ex.toD; wtm_at "own qev") rfl (clStrs [])
  | k + 1, n + 1, .var x, μ, hn, h6, h => callF_frz' (es := [.str x]) (g := []) (τ2 := _) (by rw [List.append_nil]; unfold m_variables_in Ex.toD; wtm_at "own qev") rfl (clStrs [x])
  | k + 1, n + 1, .neg e, μ, hn, h6, h => by
    have ih := v_variables_in k n e (μ ++ [.lst []]) (by omega) (by omega) h
    have hl := Ex.vlen (k := k) (e := e) h
    have hp : 2 ^ k ≤ 2 ^ 6 := Nat.pow_le_pow_right (by decide) (by omega)
    have hz : sizeLine = 16777216 := by decide
    have hb : ([] : List D).length + (e.vars.map D.str).length ≤ sizeLine := by simp; omega
    have q : ∃ τ2, m_variables_in (f_variables_in n) (startD 3 [(Ex.neg e).toD]) μ = some ((.rt (.ref μ.length), τ2), μ ++ [.lst (e.vars.map D.str)]) := by
      refine' ⟨_, Eq.trans ?e1 ?e2⟩
      case e1 => unfold m_variables_in Ex.toD; wtm_at "own qev"
      case e2 => rfl
    obtain ⟨τ2, q⟩ := q
    exact callF_frz q rfl (Nat.le_refl _) (List.getElem?_concat_length) (clStrs _)
  | k + 1, n + 1, .pair w a b, μ, hn, h6, h => by
    obtain ⟨hw, ha, hb⟩ := h
    have ia := v_variables_in k n a (μ ++ [.lst []]) (by omega) (by omega) ha
    have ib := v_variables_in k n b (μ ++ [.lst ([] ++ a.vars.map D.str)]) (by omega) (by omega) hb
    have la := Ex.vlen (k := k) (e := a) ha
    have lb := Ex.vlen (k := k) (e := b) hb
    have hp : 2 ^ k ≤ 2 ^ 6 := Nat.pow_le_pow_right (by decide) (by omega)
    have hz : sizeLine = 16777216 := by decide
    have hb1 : ([] : List D).length + (a.vars.map D.str).length ≤ sizeLine := by simp; omega
    have hb2 : ([] ++ a.vars.map D.str).length + (b.vars.map D.str).length ≤ sizeLine := by simp; omega
    have w1 : PyData.strOk w = true ∧ w ≠ "num" ∧ w ≠ "var" := by
      have hw : w ∈ (["+", "-", "=", "<", "and", "or"] : List Str) := hw
      simp only [List.mem_cons, List.not_mem_nil, or_false] at hw
      rcases hw with rfl | rfl | rfl | rfl | rfl | rfl <;> decide +kernel
    obtain ⟨w1, w2, w3⟩ := w1
    have q : ∃ τ2, m_variables_in (f_variables_in n) (startD 3 [(Ex.pair w a b).toD]) μ = some ((.rt (.ref μ.length), τ2), μ ++ [.lst ([] ++ a.vars.map D.str ++ b.vars.map D.str)]) := by
      refine' ⟨_, ?e⟩
      case e => unfold m_variables_in Ex.toD; wtm_at "own qev"
    obtain ⟨τ2, q⟩ := q
    have z : ([] ++ a.vars.map D.str ++ b.vars.map D.str) = (Ex.pair w a b).vars.map D.str := by simp [Ex.vars]
    rw [z] at q
    exact callF_frz q rfl (Nat.le_refl _) (List.getElem?_concat_length) (clStrs _)
end
end K1
namespace K1
open PySem L2 Mi
inductive Rw where
  | put (bx : Str) (e : Ex) | get (x bx : Str) | letr (x : Str) (e : Ex) | unless (e : Ex) (t : Int) | jump (t : Int) | tell (e : Ex) | done
noncomputable def Rw.toD : Rw → D
  | .put bx e => .tup [.str "put", .str bx, e.toD]
  | .get x bx => .tup [.str "get", .str x, .str bx]
  | .letr x e => .tup [.str "let", .str x, e.toD]
  | .unless e t => .tup [.str "unless", e.toD, .int t]
  | .jump t => .tup [.str "jump", .int t]
  | .tell e => .tup [.str "tell", e.toD]
  | .done => .tup [.str "done"]
noncomputable def Rw.Form (l : Int) : Rw → Prop
  | .put bx e => GoodName bx ∧ e.Ok 5
  | .get x bx => GoodName x ∧ GoodName bx
  | .letr x e => GoodName x ∧ e.Ok 5
  | .unless e t => e.Ok 5 ∧ 0 ≤ t ∧ t ≤ l
  | .jump t => 0 ≤ t ∧ t ≤ l
  | .tell e => e.Ok 5
  | .done => True
noncomputable def Rw.vars : Rw → List Str
  | .put _ e => e.vars
  | .get x _ => [x]
  | .letr x e => x :: e.vars
  | .unless e _ => e.vars
  | .jump _ => []
  | .tell e => e.vars
  | .done => []
section
variable {μ μ1 μ2 μ' : Mh} {n : Nat} {l : Int} {d : D} {x y : Str} {τ τ1 τ2 : Sl}
theorem v_part_e {e : Ex} (h : e.Ok 5) : f_is_part [.str "expression", e.toD, .int l] μ = some (.bl true, μ) := by
  have ih := v_is_expression 5 6 e 5 μ rfl (by decide) h
  exact callF_pure (g := []) (τ2 := _) (by rw [List.append_nil]; unfold m_is_part d_DEEPEST; wtm_at "own qev") rfl (by unfold Cl; trivial)
theorem v_part_t {t : Int} (h1 : 0 ≤ t) (h2 : t ≤ l) : f_is_part [.str "target", .int t, .int l] μ = some (.bl true, μ) :=
  callF_pure (g := []) (τ2 := _) (by rw [List.append_nil]; unfold m_is_part d_DEEPEST; wtm_at "own qev") rfl (by unfold Cl; trivial)
theorem v_part_v (h : GoodName x) : f_is_part [.str "variable", .str x, .int l] μ = some (.bl true, μ) :=
  callF_pure (g := []) (τ2 := _) (by rw [List.append_nil]; unfold m_is_part d_DEEPEST; wtm_at "own qev") rfl (by unfold Cl; trivial)
theorem v_part_b (h : GoodName x) : f_is_part [.str "box", .str x, .int l] μ = some (.bl true, μ) :=
  callF_pure (g := []) (τ2 := _) (by rw [List.append_nil]; unfold m_is_part d_DEEPEST; wtm_at "own qev") rfl (by unfold Cl; trivial)
end
end K1
local macro_rules | `(tactic| wtm_at "own qleaf") => `(tactic| first
  | ((with_reducible apply K1.v_part_e); assumption) | ((with_reducible apply K1.v_part_t); (assumption); (assumption)) | ((with_reducible apply K1.v_part_v); assumption) | ((with_reducible apply K1.v_part_b); assumption))
namespace K1
open PySem L2 Mi
section
variable {μ μ1 μ2 μ' : Mh} {n : Nat} {l : Int} {d : D} {x y : Str} {τ τ1 τ2 : Sl}
theorem v_check_form : ∀ {r : Rw}, r.Form l → f_check_form [r.toD, .int l] μ = some (.non, μ)
  | .put bx e, ⟨h1, h2⟩ => callF_pureN (g := []) (τ2 := _) (by rw [List.append_nil]; unfold m_check_form Rw.toD; wtm_at "own qev") rfl
  | .get bx e, ⟨h1, h2⟩ => callF_pureN (g := []) (τ2 := _) (by rw [List.append_nil]; unfold m_check_form Rw.toD; wtm_at "own qev") rfl
  | .letr bx e, ⟨h1, h2⟩ => callF_pureN (g := []) (τ2 := _) (by rw [List.append_nil]; unfold m_check_form Rw.toD; wtm_at "own qev") rfl
  | .unless bx e, ⟨h1, h2, h3⟩ => callF_pureN (g := []) (τ2 := _) (by rw [List.append_nil]; unfold m_check_form Rw.toD; wtm_at "own qev") rfl
  | .jump t, ⟨h1, h2⟩ => callF_pureN (g := []) (τ2 := _) (by rw [List.append_nil]; unfold m_check_form Rw.toD; wtm_at "own qev") rfl
  | .tell e, h => callF_pureN (g := []) (τ2 := _) (by have h : e.Ok 5 := h; rw [List.append_nil]; unfold m_check_form Rw.toD; wtm_at "own qev") rfl
  | .done, h => callF_pureN (g := []) (τ2 := _) (by rw [List.append_nil]; unfold m_check_form Rw.toD; wtm_at "own qev") rfl
end
end K1
set_option maxHeartbeats 4000000
namespace K1
open PySem L2 Mi
section
variable {μ μ1 μ2 μ' : Mh} {n : Nat} {l : Int} {d : D} {x y : Str} {τ τ1 τ2 : Sl}
theorem v_vars5 {e : Ex} (h : e.Ok 5) : f_variables_in 6 [e.toD] μ = some (.lst (e.vars.map D.str), μ) := v_variables_in 5 6 e μ (by decide) (by decide) h
theorem v_endT {w : Str} (hw : PyData.strOk w = true) (h : w ≠ "tell") : f_check_ending [.str w, .bl true] μ = some (.non, μ) :=
  callF_pureN (g := []) (τ2 := _) (by rw [List.append_nil]; unfold m_check_ending; wtm_at "own qev") rfl
theorem v_endF {w : Str} (hw : PyData.strOk w = true) (h : w ≠ "done") : f_check_ending [.str w, .bl false] μ = some (.non, μ) :=
  callF_pureN (g := []) (τ2 := _) (by rw [List.append_nil]; unfold m_check_ending; wtm_at "own qev") rfl
theorem l_in2T {a b : Str} (h : x ∈ [a, b]) : pyIn false (.str x) (.tup [.str a, .str b]) μ = some (.bl true, μ) := l_inT (xs := [a, b]) h
theorem l_in2F {a b : Str} (h : x ∉ [a, b]) : pyIn false (.str x) (.tup [.str a, .str b]) μ = some (.bl false, μ) := l_inF (xs := [a, b]) h
end
end K1
local macro_rules | `(tactic| wtm_at "own qleaf") => `(tactic| first
  | ((with_reducible apply K1.v_vars5); assumption) | ((with_reducible apply K1.l_in2T); wtm_at "own qstrs") | ((with_reducible apply K1.l_in2F); wtm_at "own qstrs") | ((with_reducible apply K1.v_endT); (wtm_at "own qstrs"); (wtm_at "own qstrs")) | ((with_reducible apply K1.v_endF); (wtm_at "own qstrs"); (wtm_at "own qstrs")))
namespace K1
open PySem L2 Mi
section
variable {μ μ1 μ2 μ' : Mh} {n : Nat} {l : Int} {d : D} {x y : Str} {τ τ1 τ2 : Sl}
theorem vof_of {r : Rw} {xs : List D} (h : xs = r.vars.map D.str) (q : ∃ τ2, m_variables_of (f_variables_in 6) (startD 4 [r.toD]) μ = some ((.rt (.ref μ.length), τ2), μ ++ [.lst xs])) : f_variables_of [r.toD] μ = some (.lst (r.vars.map D.str), μ) := by
  obtain ⟨τ2, q⟩ := q
  rw [h] at q
  exact callF_frz q rfl (Nat.le_refl _) List.getElem?_concat_length (clStrs _)
theorem v_variables_of : ∀ {r : Rw}, r.Form l → f_variables_of [r.toD] μ = some (.lst (r.vars.map D.str), μ)
  | .put bx e, ⟨h1, h2⟩ => by
    have hl := Ex.vlen h2
    have hz : sizeLine = 16777216 := by decide
    refine vof_of (xs := [] ++ e.vars.map D.str) rfl ?_
    refine' ⟨_, ?e1⟩
    case e1 => unfold m_variables_of Rw.toD; wtm_at "own qev"
  | .get x bx, ⟨h1, h2⟩ => by
    refine vof_of (xs := [] ++ [.str x]) rfl ?_
    refine' ⟨_, ?e1⟩
    case e1 => unfold m_variables_of Rw.toD; wtm_at "own qev"
  | .letr x e, ⟨h1, h2⟩ => by
    have hl := Ex.vlen h2
    have hz : sizeLine = 16777216 := by decide
    refine vof_of (xs := [] ++ [.str x] ++ e.vars.map D.str) rfl ?_
    refine' ⟨_, ?e1⟩
    case e1 => unfold m_variables_of Rw.toD; wtm_at "own qev"
  | .unless e t, ⟨h1, h2, h3⟩ => by
    have hl := Ex.vlen h1
    have hz : sizeLine = 16777216 := by decide
    refine vof_of (xs := [] ++ e.vars.map D.str) rfl ?_
    refine' ⟨_, ?e1⟩
    case e1 => unfold m_variables_of Rw.toD; wtm_at "own qev"
  | .jump t, ⟨h1, h2⟩ => by
    refine vof_of (xs := []) rfl ?_
    refine' ⟨_, ?e1⟩
    case e1 => unfold m_variables_of Rw.toD; wtm_at "own qev"
  | .tell e, h1 => by
    have h1 : e.Ok 5 := h1
    have hl := Ex.vlen h1
    have hz : sizeLine = 16777216 := by decide
    refine vof_of (xs := [] ++ e.vars.map D.str) rfl ?_
    refine' ⟨_, ?e1⟩
    case e1 => unfold m_variables_of Rw.toD; wtm_at "own qev"
  | .done, _ => by
    refine vof_of (xs := []) rfl ?_
    refine' ⟨_, ?e1⟩
    case e1 => unfold m_variables_of Rw.toD; wtm_at "own qev"
noncomputable def VarOk (wr : Bool) (x : Str) : Prop := PyData.strOk x = true ∧ x ∉ (["not", "and", "or"] : List Str) ∧ (wr = true ∨ x ≠ "v")
theorem vars_loop {wr : Bool} {rD : D} : ∀ (xs : List Str) (o : Option D), (∀ x ∈ xs, VarOk wr x) → ∃ o', forGo (bName 2) (sSeq (sExpr (mDisp f_need (aCons (mOp (pyIn true) (mSlot 2) (mC d_NO_VARIABLES)) (aCons (mC (.str "a variable is called like a word of expressions")) aNil))))
    (sExpr (mDisp f_need (aCons (mOrV (mSlot 1) (mOp pyNe (mSlot 2) (mC (.str "v")))) (aCons (mC (.str "a reader has no variable v")) aNil))))) (xs.map D.str) [some rD, some (.bl wr), o] μ = some ((.next, [some rD, some (.bl wr), o']), μ)
  | [], o, _ => ⟨o, rfl⟩
  | x :: r, o, h => by
    obtain ⟨h1, h2, h3⟩ := h x (by simp)
    obtain ⟨o', ih⟩ := vars_loop (wr := wr) (rD := rD) r (some (.str x)) fun y hy => h y (by simp [hy])
    refine ⟨o', ?_⟩
    refine ev_forCons (τ1 := [some rD, some (.bl wr), some (.str x)]) (τ2 := [some rD, some (.bl wr), some (.str x)]) (μ1 := μ) (μ2 := μ) rfl ?_ ih
    unfold d_NO_VARIABLES
    cases wr with
    | true => wtm_at "own qev"
    | false =>
      have h4 : x ≠ "v" := by rcases h3 with z | z; cases z; exact z
      wtm_at "own qev"
noncomputable def Rw.word : Rw → Str
  | .put _ _ => "put" | .get _ _ => "get" | .letr _ _ => "let" | .unless _ _ => "unless" | .jump _ => "jump" | .tell _ => "tell" | .done => "done"
noncomputable def Rw.setOk : Rw → Prop
  | .get x _ => x ≠ "v"
  | .letr x _ => x ≠ "v"
  | _ => True
theorem v_check_variables {wr : Bool} {r : Rw} (hf : r.Form l) (hv : ∀ x ∈ r.vars, VarOk wr x) (hs : r.setOk) : f_check_variables [r.toD, .bl wr] μ = some (.non, μ) := by
  have v := v_variables_of (μ := μ) hf
  obtain ⟨o, lp⟩ := vars_loop (μ := μ) (wr := wr) (rD := r.toD) r.vars none hv
  have b : ∃ τ2, sIf (mTest (mOp (pyIn false) (mOp pyIx (mSlot 0) (mC (.int 0))) (mDisp newT (aCons (mC (.str "get")) (aCons (mC (.str "let")) aNil))))) (sExpr (mDisp f_need (aCons (mOp pyNe (mOp pyIx (mSlot 0) (mC (.int 1))) (mC (.str "v"))) (aCons (mC (.str "the variable v is set by no row")) aNil)))) sNil [some r.toD, some (.bl wr), o] μ = some ((.next, τ2), μ) := by
    cases r with
    | get x bx =>
      have h1 := hf.1.ok
      have h2 : x ≠ "v" := hs
      simp only [Rw.toD]
      exact ⟨_, by wtm_at "own qev"⟩
    | letr x e =>
      have h1 := hf.1.ok
      have h2 : x ≠ "v" := hs
      simp only [Rw.toD]
      exact ⟨_, by wtm_at "own qev"⟩
    | _ =>
      simp only [Rw.toD]
      exact ⟨_, by wtm_at "own qev"⟩
  obtain ⟨τ2, b⟩ := b
  refine callF_pureN (g := []) (τ2 := τ2) ?_ rfl
  rw [List.append_nil]
  unfold m_check_variables
  refine ev_seq (τ1 := [some r.toD, some (.bl wr), o]) (μ1 := μ) (ev_for (ds := r.vars.map D.str) (μ1 := μ) (ev_src (x := .lst (r.vars.map D.str)) (μ1 := μ) (ev_disp (ds := [r.toD]) (μ1 := μ) ?_ v) rfl) lp) b
  rfl
end
end K1
set_option maxHeartbeats 4000000
namespace K1
open PySem L2 Mi
section
variable {μ μ1 μ2 μ3 μ4 μ' : Mh} {n : Nat} {l : Int} {d z : D} {x y : Str} {τ τ1 τ2 : Sl}
theorem asDict_eq {L : List (Key × D)} (h : μ[n]? = some (.dK L)) : asDict (.ref n) μ = some ((n, L), μ) := by unfold asDict; dsimp only; rw [h]
theorem ev_dget1 {mo mi : Sl → M D} {L : List (Key × D)} {bx : Str} (h1 : mo τ μ = some (.ref n, μ)) (h : μ[n]? = some (.dK L)) (h2 : mi τ μ = some (.str bx, μ)) (hv : valD L (.inr bx) = some z) : mDget1 mo mi τ μ = some (z, μ) := by
  unfold mDget1
  rw [bnd_of h1, bnd_of (show guardD (.ref n) μ = some ((), μ) from by unfold guardD; rw [bnd_of (asDict_eq h)]; rfl), bnd_of h2]
  unfold dget1F
  rw [bnd_of (asDict_eq h)]
  show some ((valD L (.inr bx)).getD .non, μ) = _
  rw [hv]; rfl
theorem l_din {L : List (Key × D)} {bx : Str} (h : μ[n]? = some (.dK L)) (hv : (valD L (.inr bx)).isSome = true) : dinF false (.str bx) (.ref n) μ = some (.bl true, μ) := by
  unfold dinF
  rw [bnd_of (asDict_eq h)]
  show some (D.bl (valD L (.inr bx)).isSome, μ) = _
  rw [hv]
end
end K1
local macro_rules | `(tactic| wtm_at "own qleaf") => `(tactic| first
  | ((with_reducible apply K1.ev_dget1); (wtm_at "own qev"); (assumption); (wtm_at "own qev"); (assumption)) | ((with_reducible apply K1.l_din); (assumption); (assumption)))
namespace K1
open PySem L2 Mi
section
variable {μ μ1 μ2 μ' : Mh} {n : Nat} {l : Int} {d : D} {x y : Str} {τ τ1 τ2 : Sl}
noncomputable def Rw.Tab (L : List (Key × D)) (nm : Str) : Rw → Prop
  | .put bx _ => valD L (.inr bx) = some (.str nm)
  | .get _ bx => (valD L (.inr bx)).isSome = true
  | _ => True
noncomputable def Rw.EndOk (wr : Bool) : Rw → Prop
  | .tell _ => wr = false
  | .done => wr = true
  | _ => True
structure Rw.Ok (L : List (Key × D)) (nm : Str) (wr : Bool) (l : Int) (r : Rw) : Prop where
  form : r.Form l
  ends : r.EndOk wr
  vars : ∀ x ∈ r.vars, VarOk wr x
  set : r.setOk
  tab : r.Tab L nm
theorem v_ending {wr : Bool} : ∀ {r : Rw}, r.EndOk wr → f_check_ending [.str r.word, .bl wr] μ = some (.non, μ) := by
  intro r h
  cases r with
  | tell e => cases (show wr = false from h); simp only [Rw.word]; exact v_endF (by decide +kernel) (by decide +kernel)
  | done => cases (show wr = true from h); simp only [Rw.word]; exact v_endT (by decide +kernel) (by decide +kernel)
  | _ =>
    simp only [Rw.word]
    cases wr with
    | false => exact v_endF (by decide +kernel) (by decide +kernel)
    | true => exact v_endT (by decide +kernel) (by decide +kernel)
noncomputable abbrev bodyRows : Sl → M (Fl × Sl) := (sSeq (sExpr (mDisp f_check_form (aCons (mSlot 3) (aCons (mDisp lenF (aCons (mOp pyIx (mSlot 0) (mC (.int 2))) aNil)) aNil))))
    (sSeq (sExpr (mDisp f_check_ending (aCons (mOp pyIx (mSlot 3) (mC (.int 0))) (aCons (mSlot 1) aNil))))
    (sSeq (sExpr (mDisp f_check_variables (aCons (mSlot 3) (aCons (mSlot 1) aNil))))
    (sSeq (sIf (mTest (mOp pyEq (mOp pyIx (mSlot 3) (mC (.int 0))) (mC (.str "put")))) (sExpr (mDisp f_need (aCons (mOp pyEq (mDget1 (mSlot 2) (mOp pyIx (mSlot 3) (mC (.int 1)))) (mOp pyIx (mSlot 0) (mC (.int 0)))) (aCons (mC (.str "a hand puts a box that it does not write")) aNil)))) sNil)
    (sIf (mTest (mOp pyEq (mOp pyIx (mSlot 3) (mC (.int 0))) (mC (.str "get")))) (sExpr (mDisp f_need (aCons (mOp (dinF false) (mOp pyIx (mSlot 3) (mC (.int 2))) (mSlot 2)) (aCons (mC (.str "a hand gets a box that is none")) aNil)))) sNil)))))
theorem row_body {L : List (Key × D)} {nm : Str} {wr : Bool} {w : Int} {ds : List D} (hn : μ[n]? = some (.dK L)) (hm : PyData.strOk nm = true) : ∀ {r : Rw}, r.Ok L nm wr ds.length →
    bodyRows [some (.tup [.str nm, .int w, .tup ds]), some (.bl wr), some (.ref n), some r.toD] μ = some ((.next, [some (.tup [.str nm, .int w, .tup ds]), some (.bl wr), some (.ref n), some r.toD]), μ) := by
  intro r h
  have c1 := v_check_form (μ := μ) h.form
  have c2 := v_ending (μ := μ) h.ends
  have c3 := v_check_variables (μ := μ) h.form h.vars h.set
  have c4 := h.tab
  cases r with
  | put bx e =>
    have c4 : valD L (.inr bx) = some (.str nm) := c4
    simp only [Rw.toD, Rw.word] at c1 c2 c3 ⊢
    wtm_at "own qev"
  | get x bx =>
    have c4 : (valD L (.inr bx)).isSome = true := c4
    simp only [Rw.toD, Rw.word] at c1 c2 c3 ⊢
    wtm_at "own qev"
  | _ =>
    simp only [Rw.toD, Rw.word] at c1 c2 c3 ⊢
    wtm_at "own qev"
theorem rows_loop {L : List (Key × D)} {nm : Str} {wr : Bool} {w : Int} {ds : List D} (hn : μ[n]? = some (.dK L)) (hm : PyData.strOk nm = true) : ∀ (rs : List Rw) (o : Option D), (∀ r ∈ rs, r.Ok L nm wr ds.length) → ∃ o',
    forGo (bName 3) bodyRows (rs.map Rw.toD) [some (.tup [.str nm, .int w, .tup ds]), some (.bl wr), some (.ref n), o] μ = some ((.next, [some (.tup [.str nm, .int w, .tup ds]), some (.bl wr), some (.ref n), o']), μ)
  | [], o, _ => ⟨o, rfl⟩
  | r :: rs, o, h => by
    obtain ⟨o', ih⟩ := rows_loop (w := w) hn hm rs (some r.toD) fun q hq => h q (by simp [hq])
    exact ⟨o', ev_forCons rfl (row_body hn hm (h r (by simp))) ih⟩
theorem v_check_rows {L : List (Key × D)} {nm : Str} {wr : Bool} {w : Int} {rs : List Rw} (hn : μ[n]? = some (.dK L)) (hm : PyData.strOk nm = true) (h : ∀ r ∈ rs, r.Ok L nm wr rs.length) : f_check_rows [.tup [.str nm, .int w, .tup (rs.map Rw.toD)], .bl wr, .ref n] μ = some (.non, μ) := by
  obtain ⟨o', lp⟩ := rows_loop (w := w) (ds := rs.map Rw.toD) hn hm rs none (by rw [List.length_map]; exact h)
  exact callF_pureN (g := []) (by
    rw [List.append_nil]
    exact ev_for (ds := rs.map Rw.toD) (μ1 := μ) (ev_src (x := .tup (rs.map Rw.toD)) (μ1 := μ) (ev_op (x := .tup [.str nm, .int w, .tup (rs.map Rw.toD)]) (y := .int 2) (μ1 := μ) (μ2 := μ) rfl rfl rfl) rfl) lp) rfl
end
end K1
set_option maxHeartbeats 4000000
namespace K1
open PySem L2 Mi
section
variable {μ μ1 μ2 μ' : Mh} {n : Nat} {l : Int} {d : D} {x y : Str} {τ τ1 τ2 : Sl}
theorem nub_len : ∀ (xs ys : List Str), (ys ++ xs).Nodup → (xs.foldl (fun ys x => if x ∈ ys then ys else ys ++ [x]) ys) = ys ++ xs
  | [], ys, _ => by simp
  | x :: xs, ys, h => by
    have hx : x ∉ ys := by
      intro hm
      rw [List.nodup_append] at h
      exact h.2.2 x hm x (by simp) rfl
    show xs.foldl _ (if x ∈ ys then ys else ys ++ [x]) = _
    rw [if_neg hx, nub_len xs (ys ++ [x]) (by simpa using h)]
    simp
theorem strs_eq : ∀ xs : List Str, strsD (xs.map D.str) = some xs
  | [] => rfl
  | x :: r => by
    show (strsD (r.map D.str)).map (x :: ·) = _
    rw [strs_eq r]; rfl
theorem v_are_unlike {xs : List Str} (h : xs.Nodup) (hl : xs.length ≤ 1000) : f_are_unlike [.lst (xs.map D.str)] μ = some (.bl true, μ) := by
  have e : lensetF (.lst (xs.map D.str)) μ = some (.int xs.length, μ) := by
    unfold lensetF
    rw [bnd_of (show asList (.lst (xs.map D.str)) μ = some (xs.map D.str, μ) from rfl), strs_eq]
    show (if xs.length + 2 < scanBound then some (D.int (nubS xs).length, μ) else none) = _
    rw [if_pos (by have : scanBound = 4096 := rfl; omega)]
    have : nubS xs = xs := by unfold nubS; rw [nub_len xs [] (by simpa using h)]; simp
    rw [this]
  have hq : ((xs.length : Nat) : Int) = ((xs.map D.str).length : Nat) := by simp
  exact callF_pure (g := []) (τ2 := _) (by rw [List.append_nil]; unfold m_are_unlike; wtm_at "own qev") rfl (by unfold Cl; trivial)
structure Bx where
  nm : Str
  kd : Str
  sz : Int
  bg : Int
  wr : Str
noncomputable def Bx.toD (b : Bx) : D := .tup [.str b.nm, .str b.kd, .int b.sz, .int b.bg, .str b.wr]
noncomputable def Worth (kd : Str) (sz bg : Int) : Prop := kd ∈ (["safe", "steady", "whole"] : List Str) ∧ 2 ≤ sz ∧ sz ≤ 10 ∧ 0 ≤ bg ∧ bg ≤ sz - 1
structure Hd where
  nm : Str
  wi : Int
  rs : List Rw
noncomputable def Hd.toD (h : Hd) : D := .tup [.str h.nm, .int h.wi, .tup (h.rs.map Rw.toD)]
theorem names_comp {α : Type} {f : α → D} {g : α → Str} {xs : List α} (h : ∀ a, ∀ ν : Mh, pyIx (f a) (.int 0) ν = some (.str (g a), ν)) (hl : xs.length ≤ 1000) {ma : Sl → M D} (hm : ma τ μ = some (.tup (xs.map f), μ)) : mComp 1 [] (mSrc ma) (bName 0) mTrue (mOp pyIx (mSlot 0) (mC (.int 0))) newL τ μ = some (.lst ((xs.map g).map D.str), μ) := by
  have hz : sizeLine = 16777216 := by decide
  have go : ∀ (xs : List α) (ys : List D), compGo (bName 0) mTrue (mOp pyIx (mSlot 0) (mC (.int 0))) (startBl 1 [] τ) (xs.map f) ys μ = some (ys ++ (xs.map g).map D.str, μ) := by
    intro xs
    induction xs with
    | nil => intro ys; show some (ys, μ) = _; simp
    | cons a xs ih =>
      intro ys
      show bnd (bName 0 (f a) (startBl 1 [] τ)) _ μ = _
      rw [bnd_of (show bName 0 (f a) (startBl 1 [] τ) μ = some ((startBl 1 [] τ).set 0 (some (f a)), μ) from rfl), bnd_of (show mTrue ((startBl 1 [] τ).set 0 (some (f a))) μ = some (true, μ) from rfl), if_pos rfl, bnd_of (ev_op (ev_slot rfl) ev_c (h a μ)), ih]
      simp
  refine ev_comp (ev_src hm l_seqT) (by simp; omega) (go xs []) (newL_eq (by simp; omega))
theorem boxes_loop {o : Option D} {t : D} : ∀ (bs : List Bx) (o : Option D), (∀ b ∈ bs, GoodName b.nm ∧ Worth b.kd b.sz b.bg) → ∃ o', forGo (bName 1) (sSeq (sExpr (mDisp f_need (aCons (mDisp f_is_tuple (aCons (mSlot 1) (aCons (mC (.int 5)) (aCons (mC (.int 5)) aNil)))) (aCons (mC (.str "a box is a tuple of five parts")) aNil))))
    (sSeq (sExpr (mDisp f_need (aCons (mDisp f_is_name (aCons (mOp pyIx (mSlot 1) (mC (.int 0))) aNil)) (aCons (mC (.str "a box has a name")) aNil))))
    (sExpr (mDisp f_check_worths (aCons (mOp pyIx (mSlot 1) (mC (.int 1))) (aCons (mOp pyIx (mSlot 1) (mC (.int 2))) (aCons (mOp pyIx (mSlot 1) (mC (.int 3))) aNil))))))) (bs.map Bx.toD) [some t, o] μ = some ((.next, [some t, o']), μ)
  | [], o, _ => ⟨o, rfl⟩
  | b :: bs, o, h => by
    obtain ⟨h1, h2, h3, h4, h5, h6⟩ := h b (by simp)
    obtain ⟨o', ih⟩ := boxes_loop (o := none) (t := t) bs (some b.toD) fun q hq => h q (by simp [hq])
    have c := v_check_worths (μ := μ) h2 h3 h4 h5 h6
    refine ⟨o', ev_forCons (τ1 := [some t, some b.toD]) (τ2 := [some t, some b.toD]) (μ1 := μ) (μ2 := μ) rfl ?_ ih⟩
    unfold Bx.toD
    wtm_at "own qev"
theorem hands_loop {t : D} : ∀ (hs : List Hd) (o : Option D), (∀ h ∈ hs, GoodName h.nm ∧ 0 ≤ h.wi ∧ h.wi ≤ 400 ∧ h.rs.length ≤ 60) → ∃ o', forGo (bName 1) (sSeq (sExpr (mDisp f_need (aCons (mDisp f_is_tuple (aCons (mSlot 1) (aCons (mC (.int 3)) (aCons (mC (.int 3)) aNil)))) (aCons (mC (.str "a hand is a tuple of three parts")) aNil))))
    (sSeq (sExpr (mDisp f_need (aCons (mDisp f_is_name (aCons (mOp pyIx (mSlot 1) (mC (.int 0))) aNil)) (aCons (mC (.str "a hand has a name")) aNil))))
    (sSeq (sExpr (mDisp f_need (aCons (mDisp f_is_whole (aCons (mOp pyIx (mSlot 1) (mC (.int 1))) (aCons (mC (.int 0)) (aCons (mC d_MOST_WITHIN) aNil)))) (aCons (mC (.str "a told count is a whole number from 0 to 400")) aNil))))
    (sExpr (mDisp f_need (aCons (mDisp f_is_tuple (aCons (mOp pyIx (mSlot 1) (mC (.int 2))) (aCons (mC (.int 0)) (aCons (mC d_MOST_ROWS) aNil)))) (aCons (mC (.str "rows are a tuple of at most sixty")) aNil))))))) (hs.map Hd.toD) [some t, o] μ = some ((.next, [some t, o']), μ)
  | [], o, _ => ⟨o, rfl⟩
  | h :: hs, o, hh => by
    obtain ⟨h1, h2, h3, h4⟩ := hh h (by simp)
    obtain ⟨o', ih⟩ := hands_loop (t := t) hs (some h.toD) fun q hq => hh q (by simp [hq])
    have q1 : (0 : Int) ≤ ((h.rs.map Rw.toD).length : Nat) := by omega
    have q2 : ((h.rs.map Rw.toD).length : Nat) ≤ (60 : Int) := by simp; omega
    refine ⟨o', ev_forCons (τ1 := [some t, some h.toD]) (τ2 := [some t, some h.toD]) (μ1 := μ) (μ2 := μ) rfl ?_ ih⟩
    unfold Hd.toD d_MOST_WITHIN d_MOST_ROWS
    wtm_at "own qev"
theorem v_check_boxes {bs : List Bx} (h : ∀ b ∈ bs, GoodName b.nm ∧ Worth b.kd b.sz b.bg) (hl : bs.length ≤ 6) (hd : (bs.map Bx.nm).Nodup) : f_check_boxes [.tup (bs.map Bx.toD)] μ = some (.non, μ) := by
  obtain ⟨o, lp⟩ := boxes_loop (o := none) (μ := μ) (t := .tup (bs.map Bx.toD)) bs none h
  have c := names_comp (μ := μ) (τ := [some (.tup (bs.map Bx.toD)), o]) (f := Bx.toD) (g := Bx.nm) (xs := bs) (fun a ν => rfl) (by omega) (ma := mSlot 0) rfl
  have u := v_are_unlike (μ := μ) hd (by simp; omega)
  have q1 : (0 : Int) ≤ ((bs.map Bx.toD).length : Nat) := by omega
  have q2 : ((bs.map Bx.toD).length : Nat) ≤ (6 : Int) := by simp; omega
  have t := v_is_tuple (μ := μ) q1 q2
  refine callF_pureN (g := []) (τ2 := [some (.tup (bs.map Bx.toD)), o]) ?_ rfl
  rw [List.append_nil]
  unfold m_check_boxes d_MOST_BOXES
  refine ev_seq (τ1 := [some (.tup (bs.map Bx.toD)), none]) (μ1 := μ) (by show sExpr _ [some (.tup (bs.map Bx.toD)), none] μ = _; wtm_at "own qev") (ev_seq (ev_for (ds := bs.map Bx.toD) (μ1 := μ) rfl lp) ?_)
  wtm_at "own qev"
theorem v_check_hands {hs : List Hd} (h : ∀ h ∈ hs, GoodName h.nm ∧ 0 ≤ h.wi ∧ h.wi ≤ 400 ∧ h.rs.length ≤ 60) (h2 : 2 ≤ hs.length) (hl : hs.length ≤ 4) (hd : (hs.map Hd.nm).Nodup) : f_check_hands [.tup (hs.map Hd.toD)] μ = some (.non, μ) := by
  obtain ⟨o, lp⟩ := hands_loop (μ := μ) (t := .tup (hs.map Hd.toD)) hs none h
  have c := names_comp (μ := μ) (τ := [some (.tup (hs.map Hd.toD)), o]) (f := Hd.toD) (g := Hd.nm) (xs := hs) (fun a ν => rfl) (by omega) (ma := mSlot 0) rfl
  have u := v_are_unlike (μ := μ) hd (by simp; omega)
  have q1 : (2 : Int) ≤ ((hs.map Hd.toD).length : Nat) := by simp; omega
  have q2 : ((hs.map Hd.toD).length : Nat) ≤ (4 : Int) := by simp; omega
  have t := v_is_tuple (μ := μ) q1 q2
  refine callF_pureN (g := []) (τ2 := [some (.tup (hs.map Hd.toD)), o]) ?_ rfl
  rw [List.append_nil]
  unfold m_check_hands d_LEAST_HANDS d_MOST_HANDS
  refine ev_seq (τ1 := [some (.tup (hs.map Hd.toD)), none]) (μ1 := μ) (by show sExpr _ [some (.tup (hs.map Hd.toD)), none] μ = _; wtm_at "own qev") (ev_seq (ev_for (ds := hs.map Hd.toD) (μ1 := μ) rfl lp) ?_)
  wtm_at "own qev"
end
end K1
set_option maxHeartbeats 4000000
namespace K1
open PySem L2 Mi
section
variable {μ μ1 μ2 μ' : Mh} {n : Nat} {l : Int} {d : D} {x y : Str} {τ τ1 τ2 : Sl}
theorem l_inLT {xs : List Str} (h : x ∈ xs) : pyIn false (.str x) (.lst (xs.map D.str)) μ = some (.bl true, μ) := by
  show inSeq false (.str x) (.lst (xs.map D.str)) μ = _
  rw [l_inSeq (ds := []) rfl, decide_eq_true h]; rfl
noncomputable def kv (b : Bx) : Key × D := (.inr b.nm, .str b.wr)
theorem put_new {bs : List Bx} {b : Bx} (h : b.nm ∉ bs.map Bx.nm) : putD (bs.map kv) (.inr b.nm) (.str b.wr) = (bs ++ [b]).map kv := by
  unfold putD
  rw [if_neg]
  · simp [kv]
  · intro z
    rw [List.any_eq_true] at z
    obtain ⟨p, hp, e⟩ := z
    rw [List.mem_map] at hp
    obtain ⟨c, hc, rfl⟩ := hp
    have e := of_decide_eq_true e
    have e2 : (Sum.inr c.nm : Key) = .inr b.nm := e
    exact h (List.mem_map.mpr ⟨c, hc, Sum.inr.inj e2⟩)
theorem val_kv : ∀ {bs : List Bx} {b : Bx}, (bs.map Bx.nm).Nodup → b ∈ bs → valD (bs.map kv) (.inr b.nm) = some (.str b.wr)
  | c :: bs, b, hd, hb => by
    unfold valD
    rw [List.map_cons, List.find?_cons]
    rw [List.map_cons, List.nodup_cons] at hd
    by_cases e : c.nm = b.nm
    · have hbc : b = c := by
        rcases List.mem_cons.mp hb with z | z
        · exact z
        · exact absurd (show b.nm ∈ bs.map Bx.nm from List.mem_map.mpr ⟨b, z, rfl⟩) (by rw [← e]; exact hd.1)
      subst hbc
      simp [kv]
    · have hb' : b ∈ bs := by
        rcases List.mem_cons.mp hb with z | z
        · exact absurd (by rw [z]) e
        · exact z
      have : decide ((kv c).1 = (Sum.inr b.nm : Key)) = false := decide_eq_false (by intro z; exact e (Sum.inr.inj (show (Sum.inr c.nm : Key) = .inr b.nm from z)))
      simp only [this]
      exact val_kv hd.2 hb'
theorem ev_dput {mo mi mv : Sl → M D} {v : D} {L : List (Key × D)} (h1 : mv τ μ = some (v, μ)) (h2 : mo τ μ = some (.ref n, μ)) (h3 : mi τ μ = some (.str x, μ)) (h : μ[n]? = some (.dK L)) (hl : L.length < sizeLine) : sDput mo mi mv τ μ = some ((.next, τ), μ.set n (.dK (putD L (.inr x) v))) := by
  unfold sDput
  rw [bnd_of h1, bnd_of h2, bnd_of h3, bnd_of (asDict_eq h)]
  show (if L.length < sizeLine then some ((Fl.next, τ), μ.set n (.dK (putD L (.inr x) v))) else none) = _
  rw [if_pos hl]
structure Mk where
  kd : Str
  sz : Int
  bg : Int
  bs : List Bx
  hs : List Hd
noncomputable def Mk.toD (m : Mk) : D := .tup [.str m.kd, .int m.sz, .int m.bg, .tup (m.bs.map Bx.toD), .tup (m.hs.map Hd.toD)]
structure Mk.Ok (m : Mk) : Prop where
  worth : Worth m.kd m.sz m.bg
  boxes : ∀ b ∈ m.bs, GoodName b.nm ∧ Worth b.kd b.sz b.bg
  most : m.bs.length ≤ 6
  unlike : (m.bs.map Bx.nm).Nodup
  hands : ∀ h ∈ m.hs, GoodName h.nm ∧ 0 ≤ h.wi ∧ h.wi ≤ 400 ∧ h.rs.length ≤ 60
  least : 2 ≤ m.hs.length
  mosth : m.hs.length ≤ 4
  unlikeh : (m.hs.map Hd.nm).Nodup
  writers : ∀ b ∈ m.bs, b.wr ∈ m.hs.map Hd.nm
  rows : ∀ (i : Nat) (h : Hd), m.hs[i]? = some h → ∀ r ∈ h.rs, r.Ok (m.bs.map kv) h.nm (i == 0) h.rs.length
theorem writers_loop {t : D} {ns : List Str} {o4 o5 : Option D} : ∀ (rest done : List Bx) (o : Option D), ((done ++ rest).map Bx.nm).Nodup → (done ++ rest).length ≤ 1000 → (∀ b ∈ rest, b.wr ∈ ns) → ∃ o', forGo (bName 3) (sSeq (sExpr (mDisp f_need (aCons (mOp (pyIn false) (mOp pyIx (mSlot 3) (mC (.int 4))) (mSlot 1)) (aCons (mC (.str "the hand of a box is none")) aNil))))
    (sDput (mSlot 2) (mOp pyIx (mSlot 3) (mC (.int 0))) (mOp pyIx (mSlot 3) (mC (.int 4))))) (rest.map Bx.toD) [some t, some (.lst (ns.map D.str)), some (.ref μ.length), o, o4, o5] (μ ++ [.dK (done.map kv)]) = some ((.next, [some t, some (.lst (ns.map D.str)), some (.ref μ.length), o', o4, o5]), μ ++ [.dK ((done ++ rest).map kv)])
  | [], done, o, _, _, _ => ⟨o, by rw [List.append_nil]; rfl⟩
  | b :: rest, done, o, hd, hl, h => by
    have hz : sizeLine = 16777216 := by decide
    obtain ⟨o', ih⟩ := writers_loop (t := t) (ns := ns) (o4 := o4) (o5 := o5) rest (done ++ [b]) (some b.toD) (by simpa using hd) (by simpa using hl) fun q hq => h q (by simp [hq])
    have hb : b.nm ∉ done.map Bx.nm := by
      rw [List.map_append, List.nodup_append] at hd
      intro z
      exact hd.2.2 _ z b.nm (by simp) rfl
    have hw := h b (by simp)
    have q := l_inLT (μ := μ ++ [.dK (done.map kv)]) hw
    have p := ev_dput (μ := μ ++ [.dK (done.map kv)]) (τ := [some t, some (.lst (ns.map D.str)), some (.ref μ.length), some b.toD, o4, o5]) (mo := mSlot 2) (mi := mOp pyIx (mSlot 3) (mC (.int 0))) (mv := mOp pyIx (mSlot 3) (mC (.int 4))) (v := .str b.wr) (x := b.nm) (n := μ.length) (L := done.map kv) rfl rfl rfl List.getElem?_concat_length (by simp at hl ⊢; omega)
    rw [put_new hb] at p
    have e : (μ ++ [MO.dK (done.map kv)]).set μ.length (.dK ((done ++ [b]).map kv)) = μ ++ [.dK ((done ++ [b]).map kv)] := by simp
    rw [e] at p
    have ap : done ++ b :: rest = done ++ [b] ++ rest := by simp
    rw [ap]
    refine ⟨o', ev_forCons (τ1 := [some t, some (.lst (ns.map D.str)), some (.ref μ.length), some b.toD, o4, o5]) (μ1 := μ ++ [.dK (done.map kv)]) rfl (ev_seq (τ1 := [some t, some (.lst (ns.map D.str)), some (.ref μ.length), some b.toD, o4, o5]) (μ1 := μ ++ [.dK (done.map kv)]) ?_ p) ih⟩
    unfold Bx.toD
    wtm_at "own qev"
theorem check_loop {t t1 o3 : Option D} {L : List (Key × D)} (hn : μ[n]? = some (.dK L)) : ∀ (hs : List Hd) (k : Nat) (o4 o5 : Option D), (∀ h ∈ hs, PyData.strOk h.nm = true) → (∀ (i : Nat) (h : Hd), hs[i]? = some h → ∀ r ∈ h.rs, r.Ok L h.nm (i + k == 0) h.rs.length) → ∃ o4' o5',
    forGo (bTup [4, 5]) (sExpr (mDisp f_check_rows (aCons (mSlot 5) (aCons (mOp pyEq (mSlot 4) (mC (.int 0))) (aCons (mSlot 2) aNil))))) (enumD k (hs.map Hd.toD)) [t, t1, some (.ref n), o3, o4, o5] μ = some ((.next, [t, t1, some (.ref n), o3, o4', o5']), μ)
  | [], k, o4, o5, _, _ => ⟨o4, o5, rfl⟩
  | h :: hs, k, o4, o5, hh, hr => by
    obtain ⟨o4', o5', ih⟩ := check_loop (t := t) (t1 := t1) (o3 := o3) hn hs (k + 1) (some (.int k)) (some h.toD) (fun q hq => hh q (by simp [hq])) fun i q hq r hrr => by
      have := hr (i + 1) q (by simpa using hq) r hrr
      rw [show i + (k + 1) = i + 1 + k from by omega]
      exact this
    have hb : (((k : Nat) : Int) == 0) = (0 + k == 0) := by
      rw [Nat.zero_add]
      by_cases z : k = 0
      · subst z; rfl
      · rw [beq_eq_false_iff_ne.mpr z, beq_eq_false_iff_ne.mpr (by omega)]
    have c := v_check_rows (w := h.wi) hn (hh h (by simp)) (hr 0 h rfl)
    have e : pyEq (.int k) (.int 0) μ = some (.bl (0 + k == 0), μ) := by rw [l_eqI, hb]
    refine ⟨o4', o5', ev_forCons (τ1 := [t, t1, some (.ref n), o3, some (.int k), some h.toD]) (τ2 := [t, t1, some (.ref n), o3, some (.int k), some h.toD]) (μ1 := μ) (μ2 := μ) rfl ?_ ih⟩
    exact ev_expr (ev_disp (ds := [h.toD, .bl (0 + k == 0), .ref n]) (μ1 := μ) (ev_consA (μ1 := μ) rfl (ev_consA (μ1 := μ) (ev_op (x := .int k) (y := .int 0) (μ1 := μ) (μ2 := μ) rfl rfl e) (ev_consA (μ1 := μ) rfl rfl))) c)
theorem v_check_making {m : Mk} (h : m.Ok) : f_check_making [m.toD] μ = some (.non, μ) := by
  obtain ⟨w1, w2, w3, w4, w5⟩ := h.worth
  have c1 := v_check_worths (μ := μ) w1 w2 w3 w4 w5
  have c2 := v_check_boxes (μ := μ) h.boxes h.most h.unlike
  have c3 := v_check_hands (μ := μ) h.hands h.least h.mosth h.unlikeh
  have c4 := names_comp (μ := μ) (τ := [some m.toD, none, none, none, none, none]) (f := Hd.toD) (g := Hd.nm) (xs := m.hs) (fun a ν => rfl) (by have := h.mosth; omega) (ma := mOp pyIx (mSlot 0) (mC (.int 4))) rfl
  obtain ⟨o3, l1⟩ := writers_loop (μ := μ) (t := m.toD) (ns := m.hs.map Hd.nm) (o4 := none) (o5 := none) m.bs [] none (by simpa using h.unlike) (by have := h.most; simp; omega) h.writers
  obtain ⟨o4, o5, l2⟩ := check_loop (μ := μ ++ [.dK (([] ++ m.bs).map kv)]) (n := μ.length) (t := some m.toD) (t1 := some (.lst ((m.hs.map Hd.nm).map D.str))) (o3 := o3) List.getElem?_concat_length m.hs 0 none none (fun q hq => (h.hands q hq).1.ok) (by simpa using h.rows)
  refine callF_pureN (g := [.dK (([] ++ m.bs).map kv)]) (τ2 := [some m.toD, some (.lst ((m.hs.map Hd.nm).map D.str)), some (.ref μ.length), o3, o4, o5]) ?_ rfl
  unfold m_check_making
  have a1 : ∀ {τ : Sl}, τ = [some m.toD, none, none, none, none, none] → sExpr (mDisp f_need (aCons (mDisp f_is_tuple (aCons (mSlot 0) (aCons (mC (.int 5)) (aCons (mC (.int 5)) aNil)))) (aCons (mC (.str "a making is a tuple of five parts")) aNil))) τ μ = some ((.next, τ), μ) := by
    intro τ e; subst e; unfold Mk.toD; wtm_at "own qev"
  have a2 : sExpr (mDisp f_check_worths (aCons (mOp pyIx (mSlot 0) (mC (.int 0))) (aCons (mOp pyIx (mSlot 0) (mC (.int 1))) (aCons (mOp pyIx (mSlot 0) (mC (.int 2))) aNil)))) [some m.toD, none, none, none, none, none] μ = some ((.next, [some m.toD, none, none, none, none, none]), μ) := by
    unfold Mk.toD; wtm_at "own qev"
  have a3 : sExpr (mDisp f_check_boxes (aCons (mOp pyIx (mSlot 0) (mC (.int 3))) aNil)) [some m.toD, none, none, none, none, none] μ = some ((.next, [some m.toD, none, none, none, none, none]), μ) := by
    unfold Mk.toD; wtm_at "own qev"
  have a4 : sExpr (mDisp f_check_hands (aCons (mOp pyIx (mSlot 0) (mC (.int 4))) aNil)) [some m.toD, none, none, none, none, none] μ = some ((.next, [some m.toD, none, none, none, none, none]), μ) := by
    unfold Mk.toD; wtm_at "own qev"
  refine ev_seq (a1 rfl) (ev_seq a2 (ev_seq a3 (ev_seq a4 (ev_seq (τ1 := [some m.toD, some (.lst ((m.hs.map Hd.nm).map D.str)), none, none, none, none]) (μ1 := μ) (ev_asg c4 rfl) (ev_seq (τ1 := [some m.toD, some (.lst ((m.hs.map Hd.nm).map D.str)), some (.ref μ.length), none, none, none]) (μ1 := μ ++ [.dK []]) rfl (ev_seq (ev_for (ds := m.bs.map Bx.toD) (μ1 := μ ++ [.dK []]) rfl l1) (ev_for (ds := enumD 0 (m.hs.map Hd.toD)) rfl l2)))))))
end
end K1
set_option maxHeartbeats 4000000
namespace K1
open PySem L2 Mi
section
variable {μ μ1 μ2 μ' : Mh} {n w : Nat} {l : Int} {d : D} {x y : Str} {τ τ1 τ2 : Sl}
theorem toPs_strs : ∀ xs : List Str, toPs μ (xs.map D.str) = some (xs.map PyData.str)
  | [] => rfl
  | x :: r => by
    rw [List.map_cons]; unfold toPs
    rw [toPs_strs r]; rfl
theorem lay_strs : ∀ {xs : List Str}, (∀ x ∈ xs, PyData.strOk x = true) → PyData.canLayAll0 (xs.map PyData.str) = true ∧ PyData.depthAll (xs.map PyData.str) = 0
  | [], _ => ⟨rfl, rfl⟩
  | x :: r, h => by
    obtain ⟨h1, h2⟩ := lay_strs (xs := r) fun y hy => h y (by simp [hy])
    refine ⟨?_, ?_⟩
    · rw [List.map_cons]; unfold PyData.canLayAll0
      rw [h1, Bool.and_true]; exact h x (by simp)
    · rw [List.map_cons]; unfold PyData.depthAll
      rw [h2]; rfl
theorem shaped_strs {xs : List Str} (h : ∀ x ∈ xs, PyData.strOk x = true) : SeqAt.shaped (.list (xs.map PyData.str)) = true := by
  obtain ⟨h1, h2⟩ := lay_strs h
  show (PyData.canLayAll0 (xs.map PyData.str) && decide (PyData.depthAll (xs.map PyData.str) + 1 ≤ 64)) = true
  rw [h1, h2]; rfl
theorem eqB_nil {neg : Bool} {xs : List Str} (h : ∀ x ∈ xs, PyData.strOk x = true) : pyEqB neg (.lst (xs.map D.str)) (.lst []) μ = some (.bl (if neg then !(PyData.eqv (.list (xs.map PyData.str)) (.list [])) else PyData.eqv (.list (xs.map PyData.str)) (.list [])), μ) := by
  have e1 : toP1 μ (.lst (xs.map D.str)) = some (.list (xs.map PyData.str)) := by
    show (toPs μ (xs.map D.str)).map PyData.list = _
    rw [toPs_strs]; rfl
  have e2 : toP1 μ (.lst []) = some (.list []) := rfl
  unfold pyEqB
  rw [e1, e2]
  show (if SeqAt.shaped (.list (xs.map PyData.str)) = true ∧ SeqAt.shaped (.list []) = true then _ else none) = _
  rw [if_pos ⟨shaped_strs h, rfl⟩]
theorem l_eqNil : pyEq (.lst []) (.lst []) μ = some (.bl true, μ) := eqB_nil (neg := false) (xs := []) (by simp)
theorem l_neNil : pyNe (.lst []) (.lst []) μ = some (.bl false, μ) := eqB_nil (neg := true) (xs := []) (by simp)
theorem l_eqCons {xs : List Str} (h : ∀ x ∈ xs, PyData.strOk x = true) (hn : xs ≠ []) : pyEq (.lst (xs.map D.str)) (.lst []) μ = some (.bl false, μ) := by
  cases xs with
  | nil => exact absurd rfl hn
  | cons x r => exact eqB_nil (neg := false) h
theorem l_neCons {xs : List Str} (h : ∀ x ∈ xs, PyData.strOk x = true) (hn : xs ≠ []) : pyNe (.lst (xs.map D.str)) (.lst []) μ = some (.bl true, μ) := by
  cases xs with
  | nil => exact absurd rfl hn
  | cons x r => exact eqB_nil (neg := true) h
theorem pick {α : Type} {f : α → D} {xs : List α} {i : Int} (h1 : 0 ≤ i) (h2 : i < xs.length) : ∃ a ∈ xs, atI (xs.map f) i = some (f a) := by
  obtain ⟨k, rfl⟩ := Int.eq_ofNat_of_zero_le h1
  have hk : k < xs.length := by omega
  refine ⟨xs[k], List.getElem_mem hk, ?_⟩
  unfold atI ixN
  rw [if_pos h1, if_pos (by rw [List.length_map]; exact h2)]
  show (xs.map f)[(k : Int).toNat]? = _
  simp [hk]
theorem Ex.cl {k : Nat} : ∀ e : Ex, Cl k e.toD
  | .num _ => by simp [Ex.toD, Cl, ClL]
  | .var _ => by simp [Ex.toD, Cl, ClL]
  | .neg e => by have := Ex.cl (k := k) e; simp [Ex.toD, Cl, ClL, this]
  | .pair _ a b => by have h1 := Ex.cl (k := k) a; have h2 := Ex.cl (k := k) b; simp [Ex.toD, Cl, ClL, h1, h2]
end
end K1
local macro_rules | `(tactic| wtm_at "own qleaf") => `(tactic| first
  | with_reducible assumption | (with_reducible apply K1.l_eqNil) | (with_reducible apply K1.l_neNil) | ((with_reducible apply K1.l_eqCons); (assumption); (assumption)) | ((with_reducible apply K1.l_neCons); (assumption); (assumption)) | ((with_reducible apply K1.l_minT); omega) | ((with_reducible apply K1.l_minF); omega) | ((with_reducible apply Mi.l_ixL); assumption))
namespace K1
open PySem L2 Mi
section
variable {μ μ1 μ2 μ' : Mh} {n w : Nat} {l : Int} {d : D} {x y : Str} {τ τ1 τ2 : Sl}
noncomputable abbrev leafB : Sl → M (Fl × Sl) := (sSeq (sIf (mOr (mTest (mOp pyEq (mSlot 1) (mDisp newL aNil))) (mTest (mOp pyEq (mDisp f__law_draw (aCons (mSlot 0) (aCons (mC (.int 2)) aNil))) (mC (.int 0))))) (sRet (mDisp newT (aCons (mC (.str "num")) (aCons (mDisp f__law_draw (aCons (mSlot 0) (aCons (mC (.int 10)) aNil))) aNil)))) sNil)
    (sRet (mDisp newT (aCons (mC (.str "var")) (aCons (mOp pyIx (mSlot 1) (mDisp f__law_draw (aCons (mSlot 0) (aCons (mDisp lenF (aCons (mSlot 1) aNil)) aNil)))) aNil)))))
theorem leaf_ok {k : Nat} {j r1 : Int} {ns : List Str} (hw : WellAt μ w) (hns : ∀ x ∈ ns, GoodName x) (hl : ns.length ≤ 1000) : ∃ (e : Ex) (μ' : Mh) (τ' : Sl), leafB [some (.ref w), some (.lst (ns.map D.str)), some (.int j), some (.int r1), none, none, none] μ = some ((.rt e.toD, τ'), μ') ∧ e.Ok (k + 1) ∧ (∀ x ∈ e.vars, x ∈ ns) ∧ Upd w μ μ' := by
  by_cases h0 : ns = []
  · subst h0
    obtain ⟨r2, μ2, d2, a2, b2, u2⟩ := v_draw (b := 10) hw (by decide) (by decide)
    refine ⟨.num r2, μ2, [some (.ref w), some (.lst []), some (.int j), some (.int r1), none, none, none], ?_, ⟨a2, by omega⟩, by simp [Ex.vars], u2⟩
    unfold Ex.toD
    show leafB [some (.ref w), some (.lst []), some (.int j), some (.int r1), none, none, none] μ = _
    wtm_at "own qev"
  · have hok : ∀ x ∈ ns, PyData.strOk x = true := fun x hx => (hns x hx).ok
    obtain ⟨r2, μ2, d2, a2, b2, u2⟩ := v_draw (b := 2) hw (by decide) (by decide)
    have w2 := u2.well hw.lt
    by_cases hr : r2 = 0
    · obtain ⟨r3, μ3, d3, a3, b3, u3⟩ := v_draw (b := 10) w2 (by decide) (by decide)
      refine ⟨.num r3, μ3, [some (.ref w), some (.lst (ns.map D.str)), some (.int j), some (.int r1), none, none, none], ?_, ⟨a3, by omega⟩, by simp [Ex.vars], u2.trans u3⟩
      unfold Ex.toD
      wtm_at "own qev"
    · have hp : 0 < ns.length := List.length_pos_iff.mpr h0
      obtain ⟨r3, μ3, d3, a3, b3, u3⟩ := v_draw (b := ((ns.map D.str).length : Nat)) w2 (by simp; omega) (by simp; omega)
      obtain ⟨x, hx, px⟩ := pick (f := D.str) (xs := ns) a3 (by simpa using b3)
      refine ⟨.var x, μ3, [some (.ref w), some (.lst (ns.map D.str)), some (.int j), some (.int r1), none, none, none], ?_, hns x hx, by simp [Ex.vars, hx], u2.trans u3⟩
      unfold Ex.toD
      wtm_at "own qev"
end
end K1
set_option maxHeartbeats 4000000
namespace K1
open PySem L2 Mi
section
variable {μ μ1 μ2 μ' : Mh} {n w : Nat} {l : Int} {d : D} {x y : Str} {τ τ1 τ2 : Sl}
theorem Upd.fin {N ps : Nat} {mb : Sl → M (Fl × Sl)} {ds : List D} (e : mb (startD N ds) μ = some ((.rt d, τ2), μ1)) (hl : ds.length = ps) (u : Upd w μ μ1) (c : Cl μ.length d) : callF .drop N ps mb ds μ = some (d, μ1) :=
  callF_upd (g := []) (by rw [List.append_nil]; exact e) hl u c
theorem words_at {i : Int} (h1 : 4 ≤ i) (h2 : i < 10) : ∃ x ∈ pairWords, atI [D.str "+", .str "-", .str "=", .str "<", .str "and", .str "or"] (i - 4) = some (.str x) :=
  pick (f := D.str) (xs := pairWords) (by omega) (by show i - 4 < 6; omega)
theorem v_expr {w : Nat} {ns : List Str} (hns : ∀ x ∈ ns, GoodName x) (hl : ns.length ≤ 1000) : ∀ (k n : Nat) (j : Int) (μ : Mh), j = k → 1 ≤ k → k ≤ n → WellAt μ w → ∃ (e : Ex) (μ' : Mh), f__law_expr n [.ref w, .lst (ns.map D.str), .int j] μ = some (e.toD, μ') ∧ e.Ok k ∧ (∀ x ∈ e.vars, x ∈ ns) ∧ Upd w μ μ'
  | 0, _, _, _, _, h, _, _ => by omega
  | _ + 1, 0, _, _, _, _, h, _ => by omega
  | k + 1, n + 1, j, μ, hj, _, hn, hw => by
    obtain ⟨r1, μ1, d1, a1, b1, u1⟩ := v_draw (b := 10) hw (by decide) (by decide)
    have w1 := u1.well hw.lt
    by_cases c : j = 1 ∨ r1 < 3
    · obtain ⟨e, μ', τ', q, ok, vs, u⟩ := leaf_ok (k := k) (j := j) (r1 := r1) w1 hns hl
      refine ⟨e, μ', ?_, ok, vs, u1.trans u⟩
      refine Upd.fin (τ2 := τ') ?_ rfl (u1.trans u) (Ex.cl e)
      have t : mOr (mTest (mOp pyEq (mSlot 2) (mC (.int 1)))) (mTest (mOp pyLt (mSlot 3) (mC (.int 3)))) [some (.ref w), some (.lst (ns.map D.str)), some (.int j), some (.int r1), none, none, none] μ1 = some (true, μ1) := by
        by_cases c1 : j = 1
        · wtm_at "own qev"
        · have c2 : r1 < 3 := by omega
          wtm_at "own qev"
      exact ev_seq (τ1 := [some (.ref w), some (.lst (ns.map D.str)), some (.int j), some (.int r1), none, none, none]) (μ1 := μ1) (ev_asg (ev_disp (ds := [.ref w, .int 10]) (μ1 := μ) rfl d1) rfl) (ev_seqR (ev_ifT t q))
    · have c1 : j ≠ 1 := by omega
      have c2 : 3 ≤ r1 := by omega
      by_cases c3 : r1 = 3
      · obtain ⟨e, μ', q, ok, vs, u⟩ := v_expr hns hl k n (j - 1) μ1 (by omega) (by omega) (by omega) w1
        refine ⟨.neg e, μ', ?_, ok, vs, u1.trans u⟩
        refine Upd.fin (τ2 := [some (.ref w), some (.lst (ns.map D.str)), some (.int j), some (.int r1), none, none, none]) ?_ rfl (u1.trans u) (Ex.cl (.neg e))
        unfold Ex.toD
        refine ev_seq (τ1 := [some (.ref w), some (.lst (ns.map D.str)), some (.int j), some (.int r1), none, none, none]) (μ1 := μ1) (ev_asg (ev_disp (ds := [.ref w, .int 10]) (μ1 := μ) rfl d1) rfl) ?_
        wtm_at "own qev"
      · have c4 : 4 ≤ r1 := by omega
        obtain ⟨wd, hwd, pw⟩ := words_at c4 b1
        obtain ⟨a, μ2, q2, ok2, vs2, u2⟩ := v_expr hns hl k n (j - 1) μ1 (by omega) (by omega) (by omega) w1
        have w2 := u2.well w1.lt
        obtain ⟨b, μ3, q3, ok3, vs3, u3, kb, j2, m2⟩ : ∃ (b : Ex) (μ3 : Mh), f__law_expr n [.ref w, .lst (ns.map D.str), .int (if 2 < j - 1 then 2 else j - 1)] μ2 = some (b.toD, μ3) ∧ b.Ok k ∧ (∀ x ∈ b.vars, x ∈ ns) ∧ Upd w μ2 μ3 ∧ True ∧ True ∧ True := by
          by_cases z : 2 < j - 1
          · obtain ⟨b, μ3, q3, ok3, vs3, u3⟩ := v_expr hns hl (min k 2) n 2 μ2 (by omega) (by omega) (by omega) w2
            exact ⟨b, μ3, by rw [if_pos z]; exact q3, ok3.mono (by omega), vs3, u3, trivial, trivial, trivial⟩
          · obtain ⟨b, μ3, q3, ok3, vs3, u3⟩ := v_expr hns hl k n (j - 1) μ2 (by omega) (by omega) (by omega) w2
            exact ⟨b, μ3, by rw [if_neg z]; exact q3, ok3, vs3, u3, trivial, trivial, trivial⟩
        have w3 := u3.well w2.lt
        obtain ⟨r4, μ4, d4, a4, b4, u4⟩ := v_draw (b := 2) w3 (by decide) (by decide)
        have U := u1.trans (u2.trans (u3.trans u4))
        have mn : minF [.int (j - 1), .int 2] μ2 = some (.int (if 2 < j - 1 then 2 else j - 1), μ2) := rfl
        have fin : ∀ (e : Ex), atI [D.tup [.str wd, a.toD, b.toD], .tup [.str wd, b.toD, a.toD]] r4 = some e.toD → f__law_expr (n + 1) [.ref w, .lst (ns.map D.str), .int j] μ = some (e.toD, μ4) := by
          intro e he
          refine Upd.fin (τ2 := [some (.ref w), some (.lst (ns.map D.str)), some (.int j), some (.int r1), some (.str wd), some a.toD, some b.toD]) ?_ rfl U (Ex.cl e)
          refine ev_seq (τ1 := [some (.ref w), some (.lst (ns.map D.str)), some (.int j), some (.int r1), none, none, none]) (μ1 := μ1) (ev_asg (ev_disp (ds := [.ref w, .int 10]) (μ1 := μ) rfl d1) rfl) ?_
          refine ev_seq (τ1 := [some (.ref w), some (.lst (ns.map D.str)), some (.int j), some (.int r1), none, none, none]) (μ1 := μ1) (by wtm_at "own qev") ?_
          refine ev_seq (τ1 := [some (.ref w), some (.lst (ns.map D.str)), some (.int j), some (.int r1), none, none, none]) (μ1 := μ1) (by wtm_at "own qev") ?_
          refine ev_seq (τ1 := [some (.ref w), some (.lst (ns.map D.str)), some (.int j), some (.int r1), some (.str wd), none, none]) (μ1 := μ1) (ev_asg (d := .str wd) (μ1 := μ1) (by wtm_at "own qev") rfl) ?_
          refine ev_seq (τ1 := [some (.ref w), some (.lst (ns.map D.str)), some (.int j), some (.int r1), some (.str wd), some a.toD, none]) (μ1 := μ2) (ev_asg (d := a.toD) (μ1 := μ2) (by wtm_at "own qev") rfl) ?_
          refine ev_seq (τ1 := [some (.ref w), some (.lst (ns.map D.str)), some (.int j), some (.int r1), some (.str wd), some a.toD, some b.toD]) (μ1 := μ3) (ev_asg (d := b.toD) (μ1 := μ3) (ev_disp (ds := [.ref w, .lst (ns.map D.str), .int (if 2 < j - 1 then 2 else j - 1)]) (μ1 := μ2) rfl q3) rfl) ?_
          wtm_at "own qev"
        by_cases z : r4 = 0
        · refine ⟨.pair wd a b, μ4, fin _ (by subst z; rfl), ⟨hwd, ok2, ok3⟩, fun x hx => ?_, U⟩
          rcases List.mem_append.mp (show x ∈ a.vars ++ b.vars from hx) with q | q
          · exact vs2 x q
          · exact vs3 x q
        · have z1 : r4 = 1 := by omega
          refine ⟨.pair wd b a, μ4, fin _ (by subst z1; rfl), ⟨hwd, ok3, ok2⟩, fun x hx => ?_, U⟩
          rcases List.mem_append.mp (show x ∈ b.vars ++ a.vars from hx) with q | q
          · exact vs3 x q
          · exact vs2 x q
end
end K1
set_option maxHeartbeats 4000000
namespace K1
open PySem L2 Mi
noncomputable def seen (ns : List Str) (wr : Bool) : List Str := ns ++ (if wr then (["v"] : List Str) else [])
noncomputable def Rw.From (own bxs ns : List Str) : Rw → Prop
  | .put bx _ => bx ∈ own
  | .get x bx => x ∈ ns ∧ bx ∈ bxs
  | .letr x _ => x ∈ ns
  | _ => True
structure Rw.Drawn (own bxs ns : List Str) (wr : Bool) (l : Int) (r : Rw) : Prop where
  form : r.Form l
  ends : r.EndOk wr
  vars : ∀ x ∈ r.vars, x ∈ seen ns wr
  frm : r.From own bxs ns
section
variable {μ μ1 μ2 μ' : Mh} {n w : Nat} {l : Int} {d : D} {x y : Str} {τ τ1 τ2 : Sl}
theorem Rw.cl {k : Nat} (r : Rw) : Cl k r.toD := by
  cases r with
  | put bx e => have := Ex.cl (k := k) e; simp [Rw.toD, Cl, ClL, this]
  | letr bx e => have := Ex.cl (k := k) e; simp [Rw.toD, Cl, ClL, this]
  | «unless» e t => have := Ex.cl (k := k) e; simp [Rw.toD, Cl, ClL, this]
  | tell e => have := Ex.cl (k := k) e; simp [Rw.toD, Cl, ClL, this]
  | _ => simp [Rw.toD, Cl, ClL]
theorem deep_at {i : Int} (h1 : 0 ≤ i) (h2 : i < 4) : ∃ k : Int, 1 ≤ k ∧ k ≤ 5 ∧ atI [D.int 1, .int 2, .int 3, .int 5] i = some (.int k) := by
  obtain ⟨k, hk, e⟩ := pick (f := D.int) (xs := [1, 2, 3, 5]) h1 (by show i < 4; exact h2)
  simp at hk
  exact ⟨k, by omega, by omega, e⟩
theorem seen_eq {ns : List Str} {wr : Bool} (hl : ns.length ≤ 1000) {τ : Sl} (h3 : τ[3]? = some (some (.lst (ns.map D.str)))) (h5 : τ[5]? = some (some (.bl wr))) : mOp pyAdd (mSlot 3) (mOp pyMul (mDisp newL (aCons (mC (.str "v")) aNil)) (mDisp intF (aCons (mSlot 5) aNil))) τ μ = some (.lst ((seen ns wr).map D.str), μ) := by
  have hz : sizeLine = 16777216 := by decide
  have s3 : mSlot 3 τ μ = some (.lst (ns.map D.str), μ) := ev_slot h3
  have s5 : mSlot 5 τ μ = some (.bl wr, μ) := ev_slot h5
  cases wr with
  | true =>
    have m : pyMul (.lst [.str "v"]) (.int 1) μ = some (.lst [.str "v"], μ) := rfl
    have a : pyAdd (.lst (ns.map D.str)) (.lst [.str "v"]) μ = some (.lst (ns.map D.str ++ [.str "v"]), μ) := newL_eq (by simp; omega)
    have e : (seen ns true).map D.str = ns.map D.str ++ [.str "v"] := by simp [seen]
    rw [e]
    exact ev_op s3 (ev_op (x := .lst [.str "v"]) (y := .int 1) (μ1 := μ) (μ2 := μ) rfl (ev_disp (ds := [.bl true]) (μ1 := μ) (ev_consA s5 rfl) rfl) m) a
  | false =>
    have m : pyMul (.lst [.str "v"]) (.int 0) μ = some (.lst [], μ) := rfl
    have a : pyAdd (.lst (ns.map D.str)) (.lst []) μ = some (.lst (ns.map D.str ++ []), μ) := newL_eq (by simp; omega)
    have e : (seen ns false).map D.str = ns.map D.str ++ [] := by simp [seen]
    rw [e]
    exact ev_op s3 (ev_op (x := .lst [.str "v"]) (y := .int 0) (μ1 := μ) (μ2 := μ) rfl (ev_disp (ds := [.bl false]) (μ1 := μ) (ev_consA s5 rfl) rfl) m) a
theorem v_row {w : Nat} {own bxs ns : List Str} {many : Int} {wr : Bool} (hw : WellAt μ w) (hm : 0 ≤ many) (hm2 : many ≤ 60) (ho : ∀ x ∈ own, GoodName x) (hb : ∀ x ∈ bxs, GoodName x) (hn : ∀ x ∈ ns, GoodName x) (hne : ns ≠ []) (lo : own.length ≤ 100) (lb : bxs.length ≤ 100) (ln : ns.length ≤ 100) :
    ∃ (r : Rw) (μ' : Mh), f__law_row [.ref w, .lst (own.map D.str), .lst (bxs.map D.str), .lst (ns.map D.str), .int many, .bl wr] μ = some (r.toD, μ') ∧ r.Drawn own bxs ns wr many ∧ Upd w μ μ' := by
  obtain ⟨r1, μ1, d1, a1, b1, u1⟩ := v_draw (b := 8) hw (by decide) (by decide)
  have w1 := u1.well hw.lt
  obtain ⟨r2, μ2, d2, a2, b2, u2⟩ := v_draw (b := 4) w1 (by decide) (by decide)
  have w2 := u2.well w1.lt
  obtain ⟨k0, k1, k2, ka⟩ := deep_at a2 b2
  have ho' : ∀ x ∈ own, PyData.strOk x = true := fun x hx => (ho x hx).ok
  have hb' : ∀ x ∈ bxs, PyData.strOk x = true := fun x hx => (hb x hx).ok
  have hs : ∀ x ∈ seen ns wr, GoodName x := by
    intro x hx
    rcases List.mem_append.mp (show x ∈ ns ++ (if wr then (["v"] : List Str) else []) from hx) with z | z
    · exact hn x z
    · cases wr with
      | true =>
        simp at z; subst z
        exact ⟨by decide +kernel, by decide +kernel, by unfold Letters; decide +kernel⟩
      | false => simp at z
  have hsl : (seen ns wr).length ≤ 1000 := by
    unfold seen; rw [List.length_append]; cases wr <;> simp <;> omega
  obtain ⟨k, k3, k4, kd⟩ : ∃ k : Int, 1 ≤ k ∧ k ≤ 5 ∧ sIf (mTest (mOp pyGt (mSlot 4) (mC (.int 9)))) (sAsg (mDisp minF (aCons (mSlot 7) (aCons (mC (.int 2)) aNil))) (bName 7)) sNil [some (.ref w), some (.lst (own.map D.str)), some (.lst (bxs.map D.str)), some (.lst (ns.map D.str)), some (.int many), some (.bl wr), some (.int r1), some (.int k0), none] μ2 = some ((.next, [some (.ref w), some (.lst (own.map D.str)), some (.lst (bxs.map D.str)), some (.lst (ns.map D.str)), some (.int many), some (.bl wr), some (.int r1), some (.int k), none]), μ2) := by
    by_cases c : 9 < many
    · refine ⟨if 2 < k0 then 2 else k0, by split <;> omega, by split <;> omega, ?_⟩
      exact ev_ifT (μ1 := μ2) (by wtm_at "own qev") (ev_asg (d := .int (if 2 < k0 then 2 else k0)) (μ1 := μ2) (ev_disp (ds := [.int k0, .int 2]) (μ1 := μ2) rfl rfl) rfl)
    · refine ⟨k0, k1, k2, ?_⟩
      wtm_at "own qev"
  have kn : ((k.toNat : Nat) : Int) = k := by omega
  have X : ∀ ν : Mh, WellAt ν w → ∃ (e : Ex) (μ' : Mh), f__law_expr 6 [.ref w, .lst ((seen ns wr).map D.str), .int k] ν = some (e.toD, μ') ∧ e.Ok 5 ∧ (∀ x ∈ e.vars, x ∈ seen ns wr) ∧ Upd w ν μ' := by
    intro ν hν
    obtain ⟨e, μ', q, ok, vs, u⟩ := v_expr hs hsl k.toNat 6 k ν kn.symm (by omega) (by omega) hν
    exact ⟨e, μ', q, ok.mono (by omega), vs, u⟩
  have P : ∀ (r : Rw) (μ' : Mh) (τ' : Sl), Upd w μ2 μ' →
      (sSeq (sIf (mAnd (mTest (mOp pyLt (mSlot 6) (mC (.int 2)))) (mTest (mOp pyNe (mSlot 1) (mDisp newL aNil)))) (sRet (mDisp newT (aCons (mC (.str "put")) (aCons (mOp pyIx (mSlot 1) (mDisp f__law_draw (aCons (mSlot 0) (aCons (mDisp lenF (aCons (mSlot 1) aNil)) aNil)))) (aCons (mDisp (f__law_expr 6) (aCons (mSlot 0) (aCons (mSlot 8) (aCons (mSlot 7) aNil)))) aNil))))) sNil)
    (sSeq (sIf (mAnd (mTest (mOp pyLt (mSlot 6) (mC (.int 4)))) (mTest (mOp pyNe (mSlot 2) (mDisp newL aNil)))) (sRet (mDisp newT (aCons (mC (.str "get")) (aCons (mOp pyIx (mSlot 3) (mDisp f__law_draw (aCons (mSlot 0) (aCons (mDisp lenF (aCons (mSlot 3) aNil)) aNil)))) (aCons (mOp pyIx (mSlot 2) (mDisp f__law_draw (aCons (mSlot 0) (aCons (mDisp lenF (aCons (mSlot 2) aNil)) aNil)))) aNil))))) sNil)
    (sSeq (sIf (mTest (mOp pyLt (mSlot 6) (mC (.int 5)))) (sRet (mDisp newT (aCons (mC (.str "let")) (aCons (mOp pyIx (mSlot 3) (mDisp f__law_draw (aCons (mSlot 0) (aCons (mDisp lenF (aCons (mSlot 3) aNil)) aNil)))) (aCons (mDisp (f__law_expr 6) (aCons (mSlot 0) (aCons (mSlot 8) (aCons (mSlot 7) aNil)))) aNil))))) sNil)
    (sSeq (sIf (mTest (mOp pyEq (mSlot 6) (mC (.int 5)))) (sRet (mDisp newT (aCons (mC (.str "unless")) (aCons (mDisp (f__law_expr 6) (aCons (mSlot 0) (aCons (mSlot 8) (aCons (mSlot 7) aNil)))) (aCons (mDisp f__law_draw (aCons (mSlot 0) (aCons (mOp pyAdd (mSlot 4) (mC (.int 1))) aNil))) aNil))))) sNil)
    (sSeq (sIf (mTest (mOp pyEq (mSlot 6) (mC (.int 6)))) (sRet (mDisp newT (aCons (mC (.str "jump")) (aCons (mDisp f__law_draw (aCons (mSlot 0) (aCons (mOp pyAdd (mSlot 4) (mC (.int 1))) aNil))) aNil)))) sNil)
    (sRet (mOp pyIx (mDisp newL (aCons (mDisp newT (aCons (mC (.str "tell")) (aCons (mDisp (f__law_expr 6) (aCons (mSlot 0) (aCons (mSlot 8) (aCons (mSlot 7) aNil)))) aNil))) (aCons (mDisp newT (aCons (mC (.str "done")) aNil)) aNil))) (mDisp intF (aCons (mSlot 5) aNil))))))))) [some (.ref w), some (.lst (own.map D.str)), some (.lst (bxs.map D.str)), some (.lst (ns.map D.str)), some (.int many), some (.bl wr), some (.int r1), some (.int k), some (.lst ((seen ns wr).map D.str))] μ2 = some ((.rt r.toD, τ'), μ') →
      f__law_row [.ref w, .lst (own.map D.str), .lst (bxs.map D.str), .lst (ns.map D.str), .int many, .bl wr] μ = some (r.toD, μ') := by
    intro r μ' τ' u q
    refine Upd.fin (τ2 := τ') ?_ rfl (u1.trans (u2.trans u)) (Rw.cl r)
    refine ev_seq (τ1 := [some (.ref w), some (.lst (own.map D.str)), some (.lst (bxs.map D.str)), some (.lst (ns.map D.str)), some (.int many), some (.bl wr), some (.int r1), none, none]) (μ1 := μ1) (ev_asg (ev_disp (ds := [.ref w, .int 8]) (μ1 := μ) rfl d1) rfl) ?_
    refine ev_seq (τ1 := [some (.ref w), some (.lst (own.map D.str)), some (.lst (bxs.map D.str)), some (.lst (ns.map D.str)), some (.int many), some (.bl wr), some (.int r1), some (.int k0), none]) (μ1 := μ2) (ev_asg (d := .int k0) (μ1 := μ2) (by wtm_at "own qev") rfl) ?_
    refine ev_seq kd ?_
    exact ev_seq (ev_asg (seen_eq (by omega) rfl rfl) rfl) q
  have hlen : ∀ xs : List Str, xs.length ≤ 100 → xs ≠ [] → (0 : Int) < ((xs.map D.str).length : Nat) ∧ (((xs.map D.str).length : Nat) : Int) < 1073741824 := by
    intro xs h1 h2
    have := List.length_pos_iff.mpr h2
    simp; omega
  by_cases cA : r1 < 2 ∧ own ≠ []
  · obtain ⟨cA1, cA2⟩ := cA
    obtain ⟨p1, p2⟩ := hlen own lo cA2
    obtain ⟨r3, μ3, d3, a3, b3, u3⟩ := v_draw w2 p1 p2
    obtain ⟨bx, hbx, px⟩ := pick (f := D.str) (xs := own) a3 (by simpa using b3)
    obtain ⟨e, μ4, q4, ok, vs, u4⟩ := X μ3 (u3.well w2.lt)
    refine ⟨.put bx e, μ4, P _ μ4 _ (u3.trans u4) (ev_seqR (ev_ifT (ev_andT (ev_test (ev_op (x := .int r1) (μ1 := μ2) rfl ev_c (l_lt cA1))) (ev_test (ev_op (x := .lst (own.map D.str)) (μ1 := μ2) rfl (ev_disp (ds := []) (μ1 := μ2) rfl (newL_eq (by decide))) (l_neCons ho' cA2)))) (ev_ret (ev_disp (ds := [.str "put", .str bx, e.toD]) (μ1 := μ4) (ev_consA (μ1 := μ2) ev_c (ev_consA (μ1 := μ3) (ev_op (x := .lst (own.map D.str)) (y := .int r3) (μ1 := μ2) (μ2 := μ3) rfl (ev_disp (ds := [.ref w, .int ((own.map D.str).length : Nat)]) (μ1 := μ2) rfl d3) (l_ixL px)) (ev_consA (μ1 := μ4) (ev_disp (ds := [.ref w, .lst ((seen ns wr).map D.str), .int k]) (μ1 := μ3) rfl q4) rfl))) (newT_eq (show 3 ≤ sizeLine by decide)))))), ⟨⟨ho bx hbx, ok⟩, trivial, vs, hbx⟩, u1.trans (u2.trans (u3.trans u4))⟩
  have tA : ∀ {τ : Sl}, τ[1]? = some (some (.lst (own.map D.str))) → τ[6]? = some (some (.int r1)) → mAnd (mTest (mOp pyLt (mSlot 6) (mC (.int 2)))) (mTest (mOp pyNe (mSlot 1) (mDisp newL aNil))) τ μ2 = some (false, μ2) := by
    intro τ h1 h6
    have s1 : mSlot 1 τ μ2 = some (.lst (own.map D.str), μ2) := ev_slot h1
    have s6 : mSlot 6 τ μ2 = some (.int r1, μ2) := ev_slot h6
    by_cases c : r1 < 2
    · have c0 : own = [] := by rcases Classical.em (own = []) with z | z; exact z; exact absurd ⟨c, z⟩ cA
      subst c0
      exact ev_andT (ev_test (ev_op s6 ev_c (l_lt c))) (ev_test (ev_op s1 (ev_disp (ds := []) (μ1 := μ2) rfl (newL_eq (by decide))) l_neNil))
    · exact ev_andF (ev_test (ev_op s6 ev_c (l_ltF (by omega))))
  have tA' := tA (τ := [some (.ref w), some (.lst (own.map D.str)), some (.lst (bxs.map D.str)), some (.lst (ns.map D.str)), some (.int many), some (.bl wr), some (.int r1), some (.int k), some (.lst ((seen ns wr).map D.str))]) rfl rfl
  by_cases cB : r1 < 4 ∧ bxs ≠ []
  · obtain ⟨cB1, cB2⟩ := cB
    obtain ⟨p1, p2⟩ := hlen ns ln hne
    obtain ⟨r3, μ3, d3, a3, b3, u3⟩ := v_draw w2 p1 p2
    obtain ⟨x, hx, px⟩ := pick (f := D.str) (xs := ns) a3 (by simpa using b3)
    have w3 := u3.well w2.lt
    obtain ⟨p3, p4⟩ := hlen bxs lb cB2
    obtain ⟨r4, μ4, d4, a4, b4, u4⟩ := v_draw w3 p3 p4
    obtain ⟨bx, hbx, pb⟩ := pick (f := D.str) (xs := bxs) a4 (by simpa using b4)
    refine ⟨.get x bx, μ4, P _ μ4 _ (u3.trans u4) (ev_seq (ev_ifF tA' rfl) (ev_seqR (ev_ifT (ev_andT (ev_test (ev_op (x := .int r1) (μ1 := μ2) rfl ev_c (l_lt cB1))) (ev_test (ev_op (x := .lst (bxs.map D.str)) (μ1 := μ2) rfl (ev_disp (ds := []) (μ1 := μ2) rfl (newL_eq (by decide))) (l_neCons hb' cB2)))) (ev_ret (ev_disp (ds := [.str "get", .str x, .str bx]) (μ1 := μ4) (ev_consA (μ1 := μ2) ev_c (ev_consA (μ1 := μ3) (ev_op (x := .lst (ns.map D.str)) (y := .int r3) (μ1 := μ2) (μ2 := μ3) rfl (ev_disp (ds := [.ref w, .int ((ns.map D.str).length : Nat)]) (μ1 := μ2) rfl d3) (l_ixL px)) (ev_consA (μ1 := μ4) (ev_op (x := .lst (bxs.map D.str)) (y := .int r4) (μ1 := μ3) (μ2 := μ4) rfl (ev_disp (ds := [.ref w, .int ((bxs.map D.str).length : Nat)]) (μ1 := μ3) rfl d4) (l_ixL pb)) rfl))) (newT_eq (show 3 ≤ sizeLine by decide))))))), ⟨⟨hn x hx, hb bx hbx⟩, trivial, ?_, hx, hbx⟩, u1.trans (u2.trans (u3.trans u4))⟩
    intro y hy
    have : y = x := by simpa [Rw.vars] using hy
    subst this
    exact List.mem_append_left _ hx
  have tB' : mAnd (mTest (mOp pyLt (mSlot 6) (mC (.int 4)))) (mTest (mOp pyNe (mSlot 2) (mDisp newL aNil))) [some (.ref w), some (.lst (own.map D.str)), some (.lst (bxs.map D.str)), some (.lst (ns.map D.str)), some (.int many), some (.bl wr), some (.int r1), some (.int k), some (.lst ((seen ns wr).map D.str))] μ2 = some (false, μ2) := by
    by_cases c : r1 < 4
    · have c0 : bxs = [] := by rcases Classical.em (bxs = []) with z | z; exact z; exact absurd ⟨c, z⟩ cB
      subst c0
      exact ev_andT (ev_test (ev_op (x := .int r1) (μ1 := μ2) rfl ev_c (l_lt c))) (ev_test (ev_op (x := .lst []) (μ1 := μ2) rfl (ev_disp (ds := []) (μ1 := μ2) rfl (newL_eq (by decide))) l_neNil))
    · exact ev_andF (ev_test (ev_op (x := .int r1) (μ1 := μ2) rfl ev_c (l_ltF (by omega))))
  by_cases cC : r1 < 5
  · obtain ⟨p1, p2⟩ := hlen ns ln hne
    obtain ⟨r3, μ3, d3, a3, b3, u3⟩ := v_draw w2 p1 p2
    obtain ⟨x, hx, px⟩ := pick (f := D.str) (xs := ns) a3 (by simpa using b3)
    obtain ⟨e, μ4, q4, ok, vs, u4⟩ := X μ3 (u3.well w2.lt)
    refine ⟨.letr x e, μ4, P _ μ4 _ (u3.trans u4) (ev_seq (ev_ifF tA' rfl) (ev_seq (ev_ifF tB' rfl) (ev_seqR (ev_ifT (ev_test (ev_op (x := .int r1) (μ1 := μ2) rfl ev_c (l_lt cC))) (ev_ret (ev_disp (ds := [.str "let", .str x, e.toD]) (μ1 := μ4) (ev_consA (μ1 := μ2) ev_c (ev_consA (μ1 := μ3) (ev_op (x := .lst (ns.map D.str)) (y := .int r3) (μ1 := μ2) (μ2 := μ3) rfl (ev_disp (ds := [.ref w, .int ((ns.map D.str).length : Nat)]) (μ1 := μ2) rfl d3) (l_ixL px)) (ev_consA (μ1 := μ4) (ev_disp (ds := [.ref w, .lst ((seen ns wr).map D.str), .int k]) (μ1 := μ3) rfl q4) rfl))) (newT_eq (show 3 ≤ sizeLine by decide)))))))), ⟨⟨hn x hx, ok⟩, trivial, ?_, hx⟩, u1.trans (u2.trans (u3.trans u4))⟩
    intro y hy
    rcases List.mem_cons.mp (show y ∈ x :: e.vars from hy) with z | z
    · subst z; exact List.mem_append_left _ hx
    · exact vs y z
  by_cases cD : r1 = 5
  · obtain ⟨e, μ3, q3, ok, vs, u3⟩ := X μ2 w2
    obtain ⟨r4, μ4, d4, a4, b4, u4⟩ := v_draw (b := many + 1) (u3.well w2.lt) (by omega) (by omega)
    have cC' : 5 ≤ r1 := by omega
    exact ⟨.unless e r4, μ4, P _ μ4 _ (u3.trans u4) (by simp only [Rw.toD]; exact ev_seq (ev_ifF tA' rfl) (ev_seq (ev_ifF tB' rfl) (by wtm_at "own qev"))), ⟨⟨ok, a4, by omega⟩, trivial, vs, trivial⟩, u1.trans (u2.trans (u3.trans u4))⟩
  by_cases cE : r1 = 6
  · obtain ⟨r4, μ4, d4, a4, b4, u4⟩ := v_draw (b := many + 1) w2 (by omega) (by omega)
    have cC' : 5 ≤ r1 := by omega
    exact ⟨.jump r4, μ4, P _ μ4 _ u4 (by simp only [Rw.toD]; exact ev_seq (ev_ifF tA' rfl) (ev_seq (ev_ifF tB' rfl) (by wtm_at "own qev"))), ⟨⟨a4, by omega⟩, trivial, by simp [Rw.vars], trivial⟩, u1.trans (u2.trans u4)⟩
  · obtain ⟨e, μ3, q3, ok, vs, u3⟩ := X μ2 w2
    have cC' : 5 ≤ r1 := by omega
    cases wr with
    | true =>
      have ii : intF [.bl true] μ3 = some (.int 1, μ3) := rfl
      exact ⟨.done, μ3, P _ μ3 _ u3 (by simp only [Rw.toD]; exact ev_seq (ev_ifF tA' rfl) (ev_seq (ev_ifF tB' rfl) (by wtm_at "own qev"))), ⟨trivial, rfl, by simp [Rw.vars], trivial⟩, u1.trans (u2.trans u3)⟩
    | false =>
      have ii : intF [.bl false] μ3 = some (.int 0, μ3) := rfl
      exact ⟨.tell e, μ3, P _ μ3 _ u3 (by simp only [Rw.toD]; exact ev_seq (ev_ifF tA' rfl) (ev_seq (ev_ifF tB' rfl) (by wtm_at "own qev"))), ⟨ok, rfl, vs, trivial⟩, u1.trans (u2.trans u3)⟩
end
end K1
set_option maxHeartbeats 4000000
namespace K1
open PySem L2 Mi
section
variable {μ μ1 μ2 μ' g : Mh} {n w : Nat} {l : Int} {d : D} {x y : Str} {τ τ1 τ2 : Sl}
theorem WellAt.app (h : WellAt μ w) : WellAt (μ ++ g) w := by
  have hl := h.lt
  obtain ⟨a, m, c, h, ha⟩ := h
  exact ⟨a, m, c, by rw [List.getElem?_append_left hl]; exact h, ha⟩
theorem v_drawG {b : Int} (hw : WellAt μ w) (hb : 0 < b) (hb2 : b < 1073741824) : ∃ r μ', f__law_draw [.ref w, .int b] (μ ++ g) = some (.int r, μ' ++ g) ∧ 0 ≤ r ∧ r < b ∧ Upd w μ μ' := by
  obtain ⟨r, ν, e, h1, h2, u⟩ := v_draw (hw.app (g := g)) hb hb2
  obtain ⟨μ', u', rfl⟩ := u.app hw.lt
  exact ⟨r, μ', e, h1, h2, u'⟩
theorem v_cell : ∀ ns : List Int, ∃ c : Int, f__law_cell_at [.scr ns, .int 0] μ = some (.int c, μ)
  | [] => by
    have l : lenF [.scr []] μ = some (.int 0, μ) := rfl
    exact ⟨0, callF_pure (g := []) (τ2 := _) (by rw [List.append_nil]; unfold m__law_cell_at; wtm_at "own qev") rfl (by unfold Cl; trivial)⟩
  | c :: ns => by
    have l : lenF [.scr (c :: ns)] μ = some (.int ((((c :: ns).map D.int).length : Nat) : Int), μ) := rfl
    have h0 : (0 : Int) < ((((c :: ns).map D.int).length : Nat) : Int) := by simp
    have i : pyIx (.scr (c :: ns)) (.int 0) μ = some (.int c, μ) := by
      show bnd (asSeq1 (.scr (c :: ns))) (fun ds => ixD ds 0) μ = _
      rw [bnd_of (show asSeq1 (.scr (c :: ns)) μ = some ((c :: ns).map D.int, μ) from rfl)]
      unfold ixD
      rw [show atI ((c :: ns).map D.int) 0 = some (.int c) from by
        unfold atI ixN; rw [if_pos (by decide), if_pos h0]; rfl]
      rfl
    exact ⟨c, callF_pure (g := []) (τ2 := _) (by rw [List.append_nil]; unfold m__law_cell_at; wtm_at "own qev") rfl (by unfold Cl; trivial)⟩
theorem l_pow : pyPow (.int 10) (.int 9) μ = some (.int 1000000000, μ) := by
  show (if (0 : Int) ≤ 9 ∧ (9 : Int) ≤ 1000000 ∧ (10 : Int).natAbs < 2 ^ 64 then some (D.int ((10 : Int) ^ (9 : Int).toNat), μ) else none) = _
  rw [if_pos (by decide)]; rfl
theorem v_well {c : Int} : ∃ a m : Int, 0 ≤ a ∧ f__law_well [.int c] μ = some (.ref μ.length, μ ++ [.lst [.int a, .int m, .int 0]]) := by
  refine ⟨if c - 1000000000 > 0 then c - 1000000000 else 0, c % 2147483647, by split <;> omega, ?_⟩
  have p := l_pow (μ := μ)
  have mx : maxF [.int 0, .int (c - 1000000000)] μ = some (.int (if c - 1000000000 > 0 then c - 1000000000 else 0), μ) := rfl
  have e : m__law_well (startD 1 [.int c]) μ = some ((.rt (.ref μ.length), startD 1 [.int c]), μ ++ [.lst [.int (if c - 1000000000 > 0 then c - 1000000000 else 0), .int (c % 2147483647), .int 0]]) := by
    unfold m__law_well; wtm_at "own qev"
  exact callF_eq (hw := .all) e rfl (.inr ⟨_, rfl⟩) ⟨⟨[], by simp [outM]⟩, by simp [outM], fun j o q => by
    have q : (μ ++ [MO.lst [.int (if c - 1000000000 > 0 then c - 1000000000 else 0), .int (c % 2147483647), .int 0]])[j]? = some o := q
    by_cases hj : j < μ.length
    · left; rw [List.getElem?_append_left hj] at q; exact q
    · right
      rw [List.getElem?_append_right (by omega)] at q
      have : j - μ.length = 0 := by
        have := (List.getElem?_eq_some_iff.mp q).1
        simp at this; omega
      rw [this] at q
      cases q
      exact clInts, .inl ⟨rfl, by show Cl _ (D.ref μ.length); unfold Cl; simp [outM]⟩⟩
theorem letters_at : ∀ k : Fin 26, (match (Str.cps "abcdefghijklmnopqrstuvwxyz").toList[k.val]? with | some c => decide (97 ≤ c ∧ c < 123) | none => false) = true := by decide +kernel
theorem abc_len : (Str.cps "abcdefghijklmnopqrstuvwxyz").toList.length = 26 := by decide +kernel
theorem abc_small : Str.length "abcdefghijklmnopqrstuvwxyz" ≤ sizeLine := by decide +kernel
theorem letter_at {r : Int} (h1 : 0 ≤ r) (h2 : r < 26) : ∃ c, 97 ≤ c ∧ c < 123 ∧ ∀ μ : Mh, pyIx (.str "abcdefghijklmnopqrstuvwxyz") (.int r) μ = some (.str ⟨#[c]⟩, μ) := by
  obtain ⟨k, rfl⟩ := Int.eq_ofNat_of_zero_le h1
  have hk : k < 26 := by omega
  have q := letters_at ⟨k, hk⟩
  dsimp only at q
  cases hc : (Str.cps "abcdefghijklmnopqrstuvwxyz").toList[k]? with
  | none => rw [hc] at q; cases q
  | some c =>
    rw [hc] at q
    have q := of_decide_eq_true q
    refine ⟨c, q.1, q.2, fun μ => ?_⟩
    show (if Str.length "abcdefghijklmnopqrstuvwxyz" ≤ sizeLine then (atI (Str.cps "abcdefghijklmnopqrstuvwxyz").toList (k : Int)).map (fun c => (D.str ⟨#[c]⟩, μ)) else none) = _
    rw [if_pos abc_small]
    have : atI (Str.cps "abcdefghijklmnopqrstuvwxyz").toList (k : Int) = some c := by
      unfold atI ixN
      rw [if_pos h1, if_pos (by rw [abc_len]; exact h2)]
      exact hc
    rw [this]; rfl
theorem name_loop {os : D} : ∀ (ds : List D) (s : Str) (o : Option D) (μ : Mh), WellAt μ w → Letters s → s.length + ds.length ≤ 8 → ∃ s' o' μ', forGo (bName 3) (sAsg (mOp pyAdd (mSlot 2) (mOp pyIx (mC (.str "abcdefghijklmnopqrstuvwxyz")) (mDisp f__law_draw (aCons (mSlot 0) (aCons (mC (.int 26)) aNil))))) (bName 2)) ds [some (.ref w), some os, some (.str s), o] μ = some ((.next, [some (.ref w), some os, some (.str s'), o']), μ') ∧ Letters s' ∧ s'.length = s.length + ds.length ∧ Upd w μ μ'
  | [], s, o, μ, hw, hs, hl => ⟨s, o, μ, rfl, hs, by simp, hw.refl⟩
  | d :: ds, s, o, μ, hw, hs, hl => by
    obtain ⟨r, μ1, e1, a1, b1, u1⟩ := v_draw hw (b := 26) (by decide) (by decide)
    obtain ⟨c, c1, c2, ei⟩ := letter_at a1 b1
    have w1 := u1.well hw.lt
    have hz : sizeLine = 16777216 := by decide
    have hl2 : s.length + (ds.length + 1) ≤ 8 := by simpa using hl
    have cl : Str.length ⟨#[c]⟩ = 1 := rfl
    have sl : (s ++ (⟨#[c]⟩ : Str)).length = s.length + 1 := by
      show (s.cps ++ #[c]).size = s.cps.size + 1
      simp
    have sa : Letters (s ++ (⟨#[c]⟩ : Str)) := by
      intro z hz
      have hz : z ∈ (s.cps ++ #[c]).toList := hz
      simp at hz
      rcases hz with hz | hz
      · exact hs z (by simpa using hz)
      · subst hz; exact ⟨c1, c2⟩
    have ad : pyAdd (.str s) (.str ⟨#[c]⟩) μ1 = some (.str (s ++ ⟨#[c]⟩), μ1) := by
      show bnd (lim (s.length + Str.length ⟨#[c]⟩)) _ μ1 = _
      rw [bnd_of (show lim (s.length + Str.length ⟨#[c]⟩) μ1 = some ((), μ1) from by unfold lim; rw [if_pos (by rw [cl]; omega)])]; rfl
    obtain ⟨s', o', μ', q, h1, h2, u⟩ := name_loop (os := os) ds (s ++ ⟨#[c]⟩) (some d) μ1 w1 sa (by rw [sl]; omega)
    refine ⟨s', o', μ', ev_forCons (τ1 := [some (.ref w), some os, some (.str s), some d]) (τ2 := [some (.ref w), some os, some (.str (s ++ ⟨#[c]⟩)), some d]) (μ1 := μ) (μ2 := μ1) rfl (ev_asg (d := .str (s ++ ⟨#[c]⟩)) (μ1 := μ1) (ev_op (x := .str s) (y := .str ⟨#[c]⟩) (μ1 := μ) (μ2 := μ1) rfl (ev_op (x := .str "abcdefghijklmnopqrstuvwxyz") (y := .int r) (μ1 := μ) (μ2 := μ1) rfl (ev_disp (ds := [.ref w, .int 26]) (μ1 := μ) rfl e1) (ei μ1)) ad) rfl) q, h1, ?_, u1.trans u⟩
    rw [h2, sl, List.length_cons]; omega
theorem good8 : GoodName "abcdefgh" := ⟨by decide +kernel, by decide +kernel, by unfold Letters; decide +kernel⟩
theorem v_any_name {os : D} {xs : List Str} (hw : WellAt μ w) (hin : ∀ (x : Str) ν, Upd w μ ν → pyIn false (.str x) os ν = some (.bl (decide (x ∈ xs)), ν)) (hx : ("abcdefgh" : Str) ∉ xs) : ∃ x μ', f__law_any_name [.ref w, os] μ = some (.str x, μ') ∧ GoodName x ∧ x ∉ xs ∧ Upd w μ μ' := by
  obtain ⟨r, μ1, e1, a1, b1, u1⟩ := v_draw hw (b := 8) (by decide) (by decide)
  have rg : rng1F [.int (1 + r)] μ1 = some (rngD 0 (1 + r), μ1) := by
    show (if -(2 ^ 62) ≤ 1 + r ∧ 1 + r < 2 ^ 62 then some (rngD 0 (1 + r), μ1) else none) = _
    rw [if_pos (by omega)]
  have ln : (rngD 0 (1 + r)).length = (1 + r).toNat := by simp [rngD]
  have h0 : Letters "" := by unfold Letters; decide +kernel
  have l0 : Str.length "" = 0 := by decide +kernel
  obtain ⟨s, o, μ2, q, hs, sl, u2⟩ := name_loop (os := os) (rngD 0 (1 + r)) "" none μ1 (u1.well hw.lt) h0 (by rw [ln, l0]; omega)
  have u := u1.trans u2
  have gs : GoodName s := ⟨by rw [sl, ln, l0]; omega, by rw [sl, ln, l0]; omega, hs⟩
  have P : ∀ (x : Str), (sIf (mTest (mOp (pyIn false) (mSlot 2) (mSlot 1))) (sAsg (mC (.str "abcdefgh")) (bName 2)) sNil [some (.ref w), some os, some (.str s), o] μ2 = some ((.next, [some (.ref w), some os, some (.str x), o]), μ2)) → f__law_any_name [.ref w, os] μ = some (.str x, μ2) := by
    intro x c
    refine Upd.fin (τ2 := [some (.ref w), some os, some (.str x), o]) ?_ rfl u (by unfold Cl; trivial)
    refine ev_seq (τ1 := [some (.ref w), some os, some (.str ""), none]) (μ1 := μ) rfl ?_
    refine ev_seq (ev_for (ds := rngD 0 (1 + r)) (μ1 := μ1) ?_ q) ?_
    · show bnd _ rng1F μ = _
      rw [bnd_of (ev_consA (x := .int (1 + r)) (ds := []) (μ1 := μ1) (μ2 := μ1) (ev_op (x := .int 1) (y := .int r) (μ1 := μ) (μ2 := μ1) rfl (ev_disp (ds := [.ref w, .int 8]) (μ1 := μ) rfl e1) rfl) rfl), rg]
    · exact ev_seq c (ev_ret rfl)
  by_cases c : s ∈ xs
  · refine ⟨"abcdefgh", μ2, P _ (ev_ifT (μ1 := μ2) (ev_test (ev_op (x := .str s) (y := os) (μ1 := μ2) (μ2 := μ2) rfl rfl ?_)) rfl), good8, hx, u⟩
    rw [hin s μ2 u, decide_eq_true c]
  · refine ⟨s, μ2, P _ (ev_ifF (μ1 := μ2) (ev_test (ev_op (x := .str s) (y := os) (μ1 := μ2) (μ2 := μ2) rfl rfl ?_)) rfl), gs, c, u⟩
    rw [hin s μ2 u, decide_eq_false c]
end
end K1
set_option maxHeartbeats 4000000
namespace K1
open PySem L2 Mi
section
variable {μ μ1 μ2 μ' g : Mh} {n w : Nat} {l : Int} {d : D} {x y : Str} {τ τ1 τ2 : Sl} {ds es : List D}
theorem l_guardAt (h : μ[n]? = some (.lst ds)) : guardL (.ref n) μ = some ((), μ) := by
  unfold guardL
  rw [bnd_of (show asList (.ref n) μ = some (ds, μ) from by unfold asList; dsimp only; rw [h])]; rfl
theorem updAt {k : List D → Option (D × List D)} (h : μ[n]? = some (.lst ds)) (hk : k ds = some (d, es)) : updL n k μ = some (d, μ.set n (.lst es)) := by
  unfold updL
  rw [h]
  show (k ds).map _ = _
  rw [hk]; rfl
theorem l_appAt (h : μ[n]? = some (.lst ds)) (hl : ds.length < sizeLine) : appF (.ref n) [d] μ = some (.non, μ.set n (.lst (ds ++ [d]))) := updAt h (by rw [if_pos hl])
theorem l_insAt {i : Int} (h : μ[n]? = some (.lst ds)) (h0 : 0 ≤ i) (h1 : i < 2 ^ 62) (hl : ds.length < sizeLine) : insF (.ref n) [.int i, d] μ = some (.non, μ.set n (.lst (ds.take i.toNat ++ d :: ds.drop i.toNat))) := updAt h (by rw [if_pos ⟨h0, h1, hl⟩])
theorem cut_from (k : Nat) (h : k ≤ ds.length) : cutD ds (some (k : Int)) none = ds.drop k := by
  unfold cutD
  rw [HT.sIx_nat, Nat.min_eq_left h]
  show (ds.drop k).take (ds.length - k) = _
  exact List.take_of_length_le (by simp)
theorem cut_to (k : Nat) : cutD ds none (some (k : Int)) = ds.take k := by
  unfold cutD
  rw [HT.sIx_nat]
  show (ds.drop 0).take (min k ds.length - 0) = _
  rw [List.drop_zero, Nat.sub_zero]
  by_cases h : k ≤ ds.length
  · rw [Nat.min_eq_left h]
  · rw [Nat.min_eq_right (by omega), List.take_length, List.take_of_length_le (by omega)]
theorem l_slL {lo hi : Option Int} : pySl lo hi (.lst ds) μ = some (.lst (cutD ds lo hi), μ) := rfl
theorem l_slR {lo hi : Option Int} (h : μ[n]? = some (.lst ds)) : pySl lo hi (.ref n) μ = some (.lst (cutD ds lo hi), μ) := by
  show bnd (asList (.ref n)) (fun ds => Mi.ret (D.lst (cutD ds lo hi))) μ = _
  rw [bnd_of (show asList (.ref n) μ = some (ds, μ) from by unfold asList; dsimp only; rw [h])]; rfl
theorem l_inR {xs : List Str} (h : μ[n]? = some (.lst (xs.map D.str))) : pyIn false (.str x) (.ref n) μ = some (.bl (decide (x ∈ xs)), μ) := by
  show inSeq false (.str x) (.ref n) μ = _
  rw [l_inSeq (ds := []) (xs := xs) (show asSeq1 (.ref n) μ = some (xs.map D.str, μ) from by unfold asSeq1; show asList (.ref n) μ = _; unfold asList; dsimp only; rw [h])]; rfl
theorem l_inL {xs : List Str} : pyIn false (.str x) (.lst (xs.map D.str)) μ = some (.bl (decide (x ∈ xs)), μ) := by
  show inSeq false (.str x) (.lst (xs.map D.str)) μ = _
  rw [l_inSeq (ds := []) (xs := xs) rfl]; rfl
theorem l_srcR {ma : Sl → M D} (h1 : ma τ μ = some (.ref n, μ)) (h : μ[n]? = some (.lst ds)) : mSrcR ma τ μ = some (ds, μ) := by
  unfold mSrcR
  rw [bnd_of h1]
  show (match μ[n]? with | some (.lst ds) => some (ds, μ) | _ => none) = _
  rw [h]
theorem l_tupR (h : μ[n]? = some (.lst ds)) : tupleF [.ref n] μ = some (.tup ds, μ) := by
  show bnd (asList (.ref n)) (fun ds => Mi.ret (D.tup ds)) μ = _
  rw [bnd_of (show asList (.ref n) μ = some (ds, μ) from by unfold asList; dsimp only; rw [h])]; rfl
theorem l_tupL : tupleF [.lst ds] μ = some (.tup ds, μ) := rfl
theorem rng_eq {m : Int} (h : 0 ≤ m) : rngD 0 m = (List.range' 0 m.toNat).map fun j : Nat => D.int j := by
  unfold rngD
  rw [Int.sub_zero, List.range_eq_range']
  apply List.map_congr_left
  intro a _
  rw [Int.zero_add]
theorem l_rng {ma : Sl → M (List D)} {m : Int} (h : ma τ μ = some ([.int m], μ1)) (h0 : 0 ≤ m) (h1 : m ≤ 1000) : mRng1 ma τ μ = some ((List.range' 0 m.toNat).map (fun j : Nat => D.int j), μ1) := by
  unfold mRng1
  rw [bnd_of h, ← rng_eq h0]
  show (if -(2 ^ 62) ≤ m ∧ m < 2 ^ 62 then some (rngD 0 m, μ1) else none) = _
  rw [if_pos (by omega)]
theorem at1 {a b : MO} {e : Mh} {L : Nat} (h : μ.length = L) : (μ ++ (a :: b :: e))[L + 1]? = some b := by
  subst h; rw [List.getElem?_append_right (by omega)]; simp
theorem at2 {a b c : MO} {e : Mh} {L : Nat} (h : μ.length = L) : (μ ++ (a :: b :: c :: e))[L + 2]? = some c := by
  subst h; rw [List.getElem?_append_right (by omega)]; simp
theorem set1 {a b o : MO} {e : Mh} {L : Nat} (h : μ.length = L) : (μ ++ (a :: b :: e)).set (L + 1) o = μ ++ (a :: o :: e) := by
  subst h; rw [List.set_append_right _ _ (by omega)]; simp
theorem set2 {a b c o : MO} {e : Mh} {L : Nat} (h : μ.length = L) : (μ ++ (a :: b :: c :: e)).set (L + 2) o = μ ++ (a :: b :: o :: e) := by
  subst h; rw [List.set_append_right _ _ (by omega)]; simp
noncomputable def base11 : List Str := ["w", "r", "put", "makes", "box", "hand", "z", "not", "v", "safe", "x"]
noncomputable def some12 (x : Str) : List Str := base11.take 6 ++ x :: base11.drop 6
theorem base_nodup : base11.Nodup := by decide +kernel
theorem base_good : ∀ y ∈ base11, GoodName y := by
  have h : ∀ y ∈ base11, (1 ≤ y.length ∧ y.length ≤ 8) ∧ Letters y := by unfold Letters; decide +kernel
  exact fun y hy => ⟨(h y hy).1.1, (h y hy).1.2, (h y hy).2⟩
theorem some_perm : (some12 x).Perm (x :: base11) := by
  unfold some12
  refine List.perm_middle.trans ?_
  rw [List.take_append_drop]
structure Names12 (sm : List Str) : Prop where
  len : sm.length = 12
  nd : sm.Nodup
  good : ∀ y ∈ sm, GoodName y
theorem names12 (h : x ∉ base11) (hx : GoodName x) {sm : List Str} (p : sm.Perm (some12 x)) : Names12 sm := by
  have p := p.trans some_perm
  refine ⟨by rw [p.length_eq]; rfl, p.nodup_iff.mpr (List.nodup_cons.mpr ⟨h, base_nodup⟩), fun y hy => ?_⟩
  rcases List.mem_cons.mp (p.mem_iff.mp hy) with z | z
  · rw [z]; exact hx
  · exact base_good y z
theorem rot_perm {sm : List Str} (t : Nat) : (sm.drop t ++ sm.take t).Perm sm := by
  refine List.perm_append_comm.trans ?_
  rw [List.take_append_drop]
theorem names_part (hw : WellAt μ w) : ∃ (sm : List Str) (c : Nat) (r : Int) (junk : MO) (μ' : Mh), Names12 sm ∧ 2 ≤ c ∧ c ≤ 4 ∧ Upd w μ μ' ∧
    (∀ {rest : Sl → M (Fl × Sl)} {z : Fl × Sl} {μz : Mh}, rest [some (.ref w), some (.lst (sm.map D.str)), some (.int r), some (.lst ((sm.take c).map D.str)), none, none, none, none, none, none, none, none, none, none, none] (μ' ++ [junk]) = some (z, μz) →
    (sSeq (sAsg (mDisp newB (aCons (mC (.str "w")) (aCons (mC (.str "r")) (aCons (mC (.str "put")) (aCons (mC (.str "makes")) (aCons (mC (.str "box")) (aCons (mC (.str "hand")) (aCons (mC (.str "z")) (aCons (mC (.str "not")) (aCons (mC (.str "v")) (aCons (mC (.str "safe")) (aCons (mC (.str "x")) aNil)))))))))))) (bName 1))
    (sSeq (sExpr (mMethL insF (mSlot 1) (aCons (mC (.int 6)) (aCons (mDisp f__law_any_name (aCons (mSlot 0) (aCons (mSlot 1) aNil))) aNil))))
    (sSeq (sAsg (mDisp f__law_draw (aCons (mSlot 0) (aCons (mC (.int 12)) aNil))) (bName 2))
    (sSeq (sAsg (mOp pyAdd (mSl (mSlot 1) (mPart (mSlot 2)) noPart) (mSl (mSlot 1) noPart (mPart (mSlot 2)))) (bName 1))
    (sSeq (sAsg (mSl (mSlot 1) noPart (mPart (mOp pyAdd (mC (.int 2)) (mDisp f__law_draw (aCons (mSlot 0) (aCons (mC (.int 3)) aNil)))))) (bName 3)) rest))))) (startD 15 [.ref w]) μ = some (z, μz)) := by
  have hz : sizeLine = 16777216 := by decide
  have hlt := hw.lt
  have w1 := hw.app (g := [.lst (base11.map D.str)])
  obtain ⟨x, ν2, q2, gx, nx, v2⟩ := v_any_name (os := .ref μ.length) (xs := base11) w1 (fun y ν u => l_inR (by
    rw [u.other (by omega)]; exact List.getElem?_concat_length)) (by decide +kernel)
  obtain ⟨μ2, u2, rfl⟩ := v2.app hlt
  have len2 := u2.len
  have hb : (base11.map D.str).length = 11 := rfl
  have ins : insF (.ref μ.length) [.int 6, .str x] (μ2 ++ [.lst (base11.map D.str)]) = some (.non, μ2 ++ [.lst ((some12 x).map D.str)]) := by
    rw [l_insAt (ds := base11.map D.str) (by rw [← len2]; exact List.getElem?_concat_length) (by decide) (by decide) (by rw [hb]; omega), ← len2]
    simp [some12]
  have w2 := u2.well hlt
  obtain ⟨r3, μ3, e3, a3, b3, u3⟩ := v_drawG (g := [.lst ((some12 x).map D.str)]) (b := 12) w2 (by decide) (by decide)
  have len3 : μ3.length = μ.length := by rw [u3.len, len2]
  have w3 := u3.well w2.lt
  obtain ⟨t, rfl⟩ := Int.eq_ofNat_of_zero_le a3
  have N := names12 nx gx (rot_perm (sm := some12 x) t)
  have l12 : (some12 x).length = 12 := rfl
  have at0 : (μ3 ++ [MO.lst ((some12 x).map D.str)])[μ.length]? = some (.lst ((some12 x).map D.str)) := by rw [← len3]; exact List.getElem?_concat_length
  have ad : pyAdd (.lst (((some12 x).map D.str).drop t)) (.lst (((some12 x).map D.str).take t)) (μ3 ++ [.lst ((some12 x).map D.str)]) = some (.lst ((((some12 x).drop t ++ (some12 x).take t)).map D.str), μ3 ++ [.lst ((some12 x).map D.str)]) := by
    have e : ((some12 x).map D.str).drop t ++ ((some12 x).map D.str).take t = (((some12 x).drop t ++ (some12 x).take t)).map D.str := by simp [List.map_drop, List.map_take]
    show newL (((some12 x).map D.str).drop t ++ ((some12 x).map D.str).take t) _ = _
    rw [e]
    exact newL_eq (by rw [List.length_map, N.len]; omega)
  obtain ⟨r4, μ4, e4, a4, b4, u4⟩ := v_drawG (g := [.lst ((some12 x).map D.str)]) (b := 3) w3 (by decide) (by decide)
  obtain ⟨c, rfl⟩ := Int.eq_ofNat_of_zero_le a4
  refine ⟨(some12 x).drop t ++ (some12 x).take t, 2 + c, t, .lst ((some12 x).map D.str), μ4, N, by omega, by omega, u2.trans (u3.trans u4), ?_⟩
  intro rest z μz h
  refine ev_seq (τ1 := [some (.ref w), some (.ref μ.length), none, none, none, none, none, none, none, none, none, none, none, none, none]) (μ1 := μ ++ [.lst (base11.map D.str)]) rfl ?_
  refine ev_seq (τ1 := [some (.ref w), some (.ref μ.length), none, none, none, none, none, none, none, none, none, none, none, none, none]) (μ1 := μ2 ++ [.lst ((some12 x).map D.str)]) (ev_expr (ev_meth (x := .ref μ.length) (μ1 := μ ++ [.lst (base11.map D.str)]) rfl l_guard (ev_consA (x := .int 6) (ds := [.str x]) rfl (ev_consA (μ1 := μ2 ++ [.lst (base11.map D.str)]) (ev_disp (ds := [.ref w, .ref μ.length]) rfl q2) rfl)) ins)) ?_
  refine ev_seq (τ1 := [some (.ref w), some (.ref μ.length), some (.int t), none, none, none, none, none, none, none, none, none, none, none, none]) (μ1 := μ3 ++ [.lst ((some12 x).map D.str)]) (ev_asg (ev_disp (ds := [.ref w, .int 12]) rfl e3) rfl) ?_
  refine ev_seq (τ1 := [some (.ref w), some (.lst (((some12 x).drop t ++ (some12 x).take t).map D.str)), some (.int t), none, none, none, none, none, none, none, none, none, none, none, none]) (μ1 := μ3 ++ [.lst ((some12 x).map D.str)]) (ev_asg (ev_op (ev_sl (x := .ref μ.length) (a := some (t : Int)) (b := none) (μ1 := μ3 ++ [.lst ((some12 x).map D.str)]) (μ2 := μ3 ++ [.lst ((some12 x).map D.str)]) (μ3 := μ3 ++ [.lst ((some12 x).map D.str)]) rfl rfl rfl (by rw [l_slR at0, cut_from t (by rw [List.length_map, l12]; omega)])) (ev_sl (x := .ref μ.length) (a := none) (b := some (t : Int)) (μ1 := μ3 ++ [.lst ((some12 x).map D.str)]) (μ2 := μ3 ++ [.lst ((some12 x).map D.str)]) (μ3 := μ3 ++ [.lst ((some12 x).map D.str)]) rfl rfl rfl (by rw [l_slR at0, cut_to t])) ad) rfl) ?_
  refine ev_seq (τ1 := [some (.ref w), some (.lst (((some12 x).drop t ++ (some12 x).take t).map D.str)), some (.int t), some (.lst ((((some12 x).drop t ++ (some12 x).take t).take (2 + c)).map D.str)), none, none, none, none, none, none, none, none, none, none, none]) (μ1 := μ4 ++ [.lst ((some12 x).map D.str)]) (ev_asg (ev_sl (x := .lst (((some12 x).drop t ++ (some12 x).take t).map D.str)) (a := none) (b := some ((2 + c : Nat) : Int)) (μ1 := μ3 ++ [.lst ((some12 x).map D.str)]) (μ2 := μ3 ++ [.lst ((some12 x).map D.str)]) (μ3 := μ4 ++ [.lst ((some12 x).map D.str)]) rfl rfl (ev_part (ev_op (x := .int 2) (y := .int c) (μ1 := μ3 ++ [.lst ((some12 x).map D.str)]) (μ2 := μ4 ++ [.lst ((some12 x).map D.str)]) rfl (ev_disp (ds := [.ref w, .int 3]) rfl e4) (by rw [l_add]; rfl))) (by rw [l_slL, cut_to, List.map_take])) rfl) h
end
end K1
set_option maxHeartbeats 4000000
namespace K1
open PySem L2 Mi
section
variable {μ μ1 μ2 μ' g : Mh} {n w : Nat} {l : Int} {d : D} {x y : Str} {τ τ1 τ2 : Sl} {ds es : List D}
theorem kind_at {i : Int} (h1 : 0 ≤ i) (h2 : i < 3) : ∃ k ∈ (["safe", "steady", "whole"] : List Str), atI [D.str "safe", .str "steady", .str "whole"] i = some (.str k) :=
  pick (f := D.str) (xs := ["safe", "steady", "whole"]) h1 (by show i < 3; exact h2)
theorem rev_at {sm : List Str} (h : sm.length = 12) {k : Nat} (hk : k < 12) : ∃ x, sm.reverse[k]? = some x ∧ x ∈ sm ∧ atI (sm.map D.str) (11 - (k : Int)) = some (.str x) := by
  have hk' : 11 - k < sm.length := by omega
  refine ⟨sm[11 - k], ?_, List.getElem_mem hk', ?_⟩
  · rw [List.getElem?_reverse (by omega)]
    rw [show sm.length - 1 - k = 11 - k from by omega]
    exact List.getElem?_eq_getElem hk'
  · unfold atI ixN
    rw [if_pos (by omega), if_pos (by rw [List.length_map]; omega)]
    show (sm.map D.str)[(11 - (k : Int)).toNat]? = _
    rw [show (11 - (k : Int)).toNat = 11 - k from by omega, List.getElem?_map, List.getElem?_eq_getElem hk']; rfl
noncomputable abbrev boxB : Sl → M (Fl × Sl) := (sSeq (sAsg (mOp pyAdd (mC (.int 2)) (mDisp f__law_draw (aCons (mSlot 0) (aCons (mC (.int 9)) aNil)))) (bName 6))
    (sSeq (sAsg (mOp pyIx (mDisp newL (aCons (mC (.str "safe")) (aCons (mC (.str "steady")) (aCons (mC (.str "whole")) aNil)))) (mDisp f__law_draw (aCons (mSlot 0) (aCons (mC (.int 3)) aNil)))) (bName 7))
    (sExpr (mMethL appF (mSlot 4) (aCons (mDisp newT (aCons (mOp pyIx (mSlot 1) (mOp pySub (mC (.int 11)) (mSlot 5))) (aCons (mSlot 7) (aCons (mSlot 6) (aCons (mDisp f__law_draw (aCons (mSlot 0) (aCons (mSlot 6) aNil))) (aCons (mOp pyIx (mSlot 3) (mDisp f__law_draw (aCons (mSlot 0) (aCons (mDisp lenF (aCons (mSlot 3) aNil)) aNil)))) aNil)))))) aNil)))))
structure BoxesOk (sm ns : List Str) (k : Nat) (bs : List Bx) : Prop where
  nms : bs.map Bx.nm = sm.reverse.take k
  wor : ∀ b ∈ bs, Worth b.kd b.sz b.bg
  wri : ∀ b ∈ bs, b.wr ∈ ns
theorem box_loop {sm ns : List Str} {junk : MO} {o2 : Option D} {L : Nat} (hsm : sm.length = 12) (hn : ns ≠ []) (hnl : ns.length ≤ 4) : ∀ (rest k : Nat) (bs : List Bx) (o5 o6 o7 : Option D) (μ : Mh), WellAt μ w → μ.length = L → k + rest ≤ 6 → BoxesOk sm ns k bs → ∃ (bs' : List Bx) (o5' o6' o7' : Option D) (μ' : Mh),
    forGo (bName 5) boxB ((List.range' k rest).map fun j : Nat => D.int j) [some (.ref w), some (.lst (sm.map D.str)), o2, some (.lst (ns.map D.str)), some (.ref (L + 1)), o5, o6, o7, none, none, none, none, none, none, none] (μ ++ [junk, .lst (bs.map Bx.toD)]) =
      some ((.next, [some (.ref w), some (.lst (sm.map D.str)), o2, some (.lst (ns.map D.str)), some (.ref (L + 1)), o5', o6', o7', none, none, none, none, none, none, none]), μ' ++ [junk, .lst (bs'.map Bx.toD)]) ∧ Upd w μ μ' ∧ BoxesOk sm ns (k + rest) bs'
  | 0, k, bs, o5, o6, o7, μ, hw, hL, hk, ok => ⟨bs, o5, o6, o7, μ, rfl, hw.refl, ok⟩
  | rest + 1, k, bs, o5, o6, o7, μ, hw, hL, hk, ok => by
    have hz : sizeLine = 16777216 := by decide
    obtain ⟨r1, μ1, e1, a1, b1, u1⟩ := v_drawG (g := [junk, .lst (bs.map Bx.toD)]) (b := 9) hw (by decide) (by decide)
    have w1 := u1.well hw.lt
    obtain ⟨r2, μ2, e2, a2, b2, u2⟩ := v_drawG (g := [junk, .lst (bs.map Bx.toD)]) (b := 3) w1 (by decide) (by decide)
    have w2 := u2.well w1.lt
    obtain ⟨kd, hkd, ek⟩ := kind_at a2 b2
    obtain ⟨x, ex, hx, ei⟩ := rev_at (sm := sm) (k := k) hsm (by omega)
    obtain ⟨r3, μ3, e3, a3, b3, u3⟩ := v_drawG (g := [junk, .lst (bs.map Bx.toD)]) (b := 2 + r1) w2 (by omega) (by omega)
    have w3 := u3.well w2.lt
    have nl : 0 < ns.length := List.length_pos_iff.mpr hn
    have hln : (((ns.map D.str).length : Nat) : Int) = ns.length := by simp
    obtain ⟨r4, μ4, e4, a4, b4, u4⟩ := v_drawG (g := [junk, .lst (bs.map Bx.toD)]) (b := (((ns.map D.str).length : Nat) : Int)) w3 (by omega) (by omega)
    have w4 := u4.well w3.lt
    obtain ⟨wr, hwr, ew⟩ := pick (f := D.str) (xs := ns) a4 (by omega)
    have len4 : μ4.length = L := by rw [u4.len, u3.len, u2.len, u1.len, hL]
    have lbs : bs.length ≤ 6 := by
      have := congrArg List.length ok.nms
      rw [List.length_map, List.length_take] at this
      omega
    have ok' : BoxesOk sm ns (k + 1) (bs ++ [⟨x, kd, 2 + r1, r3, wr⟩]) := by
      refine ⟨?_, ?_, ?_⟩
      · rw [List.map_append, ok.nms, List.take_add_one, ex]; rfl
      · intro b hb
        rcases List.mem_append.mp hb with z | z
        · exact ok.wor b z
        · simp at z; subst z
          exact ⟨hkd, by show 2 ≤ 2 + r1; omega, by show 2 + r1 ≤ 10; omega, a3, by show r3 ≤ 2 + r1 - 1; omega⟩
      · intro b hb
        rcases List.mem_append.mp hb with z | z
        · exact ok.wri b z
        · simp at z; subst z; exact hwr
    obtain ⟨bs', o5', o6', o7', μ', q, u, okk⟩ := box_loop (junk := junk) (o2 := o2) hsm hn hnl rest (k + 1) (bs ++ [⟨x, kd, 2 + r1, r3, wr⟩]) (some (.int k)) (some (.int (2 + r1))) (some (.str kd)) μ4 w4 len4 (by omega) ok'
    refine ⟨bs', o5', o6', o7', μ', ?_, u1.trans (u2.trans (u3.trans (u4.trans u))), by rw [show k + (rest + 1) = k + 1 + rest from by omega]; exact okk⟩
    rw [List.range'_succ, List.map_cons]
    have ap := l_appAt (μ := μ4 ++ [junk, .lst (bs.map Bx.toD)]) (n := L + 1) (d := (Bx.mk x kd (2 + r1) r3 wr).toD) (at1 len4) (by rw [List.length_map]; omega)
    rw [set1 len4] at ap
    have eb : bs.map Bx.toD ++ [(Bx.mk x kd (2 + r1) r3 wr).toD] = (bs ++ [(⟨x, kd, 2 + r1, r3, wr⟩ : Bx)]).map Bx.toD := by simp
    rw [eb] at ap
    refine ev_forCons (τ1 := [some (.ref w), some (.lst (sm.map D.str)), o2, some (.lst (ns.map D.str)), some (.ref (L + 1)), some (.int k), o6, o7, none, none, none, none, none, none, none]) (μ1 := μ ++ [junk, .lst (bs.map Bx.toD)]) rfl ?_ q
    refine ev_seq (τ1 := [some (.ref w), some (.lst (sm.map D.str)), o2, some (.lst (ns.map D.str)), some (.ref (L + 1)), some (.int k), some (.int (2 + r1)), o7, none, none, none, none, none, none, none]) (μ1 := μ1 ++ [junk, .lst (bs.map Bx.toD)]) (ev_asg (ev_op (x := .int 2) (y := .int r1) rfl (ev_disp (ds := [.ref w, .int 9]) rfl e1) l_add) rfl) ?_
    refine ev_seq (τ1 := [some (.ref w), some (.lst (sm.map D.str)), o2, some (.lst (ns.map D.str)), some (.ref (L + 1)), some (.int k), some (.int (2 + r1)), some (.str kd), none, none, none, none, none, none, none]) (μ1 := μ2 ++ [junk, .lst (bs.map Bx.toD)]) (ev_asg (ev_op (x := .lst [D.str "safe", .str "steady", .str "whole"]) (y := .int r2) rfl (ev_disp (ds := [.ref w, .int 3]) rfl e2) (l_ixL ek)) rfl) ?_
    refine ev_expr (ev_meth (x := .ref (L + 1)) (μ1 := μ2 ++ [junk, .lst (bs.map Bx.toD)]) rfl (l_guardAt (at1 (by rw [u2.len, u1.len, hL]))) (ev_consA (ds := []) (μ1 := μ4 ++ [junk, .lst (bs.map Bx.toD)]) (ev_disp (ds := [.str x, .str kd, .int (2 + r1), .int r3, .str wr]) (μ1 := μ4 ++ [junk, .lst (bs.map Bx.toD)]) ?_ (newT_eq (by show 5 ≤ sizeLine; omega))) rfl) ap)
    exact ev_consA (μ1 := μ2 ++ [junk, .lst (bs.map Bx.toD)]) (ev_op (x := .lst (sm.map D.str)) (y := .int (11 - (k : Int))) rfl (ev_op (x := .int 11) (y := .int k) rfl rfl l_sub) (l_ixL ei)) (ev_consA (μ1 := μ2 ++ [junk, .lst (bs.map Bx.toD)]) rfl (ev_consA (μ1 := μ2 ++ [junk, .lst (bs.map Bx.toD)]) rfl (ev_consA (μ1 := μ3 ++ [junk, .lst (bs.map Bx.toD)]) (ev_disp (ds := [.ref w, .int (2 + r1)]) rfl e3) (ev_consA (μ1 := μ4 ++ [junk, .lst (bs.map Bx.toD)]) (ev_op (x := .lst (ns.map D.str)) (y := .int r4) rfl (ev_disp (ds := [.ref w, .int ((ns.map D.str).length : Nat)]) rfl e4) (l_ixL ew)) rfl))))
end
end K1
set_option maxHeartbeats 4000000
namespace K1
open PySem L2 Mi
section
variable {μ μ1 μ2 μ' g : Mh} {n w : Nat} {l : Int} {d : D} {x y : Str} {τ τ1 τ2 : Sl} {ds es : List D}
noncomputable def own (bs : List Bx) (nm : Str) : List Str := (bs.filter fun b => b.wr == nm).map Bx.nm
theorem drawn_ok {bs : List Bx} {nm : Str} {rn : List Str} {wr : Bool} {l : Int} (hnd : (bs.map Bx.nm).Nodup) (hrn : ∀ y ∈ rn, GoodName y ∧ y ∉ (["v", "not", "and", "or"] : List Str)) {r : Rw} (h : r.Drawn (own bs nm) (bs.map Bx.nm) rn wr l) : r.Ok (bs.map kv) nm wr l := by
  have nv : ∀ y ∈ rn, y ≠ "v" := fun y hy z => (hrn y hy).2 (by rw [z]; simp)
  refine ⟨h.form, h.ends, fun x hx => ?_, ?_, ?_⟩
  · rcases List.mem_append.mp (show x ∈ rn ++ (if wr then (["v"] : List Str) else []) from h.vars x hx) with z | z
    · refine ⟨(hrn x z).1.ok, fun q => (hrn x z).2 ?_, .inr (nv x z)⟩
      simp at q ⊢; exact .inr q
    · cases wr with
      | true =>
        simp at z; subst z
        exact ⟨by decide +kernel, by decide +kernel, .inl rfl⟩
      | false => simp at z
  · have f := h.frm
    cases r with
    | get x bx => exact nv x f.1
    | letr x e => exact nv x f
    | _ => trivial
  · have f := h.frm
    cases r with
    | put bx e =>
      have f : bx ∈ own bs nm := f
      unfold own at f
      rw [List.mem_map] at f
      obtain ⟨b, hb, rfl⟩ := f
      rw [List.mem_filter] at hb
      have e2 : b.wr = nm := beq_iff_eq.mp hb.2
      show valD (bs.map kv) (.inr b.nm) = some (.str nm)
      rw [val_kv hnd hb.1, e2]
    | get x bx =>
      have f : bx ∈ bs.map Bx.nm := f.2
      rw [List.mem_map] at f
      obtain ⟨b, hb, rfl⟩ := f
      show (valD (bs.map kv) (.inr b.nm)).isSome = true
      rw [val_kv hnd hb]; rfl
    | _ => trivial
theorem own_go {nm : Str} (hn : PyData.strOk nm = true) : ∀ (bs : List Bx) (ys : List D), (∀ b ∈ bs, PyData.strOk b.wr = true) → compGo (bName 0) (mTest (mOp pyEq (mOp pyIx (mSlot 0) (mC (.int 4))) (mSlot 1))) (mOp pyIx (mSlot 0) (mC (.int 0))) [none, some (.str nm)] (bs.map Bx.toD) ys μ = some (ys ++ (own bs nm).map D.str, μ)
  | [], ys, _ => by show some (ys, μ) = _; simp [own]
  | b :: bs, ys, h => by
    have ih := fun ys => own_go hn bs ys fun q hq => h q (by simp [hq])
    have hb := h b (by simp)
    show bnd (bName 0 b.toD [none, some (.str nm)]) _ μ = _
    rw [bnd_of (show bName 0 b.toD [none, some (.str nm)] μ = some ([some b.toD, some (.str nm)], μ) from rfl)]
    have t : mTest (mOp pyEq (mOp pyIx (mSlot 0) (mC (.int 4))) (mSlot 1)) [some b.toD, some (.str nm)] μ = some (b.wr == nm, μ) := ev_test (ev_op (x := .str b.wr) (y := .str nm) (μ1 := μ) (μ2 := μ) (ev_op (x := b.toD) (y := .int 4) (μ1 := μ) (μ2 := μ) rfl rfl (l_ixT rfl)) rfl (l_eqS hb hn))
    rw [bnd_of t]
    by_cases c : b.wr = nm
    · have c' : (b.wr == nm) = true := beq_iff_eq.mpr c
      rw [c', if_pos rfl, bnd_of (ev_op (x := b.toD) (y := .int 0) (d := .str b.nm) (μ1 := μ) (μ2 := μ) (μ3 := μ) rfl rfl (l_ixT rfl)), ih]
      simp [own, c']
    · have c' : (b.wr == nm) = false := beq_eq_false_iff_ne.mpr c
      rw [c', if_neg (by decide), ih]
      simp [own, c']
theorem boxes_comp {bs : List Bx} (hl : bs.length ≤ 1000) {ma : Sl → M D} (hm : ma τ μ = some (.ref n, μ)) (h : μ[n]? = some (.lst (bs.map Bx.toD))) : mComp 1 [] (mSrcR ma) (bName 0) mTrue (mOp pyIx (mSlot 0) (mC (.int 0))) newL τ μ = some (.lst ((bs.map Bx.nm).map D.str), μ) := by
  have hz : sizeLine = 16777216 := by decide
  have go : ∀ (xs : List Bx) (ys : List D), compGo (bName 0) mTrue (mOp pyIx (mSlot 0) (mC (.int 0))) (startBl 1 [] τ) (xs.map Bx.toD) ys μ = some (ys ++ (xs.map Bx.nm).map D.str, μ) := by
    intro xs
    induction xs with
    | nil => intro ys; show some (ys, μ) = _; simp
    | cons a xs ih =>
      intro ys
      show bnd (bName 0 a.toD (startBl 1 [] τ)) _ μ = _
      rw [bnd_of (show bName 0 a.toD (startBl 1 [] τ) μ = some ((startBl 1 [] τ).set 0 (some a.toD), μ) from rfl), bnd_of (show mTrue ((startBl 1 [] τ).set 0 (some a.toD)) μ = some (true, μ) from rfl), if_pos rfl, bnd_of (ev_op (x := a.toD) (y := .int 0) (d := .str a.nm) (μ1 := μ) (μ2 := μ) (μ3 := μ) (ev_slot rfl) ev_c (l_ixT rfl)), ih]
      simp
  exact ev_comp (l_srcR hm h) (by simp; omega) (go bs []) (newL_eq (by simp; omega))
noncomputable abbrev rowE : Sl → M D := (mDisp f__law_row (aCons (mSlot 6) (aCons (mSlot 4) (aCons (mComp 1 [] (mSrcR (mSlot 1)) (bName 0) mTrue (mOp pyIx (mSlot 0) (mC (.int 0))) newL) (aCons (mSlot 5) (aCons (mSlot 3) (aCons (mOp pyEq (mSlot 2) (mC (.int 0))) aNil)))))))
theorem rows_go {bs : List Bx} {nm : Str} {rn : List Str} {many : Int} {k L : Nat} {junk : MO} {ex : Mh} (hbs : ∀ b ∈ bs, GoodName b.nm) (hbl : bs.length ≤ 6) (hrn : ∀ y ∈ rn, GoodName y) (hne : rn ≠ []) (hrl : rn.length ≤ 100) (hm : 0 ≤ many) (hm2 : many ≤ 60) : ∀ (ds ys : List D) (μ : Mh), WellAt μ w → μ.length = L → ∃ (rs : List Rw) (μ' : Mh),
    compGo (bName 0) mTrue rowE [none, some (.ref (L + 1)), some (.int k), some (.int many), some (.lst ((own bs nm).map D.str)), some (.lst (rn.map D.str)), some (.ref w)] ds ys (μ ++ (junk :: .lst (bs.map Bx.toD) :: ex)) = some (ys ++ rs.map Rw.toD, μ' ++ (junk :: .lst (bs.map Bx.toD) :: ex)) ∧ rs.length = ds.length ∧ (∀ r ∈ rs, r.Drawn (own bs nm) (bs.map Bx.nm) rn (k == 0) many) ∧ Upd w μ μ'
  | [], ys, μ, hw, hL => ⟨[], μ, by show some (ys, _) = _; simp, rfl, by simp, hw.refl⟩
  | d :: ds, ys, μ, hw, hL => by
    have ho : ∀ x ∈ own bs nm, GoodName x := fun x hx => by
      unfold own at hx
      rw [List.mem_map] at hx
      obtain ⟨b, hb, rfl⟩ := hx
      exact hbs b (List.mem_filter.mp hb).1
    have hb : ∀ x ∈ bs.map Bx.nm, GoodName x := fun x hx => by
      rw [List.mem_map] at hx
      obtain ⟨b, hb, rfl⟩ := hx
      exact hbs b hb
    have lo : (own bs nm).length ≤ 100 := by
      unfold own
      rw [List.length_map]
      exact Nat.le_trans (List.length_filter_le _ _) (by omega)
    obtain ⟨r, ν, e, dr, v⟩ := v_row (own := own bs nm) (bxs := bs.map Bx.nm) (ns := rn) (many := many) (wr := k == 0) (hw.app (g := junk :: .lst (bs.map Bx.toD) :: ex)) hm hm2 ho hb hrn hne lo (by rw [List.length_map]; omega) hrl
    obtain ⟨μ1, u1, rfl⟩ := v.app hw.lt
    have w1 := u1.well hw.lt
    obtain ⟨rs, μ', q, h1, h2, u⟩ := rows_go (nm := nm) (k := k) (junk := junk) (ex := ex) hbs hbl hrn hne hrl hm hm2 ds (ys ++ [r.toD]) μ1 w1 (by rw [u1.len, hL])
    refine ⟨r :: rs, μ', ?_, by simp [h1], fun q hq => ?_, u1.trans u⟩
    · show bnd (bName 0 d _) _ _ = _
      have hk : (((k : Nat) : Int) == 0) = (k == 0) := by
        by_cases z : k = 0
        · subst z; rfl
        · rw [beq_eq_false_iff_ne.mpr z, beq_eq_false_iff_ne.mpr (by omega)]
      rw [bnd_of (show bName 0 d [none, some (.ref (L + 1)), some (.int k), some (.int many), some (.lst ((own bs nm).map D.str)), some (.lst (rn.map D.str)), some (.ref w)] (μ ++ (junk :: .lst (bs.map Bx.toD) :: ex)) = some ([some d, some (.ref (L + 1)), some (.int k), some (.int many), some (.lst ((own bs nm).map D.str)), some (.lst (rn.map D.str)), some (.ref w)], μ ++ (junk :: .lst (bs.map Bx.toD) :: ex)) from rfl)]
      rw [bnd_of (show mTrue [some d, some (.ref (L + 1)), some (.int k), some (.int many), some (.lst ((own bs nm).map D.str)), some (.lst (rn.map D.str)), some (.ref w)] (μ ++ (junk :: .lst (bs.map Bx.toD) :: ex)) = some (true, μ ++ (junk :: .lst (bs.map Bx.toD) :: ex)) from rfl), if_pos rfl]
      have c : rowE [some d, some (.ref (L + 1)), some (.int k), some (.int many), some (.lst ((own bs nm).map D.str)), some (.lst (rn.map D.str)), some (.ref w)] (μ ++ (junk :: .lst (bs.map Bx.toD) :: ex)) = some (r.toD, μ1 ++ (junk :: .lst (bs.map Bx.toD) :: ex)) := by
        refine ev_disp (ds := [.ref w, .lst ((own bs nm).map D.str), .lst ((bs.map Bx.nm).map D.str), .lst (rn.map D.str), .int many, .bl (k == 0)]) (μ1 := μ ++ (junk :: .lst (bs.map Bx.toD) :: ex)) ?_ e
        refine ev_consA (μ1 := μ ++ (junk :: .lst (bs.map Bx.toD) :: ex)) rfl (ev_consA (μ1 := μ ++ (junk :: .lst (bs.map Bx.toD) :: ex)) rfl (ev_consA (μ1 := μ ++ (junk :: .lst (bs.map Bx.toD) :: ex)) (boxes_comp (n := L + 1) (by omega) rfl (at1 hL)) (ev_consA (μ1 := μ ++ (junk :: .lst (bs.map Bx.toD) :: ex)) rfl (ev_consA (μ1 := μ ++ (junk :: .lst (bs.map Bx.toD) :: ex)) rfl (ev_consA (μ1 := μ ++ (junk :: .lst (bs.map Bx.toD) :: ex)) (ev_op (x := .int k) (y := .int 0) (μ1 := μ ++ (junk :: .lst (bs.map Bx.toD) :: ex)) (μ2 := μ ++ (junk :: .lst (bs.map Bx.toD) :: ex)) rfl rfl ?_) rfl)))))
        rw [l_eqI, hk]
      rw [bnd_of c, q]
      simp
    · rcases List.mem_cons.mp hq with z | z
      · rw [z]; exact dr
      · exact h2 q z
end
end K1
set_option maxHeartbeats 4000000
namespace K1
open PySem L2 Mi
section
variable {μ μ1 μ2 μ' g : Mh} {n w : Nat} {l : Int} {d : D} {x y : Str} {τ τ1 τ2 : Sl} {ds es : List D}
noncomputable def four : List Str := ["x", "tell", "vv", "if"]
noncomputable def eight : List Str := four ++ (["v", "not", "and", "or"] : List Str)
noncomputable def rn5 (x : Str) : List Str := four.take 1 ++ x :: four.drop 1
theorem rn_ok (gx : GoodName x) (nx : x ∉ eight) : ∀ y ∈ rn5 x, GoodName y ∧ y ∉ (["v", "not", "and", "or"] : List Str) := by
  have h : ∀ y ∈ four, ((1 ≤ y.length ∧ y.length ≤ 8) ∧ Letters y) ∧ y ∉ (["v", "not", "and", "or"] : List Str) := by unfold Letters; decide +kernel
  intro y hy
  have hy : y ∈ x :: four := by
    have p : (rn5 x).Perm (x :: four) := by
      unfold rn5
      refine List.perm_middle.trans ?_
      rw [List.take_append_drop]
    exact p.mem_iff.mp hy
  rcases List.mem_cons.mp hy with z | z
  · subst z; exact ⟨gx, fun q => nx (List.mem_append_right _ q)⟩
  · exact ⟨⟨(h y z).1.1.1, (h y z).1.1.2, (h y z).1.2⟩, (h y z).2⟩
theorem newB_at {a b c : MO} {ex : Mh} {L : Nat} (h : μ.length = L) (hl : ds.length ≤ sizeLine) : newB ds (μ ++ (a :: b :: c :: ex)) = some (.ref (L + 3 + ex.length), μ ++ (a :: b :: c :: (ex ++ [.lst ds]))) := by
  rw [newB_eq hl]
  subst h
  have e : (μ ++ (a :: b :: c :: ex)).length = μ.length + 3 + ex.length := by simp; omega
  rw [e]
  simp
theorem at3 {a b c o : MO} {ex : Mh} {L : Nat} (h : μ.length = L) : (μ ++ (a :: b :: c :: (ex ++ [o])))[L + 3 + ex.length]? = some o := by
  subst h
  rw [List.getElem?_append_right (by omega), show μ.length + 3 + ex.length - μ.length = ex.length + 1 + 1 + 1 from by omega]
  simp
theorem set3 {a b c o p : MO} {ex : Mh} {L : Nat} (h : μ.length = L) : (μ ++ (a :: b :: c :: (ex ++ [o]))).set (L + 3 + ex.length) p = μ ++ (a :: b :: c :: (ex ++ [p])) := by
  subst h
  rw [List.set_append_right _ _ (by omega), show μ.length + 3 + ex.length - μ.length = ex.length + 1 + 1 + 1 from by omega]
  simp
noncomputable abbrev manyB : Sl → M (Fl × Sl) := (sIf (mTest (mOp pyEq (mSlot 5) (mSlot 9))) (sAsg (mC (.int 60)) (bName 11)) sNil)
noncomputable abbrev handB : Sl → M (Fl × Sl) := (sSeq (sAsg (mOp pyIx (mDisp newL (aCons (mC (.int 0)) (aCons (mC (.int 1)) (aCons (mC (.int 3)) (aCons (mC (.int 5)) (aCons (mC (.int 7)) aNil)))))) (mDisp f__law_draw (aCons (mSlot 0) (aCons (mC (.int 5)) aNil)))) (bName 11))
    (sSeq manyB
    (sSeq (sAsg (mComp 1 [10] (mSrcR (mSlot 4)) (bName 0) (mTest (mOp pyEq (mOp pyIx (mSlot 0) (mC (.int 4))) (mSlot 1))) (mOp pyIx (mSlot 0) (mC (.int 0))) newL) (bName 12))
    (sSeq (sAsg (mDisp newB (aCons (mC (.str "x")) (aCons (mC (.str "tell")) (aCons (mC (.str "vv")) (aCons (mC (.str "if")) aNil))))) (bName 13))
    (sSeq (sExpr (mMethL insF (mSlot 13) (aCons (mC (.int 1)) (aCons (mDisp f__law_any_name (aCons (mSlot 0) (aCons (mOp pyAdd1 (mSlot 13) (mDisp newL (aCons (mC (.str "v")) (aCons (mC (.str "not")) (aCons (mC (.str "and")) (aCons (mC (.str "or")) aNil)))))) aNil))) aNil))))
    (sSeq (sAsg (mSl (mSlot 13) noPart (mPart (mOp pyAdd (mC (.int 1)) (mDisp f__law_draw (aCons (mSlot 0) (aCons (mC (.int 5)) aNil)))))) (bName 13))
    (sSeq (sAsg (mComp 1 [4, 5, 11, 12, 13, 0] (mRng1 (aCons (mSlot 11) aNil)) (bName 0) mTrue rowE newL) (bName 14))
    (sExpr (mMethL appF (mSlot 8) (aCons (mDisp newT (aCons (mSlot 10) (aCons (mOp pyIx (mDisp newL (aCons (mC (.int 0)) (aCons (mC (.int 1)) (aCons (mC (.int 9)) (aCons (mC (.int 99)) (aCons (mC (.int 400)) aNil)))))) (mDisp f__law_draw (aCons (mSlot 0) (aCons (mC (.int 5)) aNil)))) (aCons (mDisp tupleF (aCons (mSlot 14) aNil)) aNil)))) aNil))))))))))
structure HandOk (bs : List Bx) (i : Nat) (h : Hd) : Prop where
  lo : 0 ≤ h.wi
  hi : h.wi ≤ 400
  most : h.rs.length ≤ 60
  rows : ∀ r ∈ h.rs, r.Ok (bs.map kv) h.nm (i == 0) h.rs.length
theorem many_at {i : Int} (h1 : 0 ≤ i) (h2 : i < 5) : ∃ k : Int, 0 ≤ k ∧ k ≤ 60 ∧ atI [D.int 0, .int 1, .int 3, .int 5, .int 7] i = some (.int k) := by
  obtain ⟨k, hk, e⟩ := pick (f := D.int) (xs := [0, 1, 3, 5, 7]) h1 (by show i < 5; exact h2)
  simp at hk
  exact ⟨k, by omega, by omega, e⟩
theorem within_at {i : Int} (h1 : 0 ≤ i) (h2 : i < 5) : ∃ k : Int, 0 ≤ k ∧ k ≤ 400 ∧ atI [D.int 0, .int 1, .int 9, .int 99, .int 400] i = some (.int k) := by
  obtain ⟨k, hk, e⟩ := pick (f := D.int) (xs := [0, 1, 9, 99, 400]) h1 (by show i < 5; exact h2)
  simp at hk
  exact ⟨k, by omega, by omega, e⟩
theorem hand_loop {bs : List Bx} {junk : MO} {L : Nat} {lg : Int} {o1 o2 o3 o6 o7 : Option D} (hnd : (bs.map Bx.nm).Nodup) (hbs : ∀ b ∈ bs, GoodName b.nm) (hbw : ∀ b ∈ bs, PyData.strOk b.wr = true) (hbl : bs.length ≤ 6) : ∀ (rest : List Str) (k : Nat) (hs : List Hd) (ex : Mh) (o5 o10 o11 o12 o13 o14 : Option D) (μ : Mh), WellAt μ w → μ.length = L → hs.length = k → k + rest.length ≤ 4 → (∀ (i : Nat) (h : Hd), hs[i]? = some h → HandOk bs i h) → (∀ x ∈ rest, GoodName x) → ∃ (hs' : List Hd) (ex' : Mh) (o5' o10' o11' o12' o13' o14' : Option D) (μ' : Mh),
    forGo (bTup [5, 10]) handB (enumD k (rest.map D.str)) [some (.ref w), o1, o2, o3, some (.ref (L + 1)), o5, o6, o7, some (.ref (L + 2)), some (.int lg), o10, o11, o12, o13, o14] (μ ++ (junk :: MO.lst (bs.map Bx.toD) :: MO.lst (hs.map Hd.toD) :: ex)) =
      some ((.next, [some (.ref w), o1, o2, o3, some (.ref (L + 1)), o5', o6, o7, some (.ref (L + 2)), some (.int lg), o10', o11', o12', o13', o14']), μ' ++ (junk :: .lst (bs.map Bx.toD) :: .lst (hs'.map Hd.toD) :: ex')) ∧ Upd w μ μ' ∧ hs'.map Hd.nm = hs.map Hd.nm ++ rest ∧ (∀ (i : Nat) (h : Hd), hs'[i]? = some h → HandOk bs i h)
  | [], k, hs, ex, o5, o10, o11, o12, o13, o14, μ, hw, hL, hk, hr, ok, gn => ⟨hs, ex, o5, o10, o11, o12, o13, o14, μ, rfl, hw.refl, by simp, ok⟩
  | nm :: rest, k, hs, ex, o5, o10, o11, o12, o13, o14, μ, hw, hL, hk, hr, ok, gn => by
    have hz : sizeLine = 16777216 := by decide
    have gnm := gn nm (by simp)
    obtain ⟨r1, μ1, e1, a1, b1, u1⟩ := v_drawG (g := junk :: .lst (bs.map Bx.toD) :: .lst (hs.map Hd.toD) :: ex) (b := 5) hw (by decide) (by decide)
    have w1 := u1.well hw.lt
    have len1 : μ1.length = L := by rw [u1.len, hL]
    obtain ⟨m0, m1, m2, em⟩ := many_at a1 b1
    obtain ⟨many, hm1, hm2, emany⟩ : ∃ many : Int, 0 ≤ many ∧ many ≤ 60 ∧ manyB [some (.ref w), o1, o2, o3, some (.ref (L + 1)), some (.int k), o6, o7, some (.ref (L + 2)), some (.int lg), some (.str nm), some (.int m0), o12, o13, o14] (μ1 ++ (junk :: MO.lst (bs.map Bx.toD) :: MO.lst (hs.map Hd.toD) :: ex)) = some ((.next, [some (.ref w), o1, o2, o3, some (.ref (L + 1)), some (.int k), o6, o7, some (.ref (L + 2)), some (.int lg), some (.str nm), some (.int many), o12, o13, o14]), μ1 ++ (junk :: MO.lst (bs.map Bx.toD) :: MO.lst (hs.map Hd.toD) :: ex)) := by
      by_cases c : (k : Int) = lg
      · exact ⟨60, by decide, by decide, ev_ifT (ev_test (ev_op (x := .int k) (y := .int lg) rfl rfl (l_eqIT c))) rfl⟩
      · exact ⟨m0, m1, m2, ev_ifF (ev_test (ev_op (x := .int k) (y := .int lg) rfl rfl (l_eqIF c))) rfl⟩
    have w1' : WellAt (μ1 ++ (junk :: MO.lst (bs.map Bx.toD) :: MO.lst (hs.map Hd.toD) :: (ex ++ [MO.lst (four.map D.str)]))) w := w1.app
    obtain ⟨x, ν2, q2, gx, nx, v2⟩ := v_any_name (os := .lst (eight.map D.str)) (xs := eight) w1' (fun y ν _ => l_inL) (by decide +kernel)
    obtain ⟨μ2, u2, rfl⟩ := v2.app w1.lt
    have w2 := u2.well w1.lt
    have len2 : μ2.length = L := by rw [u2.len, len1]
    have l4 : (four.map D.str).length = 4 := rfl
    have ins := l_insAt (μ := μ2 ++ (junk :: MO.lst (bs.map Bx.toD) :: MO.lst (hs.map Hd.toD) :: (ex ++ [MO.lst (four.map D.str)]))) (n := L + 3 + ex.length) (i := 1) (d := .str x) (at3 len2) (by decide) (by decide) (by rw [l4]; omega)
    rw [set3 len2] at ins
    have ern : (four.map D.str).take (1 : Int).toNat ++ D.str x :: (four.map D.str).drop (1 : Int).toNat = (rn5 x).map D.str := rfl
    rw [ern] at ins
    obtain ⟨r3, μ3, e3, a3, b3, u3⟩ := v_drawG (g := junk :: .lst (bs.map Bx.toD) :: .lst (hs.map Hd.toD) :: (ex ++ [MO.lst ((rn5 x).map D.str)])) (b := 5) w2 (by decide) (by decide)
    have w3 := u3.well w2.lt
    have len3 : μ3.length = L := by rw [u3.len, len2]
    obtain ⟨c, rfl⟩ := Int.eq_ofNat_of_zero_le a3
    have hrn : ∀ y ∈ (rn5 x).take (1 + c), GoodName y ∧ y ∉ (["v", "not", "and", "or"] : List Str) := fun y hy => rn_ok gx nx y (List.mem_of_mem_take hy)
    have hne : (rn5 x).take (1 + c) ≠ [] := by
      intro z
      have := congrArg List.length z
      rw [List.length_take] at this
      have l5 : (rn5 x).length = 5 := rfl
      rw [l5] at this
      simp at this
    have hrl : ((rn5 x).take (1 + c)).length ≤ 100 := by
      rw [List.length_take]
      have l5 : (rn5 x).length = 5 := rfl
      omega
    obtain ⟨rs, μ4, q4, h41, h42, u4⟩ := rows_go (nm := nm) (k := k) (junk := junk) (ex := .lst (hs.map Hd.toD) :: (ex ++ [MO.lst ((rn5 x).map D.str)])) (many := many) hbs hbl (fun y hy => (hrn y hy).1) hne hrl hm1 hm2 ((List.range' 0 many.toNat).map fun j : Nat => D.int j) [] μ3 w3 len3
    have hrs : rs.length = many.toNat := by rw [h41]; simp
    have hrsI : ((rs.length : Nat) : Int) = many := by omega
    have w4 := u4.well w3.lt
    have len4 : μ4.length = L := by rw [u4.len, len3]
    obtain ⟨r5, μ5, e5, a5, b5, u5⟩ := v_drawG (g := junk :: .lst (bs.map Bx.toD) :: .lst (hs.map Hd.toD) :: (ex ++ [MO.lst ((rn5 x).map D.str)])) (b := 5) w4 (by decide) (by decide)
    have w5 := u5.well w4.lt
    have len5 : μ5.length = L := by rw [u5.len, len4]
    obtain ⟨wi, i1, i2, ewi⟩ := within_at a5 b5
    have ok' : ∀ (i : Nat) (h : Hd), (hs ++ [(⟨nm, wi, rs⟩ : Hd)])[i]? = some h → HandOk bs i h := by
      intro i h e
      by_cases hi : i < hs.length
      · rw [List.getElem?_append_left hi] at e; exact ok i h e
      · have hi2 := (List.getElem?_eq_some_iff.mp e).1
        simp at hi2
        have hik : i = hs.length := by omega
        subst hik
        rw [List.getElem?_concat_length] at e
        cases e
        refine ⟨i1, i2, by show rs.length ≤ 60; omega, fun r hr => ?_⟩
        show r.Ok (bs.map kv) nm (hs.length == 0) rs.length
        rw [hrsI, hk]
        exact drawn_ok hnd hrn (h42 r hr)
    obtain ⟨hs', ex', o5', o10', o11', o12', o13', o14', μ', q, u, hnm, okk⟩ := hand_loop (junk := junk) (lg := lg) (o1 := o1) (o2 := o2) (o3 := o3) (o6 := o6) (o7 := o7) hnd hbs hbw hbl rest (k + 1) (hs ++ [⟨nm, wi, rs⟩]) (ex ++ [MO.lst ((rn5 x).map D.str)]) (some (.int k)) (some (.str nm)) (some (.int many)) (some (.lst ((own bs nm).map D.str))) (some (.lst (((rn5 x).take (1 + c)).map D.str))) (some (.lst (rs.map Rw.toD))) μ5 w5 len5 (by simp [hk]) (by simp at hr; omega) ok' (fun y hy => gn y (by simp [hy]))
    refine ⟨hs', ex', o5', o10', o11', o12', o13', o14', μ', ?_, u1.trans (u2.trans (u3.trans (u4.trans (u5.trans u)))), by rw [hnm]; simp, okk⟩
    have ap := l_appAt (μ := μ5 ++ (junk :: MO.lst (bs.map Bx.toD) :: MO.lst (hs.map Hd.toD) :: (ex ++ [MO.lst ((rn5 x).map D.str)]))) (n := L + 2) (d := (Hd.mk nm wi rs).toD) (at2 len5) (by rw [List.length_map]; omega)
    rw [set2 len5] at ap
    have eb : hs.map Hd.toD ++ [(Hd.mk nm wi rs).toD] = (hs ++ [(⟨nm, wi, rs⟩ : Hd)]).map Hd.toD := by simp
    rw [eb] at ap
    rw [List.map_cons]
    refine ev_forCons (τ1 := [some (.ref w), o1, o2, o3, some (.ref (L + 1)), some (.int k), o6, o7, some (.ref (L + 2)), some (.int lg), some (.str nm), o11, o12, o13, o14]) (μ1 := μ ++ (junk :: MO.lst (bs.map Bx.toD) :: MO.lst (hs.map Hd.toD) :: ex)) rfl ?_ q
    refine ev_seq (τ1 := [some (.ref w), o1, o2, o3, some (.ref (L + 1)), some (.int k), o6, o7, some (.ref (L + 2)), some (.int lg), some (.str nm), some (.int m0), o12, o13, o14]) (μ1 := μ1 ++ (junk :: MO.lst (bs.map Bx.toD) :: MO.lst (hs.map Hd.toD) :: ex)) (ev_asg (ev_op (x := .lst [D.int 0, .int 1, .int 3, .int 5, .int 7]) (y := .int r1) rfl (ev_disp (ds := [.ref w, .int 5]) rfl e1) (l_ixL em)) rfl) ?_
    refine ev_seq emany ?_
    refine ev_seq (τ1 := [some (.ref w), o1, o2, o3, some (.ref (L + 1)), some (.int k), o6, o7, some (.ref (L + 2)), some (.int lg), some (.str nm), some (.int many), some (.lst ((own bs nm).map D.str)), o13, o14]) (μ1 := μ1 ++ (junk :: MO.lst (bs.map Bx.toD) :: MO.lst (hs.map Hd.toD) :: ex)) (ev_asg (d := .lst ((own bs nm).map D.str)) (ev_comp (ds := bs.map Bx.toD) (l_srcR (n := L + 1) rfl (at1 len1)) (by rw [List.length_map]; omega) (own_go gnm.ok bs [] hbw) (newL_eq (by rw [List.nil_append, List.length_map]; unfold own; rw [List.length_map]; exact Nat.le_trans (List.length_filter_le _ _) (by omega)))) rfl) ?_
    refine ev_seq (τ1 := [some (.ref w), o1, o2, o3, some (.ref (L + 1)), some (.int k), o6, o7, some (.ref (L + 2)), some (.int lg), some (.str nm), some (.int many), some (.lst ((own bs nm).map D.str)), some (.ref (L + 3 + ex.length)), o14]) (μ1 := μ1 ++ (junk :: MO.lst (bs.map Bx.toD) :: MO.lst (hs.map Hd.toD) :: (ex ++ [MO.lst (four.map D.str)]))) (ev_asg (ev_disp (ds := four.map D.str) rfl (newB_at len1 (by rw [l4]; omega))) rfl) ?_
    have ad1 : pyAdd1 (.ref (L + 3 + ex.length)) (.lst [D.str "v", .str "not", .str "and", .str "or"]) (μ1 ++ (junk :: MO.lst (bs.map Bx.toD) :: MO.lst (hs.map Hd.toD) :: (ex ++ [MO.lst (four.map D.str)]))) = some (.lst (eight.map D.str), μ1 ++ (junk :: MO.lst (bs.map Bx.toD) :: MO.lst (hs.map Hd.toD) :: (ex ++ [MO.lst (four.map D.str)]))) := by
      show (match (μ1 ++ (junk :: MO.lst (bs.map Bx.toD) :: MO.lst (hs.map Hd.toD) :: (ex ++ [MO.lst (four.map D.str)])))[L + 3 + ex.length]? with | some (.lst a) => newL (a ++ [D.str "v", .str "not", .str "and", .str "or"]) (μ1 ++ (junk :: MO.lst (bs.map Bx.toD) :: MO.lst (hs.map Hd.toD) :: (ex ++ [MO.lst (four.map D.str)]))) | _ => none) = _
      rw [at3 len1]
      exact newL_eq (by show 8 ≤ sizeLine; omega)
    refine ev_seq (μ1 := μ2 ++ (junk :: MO.lst (bs.map Bx.toD) :: MO.lst (hs.map Hd.toD) :: (ex ++ [MO.lst ((rn5 x).map D.str)]))) (ev_expr (ev_meth (x := .ref (L + 3 + ex.length)) (μ1 := μ1 ++ (junk :: MO.lst (bs.map Bx.toD) :: MO.lst (hs.map Hd.toD) :: (ex ++ [MO.lst (four.map D.str)]))) rfl (l_guardAt (at3 len1)) (ev_consA (x := .int 1) (ds := [.str x]) rfl (ev_consA (ds := []) (ev_disp (ds := [.ref w, .lst (eight.map D.str)]) (ev_consA (x := .ref w) (ds := [.lst (eight.map D.str)]) (μ1 := μ1 ++ (junk :: MO.lst (bs.map Bx.toD) :: MO.lst (hs.map Hd.toD) :: (ex ++ [MO.lst (four.map D.str)]))) rfl (ev_consA (ds := []) (ev_op (x := .ref (L + 3 + ex.length)) (y := .lst [D.str "v", .str "not", .str "and", .str "or"]) rfl rfl ad1) rfl)) q2) rfl)) ins)) ?_
    refine ev_seq (τ1 := [some (.ref w), o1, o2, o3, some (.ref (L + 1)), some (.int k), o6, o7, some (.ref (L + 2)), some (.int lg), some (.str nm), some (.int many), some (.lst ((own bs nm).map D.str)), some (.lst (((rn5 x).take (1 + c)).map D.str)), o14]) (μ1 := μ3 ++ (junk :: MO.lst (bs.map Bx.toD) :: MO.lst (hs.map Hd.toD) :: (ex ++ [MO.lst ((rn5 x).map D.str)]))) (ev_asg (ev_sl (x := .ref (L + 3 + ex.length)) (a := none) (b := some ((1 + c : Nat) : Int)) (μ1 := μ2 ++ (junk :: MO.lst (bs.map Bx.toD) :: MO.lst (hs.map Hd.toD) :: (ex ++ [MO.lst ((rn5 x).map D.str)]))) (μ2 := μ2 ++ (junk :: MO.lst (bs.map Bx.toD) :: MO.lst (hs.map Hd.toD) :: (ex ++ [MO.lst ((rn5 x).map D.str)]))) rfl rfl (ev_part (ev_op (x := .int 1) (y := .int c) (μ1 := μ2 ++ (junk :: MO.lst (bs.map Bx.toD) :: MO.lst (hs.map Hd.toD) :: (ex ++ [MO.lst ((rn5 x).map D.str)]))) rfl (ev_disp (ds := [.ref w, .int 5]) rfl e3) (by rw [l_add]; rfl))) (by rw [l_slR (at3 len3), cut_to, List.map_take])) rfl) ?_
    refine ev_seq (τ1 := [some (.ref w), o1, o2, o3, some (.ref (L + 1)), some (.int k), o6, o7, some (.ref (L + 2)), some (.int lg), some (.str nm), some (.int many), some (.lst ((own bs nm).map D.str)), some (.lst (((rn5 x).take (1 + c)).map D.str)), some (.lst (rs.map Rw.toD))]) (μ1 := μ4 ++ (junk :: MO.lst (bs.map Bx.toD) :: MO.lst (hs.map Hd.toD) :: (ex ++ [MO.lst ((rn5 x).map D.str)]))) (ev_asg (d := .lst (rs.map Rw.toD)) (ev_comp (l_rng (m := many) rfl hm1 (by omega)) (by simp; omega) q4 (by rw [List.nil_append]; exact newL_eq (by rw [List.length_map]; omega))) rfl) ?_
    exact ev_expr (ev_meth (x := .ref (L + 2)) (μ1 := μ4 ++ (junk :: MO.lst (bs.map Bx.toD) :: MO.lst (hs.map Hd.toD) :: (ex ++ [MO.lst ((rn5 x).map D.str)]))) rfl (l_guardAt (at2 len4)) (ev_consA (ds := []) (ev_disp (ds := [.str nm, .int wi, .tup (rs.map Rw.toD)]) (μ1 := μ5 ++ (junk :: MO.lst (bs.map Bx.toD) :: MO.lst (hs.map Hd.toD) :: (ex ++ [MO.lst ((rn5 x).map D.str)]))) (ev_consA (μ1 := μ4 ++ (junk :: MO.lst (bs.map Bx.toD) :: MO.lst (hs.map Hd.toD) :: (ex ++ [MO.lst ((rn5 x).map D.str)]))) rfl (ev_consA (ev_op (x := .lst [D.int 0, .int 1, .int 9, .int 99, .int 400]) (y := .int r5) rfl (ev_disp (ds := [.ref w, .int 5]) rfl e5) (l_ixL ewi)) (ev_consA (ds := []) (ev_disp (ds := [.lst (rs.map Rw.toD)]) rfl l_tupL) rfl))) (newT_eq (by show 3 ≤ sizeLine; omega))) rfl) ap)
end
end K1
set_option maxHeartbeats 4000000
namespace K1
open PySem L2 Mi
section
variable {μ μ1 μ2 μ' g : Mh} {n w : Nat} {l : Int} {d : D} {x y : Str} {τ τ1 τ2 : Sl} {ds es : List D}
theorem clL_map {α : Type} {f : α → D} {k : Nat} (h : ∀ a, Cl k (f a)) : ∀ xs : List α, ClL k (xs.map f)
  | [] => by simp [ClL]
  | x :: r => by rw [List.map_cons]; unfold ClL; exact ⟨h x, clL_map h r⟩
theorem Bx.cl {k : Nat} (b : Bx) : Cl k b.toD := by simp [Bx.toD, Cl, ClL]
theorem Hd.cl {k : Nat} (b : Hd) : Cl k b.toD := by
  have := clL_map (k := k) (f := Rw.toD) (fun r => r.cl) b.rs
  simp [Hd.toD, Cl, ClL, this]
theorem Mk.cl {k : Nat} (m : Mk) : Cl k m.toD := by
  have h1 := clL_map (k := k) (f := Bx.toD) (fun r => r.cl) m.bs
  have h2 := clL_map (k := k) (f := Hd.toD) (fun r => r.cl) m.hs
  simp [Mk.toD, Cl, ClL, h1, h2]
theorem v_making (hw : WellAt μ w) : ∃ (m : Mk) (μ' : Mh), f__law_making [.ref w] μ = some (m.toD, μ') ∧ m.Ok ∧ Upd w μ μ' := by
  have hz : sizeLine = 16777216 := by decide
  obtain ⟨sm, c, r, junk, μ1, N, c2, c4, u1, P⟩ := names_part hw
  have w1 := u1.well hw.lt
  have len1 : μ1.length = μ.length := u1.len
  have nsl : (sm.take c).length = c := by rw [List.length_take, N.len]; omega
  have nsne : sm.take c ≠ [] := by intro z; rw [z] at nsl; simp at nsl; omega
  have nsg : ∀ y ∈ sm.take c, GoodName y := fun y hy => N.good y (List.mem_of_mem_take hy)
  have nsd : (sm.take c).Nodup := N.nd.sublist (List.take_sublist _ _)
  obtain ⟨r2, μ2, e2, a2, b2, u2⟩ := v_drawG (g := [junk, .lst []]) (b := 7) w1 (by decide) (by decide)
  have w2 := u2.well w1.lt
  have len2 : μ2.length = μ.length := by rw [u2.len, len1]
  obtain ⟨bs, o5, o6, o7, μ3, q3, u3, B⟩ := box_loop (sm := sm) (ns := sm.take c) (junk := junk) (o2 := some (.int r)) (L := μ.length) N.len nsne (by omega) r2.toNat 0 [] none none none μ2 w2 len2 (by omega) ⟨by simp, by simp, by simp⟩
  rw [Nat.zero_add] at B
  have w3 := u3.well w2.lt
  have len3 : μ3.length = μ.length := by rw [u3.len, len2]
  have bl : bs.length ≤ 6 := by
    have := congrArg List.length B.nms
    rw [List.length_map, List.length_take] at this
    omega
  have bnd' : (bs.map Bx.nm).Nodup := by
    rw [B.nms]
    exact ((List.reverse_perm sm).nodup_iff.mpr N.nd).sublist (List.take_sublist _ _)
  have bg : ∀ b ∈ bs, GoodName b.nm := fun b hb => by
    have : b.nm ∈ sm.reverse.take r2.toNat := by rw [← B.nms]; exact List.mem_map.mpr ⟨b, hb, rfl⟩
    exact N.good _ (List.mem_reverse.mp (List.mem_of_mem_take this))
  have hln : ((((sm.take c).map D.str).length : Nat) : Int) = c := by rw [List.length_map, nsl]
  obtain ⟨lg, μ4, e4, a4, b4, u4⟩ := v_drawG (g := [junk, .lst (bs.map Bx.toD), .lst []]) (b := 9 * ((((sm.take c).map D.str).length : Nat) : Int)) w3 (by omega) (by omega)
  have w4 := u4.well w3.lt
  have len4 : μ4.length = μ.length := by rw [u4.len, len3]
  obtain ⟨hs, ex, p5, p10, p11, p12, p13, p14, μ5, q5, u5, hnm, hok⟩ := hand_loop (bs := bs) (junk := junk) (L := μ.length) (lg := lg) (o1 := some (.lst (sm.map D.str))) (o2 := some (.int r)) (o3 := some (.lst ((sm.take c).map D.str))) (o6 := o6) (o7 := o7) bnd' bg (fun b hb => (nsg _ (B.wri b hb)).ok) bl (sm.take c) 0 [] [] o5 none none none none none μ4 w4 len4 rfl (by rw [nsl]; omega) (by simp) nsg
  have w5 := u5.well w4.lt
  have len5 : μ5.length = μ.length := by rw [u5.len, len4]
  obtain ⟨r6, μ6, e6, a6, b6, u6⟩ := v_drawG (g := junk :: .lst (bs.map Bx.toD) :: .lst (hs.map Hd.toD) :: ex) (b := 9) w5 (by decide) (by decide)
  have w6 := u6.well w5.lt
  obtain ⟨r7, μ7, e7, a7, b7, u7⟩ := v_drawG (g := junk :: .lst (bs.map Bx.toD) :: .lst (hs.map Hd.toD) :: ex) (b := 3) w6 (by decide) (by decide)
  have w7 := u7.well w6.lt
  obtain ⟨kd, hkd, ek⟩ := kind_at a7 b7
  obtain ⟨r8, μ8, e8, a8, b8, u8⟩ := v_drawG (g := junk :: .lst (bs.map Bx.toD) :: .lst (hs.map Hd.toD) :: ex) (b := 2 + r6) w7 (by omega) (by omega)
  have len8 : μ8.length = μ.length := by rw [u8.len, u7.len, u6.len, len5]
  have u : Upd w μ μ8 := u1.trans (u2.trans (u3.trans (u4.trans (u5.trans (u6.trans (u7.trans u8))))))
  have hnm2 : hs.map Hd.nm = sm.take c := by rw [hnm]; rfl
  have hsl : hs.length = c := by have := congrArg List.length hnm2; rw [List.length_map, nsl] at this; exact this
  refine ⟨⟨kd, 2 + r6, r8, bs, hs⟩, μ8, ?_, ?_, u⟩
  · refine callF_upd (g := junk :: .lst (bs.map Bx.toD) :: .lst (hs.map Hd.toD) :: ex) (τ2 := [some (.ref w), some (.lst (sm.map D.str)), some (.int r), some (.lst ((sm.take c).map D.str)), some (.ref (μ.length + 1)), p5, some (.int (2 + r6)), some (.str kd), some (.ref (μ.length + 2)), some (.int lg), p10, p11, p12, p13, p14]) ?_ rfl u (Mk.cl _)
    refine P ?_
    refine ev_seq (τ1 := [some (.ref w), some (.lst (sm.map D.str)), some (.int r), some (.lst ((sm.take c).map D.str)), some (.ref (μ.length + 1)), none, none, none, none, none, none, none, none, none, none]) (μ1 := μ1 ++ [junk, .lst []]) (ev_asg (d := .ref (μ.length + 1)) (μ1 := μ1 ++ [junk, .lst []]) (ev_disp (ds := []) rfl (by rw [newB_eq (by show 0 ≤ sizeLine; omega), List.length_append, len1, List.append_assoc]; rfl)) rfl) ?_
    refine ev_seq (ev_for (l_rng (m := r2) (μ1 := μ2 ++ [junk, .lst []]) (ev_consA (ds := []) (ev_disp (ds := [.ref w, .int 7]) rfl e2) rfl) a2 (by omega)) q3) ?_
    refine ev_seq (τ1 := [some (.ref w), some (.lst (sm.map D.str)), some (.int r), some (.lst ((sm.take c).map D.str)), some (.ref (μ.length + 1)), o5, o6, o7, some (.ref (μ.length + 2)), none, none, none, none, none, none]) (μ1 := μ3 ++ [junk, .lst (bs.map Bx.toD), .lst []]) (ev_asg (d := .ref (μ.length + 2)) (μ1 := μ3 ++ [junk, .lst (bs.map Bx.toD), .lst []]) (ev_disp (ds := []) rfl (by rw [newB_eq (by show 0 ≤ sizeLine; omega), List.length_append, len3, List.append_assoc]; rfl)) rfl) ?_
    refine ev_seq (τ1 := [some (.ref w), some (.lst (sm.map D.str)), some (.int r), some (.lst ((sm.take c).map D.str)), some (.ref (μ.length + 1)), o5, o6, o7, some (.ref (μ.length + 2)), some (.int lg), none, none, none, none, none]) (μ1 := μ4 ++ [junk, .lst (bs.map Bx.toD), .lst []]) (ev_asg (ev_disp (ds := [.ref w, .int (9 * ((((sm.take c).map D.str).length : Nat) : Int))]) (μ1 := μ3 ++ [junk, .lst (bs.map Bx.toD), .lst []]) (ev_consA (μ1 := μ3 ++ [junk, .lst (bs.map Bx.toD), .lst []]) rfl (ev_consA (ds := []) (μ1 := μ3 ++ [junk, .lst (bs.map Bx.toD), .lst []]) (ev_op (x := .int 9) (y := .int ((((sm.take c).map D.str).length : Nat) : Int)) (μ1 := μ3 ++ [junk, .lst (bs.map Bx.toD), .lst []]) (μ2 := μ3 ++ [junk, .lst (bs.map Bx.toD), .lst []]) rfl (ev_disp (ds := [.lst ((sm.take c).map D.str)]) rfl l_lenL) (l_mul (.inl (by omega)))) rfl)) e4) rfl) ?_
    refine ev_seq (ev_for (ds := enumD 0 ((sm.take c).map D.str)) (μ1 := μ4 ++ [junk, .lst (bs.map Bx.toD), .lst []]) rfl q5) ?_
    refine ev_seq (τ1 := [some (.ref w), some (.lst (sm.map D.str)), some (.int r), some (.lst ((sm.take c).map D.str)), some (.ref (μ.length + 1)), p5, some (.int (2 + r6)), o7, some (.ref (μ.length + 2)), some (.int lg), p10, p11, p12, p13, p14]) (μ1 := μ6 ++ (junk :: .lst (bs.map Bx.toD) :: .lst (hs.map Hd.toD) :: ex)) (ev_asg (ev_op (x := .int 2) (y := .int r6) rfl (ev_disp (ds := [.ref w, .int 9]) rfl e6) l_add) rfl) ?_
    refine ev_seq (τ1 := [some (.ref w), some (.lst (sm.map D.str)), some (.int r), some (.lst ((sm.take c).map D.str)), some (.ref (μ.length + 1)), p5, some (.int (2 + r6)), some (.str kd), some (.ref (μ.length + 2)), some (.int lg), p10, p11, p12, p13, p14]) (μ1 := μ7 ++ (junk :: .lst (bs.map Bx.toD) :: .lst (hs.map Hd.toD) :: ex)) (ev_asg (ev_op (x := .lst [D.str "safe", .str "steady", .str "whole"]) (y := .int r7) rfl (ev_disp (ds := [.ref w, .int 3]) rfl e7) (l_ixL ek)) rfl) ?_
    refine ev_ret (ev_disp (ds := [.str kd, .int (2 + r6), .int r8, .tup (bs.map Bx.toD), .tup (hs.map Hd.toD)]) (μ1 := μ8 ++ (junk :: .lst (bs.map Bx.toD) :: .lst (hs.map Hd.toD) :: ex)) ?_ (newT_eq (by show 5 ≤ sizeLine; omega)))
    exact ev_consA (μ1 := μ7 ++ (junk :: .lst (bs.map Bx.toD) :: .lst (hs.map Hd.toD) :: ex)) rfl (ev_consA (μ1 := μ7 ++ (junk :: .lst (bs.map Bx.toD) :: .lst (hs.map Hd.toD) :: ex)) rfl (ev_consA (ev_disp (ds := [.ref w, .int (2 + r6)]) rfl e8) (ev_consA (μ1 := μ8 ++ (junk :: .lst (bs.map Bx.toD) :: .lst (hs.map Hd.toD) :: ex)) (ev_disp (ds := [.ref (μ.length + 1)]) rfl (l_tupR (at1 len8))) (ev_consA (μ1 := μ8 ++ (junk :: .lst (bs.map Bx.toD) :: .lst (hs.map Hd.toD) :: ex)) (ev_disp (ds := [.ref (μ.length + 2)]) rfl (l_tupR (at2 len8))) rfl))))
  · refine ⟨⟨hkd, by show 2 ≤ 2 + r6; omega, by show 2 + r6 ≤ 10; omega, a8, by show r8 ≤ 2 + r6 - 1; omega⟩, fun b hb => ⟨bg b hb, B.wor b hb⟩, bl, bnd', fun h hh => ?_, by show 2 ≤ hs.length; omega, by show hs.length ≤ 4; omega, by show (hs.map Hd.nm).Nodup; rw [hnm2]; exact nsd, fun b hb => ?_, fun i h e => (hok i h e).rows⟩
    · obtain ⟨i, e⟩ := List.mem_iff_getElem?.mp hh
      have H := hok i h e
      exact ⟨nsg _ (by rw [← hnm2]; exact List.mem_map.mpr ⟨h, hh, rfl⟩), H.lo, H.hi, H.most⟩
    · show b.wr ∈ hs.map Hd.nm
      rw [hnm2]; exact B.wri b hb
end
end K1
set_option maxHeartbeats 4000000
namespace K1
open PySem L2 Mi
section
variable {μ μ1 μ2 μ' g : Mh} {n w : Nat} {l : Int} {d : D} {x y : Str} {τ τ1 τ2 : Sl} {ds es : List D}
theorem some4_at {i : Int} (h1 : 0 ≤ i) (h2 : i < 4) : ∃ (k : Str) (s b : Int), Worth k s b ∧ atI [D.tup [.str "safe", .int 2, .int 0], .tup [.str "safe", .int 2, .int 1], .tup [.str "whole", .int 10, .int 9], .tup [.str "steady", .int 10, .int 0]] i = some (.tup [.str k, .int s, .int b]) := by
  obtain ⟨p, hp, e⟩ := pick (f := fun p : Str × Int × Int => D.tup [.str p.1, .int p.2.1, .int p.2.2]) (xs := [("safe", 2, 0), ("safe", 2, 1), ("whole", 10, 9), ("steady", 10, 0)]) h1 (by show i < 4; exact h2)
  refine ⟨p.1, p.2.1, p.2.2, ?_, e⟩
  simp only [List.mem_cons, List.not_mem_nil, or_false] at hp
  rcases hp with rfl | rfl | rfl | rfl <;> exact ⟨by decide +kernel, by decide, by decide, by decide, by decide⟩
theorem with2_at {i : Int} (h1 : 0 ≤ i) (h2 : i < 2) : ∃ k : Int, 0 ≤ k ∧ k ≤ 400 ∧ atI [D.int 0, .int 400] i = some (.int k) := by
  obtain ⟨k, hk, e⟩ := pick (f := D.int) (xs := [0, 400]) h1 (by show i < 2; exact h2)
  simp at hk
  exact ⟨k, by omega, by omega, e⟩
theorem isNon : pyIs true .non .non μ = some (.bl false, μ) := rfl
noncomputable abbrev lawB : Sl → M (Fl × Sl) := (sSeq (sAsg (mDisp f__law_well (aCons (mSlot 1) aNil)) (bName 2))
    (sSeq (sAsg (mDisp f__law_making (aCons (mSlot 2) aNil)) (bName 3))
    (sSeq (sIf (mOr (mTest (mOp (pyIs true) (mDisp f_check_making (aCons (mSlot 3) aNil)) (mC .non))) (mTest (mOp (pyIs true) (mDisp f_check_making (aCons (mSlot 3) aNil)) (mC .non)))) (sRet (mC (.bl false))) sNil)
    (sSeq (sAsg (mDisp newL (aCons (mDisp newT (aCons (mC (.str "safe")) (aCons (mC (.int 2)) (aCons (mC (.int 0)) aNil)))) (aCons (mDisp newT (aCons (mC (.str "safe")) (aCons (mC (.int 2)) (aCons (mC (.int 1)) aNil)))) (aCons (mDisp newT (aCons (mC (.str "whole")) (aCons (mC (.int 10)) (aCons (mC (.int 9)) aNil)))) (aCons (mDisp newT (aCons (mC (.str "steady")) (aCons (mC (.int 10)) (aCons (mC (.int 0)) aNil)))) aNil))))) (bName 4))
    (sSeq (sIf (mTest (mOp (pyIs true) (mDisp f_check_making (aCons (mOp pyAdd (mOp pyIx (mSlot 4) (mDisp f__law_draw (aCons (mSlot 2) (aCons (mC (.int 4)) aNil)))) (mSl (mSlot 3) (mPart (mC (.int 3))) noPart)) aNil)) (mC .non))) (sRet (mC (.bl false))) sNil)
    (sSeq (sAsg (mOp pyIx (mOp pyIx (mSlot 3) (mC (.int 4))) (mC (.int 0))) (bTup [5, 6, 7]))
    (sSeq (sAsg (mDisp newT (aCons (mSlot 5) (aCons (mOp pyIx (mDisp newL (aCons (mC (.int 0)) (aCons (mC (.int 400)) aNil))) (mDisp f__law_draw (aCons (mSlot 2) (aCons (mC (.int 2)) aNil)))) (aCons (mSlot 7) aNil)))) (bName 8))
    (sIf (mTest (mOp (pyIs true) (mDisp f_check_making (aCons (mOp pyAdd (mSl (mSlot 3) noPart (mPart (mC (.int 4)))) (mDisp newT (aCons (mOp pyAdd (mDisp newT (aCons (mSlot 8) aNil)) (mSl (mOp pyIx (mSlot 3) (mC (.int 4))) (mPart (mC (.int 1))) noPart)) aNil))) aNil)) (mC .non))) (sRet (mC (.bl false))) sNil))))))))
theorem Mk.Ok.worths {m : Mk} (h : m.Ok) {k : Str} {s b : Int} (q : Worth k s b) : (Mk.mk k s b m.bs m.hs).Ok :=
  ⟨q, h.boxes, h.most, h.unlike, h.hands, h.least, h.mosth, h.unlikeh, h.writers, h.rows⟩
theorem Mk.Ok.within {m : Mk} (h : m.Ok) {h0 : Hd} {hs : List Hd} (e : m.hs = h0 :: hs) {k : Int} (k1 : 0 ≤ k) (k2 : k ≤ 400) : (Mk.mk m.kd m.sz m.bg m.bs (⟨h0.nm, k, h0.rs⟩ :: hs)).Ok := by
  have en : (Hd.mk h0.nm k h0.rs :: hs).map Hd.nm = m.hs.map Hd.nm := by rw [e]; rfl
  refine ⟨h.worth, h.boxes, h.most, h.unlike, fun q hq => ?_, ?_, ?_, ?_, ?_, fun i q hq => ?_⟩
  · rcases List.mem_cons.mp hq with z | z
    · have := h.hands h0 (by rw [e]; simp)
      rw [z]; exact ⟨this.1, k1, k2, this.2.2.2⟩
    · exact h.hands q (by rw [e]; simp [z])
  · have := h.least; rw [e] at this; exact this
  · have := h.mosth; rw [e] at this; exact this
  · show ((Hd.mk h0.nm k h0.rs :: hs).map Hd.nm).Nodup
    rw [en]; exact h.unlikeh
  · intro b hb
    show b.wr ∈ (Hd.mk h0.nm k h0.rs :: hs).map Hd.nm
    rw [en]; exact h.writers b hb
  · cases i with
    | zero =>
      have hq : some (Hd.mk h0.nm k h0.rs) = some q := hq
      cases hq
      exact h.rows 0 h0 (by rw [e]; rfl)
    | succ i => exact h.rows (i + 1) q (by rw [e]; exact hq)
theorem law_turn {c : Int} {t : D} {o2 o3 o4 o5 o6 o7 o8 o9 : Option D} : ∃ (p2 p3 p4 p5 p6 p7 p8 : Option D) (μ' : Mh), lawB [some t, some (.int c), o2, o3, o4, o5, o6, o7, o8, o9] μ = some ((.next, [some t, some (.int c), p2, p3, p4, p5, p6, p7, p8, o9]), μ') := by
  have hz : sizeLine = 16777216 := by decide
  obtain ⟨a, m, ha, ew⟩ := v_well (μ := μ) (c := c)
  have w1 : WellAt (μ ++ [.lst [.int a, .int m, .int 0]]) μ.length := ⟨a, m, 0, List.getElem?_concat_length, ha⟩
  obtain ⟨mk, μ1, em, ok, u1⟩ := v_making w1
  have w2 := u1.well w1.lt
  have k1 := v_check_making (μ := μ1) ok
  obtain ⟨r3, μ3, e3, a3, b3, u3⟩ := v_draw (b := 4) w2 (by decide) (by decide)
  have w3 := u3.well w2.lt
  obtain ⟨k, s, b, hW, e4⟩ := some4_at a3 b3
  have k2 := v_check_making (μ := μ3) (ok.worths hW)
  obtain ⟨r5, μ5, e5, a5, b5, u5⟩ := v_draw (b := 2) w3 (by decide) (by decide)
  obtain ⟨wi, i1, i2, ewi⟩ := with2_at a5 b5
  cases eh : mk.hs with
  | nil => have := ok.least; rw [eh] at this; simp at this
  | cons h0 hs =>
    have k3 := v_check_making (μ := μ5) (ok.within eh i1 i2)
    have e4' : mk.toD = .tup [.str mk.kd, .int mk.sz, .int mk.bg, .tup (mk.bs.map Bx.toD), .tup (h0.toD :: hs.map Hd.toD)] := by unfold Mk.toD; rw [eh]; rfl
    have sl3 : ∀ ν : Mh, pySl (some 3) none mk.toD ν = some (.tup [.tup (mk.bs.map Bx.toD), .tup (mk.hs.map Hd.toD)], ν) := fun ν => rfl
    have sl4 : ∀ ν : Mh, pySl none (some 4) mk.toD ν = some (.tup [.str mk.kd, .int mk.sz, .int mk.bg, .tup (mk.bs.map Bx.toD)], ν) := fun ν => rfl
    refine ⟨some (.ref μ.length), some mk.toD, some (.lst [D.tup [.str "safe", .int 2, .int 0], .tup [.str "safe", .int 2, .int 1], .tup [.str "whole", .int 10, .int 9], .tup [.str "steady", .int 10, .int 0]]), some (.str h0.nm), some (.int h0.wi), some (.tup (h0.rs.map Rw.toD)), some (Hd.mk h0.nm wi h0.rs).toD, μ5, ?_⟩
    refine ev_seq (τ1 := [some t, some (.int c), some (.ref μ.length), o3, o4, o5, o6, o7, o8, o9]) (ev_asg (ev_disp (ds := [.int c]) rfl ew) rfl) ?_
    refine ev_seq (τ1 := [some t, some (.int c), some (.ref μ.length), some mk.toD, o4, o5, o6, o7, o8, o9]) (ev_asg (ev_disp (ds := [.ref μ.length]) rfl em) rfl) ?_
    have tst : mTest (mOp (pyIs true) (mDisp f_check_making (aCons (mSlot 3) aNil)) (mC .non)) [some t, some (.int c), some (.ref μ.length), some mk.toD, o4, o5, o6, o7, o8, o9] μ1 = some (false, μ1) := ev_test (ev_op (x := .non) (y := .non) (μ1 := μ1) (μ2 := μ1) (ev_disp (ds := [mk.toD]) (μ1 := μ1) rfl k1) rfl isNon)
    refine ev_seq (τ1 := [some t, some (.int c), some (.ref μ.length), some mk.toD, o4, o5, o6, o7, o8, o9]) (μ1 := μ1) (ev_ifF (ev_orF tst tst) rfl) ?_
    refine ev_seq (τ1 := [some t, some (.int c), some (.ref μ.length), some mk.toD, some (.lst [D.tup [.str "safe", .int 2, .int 0], .tup [.str "safe", .int 2, .int 1], .tup [.str "whole", .int 10, .int 9], .tup [.str "steady", .int 10, .int 0]]), o5, o6, o7, o8, o9]) (μ1 := μ1) rfl ?_
    refine ev_seq (τ1 := [some t, some (.int c), some (.ref μ.length), some mk.toD, some (.lst [D.tup [.str "safe", .int 2, .int 0], .tup [.str "safe", .int 2, .int 1], .tup [.str "whole", .int 10, .int 9], .tup [.str "steady", .int 10, .int 0]]), o5, o6, o7, o8, o9]) (μ1 := μ3) (ev_ifF (ev_test (ev_op (x := .non) (y := .non) (μ1 := μ3) (μ2 := μ3) (ev_disp (ds := [(Mk.mk k s b mk.bs mk.hs).toD]) (μ1 := μ3) (ev_consA (ds := []) (μ1 := μ3) (ev_op (x := .tup [.str k, .int s, .int b]) (y := .tup [.tup (mk.bs.map Bx.toD), .tup (mk.hs.map Hd.toD)]) (μ1 := μ3) (μ2 := μ3) (ev_op (x := .lst [D.tup [.str "safe", .int 2, .int 0], .tup [.str "safe", .int 2, .int 1], .tup [.str "whole", .int 10, .int 9], .tup [.str "steady", .int 10, .int 0]]) (y := .int r3) (μ1 := μ1) (μ2 := μ3) rfl (ev_disp (ds := [.ref μ.length, .int 4]) rfl e3) (l_ixL e4)) (ev_sl (x := mk.toD) (a := some 3) (b := none) (μ1 := μ3) (μ2 := μ3) (μ3 := μ3) rfl rfl rfl (sl3 μ3)) rfl) rfl) k2) rfl isNon)) rfl) ?_
    refine ev_seq (τ1 := [some t, some (.int c), some (.ref μ.length), some mk.toD, some (.lst [D.tup [.str "safe", .int 2, .int 0], .tup [.str "safe", .int 2, .int 1], .tup [.str "whole", .int 10, .int 9], .tup [.str "steady", .int 10, .int 0]]), some (.str h0.nm), some (.int h0.wi), some (.tup (h0.rs.map Rw.toD)), o8, o9]) (μ1 := μ3) (ev_asg (d := h0.toD) (μ1 := μ3) (ev_op (x := .tup (h0.toD :: hs.map Hd.toD)) (y := .int 0) (μ1 := μ3) (μ2 := μ3) (ev_op (x := mk.toD) (y := .int 4) (μ1 := μ3) (μ2 := μ3) rfl rfl (by rw [e4']; rfl)) rfl (l_ixT (by unfold atI ixN; rw [if_pos (by decide), if_pos (by simp)]; rfl))) rfl) ?_
    refine ev_seq (τ1 := [some t, some (.int c), some (.ref μ.length), some mk.toD, some (.lst [D.tup [.str "safe", .int 2, .int 0], .tup [.str "safe", .int 2, .int 1], .tup [.str "whole", .int 10, .int 9], .tup [.str "steady", .int 10, .int 0]]), some (.str h0.nm), some (.int h0.wi), some (.tup (h0.rs.map Rw.toD)), some (Hd.mk h0.nm wi h0.rs).toD, o9]) (μ1 := μ5) (ev_asg (d := (Hd.mk h0.nm wi h0.rs).toD) (μ1 := μ5) (ev_disp (ds := [.str h0.nm, .int wi, .tup (h0.rs.map Rw.toD)]) (μ1 := μ5) (ev_consA (μ1 := μ3) rfl (ev_consA (μ1 := μ5) (ev_op (x := .lst [.int 0, .int 400]) (y := .int r5) (μ1 := μ3) (μ2 := μ5) rfl (ev_disp (ds := [.ref μ.length, .int 2]) rfl e5) (l_ixL ewi)) rfl)) (newT_eq (by show 3 ≤ sizeLine; omega))) rfl) ?_
    refine ev_ifF (μ1 := μ5) (ev_test (ev_op (x := .non) (y := .non) (μ1 := μ5) (μ2 := μ5) (ev_disp (ds := [(Mk.mk mk.kd mk.sz mk.bg mk.bs (⟨h0.nm, wi, h0.rs⟩ :: hs)).toD]) (μ1 := μ5) (ev_consA (ds := []) (μ1 := μ5) (ev_op (x := .tup [.str mk.kd, .int mk.sz, .int mk.bg, .tup (mk.bs.map Bx.toD)]) (y := .tup [.tup ((Hd.mk h0.nm wi h0.rs).toD :: hs.map Hd.toD)]) (μ1 := μ5) (μ2 := μ5) (ev_sl (x := mk.toD) (a := none) (b := some 4) (μ1 := μ5) (μ2 := μ5) (μ3 := μ5) rfl rfl rfl (sl4 μ5)) (ev_disp (ds := [.tup ((Hd.mk h0.nm wi h0.rs).toD :: hs.map Hd.toD)]) (μ1 := μ5) (ev_consA (ds := []) (μ1 := μ5) (ev_op (x := .tup [(Hd.mk h0.nm wi h0.rs).toD]) (y := .tup (hs.map Hd.toD)) (μ1 := μ5) (μ2 := μ5) rfl (ev_sl (x := .tup (h0.toD :: hs.map Hd.toD)) (a := some 1) (b := none) (μ1 := μ5) (μ2 := μ5) (μ3 := μ5) (ev_op (x := mk.toD) (y := .int 4) (μ1 := μ5) (μ2 := μ5) rfl rfl (by rw [e4']; rfl)) rfl rfl l_tail) (newT_eq (by have := ok.mosth; rw [eh] at this; simp at this ⊢; omega))) rfl) (newT_eq (by show 1 ≤ sizeLine; omega))) rfl) rfl) k3) rfl isNon)) rfl
theorem law_loop {t : D} {o9 : Option D} : ∀ (cs : List Int) (o1 o2 o3 o4 o5 o6 o7 o8 : Option D) (μ : Mh), ∃ (p1 p2 p3 p4 p5 p6 p7 p8 : Option D) (μ' : Mh), forGo (bName 1) lawB (cs.map D.int) [some t, o1, o2, o3, o4, o5, o6, o7, o8, o9] μ = some ((.next, [some t, p1, p2, p3, p4, p5, p6, p7, p8, o9]), μ')
  | [], o1, o2, o3, o4, o5, o6, o7, o8, μ => ⟨o1, o2, o3, o4, o5, o6, o7, o8, μ, rfl⟩
  | c :: cs, o1, o2, o3, o4, o5, o6, o7, o8, μ => by
    obtain ⟨p2, p3, p4, p5, p6, p7, p8, μ1, q⟩ := law_turn (μ := μ) (c := c) (t := t) (o2 := o2) (o3 := o3) (o4 := o4) (o5 := o5) (o6 := o6) (o7 := o7) (o8 := o8) (o9 := o9)
    obtain ⟨s1, s2, s3, s4, s5, s6, s7, s8, μ', r⟩ := law_loop (t := t) (o9 := o9) cs (some (.int c)) p2 p3 p4 p5 p6 p7 p8 μ1
    exact ⟨s1, s2, s3, s4, s5, s6, s7, s8, μ', ev_forCons (τ1 := [some t, some (.int c), o2, o3, o4, o5, o6, o7, o8, o9]) rfl q r⟩
noncomputable def bare : Mk := ⟨"safe", 2, 0, [], [⟨"a", 0, []⟩, ⟨"b", 0, []⟩]⟩
theorem bare_ok : bare.Ok := by
  have ga : GoodName "a" := ⟨by decide +kernel, by decide +kernel, by unfold Letters; decide +kernel⟩
  have gb : GoodName "b" := ⟨by decide +kernel, by decide +kernel, by unfold Letters; decide +kernel⟩
  refine ⟨⟨by decide +kernel, by decide, by decide, by decide, by decide⟩, (fun b hb => by cases hb), by decide, by decide, fun h hh => ?_, by decide, by decide, (by show (["a", "b"] : List Str).Nodup; decide +kernel), (fun b hb => by cases hb), fun i h e r hr => ?_⟩
  · have hh : h ∈ [(⟨"a", 0, []⟩ : Hd), ⟨"b", 0, []⟩] := hh
    simp at hh
    rcases hh with rfl | rfl
    · exact ⟨ga, by decide, by decide, by decide⟩
    · exact ⟨gb, by decide, by decide, by decide⟩
  · have hh : h ∈ [(⟨"a", 0, []⟩ : Hd), ⟨"b", 0, []⟩] := List.mem_iff_getElem?.mpr ⟨i, e⟩
    simp at hh
    rcases hh with rfl | rfl <;> cases hr
theorem math : ∀ ns : List Int, ns.length ≤ 63 → ∃ μ', f_law [.scr ns] [] = some (.bl true, μ') := by
  intro ns hl
  have hz : sizeLine = 16777216 := by decide
  obtain ⟨c, ec⟩ := v_cell (μ := []) ns
  obtain ⟨cs, ecs, hcs⟩ : ∃ cs : List Int, cutD (ns.map D.int) (some 1) (some 4) = cs.map D.int ∧ cs.length ≤ 63 := by
    unfold cutD
    refine ⟨(ns.drop (HT.sIx (ns.map D.int).length 0 (some 1))).take (HT.sIx (ns.map D.int).length (ns.map D.int).length (some 4) - HT.sIx (ns.map D.int).length 0 (some 1)), by rw [List.map_take, List.map_drop], ?_⟩
    rw [List.length_take, List.length_drop]
    omega
  obtain ⟨p1, p2, p3, p4, p5, p6, p7, p8, μ', q⟩ := law_loop (t := .scr ns) (o9 := none) (c :: cs) none none none none none none none none []
  have kb := v_check_making (μ := μ') bare_ok
  have e : m_law f__law_cell_at f__law_well f__law_making f_check_making f__law_draw (startD 10 [.scr ns]) [] = some ((.rt (.bl true), [some (.scr ns), p1, p2, p3, p4, p5, p6, p7, p8, some (.tup [.tup [.str "a", .int 0, .tup []], .tup [.str "b", .int 0, .tup []]])]), μ') := by
    refine ev_seq (ev_for (ds := (c :: cs).map D.int) (μ1 := []) ?_ q) ?_
    · refine ev_src (x := .lst ((c :: cs).map D.int)) (μ1 := []) (ev_op (x := .lst [.int c]) (y := .lst (cs.map D.int)) (μ1 := []) (μ2 := []) (ev_disp (ds := [.int c]) (μ1 := []) (ev_consA (ds := []) (μ1 := []) (ev_disp (ds := [.scr ns, .int 0]) (μ1 := []) rfl ec) rfl) (newL_eq (by show 1 ≤ sizeLine; omega))) (ev_sl (x := .scr ns) (a := some 1) (b := some 4) (μ1 := []) (μ2 := []) (μ3 := []) rfl rfl rfl ?_) (newL_eq (by simp; omega))) rfl
      show some (D.lst (cutD (ns.map D.int) (some 1) (some 4)), ([] : Mh)) = _
      rw [ecs]
    · refine ev_seq (τ1 := [some (.scr ns), p1, p2, p3, p4, p5, p6, p7, p8, some (.tup [.tup [.str "a", .int 0, .tup []], .tup [.str "b", .int 0, .tup []]])]) (μ1 := μ') rfl ?_
      exact ev_ret (ev_op (x := .non) (y := .non) (μ1 := μ') (μ2 := μ') (ev_disp (ds := [bare.toD]) (μ1 := μ') rfl kb) rfl rfl)
  exact ⟨[], by
    have h := callF_eq (hw := .drop) (ps := 1) e rfl (.inr ⟨_, rfl⟩) ⟨⟨μ', by simp [outM]⟩, by simp, fun j o z => by simp [outM] at z, .inl ⟨rfl, by show Cl _ (D.bl true); unfold Cl; trivial⟩⟩
    show callF .drop 10 1 (m_law f__law_cell_at f__law_well f__law_making f_check_making f__law_draw) [.scr ns] [] = _
    simpa [outM, outD, resD] using h⟩
end
end K1
namespace K1
open PySem L2 Mi
noncomputable def top (i : Nat) : Stmt := PySem.Challenge.pw_strongboxes_k01_makings_let_by.main.body.getD i (.Pass ⟨0, 0, 0, 0⟩)
section
variable {P : Program} {w : World} {K : PySem.W.Frag} {mg : Str → Option Value} {base : Heap}
noncomputable abbrev s_is_whole : Stmt := top 8
theorem sc_is_whole : FnScope ["thing", "least", "most"] ["thing", "least", "most"] (defScope s_is_whole) := ⟨rfl, rfl, rfl, by decide +kernel, rfl, by decide +kernel, by decide +kernel⟩
set_option maxHeartbeats 4000000 in
theorem r_is_whole  {k : Nat} {f : Addr} (y_int : mg "int" = none) (y_isinstance : mg "isinstance" = none) (y_bool : mg "bool" = none) (cdv : Value) (A : Around) (outer : List Env) (s : Shared) (H : Hp) (E : XK) (hr : Room k (A.deeper (PyProof.Rows.envOfC "is_whole" (defScope s_is_whole) s.heap.objs.size f cdv))) :
    RSs (cxOf CX0 P w K mg base ["thing", "least", "most"] "is_whole" (defScope s_is_whole) f cdv A outer s H E).nox (defBody s_is_whole) (m_is_whole) := by
  have nd := sc_is_whole.nd
  exact (rss_one (rs_ret (re_and (re_callB c_inst y_isinstance Mi.boot_isinstance (ra_cons (re_slot 0) (ra_cons (re_bltn y_int Mi.boot_int) ra_nil))) (re_and (re_not (re_callB c_inst y_isinstance Mi.boot_isinstance (ra_cons (re_slot 0) (ra_cons (re_bltn y_bool Mi.boot_bool) ra_nil)))) (re_one (re_chain o_le o_le (re_slot 1) (re_slot 0) (re_slot 2)))))))
noncomputable abbrev s_is_name : Stmt := top 9
theorem sc_is_name : FnScope ["thing"] ["thing"] (defScope s_is_name) := ⟨rfl, rfl, rfl, by decide +kernel, rfl, by decide +kernel, by decide +kernel⟩
set_option maxHeartbeats 4000000 in
theorem r_is_name  {k : Nat} {f : Addr} (y_str : mg "str" = none) (y_isinstance : mg "isinstance" = none) (y_len : mg "len" = none) (y_all : mg "all" = none) (g_LETTERS : Glo K mg "LETTERS" d_LETTERS) (cdv : Value) (A : Around) (outer : List Env) (s : Shared) (H : Hp) (E : XK) (hr : Room k (A.deeper (PyProof.Rows.envOfC "is_name" (defScope s_is_name) s.heap.objs.size f cdv))) :
    RSs (cxOf CX0 P w K mg base ["thing"] "is_name" (defScope s_is_name) f cdv A outer s H E).nox (defBody s_is_name) (m_is_name) := by
  have nd := sc_is_name.nd
  exact (rss_one (rs_ret (re_and (re_callB c_inst y_isinstance Mi.boot_isinstance (ra_cons (re_slot 0) (ra_cons (re_bltn y_str Mi.boot_str) ra_nil))) (re_and (re_chain o_le o_le re_int (re_callB c_len y_len Mi.boot_len (ra_cons (re_slot 0) ra_nil)) re_int) (re_one (re_callB (c_all rfl) y_all Mi.boot_all (ra_cons (re_comp (tgs := ["sign"]) (ix := []) (i := 0) (n := 1) ⟨rfl, by decide +kernel, by decide +kernel, trivial, rfl, by decide +kernel⟩ rfl (ri_str (re_slot 0)) (fun _ _ _ _ => pg_name (i := 0) (show List.Nodup (["sign"] : List Str) from by decide +kernel) rfl (Or.inl rfl)) (fun _ _ _ _ => rifs_nil) (fun _ _ _ _ => (re_cmp o_in (re_slot 0) (re_gl g_LETTERS)))) ra_nil)))))))
noncomputable abbrev s_is_expression : Stmt := top 10
theorem sc_is_expression : FnScope ["thing", "deep", "word"] ["thing", "deep"] (defScope s_is_expression) := ⟨rfl, rfl, rfl, by decide +kernel, rfl, by decide +kernel, by decide +kernel⟩
set_option maxHeartbeats 4000000 in
theorem r_is_expression {φ_is_expression : List D → M D} {k_is_expression : Nat} {φ_is_whole : List D → M D} {k_is_whole : Nat} {φ_is_name : List D → M D} {k_is_name : Nat} {k : Nat} {f : Addr} (F_is_expression : Fn P w K mg base "is_expression" ["thing", "deep"] k_is_expression φ_is_expression) (hk_is_expression : k_is_expression ≤ k) (F_is_whole : Fn P w K mg base "is_whole" ["thing", "least", "most"] k_is_whole φ_is_whole) (hk_is_whole : k_is_whole ≤ k) (F_is_name : Fn P w K mg base "is_name" ["thing"] k_is_name φ_is_name) (hk_is_name : k_is_name ≤ k) (y_tuple : mg "tuple" = none) (y_isinstance : mg "isinstance" = none) (y_len : mg "len" = none) (g_PAIR_WORDS : Glo K mg "PAIR_WORDS" d_PAIR_WORDS) (g_GREATEST : Glo K mg "GREATEST" d_GREATEST) (cdv : Value) (A : Around) (outer : List Env) (s : Shared) (H : Hp) (E : XK) (hr : Room k (A.deeper (PyProof.Rows.envOfC "is_expression" (defScope s_is_expression) s.heap.objs.size f cdv))) :
    RSs (cxOf CX0 P w K mg base ["thing", "deep", "word"] "is_expression" (defScope s_is_expression) f cdv A outer s H E).nox (defBody s_is_expression) (m_is_expression φ_is_expression φ_is_whole φ_is_name) := by
  have nd := sc_is_expression.nd
  exact (rss_cons (rs_if (RW.rt (rw_or (rt_cmp o_lt (re_slot 1) re_int) (rw_or (rt_not (rt_val (re_callB c_inst y_isinstance Mi.boot_isinstance (ra_cons (re_slot 0) (ra_cons (re_bltn y_tuple Mi.boot_tuple) ra_nil))))) (rw_or1 (rt_cmp (o_eq hr) (re_callB c_len y_len Mi.boot_len (ra_cons (re_slot 0) ra_nil)) re_int))))) (rss_one (rs_ret re_bl)) rss_nil)
      (rss_cons (rs_set 2 nd (re_ix o_ix (re_slot 0) re_int))
      (rss_cons (rs_if (rt_cmp o_in (re_slot 2) (re_gl g_PAIR_WORDS)) (rss_one (rs_ret (re_and (re_cmp (o_eq hr) (re_callB c_len y_len Mi.boot_len (ra_cons (re_slot 0) ra_nil)) re_int) (re_and (re_fn (hkj := hk_is_expression) F_is_expression hr (ra_cons (re_ix o_ix (re_slot 0) re_int) (ra_cons (re_op o_sub (re_slot 1) re_int) ra_nil))) (re_one (re_fn (hkj := hk_is_expression) F_is_expression hr (ra_cons (re_ix o_ix (re_slot 0) re_int) (ra_cons (re_op o_sub (re_slot 1) re_int) ra_nil)))))))) rss_nil)
      (rss_cons (rs_if (rt_cmp (o_ne hr) (re_callB c_len y_len Mi.boot_len (ra_cons (re_slot 0) ra_nil)) re_int) (rss_one (rs_ret re_bl)) rss_nil)
      (rss_cons (rs_if (rt_cmp (o_eq hr) (re_slot 2) re_str) (rss_one (rs_ret (re_fn (hkj := hk_is_whole) F_is_whole hr (ra_cons (re_ix o_ix (re_slot 0) re_int) (ra_cons re_int (ra_cons (re_gl g_GREATEST) ra_nil)))))) rss_nil)
      (rss_cons (rs_if (rt_cmp (o_eq hr) (re_slot 2) re_str) (rss_one (rs_ret (re_fn (hkj := hk_is_name) F_is_name hr (ra_cons (re_ix o_ix (re_slot 0) re_int) ra_nil)))) rss_nil)
      (rss_one (rs_ret (re_and (re_cmp (o_eq hr) (re_slot 2) re_str) (re_one (re_fn (hkj := hk_is_expression) F_is_expression hr (ra_cons (re_ix o_ix (re_slot 0) re_int) (ra_cons (re_op o_sub (re_slot 1) re_int) ra_nil)))))))))))))
noncomputable abbrev s_variables_in : Stmt := top 11
theorem sc_variables_in : FnScope ["expression", "names", "part"] ["expression"] (defScope s_variables_in) := ⟨rfl, rfl, rfl, by decide +kernel, rfl, by decide +kernel, by decide +kernel⟩
set_option maxHeartbeats 4000000 in
theorem r_variables_in {φ_variables_in : List D → M D} {k_variables_in : Nat} {k : Nat} {f : Addr} (F_variables_in : Fn P w K mg base "variables_in" ["expression"] k_variables_in φ_variables_in) (hk_variables_in : k_variables_in ≤ k) (cdv : Value) (A : Around) (outer : List Env) (s : Shared) (H : Hp) (E : XK) (hr : Room k (A.deeper (PyProof.Rows.envOfC "variables_in" (defScope s_variables_in) s.heap.objs.size f cdv))) :
    RSs (cxOf CX0 P w K mg base ["expression", "names", "part"] "variables_in" (defScope s_variables_in) f cdv A outer s H E).nox (defBody s_variables_in) (m_variables_in φ_variables_in) := by
  have nd := sc_variables_in.nd
  exact (rss_cons (rs_if (rt_cmp (o_eq hr) (re_ix o_ix (re_slot 0) re_int) re_str) (rss_one (rs_ret (re_lst ra_nil))) rss_nil)
      (rss_cons (rs_if (rt_cmp (o_eq hr) (re_ix o_ix (re_slot 0) re_int) re_str) (rss_one (rs_ret (re_lst (ra_cons (re_ix o_ix (re_slot 0) re_int) ra_nil)))) rss_nil)
      (rss_cons (rs_set 1 nd (re_lstB ra_nil))
      (rss_cons (rs_for PassesOwn.never rfl (ri_seq (re_sl (re_slot 0) (ro_some re_int) ro_none)) (rg_name 2 nd) (rss_one (rs_expr (re_methL PySem.F.slot_list_extend PySem.F.type_list_extend m_extend (re_slot 1) (ra_cons (re_fn (hkj := hk_variables_in) F_variables_in hr (ra_cons (re_slot 2) ra_nil)) ra_nil)))))
      (rss_one (rs_ret (re_slot 1)))))))
noncomputable abbrev s_need : Stmt := top 24
theorem sc_need : FnScope ["holds", "words"] ["holds", "words"] (defScope s_need) := ⟨rfl, rfl, rfl, by decide +kernel, rfl, by decide +kernel, by decide +kernel⟩
set_option maxHeartbeats 4000000 in
theorem r_need  {k : Nat} {f : Addr}  (cdv : Value) (A : Around) (outer : List Env) (s : Shared) (H : Hp) (E : XK) (hr : Room k (A.deeper (PyProof.Rows.envOfC "need" (defScope s_need) s.heap.objs.size f cdv))) :
    RSs (cxOf CX0 P w K mg base ["holds", "words"] "need" (defScope s_need) f cdv A outer s H E).nox (defBody s_need) (m_need) := by
  have nd := sc_need.nd
  exact (rss_one (rs_if (rt_not (rt_val (re_slot 0))) (rss_one rs_never) rss_nil))
noncomputable abbrev s_is_tuple : Stmt := top 25
theorem sc_is_tuple : FnScope ["thing", "least", "most"] ["thing", "least", "most"] (defScope s_is_tuple) := ⟨rfl, rfl, rfl, by decide +kernel, rfl, by decide +kernel, by decide +kernel⟩
set_option maxHeartbeats 4000000 in
theorem r_is_tuple  {k : Nat} {f : Addr} (y_tuple : mg "tuple" = none) (y_isinstance : mg "isinstance" = none) (y_len : mg "len" = none) (cdv : Value) (A : Around) (outer : List Env) (s : Shared) (H : Hp) (E : XK) (hr : Room k (A.deeper (PyProof.Rows.envOfC "is_tuple" (defScope s_is_tuple) s.heap.objs.size f cdv))) :
    RSs (cxOf CX0 P w K mg base ["thing", "least", "most"] "is_tuple" (defScope s_is_tuple) f cdv A outer s H E).nox (defBody s_is_tuple) (m_is_tuple) := by
  have nd := sc_is_tuple.nd
  exact (rss_one (rs_ret (re_and (re_callB c_inst y_isinstance Mi.boot_isinstance (ra_cons (re_slot 0) (ra_cons (re_bltn y_tuple Mi.boot_tuple) ra_nil))) (re_one (re_chain o_le o_le (re_slot 1) (re_callB c_len y_len Mi.boot_len (ra_cons (re_slot 0) ra_nil)) (re_slot 2))))))
noncomputable abbrev s_check_worths : Stmt := top 26
theorem sc_check_worths : FnScope ["kind", "size", "begin"] ["kind", "size", "begin"] (defScope s_check_worths) := ⟨rfl, rfl, rfl, by decide +kernel, rfl, by decide +kernel, by decide +kernel⟩
set_option maxHeartbeats 4000000 in
theorem r_check_worths {φ_need : List D → M D} {k_need : Nat} {φ_is_whole : List D → M D} {k_is_whole : Nat} {k : Nat} {f : Addr} (F_need : Fn P w K mg base "need" ["holds", "words"] k_need φ_need) (hk_need : k_need ≤ k) (F_is_whole : Fn P w K mg base "is_whole" ["thing", "least", "most"] k_is_whole φ_is_whole) (hk_is_whole : k_is_whole ≤ k) (g_KINDS : Glo K mg "KINDS" d_KINDS) (g_LEAST_SIZE : Glo K mg "LEAST_SIZE" d_LEAST_SIZE) (g_MOST_SIZE : Glo K mg "MOST_SIZE" d_MOST_SIZE) (cdv : Value) (A : Around) (outer : List Env) (s : Shared) (H : Hp) (E : XK) (hr : Room k (A.deeper (PyProof.Rows.envOfC "check_worths" (defScope s_check_worths) s.heap.objs.size f cdv))) :
    RSs (cxOf CX0 P w K mg base ["kind", "size", "begin"] "check_worths" (defScope s_check_worths) f cdv A outer s H E).nox (defBody s_check_worths) (m_check_worths φ_need φ_is_whole) := by
  have nd := sc_check_worths.nd
  exact (rss_cons (rs_expr (re_fn (hkj := hk_need) F_need hr (ra_cons (re_cmp o_in (re_slot 0) (re_gl g_KINDS)) (ra_cons re_str ra_nil))))
      (rss_cons (rs_expr (re_fn (hkj := hk_need) F_need hr (ra_cons (re_fn (hkj := hk_is_whole) F_is_whole hr (ra_cons (re_slot 1) (ra_cons (re_gl g_LEAST_SIZE) (ra_cons (re_gl g_MOST_SIZE) ra_nil)))) (ra_cons re_str ra_nil))))
      (rss_one (rs_expr (re_fn (hkj := hk_need) F_need hr (ra_cons (re_fn (hkj := hk_is_whole) F_is_whole hr (ra_cons (re_slot 2) (ra_cons re_int (ra_cons (re_op o_sub (re_slot 1) re_int) ra_nil)))) (ra_cons re_str ra_nil)))))))
noncomputable abbrev s_is_part : Stmt := top 32
theorem sc_is_part : FnScope ["part", "thing", "length"] ["part", "thing", "length"] (defScope s_is_part) := ⟨rfl, rfl, rfl, by decide +kernel, rfl, by decide +kernel, by decide +kernel⟩
set_option maxHeartbeats 4000000 in
theorem r_is_part {φ_is_expression : List D → M D} {k_is_expression : Nat} {φ_is_whole : List D → M D} {k_is_whole : Nat} {φ_is_name : List D → M D} {k_is_name : Nat} {k : Nat} {f : Addr} (F_is_expression : Fn P w K mg base "is_expression" ["thing", "deep"] k_is_expression φ_is_expression) (hk_is_expression : k_is_expression ≤ k) (F_is_whole : Fn P w K mg base "is_whole" ["thing", "least", "most"] k_is_whole φ_is_whole) (hk_is_whole : k_is_whole ≤ k) (F_is_name : Fn P w K mg base "is_name" ["thing"] k_is_name φ_is_name) (hk_is_name : k_is_name ≤ k) (g_DEEPEST : Glo K mg "DEEPEST" d_DEEPEST) (cdv : Value) (A : Around) (outer : List Env) (s : Shared) (H : Hp) (E : XK) (hr : Room k (A.deeper (PyProof.Rows.envOfC "is_part" (defScope s_is_part) s.heap.objs.size f cdv))) :
    RSs (cxOf CX0 P w K mg base ["part", "thing", "length"] "is_part" (defScope s_is_part) f cdv A outer s H E).nox (defBody s_is_part) (m_is_part φ_is_expression φ_is_whole φ_is_name) := by
  have nd := sc_is_part.nd
  exact (rss_cons (rs_if (rt_cmp (o_eq hr) (re_slot 0) re_str) (rss_one (rs_ret (re_fn (hkj := hk_is_expression) F_is_expression hr (ra_cons (re_slot 1) (ra_cons (re_gl g_DEEPEST) ra_nil))))) rss_nil)
      (rss_cons (rs_if (rt_cmp (o_eq hr) (re_slot 0) re_str) (rss_one (rs_ret (re_fn (hkj := hk_is_whole) F_is_whole hr (ra_cons (re_slot 1) (ra_cons re_int (ra_cons (re_slot 2) ra_nil)))))) rss_nil)
      (rss_one (rs_ret (re_fn (hkj := hk_is_name) F_is_name hr (ra_cons (re_slot 1) ra_nil))))))
noncomputable abbrev s_check_ending : Stmt := top 33
theorem sc_check_ending : FnScope ["word", "is_writer"] ["word", "is_writer"] (defScope s_check_ending) := ⟨rfl, rfl, rfl, by decide +kernel, rfl, by decide +kernel, by decide +kernel⟩
set_option maxHeartbeats 4000000 in
theorem r_check_ending {φ_need : List D → M D} {k_need : Nat} {k : Nat} {f : Addr} (F_need : Fn P w K mg base "need" ["holds", "words"] k_need φ_need) (hk_need : k_need ≤ k) (cdv : Value) (A : Around) (outer : List Env) (s : Shared) (H : Hp) (E : XK) (hr : Room k (A.deeper (PyProof.Rows.envOfC "check_ending" (defScope s_check_ending) s.heap.objs.size f cdv))) :
    RSs (cxOf CX0 P w K mg base ["word", "is_writer"] "check_ending" (defScope s_check_ending) f cdv A outer s H E).nox (defBody s_check_ending) (m_check_ending φ_need) := by
  have nd := sc_check_ending.nd
  exact (rss_one (rs_if (rt_val (re_slot 1)) (rss_one (rs_expr (re_fn (hkj := hk_need) F_need hr (ra_cons (re_cmp (o_ne hr) (re_slot 0) re_str) (ra_cons re_str ra_nil))))) (rss_one (rs_expr (re_fn (hkj := hk_need) F_need hr (ra_cons (re_cmp (o_ne hr) (re_slot 0) re_str) (ra_cons re_str ra_nil)))))))
noncomputable abbrev s_check_making : Stmt := top 23
theorem sc_check_making : FnScope ["making", "hand_names", "writers", "box", "number", "hand"] ["making"] (defScope s_check_making) := ⟨rfl, rfl, rfl, by decide +kernel, rfl, by decide +kernel, by decide +kernel⟩
set_option maxHeartbeats 4000000 in
theorem r_check_making {φ_is_tuple : List D → M D} {k_is_tuple : Nat} {φ_need : List D → M D} {k_need : Nat} {φ_check_worths : List D → M D} {k_check_worths : Nat} {φ_check_boxes : List D → M D} {k_check_boxes : Nat} {φ_check_hands : List D → M D} {k_check_hands : Nat} {φ_check_rows : List D → M D} {k_check_rows : Nat} {k : Nat} {f : Addr} (F_is_tuple : Fn P w K mg base "is_tuple" ["thing", "least", "most"] k_is_tuple φ_is_tuple) (hk_is_tuple : k_is_tuple ≤ k) (F_need : Fn P w K mg base "need" ["holds", "words"] k_need φ_need) (hk_need : k_need ≤ k) (F_check_worths : Fn P w K mg base "check_worths" ["kind", "size", "begin"] k_check_worths φ_check_worths) (hk_check_worths : k_check_worths ≤ k) (F_check_boxes : Fn P w K mg base "check_boxes" ["boxes"] k_check_boxes φ_check_boxes) (hk_check_boxes : k_check_boxes ≤ k) (F_check_hands : Fn P w K mg base "check_hands" ["hands"] k_check_hands φ_check_hands) (hk_check_hands : k_check_hands ≤ k) (F_check_rows : Fn P w K mg base "check_rows" ["hand", "is_writer", "writers"] k_check_rows φ_check_rows) (hk_check_rows : k_check_rows ≤ k) (y_enumerate : mg "enumerate" = none) (cdv : Value) (A : Around) (outer : List Env) (s : Shared) (H : Hp) (E : XK) (hr : Room k (A.deeper (PyProof.Rows.envOfC "check_making" (defScope s_check_making) s.heap.objs.size f cdv))) :
    RSs (cxOf CX0 P w K mg base ["making", "hand_names", "writers", "box", "number", "hand"] "check_making" (defScope s_check_making) f cdv A outer s H E).nox (defBody s_check_making) (m_check_making φ_is_tuple φ_need φ_check_worths φ_check_boxes φ_check_hands φ_check_rows) := by
  have nd := sc_check_making.nd
  exact (rss_cons (rs_expr (re_fn (hkj := hk_need) F_need hr (ra_cons (re_fn (hkj := hk_is_tuple) F_is_tuple hr (ra_cons (re_slot 0) (ra_cons re_int (ra_cons re_int ra_nil)))) (ra_cons re_str ra_nil))))
      (rss_cons (rs_expr (re_fn (hkj := hk_check_worths) F_check_worths hr (ra_cons (re_ix o_ix (re_slot 0) re_int) (ra_cons (re_ix o_ix (re_slot 0) re_int) (ra_cons (re_ix o_ix (re_slot 0) re_int) ra_nil)))))
      (rss_cons (rs_expr (re_fn (hkj := hk_check_boxes) F_check_boxes hr (ra_cons (re_ix o_ix (re_slot 0) re_int) ra_nil)))
      (rss_cons (rs_expr (re_fn (hkj := hk_check_hands) F_check_hands hr (ra_cons (re_ix o_ix (re_slot 0) re_int) ra_nil)))
      (rss_cons (rs_setComp 1 (tgs := ["hand"]) (ix := []) (i := 0) (n := 1) nd ⟨rfl, by decide +kernel, by decide +kernel, trivial, rfl, by decide +kernel⟩ rfl (ri_seq (re_ix o_ix (re_slot 0) re_int)) (fun _ _ _ _ => pg_name (i := 0) (show List.Nodup (["hand"] : List Str) from by decide +kernel) rfl (Or.inl rfl)) (fun _ _ _ _ => rifs_nil) (fun _ _ _ _ => (re_ix o_ix (re_slot 0) re_int)) (fun _ _ _ _ _ _ _ _ R i e q => newL_ok R i e q))
      (rss_cons (rs_set 2 nd re_dnew)
      (rss_cons (rs_for PassesOwn.never rfl (ri_seq (re_ix o_ix (re_slot 0) re_int)) (rg_name 3 nd) (rss_cons (rs_expr (re_fn (hkj := hk_need) F_need hr (ra_cons (re_cmp o_in (re_ix o_ix (re_slot 3) re_int) (re_slot 1)) (ra_cons re_str ra_nil))))
      (rss_one (rs_dput hr (re_slot 2) (re_ix o_ix (re_slot 3) re_int) (re_ix o_ix (re_slot 3) re_int)))))
      (rss_one (rs_for PassesOwn.never rfl (ri_enumT y_enumerate (ra_cons (re_ix o_ix (re_slot 0) re_int) ra_nil)) (rg_tup (is := [4, 5]) rfl (pgs_cons (pg_name (i := 4) nd rfl (by first | exact Or.inl rfl | exact Or.inr rfl)) (pgs_cons (pg_name (i := 5) nd rfl (by first | exact Or.inl rfl | exact Or.inr rfl)) pgs_nil))) (rss_one (rs_expr (re_fn (hkj := hk_check_rows) F_check_rows hr (ra_cons (re_slot 5) (ra_cons (re_cmp (o_eq hr) (re_slot 4) re_int) (ra_cons (re_slot 2) ra_nil)))))))))))))))
noncomputable abbrev s_check_boxes : Stmt := top 27
theorem sc_check_boxes : FnScope ["boxes", "box"] ["boxes"] (defScope s_check_boxes) := ⟨rfl, rfl, rfl, by decide +kernel, rfl, by decide +kernel, by decide +kernel⟩
set_option maxHeartbeats 4000000 in
theorem r_check_boxes {φ_is_tuple : List D → M D} {k_is_tuple : Nat} {φ_need : List D → M D} {k_need : Nat} {φ_is_name : List D → M D} {k_is_name : Nat} {φ_check_worths : List D → M D} {k_check_worths : Nat} {φ_are_unlike : List D → M D} {k_are_unlike : Nat} {k : Nat} {f : Addr} (F_is_tuple : Fn P w K mg base "is_tuple" ["thing", "least", "most"] k_is_tuple φ_is_tuple) (hk_is_tuple : k_is_tuple ≤ k) (F_need : Fn P w K mg base "need" ["holds", "words"] k_need φ_need) (hk_need : k_need ≤ k) (F_is_name : Fn P w K mg base "is_name" ["thing"] k_is_name φ_is_name) (hk_is_name : k_is_name ≤ k) (F_check_worths : Fn P w K mg base "check_worths" ["kind", "size", "begin"] k_check_worths φ_check_worths) (hk_check_worths : k_check_worths ≤ k) (F_are_unlike : Fn P w K mg base "are_unlike" ["names"] k_are_unlike φ_are_unlike) (hk_are_unlike : k_are_unlike ≤ k) (g_MOST_BOXES : Glo K mg "MOST_BOXES" d_MOST_BOXES) (cdv : Value) (A : Around) (outer : List Env) (s : Shared) (H : Hp) (E : XK) (hr : Room k (A.deeper (PyProof.Rows.envOfC "check_boxes" (defScope s_check_boxes) s.heap.objs.size f cdv))) :
    RSs (cxOf CX0 P w K mg base ["boxes", "box"] "check_boxes" (defScope s_check_boxes) f cdv A outer s H E).nox (defBody s_check_boxes) (m_check_boxes φ_is_tuple φ_need φ_is_name φ_check_worths φ_are_unlike) := by
  have nd := sc_check_boxes.nd
  exact (rss_cons (rs_expr (re_fn (hkj := hk_need) F_need hr (ra_cons (re_fn (hkj := hk_is_tuple) F_is_tuple hr (ra_cons (re_slot 0) (ra_cons re_int (ra_cons (re_gl g_MOST_BOXES) ra_nil)))) (ra_cons re_str ra_nil))))
      (rss_cons (rs_for PassesOwn.never rfl (ri_seq (re_slot 0)) (rg_name 1 nd) (rss_cons (rs_expr (re_fn (hkj := hk_need) F_need hr (ra_cons (re_fn (hkj := hk_is_tuple) F_is_tuple hr (ra_cons (re_slot 1) (ra_cons re_int (ra_cons re_int ra_nil)))) (ra_cons re_str ra_nil))))
      (rss_cons (rs_expr (re_fn (hkj := hk_need) F_need hr (ra_cons (re_fn (hkj := hk_is_name) F_is_name hr (ra_cons (re_ix o_ix (re_slot 1) re_int) ra_nil)) (ra_cons re_str ra_nil))))
      (rss_one (rs_expr (re_fn (hkj := hk_check_worths) F_check_worths hr (ra_cons (re_ix o_ix (re_slot 1) re_int) (ra_cons (re_ix o_ix (re_slot 1) re_int) (ra_cons (re_ix o_ix (re_slot 1) re_int) ra_nil)))))))))
      (rss_one (rs_expr (re_fn (hkj := hk_need) F_need hr (ra_cons (re_fn (hkj := hk_are_unlike) F_are_unlike hr (ra_cons (re_comp (tgs := ["box"]) (ix := []) (i := 0) (n := 1) ⟨rfl, by decide +kernel, by decide +kernel, trivial, rfl, by decide +kernel⟩ rfl (ri_seq (re_slot 0)) (fun _ _ _ _ => pg_name (i := 0) (show List.Nodup (["box"] : List Str) from by decide +kernel) rfl (Or.inl rfl)) (fun _ _ _ _ => rifs_nil) (fun _ _ _ _ => (re_ix o_ix (re_slot 0) re_int))) ra_nil)) (ra_cons re_str ra_nil)))))))
noncomputable abbrev s_check_hands : Stmt := top 28
theorem sc_check_hands : FnScope ["hands", "hand"] ["hands"] (defScope s_check_hands) := ⟨rfl, rfl, rfl, by decide +kernel, rfl, by decide +kernel, by decide +kernel⟩
set_option maxHeartbeats 4000000 in
theorem r_check_hands {φ_is_tuple : List D → M D} {k_is_tuple : Nat} {φ_need : List D → M D} {k_need : Nat} {φ_is_name : List D → M D} {k_is_name : Nat} {φ_is_whole : List D → M D} {k_is_whole : Nat} {φ_are_unlike : List D → M D} {k_are_unlike : Nat} {k : Nat} {f : Addr} (F_is_tuple : Fn P w K mg base "is_tuple" ["thing", "least", "most"] k_is_tuple φ_is_tuple) (hk_is_tuple : k_is_tuple ≤ k) (F_need : Fn P w K mg base "need" ["holds", "words"] k_need φ_need) (hk_need : k_need ≤ k) (F_is_name : Fn P w K mg base "is_name" ["thing"] k_is_name φ_is_name) (hk_is_name : k_is_name ≤ k) (F_is_whole : Fn P w K mg base "is_whole" ["thing", "least", "most"] k_is_whole φ_is_whole) (hk_is_whole : k_is_whole ≤ k) (F_are_unlike : Fn P w K mg base "are_unlike" ["names"] k_are_unlike φ_are_unlike) (hk_are_unlike : k_are_unlike ≤ k) (g_LEAST_HANDS : Glo K mg "LEAST_HANDS" d_LEAST_HANDS) (g_MOST_HANDS : Glo K mg "MOST_HANDS" d_MOST_HANDS) (g_MOST_WITHIN : Glo K mg "MOST_WITHIN" d_MOST_WITHIN) (g_MOST_ROWS : Glo K mg "MOST_ROWS" d_MOST_ROWS) (cdv : Value) (A : Around) (outer : List Env) (s : Shared) (H : Hp) (E : XK) (hr : Room k (A.deeper (PyProof.Rows.envOfC "check_hands" (defScope s_check_hands) s.heap.objs.size f cdv))) :
    RSs (cxOf CX0 P w K mg base ["hands", "hand"] "check_hands" (defScope s_check_hands) f cdv A outer s H E).nox (defBody s_check_hands) (m_check_hands φ_is_tuple φ_need φ_is_name φ_is_whole φ_are_unlike) := by
  have nd := sc_check_hands.nd
  exact (rss_cons (rs_expr (re_fn (hkj := hk_need) F_need hr (ra_cons (re_fn (hkj := hk_is_tuple) F_is_tuple hr (ra_cons (re_slot 0) (ra_cons (re_gl g_LEAST_HANDS) (ra_cons (re_gl g_MOST_HANDS) ra_nil)))) (ra_cons re_str ra_nil))))
      (rss_cons (rs_for PassesOwn.never rfl (ri_seq (re_slot 0)) (rg_name 1 nd) (rss_cons (rs_expr (re_fn (hkj := hk_need) F_need hr (ra_cons (re_fn (hkj := hk_is_tuple) F_is_tuple hr (ra_cons (re_slot 1) (ra_cons re_int (ra_cons re_int ra_nil)))) (ra_cons re_str ra_nil))))
      (rss_cons (rs_expr (re_fn (hkj := hk_need) F_need hr (ra_cons (re_fn (hkj := hk_is_name) F_is_name hr (ra_cons (re_ix o_ix (re_slot 1) re_int) ra_nil)) (ra_cons re_str ra_nil))))
      (rss_cons (rs_expr (re_fn (hkj := hk_need) F_need hr (ra_cons (re_fn (hkj := hk_is_whole) F_is_whole hr (ra_cons (re_ix o_ix (re_slot 1) re_int) (ra_cons re_int (ra_cons (re_gl g_MOST_WITHIN) ra_nil)))) (ra_cons re_str ra_nil))))
      (rss_one (rs_expr (re_fn (hkj := hk_need) F_need hr (ra_cons (re_fn (hkj := hk_is_tuple) F_is_tuple hr (ra_cons (re_ix o_ix (re_slot 1) re_int) (ra_cons re_int (ra_cons (re_gl g_MOST_ROWS) ra_nil)))) (ra_cons re_str ra_nil)))))))))
      (rss_one (rs_expr (re_fn (hkj := hk_need) F_need hr (ra_cons (re_fn (hkj := hk_are_unlike) F_are_unlike hr (ra_cons (re_comp (tgs := ["hand"]) (ix := []) (i := 0) (n := 1) ⟨rfl, by decide +kernel, by decide +kernel, trivial, rfl, by decide +kernel⟩ rfl (ri_seq (re_slot 0)) (fun _ _ _ _ => pg_name (i := 0) (show List.Nodup (["hand"] : List Str) from by decide +kernel) rfl (Or.inl rfl)) (fun _ _ _ _ => rifs_nil) (fun _ _ _ _ => (re_ix o_ix (re_slot 0) re_int))) ra_nil)) (ra_cons re_str ra_nil)))))))
noncomputable abbrev s_are_unlike : Stmt := top 29
theorem sc_are_unlike : FnScope ["names"] ["names"] (defScope s_are_unlike) := ⟨rfl, rfl, rfl, by decide +kernel, rfl, by decide +kernel, by decide +kernel⟩
set_option maxHeartbeats 4000000 in
theorem r_are_unlike  {k : Nat} {f : Addr} (y_len : mg "len" = none) (y_set : mg "set" = none) (cdv : Value) (A : Around) (outer : List Env) (s : Shared) (H : Hp) (E : XK) (hr : Room k (A.deeper (PyProof.Rows.envOfC "are_unlike" (defScope s_are_unlike) s.heap.objs.size f cdv))) :
    RSs (cxOf CX0 P w K mg base ["names"] "are_unlike" (defScope s_are_unlike) f cdv A outer s H E).nox (defBody s_are_unlike) (m_are_unlike) := by
  have nd := sc_are_unlike.nd
  exact (rss_one (rs_ret (re_cmp (o_eq hr) (re_lenset y_len y_set (re_slot 0)) (re_callB c_len y_len Mi.boot_len (ra_cons (re_slot 0) ra_nil)))))
noncomputable abbrev s_check_rows : Stmt := top 30
theorem sc_check_rows : FnScope ["hand", "is_writer", "writers", "row"] ["hand", "is_writer", "writers"] (defScope s_check_rows) := ⟨rfl, rfl, rfl, by decide +kernel, rfl, by decide +kernel, by decide +kernel⟩
set_option maxHeartbeats 4000000 in
theorem r_check_rows {φ_check_form : List D → M D} {k_check_form : Nat} {φ_check_ending : List D → M D} {k_check_ending : Nat} {φ_check_variables : List D → M D} {k_check_variables : Nat} {φ_need : List D → M D} {k_need : Nat} {k : Nat} {f : Addr} (F_check_form : Fn P w K mg base "check_form" ["row", "length"] k_check_form φ_check_form) (hk_check_form : k_check_form ≤ k) (F_check_ending : Fn P w K mg base "check_ending" ["word", "is_writer"] k_check_ending φ_check_ending) (hk_check_ending : k_check_ending ≤ k) (F_check_variables : Fn P w K mg base "check_variables" ["row", "is_writer"] k_check_variables φ_check_variables) (hk_check_variables : k_check_variables ≤ k) (F_need : Fn P w K mg base "need" ["holds", "words"] k_need φ_need) (hk_need : k_need ≤ k) (y_len : mg "len" = none) (cdv : Value) (A : Around) (outer : List Env) (s : Shared) (H : Hp) (E : XK) (hr : Room k (A.deeper (PyProof.Rows.envOfC "check_rows" (defScope s_check_rows) s.heap.objs.size f cdv))) :
    RSs (cxOf CX0 P w K mg base ["hand", "is_writer", "writers", "row"] "check_rows" (defScope s_check_rows) f cdv A outer s H E).nox (defBody s_check_rows) (m_check_rows φ_check_form φ_check_ending φ_check_variables φ_need) := by
  have nd := sc_check_rows.nd
  exact (rss_one (rs_for PassesOwn.never rfl (ri_seq (re_ix o_ix (re_slot 0) re_int)) (rg_name 3 nd) (rss_cons (rs_expr (re_fn (hkj := hk_check_form) F_check_form hr (ra_cons (re_slot 3) (ra_cons (re_callB c_len y_len Mi.boot_len (ra_cons (re_ix o_ix (re_slot 0) re_int) ra_nil)) ra_nil))))
      (rss_cons (rs_expr (re_fn (hkj := hk_check_ending) F_check_ending hr (ra_cons (re_ix o_ix (re_slot 3) re_int) (ra_cons (re_slot 1) ra_nil))))
      (rss_cons (rs_expr (re_fn (hkj := hk_check_variables) F_check_variables hr (ra_cons (re_slot 3) (ra_cons (re_slot 1) ra_nil))))
      (rss_cons (rs_if (rt_cmp (o_eq hr) (re_ix o_ix (re_slot 3) re_int) re_str) (rss_one (rs_expr (re_fn (hkj := hk_need) F_need hr (ra_cons (re_cmp (o_eq hr) (re_dget1 hr (re_slot 2) (re_ix o_ix (re_slot 3) re_int)) (re_ix o_ix (re_slot 0) re_int)) (ra_cons re_str ra_nil))))) rss_nil)
      (rss_one (rs_if (rt_cmp (o_eq hr) (re_ix o_ix (re_slot 3) re_int) re_str) (rss_one (rs_expr (re_fn (hkj := hk_need) F_need hr (ra_cons (re_din hr (re_ix o_ix (re_slot 3) re_int) (re_slot 2)) (ra_cons re_str ra_nil))))) rss_nil))))))))
noncomputable abbrev s_check_form : Stmt := top 31
theorem sc_check_form : FnScope ["row", "length", "parts", "part", "thing"] ["row", "length"] (defScope s_check_form) := ⟨rfl, rfl, rfl, by decide +kernel, rfl, by decide +kernel, by decide +kernel⟩
set_option maxHeartbeats 4000000 in
theorem r_check_form {φ_is_tuple : List D → M D} {k_is_tuple : Nat} {φ_need : List D → M D} {k_need : Nat} {φ_is_part : List D → M D} {k_is_part : Nat} {k : Nat} {f : Addr} (F_is_tuple : Fn P w K mg base "is_tuple" ["thing", "least", "most"] k_is_tuple φ_is_tuple) (hk_is_tuple : k_is_tuple ≤ k) (F_need : Fn P w K mg base "need" ["holds", "words"] k_need φ_need) (hk_need : k_need ≤ k) (F_is_part : Fn P w K mg base "is_part" ["part", "thing", "length"] k_is_part φ_is_part) (hk_is_part : k_is_part ≤ k) (y_str : mg "str" = none) (y_isinstance : mg "isinstance" = none) (y_len : mg "len" = none) (y_zip : mg "zip" = none) (k_PARTS : KTab w K mg "PARTS" t_PARTS) (cdv : Value) (A : Around) (outer : List Env) (s : Shared) (H : Hp) (E : XK) (hr : Room k (A.deeper (PyProof.Rows.envOfC "check_form" (defScope s_check_form) s.heap.objs.size f cdv))) :
    RSs (cxOf CX0 P w K mg base ["row", "length", "parts", "part", "thing"] "check_form" (defScope s_check_form) f cdv A outer s H E).nox (defBody s_check_form) (m_check_form φ_is_tuple φ_need φ_is_part) := by
  have nd := sc_check_form.nd
  exact (rss_cons (rs_expr (re_fn (hkj := hk_need) F_need hr (ra_cons (re_fn (hkj := hk_is_tuple) F_is_tuple hr (ra_cons (re_slot 0) (ra_cons re_int (ra_cons re_int ra_nil)))) (ra_cons re_str ra_nil))))
      (rss_cons (rs_expr (re_fn (hkj := hk_need) F_need hr (ra_cons (re_and (re_callB c_inst y_isinstance Mi.boot_isinstance (ra_cons (re_ix o_ix (re_slot 0) re_int) (ra_cons (re_bltn y_str Mi.boot_str) ra_nil))) (re_one (re_kin k_PARTS (re_ix o_ix (re_slot 0) re_int)))) (ra_cons re_str ra_nil))))
      (rss_cons (rs_set 2 nd (re_kget k_PARTS (re_ix o_ix (re_slot 0) re_int)))
      (rss_cons (rs_expr (re_fn (hkj := hk_need) F_need hr (ra_cons (re_cmp (o_eq hr) (re_callB c_len y_len Mi.boot_len (ra_cons (re_slot 0) ra_nil)) (re_op o_add re_int (re_callB c_len y_len Mi.boot_len (ra_cons (re_slot 2) ra_nil)))) (ra_cons re_str ra_nil))))
      (rss_one (rs_for PassesOwn.never rfl (ri_zipT y_zip (ra_cons (re_slot 2) (ra_cons (re_sl (re_slot 0) (ro_some re_int) ro_none) ra_nil))) (rg_tup (is := [3, 4]) rfl (pgs_cons (pg_name (i := 3) nd rfl (by first | exact Or.inl rfl | exact Or.inr rfl)) (pgs_cons (pg_name (i := 4) nd rfl (by first | exact Or.inl rfl | exact Or.inr rfl)) pgs_nil))) (rss_one (rs_expr (re_fn (hkj := hk_need) F_need hr (ra_cons (re_fn (hkj := hk_is_part) F_is_part hr (ra_cons (re_slot 3) (ra_cons (re_slot 4) (ra_cons (re_slot 1) ra_nil)))) (ra_cons (re_joined (rj_cons re_str (rj_cons (re_fmt (re_slot 3)) rj_nil))) ra_nil)))))))))))
noncomputable abbrev s_check_variables : Stmt := top 34
theorem sc_check_variables : FnScope ["row", "is_writer", "name"] ["row", "is_writer"] (defScope s_check_variables) := ⟨rfl, rfl, rfl, by decide +kernel, rfl, by decide +kernel, by decide +kernel⟩
set_option maxHeartbeats 4000000 in
theorem r_check_variables {φ_variables_of : List D → M D} {k_variables_of : Nat} {φ_need : List D → M D} {k_need : Nat} {k : Nat} {f : Addr} (F_variables_of : Fn P w K mg base "variables_of" ["row"] k_variables_of φ_variables_of) (hk_variables_of : k_variables_of ≤ k) (F_need : Fn P w K mg base "need" ["holds", "words"] k_need φ_need) (hk_need : k_need ≤ k) (g_NO_VARIABLES : Glo K mg "NO_VARIABLES" d_NO_VARIABLES) (cdv : Value) (A : Around) (outer : List Env) (s : Shared) (H : Hp) (E : XK) (hr : Room k (A.deeper (PyProof.Rows.envOfC "check_variables" (defScope s_check_variables) s.heap.objs.size f cdv))) :
    RSs (cxOf CX0 P w K mg base ["row", "is_writer", "name"] "check_variables" (defScope s_check_variables) f cdv A outer s H E).nox (defBody s_check_variables) (m_check_variables φ_variables_of φ_need) := by
  have nd := sc_check_variables.nd
  exact (rss_cons (rs_for PassesOwn.never rfl (ri_seq (re_fn (hkj := hk_variables_of) F_variables_of hr (ra_cons (re_slot 0) ra_nil))) (rg_name 2 nd) (rss_cons (rs_expr (re_fn (hkj := hk_need) F_need hr (ra_cons (re_cmp o_notin (re_slot 2) (re_gl g_NO_VARIABLES)) (ra_cons re_str ra_nil))))
      (rss_one (rs_expr (re_fn (hkj := hk_need) F_need hr (ra_cons (re_or (re_slot 1) (re_one (re_cmp (o_ne hr) (re_slot 2) re_str))) (ra_cons re_str ra_nil)))))))
      (rss_one (rs_if (rt_cmp o_in (re_ix o_ix (re_slot 0) re_int) (re_tup (ra_cons re_str (ra_cons re_str ra_nil)))) (rss_one (rs_expr (re_fn (hkj := hk_need) F_need hr (ra_cons (re_cmp (o_ne hr) (re_ix o_ix (re_slot 0) re_int) re_str) (ra_cons re_str ra_nil))))) rss_nil)))
noncomputable abbrev s_variables_of : Stmt := top 35
theorem sc_variables_of : FnScope ["row", "names", "part", "thing"] ["row"] (defScope s_variables_of) := ⟨rfl, rfl, rfl, by decide +kernel, rfl, by decide +kernel, by decide +kernel⟩
set_option maxHeartbeats 4000000 in
theorem r_variables_of {φ_variables_in : List D → M D} {k_variables_in : Nat} {k : Nat} {f : Addr} (F_variables_in : Fn P w K mg base "variables_in" ["expression"] k_variables_in φ_variables_in) (hk_variables_in : k_variables_in ≤ k) (y_zip : mg "zip" = none) (k_PARTS : KTab w K mg "PARTS" t_PARTS) (cdv : Value) (A : Around) (outer : List Env) (s : Shared) (H : Hp) (E : XK) (hr : Room k (A.deeper (PyProof.Rows.envOfC "variables_of" (defScope s_variables_of) s.heap.objs.size f cdv))) :
    RSs (cxOf CX0 P w K mg base ["row", "names", "part", "thing"] "variables_of" (defScope s_variables_of) f cdv A outer s H E).nox (defBody s_variables_of) (m_variables_of φ_variables_in) := by
  have nd := sc_variables_of.nd
  exact (rss_cons (rs_set 1 nd (re_lstB ra_nil))
      (rss_cons (rs_for PassesOwn.never rfl (ri_zipT y_zip (ra_cons (re_kget k_PARTS (re_ix o_ix (re_slot 0) re_int)) (ra_cons (re_sl (re_slot 0) (ro_some re_int) ro_none) ra_nil))) (rg_tup (is := [2, 3]) rfl (pgs_cons (pg_name (i := 2) nd rfl (by first | exact Or.inl rfl | exact Or.inr rfl)) (pgs_cons (pg_name (i := 3) nd rfl (by first | exact Or.inl rfl | exact Or.inr rfl)) pgs_nil))) (rss_cons (rs_if (rt_cmp (o_eq hr) (re_slot 2) re_str) (rss_one (rs_expr (re_methL PySem.F.slot_list_append PySem.F.type_list_append m_append (re_slot 1) (ra_cons (re_slot 3) ra_nil)))) rss_nil)
      (rss_one (rs_if (rt_cmp (o_eq hr) (re_slot 2) re_str) (rss_one (rs_expr (re_methL PySem.F.slot_list_extend PySem.F.type_list_extend m_extend (re_slot 1) (ra_cons (re_fn (hkj := hk_variables_in) F_variables_in hr (ra_cons (re_slot 3) ra_nil)) ra_nil)))) rss_nil))))
      (rss_one (rs_ret (re_slot 1)))))
noncomputable abbrev s__law_cell_at : Stmt := top 37
theorem sc__law_cell_at : FnScope ["_law_script", "_law_k"] ["_law_script", "_law_k"] (defScope s__law_cell_at) := ⟨rfl, rfl, rfl, by decide +kernel, rfl, by decide +kernel, by decide +kernel⟩
set_option maxHeartbeats 4000000 in
theorem r__law_cell_at  {k : Nat} {f : Addr} (y_len : mg "len" = none) (cdv : Value) (A : Around) (outer : List Env) (s : Shared) (H : Hp) (E : XK) (hr : Room k (A.deeper (PyProof.Rows.envOfC "_law_cell_at" (defScope s__law_cell_at) s.heap.objs.size f cdv))) :
    RSs (cxOf CX0 P w K mg base ["_law_script", "_law_k"] "_law_cell_at" (defScope s__law_cell_at) f cdv A outer s H E).nox (defBody s__law_cell_at) (m__law_cell_at) := by
  have nd := sc__law_cell_at.nd
  exact (rss_cons (rs_if (rt_cmp o_lt (re_slot 1) (re_callB c_len y_len Mi.boot_len (ra_cons (re_slot 0) ra_nil))) (rss_one (rs_ret (re_ix o_ix (re_slot 0) (re_slot 1)))) rss_nil)
      (rss_one (rs_ret re_int)))
noncomputable abbrev s__law_well : Stmt := top 38
theorem sc__law_well : FnScope ["_law_cell"] ["_law_cell"] (defScope s__law_well) := ⟨rfl, rfl, rfl, by decide +kernel, rfl, by decide +kernel, by decide +kernel⟩
set_option maxHeartbeats 4000000 in
theorem r__law_well  {k : Nat} {f : Addr} (y_max : mg "max" = none) (cdv : Value) (A : Around) (outer : List Env) (s : Shared) (H : Hp) (E : XK) (hr : Room k (A.deeper (PyProof.Rows.envOfC "_law_well" (defScope s__law_well) s.heap.objs.size f cdv))) :
    RSs (cxOf CX0 P w K mg base ["_law_cell"] "_law_well" (defScope s__law_well) f cdv A outer s H E).nox (defBody s__law_well) (m__law_well) := by
  have nd := sc__law_well.nd
  exact (rss_one (rs_ret (re_lstB (ra_cons (re_callB (c_max rfl) y_max Mi.boot_max (ra_cons re_int (ra_cons (re_op o_sub (re_slot 0) (re_op o_pow re_int re_int)) ra_nil))) (ra_cons (re_op o_mod (re_slot 0) re_int) (ra_cons re_int ra_nil))))))
noncomputable abbrev s__law_draw : Stmt := top 39
theorem sc__law_draw : FnScope ["_law_well_here", "_law_base", "_law_found", "_law_number"] ["_law_well_here", "_law_base"] (defScope s__law_draw) := ⟨rfl, rfl, rfl, by decide +kernel, rfl, by decide +kernel, by decide +kernel⟩
set_option maxHeartbeats 4000000 in
theorem r__law_draw  {k : Nat} {f : Addr}  (cdv : Value) (A : Around) (outer : List Env) (s : Shared) (H : Hp) (E : XK) (hr : Room k (A.deeper (PyProof.Rows.envOfC "_law_draw" (defScope s__law_draw) s.heap.objs.size f cdv))) :
    RSs (cxOf CX0 P w K mg base ["_law_well_here", "_law_base", "_law_found", "_law_number"] "_law_draw" (defScope s__law_draw) f cdv A outer s H E).nox (defBody s__law_draw) (m__law_draw) := by
  have nd := sc__law_draw.nd
  exact (rss_cons (rs_if (rt_cmp o_gt (re_ix o_ix (re_slot 0) re_int) re_int) (rss_cons (rs_set 2 nd (re_op o_mod (re_ix o_ix (re_slot 0) re_int) (re_slot 1)))
      (rss_cons (rs_asg (re_op o_fdiv (re_ix o_ix (re_slot 0) re_int) (re_slot 1)) (rg_sub (re_slot 0) re_int))
      (rss_one (rs_ret (re_slot 2))))) rss_nil)
      (rss_cons (rs_asg (re_op o_add (re_ix o_ix (re_slot 0) re_int) re_int) (rg_sub (re_slot 0) re_int))
      (rss_cons (rs_set 3 nd (re_op o_mod (re_op o_mul (re_op o_add (re_op o_add (re_ix o_ix (re_slot 0) re_int) (re_op o_mul re_int (re_ix o_ix (re_slot 0) re_int))) re_int) re_int) re_int))
      (rss_cons (rs_set 3 nd (re_op o_mod (re_op o_mul (re_slot 3) (re_op o_add (re_op o_fdiv (re_slot 3) re_int) re_int)) re_int))
      (rss_cons (rs_set 3 nd (re_op o_mod (re_op o_mul (re_slot 3) (re_op o_add (re_op o_fdiv (re_slot 3) re_int) re_int)) re_int))
      (rss_one (rs_ret (re_op o_mod (re_op o_add (re_op o_mul (re_slot 3) re_int) (re_op o_fdiv (re_slot 3) re_int)) (re_slot 1)))))))))
noncomputable abbrev s__law_expr : Stmt := top 40
theorem sc__law_expr : FnScope ["_law_well_here", "_law_names", "_law_deep", "_law_way", "_law_word", "_law_one", "_law_other"] ["_law_well_here", "_law_names", "_law_deep"] (defScope s__law_expr) := ⟨rfl, rfl, rfl, by decide +kernel, rfl, by decide +kernel, by decide +kernel⟩
set_option maxHeartbeats 4000000 in
theorem r__law_expr {φ__law_draw : List D → M D} {k__law_draw : Nat} {φ__law_expr : List D → M D} {k__law_expr : Nat} {k : Nat} {f : Addr} (F__law_draw : Fn P w K mg base "_law_draw" ["_law_well_here", "_law_base"] k__law_draw φ__law_draw) (hk__law_draw : k__law_draw ≤ k) (F__law_expr : Fn P w K mg base "_law_expr" ["_law_well_here", "_law_names", "_law_deep"] k__law_expr φ__law_expr) (hk__law_expr : k__law_expr ≤ k) (y_len : mg "len" = none) (y_min : mg "min" = none) (cdv : Value) (A : Around) (outer : List Env) (s : Shared) (H : Hp) (E : XK) (hr : Room k (A.deeper (PyProof.Rows.envOfC "_law_expr" (defScope s__law_expr) s.heap.objs.size f cdv))) :
    RSs (cxOf CX0 P w K mg base ["_law_well_here", "_law_names", "_law_deep", "_law_way", "_law_word", "_law_one", "_law_other"] "_law_expr" (defScope s__law_expr) f cdv A outer s H E).nox (defBody s__law_expr) (m__law_expr φ__law_draw φ__law_expr) := by
  have nd := sc__law_expr.nd
  exact (rss_cons (rs_set 3 nd (re_fn (hkj := hk__law_draw) F__law_draw hr (ra_cons (re_slot 0) (ra_cons re_int ra_nil))))
      (rss_cons (rs_if (RW.rt (rw_or (rt_cmp (o_eq hr) (re_slot 2) re_int) (rw_or1 (rt_cmp o_lt (re_slot 3) re_int)))) (rss_cons (rs_if (RW.rt (rw_or (rt_cmp (o_eq hr) (re_slot 1) (re_lst ra_nil)) (rw_or1 (rt_cmp (o_eq hr) (re_fn (hkj := hk__law_draw) F__law_draw hr (ra_cons (re_slot 0) (ra_cons re_int ra_nil))) re_int)))) (rss_one (rs_ret (re_tup (ra_cons re_str (ra_cons (re_fn (hkj := hk__law_draw) F__law_draw hr (ra_cons (re_slot 0) (ra_cons re_int ra_nil))) ra_nil))))) rss_nil)
      (rss_one (rs_ret (re_tup (ra_cons re_str (ra_cons (re_ix o_ix (re_slot 1) (re_fn (hkj := hk__law_draw) F__law_draw hr (ra_cons (re_slot 0) (ra_cons (re_callB c_len y_len Mi.boot_len (ra_cons (re_slot 1) ra_nil)) ra_nil)))) ra_nil)))))) rss_nil)
      (rss_cons (rs_if (rt_cmp (o_eq hr) (re_slot 3) re_int) (rss_one (rs_ret (re_tup (ra_cons re_str (ra_cons (re_fn (hkj := hk__law_expr) F__law_expr hr (ra_cons (re_slot 0) (ra_cons (re_slot 1) (ra_cons (re_op o_sub (re_slot 2) re_int) ra_nil)))) ra_nil))))) rss_nil)
      (rss_cons (rs_set 4 nd (re_ix o_ix (re_lst (ra_cons re_str (ra_cons re_str (ra_cons re_str (ra_cons re_str (ra_cons re_str (ra_cons re_str ra_nil))))))) (re_op o_sub (re_slot 3) re_int)))
      (rss_cons (rs_set 5 nd (re_fn (hkj := hk__law_expr) F__law_expr hr (ra_cons (re_slot 0) (ra_cons (re_slot 1) (ra_cons (re_op o_sub (re_slot 2) re_int) ra_nil)))))
      (rss_cons (rs_set 6 nd (re_fn (hkj := hk__law_expr) F__law_expr hr (ra_cons (re_slot 0) (ra_cons (re_slot 1) (ra_cons (re_callB (c_min rfl) y_min Mi.boot_min (ra_cons (re_op o_sub (re_slot 2) re_int) (ra_cons re_int ra_nil))) ra_nil)))))
      (rss_one (rs_ret (re_ix o_ix (re_lst (ra_cons (re_tup (ra_cons (re_slot 4) (ra_cons (re_slot 5) (ra_cons (re_slot 6) ra_nil)))) (ra_cons (re_tup (ra_cons (re_slot 4) (ra_cons (re_slot 6) (ra_cons (re_slot 5) ra_nil)))) ra_nil))) (re_fn (hkj := hk__law_draw) F__law_draw hr (ra_cons (re_slot 0) (ra_cons re_int ra_nil))))))))))))
noncomputable abbrev s__law_row : Stmt := top 41
theorem sc__law_row : FnScope ["_law_well_here", "_law_own", "_law_boxes", "_law_names", "_law_many", "_law_is_writer", "_law_way", "_law_deep", "_law_seen"] ["_law_well_here", "_law_own", "_law_boxes", "_law_names", "_law_many", "_law_is_writer"] (defScope s__law_row) := ⟨rfl, rfl, rfl, by decide +kernel, rfl, by decide +kernel, by decide +kernel⟩
set_option maxHeartbeats 4000000 in
theorem r__law_row {φ__law_draw : List D → M D} {k__law_draw : Nat} {φ__law_expr : List D → M D} {k__law_expr : Nat} {k : Nat} {f : Addr} (F__law_draw : Fn P w K mg base "_law_draw" ["_law_well_here", "_law_base"] k__law_draw φ__law_draw) (hk__law_draw : k__law_draw ≤ k) (F__law_expr : Fn P w K mg base "_law_expr" ["_law_well_here", "_law_names", "_law_deep"] k__law_expr φ__law_expr) (hk__law_expr : k__law_expr ≤ k) (y_min : mg "min" = none) (y_int : mg "int" = none) (y_len : mg "len" = none) (cdv : Value) (A : Around) (outer : List Env) (s : Shared) (H : Hp) (E : XK) (hr : Room k (A.deeper (PyProof.Rows.envOfC "_law_row" (defScope s__law_row) s.heap.objs.size f cdv))) :
    RSs (cxOf CX0 P w K mg base ["_law_well_here", "_law_own", "_law_boxes", "_law_names", "_law_many", "_law_is_writer", "_law_way", "_law_deep", "_law_seen"] "_law_row" (defScope s__law_row) f cdv A outer s H E).nox (defBody s__law_row) (m__law_row φ__law_draw φ__law_expr) := by
  have nd := sc__law_row.nd
  exact (rss_cons (rs_set 6 nd (re_fn (hkj := hk__law_draw) F__law_draw hr (ra_cons (re_slot 0) (ra_cons re_int ra_nil))))
      (rss_cons (rs_set 7 nd (re_ix o_ix (re_lst (ra_cons re_int (ra_cons re_int (ra_cons re_int (ra_cons re_int ra_nil))))) (re_fn (hkj := hk__law_draw) F__law_draw hr (ra_cons (re_slot 0) (ra_cons re_int ra_nil)))))
      (rss_cons (rs_if (rt_cmp o_gt (re_slot 4) re_int) (rss_one (rs_set 7 nd (re_callB (c_min rfl) y_min Mi.boot_min (ra_cons (re_slot 7) (ra_cons re_int ra_nil))))) rss_nil)
      (rss_cons (rs_set 8 nd (re_op o_add (re_slot 3) (re_op o_mul (re_lst (ra_cons re_str ra_nil)) (re_callTy c_int y_int Mi.boot_int (ra_cons (re_slot 5) ra_nil)))))
      (rss_cons (rs_if (RW.rt (rw_and (rt_cmp o_lt (re_slot 6) re_int) (rw_and1 (rt_cmp (o_ne hr) (re_slot 1) (re_lst ra_nil))))) (rss_one (rs_ret (re_tup (ra_cons re_str (ra_cons (re_ix o_ix (re_slot 1) (re_fn (hkj := hk__law_draw) F__law_draw hr (ra_cons (re_slot 0) (ra_cons (re_callB c_len y_len Mi.boot_len (ra_cons (re_slot 1) ra_nil)) ra_nil)))) (ra_cons (re_fn (hkj := hk__law_expr) F__law_expr hr (ra_cons (re_slot 0) (ra_cons (re_slot 8) (ra_cons (re_slot 7) ra_nil)))) ra_nil)))))) rss_nil)
      (rss_cons (rs_if (RW.rt (rw_and (rt_cmp o_lt (re_slot 6) re_int) (rw_and1 (rt_cmp (o_ne hr) (re_slot 2) (re_lst ra_nil))))) (rss_one (rs_ret (re_tup (ra_cons re_str (ra_cons (re_ix o_ix (re_slot 3) (re_fn (hkj := hk__law_draw) F__law_draw hr (ra_cons (re_slot 0) (ra_cons (re_callB c_len y_len Mi.boot_len (ra_cons (re_slot 3) ra_nil)) ra_nil)))) (ra_cons (re_ix o_ix (re_slot 2) (re_fn (hkj := hk__law_draw) F__law_draw hr (ra_cons (re_slot 0) (ra_cons (re_callB c_len y_len Mi.boot_len (ra_cons (re_slot 2) ra_nil)) ra_nil)))) ra_nil)))))) rss_nil)
      (rss_cons (rs_if (rt_cmp o_lt (re_slot 6) re_int) (rss_one (rs_ret (re_tup (ra_cons re_str (ra_cons (re_ix o_ix (re_slot 3) (re_fn (hkj := hk__law_draw) F__law_draw hr (ra_cons (re_slot 0) (ra_cons (re_callB c_len y_len Mi.boot_len (ra_cons (re_slot 3) ra_nil)) ra_nil)))) (ra_cons (re_fn (hkj := hk__law_expr) F__law_expr hr (ra_cons (re_slot 0) (ra_cons (re_slot 8) (ra_cons (re_slot 7) ra_nil)))) ra_nil)))))) rss_nil)
      (rss_cons (rs_if (rt_cmp (o_eq hr) (re_slot 6) re_int) (rss_one (rs_ret (re_tup (ra_cons re_str (ra_cons (re_fn (hkj := hk__law_expr) F__law_expr hr (ra_cons (re_slot 0) (ra_cons (re_slot 8) (ra_cons (re_slot 7) ra_nil)))) (ra_cons (re_fn (hkj := hk__law_draw) F__law_draw hr (ra_cons (re_slot 0) (ra_cons (re_op o_add (re_slot 4) re_int) ra_nil))) ra_nil)))))) rss_nil)
      (rss_cons (rs_if (rt_cmp (o_eq hr) (re_slot 6) re_int) (rss_one (rs_ret (re_tup (ra_cons re_str (ra_cons (re_fn (hkj := hk__law_draw) F__law_draw hr (ra_cons (re_slot 0) (ra_cons (re_op o_add (re_slot 4) re_int) ra_nil))) ra_nil))))) rss_nil)
      (rss_one (rs_ret (re_ix o_ix (re_lst (ra_cons (re_tup (ra_cons re_str (ra_cons (re_fn (hkj := hk__law_expr) F__law_expr hr (ra_cons (re_slot 0) (ra_cons (re_slot 8) (ra_cons (re_slot 7) ra_nil)))) ra_nil))) (ra_cons (re_tup (ra_cons re_str ra_nil)) ra_nil))) (re_callTy c_int y_int Mi.boot_int (ra_cons (re_slot 5) ra_nil))))))))))))))
noncomputable abbrev s__law_any_name : Stmt := top 42
theorem sc__law_any_name : FnScope ["_law_well_here", "_law_others", "_law_found", "_law_k"] ["_law_well_here", "_law_others"] (defScope s__law_any_name) := ⟨rfl, rfl, rfl, by decide +kernel, rfl, by decide +kernel, by decide +kernel⟩
set_option maxHeartbeats 4000000 in
theorem r__law_any_name {φ__law_draw : List D → M D} {k__law_draw : Nat} {k : Nat} {f : Addr} (F__law_draw : Fn P w K mg base "_law_draw" ["_law_well_here", "_law_base"] k__law_draw φ__law_draw) (hk__law_draw : k__law_draw ≤ k) (y_range : mg "range" = none) (cdv : Value) (A : Around) (outer : List Env) (s : Shared) (H : Hp) (E : XK) (hr : Room k (A.deeper (PyProof.Rows.envOfC "_law_any_name" (defScope s__law_any_name) s.heap.objs.size f cdv))) :
    RSs (cxOf CX0 P w K mg base ["_law_well_here", "_law_others", "_law_found", "_law_k"] "_law_any_name" (defScope s__law_any_name) f cdv A outer s H E).nox (defBody s__law_any_name) (m__law_any_name φ__law_draw) := by
  have nd := sc__law_any_name.nd
  exact (rss_cons (rs_set 2 nd re_str)
      (rss_cons (rs_for PassesOwn.never rfl (ri_range1 y_range (ra_cons (re_op o_add re_int (re_fn (hkj := hk__law_draw) F__law_draw hr (ra_cons (re_slot 0) (ra_cons re_int ra_nil)))) ra_nil)) (rg_name 3 nd) (rss_one (rs_set 2 nd (re_op o_add (re_slot 2) (re_ix o_ix re_str (re_fn (hkj := hk__law_draw) F__law_draw hr (ra_cons (re_slot 0) (ra_cons re_int ra_nil))))))))
      (rss_cons (rs_if (rt_cmp o_in (re_slot 2) (re_slot 1)) (rss_one (rs_set 2 nd re_str)) rss_nil)
      (rss_one (rs_ret (re_slot 2))))))
noncomputable abbrev s__law_making : Stmt := top 43
theorem sc__law_making : FnScope ["_law_well_here", "_law_some", "_law_turn", "_law_names", "_law_boxes", "_law_k", "_law_size", "_law_kind", "_law_hands", "_law_longest", "_law_name", "_law_many", "_law_own", "_law_row_names", "_law_rows"] ["_law_well_here"] (defScope s__law_making) := ⟨rfl, rfl, rfl, by decide +kernel, rfl, by decide +kernel, by decide +kernel⟩
set_option maxHeartbeats 4000000 in
theorem r__law_making {φ__law_any_name : List D → M D} {k__law_any_name : Nat} {φ__law_draw : List D → M D} {k__law_draw : Nat} {φ__law_row : List D → M D} {k__law_row : Nat} {k : Nat} {f : Addr} (F__law_any_name : Fn P w K mg base "_law_any_name" ["_law_well_here", "_law_others"] k__law_any_name φ__law_any_name) (hk__law_any_name : k__law_any_name ≤ k) (F__law_draw : Fn P w K mg base "_law_draw" ["_law_well_here", "_law_base"] k__law_draw φ__law_draw) (hk__law_draw : k__law_draw ≤ k) (F__law_row : Fn P w K mg base "_law_row" ["_law_well_here", "_law_own", "_law_boxes", "_law_names", "_law_many", "_law_is_writer"] k__law_row φ__law_row) (hk__law_row : k__law_row ≤ k) (y_range : mg "range" = none) (y_len : mg "len" = none) (y_enumerate : mg "enumerate" = none) (y_tuple : mg "tuple" = none) (cdv : Value) (A : Around) (outer : List Env) (s : Shared) (H : Hp) (E : XK) (hr : Room k (A.deeper (PyProof.Rows.envOfC "_law_making" (defScope s__law_making) s.heap.objs.size f cdv))) :
    RSs (cxOf CX0 P w K mg base ["_law_well_here", "_law_some", "_law_turn", "_law_names", "_law_boxes", "_law_k", "_law_size", "_law_kind", "_law_hands", "_law_longest", "_law_name", "_law_many", "_law_own", "_law_row_names", "_law_rows"] "_law_making" (defScope s__law_making) f cdv A outer s H E).nox (defBody s__law_making) (m__law_making φ__law_any_name φ__law_draw φ__law_row) := by
  have nd := sc__law_making.nd
  exact (rss_cons (rs_set 1 nd (re_lstB (ra_cons re_str (ra_cons re_str (ra_cons re_str (ra_cons re_str (ra_cons re_str (ra_cons re_str (ra_cons re_str (ra_cons re_str (ra_cons re_str (ra_cons re_str (ra_cons re_str ra_nil)))))))))))))
      (rss_cons (rs_expr (re_methL PySem.F.slot_list_insert PySem.F.type_list_insert m_insert (re_slot 1) (ra_cons re_int (ra_cons (re_fn (hkj := hk__law_any_name) F__law_any_name hr (ra_cons (re_slot 0) (ra_cons (re_slot 1) ra_nil))) ra_nil))))
      (rss_cons (rs_set 2 nd (re_fn (hkj := hk__law_draw) F__law_draw hr (ra_cons (re_slot 0) (ra_cons re_int ra_nil))))
      (rss_cons (rs_set 1 nd (re_op o_add (re_sl (re_slot 1) (ro_some (re_slot 2)) ro_none) (re_sl (re_slot 1) ro_none (ro_some (re_slot 2)))))
      (rss_cons (rs_set 3 nd (re_sl (re_slot 1) ro_none (ro_some (re_op o_add re_int (re_fn (hkj := hk__law_draw) F__law_draw hr (ra_cons (re_slot 0) (ra_cons re_int ra_nil)))))))
      (rss_cons (rs_set 4 nd (re_lstB ra_nil))
      (rss_cons (rs_for PassesOwn.never rfl (ri_range1 y_range (ra_cons (re_fn (hkj := hk__law_draw) F__law_draw hr (ra_cons (re_slot 0) (ra_cons re_int ra_nil))) ra_nil)) (rg_name 5 nd) (rss_cons (rs_set 6 nd (re_op o_add re_int (re_fn (hkj := hk__law_draw) F__law_draw hr (ra_cons (re_slot 0) (ra_cons re_int ra_nil)))))
      (rss_cons (rs_set 7 nd (re_ix o_ix (re_lst (ra_cons re_str (ra_cons re_str (ra_cons re_str ra_nil)))) (re_fn (hkj := hk__law_draw) F__law_draw hr (ra_cons (re_slot 0) (ra_cons re_int ra_nil)))))
      (rss_one (rs_expr (re_methL PySem.F.slot_list_append PySem.F.type_list_append m_append (re_slot 4) (ra_cons (re_tup (ra_cons (re_ix o_ix (re_slot 1) (re_op o_sub re_int (re_slot 5))) (ra_cons (re_slot 7) (ra_cons (re_slot 6) (ra_cons (re_fn (hkj := hk__law_draw) F__law_draw hr (ra_cons (re_slot 0) (ra_cons (re_slot 6) ra_nil))) (ra_cons (re_ix o_ix (re_slot 3) (re_fn (hkj := hk__law_draw) F__law_draw hr (ra_cons (re_slot 0) (ra_cons (re_callB c_len y_len Mi.boot_len (ra_cons (re_slot 3) ra_nil)) ra_nil)))) ra_nil)))))) ra_nil)))))))
      (rss_cons (rs_set 8 nd (re_lstB ra_nil))
      (rss_cons (rs_set 9 nd (re_fn (hkj := hk__law_draw) F__law_draw hr (ra_cons (re_slot 0) (ra_cons (re_op o_mul re_int (re_callB c_len y_len Mi.boot_len (ra_cons (re_slot 3) ra_nil))) ra_nil))))
      (rss_cons (rs_for PassesOwn.never rfl (ri_enumL y_enumerate (ra_cons (re_slot 3) ra_nil)) (rg_tup (is := [5, 10]) rfl (pgs_cons (pg_name (i := 5) nd rfl (by first | exact Or.inl rfl | exact Or.inr rfl)) (pgs_cons (pg_name (i := 10) nd rfl (by first | exact Or.inl rfl | exact Or.inr rfl)) pgs_nil))) (rss_cons (rs_set 11 nd (re_ix o_ix (re_lst (ra_cons re_int (ra_cons re_int (ra_cons re_int (ra_cons re_int (ra_cons re_int ra_nil)))))) (re_fn (hkj := hk__law_draw) F__law_draw hr (ra_cons (re_slot 0) (ra_cons re_int ra_nil)))))
      (rss_cons (rs_if (rt_cmp (o_eq hr) (re_slot 5) (re_slot 9)) (rss_one (rs_set 11 nd re_int)) rss_nil)
      (rss_cons (rs_set 12 nd (re_compP (by repeat first | exact Mi.pu_slot | exact Mi.pu_c | exact Mi.pu_true | exact Mi.pu_ix | exact Mi.pu_eqB | apply Mi.pu_test | apply Mi.pu_op) (by repeat first | exact Mi.pu_slot | exact Mi.pu_c | exact Mi.pu_true | exact Mi.pu_ix | exact Mi.pu_eqB | apply Mi.pu_test | apply Mi.pu_op) (tgs := ["_law_box"]) (ix := [10]) (i := 0) (n := 1) ⟨rfl, by decide +kernel, by decide +kernel, ⟨Or.inl rfl, trivial⟩, rfl, by decide +kernel⟩ rfl (ri_box (re_slot 4)) (fun _ _ _ _ => pg_name (i := 0) (show List.Nodup (["_law_box", "_law_name"] : List Str) from by decide +kernel) rfl (Or.inl rfl)) (fun _ _ _ _ => rifs_one (rt_cmp (o_eq hr) (re_ix o_ix (re_slot 0) re_int) (re_slot 1))) (fun _ _ _ _ => (re_ix o_ix (re_slot 0) re_int))))
      (rss_cons (rs_set 13 nd (re_lstB (ra_cons re_str (ra_cons re_str (ra_cons re_str (ra_cons re_str ra_nil))))))
      (rss_cons (rs_expr (re_methL PySem.F.slot_list_insert PySem.F.type_list_insert m_insert (re_slot 13) (ra_cons re_int (ra_cons (re_fn (hkj := hk__law_any_name) F__law_any_name hr (ra_cons (re_slot 0) (ra_cons (re_op o_add1 (re_slot 13) (re_lst (ra_cons re_str (ra_cons re_str (ra_cons re_str (ra_cons re_str ra_nil)))))) ra_nil))) ra_nil))))
      (rss_cons (rs_set 13 nd (re_sl (re_slot 13) ro_none (ro_some (re_op o_add re_int (re_fn (hkj := hk__law_draw) F__law_draw hr (ra_cons (re_slot 0) (ra_cons re_int ra_nil)))))))
      (rss_cons (rs_setComp 14 (tgs := ["_law_j"]) (ix := [4, 5, 11, 12, 13, 0]) (i := 0) (n := 1) nd ⟨rfl, by decide +kernel, by decide +kernel, ⟨Or.inl rfl, Or.inl rfl, Or.inl rfl, Or.inl rfl, Or.inl rfl, Or.inl rfl, trivial⟩, rfl, by decide +kernel⟩ rfl (ri_range1 y_range (ra_cons (re_slot 11) ra_nil)) (fun _ _ _ _ => pg_name (i := 0) (show List.Nodup (["_law_j", "_law_boxes", "_law_k", "_law_many", "_law_own", "_law_row_names", "_law_well_here"] : List Str) from by decide +kernel) rfl (Or.inl rfl)) (fun _ _ _ _ => rifs_nil) (fun _ _ _ _ => (re_fn (hkj := hk__law_row) F__law_row hr (ra_cons (re_slot 6) (ra_cons (re_slot 4) (ra_cons (re_compP (by repeat first | exact Mi.pu_slot | exact Mi.pu_c | exact Mi.pu_true | exact Mi.pu_ix | exact Mi.pu_eqB | apply Mi.pu_test | apply Mi.pu_op) (by repeat first | exact Mi.pu_slot | exact Mi.pu_c | exact Mi.pu_true | exact Mi.pu_ix | exact Mi.pu_eqB | apply Mi.pu_test | apply Mi.pu_op) (tgs := ["_law_box"]) (ix := []) (i := 0) (n := 1) ⟨rfl, by decide +kernel, by decide +kernel, trivial, rfl, by decide +kernel⟩ rfl (ri_box (re_slot 1)) (fun _ _ _ _ => pg_name (i := 0) (show List.Nodup (["_law_box"] : List Str) from by decide +kernel) rfl (Or.inl rfl)) (fun _ _ _ _ => rifs_nil) (fun _ _ _ _ => (re_ix o_ix (re_slot 0) re_int))) (ra_cons (re_slot 5) (ra_cons (re_slot 3) (ra_cons (re_cmp (o_eq hr) (re_slot 2) re_int) ra_nil)))))))) (fun _ _ _ _ _ _ _ _ R i e q => newL_ok R i e q))
      (rss_one (rs_expr (re_methL PySem.F.slot_list_append PySem.F.type_list_append m_append (re_slot 8) (ra_cons (re_tup (ra_cons (re_slot 10) (ra_cons (re_ix o_ix (re_lst (ra_cons re_int (ra_cons re_int (ra_cons re_int (ra_cons re_int (ra_cons re_int ra_nil)))))) (re_fn (hkj := hk__law_draw) F__law_draw hr (ra_cons (re_slot 0) (ra_cons re_int ra_nil)))) (ra_cons (re_callTy c_tuple y_tuple Mi.boot_tuple (ra_cons (re_slot 14) ra_nil)) ra_nil)))) ra_nil))))))))))))
      (rss_cons (rs_set 6 nd (re_op o_add re_int (re_fn (hkj := hk__law_draw) F__law_draw hr (ra_cons (re_slot 0) (ra_cons re_int ra_nil)))))
      (rss_cons (rs_set 7 nd (re_ix o_ix (re_lst (ra_cons re_str (ra_cons re_str (ra_cons re_str ra_nil)))) (re_fn (hkj := hk__law_draw) F__law_draw hr (ra_cons (re_slot 0) (ra_cons re_int ra_nil)))))
      (rss_one (rs_ret (re_tup (ra_cons (re_slot 7) (ra_cons (re_slot 6) (ra_cons (re_fn (hkj := hk__law_draw) F__law_draw hr (ra_cons (re_slot 0) (ra_cons (re_slot 6) ra_nil))) (ra_cons (re_callTy c_tuple y_tuple Mi.boot_tuple (ra_cons (re_slot 4) ra_nil)) (ra_cons (re_callTy c_tuple y_tuple Mi.boot_tuple (ra_cons (re_slot 8) ra_nil)) ra_nil))))))))))))))))))))
noncomputable abbrev s_law : Stmt := top 44
theorem sc_law : FnScope ["_law_script", "_law_cell", "_law_well_here", "_law_making_here", "_law_some", "_law_name", "_law_within", "_law_rows", "_law_hand", "_law_bare"] ["_law_script"] (defScope s_law) := ⟨rfl, rfl, rfl, by decide +kernel, rfl, by decide +kernel, by decide +kernel⟩
set_option maxHeartbeats 4000000 in
theorem r_law {φ__law_cell_at : List D → M D} {k__law_cell_at : Nat} {φ__law_well : List D → M D} {k__law_well : Nat} {φ__law_making : List D → M D} {k__law_making : Nat} {φ_check_making : List D → M D} {k_check_making : Nat} {φ__law_draw : List D → M D} {k__law_draw : Nat} {k : Nat} {f : Addr} (F__law_cell_at : Fn P w K mg base "_law_cell_at" ["_law_script", "_law_k"] k__law_cell_at φ__law_cell_at) (hk__law_cell_at : k__law_cell_at ≤ k) (F__law_well : Fn P w K mg base "_law_well" ["_law_cell"] k__law_well φ__law_well) (hk__law_well : k__law_well ≤ k) (F__law_making : Fn P w K mg base "_law_making" ["_law_well_here"] k__law_making φ__law_making) (hk__law_making : k__law_making ≤ k) (F_check_making : Fn P w K mg base "check_making" ["making"] k_check_making φ_check_making) (hk_check_making : k_check_making ≤ k) (F__law_draw : Fn P w K mg base "_law_draw" ["_law_well_here", "_law_base"] k__law_draw φ__law_draw) (hk__law_draw : k__law_draw ≤ k) (cdv : Value) (A : Around) (outer : List Env) (s : Shared) (H : Hp) (E : XK) (hr : Room k (A.deeper (PyProof.Rows.envOfC "law" (defScope s_law) s.heap.objs.size f cdv))) :
    RSs (cxOf CX0 P w K mg base ["_law_script", "_law_cell", "_law_well_here", "_law_making_here", "_law_some", "_law_name", "_law_within", "_law_rows", "_law_hand", "_law_bare"] "law" (defScope s_law) f cdv A outer s H E).nox (defBody s_law) (m_law φ__law_cell_at φ__law_well φ__law_making φ_check_making φ__law_draw) := by
  have nd := sc_law.nd
  exact (rss_cons (rs_for PassesOwn.never rfl (ri_seq (re_op o_add (re_lst (ra_cons (re_fn (hkj := hk__law_cell_at) F__law_cell_at hr (ra_cons (re_slot 0) (ra_cons re_int ra_nil))) ra_nil)) (re_sl (re_slot 0) (ro_some re_int) (ro_some re_int)))) (rg_name 1 nd) (rss_cons (rs_set 2 nd (re_fn (hkj := hk__law_well) F__law_well hr (ra_cons (re_slot 1) ra_nil)))
      (rss_cons (rs_set 3 nd (re_fn (hkj := hk__law_making) F__law_making hr (ra_cons (re_slot 2) ra_nil)))
      (rss_cons (rs_if (RW.rt (rw_or (rt_cmp o_isnot (re_fn (hkj := hk_check_making) F_check_making hr (ra_cons (re_slot 3) ra_nil)) re_non) (rw_or1 (rt_cmp o_isnot (re_fn (hkj := hk_check_making) F_check_making hr (ra_cons (re_slot 3) ra_nil)) re_non)))) (rss_one (rs_ret re_bl)) rss_nil)
      (rss_cons (rs_set 4 nd (re_lst (ra_cons (re_tup (ra_cons re_str (ra_cons re_int (ra_cons re_int ra_nil)))) (ra_cons (re_tup (ra_cons re_str (ra_cons re_int (ra_cons re_int ra_nil)))) (ra_cons (re_tup (ra_cons re_str (ra_cons re_int (ra_cons re_int ra_nil)))) (ra_cons (re_tup (ra_cons re_str (ra_cons re_int (ra_cons re_int ra_nil)))) ra_nil))))))
      (rss_cons (rs_if (rt_cmp o_isnot (re_fn (hkj := hk_check_making) F_check_making hr (ra_cons (re_op o_add (re_ix o_ix (re_slot 4) (re_fn (hkj := hk__law_draw) F__law_draw hr (ra_cons (re_slot 2) (ra_cons re_int ra_nil)))) (re_sl (re_slot 3) (ro_some re_int) ro_none)) ra_nil)) re_non) (rss_one (rs_ret re_bl)) rss_nil)
      (rss_cons (rs_asg (re_ix o_ix (re_ix o_ix (re_slot 3) re_int) re_int) (rg_tup (is := [5, 6, 7]) rfl (pgs_cons (pg_name (i := 5) nd rfl (by first | exact Or.inl rfl | exact Or.inr rfl)) (pgs_cons (pg_name (i := 6) nd rfl (by first | exact Or.inl rfl | exact Or.inr rfl)) (pgs_cons (pg_name (i := 7) nd rfl (by first | exact Or.inl rfl | exact Or.inr rfl)) pgs_nil)))))
      (rss_cons (rs_set 8 nd (re_tup (ra_cons (re_slot 5) (ra_cons (re_ix o_ix (re_lst (ra_cons re_int (ra_cons re_int ra_nil))) (re_fn (hkj := hk__law_draw) F__law_draw hr (ra_cons (re_slot 2) (ra_cons re_int ra_nil)))) (ra_cons (re_slot 7) ra_nil)))))
      (rss_one (rs_if (rt_cmp o_isnot (re_fn (hkj := hk_check_making) F_check_making hr (ra_cons (re_op o_add (re_sl (re_slot 3) ro_none (ro_some re_int)) (re_tup (ra_cons (re_op o_add (re_tup (ra_cons (re_slot 8) ra_nil)) (re_sl (re_ix o_ix (re_slot 3) re_int) (ro_some re_int) ro_none)) ra_nil))) ra_nil)) re_non) (rss_one (rs_ret re_bl)) rss_nil))))))))))
      (rss_cons (rs_set 9 nd (re_tup (ra_cons (re_tup (ra_cons re_str (ra_cons re_int (ra_cons (re_tup ra_nil) ra_nil)))) (ra_cons (re_tup (ra_cons re_str (ra_cons re_int (ra_cons (re_tup ra_nil) ra_nil)))) ra_nil))))
      (rss_one (rs_ret (re_cmp o_is (re_fn (hkj := hk_check_making) F_check_making hr (ra_cons (re_tup (ra_cons re_str (ra_cons re_int (ra_cons re_int (ra_cons (re_tup ra_nil) (ra_cons (re_slot 9) ra_nil)))))) ra_nil)) re_non)))))
end
end K1
namespace K1
open PySem L2 Mi
set_option maxHeartbeats 4000000 in
theorem all_mk {l : PySem.W.OpenLaw} {w : World} {K : PySem.W.Frag} {h : Heap} {mg : Str → Option Value} {fa : Addr} (hφ : ∀ ns : List Int, ns.length ≤ 63 → ∃ μ', f_law [.scr ns] [] = some (.bl true, μ')) (X : K.In h) (G : h.Ns mainGlobals mg) (hfa : mg "law" = some (.ref fa))
    (e__law_cell_at : ∃ f fd, Df K "_law_cell_at" s__law_cell_at f fd)
    (e__law_well : ∃ f fd, Df K "_law_well" s__law_well f fd)
    (e__law_draw : ∃ f fd, Df K "_law_draw" s__law_draw f fd)
    (e__law_any_name : ∃ f fd, Df K "_law_any_name" s__law_any_name f fd)
    (e__law_expr : ∃ f fd, Df K "_law_expr" s__law_expr f fd)
    (e__law_row : ∃ f fd, Df K "_law_row" s__law_row f fd)
    (e__law_making : ∃ f fd, Df K "_law_making" s__law_making f fd)
    (e_is_tuple : ∃ f fd, Df K "is_tuple" s_is_tuple f fd)
    (e_need : ∃ f fd, Df K "need" s_need f fd)
    (e_is_whole : ∃ f fd, Df K "is_whole" s_is_whole f fd)
    (e_check_worths : ∃ f fd, Df K "check_worths" s_check_worths f fd)
    (e_is_name : ∃ f fd, Df K "is_name" s_is_name f fd)
    (e_are_unlike : ∃ f fd, Df K "are_unlike" s_are_unlike f fd)
    (e_check_boxes : ∃ f fd, Df K "check_boxes" s_check_boxes f fd)
    (e_check_hands : ∃ f fd, Df K "check_hands" s_check_hands f fd)
    (e_is_expression : ∃ f fd, Df K "is_expression" s_is_expression f fd)
    (e_is_part : ∃ f fd, Df K "is_part" s_is_part f fd)
    (e_check_form : ∃ f fd, Df K "check_form" s_check_form f fd)
    (e_check_ending : ∃ f fd, Df K "check_ending" s_check_ending f fd)
    (e_variables_in : ∃ f fd, Df K "variables_in" s_variables_in f fd)
    (e_variables_of : ∃ f fd, Df K "variables_of" s_variables_of f fd)
    (e_check_variables : ∃ f fd, Df K "check_variables" s_check_variables f fd)
    (e_check_rows : ∃ f fd, Df K "check_rows" s_check_rows f fd)
    (e_check_making : ∃ f fd, Df K "check_making" s_check_making f fd)
    (e_law : ∃ f fd, Df K "law" s_law f fd)
    (z_all : PySem.W.nsIn K mainGlobals "all" = some none)
    (z_bool : PySem.W.nsIn K mainGlobals "bool" = some none)
    (z_enumerate : PySem.W.nsIn K mainGlobals "enumerate" = some none)
    (z_int : PySem.W.nsIn K mainGlobals "int" = some none)
    (z_isinstance : PySem.W.nsIn K mainGlobals "isinstance" = some none)
    (z_len : PySem.W.nsIn K mainGlobals "len" = some none)
    (z_max : PySem.W.nsIn K mainGlobals "max" = some none)
    (z_min : PySem.W.nsIn K mainGlobals "min" = some none)
    (z_range : PySem.W.nsIn K mainGlobals "range" = some none)
    (z_set : PySem.W.nsIn K mainGlobals "set" = some none)
    (z_str : PySem.W.nsIn K mainGlobals "str" = some none)
    (z_tuple : PySem.W.nsIn K mainGlobals "tuple" = some none)
    (z_zip : PySem.W.nsIn K mainGlobals "zip" = some none)
    (g_DEEPEST : Glo K mg "DEEPEST" d_DEEPEST)
    (g_GREATEST : Glo K mg "GREATEST" d_GREATEST)
    (g_KINDS : Glo K mg "KINDS" d_KINDS)
    (g_LEAST_HANDS : Glo K mg "LEAST_HANDS" d_LEAST_HANDS)
    (g_LEAST_SIZE : Glo K mg "LEAST_SIZE" d_LEAST_SIZE)
    (g_LETTERS : Glo K mg "LETTERS" d_LETTERS)
    (g_MOST_BOXES : Glo K mg "MOST_BOXES" d_MOST_BOXES)
    (g_MOST_HANDS : Glo K mg "MOST_HANDS" d_MOST_HANDS)
    (g_MOST_ROWS : Glo K mg "MOST_ROWS" d_MOST_ROWS)
    (g_MOST_SIZE : Glo K mg "MOST_SIZE" d_MOST_SIZE)
    (g_MOST_WITHIN : Glo K mg "MOST_WITHIN" d_MOST_WITHIN)
    (g_NO_VARIABLES : Glo K mg "NO_VARIABLES" d_NO_VARIABLES)
    (g_PAIR_WORDS : Glo K mg "PAIR_WORDS" d_PAIR_WORDS)
    (k_PARTS : KTab w K mg "PARTS" t_PARTS) :
    ∃ fd : FuncData, (∀ (s : Shared) (v : Value), BindsTo s fd ⟨[v], []⟩ [("_law_script", v)]) ∧ ∀ base : Heap, K.In base → base.Ns mainGlobals mg → FnOk l.prog w K mg base CX0 13 fa fd ["_law_script"] (spTop K) := by
  have y_all := PySem.W.mg_none_of X G z_all
  have y_bool := PySem.W.mg_none_of X G z_bool
  have y_enumerate := PySem.W.mg_none_of X G z_enumerate
  have y_int := PySem.W.mg_none_of X G z_int
  have y_isinstance := PySem.W.mg_none_of X G z_isinstance
  have y_len := PySem.W.mg_none_of X G z_len
  have y_max := PySem.W.mg_none_of X G z_max
  have y_min := PySem.W.mg_none_of X G z_min
  have y_range := PySem.W.mg_none_of X G z_range
  have y_set := PySem.W.mg_none_of X G z_set
  have y_str := PySem.W.mg_none_of X G z_str
  have y_tuple := PySem.W.mg_none_of X G z_tuple
  have y_zip := PySem.W.mg_none_of X G z_zip
  obtain ⟨fa__law_cell_at, fd__law_cell_at, d__law_cell_at⟩ := e__law_cell_at
  have m__law_cell_at := PySem.W.mg_of X G d__law_cell_at.a
  have b__law_cell_at := d__law_cell_at.F.binds (ps := ["_law_script", "_law_k"]) fun _ _ _ _ _ _ us hl => match us, hl with | [_, _], _ => rfl
  obtain ⟨fa__law_well, fd__law_well, d__law_well⟩ := e__law_well
  have m__law_well := PySem.W.mg_of X G d__law_well.a
  have b__law_well := d__law_well.F.binds (ps := ["_law_cell"]) fun _ _ _ _ _ _ us hl => match us, hl with | [_], _ => rfl
  obtain ⟨fa__law_draw, fd__law_draw, d__law_draw⟩ := e__law_draw
  have m__law_draw := PySem.W.mg_of X G d__law_draw.a
  have b__law_draw := d__law_draw.F.binds (ps := ["_law_well_here", "_law_base"]) fun _ _ _ _ _ _ us hl => match us, hl with | [_, _], _ => rfl
  obtain ⟨fa__law_any_name, fd__law_any_name, d__law_any_name⟩ := e__law_any_name
  have m__law_any_name := PySem.W.mg_of X G d__law_any_name.a
  have b__law_any_name := d__law_any_name.F.binds (ps := ["_law_well_here", "_law_others"]) fun _ _ _ _ _ _ us hl => match us, hl with | [_, _], _ => rfl
  obtain ⟨fa__law_expr, fd__law_expr, d__law_expr⟩ := e__law_expr
  have m__law_expr := PySem.W.mg_of X G d__law_expr.a
  have b__law_expr := d__law_expr.F.binds (ps := ["_law_well_here", "_law_names", "_law_deep"]) fun _ _ _ _ _ _ us hl => match us, hl with | [_, _, _], _ => rfl
  obtain ⟨fa__law_row, fd__law_row, d__law_row⟩ := e__law_row
  have m__law_row := PySem.W.mg_of X G d__law_row.a
  have b__law_row := d__law_row.F.binds (ps := ["_law_well_here", "_law_own", "_law_boxes", "_law_names", "_law_many", "_law_is_writer"]) fun _ _ _ _ _ _ us hl => match us, hl with | [_, _, _, _, _, _], _ => rfl
  obtain ⟨fa__law_making, fd__law_making, d__law_making⟩ := e__law_making
  have m__law_making := PySem.W.mg_of X G d__law_making.a
  have b__law_making := d__law_making.F.binds (ps := ["_law_well_here"]) fun _ _ _ _ _ _ us hl => match us, hl with | [_], _ => rfl
  obtain ⟨fa_is_tuple, fd_is_tuple, d_is_tuple⟩ := e_is_tuple
  have m_is_tuple := PySem.W.mg_of X G d_is_tuple.a
  have b_is_tuple := d_is_tuple.F.binds (ps := ["thing", "least", "most"]) fun _ _ _ _ _ _ us hl => match us, hl with | [_, _, _], _ => rfl
  obtain ⟨fa_need, fd_need, d_need⟩ := e_need
  have m_need := PySem.W.mg_of X G d_need.a
  have b_need := d_need.F.binds (ps := ["holds", "words"]) fun _ _ _ _ _ _ us hl => match us, hl with | [_, _], _ => rfl
  obtain ⟨fa_is_whole, fd_is_whole, d_is_whole⟩ := e_is_whole
  have m_is_whole := PySem.W.mg_of X G d_is_whole.a
  have b_is_whole := d_is_whole.F.binds (ps := ["thing", "least", "most"]) fun _ _ _ _ _ _ us hl => match us, hl with | [_, _, _], _ => rfl
  obtain ⟨fa_check_worths, fd_check_worths, d_check_worths⟩ := e_check_worths
  have m_check_worths := PySem.W.mg_of X G d_check_worths.a
  have b_check_worths := d_check_worths.F.binds (ps := ["kind", "size", "begin"]) fun _ _ _ _ _ _ us hl => match us, hl with | [_, _, _], _ => rfl
  obtain ⟨fa_is_name, fd_is_name, d_is_name⟩ := e_is_name
  have m_is_name := PySem.W.mg_of X G d_is_name.a
  have b_is_name := d_is_name.F.binds (ps := ["thing"]) fun _ _ _ _ _ _ us hl => match us, hl with | [_], _ => rfl
  obtain ⟨fa_are_unlike, fd_are_unlike, d_are_unlike⟩ := e_are_unlike
  have m_are_unlike := PySem.W.mg_of X G d_are_unlike.a
  have b_are_unlike := d_are_unlike.F.binds (ps := ["names"]) fun _ _ _ _ _ _ us hl => match us, hl with | [_], _ => rfl
  obtain ⟨fa_check_boxes, fd_check_boxes, d_check_boxes⟩ := e_check_boxes
  have m_check_boxes := PySem.W.mg_of X G d_check_boxes.a
  have b_check_boxes := d_check_boxes.F.binds (ps := ["boxes"]) fun _ _ _ _ _ _ us hl => match us, hl with | [_], _ => rfl
  obtain ⟨fa_check_hands, fd_check_hands, d_check_hands⟩ := e_check_hands
  have m_check_hands := PySem.W.mg_of X G d_check_hands.a
  have b_check_hands := d_check_hands.F.binds (ps := ["hands"]) fun _ _ _ _ _ _ us hl => match us, hl with | [_], _ => rfl
  obtain ⟨fa_is_expression, fd_is_expression, d_is_expression⟩ := e_is_expression
  have m_is_expression := PySem.W.mg_of X G d_is_expression.a
  have b_is_expression := d_is_expression.F.binds (ps := ["thing", "deep"]) fun _ _ _ _ _ _ us hl => match us, hl with | [_, _], _ => rfl
  obtain ⟨fa_is_part, fd_is_part, d_is_part⟩ := e_is_part
  have m_is_part := PySem.W.mg_of X G d_is_part.a
  have b_is_part := d_is_part.F.binds (ps := ["part", "thing", "length"]) fun _ _ _ _ _ _ us hl => match us, hl with | [_, _, _], _ => rfl
  obtain ⟨fa_check_form, fd_check_form, d_check_form⟩ := e_check_form
  have m_check_form := PySem.W.mg_of X G d_check_form.a
  have b_check_form := d_check_form.F.binds (ps := ["row", "length"]) fun _ _ _ _ _ _ us hl => match us, hl with | [_, _], _ => rfl
  obtain ⟨fa_check_ending, fd_check_ending, d_check_ending⟩ := e_check_ending
  have m_check_ending := PySem.W.mg_of X G d_check_ending.a
  have b_check_ending := d_check_ending.F.binds (ps := ["word", "is_writer"]) fun _ _ _ _ _ _ us hl => match us, hl with | [_, _], _ => rfl
  obtain ⟨fa_variables_in, fd_variables_in, d_variables_in⟩ := e_variables_in
  have m_variables_in := PySem.W.mg_of X G d_variables_in.a
  have b_variables_in := d_variables_in.F.binds (ps := ["expression"]) fun _ _ _ _ _ _ us hl => match us, hl with | [_], _ => rfl
  obtain ⟨fa_variables_of, fd_variables_of, d_variables_of⟩ := e_variables_of
  have m_variables_of := PySem.W.mg_of X G d_variables_of.a
  have b_variables_of := d_variables_of.F.binds (ps := ["row"]) fun _ _ _ _ _ _ us hl => match us, hl with | [_], _ => rfl
  obtain ⟨fa_check_variables, fd_check_variables, d_check_variables⟩ := e_check_variables
  have m_check_variables := PySem.W.mg_of X G d_check_variables.a
  have b_check_variables := d_check_variables.F.binds (ps := ["row", "is_writer"]) fun _ _ _ _ _ _ us hl => match us, hl with | [_, _], _ => rfl
  obtain ⟨fa_check_rows, fd_check_rows, d_check_rows⟩ := e_check_rows
  have m_check_rows := PySem.W.mg_of X G d_check_rows.a
  have b_check_rows := d_check_rows.F.binds (ps := ["hand", "is_writer", "writers"]) fun _ _ _ _ _ _ us hl => match us, hl with | [_, _, _], _ => rfl
  obtain ⟨fa_check_making, fd_check_making, d_check_making⟩ := e_check_making
  have m_check_making := PySem.W.mg_of X G d_check_making.a
  have b_check_making := d_check_making.F.binds (ps := ["making"]) fun _ _ _ _ _ _ us hl => match us, hl with | [_], _ => rfl
  obtain ⟨fa_law, fd_law, d_law⟩ := e_law
  have m_law := PySem.W.mg_of X G d_law.a
  have b_law := d_law.F.binds (ps := ["_law_script"]) fun _ _ _ _ _ _ us hl => match us, hl with | [_], _ => rfl
  have e := hfa.symm.trans m_law
  cases e
  refine ⟨fd_law, fun s v => ?_, fun base _ _ => ?_⟩
  · obtain ⟨oc, od, kV, doc, pm, an, cdv, ct, osl, rfl, lk, hcd⟩ := d_law.F.ex
    exact .of_eq rfl
  have F__law_cell_at : Fn l.prog w K mg base "_law_cell_at" ["_law_script", "_law_k"] 1 f__law_cell_at := fn_self (k := 0) .drop d__law_cell_at.F sc__law_cell_at m__law_cell_at b__law_cell_at (r__law_cell_at y_len)
  have F__law_well : Fn l.prog w K mg base "_law_well" ["_law_cell"] 1 f__law_well := fn_self (k := 0) .all d__law_well.F sc__law_well m__law_well b__law_well (r__law_well y_max)
  have F__law_draw : Fn l.prog w K mg base "_law_draw" ["_law_well_here", "_law_base"] 1 f__law_draw := fn_self (k := 0) .drop d__law_draw.F sc__law_draw m__law_draw b__law_draw r__law_draw
  have F__law_any_name : Fn l.prog w K mg base "_law_any_name" ["_law_well_here", "_law_others"] 2 f__law_any_name := fn_self (k := 1) .drop d__law_any_name.F sc__law_any_name m__law_any_name b__law_any_name (r__law_any_name F__law_draw (by decide) y_range)
  have F__law_expr : ∀ n : Nat, Fn l.prog w K mg base "_law_expr" ["_law_well_here", "_law_names", "_law_deep"] (n + 2) (f__law_expr n) := fun n => by
    induction n with
    | zero => exact fn_never d__law_expr.F m__law_expr b__law_expr
    | succ n ih => exact (fn_self (k := n + 2) .drop d__law_expr.F sc__law_expr m__law_expr b__law_expr (r__law_expr F__law_draw (by omega) ih (Nat.le_refl _) y_len y_min)).mono (by omega)
  have F__law_row : Fn l.prog w K mg base "_law_row" ["_law_well_here", "_law_own", "_law_boxes", "_law_names", "_law_many", "_law_is_writer"] 9 f__law_row := fn_self (k := 8) .drop d__law_row.F sc__law_row m__law_row b__law_row (r__law_row F__law_draw (by decide) (F__law_expr 6) (by decide) y_min y_int y_len)
  have F__law_making : Fn l.prog w K mg base "_law_making" ["_law_well_here"] 10 f__law_making := fn_self (k := 9) .drop d__law_making.F sc__law_making m__law_making b__law_making (r__law_making F__law_any_name (by decide) F__law_draw (by decide) F__law_row (by decide) y_range y_len y_enumerate y_tuple)
  have F_is_tuple : Fn l.prog w K mg base "is_tuple" ["thing", "least", "most"] 1 f_is_tuple := fn_self (k := 0) .drop d_is_tuple.F sc_is_tuple m_is_tuple b_is_tuple (r_is_tuple y_tuple y_isinstance y_len)
  have F_need : Fn l.prog w K mg base "need" ["holds", "words"] 1 f_need := fn_self (k := 0) .drop d_need.F sc_need m_need b_need r_need
  have F_is_whole : Fn l.prog w K mg base "is_whole" ["thing", "least", "most"] 1 f_is_whole := fn_self (k := 0) .drop d_is_whole.F sc_is_whole m_is_whole b_is_whole (r_is_whole y_int y_isinstance y_bool)
  have F_check_worths : Fn l.prog w K mg base "check_worths" ["kind", "size", "begin"] 2 f_check_worths := fn_self (k := 1) .drop d_check_worths.F sc_check_worths m_check_worths b_check_worths (r_check_worths F_need (by decide) F_is_whole (by decide) g_KINDS g_LEAST_SIZE g_MOST_SIZE)
  have F_is_name : Fn l.prog w K mg base "is_name" ["thing"] 1 f_is_name := fn_self (k := 0) .drop d_is_name.F sc_is_name m_is_name b_is_name (r_is_name y_str y_isinstance y_len y_all g_LETTERS)
  have F_are_unlike : Fn l.prog w K mg base "are_unlike" ["names"] 1 f_are_unlike := fn_self (k := 0) .drop d_are_unlike.F sc_are_unlike m_are_unlike b_are_unlike (r_are_unlike y_len y_set)
  have F_check_boxes : Fn l.prog w K mg base "check_boxes" ["boxes"] 3 f_check_boxes := fn_self (k := 2) .drop d_check_boxes.F sc_check_boxes m_check_boxes b_check_boxes (r_check_boxes F_is_tuple (by decide) F_need (by decide) F_is_name (by decide) F_check_worths (by decide) F_are_unlike (by decide) g_MOST_BOXES)
  have F_check_hands : Fn l.prog w K mg base "check_hands" ["hands"] 2 f_check_hands := fn_self (k := 1) .drop d_check_hands.F sc_check_hands m_check_hands b_check_hands (r_check_hands F_is_tuple (by decide) F_need (by decide) F_is_name (by decide) F_is_whole (by decide) F_are_unlike (by decide) g_LEAST_HANDS g_MOST_HANDS g_MOST_WITHIN g_MOST_ROWS)
  have F_is_expression : ∀ n : Nat, Fn l.prog w K mg base "is_expression" ["thing", "deep"] (n + 2) (f_is_expression n) := fun n => by
    induction n with
    | zero => exact fn_never d_is_expression.F m_is_expression b_is_expression
    | succ n ih => exact (fn_self (k := n + 2) .drop d_is_expression.F sc_is_expression m_is_expression b_is_expression (r_is_expression ih (Nat.le_refl _) F_is_whole (by omega) F_is_name (by omega) y_tuple y_isinstance y_len g_PAIR_WORDS g_GREATEST)).mono (by omega)
  have F_is_part : Fn l.prog w K mg base "is_part" ["part", "thing", "length"] 9 f_is_part := fn_self (k := 8) .drop d_is_part.F sc_is_part m_is_part b_is_part (r_is_part (F_is_expression 6) (by decide) F_is_whole (by decide) F_is_name (by decide) g_DEEPEST)
  have F_check_form : Fn l.prog w K mg base "check_form" ["row", "length"] 10 f_check_form := fn_self (k := 9) .drop d_check_form.F sc_check_form m_check_form b_check_form (r_check_form F_is_tuple (by decide) F_need (by decide) F_is_part (by decide) y_str y_isinstance y_len y_zip k_PARTS)
  have F_check_ending : Fn l.prog w K mg base "check_ending" ["word", "is_writer"] 2 f_check_ending := fn_self (k := 1) .drop d_check_ending.F sc_check_ending m_check_ending b_check_ending (r_check_ending F_need (by decide))
  have F_variables_in : ∀ n : Nat, Fn l.prog w K mg base "variables_in" ["expression"] (n + 1) (f_variables_in n) := fun n => by
    induction n with
    | zero => exact fn_never d_variables_in.F m_variables_in b_variables_in
    | succ n ih => exact (fn_self (k := n + 1) .frz d_variables_in.F sc_variables_in m_variables_in b_variables_in (r_variables_in ih (Nat.le_refl _))).mono (by omega)
  have F_variables_of : Fn l.prog w K mg base "variables_of" ["row"] 8 f_variables_of := fn_self (k := 7) .frz d_variables_of.F sc_variables_of m_variables_of b_variables_of (r_variables_of (F_variables_in 6) (by decide) y_zip k_PARTS)
  have F_check_variables : Fn l.prog w K mg base "check_variables" ["row", "is_writer"] 9 f_check_variables := fn_self (k := 8) .drop d_check_variables.F sc_check_variables m_check_variables b_check_variables (r_check_variables F_variables_of (by decide) F_need (by decide) g_NO_VARIABLES)
  have F_check_rows : Fn l.prog w K mg base "check_rows" ["hand", "is_writer", "writers"] 11 f_check_rows := fn_self (k := 10) .drop d_check_rows.F sc_check_rows m_check_rows b_check_rows (r_check_rows F_check_form (by decide) F_check_ending (by decide) F_check_variables (by decide) F_need (by decide) y_len)
  have F_check_making : Fn l.prog w K mg base "check_making" ["making"] 12 f_check_making := fn_self (k := 11) .drop d_check_making.F sc_check_making m_check_making b_check_making (r_check_making F_is_tuple (by decide) F_need (by decide) F_check_worths (by decide) F_check_boxes (by decide) F_check_hands (by decide) F_check_rows (by decide) y_enumerate)
  exact top_of (φ := f_law) (fok_self (k := 12) .drop d_law.F sc_law (r_law F__law_cell_at (by decide) F__law_well (by decide) F__law_making (by decide) F_check_making (by decide) F__law_draw (by decide))) hφ
end K1
open PySem PySem.W PyProof.Rows
local macro_rules | `(tactic| wtm_at "own qdf") => `(tactic| (refine' Mi.df_mk ?qa ?ql ?qc ?qk; (case qa => k_is); (case ql => k_is); (case qc => k_is); (case qk => k_is)))
local macro_rules | `(tactic| wtm_at "own qtl") => `(tactic| (refine' Mi.tl_mk ?pl ?pe; (case pl => k_is); (case pe => rfl)))
set_option maxRecDepth 100000 in
set_option maxHeartbeats 0 in
theorem PySem.Challenge.cw_strongboxes_k01_makings_let_by_holds : PySem.Challenge.rw_strongboxes_k01_makings_let_by.Holds := by
  w_on; o_law; k_head; (case hw => w_witness2)
  k_fill
  refine Mi.walkM (k := 13) (l := PySem.Challenge.rw_strongboxes_k01_makings_let_by) rfl rfl (by decide) (fun w h Y => PySem.W.kIn_of Y) ?F
  case F =>
    intro w mg fa h KX G hmg
    refine' K1.all_mk K1.math KX G hmg ?e__law_cell_at ?e__law_well ?e__law_draw ?e__law_any_name ?e__law_expr ?e__law_row ?e__law_making ?e_is_tuple ?e_need ?e_is_whole ?e_check_worths ?e_is_name ?e_are_unlike ?e_check_boxes ?e_check_hands ?e_is_expression ?e_is_part ?e_check_form ?e_check_ending ?e_variables_in ?e_variables_of ?e_check_variables ?e_check_rows ?e_check_making ?e_law ?z_all ?z_bool ?z_enumerate ?z_int ?z_isinstance ?z_len ?z_max ?z_min ?z_range ?z_set ?z_str ?z_tuple ?z_zip ?g_DEEPEST ?g_GREATEST ?g_KINDS ?g_LEAST_HANDS ?g_LEAST_SIZE ?g_LETTERS ?g_MOST_BOXES ?g_MOST_HANDS ?g_MOST_ROWS ?g_MOST_SIZE ?g_MOST_WITHIN ?g_NO_VARIABLES ?g_PAIR_WORDS ?k_PARTS
    (case e__law_cell_at => wtm_at "own qdf")
    (case e__law_well => wtm_at "own qdf")
    (case e__law_draw => wtm_at "own qdf")
    (case e__law_any_name => wtm_at "own qdf")
    (case e__law_expr => wtm_at "own qdf")
    (case e__law_row => wtm_at "own qdf")
    (case e__law_making => wtm_at "own qdf")
    (case e_is_tuple => wtm_at "own qdf")
    (case e_need => wtm_at "own qdf")
    (case e_is_whole => wtm_at "own qdf")
    (case e_check_worths => wtm_at "own qdf")
    (case e_is_name => wtm_at "own qdf")
    (case e_are_unlike => wtm_at "own qdf")
    (case e_check_boxes => wtm_at "own qdf")
    (case e_check_hands => wtm_at "own qdf")
    (case e_is_expression => wtm_at "own qdf")
    (case e_is_part => wtm_at "own qdf")
    (case e_check_form => wtm_at "own qdf")
    (case e_check_ending => wtm_at "own qdf")
    (case e_variables_in => wtm_at "own qdf")
    (case e_variables_of => wtm_at "own qdf")
    (case e_check_variables => wtm_at "own qdf")
    (case e_check_rows => wtm_at "own qdf")
    (case e_check_making => wtm_at "own qdf")
    (case e_law => wtm_at "own qdf")
    (case z_all => k_is)
    (case z_bool => k_is)
    (case z_enumerate => k_is)
    (case z_int => k_is)
    (case z_isinstance => k_is)
    (case z_len => k_is)
    (case z_max => k_is)
    (case z_min => k_is)
    (case z_range => k_is)
    (case z_set => k_is)
    (case z_str => k_is)
    (case z_tuple => k_is)
    (case z_zip => k_is)
    (case g_DEEPEST => refine' Mi.glo_int KX G ?qa; (case qa => k_is))
    (case g_GREATEST => refine' Mi.glo_int KX G ?qa; (case qa => k_is))
    (case g_KINDS => refine' Mi.glo_tup KX G ?qa ?ql ?qh; (case qa => k_is); (case ql => wtm_at "own qtl"); (case qh => decide))
    (case g_LEAST_HANDS => refine' Mi.glo_int KX G ?qa; (case qa => k_is))
    (case g_LEAST_SIZE => refine' Mi.glo_int KX G ?qa; (case qa => k_is))
    (case g_LETTERS => refine' Mi.glo_str KX G ?qa; (case qa => k_is))
    (case g_MOST_BOXES => refine' Mi.glo_int KX G ?qa; (case qa => k_is))
    (case g_MOST_HANDS => refine' Mi.glo_int KX G ?qa; (case qa => k_is))
    (case g_MOST_ROWS => refine' Mi.glo_int KX G ?qa; (case qa => k_is))
    (case g_MOST_SIZE => refine' Mi.glo_int KX G ?qa; (case qa => k_is))
    (case g_MOST_WITHIN => refine' Mi.glo_int KX G ?qa; (case qa => k_is))
    (case g_NO_VARIABLES => refine' Mi.glo_tup KX G ?qa ?ql ?qh; (case qa => k_is); (case ql => wtm_at "own qtl"); (case qh => decide))
    (case g_PAIR_WORDS => refine' Mi.glo_tup KX G ?qa ?ql ?qh; (case qa => k_is); (case ql => wtm_at "own qtl"); (case qh => decide))
    (case k_PARTS => refine' Mi.ktab_mk KX G ?qa ?ql ?qk ?qs ?qT; (case qa => k_is); (case ql => k_is); (case qk => exact ⟨⟨_, _, rfl, rfl⟩, ⟨⟨_, _, rfl, rfl⟩, ⟨⟨_, _, rfl, rfl⟩, ⟨⟨_, _, rfl, rfl⟩, ⟨⟨_, _, rfl, rfl⟩, ⟨⟨_, _, rfl, rfl⟩, ⟨⟨_, _, rfl, rfl⟩, trivial⟩⟩⟩⟩⟩⟩⟩); (case qs => rfl); (case qT => refine' ⟨_, _, _, _, _, rfl, rfl, rfl, ?qt, ?qu, ?_⟩; (case qt => wtm_at "own qtl"); (case qu => decide); refine' ⟨_, _, _, _, _, rfl, rfl, rfl, ?qt, ?qu, ?_⟩; (case qt => wtm_at "own qtl"); (case qu => decide); refine' ⟨_, _, _, _, _, rfl, rfl, rfl, ?qt, ?qu, ?_⟩; (case qt => wtm_at "own qtl"); (case qu => decide); refine' ⟨_, _, _, _, _, rfl, rfl, rfl, ?qt, ?qu, ?_⟩; (case qt => wtm_at "own qtl"); (case qu => decide); refine' ⟨_, _, _, _, _, rfl, rfl, rfl, ?qt, ?qu, ?_⟩; (case qt => wtm_at "own qtl"); (case qu => decide); refine' ⟨_, _, _, _, _, rfl, rfl, rfl, ?qt, ?qu, ?_⟩; (case qt => wtm_at "own qtl"); (case qu => decide); refine' ⟨_, _, _, _, _, rfl, rfl, rfl, ?qt, ?qu, ?_⟩; (case qt => wtm_at "own qtl"); (case qu => decide); rfl))
