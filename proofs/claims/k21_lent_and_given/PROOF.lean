import PyProof.Rows.All
import Wide.All
import OpenK.AllK
import Wide.FinOn
import Lean
import PyProof.EqAt
import PyProof.EqKinds
import PyProof.TupleCall
import PySem.Challenge.RW_hallclock_k21_lent_and_given
set_option Elab.async false
set_option genSizeOf false
set_option linter.all false
set_option maxRecDepth 100000
set_option maxHeartbeats 4000000
namespace L2
open PySem PySem.Spec PyProof.Rows
noncomputable abbrev Key := Sum Int Str
noncomputable def keyIs : Key → Value → Bool
  | .inl k, v => Value.isInt k v
  | .inr x, v => Value.isStrOf x v
noncomputable def keyH (w : World) : Key → Int
  | .inl k => hashInt k
  | .inr x => hashStr w x
theorem keyIs_shape : ∀ {k : Key} {v : Value}, keyIs k v = true → (∃ i t, k = Sum.inl i ∧ v = Value.int i t) ∨ (∃ x t, k = Sum.inr x ∧ v = Value.str x t)
  | .inl i, v, h => by
    obtain ⟨t, e⟩ := Value.isInt_shape (k := i) (v := v) h
    exact .inl ⟨i, t, rfl, e⟩
  | .inr x, v, h => by
    obtain ⟨t, e⟩ := Value.isStrOf_shape (x := x) (v := v) h
    exact .inr ⟨x, t, rfl, e⟩
theorem keyIs_int (i : Int) (t : Tok) : keyIs (.inl i) (.int i t) = true := by simp [keyIs, Value.isInt]
theorem keyIs_str (x : Str) (t : Tok) : keyIs (.inr x) (.str x t) = true := by simp [keyIs, Value.isStrOf]
theorem key_ll (a b : Int) : decide ((Sum.inl a : Key) = Sum.inl b) = (a == b) := by
  by_cases e : a = b
  · subst e; simp
  · have h : ¬ (Sum.inl a : Key) = Sum.inl b := fun q => e (Sum.inl.inj q)
    rw [decide_eq_false h]
    exact (beq_eq_false_iff_ne.mpr e).symm
theorem key_rr (a b : Str) : decide ((Sum.inr a : Key) = Sum.inr b) = decide (a = b) := by
  by_cases e : a = b
  · subst e; simp
  · have h : ¬ (Sum.inr a : Key) = Sum.inr b := fun q => e (Sum.inr.inj q)
    rw [decide_eq_false h, decide_eq_false e]
theorem key_lr (a : Int) (b : Str) : decide ((Sum.inl a : Key) = Sum.inr b) = false := decide_eq_false (fun q => nomatch q)
theorem key_rl (a : Str) (b : Int) : decide ((Sum.inr a : Key) = Sum.inl b) = false := decide_eq_false (fun q => nomatch q)
noncomputable def mixKind (prog : Program) (w : World) : PySem.KeyKind prog w Key where
  is := keyIs
  hash := keyH w
  inj := fun v a b ha hb => by
    rcases keyIs_shape ha with ⟨i, t, rfl, rfl⟩ | ⟨x, t, rfl, rfl⟩
    · rcases keyIs_shape hb with ⟨j, u, rfl, e⟩ | ⟨y, u, rfl, e⟩
      · injection e with e1 _; rw [e1]
      · exact nomatch e
    · rcases keyIs_shape hb with ⟨j, u, rfl, e⟩ | ⟨y, u, rfl, e⟩
      · exact nomatch e
      · injection e with e1 _; rw [e1]
  byValue := fun k v h => by
    rcases keyIs_shape h with ⟨i, t, rfl, rfl⟩ | ⟨x, t, rfl, rfl⟩ <;> rfl
  pyHash := fun hv h => by
    rcases keyIs_shape hv with ⟨i, t, rfl, rfl⟩ | ⟨x, t, rfl, rfl⟩
    · exact wpAny_pyHash_int h
    · exact wpAny_pyHash_str h
  eqBool := fun hu hv h => by
    rcases keyIs_shape hu with ⟨i, t, rfl, rfl⟩ | ⟨x, t, rfl, rfl⟩
    · rcases keyIs_shape hv with ⟨j, u, rfl, rfl⟩ | ⟨y, u, rfl, rfl⟩
      · rw [key_ll] at h; exact wpAny_eqBool_int h
      · rw [key_lr] at h; exact SeqAt.EqAt.int_str i t y u _ _ _ _ h
    · rcases keyIs_shape hv with ⟨j, u, rfl, rfl⟩ | ⟨y, u, rfl, rfl⟩
      · rw [key_rl] at h; exact SeqAt.EqAt.str_int x t j u _ _ _ _ h
      · rw [key_rr] at h; exact wpAny_eqBool_str h
  «strs» := fun k x t v h => by
    rcases keyIs_shape h with ⟨i, u, rfl, e⟩ | ⟨y, u, rfl, e⟩
    · exact nomatch e
    · injection e with e1 _
      subst e1
      cases v <;> rfl
theorem mixKind_int (prog : Program) (w : World) (i : Int) (t : Tok) : (mixKind prog w).is (.inl i) (.int i t) = true := keyIs_int i t
theorem mixKind_str (prog : Program) (w : World) (x : Str) (t : Tok) : (mixKind prog w).is (.inr x) (.str x t) = true := keyIs_str x t
end L2
namespace L2
open PySem PySem.Spec PyProof.Rows
inductive V where
  | non | bl (b : Bool) | int (i : Int) | str (x : Str) | byt (b : Array UInt8) | flt (b : UInt64) | ref (a : Addr) | ty (n : String)
  deriving DecidableEq
noncomputable def RelV : V → Value → Prop
  | .non, u => u = Value.none
  | .bl b, u => u = Value.bool b
  | .int i, u => ∃ t, u = Value.int i t
  | .str x, u => ∃ t, u = Value.str x t
  | .byt b, u => ∃ t, u = Value.bytes b t
  | .flt b, u => ∃ t, u = Value.float b t
  | .ref a, u => u = Value.ref a
  | .ty n, u => u = Value.type n
noncomputable abbrev Vals : List V → List Value → Prop := Paired RelV
theorem Vals.length {xs : List V} {us : List Value} (r : Vals xs us) : xs.length = us.length := Paired.length r
theorem Vals.get : ∀ {xs : List V} {us : List Value} {i : Nat} {x : V}, Vals xs us → xs[i]? = some x → ∃ u, us[i]? = some u ∧ RelV x u
  | _, _, _, _, .nil, e => by simp at e
  | _, _, 0, _, .cons r _, e => by simp at e; subst e; exact ⟨_, rfl, r⟩
  | _, _, i + 1, x, .cons _ t, e => by
    obtain ⟨u, h1, h2⟩ := Vals.get (i := i) (x := x) t (by simpa using e)
    exact ⟨u, by simpa using h1, h2⟩
theorem Vals.set {x : V} {u : Value} (r : RelV x u) : ∀ {xs : List V} {us : List Value} (i : Nat), Vals xs us → Vals (xs.set i x) (us.set i u)
  | _, _, _, .nil => .nil
  | _, _, 0, .cons _ t => .cons r t
  | _, _, i + 1, .cons q t => .cons q (Vals.set r i t)
theorem Vals.append : ∀ {xs ys : List V} {us ws : List Value}, Vals xs us → Vals ys ws → Vals (xs ++ ys) (us ++ ws)
  | _, _, _, _, .nil, s => s
  | _, _, _, _, .cons r t, s => .cons r (Vals.append t s)
theorem Vals.take : ∀ {xs : List V} {us : List Value} (n : Nat), Vals xs us → Vals (xs.take n) (us.take n)
  | _, _, 0, _ => .nil
  | _, _, _ + 1, .nil => .nil
  | _, _, n + 1, .cons r t => .cons r (Vals.take n t)
theorem Vals.drop : ∀ {xs : List V} {us : List Value} (n : Nat), Vals xs us → Vals (xs.drop n) (us.drop n)
  | _, _, 0, r => r
  | _, _, _ + 1, .nil => .nil
  | _, _, n + 1, .cons _ t => Vals.drop n t
noncomputable def RelO : Option V → Option Value → Prop
  | some v, some u => RelV v u
  | none, none => True
  | _, _ => False
noncomputable def KV {κ : Type} : List (κ × V) → List (κ × Value) → Prop := Paired fun (p : κ × V) (q : κ × Value) => p.1 = q.1 ∧ RelV p.2 q.2
noncomputable def kV : Key → V
  | .inl i => .int i
  | .inr x => .str x
inductive HO where
    | lst (xs : List V)
    | tup (xs : List V)
    | dK (kvs : List (Key × V)) | dT (kvs : List (List Key × V))
    | set (S : Int → Bool) (n : Nat)
    | ins (C dx : Addr) (fs : List (Str × V))
    | own (x : Addr)
    | xd (fs : List (Str × V))
    | met (f x : Addr)
    | rng (lo hi : Int)
    | frz (o : Obj) (u : HO)
    | tbl (ps : Array Value)
    | ext (φ : Heap → Prop)
noncomputable abbrev Hp := Addr → Option HO
noncomputable def upd (H : Hp) (a : Addr) (o : HO) : Hp := fun b => if b = a then some o else H b
theorem upd_same {H : Hp} {a : Addr} {o : HO} : upd H a o a = some o := by unfold upd; rw [if_pos rfl]
theorem upd_ne {H : Hp} {a b : Addr} {o : HO} (h : b ≠ a) : upd H a o b = H b := by unfold upd; rw [if_neg h]
theorem ne_of {H : Hp} {a b : Addr} {o u : HO} (h : H a = some o) (h' : H b = some u) (d : o ≠ u) : a ≠ b := by
  intro e; subst e; rw [h] at h'; exact d (Option.some.inj h')
theorem ne_of_none {H : Hp} {a b : Addr} {o : HO} (h : H a = some o) (h' : H b = none) : a ≠ b := by
  intro e; subst e; rw [h] at h'; cases h'
section
variable (P : Program) (w : World)
noncomputable def ObjOk (H : Hp) (h : Heap) (a : Addr) : HO → Prop
  | .lst xs => xs.length ≤ sizeLine ∧ ∃ (its : List Value) (n : Nat), Vals xs its ∧ h.get? a = some { cls := .type "list", data := .seq its.toArray n }
  | .tup xs => xs.length ≤ sizeLine ∧ ∃ its : List Value, Vals xs its ∧ IsTup h a its.toArray
  | .dK kvs => kvs.length ≤ sizeLine ∧ (a == sysModules) = false ∧ ∃ vs, KV kvs vs ∧ h.DictOf (mixKind P w) a vs
  | .dT kvs => kvs.length ≤ sizeLine ∧ (a == sysModules) = false ∧ ∃ xs : List (List Key × Addr × Value),
      Paired (fun (p : List Key × V) (q : List Key × Addr × Value) => p.1 = q.1 ∧ H q.2.1 = some (.tup (p.1.map kV)) ∧ RelV p.2 q.2.2) kvs xs ∧
      ∃ o es ep, h.get? a = some o ∧ o.ExactDict ∧ o.data = .dict es ep ∧ es.toList = xs.map (entryOfKey (tupleKind (mixKind P w))) ∧ (xs.map (·.1)).Nodup
  | .set S n => h.SetOf (intKind P w) a S n
  | .ins C dx fs => H dx = some (.own a) ∧ fs.length ≤ 1000 ∧ dx ≠ a ∧ h.get? a = some (PySem.W.instObj C dx) ∧
      ∃ mA, h.Ns1 dx mA ∧ (∀ f, RelO (fs.lookup f) (mA f)) ∧ PySem.Within mA (fs.map (·.1))
  | .own _ => ∃ o, h.get? a = some o
  | .xd fs => ∃ mA, h.Ns1 a mA ∧ ∀ f, RelO (fs.lookup f) (mA f)
  | .rng lo hi => ∃ t u v, h.get? a = some { cls := .type "range", data := .fields #[.int lo t, .int hi u, .int 1 v] }
  | .frz o u => h.get? a = some o ∧ ObjOk H h a u
  | .tbl ps => h.get? a = some { cls := .none, data := .fields ps }
  | .met f x => h.get? a = some (PySem.W.methodObj (.ref f) (.ref x))
  | .ext φ => φ h ∧ (∃ o, h.get? a = some o) ∧ ∀ h1 h2 : Heap, φ h1 → (∀ o, h1.get? a = some o → h2.get? a = some o) → φ h2
noncomputable def HOk (H : Hp) (h : Heap) : Prop := ∀ a o, H a = some o → ObjOk P w H h a o
end
section
variable {P : Program} {w : World} {H H' : Hp} {h h' : Heap} {a : Addr} {o : HO}
theorem ObjOk.lt (x : ObjOk P w H h a o) : a < h.objs.size := by
  cases o with
  | lst xs => obtain ⟨_, _, _, _, e⟩ := x; exact Heap.lt_size e
  | tup xs => obtain ⟨_, _, _, p⟩ := x; exact p.lt
  | dK kvs => obtain ⟨_, _, _, _, o, _, _, e, _⟩ := x; exact Heap.lt_size e
  | dT kvs => obtain ⟨_, _, _, _, o, _, _, e, _⟩ := x; exact Heap.lt_size e
  | set S n => obtain ⟨o, _, _, _, e, _⟩ := x; exact Heap.lt_size e
  | ins C dx fs => obtain ⟨_, _, _, e, _⟩ := x; exact Heap.lt_size e
  | own y => obtain ⟨_, e⟩ := x; exact Heap.lt_size e
  | xd fs => obtain ⟨_, ⟨_, _, _, e, _⟩, _⟩ := x; exact Heap.lt_size e
  | rng lo hi => obtain ⟨_, _, _, e⟩ := x; exact Heap.lt_size e
  | frz ob u => obtain ⟨e, _⟩ := x; exact Heap.lt_size e
  | tbl ps => exact Heap.lt_size (show h.get? a = some _ from x)
  | met f y => exact Heap.lt_size (show h.get? a = some _ from x)
  | ext φ => obtain ⟨_, ⟨_, e⟩, _⟩ := x; exact Heap.lt_size e
theorem Paired.mapP {α β : Type} {F G : α → β → Prop} : ∀ {l₁ : List α} {l₂ : List β}, Paired F l₁ l₂ → (∀ a b, F a b → G a b) → Paired G l₁ l₂
  | _, _, .nil, _ => .nil
  | _, _, .cons r t, f => .cons (f _ _ r) (Paired.mapP t f)
theorem ObjOk.stay (x : ObjOk P w H h a o) (k : ∀ b u, (b = a ∨ H b = some (.own a)) → h.get? b = some u → h'.get? b = some u)
    (ho : ∀ b, H b = some (.own a) → H' b = some (.own a)) (ht : ∀ b xs, H b = some (.tup xs) → H' b = some (.tup xs)) : ObjOk P w H' h' a o := by
  induction o with
  | lst xs => obtain ⟨z, its, n, r, e⟩ := x; exact ⟨z, its, n, r, k _ _ (.inl rfl) e⟩
  | tup xs => obtain ⟨z, its, r, ob, e, c⟩ := x; exact ⟨z, its, r, ob, k _ _ (.inl rfl) e, c⟩
  | dK kvs => obtain ⟨z, y, vs, r, ob, es, ep, e, c⟩ := x; exact ⟨z, y, vs, r, ob, es, ep, k _ _ (.inl rfl) e, c⟩
  | dT kvs =>
    obtain ⟨z, y, xs, r, ob, es, ep, e, c⟩ := x
    exact ⟨z, y, xs, Paired.mapP r fun p q z => ⟨z.1, ht _ _ z.2.1, z.2.2⟩, ob, es, ep, k _ _ (.inl rfl) e, c⟩
  | set S n => obtain ⟨ob, es, ep, t, e, c⟩ := x; exact ⟨ob, es, ep, t, k _ _ (.inl rfl) e, c⟩
  | ins C dx fs =>
    obtain ⟨d, z, ne, e, mA, ⟨od, es, ep, e2, c⟩, r⟩ := x
    exact ⟨ho _ d, z, ne, k _ _ (.inl rfl) e, mA, ⟨od, es, ep, k _ _ (.inr d) e2, c⟩, r⟩
  | own y => obtain ⟨ob, e⟩ := x; exact ⟨ob, k _ _ (.inl rfl) e⟩
  | xd fs => obtain ⟨mA, ⟨od, es, ep, e, c⟩, r⟩ := x; exact ⟨mA, ⟨od, es, ep, k _ _ (.inl rfl) e, c⟩, r⟩
  | rng lo hi => obtain ⟨t, u, v, e⟩ := x; exact ⟨t, u, v, k _ _ (.inl rfl) e⟩
  | frz ob u ih => obtain ⟨e, q⟩ := x; exact ⟨k _ _ (.inl rfl) e, ih q⟩
  | tbl ps =>
    have e : h.get? a = some { cls := .none, data := .fields ps } := x
    show h'.get? a = some { cls := .none, data := .fields ps }
    exact k a _ (.inl rfl) e
  | met f y =>
    have e : h.get? a = some (PySem.W.methodObj (.ref f) (.ref y)) := x
    show h'.get? a = some (PySem.W.methodObj (.ref f) (.ref y))
    exact k a _ (.inl rfl) e
  | ext φ => obtain ⟨p, ⟨o, e⟩, st⟩ := x; exact ⟨st _ _ p fun o q => k _ _ (.inl rfl) q, ⟨o, k _ _ (.inl rfl) e⟩, st⟩
theorem HOk.lt (x : HOk P w H h) (e : H a = some o) : a < h.objs.size := (x a o e).lt
theorem HOk.fresh (x : HOk P w H h) (e : h.objs.size ≤ a) : H a = none := by
  cases q : H a with
  | none => rfl
  | some u => exact absurd (Nat.lt_of_lt_of_le (x.lt q) e) (Nat.lt_irrefl _)
theorem HOk.kept (x : HOk P w H h) (k : ∀ b u, h.get? b = some u → h'.get? b = some u) : HOk P w H h' := fun a o e =>
  (x a o e).stay (fun b u _ q => k b u q) (fun _ q => q) fun _ _ q => q
theorem HOk.laid (x : HOk P w H h) (k : ∀ b u, h.get? b = some u → h'.get? b = some u) (hp : h.objs.size ≤ a) (new : ObjOk P w (upd H a o) h' a o) : HOk P w (upd H a o) h' := fun b u e => by
  have hn := x.fresh hp
  by_cases hb : b = a
  · subst hb; rw [upd_same] at e; cases e; exact new
  · rw [upd_ne hb] at e
    exact (x b u e).stay (fun c v _ q => k c v q) (fun c q => by rw [upd_ne (ne_of_none q hn)]; exact q) fun c xs q => by rw [upd_ne (ne_of_none q hn)]; exact q
end
noncomputable def Rd (H : Hp) (a : Addr) (u : HO) : Prop := H a = some u ∨ ∃ o, H a = some (.frz o u)
theorem Rd.ok {P : Program} {w : World} {H : Hp} {h : Heap} {a : Addr} {u : HO} (r : Rd H a u) (x : HOk P w H h) : ObjOk P w H h a u := by
  rcases r with r | ⟨o, r⟩
  · exact x a u r
  · obtain ⟨_, q⟩ := x a _ r
    exact q
noncomputable def Mut : Option HO → Prop
  | some (.lst _) => True
  | some (.dK _) => True
  | some (.dT _) => True
  | some (.set _ _) => True
  | some (.ins _ _ _) => True
  | some (.ext _) => True
  | _ => False
section
variable {P : Program} {w : World} {H : Hp} {h h' : Heap} {x e : Addr} {o' : HO}
theorem HOk.write (ok : HOk P w H h) (mu : Mut (H x)) (he : e = x ∨ H e = some (.own x)) (k : ∀ b u, b ≠ e → h.get? b = some u → h'.get? b = some u) (heo : ∃ u, h'.get? e = some u)
    (new : ObjOk P w (upd H x o') h' x o') : HOk P w (upd H x o') h' := fun b u q => by
  have nown : ∀ c y, H c = some (.own y) → c ≠ x := fun c y r z => by subst z; rw [r] at mu; exact mu
  have ntup : ∀ c xs, H c = some (.tup xs) → c ≠ x := fun c xs r z => by subst z; rw [r] at mu; exact mu
  by_cases hb : b = x
  · subst hb; rw [upd_same] at q; cases q; exact new
  · rw [upd_ne hb] at q
    by_cases hbe : b = e
    · have q' : H b = some (.own x) := by
        rcases he with z | z
        · exact absurd (hbe.trans z) hb
        · rw [hbe]; exact z
      rw [q] at q'; cases q'
      obtain ⟨v, hv⟩ := heo
      exact ⟨v, by rw [hbe]; exact hv⟩
    · refine (ok b u q).stay (fun c v hc r => k c v ?_ r) (fun c r => by rw [upd_ne (nown c b r)]; exact r) fun c xs r => by rw [upd_ne (ntup c xs r)]; exact r
      rcases hc with rfl | hc
      · exact hbe
      · rintro rfl
        rcases he with z | z
        · exact nown c b hc z
        · rw [hc] at z; cases z; exact hb rfl
end
structure Un (fs ex : List Addr) (H H' : Hp) (h h' : Heap) : Prop where
  keep : ∀ b o, h.get? b = some o → H b = none → b ∉ fs → b ∉ ex → h'.get? b = some o
  slot : ∀ b o, h.get? b = some o → H b = none → b ∈ fs → b ∉ ex → ∃ sl, h'.get? b = some { o with slots := sl }
  free : ∀ b o, h.get? b = some o → H b = none → b ∉ ex → H' b = none
  there : ∀ b o, h.get? b = some o → b ∉ ex → ∃ o', h'.get? b = some o'
  tups : ∀ b xs, H b = some (.tup xs) → H' b = some (.tup xs)
  frzs : ∀ b o u, H b = some (.frz o u) → H' b = some (.frz o u)
  tbls : ∀ b ps, H b = some (.tbl ps) → ∃ more, H' b = some (.tbl (ps ++ more))
section
variable {fs fs' ex ex' : List Addr} {H H1 H2 : Hp} {h h1 h2 h' : Heap} {a x e : Addr} {o : HO}
theorem Un.any (u : Un fs ex H H1 h h1) {b : Addr} {ob : Obj} (q : h.get? b = some ob) (n : H b = none) (hx : b ∉ ex) : ∃ sl, h1.get? b = some { ob with slots := sl } := by
  by_cases hb : b ∈ fs
  · exact u.slot b ob q n hb hx
  · exact ⟨ob.slots, u.keep b ob q n hb hx⟩
theorem Un.kept (k : ∀ b u, h.get? b = some u → h'.get? b = some u) : Un fs ex H H h h' :=
  ⟨fun b ob q _ _ _ => k b ob q, fun b ob q _ _ _ => ⟨ob.slots, k b ob q⟩, fun _ _ _ n _ => n, fun b ob q _ => ⟨ob, k b ob q⟩, fun _ _ q => q, fun _ _ _ q => q, fun _ ps q => ⟨#[], by rw [q]; simp⟩⟩
theorem Un.refl : Un fs ex H H h h := Un.kept fun _ _ q => q
theorem Un.laid (k : ∀ b u, h.get? b = some u → h'.get? b = some u) (hp : h.objs.size ≤ a) (hn : H a = none) : Un fs ex H (upd H a o) h h' where
  keep := fun b u q _ _ _ => k b u q
  slot := fun b u q _ _ _ => ⟨u.slots, k b u q⟩
  free := fun b u q n _ => by rw [upd_ne (Nat.ne_of_lt (Nat.lt_of_lt_of_le (Heap.lt_size q) hp))]; exact n
  there := fun b u q _ => ⟨u, k b u q⟩
  tups := fun b xs q => by rw [upd_ne (ne_of_none q hn)]; exact q
  frzs := fun b u xs q => by rw [upd_ne (ne_of_none q hn)]; exact q
  tbls := fun b ps q => ⟨#[], by rw [upd_ne (ne_of_none q hn), q]; simp⟩
theorem Un.write (mu : Mut (H x)) (he : e = x ∨ H e = some (.own x)) (k : ∀ b u, b ≠ e → h.get? b = some u → h'.get? b = some u) (heo : ∃ u, h'.get? e = some u) : Un fs ex H (upd H x o) h h' := by
  have hx : ∀ b, H b = none → b ≠ x := fun b n z => by subst z; rw [n] at mu; exact mu
  have hb : ∀ b, H b = none → b ≠ e := fun b n z => by
    subst z
    rcases he with r | r
    · exact hx b n r
    · rw [n] at r; cases r
  have hm : ∀ b u, H b = some u → ¬ Mut (some u) → b ≠ x := fun b u q nm z => by subst z; rw [q] at mu; exact nm mu
  refine ⟨fun b u q n _ _ => k b u (hb b n) q, fun b u q n _ _ => ⟨u.slots, k b u (hb b n) q⟩, fun b u q n _ => by rw [upd_ne (hx b n)]; exact n, fun b u q _ => ?_,
    fun b xs q => by rw [upd_ne (hm b _ q fun z => z)]; exact q, fun b u xs q => by rw [upd_ne (hm b _ q fun z => z)]; exact q, fun b ps q => ⟨#[], by rw [upd_ne (hm b _ q fun z => z), q]; simp⟩⟩
  by_cases hbe : b = e
  · subst hbe; exact heo
  · exact ⟨u, k b u hbe q⟩
end
noncomputable def trk (h : Heap) (H : Hp) : List Addr := (List.range h.objs.size).filter fun a => (H a).isSome
noncomputable def hidT (h : Heap) (H : Hp) : Heap := PySem.W.hideAll h (trk h H)
theorem hidT_size (h : Heap) (H : Hp) : (hidT h H).objs.size = h.objs.size := PySem.W.hideAll_size _ _
theorem hidT_get {h : Heap} {H : Hp} {b : Addr} {o : Obj} (e : h.get? b = some o) (n : H b = none) : (hidT h H).get? b = some o :=
  PySem.W.hideAll_get _ e fun hm => by
    have q : (H b).isSome = true := (List.mem_filter.mp hm).2
    rw [n] at q; simp at q
theorem of_hidT {h : Heap} {H : Hp} {b : Addr} {o : Obj} (e : (hidT h H).get? b = some o) : h.get? b = some o ∧ H b = none := by
  have e' : h.get? b = some o := PySem.W.of_hideAll (trk h H) e
  refine ⟨e', ?_⟩
  cases q : H b with
  | none => rfl
  | some x =>
    have hm : b ∈ trk h H := List.mem_filter.mpr ⟨List.mem_range.mpr (Heap.lt_size e'), by simp [q]⟩
    have z : (hidT h H).get? b = none := PySem.W.hideAll_none (trk h H) hm
    rw [z] at e; cases e
end L2
namespace L2
open PySem PySem.Spec PyProof.Rows
structure Mod (K : PySem.W.Frag) (mg : Str → Option Value) (base : Heap) : Prop where
  kin : K.In base
  glob : base.Ns mainGlobals mg
  blt : ∃ mb, base.Ns builtinsNs mb ∧ ∀ x : Str, x ≠ "__name__" → mb x = bootBuiltins x
  nolimit : base.NoLimit
structure Cx where
  prog : Program
  w : World
  K : PySem.W.Frag
  mg : Str → Option Value
  base : Heap
  A : Around
  N : List Str
  s₀ : Shared
  H₀ : Hp
  env : Env
  outer : List Env
  stack : List Env
  ex : List Addr
  fn : Str → Bool
  calm : Bool
  pn : List (Addr × Obj)
  xe : Value → Shared → Prop
noncomputable def frs (l : List Env) : List Addr := l.filterMap (·.frame)
noncomputable abbrev Cx.fs (X : Cx) : List Addr := frs X.outer
noncomputable def Vis (sc : Scope) (x : Str) : Prop := sc.names.lookup x = some .local ∨ sc.names.lookup x = some .cell ∨ sc.names.lookup x = some .free
noncomputable def Loc (sc : Scope) (x : Str) : Prop := sc.names.lookup x = some .local ∨ sc.names.lookup x = some .cell
noncomputable def Look (env : Env) (h : Heap) (m : Str → Option Value) (x : Str) (u : Value) : Prop :=
  (env.kindOf x = some .local ∧ m x = some u) ∨ ((env.kindOf x = some .cell ∨ env.kindOf x = some .free) ∧ ∃ c, env.cells.lookup x = some c ∧ h.IsCell c (some u))
structure Cx.Ok (X : Cx) : Prop where
  mod : Mod X.K X.mg X.base
  kind : X.env.scope.kind = .function
  glob : X.env.globals = mainGlobals
  blt : X.env.builtins = builtinsNs
  above : X.s₀.heap.objs.size ≤ X.env.locals
  inj : ∀ x y c, X.env.cells.lookup x = some c → X.env.cells.lookup y = some c → x = y
  has : ∀ x, (X.env.kindOf x = some .cell ∨ X.env.kindOf x = some .free) → ∃ c, X.env.cells.lookup x = some c
  cab : ∀ x c, X.fn x = true → X.env.cells.lookup x = some c → X.s₀.heap.objs.size ≤ c
  hd : X.calm = true → X.A.handled = none
  frames : X.A.frames = some X.stack
  stk : X.stack = X.outer ∨ (X.stack = X.env :: X.outer ∧ X.env.frame = some X.env.locals)
  exf : ∀ b ∈ X.ex, b ≠ X.env.locals ∧ ∀ x c, X.env.cells.lookup x = some c → c ≠ b
  bs : ∀ b o, X.base.get? b = some o → X.s₀.heap.get? b = some o ∧ X.H₀ b = none
  bsz : X.base.objs.size ≤ X.s₀.heap.objs.size
  noex : ∀ b o, X.base.get? b = some o → b ∉ X.ex
  exfs : ∀ b ∈ X.ex, b ∉ X.fs
  funs : X.s₀.heap.FunFrames X.base X.outer
  frf : ∀ b ∈ X.fs, X.H₀ b = none
structure Inv (X : Cx) (pins : List (Addr × Obj)) (σ : List (Option V)) (H : Hp) (s : Shared) : Prop where
  ok : X.Ok
  os : s.os = X.s₀.os
  bare : AllBare s.gens
  base : Un X.fs X.ex X.H₀ H X.s₀.heap s.heap
  loc : ∃ m, s.heap.Ns X.env.locals m ∧ ∀ (i : Nat) (x : Str) (v : V), X.N[i]? = some x → σ[i]? = some (some v) → Vis X.env.scope x → ∃ u, RelV v u ∧ Look X.env s.heap m x u
  cell : ∀ x c, X.env.cells.lookup x = some c → ∃ v, s.heap.IsCell c v
  free : H X.env.locals = none
  freeC : ∀ x c, X.env.cells.lookup x = some c → H c = none
  pin : ∀ p ∈ X.pn ++ pins, s.heap.get? p.1 = some p.2 ∧ H p.1 = none ∧ p.1 ≠ X.env.locals ∧ p.1 ∉ X.fs ∧ ∀ v, p.2.data ≠ .cell v
  hok : HOk X.prog X.w H s.heap
  len : σ.length = X.N.length
section
variable {X : Cx} {pins : List (Addr × Obj)} {σ : List (Option V)} {H H' : Hp} {s : Shared} {h' : Heap}
theorem Cx.Ok.nofr (ok : X.Ok) {b : Addr} {o : Obj} (e : X.base.get? b = some o) : b ∉ X.fs := fun hb => by
  have := (ok.funs.mem hb).1
  rw [e] at this; cases this
theorem Inv.bs (I : Inv X pins σ H s) : ∀ b o, X.base.get? b = some o → s.heap.get? b = some o ∧ H b = none := fun b o e =>
  ⟨I.base.keep b o (I.ok.bs b o e).1 (I.ok.bs b o e).2 (I.ok.nofr e) (I.ok.noex b o e), I.base.free b o (I.ok.bs b o e).1 (I.ok.bs b o e).2 (I.ok.noex b o e)⟩
theorem Inv.bk (I : Inv X pins σ H s) : ∀ b o, X.base.get? b = some o → s.heap.get? b = some o := fun b o e => (I.bs b o e).1
theorem Inv.mod (I : Inv X pins σ H s) : Mod X.K X.mg X.base := I.ok.mod
theorem Inv.kIn (I : Inv X pins σ H s) : X.K.In s.heap := I.ok.mod.kin.keeps I.bk
theorem Inv.lt (I : Inv X pins σ H s) : X.env.locals < s.heap.objs.size := let ⟨_, hn, _⟩ := I.loc; hn.lt
theorem Inv.sz (I : Inv X pins σ H s) : X.s₀.heap.objs.size ≤ s.heap.objs.size := Nat.le_trans I.ok.above (Nat.le_of_lt I.lt)
theorem Inv.nofs (I : Inv X pins σ H s) {a : Addr} (h : s.heap.objs.size ≤ a) : a ∉ X.fs := fun hb => by
  obtain ⟨_, o, ho, _⟩ := I.ok.funs.mem hb
  exact absurd (Nat.lt_of_lt_of_le (Heap.lt_size ho) (Nat.le_trans I.sz h)) (Nat.lt_irrefl _)
theorem Inv.cne (I : Inv X pins σ H s) : ∀ x c, X.env.cells.lookup x = some c → c ≠ X.env.locals := fun x c e z => by
  obtain ⟨v, o, ho, hd⟩ := I.cell x c e
  obtain ⟨m, ⟨o', es, ep, ho', hd', _⟩, _⟩ := I.loc
  rw [z, ho'] at ho; cases ho; rw [hd'] at hd; cases hd
theorem Inv.funs (I : Inv X pins σ H s) : s.heap.FunFrames X.base X.outer := by
  have all : ∀ (l : List Env), (∀ b ∈ frs l, b ∈ X.fs) → X.s₀.heap.FunFrames X.base l → s.heap.FunFrames X.base l := by
    intro l
    induction l with
    | nil => intro _ _; trivial
    | cons env r ih =>
      intro hs hl
      obtain ⟨hk, ⟨L, o, hf, hn, ho, hd⟩, hr⟩ := hl
      have hL : L ∈ X.fs := hs L (by unfold frs; rw [List.filterMap_cons, hf]; exact List.mem_cons_self)
      obtain ⟨sl, e⟩ := I.base.slot L o ho (I.ok.frf L hL) hL fun z => I.ok.exfs L z hL
      exact ⟨hk, ⟨L, _, hf, hn, e, hd⟩, ih (fun b hb => hs b (by unfold frs; rw [List.filterMap_cons, hf]; exact List.mem_cons_of_mem _ hb)) hr⟩
  exact all X.outer (fun _ hb => hb) I.ok.funs
theorem Inv.stack (I : Inv X pins σ H s) : s.heap.FunFrames X.base X.stack := by
  rcases I.ok.stk with e | ⟨e, hf⟩
  · rw [e]; exact I.funs
  · rw [e]
    obtain ⟨m, hn, _⟩ := I.loc
    refine .cons (by rw [I.ok.kind]; decide) hf hn ?_ I.funs
    exact Heap.get?_none_of_le (Nat.le_trans I.ok.bsz I.ok.above)
theorem Inv.stkSub (I : Inv X pins σ H s) : ∀ b ∈ frs X.stack, b ∈ X.env.locals :: X.fs := fun b hb => by
  rcases I.ok.stk with e | ⟨e, hf⟩
  · rw [e] at hb; exact List.mem_cons_of_mem _ hb
  · rw [e] at hb
    unfold frs at hb
    rw [List.filterMap_cons, hf] at hb
    exact hb
theorem Inv.stkFree (I : Inv X pins σ H s) : ∀ b ∈ frs X.stack, H b = none := fun b hb => by
  rcases List.mem_cons.mp (I.stkSub b hb) with e | hb
  · rw [e]; exact I.free
  · obtain ⟨_, o, ho, _⟩ := I.ok.funs.mem hb
    exact I.base.free b o ho (I.ok.frf b hb) fun z => I.ok.exfs b z hb
theorem Inv.step {g' : Array GenState} {t' : Nat} {d' : Drawn} {ch : List Addr} (I : Inv X pins σ H s)
    (hch : ∀ b ∈ ch, (b ∈ X.ex ∨ X.s₀.heap.objs.size ≤ b) ∧ b ≠ X.env.locals ∧ (∀ x c, X.env.cells.lookup x = some c → c ≠ b) ∧ ∀ p ∈ X.pn ++ pins, p.1 ≠ b)
    (keep : ∀ b o, b ≠ X.env.locals → b ∉ X.fs → b ∉ ch → s.heap.get? b = some o → H b = none → h'.get? b = some o)
    (slot : ∀ b o, b ≠ X.env.locals → b ∈ X.fs → b ∉ ch → s.heap.get? b = some o → H b = none → ∃ sl, h'.get? b = some { o with slots := sl }) (free : ∀ b o, b ∉ ch → s.heap.get? b = some o → H b = none → H' b = none)
    (there : ∀ b o, b ∉ ch → s.heap.get? b = some o → ∃ o', h'.get? b = some o')
    (tups : ∀ b xs, H b = some (.tup xs) → H' b = some (.tup xs)) (frzs : ∀ b o u, H b = some (.frz o u) → H' b = some (.frz o u)) (tbls : ∀ b ps, H b = some (.tbl ps) → ∃ more, H' b = some (.tbl (ps ++ more)))
    (ns : ∀ m, s.heap.Ns X.env.locals m → h'.Ns X.env.locals m) (hok : HOk X.prog X.w H' h') (hg : AllBare g') :
    Inv X pins σ H' { s with heap := h', gens := g', drawn := d', toks := t' } := by
  have neL : ∀ b o, X.s₀.heap.get? b = some o → b ≠ X.env.locals := fun b o e => Nat.ne_of_lt (Nat.lt_of_lt_of_le (Heap.lt_size e) I.ok.above)
  have neC : ∀ b o, X.s₀.heap.get? b = some o → b ∉ X.ex → b ∉ ch := fun b o e hx hb => by
    rcases (hch b hb).1 with z | z
    · exact hx z
    · exact absurd (Nat.lt_of_lt_of_le (Heap.lt_size e) z) (Nat.lt_irrefl _)
  have cellK : ∀ x c, X.env.cells.lookup x = some c → ∀ v, s.heap.IsCell c v → h'.IsCell c v := fun x c e v ⟨o, ho, hd⟩ => by
    have nch : c ∉ ch := fun z => (hch c z).2.2.1 x c e rfl
    by_cases hc : c ∈ X.fs
    · obtain ⟨sl, q⟩ := slot c o (I.cne x c e) hc nch ho (I.freeC x c e)
      exact ⟨_, q, hd⟩
    · exact ⟨o, keep c o (I.cne x c e) hc nch ho (I.freeC x c e), hd⟩
  refine ⟨I.ok, I.os, hg, ⟨fun b o e n hb hx => ?_, fun b o e n hb hx => ?_, fun b o e n hx => ?_, fun b o e hx => ?_, fun b xs e => tups b xs (I.base.tups b xs e), fun b o xs e => frzs b o xs (I.base.frzs b o xs e), fun b ps e => ?_⟩, ?_, fun x c e => ?_, ?_, fun x c e => ?_, fun p hp => ?_, hok, I.len⟩
  · exact keep b o (neL b o e) hb (neC b o e hx) (I.base.keep b o e n hb hx) (I.base.free b o e n hx)
  · obtain ⟨sl, e1⟩ := I.base.slot b o e n hb hx
    obtain ⟨sl', e2⟩ := slot b _ (neL b o e) hb (neC b o e hx) e1 (I.base.free b o e n hx)
    exact ⟨sl', e2⟩
  · obtain ⟨o', e1⟩ := I.base.there b o e hx
    exact free b o' (neC b o e hx) e1 (I.base.free b o e n hx)
  · obtain ⟨o', e1⟩ := I.base.there b o e hx
    exact there b o' (neC b o e hx) e1
  · obtain ⟨m1, e1⟩ := I.base.tbls b ps e
    obtain ⟨m2, e2⟩ := tbls b _ e1
    exact ⟨m1 ++ m2, by rw [e2, Array.append_assoc]⟩
  · obtain ⟨m, hn, hl⟩ := I.loc
    refine ⟨m, ns m hn, fun i x v e1 e2 e3 => ?_⟩
    obtain ⟨u, r, l⟩ := hl i x v e1 e2 e3
    refine ⟨u, r, ?_⟩
    rcases l with l | ⟨k, c, e, z⟩
    · exact .inl l
    · exact .inr ⟨k, c, e, cellK x c e _ z⟩
  · obtain ⟨v, z⟩ := I.cell x c e
    exact ⟨v, cellK x c e v z⟩
  · obtain ⟨m, ⟨o, _, _, ho, _⟩, _⟩ := I.loc
    exact free _ o (fun z => (hch _ z).2.1 rfl) ho I.free
  · obtain ⟨v, o, ho, hd⟩ := I.cell x c e
    exact free c o (fun z => (hch c z).2.2.1 x c e rfl) ho (I.freeC x c e)
  · obtain ⟨e, n, ne, nf, d⟩ := I.pin p hp
    have nch : p.1 ∉ ch := fun z => (hch p.1 z).2.2.2 p hp rfl
    exact ⟨keep p.1 p.2 ne nf nch e n, free p.1 p.2 nch e n, ne, nf, d⟩
theorem Inv.un {t' : Nat} (I : Inv X pins σ H s) (u : Un X.fs [] H H' s.heap h') (hok : HOk X.prog X.w H' h') : Inv X pins σ H' { s with heap := h', toks := t' } := by
  obtain ⟨m, ⟨o, es, ep, ho, r⟩, _⟩ := id I.loc
  obtain ⟨sl, hL⟩ := u.any ho I.free (by simp)
  exact I.step (g' := s.gens) (d' := s.drawn) (ch := []) (fun _ z => nomatch z) (fun b o _ hb _ e n => u.keep b o e n hb (by simp)) (fun b o _ hb _ e n => u.slot b o e n hb (by simp)) (fun b o _ e n => u.free b o e n (by simp)) (fun b o _ e => u.there b o e (by simp)) u.tups u.frzs u.tbls (fun m' hm => by
    obtain ⟨o', es', ep', ho', r'⟩ := hm
    rw [ho] at ho'; cases ho'
    exact ⟨_, es', ep', hL, r'⟩) hok I.bare
theorem Inv.call {g' : Array GenState} {t' : Nat} {d' : Drawn} {ch : List Addr} (I : Inv X pins σ H s) (u : Un (frs X.stack) ch H H' s.heap h') (hok : HOk X.prog X.w H' h') (hg : AllBare g')
    (hch : ∀ b ∈ ch, (b ∈ X.ex ∨ X.s₀.heap.objs.size ≤ b) ∧ b ≠ X.env.locals ∧ (∀ x c, X.env.cells.lookup x = some c → c ≠ b) ∧ ∀ p ∈ X.pn ++ pins, p.1 ≠ b) :
    Inv X pins σ H' { s with heap := h', gens := g', drawn := d', toks := t' } := by
  obtain ⟨m, ⟨o, es, ep, ho, r⟩, _⟩ := id I.loc
  obtain ⟨sl, hL⟩ := u.any ho I.free fun z => (hch _ z).2.1 rfl
  exact I.step (ch := ch) hch (fun b o hL hb hc e n => u.keep b o e n (fun z => (List.mem_cons.mp (I.stkSub b z)).elim hL hb) hc) (fun b o _ _ hc e n => u.any e n hc) (fun b o hc e n => u.free b o e n hc) (fun b o hc e => u.there b o e hc) u.tups u.frzs u.tbls (fun m' hm => by
    obtain ⟨o', es', ep', ho', r'⟩ := hm
    rw [ho] at ho'; cases ho'
    exact ⟨_, es', ep', hL, r'⟩) hok hg
theorem Inv.turned {t' : Nat} {it : Addr} (I : Inv X pins σ H s) (k : ∀ b o, b ≠ it → s.heap.get? b = some o → h'.get? b = some o) (hn : H it = none) (hL : it ≠ X.env.locals)
    (h1 : it ∈ X.ex ∨ X.s₀.heap.objs.size ≤ it) (h2 : ∀ x c, X.env.cells.lookup x = some c → c ≠ it) (h3 : ∀ p ∈ X.pn ++ pins, p.1 ≠ it) : Inv X pins σ H { s with heap := h', toks := t' } := by
  have nit : ∀ b u, H b = some u → b ≠ it := fun b u e z => by rw [z, hn] at e; cases e
  refine I.step (g' := s.gens) (d' := s.drawn) (ch := [it]) (fun b hb => ?_) (fun b o _ _ hc e _ => k b o (fun z => hc (by simp [z])) e) (fun b o _ _ hc e _ => ⟨o.slots, k b o (fun z => hc (by simp [z])) e⟩) (fun _ _ _ _ n => n)
    (fun b o hc e => ⟨o, k b o (fun z => hc (by simp [z])) e⟩) (fun _ _ e => e) (fun _ _ _ e => e) (fun b ps e => ⟨#[], by rw [e]; simp⟩) (fun m hm => ?_) (fun b u e => ?_) I.bare
  · have e : b = it := by simpa using hb
    subst e
    exact ⟨h1, hL, h2, h3⟩
  · obtain ⟨o, es, ep, ho, r⟩ := hm
    exact ⟨o, es, ep, k _ o (Ne.symm hL) ho, r⟩
  · refine (I.hok b u e).stay (fun c v hc q => k c v ?_ q) (fun _ q => q) fun _ _ q => q
    rcases hc with z | z
    · rw [z]; exact nit b u e
    · exact nit c _ z
theorem Inv.tok (I : Inv X pins σ H s) (t : Nat) : Inv X pins σ H { s with toks := t } := I.un (h' := s.heap) (t' := t) Un.refl I.hok
theorem Inv.kept {t' : Nat} (I : Inv X pins σ H s) (k : ∀ b u, s.heap.get? b = some u → h'.get? b = some u) : Inv X pins σ H { s with heap := h', toks := t' } := I.un (Un.kept k) (I.hok.kept k)
theorem Inv.laid {a : Addr} {o : HO} {t' : Nat} (I : Inv X pins σ H s) (k : ∀ b u, s.heap.get? b = some u → h'.get? b = some u) (hp : s.heap.objs.size ≤ a) (new : ObjOk X.prog X.w (upd H a o) h' a o) :
    Inv X pins σ (upd H a o) { s with heap := h', toks := t' } := I.un (Un.laid k hp (I.hok.fresh hp)) (I.hok.laid k hp new)
theorem Inv.write {x e : Addr} {o : HO} {t' : Nat} (I : Inv X pins σ H s) (mu : Mut (H x)) (he : e = x ∨ H e = some (.own x)) (k : ∀ b u, b ≠ e → s.heap.get? b = some u → h'.get? b = some u) (heo : ∃ u, h'.get? e = some u)
    (new : ObjOk X.prog X.w (upd H x o) h' x o) : Inv X pins σ (upd H x o) { s with heap := h', toks := t' } := I.un (Un.write mu he k heo) (I.hok.write mu he k heo new)
theorem Inv.pins_of {pins' : List (Addr × Obj)} (I : Inv X pins σ H s) (h : ∀ p ∈ pins', s.heap.get? p.1 = some p.2 ∧ H p.1 = none ∧ p.1 ≠ X.env.locals ∧ p.1 ∉ X.fs ∧ ∀ v, p.2.data ≠ .cell v) : Inv X pins' σ H s :=
  ⟨I.ok, I.os, I.bare, I.base, I.loc, I.cell, I.free, I.freeC, fun p hp => (List.mem_append.mp hp).elim (fun z => I.pin p (List.mem_append_left _ z)) (h p), I.hok, I.len⟩
theorem nodup_ix {N : List Str} (hN : N.Nodup) {i j : Nat} {x : Str} (a : N[i]? = some x) (b : N[j]? = some x) : i = j := by
  obtain ⟨h1, e1⟩ := List.getElem?_eq_some_iff.mp a
  obtain ⟨h2, e2⟩ := List.getElem?_eq_some_iff.mp b
  exact (List.getElem_inj hN).mp (e1.trans e2.symm)
theorem store_ok2 {M : Model} {A : Around} {E : Value → Shared → Prop} {i : Nat} {x : Str} {v : V} {u : Value} {Q : Unit → Shared → Prop} (I : Inv X pins σ H s) (hN : X.N.Nodup) (hi : X.N[i]? = some x) (hx : Loc X.env.scope x) (r : RelV v u)
    (h : ∀ s', Inv X pins (σ.set i (some v)) H s' → (∃ a, Heap.SameBut a s.heap s'.heap ∧ (a = X.env.locals ∨ X.env.cells.lookup x = some a)) → Q () s') (hf : X.fn x = true ∨ X.env.scope.names.lookup x = some .local := by first | exact .inl rfl | exact .inr rfl | assumption) : wpAny M A (storeName X.env x u) Q E s := by
  obtain ⟨m, hn, hl⟩ := id I.loc
  have hcls : (X.env.scope.kind == .class || (X.env.scope.kind == .module && X.env.locals != X.env.globals)) = false := by rw [I.ok.kind]; rfl
  have hiσ : i < σ.length := by rw [I.len]; exact (List.getElem?_eq_some_iff.mp hi).1
  have cne := I.cne
  have tracked : ∀ {a : Addr} {h' : Heap}, (∃ o, s.heap.get? a = some o ∧ H a = none) → Heap.SameBut a s.heap h' → HOk X.prog X.w H h' := fun {a h'} ha hs b ob e => by
    obtain ⟨_, _, hfree⟩ := ha
    refine (I.hok b ob e).stay (fun c w' hc q => (hs.2 c ?_).trans q) (fun _ q => q) fun _ _ q => q
    rintro rfl
    rcases hc with rfl | hc
    · rw [hfree] at e; cases e
    · rw [hfree] at hc; cases hc
  rcases hx with hk | hk
  · refine wpAny_storeName_local hk hn (fun h' hn' hs => ?_) hcls
    obtain ⟨oL, _, _, hoL, _⟩ := id hn
    refine h _ ⟨I.ok, I.os, I.bare, ⟨fun b o e n hb hx => ?_, fun b o e n hb hx => ?_, I.base.free, fun b o e hx => ?_, I.base.tups, I.base.frzs, I.base.tbls⟩, ⟨_, hn', fun j y v' e1 e2 e3 => ?_⟩, fun y c e => ?_, I.free, I.freeC, fun p hp => ?_, tracked ⟨oL, hoL, I.free⟩ hs, by simpa using I.len⟩ ⟨_, hs, .inl rfl⟩
    · exact (hs.2 b (Nat.ne_of_lt (Nat.lt_of_lt_of_le (Heap.lt_size e) I.ok.above))).trans (I.base.keep b o e n hb hx)
    · obtain ⟨sl, e1⟩ := I.base.slot b o e n hb hx
      exact ⟨sl, (hs.2 b (Nat.ne_of_lt (Nat.lt_of_lt_of_le (Heap.lt_size e) I.ok.above))).trans e1⟩
    · obtain ⟨o', e1⟩ := I.base.there b o e hx
      exact ⟨o', (hs.2 b (Nat.ne_of_lt (Nat.lt_of_lt_of_le (Heap.lt_size e) I.ok.above))).trans e1⟩
    · by_cases hj : j = i
      · subst hj
        rw [hi] at e1; cases e1
        rw [List.getElem?_set_self hiσ] at e2
        cases e2
        exact ⟨u, r, .inl ⟨hk, by simp⟩⟩
      · rw [List.getElem?_set_ne (Ne.symm hj)] at e2
        obtain ⟨u', r', q⟩ := hl j y v' e1 e2 e3
        refine ⟨u', r', ?_⟩
        rcases q with ⟨k, e⟩ | ⟨k, c, e, z⟩
        · refine .inl ⟨k, ?_⟩
          have : y ≠ x := fun e => hj (nodup_ix hN e1 (e ▸ hi))
          simp [this, e]
        · exact .inr ⟨k, c, e, z.sameBut hs (cne y c e)⟩
    · obtain ⟨w', z⟩ := I.cell y c e
      exact ⟨w', z.sameBut hs (cne y c e)⟩
    · obtain ⟨e, n, ne, nf, d⟩ := I.pin p hp
      exact ⟨(hs.2 p.1 ne).trans e, n, ne, nf, d⟩
  · have hfn : X.fn x = true := by
      rcases hf with z | z
      · exact z
      · rw [z] at hk; cases hk
    obtain ⟨c, hc⟩ := I.ok.has x (.inl hk)
    obtain ⟨w', z⟩ := I.cell x c hc
    refine wpAny_storeName_cell I.ok.kind hk hc z (fun h' hc' hs => ?_)
    obtain ⟨oc, hoc, hocd⟩ := id z
    refine h { s with heap := h' } ⟨I.ok, I.os, I.bare, ⟨fun b o e n hb hx => ?_, fun b o e n hb hx => ?_, I.base.free, fun b o e hx => ?_, I.base.tups, I.base.frzs, I.base.tbls⟩, ⟨m, hn.sameBut hs (Ne.symm (cne x c hc)), fun j y v' e1 e2 e3 => ?_⟩, fun y c' e => ?_, I.free, I.freeC, fun p hp => ?_, tracked ⟨oc, hoc, I.freeC x c hc⟩ hs, by simpa using I.len⟩ ⟨c, hs, .inr hc⟩
    · exact (hs.2 b (Nat.ne_of_lt (Nat.lt_of_lt_of_le (Heap.lt_size e) (I.ok.cab x c hfn hc)))).trans (I.base.keep b o e n hb hx)
    · obtain ⟨sl, e1⟩ := I.base.slot b o e n hb hx
      exact ⟨sl, (hs.2 b (Nat.ne_of_lt (Nat.lt_of_lt_of_le (Heap.lt_size e) (I.ok.cab x c hfn hc)))).trans e1⟩
    · obtain ⟨o', e1⟩ := I.base.there b o e hx
      exact ⟨o', (hs.2 b (Nat.ne_of_lt (Nat.lt_of_lt_of_le (Heap.lt_size e) (I.ok.cab x c hfn hc)))).trans e1⟩
    · by_cases hj : j = i
      · subst hj
        rw [hi] at e1; cases e1
        rw [List.getElem?_set_self hiσ] at e2
        cases e2
        exact ⟨u, r, .inr ⟨.inl hk, c, hc, hc'⟩⟩
      · rw [List.getElem?_set_ne (Ne.symm hj)] at e2
        obtain ⟨u', r', q⟩ := hl j y v' e1 e2 e3
        refine ⟨u', r', ?_⟩
        rcases q with q | ⟨k, c', e, z'⟩
        · exact .inl q
        · refine .inr ⟨k, c', e, z'.sameBut hs ?_⟩
          rintro rfl
          exact hj (nodup_ix hN e1 (I.ok.inj _ _ _ e hc ▸ hi))
    · by_cases hcc : c' = c
      · subst hcc; exact ⟨_, hc'⟩
      · obtain ⟨w2, z2⟩ := I.cell y c' e
        exact ⟨w2, z2.sameBut hs hcc⟩
    · obtain ⟨e, n, ne, nf, d⟩ := I.pin p hp
      refine ⟨(hs.2 p.1 ?_).trans e, n, ne, nf, d⟩
      intro q
      rw [q, hoc] at e
      have q' : oc = p.2 := Option.some.inj e
      exact d w' (by rw [← q']; exact hocd)
theorem store_ok {M : Model} {A : Around} {E : Value → Shared → Prop} {i : Nat} {x : Str} {v : V} {u : Value} {Q : Unit → Shared → Prop} (I : Inv X pins σ H s) (hN : X.N.Nodup) (hi : X.N[i]? = some x) (hx : Loc X.env.scope x) (r : RelV v u)
    (h : ∀ s', Inv X pins (σ.set i (some v)) H s' → Q () s') (hf : X.fn x = true ∨ X.env.scope.names.lookup x = some .local := by first | exact .inl rfl | exact .inr rfl | assumption) : wpAny M A (storeName X.env x u) Q E s :=
  store_ok2 I hN hi hx r (fun s' I' _ => h s' I') hf
theorem Inv.call' {s' : Shared} {ch : List Addr} (I : Inv X pins σ H s) (ho : s'.os = s.os) (u : Un (frs X.stack) ch H H' s.heap s'.heap) (hok : HOk X.prog X.w H' s'.heap) (hg : AllBare s'.gens)
    (hch : ∀ b ∈ ch, (b ∈ X.ex ∨ X.s₀.heap.objs.size ≤ b) ∧ b ≠ X.env.locals ∧ (∀ x c, X.env.cells.lookup x = some c → c ≠ b) ∧ ∀ p ∈ X.pn ++ pins, p.1 ≠ b) : Inv X pins σ H' s' := by
  obtain ⟨h', g', d', t', o'⟩ := s'
  have e : o' = s.os := ho
  subst e
  exact I.call (g' := g') (t' := t') (d' := d') u hok hg hch
end
noncomputable abbrev XK := Value → Option Addr → Hp → Prop
noncomputable abbrev St := List (Option V)
noncomputable abbrev VK := V → Hp → Prop
noncomputable abbrev TE := St → Hp → VK → Prop
noncomputable abbrev TT := St → Hp → (Bool → Hp → Prop) → Prop
noncomputable abbrev TA := St → Hp → (List V → Hp → Prop) → Prop
structure Ends where
  nx : St → Hp → Prop
  rt : VK
  bk : St → Hp → Prop := fun _ _ => False
  ct : St → Hp → Prop := fun _ _ => False
noncomputable abbrev TS := Ends → St → Hp → Prop
noncomputable def EP (X : Cx) (pins : List (Addr × Obj)) (σ : St) (Q : VK) (u : Value) (s' : Shared) : Prop := ∃ v H', Inv X pins σ H' s' ∧ RelV v u ∧ Q v H'
noncomputable def TP (X : Cx) (pins : List (Addr × Obj)) (σ : St) (Q : Bool → Hp → Prop) (b : Bool) (s' : Shared) : Prop := ∃ H', Inv X pins σ H' s' ∧ Q b H'
noncomputable def AP (X : Cx) (pins : List (Addr × Obj)) (σ : St) (Q : List V → Hp → Prop) (us : List Value) (s' : Shared) : Prop := ∃ vs H', Inv X pins σ H' s' ∧ Vals vs us ∧ Q vs H'
noncomputable def SP (X : Cx) (pins : List (Addr × Obj)) (D : Ends) (f : Flow) (s' : Shared) : Prop :=
  match f with
  | .next => ∃ σ' H', Inv X pins σ' H' s' ∧ D.nx σ' H'
  | .brk => ∃ σ' H', Inv X pins σ' H' s' ∧ D.bk σ' H'
  | .cont => ∃ σ' H', Inv X pins σ' H' s' ∧ D.ct σ' H'
  | .ret u => ∃ v σ' H', Inv X pins σ' H' s' ∧ RelV v u ∧ D.rt v H'
noncomputable def PE (X : Cx) (e : Expr) (t : TE) : Prop :=
  ∀ (pins : List (Addr × Obj)) (s : Shared) (σ : St) (H : Hp) (Q : VK), Inv X pins σ H s → t σ H Q → wpAny (model X.prog X.w) X.A (eval e X.env) (EP X pins σ Q) X.xe s
noncomputable def PT (X : Cx) (e : Expr) (t : TT) : Prop :=
  ∀ (pins : List (Addr × Obj)) (s : Shared) (σ : St) (H : Hp) (Q : Bool → Hp → Prop), Inv X pins σ H s → t σ H Q → wpAny (model X.prog X.w) X.A (isTrue e X.env (eval e X.env)) (TP X pins σ Q) X.xe s
noncomputable def PW (X : Cx) (e : Expr) (t : TT) : Prop :=
  ∀ (whole : Sem Value) (pins : List (Addr × Obj)) (s : Shared) (σ : St) (H : Hp) (Q : Bool → Hp → Prop), Inv X pins σ H s → t σ H Q → wpAny (model X.prog X.w) X.A (isTrue e X.env whole) (TP X pins σ Q) X.xe s
theorem PW.pt {X : Cx} {e : Expr} {t : TT} (h : PW X e t) : PT X e t := h _
noncomputable def PA (X : Cx) (es : List Expr) (t : TA) : Prop :=
  ∀ (pos : Pos) (pins : List (Addr × Obj)) (s : Shared) (σ : St) (H : Hp) (Q : List V → Hp → Prop), Inv X pins σ H s → t σ H Q → wpAny (model X.prog X.w) X.A (spliced (backTo pos (starEach es X.env))) (AP X pins σ Q) X.xe s
noncomputable def PS (X : Cx) (st : Stmt) (t : TS) : Prop :=
  ∀ (pins : List (Addr × Obj)) (s : Shared) (σ : St) (H : Hp) (D : Ends), Inv X pins σ H s → t D σ H → wpAny (model X.prog X.w) X.A (exec st X.env) (SP X pins D) X.xe s
noncomputable def PSs (X : Cx) (st : List Stmt) (t : TS) : Prop :=
  ∀ (pins : List (Addr × Obj)) (s : Shared) (σ : St) (H : Hp) (D : Ends), Inv X pins σ H s → t D σ H → wpAny (model X.prog X.w) X.A (execs st X.env) (SP X pins D) X.xe s
theorem thn {α : Type} {t : Sem α} {Q Q' : α → Shared → Prop} {M : Model} {A : Around} {E : Value → Shared → Prop} {s : Shared} (h : wpAny M A t Q E s) (hQ : ∀ a s, Q a s → Q' a s) : wpAny M A t Q' E s := wpAny_mono h hQ fun _ _ x => x
end L2
namespace L2
open PySem PySem.Spec PyProof.Rows
section
variable {X : Cx}
noncomputable def tVar (i : Nat) : TE := fun σ H Q => ∃ v, σ[i]? = some (some v) ∧ Q v H
noncomputable def tC (v : V) : TE := fun _ H Q => Q v H
theorem pe_var {i : Nat} {x : Str} {pos : Pos} (hN : X.N[i]? = some x) (hv : Vis X.env.scope x) (hd : (x == ("__debug__" : Str)) = false := by decide) (hcd : (x == ("__classdict__" : Str)) = false := by decide) : PE X (.Name x pos) (tVar i) := by
  intro pins s σ H Q I h
  obtain ⟨v, e, h⟩ := h
  obtain ⟨m, hn, hl⟩ := I.loc
  obtain ⟨u, r, l⟩ := hl i x v hN e hv
  have fin : EP X pins σ Q u s := ⟨v, H, I, r, h⟩
  rcases l with ⟨hk, hm⟩ | ⟨hk, c, hc, hcell⟩
  · exact wpAny_Name (wpAny_loadName_local I.ok.kind hk hn hm fin) hd
  · rcases hk with hk | hk
    · exact wpAny_Name (wpAny_loadName_cell I.ok.kind hk hc hcell fin) hd
    · exact wpAny_Name (wpAny_loadName_free I.ok.kind hk hc hcell fin hcd) hd
theorem pe_int {i j pos} : PE X (.Constant (.int i) j pos) (tC (.int i)) := fun _ _ _ H _ I h => wpAny_Constant_int ⟨.int i, H, I.tok _, ⟨_, rfl⟩, h⟩
theorem pe_bl {b j pos} : PE X (.Constant (.bool b) j pos) (tC (.bl b)) := fun _ _ _ H _ I h => Constant_bool ⟨.bl b, H, I, rfl, h⟩
theorem pe_non {j pos} : PE X (.Constant .none j pos) (tC .non) := fun _ _ _ H _ I h => Constant_none ⟨.non, H, I, rfl, h⟩
theorem pe_str {x j pos} : PE X (.Constant (.str x) j pos) (tC (.str x)) := fun _ _ _ H _ I h => Calls.Constant_str ⟨.str x, H, I.tok _, ⟨_, rfl⟩, h⟩
noncomputable def Gl (X : Cx) (x : Str) : Prop := X.env.kindOf x = some .globalImplicit
theorem ld_glob {E : Value → Shared → Prop} {pins : List (Addr × Obj)} {s : Shared} {σ : St} {H : Hp} {x : Str} {u : Value} {pos : Pos} {Q : Value → Shared → Prop} (I : Inv X pins σ H s) (hg : Gl X x) (hm : X.mg x = some u) (h : Q u s)
    (hd : (x == ("__debug__" : Str)) = false := by decide) : wpAny (model X.prog X.w) X.A (eval (.Name x pos) X.env) Q E s :=
  Calls.Name_function_global I.ok.kind hg (Calls.loadGlobal_global (by rw [I.ok.glob]; exact I.mod.glob.keeps I.bk) hm h) hd
theorem ld_blt {E : Value → Shared → Prop} {pins : List (Addr × Obj)} {s : Shared} {σ : St} {H : Hp} {x : Str} {u : Value} {pos : Pos} {Q : Value → Shared → Prop} (I : Inv X pins σ H s) (hg : Gl X x) (hm : X.mg x = none) (hv : bootBuiltins x = some u) (h : Q u s)
    (hn : x ≠ "__name__" := by decide) (hd : (x == ("__debug__" : Str)) = false := by decide) : wpAny (model X.prog X.w) X.A (eval (.Name x pos) X.env) Q E s := by
  obtain ⟨mb, h1, h2⟩ := I.mod.blt
  exact Calls.Name_function_global I.ok.kind hg (Calls.loadGlobal_builtin (by rw [I.ok.glob]; exact I.mod.glob.keeps I.bk) hm (by rw [I.ok.blt]; exact h1.keeps I.bk) ((h2 x hn).trans hv) h) hd
theorem pe_bltn {x : Str} {v : V} {u : Value} {pos : Pos} (hg : Gl X x) (hm : X.mg x = none) (hv : bootBuiltins x = some u) (r : RelV v u) (hn : x ≠ "__name__" := by decide) (hd : (x == ("__debug__" : Str)) = false := by decide) : PE X (.Name x pos) (tC v) :=
  fun _ _ _ H _ I h => ld_blt I hg hm hv ⟨v, H, I, r, h⟩ hn hd
variable {a b : Expr} {ta tb : TE} {pos : Pos}
variable {tA tB' : TT} {rest : List Expr}
noncomputable def tAnd (t u : TT) : TT := fun σ H Q => t σ H fun c H1 => if c = true then u σ H1 Q else Q false H1
noncomputable def tOr (t u : TT) : TT := fun σ H Q => t σ H fun c H1 => if c = true then Q true H1 else u σ H1 Q
noncomputable def tNot (t : TT) : TT := fun σ H Q => t σ H fun c H1 => Q (!c) H1
theorem pw_and1 (ha : PT X a tA) : PW X (.BoolOp .And [a] pos) tA := by
  intro wh pins s σ H Q I h
  refine isTrue_and (thn (ha pins s σ H Q I h) fun c s1 e => ?_)
  cases c with
  | true => exact isTrue_and_nil e
  | false => exact e
theorem pw_or1 (ha : PT X a tA) : PW X (.BoolOp .Or [a] pos) tA := by
  intro wh pins s σ H Q I h
  refine isTrue_or (thn (ha pins s σ H Q I h) fun c s1 e => ?_)
  cases c with
  | false => exact isTrue_or_nil e
  | true => exact e
theorem pw_and (ha : PT X a tA) (hb : PW X (.BoolOp .And (b :: rest) pos) tB') : PW X (.BoolOp .And (a :: b :: rest) pos) (tAnd tA tB') := by
  intro wh pins s σ H Q I h
  refine isTrue_and (thn (ha pins s σ H _ I h) fun c s1 z9 => ?_)
  obtain ⟨H1, I1, q1⟩ := z9
  cases c with
  | true => exact hb wh pins s1 σ H1 Q I1 q1
  | false => exact ⟨H1, I1, q1⟩
theorem pw_or (ha : PT X a tA) (hb : PW X (.BoolOp .Or (b :: rest) pos) tB') : PW X (.BoolOp .Or (a :: b :: rest) pos) (tOr tA tB') := by
  intro wh pins s σ H Q I h
  refine isTrue_or (thn (ha pins s σ H _ I h) fun c s1 z9 => ?_)
  obtain ⟨H1, I1, q1⟩ := z9
  cases c with
  | true => exact ⟨H1, I1, q1⟩
  | false => exact hb wh pins s1 σ H1 Q I1 q1
theorem pt_not (ha : PT X a tA) : PT X (.UnaryOp .Not a pos) (tNot tA) := by
  intro pins s σ H Q I h
  exact isTrue_not (ha pins s σ H (fun c H1 => Q (!c) H1) I h)
noncomputable def tAndV (ta tb : TE) : TE := fun σ H Q => ta σ H fun x H1 => ∃ c, x = .bl c ∧ if c = true then tb σ H1 Q else Q (.bl false) H1
noncomputable def tOrV (ta tb : TE) : TE := fun σ H Q => ta σ H fun x H1 => ∃ c, x = .bl c ∧ if c = true then Q (.bl true) H1 else tb σ H1 Q
noncomputable def tNotV (ta : TE) : TE := fun σ H Q => ta σ H fun x H1 => ∃ c, x = .bl c ∧ Q (.bl (!c)) H1
theorem pe_one {op} {t : TE} (h : PE X a t) : PE X (.BoolOp op [a] pos) t := fun pins s σ H Q I hw => BoolOp_one (h pins s σ H Q I hw)
theorem pe_and (ha : PE X a ta) (hb : PE X (.BoolOp .And (b :: rest) pos) tb) : PE X (.BoolOp .And (a :: b :: rest) pos) (tAndV ta tb) := by
  intro pins s σ H Q I h
  refine BoolOp_and (thn (ha pins s σ H _ I h) fun v s1 z9 => ?_)
  obtain ⟨x, H1, I1, r1, q1⟩ := z9
  obtain ⟨c, rfl, q1⟩ := q1
  cases r1
  refine wpAny_truthy_bool ?_
  cases c with
  | true => exact hb pins s1 σ H1 Q I1 q1
  | false => exact ⟨.bl false, H1, I1, rfl, q1⟩
theorem pe_or (ha : PE X a ta) (hb : PE X (.BoolOp .Or (b :: rest) pos) tb) : PE X (.BoolOp .Or (a :: b :: rest) pos) (tOrV ta tb) := by
  intro pins s σ H Q I h
  refine BoolOp_or (thn (ha pins s σ H _ I h) fun v s1 z9 => ?_)
  obtain ⟨x, H1, I1, r1, q1⟩ := z9
  obtain ⟨c, rfl, q1⟩ := q1
  cases r1
  refine wpAny_truthy_bool ?_
  cases c with
  | false => exact hb pins s1 σ H1 Q I1 q1
  | true => exact ⟨.bl true, H1, I1, rfl, q1⟩
theorem pe_not (ha : PE X a ta) : PE X (.UnaryOp .Not a pos) (tNotV ta) := by
  intro pins s σ H Q I h
  refine UnaryOp_ (thn (ha pins s σ H _ I h) fun v s1 z9 => ?_)
  obtain ⟨x, H1, I1, r1, q1⟩ := z9
  obtain ⟨c, rfl, q1⟩ := q1
  cases r1
  exact not_of (wpAny_truthy_bool ⟨.bl (!c), H1, I1, rfl, q1⟩)
end
end L2
namespace L2
open PySem PySem.Spec PyProof.Rows
noncomputable def SqL (K : PySem.W.Frag) (H : Hp) (a : Addr) (xs : List V) : Prop :=
  Rd H a (.lst xs) ∨
    ∃ (o : Obj) (its : Array Value) (n : Nat), K.lookup a = some o ∧ o.cls = .type "list" ∧ o.dict = none ∧ o.data = .seq its n ∧ its.size ≤ sizeLine ∧ Vals xs its.toList
noncomputable def SqT (K : PySem.W.Frag) (H : Hp) (a : Addr) (xs : List V) : Prop :=
  Rd H a (.tup xs) ∨
    ∃ (o : Obj) (its : Array Value) (n : Nat), K.lookup a = some o ∧ o.cls = .type "tuple" ∧ o.data = .seq its n ∧ its.size ≤ sizeLine ∧ Vals xs its.toList
noncomputable def absV : Value → Option V
  | .none => some .non
  | .bool b => some (.bl b)
  | .int i _ => some (.int i)
  | .str x _ => some (.str x)
  | .bytes b _ => some (.byt b)
  | .float b _ => some (.flt b)
  | .ref a => some (.ref a)
  | .type n => some (.ty n)
  | _ => none
theorem RelV.abs {x : V} {u : Value} (r : RelV x u) : absV u = some x := by
  cases x with
  | non => cases r; rfl
  | bl _ => cases r; rfl
  | int _ => obtain ⟨t, rfl⟩ := r; rfl
  | str _ => obtain ⟨t, rfl⟩ := r; rfl
  | byt _ => obtain ⟨t, rfl⟩ := r; rfl
  | flt _ => obtain ⟨t, rfl⟩ := r; rfl
  | ref _ => cases r; rfl
  | ty _ => cases r; rfl
theorem RelV.inj {x y : V} {u : Value} (r : RelV x u) (q : RelV y u) : x = y := Option.some.inj (r.abs.symm.trans q.abs)
theorem Vals.inj : ∀ {xs ys : List V} {us : List Value}, Vals xs us → Vals ys us → xs = ys
  | _, _, _, .nil, .nil => rfl
  | _, _, _, .cons r t, .cons r' t' => by rw [r.inj r', Vals.inj t t']
section
variable {X : Cx} {pins : List (Addr × Obj)} {σ : St} {H : Hp} {s : Shared} {a : Addr} {xs ys : List V}
theorem SqT.of {K : PySem.W.Frag} (h : H a = some (.tup xs)) : SqT K H a xs := .inl (.inl h)
theorem Inv.list (I : Inv X pins σ H s) (h : SqL X.K H a xs) : ∃ its : List Value, Vals xs its ∧ PlainL s.heap a its.toArray ∧ xs.length ≤ sizeLine := by
  rcases h with h | ⟨o, its, n, hk, hc, hd, hs, hz, r⟩
  · obtain ⟨z, its, n, r, e⟩ := h.ok I.hok
    exact ⟨its, r, ⟨_, n, e, rfl, rfl, rfl⟩, z⟩
  · refine ⟨its.toList, r, ⟨o, n, I.kIn a o hk, hc, hd, by simpa using hs⟩, ?_⟩
    have e := r.length
    simp only [Array.length_toList] at e
    omega
theorem Inv.tuple (I : Inv X pins σ H s) (h : SqT X.K H a xs) : ∃ its : List Value, Vals xs its ∧ IsTup s.heap a its.toArray ∧ xs.length ≤ sizeLine := by
  rcases h with h | ⟨o, its, n, hk, hc, hs, hz, r⟩
  · obtain ⟨z, its, r, p⟩ := h.ok I.hok
    exact ⟨its, r, p, z⟩
  · refine ⟨its.toList, r, ⟨o, I.kIn a o hk, hc, n, by simpa using hs⟩, ?_⟩
    have e := r.length
    simp only [Array.length_toList] at e
    omega
theorem Inv.list_inj (I : Inv X pins σ H s) (h : SqL X.K H a xs) (h' : SqL X.K H a ys) : xs = ys := by
  obtain ⟨its, r, ⟨o, n, e, _, _, d⟩, _⟩ := I.list h
  obtain ⟨its', r', ⟨o', n', e', _, _, d'⟩, _⟩ := I.list h'
  rw [e] at e'; cases e'
  rw [d] at d'
  injection d' with d1 _
  have : its = its' := by simpa using congrArg Array.toList d1
  subst this
  exact r.inj r'
theorem Inv.tuple_inj (I : Inv X pins σ H s) (h : SqT X.K H a xs) (h' : SqT X.K H a ys) : xs = ys := by
  obtain ⟨its, r, ⟨o, e, _, n, d⟩, _⟩ := I.tuple h
  obtain ⟨its', r', ⟨o', e', _, n', d'⟩, _⟩ := I.tuple h'
  rw [e] at e'; cases e'
  rw [d] at d'
  injection d' with d1 _
  have : its = its' := by simpa using congrArg Array.toList d1
  subst this
  exact r.inj r'
end
noncomputable abbrev Cx.wish (X : Cx) (E : Value → Shared → Prop) : Cx := { X with xe := E }
noncomputable abbrev Cx.nox (X : Cx) : Cx := X.wish fun _ _ => False
theorem Cx.Ok.wish {X : Cx} (ok : X.Ok) (E : Value → Shared → Prop) : (X.wish E).Ok :=
  ⟨ok.mod, ok.kind, ok.glob, ok.blt, ok.above, ok.inj, ok.has, ok.cab, ok.hd, ok.frames, ok.stk, ok.exf, ok.bs, ok.bsz, ok.noex, ok.exfs, ok.funs, ok.frf⟩
theorem Cx.Ok.unwish {X : Cx} {E : Value → Shared → Prop} (ok : (X.wish E).Ok) : X.Ok :=
  ⟨ok.mod, ok.kind, ok.glob, ok.blt, ok.above, ok.inj, ok.has, ok.cab, ok.hd, ok.frames, ok.stk, ok.exf, ok.bs, ok.bsz, ok.noex, ok.exfs, ok.funs, ok.frf⟩
section
variable {X : Cx} {pins : List (Addr × Obj)} {σ : St} {H : Hp} {s : Shared} {E : Value → Shared → Prop}
theorem Inv.wish (I : Inv X pins σ H s) (E : Value → Shared → Prop) : Inv (X.wish E) pins σ H s := ⟨I.ok.wish E, I.os, I.bare, I.base, I.loc, I.cell, I.free, I.freeC, I.pin, I.hok, I.len⟩
theorem Inv.unwish (I : Inv (X.wish E) pins σ H s) : Inv X pins σ H s := ⟨I.ok.unwish, I.os, I.bare, I.base, I.loc, I.cell, I.free, I.freeC, I.pin, I.hok, I.len⟩
theorem SP.unwish {D : Ends} {f : Flow} {s' : Shared} (h : SP (X.wish E) pins D f s') : SP X pins D f s' := by
  cases f with
  | next => obtain ⟨σ', H', I, q⟩ := h; exact ⟨σ', H', I.unwish, q⟩
  | brk => obtain ⟨σ', H', I, q⟩ := h; exact ⟨σ', H', I.unwish, q⟩
  | cont => obtain ⟨σ', H', I, q⟩ := h; exact ⟨σ', H', I.unwish, q⟩
  | ret u => obtain ⟨v, σ', H', I, r, q⟩ := h; exact ⟨v, σ', H', I.unwish, r, q⟩
theorem PSs.nox {st : List Stmt} {t : TS} (h : PSs X.nox st t) : PSs X st t := fun pins s σ H D I hw =>
  wpAny_mono (h pins s σ H D (I.wish _) hw) (fun _ _ q => q.unwish) fun _ _ z => False.elim z
end
section
variable {X : Cx} {st : Stmt} {rest : List Stmt} {t u : TS} {e : Expr} {te : TE} {pos : Pos}
noncomputable def tNext : TS := fun D σ H => D.nx σ H
noncomputable def tSeq (t u : TS) : TS := fun D σ H => t { D with nx := u D } σ H
theorem pss_nil : PSs X [] tNext := fun _ _ σ H _ I h => wpAny_execs_nil ⟨σ, H, I, h⟩
theorem pss_cons (h1 : PS X st t) (h2 : PSs X rest u) : PSs X (st :: rest) (tSeq t u) := by
  intro pins s σ H D I h
  refine wpAny_execs_cons (thn (h1 pins s σ H { D with nx := u D } I h) fun f s1 q => ?_)
  cases f with
  | next =>
    obtain ⟨σ', H', I', q⟩ := q
    exact h2 pins s1 σ' H' D I' q
  | ret v => exact q
  | brk => exact q
  | cont => exact q
theorem pss_one (h1 : PS X st t) : PSs X [st] t := by
  intro pins s σ H D I h
  refine wpAny_execs_cons (thn (h1 pins s σ H D I h) fun f s1 q => ?_)
  cases f with
  | next => exact wpAny_execs_nil q
  | ret v => exact q
  | brk => exact q
  | cont => exact q
noncomputable def tCont : TS := fun D σ H => D.ct σ H
theorem ps_continue : PS X (.Continue pos) tCont := fun _ _ σ H _ I h => wpAny_Continue ⟨σ, H, I, h⟩
theorem Inv.quiet {pins : List (Addr × Obj)} {σ : St} {H : Hp} {s : Shared} (I : Inv X pins σ H s) : interactive X.env = false := by simp [interactive, I.ok.kind]
noncomputable def tDrop (te : TE) : TS := fun D σ H => te σ H fun _ H1 => D.nx σ H1
theorem ps_expr (he : PE X e te) (hs : swapsWith e none pos.line X.env = pure false := by rfl) : PS X (.Expr e pos) (tDrop te) := by
  intro pins s σ H D I h
  exact wpAny_Expr_any (thn (he pins s σ H _ I h) fun v s1 ⟨x, H1, I1, r1, q1⟩ => ⟨σ, H1, I1, q1⟩) I.quiet hs
noncomputable def tRet (te : TE) : TS := fun D σ H => te σ H D.rt
theorem ps_ret (he : PE X e te) : PS X (.Return (some e) pos) (tRet te) := by
  intro pins s σ H D I h
  exact wpAny_Return_some (thn (he pins s σ H _ I h) fun v s1 ⟨x, H1, I1, r1, q1⟩ => ⟨x, σ, H1, I1, r1, q1⟩)
noncomputable def tIfS (c : TT) (t u : TS) : TS := fun D σ H => c σ H fun b H1 => if b = true then t D σ H1 else u D σ H1
theorem ps_if {c : Expr} {a b : List Stmt} {tc : TT} (hc : PT X c tc) (ha : PSs X a t) (hb : PSs X b u) : PS X (.If c a b pos) (tIfS tc t u) := by
  intro pins s σ H D I h
  refine wpAny_If (thn (hc pins s σ H _ I h) fun d s1 z9 => ?_)
  obtain ⟨H1, I1, q1⟩ := z9
  cases d with
  | true => exact ha pins s1 σ H1 D I1 q1
  | false => exact hb pins s1 σ H1 D I1 q1
noncomputable def tNever : TS := fun _ _ _ => False
theorem ps_never : PS X st tNever := fun _ _ _ _ _ _ h => h.elim
end
noncomputable abbrev TG := V → St → Hp → (St → Hp → Prop) → Prop
noncomputable abbrev TGs := List V → St → Hp → (St → Hp → Prop) → Prop
noncomputable def PG (X : Cx) (target : Expr) (t : TG) : Prop :=
  ∀ (pins : List (Addr × Obj)) (s : Shared) (σ : St) (H : Hp) (v : V) (u : Value) (Q : St → Hp → Prop), Inv X pins σ H s → RelV v u → t v σ H Q →
    wpAny (model X.prog X.w) X.A (assign target X.env u) (fun _ s' => ∃ σ' H', Inv X pins σ' H' s' ∧ Q σ' H') X.xe s
noncomputable def PGs (X : Cx) (ts : List Expr) (t : TGs) : Prop :=
  ∀ (pins : List (Addr × Obj)) (s : Shared) (σ : St) (H : Hp) (vs : List V) (us : List Value) (Q : St → Hp → Prop), Inv X pins σ H s → Vals vs us → t vs σ H Q →
    wpAny (model X.prog X.w) X.A (assignInOrder ((assignEach ts X.env).map (·.2)) us) (fun _ s' => ∃ σ' H', Inv X pins σ' H' s' ∧ Q σ' H') X.xe s
noncomputable abbrev TSet := V → V → V → Hp → (Hp → Prop) → Prop
noncomputable def PSet (X : Cx) (t : TSet) : Prop :=
  ∀ (pins : List (Addr × Obj)) (s : Shared) (σ : St) (H : Hp) (o i v : V) (ov iv u : Value) (Q : Hp → Prop), Inv X pins σ H s → RelV o ov → RelV i iv → RelV v u → t o i v H Q →
    wpAny (model X.prog X.w) X.A (setItem ov iv u) (fun _ s' => ∃ H', Inv X pins σ H' s' ∧ Q H') X.xe s
noncomputable abbrev TIp := V → V → Hp → VK → Prop
noncomputable def PIp (X : Cx) (op : Operator) (t : TIp) : Prop :=
  ∀ (pins : List (Addr × Obj)) (s : Shared) (σ : St) (H : Hp) (x y : V) (v u : Value) (Q : VK), Inv X pins σ H s → RelV x v → RelV y u → t x y H Q →
    wpAny (model X.prog X.w) X.A (inplaceOp op v u) (EP X pins σ Q) X.xe s
section
variable {X : Cx} {pos : Pos}
noncomputable def gName (i : Nat) : TG := fun v σ H Q => Q (σ.set i (some v)) H
theorem pg_name {i : Nat} {x : Str} (hN : X.N.Nodup) (hi : X.N[i]? = some x) (hx : Loc X.env.scope x) (hf : X.fn x = true ∨ X.env.scope.names.lookup x = some .local := by first | exact .inl rfl | exact .inr rfl | assumption) : PG X (.Name x pos) (gName i) := by
  intro pins s σ H v u Q I r h
  exact wpAny_assign_Name (store_ok I hN hi hx r (fun s' I' => ⟨_, H, I', h⟩) hf)
noncomputable def gNil : TGs := fun vs σ H Q => vs = [] ∧ Q σ H
noncomputable def gCons (t : TG) (u : TGs) : TGs := fun vs σ H Q => ∃ v r, vs = v :: r ∧ t v σ H fun σ' H' => u r σ' H' Q
theorem pgs_nil : PGs X [] gNil := by
  intro pins s σ H vs us Q I r h
  obtain ⟨e, h⟩ := h
  subst e
  cases r
  exact assignInOrder_nil ⟨σ, H, I, h⟩
theorem pgs_cons {e : Expr} {es : List Expr} {t : TG} {u : TGs} (h1 : PG X e t) (h2 : PGs X es u)
    (hs : (assignEach (e :: es) X.env).map (·.2) = assign e X.env :: (assignEach es X.env).map (·.2) := by rfl) : PGs X (e :: es) (gCons t u) := by
  intro pins s σ H vs us Q I r h
  obtain ⟨v, vr, e1, h⟩ := h
  subst e1
  cases r with
  | cons r rr =>
    rw [hs]
    refine assignInOrder_cons (thn (h1 pins s σ H _ _ _ I r h) fun _ s1 z9 => ?_)
    obtain ⟨σ1, H1, I1, q1⟩ := z9
    exact h2 pins s1 σ1 H1 _ _ Q I1 rr q1
noncomputable def gTup (K : PySem.W.Frag) (n : Nat) (t : TGs) : TG := fun v σ H Q => ∃ a xs, v = .ref a ∧ SqT K H a xs ∧ xs.length = n ∧ t xs σ H Q
theorem pg_tup {es : List Expr} {k : Nat} {t : TGs} {n : Nat} (hc : X.calm = true) (h : PGs X es t)
    (hn : (assignEach es X.env).length = n := by rfl) (hst : (assignEach es X.env).findIdx? (·.1) = none := by rfl) : PG X (.Tuple es k pos) (gTup X.K n t) := by
  intro pins s σ H v u Q I r hw
  obtain ⟨a, xs, e1, hq, hl, hw⟩ := hw
  subst e1
  cases r
  obtain ⟨its, rv, ht, hz⟩ := I.tuple hq
  refine assign_Tuple_tuple (I.ok.hd hc) ht (by simp [hn, ← hl, rv.length]) hst fun h' hx => ?_
  have I1 : Inv X pins σ H { s with heap := h' } := I.kept (t' := s.toks) fun b o e => hx b o (Nat.ne_of_lt (Heap.lt_size e)) e
  exact h pins _ σ H xs _ Q I1 (by simpa using rv) hw
noncomputable def gSub (to ti : TE) (t : TSet) : TG := fun v σ H Q => to σ H fun o H1 => ti σ H1 fun i H2 => t o i v H2 fun H3 => Q σ H3
theorem pg_sub {o i : Expr} {to ti : TE} {t : TSet} (ho : PE X o to) (hi : PE X i ti) (hs : PSet X t)
    (ha : ∀ v, assign (.Subscript o i pos) X.env v = (do
      let ov ← holding [v] (eval o X.env)
      let iv ← holding [v, ov] (eval i X.env)
      standAt pos
      holding [v, ov, iv] (setItem ov iv v)
      release [v, ov, iv] []) := by intro _; rfl) : PG X (.Subscript o i pos) (gSub to ti t) := by
  intro pins s σ H v u Q I r h
  rw [ha]
  refine wpAny_bind (wpAny_holding (thn (ho pins s σ H _ I h) fun ov s1 z9 => ?_))
  obtain ⟨x, H1, I1, r1, q1⟩ := z9
  refine wpAny_bind (wpAny_holding (thn (hi pins s1 σ H1 _ I1 q1) fun iv s2 z9 => ?_))
  obtain ⟨y, H2, I2, r2, q2⟩ := z9
  refine wpAny_bind (wpAny_standAt (wpAny_bind (wpAny_holding (thn (hs pins s2 σ H2 x y v ov iv u _ I2 r1 r2 r q2) fun _ s3 z9 => ?_))))
  obtain ⟨H3, I3, q3⟩ := z9
  exact wpAny_release ⟨σ, H3, I3, q3⟩
noncomputable def tAsg (te : TE) (g : TG) : TS := fun D σ H => te σ H fun x H1 => g x σ H1 D.nx
theorem ps_asg {tg e : Expr} {te : TE} {g : TG} (he : PE X e te) (hg : PG X tg g) (hs : swapsWithSole [tg] e pos.line X.env = pure false := by rfl) (hw : swappedStores [tg] e X.env = pure none := by rfl)
    (h1 : (assignEach [tg] X.env).map (·.2) = [assign tg X.env] := by rfl) : PS X (.Assign [tg] e pos) (tAsg te g) := by
  intro pins s σ H D I h
  refine wpAny_Assign_stores (thn (he pins s σ H _ I h) fun v s1 z9 => ?_) hs hw
  obtain ⟨x, H1, I1, r1, q1⟩ := z9
  rw [h1]
  exact thn (hg pins s1 σ H1 x v _ I1 r1 q1) fun _ s2 q => q
theorem ps_set {i : Nat} {x : Str} {e : Expr} {te : TE} {pos' : Pos} (hN : X.N.Nodup) (hi : X.N[i]? = some x) (hx : Loc X.env.scope x) (he : PE X e te) (hs : swapsWith e (some (.Name x pos')) pos.line X.env = pure false := by rfl) (hf : X.fn x = true ∨ X.env.scope.names.lookup x = some .local := by first | exact .inl rfl | exact .inr rfl | assumption) :
    PS X (.Assign [.Name x pos'] e pos) (tAsg te (gName i)) := by
  intro pins s σ H D I h
  refine wpAny_Assign_Name (thn (he pins s σ H _ I h) fun v s1 z9 => ?_) hs
  obtain ⟨y, H1, I1, r1, q1⟩ := z9
  exact store_ok I1 hN hi hx r1 (fun s2 I2 => ⟨_, H1, I2, q1⟩) hf
noncomputable def tAugS (to ti te : TE) (tget : V → V → Hp → VK → Prop) (tip : TIp) (tset : TSet) : TS := fun D σ H => to σ H fun o H1 => ti σ H1 fun i H2 => tget o i H2 fun x H3 => te σ H3 fun y H4 => tip x y H4 fun z H5 => tset o i z H5 fun H6 => D.nx σ H6
noncomputable def PGet (X : Cx) (t : V → V → Hp → VK → Prop) : Prop :=
  ∀ (pins : List (Addr × Obj)) (s : Shared) (σ : St) (H : Hp) (o i : V) (ov iv : Value) (Q : VK), Inv X pins σ H s → RelV o ov → RelV i iv → t o i H Q →
    wpAny (model X.prog X.w) X.A (getItem ov iv) (EP X pins σ Q) X.xe s
theorem ps_augS {o i e : Expr} {to ti te : TE} {tget : V → V → Hp → VK → Prop} {tip : TIp} {tset : TSet} {op : Operator} {tpos : Pos} (ho : PE X o to) (hi : PE X i ti) (hg : PGet X tget) (he : PE X e te) (hp : PIp X op tip) (hs : PSet X tset)
    (ha : ∀ ov iv new, augStore i ov iv new = (do holding [new, ov, iv] (setItem ov iv new); release [new, ov, iv] []; pure .next) := by intros; rfl) : PS X (.AugAssign (.Subscript o i tpos) op e pos) (tAugS to ti te tget tip tset) := by
  intro pins s σ H D I h
  refine wpAny_AugAssign_SubscriptAny (thn (ho pins s σ H _ I h) fun ov s1 z9 => ?_) ha
  obtain ⟨x1, H1, I1, r1, q1⟩ := z9
  refine thn (hi pins s1 σ H1 _ I1 q1) fun iv s2 z9 => ?_
  obtain ⟨x2, H2, I2, r2, q2⟩ := z9
  refine thn (hg pins s2 σ H2 x1 x2 ov iv _ I2 r1 r2 q2) fun old s3 z9 => ?_
  obtain ⟨x3, H3, I3, r3, q3⟩ := z9
  refine thn (he pins s3 σ H3 _ I3 q3) fun v s4 z9 => ?_
  obtain ⟨x4, H4, I4, r4, q4⟩ := z9
  refine thn (hp pins s4 σ H4 x3 x4 old v _ I4 r3 r4 q4) fun new s5 z9 => ?_
  obtain ⟨x5, H5, I5, r5, q5⟩ := z9
  exact thn (hs pins s5 σ H5 x1 x2 x5 ov iv new _ I5 r1 r2 r5 q5) fun _ s6 ⟨H6, I6, q6⟩ => ⟨σ, H6, I6, q6⟩
noncomputable def ipI (f : Int → Int → Int) : TIp := fun x y H Q => ∃ i j, x = .int i ∧ y = .int j ∧ Q (.int (f i j)) H
theorem ip_add : PIp X .Add (ipI fun i j => i + j) := by
  intro pins s σ H x y v u Q I r1 r2 h
  obtain ⟨i, j, e1, e2, q⟩ := h
  subst e1; subst e2
  obtain ⟨t, rfl⟩ := r1
  obtain ⟨t', rfl⟩ := r2
  exact iadd_int ⟨.int _, H, I.tok _, ⟨_, rfl⟩, q⟩
theorem ip_sub : PIp X .Sub (ipI fun i j => i - j) := by
  intro pins s σ H x y v u Q I r1 r2 h
  obtain ⟨i, j, e1, e2, q⟩ := h
  subst e1; subst e2
  obtain ⟨t, rfl⟩ := r1
  obtain ⟨t', rfl⟩ := r2
  exact isub_int ⟨.int _, H, I.tok _, ⟨_, rfl⟩, q⟩
end
section
variable {X : Cx} {pos : Pos}
end
structure It where
  go : Nat → Hp → Prop
  yld : Nat → Hp → V → Hp → Prop
  stop : Nat → Hp → Prop
noncomputable def FpOk (X : Cx) (pins : List (Addr × Obj)) (H : Hp) (b : Addr) : Prop :=
  H b = none ∧ b ≠ X.env.locals ∧ b ∉ X.fs ∧ (b ∈ X.ex ∨ X.s₀.heap.objs.size ≤ b) ∧ (∀ x c, X.env.cells.lookup x = some c → c ≠ b) ∧ ∀ p ∈ X.pn ++ pins, p.1 ≠ b
theorem Inv.fpOk {X : Cx} {pins : List (Addr × Obj)} {σ : St} {H H' : Hp} {s : Shared} {b : Addr} (I : Inv X pins σ H s) (hb : s.heap.objs.size ≤ b) (hn : H' b = none) : FpOk X pins H' b := by
  refine ⟨hn, Nat.ne_of_gt (Nat.lt_of_lt_of_le I.lt hb), I.nofs hb, .inr (Nat.le_trans I.sz hb), fun x c e z => ?_, fun p hp z => ?_⟩
  · obtain ⟨v, q⟩ := I.cell x c e
    exact absurd (Nat.lt_of_lt_of_le q.lt (by rw [z]; exact hb)) (Nat.lt_irrefl _)
  · exact absurd (Nat.lt_of_lt_of_le (Heap.lt_size (I.pin p hp).1) (by rw [z]; exact hb)) (Nat.lt_irrefl _)
structure Turn (P : Program) (w : World) (K : PySem.W.Frag) (tg : Expr) (J : It) (fp : List Addr) (it : Addr) (tn : Nat → Heap → Prop) : Prop where
  mem : it ∈ fp
  obj : ∀ i h, tn i h → ∀ b ∈ fp, ∃ o, h.get? b = some o ∧ ∀ v, o.data ≠ .cell v
  keep : ∀ i h h', tn i h → (∀ b ∈ fp, ∀ o, h.get? b = some o → h'.get? b = some o) → tn i h'
  item : ∀ (X : Cx), X.prog = P → X.w = w → X.K = K → X.calm = true → ∀ (i : Nat) (pins : List (Addr × Obj)) (s : Shared) (σ : St) (H : Hp) (E : Value → Shared → Prop), Inv X pins σ H s → (∀ b ∈ fp, FpOk X pins H b) → tn i s.heap → J.go i H →
    wpAny (model P w) X.A (pyNext (.ref it)) (fun r s1 => ∃ u, r = some u ∧
      wpAny (model P w) X.A (letOwnedTupleGo tg (.ref it) u) (fun _ s2 => ∃ x H', Inv X pins σ H' s2 ∧ RelV x u ∧ J.yld i H x H' ∧ tn (i + 1) s2.heap ∧ ∀ b ∈ fp, H' b = none) E s1) E s
  done : ∀ (X : Cx), X.prog = P → X.w = w → X.K = K → X.calm = true → ∀ (i : Nat) (pins : List (Addr × Obj)) (s : Shared) (σ : St) (H : Hp) (E : Value → Shared → Prop), Inv X pins σ H s → (∀ b ∈ fp, FpOk X pins H b) → tn i s.heap → J.stop i H →
    wpAny (model P w) X.A (pyNext (.ref it)) (fun r s1 => r = none ∧ Inv X pins σ H s1) E s
  self : ∀ (A : Around) (i : Nat) (s : Shared) (Q : Value → Shared → Prop) (E : Value → Shared → Prop), tn i s.heap → Q (.ref it) s → wpAny (model P w) A (pyIter (.ref it)) Q E s
noncomputable abbrev TI := St → Hp → (It → Hp → Prop) → Prop
noncomputable def PIE (X : Cx) (pins : List (Addr × Obj)) (σ : St) (tg : Expr) (R : It → Hp → Prop) (itv : Value) (s2 : Shared) : Prop :=
  ∃ (it : Addr) (fp : List Addr) (tn : Nat → Heap → Prop) (J : It) (H' : Hp), itv = .ref it ∧ Inv X pins σ H' s2 ∧ Turn X.prog X.w X.K tg J fp it tn ∧ tn 0 s2.heap ∧ (∀ b ∈ fp, FpOk X pins H' b) ∧ R J H'
noncomputable def PI (X : Cx) (tg iter : Expr) (wi : TI) : Prop :=
  ∀ (pins : List (Addr × Obj)) (s : Shared) (σ : St) (H : Hp) (R : It → Hp → Prop), Inv X pins σ H s → wi σ H R →
    wpAny (model X.prog X.w) X.A (eval iter X.env) (fun v s1 => wpAny (model X.prog X.w) X.A (pyIter v) (PIE X pins σ tg R) X.xe s1) X.xe s
theorem go_of {M : Model} {A : Around} {E : Value → Shared → Prop} {s : Shared} {tg : Expr} {it : Addr} {u : Value} {o : Obj} {n : String} {vs : Array Value} {Q : Unit → Shared → Prop} (ho : s.heap.get? it = some o) (hc : o.cls = .type n) (hd : o.data = .fields vs)
    (hn : ["enumerate", "zip", "dict_itemiterator", "dict_reverseitemiterator", "odict_iterator", "itertools.zip_longest", "itertools.pairwise"].contains n = false) (hQ : Q () s) : wpAny M A (letOwnedTupleGo tg (.ref it) u) Q E s := by
  unfold letOwnedTupleGo
  cases tg <;> first
    | exact wpAny_pure hQ
    | (cases u <;> first
        | exact wpAny_pure hQ
        | (refine wpAny_bind (wpAny_load ho ?_)
           rw [hc, hd]
           show wpAny M A (if (["enumerate", "zip", "dict_itemiterator", "dict_reverseitemiterator", "odict_iterator", "itertools.zip_longest", "itertools.pairwise"].contains n && vs[0]? == some (rawInt _)) = true then _ else _) Q E s
           rw [if_neg (by intro h; rw [hn, Bool.false_and] at h; cases h)]
           exact wpAny_pure hQ))
noncomputable def Itl (K : PySem.W.Frag) (a : Addr) : It :=
  ⟨fun i H => ∃ xs x, SqL K H a xs ∧ xs[i]? = some x, fun i H x H' => H' = H ∧ ∀ xs, SqL K H a xs → xs[i]? = some x, fun i H => ∃ xs, SqL K H a xs ∧ xs.length ≤ i⟩
noncomputable def Itt (K : PySem.W.Frag) (a : Addr) : It :=
  ⟨fun i H => ∃ xs x, SqT K H a xs ∧ xs[i]? = some x, fun i H x H' => H' = H ∧ ∀ xs, SqT K H a xs → xs[i]? = some x, fun i H => ∃ xs, SqT K H a xs ∧ xs.length ≤ i⟩
noncomputable def Itr (lo : Int) (n : Nat) : It := ⟨fun i _ => i < n, fun i H x H' => H' = H ∧ x = .int (lo + i), fun i _ => n ≤ i⟩
theorem turn_list {P : Program} {w : World} {K : PySem.W.Frag} {tg : Expr} (a it : Addr) : Turn P w K tg (Itl K a) [it] it (fun i h => h.IsListIter it a i) where
  mem := by simp
  obj := fun i h st b hb => by
    have e : b = it := by simpa using hb
    subst e
    obtain ⟨o, e, c, d⟩ := st
    exact ⟨o, e, fun v z => by rw [d] at z; cases z⟩
  keep := fun i h h' st k => st.at fun o e => k it (by simp) o e
  item := by
    intro X hP hw hK hc i pins s σ H E I hf st hg
    subst hP hw hK
    obtain ⟨xs, x, hq, hx⟩ := hg
    obtain ⟨its, rv, p, hz⟩ := I.list hq
    obtain ⟨u, hu, ru⟩ := rv.get hx
    obtain ⟨f0, f1, f2, f3, f4, f5⟩ := hf it (by simp)
    refine wpAny_pyNext_list_item st p.isList (x := u) (by simpa using hu) fun h' st' sb => ?_
    have I1 : Inv X pins σ H { s with heap := h' } := I.turned (t' := s.toks) (fun b o hb e => (sb.2 b hb).trans e) f0 f1 f3 f4 f5
    obtain ⟨o, e, c, d⟩ := id st'
    exact ⟨u, rfl, go_of (s := { s with heap := h' }) e c d (by decide) ⟨x, H, I1, ru, ⟨rfl, fun ys hy => by rw [I.list_inj hy hq]; exact hx⟩, st', fun b hb => (hf b hb).1⟩⟩
  done := by
    intro X hP hw hK hc i pins s σ H E I hf st hg
    subst hP hw hK
    obtain ⟨xs, hq, hx⟩ := hg
    obtain ⟨its, rv, p, hz⟩ := I.list hq
    obtain ⟨f0, f1, f2, f3, f4, f5⟩ := hf it (by simp)
    have hl := rv.length
    exact wpAny_pyNext_list_end (I.ok.hd hc) st p.isList (by simp; omega) fun h' eb => ⟨rfl, I.turned (t' := s.toks) (fun b o hb e => eb b o hb e) f0 f1 f3 f4 f5⟩
  self := fun _ _ _ _ _ st h => wpAny_pyIter_listiter st h
theorem turn_tuple {P : Program} {w : World} {K : PySem.W.Frag} {tg : Expr} (a it : Addr) : Turn P w K tg (Itt K a) [it] it (fun i h => h.IsTupleIter it a i) where
  mem := by simp
  obj := fun i h st b hb => by
    have e : b = it := by simpa using hb
    subst e
    obtain ⟨o, e, c, d⟩ := st
    exact ⟨o, e, fun v z => by rw [d] at z; cases z⟩
  keep := fun i h h' st k => st.at fun o e => k it (by simp) o e
  item := by
    intro X hP hw hK hc i pins s σ H E I hf st hg
    subst hP hw hK
    obtain ⟨xs, x, hq, hx⟩ := hg
    obtain ⟨its, rv, p, hz⟩ := I.tuple hq
    obtain ⟨u, hu, ru⟩ := rv.get hx
    obtain ⟨f0, f1, f2, f3, f4, f5⟩ := hf it (by simp)
    refine wpAny_pyNext_tuple_item st (show s.heap.IsTuple a its.toArray from p) (x := u) (by simpa using hu) fun h' st' sb => ?_
    have I1 : Inv X pins σ H { s with heap := h' } := I.turned (t' := s.toks) (fun b o hb e => (sb.2 b hb).trans e) f0 f1 f3 f4 f5
    obtain ⟨o, e, c, d⟩ := id st'
    exact ⟨u, rfl, go_of (s := { s with heap := h' }) e c d (by decide) ⟨x, H, I1, ru, ⟨rfl, fun ys hy => by rw [I.tuple_inj hy hq]; exact hx⟩, st', fun b hb => (hf b hb).1⟩⟩
  done := by
    intro X hP hw hK hc i pins s σ H E I hf st hg
    subst hP hw hK
    obtain ⟨xs, hq, hx⟩ := hg
    obtain ⟨its, rv, p, hz⟩ := I.tuple hq
    obtain ⟨f0, f1, f2, f3, f4, f5⟩ := hf it (by simp)
    have hl := rv.length
    exact wpAny_pyNext_tuple_end (I.ok.hd hc) st (show s.heap.IsTuple a its.toArray from p) (by simp; omega) fun h' eb => ⟨rfl, I.turned (t' := s.toks) (fun b o hb e => eb b o hb e) f0 f1 f3 f4 f5⟩
  self := fun _ _ _ _ _ st h => wpAny_pyIter_tupleiter st h
theorem turn_range {P : Program} {w : World} {K : PySem.W.Frag} {tg : Expr} (it : Addr) (lo : Int) (n : Nat) : Turn P w K tg (Itr lo n) [it] it (fun i h => IsRangeIter h it (lo + (i : Nat) * 1) ((n : Int) - (i : Nat)) 1) where
  mem := by simp
  obj := fun i h st b hb => by
    have e : b = it := by simpa using hb
    subst e
    exact ⟨_, st, fun v z => by
      have z' : Data.fields _ = Data.cell v := z
      cases z'⟩
  keep := fun i h h' st k => k it (by simp) _ st
  item := by
    intro X hP hw hK hc i pins s σ H E I hf st hg
    subst hP hw hK
    obtain ⟨f0, f1, f2, f3, f4, f5⟩ := hf it (by simp)
    have W := Walks.range (prog := X.prog) (w := X.w) (I.ok.hd hc) it lo 1 n
    refine W.item i s _ _ hg st fun v h' tk hv st' kk => ?_
    obtain ⟨t, rfl⟩ := hv
    have I1 : Inv X pins σ H { s with heap := h', toks := tk } := I.turned (fun b o hb e => kk b o (by simpa using hb) e) f0 f1 f3 f4 f5
    refine ⟨_, rfl, go_of (s := { s with heap := h', toks := tk }) (n := "range_iterator") st' rfl rfl (by decide) ⟨.int (lo + i), H, I1, ⟨t, ?_⟩, ⟨rfl, rfl⟩, st', fun b hb => (hf b hb).1⟩⟩
    rw [Int.mul_one]
  done := by
    intro X hP hw hK hc i pins s σ H E I hf st hg
    subst hP hw hK
    obtain ⟨f0, f1, f2, f3, f4, f5⟩ := hf it (by simp)
    exact wpAny_pyNext_range_end (I.ok.hd hc) st (by have : n ≤ i := hg; omega) fun h' eb => ⟨rfl, I.turned (t' := s.toks) (fun b o hb e => eb b o hb e) f0 f1 f3 f4 f5⟩
  self := fun _ _ _ _ _ st h => wpAny_pyIter_rangeiter st h
end L2
namespace L2
open PySem PySem.Spec PyProof.Rows
section
variable {X : Cx} {tg : Expr}
theorem range_it {pins : List (Addr × Obj)} {σ : St} {H : Hp} {s : Shared} {R : It → Hp → Prop} {E : Value → Shared → Prop} {lo hi : Int} {t u v : Tok} {tk : Nat} (I : Inv X pins σ H s) (h1 : -(2 ^ 62) ≤ lo) (h2 : lo < 2 ^ 62) (h3 : -(2 ^ 62) ≤ hi) (h4 : hi < 2 ^ 62)
    (q : R (Itr lo (hi - lo).toNat) H) : wpAny (model X.prog X.w) X.A (pyIter (.ref s.heap.objs.size)) (PIE X pins σ tg R) E { s with heap := s.heap.push { cls := .type "range", data := .fields #[.int lo t, .int hi u, .int 1 v] }, toks := tk } := by
  refine wpAny_pyIter_range (IsRange.new ..) (small_one h1 h2 h3 h4) ?_
  have I1 : Inv X pins σ H { s with heap := s.heap.push { cls := .type "range", data := .fields #[.int lo t, .int hi u, .int 1 v] }, toks := tk } := I.kept fun b o e => Heap.get?_push_of_some _ e
  refine ⟨(s.heap.push { cls := .type "range", data := .fields #[.int lo t, .int hi u, .int 1 v] }).objs.size, [(s.heap.push { cls := .type "range", data := .fields #[.int lo t, .int hi u, .int 1 v] }).objs.size], _, _, H, rfl,
    I1.kept (t' := tk) fun b o e => Heap.get?_push_of_some _ e, turn_range _ lo (hi - lo).toNat, ?_, fun b hb => ?_, q⟩
  · have e1 : lo + ((0 : Nat) : Int) * 1 = lo := by simp
    have e2 : (((hi - lo).toNat : Nat) : Int) - ((0 : Nat) : Int) = Builtin.Range.rangeSize lo hi 1 := by rw [rangeSize_one]; split <;> omega
    show IsRangeIter _ _ (lo + ((0 : Nat) : Int) * 1) ((((hi - lo).toNat : Nat) : Int) - ((0 : Nat) : Int)) 1
    rw [e1, e2]
    exact Heap.get?_push_size _ rfl
  · have e : b = (s.heap.push { cls := .type "range", data := .fields #[.int lo t, .int hi u, .int 1 v] }).objs.size := by simpa using hb
    subst e
    exact I1.fpOk (Nat.le_refl _) (I1.hok.fresh (Nat.le_refl _))
noncomputable def iRng1 (ta : TA) : TI := fun σ H R => ta σ H fun vs H1 => ∃ j : Int, vs = [.int j] ∧ -(2 ^ 62) ≤ j ∧ j < 2 ^ 62 ∧ R (Itr 0 j.toNat) H1
theorem pi_range1 {a : Expr} {ta : TA} {p pos : Pos} (hg : Gl X "range") (hm : X.mg "range" = none) (ha : PA X [a] ta) (hs : starEach [a] X.env = [(false, eval a X.env)] := by rfl) : PI X tg (.Call (.Name "range" p) [a] [] pos) (iRng1 ta) := by
  intro pins s σ H R I h
  refine Call_ (ld_blt I hg hm boot_range (PyProof.Rows.callWith_type1 (thn (ha pos pins s σ H _ I h) fun us s1 z9 => ?_) hs rfl))
  obtain ⟨vs, H1, I1, r1, q1⟩ := z9
  obtain ⟨j, e, q1, q2, q⟩ := q1
  subst e
  cases r1 with
  | cons r rr =>
    cases rr
    obtain ⟨t, rfl⟩ := r
    exact call_range_1 (range_it I1 (by omega) (by omega) q1 q2 (by simpa using q))
noncomputable def tFor (wi : TI) (g : TG) (tb : TS) : TS := fun D σ H => wi σ H fun J H1 => ∃ W : Nat → Nat → St → Hp → Prop, (∃ m, W 0 m σ H1) ∧ ∀ i m σ H, W i m σ H →
  (J.stop i H ∧ D.nx σ H) ∨ (J.go i H ∧ ∃ N : St → Hp → Prop, (∀ σ' H', N σ' H' → ∃ m', m' < m ∧ W (i + 1) m' σ' H') ∧ ∀ x H', J.yld i H x H' → g x σ H' fun σ2 H2 => tb { D with nx := N, ct := N, bk := D.nx } σ2 H2)
noncomputable def pinsAt (fp : List Addr) (h : Heap) : List (Addr × Obj) := fp.filterMap fun b => (h.get? b).map fun o => (b, o)
theorem mem_pinsAt {fp : List Addr} {h : Heap} {b : Addr} {o : Obj} (hb : b ∈ fp) (e : h.get? b = some o) : (b, o) ∈ pinsAt fp h := List.mem_filterMap.mpr ⟨b, hb, by rw [e]; rfl⟩
theorem of_pinsAt {fp : List Addr} {h : Heap} {p : Addr × Obj} (hp : p ∈ pinsAt fp h) : p.1 ∈ fp ∧ h.get? p.1 = some p.2 := by
  obtain ⟨b, hb, e⟩ := List.mem_filterMap.mp hp
  cases q : h.get? b with
  | none => rw [q] at e; cases e
  | some o =>
    rw [q] at e
    have e' : (b, o) = p := Option.some.inj e
    subst e'
    exact ⟨hb, q⟩
theorem Inv.pinned {pins : List (Addr × Obj)} {σ : St} {H : Hp} {s : Shared} {fp : List Addr} (I : Inv X pins σ H s) (hf : ∀ b ∈ fp, FpOk X pins H b) (ho : ∀ b ∈ fp, ∃ o, s.heap.get? b = some o ∧ ∀ v, o.data ≠ .cell v) : Inv X (pins ++ pinsAt fp s.heap) σ H s :=
  I.pins_of fun p hp => (List.mem_append.mp hp).elim (fun z => I.pin p (List.mem_append_right _ z)) fun z => by
    obtain ⟨hb, e⟩ := of_pinsAt z
    obtain ⟨f0, f1, f2, _⟩ := hf p.1 hb
    obtain ⟨o, e', d⟩ := ho p.1 hb
    rw [e] at e'; cases e'
    exact ⟨e, f0, f1, f2, d⟩
theorem Inv.unpinned {pins pl : List (Addr × Obj)} {σ : St} {H : Hp} {s : Shared} (I : Inv X (pins ++ pl) σ H s) : Inv X pins σ H s := I.pins_of fun p hp => I.pin p (List.mem_append_right _ (List.mem_append_left _ hp))
theorem ps_for {iter : Expr} {body : List Stmt} {wi : TI} {g : TG} {tb : TS} {pos : Pos} (hp : PassesOwn (model X.prog X.w) X.A X.env X.xe) (hc : X.calm = true) (hi : PI X tg iter wi) (hg : PG X tg g) (hb : PSs X body tb)
    (hs : ∀ x, foldedSetIterable iter X.env x = pure x := by intro _; rfl) : PS X (.For tg iter body [] pos) (tFor wi g tb) := by
  intro pins s σ H D I h
  refine wpAny_For (thn (hi pins s σ H _ I h) fun v s1 h1 => thn h1 fun itv s2 h2 => ?_) hs
  obtain ⟨it, fp, tn, J, H2, e, I2, T, st2, f2, W, ⟨m0, w0⟩, turn⟩ := h2
  subst e
  have stat : ∀ {H' : Hp}, (∀ b ∈ fp, H' b = none) → ∀ b ∈ fp, FpOk X pins H' b := fun hn b hb => ⟨hn b hb, (f2 b hb).2⟩
  refine codeAny_forLoop_any (fun n s' => ∃ i σ' H', Inv X pins σ' H' s' ∧ tn i s'.heap ∧ (∀ b ∈ fp, H' b = none) ∧ W i n σ' H') ?_ m0 ⟨0, σ, H2, I2, st2, fun b hb => (f2 b hb).1, w0⟩
  rintro n s3 ⟨i, σ3, H3, I3, st3, fr3, w3⟩
  rcases turn i n σ3 H3 w3 with ⟨stop, qn⟩ | ⟨go, N, hN, step⟩
  · refine wpAny_passesOwn hp (thn (T.done X rfl rfl rfl hc i pins s3 σ3 H3 X.xe I3 (stat fr3) st3 stop) fun r s4 z9 => ?_)
    obtain ⟨hr, I4⟩ := z9
    subst hr
    exact wpAny_execs_nil ⟨σ3, H3, I4, qn⟩
  · refine wpAny_passesOwn hp (thn (T.item X rfl rfl rfl hc i pins s3 σ3 H3 X.xe I3 (stat fr3) st3 go) fun r s4 z9 => ?_)
    obtain ⟨u, hr, h4⟩ := z9
    subst hr
    refine wpAny_passesOwn hp (thn h4 fun _ s5 z9 => ?_)
    obtain ⟨x, H5, I5, r5, y5, st5, fr5⟩ := z9
    have I5' := I5.pinned (stat fr5) (T.obj _ _ st5)
    refine wpAny_passesOwn hp (thn (hg _ s5 σ3 H5 x u _ I5' r5 (step x H5 y5)) fun _ s6 z9 => ?_)
    obtain ⟨σ6, H6, I6, q6⟩ := z9
    refine wpAny_passesOwn hp (thn (hb _ s6 σ6 H6 _ I6 q6) fun f s7 q7 => ?_)
    have again : ∀ {σ7 : St} {H7 : Hp}, Inv X (pins ++ pinsAt fp s5.heap) σ7 H7 s7 → N σ7 H7 → ∃ m, m < n ∧ ∃ i σ' H', Inv X pins σ' H' s7 ∧ tn i s7.heap ∧ (∀ b ∈ fp, H' b = none) ∧ W i m σ' H' := fun {σ7 H7} I7 n7 => by
      obtain ⟨m', hm, w7⟩ := hN σ7 H7 n7
      refine ⟨m', hm, i + 1, σ7, H7, I7.unpinned, T.keep _ _ _ st5 fun b hb o e => (I7.pin (b, o) (List.mem_append_right _ (List.mem_append_right _ (mem_pinsAt hb e)))).1, fun b hb => ?_, w7⟩
      obtain ⟨o, e, d⟩ := T.obj _ _ st5 b hb
      exact (I7.pin (b, o) (List.mem_append_right _ (List.mem_append_right _ (mem_pinsAt hb e)))).2.1
    cases f with
    | next => obtain ⟨σ7, H7, I7, n7⟩ := q7; exact again I7 n7
    | cont => obtain ⟨σ7, H7, I7, n7⟩ := q7; exact again I7 n7
    | brk => obtain ⟨σ7, H7, I7, q7⟩ := q7; exact ⟨σ7, H7, I7.unpinned, q7⟩
    | ret v => obtain ⟨x7, σ7, H7, I7, r7, q7⟩ := q7; exact ⟨x7, σ7, H7, I7.unpinned, r7, q7⟩
end
end L2
namespace L2
open PySem PySem.Spec PyProof.Rows
noncomputable abbrev R2 := V → V → Hp → VK → Prop
noncomputable def OpR (X : Cx) (f : Value → Value → Sem Value) (r : R2) : Prop :=
  ∀ (pins : List (Addr × Obj)) (s : Shared) (σ : St) (H : Hp) (x y : V) (v u : Value) (Q : VK), Inv X pins σ H s → RelV x v → RelV y u → r x y H Q →
    wpAny (model X.prog X.w) X.A (f v u) (EP X pins σ Q) X.xe s
noncomputable def UnR (X : Cx) (f : Value → Sem Value) (r : V → Hp → VK → Prop) : Prop :=
  ∀ (pins : List (Addr × Obj)) (s : Shared) (σ : St) (H : Hp) (x : V) (v : Value) (Q : VK), Inv X pins σ H s → RelV x v → r x H Q →
    wpAny (model X.prog X.w) X.A (f v) (EP X pins σ Q) X.xe s
noncomputable def CallR (X : Cx) (f : Value) (r : List V → Hp → VK → Prop) : Prop :=
  ∀ (pins : List (Addr × Obj)) (s : Shared) (σ : St) (H : Hp) (xs : List V) (us : List Value) (Q : VK), Inv X pins σ H s → Vals xs us → r xs H Q →
    wpAny (model X.prog X.w) X.A (call f us) (EP X pins σ Q) X.xe s
noncomputable def TruR (X : Cx) (r : V → Hp → (Bool → Hp → Prop) → Prop) : Prop :=
  ∀ (pins : List (Addr × Obj)) (s : Shared) (σ : St) (H : Hp) (x : V) (v : Value) (Q : Bool → Hp → Prop), Inv X pins σ H s → RelV x v → r x H Q →
    wpAny (model X.prog X.w) X.A (truthy v) (TP X pins σ Q) X.xe s
noncomputable def tOp (r : R2) (ta tb : TE) : TE := fun σ H Q => ta σ H fun x H1 => tb σ H1 fun y H2 => r x y H2 Q
noncomputable def tUn (r : V → Hp → VK → Prop) (ta : TE) : TE := fun σ H Q => ta σ H fun x H1 => r x H1 Q
noncomputable def rI (C : Int → Int → Prop) (g : Int → Int → V) : R2 := fun x y H Q => ∃ i j, x = .int i ∧ y = .int j ∧ C i j ∧ Q (g i j) H
noncomputable def rI0 (g : Int → Int → V) : R2 := fun x y H Q => ∃ i j, x = .int i ∧ y = .int j ∧ Q (g i j) H
noncomputable def rU (g : Int → V) : V → Hp → VK → Prop := fun x H Q => ∃ i, x = .int i ∧ Q (g i) H
section
variable {X : Cx} {a b c : Expr} {ta tb tc : TE} {pos : Pos}
theorem binT (ha : PE X a ta) (hb : PE X b tb) {pins : List (Addr × Obj)} {s : Shared} {σ : St} {H : Hp} {R : V → V → Hp → Prop} (I : Inv X pins σ H s)
    (h : ta σ H fun x H1 => tb σ H1 fun y H2 => R x y H2) {Q : Value → Shared → Prop} {f : Value → Value → Sem Value}
    (hf : ∀ v u s2 x y H2, Inv X pins σ H2 s2 → RelV x v → RelV y u → R x y H2 → wpAny (model X.prog X.w) X.A (f v u) Q X.xe s2) :
    wpAny (model X.prog X.w) X.A (eval a X.env) (fun v s₁ => wpAny (model X.prog X.w) X.A (eval b X.env) (fun u s₂ => wpAny (model X.prog X.w) X.A (f v u) Q X.xe s₂) X.xe s₁) X.xe s := by
  refine thn (ha pins s σ H _ I h) fun v s1 z9 => ?_
  obtain ⟨x, H1, I1, r1, q1⟩ := z9
  refine thn (hb pins s1 σ H1 _ I1 q1) fun u s2 z9 => ?_
  obtain ⟨y, H2, I2, r2, q2⟩ := z9
  exact hf v u s2 x y H2 I2 r1 r2 q2
theorem pe_op {op : Operator} {r : R2} (ho : OpR X (binaryOp op) r) (ha : PE X a ta) (hb : PE X b tb) : PE X (.BinOp a op b pos) (tOp r ta tb) := by
  intro pins s σ H Q I h
  exact wpAny_BinOp (binT ha hb I h fun v u s2 x y H2 I2 rx ry q => ho pins s2 σ H2 x y v u Q I2 rx ry q)
theorem pe_un {op : UnaryOp} {r : V → Hp → VK → Prop} (ho : UnR X (unaryOp op) r) (ha : PE X a ta) : PE X (.UnaryOp op a pos) (tUn r ta) := by
  intro pins s σ H Q I h
  exact UnaryOp_ (thn (ha pins s σ H _ I h) fun v s1 ⟨x, H1, I1, r1, q1⟩ => ho pins s1 σ H1 x v Q I1 r1 q1)
theorem opI {f : Value → Value → Sem Value} {C : Int → Int → Prop} {g : Int → Int → Int}
    (rule : ∀ (i j : Int) (t u : Tok) (s : Shared) (Q : Value → Shared → Prop) (E : Value → Shared → Prop), C i j → Q (.int (g i j) s.toks) { s with toks := s.toks + 1 } → wpAny (model X.prog X.w) X.A (f (.int i t) (.int j u)) Q E s) :
    OpR X f (rI C fun i j => .int (g i j)) := by
  intro pins s σ H x y v u Q I rx ry h
  obtain ⟨i, j, rfl, rfl, hc, q⟩ := h
  obtain ⟨t, rfl⟩ := rx
  obtain ⟨t', rfl⟩ := ry
  exact rule i j t t' s _ _ hc ⟨.int (g i j), H, I.tok _, ⟨_, rfl⟩, q⟩
theorem opI0 {f : Value → Value → Sem Value} {g : Int → Int → Int}
    (rule : ∀ (i j : Int) (t u : Tok) (s : Shared) (Q : Value → Shared → Prop) (E : Value → Shared → Prop), Q (.int (g i j) s.toks) { s with toks := s.toks + 1 } → wpAny (model X.prog X.w) X.A (f (.int i t) (.int j u)) Q E s) :
    OpR X f (rI0 fun i j => .int (g i j)) := by
  intro pins s σ H x y v u Q I rx ry h
  obtain ⟨i, j, rfl, rfl, q⟩ := h
  obtain ⟨t, rfl⟩ := rx
  obtain ⟨t', rfl⟩ := ry
  exact rule i j t t' s _ _ ⟨.int (g i j), H, I.tok _, ⟨_, rfl⟩, q⟩
theorem opB0 {f : Value → Value → Sem Value} {g : Int → Int → Bool}
    (rule : ∀ (i j : Int) (t u : Tok) (s : Shared) (Q : Value → Shared → Prop) (E : Value → Shared → Prop), Q (.bool (g i j)) s → wpAny (model X.prog X.w) X.A (f (.int i t) (.int j u)) Q E s) :
    OpR X f (rI0 fun i j => .bl (g i j)) := by
  intro pins s σ H x y v u Q I rx ry h
  obtain ⟨i, j, rfl, rfl, q⟩ := h
  obtain ⟨t, rfl⟩ := rx
  obtain ⟨t', rfl⟩ := ry
  exact rule i j t t' s _ _ ⟨.bl (g i j), H, I, rfl, q⟩
noncomputable def CDiv (i j : Int) : Prop := 0 < j ∧ j < 1073741824
noncomputable def CMul (i j : Int) : Prop := (-(2 ^ 64) < i ∧ i < 2 ^ 64) ∨ (-(2 ^ 64) < j ∧ j < 2 ^ 64)
theorem CMul.ok {i j : Int} (h : CMul i j) : IntMulOk i j := by
  rcases h with ⟨h1, h2⟩ | ⟨h1, h2⟩
  · exact .of_left (intBits_le_64 h1 h2)
  · exact .of_right (intBits_le_64 h1 h2)
theorem op_add : OpR X (binaryOp .Add) (rI0 fun i j => .int (i + j)) := opI0 fun _ _ _ _ _ _ _ q => add_int q
theorem op_sub : OpR X (binaryOp .Sub) (rI0 fun i j => .int (i - j)) := opI0 fun _ _ _ _ _ _ _ q => sub_int q
theorem op_fdiv : OpR X (binaryOp .FloorDiv) (rI CDiv fun i j => .int (i / j)) := opI fun i j _ _ _ _ _ hc q => by
  have h1 : (0 : Int) < j := hc.1
  have h2 : j < 1073741824 := hc.2
  exact floordiv_int (by omega) (by rw [Int.fdiv_eq_ediv_of_nonneg i (by omega)]; exact q) (.inl (PyProof.noPylong_small (by omega)))
theorem op_mod : OpR X (binaryOp .Mod) (rI (fun _ j => 0 < j) fun i j => .int (i % j)) := opI fun i j _ _ _ _ _ hc q => by
  have h1 : (0 : Int) < j := hc
  exact mod_int' (by omega) (by rw [Int.fmod_eq_emod_of_nonneg i (by omega)]; exact q)
theorem unI {f : Value → Sem Value} {g : Int → Int}
    (rule : ∀ (i : Int) (t : Tok) (s : Shared) (Q : Value → Shared → Prop) (E : Value → Shared → Prop), Q (.int (g i) s.toks) { s with toks := s.toks + 1 } → wpAny (model X.prog X.w) X.A (f (.int i t)) Q E s) :
    UnR X f (rU fun i => .int (g i)) := by
  intro pins s σ H x v Q I rx h
  obtain ⟨i, rfl, q⟩ := h
  obtain ⟨t, rfl⟩ := rx
  exact rule i t s _ _ ⟨.int (g i), H, I.tok _, ⟨_, rfl⟩, q⟩
theorem un_neg : UnR X (unaryOp .USub) (rU fun i => .int (-i)) := unI fun _ _ _ _ _ q => neg_int q
end
noncomputable def scal : V → V → Bool
  | .non, .non => true | .non, .int _ => true | .int _, .non => true | .non, .bl _ => true | .bl _, .non => true | .non, .str _ => true | .str _, .non => true
  | .int _, .int _ => true | .bl _, .bl _ => true | .str _, .str _ => true | .byt _, .byt _ => true
  | .int _, .str _ => true | .str _, .int _ => true | .bl _, .str _ => true | .str _, .bl _ => true
  | _, _ => false
noncomputable def rEq : R2 := fun x y H Q => scal x y = true ∧ Q (.bl (decide (x = y))) H
noncomputable def rNe : R2 := fun x y H Q => scal x y = true ∧ Q (.bl (!decide (x = y))) H
theorem dec_int {i j : Int} : decide (V.int i = V.int j) = (i == j) := by
  rw [Bool.eq_iff_iff]
  simp
theorem dec_bl {i j : Bool} : decide (V.bl i = V.bl j) = (i == j) := by
  rw [Bool.eq_iff_iff]
  simp
theorem dec_str {i j : Str} : decide (V.str i = V.str j) = (i == j) := by
  rw [Bool.eq_iff_iff]
  simp
theorem dec_byt {i j : Array UInt8} : decide (V.byt i = V.byt j) = (i.toList == j.toList) := by
  rw [Bool.eq_iff_iff]
  cases i
  cases j
  simp
section
variable {X : Cx} {a b c : Expr} {ta tb tc : TE} {pos : Pos}
theorem fin_bl {pins : List (Addr × Obj)} {σ : St} {H : Hp} {s : Shared} {Q : VK} {k k' : Bool} (I : Inv X pins σ H s) (q : Q (.bl k) H) (e : k = k') : EP X pins σ Q (.bool k') s := by
  subst e
  exact ⟨.bl k, H, I, rfl, q⟩
theorem op_eq : OpR X (compareOp .Eq) rEq := by
  intro pins s σ H x y v u Q I rx ry h
  obtain ⟨hs, q⟩ := h
  cases x with
  | non =>
    cases rx
    cases y with
    | non => cases ry; exact PySem.EqNone.eq_none_none (fin_bl I q (by simp))
    | bl j => cases ry; exact PySem.EqNone.eq_none_bool (fin_bl I q (by simp))
    | int j => obtain ⟨t', rfl⟩ := ry; exact PySem.EqNone.eq_none_int (fin_bl I q (by simp))
    | str j => obtain ⟨t', rfl⟩ := ry; exact PySem.EqNone.eq_none_str (fin_bl I q (by simp))
    | _ => exact absurd (show false = true from hs) Bool.false_ne_true
  | bl i =>
    cases rx
    cases y with
    | non => cases ry; exact PySem.EqNone.eq_bool_none (fin_bl I q (by simp))
    | bl j => cases ry; exact eq_bool (fin_bl I q dec_bl)
    | str j => obtain ⟨t', rfl⟩ := ry; exact PySem.EqMixed.eq_bool_str (fin_bl I q (by simp))
    | _ => exact absurd (show false = true from hs) Bool.false_ne_true
  | int i =>
    obtain ⟨t, rfl⟩ := rx
    cases y with
    | non => cases ry; exact PySem.EqNone.eq_int_none (fin_bl I q (by simp))
    | int j => obtain ⟨t', rfl⟩ := ry; exact eq_int (fin_bl I q dec_int)
    | str j => obtain ⟨t', rfl⟩ := ry; exact PySem.EqMixed.eq_int_str (fin_bl I q (by simp))
    | _ => exact absurd (show false = true from hs) Bool.false_ne_true
  | str i =>
    obtain ⟨t, rfl⟩ := rx
    cases y with
    | non => cases ry; exact PySem.EqNone.eq_str_none (fin_bl I q (by simp))
    | bl j => cases ry; exact PySem.EqMixed.eq_str_bool (fin_bl I q (by simp))
    | int j => obtain ⟨t', rfl⟩ := ry; exact PySem.EqMixed.eq_str_int (fin_bl I q (by simp))
    | str j => obtain ⟨t', rfl⟩ := ry; exact eq_str (fin_bl I q dec_str)
    | _ => exact absurd (show false = true from hs) Bool.false_ne_true
  | byt i =>
    obtain ⟨t, rfl⟩ := rx
    cases y with
    | byt j => obtain ⟨t', rfl⟩ := ry; exact PySem.W.eq_bytes (fin_bl I q dec_byt)
    | _ => exact absurd (show false = true from hs) Bool.false_ne_true
  | _ => cases y <;> exact absurd (show false = true from hs) Bool.false_ne_true
theorem op_ne : OpR X (compareOp .NotEq) rNe := by
  intro pins s σ H x y v u Q I rx ry h
  obtain ⟨hs, q⟩ := h
  cases x with
  | non =>
    cases rx
    cases y with
    | non => cases ry; exact PySem.EqNone.ne_none_none (fin_bl I q (by simp))
    | bl j => cases ry; exact PySem.EqNone.ne_none_bool (fin_bl I q (by simp))
    | int j => obtain ⟨t', rfl⟩ := ry; exact PySem.EqNone.ne_none_int (fin_bl I q (by simp))
    | str j => obtain ⟨t', rfl⟩ := ry; exact PySem.EqNone.ne_none_str (fin_bl I q (by simp))
    | _ => exact absurd (show false = true from hs) Bool.false_ne_true
  | bl i =>
    cases rx
    cases y with
    | non => cases ry; exact PySem.EqNone.ne_bool_none (fin_bl I q (by simp))
    | bl j => cases ry; exact ne_bool (fin_bl I q (congrArg not dec_bl))
    | str j => obtain ⟨t', rfl⟩ := ry; exact PySem.EqMixed.ne_bool_str (fin_bl I q (by simp))
    | _ => exact absurd (show false = true from hs) Bool.false_ne_true
  | int i =>
    obtain ⟨t, rfl⟩ := rx
    cases y with
    | non => cases ry; exact PySem.EqNone.ne_int_none (fin_bl I q (by simp))
    | int j => obtain ⟨t', rfl⟩ := ry; exact ne_int (fin_bl I q (congrArg not dec_int))
    | str j => obtain ⟨t', rfl⟩ := ry; exact PySem.EqMixed.ne_int_str (fin_bl I q (by simp))
    | _ => exact absurd (show false = true from hs) Bool.false_ne_true
  | str i =>
    obtain ⟨t, rfl⟩ := rx
    cases y with
    | non => cases ry; exact PySem.EqNone.ne_str_none (fin_bl I q (by simp))
    | bl j => cases ry; exact PySem.EqMixed.ne_str_bool (fin_bl I q (by simp))
    | int j => obtain ⟨t', rfl⟩ := ry; exact PySem.EqMixed.ne_str_int (fin_bl I q (by simp))
    | str j => obtain ⟨t', rfl⟩ := ry; exact ne_str (fin_bl I q (congrArg not dec_str))
    | _ => exact absurd (show false = true from hs) Bool.false_ne_true
  | byt i =>
    obtain ⟨t, rfl⟩ := rx
    cases y with
    | byt j => obtain ⟨t', rfl⟩ := ry; exact PySem.W.ne_bytes (fin_bl I q (congrArg not dec_byt))
    | _ => exact absurd (show false = true from hs) Bool.false_ne_true
  | _ => cases y <;> exact absurd (show false = true from hs) Bool.false_ne_true
theorem op_lt : OpR X (compareOp .Lt) (rI0 fun i j => .bl (decide (i < j))) := opB0 fun _ _ _ _ _ _ _ q => lt_int q
theorem op_le : OpR X (compareOp .LtE) (rI0 fun i j => .bl (decide (i ≤ j))) := opB0 fun _ _ _ _ _ _ _ q => le_int q
theorem op_gt : OpR X (compareOp .Gt) (rI0 fun i j => .bl (decide (j < i))) := opB0 fun _ _ _ _ _ _ _ q => gt_int q
theorem op_ge : OpR X (compareOp .GtE) (rI0 fun i j => .bl (decide (j ≤ i))) := opB0 fun _ _ _ _ _ _ _ q => ge_int q
theorem op_isN : OpR X (compareOp .Is) (fun x y H Q => y = .non ∧ Q (.bl (decide (x = .non))) H) := by
  intro pins s σ H x y v u Q I rx ry h
  obtain ⟨rfl, q⟩ := h
  cases ry
  refine is_none_gen (fin_bl I q ?_)
  cases x <;> first
    | (cases rx; rfl)
    | (obtain ⟨t, rfl⟩ := rx; rfl)
theorem op_notN : OpR X (compareOp .IsNot) (fun x y H Q => y = .non ∧ Q (.bl (!decide (x = .non))) H) := by
  intro pins s σ H x y v u Q I rx ry h
  obtain ⟨rfl, q⟩ := h
  cases ry
  refine isnot_none_gen (fin_bl I q ?_)
  cases x <;> first
    | (cases rx; rfl)
    | (obtain ⟨t, rfl⟩ := rx; rfl)
theorem OpR.or {f : Value → Value → Sem Value} {r r' : R2} (h : OpR X f r) (h' : OpR X f r') : OpR X f (fun x y H Q => r x y H Q ∨ r' x y H Q) := by
  intro pins s σ H x y v u Q I rx ry q
  rcases q with q | q
  · exact h pins s σ H x y v u Q I rx ry q
  · exact h' pins s σ H x y v u Q I rx ry q
theorem nomark (b : Expr) {op : CmpOp} (h : op ≠ .In := by decide) (h2 : op ≠ .NotIn := by decide) : behindInMarks op b = false := by
  have e1 : (op == CmpOp.In) = false := by cases op <;> first | rfl | exact absurd rfl h
  have e2 : (op == CmpOp.NotIn) = false := by cases op <;> first | rfl | exact absurd rfl h2
  cases b <;> simp [behindInMarks, e1, e2]
theorem pe_cmpR {op : CmpOp} {r : R2} (ho : OpR X (compareOp op) r) (ha : PE X a ta) (hb : PE X b tb) (hm : behindInMarks op b = false) : PE X (.Compare a [op] [b] pos) (tOp r ta tb) := by
  intro pins s σ H Q I h
  exact wpAny_Compare1 (binT ha hb I h fun v u s2 x y H2 I2 rx ry q => ho pins s2 σ H2 x y v u Q I2 rx ry q) hm
noncomputable def tTest (t : TE) : TT := fun σ H Q => t σ H fun x H' => ∃ k, x = .bl k ∧ Q k H'
theorem pt_cmpR {op : CmpOp} {r : R2} (ho : OpR X (compareOp op) r) (ha : PE X a ta) (hb : PE X b tb) (hm : behindInMarks op b = false) : PT X (.Compare a [op] [b] pos) (tTest (tOp r ta tb)) := by
  intro pins s σ H Q I h
  refine wpAny_isTrue_Compare1 (thn (ha pins s σ H _ I h) fun v s1 ⟨x, H1, I1, r1, q1⟩ => thn (hb pins s1 σ H1 _ I1 q1) fun u s2 ⟨y, H2, I2, r2, q2⟩ =>
    thn (ho pins s2 σ H2 x y v u _ I2 r1 r2 q2) fun c s3 ⟨z, H3, I3, r3, k, e, q3⟩ => ?_) hm
  subst e
  cases r3
  exact wpAny_truthy_bool ⟨H3, I3, q3⟩
noncomputable def tChain (r r' : R2) (ta tb tc : TE) : TE := fun σ H Q => ta σ H fun x H1 => tb σ H1 fun y H2 => r x y H2 fun z H3 => ∃ k, z = .bl k ∧
  (if k = true then tc σ H3 fun w' H4 => r' y w' H4 Q else Q (.bl false) H3)
theorem pe_chain {op op' : CmpOp} {r r' : R2} (ho : OpR X (compareOp op) r) (ho' : OpR X (compareOp op') r') (ha : PE X a ta) (hb : PE X b tb) (hc : PE X c tc)
    (hm : lastMarks [op, op'] [b, c] = false := by with_unfolding_all rfl) : PE X (.Compare a [op, op'] [b, c] pos) (tChain r r' ta tb tc) := by
  intro pins s σ H Q I h
  refine Compare_chain (thn (ha pins s σ H _ I h) fun v s1 ⟨x, H1, I1, r1, q1⟩ => chain_link (thn (hb pins s1 σ H1 _ I1 q1) fun u s2 ⟨y, H2, I2, r2, q2⟩ =>
    thn (ho pins s2 σ H2 x y v u _ I2 r1 r2 q2) fun d s3 ⟨z, H3, I3, r3, k, e, q3⟩ => ?_)) hm
  subst e
  cases r3
  refine wpAny_truthy_bool ?_
  cases k with
  | false => exact ite_ff ⟨.bl false, H3, I3, rfl, q3⟩
  | true => exact ite_tt (chain_last (thn (hc pins s3 σ H3 _ I3 q3) fun w' s4 ⟨z', H4, I4, r4, q4⟩ => ho' pins s4 σ H4 y z' u w' Q I4 r2 r4 q4))
noncomputable def TruV (K : PySem.W.Frag) (x : V) (H : Hp) (k : Bool) : Prop :=
  match x with
  | .non => k = false
  | .bl b => k = b
  | .int i => k = (i != 0)
  | .str y => y.length ≤ sizeLine ∧ k = ((y.length : Int) != 0)
  | .byt y => y.size ≤ sizeLine ∧ k = ((y.size : Int) != 0)
  | .ref p => (∃ xs, SqL K H p xs ∧ k = !xs.isEmpty) ∨ (∃ xs, SqT K H p xs ∧ k = !xs.isEmpty) ∨ ∃ kvs, H p = some (.dK kvs) ∧ k = !kvs.isEmpty
  | _ => False
theorem isEmpty_kv {κ : Type} {kvs : List (κ × V)} {vs : List (κ × Value)} (r : KV kvs vs) : (!vs.isEmpty) = !kvs.isEmpty := by
  cases r <;> rfl
theorem isEmpty_of {xs : List V} {its : List Value} (r : Vals xs its) : (!its.toArray.isEmpty) = !xs.isEmpty := by
  cases r <;> simp
theorem line63 : (sizeLine : Nat) < 2 ^ 63 := by rw [sizeLine_eq]; decide
theorem tru_ok : TruR X (fun x H Q => ∃ k, TruV X.K x H k ∧ Q k H) := by
  intro pins s σ H x v Q I rx h
  obtain ⟨k, e, q⟩ := h
  have hl := line63
  have hs : sizeLine = 16777216 := sizeLine_eq
  cases x with
  | non =>
    cases rx
    have e' : k = false := e
    subst e'
    exact truthy_none ⟨H, I, q⟩
  | bl b =>
    cases rx
    have e' : k = b := e
    subst e'
    exact wpAny_truthy_bool ⟨H, I, q⟩
  | int i =>
    obtain ⟨t, rfl⟩ := rx
    have e' : k = (i != 0) := e
    subst e'
    exact PySem.P.truthy_int ⟨H, I, q⟩
  | str y =>
    obtain ⟨t, rfl⟩ := rx
    obtain ⟨hy, e'⟩ : y.length ≤ sizeLine ∧ k = ((y.length : Int) != 0) := e
    subst e'
    exact PySem.P.truthy_str (by omega) ⟨H, I.tok _, q⟩
  | byt y =>
    obtain ⟨t, rfl⟩ := rx
    obtain ⟨hy, e'⟩ : y.size ≤ sizeLine ∧ k = ((y.size : Int) != 0) := e
    subst e'
    exact PySem.W.truthy_bytes (by omega) ⟨H, I.tok _, q⟩
  | ref p =>
    cases rx
    have e' : (∃ xs, SqL X.K H p xs ∧ k = !xs.isEmpty) ∨ (∃ xs, SqT X.K H p xs ∧ k = !xs.isEmpty) ∨ ∃ kvs, H p = some (.dK kvs) ∧ k = !kvs.isEmpty := e
    rcases e' with ⟨xs, hx, e'⟩ | ⟨xs, hx, e'⟩ | ⟨kvs, hx, e'⟩
    · subst e'
      obtain ⟨its, r, pl, hz⟩ := I.list hx
      have hlen := r.length
      exact wpAny_truthy_list pl.isList (by simp only [List.size_toArray]; omega) ⟨H, I.tok _, by rw [isEmpty_of r]; exact q⟩
    · subst e'
      obtain ⟨its, r, pl, hz⟩ := I.tuple hx
      have hlen := r.length
      exact truthy_tuple pl (by simp only [List.size_toArray]; omega) ⟨H, I.tok _, by rw [isEmpty_of r]; exact q⟩
    · subst e'
      obtain ⟨hz, hS, vs, r, m⟩ : kvs.length ≤ sizeLine ∧ (p == sysModules) = false ∧ ∃ vs, KV kvs vs ∧ s.heap.DictOf (mixKind X.prog X.w) p vs := I.hok p _ hx
      have hlen : kvs.length = vs.length := Paired.length r
      exact wpAny_truthy_dict hS m (by omega) ⟨H, I.tok _, by rw [isEmpty_kv r]; exact q⟩
  | _ => exact (show False from e).elim
theorem pt_truth (ha : PE X a ta) (he : ∀ whole, isTrue a X.env whole = (do let v ← whole; standAt a.pos; holding [v] (truthy v))) :
    PT X a (fun σ H Q => ta σ H fun x H' => ∃ k, TruV X.K x H' k ∧ Q k H') := by
  intro pins s σ H Q I h
  exact isTrue_plain (thn (ha pins s σ H _ I h) fun v s1 ⟨x, H1, I1, r1, q1⟩ => tru_ok pins s1 σ H1 x v Q I1 r1 q1) (he _)
theorem op_add_str : OpR X (binaryOp .Add) (fun x y H Q => ∃ i j, x = .str i ∧ y = .str j ∧ i.length + j.length ≤ sizeLine ∧ Q (.str (i ++ j)) H) := by
  intro pins s σ H x y v u Q I rx ry h
  obtain ⟨i, j, rfl, rfl, hz, q⟩ := h
  obtain ⟨t, rfl⟩ := rx
  obtain ⟨t', rfl⟩ := ry
  exact add_str (fun t' tk => ⟨.str (i ++ j), H, I.tok _, ⟨_, rfl⟩, q⟩) hz
theorem vals1 {x : V} {us : List Value} (r : Vals [x] us) : ∃ u, us = [u] ∧ RelV x u := by
  cases r with
  | cons r1 r2 => cases r2; exact ⟨_, rfl, r1⟩
noncomputable def LenV (K : PySem.W.Frag) (x : V) (H : Hp) (n : Nat) : Prop :=
  match x with
  | .str y => y.length ≤ sizeLine ∧ n = y.length
  | .byt y => y.size ≤ sizeLine ∧ n = y.size
  | .ref p => (∃ xs, SqL K H p xs ∧ n = xs.length) ∨ ∃ xs, SqT K H p xs ∧ n = xs.length
  | _ => False
theorem call_len : CallR X (.builtin "len") (fun xs H Q => ∃ x n, xs = [x] ∧ LenV X.K x H n ∧ Q (.int n) H) := by
  intro pins s σ H xs us Q I r h
  obtain ⟨x, n, rfl, e, q⟩ := h
  obtain ⟨u, rfl, rx⟩ := vals1 r
  have hl := line63
  have hs : sizeLine = 16777216 := sizeLine_eq
  cases x with
  | str y =>
    obtain ⟨t, rfl⟩ := rx
    obtain ⟨hy, e'⟩ : y.length ≤ sizeLine ∧ n = y.length := e
    subst e'
    exact len_str (by omega) ⟨.int _, H, I.tok _, ⟨_, rfl⟩, q⟩
  | byt y =>
    obtain ⟨t, rfl⟩ := rx
    obtain ⟨hy, e'⟩ : y.size ≤ sizeLine ∧ n = y.size := e
    subst e'
    exact PySem.W.len_bytes (by omega) ⟨.int _, H, I.tok _, ⟨_, rfl⟩, q⟩
  | ref p =>
    cases rx
    have e' : (∃ xs, SqL X.K H p xs ∧ n = xs.length) ∨ ∃ xs, SqT X.K H p xs ∧ n = xs.length := e
    rcases e' with ⟨xs, hx, e'⟩ | ⟨xs, hx, e'⟩
    · subst e'
      obtain ⟨its, r', pl, hz⟩ := I.list hx
      have hlen := r'.length
      exact Calls.call_len_list pl.isList (by simp only [List.size_toArray]; omega) ⟨.int xs.length, H, I.tok _, ⟨_, by simp only [List.size_toArray]; rw [hlen]⟩, q⟩
    · subst e'
      obtain ⟨its, r', pl, hz⟩ := I.tuple hx
      have hlen := r'.length
      exact len_tuple pl (by simp only [List.size_toArray]; omega) ⟨.int xs.length, H, I.tok _, ⟨_, by simp only [List.size_toArray]; rw [hlen]⟩, q⟩
  | _ => exact (show False from e).elim
end
end L2
namespace L2
open PySem PySem.Spec PyProof.Rows
structure ObjM (h : Heap) (x dx C : Addr) (mA : Str → Option Value) : Prop where
  obj : h.get? x = some (PySem.W.instObj C dx)
  ns : h.Ns1 dx mA
  ne : dx ≠ x
theorem lookIn_ns {h : Heap} {dx : Addr} {mA : Str → Option Value} (n : h.Ns1 dx mA) : ∃ od, h.get? dx = some od ∧ ∀ name, PySem.W.lookIn name od = some (mA name) := by
  obtain ⟨o, es, ep, ho, hd, hk, _, hm⟩ := n
  refine ⟨o, ho, fun name => ?_⟩
  have e := hm name
  unfold nsFind findBy at e
  rw [← Array.find?_toList] at e
  unfold PySem.W.lookIn
  rw [hd]
  dsimp only
  split
  · rename_i y q
    rw [q] at e
    exact congrArg some e
  · rename_i q
    rw [q] at e
    have a : es.toList.any (·.refKey) = false := by
      rw [List.any_eq_false]
      intro y hy
      obtain ⟨z, t, hkey⟩ := hk y (Array.mem_toList_iff.mp hy)
      simp [DictEntry.refKey, hkey]
    have a' : ¬ es.toList.any (·.refKey) = true := by rw [a]; exact Bool.false_ne_true
    rw [if_neg a']
    exact congrArg some e
theorem ObjM.look {h : Heap} {x dx C : Addr} {mA : Str → Option Value} (I : ObjM h x dx C mA) : ∃ od, PySem.W.InstAt h x (PySem.W.instObj C dx) C (some od) ∧ ∀ name, PySem.W.lookIn name od = some (mA name) :=
  let ⟨od, ho, hl⟩ := lookIn_ns I.ns
  ⟨od, ⟨I.obj, rfl, rfl, ho⟩, hl⟩
section
variable {prog : Program} {w : World} {A : Around} {E : Value → Shared → Prop} {s : Shared} {K : PySem.W.Frag} {x dx C f : Addr} {mA : Str → Option Value} {name : Str} {v : Value}
theorem get_map {expr : Bool} {Q : Value → Shared → Prop} (X : K.In s.heap) (I : ObjM s.heap x dx C mA) (hg : PySem.W.plainGet K C name = true) (hh : PySem.W.hasDictIn K C = true)
    (ha : PySem.W.findIn K (.ref C) name = some none) (hv : mA name = some v) (hv' : PySem.W.handedIn v = true) (h : Q v { s with toks := s.toks + 1 }) :
    wpAny (model prog w) A (getAttr (.ref x) name expr) Q E s := by
  obtain ⟨od, J, hl⟩ := I.look
  exact PySem.W.get_value X J (PySem.W.plainGet_of hg).1 (PySem.W.findObj_own hh ha rfl (by rw [hl, hv])) hv' h
theorem get_meth {pl : Sem Bool} {Q : Value × List Value → Shared → Prop} (X : K.In s.heap) (I : ObjM s.heap x dx C mA) (hg : PySem.W.plainGet K C name = true)
    (hf : PySem.W.findIn K (.ref C) name = some (some (.ref f))) (ht : PySem.W.isFn K (.ref f) = true) (hv : mA name = none) (h : Q (.ref f, [.ref x]) s) :
    wpAny (model prog w) A (getMethod (.ref x) name pl) Q E s := by
  obtain ⟨od, J, hl⟩ := I.look
  exact PySem.W.method_fn X J (PySem.W.plainGet_of hg).1 (PySem.W.plainGet_of hg).2 hf (beq_iff_eq.mp ht) (by show (PySem.W.lookIn name od).map (·.isSome) = some false; rw [hl, hv]; rfl) h
theorem set_map {ns : List Str} {Q : Unit → Shared → Prop} (X : K.In s.heap) (I : ObjM s.heap x dx C mA)
    (hs : PySem.W.findIn K (.ref C) "__setattr__" = some (some (.builtin "object.__setattr__"))) (hp : PySem.W.plainOver K C = true) (ht : PySem.W.takerIn K C name = some none) (hh : PySem.W.hasDictIn K C = true)
    (hw : PySem.Within mA ns) (hsz : ns.length ≤ sizeLine)
    (h : ∀ h', ObjM h' x dx C (fun y => if y = name then some v else mA y) → Heap.SameBut dx s.heap h' → Q () { s with heap := h', toks := s.toks + 2 }) :
    wpAny (model prog w) A (setAttr (.ref x) name v) Q E s := by
  obtain ⟨od, J, hl⟩ := I.look
  refine PySem.W.set_plain X J hs (PySem.W.osa_open (s := { s with toks := s.toks + 1 }) (r := none) X J hp ht fun b => ?_)
  obtain ⟨cd, hc, hd'⟩ := PySem.W.any_some hh
  have hx : s.heap.get? x = some ⟨.ref C, some dx, .plain, #[]⟩ := I.obj
  refine wpAny_bind (wpAny_pure (wpAny_bind (wpAny_bind (wpAny_loadPart hx (wpAny_bind (PySem.W.Looks.here (s := { s with toks := s.toks + 1 }) (PySem.W.looks_clsIn X hc) ?_))))))
  rw [hd']
  refine wpAny_pure (a := some dx) (wpAny_bind (wpAny_pure (wpAny_bind ?_)))
  refine wpAny_nsSet1 (s := { s with toks := s.toks + 1 }) I.ns fun h' hn2 hs2 => ?_
  obtain ⟨oD, esD, epD, hoD, hdD, hcD⟩ := hn2.count (PySem.Within.cons name v hw)
  refine wpAny_bind (wpAny_lookBehind hoD (by rw [hdD]; exact pastItsLine_dict (Nat.le_trans hcD (by rw [List.length_cons]; omega))) ?_)
  exact wpAny_pure (h _ ⟨(hs2.2 _ (Ne.symm I.ne)).trans I.obj, hn2, I.ne⟩ hs2)
theorem make_map {R : Result → Shared → Prop} {vs : List Value} {kw : List (Str × Value)} (X : K.In s.heap) (hm : PySem.W.makesIn K C = true)
    (hi : PySem.W.findIn K (.ref C) "__init__" = some (some (.ref f))) (hf : PySem.W.typeIn K (.ref f) = some (.type "function"))
    (h : codeAny (model prog w) (A.under (.builtin "type.__call__" ⟨.ref C :: vs, kw⟩)) (.call (.ref f) ⟨.ref (s.heap.objs.size + 1) :: vs, kw⟩) (PySem.W.InitBack (s.heap.objs.size + 1) R)
      { s with heap := (s.heap.push PySem.W.emptyDict).push (PySem.W.instObj C s.heap.objs.size) }) :
    codeAny (model prog w) A (.call (.ref C) ⟨vs, kw⟩) R s := by
  obtain ⟨hh, g, d, t, os⟩ := s
  exact PySem.W.make_core (PySem.W.makes_of X hm) (PySem.W.looks_findIn X hi) (fun self => PySem.W.bind_fn X self hf) (.inl rfl) h
end
noncomputable def putF (f : Str) (v : V) : List (Str × V) → List (Str × V)
  | [] => [(f, v)]
  | (g, x) :: r => if g = f then (g, v) :: r else (g, x) :: putF f v r
theorem lookup_putF (f g : Str) (v : V) : ∀ fs : List (Str × V), (putF f v fs).lookup g = if g = f then some v else fs.lookup g
  | [] => by
    show List.lookup g [(f, v)] = _
    by_cases h : g = f
    · have hb : (g == f) = true := beq_iff_eq.mpr h
      simp only [List.lookup, hb, if_pos h]
    · have hb : (g == f) = false := beq_eq_false_iff_ne.mpr h
      simp only [List.lookup, hb, if_neg h]
  | (k, x) :: r => by
    have ih := lookup_putF f g v r
    rw [show putF f v ((k, x) :: r) = (if k = f then (k, v) :: r else (k, x) :: putF f v r) from rfl]
    by_cases hk : k = f
    · rw [if_pos hk]
      by_cases h : g = k
      · have hb : (g == k) = true := beq_iff_eq.mpr h
        simp only [List.lookup, hb, if_pos (h.trans hk)]
      · have hb : (g == k) = false := beq_eq_false_iff_ne.mpr h
        simp only [List.lookup, hb, if_neg (fun e : g = f => h (e.trans hk.symm))]
    · rw [if_neg hk]
      by_cases h : g = k
      · have hb : (g == k) = true := beq_iff_eq.mpr h
        simp only [List.lookup, hb, if_neg (fun e : g = f => hk (h.symm.trans e))]
      · have hb : (g == k) = false := beq_eq_false_iff_ne.mpr h
        simp only [List.lookup, hb]
        exact ih
theorem keys_putF (f : Str) (v : V) : ∀ fs : List (Str × V), f ∈ (putF f v fs).map (·.1) ∧ ∀ g, g ∈ fs.map (·.1) → g ∈ (putF f v fs).map (·.1)
  | [] => ⟨by simp [putF], fun g h => by simp at h⟩
  | (k, x) :: r => by
    obtain ⟨i1, i2⟩ := keys_putF f v r
    rw [show putF f v ((k, x) :: r) = (if k = f then (k, v) :: r else (k, x) :: putF f v r) from rfl]
    by_cases hk : k = f
    · rw [if_pos hk]
      subst hk
      exact ⟨by simp, fun g h => by simpa using h⟩
    · rw [if_neg hk]
      refine ⟨?_, fun g h => ?_⟩
      · rw [List.map_cons]
        exact List.mem_cons_of_mem _ i1
      · rw [List.map_cons] at h ⊢
        rcases List.mem_cons.mp h with e | e
        · exact List.mem_cons.mpr (.inl e)
        · exact List.mem_cons_of_mem _ (i2 g e)
theorem length_putF (f : Str) (v : V) : ∀ fs : List (Str × V), (putF f v fs).length ≤ fs.length + 1
  | [] => by simp [putF]
  | (k, x) :: r => by
    have ih := length_putF f v r
    rw [show putF f v ((k, x) :: r) = (if k = f then (k, v) :: r else (k, x) :: putF f v r) from rfl]
    by_cases hk : k = f
    · rw [if_pos hk, List.length_cons, List.length_cons]; omega
    · rw [if_neg hk, List.length_cons, List.length_cons]; omega
theorem RelO.some_of {v : V} {o : Option Value} (r : RelO (some v) o) : ∃ u, o = some u ∧ RelV v u := by
  cases o with
  | none => exact (show False from r).elim
  | some u => exact ⟨u, rfl, r⟩
theorem RelO.none_of {o : Option Value} (r : RelO none o) : o = none := by
  cases o with
  | none => rfl
  | some u => exact (show False from r).elim
theorem handed_of {v : V} {u : Value} (r : RelV v u) : PySem.W.handedIn u = true := by
  cases v with
  | non => cases (show u = Value.none from r); rfl
  | bl b => cases (show u = Value.bool b from r); rfl
  | int i => obtain ⟨t, e⟩ := (show ∃ t, u = Value.int i t from r); cases e; rfl
  | str x => obtain ⟨t, e⟩ := (show ∃ t, u = Value.str x t from r); cases e; rfl
  | byt b => obtain ⟨t, e⟩ := (show ∃ t, u = Value.bytes b t from r); cases e; rfl
  | flt b => obtain ⟨t, e⟩ := (show ∃ t, u = Value.float b t from r); cases e; rfl
  | ref a => cases (show u = Value.ref a from r); rfl
  | ty n => cases (show u = Value.type n from r); rfl
section
variable {P : Program} {w : World} {H H' : Hp} {h h' : Heap} {a C dx : Addr} {fs fs' : List (Str × V)}
theorem ins_get (hok : HOk P w H h) (e : H a = some (.ins C dx fs)) : ∃ mA, ObjM h a dx C mA ∧ (∀ f, RelO (fs.lookup f) (mA f)) ∧ PySem.Within mA (fs.map (·.1)) ∧ fs.length ≤ 1000 ∧ H dx = some (.own a) := by
  obtain ⟨d, z, ne, ob, mA, n, r, q⟩ := (show ObjOk P w H h a (.ins C dx fs) from hok a _ e)
  exact ⟨mA, ⟨ob, n, ne⟩, r, q, z, d⟩
end
structure Cls (K : PySem.W.Frag) (C : Addr) : Prop where
  pg : PySem.W.plainGet K C Str.empty = true
  hd : PySem.W.hasDictIn K C = true
  po : PySem.W.plainOver K C = true
  sa : PySem.W.findIn K (.ref C) "__setattr__" = some (some (.builtin "object.__setattr__"))
theorem Cls.get {K : PySem.W.Frag} {C : Addr} (c : Cls K C) (f : Str) : PySem.W.plainGet K C f = true := c.pg
noncomputable def NoAttr (K : PySem.W.Frag) (C : Addr) (f : Str) : Prop := PySem.W.findIn K (.ref C) f = some none
theorem NoAttr.taker {K : PySem.W.Frag} {C : Addr} {f : Str} (n : NoAttr K C f) : PySem.W.takerIn K C f = some none := by
  unfold PySem.W.takerIn
  rw [show PySem.W.findIn K (.ref C) f = some none from n]
  rfl
structure Meth (K : PySem.W.Frag) (C : Addr) (m : Str) (f : Addr) : Prop where
  at_ : PySem.W.findIn K (.ref C) m = some (some (.ref f))
  fn : PySem.W.isFn K (.ref f) = true
  kp : PySem.W.keepIn K (.ref f) = true
section
variable {X : Cx} {pins : List (Addr × Obj)} {σ : St} {H : Hp} {s : Shared} {a C dx : Addr} {fs : List (Str × V)} {f : Str} {v : V} {A : Around} {E : Value → Shared → Prop}
theorem getattr_ok {b : Bool} {Q : Value → Shared → Prop} (I : Inv X pins σ H s) (e : H a = some (.ins C dx fs)) (c : Cls X.K C) (n : NoAttr X.K C f) (l : fs.lookup f = some v)
    (h : ∀ u s', Inv X pins σ H s' → RelV v u → Q u s') : wpAny (model X.prog X.w) A (getAttr (.ref a) f b) Q E s := by
  obtain ⟨mA, O, r, _, _, _⟩ := ins_get I.hok e
  obtain ⟨u, hu, ru⟩ := RelO.some_of (v := v) (o := mA f) (by rw [← l]; exact r f)
  exact get_map I.kIn O (c.get f) c.hd n hu (handed_of ru) (h u _ (I.tok _) ru)
theorem getmeth_ok {m : Str} {g : Addr} {pl : Sem Bool} {Q : Value × List Value → Shared → Prop} (I : Inv X pins σ H s) (e : H a = some (.ins C dx fs)) (c : Cls X.K C) (k : Meth X.K C m g) (l : fs.lookup m = none)
    (h : Q (.ref g, [.ref a]) s) : wpAny (model X.prog X.w) A (getMethod (.ref a) m pl) Q E s := by
  obtain ⟨mA, O, r, _, _, _⟩ := ins_get I.hok e
  have hn : mA m = none := RelO.none_of (by rw [← l]; exact r m)
  exact get_meth I.kIn O (c.get m) k.at_ k.fn hn h
theorem setattr_ok {y : V} {u : Value} {Q : Unit → Shared → Prop} (I : Inv X pins σ H s) (e : H a = some (.ins C dx fs)) (c : Cls X.K C) (n : NoAttr X.K C f) (hl : fs.length < 1000) (ry : RelV y u)
    (h : ∀ s', Inv X pins σ (upd H a (.ins C dx (putF f y fs))) s' → Q () s') : wpAny (model X.prog X.w) A (setAttr (.ref a) f u) Q E s := by
  obtain ⟨mA, O, r, wi, _, ho⟩ := ins_get I.hok e
  have hz : (fs.map (·.1)).length ≤ sizeLine := by rw [List.length_map, sizeLine_eq]; omega
  refine set_map I.kIn O c.sa c.po n.taker c.hd wi hz fun h' O' sb => h _ ?_
  have hd : ∃ o, h'.get? dx = some o := let ⟨o, _, _, e', _⟩ := O'.ns; ⟨o, e'⟩
  refine I.write (x := a) (e := dx) (by rw [e]; exact True.intro) (.inr ho) (fun b q hb z => (sb.2 b hb).trans z) hd ?_
  refine ⟨by rw [upd_ne O.ne]; exact ho, ?_, O.ne, O'.obj, _, O'.ns, fun g => ?_, fun g hg => ?_⟩
  · have := length_putF f y fs; omega
  · show RelO ((putF f y fs).lookup g) (if g = f then some u else mA g)
    rw [lookup_putF]
    by_cases q : g = f
    · rw [if_pos q, if_pos q]; exact ry
    · rw [if_neg q, if_neg q]; exact r g
  · by_cases q : g = f
    · rw [q]; exact (keys_putF f y fs).1
    · refine (keys_putF f y fs).2 g (wi g fun z => hg ?_)
      show (if g = f then some u else mA g) = none
      rw [if_neg q]; exact z
theorem Inv.made (I : Inv X pins σ H s) : Inv X pins σ (upd (upd H s.heap.objs.size (.own (s.heap.objs.size + 1))) (s.heap.objs.size + 1) (.ins C s.heap.objs.size []))
    { s with heap := (s.heap.push PySem.W.emptyDict).push (PySem.W.instObj C s.heap.objs.size) } := by
  have e1 : (s.heap.push PySem.W.emptyDict).get? s.heap.objs.size = some PySem.W.emptyDict := Heap.get?_push_size s.heap rfl
  have e2 : ((s.heap.push PySem.W.emptyDict).push (PySem.W.instObj C s.heap.objs.size)).get? (s.heap.objs.size + 1) = some (PySem.W.instObj C s.heap.objs.size) := by
    have := Heap.get?_push_size (s.heap.push PySem.W.emptyDict) (o := PySem.W.instObj C s.heap.objs.size) rfl
    rwa [Heap.size_push] at this
  have e3 : (s.heap.push PySem.W.emptyDict).Ns s.heap.objs.size (fun _ => none) := ⟨PySem.W.emptyDict, #[], _, e1, rfl, (fun e he => absurd he (by simp)), fun _ => rfl⟩
  have I1 := I.laid (a := s.heap.objs.size) (o := .own (s.heap.objs.size + 1)) (h' := s.heap.push PySem.W.emptyDict) (t' := s.toks) (fun b u q => Heap.get?_push_of_some _ q) (Nat.le_refl _) ⟨_, e1⟩
  refine I1.laid (a := s.heap.objs.size + 1) (o := .ins C s.heap.objs.size []) (t' := s.toks) (fun b u q => Heap.get?_push_of_some _ q) (Nat.le_of_eq (Heap.size_push _ _)) ?_
  have ne : s.heap.objs.size ≠ s.heap.objs.size + 1 := Nat.ne_of_lt (Nat.lt_succ_self _)
  refine ⟨by rw [upd_ne ne, upd_same], Nat.zero_le _, ne, e2, fun _ => none, (Heap.Ns1.of_empty e3).at fun o q => Heap.get?_push_of_some _ q, fun _ => True.intro, fun y hy => absurd rfl hy⟩
theorem attr_of {prog : Program} {w : World} {env : Env} {e : Expr} {f : Str} {pos : Pos} {s : Shared} {Q : Value → Shared → Prop} (hb : attributeBase e f env (eval e env) = eval e env)
    (h : wpAny (model prog w) A (eval e env) (fun o s₁ => wpAny (model prog w) A (getAttr o f true) Q E s₁) E s) : wpAny (model prog w) A (eval (.Attribute e f pos) env) Q E s :=
  Attribute_any_ h (by rw [arm_eval_Attribute, hb])
end
noncomputable def tFld (K : PySem.W.Frag) (ta : TE) (f : Str) : TE := fun σ H Q => ta σ H fun x H1 => ∃ a C dx fs v, x = .ref a ∧ H1 a = some (.ins C dx fs) ∧ Cls K C ∧ NoAttr K C f ∧ fs.lookup f = some v ∧ Q v H1
noncomputable def sFld (K : PySem.W.Frag) (ta tv : TE) (f : Str) : TS := fun D σ H => tv σ H fun y H1 => ta σ H1 fun x H2 => ∃ a C dx fs, x = .ref a ∧ H2 a = some (.ins C dx fs) ∧ Cls K C ∧ NoAttr K C f ∧ fs.length < 1000 ∧
  D.nx σ (upd H2 a (.ins C dx (putF f y fs)))
noncomputable def InOp (X : Cx) (op : Operator) (rd : V → V → Hp → VK → Prop) : Prop :=
  ∀ (pins : List (Addr × Obj)) (s : Shared) (σ : St) (H : Hp) (x y : V) (u v : Value) (Q : VK), Inv X pins σ H s → RelV x u → RelV y v → rd x y H Q → wpAny (model X.prog X.w) X.A (inplaceOp op u v) (EP X pins σ Q) X.xe s
section
variable {X : Cx} {o e value : Expr} {f : Str} {pos pos' tpos : Pos} {ta tv : TE}
theorem pe_fld (he : PE X e ta) (hb : attributeBase e f X.env (eval e X.env) = eval e X.env) : PE X (.Attribute e f pos) (tFld X.K ta f) := by
  intro pins s σ H Q I h
  refine attr_of hb (thn (he pins s σ H _ I h) fun u s1 z9 => ?_)
  obtain ⟨x, H1, I1, rx, a, C, dx, fs, v, ex, ea, c, n, l, q⟩ := z9
  subst ex
  obtain rfl : u = Value.ref a := rx
  exact getattr_ok I1 ea c n l fun u' s2 I2 ru => ⟨v, H1, I2, ru, q⟩
theorem ps_fld (ha : PE X o ta) (hv : PE X value tv) (hs : swapsWith value (some (.Attribute o f pos')) pos.line X.env = pure false) : PS X (.Assign [.Attribute o f pos'] value pos) (sFld X.K ta tv f) := by
  intro pins s σ H D I h
  refine plainObj_wpAny_Assign_Attribute (thn (hv pins s σ H _ I h) fun u s1 ⟨y, H1, I1, ry, q⟩ => thn (ha pins s1 σ H1 _ I1 q) fun ov s2 z9 => ?_) hs
  obtain ⟨x, H2, I2, rx, a, C, dx, fs, ex, ea, c, n, l, q2⟩ := z9
  subst ex
  obtain rfl : ov = Value.ref a := rx
  exact setattr_ok I2 ea c n l ry fun s3 I3 => ⟨σ, _, I3, q2⟩
end
section
variable {X : Cx} {pins : List (Addr × Obj)} {σ : St} {H : Hp} {s : Shared} {A : Around} {E : Value → Shared → Prop} {Q : Value → Shared → Prop} {c : Value} {b : Bool}
inductive TyOf (K : PySem.W.Frag) (H : Hp) : V → Value → Prop where
  | non : TyOf K H .non (.type "NoneType")
  | bl (x : Bool) : TyOf K H (.bl x) (.type "bool")
  | int (i : Int) : TyOf K H (.int i) (.type "int")
  | str (x : Str) : TyOf K H (.str x) (.type "str")
  | flt (x : UInt64) : TyOf K H (.flt x) (.type "float")
  | lst {a : Addr} {xs : List V} (e : H a = some (.lst xs)) : TyOf K H (.ref a) (.type "list")
  | frz {a : Addr} {o : Obj} {xs : List V} (e : H a = some (.frz o (.lst xs))) : TyOf K H (.ref a) (.type "list")
  | tup {a : Addr} {xs : List V} (e : H a = some (.tup xs)) : TyOf K H (.ref a) (.type "tuple")
  | dK {a : Addr} {kvs : List (Key × V)} (e : H a = some (.dK kvs)) : TyOf K H (.ref a) (.type "dict")
  | dT {a : Addr} {kvs : List (List Key × V)} (e : H a = some (.dT kvs)) : TyOf K H (.ref a) (.type "dict")
  | ins {a C dx : Addr} {fs : List (Str × V)} (e : H a = some (.ins C dx fs)) (cl : Cls K C) (ha : PySem.W.findIn K (.ref C) "__class__" = some (some (.builtin "object.__class__")))
      (hn : PySem.W.specialIn K (.builtin "object.__class__") "__get__" = some (some (.builtin "getset_descriptor.__get__"))) (htk : PySem.W.takesIn K (.builtin "object.__class__") = some true)
      (hm : PySem.W.mroIn K C (.type "object") = some true) : TyOf K H (.ref a) (.ref C)
theorem isinst_ok {x : V} {u t : Value} (I : Inv X pins σ H s) (rx : RelV x u) (ty : TyOf X.K H x t) (e : PySem.W.kitOne X.K t c = some b) (h : ∀ tk, Q (.bool b) { s with toks := tk }) :
    wpAny (model X.prog X.w) A (call (.builtin "isinstance") [u, c]) Q E s := by
  cases ty with
  | non => cases (show u = Value.none from rx); exact PySem.W.kia_one PySem.W.kitx_none I.kIn True.intro e (fun z => nomatch z) h
  | bl y => cases (show u = Value.bool y from rx); exact PySem.W.kia_one PySem.W.kitx_bool I.kIn True.intro e (fun z => nomatch z) h
  | int i => obtain ⟨t, q⟩ := (show ∃ t, u = Value.int i t from rx); cases q; exact PySem.W.kia_one PySem.W.kitx_int I.kIn True.intro e (fun z => nomatch z) h
  | str y => obtain ⟨t, q⟩ := (show ∃ t, u = Value.str y t from rx); cases q; exact PySem.W.kia_one PySem.W.kitx_str I.kIn True.intro e (fun z => nomatch z) h
  | flt y => obtain ⟨t, q⟩ := (show ∃ t, u = Value.float y t from rx); cases q; exact PySem.W.kia_one PySem.W.kitx_float I.kIn True.intro e (fun z => nomatch z) h
  | @lst a xs ea =>
    cases (show u = Value.ref a from rx)
    obtain ⟨_, _, n, _, h1⟩ := (show ObjOk X.prog X.w H s.heap a (.lst xs) from I.hok a _ ea)
    exact PySem.W.kia_one PySem.W.kitx_list I.kIn ⟨_, h1, rfl⟩ e (fun z => nomatch z) h
  | @frz a ob xs ea =>
    cases (show u = Value.ref a from rx)
    obtain ⟨_, _, _, n, _, h1⟩ := (show ObjOk X.prog X.w H s.heap a (.frz ob (.lst xs)) from I.hok a _ ea)
    exact PySem.W.kia_one PySem.W.kitx_list I.kIn ⟨_, h1, rfl⟩ e (fun z => nomatch z) h
  | @tup a xs ea =>
    cases (show u = Value.ref a from rx)
    obtain ⟨_, _, _, p⟩ := (show ObjOk X.prog X.w H s.heap a (.tup xs) from I.hok a _ ea)
    obtain ⟨o, h1, h2, _⟩ := p
    exact PySem.W.kia_one PySem.W.kitx_tuple I.kIn ⟨o, h1, h2⟩ e (fun z => nomatch z) h
  | @dK a kvs ea =>
    cases (show u = Value.ref a from rx)
    obtain ⟨_, _, vs, _, p⟩ := (show ObjOk X.prog X.w H s.heap a (.dK kvs) from I.hok a _ ea)
    obtain ⟨o, es, ep, h1, h2, _⟩ := p
    exact PySem.W.kia_one PySem.W.kitx_dict I.kIn ⟨o, h1, h2.1⟩ e (fun z => nomatch z) h
  | @dT a kvs ea =>
    cases (show u = Value.ref a from rx)
    obtain ⟨_, _, xs, _, o, es, ep, h1, h2, _⟩ := (show ObjOk X.prog X.w H s.heap a (.dT kvs) from I.hok a _ ea)
    exact PySem.W.kia_one PySem.W.kitx_dict I.kIn ⟨o, h1, h2.1⟩ e (fun z => nomatch z) h
  | @ins a C dx fs ea cl ha hn htk hm =>
    cases (show u = Value.ref a from rx)
    obtain ⟨mA, O, _⟩ := ins_get I.hok ea
    obtain ⟨od, J, _⟩ := O.look
    exact PySem.W.kia_one (PySem.W.kitx_own (cl.get _) cl.hd ha hn htk hm) I.kIn J e (fun z => nomatch z) h
end
end L2
namespace L2
open PySem PySem.Spec PyProof.Rows
structure Room (k : Nat) (A : Around) : Prop where
  hd : A.handled = none
  dp : A.depth + 3 * k + 5 < recursionLimit
  un : A.units + 16 * k + 200 < cLine
  gd : A.guards = some []
theorem Room.mono {j k : Nat} {A : Around} (r : Room k A) (h : j ≤ k) : Room j A := ⟨r.hd, by have := r.dp; omega, by have := r.un; omega, r.gd⟩
theorem Room.deeper {k : Nat} {A : Around} (r : Room (k + 1) A) (env : Env) : Room k (A.deeper env) :=
  ⟨r.hd, by have := r.dp; show A.depth + 1 + 3 * k + 5 < _; omega, by have := r.un; show A.units + 3 + 16 * k + 200 < _; omega, r.gd⟩
theorem make_depth {A : Around} {C : Addr} {us : List Value} {kw : List (Str × Value)} : (A.under (.builtin "type.__call__" ⟨.ref C :: us, kw⟩)).depth = A.depth + 1 := by
  first | rfl | simp [Around.under, Code.weight, Code.isCreation, Code.isGuard, Code.isCaller, Code.frames, Code.isFrame, guardIds]
theorem make_units {A : Around} {C : Addr} {us : List Value} {kw : List (Str × Value)} : (A.under (.builtin "type.__call__" ⟨.ref C :: us, kw⟩)).units = A.units + 1 := by
  first | rfl | simp [Around.under, Code.cUnits, Code.frames, Code.isFrame]
theorem Room.make {k : Nat} {A : Around} (r : Room (k + 1) A) (C : Addr) (us : List Value) (kw : List (Str × Value)) : Room k (A.under (.builtin "type.__call__" ⟨.ref C :: us, kw⟩)) :=
  ⟨r.hd, by have := r.dp; rw [make_depth]; omega, by have := r.un; rw [make_units]; omega, by first | exact r.gd | simpa [Around.under, Code.isGuard, Code.isFrame, guardIds] using r.gd⟩
theorem Room.depth {k : Nat} {A : Around} (r : Room k A) : A.depth < recursionLimit := by have := r.dp; omega
theorem Room.units {k : Nat} {A : Around} (r : Room k A) : A.units + 64 < cLine := by have := r.un; omega
noncomputable def tNil : TA := fun _ H Q => Q [] H
noncomputable def tCons (ta : TE) (tr : TA) : TA := fun σ H Q => ta σ H fun x H1 => tr σ H1 fun xs H2 => Q (x :: xs) H2
section
variable {X : Cx} {e : Expr} {es : List Expr} {te : TE} {t : TA} {pos : Pos}
theorem pa_nil : PA X [] tNil := fun _ _ _ _ H Q I h => Calls.spliced_nil ⟨[], H, I, .nil, h⟩
theorem pa_cons (ha : PE X e te) (hr : PA X es t) (hs : starEach (e :: es) X.env = (false, eval e X.env) :: starEach es X.env := by rfl) : PA X (e :: es) (tCons te t) := by
  intro pos pins s σ H Q I h
  rw [hs]
  show wpAny _ _ (spliced ((false, eval e X.env) :: backTo pos (starEach es X.env))) _ _ s
  refine Calls.spliced_cons (thn (ha pins s σ H _ I h) fun u s1 z9 => ?_)
  obtain ⟨x, H1, I1, r1, q1⟩ := z9
  exact thn (hr pos pins s1 σ H1 _ I1 q1) fun us s2 ⟨xs, H2, I2, r2, q2⟩ => ⟨x :: xs, H2, I2, .cons r1 r2, q2⟩
noncomputable def tTup (t : TA) : TE := fun σ H Q => t σ H fun xs H1 => xs.length ≤ sizeLine ∧ ∀ p, H1 p = none → Q (.ref p) (upd H1 p (.tup xs))
noncomputable def tLst (t : TA) : TE := fun σ H Q => t σ H fun xs H1 => xs.length ≤ sizeLine ∧ ∀ p, H1 p = none → Q (.ref p) (upd H1 p (.lst xs))
theorem pe_tup {x1} (h : PA X es t) : PE X (.Tuple es x1 pos) (tTup t) := by
  intro pins s σ H Q I hq
  refine wpAny_Tuple_spliced (thn (h pos pins s σ H _ I hq) fun us s1 ⟨xs, H1, I1, r, z, q⟩ => ⟨by rw [← r.length]; exact z, ?_⟩)
  have hf : H1 s1.heap.objs.size = none := I1.hok.fresh (Nat.le_refl _)
  refine ⟨.ref s1.heap.objs.size, upd H1 s1.heap.objs.size (.tup xs), I1.laid (t' := s1.toks) (fun b u e => Heap.get?_push_of_some _ e) (Nat.le_refl _) ?_, rfl, q _ hf⟩
  exact ⟨z, us, r, ⟨_, Heap.get?_push_size _ rfl, rfl, _, rfl⟩⟩
theorem pe_lst (h : PA X es t) : PE X (.List es pos) (tLst t) := by
  intro pins s σ H Q I hq
  refine wpAny_List_spliced (thn (h pos pins s σ H _ I hq) fun us s1 ⟨xs, H1, I1, r, z, q⟩ => ⟨by rw [← r.length]; exact z, ?_⟩)
  have hf : H1 s1.heap.objs.size = none := I1.hok.fresh (Nat.le_refl _)
  refine ⟨.ref s1.heap.objs.size, upd H1 s1.heap.objs.size (.lst xs), I1.laid (t' := s1.toks) (fun b u e => Heap.get?_push_of_some _ e) (Nat.le_refl _) ?_, rfl, q _ hf⟩
  exact ⟨z, us, 0, r, Heap.get?_push_size _ rfl⟩
end
noncomputable abbrev Sp := List V → Hp → VK → XK → Prop
noncomputable abbrev CXT := List Env → Hp → Shared → XK → Value → Shared → Prop
structure Env0 (P : Program) (w : World) (K : PySem.W.Frag) (mg : Str → Option Value) (base : Heap) (A : Around) (outer : List Env) (s : Shared) (H : Hp) : Prop where
  frames : A.frames = some outer
  mod : Mod K mg base
  bs : ∀ b o, base.get? b = some o → s.heap.get? b = some o ∧ H b = none
  bsz : base.objs.size ≤ s.heap.objs.size
  funs : s.heap.FunFrames base outer
  frf : ∀ b ∈ frs outer, H b = none
  hok : HOk P w H s.heap
  bare : AllBare s.gens
noncomputable def CE (outer : List Env) (P : Program) (w : World) (H : Hp) (s : Shared) (Q : VK) (u : Value) (s' : Shared) : Prop :=
  ∃ v H', s'.os = s.os ∧ AllBare s'.gens ∧ Un (frs outer) [] H H' s.heap s'.heap ∧ HOk P w H' s'.heap ∧ RelV v u ∧ Q v H'
noncomputable def CR (CX : CXT) (outer : List Env) (P : Program) (w : World) (H : Hp) (s : Shared) (Q : VK) (E : XK) (r : Result) (s' : Shared) : Prop :=
  match r with
  | .ok (.ret u) => CE outer P w H s Q u s'
  | .ok _ => False
  | .error e => CX outer H s E e s'
structure FnOk (P : Program) (w : World) (K : PySem.W.Frag) (mg : Str → Option Value) (base : Heap) (CX : CXT) (k : Nat) (f : Addr) (fd : FuncData) (ps : List Str) (sp : Sp) : Prop where
  len : ∀ vs H Q E, sp vs H Q E → vs.length = ps.length
  run : ∀ (A : Around) (outer : List Env) (s : Shared) (H : Hp) (args : Args) (us : List Value) (vs : List V) (Q : VK) (E : XK), Room k A → Env0 P w K mg base A outer s H → BindsTo s fd args (ps.zip us) → Vals vs us → sp vs H Q E →
    codeAny (model P w) A (.call (.ref f) args) (CR CX outer P w H s Q E) s
theorem FnOk.mono {P : Program} {w : World} {K : PySem.W.Frag} {mg : Str → Option Value} {base : Heap} {CX : CXT} {j k : Nat} {f : Addr} {fd : FuncData} {ps : List Str} {sp : Sp} (F : FnOk P w K mg base CX j f fd ps sp) (h : j ≤ k) :
    FnOk P w K mg base CX k f fd ps sp := ⟨F.len, fun A outer s H args us vs Q E hr => F.run A outer s H args us vs Q E (hr.mono h)⟩
theorem Env0.make {P : Program} {w : World} {K : PySem.W.Frag} {mg : Str → Option Value} {base : Heap} {A : Around} {outer : List Env} {s : Shared} {H : Hp} (e : Env0 P w K mg base A outer s H) (C : Addr) (us : List Value) (kw : List (Str × Value)) :
    Env0 P w K mg base (A.under (.builtin "type.__call__" ⟨.ref C :: us, kw⟩)) outer s H := ⟨by first | exact e.frames | (simpa [Around.under, Code.envs, Code.isFrame, pushEnvs] using e.frames), e.mod, e.bs, e.bsz, e.funs, e.frf, e.hok, e.bare⟩
section
variable {X : Cx} {pins : List (Addr × Obj)} {σ : St} {H : Hp} {s s' : Shared}
theorem Inv.env0 (I : Inv X pins σ H s) : Env0 X.prog X.w X.K X.mg X.base X.A X.stack s H :=
  ⟨I.ok.frames, I.ok.mod, I.bs, Nat.le_trans I.ok.bsz I.sz, I.stack, I.stkFree, I.hok, I.bare⟩
theorem Inv.after {Q : VK} {u : Value} (I : Inv X pins σ H s) (h : CE X.stack X.prog X.w H s Q u s') : EP X pins σ Q u s' := by
  obtain ⟨v, H', os, bare, un, hok, r, q⟩ := h
  obtain ⟨hh, g, d, t, os'⟩ := s'
  obtain rfl : os' = s.os := os
  exact ⟨v, H', I.call (h' := hh) (g' := g) (d' := d) (t' := t) (ch := []) un hok bare (fun b z => absurd z (by simp)), r, q⟩
end
noncomputable def tCall (sp : Sp) (dvs : List V) (E : XK) (t : TA) : TE := fun σ H Q => t σ H fun vs H1 => sp (vs ++ dvs) H1 Q E
noncomputable def tMeth (C : Addr) (m : Str) (sp : Sp) (dvs : List V) (E : XK) (ta : TE) (t : TA) : TE := fun σ H Q => ta σ H fun x H1 => ∃ a dx fs, x = .ref a ∧ H1 a = some (.ins C dx fs) ∧ fs.lookup m = none ∧
  t σ H1 fun vs H2 => sp (x :: (vs ++ dvs)) H2 Q E
noncomputable def tMake (C : Addr) (sp : Sp) (dvs : List V) (E : XK) (t : TA) : TE := fun σ H Q => t σ H fun vs H1 => ∀ x dx, H1 x = none → H1 dx = none → dx ≠ x →
  sp (.ref x :: (vs ++ dvs)) (upd (upd H1 dx (.own x)) x (.ins C dx [])) (fun v H2 => v = .non ∧ Q (.ref x) H2) E
noncomputable def Binds (K : PySem.W.Frag) (fd : FuncData) (ps : List Str) (ds : List Value) : Prop :=
  ∀ (s : Shared) (us : List Value), K.In s.heap → (us ++ ds).length = ps.length → BindsTo s fd ⟨us, []⟩ (ps.zip (us ++ ds))
theorem Binds.all {K : PySem.W.Frag} {fd : FuncData} {ps : List Str} (h : ∀ us : List Value, us.length = ps.length → bindArgs fd ⟨us, []⟩ = pure (ps.zip us)) : Binds K fd ps [] := fun s us _ hl => by
  rw [List.append_nil] at hl ⊢
  exact .of_eq (h us hl)
noncomputable def Passes (CX : CXT) (X : Cx) (E : XK) : Prop := ∀ (pins : List (Addr × Obj)) (σ : St) (H : Hp) (s : Shared) (e : Value) (s' : Shared), Inv X pins σ H s → CX X.stack H s E e s' → X.xe e s'
section
variable {X : Cx} {CX : CXT} {k : Nat} {f C : Addr} {fd : FuncData} {ps : List Str} {sp : Sp} {dvs : List V} {ds : List Value} {E : XK} {x m : Str} {p pos apos : Pos} {e o : Expr} {es : List Expr} {ta : TE} {t : TA}
theorem run_fn {pins : List (Addr × Obj)} {σ : St} {H : Hp} {s : Shared} {Q : VK} {us : List Value} {vs : List V} (F : FnOk X.prog X.w X.K X.mg X.base CX k f fd ps sp) (hr : Room k X.A) (hb : Binds X.K fd ps ds) (hd : Vals dvs ds) (hx : Passes CX X E)
    (I : Inv X pins σ H s) (r : Vals vs us) (h : sp (vs ++ dvs) H Q E) : wpAny (model X.prog X.w) X.A (call (.ref f) us) (EP X pins σ Q) X.xe s := by
  have r2 : Vals (vs ++ dvs) (us ++ ds) := r.append hd
  have hl : (us ++ ds).length = ps.length := by rw [← r2.length]; exact F.len _ _ _ _ h
  refine wpAny_call (codeAny_mono (F.run X.A X.stack s H ⟨us, []⟩ (us ++ ds) (vs ++ dvs) Q E hr I.env0 (hb s us I.kIn hl) r2 h) fun r s' hq => ?_)
  cases r with
  | error e => exact hx pins σ H s e s' I hq
  | ok fl =>
    cases fl with
    | ret u => exact I.after hq
    | next => exact False.elim hq
    | brk => exact False.elim hq
    | cont => exact False.elim hq
theorem pe_call (F : FnOk X.prog X.w X.K X.mg X.base CX k f fd ps sp) (hr : Room k X.A) (hg : Gl X x) (hm : X.mg x = some (.ref f)) (hk : PySem.W.keepIn X.K (.ref f) = true) (hb : Binds X.K fd ps ds) (hd : Vals dvs ds) (hx : Passes CX X E)
    (ha : PA X (e :: es) t) (hdb : (x == ("__debug__" : Str)) = false := by decide) (he : starEach (e :: es) X.env = (false, eval e X.env) :: starEach es X.env := by rfl) (hpl : (backTo pos (starEach es X.env)).any (·.1) = false := by rfl) :
    PE X (.Call (.Name x p) (e :: es) [] pos) (tCall sp dvs E t) := by
  intro pins s σ H Q I h
  refine wpAny_Call_Name_kw (ld_glob I hg hm ?_ hdb)
  refine PySem.W.callWith_K (h₀ := X.base) I.ok.mod.kin hk (thn (ha pos pins s σ H _ I h) fun us s1 ⟨vs, H1, I1, r, q⟩ => ⟨I1.kIn, ?_⟩) he hpl
  exact run_fn F hr hb hd hx I1 r q
theorem pe_meth {pl : Sem Bool} (he : PE X o ta) (c : Cls X.K C) (hm : Meth X.K C m f) (F : FnOk X.prog X.w X.K X.mg X.base CX k f fd ps sp) (hr : Room k X.A) (hb : Binds X.K fd ps ds) (hd : Vals dvs ds) (hx : Passes CX X E) (ha : PA X (e :: es) t)
    (hst : starEach (e :: es) X.env = (false, eval e X.env) :: starEach es X.env := by rfl) (hpl : (backTo pos (starEach es X.env)).any (·.1) = false := by rfl)
    (ht : eval (.Call (.Attribute o m apos) (e :: es) [] pos) X.env = (do
      let ov ← eval o X.env
      standAt apos.atName
      let (f, first) ← holding [ov] (getMethod ov m pl)
      callWith pos f first (backTo pos (starEach (e :: es) X.env)) (backToKw pos (keywordEach [] X.env))) := by rfl) :
    PE X (.Call (.Attribute o m apos) (e :: es) [] pos) (tMeth C m sp dvs E ta t) := by
  intro pins s σ H Q I h
  refine PySem.W.methodCall_KW (pl := pl) (thn (he pins s σ H _ I h) fun u s1 z9 => ?_) ht
  obtain ⟨x, H1, I1, rx, a, dx, fs, ex, ea, l, q⟩ := z9
  subst ex
  obtain rfl : u = Value.ref a := rx
  refine getmeth_ok I1 ea c hm l ?_
  refine PySem.W.callWith_K (first := [.ref a]) (h₀ := X.base) I.ok.mod.kin hm.kp (thn (ha pos pins s1 σ H1 _ I1 q) fun us s2 ⟨vs, H2, I2, r, q2⟩ => ⟨I2.kIn, ?_⟩) hst hpl
  exact run_fn (us := .ref a :: us) (vs := .ref a :: vs) F hr hb hd hx I2 (.cons rfl r) q2
structure Mk (K : PySem.W.Frag) (C f : Addr) : Prop where
  makes : PySem.W.makesIn K C = true
  init : PySem.W.findIn K (.ref C) "__init__" = some (some (.ref f))
  fn : PySem.W.isFn K (.ref f) = true
  kp : PySem.W.keepIn K (.ref C) = true
theorem run_make {pins : List (Addr × Obj)} {σ : St} {H : Hp} {s : Shared} {Q : VK} {us : List Value} {vs : List V} (M : Mk X.K C f) (F : FnOk X.prog X.w X.K X.mg X.base CX k f fd ps sp) (hr : Room (k + 1) X.A) (hb : Binds X.K fd ps ds) (hd : Vals dvs ds)
    (hx : Passes CX X E) (I : Inv X pins σ H s) (r : Vals vs us)
    (h : ∀ x dx, H x = none → H dx = none → dx ≠ x → sp (.ref x :: (vs ++ dvs)) (upd (upd H dx (.own x)) x (.ins C dx [])) (fun v H2 => v = .non ∧ Q (.ref x) H2) E) :
    wpAny (model X.prog X.w) X.A (call (.ref C) us) (EP X pins σ Q) X.xe s := by
  have hq := h (s.heap.objs.size + 1) s.heap.objs.size (I.hok.fresh (Nat.le_succ _)) (I.hok.fresh (Nat.le_refl _)) (Nat.ne_of_lt (Nat.lt_succ_self _))
  have I2 := Inv.made (C := C) I
  have r2 : Vals (V.ref (s.heap.objs.size + 1) :: (vs ++ dvs)) (Value.ref (s.heap.objs.size + 1) :: (us ++ ds)) := .cons rfl (r.append hd)
  have hl : (Value.ref (s.heap.objs.size + 1) :: us ++ ds).length = ps.length := by
    have e := r2.length
    rw [F.len _ _ _ _ hq] at e
    exact e.symm
  refine wpAny_call (make_map (f := f) I.kIn M.makes M.init (beq_iff_eq.mp M.fn) (codeAny_mono (F.run _ X.stack _ _ ⟨Value.ref (s.heap.objs.size + 1) :: us, []⟩ (Value.ref (s.heap.objs.size + 1) :: (us ++ ds)) _ _ E (hr.make C us [])
    (I2.env0.make C us []) (hb _ (Value.ref (s.heap.objs.size + 1) :: us) I2.kIn hl) r2 hq) fun r s' hq' => ?_))
  cases r with
  | error e => exact hx pins σ _ _ e s' I2 hq'
  | ok fl =>
    cases fl with
    | ret u =>
      obtain ⟨v, H', I3, rv, ev, q3⟩ := I2.after hq'
      subst ev
      exact ⟨rv, ⟨V.ref (s.heap.objs.size + 1), H', I3, rfl, q3⟩⟩
    | next => exact False.elim hq'
    | brk => exact False.elim hq'
    | cont => exact False.elim hq'
theorem pe_make (M : Mk X.K C f) (F : FnOk X.prog X.w X.K X.mg X.base CX k f fd ps sp) (hr : Room (k + 1) X.A) (hg : Gl X x) (hm : X.mg x = some (.ref C)) (hb : Binds X.K fd ps ds) (hd : Vals dvs ds) (hx : Passes CX X E)
    (ha : PA X (e :: es) t) (hdb : (x == ("__debug__" : Str)) = false := by decide) (he : starEach (e :: es) X.env = (false, eval e X.env) :: starEach es X.env := by rfl) (hpl : (backTo pos (starEach es X.env)).any (·.1) = false := by rfl) :
    PE X (.Call (.Name x p) (e :: es) [] pos) (tMake C sp dvs E t) := by
  intro pins s σ H Q I h
  refine wpAny_Call_Name_kw (ld_glob I hg hm ?_ hdb)
  refine PySem.W.callWith_K (h₀ := X.base) I.ok.mod.kin M.kp (thn (ha pos pins s σ H _ I h) fun us s1 ⟨vs, H1, I1, r, q⟩ => ⟨I1.kIn, ?_⟩) he hpl
  exact run_make M F hr hb hd hx I1 r q
end
section
variable {X : Cx} {CX : CXT} {k : Nat} {f C : Addr} {fd : FuncData} {ps ks : List Str} {sp : Sp} {E : XK} {x m : Str} {p pos apos kpos : Pos} {e o : Expr} {es : List Expr} {kws : List Keyword} {te ta : TE} {t tk : TA} {nm : Option Str}
variable {g : List Value → List Value → List Value} {gV : List V → List V → List V}
end
structure FnScope (N P : List Str) (sc : Scope) : Prop where
  kind : sc.kind = .function
  co : sc.isCoroutine = false
  gen : sc.isGenerator = false
  nd : N.Nodup
  pre : N.take P.length = P
  par : ∀ x ∈ P, sc.names.lookup x = some .local ∨ sc.names.lookup x = some .cell
  nofree : ∀ y ∈ sc.names, y.2 ≠ .free
theorem bindL_out {kindOf : Str → Option NameKind} {x : Str} : ∀ {binds : List (Str × Value)} {m : Str → Option Value}, (∀ v, (x, v) ∉ binds) → bindL kindOf binds m x = m x
  | [], _, _ => rfl
  | (n, v) :: r, m, h => by
    unfold bindL
    rw [bindL_out fun w hw => h w (List.mem_cons_of_mem _ hw)]
    split
    · have : x ≠ n := by rintro rfl; exact h v List.mem_cons_self
      simp [this]
    · rfl
theorem bindC_out {kindOf : Str → Option NameKind} {x : Str} : ∀ {binds : List (Str × Value)} {m : Str → Option Value}, (∀ v, (x, v) ∉ binds) → bindC kindOf binds m x = m x
  | [], _, _ => rfl
  | (n, v) :: r, m, h => by
    unfold bindC
    rw [bindC_out fun w hw => h w (List.mem_cons_of_mem _ hw)]
    split
    · rfl
    · have : x ≠ n := by rintro rfl; exact h v List.mem_cons_self
      simp [this]
theorem bindL_get {kindOf : Str → Option NameKind} {x : Str} {v : Value} : ∀ {P : List Str} {vs : List Value} {i : Nat} {m : Str → Option Value}, P.Nodup → P[i]? = some x → vs[i]? = some v → kindOf x = some .local →
    bindL kindOf (P.zip vs) m x = some v
  | [], _, _, _, _, h, _, _ => by simp at h
  | _ :: _, [], _, _, _, _, h, _ => by simp at h
  | p :: P, w :: vs, 0, m, nd, h1, h2, hk => by
    simp at h1 h2; subst h1; subst h2
    show bindL kindOf ((p, w) :: P.zip vs) m p = _
    unfold bindL
    rw [bindL_out fun v hv => (List.nodup_cons.mp nd).1 (List.of_mem_zip hv).1, if_pos hk]
    simp
  | p :: P, w :: vs, i + 1, m, nd, h1, h2, hk => by
    show bindL kindOf ((p, w) :: P.zip vs) m x = _
    unfold bindL
    exact bindL_get (i := i) (List.nodup_cons.mp nd).2 (by simpa using h1) (by simpa using h2) hk
theorem bindC_get {kindOf : Str → Option NameKind} {x : Str} {v : Value} : ∀ {P : List Str} {vs : List Value} {i : Nat} {m : Str → Option Value}, P.Nodup → P[i]? = some x → vs[i]? = some v → kindOf x ≠ some .local →
    bindC kindOf (P.zip vs) m x = some v
  | [], _, _, _, _, h, _, _ => by simp at h
  | _ :: _, [], _, _, _, _, h, _ => by simp at h
  | p :: P, w :: vs, 0, m, nd, h1, h2, hk => by
    simp at h1 h2; subst h1; subst h2
    show bindC kindOf ((p, w) :: P.zip vs) m p = _
    unfold bindC
    rw [bindC_out fun v hv => (List.nodup_cons.mp nd).1 (List.of_mem_zip hv).1, if_neg hk]
    simp
  | p :: P, w :: vs, i + 1, m, nd, h1, h2, hk => by
    show bindC kindOf ((p, w) :: P.zip vs) m x = _
    unfold bindC
    exact bindC_get (i := i) (List.nodup_cons.mp nd).2 (by simpa using h1) (by simpa using h2) hk
noncomputable def start (N : List Str) (vs : List V) : St := vs.map some ++ List.replicate (N.length - vs.length) none
noncomputable def cxOf (CX : CXT) (P : Program) (w : World) (K : PySem.W.Frag) (mg : Str → Option Value) (base : Heap) (N : List Str) (qual : Str) (scope : Scope) (f : Addr) (cd : Value) (A : Around) (outer : List Env) (s : Shared) (H : Hp) (E : XK) : Cx where
  prog := P
  w := w
  K := K
  mg := mg
  base := base
  A := A.deeper (envOfC qual scope s.heap.objs.size f cd)
  N := N
  s₀ := s
  H₀ := H
  env := envOfC qual scope s.heap.objs.size f cd
  outer := outer
  stack := envOfC qual scope s.heap.objs.size f cd :: outer
  ex := []
  calm := true
  fn := fun _ => true
  pn := []
  xe := fun e s' => wpAny (model P w) (A.deeper (envOfC qual scope s.heap.objs.size f cd)) (leaving (envOfC qual scope s.heap.objs.size f cd) e) (fun _ s'' => CX outer H s E e s'') (fun e' s'' => CX outer H s E e' s'') s'
theorem cell_has {sc : Scope} {n : Nat} {x : Str} (h : sc.names.lookup x = some .cell) : ∃ c, (cellsFrom n sc.names []).lookup x = some c := by
  have q := PySem.W.cellsFrom_some sc.names n [] (.inl h)
  exact Option.isSome_iff_exists.mp q
theorem inv_start {CX : CXT} {P : Program} {w : World} {K : PySem.W.Frag} {mg : Str → Option Value} {base : Heap} {N ps : List Str} {qual : Str} {scope : Scope} {f : Addr} {cd : Value} {A : Around} {outer : List Env} {s s1 : Shared} {H : Hp} {E : XK} {us : List Value} {vs : List V}
    (S : FnScope N ps scope) (hd : A.handled = none) (e0 : Env0 P w K mg base A outer s H) (hl : vs.length = ps.length) (r : Vals vs us)
    (x : InCallC s s.heap.objs.size (bindL (envOfC qual scope s.heap.objs.size f cd).kindOf (ps.zip us) fun _ => none) (cellsFrom (s.heap.objs.size + 1) scope.names []) (bindC (envOfC qual scope s.heap.objs.size f cd).kindOf (ps.zip us) fun _ => none) s1) :
    Inv (cxOf CX P w K mg base N qual scope f cd A outer s H E) [] (start N vs) H s1 := by
  have hpl : ps.length ≤ N.length := by have := congrArg List.length S.pre; rw [List.length_take] at this; omega
  obtain ⟨h1, tk, rfl, hk⟩ := x.done
  have noA : ∀ b : Addr, b ∉ (cxOf CX P w K mg base N qual scope f cd A outer s H E).ex := fun b z => absurd (show b ∈ ([] : List Addr) from z) (by simp)
  refine ⟨⟨e0.mod, S.kind, rfl, rfl, Nat.le_refl _, fun y z c h1 h2 => ?_, fun y hy => ?_, fun y c _ h => ?_, fun _ => hd, Around.frames_deeper e0.frames, .inr ⟨rfl, rfl⟩, fun b z => absurd z (noA b), e0.bs, e0.bsz, fun b _ _ => noA b, fun b z => absurd z (noA b), e0.funs, e0.frf⟩,
    rfl, e0.bare, Un.kept hk, ⟨_, x.toInCall.ns, fun i y v h1 h2 h3 => ?_⟩, fun y c h => ⟨_, x.cell y c h⟩, e0.hok.fresh (Nat.le_refl _), fun y c h => ?_, fun p hp => absurd (show p ∈ ([] : List (Addr × Obj)) from hp) (by simp), e0.hok.kept hk, ?_⟩
  · exact name_of_addr x.apart (PySem.mem_of_lookup h1) (PySem.mem_of_lookup h2)
  · have hy : scope.names.lookup y = some .cell ∨ scope.names.lookup y = some .free := hy
    rcases hy with hy | hy
    · exact cell_has hy
    · exact absurd rfl (S.nofree _ (PySem.mem_of_lookup hy))
  · exact Nat.le_of_lt (x.above y c (PySem.mem_of_lookup h))
  · have hi : i < vs.length := by
      unfold start at h2
      by_cases hi : i < vs.length
      · exact hi
      · rw [List.getElem?_append_right (by simpa using hi)] at h2
        rw [List.getElem?_replicate] at h2
        split at h2 <;> cases h2
    have ha : vs[i]? = some v := by
      unfold start at h2
      rw [List.getElem?_append_left (by simpa using hi), List.getElem?_map] at h2
      cases e : vs[i]? with
      | none => rw [e] at h2; cases h2
      | some a => rw [e] at h2; cases h2; rfl
    obtain ⟨u, hu, rv⟩ := r.get ha
    have hp : ps[i]? = some y := by
      rw [← S.pre, List.getElem?_take_of_lt (by omega)]; exact h1
    have ndP : ps.Nodup := by rw [← S.pre]; exact S.nd.sublist (List.take_sublist _ _)
    refine ⟨u, rv, ?_⟩
    rcases S.par y (List.mem_of_getElem? hp) with k | k
    · exact .inl ⟨k, bindL_get ndP hp hu k⟩
    · obtain ⟨c, e⟩ := cell_has (n := s.heap.objs.size + 1) k
      refine .inr ⟨.inl k, c, e, ?_⟩
      have q := x.cell y c e
      rw [bindC_get ndP hp hu (by show scope.names.lookup y ≠ _; rw [k]; decide)] at q
      exact q
  · exact e0.hok.fresh (Nat.le_of_lt (x.above y c (PySem.mem_of_lookup h)))
  · unfold start
    show _ = N.length
    rw [List.length_append, List.length_map, List.length_replicate]
    omega
theorem fn_of {CX : CXT} {P : Program} {w : World} {K : PySem.W.Frag} {mg : Str → Option Value} {base : Heap} {k : Nat} {f : Addr} {name qual : Str} {params : Arguments} {body : List Stmt} {scope : Scope} {dV kV doc pm cdv ct oc : Value} {an od : Option Addr}
    {osl : Array (Option Value)} {N ps : List Str} {sp : Sp} (lk : K.lookup f = some ⟨oc, od, .func (PySem.W.fnOf name qual params body scope dV kV doc pm an cdv ct), osl⟩) (hcd : PySem.W.codeIn K cdv qual = true) (S : FnScope N ps scope)
    (len : ∀ vs H Q E, sp vs H Q E → vs.length = ps.length)
    (hbody : ∀ (A : Around) (outer : List Env) (s : Shared) (H : Hp) (vs : List V) (Q : VK) (E : XK), Room k (A.deeper (envOfC qual scope s.heap.objs.size f cdv)) → sp vs H Q E →
      ∃ t, PSs (cxOf CX P w K mg base N qual scope f cdv A outer s H E) body t ∧ t { nx := fun _ H' => Q .non H', rt := Q } (start N vs) H) :
    FnOk P w K mg base CX (k + 1) f (PySem.W.fnOf name qual params body scope dV kV doc pm an cdv ct) ps sp := by
  refine ⟨len, fun A outer s H args us vs Q E hr e0 hb r hsp => ?_⟩
  have hl := len _ _ _ _ hsp
  have KX : K.In s.heap := e0.mod.kin.keeps fun b o e => (e0.bs b o e).1
  have lim : s.heap.NoLimit := e0.mod.nolimit.keeps fun b o e => (e0.bs b o e).1
  have hkind : ∀ y ∈ ps.zip us, scope.names.lookup y.1 = some .local ∨ (scope.names.lookup y.1 = some .cell ∧ ((cellsFrom (s.heap.objs.size + 1) scope.names []).lookup y.1).isSome = true) := fun ⟨n, v⟩ hy => by
    rcases S.par n (List.of_mem_zip hy).1 with q | q
    · exact .inl q
    · exact .inr ⟨q, PySem.W.cellsFrom_some _ _ _ (.inl q)⟩
  refine codeAny_call_function hr.depth (KX _ _ lk) rfl S.co S.gen rfl (PySem.W.codeRec_of KX hcd) (hb _ _ _ _ ?_)
  refine wpAny_newFunctionEnv_cells S.kind hkind fun env he s1 x => ?_
  subst he
  refine ⟨lim.keeps x.toInCall.keep, codeAny_func ?_⟩
  obtain ⟨t, ht, hq⟩ := hbody A outer s H vs Q E (hr.deeper _) hsp
  have I : Inv (cxOf CX P w K mg base N qual scope f cdv A outer s H E) [] (start N vs) H s1 := inv_start S hr.hd e0 hl r x
  refine wpAny_mono (ht [] s1 (start N vs) H _ I hq) (fun fl s' hs => ?_) fun e s' hs => hs
  have fin : ∀ {σ' : St} {H' : Hp} {v : V} {u : Value}, Inv (cxOf CX P w K mg base N qual scope f cdv A outer s H E) [] σ' H' s' → RelV v u → Q v H' → CE outer P w H s Q u s' :=
    fun {σ' H' v u} J rv q => ⟨v, H', J.os, J.bare, J.base, J.hok, rv, q⟩
  cases fl with
  | ret u =>
    obtain ⟨v, σ', H', J, rv, q⟩ := hs
    exact fin J rv q
  | next =>
    obtain ⟨σ', H', J, q⟩ := hs
    exact fin (v := V.non) (u := Value.none) J rfl q
  | brk =>
    obtain ⟨_, _, _, q⟩ := hs
    exact False.elim q
  | cont =>
    obtain ⟨_, _, _, q⟩ := hs
    exact False.elim q
end L2
namespace L2
open PySem PySem.Spec PyProof.Rows
section
variable {X : Cx} {x : Str} {p pos : Pos} {e : Expr} {es : List Expr} {t : TA} {id T : String} {r : List V → Hp → VK → Prop}
noncomputable def tCB (r : List V → Hp → VK → Prop) (t : TA) : TE := fun σ H Q => t σ H fun vs H1 => r vs H1 Q
theorem pe_callB (hc : CallR X (.builtin id) r) (hg : Gl X x) (hm : X.mg x = none) (hv : bootBuiltins x = some (.builtin id)) (ha : PA X (e :: es) t) (hn : x ≠ "__name__" := by decide) (hdb : (x == ("__debug__" : Str)) = false := by decide)
    (he : starEach (e :: es) X.env = (false, eval e X.env) :: starEach es X.env := by rfl) (hpl : (backTo pos (starEach es X.env)).any (·.1) = false := by rfl) : PE X (.Call (.Name x p) (e :: es) [] pos) (tCB r t) := by
  intro pins s σ H Q I h
  refine wpAny_Call_Name_kw (ld_blt I hg hm hv ?_ hn hdb)
  exact PyProof.Rows.callWith_builtin1 (thn (ha pos pins s σ H _ I h) fun us s1 ⟨vs, H1, I1, r1, q1⟩ => hc pins s1 σ H1 vs us Q I1 r1 q1) he hpl
theorem pe_callTy (hc : CallR X (.type T) r) (hg : Gl X x) (hm : X.mg x = none) (hv : bootBuiltins x = some (.type T)) (ha : PA X (e :: es) t) (hn : x ≠ "__name__" := by decide) (hdb : (x == ("__debug__" : Str)) = false := by decide)
    (he : starEach (e :: es) X.env = (false, eval e X.env) :: starEach es X.env := by rfl) (hpl : (backTo pos (starEach es X.env)).any (·.1) = false := by rfl) : PE X (.Call (.Name x p) (e :: es) [] pos) (tCB r t) := by
  intro pins s σ H Q I h
  refine wpAny_Call_Name_kw (ld_blt I hg hm hv ?_ hn hdb)
  exact PyProof.Rows.callWith_type1 (thn (ha pos pins s σ H _ I h) fun us s1 ⟨vs, H1, I1, r1, q1⟩ => hc pins s1 σ H1 vs us Q I1 r1 q1) he hpl
end
end L2
namespace HT
open PySem PyProof.Rows
section
open PySem.SeqAt
open PySem.AutoSeq1 (wpAny_loadPart')
open PySem.MeetsSeq PySem.MeetsSeq2 PySem.MeetsSeq3
end
section
variable {prog : Program} {w : World} {A : Around} {E : Value → Shared → Prop} {s : Shared}
theorem cat_tup {t b : Addr} {vs ws : List Value} {Q : Value → Shared → Prop} (ht : IsTup s.heap t vs.toArray) (hb : IsTup s.heap b ws.toArray) (hv : vs ≠ [])
    (h1 : ws = [] → Q (.ref t) s) (h2 : ws ≠ [] → Q (.ref s.heap.objs.size) { s with heap := s.heap.push { cls := .type "tuple", data := .seq (vs ++ ws).toArray } })
    (hsz : vs.length + ws.length ≤ sizeLine) : wpAny (model prog w) A (binaryOp .Add (.ref t) (.ref b)) Q E s := by
  obtain ⟨⟨cls, dd, data, sl⟩, ho, hc, n, hd⟩ := id ht
  obtain ⟨⟨cls2, dd2, data2, sl2⟩, ho2, hc2, n2, hd2⟩ := id hb
  simp only at hc hd hc2 hd2
  subst hc hd hc2 hd2
  have e : vs.toArray ++ ws.toArray = (vs ++ ws).toArray := by simp
  by_cases hw : ws = []
  · exact concat_meets ⟨_, ho, rfl⟩ ⟨_, ho2, rfl⟩ noFill_tuple_add seq_tuple_add PySem.F.slot_tuple_add PySem.F.entry_tuple_add (PySem.F.args_tuple_add_2 _ _)
      (tuple_addW1 t b vs.toArray ws.toArray n n2 dd dd2 sl sl2 (by simpa using hv) (by simp [hw])) ⟨ho, ho2, h1 hw⟩
  · refine concat_meets ⟨_, ho, rfl⟩ ⟨_, ho2, rfl⟩ noFill_tuple_add seq_tuple_add PySem.F.slot_tuple_add PySem.F.entry_tuple_add (PySem.F.args_tuple_add_2 _ _)
      (tuple_addW2 t b vs.toArray ws.toArray n n2 dd dd2 sl sl2 (by simpa using hv) (by simpa using hw) (by rw [List.size_toArray, List.size_toArray]; exact hsz)) ⟨ho, ho2, ?_⟩
    rw [e]
    exact h2 hw
noncomputable def sIx (n d : Nat) : Option Int → Nat
  | none => d
  | some v => if v < 0 then (v + (n : Int)).toNat else min v.toNat n
theorem sIx_le (n d : Nat) (hd : d ≤ n) (o : Option Int) : sIx n d o ≤ n := by
  cases o with
  | none => exact hd
  | some v =>
    show (if v < 0 then (v + (n : Int)).toNat else min v.toNat n) ≤ n
    by_cases hv : v < 0
    · rw [if_pos hv]; omega
    · rw [if_neg hv]; exact Nat.min_le_right _ _
theorem clip_eq (v : Int) (n d : Nat) : (if v < 0 then max (v + (n : Int)) 0 else min v (n : Int)) = ((sIx n d (some v) : Nat) : Int) := by
  show (if v < 0 then max (v + (n : Int)) 0 else min v (n : Int)) = (((if v < 0 then (v + (n : Int)).toNat else min v.toNat n) : Nat) : Int)
  by_cases hv : v < 0
  · simp only [if_pos hv]; omega
  · simp only [if_neg hv]; omega
theorem adjust_gen (lo hi : Option Int) (n : Nat) : Builtin.Slice.sliceAdjust lo hi 1 (n : Int) = (((sIx n 0 lo : Nat) : Int), ((sIx n n hi : Nat) : Int)) := by
  have h1 : ¬ ((1 : Int) < 0) := by omega
  unfold Builtin.Slice.sliceAdjust
  simp only [h1, if_false]
  refine Prod.ext ?_ ?_
  · cases lo with
    | none => rfl
    | some v => exact clip_eq v n 0
  · cases hi with
    | none => rfl
    | some v => exact clip_eq v n n
theorem places_gen (i j : Nat) : Builtin.Slice.slicePlaces (i : Int) (j : Int) 1 = j - i := by
  unfold Builtin.Slice.slicePlaces
  have h1 : (1 : Int) > 0 := by omega
  simp only [h1, if_true, Int.ediv_one]
  split <;> omega
theorem slicePart_ {v : Value} {o : Option Int} {Q : Option Int → Shared → Prop} (p : IsPart v o) (h : Q o s) : wpAny (model prog w) A (Builtin.Slice.slicePartIndex v) Q E s := by
  cases p with
  | none => exact slicePart_none h
  | int i t => exact slicePart_int h
theorem sliceApplied_gen {sl : Addr} {vl vu : Value} {lo hi : Option Int} {n : Nat} {Q : Int × Int × Nat → Shared → Prop} (hs : s.heap.IsSliceOf sl vl vu .none) (pl : IsPart vl lo) (pu : IsPart vu hi)
    (h : Q (((sIx n 0 lo : Nat) : Int), 1, sIx n n hi - sIx n 0 lo) s) : wpAny (model prog w) A (Builtin.Slice.sliceApplied (.ref sl) (pure (n : Int))) Q E s := by
  obtain ⟨os, hos, hcs, hds⟩ := id hs
  unfold Builtin.Slice.sliceApplied Builtin.Slice.sliceFields
  refine wpAny_bind (wpAny_bind (wpAny_field hos hds (x := vl) rfl (wpAny_bind (wpAny_field hos hds (x := vu) rfl (wpAny_bind (wpAny_field hos hds (x := .none) rfl (wpAny_pure ?_)))))))
  refine wpAny_bind (slicePart_none ?_)
  show wpAny _ _ (if ((1 : Int) == 0) = true then _ else _) _ _ s
  rw [if_neg (by decide)]
  refine wpAny_bind (slicePart_ pl (wpAny_bind (slicePart_ pu (wpAny_bind (wpAny_pure ?_)))))
  show wpAny _ _ (match Builtin.Slice.sliceAdjust lo hi 1 (n : Int) with | (lo, hi) => pure (lo, (1 : Int), Builtin.Slice.slicePlaces lo hi 1)) _ _ s
  rw [adjust_gen lo hi n]
  show wpAny _ _ (pure (((sIx n 0 lo : Nat) : Int), (1 : Int), Builtin.Slice.slicePlaces ((sIx n 0 lo : Nat) : Int) ((sIx n n hi : Nat) : Int) 1)) _ _ s
  rw [places_gen]
  exact wpAny_pure h
theorem pick_gen (xs : Array Value) (i k : Nat) : ((List.range k).filterMap fun (m : Nat) => xs[((i : Int) + (m : Int) * 1).toNat]?).toArray = ((xs.toList.drop i).take k).toArray := by
  have e : (fun (m : Nat) => xs[((i : Int) + (m : Int) * 1).toNat]?) = fun m => xs[i + m]? := by
    funext m
    have : ((i : Int) + (m : Int) * 1).toNat = i + m := by omega
    rw [this]
  rw [e]
  have := pick_run xs i k
  rw [List.filterMap_map] at this
  have e2 : ((fun x => xs[x]?) ∘ fun x => i + x) = fun m => xs[i + m]? := rfl
  rw [e2] at this
  rw [this]
theorem getItem_tuple_cut {t sl : Addr} {items : Array Value} {vl vu : Value} {lo hi : Option Int} {Q : Value → Shared → Prop} (ht : IsTup s.heap t items) (hs : s.heap.IsSliceOf sl vl vu .none) (pl : IsPart vl lo) (pu : IsPart vu hi)
    (hw : ¬ (sIx items.size 0 lo = 0 ∧ sIx items.size items.size hi = items.size))
    (h : Q (.ref s.heap.objs.size) { s with heap := s.heap.push { cls := .type "tuple", data := .seq ((items.toList.drop (sIx items.size 0 lo)).take (sIx items.size items.size hi - sIx items.size 0 lo)).toArray } })
    (hsz : items.size ≤ sizeLine) : wpAny (model prog w) A (getItem (.ref t) (.ref sl)) Q E s := by
  have htake : sizeOk (.seq ((items.toList.drop (sIx items.size 0 lo)).take (sIx items.size items.size hi - sIx items.size 0 lo)).toArray) := by
    show ((items.toList.drop (sIx items.size 0 lo)).take (sIx items.size items.size hi - sIx items.size 0 lo)).toArray.size ≤ sizeLine
    rw [List.size_toArray, List.length_take, List.length_drop, Array.length_toList]
    omega
  have hj : sIx items.size items.size hi ≤ items.size := sIx_le _ _ (Nat.le_refl _) hi
  obtain ⟨os, hos, hcs, hds⟩ := id hs
  have hTs : s.TypeIs (.ref sl) "slice" := ⟨os, hos, hcs⟩
  unfold getItem
  try with_reducible refine wpAny_holding ?_
  first | refine wpAny_bind (wpAny_pure ?_) | skip
  refine wpAny_bind (wpAny_sequenceKey ht.typeIs (by decide) ?_)
  refine wpAny_bind (wpAny_callSpecial?_slot (name := Str.ofString "__getitem__") ht.typeIs PyProof.Rows.slot_tuple_getitem
    (wpAny_call_entry PyProof.Rows.slot_tuple_getitem ht.typeIs entry_tuple_getitem ?_ (args_tuple_getitem _ _)))
  show wpAny _ _ (Builtin.Tuple.tupleItemsOf (.ref t) >>= _) _ _ s
  refine wpAny_bind (tupleItemsOf_ ht ?_)
  refine wpAny_bind (wpAny_typeOf hTs ?_)
  rw [if_pos (by decide)]
  refine wpAny_bind (sliceApplied_gen hs pl pu ?_)
  have hno : ¬ ((((sIx items.size 0 lo : Nat) : Int) == 0 && (1 : Int) == 1 && (sIx items.size items.size hi - sIx items.size 0 lo) == items.size) = true) := by
    intro q
    rw [Bool.and_eq_true, Bool.and_eq_true] at q
    have q1 : ((sIx items.size 0 lo : Nat) : Int) = 0 := eq_of_beq q.1.1
    have q2 : sIx items.size items.size hi - sIx items.size 0 lo = items.size := eq_of_beq q.2
    exact hw ⟨by omega, by omega⟩
  show wpAny _ _ (if (((sIx items.size 0 lo : Nat) : Int) == 0 && (1 : Int) == 1 && (sIx items.size items.size hi - sIx items.size 0 lo) == items.size) = true then _ else _) _ _ s
  rw [if_neg hno, pick_gen]
  first
    | exact wpAny_bind (m := Builtin.Tuple.tupleExact _) (wpAny_newObj_type (wpAny_pure ⟨_, rfl, wpAny_pure h⟩) htake)
    | exact wpAny_bind (m := Builtin.Tuple.tupleExact _) (wpAny_newObj_type (wpAny_bind (wpAny_pure (wpAny_pure ⟨_, rfl, wpAny_pure h⟩))) htake)
    | exact wpAny_bind (wpAny_bind (m := Builtin.Tuple.tupleExact _) (wpAny_newObj_type (wpAny_pure (wpAny_pure ⟨_, rfl, wpAny_pure h⟩)) htake))
    | exact wpAny_bind (wpAny_bind (m := Builtin.Tuple.tupleExact _) (wpAny_newObj_type (wpAny_pure ⟨_, rfl, wpAny_pure h⟩) htake))
end
end HT
namespace L2
open PySem PySem.Spec PyProof.Rows
noncomputable abbrev TO := St → Hp → (Option Int → Hp → Prop) → Prop
noncomputable def PO (X : Cx) (e : Option Expr) (t : TO) : Prop :=
  ∀ (pins : List (Addr × Obj)) (s : Shared) (σ : St) (H : Hp) (Q : Option Int → Hp → Prop), Inv X pins σ H s → t σ H Q →
    wpAny (model X.prog X.w) X.A (evalPart e X.env) (fun u s' => ∃ o H', Inv X pins σ H' s' ∧ IsPart u o ∧ Q o H') X.xe s
noncomputable def tNoPart : TO := fun _ H Q => Q none H
noncomputable def tPart (t : TE) : TO := fun σ H Q => t σ H fun x H1 => ∃ i, x = .int i ∧ Q (some i) H1
section
variable {X : Cx} {e : Expr} {te : TE} {lo hi : Option Expr} {tl th : TO} {pos p2 : Pos}
theorem po_none : PO X none tNoPart := by
  intro pins s σ H Q I h
  rw [evalPart_none]
  exact wpAny_pure ⟨none, H, I, .none, h⟩
theorem po_some (h : PE X e te) : PO X (some e) (tPart te) := by
  intro pins s σ H Q I hw
  rw [evalPart_some]
  refine thn (h pins s σ H _ I hw) fun u s1 z9 => ?_
  obtain ⟨x, H1, I1, r1, q1⟩ := z9
  obtain ⟨i, rfl, q⟩ := q1
  obtain ⟨t, rfl⟩ := r1
  exact ⟨some i, H1, I1, .int i t, q⟩
noncomputable def SlR (X : Cx) (r : V → Option Int → Option Int → Hp → VK → Prop) : Prop :=
  ∀ (pins : List (Addr × Obj)) (s : Shared) (σ : St) (H : Hp) (x : V) (v vl vu : Value) (lo hi : Option Int) (sl : Addr) (Q : VK), Inv X pins σ H s → RelV x v → s.heap.IsSliceOf sl vl vu .none → IsPart vl lo → IsPart vu hi → r x lo hi H Q →
    ∃ T id, typeLookup (.type T) "__getitem__" = pure (some (.builtin id)) ∧ s.TypeIs v T ∧ wpAny (model X.prog X.w) X.A (getItem v (.ref sl)) (EP X pins σ Q) X.xe s
theorem SlR.or {r r' : V → Option Int → Option Int → Hp → VK → Prop} (h : SlR X r) (h' : SlR X r') : SlR X (fun x lo hi H Q => r x lo hi H Q ∨ r' x lo hi H Q) := by
  intro pins s σ H x v vl vu lo hi sl Q I rx hs pl pu q
  rcases q with q | q
  · exact h pins s σ H x v vl vu lo hi sl Q I rx hs pl pu q
  · exact h' pins s σ H x v vl vu lo hi sl Q I rx hs pl pu q
noncomputable def tSl (r : V → Option Int → Option Int → Hp → VK → Prop) (te : TE) (tl th : TO) : TE := fun σ H Q => te σ H fun x H1 => tl σ H1 fun l H2 => th σ H2 fun u H3 => r x l u H3 Q
theorem pe_slice {r : V → Option Int → Option Int → Hp → VK → Prop} (hr : SlR X r) (he : PE X e te) (hl : PO X lo tl) (hu : PO X hi th) : PE X (.Subscript e (.Slice lo hi none p2) pos) (tSl r te tl th) := by
  intro pins s σ H Q I h
  refine Subscript_ (thn (he pins s σ H _ I h) fun v s1 z9 => ?_)
  obtain ⟨x, H1, I1, r1, q1⟩ := z9
  refine wpAny_Slice (thn (hl pins s1 σ H1 _ I1 q1) fun vl s2 ⟨l, H2, I2, pl, q2⟩ => thn (hu pins s2 σ H2 _ I2 q2) fun vu s3 z9 => ?_)
  obtain ⟨u, H3, I3, pu, q3⟩ := z9
  rw [evalPart_none]
  refine wpAny_pure ?_
  have I4 : Inv X pins σ H3 { s3 with heap := s3.heap.push { cls := .type "slice", data := .fields #[vl, vu, .none] } } := I3.kept (t' := s3.toks) fun b ob q => Heap.get?_push_of_some _ q
  obtain ⟨T, id, hT, ht, hg⟩ := hr pins { s3 with heap := s3.heap.push { cls := .type "slice", data := .fields #[vl, vu, .none] } } σ H3 x v vl vu l u s3.heap.objs.size Q I4 r1 (Heap.IsSliceOf.new ..) pl pu q3
  show wpAny (model X.prog X.w) X.A (subscriptTail e (.Slice lo hi none p2) v (.ref s3.heap.objs.size)) (EP X pins σ Q) X.xe { s3 with heap := s3.heap.push { cls := .type "slice", data := .fields #[vl, vu, .none] } }
  exact tail_any (ops := [.ref s3.heap.objs.size, v]) ht hT hg (by with_unfolding_all rfl)
noncomputable def cutV (xs : List V) (lo hi : Option Int) : List V := (xs.drop (HT.sIx xs.length 0 lo)).take (HT.sIx xs.length xs.length hi - HT.sIx xs.length 0 lo)
theorem cutV_length (xs : List V) (lo hi : Option Int) : (cutV xs lo hi).length ≤ xs.length := by
  unfold cutV
  rw [List.length_take, List.length_drop]
  omega
noncomputable def rSlT (K : PySem.W.Frag) : V → Option Int → Option Int → Hp → VK → Prop := fun x lo hi H Q => ∃ a xs, x = .ref a ∧ SqT K H a xs ∧
  ¬ (HT.sIx xs.length 0 lo = 0 ∧ HT.sIx xs.length xs.length hi = xs.length) ∧ ∀ p, H p = none → Q (.ref p) (upd H p (.tup (cutV xs lo hi)))
theorem sl_tup : SlR X (rSlT X.K) := by
  intro pins s σ H x v vl vu lo hi sl Q I rx hs pl pu h
  obtain ⟨a, xs, rfl, hx, hw, q⟩ := h
  cases rx
  obtain ⟨its, r, ht, hz⟩ := I.tuple hx
  have hlen : its.toArray.size = xs.length := by rw [List.size_toArray]; exact r.length.symm
  refine ⟨"tuple", _, PyProof.Rows.slot_tuple_getitem.lookup, ht.typeIs, ?_⟩
  refine HT.getItem_tuple_cut ht hs pl pu (by rw [hlen]; exact hw) ?_ (by rw [hlen]; exact hz)
  rw [hlen]
  refine ⟨.ref s.heap.objs.size, _, I.laid (t' := s.toks) (o := .tup (cutV xs lo hi)) (fun b ob q => Heap.get?_push_of_some _ q) (Nat.le_refl _) ?_, rfl, q _ (I.hok.fresh (Nat.le_refl _))⟩
  exact ⟨Nat.le_trans (cutV_length xs lo hi) hz, _, (r.drop (HT.sIx xs.length 0 lo)).take (HT.sIx xs.length xs.length hi - HT.sIx xs.length 0 lo), IsTup.new _ _⟩
noncomputable def rCatT (K : PySem.W.Frag) : R2 := fun x y H Q => ∃ a b xs ys, x = .ref a ∧ y = .ref b ∧ SqT K H a xs ∧ SqT K H b ys ∧ xs ≠ [] ∧ xs.length + ys.length ≤ sizeLine ∧
  (ys = [] → Q (.ref a) H) ∧ (ys ≠ [] → ∀ p, H p = none → Q (.ref p) (upd H p (.tup (xs ++ ys))))
theorem Vals.nil_iff {xs : List V} {us : List Value} (r : Vals xs us) : us = [] ↔ xs = [] := by
  cases r with
  | nil => simp
  | cons _ _ => simp
theorem op_catT : OpR X (binaryOp .Add) (rCatT X.K) := by
  intro pins s σ H x y v u Q I rx ry h
  obtain ⟨a, b, xs, ys, rfl, rfl, ha, hb, hx, hz, q1, q2⟩ := h
  cases rx
  cases ry
  obtain ⟨its, r1, p1, _⟩ := I.tuple ha
  obtain ⟨its2, r2, p2, _⟩ := I.tuple hb
  refine HT.cat_tup p1 p2 (fun z => hx (r1.nil_iff.mp z)) (fun z => ⟨.ref a, H, I, rfl, q1 (r2.nil_iff.mp z)⟩) (fun z => ?_) (by rw [← r1.length, ← r2.length]; exact hz)
  refine ⟨.ref s.heap.objs.size, _, I.laid (t' := s.toks) (o := .tup (xs ++ ys)) (fun b ob q => Heap.get?_push_of_some _ q) (Nat.le_refl _) ?_, rfl, q2 (fun w => z (r2.nil_iff.mpr w)) _ (I.hok.fresh (Nat.le_refl _))⟩
  exact ⟨by rw [List.length_append]; exact hz, _, r1.append r2, IsTup.new _ _⟩
end
end L2
namespace L2
open PySem PySem.Spec PyProof.Rows
noncomputable def ixN (n : Nat) (i : Int) : Option Nat := if 0 ≤ i then (if i < n then some i.toNat else none) else if -(n : Int) ≤ i then some (i + n).toNat else none
noncomputable def atI {α : Type} (xs : List α) (i : Int) : Option α := (ixN xs.length i).bind fun j => xs[j]?
theorem ixN_seq {n : Nat} {i : Int} {j : Nat} (h : ixN n i = some j) : seqIndex? i n = some j ∧ j < n ∧ -(n : Int) ≤ i ∧ i < n := by
  unfold ixN at h
  by_cases h0 : 0 ≤ i
  · rw [if_pos h0] at h
    by_cases h1 : i < n
    · rw [if_pos h1] at h
      have e : i.toNat = j := Option.some.inj h
      exact ⟨by rw [seqIndex_of h0 h1, e], by omega, by omega, h1⟩
    · rw [if_neg h1] at h; cases h
  · rw [if_neg h0] at h
    by_cases h1 : -(n : Int) ≤ i
    · rw [if_pos h1] at h
      have e : (i + n).toNat = j := Option.some.inj h
      exact ⟨by rw [seqIndex_neg (by omega) h1, e], by omega, h1, by omega⟩
    · rw [if_neg h1] at h; cases h
theorem atI_get {α : Type} {xs : List α} {i : Int} {v : α} (h : atI xs i = some v) : ∃ j, seqIndex? i xs.length = some j ∧ xs[j]? = some v ∧ j < xs.length ∧ -(xs.length : Int) ≤ i ∧ i < xs.length := by
  unfold atI at h
  cases e : ixN xs.length i with
  | none => rw [e] at h; cases h
  | some j =>
    rw [e] at h
    obtain ⟨h1, h2, h3, h4⟩ := ixN_seq e
    exact ⟨j, h1, h, h2, h3, h4⟩
theorem atI_nat {α : Type} {xs : List α} {j : Nat} {v : α} (h : xs[j]? = some v) : atI xs (j : Int) = some v := by
  have hj : j < xs.length := (List.getElem?_eq_some_iff.mp h).1
  have e : ixN xs.length (j : Int) = some j := by
    unfold ixN
    rw [if_pos (by omega), if_pos (by omega)]; simp
  unfold atI; rw [e]; exact h
noncomputable def PlainIx (b : Expr) : Prop := ∀ o i, subscripted b false o i = operate [o, i] (getItem o i)
noncomputable def IxR (X : Cx) (r : R2) : Prop :=
  ∀ (value slice : Expr) (pins : List (Addr × Obj)) (s : Shared) (σ : St) (H : Hp) (x y : V) (v u : Value) (Q : VK), Inv X pins σ H s → RelV x v → RelV y u → r x y H Q →
    subscripted slice false v u = operate [v, u] (getItem v u) → wpAny (model X.prog X.w) X.A (subscriptTail value slice v u) (EP X pins σ Q) X.xe s
noncomputable def MtR (X : Cx) (id : String) (r : V → List V → Hp → VK → Prop) : Prop :=
  ∀ (pins : List (Addr × Obj)) (s : Shared) (σ : St) (H : Hp) (x : V) (xs : List V) (v : Value) (us : List Value) (Q : VK), Inv X pins σ H s → RelV x v → Vals xs us → r x xs H Q →
    wpAny (model X.prog X.w) X.A (call (.builtin id) (v :: us)) (EP X pins σ Q) X.xe s
section
variable {X : Cx} {a b : Expr} {ta tb : TE} {pos : Pos}
theorem IxR.or {r r' : R2} (h : IxR X r) (h' : IxR X r') : IxR X (fun x y H Q => r x y H Q ∨ r' x y H Q) := by
  intro value slice pins s σ H x y v u Q I rx ry q hs
  rcases q with q | q
  · exact h value slice pins s σ H x y v u Q I rx ry q hs
  · exact h' value slice pins s σ H x y v u Q I rx ry q hs
theorem pe_ix {r : R2} (hr : IxR X r) (ha : PE X a ta) (hb : PE X b tb) (hs : PlainIx b) : PE X (.Subscript a b pos) (tOp r ta tb) := by
  intro pins s σ H Q I h
  exact Subscript_ (binT ha hb I h fun v u s2 x y H2 I2 rx ry q => hr a b pins s2 σ H2 x y v u Q I2 rx ry q (hs _ _))
noncomputable def rIxL (K : PySem.W.Frag) : R2 := fun x y H Q => ∃ p xs i v, x = .ref p ∧ y = .int i ∧ SqL K H p xs ∧ atI xs i = some v ∧ Q v H
noncomputable def rIxT (K : PySem.W.Frag) : R2 := fun x y H Q => ∃ p xs i v, x = .ref p ∧ y = .int i ∧ SqT K H p xs ∧ atI xs i = some v ∧ Q v H
noncomputable def rIxS : R2 := fun x y H Q => ∃ z i c, x = .str z ∧ y = .int i ∧ z.length ≤ sizeLine ∧ atI z.cps.toList i = some c ∧ Q (.str ⟨#[c]⟩) H
theorem ix_list : IxR X (rIxL X.K) := by
  intro value slice pins s σ H x y v u Q I rx ry h hs
  obtain ⟨p, xs, i, z, rfl, rfl, hq, he, q⟩ := h
  cases rx
  obtain ⟨t, rfl⟩ := ry
  obtain ⟨its, r, pl, hz⟩ := I.list hq
  obtain ⟨j, h1, h2, h3, h4, h5⟩ := atI_get he
  obtain ⟨w, ew, rw'⟩ := r.get h2
  have hl := r.length
  have hn := line63
  have fin : EP X pins σ Q w s := ⟨z, H, I, rw', q⟩
  by_cases h0 : 0 ≤ i
  · have hj : i.toNat = j := by
      rw [seqIndex_of h0 h5] at h1
      exact Option.some.inj h1
    exact item_listR pl.isList h0 (by omega) (by rw [hj]; simpa using ew) fin hs
  · have hj : (i + (its.toArray.size : Int)).toNat = j := by
      rw [seqIndex_neg (by omega) h4] at h1
      rw [List.size_toArray, ← hl]
      exact Option.some.inj h1
    exact subscriptTail_builtinR (x := w) pl.isList.typeIs slot_list_getitem.lookup
      (wpAny_getItem_list_neg (Q := fun r s' => r = w ∧ EP X pins σ Q r s') pl.isList (by omega) (by rw [List.size_toArray] <;> omega) (by omega) (by rw [hj]; simpa using ew) ⟨rfl, fin⟩) hs
theorem ix_tup : IxR X (rIxT X.K) := by
  intro value slice pins s σ H x y v u Q I rx ry h hs
  obtain ⟨p, xs, i, z, rfl, rfl, hq, he, q⟩ := h
  cases rx
  obtain ⟨t, rfl⟩ := ry
  obtain ⟨its, r, pl, hz⟩ := I.tuple hq
  obtain ⟨j, h1, h2, h3, h4, h5⟩ := atI_get he
  obtain ⟨w, ew, rw'⟩ := r.get h2
  have hl := r.length
  have hn := line63
  have fin : EP X pins σ Q w s := ⟨z, H, I, rw', q⟩
  exact subscriptTail_builtinR (x := w) pl.typeIs slot_tuple_getitem.lookup
    (getItem_tuple (j := j) (Q := fun r s' => r = w ∧ EP X pins σ Q r s') pl (by omega) (by omega) (by rw [List.size_toArray, ← hl]; exact h1) (by simpa using ew) ⟨rfl, fin⟩) hs
theorem ix_str : IxR X rIxS := by
  intro value slice pins s σ H x y v u Q I rx ry h hs
  obtain ⟨z, i, c, rfl, rfl, hz, he, q⟩ := h
  obtain ⟨t, rfl⟩ := rx
  obtain ⟨t', rfl⟩ := ry
  obtain ⟨j, h1, h2, h3, h4, h5⟩ := atI_get he
  have hl : z.cps.toList.length = z.length := by simp [Str.length]
  rw [hl] at h1 h4 h5
  have hn := line63
  exact tail_any (typeIs_str s z t) slot_str_getitem.lookup (getItem_str (c := c) (by
    have e1 : decide (i < -(2 ^ 63 : Int)) = false := decide_eq_false (by omega)
    have e2 : decide (i ≥ 2 ^ 63) = false := decide_eq_false (by omega)
    rw [e1, e2, Bool.or_false]) (by rw [h1]; simpa using h2) ⟨.str ⟨#[c]⟩, H, I.tok _, ⟨_, rfl⟩, q⟩) hs
noncomputable def rIx (K : PySem.W.Frag) : R2 := fun x y H Q => rIxL K x y H Q ∨ rIxT K x y H Q ∨ rIxS x y H Q
theorem ix_seq : IxR X (rIx X.K) := ix_list.or (ix_tup.or ix_str)
theorem mapSeq_set (its : List Value) (n j : Nat) (u : Value) : Obj.mapSeq (·.setIfInBounds j u) { cls := .type "list", data := .seq its.toArray n } = { cls := .type "list", data := .seq (its.set j u).toArray n } := by
  simp [Obj.mapSeq]
theorem Inv.lst {pins : List (Addr × Obj)} {σ : St} {H : Hp} {s : Shared} {p : Addr} {xs : List V} (I : Inv X pins σ H s) (h : H p = some (.lst xs)) :
    ∃ (its : List Value) (n : Nat), Vals xs its ∧ s.heap.get? p = some { cls := .type "list", data := .seq its.toArray n } ∧ xs.length ≤ sizeLine := by
  obtain ⟨z, its, n, r, e⟩ := I.hok p _ h
  exact ⟨its, n, r, e, z⟩
theorem Inv.lstUpd {pins : List (Addr × Obj)} {σ : St} {H : Hp} {s : Shared} {p : Addr} {xs ys : List V} {its its' : List Value} {n n' : Nat} {f : Obj → Obj} (I : Inv X pins σ H s) (h : H p = some (.lst xs))
    (ho : s.heap.get? p = some { cls := .type "list", data := .seq its.toArray n }) (hf : f { cls := .type "list", data := .seq its.toArray n } = { cls := .type "list", data := .seq its'.toArray n' }) (r : Vals ys its') (hz : ys.length ≤ sizeLine) (t : Nat) :
    Inv X pins σ (upd H p (.lst ys)) { s with heap := s.heap.update p f, toks := t } := by
  have e : (s.heap.update p f).get? p = some { cls := .type "list", data := .seq its'.toArray n' } := by
    rw [Heap.get?_update_self f ho (by rw [hf] <;> rfl), hf]
  refine I.write (x := p) (e := p) (by rw [h]; trivial) (.inl rfl) (fun b u hb q => (Heap.get?_update_other _ _ (Ne.symm hb)).trans q) ⟨_, e⟩ ?_
  exact ⟨hz, its', n', r, e⟩
noncomputable def rSetL : V → V → V → Hp → (Hp → Prop) → Prop := fun o i v H Q => ∃ p xs k j, o = .ref p ∧ i = .int k ∧ H p = some (.lst xs) ∧ ixN xs.length k = some j ∧ Q (upd H p (.lst (xs.set j v)))
theorem set_list : PSet X rSetL := by
  intro pins s σ H o i v ov iv u Q I ro ri rv h
  obtain ⟨p, xs, k, j, rfl, rfl, hp, hj, q⟩ := h
  cases ro
  obtain ⟨t, rfl⟩ := ri
  obtain ⟨its, n, r, ho, hz⟩ := I.lst hp
  obtain ⟨h1, h2, h3, h4⟩ := ixN_seq hj
  have hl := r.length
  have hn := line63
  have I' : Inv X pins σ (upd H p (.lst (xs.set j v))) { s with heap := s.heap.update p (Obj.mapSeq (·.setIfInBounds j u)) } :=
    I.lstUpd hp ho (mapSeq_set its n j u) (r.set rv j) (by rw [List.length_set]; exact hz) s.toks
  by_cases h0 : 0 ≤ k
  · have hk : k.toNat = j := by
      rw [seqIndex_of h0 h4] at h1
      exact Option.some.inj h1
    exact PySem.W.ki_setAt ho h0 (by omega) (by rw [List.size_toArray, ← hl]; exact h4) (by rw [hk]; exact ⟨_, I', q⟩)
  · have hk : (k + (its.toArray.size : Int)).toNat = j := by
      rw [seqIndex_neg (by omega) h3] at h1
      rw [List.size_toArray, ← hl]
      exact Option.some.inj h1
    exact PySem.W.ki_setBack ho (by omega) (by rw [List.size_toArray, ← hl]; exact h3) (by omega) (by rw [hk]; exact ⟨_, I', q⟩)
theorem slice_bounds (lo hi : Option Int) (n : Nat) : (sliceBounds lo hi none n).1 = ((HT.sIx n 0 lo : Nat) : Int) ∧ (sliceBounds lo hi none n).2.1 = ((HT.sIx n n hi : Nat) : Int) ∧ (sliceBounds lo hi none n).2.2 = 1 := by
  refine ⟨?_, ?_, rfl⟩
  · cases lo with
    | none => simp [sliceBounds, HT.sIx]
    | some i =>
      simp only [sliceBounds, HT.sIx, Option.getD_none, show (1 : Int) > 0 by decide, if_true]
      by_cases h : i < 0
      · simp only [h, if_true] <;> omega
      · simp only [h, if_false] <;> omega
  · cases hi with
    | none => simp [sliceBounds, HT.sIx]
    | some i =>
      simp only [sliceBounds, HT.sIx, Option.getD_none, show (1 : Int) > 0 by decide, if_true]
      by_cases h : i < 0
      · simp only [h, if_true] <;> omega
      · simp only [h, if_false] <;> omega
theorem slicePick_cut (its : List Value) (lo hi : Option Int) : slicePick its.toArray lo hi none = ((its.drop (HT.sIx its.length 0 lo)).take (HT.sIx its.length its.length hi - HT.sIx its.length 0 lo)).toArray := by
  obtain ⟨h1, h2, h3⟩ := slice_bounds lo hi its.toArray.size
  unfold slicePick
  rw [h1, h2, h3]
  simp only [sliceRange_one, pick_run, List.size_toArray] <;> rfl
noncomputable def rSlL (K : PySem.W.Frag) : V → Option Int → Option Int → Hp → VK → Prop := fun x lo hi H Q => ∃ a xs, x = .ref a ∧ SqL K H a xs ∧ ∀ p, H p = none → Q (.ref p) (upd H p (.lst (cutV xs lo hi)))
theorem sl_list : SlR X (rSlL X.K) := by
  intro pins s σ H x v vl vu lo hi sl Q I rx hs pl pu h
  obtain ⟨a, xs, rfl, hx, q⟩ := h
  cases rx
  obtain ⟨its, r, ht, hz⟩ := I.list hx
  have hlen := r.length
  refine ⟨"list", _, slot_list_getitem.lookup, ht.isList.typeIs, ?_⟩
  refine wpAny_getItem_list_slice ht.isList hs pl pu .none (by simp) ?_ (by rw [List.size_toArray] <;> omega)
  rw [slicePick_cut, ← hlen]
  refine ⟨.ref s.heap.objs.size, _, I.laid (t' := s.toks) (o := .lst (cutV xs lo hi)) (fun b ob q => Heap.get?_push_of_some _ q) (Nat.le_refl _) ?_, rfl, q _ (I.hok.fresh (Nat.le_refl _))⟩
  exact ⟨Nat.le_trans (cutV_length xs lo hi) hz, _, 0, (r.drop (HT.sIx xs.length 0 lo)).take (HT.sIx xs.length xs.length hi - HT.sIx xs.length 0 lo), Heap.get?_push_size _ rfl⟩
noncomputable def flatV : V → Bool
  | .non => true
  | .bl _ => true
  | .int _ => true
  | .str _ => true
  | _ => false
noncomputable def eqV : V → V → Bool
  | .non, .non => true
  | .bl a, .bl b => a == b
  | .bl a, .int b => (if a then 1 else 0) == b
  | .int a, .bl b => a == (if b then 1 else 0)
  | .int a, .int b => a == b
  | .str a, .str b => a == b
  | _, _ => false
theorem eqAt_V {A : Around} {s : Shared} {y x : V} {u v : Value} (ry : RelV y u) (rx : RelV x v) (fy : flatV y = true) (fx : flatV x = true) : SeqAt.EqAt A s u v (eqV y x) := by
  cases y with
  | non =>
    cases ry
    cases x with
    | non => cases rx; exact SeqAt.EqAt.same _
    | bl b => cases rx; exact SeqAt.EqAt.none_bool b
    | int b => obtain ⟨t, rfl⟩ := rx; exact SeqAt.EqAt.none_int b t
    | str b => obtain ⟨t, rfl⟩ := rx; exact SeqAt.EqAt.none_str b t
    | _ => exact absurd (show false = true from fx) Bool.false_ne_true
  | bl a =>
    cases ry
    cases x with
    | non => cases rx; exact SeqAt.EqAt.bool_none a
    | bl b => cases rx; exact SeqAt.EqAt.bool_bool a b
    | int b => obtain ⟨t, rfl⟩ := rx; exact SeqAt.EqAt.bool_int a b t
    | str b => obtain ⟨t, rfl⟩ := rx; exact SeqAt.EqAt.bool_str a b t
    | _ => exact absurd (show false = true from fx) Bool.false_ne_true
  | int a =>
    obtain ⟨t', rfl⟩ := ry
    cases x with
    | non => cases rx; exact SeqAt.EqAt.int_none a t'
    | bl b => cases rx; exact SeqAt.EqAt.int_bool a t' b
    | int b => obtain ⟨t, rfl⟩ := rx; exact SeqAt.EqAt.int_int a t' b t
    | str b => obtain ⟨t, rfl⟩ := rx; exact SeqAt.EqAt.int_str a t' b t
    | _ => exact absurd (show false = true from fx) Bool.false_ne_true
  | str a =>
    obtain ⟨t', rfl⟩ := ry
    cases x with
    | non => cases rx; exact SeqAt.EqAt.str_none a t'
    | bl b => cases rx; exact SeqAt.EqAt.str_bool a t' b
    | int b => obtain ⟨t, rfl⟩ := rx; exact SeqAt.EqAt.str_int a t' b t
    | str b => obtain ⟨t, rfl⟩ := rx; exact SeqAt.EqAt.str_str a t' b t
    | _ => exact absurd (show false = true from fx) Bool.false_ne_true
  | _ => exact absurd (show false = true from fy) Bool.false_ne_true
noncomputable def eqU (x : V) (u : Value) : Bool := match u with
  | .none => eqV .non x
  | .bool b => eqV (.bl b) x
  | .int i _ => eqV (.int i) x
  | .str z _ => eqV (.str z) x
  | _ => false
theorem eqU_of {x y : V} {u : Value} (r : RelV y u) (f : flatV y = true) : eqU x u = eqV y x := by
  cases y with
  | non => cases r; rfl
  | bl b => cases r; rfl
  | int i => obtain ⟨t, rfl⟩ := r; rfl
  | str z => obtain ⟨t, rfl⟩ := r; rfl
  | _ => exact absurd (show false = true from f) Bool.false_ne_true
theorem any_eqU {x : V} : ∀ {xs : List V} {us : List Value}, Vals xs us → xs.all flatV = true → us.any (eqU x) = xs.any fun y => eqV y x
  | _, _, .nil, _ => rfl
  | y :: xs, u :: us, .cons r t, f => by
    rw [List.all_cons, Bool.and_eq_true] at f
    rw [List.any_cons, List.any_cons, eqU_of r f.1, any_eqU t f.2]
theorem mem_eqAt {A : Around} {s : Shared} {x : V} {v : Value} (rx : RelV x v) (fx : flatV x = true) : ∀ {xs : List V} {us : List Value}, Vals xs us → xs.all flatV = true → ∀ u ∈ us, SeqAt.EqAt A s u v (eqU x u)
  | _, _, .nil, _ => fun u hu => by cases hu
  | y :: xs, u :: us, .cons r t, f => fun u' hu => by
    rw [List.all_cons, Bool.and_eq_true] at f
    rcases List.mem_cons.mp hu with rfl | hu
    · rw [eqU_of r f.1]; exact eqAt_V r rx f.1 fx
    · exact mem_eqAt rx fx t f.2 u' hu
noncomputable def inV (x : V) (xs : List V) : Bool := xs.any fun y => eqV y x
noncomputable def rIn (K : PySem.W.Frag) (neg : Bool) : R2 := fun x y H Q => ∃ p xs, y = .ref p ∧ (SqL K H p xs ∨ SqT K H p xs) ∧ flatV x = true ∧ xs.all flatV = true ∧ Q (.bl (if neg then !inV x xs else inV x xs)) H
theorem op_in_seq : OpR X (compareOp .In) (rIn X.K false) := by
  intro pins s σ H x y v u Q I rx ry h
  obtain ⟨p, xs, rfl, hq, fx, fs, q⟩ := h
  cases ry
  rcases hq with hq | hq
  · obtain ⟨its, r, pl, hz⟩ := I.list hq
    refine SeqAt.in_listAt (eqU x) pl.isList (fun w hw => mem_eqAt rx fx r fs w (by simpa using hw)) ⟨.bl _, H, I, rfl, ?_⟩
    rw [show its.toArray.any (eqU x) = its.any (eqU x) by simp, any_eqU r fs]
    exact q
  · obtain ⟨its, r, pl, hz⟩ := I.tuple hq
    refine SeqAt.in_tupleAt (eqU x) pl (fun w hw => mem_eqAt rx fx r fs w (by simpa using hw)) ⟨.bl _, H, I, rfl, ?_⟩
    rw [show its.toArray.any (eqU x) = its.any (eqU x) by simp, any_eqU r fs]
    exact q
theorem call_list_of : CallR X (.type "list") (fun xs H Q => ∃ p ys, xs = [.ref p] ∧ (SqL X.K H p ys ∨ SqT X.K H p ys) ∧ ∀ l, H l = none → Q (.ref l) (upd H l (.lst ys))) := by
  intro pins s σ H xs us Q I r h
  obtain ⟨p, ys, rfl, hq, q⟩ := h
  obtain ⟨u, rfl, rx⟩ := vals1 r
  cases rx
  have fin : ∀ (its : List Value), Vals ys its → ys.length ≤ sizeLine → ∀ (h' : Heap) (c' : Nat), (∀ b o', s.heap.get? b = some o' → h'.get? b = some o') →
      h'.get? s.heap.objs.size = some { cls := .type "list", dict := none, data := .seq its.toArray c', slots := #[] } → EP X pins σ Q (.ref s.heap.objs.size) { s with heap := h' } := fun its r' hz h' c' kp e =>
    ⟨.ref s.heap.objs.size, _, I.laid (t' := s.toks) kp (Nat.le_refl _) (show ObjOk X.prog X.w _ h' _ (.lst ys) from ⟨hz, its, c', r', e⟩), rfl, q _ (I.hok.fresh (Nat.le_refl _))⟩
  rcases hq with hq | hq
  · obtain ⟨its, r', pl, hz⟩ := I.list hq
    have hlen := r'.length
    obtain ⟨o, ho, hc, n, hd⟩ := pl.isList
    exact call_list_seq p (.inl rfl) ho hc hd (fun h' c' kp e => fin its r' hz h' c' kp e) (by simp only [List.size_toArray] <;> omega)
  · obtain ⟨its, r', pl, hz⟩ := I.tuple hq
    have hlen := r'.length
    obtain ⟨o, ho, hc, n, hd⟩ := pl
    exact call_list_seq p (.inr rfl) ho hc hd (fun h' c' kp e => fin its r' hz h' c' kp e) (by simp only [List.size_toArray] <;> omega)
theorem call_tuple_of : CallR X (.type "tuple") (fun xs H Q => ∃ p ys, xs = [.ref p] ∧ ((SqL X.K H p ys ∧ ∀ l, H l = none → Q (.ref l) (upd H l (.tup ys))) ∨ (SqT X.K H p ys ∧ Q (.ref p) H))) := by
  intro pins s σ H xs us Q I r h
  obtain ⟨p, ys, rfl, h⟩ := h
  obtain ⟨u, rfl, rx⟩ := vals1 r
  cases rx
  rcases h with ⟨hq, q⟩ | ⟨hq, q⟩
  · obtain ⟨its, r', pl, hz⟩ := I.list hq
    have hlen := r'.length
    refine call_tuple_list pl.isList (fun h' kp => ?_) (by simp only [List.size_toArray] <;> omega)
    have I1 : Inv X pins σ H { s with heap := h' } := I.kept (t' := s.toks) kp
    have I2 : Inv X pins σ (upd H h'.objs.size (.tup ys)) { s with heap := h'.push { cls := .type "tuple", data := .seq its.toArray } } :=
      I1.laid (t' := s.toks) (fun b o e => Heap.get?_push_of_some _ e) (Nat.le_refl _) (show ObjOk X.prog X.w _ _ _ (.tup ys) from ⟨hz, its, r', IsTup.new _ _⟩)
    exact ⟨.ref h'.objs.size, _, I2, rfl, q _ (I1.hok.fresh (Nat.le_refl _))⟩
  · obtain ⟨its, r', pl, hz⟩ := I.tuple hq
    exact call_tuple_same pl ⟨.ref p, H, I, rfl, q⟩
noncomputable def tyV (K : PySem.W.Frag) (T : String) (x : V) (H : Hp) : Prop := match x with
  | .str _ => T = "str"
  | .int _ => T = "int"
  | .ref p => (T = "list" ∧ ∃ xs, SqL K H p xs) ∨ (T = "tuple" ∧ ∃ o, K.lookup p = some o ∧ o.cls = .type "tuple" ∧ o.dict = none) ∨
      (T = "dict" ∧ ((∃ kvs, H p = some (.dK kvs)) ∨ ∃ kvs, H p = some (.dT kvs))) ∨ (T = "set" ∧ ∃ S n, H p = some (.set S n))
  | _ => False
theorem tyV_is {pins : List (Addr × Obj)} {σ : St} {H : Hp} {s : Shared} {T : String} {x : V} {v : Value} (I : Inv X pins σ H s) (r : RelV x v) (ty : tyV X.K T x H) :
    s.TypeIs v T ∧ ∀ a, v = .ref a → ∃ ob, s.heap.get? a = some ob ∧ ob.dict = none := by
  cases x with
  | str z =>
    obtain ⟨t, rfl⟩ := r
    cases (show T = "str" from ty)
    exact ⟨typeIs_str s z t, fun _ e => nomatch e⟩
  | int i =>
    obtain ⟨t, rfl⟩ := r
    cases (show T = "int" from ty)
    exact ⟨typeIs_int s i t, fun _ e => nomatch e⟩
  | ref p =>
    cases r
    rcases ty with ⟨rfl, xs, hq⟩ | ⟨rfl, o, hk, hc, hd⟩ | ⟨rfl, hk⟩ | ⟨rfl, S, n, hk⟩
    · obtain ⟨its, _, pl, _⟩ := I.list hq
      refine ⟨pl.isList.typeIs, fun a e => ?_⟩
      cases e
      obtain ⟨o, n, e, c, hd, _⟩ := pl
      exact ⟨o, e, hd⟩
    · refine ⟨⟨o, I.kIn p o hk, hc⟩, fun a e => ?_⟩
      cases e
      exact ⟨o, I.kIn _ o hk, hd⟩
    · have z : ∃ o, s.heap.get? p = some o ∧ o.ExactDict := by
        rcases hk with ⟨kvs, hk⟩ | ⟨kvs, hk⟩
        · obtain ⟨_, _, _, _, o, _, _, e, ex, _⟩ := I.hok p _ hk
          exact ⟨o, e, ex⟩
        · obtain ⟨_, _, _, _, o, _, _, e, ex, _⟩ := I.hok p _ hk
          exact ⟨o, e, ex⟩
      obtain ⟨o, e, ex⟩ := z
      refine ⟨⟨o, e, ex.1⟩, fun a e2 => ?_⟩
      cases e2
      exact ⟨o, e, ex.2.1⟩
    · obtain ⟨o, _, _, _, e, ex, _⟩ := I.hok p _ hk
      refine ⟨⟨o, e, ex.1⟩, fun a e2 => ?_⟩
      cases e2
      exact ⟨o, e, ex.2.1⟩
  | _ => exact False.elim ty
noncomputable def tBM (K : PySem.W.Frag) (T : String) (r : V → List V → Hp → VK → Prop) (to : TE) (t : TA) : TE := fun σ H Q => to σ H fun x H1 => tyV K T x H1 ∧ t σ H1 fun xs H2 => r x xs H2 Q
variable {o e : Expr} {es : List Expr} {to : TE} {t : TA} {name : Str} {apos cpos : Pos} {T id : String} {r : V → List V → Hp → VK → Prop}
theorem pe_bm (pa : PlainAttrs T) (slot : Slot T name id) (hty : typeOf (.builtin id) = pure (.type "method_descriptor")) (hm : MtR X id r) (ho : PE X o to) (ha : PA X (e :: es) t)
    (hbase : attributeBase o name X.env (eval o X.env) = eval o X.env := by rfl)
    (hfew : ((backTo cpos (starEach (e :: es) X.env)).all (fun x => !x.1) && (backToKw cpos (keywordEach [] X.env)).all (fun x => x.1.isSome)
      && decide ((e :: es).length + ([] : List Keyword).length + (if ([] : List Keyword).isEmpty then 0 else 1) < 30)) = true := by rfl)
    (hline : (apos.endLine == cpos.line) = true := by rfl) (hs : starEach (e :: es) X.env = (false, eval e X.env) :: starEach es X.env := by rfl) (hplain : (backTo cpos (starEach es X.env)).any (·.1) = false := by rfl) :
    PE X (.Call (.Attribute o name apos) (e :: es) [] cpos) (tBM X.K T r to t) := by
  intro pins s σ H Q I h
  refine wpAny_Call_method_late hbase hfew hline rfl (thn (ho pins s σ H _ I h) fun v s1 z9 => ?_)
  obtain ⟨x, H1, I1, r1, ty, q1⟩ := z9
  obtain ⟨h1, h2⟩ := tyV_is I1 r1 ty
  refine ⟨T, id, pa, slot, hty, h1, h2, ?_⟩
  have hA := ha cpos pins s1 σ H1 _ I1 q1
  rw [hs] at hA ⊢
  refine Calls.callWith_builtin (by show (false || (backTo cpos (starEach es X.env)).any (·.1)) = false; rw [hplain] <;> rfl) (Calls.evalArgs_plain ?_)
  exact thn hA fun us s2 ⟨vs, H2, I2, r2, q2⟩ => hm pins s2 σ H2 x vs v us Q I2 r1 r2 q2
/- xs.append(e), list.index on a module's tuple .. are MtR facts of 06m -/
end
end L2
namespace L2
open PySem PySem.Spec PyProof.Rows
noncomputable def MtM (X : Cx) (id : String) (r : V → List V → Hp → VK → Prop) : Prop :=
  ∀ (pins : List (Addr × Obj)) (s : Shared) (σ : St) (H : Hp) (x : V) (xs : List V) (v : Value) (us : List Value) (Q : VK), Inv X pins σ H s → RelV x v → Vals xs us → r x xs H Q →
    wpAny (model X.prog X.w) X.A (call (.builtin id) (v :: us)) (EP X pins σ Q) X.xe s
theorem Vals.one {x : V} {us : List Value} (h : Vals [x] us) : ∃ u, us = [u] ∧ RelV x u := by
  cases h with
  | cons r h => cases h; exact ⟨_, rfl, r⟩
theorem Vals.two {x y : V} {us : List Value} (h : Vals [x, y] us) : ∃ u v, us = [u, v] ∧ RelV x u ∧ RelV y v := by
  cases h with
  | cons r h => cases h with
    | cons q h => cases h; exact ⟨_, _, rfl, r, q⟩
theorem Vals.rep {xs : List V} {us : List Value} (h : Vals xs us) : ∀ k : Nat, Vals (List.replicate k xs).flatten (List.replicate k us).flatten
  | 0 => .nil
  | k + 1 => by
    rw [List.replicate_succ, List.replicate_succ, List.flatten_cons, List.flatten_cons]
    exact Vals.append h (Vals.rep h k)
theorem foldl_rep (its : List Value) : ∀ (k : Nat) (acc : List Value),
    List.foldl (fun x1 x2 => x1 ++ x2) acc.toArray (List.replicate k its.toArray) = (acc ++ (List.replicate k its).flatten).toArray
  | 0, acc => by simp
  | k + 1, acc => by
    have e : acc.toArray ++ its.toArray = (acc ++ its).toArray := by simp
    have e2 : (acc ++ its) ++ (List.replicate k its).flatten = acc ++ (List.replicate (k + 1) its).flatten := by
      rw [List.replicate_succ, List.flatten_cons, List.append_assoc]
    rw [← e2, ← foldl_rep its k (acc ++ its), ← e, List.replicate_succ, List.foldl_cons]
section
variable {X : Cx} {pins : List (Addr × Obj)} {σ : St} {H : Hp} {s : Shared} {l b : Addr} {xs ys zs : List V}
theorem Inv.lset {its its' : List Value} {n : Nat} {f : Array Value → Array Value} {t' : Nat} (I : Inv X pins σ H s) (hH : H l = some (.lst xs))
    (e : s.heap.get? l = some { cls := .type "list", data := .seq its.toArray n }) (hf : f its.toArray = its'.toArray) (hv : Vals ys its') (hz : ys.length ≤ sizeLine) :
    Inv X pins σ (upd H l (.lst ys)) { s with heap := s.heap.update l (Obj.mapSeq f), toks := t' } := by
  have q := PySem.IsL.update e f
  rw [hf] at q
  refine I.write (x := l) (e := l) (by rw [hH]; exact trivial) (.inl rfl) (fun b' u hb hu => (Heap.get?_update_other s.heap (Obj.mapSeq f) (Ne.symm hb)).trans hu) ⟨_, q⟩ ?_
  exact ⟨hz, its', _, hv, q⟩
theorem Inv.lnew {its : List Value} {t' : Nat} (I : Inv X pins σ H s) (hv : Vals ys its) (hz : ys.length ≤ sizeLine) :
    Inv X pins σ (upd H s.heap.objs.size (.lst ys)) { s with heap := s.heap.push { cls := .type "list", data := .seq its.toArray }, toks := t' } :=
  I.laid (fun _ _ q => Heap.get?_push_of_some _ q) (Nat.le_refl _) ⟨hz, its, 0, hv, Heap.get?_push_size _ rfl⟩
theorem Inv.fresh (I : Inv X pins σ H s) : H s.heap.objs.size = none := I.hok.fresh (Nat.le_refl _)
theorem Inv.lstM (I : Inv X pins σ H s) (hH : H l = some (.lst xs)) : xs.length ≤ sizeLine ∧ ∃ (its : List Value) (n : Nat), Vals xs its ∧ xs.length = its.length ∧ s.heap.get? l = some { cls := .type "list", data := .seq its.toArray n } := by
  obtain ⟨z, its, n, r, e⟩ := I.hok l _ hH
  exact ⟨z, its, n, r, r.length, e⟩
theorem notLongL {n : Nat} (h : n ≤ sizeLine) : Builtin.List.listTooLong n = false := by
  unfold Builtin.List.listTooLong
  exact decide_eq_false (by omega)
end
section
variable {X : Cx}
noncomputable def rAppend : V → List V → Hp → VK → Prop := fun x vs H Q => ∃ l xs y, x = .ref l ∧ vs = [y] ∧ H l = some (.lst xs) ∧ xs.length < sizeLine ∧ Q .non (upd H l (.lst (xs ++ [y])))
theorem mt_append : MtM X "list.append" rAppend := by
  intro pins s σ H x vs v us Q I rx rv h
  obtain ⟨l, xs, y, rfl, rfl, hH, hz, q⟩ := h
  cases rx
  obtain ⟨u, rfl, ru⟩ := rv.one
  obtain ⟨z, its, n, r, hl, e⟩ := I.lstM hH
  refine call_meets F.slot_list_append ⟨_, e, rfl⟩ F.entry_list_append (F.args_list_append_2 _ _) (PySem.list_append l its.toArray n u (by rw [List.size_toArray]; omega)) ⟨e, ?_⟩
  refine ⟨.non, _, I.lset (its' := its ++ [u]) hH e (by simp) (r.append (.cons ru .nil)) ?_, rfl, q⟩
  rw [List.length_append, List.length_singleton]
  omega
noncomputable def rCat : R2 := fun x y H Q => ∃ l b xs zs, x = .ref l ∧ y = .ref b ∧ H l = some (.lst xs) ∧ H b = some (.lst zs) ∧ xs.length + zs.length ≤ sizeLine ∧ ∀ p, H p = none → Q (.ref p) (upd H p (.lst (xs ++ zs)))
theorem op_cat : OpR X (binaryOp .Add) rCat := by
  intro pins s σ H x y v u Q I rx ry h
  obtain ⟨l, b, xs, zs, rfl, rfl, hH, hB, hz, q⟩ := h
  cases rx
  cases ry
  obtain ⟨z, its, n, r, hl, e⟩ := I.lstM hH
  obtain ⟨z2, its2, n2, r2, hl2, e2⟩ := I.lstM hB
  refine PySem.P.add_list e e2 ?_ (by rw [List.size_toArray, List.size_toArray]; omega)
  have ea : its.toArray ++ its2.toArray = (its ++ its2).toArray := by simp
  rw [ea]
  exact ⟨.ref _, _, I.lnew (t' := s.toks) (r.append r2) (by rw [List.length_append]; omega), rfl, q _ I.fresh⟩
noncomputable def rRep : R2 := fun x y H Q => ∃ l k xs, x = .ref l ∧ y = .int k ∧ H l = some (.lst xs) ∧ -(2 ^ 63) ≤ k ∧ k < 2 ^ 63 ∧ xs.length * k.toNat ≤ sizeLine ∧
  ∀ p, H p = none → Q (.ref p) (upd H p (.lst (List.replicate k.toNat xs).flatten))
theorem len_rep {α : Type} (xs : List α) (k : Nat) : (List.replicate k xs).flatten.length = k * xs.length := by
  induction k with
  | zero => simp
  | succ k ih => rw [List.replicate_succ, List.flatten_cons, List.length_append, ih, Nat.succ_mul, Nat.add_comm]
theorem op_rep : OpR X (binaryOp .Mult) rRep := by
  intro pins s σ H x y v u Q I rx ry h
  obtain ⟨l, k, xs, rfl, rfl, hH, h1, h2, hz, q⟩ := h
  cases rx
  obtain ⟨t, rfl⟩ := ry
  obtain ⟨z, its, n, r, hl, e⟩ := I.lstM hH
  have hlen : its.toArray.size * k.toNat ≤ sizeLine := by rw [List.size_toArray, ← hl]; exact hz
  have hcap : ¬ its.toArray.size * k.toNat > (2 ^ 63 - 1) / 8 := by
    have : (sizeLine : Nat) ≤ (2 ^ 63 - 1) / 8 := by decide
    omega
  have hfit : ¬ (!Builtin.List.listFitsIndex k) = true := by
    rw [fitsIndex_both h1 h2]
    exact Bool.false_ne_true
  have hlong : ¬ Builtin.List.listTooLong (its.toArray.size * k.toNat) = true := by
    rw [notLongL hlen]
    exact Bool.false_ne_true
  have hnew : List.foldl (fun x1 x2 => x1 ++ x2) #[] (List.replicate (if its.toArray.isEmpty = true then 0 else k.toNat) its.toArray) = (List.replicate k.toNat its).flatten.toArray := by
    have f0 : ∀ m : Nat, List.foldl (fun x1 x2 => x1 ++ x2) #[] (List.replicate m its.toArray) = (List.replicate m its).flatten.toArray := fun m => by
      have := foldl_rep its m []
      rw [List.nil_append] at this
      exact this
    rw [f0]
    cases its with
    | nil => simp
    | cons a r' => rw [if_neg (by simp)]
  refine wpAny_binaryOp_repeat_ref (T := "list") (U := "int") (by decide) ⟨_, e, rfl⟩ (fun s' => typeIs_int s' k t) noFill_list_mul F.fills_int_mul F.slot_int_rmul repeat_list F.slot_int_index.lookup
    (call_meets F.slot_int_rmul (typeIs_int s k t) F.entry_int_rmul (F.args_int_rmul_2 _ _) (int___rmul___int_list k t l its.toArray n)
      ⟨e, rfl, ⟨_, e, rfl⟩, call_meets F.slot_list_mul ⟨_, e, rfl⟩ F.entry_list_mul (F.args_list_mul_2 _ _) (AutoListH.list___mul___list_int_3 l its.toArray n k t hfit hcap hlong) ⟨e, ?_⟩⟩)
  rw [hnew]
  exact ⟨.ref _, _, I.lnew (t' := s.toks) (r.rep k.toNat) (by rw [len_rep, Nat.mul_comm]; exact hz), rfl, q _ I.fresh⟩
end
section
variable {prog : Program} {w : World} {A : Around} {E : Value → Shared → Prop} {s : Shared}
end
section
variable {X : Cx}
end
end L2
namespace Att
open PySem PySem.W PySem.Calls PyProof.Rows
theorem ints_of_wellAll {P : Params} {h : Heap} : ∀ (ns : List Int) (vs : List Value), WellAll P h vs (ns.map WData.int) → IntsAre vs ns := by
  intro ns
  induction ns with
  | nil =>
    intro vs w
    rw [List.map_nil] at w
    cases w
    exact .nil
  | cons n ns ih =>
    intro vs w
    rw [List.map_cons] at w
    cases w with
    | cons a b =>
      cases a
      exact .cons _ _ (ih _ b)
theorem script_of {l : OpenLaw} {n : Nat} (hn : l.most = some n) {P : Params} {h : Heap} {args : List WData} {vals : List Value}
    (hpre : l.row.toRowW.claim.pre args = true) (hwl : WellAll P h vals args) :
    ∃ a vs ns, vals = [Value.ref a] ∧ args = [WData.list (ns.map WData.int)] ∧ h.get? a = some { cls := .type "list", data := .seq vs.toArray } ∧ IntsAre vs ns ∧ ns.length ≤ n := by
  have hsh : WShape.hasAll [] args [.list .int] = true := (pre_splitW hpre).1
  have hc : l.pre.holds [] { args := args } = true := (pre_splitW hpre).2
  obtain ⟨d, r, rfl, h1, h2⟩ := hasAllW_cons hsh
  obtain rfl := hasAllW_nil h2
  obtain ⟨xs, rfl, h3⟩ := hasW_list h1
  obtain ⟨ns, rfl⟩ := items_int h3
  have hlen : ns.length ≤ n := by
    unfold OpenLaw.pre at hc
    have h4 : (WTm.not (.lt (.lit (.int (n : Int))) (.len (.arg 0)))).holds [] { args := [.list (ns.map .int)] } = true := by
      have h4 := (holds_andW hc).1
      rw [hn] at h4
      exact h4
    have h5 := condW_of h4 (w_not (w_lt w_lit (w_len_list (w_arg rfl))))
    rw [List.length_map] at h5
    refine Nat.le_of_not_lt fun q => ?_
    have q' : (n : Int) < ((ns.length : Nat) : Int) := by omega
    first
      | (rw [decide_eq_true q'] at h5; exact absurd h5 (by decide))
      | (simp at h5; omega)
  cases hwl with
  | cons w1 w2 =>
    cases w2
    cases w1 with
    | list ho hall => exact ⟨_, _, ns, rfl, rfl, ho, ints_of_wellAll ns _ hall, hlen⟩
theorem post_true (l : OpenLaw) (args : List WData) : l.row.toRowW.claim.post args (.bool true) args = true :=
  postW_of (r := l.row.toRowW) (X := (true == true))
    (show WShape.has [] (.bool true) .bool = true by first | rfl | decide | simp [WShape.has, WShape.arms, WShape.armsAll])
    (show (WTm.eq .res (.lit (.bool true))).value [] { args := args, res := some (.bool true), after := args } = some (.bool (true == true)) from w_eq_bool (w_res rfl) w_lit) rfl
theorem attach_call {l : OpenLaw} {n : Nat} {q : Program} {loose : List Str} {XP : (Str → Option Value) → Heap → Prop} {YP : World → Heap → Prop} {d : DefRec}
    (hn : l.most = some n) (hdf : d.params.defaults = [])
    (call : ∀ (w : World) (s₀ s₁ : Shared) (mg mb : Str → Option Value) (fa : Addr) (o : Obj) (pm cd doc : Value) (a : Addr) (vs : List Value) (ns : List Int),
      Ground q loose [] XP w s₀ mg mb s₁.heap → YP w s₁.heap →
      s₁.heap.get? fa = some o → o.data = .func (docDef d.name d.params d.body d.scope pm cd doc) → s₁.heap.CodeRec cd d.name → mg d.name = some (.ref fa) →
      s₁.heap.get? a = some { cls := .type "list", data := .seq vs.toArray } → IntsAre vs ns → ns.length ≤ n → s₁.gens = #[] →
      codeAny (model l.prog w) callerA (.call (.ref fa) ⟨[.ref a], []⟩) (fun r s' => r = .ok (.ret (.bool true)) ∧ OldK s₁.heap s'.heap ∧ s'.os = s₁.os ∧ AllBare s'.gens) s₁) :
    WalkO q loose XP YP l.row.toRowW d [] (fun f vs => PySem.call f vs) := by
  intro w s₀ s₁ mg mb G Y fa o pm cd doc dV kV ho hd hcd hD hmg hg args vals as hpre hlay hrd hwl hlo
  obtain rfl : dV = .none := Dflts.none hD hdf
  obtain rfl : kV = .none := Dflts.noKw hD
  obtain ⟨a, vs, ns, rfl, rfl, hobj, hints, hlen⟩ := script_of hn hpre hwl
  refine enter_call (codeAny_mono (call w s₀ s₁ mg mb fa o pm cd doc a vs ns G Y ho (fd_plain hd) hcd hmg hobj hints hlen hg) fun r s' hq => ?_)
  obtain ⟨rfl, h2, h3, h4⟩ := hq
  exact ⟨.inl ⟨.bool true, .bool true, [], rfl, fun _ => rfl, .bool true, post_true l _, fun _ => ⟨List.Pairwise.nil, fun _ hm => (nomatch hm)⟩⟩, h2, h3, h4⟩
section
variable {prog : Program} {w : World} {A : Around} {E : Value → Shared → Prop} {s : Shared} {K : Frag}
end
end Att
namespace L2
open PySem PySem.Spec PyProof.Rows
theorem vals_ints : ∀ {vs : List Value} {ns : List Int}, IntsAre vs ns → Vals (ns.map V.int) vs
  | _, _, .nil => .nil
  | _, _, .cons n t h => .cons ⟨t, rfl⟩ (vals_ints h)
noncomputable def Only (H : Hp) : Prop := ∀ b, H b = none ∨ ∃ o xs, H b = some (.frz o (.lst xs))
theorem law_call {P : Program} {w : World} {K : PySem.W.Frag} {mg mb : Str → Option Value} {CX : CXT} {k : Nat} {fa a : Addr} {fd : FuncData} {x : Str} {sp : Sp} {s₁ : Shared} {vs : List Value} {ns : List Int}
    (KX : K.In s₁.heap) (hns : s₁.heap.Ns mainGlobals mg) (hb : s₁.heap.Ns builtinsNs mb) (hbb : ∀ x : Str, x ≠ "__name__" → mb x = bootBuiltins x) (hlim : s₁.heap.NoLimit) (hg : s₁.gens = #[])
    (ha : s₁.heap.get? a = some { cls := .type "list", data := .seq vs.toArray }) (hi : IntsAre vs ns) (hl : ns.length ≤ sizeLine) (hr : Room k callerA)
    (F : ∀ base : Heap, K.In base → base.Ns mainGlobals mg → FnOk P w K mg base CX k fa fd [x] sp) (hbind : ∀ (s : Shared) (u : Value), BindsTo s fd ⟨[u], []⟩ [(x, u)])
    (hsp : ∀ H : Hp, Only H → SqL K H a (ns.map V.int) → sp [.ref a] H (fun v _ => v = .bl true) fun _ _ _ => False)
    (hCX : ∀ H e s', CX [] H s₁ (fun _ _ _ => False) e s' → False) :
    codeAny (model P w) callerA (.call (.ref fa) ⟨[.ref a], []⟩) (fun r s' => r = .ok (.ret (.bool true)) ∧ OldK s₁.heap s'.heap ∧ s'.os = s₁.os ∧ AllBare s'.gens) s₁ := by
  have rv := vals_ints hi
  have lenV := hi.length
  have core : ∀ H : Hp, Only H → SqL K H a (ns.map V.int) → HOk P w H s₁.heap → (∀ b, H b ≠ none → b = a) → (H a ≠ none → K.lookup a = none) →
      codeAny (model P w) callerA (.call (.ref fa) ⟨[.ref a], []⟩) (fun r s' => r = .ok (.ret (.bool true)) ∧ OldK s₁.heap s'.heap ∧ s'.os = s₁.os ∧ AllBare s'.gens) s₁ := by
    intro H hO hS hok hA hK
    have base_of : ∀ {b : Addr} {o : Obj}, s₁.heap.get? b = some o → H b = none → (hidT s₁.heap H).get? b = some o := fun e n => hidT_get e n
    have noA : ∀ {b : Addr} {o : Obj} {es : Array DictEntry} {ep : Nat}, s₁.heap.get? b = some o → o.data = .dict es ep → H b = none := fun {b o es ep} e d => by
      cases q : H b with
      | none => rfl
      | some u =>
        have e' : b = a := hA b (by rw [q]; simp)
        subst e'
        rw [ha] at e; cases e
        have d' : Data.seq vs.toArray _ = Data.dict es ep := d
        cases d'
    have nsK : ∀ {b : Addr} {m : Str → Option Value}, s₁.heap.Ns b m → (hidT s₁.heap H).Ns b m := fun {b m} ⟨o, es, ep, e, d, r⟩ => ⟨o, es, ep, base_of e (noA e d), d, r⟩
    have hKb : K.In (hidT s₁.heap H) := fun b o e => base_of (KX b o e) (by
      cases q : H b with
      | none => rfl
      | some u =>
        have e' : b = a := hA b (by rw [q]; simp)
        subst e'
        rw [hK (by rw [q]; simp)] at e; cases e)
    have hM : Mod K mg (hidT s₁.heap H) := ⟨hKb, nsK hns, ⟨mb, nsK hb, hbb⟩, let ⟨mc, h1, h2⟩ := hlim; ⟨mc, nsK h1, h2⟩⟩
    have e0 : Env0 P w K mg (hidT s₁.heap H) callerA [] s₁ H := ⟨rfl, hM, fun b o e => of_hidT e, Nat.le_of_eq (hidT_size _ _), trivial, fun b hb => absurd (show b ∈ ([] : List Addr) from hb) (by simp), hok, .of_eq hg⟩
    refine codeAny_mono ((F _ hKb (nsK hns)).run callerA [] s₁ H ⟨[.ref a], []⟩ [.ref a] [.ref a] _ _ hr e0 (hbind s₁ (.ref a)) (.cons rfl .nil) (hsp H hO hS)) fun r s' h => ?_
    cases r with
    | error e => exact (hCX H e s' h).elim
    | ok fl =>
      cases fl with
      | next => exact False.elim h
      | brk => exact False.elim h
      | cont => exact False.elim h
      | ret u =>
        obtain ⟨v, H', os, bare, un, hok', r', q⟩ := h
        have q' : v = .bl true := q
        subst q'
        obtain rfl : u = Value.bool true := r'
        refine ⟨rfl, OldK.of_keep fun b o e => ?_, os, bare⟩
        cases q : H b with
        | none => exact un.keep b o e q (by intro z; exact absurd (show b ∈ ([] : List Addr) from z) (by simp)) (by simp)
        | some u =>
          rcases hO b with z | ⟨ob, xs, z⟩
          · rw [q] at z; cases z
          · have z2 := un.frzs b ob _ z
            obtain ⟨e1, _⟩ := hok b _ z
            obtain ⟨e2, _⟩ := hok' b _ z2
            rw [e] at e1; cases e1
            exact e2
  cases hk : K.lookup a with
  | some o =>
    have e := KX a o hk
    rw [ha] at e
    cases e
    refine core (fun _ => none) (fun _ => .inl rfl) (.inr ⟨_, vs.toArray, _, hk, rfl, rfl, rfl, by rw [List.size_toArray, lenV]; exact hl, by simpa using rv⟩) (fun b u z => by have z' : (none : Option HO) = some u := z; cases z') (fun b z => absurd rfl z) fun z => absurd rfl z
  | none =>
    refine core (fun b => if b = a then some (.frz { cls := .type "list", data := .seq vs.toArray } (.lst (ns.map V.int))) else none) (fun b => ?_) (.inl (.inr ⟨{ cls := .type "list", data := .seq vs.toArray }, if_pos rfl⟩)) (fun b u z => ?_) (fun b z => ?_) fun _ => hk
    · by_cases hb : b = a
      · exact .inr ⟨_, _, if_pos hb⟩
      · exact .inl (if_neg hb)
    · by_cases hb : b = a
      · have z' := (if_pos hb).symm.trans z
        cases z'
        subst hb
        exact ⟨ha, by rw [List.length_map]; exact hl, vs, _, rv, ha⟩
      · have z' := (if_neg hb).symm.trans z
        cases z'
    · by_cases hb : b = a
      · exact hb
      · exact absurd (if_neg hb) z
end L2
namespace L2
open PySem PySem.Spec PyProof.Rows
theorem walk_of {l : PySem.W.OpenLaw} {n k : Nat} {q : Program} {loose : List Str} {XP : (Str → Option Value) → Heap → Prop} {YP : World → Heap → Prop} {d : DefRec} {K : Params → PySem.W.Frag} {CX : World → CXT} {sp : World → Sp} {x : Str}
    (hn : l.most = some n) (hn2 : n ≤ sizeLine) (hdf : d.params.defaults = []) (hr : Room k callerA)
    (hY : ∀ (w : World) (h : Heap), YP w h → (K w.params).In h)
    (F : ∀ (w : World) (mg : Str → Option Value) (fa : Addr) (h : Heap), (K w.params).In h → h.Ns mainGlobals mg → mg d.name = some (.ref fa) →
      ∃ fd : FuncData, (∀ (s : Shared) (u : Value), BindsTo s fd ⟨[u], []⟩ [(x, u)]) ∧
        ∀ base : Heap, (K w.params).In base → base.Ns mainGlobals mg → FnOk l.prog w (K w.params) mg base (CX w) k fa fd [x] (sp w))
    (hsp : ∀ (w : World) (H : Hp) (a : Addr) (ns : List Int), ns.length ≤ n → Only H → SqL (K w.params) H a (ns.map V.int) → sp w [.ref a] H (fun v _ => v = .bl true) fun _ _ _ => False)
    (hCX : ∀ (w : World) (H : Hp) (s : Shared) (e : Value) (s' : Shared), CX w [] H s (fun _ _ _ => False) e s' → False) :
    PySem.W.WalkO q loose XP YP l.row.toRowW d [] (fun f vs => PySem.call f vs) := by
  refine Att.attach_call hn hdf fun w s₀ s₁ mg mb fa o pm cd doc a vs ns G Y ho hd hcd hmg hobj hints hlen hg => ?_
  have KX := hY w _ Y
  obtain ⟨fd, hb, hF⟩ := F w mg fa _ KX G.T.g hmg
  exact law_call KX G.T.g G.T.b G.T.builtins G.T.nolimit hg hobj hints (Nat.le_trans hlen hn2) hr hF hb (fun H hO hS => hsp w H a ns hlen hO hS) fun H e s' => hCX w H s₁ e s'
end L2
/- THE LAST THEOREM (shape; LID, My.* are yours):
   My.Adr: a structure of the addresses that your layer names (classes, functions); My.Txt K t: a structure (Prop) of the equations over K;
   My.txt_mk : {K} {implicit addresses ..} (e1 : nsIn K mainGlobals "law" = some (some (.ref f))) (e2 : K.lookup f = some ⟨oc, od, .func (fnOf "law" "law" params body scope dV kV doc pm an cdv ct), sl⟩) (e3 : codeIn K cdv "law" = true) .. : ∃ t, My.Txt K t
(the tactic k_is has no namespace: write k_is) -/
namespace L2
open PySem PySem.Spec PyProof.Rows
noncomputable def inClass (s : Stmt) (j : Nat) : Stmt := match s with
  | .ClassDef _ _ _ body _ _ _ _ _ _ _ => body.getD j (.Pass ⟨0, 0, 0, 0⟩)
  | _ => .Pass ⟨0, 0, 0, 0⟩
noncomputable def defArgs (s : Stmt) : Arguments := match s with
  | .FunctionDef _ a _ _ _ _ _ _ _ _ => a
  | _ => { posonlyargs := [], args := [], vararg := none, kwonlyargs := [], kw_defaults := [], kwarg := none, defaults := [] }
noncomputable def defBody (s : Stmt) : List Stmt := match s with
  | .FunctionDef _ _ b _ _ _ _ _ _ _ => b
  | _ => []
noncomputable def defScope (s : Stmt) : Scope := match s with
  | .FunctionDef _ _ _ _ _ _ sc _ _ _ => sc
  | _ => { kind := .function, names := [], isGenerator := false, isCoroutine := false }
noncomputable abbrev CX0 : CXT := fun _ _ _ _ _ _ => False
noncomputable abbrev E0 : XK := fun _ _ _ => False
theorem pass0 {X : Cx} : Passes CX0 X E0 := fun _ _ _ _ _ _ _ h => h.elim
structure Fun (K : PySem.W.Frag) (x qual : Str) (st : Stmt) (f : Addr) (fd : FuncData) : Prop where
  ex : ∃ (oc : Value) (od : Option Addr) (kV doc pm : Value) (an : Option Addr) (cdv ct : Value) (osl : Array (Option Value)),
    fd = PySem.W.fnOf x qual (defArgs st) (defBody st) (defScope st) .none kV doc pm an cdv ct ∧ K.lookup f = some ⟨oc, od, .func fd, osl⟩ ∧ PySem.W.codeIn K cdv qual = true
  kp : PySem.W.keepIn K (.ref f) = true
section
variable {P : Program} {w : World} {K : PySem.W.Frag} {mg : Str → Option Value} {base : Heap}
theorem Fun.ok {x qual : Str} {st : Stmt} {f : Addr} {fd : FuncData} {N ps : List Str} {k : Nat} {sp : Sp} (F : Fun K x qual st f fd) (S : FnScope N ps (defScope st)) (len : ∀ vs H Q E, sp vs H Q E → vs.length = ps.length)
    (hbody : ∀ (cdv : Value) (A : Around) (outer : List Env) (s : Shared) (H : Hp) (vs : List V) (Q : VK) (E : XK), Room k (A.deeper (envOfC qual (defScope st) s.heap.objs.size f cdv)) → sp vs H Q E →
      ∃ t, PSs (cxOf CX0 P w K mg base N qual (defScope st) f cdv A outer s H E).nox (defBody st) t ∧ t { nx := fun _ H' => Q .non H', rt := Q } (start N vs) H) : FnOk P w K mg base CX0 (k + 1) f fd ps sp := by
  obtain ⟨oc, od, kV, doc, pm, an, cdv, ct, osl, rfl, lk, hcd⟩ := F.ex
  refine fn_of lk hcd S len fun A outer s H vs Q E hr hsp => ?_
  obtain ⟨t, h, q⟩ := hbody cdv A outer s H vs Q E hr hsp
  exact ⟨t, h.nox, q⟩
theorem Fun.binds {x qual : Str} {st : Stmt} {f : Addr} {fd : FuncData} {ps : List Str} (F : Fun K x qual st f fd)
    (h : ∀ (kV doc pm : Value) (an : Option Addr) (cdv ct : Value) (us : List Value), us.length = ps.length → bindArgs (PySem.W.fnOf x qual (defArgs st) (defBody st) (defScope st) .none kV doc pm an cdv ct) ⟨us, []⟩ = pure (ps.zip us)) : Binds K fd ps [] := by
  obtain ⟨oc, od, kV, doc, pm, an, cdv, ct, osl, rfl, lk, hcd⟩ := F.ex
  exact .all (h kV doc pm an cdv ct)
theorem fun_mk {x qual : Str} {st : Stmt} {f : Addr} {oc : Value} {od an : Option Addr} {osl : Array (Option Value)} {kV doc pm cdv ct : Value} (l : K.lookup f = some ⟨oc, od, .func (PySem.W.fnOf x qual (defArgs st) (defBody st) (defScope st) .none kV doc pm an cdv ct), osl⟩)
    (c : PySem.W.codeIn K cdv qual = true) (k : PySem.W.keepIn K (.ref f) = true) : Fun K x qual st f (PySem.W.fnOf x qual (defArgs st) (defBody st) (defScope st) .none kV doc pm an cdv ct) := ⟨⟨oc, od, kV, doc, pm, an, cdv, ct, osl, rfl, l, c⟩, k⟩
end
theorem small1000 {n : Nat} (h : n ≤ 1000) : n < sizeLine := Nat.lt_of_le_of_lt h (by decide)
section
variable {X : Cx}
end
noncomputable def Same (H H' : Hp) : Prop := ∀ b o, H b = some o → H' b = some o
end L2
namespace L2
open PySem PySem.Spec PyProof.Rows
section
variable {κ : Type} [DecidableEq κ]
noncomputable def valV (kvs : List (κ × V)) (k : κ) : Option V := (kvs.find? fun kv => decide (kv.1 = k)).map (·.2)
noncomputable def putK (kvs : List (κ × V)) (k : κ) (v : V) : List (κ × V) :=
  if (kvs.any fun kv => decide (kv.1 = k)) = true then kvs.map (fun kv => if kv.1 = k then (kv.1, v) else kv) else kvs ++ [(k, v)]
noncomputable def dropK (kvs : List (κ × V)) (k : κ) : List (κ × V) := kvs.filter fun kv => decide (kv.1 ≠ k)
theorem valV_pos {p : κ × V} {r : List (κ × V)} {k : κ} (e : p.1 = k) : valV (p :: r) k = some p.2 := by simp [valV, List.find?_cons, e]
theorem valV_neg {p : κ × V} {r : List (κ × V)} {k : κ} (e : ¬ p.1 = k) : valV (p :: r) k = valV r k := by simp [valV, List.find?_cons, e]
theorem valV_any (k : κ) : ∀ kvs : List (κ × V), (kvs.any fun kv => decide (kv.1 = k)) = (valV kvs k).isSome
  | [] => rfl
  | p :: r => by
    rw [List.any_cons]
    by_cases e : p.1 = k
    · simp only [valV_pos e, decide_eq_true e, Bool.true_or, Option.isSome_some]
    · rw [valV_neg e, decide_eq_false e, Bool.false_or]; exact valV_any k r
theorem length_putK (kvs : List (κ × V)) (k : κ) (v : V) : (putK kvs k v).length ≤ kvs.length + 1 := by
  unfold putK
  split
  · rw [List.length_map]; omega
  · rw [List.length_append, List.length_cons, List.length_nil]; omega
theorem RelO.isSome_eq {o : Option V} {u : Option Value} (r : RelO o u) : o.isSome = u.isSome := by
  cases o with
  | none => cases u with
    | none => rfl
    | some _ => exact (show False from r).elim
  | some _ => cases u with
    | none => exact (show False from r).elim
    | some _ => rfl
theorem KV.val {kvs : List (κ × V)} {vs : List (κ × Value)} (r : KV kvs vs) (k : κ) : RelO (valV kvs k) (valueAt vs k) := by
  unfold KV at r
  induction r with
  | nil => exact True.intro
  | @cons p q ps qs h t ih =>
    obtain ⟨h1, h2⟩ := h
    by_cases e : p.1 = k
    · have e' : q.1 = k := h1.symm.trans e
      have b : valueAt (q :: qs) k = some q.2 := by simp [valueAt, List.find?_cons, e']
      rw [valV_pos e, b]; exact h2
    · have e' : ¬ q.1 = k := fun z => e (h1.trans z)
      have b : valueAt (q :: qs) k = valueAt qs k := by simp [valueAt, List.find?_cons, e']
      rw [valV_neg e, b]; exact ih
theorem KV.any {kvs : List (κ × V)} {vs : List (κ × Value)} (r : KV kvs vs) (k : κ) : (kvs.any fun kv => decide (kv.1 = k)) = vs.any fun kv => decide (kv.1 = k) := by
  unfold KV at r
  induction r with
  | nil => rfl
  | cons h t ih => rw [List.any_cons, List.any_cons, ih, h.1]
theorem KV.repl {kvs : List (κ × V)} {vs : List (κ × Value)} (r : KV kvs vs) (k : κ) {y : V} {u : Value} (ry : RelV y u) :
    KV (kvs.map fun kv => if kv.1 = k then (kv.1, y) else kv) (vs.map fun kv => if kv.1 = k then (kv.1, u) else kv) := by
  unfold KV at r ⊢
  induction r with
  | nil => exact .nil
  | @cons p q ps qs h t ih =>
    rw [List.map_cons, List.map_cons]
    refine .cons ?_ ih
    obtain ⟨h1, h2⟩ := h
    by_cases e : p.1 = k
    · rw [if_pos e, if_pos (h1.symm.trans e)]; exact ⟨h1, ry⟩
    · rw [if_neg e, if_neg (fun z => e (h1.trans z))]; exact ⟨h1, h2⟩
theorem KV.put {kvs : List (κ × V)} {vs : List (κ × Value)} (r : KV kvs vs) (k : κ) {y : V} {u : Value} (ry : RelV y u) : KV (putK kvs k y) (stored vs k u) := by
  unfold putK stored
  rw [r.any k]
  by_cases e : (vs.any fun kv => decide (kv.1 = k)) = true
  · rw [if_pos e, if_pos e]; exact r.repl k ry
  · rw [if_neg e, if_neg e]; exact Paired.snoc r ⟨rfl, ry⟩
theorem KV.drop {kvs : List (κ × V)} {vs : List (κ × Value)} (r : KV kvs vs) (k : κ) : KV (dropK kvs k) (without vs k) := by
  unfold KV at r ⊢
  unfold dropK without
  induction r with
  | nil => exact .nil
  | @cons p q ps qs h t ih =>
    obtain ⟨h1, h2⟩ := h
    rw [List.filter_cons, List.filter_cons]
    by_cases e : p.1 = k
    · have a : ¬ decide (p.1 ≠ k) = true := by simp [e]
      have b : ¬ decide (q.1 ≠ k) = true := by simp [h1.symm.trans e]
      rw [if_neg a, if_neg b]; exact ih
    · have e' : ¬ q.1 = k := fun z => e (h1.trans z)
      have a : decide (p.1 ≠ k) = true := by simp [e]
      have b : decide (q.1 ≠ k) = true := by simp [e']
      rw [if_pos a, if_pos b]; exact .cons ⟨h1, h2⟩ ih
theorem KV.keys {kvs : List (κ × V)} {vs : List (κ × Value)} (r : KV kvs vs) : kvs.map (·.1) = vs.map (·.1) := by
  unfold KV at r
  induction r with
  | nil => rfl
  | cons h t ih => rw [List.map_cons, List.map_cons, ih, h.1]
theorem KV.length {kvs : List (κ × V)} {vs : List (κ × Value)} (r : KV kvs vs) : kvs.length = vs.length := Paired.length r
theorem dropK_le (kvs : List (κ × V)) (k : κ) : (dropK kvs k).length ≤ kvs.length := List.length_filter_le _ _
end
theorem kV_is {P : Program} {w : World} {k : Key} {u : Value} (r : RelV (kV k) u) : (mixKind P w).is k u = true := by
  cases k with
  | inl i => obtain ⟨t, e⟩ := (show ∃ t, u = Value.int i t from r); subst e; exact mixKind_int P w i t
  | inr x => obtain ⟨t, e⟩ := (show ∃ t, u = Value.str x t from r); subst e; exact mixKind_str P w x t
theorem items_are {P : Program} {w : World} : ∀ {ks : List Key} {us : List Value}, Vals (ks.map kV) us → ItemsAre (mixKind P w) ks us
  | [], _, r => by rw [List.map_nil] at r; cases r; exact .nil
  | k :: ks, _, r => by
    rw [List.map_cons] at r
    cases r with
    | cons h t => exact .cons (kV_is h) (items_are t)
noncomputable abbrev KT (H : Hp) : List (List Key × V) → List (List Key × Addr × Value) → Prop := Paired fun p q => p.1 = q.1 ∧ H q.2.1 = some (.tup (p.1.map kV)) ∧ RelV p.2 q.2.2
theorem KT.val {H : Hp} {kvs : List (List Key × V)} {xs : List (List Key × Addr × Value)} (r : KT H kvs xs) (k : List Key) : RelO (valV kvs k) ((atKey xs k).map (·.2)) := by
  induction r with
  | nil => exact True.intro
  | @cons p q ps qs h t ih =>
    obtain ⟨h1, _, h2⟩ := h
    by_cases e : p.1 = k
    · have e' : q.1 = k := h1.symm.trans e
      have b : atKey (q :: qs) k = some q.2 := by simp [atKey, List.find?_cons, e']
      rw [valV_pos e, b]; exact h2
    · have e' : ¬ q.1 = k := fun z => e (h1.trans z)
      have b : atKey (q :: qs) k = atKey qs k := by simp [atKey, List.find?_cons, e']
      rw [valV_neg e, b]; exact ih
theorem KT.repl {H : Hp} {kvs : List (List Key × V)} {xs : List (List Key × Addr × Value)} (r : KT H kvs xs) (k : List Key) {y : V} {u : Value} (ry : RelV y u) :
    KT H (kvs.map fun kv => if kv.1 = k then (kv.1, y) else kv) (xs.map (putAt k u)) := by
  induction r with
  | nil => exact .nil
  | @cons p q ps qs h t ih =>
    rw [List.map_cons, List.map_cons]
    refine .cons ?_ ih
    obtain ⟨h1, h2, h3⟩ := h
    unfold putAt
    by_cases e : p.1 = k
    · rw [if_pos e, if_pos (h1.symm.trans e)]; exact ⟨h1, h2, ry⟩
    · rw [if_neg e, if_neg (fun z => e (h1.trans z))]; exact ⟨h1, h2, h3⟩
theorem KT.put {H : Hp} {kvs : List (List Key × V)} {xs : List (List Key × Addr × Value)} (r : KT H kvs xs) (k : List Key) {b : Addr} {y : V} {u : Value} (hb : H b = some (.tup (k.map kV))) (ry : RelV y u) :
    KT H (putK kvs k y) (storedH xs k b u) := by
  have e : (kvs.any fun kv => decide (kv.1 = k)) = (atKey xs k).isSome := by
    rw [valV_any, (r.val k).isSome_eq, Option.isSome_map]
  unfold putK storedH
  rw [e]
  by_cases q : (atKey xs k).isSome = true
  · rw [if_pos q, if_pos q]; exact r.repl k ry
  · rw [if_neg q, if_neg q]; exact Paired.snoc r ⟨rfl, hb, ry⟩
theorem KT.keeps {H H' : Hp} {kvs : List (List Key × V)} {xs : List (List Key × Addr × Value)} (r : KT H kvs xs) (ht : ∀ b ys, H b = some (.tup ys) → H' b = some (.tup ys)) : KT H' kvs xs :=
  Paired.mapP r fun _ _ z => ⟨z.1, ht _ _ z.2.1, z.2.2⟩
section
variable {P : Program} {w : World} {H : Hp} {h : Heap} {a : Addr}
theorem rd_of {u : HO} (ok : HOk P w H h) (e : Rd H a u) : ObjOk P w H h a u := e.ok ok
theorem dk_rd {kvs : List (Key × V)} (ok : HOk P w H h) (e : Rd H a (.dK kvs)) : kvs.length ≤ sizeLine ∧ (a == sysModules) = false ∧ ∃ vs, KV kvs vs ∧ h.DictOf (mixKind P w) a vs :=
  show ObjOk P w H h a (.dK kvs) from rd_of ok e
theorem dk_of {kvs : List (Key × V)} (ok : HOk P w H h) (e : H a = some (.dK kvs)) : kvs.length ≤ sizeLine ∧ (a == sysModules) = false ∧ ∃ vs, KV kvs vs ∧ h.DictOf (mixKind P w) a vs := dk_rd ok (.inl e)
theorem key_of {ks : List Key} (ok : HOk P w H h) (e : H a = some (.tup (ks.map kV))) : (tupleKind (mixKind P w)).is h ks a := by
  obtain ⟨_, its, r, o, h1, h2, n, h3⟩ := (show ObjOk P w H h a (.tup (ks.map kV)) from ok a _ e)
  exact ⟨o, its.toArray, n, h1, h2, h3, by simpa using items_are r⟩
theorem dt_rd {kvs : List (List Key × V)} (ok : HOk P w H h) (e : Rd H a (.dT kvs)) : kvs.length ≤ sizeLine ∧ (a == sysModules) = false ∧
    ∃ xs, KT H kvs xs ∧ h.DictOfH (tupleKind (mixKind P w)) a xs := by
  obtain ⟨z, y, xs, r, o, es, ep, h1, h2, h3, h4, h5⟩ := (show ObjOk P w H h a (.dT kvs) from rd_of ok e)
  refine ⟨z, y, xs, r, o, es, ep, h1, h2, h3, h4, fun x hx => ?_, h5⟩
  have all : ∀ {l : List (List Key × V)} {m : List (List Key × Addr × Value)}, KT H l m → ∀ x ∈ m, (tupleKind (mixKind P w)).is h x.1 x.2.1 := by
    intro l m q
    induction q with
    | nil => intro x hx; exact nomatch hx
    | @cons p q ps qs hq t ih =>
      intro x hx
      rcases List.mem_cons.mp hx with e | hx
      · subst e
        exact key_of ok (by rw [← hq.1]; exact hq.2.1)
      · exact ih x hx
  exact all r x hx
theorem dt_of {kvs : List (List Key × V)} (ok : HOk P w H h) (e : H a = some (.dT kvs)) : kvs.length ≤ sizeLine ∧ (a == sysModules) = false ∧
    ∃ xs, KT H kvs xs ∧ h.DictOfH (tupleKind (mixKind P w)) a xs := dt_rd ok (.inl e)
end
noncomputable def DGet (H : Hp) (a : Addr) (y : V) (r : Option V) : Prop :=
  (∃ kvs k, Rd H a (.dK kvs) ∧ y = kV k ∧ r = valV kvs k) ∨ ∃ kvs k b, Rd H a (.dT kvs) ∧ y = .ref b ∧ H b = some (.tup (k.map kV)) ∧ r = valV kvs k
noncomputable def DPut (H : Hp) (a : Addr) (y v : V) (H' : Hp) : Prop :=
  (∃ kvs k, H a = some (.dK kvs) ∧ y = kV k ∧ kvs.length < sizeLine ∧ H' = upd H a (.dK (putK kvs k v))) ∨
  ∃ kvs k b, H a = some (.dT kvs) ∧ y = .ref b ∧ H b = some (.tup (k.map kV)) ∧ kvs.length < sizeLine ∧ H' = upd H a (.dT (putK kvs k v))
theorem DGet.k {H : Hp} {a : Addr} {kvs : List (Key × V)} {k : Key} (e : H a = some (.dK kvs)) : DGet H a (kV k) (valV kvs k) := .inl ⟨kvs, k, .inl e, rfl, rfl⟩
theorem DPut.k {H : Hp} {a : Addr} {kvs : List (Key × V)} {k : Key} {v : V} (e : H a = some (.dK kvs)) (hl : kvs.length < sizeLine) : DPut H a (kV k) v (upd H a (.dK (putK kvs k v))) := .inl ⟨kvs, k, e, rfl, hl, rfl⟩
section
variable {X : Cx} {pins : List (Addr × Obj)} {σ : St} {H : Hp} {s : Shared} {a : Addr} {y v : V} {u r : Value} {o : Option V} {A : Around} {E : Value → Shared → Prop}
theorem Inv.big (I : Inv X pins σ H s) : sysModules < s.heap.objs.size := by
  have h : mainGlobals < s.heap.objs.size := (I.mod.glob.keeps I.bk).lt
  exact Nat.lt_trans (by decide) h
theorem d_getItem {Q : Value → Shared → Prop} (hu : A.units + 1 < cLine) (I : Inv X pins σ H s) (g : DGet H a y (some v)) (ry : RelV y u) (h : ∀ w' s', Inv X pins σ H s' → RelV v w' → Q w' s') :
    wpAny (model X.prog X.w) A (getItem (.ref a) u) Q E s := by
  rcases g with ⟨kvs, k, e, ey, l⟩ | ⟨kvs, k, b, e, ey, eb, l⟩
  · subst ey
    obtain ⟨z, hd, vs, rel, dd⟩ := dk_rd I.hok e
    obtain ⟨w', hw, rw'⟩ := RelO.some_of (v := v) (o := valueAt vs k) (by rw [l]; exact rel.val k)
    exact wpAny_getItem_of (kV_is ry) dd.mapOf hw (h w' _ (I.tok _) rw')
  · subst ey
    cases (show u = Value.ref b from ry)
    obtain ⟨z, hd, xs, rel, dd⟩ := dt_rd I.hok e
    obtain ⟨w', hw, rw'⟩ := RelO.some_of (v := v) (o := (atKey xs k).map (·.2)) (by rw [l]; exact rel.val k)
    obtain ⟨p, hp, hp2⟩ := Option.map_eq_some_iff.mp hw
    refine wpAny_getItem_heap (tupleKind_room_in1 hu) (key_of I.hok eb) dd hp ?_
    rw [hp2]
    exact h w' _ (I.tok _) rw'
theorem d_in {Q : Value → Shared → Prop} (hu : A.units + 1 < cLine) (I : Inv X pins σ H s) (g : DGet H a y o) (ry : RelV y u) (h : ∀ s', Inv X pins σ H s' → Q (.bool o.isSome) s') :
    wpAny (model X.prog X.w) A (compareOp .In u (.ref a)) Q E s := by
  rcases g with ⟨kvs, k, e, ey, l⟩ | ⟨kvs, k, b, e, ey, eb, l⟩
  · subst ey
    obtain ⟨z, hd, vs, rel, dd⟩ := dk_rd I.hok e
    refine wpAny_in_of (kV_is ry) hd dd.mapOf ?_
    rw [← (rel.val k).isSome_eq, ← l]
    exact h _ (I.tok _)
  · subst ey
    cases (show u = Value.ref b from ry)
    obtain ⟨z, hd, xs, rel, dd⟩ := dt_rd I.hok e
    refine wpAny_in_heap (tupleKind_room_in1 hu) (key_of I.hok eb) hd dd ?_
    have q := (rel.val k).isSome_eq
    rw [Option.isSome_map] at q
    rw [← q, ← l]
    exact h _ (I.tok _)
theorem d_write {h' : Heap} {t' : Nat} {ob : HO} (I : Inv X pins σ H s) (mu : Mut (H a)) (hs : Heap.SameBut a s.heap h') (he : ∃ q, h'.get? a = some q) (new : ObjOk X.prog X.w (upd H a ob) h' a ob) :
    Inv X pins σ (upd H a ob) { s with heap := h', toks := t' } :=
  I.write (x := a) (e := a) mu (.inl rfl) (fun b q hb z => (hs.2 b hb).trans z) he new
theorem dk_new {P : Program} {w : World} {H' : Hp} {h' : Heap} {kvs : List (Key × V)} {vs : List (Key × Value)} (z : kvs.length ≤ sizeLine) (hd : (a == sysModules) = false) (rel : KV kvs vs) (dd : h'.DictOf (mixKind P w) a vs) :
    ObjOk P w H' h' a (.dK kvs) := ⟨z, hd, vs, rel, dd⟩
theorem d_setItem {H' : Hp} {Q : Unit → Shared → Prop} (hu : A.units + 1 < cLine) (I : Inv X pins σ H s) (g : DPut H a y v H') (ry : RelV y u) (rv : RelV v r) (h : ∀ s', Inv X pins σ H' s' → Q () s') :
    wpAny (model X.prog X.w) A (setItem (.ref a) u r) Q E s := by
  rcases g with ⟨kvs, k, e, ey, l, eH⟩ | ⟨kvs, k, b, e, ey, eb, l, eH⟩
  · subst ey eH
    obtain ⟨z, hd, vs, rel, dd⟩ := dk_of I.hok e
    have hz : vs.length ≤ sizeLine := by rw [← rel.length]; exact z
    have hl : (putK kvs k v).length ≤ sizeLine := by have := length_putK kvs k v; omega
    refine wpAny_setItem_pairs (hsz := hz) (kV_is ry) dd fun h' dd' hs => h _ ?_
    have he : ∃ q, h'.get? a = some q := let ⟨q, _, _, hq, _⟩ := dd'; ⟨q, hq⟩
    exact d_write I (by rw [e]; exact True.intro) hs he (dk_new hl hd (rel.put k rv) dd')
  · subst ey eH
    cases (show u = Value.ref b from ry)
    obtain ⟨z, hd, xs, rel, dd⟩ := dt_of I.hok e
    have hz : xs.length ≤ sizeLine := by rw [← Paired.length rel]; exact z
    have hl : (putK kvs k v).length ≤ sizeLine := by have := length_putK kvs k v; omega
    refine wpAny_setItem_heap (hsz := hz) (tupleKind_room_in1 hu) (key_of I.hok eb) dd fun h' dd' hs => h _ ?_
    obtain ⟨q, es, ep, hq, h2, h3, h4, _, h5⟩ := dd'
    refine d_write I (by rw [e]; exact True.intro) hs ⟨q, hq⟩ ⟨hl, hd, _, (rel.put k eb rv).keeps fun c ys ec => ?_, q, es, ep, hq, h2, h3, h4, h5⟩
    rw [upd_ne (ne_of ec e (fun z => nomatch z))]
    exact ec
end
section
variable {X : Cx} {pins : List (Addr × Obj)} {σ : St} {H : Hp} {s : Shared} {a : Addr} {kvs : List (Key × V)} {k : Key} {u : Value} {A : Around} {E : Value → Shared → Prop}
theorem d_pop {v : V} {more : List Value} {Q : Value → Shared → Prop} (I : Inv X pins σ H s) (e : H a = some (.dK kvs)) (ry : RelV (kV k) u) (l : valV kvs k = some v) (hm : more = [] ∨ ∃ x, more = [x])
    (h : ∀ w' s', Inv X pins σ (upd H a (.dK (dropK kvs k))) s' → RelV v w' → Q w' s') : wpAny (model X.prog X.w) A (call (.builtin "dict.pop") (.ref a :: u :: more)) Q E s := by
  obtain ⟨z, hd, vs, rel, dd⟩ := dk_of I.hok e
  obtain ⟨w', hw, rw'⟩ := RelO.some_of (v := v) (o := valueAt vs k) (by rw [← l]; exact rel.val k)
  have hp : (keyPart u).isSome = true := by
    cases k with
    | inl i => obtain ⟨t, q⟩ := (show ∃ t, u = Value.int i t from ry); subst q; rfl
    | inr x => obtain ⟨t, q⟩ := (show ∃ t, u = Value.str x t from ry); subst q; rfl
  have ha : argsOk "dict.pop" ⟨.ref a :: u :: more, []⟩ := by
    rcases hm with q | ⟨x, q⟩
    · subst q; exact PySem.F.args_dict_pop_2 _ _
    · subst q; exact PySem.F.args_dict_pop_3 _ _ _
  refine call_meetsIn PySem.F.slot_dict_pop dd.typeIs PySem.F.entry_dict_pop ha (meets_dict_pop_there (mixKind X.prog X.w) a (kV_is ry) more hm hp)
    ⟨vs, w', dd, by rw [← rel.length]; exact z, hw, fun h' dd' hs => h w' _ ?_ rw'⟩
  have he : ∃ q, h'.get? a = some q := let ⟨q, _, _, hq, _⟩ := dd'; ⟨q, hq⟩
  exact d_write I (by rw [e]; exact True.intro) hs he (dk_new (Nat.le_trans (dropK_le kvs k) z) hd (rel.drop k) dd')
end
noncomputable def NoSl (i : Expr) : Prop := ∀ ov iv, subscripted i false ov iv = operate [ov, iv] (getItem ov iv)
theorem subD_of {prog : Program} {w : World} {A : Around} {E : Value → Shared → Prop} {s : Shared} {env : Env} {value slice : Expr} {pos : Pos} {T id : String} {Q : Value → Shared → Prop}
    (hl : typeLookup (.type T) "__getitem__" = pure (some (.builtin id))) (hs : NoSl slice)
    (h : wpAny (model prog w) A (eval value env) (fun o s₁ => wpAny (model prog w) A (eval slice env) (fun i s₂ => s₂.TypeIs o T ∧ wpAny (model prog w) A (getItem o i) Q E s₂) E s₁) E s) :
    wpAny (model prog w) A (eval (.Subscript value slice pos) env) Q E s := by
  refine Subscript_ (wpAny_mono h (fun o s₁ h₁ => wpAny_mono h₁ (fun i s₂ h₂ => ?_) fun _ _ x => x) fun _ _ x => x)
  obtain ⟨hT, h₂⟩ := h₂
  unfold subscriptTail
  refine wpAny_bind ?_
  rw [getitemInPython_of_ne hT.not_modules]
  refine wpAny_bind (wpAny_specialOf hT hl ?_)
  have fin : wpAny (model prog w) A (subscripted slice false o i) (fun r s₃ => wpAny (model prog w) A (letTemporaryGo value o r >>= fun _ => pure r) Q E s₃) E s₂ := by
    rw [hs o i]
    exact wpAny_operating (wpAny_mono h₂ (fun r s₃ h₃ => wpAny_bind (wpAny_letTemporaryGo (wpAny_pure h₃))) fun _ _ x => x)
  first
    | exact wpAny_pure (wpAny_bind fin)
    | exact wpAny_bind (wpAny_pure (wpAny_bind fin))
    | exact wpAny_bind fin
theorem dict_typeIs {X : Cx} {pins : List (Addr × Obj)} {σ : St} {H : Hp} {s : Shared} {a : Addr} {y : V} {o : Option V} (I : Inv X pins σ H s) (g : DGet H a y o) : s.TypeIs (.ref a) "dict" := by
  rcases g with ⟨kvs, k, e, _, _⟩ | ⟨kvs, k, b, e, _, _, _⟩
  · obtain ⟨_, _, vs, _, dd⟩ := dk_rd I.hok e
    exact dd.typeIs
  · obtain ⟨_, _, xs, _, dd⟩ := dt_rd I.hok e
    exact dd.typeIs
noncomputable def tDGet (td ty : TE) : TE := fun σ H Q => td σ H fun x H1 => ty σ H1 fun y H2 => ∃ a v, x = .ref a ∧ DGet H2 a y (some v) ∧ Q v H2
noncomputable def sDAug (td ty tv : TE) (rd : V → V → Hp → VK → Prop) : TS := fun D σ H => td σ H fun x H1 => ty σ H1 fun y H2 => ∃ a v, x = .ref a ∧ DGet H2 a y (some v) ∧
  tv σ H2 fun y2 H3 => rd v y2 H3 fun z H4 => ∃ H5, DPut H4 a y z H5 ∧ D.nx σ H5
section
variable {X : Cx} {o i e value : Expr} {pos pos' tpos : Pos} {td ty tv : TE}
theorem pe_dget (hu : X.A.units + 1 < cLine) (ho : PE X o td) (hi : PE X i ty) (hs : NoSl i) : PE X (.Subscript o i pos) (tDGet td ty) := by
  intro pins s σ H Q I h
  refine subD_of PySem.F.slot_dict_getitem.lookup hs (thn (ho pins s σ H _ I h) fun u s1 ⟨x, H1, I1, rx, q1⟩ => thn (hi pins s1 σ H1 _ I1 q1) fun iv s2 z9 => ?_)
  obtain ⟨y, H2, I2, ry, a, v, ex, g, q2⟩ := z9
  subst ex
  obtain rfl : u = Value.ref a := rx
  exact ⟨dict_typeIs I2 g, d_getItem hu I2 g ry fun w' s3 I3 rw' => ⟨v, H2, I3, rw', q2⟩⟩
theorem ps_daug {op : Operator} {rd : V → V → Hp → VK → Prop} (hu : X.A.units + 1 < cLine) (ho : PE X o td) (hi : PE X i ty) (hv : PE X value tv) (hop : InOp X op rd)
    (ha : ∀ ov iv new, augStore i ov iv new = (do holding [new, ov, iv] (setItem ov iv new); release [new, ov, iv] []; pure .next)) : PS X (.AugAssign (.Subscript o i tpos) op value pos) (sDAug td ty tv rd) := by
  intro pins s σ H D I h
  refine wpAny_AugAssign_SubscriptAny (thn (ho pins s σ H _ I h) fun u s1 ⟨x, H1, I1, rx, q1⟩ => thn (hi pins s1 σ H1 _ I1 q1) fun iv s2 z9 => ?_) ha
  obtain ⟨y, H2, I2, ry, a, v, ex, g, q2⟩ := z9
  subst ex
  obtain rfl : u = Value.ref a := rx
  refine d_getItem hu I2 g ry fun w' s3 I3 rw' => thn (hv pins s3 σ H2 _ I3 q2) fun w2 s4 ⟨y2, H3, I4, ry2, q3⟩ => thn (hop pins s4 σ H3 v y2 w' w2 _ I4 rw' ry2 q3) fun w3 s5 z9 => ?_
  obtain ⟨z, H4, I5, rz, H5, g5, q4⟩ := z9
  exact d_setItem hu I5 g5 ry rz fun s6 I6 => ⟨σ, H5, I6, q4⟩
end
theorem dk_empty {P : Program} {w : World} {H : Hp} (h : Heap) (hb : sysModules < h.objs.size) : ObjOk P w H (h.push { cls := .type "dict", data := .dict #[] }) h.objs.size (.dK []) :=
  ⟨Nat.zero_le _, beq_eq_false_iff_ne.mpr (Ne.symm (Nat.ne_of_lt hb)), [], .nil, Heap.DictOf.new h⟩
noncomputable def tDNewK : TE := fun _ H Q => ∀ p, H p = none → Q (.ref p) (upd H p (.dK []))
section
variable {X : Cx} {pos : Pos}
theorem pe_dnewK : PE X (.Dict [] [] pos) tDNewK := fun pins s σ H Q I h =>
  wpAny_Dict_empty ⟨.ref s.heap.objs.size, _, I.laid (a := s.heap.objs.size) (o := .dK []) (t' := s.toks) (fun _ _ q => Heap.get?_push_of_some _ q) (Nat.le_refl _) (dk_empty s.heap I.big), rfl, h _ (I.hok.fresh (Nat.le_refl _))⟩
end
structure M1 (X : Cx) (o : Expr) (m : Str) (apos : Pos) (e : Expr) (cpos : Pos) : Prop where
  base : attributeBase o m X.env (eval o X.env) = eval o X.env
  few : ((backTo cpos (starEach [e] X.env)).all (fun x => !x.1) && (backToKw cpos (keywordEach [] X.env)).all (fun x => x.1.isSome)
    && decide (([e] : List Expr).length + ([] : List Keyword).length + (if ([] : List Keyword).isEmpty then 0 else 1) < 30)) = true
  line : (apos.endLine == cpos.line) = true
  trees : backTo cpos (starEach [e] X.env) = [(false, eval e X.env)]
noncomputable def IsD (H : Hp) (a : Addr) : Prop := (∃ kvs, Rd H a (.dK kvs)) ∨ ∃ kvs, Rd H a (.dT kvs)
theorem isD_at {X : Cx} {pins : List (Addr × Obj)} {σ : St} {H : Hp} {s : Shared} {a : Addr} (I : Inv X pins σ H s) (d : IsD H a) :
    s.TypeIs (.ref a) "dict" ∧ (∀ b, Value.ref a = .ref b → ∃ ob, s.heap.get? b = some ob ∧ ob.dict = none) ∧ (a == sysModules) = false := by
  rcases d with ⟨kvs, e⟩ | ⟨kvs, e⟩
  · obtain ⟨_, hd, vs, _, dd⟩ := dk_rd I.hok e
    refine ⟨dd.typeIs, fun b q => ?_, hd⟩
    cases q
    obtain ⟨ob, _, _, h1, h2, _⟩ := dd
    exact ⟨ob, h1, h2.2.1⟩
  · obtain ⟨_, hd, xs, _, dd⟩ := dt_rd I.hok e
    refine ⟨dd.typeIs, fun b q => ?_, hd⟩
    cases q
    obtain ⟨ob, _, _, h1, h2, _⟩ := dd
    exact ⟨ob, h1, h2.2.1⟩
section
variable {X : Cx} {pins : List (Addr × Obj)} {σ : St} {H : Hp} {s : Shared} {a : Addr} {y d : V} {u r : Value} {o : Option V} {A : Around} {E : Value → Shared → Prop}
end
noncomputable def tDPop1 (td ty : TE) : TE := fun σ H Q => td σ H fun x H1 => ∃ a, x = .ref a ∧ IsD H1 a ∧ ty σ H1 fun y H2 => ∃ kvs k v, H2 a = some (.dK kvs) ∧ y = kV k ∧ valV kvs k = some v ∧ Q v (upd H2 a (.dK (dropK kvs k)))
section
variable {X : Cx} {o e f : Expr} {apos cpos : Pos} {td ty tx : TE}
theorem pe_dpop1 (ho : PE X o td) (he : PE X e ty) (m : M1 X o "pop" apos e cpos) : PE X (.Call (.Attribute o "pop" apos) [e] [] cpos) (tDPop1 td ty) := by
  intro pins s σ H Q I h
  refine wpAny_Call_method m.base m.few m.line PySem.F.plainAttrs_dict PySem.F.slot_dict_pop PySem.F.type_dict_pop (thn (ho pins s σ H _ I h) fun u s1 z9 => ?_)
  obtain ⟨x, H1, I1, rx, a, ex, d, q1⟩ := z9
  subst ex
  obtain rfl : u = Value.ref a := rx
  obtain ⟨t1, t2, _⟩ := isD_at I1 d
  refine ⟨t1, t2, ?_⟩
  rw [m.trees]
  refine Calls.callWith_builtin rfl (Calls.evalArgs_plain (Calls.spliced_cons (thn (he pins s1 σ H1 _ I1 q1) fun iv s2 ⟨y, H2, I2, ry, kvs, k, v, ea, ey, l, q2⟩ => Calls.spliced_nil ?_)))
  subst ey
  exact d_pop I2 ea ry l (.inl rfl) fun w' s3 I3 rw' => ⟨v, _, I3, rw', q2⟩
end
section
variable {X : Cx} {pins : List (Addr × Obj)} {σ : St} {H : Hp} {s : Shared} {a : Addr} {kvs : List (Key × V)} {A : Around} {E : Value → Shared → Prop}
end
section
variable {X : Cx} {pins : List (Addr × Obj)} {σ : St} {H : Hp} {s : Shared} {a : Addr} {y : V} {u : Value} {A : Around} {E : Value → Shared → Prop}
end
end L2
namespace L2
open PySem PySem.Spec PyProof.Rows
section
variable {X : Cx}
end
section
variable {κ : Type} [DecidableEq κ]
end
end L2
namespace L2
open PySem PySem.Spec PyProof.Rows
theorem HOk.track {P : Program} {w : World} {H : Hp} {h : Heap} {a : Addr} {o : HO} (x : HOk P w H h) (hn : H a = none) (new : ObjOk P w (upd H a o) h a o) : HOk P w (upd H a o) h := fun b u e => by
  by_cases hb : b = a
  · subst hb; rw [upd_same] at e; cases e; exact new
  · rw [upd_ne hb] at e
    exact (x b u e).stay (fun c v _ q => q) (fun c q => by rw [upd_ne (ne_of_none q hn)]; exact q) fun c xs q => by rw [upd_ne (ne_of_none q hn)]; exact q
theorem Un.more {fs ex : List Addr} {H H' : Hp} {h h' : Heap} {a : Addr} {o : HO} (u : Un fs ex H H' h h') (hp : h.objs.size ≤ a) (hn : H' a = none) : Un fs ex H (upd H' a o) h h' where
  keep := u.keep
  slot := u.slot
  free := fun b ob q n hx => by rw [upd_ne (Nat.ne_of_lt (Nat.lt_of_lt_of_le (Heap.lt_size q) hp))]; exact u.free b ob q n hx
  there := u.there
  tups := fun b xs q => by have z := u.tups b xs q; rw [upd_ne (ne_of_none z hn)]; exact z
  frzs := fun b ob xs q => by have z := u.frzs b ob xs q; rw [upd_ne (ne_of_none z hn)]; exact z
  tbls := fun b ps q => by obtain ⟨m, z⟩ := u.tbls b ps q; exact ⟨m, by rw [upd_ne (ne_of_none z hn)]; exact z⟩
theorem Un.elder {fs ex ex' : List Addr} {H H' : Hp} {h0 h h' : Heap} (u : Un fs ex H H' h h') (k : ∀ b o, h0.get? b = some o → h.get? b = some o) (hx : ∀ b o, h0.get? b = some o → b ∈ ex → b ∈ ex') : Un fs ex' H H' h0 h' where
  keep := fun b o e n hb he => u.keep b o (k b o e) n hb fun z => he (hx b o e z)
  slot := fun b o e n hb he => u.slot b o (k b o e) n hb fun z => he (hx b o e z)
  free := fun b o e n he => u.free b o (k b o e) n fun z => he (hx b o e z)
  there := fun b o e he => u.there b o (k b o e) fun z => he (hx b o e z)
  tups := u.tups
  frzs := u.frzs
  tbls := u.tbls
noncomputable abbrev Cx.blk (X : Cx) (N : List Str) (scope : Scope) (cl : List (Str × Addr)) (C : Addr) (s : Shared) (H : Hp) (ex : List Addr) : Cx :=
  { X with N := N, s₀ := s, H₀ := H, env := compEnvC scope cl C X.env, outer := X.stack, ex := ex, fn := fun _ => false, pn := [], xe := fun _ _ => False }
noncomputable def slotOk (names0 : List (Str × NameKind)) (N0 : List Str) (sc : List (Str × NameKind)) (x : Str) : Option Nat → Bool
  | none => true
  | some j => decide (N0[j]? = some x) && (decide (names0.lookup x = some .cell) || decide (names0.lookup x = some .free)) && decide (sc.lookup x = some .free)
noncomputable def blkOk (names0 : List (Str × NameKind)) (N0 N : List Str) (sc : Scope) (ix : List (Option Nat)) : Bool :=
  decide (sc.kind = .function) && decide N.Nodup && decide (ix.length = N.length) && (N.zip ix).all (fun p => slotOk names0 N0 sc.names p.1 p.2) &&
  sc.names.all (fun y => decide (y.2 ≠ .cell) && (decide (y.2 ≠ .local) || decide (sc.names.lookup y.1 = some .local)) && (decide (y.2 ≠ .free) || decide (names0.lookup y.1 = some .cell) || decide (names0.lookup y.1 = some .free)))
noncomputable def blkStart (ix : List (Option Nat)) (σ : St) : St := ix.map fun o => match o with
  | some j => (σ[j]?).getD none
  | none => none
theorem closure_go (env : Env) : ∀ (names : List (Str × NameKind)) (cs : List (Str × Addr)), (∀ y ∈ names, y.2 = .free → ∃ c, env.cells.lookup y.1 = some c) →
    ∃ cl, (forIn names cs fun (x : Str × NameKind) (r : List (Str × Addr)) => match x with | (name, kind) => if (kind == .free) = true then (do let a ← cellOf env name; pure (ForInStep.yield ((name, a) :: r))) else pure (ForInStep.yield r) : Sem (List (Str × Addr))) = pure cl ∧
      (∀ x c, cl.lookup x = some c → env.cells.lookup x = some c ∨ cs.lookup x = some c) ∧ (∀ x c, cs.lookup x = some c → ∃ c', cl.lookup x = some c') ∧ ∀ x, (x, NameKind.free) ∈ names → ∃ c, cl.lookup x = some c
  | [], cs, _ => ⟨cs, rfl, fun _ _ h => .inr h, fun _ c h => ⟨c, h⟩, fun _ h => by cases h⟩
  | (n, k) :: r, cs, h => by
    by_cases hk : k = .free
    · subst hk
      obtain ⟨c, hc⟩ := h (n, .free) List.mem_cons_self rfl
      obtain ⟨cl, e, h1, h2, h3⟩ := closure_go env r ((n, c) :: cs) fun y hy => h y (List.mem_cons_of_mem _ hy)
      have hself : ((n, c) :: cs).lookup n = some c := by simp [List.lookup]
      refine ⟨cl, ?_, fun x d hx => ?_, fun x d hx => ?_, fun x hx => ?_⟩
      · rw [List.forIn_cons]
        have ec : cellOf env n = pure c := by unfold cellOf; rw [hc]
        show ((do let a ← cellOf env n; pure (ForInStep.yield ((n, a) :: cs))) >>= _) = pure cl
        rw [ec]
        exact e
      · rcases h1 x d hx with z | z
        · exact .inl z
        · by_cases hxn : x = n
          · subst hxn
            rw [hself] at z
            cases z
            exact .inl hc
          · have hb : (x == n) = false := beq_eq_false_iff_ne.mpr hxn
            simp only [List.lookup, hb] at z
            exact .inr z
      · by_cases hxn : x = n
        · subst hxn
          exact h2 x c hself
        · have hb : (x == n) = false := beq_eq_false_iff_ne.mpr hxn
          exact h2 x d (by simp only [List.lookup, hb]; exact hx)
      · rcases List.mem_cons.mp hx with z | z
        · cases z
          exact h2 n c hself
        · exact h3 x z
    · obtain ⟨cl, e, h1, h2, h3⟩ := closure_go env r cs fun y hy => h y (List.mem_cons_of_mem _ hy)
      refine ⟨cl, ?_, h1, h2, fun x hx => ?_⟩
      · rw [List.forIn_cons]
        have hb : (k == NameKind.free) = false := by simpa using hk
        show ((if (k == NameKind.free) = true then _ else pure (ForInStep.yield cs)) >>= _) = pure cl
        rw [if_neg (by rw [hb]; exact Bool.false_ne_true)]
        exact e
      · rcases List.mem_cons.mp hx with z | z
        · cases z
          exact absurd rfl hk
        · exact h3 x z
theorem closure_of {env : Env} {scope : Scope} (h : ∀ y ∈ scope.names, y.2 = .free → ∃ c, env.cells.lookup y.1 = some c) :
    ∃ cl, closureFor scope env = pure cl ∧ (∀ x c, cl.lookup x = some c → env.cells.lookup x = some c) ∧ ∀ x, (x, NameKind.free) ∈ scope.names → ∃ c, cl.lookup x = some c := by
  obtain ⟨cl, e, h1, _, h3⟩ := closure_go env scope.names [] h
  refine ⟨cl, ?_, fun x c hx => (h1 x c hx).elim id (fun z => by simp at z), h3⟩
  unfold closureFor
  exact (congrArg (fun m : Sem (List (Str × Addr)) => m >>= fun r => pure r) e)
theorem relabel_look {scope : Scope} {env : Env} {x : Str} {k : NameKind} (h : (relabel scope env).names.lookup x = some k) (hk : k = .cell ∨ k = .free) (hc : ∀ y ∈ scope.names, y.2 ≠ .cell) : (x, NameKind.free) ∈ scope.names := by
  have go : ∀ names : List (Str × NameKind), (∀ y ∈ names, y.2 ≠ .cell) →
      (names.map fun (n, k) => if (k == NameKind.free && env.scope.kind == .function && env.kindOf n == some .cell) then (n, NameKind.cell) else (n, k)).lookup x = some k → (x, NameKind.free) ∈ names := by
    intro names
    induction names with
    | nil => intro _ h; cases h
    | cons y r ih =>
      intro hc h
      obtain ⟨n, k'⟩ := y
      rw [List.map_cons] at h
      by_cases hxn : x = n
      · subst hxn
        by_cases hf : k' = .free
        · subst hf; exact List.mem_cons_self
        · have hb : (k' == NameKind.free) = false := by simpa using hf
          simp only [hb, Bool.false_and, Bool.false_eq_true, if_false, List.lookup, beq_self_eq_true] at h
          cases h
          rcases hk with z | z
          · exact absurd z (hc _ List.mem_cons_self)
          · exact absurd z hf
      · have hb : (x == n) = false := beq_eq_false_iff_ne.mpr hxn
        refine List.mem_cons_of_mem _ (ih (fun y hy => hc y (List.mem_cons_of_mem _ hy)) ?_)
        have h' : List.lookup x ((if (k' == NameKind.free && env.scope.kind == .function && env.kindOf n == some .cell) = true then (n, NameKind.cell) else (n, k')) :: _) = some k := h
        by_cases hcnd : (k' == NameKind.free && env.scope.kind == .function && env.kindOf n == some .cell) = true
        · rw [if_pos hcnd, List.lookup_cons, hb] at h'; exact h'
        · rw [if_neg hcnd, List.lookup_cons, hb] at h'; exact h'
  exact go scope.names hc h
theorem relabel_free {scope : Scope} {env : Env} {x : Str} (h : scope.names.lookup x = some .free) : (relabel scope env).names.lookup x = some .cell ∨ (relabel scope env).names.lookup x = some .free := by
  have go : ∀ names : List (Str × NameKind), names.lookup x = some .free →
      (names.map fun (n, k) => if (k == NameKind.free && env.scope.kind == .function && env.kindOf n == some .cell) then (n, NameKind.cell) else (n, k)).lookup x = some .cell ∨
      (names.map fun (n, k) => if (k == NameKind.free && env.scope.kind == .function && env.kindOf n == some .cell) then (n, NameKind.cell) else (n, k)).lookup x = some .free := by
    intro names
    induction names with
    | nil => intro h; cases h
    | cons y r ih =>
      intro h
      obtain ⟨n, k'⟩ := y
      rw [List.map_cons]
      by_cases hxn : x = n
      · subst hxn
        simp only [List.lookup, beq_self_eq_true] at h
        cases h
        show List.lookup x ((if (NameKind.free == NameKind.free && env.scope.kind == .function && env.kindOf x == some .cell) = true then (x, NameKind.cell) else (x, NameKind.free)) :: _) = _ ∨ List.lookup x ((if (NameKind.free == NameKind.free && env.scope.kind == .function && env.kindOf x == some .cell) = true then (x, NameKind.cell) else (x, NameKind.free)) :: _) = _
        by_cases hcnd : (NameKind.free == NameKind.free && env.scope.kind == .function && env.kindOf x == some .cell) = true
        · left; rw [if_pos hcnd, List.lookup_cons, beq_self_eq_true]
        · right; rw [if_neg hcnd, List.lookup_cons, beq_self_eq_true]
      · have hb : (x == n) = false := beq_eq_false_iff_ne.mpr hxn
        simp only [List.lookup, hb] at h
        show List.lookup x ((if (k' == NameKind.free && env.scope.kind == .function && env.kindOf n == some .cell) = true then (n, NameKind.cell) else (n, k')) :: _) = _ ∨ List.lookup x ((if (k' == NameKind.free && env.scope.kind == .function && env.kindOf n == some .cell) = true then (n, NameKind.cell) else (n, k')) :: _) = _
        by_cases hcnd : (k' == NameKind.free && env.scope.kind == .function && env.kindOf n == some .cell) = true
        · rw [if_pos hcnd, List.lookup_cons, hb]; exact ih h
        · rw [if_neg hcnd, List.lookup_cons, hb]; exact ih h
  exact go scope.names h
structure BlkOk (names0 : List (Str × NameKind)) (N0 N : List Str) (sc : Scope) (ix : List (Option Nat)) : Prop where
  kind : sc.kind = .function
  nd : N.Nodup
  len : ix.length = N.length
  slot : ∀ (i j : Nat) (x : Str), N[i]? = some x → ix[i]? = some (some j) → N0[j]? = some x ∧ (names0.lookup x = some .cell ∨ names0.lookup x = some .free) ∧ sc.names.lookup x = some .free
  cellless : ∀ y ∈ sc.names, y.2 ≠ .cell
  names : ∀ y ∈ sc.names, y.2 = .local → sc.names.lookup y.1 = some .local
  clos : ∀ y ∈ sc.names, y.2 = .free → names0.lookup y.1 = some .cell ∨ names0.lookup y.1 = some .free
theorem BlkOk.of {names0 : List (Str × NameKind)} {N0 N : List Str} {sc : Scope} {ix : List (Option Nat)} (h : blkOk names0 N0 N sc ix = true) : BlkOk names0 N0 N sc ix := by
  unfold blkOk at h
  simp only [Bool.and_eq_true, decide_eq_true_eq, List.all_eq_true, Bool.or_eq_true, ne_eq] at h
  obtain ⟨⟨⟨⟨h1, h2⟩, h3⟩, h4⟩, h5⟩ := h
  refine ⟨h1, h2, h3, fun i j x e1 e2 => ?_, fun y hy => (h5 y hy).1.1, fun y hy hl => ?_, fun y hy hf => ?_⟩
  · have hz : (N.zip ix)[i]? = some (x, some j) := by
      rw [List.getElem?_zip_eq_some]
      exact ⟨e1, e2⟩
    have := h4 (x, some j) (List.mem_of_getElem? hz)
    simp only [slotOk, Bool.and_eq_true, decide_eq_true_eq, Bool.or_eq_true] at this
    exact ⟨this.1.1, this.1.2, this.2⟩
  · rcases (h5 y hy).1.2 with z | z
    · exact absurd hl z
    · exact z
  · rcases (h5 y hy).2 with (z | z) | z
    · exact absurd hf z
    · exact .inl z
    · exact .inr z
theorem blkStart_get {ix : List (Option Nat)} {σ : St} {i : Nat} {v : V} (h : (blkStart ix σ)[i]? = some (some v)) : ∃ j, ix[i]? = some (some j) ∧ σ[j]? = some (some v) := by
  unfold blkStart at h
  rw [List.getElem?_map] at h
  cases e : ix[i]? with
  | none => rw [e] at h; cases h
  | some o =>
    rw [e] at h
    cases o with
    | none => cases h
    | some j =>
      refine ⟨j, rfl, ?_⟩
      have h' : (σ[j]?).getD none = some v := Option.some.inj h
      cases q : σ[j]? with
      | none => rw [q] at h'; cases h'
      | some w => rw [q] at h'; exact congrArg some h'
section
variable {X : Cx} {pins : List (Addr × Obj)} {σ : St} {H : Hp} {s : Shared}
theorem blk_ok {N : List Str} {scope : Scope} {cl : List (Str × Addr)} {C : Addr} {ex : List Addr} {ix : List (Option Nat)} (I : Inv X pins σ H s) (B : BlkOk X.env.scope.names X.N N scope ix)
    (hsub : ∀ x c, cl.lookup x = some c → X.env.cells.lookup x = some c) (hhas : ∀ x, (x, NameKind.free) ∈ scope.names → ∃ c, cl.lookup x = some c) (hC : s.heap.objs.size ≤ C) (hex : ∀ b ∈ ex, FpOk X pins H b) (hlt : ∀ b ∈ ex, b < s.heap.objs.size) :
    (X.blk N scope cl C s H ex).Ok where
  mod := I.ok.mod
  kind := B.kind
  glob := I.ok.glob
  blt := I.ok.blt
  above := hC
  inj := fun x y c h1 h2 => I.ok.inj x y c (hsub x c h1) (hsub y c h2)
  has := fun x hx => by
    rcases hx with hx | hx
    · exact hhas x (relabel_look hx (.inl rfl) B.cellless)
    · exact hhas x (relabel_look hx (.inr rfl) B.cellless)
  cab := fun _ _ z => by cases z
  hd := I.ok.hd
  frames := I.ok.frames
  stk := .inl rfl
  exf := fun b hb => ⟨Nat.ne_of_lt (Nat.lt_of_lt_of_le (hlt b hb) hC), fun x c e => (hex b hb).2.2.2.2.1 x c (hsub x c e)⟩
  bs := I.bs
  bsz := Nat.le_trans I.ok.bsz I.sz
  noex := fun b o e hb => by
    rcases (hex b hb).2.2.2.1 with z | z
    · exact I.ok.noex b o e z
    · exact absurd (Nat.lt_of_lt_of_le (Heap.lt_size e) (Nat.le_trans I.ok.bsz z)) (Nat.lt_irrefl _)
  exfs := fun b hb hf => by
    rcases List.mem_cons.mp (I.stkSub b hf) with z | z
    · exact (hex b hb).2.1 z
    · exact (hex b hb).2.2.1 z
  funs := I.stack
  frf := I.stkFree
end
noncomputable def PF (X : Cx) (ifs : List Expr) (t : TT) : Prop :=
  ∀ (pins : List (Addr × Obj)) (s : Shared) (σ : St) (H : Hp) (Q : Bool → Hp → Prop), Inv X pins σ H s → t σ H Q →
    wpAny (model X.prog X.w) X.A (forIn ifs true fun c r => if r = true then do let ok ← isTrue c X.env (eval c X.env); pure (ForInStep.yield ok) else pure (ForInStep.yield r)) (TP X pins σ Q) X.xe s
noncomputable def tTrue : TT := fun _ H Q => Q true H
theorem pf_nil {X : Cx} : PF X [] tTrue := fun _ _ _ H _ I h => wpAny_tests_nil ⟨H, I, h⟩
theorem pf_one {X : Cx} {c : Expr} {t : TT} (h : PT X c t) : PF X [c] t := fun pins s σ H Q I hq => wpAny_tests_one (h pins s σ H Q I hq)
section
variable {prog : Program} {w : World} {A : Around} {R : Result → Shared → Prop} {s : Shared}
theorem comp_loop {elt target iter : Expr} {ifs : List Expr} {scope : Scope} {pos : Pos} {it acc : Value} {env : Env} (I : Nat → Shared → Prop)
    (turn : ∀ n s, I n s → wpAny (model prog w) A (pyNext it) (fun r s₁ => match r with
      | none => R (.ok .next) s₁
      | some v => wpAny (model prog w) A (letOwnedTupleGo target it v) (fun _ s₀ => wpAny (model prog w) A (assign target env v) (fun _ s₂ =>
          wpAny (model prog w) A (forIn ifs true fun c r => if r = true then do let ok ← isTrue c env (eval c env); pure (ForInStep.yield ok) else pure (ForInStep.yield r)) (fun ok s₃ =>
            if ok = true then wpAny (model prog w) A (eval elt env) (fun x s₄ =>
              wpAny (model prog w) A (call (.builtin "list.append") [acc, x]) (fun _ s₅ => ∃ m, m < n ∧ I m s₅) (fun _ _ => False) s₄) (fun _ _ => False) s₃
            else ∃ m, m < n ∧ I m s₃) (fun _ _ => False) s₂) (fun _ _ => False) s₀) (fun _ _ => False) s₁) (fun _ _ => False) s)
    (n : Nat) (h : I n s) : codeAny (model prog w) A (.compLoop (.ListComp elt [⟨target, iter, ifs, 0⟩] scope pos) 0 it acc env) R s := by
  refine codeAny_loop rfl I (fun n s hI => ?_) n h
  show wpAny _ A ((compTurn (.ListComp elt [⟨target, iter, ifs, 0⟩] scope pos) 0 it acc env).onRaise (fun x => do noteFrame x env; theTreesLotGoes x)) _ _ s
  refine wpAny_noted (wpAny_noRaise ?_)
  rw [compTurn_list]
  refine wpAny_bind (wpAny_standAt (wpAny_bind (wpAny_mono (turn n s hI) (fun r s₁ h₁ => ?_) fun _ _ h' => h')))
  cases r with
  | none => exact wpAny_pure h₁
  | some v =>
    refine wpAny_bind (wpAny_mono h₁ (fun _ s₀ h₀' => ?_) fun _ _ h' => h')
    refine wpAny_bind (wpAny_mono h₀' (fun _ s₂ h₂ => wpAny_bind (wpAny_mono h₂ (fun ok s₃ h₃ => ?_) fun _ _ h' => h')) fun _ _ h' => h')
    cases ok with
    | false => exact wpAny_pure ⟨rfl, h₃⟩
    | true =>
      exact wpAny_bind (wpAny_bind (wpAny_mono h₃ (fun x s₄ h₄ => wpAny_bind (wpAny_mono h₄ (fun _ s₅ h₅ => wpAny_pure (wpAny_pure ⟨rfl, h₅⟩)) fun _ _ h' => h')) fun _ _ h' => h'))
end
noncomputable def lstObj (us : List Value) (n : Nat) : Obj := { cls := .type "list", data := .seq us.toArray n }
noncomputable def tComp (wi : TI) (ix : List (Option Nat)) (g : TG) (tc : TT) (te : TE) : TE := fun σ H Q => wi σ H fun J H1 =>
  ∃ (W : Nat → List V → St → Hp → Prop) (n : Nat), n ≤ sizeLine ∧ W 0 [] (blkStart ix σ) H1 ∧ ∀ i xs σ' H', W i xs σ' H' → xs.length ≤ i →
    (J.stop i H' ∧ ∀ p, H' p = none → Q (.ref p) (upd H' p (.lst xs))) ∨
    (J.go i H' ∧ i < n ∧ ∃ M : List V → St → Hp → Prop, (∀ ys σ3 H3, M ys σ3 H3 → W (i + 1) ys σ3 H3) ∧ ∀ x H2, J.yld i H' x H2 → g x σ' H2 fun σ2 H3 => tc σ2 H3 fun b H4 => if b = true then te σ2 H4 fun y H5 => M (xs ++ [y]) σ2 H5 else M xs σ2 H4)
section
variable {X : Cx} {elt tg iter : Expr} {ifs : List Expr} {scope : Scope} {pos : Pos} {N : List Str} {ix : List (Option Nat)} {wi : TI} {g : TG} {tc : TT} {te : TE}
theorem comp_block {pins : List (Addr × Obj)} {σ : St} {H2 : Hp} {s2 : Shared} {it : Addr} {fp : List Addr} {tn : Nat → Heap → Prop} {J : It} {Q : VK} {RR : Value → Addr → Result → Shared → Prop} {E : Value → Shared → Prop} {cl : List (Str × Addr)}
    (hc : X.calm = true) (B : BlkOk X.env.scope.names X.N N scope ix)
    (hg : ∀ (cl : List (Str × Addr)) (C : Addr) (s : Shared) (H : Hp) (ex : List Addr), PG (X.blk N scope cl C s H ex) tg g)
    (hf : ∀ (cl : List (Str × Addr)) (C : Addr) (s : Shared) (H : Hp) (ex : List Addr), PF (X.blk N scope cl C s H ex) ifs tc)
    (he : ∀ (cl : List (Str × Addr)) (C : Addr) (s : Shared) (H : Hp) (ex : List Addr), PE (X.blk N scope cl C s H ex) elt te)
    (hsub : ∀ x c, cl.lookup x = some c → X.env.cells.lookup x = some c) (hhas : ∀ x, (x, NameKind.free) ∈ scope.names → ∃ c, cl.lookup x = some c)
    (I2 : Inv X pins σ H2 s2) (T : Turn X.prog X.w X.K tg J fp it tn) (t0 : tn 0 s2.heap) (f2 : ∀ b ∈ fp, FpOk X pins H2 b)
    (h : ∃ (W : Nat → List V → St → Hp → Prop) (n : Nat), n ≤ sizeLine ∧ W 0 [] (blkStart ix σ) H2 ∧ ∀ i xs σ' H', W i xs σ' H' → xs.length ≤ i →
      (J.stop i H' ∧ ∀ p, H' p = none → Q (.ref p) (upd H' p (.lst xs))) ∨
      (J.go i H' ∧ i < n ∧ ∃ M : List V → St → Hp → Prop, (∀ ys σ3 H3, M ys σ3 H3 → W (i + 1) ys σ3 H3) ∧ ∀ x H2, J.yld i H' x H2 → g x σ' H2 fun σ2 H3 => tc σ2 H3 fun b H4 => if b = true then te σ2 H4 fun y H5 => M (xs ++ [y]) σ2 H5 else M xs σ2 H4))
    (hRR : ∀ D C H5 s5, Inv X pins σ H5 s5 → Q (.ref D) H5 → (∃ m, s5.heap.Ns C m) → H5 C = none → s2.heap.objs.size ≤ C → RR (.ref D) C (.ok .next) s5) :
    wpAny (model X.prog X.w) X.A (newList []) (fun acc s₃ => wpAny (model X.prog X.w) X.A (newFunctionEnv scope X.env.globals cl [] X.env.qual none .none (some X.env)) (fun cenv s₄ =>
      codeAny (model X.prog X.w) X.A (.compStart (.ListComp elt [⟨tg, iter, ifs, 0⟩] scope pos) 0 (.ref it) acc { cenv with scope := relabel scope X.env }) (RR acc cenv.locals) s₄) E s₃) E s2 := by
  obtain ⟨W, n, hn, w0, turn⟩ := h
  refine wpAny_newObj_type (wpAny_newFunctionEnv B.cellless (by intro y hy; simp at hy) (fun h₁ hns₁ hsb₁ => ?_) B.kind)
  dsimp only at hns₁ hsb₁ ⊢
  generalize hH3 : s2.heap.push { cls := .type "list", dict := none, data := .seq ([] : List Value).toArray } = G3 at hns₁ hsb₁ ⊢
  have hD : G3.objs.size = s2.heap.objs.size + 1 := by rw [← hH3, Heap.size_push]
  have up3 : ∀ b o, s2.heap.get? b = some o → G3.get? b = some o := fun b o e => by rw [← hH3]; exact Heap.get?_push_of_some _ e
  have atD : G3.get? s2.heap.objs.size = some (lstObj [] 0) := by rw [← hH3]; exact Heap.get?_push_size _ rfl
  have I3 : Inv X pins σ H2 { s2 with heap := G3 } := I2.kept (t' := s2.toks) up3
  have neC : ∀ b o, G3.get? b = some o → b ≠ G3.objs.size := fun b o e => Nat.ne_of_lt (Heap.lt_size e)
  have up4 : ∀ b o, G3.get? b = some o → h₁.get? b = some o := fun b o e => (hsb₁.2 b (neC b o e)).trans (Heap.get?_push_of_some _ e)
  have fD : FpOk X pins H2 s2.heap.objs.size := I2.fpOk (Nat.le_refl _) (I2.hok.fresh (Nat.le_refl _))
  have fC : FpOk X pins H2 G3.objs.size := I3.fpOk (Nat.le_refl _) (I3.hok.fresh (Nat.le_refl _))
  have itlt : ∀ b ∈ fp, b < s2.heap.objs.size := fun b hb => by
    obtain ⟨o, e, _⟩ := T.obj 0 _ t0 b hb
    exact Heap.lt_size e
  have exlt : ∀ b ∈ s2.heap.objs.size :: fp, b < G3.objs.size := fun b hb => by
    rw [hD]
    rcases List.mem_cons.mp hb with z | z
    · rw [z]; exact Nat.lt_succ_self _
    · exact Nat.lt_succ_of_lt (itlt b z)
  have exF : ∀ b ∈ s2.heap.objs.size :: fp, FpOk X pins H2 b := fun b hb => by
    rcases List.mem_cons.mp hb with z | z
    · rw [z]; exact fD
    · exact f2 b z
  have ok := blk_ok (N := N) (C := G3.objs.size) (ex := s2.heap.objs.size :: fp) I3 B hsub hhas (Nat.le_refl _) exF exlt
  generalize hX : X.blk N scope cl G3.objs.size { s2 with heap := G3 } H2 (s2.heap.objs.size :: fp) = X' at ok
  have nfs : ∀ b, b ≠ X.env.locals → b ∉ X.fs → b ∉ X'.fs := fun b h1 h2 hb => by
    subst hX
    rcases List.mem_cons.mp (I2.stkSub b hb) with z | z
    · exact h1 z
    · exact h2 z
  have pinD : ∀ {H' : Hp} {s' : Shared} {us : List Value} {k : Nat}, s'.heap.get? s2.heap.objs.size = some (lstObj us k) → H' s2.heap.objs.size = none →
      ∀ p ∈ [(s2.heap.objs.size, lstObj us k)], s'.heap.get? p.1 = some p.2 ∧ H' p.1 = none ∧ p.1 ≠ X'.env.locals ∧ p.1 ∉ X'.fs ∧ ∀ v, p.2.data ≠ .cell v := fun {H' s' us k} e z p hp => by
    obtain rfl : p = (s2.heap.objs.size, lstObj us k) := by simpa using hp
    refine ⟨e, z, ?_, nfs _ fD.2.1 fD.2.2.1, fun v q => by cases q⟩
    subst hX
    exact Nat.ne_of_lt (by rw [hD]; exact Nat.lt_succ_self _)
  have J0 : Inv X' [(s2.heap.objs.size, lstObj [] 0)] (blkStart ix σ) H2 { s2 with heap := h₁, toks := s2.toks } := by
    refine ⟨ok, by subst hX; rfl, I2.bare, ?_, ⟨_, by subst hX; exact hns₁, fun i x v e1 e2 e3 => ?_⟩, fun x c e => ?_, ?_, fun x c e => ?_, fun p hp => ?_, ?_, ?_⟩
    · subst hX; exact Un.kept up4
    · obtain ⟨j, ej, eσ⟩ := blkStart_get e2
      obtain ⟨hN0, hk0, hfree⟩ := B.slot i j x (by subst hX; exact e1) ej
      obtain ⟨m, hnm, hl⟩ := I2.loc
      obtain ⟨u, ru, lk⟩ := hl j x v hN0 eσ (.inr hk0)
      refine ⟨u, ru, ?_⟩
      rcases lk with ⟨hk, _⟩ | ⟨_, c, hcc, hcell⟩
      · have hk : X.env.scope.names.lookup x = some .local := hk
        rcases hk0 with z | z <;> (rw [hk] at z; cases z)
      · have hmem : (x, NameKind.free) ∈ scope.names := PySem.mem_of_lookup hfree
        obtain ⟨c', hc'⟩ := hhas x hmem
        have e' := hsub x c' hc'
        rw [hcc] at e'; cases e'
        refine .inr ⟨?_, c, by subst hX; exact hc', ?_⟩
        · subst hX; exact relabel_free hfree
        · obtain ⟨o, ho, hd⟩ := hcell
          exact ⟨o, up4 c o (up3 c o ho), hd⟩
    · obtain ⟨v, o, ho, hd⟩ := I2.cell x c (hsub x c (by subst hX; exact e))
      exact ⟨v, o, up4 c o (up3 c o ho), hd⟩
    · subst hX; exact fC.1
    · exact I2.freeC x c (hsub x c (by subst hX; exact e))
    · have hp' : p ∈ [(s2.heap.objs.size, lstObj [] 0)] := by subst hX; simpa using hp
      exact pinD (s' := { s2 with heap := h₁, toks := s2.toks }) (up4 _ _ atD) fD.1 p hp'
    · subst hX; exact (I2.hok.kept fun b o e => up4 b o (up3 b o e))
    · subst hX
      show (blkStart ix σ).length = N.length
      unfold blkStart
      rw [List.length_map]
      exact B.len
  have fpX : ∀ {H' : Hp} {us : List Value} {k : Nat}, (∀ b ∈ fp, H' b = none) → ∀ b ∈ fp, FpOk X' [(s2.heap.objs.size, lstObj us k)] H' b := fun {H' us k} hn b hb => by
    obtain ⟨g0, g1, g2, g3, g4, g5⟩ := f2 b hb
    refine ⟨hn b hb, ?_, nfs b g1 g2, .inl ?_, fun x c e => ?_, fun p hp => ?_⟩
    · subst hX; exact Nat.ne_of_lt (by rw [hD]; exact Nat.lt_succ_of_lt (itlt b hb))
    · subst hX; exact List.mem_cons_of_mem _ hb
    · exact g4 x c (hsub x c (by subst hX; exact e))
    · have hp' : p = (s2.heap.objs.size, lstObj us k) := by subst hX; simpa using hp
      rw [hp']
      exact Ne.symm (Nat.ne_of_lt (itlt b hb))
  have hcX : X'.calm = true := by subst hX; exact hc
  have hgX : PG X' tg g := by subst hX; exact hg _ _ _ _ _
  have hfX : PF X' ifs tc := by subst hX; exact hf _ _ _ _ _
  have heX : PE X' elt te := by subst hX; exact he _ _ _ _ _
  have hprog : X'.prog = X.prog := by subst hX; rfl
  have hw : X'.w = X.w := by subst hX; rfl
  have hK : X'.K = X.K := by subst hX; rfl
  have hA : X'.A = X.A := by subst hX; rfl
  have hxe : X'.xe = fun _ _ => False := by subst hX; rfl
  have henv : X'.env = compEnvC scope cl G3.objs.size X.env := by subst hX; rfl
  have hexD : s2.heap.objs.size ∈ X'.ex := by subst hX; exact List.mem_cons_self
  have cellD : ∀ x c, X'.env.cells.lookup x = some c → c ≠ s2.heap.objs.size := fun x c e => fD.2.2.2.2.1 x c (hsub x c (by subst hX; exact e))
  have locD : s2.heap.objs.size ≠ X'.env.locals := by subst hX; exact Nat.ne_of_lt (by rw [hD]; exact Nat.lt_succ_self _)
  have pn0 : X'.pn = [] := by subst hX; rfl
  have fin : ∀ {xs : List V} {us : List Value} {k : Nat} {σ' : St} {H' : Hp} {s' : Shared}, Inv X' [(s2.heap.objs.size, lstObj us k)] σ' H' s' → Vals xs us → xs.length ≤ sizeLine → (∀ p, H' p = none → Q (.ref p) (upd H' p (.lst xs))) →
      RR (.ref s2.heap.objs.size) G3.objs.size (.ok .next) s' := fun {xs us k σ' H' s'} I' rv hl hq => by
    obtain ⟨eD, nD, _, _, _⟩ := I'.pin (s2.heap.objs.size, lstObj us k) (List.mem_append_right _ List.mem_cons_self)
    have uu : Un (frs X.stack) fp H2 (upd H' s2.heap.objs.size (.lst xs)) s2.heap s'.heap := by
      have u1 : Un (frs X.stack) (s2.heap.objs.size :: fp) H2 H' G3 s'.heap := by have z := I'.base; subst hX; exact z
      exact (u1.elder up3 (fun b o e hb => (List.mem_cons.mp hb).elim (fun z => absurd z (Nat.ne_of_lt (Heap.lt_size e))) id)).more (Nat.le_refl _) nD
    have hok' : HOk X.prog X.w (upd H' s2.heap.objs.size (.lst xs)) s'.heap := by
      have z := I'.hok
      rw [hprog, hw] at z
      exact z.track nD ⟨hl, us, k, rv, eD⟩
    have I5 : Inv X pins σ (upd H' s2.heap.objs.size (.lst xs)) s' := I2.call' (s' := s') (ch := fp) (by have z := I'.os; subst hX; exact z) uu hok' I'.bare fun b hb => by
      obtain ⟨g0, g1, g2, g3, g4, g5⟩ := f2 b hb
      exact ⟨g3, g1, g4, g5⟩
    obtain ⟨m, hm, _⟩ := I'.loc
    have nC : H' G3.objs.size = none := by have z := I'.free; subst hX; exact z
    refine hRR _ _ _ s' I5 (hq _ nD) ⟨m, by subst hX; exact hm⟩ ?_ (by rw [hD]; exact Nat.le_succ _)
    rw [upd_ne (by rw [hD]; exact Nat.ne_of_gt (Nat.lt_succ_self _))]
    exact nC
  have loop : codeAny (model X.prog X.w) X.A (.compLoop (.ListComp elt [⟨tg, iter, ifs, 0⟩] scope pos) 0 (.ref it) (.ref s2.heap.objs.size) (compEnvC scope cl G3.objs.size X.env)) (RR (.ref s2.heap.objs.size) G3.objs.size) { s2 with heap := h₁, toks := s2.toks } := by
    refine comp_loop (fun m s' => ∃ i xs us k σ' H', m = n + 1 - i ∧ i ≤ n ∧ Inv X' [(s2.heap.objs.size, lstObj us k)] σ' H' s' ∧ tn i s'.heap ∧ (∀ b ∈ fp, H' b = none) ∧ Vals xs us ∧ xs.length ≤ i ∧ W i xs σ' H') ?_ (n + 1)
      ⟨0, [], [], 0, _, H2, rfl, Nat.zero_le _, J0, T.keep 0 _ _ t0 (fun b _ o e => up4 b o (up3 b o e)), fun b hb => (f2 b hb).1, .nil, Nat.le_refl _, w0⟩
    rintro m s' ⟨i, xs, us, k, σ', H', rfl, hin, I', ti, fr, rv, hxi, wi'⟩
    rcases turn i xs σ' H' wi' hxi with ⟨stop, hq⟩ | ⟨go, hlt, M, hM, step⟩
    · have st0 := T.done X' hprog hw hK hcX i _ s' σ' H' (fun _ _ => False) I' (fpX fr) ti stop
      rw [hA] at st0
      refine thn st0 fun r s1 hr => ?_
      obtain ⟨rfl, I1⟩ := hr
      exact fin I1 rv (Nat.le_trans hxi (Nat.le_trans hin hn)) hq
    · have st0 := T.item X' hprog hw hK hcX i _ s' σ' H' (fun _ _ => False) I' (fpX fr) ti go
      rw [hA] at st0
      refine thn st0 fun r s1 hr => ?_
      obtain ⟨u, rfl, h1⟩ := hr
      dsimp only
      refine thn h1 fun _ s5 z9 => ?_
      obtain ⟨x, H5, I5, r5, y5, t5, fr5⟩ := z9
      have I5' := I5.pinned (fpX fr5) (T.obj _ _ t5)
      have st1 := hgX _ s5 σ' H5 x u _ I5' r5 (step x H5 y5)
      rw [hprog, hw, hA, hxe, henv] at st1
      refine thn st1 fun _ s6 z9 => ?_
      obtain ⟨σ6, H6, I6, q6⟩ := z9
      have st2 := hfX _ s6 σ6 H6 _ I6 q6
      rw [hprog, hw, hA, hxe, henv] at st2
      refine thn st2 fun ok s7 z9 => ?_
      obtain ⟨H7, I7, q7⟩ := z9
      have back : ∀ {H8 : Hp} {s8 : Shared}, Inv X' ([(s2.heap.objs.size, lstObj us k)] ++ pinsAt fp s5.heap) σ6 H8 s8 → tn (i + 1) s8.heap ∧ (∀ b ∈ fp, H8 b = none) ∧ Inv X' [(s2.heap.objs.size, lstObj us k)] σ6 H8 s8 := fun {H8 s8} I8 => by
        have pin : ∀ b ∈ fp, ∀ o, s5.heap.get? b = some o → s8.heap.get? b = some o ∧ H8 b = none := fun b hb o e => by
          have z := I8.pin (b, o) (List.mem_append_right _ (List.mem_append_right _ (mem_pinsAt hb e)))
          exact ⟨z.1, z.2.1⟩
        refine ⟨T.keep _ _ _ t5 fun b hb o e => (pin b hb o e).1, fun b hb => ?_, I8.unpinned⟩
        obtain ⟨o, e, _⟩ := T.obj _ _ t5 b hb
        exact (pin b hb o e).2
      cases ok with
      | false =>
        rw [if_neg Bool.false_ne_true] at q7
        rw [if_neg Bool.false_ne_true]
        obtain ⟨t8, f8, I8⟩ := back I7
        exact ⟨n + 1 - (i + 1), by omega, i + 1, xs, us, k, σ6, H7, rfl, hlt, I8, t8, f8, rv, Nat.le_succ_of_le hxi, hM _ _ _ q7⟩
      | true =>
        rw [if_pos rfl] at q7
        rw [if_pos rfl]
        have st3 := heX _ s7 σ6 H7 _ I7 q7
        rw [hprog, hw, hA, hxe, henv] at st3
        refine thn st3 fun y s8 z9 => ?_
        obtain ⟨yv, H8, I8, r8, q8⟩ := z9
        obtain ⟨t8, f8, I8'⟩ := back I8
        obtain ⟨eD, nD, _, _, _⟩ := I8'.pin (s2.heap.objs.size, lstObj us k) (List.mem_append_right _ List.mem_cons_self)
        have hul : us.length ≤ i := by rw [← rv.length]; exact hxi
        refine call_meets F.slot_list_append ⟨_, eD, rfl⟩ F.entry_list_append (F.args_list_append_2 _ _) (PySem.list_append s2.heap.objs.size us.toArray k y (by rw [List.size_toArray]; omega)) ⟨eD, ?_⟩
        have q := PySem.IsL.update eD (fun a => a.push y)
        have kp : ∀ b o, b ≠ s2.heap.objs.size → s8.heap.get? b = some o → (s8.heap.update s2.heap.objs.size (Obj.mapSeq fun a => a.push y)).get? b = some o := fun b o hb e => (Heap.get?_update_other s8.heap _ (Ne.symm hb)).trans e
        have I9 : Inv X' [] σ6 H8 { s8 with heap := s8.heap.update s2.heap.objs.size (Obj.mapSeq fun a => a.push y), toks := s8.toks } :=
          (I8'.pins_of (pins' := []) (fun p hp => by cases hp)).turned (it := s2.heap.objs.size) kp nD locD (.inl hexD) cellD (fun p hp => by rw [pn0] at hp; cases hp)
        have hpush : us.toArray.push y = (us ++ [y]).toArray := by simp
        rw [hpush] at q
        have I10 := I9.pins_of (pinD (H' := H8) (s' := { s8 with heap := s8.heap.update s2.heap.objs.size (Obj.mapSeq fun a => a.push y), toks := s8.toks }) q nD)
        refine ⟨n + 1 - (i + 1), by omega, i + 1, xs ++ [yv], us ++ [y], _, σ6, H8, rfl, hlt, I10, T.keep _ _ _ t8 (fun b hb o e => kp b o (Nat.ne_of_lt (itlt b hb)) e), f8, rv.append (.cons r8 .nil), ?_, hM _ _ _ q8⟩
        rw [List.length_append, List.length_singleton]
        omega
  refine codeAny_compStart_list loop (T.self X.A 0 _ _ _ (T.keep 0 _ _ t0 fun b _ o e => up4 b o (up3 b o e)) loop)
theorem pe_comp (hc : X.calm = true) (hi : PI X tg iter wi)
    (hg : ∀ (cl : List (Str × Addr)) (C : Addr) (s : Shared) (H : Hp) (ex : List Addr), PG (X.blk N scope cl C s H ex) tg g)
    (hf : ∀ (cl : List (Str × Addr)) (C : Addr) (s : Shared) (H : Hp) (ex : List Addr), PF (X.blk N scope cl C s H ex) ifs tc)
    (he : ∀ (cl : List (Str × Addr)) (C : Addr) (s : Shared) (H : Hp) (ex : List Addr), PE (X.blk N scope cl C s H ex) elt te)
    (hb : blkOk X.env.scope.names X.N N scope ix = true) (hs : ∀ x, foldedSetIterable iter X.env x = pure x := by intro _; rfl) :
    PE X (.ListComp elt [⟨tg, iter, ifs, 0⟩] scope pos) (tComp wi ix g tc te) := by
  have B := BlkOk.of hb
  intro pins s σ H Q I h
  obtain ⟨cl, hclos, hsub, hhas⟩ := closure_of (env := X.env) (scope := scope) fun y hy hf => I.ok.has y.1 (B.clos y hy hf)
  rw [eval_ListComp]
  refine wpAny_comprehension_free (use := none) rfl hs hclos B.kind B.names (thn (hi pins s σ H _ I h) fun v s1 h1 => thn h1 fun itv s2 h2 => ?_)
  obtain ⟨it, fp, tn, J, H2, rfl, I2, T, t0, f2, hw⟩ := h2
  refine comp_block (RR := fun acc C => compPost (model X.prog X.w) X.A X.xe none (EP X pins σ Q) acc C) hc B hg hf he hsub hhas I2 T t0 f2 hw ?_
  intro D C H5 s5 I5 q5 ⟨m, hm⟩ nC hC
  refine ⟨m, hm, fun h' hs' => ⟨.ref D, H5, ?_, rfl, q5⟩⟩
  have fC : FpOk X pins H5 C := I2.fpOk hC nC
  exact I5.turned (t' := s5.toks) (it := C) (fun b o hb e => (hs'.2 b hb).trans e) fC.1 fC.2.1 fC.2.2.2.1 fC.2.2.2.2.1 fC.2.2.2.2.2
theorem ps_setc {i : Nat} {x : Str} {pos' spos : Pos} (hc : X.calm = true) (hN : X.N.Nodup) (hix : X.N[i]? = some x) (hx : X.env.scope.names.lookup x = some .local) (hi : PI X tg iter wi)
    (hg : ∀ (cl : List (Str × Addr)) (C : Addr) (s : Shared) (H : Hp) (ex : List Addr), PG (X.blk N scope cl C s H ex) tg g)
    (hf : ∀ (cl : List (Str × Addr)) (C : Addr) (s : Shared) (H : Hp) (ex : List Addr), PF (X.blk N scope cl C s H ex) ifs tc)
    (he : ∀ (cl : List (Str × Addr)) (C : Addr) (s : Shared) (H : Hp) (ex : List Addr), PE (X.blk N scope cl C s H ex) elt te)
    (hb : blkOk X.env.scope.names X.N N scope ix = true) (hsw : swapsWith (.ListComp elt [⟨tg, iter, ifs, 0⟩] scope pos) (some (.Name x pos')) spos.line X.env = pure true) (hs : ∀ x, foldedSetIterable iter X.env x = pure x := by intro _; rfl) :
    PS X (.Assign [.Name x pos'] (.ListComp elt [⟨tg, iter, ifs, 0⟩] scope pos) spos) (tAsg (tComp wi ix g tc te) (gName i)) := by
  have B := BlkOk.of hb
  intro pins s σ H D I h
  obtain ⟨cl, hclos, hsub, hhas⟩ := closure_of (env := X.env) (scope := scope) fun y hy hf => I.ok.has y.1 (B.clos y hy hf)
  rw [exec_Assign_Name_used _ _ _ _ hsw]
  refine wpAny_bind (wpAny_standAt (wpAny_bind ?_))
  show wpAny _ X.A (do let _ ← comprehension (.ListComp elt [⟨tg, iter, ifs, 0⟩] scope pos) scope X.env _ (newList []) false (eval iter X.env) (some (assign (.Name x pos') X.env))) _ _ s
  refine wpAny_bind (wpAny_mono (wpAny_comprehension_free (use := some (assign (.Name x pos') X.env)) (Q := fun _ s' => SP X pins D .next s') rfl hs hclos B.kind B.names
    (thn (hi pins s σ H _ I h) fun v s1 h1 => thn h1 fun itv s2 h2 => ?_)) (fun _ s' hq => wpAny_pure (wpAny_pure hq)) fun _ _ e => e)
  obtain ⟨it, fp, tn, J, H2, rfl, I2, T, t0, f2, hw⟩ := h2
  refine comp_block (Q := fun x H1 => gName i x σ H1 D.nx) (RR := fun acc C => compPost (model X.prog X.w) X.A X.xe (some (assign (.Name x pos') X.env)) (fun _ s' => SP X pins D .next s') acc C) hc B hg hf he hsub hhas I2 T t0 f2 hw ?_
  intro Dl C H5 s5 I5 q5 ⟨m, hm⟩ nC hC
  have fC : FpOk X pins H5 C := I2.fpOk hC nC
  show wpAny _ X.A (assign (.Name x pos') X.env (.ref Dl)) _ _ s5
  refine wpAny_assign_Name (store_ok2 I5 hN hix (.inl hx) (v := .ref Dl) rfl (fun s6 I6 z9 => ?_) (.inr hx))
  obtain ⟨a, hsb, ha⟩ := z9
  have hCa : C ≠ a := by
    rcases ha with z | z
    · rw [z]; exact fC.2.1
    · exact Ne.symm (fC.2.2.2.2.1 x a z)
  refine ⟨m, hm.sameBut hsb hCa, fun h' hs' => ⟨_, H5, ?_, q5⟩⟩
  exact I6.turned (t' := s6.toks) (it := C) (fun b o hb e => (hs'.2 b hb).trans e) fC.1 fC.2.1 fC.2.2.2.1 fC.2.2.2.2.1 fC.2.2.2.2.2
end
end L2
namespace L2
open PySem PySem.Spec PyProof.Rows
section
variable {X : Cx} {pins : List (Addr × Obj)} {σ : St} {H : Hp} {s : Shared} {h' : Heap}
theorem Inv.turnedN {t' : Nat} {ch : List Addr} (I : Inv X pins σ H s) (k : ∀ b o, b ∉ ch → s.heap.get? b = some o → h'.get? b = some o) (hf : ∀ b ∈ ch, FpOk X pins H b) : Inv X pins σ H { s with heap := h', toks := t' } := by
  have nit : ∀ b u, H b = some u → b ∉ ch := fun b u e z => by rw [(hf b z).1] at e; cases e
  refine I.step (g' := s.gens) (d' := s.drawn) (ch := ch) (fun b hb => ?_) (fun b o _ _ hc e _ => k b o hc e) (fun b o _ _ hc e _ => ⟨o.slots, k b o hc e⟩) (fun _ _ _ _ n => n)
    (fun b o hc e => ⟨o, k b o hc e⟩) (fun _ _ e => e) (fun _ _ _ e => e) (fun b ps e => ⟨#[], by rw [e]; simp⟩) (fun m hm => ?_) (fun b u e => ?_) I.bare
  · obtain ⟨g0, g1, g2, g3, g4, g5⟩ := hf b hb
    exact ⟨g3, g1, g4, g5⟩
  · obtain ⟨o, es, ep, ho, r⟩ := hm
    exact ⟨o, es, ep, k _ o (fun z => (hf _ z).2.1 rfl) ho, r⟩
  · refine (I.hok b u e).stay (fun c v hc q => k c v ?_ q) (fun _ q => q) fun _ _ q => q
    rcases hc with z | z
    · rw [z]; exact nit b u e
    · exact nit c _ z
end
noncomputable def Its (x : Str) : It := ⟨fun i _ => i < x.cps.size, fun i H v H' => H' = H ∧ ∃ c, x.cps[i]? = some c ∧ v = .str ⟨#[c]⟩, fun i _ => i = x.cps.size⟩
theorem strNames (x : Str) : ["enumerate", "zip", "dict_itemiterator", "dict_reverseitemiterator", "odict_iterator", "itertools.zip_longest", "itertools.pairwise"].contains (strIterType x) = false := by
  unfold strIterType
  split <;> decide
theorem walks_str {P : Program} {w : World} {A : Around} (hh : A.handled = none) (it : Addr) (x : Str) (t : Tok) : Walks P w A it [it] [it] x.cps.size (SignAt x) (fun i h => h.IsStrIter it (strIterType x) x t i) := by
  unfold strIterType
  cases ha : x.cps.all (· < 128)
  · exact Walks.strWide hh it x t
  · exact Walks.strAscii hh it x t
theorem turn_str {P : Program} {w : World} {K : PySem.W.Frag} {tg : Expr} (it : Addr) (x : Str) (t : Tok) : Turn P w K tg (Its x) [it] it (fun i h => h.IsStrIter it (strIterType x) x t i) where
  mem := by simp
  obj := fun i h st b hb => by
    have e : b = it := by simpa using hb
    subst e
    obtain ⟨o, e, c, d⟩ := st
    exact ⟨o, e, fun v z => by rw [d] at z; cases z⟩
  keep := fun i h h' st k => let ⟨o, e, r⟩ := st; ⟨o, k it (by simp) o e, r⟩
  item := by
    intro X hP hw hK hc i pins s σ H E I hf st hg
    subst hP hw hK
    refine (walks_str (I.ok.hd hc) it x t).item i s _ _ hg st fun v h' tk hv st' kk => ?_
    obtain ⟨c, u, hx, rfl⟩ := hv
    have I1 : Inv X pins σ H { s with heap := h', toks := tk } := I.turnedN (ch := [it]) kk hf
    obtain ⟨o, e, cl, d⟩ := id st'
    exact ⟨_, rfl, go_of (s := { s with heap := h', toks := tk }) e cl d (strNames x) ⟨.str ⟨#[c]⟩, H, I1, ⟨u, rfl⟩, ⟨rfl, c, hx, rfl⟩, st', fun b hb => (hf b hb).1⟩⟩
  done := by
    intro X hP hw hK hc i pins s σ H E I hf st hg
    subst hP hw hK
    have hg' : i = x.cps.size := hg
    subst hg'
    exact (walks_str (I.ok.hd hc) it x t).done s _ _ st fun h' tk kk => ⟨rfl, I.turnedN (ch := [it]) kk hf⟩
  self := fun A i s Q E st h => by
    unfold strIterType at st
    cases ha : x.cps.all (· < 128)
    · rw [ha] at st; exact wpAny_pyIter_striter_wide st h
    · rw [ha] at st; exact wpAny_pyIter_striter_ascii st h
section
variable {X : Cx}
variable {elts : List Expr} {k : Nat} {tpos : Pos} {a : Expr} {ta : TA} {p pos : Pos}
end
end L2
namespace L2
open PySem PySem.Spec PyProof.Rows
noncomputable def cutS (x : Str) (lo hi : Option Int) : Str := ⟨((x.cps.toList.drop (HT.sIx x.length 0 lo)).take (HT.sIx x.length x.length hi - HT.sIx x.length 0 lo)).toArray⟩
theorem strIdx (lo hi : Option Int) (n : Nat) : Builtin.Str.strSliceIndices lo hi 1 n = (List.range (HT.sIx n n hi - HT.sIx n 0 lo)).map (HT.sIx n 0 lo + ·) := by
  have h : Builtin.Str.strSliceIndices lo hi 1 n = sliceRange (sliceBounds lo hi none n).1 (sliceBounds lo hi none n).2.1 1 := rfl
  obtain ⟨h1, h2, _⟩ := slice_bounds lo hi n
  rw [h, h1, h2, sliceRange_one]
theorem slice_cut (x : Str) (lo hi : Option Int) : Txt.slice x lo hi = cutS x lo hi := by
  have hx : x.length = x.cps.toList.length := by simp [Str.length]
  unfold Txt.slice
  rw [strIdx]
  split
  · rename_i hc
    have hl : ((List.range (HT.sIx x.length x.length hi - HT.sIx x.length 0 lo)).map (HT.sIx x.length 0 lo + ·)).length = x.length := by
      rw [Bool.and_eq_true] at hc
      exact eq_of_beq hc.2
    rw [List.length_map, List.length_range] at hl
    have h2 := HT.sIx_le x.length x.length (Nat.le_refl _) hi
    have e1 : HT.sIx x.length 0 lo = 0 ∨ x.length = 0 := by omega
    refine ext_toList ?_
    show x.cps.toList = ((x.cps.toList.drop (HT.sIx x.length 0 lo)).take _).toArray.toList
    rw [List.toList_toArray, hl]
    rcases e1 with e1 | e1
    · rw [e1, List.drop_zero, List.take_of_length_le (Nat.le_of_eq hx.symm)]
    · rw [e1, List.take_zero]
      rw [hx] at e1
      exact List.eq_nil_of_length_eq_zero e1
  · rw [pick_run]
    rfl
section
variable {X : Cx}
noncomputable def rSlS : V → Option Int → Option Int → Hp → VK → Prop := fun x lo hi H Q => ∃ z, x = .str z ∧ z.length ≤ sizeLine ∧ Q (.str (cutS z lo hi)) H
theorem isPart_value {v : Value} {o : Option Int} (p : IsPart v o) : ∃ q : Option (Int × Tok), v = partValue q ∧ q.map (·.1) = o := by
  cases p with
  | none => exact ⟨none, rfl, rfl⟩
  | int i t => exact ⟨some (i, t), rfl, rfl⟩
theorem sl_str : SlR X rSlS := by
  intro pins s σ H x v vl vu lo hi sl Q I rx hs pl pu h
  obtain ⟨z, rfl, hz, q⟩ := h
  obtain ⟨t, rfl⟩ := rx
  obtain ⟨ql, rfl, el⟩ := isPart_value pl
  obtain ⟨qu, rfl, eu⟩ := isPart_value pu
  refine ⟨"str", _, F.slot_str_getitem.lookup, typeIs_str _ _ _, ?_⟩
  obtain ⟨o, ho, hc, hd⟩ := hs
  refine wpAny_getItem_str_slice (l := ql) (u := qu) (st := none) ⟨o, ho, hc, hd⟩ rfl ?_
  have fin : ∀ t' k, EP X pins σ Q (.str (Txt.slice z lo hi) t') { s with toks := k } := fun t' k => ⟨.str (cutS z lo hi), H, I.tok _, ⟨t', by rw [slice_cut]⟩, q⟩
  have key : (sliceMade z t ql qu none).post (EP X pins σ Q) s := by
    unfold sliceMade slicePicked
    rw [el, eu]
    exact post_val_or_str ⟨Nat.le_trans (Txt.slice_le z lo hi) hz, fin⟩
  exact key
theorem ip_addS : PIp X .Add (fun x y H Q => ∃ i j, x = .str i ∧ y = .str j ∧ i.length + j.length ≤ sizeLine ∧ Q (.str (i ++ j)) H) := by
  intro pins s σ H x y v u Q I r1 r2 h
  obtain ⟨i, j, e1, e2, hz, q⟩ := h
  subst e1; subst e2
  obtain ⟨t, rfl⟩ := r1
  obtain ⟨t', rfl⟩ := r2
  exact PyProof.Rows.iadd_str (fun t'' tk => ⟨.str (i ++ j), H, I.tok _, ⟨_, rfl⟩, q⟩) hz
noncomputable def repS (x : Str) (n : Nat) : Str := ⟨(List.replicate n x.cps.toList).flatten.toArray⟩
theorem foldl_cps (xs : Array Nat) : ∀ (n : Nat) (acc : Array Nat), (List.replicate n xs).foldl (· ++ ·) acc = acc ++ (List.replicate n xs.toList).flatten.toArray
  | 0, acc => by simp
  | n + 1, acc => by
    rw [List.replicate_succ, List.foldl_cons, foldl_cps xs n, List.replicate_succ, List.flatten_cons]
    apply Array.toList_inj.mp
    simp
theorem repS_length (x : Str) (n : Nat) : (repS x n).length = n * x.length := by
  show (List.replicate n x.cps.toList).flatten.toArray.size = n * x.cps.size
  rw [List.size_toArray, len_rep]
  simp
theorem op_repS : OpR X (binaryOp .Mult) (fun x y H Q => ∃ z n, x = .str z ∧ y = .int n ∧ -(2 ^ 63) ≤ n ∧ n < 2 ^ 63 ∧ z.length * n.toNat ≤ sizeLine ∧ Q (.str (repS z n.toNat)) H) := by
  intro pins s σ H x y v u Q I rx ry h
  obtain ⟨z, n, rfl, rfl, h1, h2, hz, q⟩ := h
  obtain ⟨t, rfl⟩ := rx
  obtain ⟨t', rfl⟩ := ry
  have hs : sizeLine = 16777216 := sizeLine_eq
  have whole : ∀ t'' k, EP X pins σ Q (.str (repS z n.toNat) t'') { s with toks := k } := fun t'' k => ⟨.str _, H, I.tok _, ⟨t'', rfl⟩, q⟩
  refine PySem.P.mul_str ?_ (fun g1 g2 => ?_) (fun g1 g2 => ?_) ?_
  · rw [decide_eq_false (by omega), decide_eq_false (by omega)]; rfl
  · intro hgt
    have hn : 1 ≤ n := by omega
    have e : z.length * n.toNat ≤ 16777216 := by rw [← hs]; exact hz
    have e2 : (z.length : Int) * n ≤ 16777216 := by
      have : ((z.length * n.toNat : Nat) : Int) = (z.length : Int) * n := by rw [Int.natCast_mul, Int.toNat_of_nonneg (by omega)]
      omega
    have e3 : (z.length : Int) ≤ (2 ^ 63 - 1) / n := by
      rw [Int.le_ediv_iff_mul_le (by omega)]
      omega
    omega
  · show decide _ = false
    exact decide_eq_false (by rw [← hs] at *; omega)
  · by_cases g1 : n < 1
    · rw [if_pos g1]
      have e0 : n.toNat = 0 := by omega
      have w := whole s.toks (s.toks + 1)
      rw [e0] at w
      exact ⟨by decide, w⟩
    · rw [if_neg g1]
      by_cases g2 : (n == 1 || z.length == 0) = true
      · rw [if_pos g2]
        have e : repS z n.toNat = z := by
          refine ext_toList ?_
          show (List.replicate n.toNat z.cps.toList).flatten.toArray.toList = z.cps.toList
          rw [List.toList_toArray]
          rcases Bool.or_eq_true _ _ ▸ g2 with g | g
          · have : n = 1 := eq_of_beq g
            subst this
            simp
          · have : z.length = 0 := eq_of_beq g
            have hz0 : z.cps.toList = [] := List.eq_nil_of_length_eq_zero (by simpa [Str.length] using this)
            rw [hz0]
            simp
        have w := whole t s.toks
        rw [e] at w
        exact w
      · rw [if_neg g2]
        have e : (⟨(List.replicate n.toNat z.cps).foldl (· ++ ·) #[]⟩ : Str) = repS z n.toNat := by
          refine ext_toList ?_
          show ((List.replicate n.toNat z.cps).foldl (· ++ ·) #[]).toList = (List.replicate n.toNat z.cps.toList).flatten.toArray.toList
          rw [foldl_cps]
          simp
        have w := whole s.toks (s.toks + 1)
        rw [e]
        refine ⟨?_, w⟩
        show (repS z n.toNat).length ≤ sizeLine
        rw [repS_length, Nat.mul_comm]
        exact hz
end
end L2
namespace L2
open PySem PySem.Spec PyProof.Rows
mutual
inductive Lies (K : PySem.W.Frag) (H : Hp) : V → PyData → Prop
  | non : Lies K H .non .none
  | bl (b : Bool) : Lies K H (.bl b) (.bool b)
  | int (i : Int) : Lies K H (.int i) (.int i)
  | str (x : Str) (h : PyData.strOk x = true) : Lies K H (.str x) (.str x)
  | lst {a : Addr} {vs : List V} {ds : List PyData} : SqL K H a vs → LiesAll K H vs ds → Lies K H (.ref a) (.list ds)
  | tup {a : Addr} {vs : List V} {ds : List PyData} : SqT K H a vs → LiesAll K H vs ds → Lies K H (.ref a) (.tuple ds)
inductive LiesAll (K : PySem.W.Frag) (H : Hp) : List V → List PyData → Prop
  | nil : LiesAll K H [] []
  | cons {v : V} {vs : List V} {d : PyData} {ds : List PyData} : Lies K H v d → LiesAll K H vs ds → LiesAll K H (v :: vs) (d :: ds)
end
mutual
theorem Lies.lay {K : PySem.W.Frag} {H : Hp} : ∀ {v : V} {d : PyData}, Lies K H v d → d.canLay0 = true
  | _, _, .non => rfl
  | _, _, .bl _ => rfl
  | _, _, .int _ => rfl
  | _, _, .str _ h => by simpa [PyData.canLay0] using h
  | _, _, .lst _ r => by simpa [PyData.canLay0] using LiesAll.lay r
  | _, _, .tup _ r => by simpa [PyData.canLay0] using LiesAll.lay r
theorem LiesAll.lay {K : PySem.W.Frag} {H : Hp} : ∀ {vs : List V} {ds : List PyData}, LiesAll K H vs ds → PyData.canLayAll0 ds = true
  | _, _, .nil => rfl
  | _, _, .cons h r => by
    have h1 := Lies.lay h
    have h2 := LiesAll.lay r
    simp [PyData.canLayAll0, h1, h2]
end
section
variable {X : Cx} {pins : List (Addr × Obj)} {σ : St} {H : Hp} {s : Shared}
mutual
theorem Inv.reads (I : Inv X pins σ H s) : ∀ {v : V} {d : PyData} {u : Value}, Lies X.K H v d → RelV v u → ∃ as, Reads s.heap u d as
  | _, _, _, .non, r => by cases r; exact ⟨_, .none⟩
  | _, _, _, .bl b, r => by cases r; exact ⟨_, .bool b⟩
  | _, _, _, .int i, r => by obtain ⟨t, rfl⟩ := r; exact ⟨_, .int i t⟩
  | _, _, _, .str x _, r => by obtain ⟨t, rfl⟩ := r; exact ⟨_, .str x t⟩
  | _, _, _, .lst h l, r => by
    cases r
    obtain ⟨its, rv, ⟨o, n, e, c, _, d⟩, _⟩ := I.list h
    obtain ⟨as, ra⟩ := Inv.readsAll I l rv
    exact ⟨_, .list e c d (by simpa using ra)⟩
  | _, _, _, .tup h l, r => by
    cases r
    obtain ⟨its, rv, ⟨o, e, c, n, d⟩, _⟩ := I.tuple h
    obtain ⟨as, ra⟩ := Inv.readsAll I l rv
    exact ⟨_, .tuple e c d (by simpa using ra)⟩
theorem Inv.readsAll (I : Inv X pins σ H s) : ∀ {vs : List V} {ds : List PyData} {us : List Value}, LiesAll X.K H vs ds → Vals vs us → ∃ as, ReadsAll s.heap us ds as
  | _, _, _, .nil, r => by cases r; exact ⟨_, .nil⟩
  | _, _, _, .cons h l, r => by
    cases r with
    | cons r1 r2 =>
      obtain ⟨as, ra⟩ := Inv.reads I h r1
      obtain ⟨bs, rb⟩ := Inv.readsAll I l r2
      exact ⟨_, .cons ra rb⟩
end
end
section
variable {X : Cx}
theorem op_eqD (hu : X.A.units + 64 < cLine) : OpR X (compareOp .Eq) (fun x y H Q => ∃ da db, Lies X.K H x da ∧ Lies X.K H y db ∧ min da.depth db.depth ≤ 60 ∧ Q (.bl (PyData.eqv da db)) H) := by
  intro pins s σ H x y v u Q I rx ry h
  obtain ⟨da, db, ha, hb, hd, q⟩ := h
  obtain ⟨as, ra⟩ := I.reads ha rx
  obtain ⟨bs, rb⟩ := I.reads hb ry
  exact SeqAt.compareEq_reads ra rb ha.lay hb.lay (by omega) ⟨.bl _, H, I, rfl, q⟩
theorem op_neD (hu : X.A.units + 64 < cLine) : OpR X (compareOp .NotEq) (fun x y H Q => ∃ da db, Lies X.K H x da ∧ Lies X.K H y db ∧ min da.depth db.depth ≤ 60 ∧ Q (.bl (!PyData.eqv da db)) H) := by
  intro pins s σ H x y v u Q I rx ry h
  obtain ⟨da, db, ha, hb, hd, q⟩ := h
  obtain ⟨as, ra⟩ := I.reads ha rx
  obtain ⟨bs, rb⟩ := I.reads hb ry
  exact SeqAt.compareNe_reads ra rb ha.lay hb.lay (by omega) ⟨.bl _, H, I, rfl, q⟩
end
section
variable {X : Cx}
theorem call_isiT : CallR X (.builtin "isinstance") (fun xs H Q => ∃ x n t b, xs = [x, .ty n] ∧ TyOf X.K H x t ∧ PySem.W.kitOne X.K t (.type n) = some b ∧ Q (.bl b) H) := by
  intro pins s σ H xs us Q I r h
  obtain ⟨x, n, t, b, rfl, ty, e, q⟩ := h
  obtain ⟨u, w', rfl, ru, rw'⟩ := r.two
  obtain rfl : w' = Value.type n := rw'
  exact isinst_ok I ru ty e fun tk => ⟨.bl b, H, I.tok tk, rfl, q⟩
end
end L2
namespace L2
open PySem PySem.Spec PyProof.Rows
section
variable {X : Cx}
noncomputable def rAddS : R2 := fun x y H Q => ∃ i j, x = .str i ∧ y = .str j ∧ i.length + j.length ≤ sizeLine ∧ Q (.str (i ++ j)) H
noncomputable def rAddU (K : PySem.W.Frag) : R2 := fun x y H Q => rI0 (fun i j => .int (i + j)) x y H Q ∨ rAddS x y H Q ∨ rCat x y H Q ∨ rCatT K x y H Q
theorem op_addU : OpR X (binaryOp .Add) (rAddU X.K) := op_add.or (op_add_str.or (op_cat.or op_catT))
noncomputable def rEqD (K : PySem.W.Frag) : R2 := fun x y H Q => ∃ da db, Lies K H x da ∧ Lies K H y db ∧ min da.depth db.depth ≤ 60 ∧ Q (.bl (PyData.eqv da db)) H
noncomputable def rNeD (K : PySem.W.Frag) : R2 := fun x y H Q => ∃ da db, Lies K H x da ∧ Lies K H y db ∧ min da.depth db.depth ≤ 60 ∧ Q (.bl (!PyData.eqv da db)) H
noncomputable def rEqU (K : PySem.W.Frag) : R2 := fun x y H Q => rEq x y H Q ∨ rEqD K x y H Q
noncomputable def rNeU (K : PySem.W.Frag) : R2 := fun x y H Q => rNe x y H Q ∨ rNeD K x y H Q
theorem op_eqU (hu : X.A.units + 64 < cLine) : OpR X (compareOp .Eq) (rEqU X.K) := op_eq.or (op_eqD hu)
theorem op_neU (hu : X.A.units + 64 < cLine) : OpR X (compareOp .NotEq) (rNeU X.K) := op_ne.or (op_neD hu)
noncomputable def rLenU (K : PySem.W.Frag) : List V → Hp → VK → Prop := fun xs H Q => ∃ x n, xs = [x] ∧ LenV K x H n ∧ Q (.int n) H
theorem call_lenU : CallR X (.builtin "len") (rLenU X.K) := call_len
noncomputable def rSlU (K : PySem.W.Frag) : V → Option Int → Option Int → Hp → VK → Prop := fun x lo hi H Q => rSlS x lo hi H Q ∨ rSlL K x lo hi H Q ∨ rSlT K x lo hi H Q
theorem sl_U : SlR X (rSlU X.K) := sl_str.or (sl_list.or sl_tup)
end
structure Cal (P : Program) (w : World) (K : PySem.W.Frag) (mg : Str → Option Value) (base : Heap) (k : Nat) (x : Str) (ps : List Str) (sp : Sp) : Prop where
  ex : ∃ (f : Addr) (fd : FuncData), FnOk P w K mg base CX0 k f fd ps sp ∧ mg x = some (.ref f) ∧ PySem.W.keepIn K (.ref f) = true ∧ Binds K fd ps []
theorem Cal.mono {P : Program} {w : World} {K : PySem.W.Frag} {mg : Str → Option Value} {base : Heap} {j k : Nat} {x : Str} {ps : List Str} {sp : Sp} (C : Cal P w K mg base j x ps sp) (h : j ≤ k) : Cal P w K mg base k x ps sp :=
  let ⟨f, fd, F, r⟩ := C.ex
  ⟨f, fd, F.mono h, r⟩
structure FunM (K : PySem.W.Frag) (mg : Str → Option Value) (x : Str) (st : Stmt) : Prop where
  ex : ∃ (f : Addr) (fd : FuncData), Fun K x x st f fd ∧ mg x = some (.ref f)
section
variable {X : Cx} {k : Nat} {x : Str} {ps : List Str} {sp : Sp} {e : Expr} {es : List Expr} {t : TA} {p pos : Pos}
theorem pe_callC (C : Cal X.prog X.w X.K X.mg X.base k x ps sp) (hr : Room k X.A) (hg : Gl X x) (ha : PA X (e :: es) t) (hdb : (x == ("__debug__" : Str)) = false := by decide)
    (he : starEach (e :: es) X.env = (false, eval e X.env) :: starEach es X.env := by rfl) (hpl : (backTo pos (starEach es X.env)).any (·.1) = false := by rfl) : PE X (.Call (.Name x p) (e :: es) [] pos) (tCall sp [] E0 t) := by
  obtain ⟨f, fd, F, hm, hk, hb⟩ := C.ex
  exact pe_call F hr hg hm hk hb .nil pass0 ha hdb he hpl
end
end L2
namespace L2
open PySem PySem.Spec PyProof.Rows
section
variable {X : Cx} {tg : Expr}
noncomputable def iSeq (K : PySem.W.Frag) (tl : TE) : TI := fun σ H R => tl σ H fun x H1 =>
  (∃ a, x = .ref a ∧ (∃ xs, SqL K H1 a xs) ∧ R (Itl K a) H1) ∨ (∃ a, x = .ref a ∧ (∃ xs, SqT K H1 a xs) ∧ R (Itt K a) H1) ∨ ∃ z, x = .str z ∧ R (Its z) H1
theorem pi_seq {l : Expr} {tl : TE} (hl : PE X l tl) : PI X tg l (iSeq X.K tl) := by
  intro pins s σ H R I h
  refine thn (hl pins s σ H _ I h) fun v s1 z9 => ?_
  obtain ⟨x, H1, I1, r1, q1⟩ := z9
  have one : ∀ b ∈ [s1.heap.objs.size], FpOk X pins H1 b := fun b hb => by
    have e : b = s1.heap.objs.size := by simpa using hb
    subst e
    exact I1.fpOk (Nat.le_refl _) (I1.hok.fresh (Nat.le_refl _))
  rcases q1 with ⟨a, e, ⟨xs, hq⟩, q⟩ | ⟨a, e, ⟨xs, hq⟩, q⟩ | ⟨z, e, q⟩
  · subst e; cases r1
    obtain ⟨its, rv, p, hz⟩ := I1.list hq
    exact wpAny_pyIter_list p.isList ⟨s1.heap.objs.size, [s1.heap.objs.size], _, _, H1, rfl, I1.kept (t' := s1.toks) fun b o e => Heap.get?_push_of_some _ e, turn_list a _, ⟨_, Heap.get?_push_size _ rfl, rfl, rfl⟩, one, q⟩
  · subst e; cases r1
    obtain ⟨its, rv, p, hz⟩ := I1.tuple hq
    exact wpAny_pyIter_tuple (show s1.heap.IsTuple a its.toArray from p) ⟨s1.heap.objs.size, [s1.heap.objs.size], _, _, H1, rfl, I1.kept (t' := s1.toks) fun b o e => Heap.get?_push_of_some _ e, turn_tuple a _, ⟨_, Heap.get?_push_size _ rfl, rfl, rfl⟩, one, q⟩
  · subst e
    obtain ⟨t, rfl⟩ := r1
    exact wpAny_pyIter_strU ⟨s1.heap.objs.size, [s1.heap.objs.size], _, _, H1, rfl, I1.kept (t' := s1.toks) fun b o e => Heap.get?_push_of_some _ e, turn_str _ z t, ⟨_, Heap.get?_push_size _ rfl, rfl, rfl⟩, one, q⟩
theorem ip_addU : PIp X .Add (fun x y H Q => ipI (fun i j => i + j) x y H Q ∨ rAddS x y H Q) := by
  intro pins s σ H x y v u Q I r1 r2 h
  rcases h with h | h
  · exact ip_add pins s σ H x y v u Q I r1 r2 h
  · exact ip_addS pins s σ H x y v u Q I r1 r2 h
end
section
variable {K : PySem.W.Frag} {g : TG} {tb : TS} {D : Ends} {σ : St} {H : Hp}
end
section
variable {K : PySem.W.Frag} {g : TG} {tc : TT} {te : TE} {Q : VK} {σ : St} {H : Hp}
end
end L2
namespace L2
open PySem PySem.Spec PyProof.Rows
section
variable {K : PySem.W.Frag} {σ : St} {H : Hp} {Q : VK} {D : Ends} {X : Cx}
end
end L2
namespace L2
open PySem PySem.Spec PyProof.Rows
structure MkC (P : Program) (w : World) (K : PySem.W.Frag) (mg : Str → Option Value) (base : Heap) (k : Nat) (x : Str) (C : Addr) (ps : List Str) (sp : Sp) : Prop where
  ex : ∃ (f : Addr) (fd : FuncData), Mk K C f ∧ FnOk P w K mg base CX0 k f fd ps sp ∧ mg x = some (.ref C) ∧ Binds K fd ps []
structure MtC (P : Program) (w : World) (K : PySem.W.Frag) (mg : Str → Option Value) (base : Heap) (k : Nat) (C : Addr) (m : Str) (ps : List Str) (sp : Sp) : Prop where
  cl : Cls K C
  ex : ∃ (f : Addr) (fd : FuncData), Meth K C m f ∧ FnOk P w K mg base CX0 k f fd ps sp ∧ Binds K fd ps []
section
variable {X : Cx} {k : Nat} {x m : Str} {C : Addr} {ps : List Str} {sp : Sp} {o e : Expr} {es : List Expr} {ta : TE} {t : TA} {p pos apos : Pos}
theorem pe_makeC (M : MkC X.prog X.w X.K X.mg X.base k x C ps sp) (hr : Room (k + 1) X.A) (hg : Gl X x) (ha : PA X (e :: es) t) (hdb : (x == ("__debug__" : Str)) = false := by decide)
    (he : starEach (e :: es) X.env = (false, eval e X.env) :: starEach es X.env := by rfl) (hpl : (backTo pos (starEach es X.env)).any (·.1) = false := by rfl) : PE X (.Call (.Name x p) (e :: es) [] pos) (tMake C sp [] E0 t) := by
  obtain ⟨f, fd, mk, F, hm, hb⟩ := M.ex
  exact pe_make mk F hr hg hm hb .nil pass0 ha hdb he hpl
theorem pe_methC {pl : Sem Bool} (he : PE X o ta) (M : MtC X.prog X.w X.K X.mg X.base k C m ps sp) (hr : Room k X.A) (ha : PA X (e :: es) t)
    (hst : starEach (e :: es) X.env = (false, eval e X.env) :: starEach es X.env := by rfl) (hpl : (backTo pos (starEach es X.env)).any (·.1) = false := by rfl)
    (ht : eval (.Call (.Attribute o m apos) (e :: es) [] pos) X.env = (do
      let ov ← eval o X.env
      standAt apos.atName
      let (f, first) ← holding [ov] (getMethod ov m pl)
      callWith pos f first (backTo pos (starEach (e :: es) X.env)) (backToKw pos (keywordEach [] X.env))) := by rfl) :
    PE X (.Call (.Attribute o m apos) (e :: es) [] pos) (tMeth C m sp [] E0 ta t) := by
  obtain ⟨f, fd, hm, F, hb⟩ := M.ex
  exact pe_meth he M.cl hm F hr hb .nil pass0 ha hst hpl ht
end
end L2
namespace L2
open PySem PySem.Spec PyProof.Rows
section
variable {K : PySem.W.Frag} {σ : St} {H : Hp} {Q : VK}
theorem kp {H : Hp} {a p : Addr} {o u : HO} (h : H a = some o) (hp : H p = none) : upd H p u a = some o := by rw [upd_ne (ne_of_none h hp)]; exact h
theorem same_new {H : Hp} {p : Addr} (h : H p = none) (o : HO) : Same H (upd H p o) := fun b u q => kp q h
end
theorem atI_of {α : Type} {xs : List α} {i : Int} {v : α} (h0 : 0 ≤ i) (h : xs[i.toNat]? = some v) : atI xs i = some v := by
  have q := atI_nat h
  have e : ((i.toNat : Nat) : Int) = i := by omega
  rw [e] at q
  exact q
theorem atI_map {α : Type} {g : Int → α} (ns : List Int) (i : Int) (h0 : 0 ≤ i) (h1 : i < ns.length) : atI (ns.map g) i = some (g (ns.getD i.toNat 0)) := by
  have hlt : i.toNat < ns.length := by omega
  refine atI_of h0 ?_
  rw [List.getElem?_map, List.getD_eq_getElem?_getD, List.getElem?_eq_getElem hlt]
  rfl
end L2
namespace L2
open PySem PySem.Spec PyProof.Rows
section
variable {X : Cx} (K : PySem.W.Frag)
variable {tg e o l : Expr} {es : List Expr} {te ta to tl : TE} {t : TA} {pos apos cpos p : Pos} {f name : Str} {T id : String} {r : V → List V → Hp → VK → Prop}
end
section
variable {K : PySem.W.Frag} {σ : St} {H : Hp} {Q : VK}
end
section
variable {σ : St} {H : Hp}
variable {K : PySem.W.Frag}
end
end L2
namespace L2
open PySem PySem.Spec PyProof.Rows
section
variable {K : PySem.W.Frag} {σ : St} {H : Hp} {Q : VK}
end
end L2
namespace L2
open PySem PySem.Spec PyProof.Rows
mutual
noncomputable def noL : PyData → Bool
  | .list _ => false
  | .tuple xs => noLs xs
  | .dict _ => false
  | _ => true
noncomputable def noLs : List PyData → Bool
  | [] => true
  | d :: r => noL d && noLs r
end
end L2
namespace L2
open PySem PySem.Spec PyProof.Rows
section
variable {K : PySem.W.Frag} {σ : St} {H : Hp} {Q : VK}
end
end L2
namespace L3
open PySem PySem.Spec PyProof.Rows L2
noncomputable abbrev Frag := PySem.W.Frag
noncomputable abbrev St := L2.St
inductive U where
  | non | bl (b : Bool) | int (i : Int) | str (x : Str) | tup (xs : List U) | fl (xs : List U) | ref (a : Addr) | ty (n : String)
noncomputable def FrL (K : Frag) (H : Hp) (a : Addr) (xs : List V) : Prop :=
  (∃ o, H a = some (.frz o (.lst xs))) ∨
    ∃ (o : Obj) (its : Array Value) (n : Nat), K.lookup a = some o ∧ o.cls = .type "list" ∧ o.dict = none ∧ o.data = .seq its n ∧ its.size ≤ sizeLine ∧ Vals xs its.toList
theorem FrL.sq {K : Frag} {H : Hp} {a : Addr} {xs : List V} (h : FrL K H a xs) : SqL K H a xs := h.elim (fun ⟨o, e⟩ => .inl (.inr ⟨o, e⟩)) .inr
mutual
inductive Rep (K : Frag) (H : Hp) : U → V → Prop
  | non : Rep K H .non .non
  | bl (b : Bool) : Rep K H (.bl b) (.bl b)
  | int (i : Int) : Rep K H (.int i) (.int i)
  | str (x : Str) : Rep K H (.str x) (.str x)
  | ref (a : Addr) : Rep K H (.ref a) (.ref a)
  | ty (n : String) : Rep K H (.ty n) (.ty n)
  | tup {a : Addr} {xs : List U} {ys : List V} : SqT K H a ys → RepAll K H xs ys → Rep K H (.tup xs) (.ref a)
  | fl {a : Addr} {xs : List U} {ys : List V} : FrL K H a ys → RepAll K H xs ys → Rep K H (.fl xs) (.ref a)
inductive RepAll (K : Frag) (H : Hp) : List U → List V → Prop
  | nil : RepAll K H [] []
  | cons {u : U} {us : List U} {v : V} {vs : List V} : Rep K H u v → RepAll K H us vs → RepAll K H (u :: us) (v :: vs)
end
structure TK (K : Frag) (H H' : Hp) : Prop where
  t : ∀ a xs, SqT K H a xs → SqT K H' a xs
  f : ∀ a xs, FrL K H a xs → FrL K H' a xs
section
variable {K : Frag} {H H' H1 H2 : Hp} {a p : Addr} {u : U} {v : V} {us : List U} {vs : List V}
theorem TK.refl : TK K H H := ⟨fun _ _ h => h, fun _ _ h => h⟩
theorem TK.trans (x : TK K H H1) (y : TK K H1 H2) : TK K H H2 := ⟨fun a xs h => y.t a xs (x.t a xs h), fun a xs h => y.f a xs (x.f a xs h)⟩
theorem TK.of (h : ∀ b o, (∃ xs, o = .tup xs) ∨ (∃ ob u, o = .frz ob u) → H b = some o → H' b = some o) : TK K H H' := by
  refine ⟨fun b xs q => ?_, fun b xs q => ?_⟩
  · rcases q with (q | ⟨o, q⟩) | q
    · exact .inl (.inl (h _ _ (.inl ⟨xs, rfl⟩) q))
    · exact .inl (.inr ⟨o, h _ _ (.inr ⟨o, _, rfl⟩) q⟩)
    · exact .inr q
  · rcases q with ⟨o, q⟩ | q
    · exact .inl ⟨o, h _ _ (.inr ⟨o, _, rfl⟩) q⟩
    · exact .inr q
theorem TK.same (e : Same H H') : TK K H H' := TK.of fun b o _ q => e b o q
theorem TK.new {o : HO} (h : H p = none) : TK K H (upd H p o) := TK.same (same_new h o)
theorem TK.write {o o' : HO} (h : H a = some o) (n1 : ∀ xs, o ≠ .tup xs) (n2 : ∀ ob u, o ≠ .frz ob u) : TK K H (upd H a o') := TK.of fun b ob c q => by
  by_cases e : b = a
  · subst e
    rw [h] at q; cases q
    rcases c with ⟨xs, rfl⟩ | ⟨x, y, rfl⟩
    · exact absurd rfl (n1 xs)
    · exact absurd rfl (n2 x y)
  · rw [upd_ne e]; exact q
mutual
theorem Rep.up (k : TK K H H') : ∀ {u : U} {v : V}, Rep K H u v → Rep K H' u v
  | _, _, .non => .non
  | _, _, .bl b => .bl b
  | _, _, .int i => .int i
  | _, _, .str x => .str x
  | _, _, .ref a => .ref a
  | _, _, .ty n => .ty n
  | _, _, .tup h r => .tup (k.t _ _ h) (RepAll.up k r)
  | _, _, .fl h r => .fl (k.f _ _ h) (RepAll.up k r)
theorem RepAll.up (k : TK K H H') : ∀ {us : List U} {vs : List V}, RepAll K H us vs → RepAll K H' us vs
  | _, _, .nil => .nil
  | _, _, .cons h r => .cons (Rep.up k h) (RepAll.up k r)
end
theorem RepAll.len : ∀ {us : List U} {vs : List V}, RepAll K H us vs → us.length = vs.length
  | _, _, .nil => rfl
  | _, _, .cons _ r => congrArg (· + 1) r.len
theorem RepAll.get : ∀ {us : List U} {vs : List V} {i : Nat} {u : U}, RepAll K H us vs → us[i]? = some u → ∃ v, vs[i]? = some v ∧ Rep K H u v
  | _, _, _, _, .nil, e => by simp at e
  | _, _, 0, _, .cons r _, e => by simp at e; subst e; exact ⟨_, rfl, r⟩
  | _, _, i + 1, u, .cons _ t, e => by
    obtain ⟨v, h1, h2⟩ := RepAll.get (i := i) (u := u) t (by simpa using e)
    exact ⟨v, by simpa using h1, h2⟩
theorem RepAll.app : ∀ {us ws : List U} {vs zs : List V}, RepAll K H us vs → RepAll K H ws zs → RepAll K H (us ++ ws) (vs ++ zs)
  | _, _, _, _, .nil, r => r
  | _, _, _, _, .cons h t, r => .cons h (RepAll.app t r)
theorem RepAll.set {u : U} {v : V} (r : Rep K H u v) : ∀ {us : List U} {vs : List V} (i : Nat), RepAll K H us vs → RepAll K H (us.set i u) (vs.set i v)
  | _, _, _, .nil => .nil
  | _, _, 0, .cons _ t => .cons r t
  | _, _, i + 1, .cons q t => .cons q (RepAll.set r i t)
theorem RepAll.take : ∀ {us : List U} {vs : List V} (n : Nat), RepAll K H us vs → RepAll K H (us.take n) (vs.take n)
  | _, _, 0, _ => by simpa using RepAll.nil
  | _, _, _ + 1, .nil => .nil
  | _, _, n + 1, .cons r t => .cons r (RepAll.take n t)
theorem RepAll.drop : ∀ {us : List U} {vs : List V} (n : Nat), RepAll K H us vs → RepAll K H (us.drop n) (vs.drop n)
  | _, _, 0, r => r
  | _, _, _ + 1, .nil => .nil
  | _, _, n + 1, .cons _ t => RepAll.drop n t
theorem RepAll.atI {us : List U} {vs : List V} {i : Int} {u : U} (r : RepAll K H us vs) (h : atI us i = some u) : ∃ v, L2.atI vs i = some v ∧ Rep K H u v := by
  unfold L2.atI at h ⊢
  rw [← r.len]
  cases e : ixN us.length i with
  | none => rw [e] at h; cases h
  | some j => rw [e] at h; exact r.get h
theorem RepAll.ints : ∀ ns : List Int, RepAll K H (ns.map U.int) (ns.map V.int)
  | [] => .nil
  | n :: r => .cons (.int n) (RepAll.ints r)
theorem RepAll.ints_of : ∀ {ns : List Int} {vs : List V}, RepAll K H (ns.map U.int) vs → vs = ns.map V.int
  | [], _, .nil => rfl
  | n :: r, _, .cons (.int _) t => by rw [RepAll.ints_of (ns := r) t]; rfl
end
noncomputable abbrev St2 := List (Option U)
@[reducible] noncomputable def gV : St2 → Nat → Option U
  | [], _ => none
  | o :: _, 0 => o
  | _ :: r, n + 1 => gV r n
@[reducible] noncomputable def sV : St2 → Nat → U → St2
  | [], _, _ => []
  | _ :: r, 0, u => some u :: r
  | o :: r, n + 1, u => o :: sV r n u
@[reducible] noncomputable def start2 : List Str → List U → St2
  | [], us => us.map some
  | _ :: r, [] => none :: start2 r []
  | _ :: r, u :: us => some u :: start2 r us
@[reducible] noncomputable def blk2 : List (Option Nat) → St2 → St2
  | [], _ => []
  | none :: r, σ => none :: blk2 r σ
  | some j :: r, σ => gV σ j :: blk2 r σ
noncomputable def RepO1 (K : Frag) (H : Hp) : Option U → Option V → Prop
  | none, _ => True
  | some u, some v => Rep K H u v
  | some _, none => False
inductive RepS (K : Frag) (H : Hp) : St2 → St → Prop
  | nil : RepS K H [] []
  | cons {o : Option U} {r : St2} {p : Option V} {s : St} : RepO1 K H o p → RepS K H r s → RepS K H (o :: r) (p :: s)
section
variable {K : Frag} {H H' : Hp} {u : U} {v : V}
theorem RepS.up (k : TK K H H') : ∀ {σ2 : St2} {σ : St}, RepS K H σ2 σ → RepS K H' σ2 σ
  | _, _, .nil => .nil
  | _, _, .cons (o := none) _ t => .cons trivial (RepS.up k t)
  | _, _, .cons (o := some _) (p := some _) h t => .cons (show Rep K H' _ _ from Rep.up k h) (RepS.up k t)
theorem RepS.get : ∀ {σ2 : St2} {σ : St} {i : Nat}, RepS K H σ2 σ → gV σ2 i = some u → ∃ v, σ[i]? = some (some v) ∧ Rep K H u v
  | _, _, _, .nil, e => by cases e
  | _, _, 0, .cons (o := o) (p := p) h _, e => by
    have e' : o = some u := e
    subst e'
    cases p with
    | none => exact h.elim
    | some v => exact ⟨v, rfl, h⟩
  | _, _, i + 1, .cons _ t, e => by
    obtain ⟨v, h1, h2⟩ := RepS.get (i := i) t e
    exact ⟨v, by simpa using h1, h2⟩
theorem RepS.opt : ∀ {σ2 : St2} {σ : St} (i : Nat), RepS K H σ2 σ → RepO1 K H (gV σ2 i) ((σ[i]?).getD none)
  | _, _, _, .nil => by simp [gV, RepO1]
  | _, _, 0, .cons (o := o) (p := p) h _ => h
  | _, _, i + 1, .cons _ t => by simpa [gV] using RepS.opt i t
theorem RepS.set (r : Rep K H u v) : ∀ {σ2 : St2} {σ : St} (i : Nat), RepS K H σ2 σ → RepS K H (sV σ2 i u) (σ.set i (some v))
  | _, _, _, .nil => .nil
  | _, _, 0, .cons _ t => .cons r t
  | _, _, i + 1, .cons h t => .cons h (RepS.set r i t)
theorem RepS.somes : ∀ {us : List U} {vs : List V}, RepAll K H us vs → RepS K H (us.map some) (vs.map some)
  | _, _, .nil => .nil
  | _, _, .cons h t => .cons h (RepS.somes t)
theorem RepS.strt : ∀ {us : List U} {vs : List V} (N : List Str), RepAll K H us vs → RepS K H (start2 N us) (vs.map some ++ List.replicate (N.length - vs.length) none)
  | _, _, [], r => by simpa [start2] using RepS.somes r
  | _, _, _ :: N, .nil => by
    have q := RepS.strt (us := []) (vs := []) N .nil
    simp only [List.map_nil, List.nil_append, List.length_nil, Nat.sub_zero, List.length_cons, List.replicate_succ] at q ⊢
    exact .cons trivial q
  | _, _, _ :: N, .cons (v := v) (vs := vs) h t => by
    have q := RepS.strt N t
    simp only [List.length_cons, Nat.add_sub_add_right, List.map_cons, List.cons_append]
    exact .cons h q
theorem RepS.blk : ∀ (ix : List (Option Nat)) {σ2 : St2} {σ : St}, RepS K H σ2 σ → RepS K H (blk2 ix σ2) (blkStart ix σ)
  | [], _, _, _ => .nil
  | none :: r, _, _, h => .cons trivial (RepS.blk r h)
  | some j :: r, _, _, h => .cons (h.opt j) (RepS.blk r h)
end
inductive O where
  | lst (xs : List U) | ins (C : Addr) (fs : List (Str × U)) | dct (kvs : List (Key × U))
    | fdc (ob : Obj) (kvs : List (Key × U))
noncomputable abbrev Mem := Addr → Option O
noncomputable def put (M : Mem) (a : Addr) (o : O) : Mem := fun b => if b = a then some o else M b
theorem put_same {M : Mem} {a : Addr} {o : O} : put M a o a = some o := by unfold put; rw [if_pos rfl]
theorem put_ne {M : Mem} {a b : Addr} {o : O} (h : b ≠ a) : put M a o b = M b := by unfold put; rw [if_neg h]
theorem put_put {M : Mem} {a : Addr} {o u : O} : put (put M a o) a u = put M a u := by funext b; unfold put; split <;> rfl
noncomputable def Le (M M' : Mem) : Prop := ∀ a o, M a = some o → M' a = some o
theorem Le.refl (M : Mem) : Le M M := fun _ _ h => h
theorem Le.trans {M M1 M2 : Mem} (x : Le M M1) (y : Le M1 M2) : Le M M2 := fun a o h => y a o (x a o h)
theorem mne {M : Mem} {a p : Addr} {o : O} (h : M a = some o) (n : M p = none) : a ≠ p := fun e => by subst e; rw [h] at n; cases n
theorem Le.new {M : Mem} {p : Addr} {o : O} (h : M p = none) : Le M (put M p o) := fun a u q => by rw [put_ne (mne q h)]; exact q
theorem kpM {M : Mem} {a p : Addr} {o u : O} (h : M a = some o) (n : M p = none) : put M p u a = some o := by rw [put_ne (mne h n)]; exact h
inductive Pr {α β : Type} (R : α → β → Prop) : List (Str × α) → List (Str × β) → Prop
  | nil : Pr R [] []
  | cons {f : Str} {a : α} {b : β} {x : List (Str × α)} {y : List (Str × β)} : R a b → Pr R x y → Pr R ((f, a) :: x) ((f, b) :: y)
inductive PrK {α β : Type} (R : α → β → Prop) : List (Key × α) → List (Key × β) → Prop
  | nil : PrK R [] []
  | cons {f : Key} {a : α} {b : β} {x : List (Key × α)} {y : List (Key × β)} : R a b → PrK R x y → PrK R ((f, a) :: x) ((f, b) :: y)
theorem Pr.mono {α β : Type} {R S : α → β → Prop} (h : ∀ a b, R a b → S a b) : ∀ {x : List (Str × α)} {y : List (Str × β)}, Pr R x y → Pr S x y
  | _, _, .nil => .nil
  | _, _, .cons r t => .cons (h _ _ r) (Pr.mono h t)
theorem PrK.mono {α β : Type} {R S : α → β → Prop} (h : ∀ a b, R a b → S a b) : ∀ {x : List (Key × α)} {y : List (Key × β)}, PrK R x y → PrK S x y
  | _, _, .nil => .nil
  | _, _, .cons r t => .cons (h _ _ r) (PrK.mono h t)
theorem Pr.len {α β : Type} {R : α → β → Prop} : ∀ {x : List (Str × α)} {y : List (Str × β)}, Pr R x y → x.length = y.length
  | _, _, .nil => rfl
  | _, _, .cons _ t => congrArg (· + 1) t.len
theorem Pr.look {α β : Type} {R : α → β → Prop} (f : Str) : ∀ {x : List (Str × α)} {y : List (Str × β)}, Pr R x y →
    (x.lookup f = none ∧ y.lookup f = none) ∨ ∃ a b, x.lookup f = some a ∧ y.lookup f = some b ∧ R a b
  | _, _, .nil => .inl ⟨rfl, rfl⟩
  | _, _, .cons (f := g) (a := a) (b := b) r t => by
    simp only [List.lookup_cons]
    cases e : f == g with
    | true => exact .inr ⟨a, b, rfl, rfl, r⟩
    | false => exact Pr.look f t
noncomputable def RepO (K : Frag) (H : Hp) (a : Addr) : O → Prop
  | .lst xs => ∃ ys, H a = some (.lst ys) ∧ RepAll K H xs ys
  | .ins C fs => ∃ dx gs, H a = some (.ins C dx gs) ∧ Pr (Rep K H) fs gs
  | .dct kvs => ∃ gs, H a = some (.dK gs) ∧ PrK (Rep K H) kvs gs
  | .fdc ob kvs => ∃ gs, H a = some (.frz ob (.dK gs)) ∧ PrK (Rep K H) kvs gs
noncomputable def RepM (K : Frag) (H : Hp) (M : Mem) : Prop := ∀ a o, M a = some o → RepO K H a o
section
variable {K : Frag} {H H' : Hp} {M M' : Mem} {a p : Addr} {o : O}
theorem RepO.at_ {b : Addr} (e : H' b = H b) (k : TK K H H') (r : RepO K H b o) : RepO K H' b o := by
  cases o with
  | lst xs => obtain ⟨ys, h, r⟩ := r; exact ⟨ys, by rw [e]; exact h, r.up k⟩
  | ins C fs => obtain ⟨dx, gs, h, r⟩ := r; exact ⟨dx, gs, by rw [e]; exact h, r.mono fun _ _ q => q.up k⟩
  | dct kvs => obtain ⟨gs, h, r⟩ := r; exact ⟨gs, by rw [e]; exact h, r.mono fun _ _ q => q.up k⟩
  | fdc ob kvs => obtain ⟨gs, h, r⟩ := r; exact ⟨gs, by rw [e]; exact h, r.mono fun _ _ q => q.up k⟩
theorem RepO.some_ (r : RepO K H a o) : ∃ u, H a = some u := by
  cases o with
  | lst xs => obtain ⟨ys, h, _⟩ := r; exact ⟨_, h⟩
  | ins C fs => obtain ⟨dx, gs, h, _⟩ := r; exact ⟨_, h⟩
  | dct kvs => obtain ⟨gs, h, _⟩ := r; exact ⟨_, h⟩
  | fdc ob kvs => obtain ⟨gs, h, _⟩ := r; exact ⟨_, h⟩
theorem RepM.free (r : RepM K H M) (h : H p = none) : M p = none := by
  cases q : M p with
  | none => rfl
  | some o => obtain ⟨u, e⟩ := (r p o q).some_; rw [h] at e; cases e
theorem RepM.le (r : RepM K H M') (l : Le M M') : RepM K H M := fun a o h => r a o (l a o h)
theorem RepM.same (r : RepM K H M) (e : Same H H') : RepM K H' M := fun b o h => by
  obtain ⟨u, q⟩ := (r b o h).some_
  exact (r b o h).at_ (by rw [q]; exact e b u q) (TK.same e)
theorem RepM.write {ho : HO} (r : RepM K H M) (k : TK K H (upd H a ho)) (n : RepO K (upd H a ho) a o) : RepM K (upd H a ho) (put M a o) := fun b u q => by
  by_cases e : b = a
  · subst e; rw [put_same] at q; cases q; exact n
  · rw [put_ne e] at q
    exact (r b u q).at_ (upd_ne e) k
end
end L3
namespace L3
open PySem PySem.Spec PyProof.Rows L2
theorem exUp {α β : Type} {A : α → Prop} {B : β → Prop} {C : α → β → Prop} {D : Prop} (h : ∃ a b, A a ∧ B b ∧ C a b) (k : ∀ a b, A a → B b → C a b → D) : D := by
  obtain ⟨a, b, x, y, z⟩ := h
  exact k a b x y z
noncomputable abbrev UK := U → Mem → Prop
noncomputable abbrev TE2 := St2 → Mem → UK → Prop
noncomputable abbrev TT2 := St2 → Mem → (Bool → Mem → Prop) → Prop
noncomputable abbrev TA2 := St2 → Mem → (List U → Mem → Prop) → Prop
structure Ends2 where
  nx : St2 → Mem → Prop
  rt : UK
  bk : St2 → Mem → Prop := fun _ _ => False
  ct : St2 → Mem → Prop := fun _ _ => False
noncomputable abbrev TS2 := Ends2 → St2 → Mem → Prop
noncomputable abbrev TG2 := U → St2 → Mem → (St2 → Mem → Prop) → Prop
noncomputable abbrev TGs2 := List U → St2 → Mem → (St2 → Mem → Prop) → Prop
noncomputable abbrev TI2 := St2 → Mem → (List U → (Mem → Prop) → Mem → Prop) → Prop
noncomputable def oE {α : Type} (o : Option α) (f : α → Prop) : Prop := match o with
  | some a => f a
  | none => False
@[reducible] noncomputable def vE {α : Type} (o : Option α) (f : α → Prop) : Prop := match o with
  | some a => f a
  | none => False
theorem vE_inv {α : Type} {o : Option α} {f : α → Prop} (h : vE o f) : ∃ a, o = some a ∧ f a := by
  cases o with
  | none => exact h.elim
  | some a => exact ⟨a, rfl, h⟩
theorem vE_mono {α : Type} {o : Option α} {f g : α → Prop} (k : ∀ a, f a → g a) (h : vE o f) : vE o g := by
  cases o with
  | none => exact h
  | some a => exact k a h
noncomputable def bE (b : Bool) (A B : Prop) : Prop := match b with
  | true => A
  | false => B
theorem oE_some {α : Type} {o : Option α} {f : α → Prop} {a : α} (h : o = some a) (q : f a) : oE o f := by subst h; exact q
theorem oE_inv {α : Type} {o : Option α} {f : α → Prop} (h : oE o f) : ∃ a, o = some a ∧ f a := by
  cases o with
  | none => exact h.elim
  | some a => exact ⟨a, rfl, h⟩
theorem oE_mono {α : Type} {o : Option α} {f g : α → Prop} (k : ∀ a, f a → g a) (h : oE o f) : oE o g := by
  cases o with
  | none => exact h
  | some a => exact k a h
theorem bE_mono {b : Bool} {A B A' B' : Prop} (h1 : A → A') (h2 : B → B') (h : bE b A B) : bE b A' B' := by
  cases b with
  | true => exact h1 h
  | false => exact h2 h
theorem bE_t {A B : Prop} (h : A) : bE true A B := h
theorem bE_f {A B : Prop} (h : B) : bE false A B := h
theorem bE2 {b : Bool} {A B : Prop} (h1 : b = true → A) (h2 : b = false → B) : bE b A B := by
  cases b with
  | true => exact h1 rfl
  | false => exact h2 rfl
theorem bEt {b : Bool} {A B : Prop} (h : b = true) (q : A) : bE b A B := by subst h; exact q
theorem bEf {b : Bool} {A B : Prop} (h : b = false) (q : B) : bE b A B := by subst h; exact q
section
variable (K : Frag) (H : Hp)
noncomputable def up (Q : VK) : UK := fun u M => ∀ v H', TK K H H' → Rep K H' u v → RepM K H' M → Q v H'
noncomputable def upT (Q : Bool → Hp → Prop) : Bool → Mem → Prop := fun b M => ∀ H', TK K H H' → RepM K H' M → Q b H'
noncomputable def upA (Q : List V → Hp → Prop) : List U → Mem → Prop := fun us M => ∀ vs H', TK K H H' → RepAll K H' us vs → RepM K H' M → Q vs H'
noncomputable def upS (Q : St → Hp → Prop) : St2 → Mem → Prop := fun σ2 M => ∀ σ H', TK K H H' → RepS K H' σ2 σ → RepM K H' M → Q σ H'
noncomputable def upD (D : Ends) : Ends2 := ⟨upS K H D.nx, up K H D.rt, upS K H D.bk, upS K H D.ct⟩
end
section
variable (K : Frag)
noncomputable def lift (t : TE2) : TE := fun σ H Q => ∃ σ2 M, RepS K H σ2 σ ∧ RepM K H M ∧ t σ2 M (up K H Q)
noncomputable def liftT (t : TT2) : TT := fun σ H Q => ∃ σ2 M, RepS K H σ2 σ ∧ RepM K H M ∧ t σ2 M (upT K H Q)
noncomputable def liftA (t : TA2) : TA := fun σ H Q => ∃ σ2 M, RepS K H σ2 σ ∧ RepM K H M ∧ t σ2 M (upA K H Q)
noncomputable def liftS (t : TS2) : TS := fun D σ H => ∃ σ2 M, RepS K H σ2 σ ∧ RepM K H M ∧ t (upD K H D) σ2 M
noncomputable def liftG (t : TG2) : TG := fun v σ H Q => ∃ u σ2 M, Rep K H u v ∧ RepS K H σ2 σ ∧ RepM K H M ∧ t u σ2 M (upS K H Q)
noncomputable def liftGs (t : TGs2) : TGs := fun vs σ H Q => ∃ us σ2 M, RepAll K H us vs ∧ RepS K H σ2 σ ∧ RepM K H M ∧ t us σ2 M (upS K H Q)
noncomputable def ItOk (H0 : Hp) (J : It) (xs : List U) (chk : Mem → Prop) : Prop := ∀ i H M, TK K H0 H → RepM K H M → chk M →
  (xs.length = i → J.stop i H) ∧ ∀ x, xs[i]? = some x → J.go i H ∧ ∀ v H', J.yld i H v H' → TK K H H' ∧ RepM K H' M ∧ Rep K H' x v
noncomputable def upI (H : Hp) (R : It → Hp → Prop) : List U → (Mem → Prop) → Mem → Prop := fun xs chk M => ∀ J H', TK K H H' → RepM K H' M → ItOk K H' J xs chk → R J H'
noncomputable def liftI (t : TI2) : TI := fun σ H R => ∃ σ2 M, RepS K H σ2 σ ∧ RepM K H M ∧ t σ2 M (upI K H R)
end
section
variable {K : Frag} {H H1 : Hp}
theorem up_up {Q : VK} (k : TK K H H1) {u : U} {M : Mem} (h : up K H Q u M) : up K H1 Q u M := fun v H' k' => h v H' (k.trans k')
theorem upT_up {Q : Bool → Hp → Prop} (k : TK K H H1) {b : Bool} {M : Mem} (h : upT K H Q b M) : upT K H1 Q b M := fun H' k' => h H' (k.trans k')
theorem upS_up {Q : St → Hp → Prop} (k : TK K H H1) {σ : St2} {M : Mem} (h : upS K H Q σ M) : upS K H1 Q σ M := fun v H' k' => h v H' (k.trans k')
theorem up_le {Q : VK} {u : U} {M M' : Mem} (l : Le M M') (h : up K H Q u M) : up K H Q u M' := fun v H' k r m => h v H' k r (m.le l)
end
noncomputable def MoE (t : TE2) : Prop := ∀ σ M Q Q', (∀ u M', Q u M' → Q' u M') → t σ M Q → t σ M Q'
noncomputable def MoT (t : TT2) : Prop := ∀ σ M Q Q', (∀ u M', Q u M' → Q' u M') → t σ M Q → t σ M Q'
noncomputable def MoA (t : TA2) : Prop := ∀ σ M Q Q', (∀ u M', Q u M' → Q' u M') → t σ M Q → t σ M Q'
noncomputable def MoG (t : TG2) : Prop := ∀ u σ M Q Q', (∀ σ M', Q σ M' → Q' σ M') → t u σ M Q → t u σ M Q'
noncomputable def MoGs (t : TGs2) : Prop := ∀ u σ M Q Q', (∀ σ M', Q σ M' → Q' σ M') → t u σ M Q → t u σ M Q'
noncomputable def MoI (t : TI2) : Prop := ∀ σ M Q Q', (∀ xs chk M', Q xs chk M' → Q' xs chk M') → t σ M Q → t σ M Q'
structure Ends2.Le (D D' : Ends2) : Prop where
  nx : ∀ σ M, D.nx σ M → D'.nx σ M
  rt : ∀ u M, D.rt u M → D'.rt u M
  bk : ∀ σ M, D.bk σ M → D'.bk σ M
  ct : ∀ σ M, D.ct σ M → D'.ct σ M
noncomputable def MoS (t : TS2) : Prop := ∀ D D' σ M, Ends2.Le D D' → t D σ M → t D' σ M
theorem upD_up {K : Frag} {H H1 : Hp} {D : Ends} (k : TK K H H1) : Ends2.Le (upD K H D) (upD K H1 D) := ⟨fun _ _ h => upS_up k h, fun _ _ h => up_up k h, fun _ _ h => upS_up k h, fun _ _ h => upS_up k h⟩
structure QE (X : Cx) (e : Expr) (t : TE2) : Prop where
  mo : MoE t
  pe : PE X e (lift X.K t)
structure QT (X : Cx) (e : Expr) (t : TT2) : Prop where
  mo : MoT t
  pe : PT X e (liftT X.K t)
structure QW (X : Cx) (e : Expr) (t : TT2) : Prop where
  mo : MoT t
  pe : PW X e (liftT X.K t)
structure QA (X : Cx) (es : List Expr) (t : TA2) : Prop where
  mo : MoA t
  pe : PA X es (liftA X.K t)
structure QF (X : Cx) (es : List Expr) (t : TT2) : Prop where
  mo : MoT t
  pe : PF X es (liftT X.K t)
structure QS (X : Cx) (st : Stmt) (t : TS2) : Prop where
  mo : MoS t
  pe : PS X st (liftS X.K t)
structure QSs (X : Cx) (st : List Stmt) (t : TS2) : Prop where
  mo : MoS t
  pe : PSs X st (liftS X.K t)
structure QG (X : Cx) (tg : Expr) (t : TG2) : Prop where
  mo : MoG t
  pe : PG X tg (liftG X.K t)
structure QGs (X : Cx) (tg : List Expr) (t : TGs2) : Prop where
  mo : MoGs t
  pe : PGs X tg (liftGs X.K t)
structure QI (X : Cx) (tg iter : Expr) (t : TI2) : Prop where
  mo : MoI t
  pe : PI X tg iter (liftI X.K t)
section
variable {X : Cx} {e : Expr} {st : Stmt} {sts : List Stmt} {es : List Expr}
theorem peW {t t' : TE} (h : PE X e t) (i : ∀ σ H Q, t' σ H Q → t σ H Q) : PE X e t' := fun pins s σ H Q I q => h pins s σ H Q I (i σ H Q q)
theorem ptW {t t' : TT} (h : PT X e t) (i : ∀ σ H Q, t' σ H Q → t σ H Q) : PT X e t' := fun pins s σ H Q I q => h pins s σ H Q I (i σ H Q q)
theorem pwW {t t' : TT} (h : PW X e t) (i : ∀ σ H Q, t' σ H Q → t σ H Q) : PW X e t' := fun w pins s σ H Q I q => h w pins s σ H Q I (i σ H Q q)
theorem paW {t t' : TA} (h : PA X es t) (i : ∀ σ H Q, t' σ H Q → t σ H Q) : PA X es t' := fun pos pins s σ H Q I q => h pos pins s σ H Q I (i σ H Q q)
theorem pfW {t t' : TT} (h : PF X es t) (i : ∀ σ H Q, t' σ H Q → t σ H Q) : PF X es t' := fun pins s σ H Q I q => h pins s σ H Q I (i σ H Q q)
theorem psW {t t' : TS} (h : PS X st t) (i : ∀ D σ H, t' D σ H → t D σ H) : PS X st t' := fun pins s σ H D I q => h pins s σ H D I (i D σ H q)
theorem pssW {t t' : TS} (h : PSs X sts t) (i : ∀ D σ H, t' D σ H → t D σ H) : PSs X sts t' := fun pins s σ H D I q => h pins s σ H D I (i D σ H q)
end
section
variable {K : Frag} {σ2 : St2} {M : Mem} {σ : St} {H : Hp}
theorem lf {t : TE2} (mo : MoE t) (rs : RepS K H σ2 σ) (rm : RepM K H M) {P : UK} (h : t σ2 M P) {R : VK} (k : ∀ u M1 v H1, TK K H H1 → Rep K H1 u v → RepM K H1 M1 → RepS K H1 σ2 σ → P u M1 → R v H1) : lift K t σ H R :=
  ⟨σ2, M, rs, rm, mo _ _ _ _ (fun u M1 p v H1 tk r m => k u M1 v H1 tk r m (rs.up tk) p) h⟩
theorem lfT {t : TT2} (mo : MoT t) (rs : RepS K H σ2 σ) (rm : RepM K H M) {P : Bool → Mem → Prop} (h : t σ2 M P) {R : Bool → Hp → Prop} (k : ∀ b M1 H1, TK K H H1 → RepM K H1 M1 → RepS K H1 σ2 σ → P b M1 → R b H1) : liftT K t σ H R :=
  ⟨σ2, M, rs, rm, mo _ _ _ _ (fun u M1 p H1 tk m => k u M1 H1 tk m (rs.up tk) p) h⟩
theorem lfA {t : TA2} (mo : MoA t) (rs : RepS K H σ2 σ) (rm : RepM K H M) {P : List U → Mem → Prop} (h : t σ2 M P) {R : List V → Hp → Prop} (k : ∀ us M1 vs H1, TK K H H1 → RepAll K H1 us vs → RepM K H1 M1 → RepS K H1 σ2 σ → P us M1 → R vs H1) : liftA K t σ H R :=
  ⟨σ2, M, rs, rm, mo _ _ _ _ (fun u M1 p v H1 tk r m => k u M1 v H1 tk r m (rs.up tk) p) h⟩
theorem lfG {t : TG2} (mo : MoG t) {u : U} {v : V} (ru : Rep K H u v) (rs : RepS K H σ2 σ) (rm : RepM K H M) {P : St2 → Mem → Prop} (h : t u σ2 M P) {R : St → Hp → Prop} (k : ∀ σ2' M1 σ' H1, TK K H H1 → RepS K H1 σ2' σ' → RepM K H1 M1 → P σ2' M1 → R σ' H1) : liftG K t v σ H R :=
  ⟨u, σ2, M, ru, rs, rm, mo _ _ _ _ _ (fun s2 M1 p s1 H1 tk r m => k s2 M1 s1 H1 tk r m p) h⟩
theorem lfI {t : TI2} (mo : MoI t) (rs : RepS K H σ2 σ) (rm : RepM K H M) {P : List U → (Mem → Prop) → Mem → Prop} (h : t σ2 M P) {R : It → Hp → Prop} (k : ∀ xs chk M1 J H1, TK K H H1 → RepM K H1 M1 → RepS K H1 σ2 σ → ItOk K H1 J xs chk → P xs chk M1 → R J H1) : liftI K t σ H R :=
  ⟨σ2, M, rs, rm, mo _ _ _ _ (fun xs chk M1 p J H1 tk m io => k xs chk M1 J H1 tk m (rs.up tk) io p) h⟩
end
section
variable {X : Cx} {a b c e : Expr} {ta tb tc : TE2} {pos : Pos}
@[reducible] noncomputable def qVar (i : Nat) : TE2 := fun σ M Q => vE (gV σ i) fun u => Q u M
@[reducible] noncomputable def qC (u : U) : TE2 := fun _ M Q => Q u M
theorem qv (i : Nat) {x : Str} (hN : X.N[i]? = some x := by rfl) (hv : Vis X.env.scope x := by first | exact Or.inl rfl | exact Or.inr (Or.inl rfl) | exact Or.inr (Or.inr rfl)) (hd : (x == ("__debug__" : Str)) = false := by decide)
    (hcd : (x == ("__classdict__" : Str)) = false := by decide) : QE X (.Name x pos) (qVar i) := by
  refine ⟨fun σ M Q Q' k h => vE_mono (fun u => k u M) h, peW (pe_var hN hv hd hcd) fun σ H Q h => ?_⟩
  obtain ⟨σ2, M, rs, rm, h⟩ := h
  obtain ⟨u, e1, q⟩ := vE_inv h
  obtain ⟨v, e2, r⟩ := rs.get e1
  exact ⟨v, e2, q v H .refl r rm⟩
theorem qe_c {u : U} {v : V} (h : PE X e (tC v)) (r : ∀ H, Rep X.K H u v) : QE X e (qC u) :=
  ⟨fun σ M Q Q' k h => k _ _ h, peW h fun σ H Q ⟨σ2, M, rs, rm, q⟩ => q v H .refl (r H) rm⟩
theorem qe_int {i j} : QE X (.Constant (.int i) j pos) (qC (.int i)) := qe_c pe_int fun _ => .int _
theorem qe_bl {b j} : QE X (.Constant (.bool b) j pos) (qC (.bl b)) := qe_c pe_bl fun _ => .bl _
theorem qe_non {j} : QE X (.Constant .none j pos) (qC .non) := qe_c pe_non fun _ => .non
theorem qe_str {x j} : QE X (.Constant (.str x) j pos) (qC (.str x)) := qe_c pe_str fun _ => .str _
theorem qe_ty {x : Str} {n : String} (hg : Gl X x) (hm : X.mg x = none) (hv : bootBuiltins x = some (.type n)) (hn : x ≠ "__name__" := by decide) (hd : (x == ("__debug__" : Str)) = false := by decide) : QE X (.Name x pos) (qC (.ty n)) :=
  qe_c (pe_bltn hg hm hv (v := .ty n) rfl hn hd) fun _ => .ty _
noncomputable abbrev RR2 := U → U → Mem → UK → Prop
structure RefO (K : Frag) (r : R2) (r2 : RR2) : Prop where
  mo : ∀ x y M Q Q', (∀ u M', Q u M' → Q' u M') → r2 x y M Q → r2 x y M Q'
  rf : ∀ x2 y2 x y M H Q, Rep K H x2 x → Rep K H y2 y → RepM K H M → r2 x2 y2 M (up K H Q) → r x y H Q
structure Op2 (X : Cx) (f : Value → Value → Sem Value) (r2 : RR2) : Prop where
  ex : ∃ r, OpR X f r ∧ RefO X.K r r2
@[reducible] noncomputable def qOp (r : RR2) (ta tb : TE2) : TE2 := fun σ M Q => ta σ M fun x M1 => tb σ M1 fun y M2 => r x y M2 Q
theorem qOp_mo {r : RR2} (hr : ∀ x y M Q Q', (∀ u M', Q u M' → Q' u M') → r x y M Q → r x y M Q') (ha : MoE ta) (hb : MoE tb) : MoE (qOp r ta tb) := fun σ M Q Q' k h => ha _ _ _ _ (fun x M1 h1 => hb _ _ _ _ (fun y M2 h2 => hr _ _ _ _ _ k h2) h1) h
theorem qOp_lf {r : R2} {r2 : RR2} {K : Frag} (R : RefO K r r2) (ha : MoE ta) (hb : MoE tb) {σ : St} {H : Hp} {Q : VK} (h : lift K (qOp r2 ta tb) σ H Q) : tOp r (lift K ta) (lift K tb) σ H Q := by
  obtain ⟨σ2, M, rs, rm, h⟩ := h
  exact lf ha rs rm h fun x2 M1 x H1 k1 r1 m1 s1 h1 => lf hb s1 m1 h1 fun y2 M2 y H2 k2 r2 m2 s2 h2 =>
    R.rf x2 y2 x y M2 H2 Q (r1.up k2) r2 m2 (R.mo _ _ _ _ _ (fun u M' q => up_up (k1.trans k2) q) h2)
theorem qe_op {op : Operator} {r2 : RR2} (o : Op2 X (binaryOp op) r2) (ha : QE X a ta) (hb : QE X b tb) : QE X (.BinOp a op b pos) (qOp r2 ta tb) := by
  obtain ⟨r, o1, R⟩ := o.ex
  exact ⟨qOp_mo R.mo ha.mo hb.mo, peW (pe_op o1 ha.pe hb.pe) fun σ H Q h => qOp_lf R ha.mo hb.mo h⟩
theorem qe_cmp {op : CmpOp} {r2 : RR2} (o : Op2 X (compareOp op) r2) (ha : QE X a ta) (hb : QE X b tb) (hm : behindInMarks op b = false) : QE X (.Compare a [op] [b] pos) (qOp r2 ta tb) := by
  obtain ⟨r, o1, R⟩ := o.ex
  exact ⟨qOp_mo R.mo ha.mo hb.mo, peW (pe_cmpR o1 ha.pe hb.pe hm) fun σ H Q h => qOp_lf R ha.mo hb.mo h⟩
@[reducible] noncomputable def isB (Q : Bool → Mem → Prop) : UK := fun u M => match u with
  | .bl k => Q k M
  | _ => False
theorem isB_mono {Q Q' : Bool → Mem → Prop} (k : ∀ u M', Q u M' → Q' u M') {u : U} {M : Mem} (h : isB Q u M) : isB Q' u M := by
  cases u with
  | bl b => exact k b M h
  | _ => exact h
@[reducible] noncomputable def qTest (t : TE2) : TT2 := fun σ M Q => t σ M (isB Q)
theorem qTest_mo {t : TE2} (h : MoE t) : MoT (qTest t) := fun σ M Q Q' k q => h _ _ _ _ (fun u M' z => isB_mono k z) q
theorem isB_up {K : Frag} {H H' : Hp} {Q : Bool → Hp → Prop} {u : U} {M : Mem} {v : V} (h : isB (upT K H Q) u M) (k : TK K H H') (r : Rep K H' u v) (m : RepM K H' M) : ∃ c, v = .bl c ∧ Q c H' := by
  cases u with
  | bl b => cases r; exact ⟨b, rfl, h H' k m⟩
  | _ => exact h.elim
theorem qt_cmp {op : CmpOp} {r2 : RR2} (o : Op2 X (compareOp op) r2) (ha : QE X a ta) (hb : QE X b tb) (hm : behindInMarks op b = false) : QT X (.Compare a [op] [b] pos) (qTest (qOp r2 ta tb)) := by
  obtain ⟨r, o1, R⟩ := o.ex
  refine ⟨qTest_mo (qOp_mo R.mo ha.mo hb.mo), ptW (pt_cmpR o1 ha.pe hb.pe hm) fun σ H Q h => ?_⟩
  exact qOp_lf R ha.mo hb.mo (Q := fun x H' => ∃ k, x = .bl k ∧ Q k H') (by
    obtain ⟨σ2, M, rs, rm, h⟩ := h
    exact ⟨σ2, M, rs, rm, qOp_mo R.mo ha.mo hb.mo _ _ _ _ (fun u M' q v H' k r m => isB_up q k r m) h⟩)
@[reducible] noncomputable def qChain (r r' : RR2) (ta tb tc : TE2) : TE2 := fun σ M Q => ta σ M fun x M1 => tb σ M1 fun y M2 => r x y M2 (isB fun k M3 => bE k (tc σ M3 fun z M4 => r' y z M4 Q) (Q (.bl false) M3))
theorem qChain_mo {r r' : RR2} (hr : ∀ x y M Q Q', (∀ u M', Q u M' → Q' u M') → r x y M Q → r x y M Q') (hr' : ∀ x y M Q Q', (∀ u M', Q u M' → Q' u M') → r' x y M Q → r' x y M Q') (ha : MoE ta) (hb : MoE tb) (hc : MoE tc) : MoE (qChain r r' ta tb tc) :=
  fun σ M Q Q' k h => ha _ _ _ _ (fun x M1 h1 => hb _ _ _ _ (fun y M2 h2 => hr _ _ _ _ _ (fun u M' => isB_mono fun c M3 => bE_mono (hc _ _ _ _ fun z M4 => hr' _ _ _ _ _ k) (k _ _)) h2) h1) h
theorem qChain_lf {r r' : R2} {r2 r2' : RR2} {K : Frag} (R : RefO K r r2) (R' : RefO K r' r2') (ha : MoE ta) (hb : MoE tb) (hc : MoE tc) {σ : St} {H : Hp} {Q : VK} (h : lift K (qChain r2 r2' ta tb tc) σ H Q) : tChain r r' (lift K ta) (lift K tb) (lift K tc) σ H Q := by
  obtain ⟨σ2, M, rs, rm, h⟩ := h
  refine lf ha rs rm h fun x2 M1 x H1 k1 r1 m1 s1 h1 => lf hb s1 m1 h1 fun y2 M2 y H2 k2 ry m2 s2 h2 => ?_
  refine R.rf x2 y2 x y M2 H2 _ (r1.up k2) ry m2 (R.mo _ _ _ _ _ (fun u M' q v H' k r m => ?_) h2)
  cases u with
  | bl b =>
    cases r
    refine ⟨b, rfl, ?_⟩
    cases b with
    | false =>
      rw [if_neg Bool.false_ne_true]
      exact (show up K H Q (.bl false) M' from q) _ H' ((k1.trans k2).trans k) (.bl _) m
    | true =>
      rw [if_pos rfl]
      exact lf hc (s2.up k) m q fun z2 M4 z H4 k4 r4 m4 s4 h4 => R'.rf y2 z2 y z M4 H4 Q ((ry.up k).up k4) r4 m4 (R'.mo _ _ _ _ _ (fun u M' q => up_up (((k1.trans k2).trans k).trans k4) q) h4)
  | _ => exact q.elim
theorem qe_chain {op op' : CmpOp} {r r' : RR2} (o : Op2 X (compareOp op) r) (o' : Op2 X (compareOp op') r') (ha : QE X a ta) (hb : QE X b tb) (hc : QE X c tc)
    (hm : lastMarks [op, op'] [b, c] = false := by with_unfolding_all rfl) : QE X (.Compare a [op, op'] [b, c] pos) (qChain r r' ta tb tc) := by
  obtain ⟨s, o1, R⟩ := o.ex
  obtain ⟨s', o1', R'⟩ := o'.ex
  exact ⟨qChain_mo R.mo R'.mo ha.mo hb.mo hc.mo, peW (pe_chain o1 o1' ha.pe hb.pe hc.pe hm) fun σ H Q h => qChain_lf R R' ha.mo hb.mo hc.mo h⟩
structure Un2 (X : Cx) (f : Value → Sem Value) (r2 : U → Mem → UK → Prop) : Prop where
  ex : ∃ r, UnR X f r ∧ (∀ x M Q Q', (∀ u M', Q u M' → Q' u M') → r2 x M Q → r2 x M Q') ∧ ∀ x2 x M H Q, Rep X.K H x2 x → RepM X.K H M → r2 x2 M (up X.K H Q) → r x H Q
@[reducible] noncomputable def qUn (r : U → Mem → UK → Prop) (ta : TE2) : TE2 := fun σ M Q => ta σ M fun x M1 => r x M1 Q
theorem qe_un {op : UnaryOp} {r2 : U → Mem → UK → Prop} (o : Un2 X (unaryOp op) r2) (ha : QE X a ta) : QE X (.UnaryOp op a pos) (qUn r2 ta) := by
  obtain ⟨r, o1, mo, rf⟩ := o.ex
  refine ⟨fun σ M Q Q' k h => ha.mo _ _ _ _ (fun x M1 => mo _ _ _ _ k) h, peW (pe_un o1 ha.pe) fun σ H Q z0 => exUp z0 fun σ2 M rs rm h => ?_⟩
  exact lf ha.mo rs rm h fun x2 M1 x H1 k1 r1 m1 s1 h1 => rf x2 x M1 H1 Q r1 m1 (mo _ _ _ _ (fun u M' q => up_up k1 q) h1)
@[reducible] noncomputable def qAndV (ta tb : TE2) : TE2 := fun σ M Q => ta σ M (isB fun c M1 => bE c (tb σ M1 Q) (Q (.bl false) M1))
@[reducible] noncomputable def qOrV (ta tb : TE2) : TE2 := fun σ M Q => ta σ M (isB fun c M1 => bE c (Q (.bl true) M1) (tb σ M1 Q))
theorem qe_one {op} (h : QE X a ta) : QE X (.BoolOp op [a] pos) ta := ⟨h.mo, pe_one h.pe⟩
theorem isB_go {K : Frag} {H H' : Hp} {P : Bool → Mem → Prop} {u : U} {M : Mem} {v : V} (h : isB P u M) (r : Rep K H' u v) : ∃ c, v = .bl c ∧ P c M := by
  cases u with
  | bl b => cases r; exact ⟨b, rfl, h⟩
  | _ => exact h.elim
theorem qe_and {rest : List Expr} (ha : QE X a ta) (hb : QE X (.BoolOp .And (b :: rest) pos) tb) : QE X (.BoolOp .And (a :: b :: rest) pos) (qAndV ta tb) := by
  refine ⟨fun σ M Q Q' k h => ha.mo _ _ _ _ (fun x M1 => isB_mono fun c M2 => bE_mono (hb.mo _ _ _ _ k) (k _ _)) h, peW (pe_and ha.pe hb.pe) fun σ H Q z0 => exUp z0 fun σ2 M rs rm h => ?_⟩
  refine lf ha.mo rs rm h fun x2 M1 x H1 k1 r1 m1 s1 h1 => ?_
  obtain ⟨c, rfl, h2⟩ := isB_go (H := H1) h1 r1
  refine ⟨c, rfl, ?_⟩
  cases c with
  | true => rw [if_pos rfl]; exact ⟨σ2, M1, s1, m1, hb.mo _ _ _ _ (fun u M' q => up_up k1 q) h2⟩
  | false => rw [if_neg Bool.false_ne_true]; exact (show up X.K H Q (.bl false) M1 from h2) _ H1 k1 (.bl _) m1
theorem qe_or {rest : List Expr} (ha : QE X a ta) (hb : QE X (.BoolOp .Or (b :: rest) pos) tb) : QE X (.BoolOp .Or (a :: b :: rest) pos) (qOrV ta tb) := by
  refine ⟨fun σ M Q Q' k h => ha.mo _ _ _ _ (fun x M1 => isB_mono fun c M2 => bE_mono (k _ _) (hb.mo _ _ _ _ k)) h, peW (pe_or ha.pe hb.pe) fun σ H Q z0 => exUp z0 fun σ2 M rs rm h => ?_⟩
  refine lf ha.mo rs rm h fun x2 M1 x H1 k1 r1 m1 s1 h1 => ?_
  obtain ⟨c, rfl, h2⟩ := isB_go (H := H1) h1 r1
  refine ⟨c, rfl, ?_⟩
  cases c with
  | true => rw [if_pos rfl]; exact (show up X.K H Q (.bl true) M1 from h2) _ H1 k1 (.bl _) m1
  | false => rw [if_neg Bool.false_ne_true]; exact ⟨σ2, M1, s1, m1, hb.mo _ _ _ _ (fun u M' q => up_up k1 q) h2⟩
variable {tA tB' : TT2}
@[reducible] noncomputable def qNotV (ta : TE2) : TE2 := fun σ M Q => ta σ M (isB fun c M1 => Q (.bl (!c)) M1)
theorem qe_notB (ha : QE X a ta) : QE X (.UnaryOp .Not a pos) (qNotV ta) := by
  refine ⟨fun σ M Q Q' k h => ha.mo _ _ _ _ (fun x M1 => isB_mono fun c M2 => k _ _) h, peW (pe_not ha.pe) fun σ H Q z0 => exUp z0 fun σ2 M rs rm h => ?_⟩
  refine lf ha.mo rs rm h fun x2 M1 x H1 k1 r1 m1 s1 h1 => ?_
  obtain ⟨c, rfl, h2⟩ := isB_go (H := H1) h1 r1
  exact ⟨c, rfl, (show up X.K H Q (.bl (!c)) M1 from h2) _ H1 k1 (.bl _) m1⟩
@[reducible] noncomputable def qAnd (t u : TT2) : TT2 := fun σ M Q => t σ M fun c M1 => bE c (u σ M1 Q) (Q false M1)
@[reducible] noncomputable def qOr (t u : TT2) : TT2 := fun σ M Q => t σ M fun c M1 => bE c (Q true M1) (u σ M1 Q)
@[reducible] noncomputable def qNot (t : TT2) : TT2 := fun σ M Q => t σ M fun c M1 => Q (!c) M1
theorem qw_and1 (ha : QT X a tA) : QW X (.BoolOp .And [a] pos) tA := ⟨ha.mo, pw_and1 ha.pe⟩
theorem qw_or1 (ha : QT X a tA) : QW X (.BoolOp .Or [a] pos) tA := ⟨ha.mo, pw_or1 ha.pe⟩
theorem qw_and {rest : List Expr} (ha : QT X a tA) (hb : QW X (.BoolOp .And (b :: rest) pos) tB') : QW X (.BoolOp .And (a :: b :: rest) pos) (qAnd tA tB') := by
  refine ⟨fun σ M Q Q' k h => ha.mo _ _ _ _ (fun c M1 => bE_mono (hb.mo _ _ _ _ k) (k _ _)) h, pwW (pw_and ha.pe hb.pe) fun σ H Q z0 => exUp z0 fun σ2 M rs rm h => ?_⟩
  refine lfT ha.mo rs rm h fun c M1 H1 k1 m1 s1 h1 => ?_
  cases c with
  | true => rw [if_pos rfl]; exact ⟨σ2, M1, s1, m1, hb.mo _ _ _ _ (fun u M' q => upT_up k1 q) h1⟩
  | false => rw [if_neg Bool.false_ne_true]; exact (show upT X.K H Q false M1 from h1) H1 k1 m1
theorem qw_or {rest : List Expr} (ha : QT X a tA) (hb : QW X (.BoolOp .Or (b :: rest) pos) tB') : QW X (.BoolOp .Or (a :: b :: rest) pos) (qOr tA tB') := by
  refine ⟨fun σ M Q Q' k h => ha.mo _ _ _ _ (fun c M1 => bE_mono (k _ _) (hb.mo _ _ _ _ k)) h, pwW (pw_or ha.pe hb.pe) fun σ H Q z0 => exUp z0 fun σ2 M rs rm h => ?_⟩
  refine lfT ha.mo rs rm h fun c M1 H1 k1 m1 s1 h1 => ?_
  cases c with
  | true => rw [if_pos rfl]; exact (show upT X.K H Q true M1 from h1) H1 k1 m1
  | false => rw [if_neg Bool.false_ne_true]; exact ⟨σ2, M1, s1, m1, hb.mo _ _ _ _ (fun u M' q => upT_up k1 q) h1⟩
theorem QW.qt {t : TT2} (h : QW X e t) : QT X e t := ⟨h.mo, h.pe.pt⟩
theorem qt_not (ha : QT X a tA) : QT X (.UnaryOp .Not a pos) (qNot tA) := by
  refine ⟨fun σ M Q Q' k h => ha.mo _ _ _ _ (fun c M1 => k _ _) h, ptW (pt_not ha.pe) fun σ H Q z0 => exUp z0 fun σ2 M rs rm h => ?_⟩
  exact lfT ha.mo rs rm h fun c M1 H1 k1 m1 s1 h1 => (show upT X.K H Q (!c) M1 from h1) H1 k1 m1
@[reducible] noncomputable def truU (u : U) (M : Mem) (Q : Bool → Mem → Prop) : Prop := match u with
  | .non => Q false M
  | .bl b => Q b M
  | .int i => Q (i != 0) M
  | .str y => y.length ≤ sizeLine ∧ Q ((y.length : Int) != 0) M
  | .tup xs => Q (!xs.isEmpty) M
  | .fl xs => Q (!xs.isEmpty) M
  | .ref a => ∃ xs, M a = some (.lst xs) ∧ Q (!xs.isEmpty) M
  | .ty _ => False
theorem truU_mo {u : U} {M : Mem} {Q Q' : Bool → Mem → Prop} (k : ∀ u M', Q u M' → Q' u M') (h : truU u M Q) : truU u M Q' := by
  cases u with
  | str y => exact ⟨h.1, k _ _ h.2⟩
  | ref a => obtain ⟨xs, e, q⟩ := h; exact ⟨xs, e, k _ _ q⟩
  | ty n => exact h
  | _ => exact k _ _ h
theorem isE {K : Frag} {H : Hp} {xs : List U} {ys : List V} (r : RepAll K H xs ys) : xs.isEmpty = ys.isEmpty := by cases r <;> rfl
@[reducible] noncomputable def qTru (ta : TE2) : TT2 := fun σ M Q => ta σ M fun u M1 => truU u M1 Q
theorem qt_tru (ha : QE X a ta) (he : ∀ whole, isTrue a X.env whole = (do let v ← whole; standAt a.pos; holding [v] (truthy v))) : QT X a (qTru ta) := by
  refine ⟨fun σ M Q Q' k h => ha.mo _ _ _ _ (fun c M1 => truU_mo k) h, ptW (pt_truth ha.pe he) fun σ H Q z0 => exUp z0 fun σ2 M rs rm h => ?_⟩
  refine lf ha.mo rs rm h fun x2 M1 x H1 k1 r1 m1 s1 h1 => ?_
  cases r1 with
  | non => exact ⟨_, rfl, (show upT X.K H Q _ M1 from h1) H1 k1 m1⟩
  | bl b => exact ⟨_, rfl, (show upT X.K H Q _ M1 from h1) H1 k1 m1⟩
  | int i => exact ⟨_, rfl, (show upT X.K H Q _ M1 from h1) H1 k1 m1⟩
  | str y => exact ⟨_, ⟨h1.1, rfl⟩, h1.2 H1 k1 m1⟩
  | tup hs r => exact ⟨_, .inr (.inl ⟨_, hs, rfl⟩), by rw [← isE r]; exact (show upT X.K H Q _ M1 from h1) H1 k1 m1⟩
  | fl hs r => exact ⟨_, .inl ⟨_, hs.sq, rfl⟩, by rw [← isE r]; exact (show upT X.K H Q _ M1 from h1) H1 k1 m1⟩
  | ref p =>
    obtain ⟨xs, e, q⟩ := h1
    obtain ⟨ys, e2, r⟩ := m1 p _ e
    exact ⟨_, .inl ⟨ys, .inl (.inl e2), rfl⟩, by rw [← isE r]; exact q H1 k1 m1⟩
  | ty n => exact h1.elim
end
end L3
namespace L3
open PySem PySem.Spec PyProof.Rows L2
section
variable {X : Cx} {a b c e : Expr} {es : List Expr} {ta tb tc te : TE2} {t : TA2} {pos p : Pos} {x : Str}
@[reducible] noncomputable def qNil : TA2 := fun _ M Q => Q [] M
@[reducible] noncomputable def qCons (ta : TE2) (tr : TA2) : TA2 := fun σ M Q => ta σ M fun x M1 => tr σ M1 fun xs M2 => Q (x :: xs) M2
theorem qa_nil : QA X [] qNil := ⟨fun σ M Q Q' k h => k _ _ h, paW pa_nil fun σ H Q z0 => exUp z0 fun σ2 M rs rm h => h [] H .refl .nil rm⟩
theorem qa_cons (ha : QE X e te) (hr : QA X es t) (hs : starEach (e :: es) X.env = (false, eval e X.env) :: starEach es X.env := by rfl) : QA X (e :: es) (qCons te t) := by
  refine ⟨fun σ M Q Q' k h => ha.mo _ _ _ _ (fun x M1 => hr.mo _ _ _ _ fun xs M2 => k _ _) h, paW (pa_cons ha.pe hr.pe hs) fun σ H Q z0 => exUp z0 fun σ2 M rs rm h => ?_⟩
  exact lf ha.mo rs rm h fun x2 M1 x H1 k1 r1 m1 s1 h1 => lfA hr.mo s1 m1 h1 fun us M2 vs H2 k2 r2 m2 s2 h2 => h2 (x :: vs) H2 (k1.trans k2) (.cons (r1.up k2) r2) m2
@[reducible] noncomputable def qTup (t : TA2) : TE2 := fun σ M Q => t σ M fun xs M1 => xs.length ≤ sizeLine ∧ Q (.tup xs) M1
theorem qe_tup {x1} (h : QA X es t) : QE X (.Tuple es x1 pos) (qTup t) := by
  refine ⟨fun σ M Q Q' k h' => h.mo _ _ _ _ (fun xs M1 q => ⟨q.1, k _ _ q.2⟩) h', peW (pe_tup h.pe) fun σ H Q z9 => ?_⟩
  obtain ⟨σ2, M, rs, rm, h'⟩ := z9
  refine lfA h.mo rs rm h' fun us M1 vs H1 k1 r1 m1 s1 h1 => ⟨by rw [← r1.len]; exact h1.1, fun q hq => ?_⟩
  exact h1.2 (.ref q) _ (k1.trans (TK.new hq)) (.tup (SqT.of upd_same) (r1.up (TK.new hq))) (m1.same (same_new hq _))
@[reducible] noncomputable def qLst (t : TA2) : TE2 := fun σ M Q => t σ M fun xs M1 => xs.length ≤ sizeLine ∧ ∀ q, M1 q = none → Q (.ref q) (put M1 q (.lst xs))
theorem qe_lst (h : QA X es t) : QE X (.List es pos) (qLst t) := by
  refine ⟨fun σ M Q Q' k h' => h.mo _ _ _ _ (fun xs M1 q => ⟨q.1, fun p hp => k _ _ (q.2 p hp)⟩) h', peW (pe_lst h.pe) fun σ H Q z9 => ?_⟩
  obtain ⟨σ2, M, rs, rm, h'⟩ := z9
  refine lfA h.mo rs rm h' fun us M1 vs H1 k1 r1 m1 s1 h1 => ⟨by rw [← r1.len]; exact h1.1, fun q hq => ?_⟩
  exact h1.2 q (m1.free hq) (.ref q) _ (k1.trans (TK.new hq)) (.ref q) (m1.write (TK.new hq) ⟨vs, upd_same, r1.up (TK.new hq)⟩)
@[reducible] noncomputable def qPick (t : TA2) (ti : TE2) : TE2 := fun σ M Q => t σ M fun xs M1 => xs.length ≤ sizeLine ∧ ∀ q, M1 q = none → ti σ (put M1 q (.lst xs)) fun y M2 => match y with
  | .int i => oE (atI xs i) fun u => M2 q = some (.lst xs) ∧ ∃ M3, Le M3 M2 ∧ Q u M3
  | _ => False
theorem qe_pick {p2 : Pos} (h : QA X es t) (hi : QE X b tb) (hs : PlainIx b) : QE X (.Subscript (.List es p2) b pos) (qPick t tb) := by
  refine ⟨fun σ M Q Q' k h' => h.mo _ _ _ _ (fun xs M1 q => ⟨q.1, fun p hp => hi.mo _ _ _ _ (fun y M2 z => ?_) (q.2 p hp)⟩) h', peW (pe_ix ix_list (pe_lst h.pe) hi.pe hs) fun σ H Q ⟨σ2, M, rs, rm, h'⟩ => ?_⟩
  · cases y with
    | int i => exact oE_mono (fun u ⟨e, M3, l, q⟩ => ⟨e, M3, l, k _ _ q⟩) z
    | _ => exact z
  refine lfA h.mo rs rm h' fun us M1 vs H1 k1 r1 m1 s1 h1 => ⟨by rw [← r1.len]; exact h1.1, fun q hq => ?_⟩
  have kn := TK.new (K := X.K) (o := .lst vs) hq
  refine lf hi.mo (s1.up kn) (m1.write kn (o := .lst us) ⟨vs, upd_same, r1.up kn⟩) (h1.2 q (m1.free hq)) fun y2 M2 y H2 k2 r2 m2 s2 h2 => ?_
  cases r2 with
  | int i =>
    obtain ⟨u, ea, eq, M3, l, fin⟩ := oE_inv h2
    obtain ⟨ys, e2, ra⟩ := m2 q _ eq
    obtain ⟨v, ev, rv⟩ := ra.atI ea
    exact ⟨q, ys, i, v, rfl, rfl, .inl (.inl e2), ev, fin v H2 ((k1.trans kn).trans k2) rv (m2.le l)⟩
  | _ => exact h2.elim
noncomputable def Pu (t : TE2) : Prop := ∀ σ M M' Q, t σ M Q → t σ M' fun y M2 => M2 = M' ∧ Q y M
theorem pu_var {i : Nat} : Pu (qVar i) := fun σ M M' Q h => vE_mono (fun u q => ⟨rfl, q⟩) h
theorem pu_c {u : U} : Pu (qC u) := fun σ M M' Q h => ⟨rfl, h⟩
noncomputable def PuO (r : RR2) : Prop := ∀ x y M M' Q, r x y M Q → r x y M' fun u M2 => M2 = M' ∧ Q u M
theorem pu_op {r : RR2} (hr : PuO r) (ha : Pu ta) (hb : Pu tb) (mr : ∀ x y M Q Q', (∀ u M', Q u M' → Q' u M') → r x y M Q → r x y M Q') (ma : MoE ta) (mb : MoE tb) : Pu (qOp r ta tb) := fun σ M M' Q h => by
  refine ma _ _ _ _ (fun x M1 ⟨e, q⟩ => ?_) (ha σ M M' _ h)
  subst e
  refine mb _ _ _ _ (fun y M2 z9 => ?_) (hb σ M M1 _ q)
  obtain ⟨e, q⟩ := z9
  subst e
  exact hr _ _ _ _ _ q
@[reducible] noncomputable def qPick0 (t : TA2) (ti : TE2) : TE2 := fun σ M Q => t σ M fun xs M1 => xs.length ≤ sizeLine ∧ ti σ M1 fun y M2 => match y with
  | .int i => oE (atI xs i) fun u => Q u M2
  | _ => False
structure QP (X : Cx) (e : Expr) (t : TE2) : Prop where
  qe : QE X e t
  pu : Pu t
theorem qp_v (i : Nat) {x : Str} (hN : X.N[i]? = some x := by rfl) (hv : Vis X.env.scope x := by first | exact Or.inl rfl | exact Or.inr (Or.inl rfl) | exact Or.inr (Or.inr rfl)) (hd : (x == ("__debug__" : Str)) = false := by decide)
    (hcd : (x == ("__classdict__" : Str)) = false := by decide) : QP X (.Name x pos) (qVar i) := ⟨qv i hN hv hd hcd, pu_var⟩
theorem qp_int {i j} : QP X (.Constant (.int i) j pos) (qC (.int i)) := ⟨qe_int, pu_c⟩
theorem qp_op {op : Operator} {r : RR2} (o : Op2 X (binaryOp op) r) (hr : PuO r) (ha : QP X a ta) (hb : QP X b tb) : QP X (.BinOp a op b pos) (qOp r ta tb) := by
  obtain ⟨r1, o1, R⟩ := id o.ex
  exact ⟨qe_op o ha.qe hb.qe, pu_op hr ha.pu hb.pu R.mo ha.qe.mo hb.qe.mo⟩
theorem qe_pick0 {p2 : Pos} (h : QA X es t) (hq : QP X b tb) (hs : PlainIx b) : QE X (.Subscript (.List es p2) b pos) (qPick0 t tb) := by
  have hi := hq.qe
  have pu := hq.pu
  refine ⟨fun σ M Q Q' k h' => h.mo _ _ _ _ (fun xs M1 q => ⟨q.1, hi.mo _ _ _ _ (fun y M2 z => ?_) q.2⟩) h', peW (qe_pick h hi hs).pe fun σ H Q ⟨σ2, M, rs, rm, h'⟩ => ?_⟩
  · cases y with
    | int i => exact oE_mono (fun u => k u M2) z
    | _ => exact z
  refine ⟨σ2, M, rs, rm, h.mo _ _ _ _ (fun xs M1 ⟨l, q⟩ => ⟨l, fun p hp => hi.mo _ _ _ _ (fun y M2 ⟨e, z⟩ => ?_) (pu _ _ (put M1 p (.lst xs)) _ q)⟩) h'⟩
  subst e
  cases y with
  | int i => exact oE_mono (fun u w => ⟨put_same, M1, Le.new hp, w⟩) z
  | _ => exact z
noncomputable abbrev RL2 := List U → Mem → UK → Prop
structure RefL (K : Frag) (r : List V → Hp → VK → Prop) (r2 : RL2) : Prop where
  mo : ∀ xs M Q Q', (∀ u M', Q u M' → Q' u M') → r2 xs M Q → r2 xs M Q'
  rf : ∀ us vs M H Q, RepAll K H us vs → RepM K H M → r2 us M (up K H Q) → r vs H Q
structure Call2 (X : Cx) (f : Value) (r2 : RL2) : Prop where
  ex : ∃ r, CallR X f r ∧ RefL X.K r r2
@[reducible] noncomputable def qCB (r : RL2) (t : TA2) : TE2 := fun σ M Q => t σ M fun us M1 => r us M1 Q
theorem qCB_mo {r : RL2} (hr : ∀ xs M Q Q', (∀ u M', Q u M' → Q' u M') → r xs M Q → r xs M Q') (ht : MoA t) : MoE (qCB r t) := fun σ M Q Q' k h => ht _ _ _ _ (fun us M1 => hr _ _ _ _ k) h
theorem qCB_lf {r : List V → Hp → VK → Prop} {r2 : RL2} {K : Frag} (R : RefL K r r2) (ht : MoA t) {σ : St} {H : Hp} {Q : VK} (h : lift K (qCB r2 t) σ H Q) : liftA K t σ H fun vs H1 => r vs H1 Q := by
  obtain ⟨σ2, M, rs, rm, h⟩ := h
  exact lfA ht rs rm h fun us M1 vs H1 k1 r1 m1 s1 h1 => R.rf us vs M1 H1 Q r1 m1 (R.mo _ _ _ _ (fun u M' q => up_up k1 q) h1)
theorem qe_callB {id : String} {r : RL2} (hc : Call2 X (.builtin id) r) (hg : Gl X x) (hm : X.mg x = none) (hv : bootBuiltins x = some (.builtin id)) (ha : QA X (e :: es) t) (hn : x ≠ "__name__" := by decide) (hdb : (x == ("__debug__" : Str)) = false := by decide)
    (he : starEach (e :: es) X.env = (false, eval e X.env) :: starEach es X.env := by rfl) (hpl : (backTo pos (starEach es X.env)).any (·.1) = false := by rfl) : QE X (.Call (.Name x p) (e :: es) [] pos) (qCB r t) := by
  obtain ⟨r1, o1, R⟩ := hc.ex
  exact ⟨qCB_mo R.mo ha.mo, peW (pe_callB o1 hg hm hv ha.pe hn hdb he hpl) fun σ H Q h => qCB_lf R ha.mo h⟩
theorem qe_callTy {T : String} {r : RL2} (hc : Call2 X (.type T) r) (hg : Gl X x) (hm : X.mg x = none) (hv : bootBuiltins x = some (.type T)) (ha : QA X (e :: es) t) (hn : x ≠ "__name__" := by decide) (hdb : (x == ("__debug__" : Str)) = false := by decide)
    (he : starEach (e :: es) X.env = (false, eval e X.env) :: starEach es X.env := by rfl) (hpl : (backTo pos (starEach es X.env)).any (·.1) = false := by rfl) : QE X (.Call (.Name x p) (e :: es) [] pos) (qCB r t) := by
  obtain ⟨r1, o1, R⟩ := hc.ex
  exact ⟨qCB_mo R.mo ha.mo, peW (pe_callTy o1 hg hm hv ha.pe hn hdb he hpl) fun σ H Q h => qCB_lf R ha.mo h⟩
structure Ix2 (X : Cx) (r2 : RR2) : Prop where
  ex : ∃ r, IxR X r ∧ RefO X.K r r2
theorem qe_ix {r : RR2} (o : Ix2 X r) (ha : QE X a ta) (hb : QE X b tb) (hs : PlainIx b) : QE X (.Subscript a b pos) (qOp r ta tb) := by
  obtain ⟨r1, o1, R⟩ := o.ex
  exact ⟨qOp_mo R.mo ha.mo hb.mo, peW (pe_ix o1 ha.pe hb.pe hs) fun σ H Q h => qOp_lf R ha.mo hb.mo h⟩
noncomputable abbrev TO2 := St2 → Mem → (Option Int → Mem → Prop) → Prop
structure QO (X : Cx) (e : Option Expr) (t : TO2) : Prop where
  mo : ∀ σ M Q Q', (∀ u M', Q u M' → Q' u M') → t σ M Q → t σ M Q'
  pe : PO X e (fun σ H Q => ∃ σ2 M, RepS X.K H σ2 σ ∧ RepM X.K H M ∧ t σ2 M fun o M' => ∀ H', TK X.K H H' → RepM X.K H' M' → Q o H')
@[reducible] noncomputable def qNoPart : TO2 := fun _ M Q => Q none M
@[reducible] noncomputable def qPart (t : TE2) : TO2 := fun σ M Q => t σ M fun x M1 => match x with
  | .int i => Q (some i) M1
  | _ => False
theorem poW {e : Option Expr} {t t' : TO} (h : PO X e t) (i : ∀ σ H Q, t' σ H Q → t σ H Q) : PO X e t' := fun pins s σ H Q I q => h pins s σ H Q I (i σ H Q q)
theorem qo_none : QO X none qNoPart := ⟨fun σ M Q Q' k h => k _ _ h, poW po_none fun σ H Q z0 => exUp z0 fun σ2 M rs rm h => h H .refl rm⟩
theorem qo_some (h : QE X e te) : QO X (some e) (qPart te) := by
  refine ⟨fun σ M Q Q' k h' => h.mo _ _ _ _ (fun u M1 z => ?_) h', poW (po_some h.pe) fun σ H Q ⟨σ2, M, rs, rm, h'⟩ => ?_⟩
  · cases u with
    | int i => exact k _ _ z
    | _ => exact z
  refine lf h.mo rs rm h' fun x2 M1 x H1 k1 r1 m1 s1 h1 => ?_
  cases r1 with
  | int i => exact ⟨i, rfl, (show ∀ H', TK X.K H H' → RepM X.K H' M1 → Q (some i) H' from h1) H1 k1 m1⟩
  | _ => exact h1.elim
noncomputable abbrev RS2 := U → Option Int → Option Int → Mem → UK → Prop
structure Sl2 (X : Cx) (r2 : RS2) : Prop where
  ex : ∃ r, SlR X r ∧ (∀ x l u M Q Q', (∀ u M', Q u M' → Q' u M') → r2 x l u M Q → r2 x l u M Q') ∧ ∀ x2 x l u M H Q, Rep X.K H x2 x → RepM X.K H M → r2 x2 l u M (up X.K H Q) → r x l u H Q
@[reducible] noncomputable def qSl (r : RS2) (te : TE2) (tl th : TO2) : TE2 := fun σ M Q => te σ M fun x M1 => tl σ M1 fun l M2 => th σ M2 fun u M3 => r x l u M3 Q
theorem qe_slice {r : RS2} {lo hi : Option Expr} {tl th : TO2} {p2 : Pos} (o : Sl2 X r) (he : QE X e te) (hl : QO X lo tl) (hu : QO X hi th) : QE X (.Subscript e (.Slice lo hi none p2) pos) (qSl r te tl th) := by
  obtain ⟨r1, o1, mo, rf⟩ := o.ex
  refine ⟨fun σ M Q Q' k h => he.mo _ _ _ _ (fun x M1 => hl.mo _ _ _ _ fun l M2 => hu.mo _ _ _ _ fun u M3 => mo _ _ _ _ _ _ k) h, peW (pe_slice o1 he.pe hl.pe hu.pe) fun σ H Q z0 => exUp z0 fun σ2 M rs rm h => ?_⟩
  refine lf he.mo rs rm h fun x2 M1 x H1 k1 r1 m1 s1 h1 => ⟨σ2, M1, s1, m1, hl.mo _ _ _ _ (fun l M2 h2 H2 k2 m2 => ⟨σ2, M2, s1.up k2, m2, hu.mo _ _ _ _ (fun u M3 h3 H3 k3 m3 => ?_) h2⟩) h1⟩
  exact rf x2 x l u M3 H3 Q ((r1.up k2).up k3) m3 (mo _ _ _ _ _ _ (fun u M' q => up_up ((k1.trans k2).trans k3) q) h3)
end
section
variable {X : Cx} {e : Expr} {te : TE2} {pos : Pos} {st : Stmt} {rest : List Stmt} {t u : TS2}
@[reducible] noncomputable def qNext : TS2 := fun D σ M => D.nx σ M
@[reducible] noncomputable def qSeq (t u : TS2) : TS2 := fun D σ M => t { D with nx := u D } σ M
@[reducible] noncomputable def qCont : TS2 := fun D σ M => D.ct σ M
@[reducible] noncomputable def qDrop (te : TE2) : TS2 := fun D σ M => te σ M fun _ M1 => D.nx σ M1
@[reducible] noncomputable def qRet (te : TE2) : TS2 := fun D σ M => te σ M D.rt
@[reducible] noncomputable def qIfS (c : TT2) (t u : TS2) : TS2 := fun D σ M => c σ M fun b M1 => bE b (t D σ M1) (u D σ M1)
@[reducible] noncomputable def qNever : TS2 := fun _ _ _ => False
theorem qss_nil : QSs X [] qNext := ⟨fun D D' σ M l h => l.nx _ _ h, pssW pss_nil fun D σ H ⟨σ2, M, rs, rm, h⟩ => h σ H .refl rs rm⟩
theorem qss_one (h1 : QS X st t) : QSs X [st] t := ⟨h1.mo, pss_one h1.pe⟩
theorem qss_cons (h1 : QS X st t) (h2 : QSs X rest u) : QSs X (st :: rest) (qSeq t u) := by
  refine ⟨fun D D' σ M l h => h1.mo { D with nx := u D } { D' with nx := u D' } σ M ⟨fun σ M => h2.mo _ _ _ _ l, l.rt, l.bk, l.ct⟩ h, pssW (pss_cons h1.pe h2.pe) fun D σ H ⟨σ2, M, rs, rm, h⟩ => ⟨σ2, M, rs, rm, h1.mo { (upD X.K H D) with nx := u (upD X.K H D) } _ _ _ ?_ h⟩⟩
  exact ⟨fun s2 M1 q s1 H1 k r m => ⟨s2, M1, r, m, h2.mo _ _ _ _ (upD_up k) q⟩, fun _ _ q => q, fun _ _ q => q, fun _ _ q => q⟩
theorem qs_continue : QS X (.Continue pos) qCont := ⟨fun D D' σ M l h => l.ct _ _ h, psW ps_continue fun D σ H ⟨σ2, M, rs, rm, h⟩ => h σ H .refl rs rm⟩
theorem qs_expr (he : QE X e te) (hs : swapsWith e none pos.line X.env = pure false := by rfl) : QS X (.Expr e pos) (qDrop te) :=
  ⟨fun D D' σ M l h => he.mo _ _ _ _ (fun u M1 => l.nx _ _) h, psW (ps_expr he.pe hs) fun D σ H ⟨σ2, M, rs, rm, h⟩ => lf he.mo rs rm h fun u M1 v H1 k1 r1 m1 s1 h1 => h1 σ H1 k1 s1 m1⟩
theorem qs_ret (he : QE X e te) : QS X (.Return (some e) pos) (qRet te) :=
  ⟨fun D D' σ M l h => he.mo _ _ _ _ l.rt h, psW (ps_ret he.pe) fun D σ H h => h⟩
theorem qs_if {c : Expr} {a b : List Stmt} {tc : TT2} (hc : QT X c tc) (ha : QSs X a t) (hb : QSs X b u) : QS X (.If c a b pos) (qIfS tc t u) := by
  refine ⟨fun D D' σ M l h => hc.mo _ _ _ _ (fun b M1 => bE_mono (ha.mo _ _ _ _ l) (hb.mo _ _ _ _ l)) h, psW (ps_if hc.pe ha.pe hb.pe) fun D σ H z9 => ?_⟩
  obtain ⟨σ2, M, rs, rm, h⟩ := z9
  refine lfT hc.mo rs rm h fun c M1 H1 k1 m1 s1 h1 => ?_
  cases c with
  | true => rw [if_pos rfl]; exact ⟨σ2, M1, s1, m1, ha.mo _ _ _ _ (upD_up k1) h1⟩
  | false => rw [if_neg Bool.false_ne_true]; exact ⟨σ2, M1, s1, m1, hb.mo _ _ _ _ (upD_up k1) h1⟩
theorem qs_never : QS X st qNever := ⟨fun _ _ _ _ _ h => h, psW ps_never fun D σ H ⟨σ2, M, rs, rm, h⟩ => h⟩
@[reducible] noncomputable def jName (i : Nat) : TG2 := fun u σ M Q => Q (sV σ i u) M
theorem pgW {tg : Expr} {t t' : TG} (h : PG X tg t) (i : ∀ v σ H Q, t' v σ H Q → t v σ H Q) : PG X tg t' := by
  unfold PG at h ⊢
  intros; apply h <;> first | assumption | (apply i; assumption)
theorem pgsW {tg : List Expr} {t t' : TGs} (h : PGs X tg t) (i : ∀ v σ H Q, t' v σ H Q → t v σ H Q) : PGs X tg t' := by
  unfold PGs at h ⊢
  intros; apply h <;> first | assumption | (apply i; assumption)
theorem qg_name {i : Nat} {x : Str} (hN : X.N.Nodup) (hi : X.N[i]? = some x) (hx : Loc X.env.scope x) (hf : X.fn x = true ∨ X.env.scope.names.lookup x = some .local := by first | exact .inl rfl | exact .inr rfl | assumption) : QG X (.Name x pos) (jName i) :=
  ⟨fun u σ M Q Q' k h => k _ _ h, pgW (pg_name hN hi hx hf) fun v σ H Q ⟨u, σ2, M, ru, rs, rm, h⟩ => h _ H .refl (rs.set ru i) rm⟩
@[reducible] noncomputable def jNil : TGs2 := fun us σ M Q => match us with
  | [] => Q σ M
  | _ => False
@[reducible] noncomputable def jCons (t : TG2) (u : TGs2) : TGs2 := fun us σ M Q => match us with
  | x :: r => t x σ M fun σ' M' => u r σ' M' Q
  | [] => False
theorem qgs_nil : QGs X [] jNil := by
  refine ⟨fun u σ M Q Q' k h => ?_, pgsW pgs_nil fun vs σ H Q ⟨us, σ2, M, ru, rs, rm, h⟩ => ?_⟩
  · cases u with
    | nil => exact k _ _ h
    | cons _ _ => exact h
  · cases ru with
    | nil => exact ⟨rfl, h σ H .refl rs rm⟩
    | cons _ _ => exact h.elim
theorem qgs_cons {es : List Expr} {t : TG2} {u : TGs2} (h1 : QG X e t) (h2 : QGs X es u) (hs : (assignEach (e :: es) X.env).map (·.2) = assign e X.env :: (assignEach es X.env).map (·.2) := by rfl) : QGs X (e :: es) (jCons t u) := by
  refine ⟨fun us σ M Q Q' k h => ?_, pgsW (pgs_cons h1.pe h2.pe hs) fun vs σ H Q ⟨us, σ2, M, ru, rs, rm, h⟩ => ?_⟩
  · cases us with
    | nil => exact h
    | cons x r => exact h1.mo _ _ _ _ _ (fun σ M => h2.mo _ _ _ _ _ k) h
  · cases ru with
    | nil => exact h.elim
    | cons r0 rr =>
      refine ⟨_, _, rfl, lfG h1.mo r0 rs rm h fun s2 M1 s1 H1 k1 r1 m1 q => ⟨_, s2, M1, rr.up k1, r1, m1, h2.mo _ _ _ _ _ (fun σ' M' z => upS_up k1 z) q⟩⟩
@[reducible] noncomputable def jTup (n : Nat) (t : TGs2) : TG2 := fun u σ M Q => match u with
  | .tup xs => xs.length = n ∧ t xs σ M Q
  | _ => False
theorem qg_tup {es : List Expr} {k : Nat} {t : TGs2} {n : Nat} (hc : X.calm = true) (h : QGs X es t)
    (hn : (assignEach es X.env).length = n := by rfl) (hst : (assignEach es X.env).findIdx? (·.1) = none := by rfl) : QG X (.Tuple es k pos) (jTup n t) := by
  refine ⟨fun u σ M Q Q' k h' => ?_, pgW (pg_tup hc h.pe hn hst) fun v σ H Q ⟨u, σ2, M, ru, rs, rm, h'⟩ => ?_⟩
  · cases u with
    | tup xs => exact ⟨h'.1, h.mo _ _ _ _ _ k h'.2⟩
    | _ => exact h'
  · cases ru with
    | tup sq r => exact ⟨_, _, rfl, sq, by rw [← r.len]; exact h'.1, ⟨_, σ2, M, r, rs, rm, h'.2⟩⟩
    | _ => exact h'.elim
@[reducible] noncomputable def qAsg (te : TE2) (g : TG2) : TS2 := fun D σ M => te σ M fun x M1 => g x σ M1 D.nx
theorem qs_asg {tg : Expr} {g : TG2} (he : QE X e te) (hg : QG X tg g) (hs : swapsWithSole [tg] e pos.line X.env = pure false := by rfl) (hw : swappedStores [tg] e X.env = pure none := by rfl)
    (h1 : (assignEach [tg] X.env).map (·.2) = [assign tg X.env] := by rfl) : QS X (.Assign [tg] e pos) (qAsg te g) :=
  ⟨fun D D' σ M l h => he.mo _ _ _ _ (fun x M1 => hg.mo _ _ _ _ _ l.nx) h, psW (ps_asg he.pe hg.pe hs hw h1) fun D σ H ⟨σ2, M, rs, rm, h⟩ =>
    lf he.mo rs rm h fun u M1 v H1 k1 r1 m1 s1 h1 => lfG hg.mo r1 s1 m1 h1 fun s2 M2 s1 H2 k2 r2 m2 q => q s1 H2 (k1.trans k2) r2 m2⟩
@[reducible] noncomputable def qSet (i : Nat) (te : TE2) : TS2 := fun D σ M => te σ M fun x M1 => D.nx (sV σ i x) M1
theorem qs_set {i : Nat} {x : Str} {pos' : Pos} (hN : X.N.Nodup) (hi : X.N[i]? = some x) (hx : Loc X.env.scope x) (he : QE X e te) (hs : swapsWith e (some (.Name x pos')) pos.line X.env = pure false := by rfl) (hf : X.fn x = true ∨ X.env.scope.names.lookup x = some .local := by first | exact .inl rfl | exact .inr rfl | assumption) :
    QS X (.Assign [.Name x pos'] e pos) (qSet i te) :=
  ⟨fun D D' σ M l h => he.mo _ _ _ _ (fun x M1 => l.nx _ _) h, psW (ps_set hN hi hx he.pe hs hf) fun D σ H ⟨σ2, M, rs, rm, h⟩ =>
    lf he.mo rs rm h fun u M1 v H1 k1 r1 m1 s1 h1 => h1 _ H1 k1 (s1.set r1 i) m1⟩
end
end L3
namespace L3
open PySem PySem.Spec PyProof.Rows L2
section
variable {X : Cx} {e o i : Expr} {te to ti : TE2} {pos : Pos}
noncomputable abbrev RSet2 := U → U → U → Mem → (Mem → Prop) → Prop
structure Set2 (X : Cx) (r2 : RSet2) : Prop where
  ex : ∃ r, PSet X r ∧ (∀ o i v M Q Q', (∀ M', Q M' → Q' M') → r2 o i v M Q → r2 o i v M Q') ∧
    ∀ o2 i2 v2 o i v M H Q, Rep X.K H o2 o → Rep X.K H i2 i → Rep X.K H v2 v → RepM X.K H M → r2 o2 i2 v2 M (fun M' => ∀ H', TK X.K H H' → RepM X.K H' M' → Q H') → r o i v H Q
@[reducible] noncomputable def jSub (to ti : TE2) (r : RSet2) : TG2 := fun v σ M Q => to σ M fun o M1 => ti σ M1 fun i M2 => r o i v M2 fun M3 => Q σ M3
theorem qg_sub {r : RSet2} (ho : QE X o to) (hi : QE X i ti) (s : Set2 X r)
    (ha : ∀ v, assign (.Subscript o i pos) X.env v = (do
      let ov ← holding [v] (eval o X.env)
      let iv ← holding [v, ov] (eval i X.env)
      standAt pos
      holding [v, ov, iv] (setItem ov iv v)
      release [v, ov, iv] []) := by intro _; rfl) : QG X (.Subscript o i pos) (jSub to ti r) := by
  obtain ⟨r1, o1, mo, rf⟩ := s.ex
  refine ⟨fun u σ M Q Q' k h => ho.mo _ _ _ _ (fun x M1 => hi.mo _ _ _ _ fun y M2 => mo _ _ _ _ _ _ fun M3 => k _ _) h, pgW (pg_sub ho.pe hi.pe o1 ha) fun v σ H Q z9 => ?_⟩
  obtain ⟨u, σ2, M, ru, rs, rm, h⟩ := z9
  refine lf ho.mo rs rm h fun x2 M1 x H1 k1 r1 m1 s1 h1 => lf hi.mo s1 m1 h1 fun y2 M2 y H2 k2 r2 m2 s2 h2 => ?_
  exact rf x2 y2 u x y v M2 H2 _ (r1.up k2) r2 ((ru.up k1).up k2) m2 (mo _ _ _ _ _ _ (fun M3 q H3 k3 m3 => q σ H3 ((k1.trans k2).trans k3) (s2.up k3) m3) h2)
structure Ip2 (X : Cx) (op : Operator) (r2 : RR2) : Prop where
  ex : ∃ r, PIp X op r ∧ RefO X.K r r2
@[reducible] noncomputable def oS {α : Type} (o : Option α) (B : Prop) (f : α → Prop) : Prop := match o with
  | some a => f a
  | none => B
noncomputable def Walk (chk : Mem → Prop) (g : TG2) (tb : TS2) (xs : List U) (D : Ends2) (σ : St2) (M : Mem) : Prop :=
  ∃ W : Nat → St2 → Mem → Prop, W 0 σ M ∧ ∀ i σ M, i ≤ xs.length → W i σ M → chk M ∧ oS (xs[i]?) (D.nx σ M) fun x => g x σ M fun σ1 M1 =>
    tb { D with nx := fun σ' M' => ∃ M2, Le M2 M' ∧ W (i + 1) σ' M2, ct := fun σ' M' => ∃ M2, Le M2 M' ∧ W (i + 1) σ' M2, bk := D.nx } σ1 M1
@[reducible] noncomputable def qFor (wi : TI2) (g : TG2) (tb : TS2) : TS2 := fun D σ M => wi σ M fun xs chk M1 => Walk chk g tb xs D σ M1
theorem Walk_mo {chk : Mem → Prop} {g : TG2} {tb : TS2} {xs : List U} (hg : MoG g) (hb : MoS tb) {D D' : Ends2} (l : Ends2.Le D D') {σ : St2} {M : Mem} (h : Walk chk g tb xs D σ M) : Walk chk g tb xs D' σ M := by
  obtain ⟨W, w0, ws⟩ := h
  refine ⟨W, w0, fun i σ M hi w => ?_⟩
  obtain ⟨c, q⟩ := ws i σ M hi w
  refine ⟨c, ?_⟩
  cases e : xs[i]? with
  | none => rw [e] at q; exact l.nx _ _ q
  | some x =>
    rw [e] at q
    refine hg _ _ _ _ _ (fun σ1 M1 z => ?_) q
    exact hb _ _ _ _ (Ends2.Le.mk (D := { D with nx := fun σ' M' => ∃ M2, Le M2 M' ∧ W (i + 1) σ' M2, ct := fun σ' M' => ∃ M2, Le M2 M' ∧ W (i + 1) σ' M2, bk := D.nx }) (fun _ _ z => z) l.rt l.nx (fun _ _ z => z)) z
theorem qs_for {tg iter : Expr} {body : List Stmt} {wi : TI2} {g : TG2} {tb : TS2} (hp : PassesOwn (model X.prog X.w) X.A X.env X.xe) (hc : X.calm = true) (hi : QI X tg iter wi) (hg : QG X tg g) (hb : QSs X body tb)
    (hs : ∀ x, foldedSetIterable iter X.env x = pure x := by intro _; rfl) : QS X (.For tg iter body [] pos) (qFor wi g tb) := by
  refine ⟨fun D D' σ M l h => hi.mo _ _ _ _ (fun xs chk M1 => Walk_mo hg.mo hb.mo l) h, psW (ps_for hp hc hi.pe hg.pe hb.pe hs) fun D σ H z9 => ?_⟩
  obtain ⟨σ2, M, rs, rm, h⟩ := z9
  refine lfI hi.mo rs rm h fun xs chk M1 J H1 k1 m1 s1 io h1 => ?_
  obtain ⟨W, w0, ws⟩ := h1
  let N : Nat → St → Hp → Prop := fun i σ H => i ≤ xs.length ∧ ∃ s2 M, RepS X.K H s2 σ ∧ RepM X.K H M ∧ TK X.K H1 H ∧ W i s2 M
  refine ⟨fun i m σ H => m = xs.length - i ∧ N i σ H, ⟨_, rfl, Nat.zero_le _, σ2, M1, s1, m1, .refl, w0⟩, ?_⟩
  rintro i m s Hi ⟨rfl, hl, s2, Mi, ri, mi, ki, wi'⟩
  obtain ⟨ck, q⟩ := ws i s2 Mi hl wi'
  obtain ⟨js, jg⟩ := io i Hi Mi ki mi ck
  cases e : xs[i]? with
  | none =>
    rw [e] at q
    have el : xs.length = i := by have := List.getElem?_eq_none_iff.mp e; omega
    exact .inl ⟨js el, q s Hi (k1.trans ki) ri mi⟩
  | some x =>
    rw [e] at q
    have hlt : i < xs.length := (List.getElem?_eq_some_iff.mp e).1
    obtain ⟨go, yl⟩ := jg x e
    refine .inr ⟨go, N (i + 1), fun s' H' n => ⟨xs.length - (i + 1), by omega, rfl, n⟩, fun v H' y => ?_⟩
    obtain ⟨k', m', r'⟩ := yl v H' y
    refine lfG hg.mo r' (ri.up k') m' q fun t2 M2 t H2 k2 r2 m2 q2 => ⟨t2, M2, r2, m2, hb.mo _ _ _ _ ?_ q2⟩
    have kk := ((k1.trans ki).trans k').trans k2
    refine ⟨?_, fun u M3 z => up_up kk z, fun t3 M3 z => upS_up kk z, ?_⟩
    · rintro t3 M3 ⟨M4, l, w⟩ t4 H3 k3 r3 m3
      exact ⟨hlt, t3, M4, r3, m3.le l, ((ki.trans k').trans k2).trans k3, w⟩
    · rintro t3 M3 ⟨M4, l, w⟩ t4 H3 k3 r3 m3
      exact ⟨hlt, t3, M4, r3, m3.le l, ((ki.trans k').trans k2).trans k3, w⟩
theorem qf_nil : QF X [] (fun _ M Q => Q true M) := ⟨fun σ M Q Q' k h => k _ _ h, pfW pf_nil fun σ H Q z0 => exUp z0 fun σ2 M rs rm h => h H .refl rm⟩
theorem qf_one {c : Expr} {t : TT2} (h : QT X c t) : QF X [c] t := ⟨h.mo, pf_one h.pe⟩
noncomputable def Comp (chk : Mem → Prop) (g : TG2) (tc : TT2) (te : TE2) (xs : List U) (Q : UK) (σ : St2) (M : Mem) : Prop :=
  xs.length ≤ sizeLine ∧ ∃ W : Nat → List U → St2 → Mem → Prop, W 0 [] σ M ∧ ∀ i ys σ M, i ≤ xs.length → ys.length ≤ i → W i ys σ M → chk M ∧ oS (xs[i]?) (∀ p, M p = none → Q (.ref p) (put M p (.lst ys))) fun x => g x σ M fun σ1 M1 =>
    tc σ1 M1 fun b M2 => bE b (te σ1 M2 fun y M3 => ∃ M4, Le M4 M3 ∧ W (i + 1) (ys ++ [y]) σ1 M4) (∃ M4, Le M4 M2 ∧ W (i + 1) ys σ1 M4)
@[reducible] noncomputable def qComp (wi : TI2) (ix : List (Option Nat)) (g : TG2) (tc : TT2) (te : TE2) : TE2 := fun σ M Q => wi σ M fun xs chk M1 => Comp chk g tc te xs Q (blk2 ix σ) M1
theorem Comp_mo {chk : Mem → Prop} {g : TG2} {tc : TT2} {te : TE2} {xs : List U} {Q Q' : UK} (k : ∀ u M', Q u M' → Q' u M') {σ : St2} {M : Mem} (h : Comp chk g tc te xs Q σ M) : Comp chk g tc te xs Q' σ M := by
  obtain ⟨n, W, w0, ws⟩ := h
  refine ⟨n, W, w0, fun i ys σ M hi hy w => ?_⟩
  obtain ⟨c, q⟩ := ws i ys σ M hi hy w
  refine ⟨c, ?_⟩
  cases e : xs[i]? with
  | none => rw [e] at q; exact fun p hp => k _ _ (q p hp)
  | some x => rw [e] at q; exact q
theorem comp_lf {K : Frag} {wi : TI2} {ix : List (Option Nat)} {g : TG2} {tc : TT2} (mi : MoI wi) (mg : MoG g) (mc : MoT tc) (me : MoE te) {σ : St} {H : Hp} {Q : VK} (h : lift K (qComp wi ix g tc te) σ H Q) :
    tComp (liftI K wi) ix (liftG K g) (liftT K tc) (lift K te) σ H Q := by
  obtain ⟨σ2, M, rs, rm, h⟩ := h
  refine lfI mi rs rm h fun xs chk M1 J H1 k1 m1 s1 io h1 => ?_
  obtain ⟨hn, W, w0, ws⟩ := h1
  let N : Nat → List V → St → Hp → Prop := fun i vs σ H => i ≤ xs.length ∧ ∃ us s2 M, RepAll K H us vs ∧ RepS K H s2 σ ∧ RepM K H M ∧ TK K H1 H ∧ W i us s2 M
  refine ⟨N, xs.length, hn, ⟨Nat.zero_le _, [], _, M1, .nil, s1.blk ix, m1, .refl, w0⟩, ?_⟩
  rintro i vs s Hi ⟨hl, us, s2, Mi, ru, ri, mi, ki, w⟩ hv
  obtain ⟨ck, q⟩ := ws i us s2 Mi hl (by rw [ru.len]; exact hv) w
  obtain ⟨js, jg⟩ := io i Hi Mi ki mi ck
  cases e : xs[i]? with
  | none =>
    rw [e] at q
    have el : xs.length = i := by have := List.getElem?_eq_none_iff.mp e; omega
    refine .inl ⟨js el, fun p hp => ?_⟩
    have kn := TK.new (K := K) (o := .lst vs) hp
    exact q p (mi.free hp) (.ref p) _ ((k1.trans ki).trans kn) (.ref p) (mi.write kn ⟨vs, upd_same, ru.up kn⟩)
  | some x =>
    rw [e] at q
    have hlt : i < xs.length := (List.getElem?_eq_some_iff.mp e).1
    obtain ⟨go, yl⟩ := jg x e
    refine .inr ⟨go, hlt, N (i + 1), fun _ _ _ z => z, fun v H' y => ?_⟩
    obtain ⟨k', m', r'⟩ := yl v H' y
    refine lfG mg r' (ri.up k') m' q fun t2 M2 t H2 k2 r2 m2 q2 => lfT mc r2 m2 q2 fun b M3 H3 k3 m3 r3 q3 => ?_
    have kk := ((ki.trans k').trans k2).trans k3
    have ru' := ((ru.up k').up k2).up k3
    cases b with
    | false =>
      rw [if_neg Bool.false_ne_true]
      obtain ⟨M4, l, w4⟩ := q3
      exact ⟨hlt, us, t2, M4, ru', r3, m3.le l, kk, w4⟩
    | true =>
      rw [if_pos rfl]
      refine lf me r3 m3 q3 fun y2 M5 y5 H5 k5 r5 m5 s5 q5 => ?_
      obtain ⟨M4, l, w4⟩ := q5
      exact ⟨hlt, us ++ [y2], t2, M4, (ru'.up k5).app (.cons r5 .nil), s5, m5.le l, kk.trans k5, w4⟩
section
variable {elt tg iter : Expr} {ifs : List Expr} {scope : Scope} {N : List Str} {ix : List (Option Nat)} {wi : TI2} {g : TG2} {tc : TT2}
theorem qe_comp (hc : X.calm = true) (hi : QI X tg iter wi)
    (hg : ∀ (cl : List (Str × Addr)) (C : Addr) (s : Shared) (H : Hp) (ex : List Addr), QG (X.blk N scope cl C s H ex) tg g)
    (hf : ∀ (cl : List (Str × Addr)) (C : Addr) (s : Shared) (H : Hp) (ex : List Addr), QF (X.blk N scope cl C s H ex) ifs tc)
    (he : ∀ (cl : List (Str × Addr)) (C : Addr) (s : Shared) (H : Hp) (ex : List Addr), QE (X.blk N scope cl C s H ex) elt te)
    (hb : blkOk X.env.scope.names X.N N scope ix = true) (hs : ∀ x, foldedSetIterable iter X.env x = pure x := by intro _; rfl) :
    QE X (.ListComp elt [⟨tg, iter, ifs, 0⟩] scope pos) (qComp wi ix g tc te) := by
  have d0 : Shared := X.s₀
  have g0 := (hg [] 0 X.s₀ X.H₀ []).mo
  have f0 := (hf [] 0 X.s₀ X.H₀ []).mo
  have e0 := (he [] 0 X.s₀ X.H₀ []).mo
  refine ⟨fun σ M Q Q' k h => hi.mo _ _ _ _ (fun xs chk M1 => Comp_mo k) h, peW (pe_comp (N := N) (ix := ix) (g := liftG X.K g) (tc := liftT X.K tc) (te := lift X.K te) hc hi.pe (fun cl C s H ex => (hg cl C s H ex).pe) (fun cl C s H ex => (hf cl C s H ex).pe) (fun cl C s H ex => (he cl C s H ex).pe) hb hs) fun σ H Q h => comp_lf hi.mo g0 f0 e0 h⟩
theorem qs_setc {i : Nat} {x : Str} {pos' spos : Pos} (hc : X.calm = true) (hN : X.N.Nodup) (hix : X.N[i]? = some x) (hx : X.env.scope.names.lookup x = some .local)
    (hsw : ∃ b, swapsWith (.ListComp elt [⟨tg, iter, ifs, 0⟩] scope pos) (some (.Name x pos')) spos.line X.env = pure b) (hi : QI X tg iter wi)
    (hg : ∀ (cl : List (Str × Addr)) (C : Addr) (s : Shared) (H : Hp) (ex : List Addr), QG (X.blk N scope cl C s H ex) tg g)
    (hf : ∀ (cl : List (Str × Addr)) (C : Addr) (s : Shared) (H : Hp) (ex : List Addr), QF (X.blk N scope cl C s H ex) ifs tc)
    (he : ∀ (cl : List (Str × Addr)) (C : Addr) (s : Shared) (H : Hp) (ex : List Addr), QE (X.blk N scope cl C s H ex) elt te)
    (hb : blkOk X.env.scope.names X.N N scope ix = true) (hs : ∀ x, foldedSetIterable iter X.env x = pure x := by intro _; rfl) :
    QS X (.Assign [.Name x pos'] (.ListComp elt [⟨tg, iter, ifs, 0⟩] scope pos) spos) (qSet i (qComp wi ix g tc te)) := by
  have Q := qe_comp (pos := pos) hc hi hg hf he hb hs
  obtain ⟨b, hsw⟩ := hsw
  cases b with
  | false => exact qs_set hN hix (.inl hx) Q hsw (.inr hx)
  | true =>
    have g0 := (hg [] 0 X.s₀ X.H₀ []).mo
    have f0 := (hf [] 0 X.s₀ X.H₀ []).mo
    have e0 := (he [] 0 X.s₀ X.H₀ []).mo
    refine ⟨fun D D' σ M l h => Q.mo _ _ _ _ (fun x M1 => l.nx _ _) h, psW (ps_setc (N := N) (ix := ix) (g := liftG X.K g) (tc := liftT X.K tc) (te := lift X.K te) hc hN hix hx hi.pe (fun cl C s H ex => (hg cl C s H ex).pe) (fun cl C s H ex => (hf cl C s H ex).pe) (fun cl C s H ex => (he cl C s H ex).pe) hb hsw hs) fun D σ H z9 => ?_⟩
    obtain ⟨σ2, M, rs, rm, h⟩ := z9
    refine comp_lf hi.mo g0 f0 e0 (Q := fun x H1 => gName i x σ H1 D.nx) ⟨σ2, M, rs, rm, Q.mo _ _ _ _ (fun u M1 q v H1 k r m => ?_) h⟩
    exact q _ H1 k ((rs.up k).set r i) m
end
end
end L3
namespace L3
open PySem PySem.Spec PyProof.Rows L2
noncomputable abbrev Sp2 := List U → Mem → UK → Prop
noncomputable def liftSp (K : Frag) (sp : Sp2) : Sp := fun vs H Q _ => ∃ us M, RepAll K H us vs ∧ RepM K H M ∧ sp us M (up K H Q)
noncomputable def MoSp (sp : Sp2) : Prop := ∀ us M Q Q', (∀ u M', Q u M' → Q' u M') → sp us M Q → sp us M Q'
structure Cal2 (P : Program) (w : World) (K : Frag) (mg : Str → Option Value) (base : Heap) (k : Nat) (x : Str) (ps : List Str) (sp : Sp2) : Prop where
  mo : MoSp sp
  cal : Cal P w K mg base k x ps (liftSp K sp)
theorem Cal2.mono {P : Program} {w : World} {K : Frag} {mg : Str → Option Value} {base : Heap} {j k : Nat} {x : Str} {ps : List Str} {sp : Sp2} (C : Cal2 P w K mg base j x ps sp) (h : j ≤ k) : Cal2 P w K mg base k x ps sp := ⟨C.mo, C.cal.mono h⟩
noncomputable def Clo (Q : UK) : Prop := ∀ u M M', Le M M' → Q u M → Q u M'
theorem up_clo {K : Frag} {H : Hp} {Q : VK} : Clo (up K H Q) := fun _ _ _ l h => up_le l h
section
variable {X : Cx} {k : Nat} {x m : Str} {C : Addr} {ps : List Str} {sp : Sp2} {e o : Expr} {es : List Expr} {ta : TE2} {t : TA2} {p pos apos : Pos}
@[reducible] noncomputable def qCall (sp : Sp2) (t : TA2) : TE2 := fun σ M Q => t σ M fun us M1 => sp us M1 Q
theorem qCall_mo (ms : MoSp sp) (mt : MoA t) : MoE (qCall sp t) := fun σ M Q Q' k h => mt _ _ _ _ (fun us M1 => ms _ _ _ _ k) h
theorem qCall_lf {K : Frag} (ms : MoSp sp) (mt : MoA t) {σ : St} {H : Hp} {Q : VK} (h : lift K (qCall sp t) σ H Q) : tCall (liftSp K sp) [] E0 (liftA K t) σ H Q := by
  obtain ⟨σ2, M, rs, rm, h⟩ := h
  exact lfA mt rs rm h fun us M1 vs H1 k1 r1 m1 s1 h1 => ⟨us, M1, by rw [List.append_nil]; exact r1, m1, ms _ _ _ _ (fun u M' q => up_up k1 q) h1⟩
theorem qe_call (Ca : Cal2 X.prog X.w X.K X.mg X.base k x ps sp) (hr : Room k X.A) (hg : Gl X x) (ha : QA X (e :: es) t) (hdb : (x == ("__debug__" : Str)) = false := by decide)
    (he : starEach (e :: es) X.env = (false, eval e X.env) :: starEach es X.env := by rfl) (hpl : (backTo pos (starEach es X.env)).any (·.1) = false := by rfl) : QE X (.Call (.Name x p) (e :: es) [] pos) (qCall sp t) :=
  ⟨qCall_mo Ca.mo ha.mo, peW (pe_callC Ca.cal hr hg ha.pe hdb he hpl) fun σ H Q h => qCall_lf Ca.mo ha.mo h⟩
end
theorem fn2 {P : Program} {w : World} {K : Frag} {mg : Str → Option Value} {base : Heap} {x qual : Str} {st : Stmt} {f : Addr} {fd : FuncData} {N ps : List Str} {k : Nat} {sp : Sp2} (F : Fun K x qual st f fd) (S : FnScope N ps (defScope st)) (len : ∀ us M Q, sp us M Q → us.length = ps.length)
    (hbody : ∀ (cdv : Value) (A : Around) (outer : List Env) (s : Shared) (H : Hp) (E : XK), Room k (A.deeper (envOfC qual (defScope st) s.heap.objs.size f cdv)) →
      ∃ t, QSs (cxOf CX0 P w K mg base N qual (defScope st) f cdv A outer s H E).nox (defBody st) t ∧ ∀ us M Q, Clo Q → sp us M Q → t { nx := fun _ M' => Q .non M', rt := Q } (start2 N us) M) : FnOk P w K mg base CX0 (k + 1) f fd ps (liftSp K sp) := by
  refine F.ok S (fun vs H Q E h => ?_) fun cdv A outer s H vs Q E hr h => ?_
  · obtain ⟨us, M, r, m, h⟩ := h
    rw [← r.len]; exact len _ _ _ h
  · obtain ⟨us, M, r, m, h⟩ := h
    obtain ⟨t, T, q⟩ := hbody cdv A outer s H E hr
    refine ⟨_, T.pe, ?_⟩
    refine ⟨start2 N us, M, RepS.strt N r, m, T.mo _ _ _ _ ?_ (q us M (up K H Q) up_clo h)⟩
    exact ⟨fun σ M' z σ' H' k _ m' => z .non H' k .non m', fun u M' z => z, fun _ _ z => z.elim, fun _ _ z => z.elim⟩
theorem len1 {α : Type} {l : List α} (h : l.length = 1) : ∃ a0, l = [a0] := List.length_eq_one_iff.mp h
theorem len2 {α : Type} {l : List α} (h : l.length = 2) : ∃ a0 a1, l = [a0, a1] := by
  cases l with
  | nil => cases h
  | cons b0 l => obtain ⟨b1, rfl⟩ := len1 (Nat.succ.inj h); exact ⟨b0, b1, rfl⟩
theorem len3 {α : Type} {l : List α} (h : l.length = 3) : ∃ a0 a1 a2, l = [a0, a1, a2] := by
  cases l with
  | nil => cases h
  | cons b0 l => obtain ⟨b1, b2, rfl⟩ := len2 (Nat.succ.inj h); exact ⟨b0, b1, b2, rfl⟩
theorem len4 {α : Type} {l : List α} (h : l.length = 4) : ∃ a0 a1 a2 a3, l = [a0, a1, a2, a3] := by
  cases l with
  | nil => cases h
  | cons b0 l => obtain ⟨b1, b2, b3, rfl⟩ := len3 (Nat.succ.inj h); exact ⟨b0, b1, b2, b3, rfl⟩
theorem len5 {α : Type} {l : List α} (h : l.length = 5) : ∃ a0 a1 a2 a3 a4, l = [a0, a1, a2, a3, a4] := by
  cases l with
  | nil => cases h
  | cons b0 l => obtain ⟨b1, b2, b3, b4, rfl⟩ := len4 (Nat.succ.inj h); exact ⟨b0, b1, b2, b3, b4, rfl⟩
theorem len6 {α : Type} {l : List α} (h : l.length = 6) : ∃ a0 a1 a2 a3 a4 a5, l = [a0, a1, a2, a3, a4, a5] := by
  cases l with
  | nil => cases h
  | cons b0 l => obtain ⟨b1, b2, b3, b4, b5, rfl⟩ := len5 (Nat.succ.inj h); exact ⟨b0, b1, b2, b3, b4, b5, rfl⟩
theorem cal2 {P : Program} {w : World} {K : Frag} {mg : Str → Option Value} {base : Heap} {x : Str} {st : Stmt} {N ps : List Str} {k : Nat} {sp : Sp2} (F : FunM K mg x st) (S : FnScope N ps (defScope st)) (mo : MoSp sp) (len : ∀ us M Q, sp us M Q → us.length = ps.length)
    (hb : ∀ (kV doc pm : Value) (an : Option Addr) (cdv ct : Value) (us : List Value), us.length = ps.length → bindArgs (PySem.W.fnOf x x (defArgs st) (defBody st) (defScope st) .none kV doc pm an cdv ct) ⟨us, []⟩ = pure (ps.zip us))
    (hbody : ∀ (f : Addr) (cdv : Value) (A : Around) (outer : List Env) (s : Shared) (H : Hp) (E : XK), Room k (A.deeper (envOfC x (defScope st) s.heap.objs.size f cdv)) →
      ∃ t, QSs (cxOf CX0 P w K mg base N x (defScope st) f cdv A outer s H E).nox (defBody st) t ∧ ∀ us M Q, Clo Q → sp us M Q → t { nx := fun _ M' => Q .non M', rt := Q } (start2 N us) M) : Cal2 P w K mg base (k + 1) x ps sp := by
  obtain ⟨f, fd, G, hm⟩ := F.ex
  exact ⟨mo, ⟨f, fd, fn2 G S len (hbody f), hm, G.kp, G.binds hb⟩⟩
structure Mk2 (P : Program) (w : World) (K : Frag) (mg : Str → Option Value) (base : Heap) (k : Nat) (x : Str) (C : Addr) (ps : List Str) (sp : Sp2) : Prop where
  mo : MoSp sp
  mkc : MkC P w K mg base k x C ps (liftSp K sp)
structure Mt2 (P : Program) (w : World) (K : Frag) (mg : Str → Option Value) (base : Heap) (k : Nat) (C : Addr) (m : Str) (ps : List Str) (sp : Sp2) : Prop where
  mo : MoSp sp
  mt : MtC P w K mg base k C m ps (liftSp K sp)
section
variable {X : Cx} {k : Nat} {x m f : Str} {C : Addr} {ps : List Str} {sp : Sp2} {e o value : Expr} {es : List Expr} {ta tv : TE2} {t : TA2} {p pos apos pos' : Pos}
@[reducible] noncomputable def qMeth (C : Addr) (m : Str) (sp : Sp2) (ta : TE2) (t : TA2) : TE2 := fun σ M Q => ta σ M fun x M1 => match x with
  | .ref a => ∃ fs, M1 a = some (.ins C fs) ∧ fs.lookup m = none ∧ t σ M1 fun us M2 => sp (.ref a :: us) M2 Q
  | _ => False
theorem qMeth_mo (ms : MoSp sp) (ma : MoE ta) (mt : MoA t) : MoE (qMeth C m sp ta t) := fun σ M Q Q' k h => ma _ _ _ _ (fun u M1 z => by
  cases u with
  | ref a => obtain ⟨fs, e, l, q⟩ := z; exact ⟨fs, e, l, mt _ _ _ _ (fun us M2 => ms _ _ _ _ k) q⟩
  | _ => exact z) h
theorem look_none {K : Frag} {H : Hp} {fs : List (Str × U)} {gs : List (Str × V)} (r : Pr (Rep K H) fs gs) (h : fs.lookup m = none) : gs.lookup m = none := by
  rcases r.look m with ⟨_, z⟩ | ⟨a, b, z, _⟩
  · exact z
  · rw [h] at z; cases z
theorem qMeth_lf {K : Frag} (ms : MoSp sp) (ma : MoE ta) (mt : MoA t) {σ : St} {H : Hp} {Q : VK} (h : lift K (qMeth C m sp ta t) σ H Q) : tMeth C m (liftSp K sp) [] E0 (lift K ta) (liftA K t) σ H Q := by
  obtain ⟨σ2, M, rs, rm, h⟩ := h
  refine lf ma rs rm h fun u M1 v H1 k1 r1 m1 s1 h1 => ?_
  cases r1 with
  | ref a =>
    obtain ⟨fs, e, l, q⟩ := h1
    obtain ⟨dx, gs, e2, r⟩ := m1 a _ e
    refine ⟨a, dx, gs, rfl, e2, look_none r l, lfA mt s1 m1 q fun us M2 vs H2 k2 r2 m2 s2 h2 => ?_⟩
    exact ⟨.ref a :: us, M2, by rw [List.append_nil]; exact .cons (.ref a) r2, m2, ms _ _ _ _ (fun u M' q => up_up (k1.trans k2) q) h2⟩
  | _ => exact h1.elim
theorem qe_meth {pl : Sem Bool} (he : QE X o ta) (Me : Mt2 X.prog X.w X.K X.mg X.base k C m ps sp) (hr : Room k X.A) (ha : QA X (e :: es) t)
    (hst : starEach (e :: es) X.env = (false, eval e X.env) :: starEach es X.env := by rfl) (hpl : (backTo pos (starEach es X.env)).any (·.1) = false := by rfl)
    (ht : eval (.Call (.Attribute o m apos) (e :: es) [] pos) X.env = (do
      let ov ← eval o X.env
      standAt apos.atName
      let (f, first) ← holding [ov] (getMethod ov m pl)
      callWith pos f first (backTo pos (starEach (e :: es) X.env)) (backToKw pos (keywordEach [] X.env))) := by rfl) :
    QE X (.Call (.Attribute o m apos) (e :: es) [] pos) (qMeth C m sp ta t) :=
  ⟨qMeth_mo Me.mo he.mo ha.mo, peW (pe_methC he.pe Me.mt hr ha.pe hst hpl ht) fun σ H Q h => qMeth_lf Me.mo he.mo ha.mo h⟩
@[reducible] noncomputable def qMake (C : Addr) (sp : Sp2) (t : TA2) : TE2 := fun σ M Q => t σ M fun us M1 => ∀ x, M1 x = none → sp (.ref x :: us) (put M1 x (.ins C [])) fun u M2 => u = .non ∧ Q (.ref x) M2
theorem qMake_mo (ms : MoSp sp) (mt : MoA t) : MoE (qMake C sp t) := fun σ M Q Q' k h => mt _ _ _ _ (fun us M1 z x hx => ms _ _ _ _ (fun u M2 q => ⟨q.1, k _ _ q.2⟩) (z x hx)) h
theorem make_one {K : Frag} (ms : MoSp sp) {us : List U} {vs : List V} {M1 : Mem} {H H1 : Hp} {Q : VK} (k1 : TK K H H1) (r1 : RepAll K H1 us vs) (m1 : RepM K H1 M1)
    (h1 : ∀ x, M1 x = none → sp (.ref x :: us) (put M1 x (.ins C [])) fun u M2 => u = .non ∧ up K H Q (.ref x) M2) (x dx : Addr) (hx : H1 x = none) (hdx : H1 dx = none) (hne : dx ≠ x) :
    liftSp K sp (.ref x :: (vs ++ [])) (upd (upd H1 dx (.own x)) x (.ins C dx [])) (fun v H2 => v = .non ∧ Q (.ref x) H2) E0 := by
  have ka := TK.new (K := K) (o := .own x) hdx
  have hx' : upd H1 dx (.own x) x = none := by rw [upd_ne (Ne.symm hne)]; exact hx
  have kb := TK.new (K := K) (o := .ins C dx []) hx'
  refine ⟨.ref x :: us, put M1 x (.ins C []), by rw [List.append_nil]; exact .cons (.ref x) ((r1.up ka).up kb), ?_, ms _ _ _ _ (fun u M2 ⟨e, q⟩ v H2 k r m => ?_) (h1 x (m1.free hx))⟩
  · exact RepM.write (m1.same (same_new hdx _)) kb ⟨dx, [], upd_same, .nil⟩
  · subst e
    cases r
    exact ⟨rfl, q (.ref x) H2 (((k1.trans ka).trans kb).trans k) (.ref x) m⟩
theorem qe_make (Me : Mk2 X.prog X.w X.K X.mg X.base k x C ps sp) (hr : Room (k + 1) X.A) (hg : Gl X x) (ha : QA X (e :: es) t) (hdb : (x == ("__debug__" : Str)) = false := by decide)
    (he : starEach (e :: es) X.env = (false, eval e X.env) :: starEach es X.env := by rfl) (hpl : (backTo pos (starEach es X.env)).any (·.1) = false := by rfl) : QE X (.Call (.Name x p) (e :: es) [] pos) (qMake C sp t) :=
  ⟨qMake_mo Me.mo ha.mo, peW (pe_makeC Me.mkc hr hg ha.pe hdb he hpl) fun σ H Q z0 => exUp z0 fun σ2 M rs rm h => lfA ha.mo rs rm h fun us M1 vs H1 k1 r1 m1 s1 h1 => make_one Me.mo k1 r1 m1 h1⟩
structure Fld (K : Frag) (C : Addr) (f : Str) : Prop where
  cl : Cls K C
  na : NoAttr K C f
@[reducible] noncomputable def qFld (K : Frag) (ta : TE2) (f : Str) : TE2 := fun σ M Q => ta σ M fun x M1 => match x with
  | .ref a => ∃ C fs, M1 a = some (.ins C fs) ∧ Fld K C f ∧ oE (fs.lookup f) fun u => Q u M1
  | _ => False
theorem qe_fld (he : QE X e ta) (hb : attributeBase e f X.env (eval e X.env) = eval e X.env) : QE X (.Attribute e f pos) (qFld X.K ta f) := by
  refine ⟨fun σ M Q Q' k h => he.mo _ _ _ _ (fun u M1 z => ?_) h, peW (pe_fld he.pe hb) fun σ H Q z0 => exUp z0 fun σ2 M rs rm h => lf he.mo rs rm h fun u M1 v H1 k1 r1 m1 s1 h1 => ?_⟩
  · cases u with
    | ref a => obtain ⟨C, fs, e, c, q⟩ := z; exact ⟨C, fs, e, c, oE_mono (fun u => k u M1) q⟩
    | _ => exact z
  · cases r1 with
    | ref a =>
      obtain ⟨C, fs, e, c, q⟩ := h1
      obtain ⟨u, eu, q⟩ := oE_inv q
      obtain ⟨dx, gs, e2, r⟩ := m1 a _ e
      rcases r.look f with ⟨z, _⟩ | ⟨a1, b1, z1, z2, rr⟩
      · rw [eu] at z; cases z
      · rw [eu] at z1; cases z1
        exact ⟨a, C, dx, gs, b1, rfl, e2, c.cl, c.na, z2, q b1 H1 k1 rr m1⟩
    | _ => exact h1.elim
theorem qe_fldK (K : Frag) (he : QE X e ta) (hb : attributeBase e f X.env (eval e X.env) = eval e X.env) (h : X.K = K := by rfl) : QE X (.Attribute e f pos) (qFld K ta f) := by subst h; exact qe_fld he hb
noncomputable def putU (f : Str) (v : U) : List (Str × U) → List (Str × U)
  | [] => [(f, v)]
  | (g, w) :: r => if g = f then (g, v) :: r else (g, w) :: putU f v r
theorem Pr.put {K : Frag} {H : Hp} {u : U} {v : V} (ru : Rep K H u v) : ∀ {fs : List (Str × U)} {gs : List (Str × V)}, Pr (Rep K H) fs gs → Pr (Rep K H) (putU f u fs) (putF f v gs)
  | _, _, .nil => .cons ru .nil
  | _, _, .cons (f := g) r t => by
    unfold putU putF
    by_cases h : g = f
    · rw [if_pos h, if_pos h]; exact .cons ru t
    · rw [if_neg h, if_neg h]; exact .cons r (Pr.put ru t)
@[reducible] noncomputable def qSetF (K : Frag) (ta tv : TE2) (f : Str) : TS2 := fun D σ M => tv σ M fun y M1 => ta σ M1 fun x M2 => match x with
  | .ref a => ∃ C fs, M2 a = some (.ins C fs) ∧ Fld K C f ∧ fs.length < 1000 ∧ D.nx σ (put M2 a (.ins C (putU f y fs)))
  | _ => False
theorem qs_fld (K : Frag) (ha : QE X o ta) (hv : QE X value tv) (hs : swapsWith value (some (.Attribute o f pos')) pos.line X.env = pure false) (hK : X.K = K := by rfl) : QS X (.Assign [.Attribute o f pos'] value pos) (qSetF K ta tv f) := by
  subst hK
  refine ⟨fun D D' σ M l h => hv.mo _ _ _ _ (fun y M1 => ha.mo _ _ _ _ fun u M2 z => ?_) h, psW (ps_fld ha.pe hv.pe hs) fun D σ H ⟨σ2, M, rs, rm, h⟩ => lf hv.mo rs rm h fun y2 M1 y H1 k1 r1 m1 s1 h1 => lf ha.mo s1 m1 h1 fun u M2 v H2 k2 r2 m2 s2 h2 => ?_⟩
  · cases u with
    | ref a => obtain ⟨C, fs, e, c, n, q⟩ := z; exact ⟨C, fs, e, c, n, l.nx _ _ q⟩
    | _ => exact z
  · cases r2 with
    | ref a =>
      obtain ⟨C, fs, e, c, n, q⟩ := h2
      obtain ⟨dx, gs, e2, r⟩ := m2 a _ e
      refine ⟨a, C, dx, gs, rfl, e2, c.cl, c.na, by rw [← r.len]; exact n, ?_⟩
      have kw : TK X.K H2 (upd H2 a (.ins C dx (putF f y gs))) := TK.write e2 (fun _ z => by cases z) (fun _ _ z => by cases z)
      exact q σ _ ((k1.trans k2).trans kw) (s2.up kw) (m2.write kw ⟨dx, _, upd_same, Pr.put ((r1.up k2).up kw) (r.mono fun _ _ z => z.up kw)⟩)
    | _ => exact h2.elim
end
noncomputable abbrev RM2 := U → List U → Mem → UK → Prop
@[reducible] noncomputable def isT (T : String) (x : U) (M : Mem) : Prop := match x with
  | .str _ => T = "str"
  | .ref a => T = "list" ∧ ∃ xs, M a = some (.lst xs)
  | _ => False
@[reducible] noncomputable def qBm (T : String) (r : RM2) (to : TE2) (t : TA2) : TE2 := fun σ M Q => to σ M fun x M1 => isT T x M1 ∧ t σ M1 fun xs M2 => r x xs M2 Q
section
variable {X : Cx} {o e : Expr} {es : List Expr} {to : TE2} {t : TA2} {apos cpos : Pos} {T id : String} {name : Str} {r : RM2}
theorem isT_ty {K : Frag} {H : Hp} {M : Mem} {u : U} {v : V} (h : isT T u M) (r : Rep K H u v) (m : RepM K H M) : tyV K T v H := by
  cases r with
  | str x => exact h
  | ref a => obtain ⟨e, xs, q⟩ := h; obtain ⟨ys, e2, _⟩ := m a _ q; exact .inl ⟨e, ys, .inl (.inl e2)⟩
  | _ => exact h.elim
theorem qBm_lf {K : Frag} {r1 : V → List V → Hp → VK → Prop} (mo : ∀ x xs M Q Q', (∀ u M', Q u M' → Q' u M') → r x xs M Q → r x xs M Q') (rf : ∀ x2 xs2 x xs M H Q, Rep K H x2 x → RepAll K H xs2 xs → RepM K H M → r x2 xs2 M (up K H Q) → r1 x xs H Q) (m1 : MoE to) (m2 : MoA t)
    {σ : St} {H : Hp} {Q : VK} (h : lift K (qBm T r to t) σ H Q) : tBM K T r1 (lift K to) (liftA K t) σ H Q := by
  obtain ⟨σ2, M, rs, rm, h⟩ := h
  refine lf m1 rs rm h fun x2 M1 x H1 k1 r1 m1 s1 h1 => ⟨isT_ty h1.1 r1 m1, lfA m2 s1 m1 h1.2 fun us M2 vs H2 k2 r2 m2 s2 h2 => ?_⟩
  exact rf x2 us x vs M2 H2 Q (r1.up k2) r2 m2 (mo _ _ _ _ _ (fun u M' q => up_up (k1.trans k2) q) h2)
structure Mr2 (X : Cx) (id : String) (r2 : RM2) : Prop where
  ex : ∃ r, MtR X id r ∧ (∀ x xs M Q Q', (∀ u M', Q u M' → Q' u M') → r2 x xs M Q → r2 x xs M Q') ∧
    ∀ x2 xs2 x xs M H Q, Rep X.K H x2 x → RepAll X.K H xs2 xs → RepM X.K H M → r2 x2 xs2 M (up X.K H Q) → r x xs H Q
theorem qe_bm (pa : PlainAttrs T) (slot : Slot T name id) (hty : typeOf (.builtin id) = pure (.type "method_descriptor")) (hm : Mr2 X id r) (ho : QE X o to) (ha : QA X (e :: es) t)
    (hbase : attributeBase o name X.env (eval o X.env) = eval o X.env := by rfl)
    (hfew : ((backTo cpos (starEach (e :: es) X.env)).all (fun x => !x.1) && (backToKw cpos (keywordEach [] X.env)).all (fun x => x.1.isSome)
      && decide ((e :: es).length + ([] : List Keyword).length + (if ([] : List Keyword).isEmpty then 0 else 1) < 30)) = true := by rfl)
    (hline : (apos.endLine == cpos.line) = true := by rfl) (hs : starEach (e :: es) X.env = (false, eval e X.env) :: starEach es X.env := by rfl) (hplain : (backTo cpos (starEach es X.env)).any (·.1) = false := by rfl) :
    QE X (.Call (.Attribute o name apos) (e :: es) [] cpos) (qBm T r to t) := by
  obtain ⟨r1, o1, mo, rf⟩ := hm.ex
  exact ⟨fun σ M Q Q' k h => ho.mo _ _ _ _ (fun x M1 z => ⟨z.1, ha.mo _ _ _ _ (fun xs M2 => mo _ _ _ _ _ k) z.2⟩) h, peW (pe_bm pa slot hty o1 ho.pe ha.pe hbase hfew hline hs hplain) fun σ H Q h => qBm_lf mo rf ho.mo ha.mo h⟩
@[reducible] noncomputable def rApp2 : RM2 := fun x xs M Q => match x, xs with
  | .ref a, [y] => ∃ ys, M a = some (.lst ys) ∧ ys.length < sizeLine ∧ Q .non (put M a (.lst (ys ++ [y])))
  | _, _ => False
theorem lstTK {K : Frag} {H : Hp} {a : Addr} {ys zs : List V} (e : H a = some (.lst ys)) : TK K H (upd H a (.lst zs)) := TK.write e (fun _ z => by cases z) (fun _ _ z => by cases z)
theorem m_append : Mr2 X "list.append" rApp2 := by
  refine ⟨rAppend, mt_append, fun x xs M Q Q' k h => ?_, fun x2 xs2 x xs M H Q rx rxs rm h => ?_⟩
  · match x, xs, h with
    | .ref a, [y], h => obtain ⟨ys, e, n, q⟩ := h; exact ⟨ys, e, n, k _ _ q⟩
  · cases rx with
    | ref a =>
      cases rxs with
      | nil => exact h.elim
      | cons ry r' =>
        rename_i y _ v _
        cases r' with
        | cons _ _ => exact h.elim
        | nil =>
          obtain ⟨ys, e, n, q⟩ := h
          obtain ⟨zs, e2, r⟩ := rm a _ e
          have kw := lstTK (K := X.K) (zs := zs ++ [v]) e2
          exact ⟨a, zs, _, rfl, rfl, e2, by rw [← r.len]; exact n, q .non _ kw .non (rm.write kw ⟨_, upd_same, (r.up kw).app (.cons (ry.up kw) .nil)⟩)⟩
    | _ => exact h.elim
end
end L3
namespace L3
open PySem PySem.Spec PyProof.Rows L2
section
variable {X : Cx} {f : Value → Value → Sem Value}
@[reducible] noncomputable def r_sub : RR2 := fun x y M Q => match x, y with
  | .int i, .int j => Q (.int (i - j)) M
  | _, _ => False
theorem r_sub_mo : ∀ x y M Q Q', (∀ u M', Q u M' → Q' u M') → r_sub x y M Q → r_sub x y M Q' := fun x y M Q Q' k h => by
  match x, y, h with
  | .int i, .int j, h => exact k _ _ h
theorem o_sub : Op2 X (binaryOp .Sub) r_sub := ⟨_, op_sub, r_sub_mo, fun x2 y2 x y M H Q rx ry rm h => by
  match x2, y2, h, rx, ry with
  | .int i, .int j, h, .int _, .int _ => exact ⟨i, j, rfl, rfl, (show up X.K H Q _ M from h) _ H .refl (.int _) rm⟩⟩
@[reducible] noncomputable def r_fdiv : RR2 := fun x y M Q => match x, y with
  | .int i, .int j => CDiv i j ∧ Q (.int (i / j)) M
  | _, _ => False
theorem r_fdiv_mo : ∀ x y M Q Q', (∀ u M', Q u M' → Q' u M') → r_fdiv x y M Q → r_fdiv x y M Q' := fun x y M Q Q' k h => by
  match x, y, h with
  | .int i, .int j, h => exact ⟨h.1, k _ _ h.2⟩
theorem r_fdiv_pu : PuO r_fdiv := fun x y M M' Q h => by
  match x, y, h with
  | .int i, .int j, h => exact ⟨h.1, rfl, h.2⟩
theorem o_fdiv : Op2 X (binaryOp .FloorDiv) r_fdiv := ⟨_, op_fdiv, r_fdiv_mo, fun x2 y2 x y M H Q rx ry rm h => by
  match x2, y2, h, rx, ry with
  | .int i, .int j, h, .int _, .int _ => exact ⟨i, j, rfl, rfl, h.1, h.2 _ H .refl (.int _) rm⟩⟩
@[reducible] noncomputable def r_mod : RR2 := fun x y M Q => match x, y with
  | .int i, .int j => 0 < j ∧ Q (.int (i % j)) M
  | _, _ => False
theorem r_mod_mo : ∀ x y M Q Q', (∀ u M', Q u M' → Q' u M') → r_mod x y M Q → r_mod x y M Q' := fun x y M Q Q' k h => by
  match x, y, h with
  | .int i, .int j, h => exact ⟨h.1, k _ _ h.2⟩
theorem r_mod_pu : PuO r_mod := fun x y M M' Q h => by
  match x, y, h with
  | .int i, .int j, h => exact ⟨h.1, rfl, h.2⟩
theorem o_mod : Op2 X (binaryOp .Mod) r_mod := ⟨_, op_mod, r_mod_mo, fun x2 y2 x y M H Q rx ry rm h => by
  match x2, y2, h, rx, ry with
  | .int i, .int j, h, .int _, .int _ => exact ⟨i, j, rfl, rfl, h.1, h.2 _ H .refl (.int _) rm⟩⟩
theorem op_mulC : OpR X (binaryOp .Mult) (rI IntMulOk fun i j => .int (i * j)) := opI fun _ _ _ _ _ _ _ hc q => mul_int q hc
@[reducible] noncomputable def r_lt : RR2 := fun x y M Q => match x, y with
  | .int i, .int j => Q (.bl (decide (i < j))) M
  | _, _ => False
theorem r_lt_mo : ∀ x y M Q Q', (∀ u M', Q u M' → Q' u M') → r_lt x y M Q → r_lt x y M Q' := fun x y M Q Q' k h => by
  match x, y, h with
  | .int i, .int j, h => exact k _ _ h
theorem o_lt : Op2 X (compareOp .Lt) r_lt := ⟨_, op_lt, r_lt_mo, fun x2 y2 x y M H Q rx ry rm h => by
  match x2, y2, h, rx, ry with
  | .int i, .int j, h, .int _, .int _ => exact ⟨i, j, rfl, rfl, (show up X.K H Q _ M from h) _ H .refl (.bl _) rm⟩⟩
@[reducible] noncomputable def r_le : RR2 := fun x y M Q => match x, y with
  | .int i, .int j => Q (.bl (decide (i ≤ j))) M
  | _, _ => False
theorem r_le_mo : ∀ x y M Q Q', (∀ u M', Q u M' → Q' u M') → r_le x y M Q → r_le x y M Q' := fun x y M Q Q' k h => by
  match x, y, h with
  | .int i, .int j, h => exact k _ _ h
theorem o_le : Op2 X (compareOp .LtE) r_le := ⟨_, op_le, r_le_mo, fun x2 y2 x y M H Q rx ry rm h => by
  match x2, y2, h, rx, ry with
  | .int i, .int j, h, .int _, .int _ => exact ⟨i, j, rfl, rfl, (show up X.K H Q _ M from h) _ H .refl (.bl _) rm⟩⟩
@[reducible] noncomputable def r_gt : RR2 := fun x y M Q => match x, y with
  | .int i, .int j => Q (.bl (decide (j < i))) M
  | _, _ => False
theorem r_gt_mo : ∀ x y M Q Q', (∀ u M', Q u M' → Q' u M') → r_gt x y M Q → r_gt x y M Q' := fun x y M Q Q' k h => by
  match x, y, h with
  | .int i, .int j, h => exact k _ _ h
theorem o_gt : Op2 X (compareOp .Gt) r_gt := ⟨_, op_gt, r_gt_mo, fun x2 y2 x y M H Q rx ry rm h => by
  match x2, y2, h, rx, ry with
  | .int i, .int j, h, .int _, .int _ => exact ⟨i, j, rfl, rfl, (show up X.K H Q _ M from h) _ H .refl (.bl _) rm⟩⟩
@[reducible] noncomputable def r_ge : RR2 := fun x y M Q => match x, y with
  | .int i, .int j => Q (.bl (decide (j ≤ i))) M
  | _, _ => False
theorem r_ge_mo : ∀ x y M Q Q', (∀ u M', Q u M' → Q' u M') → r_ge x y M Q → r_ge x y M Q' := fun x y M Q Q' k h => by
  match x, y, h with
  | .int i, .int j, h => exact k _ _ h
theorem o_ge : Op2 X (compareOp .GtE) r_ge := ⟨_, op_ge, r_ge_mo, fun x2 y2 x y M H Q rx ry rm h => by
  match x2, y2, h, rx, ry with
  | .int i, .int j, h, .int _, .int _ => exact ⟨i, j, rfl, rfl, (show up X.K H Q _ M from h) _ H .refl (.bl _) rm⟩⟩
@[reducible] noncomputable def rAdd2 : RR2 := fun x y M Q => match x, y with
  | .int i, .int j => Q (.int (i + j)) M
  | .str a, .str b => a.length + b.length ≤ sizeLine ∧ Q (.str (a ++ b)) M
  | .tup xs, .tup ys => xs ≠ [] ∧ xs.length + ys.length ≤ sizeLine ∧ Q (.tup (xs ++ ys)) M
  | .ref a, .ref b => ∃ xs ys, M a = some (.lst xs) ∧ M b = some (.lst ys) ∧ xs.length + ys.length ≤ sizeLine ∧ ∀ p, M p = none → Q (.ref p) (put M p (.lst (xs ++ ys)))
  | _, _ => False
theorem rAdd2_mo : ∀ x y M Q Q', (∀ u M', Q u M' → Q' u M') → rAdd2 x y M Q → rAdd2 x y M Q' := fun x y M Q Q' k h => by
  match x, y, h with
  | .int i, .int j, h => exact k _ _ h
  | .str i, .str j, h => exact ⟨h.1, k _ _ h.2⟩
  | .tup i, .tup j, h => exact ⟨h.1, h.2.1, k _ _ h.2.2⟩
  | .ref a, .ref b, h => obtain ⟨xs, ys, e1, e2, n, q⟩ := h; exact ⟨xs, ys, e1, e2, n, fun p hp => k _ _ (q p hp)⟩
theorem o_add : Op2 X (binaryOp .Add) rAdd2 := by
  refine ⟨_, op_addU, rAdd2_mo, fun x2 y2 x y M H Q rx ry rm h => ?_⟩
  cases rx with
  | int i =>
    cases ry with
    | int j => exact .inl ⟨i, j, rfl, rfl, (show up X.K H Q _ M from h) _ H .refl (.int _) rm⟩
    | _ => exact h.elim
  | str i =>
    cases ry with
    | str j => exact .inr (.inl ⟨i, j, rfl, rfl, h.1, h.2 _ H .refl (.str _) rm⟩)
    | _ => exact h.elim
  | tup sx rx =>
    cases ry with
    | tup sy ry =>
      rename_i _ _ xs _ _ ys
      obtain ⟨ne, n, q⟩ := h
      refine .inr (.inr (.inr ⟨_, _, _, _, rfl, rfl, sx, sy, ?_, by rw [← rx.len, ← ry.len]; exact n, fun z => ?_, fun _ p hp => ?_⟩))
      · intro z; subst z; cases rx; exact ne rfl
      · subst z; cases ry
        rw [List.append_nil] at q
        exact q _ H .refl (.tup sx rx) rm
      · have kn := TK.new (K := X.K) (o := .tup (xs ++ ys)) hp
        exact q (.ref p) _ kn (.tup (SqT.of upd_same) ((rx.app ry).up kn)) (rm.same (same_new hp _))
    | _ => exact h.elim
  | ref a =>
    cases ry with
    | ref b =>
      obtain ⟨xs, ys, e1, e2, n, q⟩ := h
      obtain ⟨x1, h1, r1⟩ := rm a _ e1
      obtain ⟨y1, h2, r2⟩ := rm b _ e2
      refine .inr (.inr (.inl ⟨a, b, x1, y1, rfl, rfl, h1, h2, by rw [← r1.len, ← r2.len]; exact n, fun p hp => ?_⟩))
      have kn := TK.new (K := X.K) (o := .lst (x1 ++ y1)) hp
      exact q p (rm.free hp) (.ref p) _ kn (.ref p) (rm.write kn ⟨_, upd_same, (r1.app r2).up kn⟩)
    | _ => exact h.elim
  | _ => exact h.elim
@[reducible] noncomputable def rMul2 : RR2 := fun x y M Q => match x, y with
  | .int i, .int j => IntMulOk i j ∧ Q (.int (i * j)) M
  | .str z, .int n => -(2 ^ 63) ≤ n ∧ n < 2 ^ 63 ∧ z.length * n.toNat ≤ sizeLine ∧ Q (.str (repS z n.toNat)) M
  | _, _ => False
theorem rMul2_mo : ∀ x y M Q Q', (∀ u M', Q u M' → Q' u M') → rMul2 x y M Q → rMul2 x y M Q' := fun x y M Q Q' k h => by
  match x, y, h with
  | .int i, .int j, h => exact ⟨h.1, k _ _ h.2⟩
  | .str i, .int j, h => exact ⟨h.1, h.2.1, h.2.2.1, k _ _ h.2.2.2⟩
theorem o_mul : Op2 X (binaryOp .Mult) rMul2 := by
  refine ⟨_, op_mulC.or (op_repS.or op_rep), rMul2_mo, fun x2 y2 x y M H Q rx ry rm h => ?_⟩
  match x2, y2, h, rx, ry with
  | .int i, .int j, h, .int _, .int _ => exact .inl ⟨i, j, rfl, rfl, h.1, h.2 _ H .refl (.int _) rm⟩
  | .str i, .int j, h, .str _, .int _ => exact .inr (.inl ⟨i, j, rfl, rfl, h.1, h.2.1, h.2.2.1, h.2.2.2 _ H .refl (.str _) rm⟩)
@[reducible] noncomputable def rNeg2 : U → Mem → UK → Prop := fun x M Q => match x with
  | .int i => Q (.int (-i)) M
  | _ => False
theorem u_neg : Un2 X (unaryOp .USub) rNeg2 := ⟨_, un_neg, fun x M Q Q' k h => by
  match x, h with
  | .int i, h => exact k _ _ h, fun x2 x M H Q rx rm h => by
  match x2, h, rx with
  | .int i, h, .int _ => exact ⟨i, rfl, (show up X.K H Q _ M from h) _ H .refl (.int _) rm⟩⟩
mutual
inductive Dat (M : Mem) : U → PyData → Prop
  | non : Dat M .non .none
  | bl (b : Bool) : Dat M (.bl b) (.bool b)
  | int (i : Int) : Dat M (.int i) (.int i)
  | str (x : Str) (h : PyData.strOk x = true) : Dat M (.str x) (.str x)
  | tup {xs : List U} {ds : List PyData} : DatAll M xs ds → Dat M (.tup xs) (.tuple ds)
  | fl {xs : List U} {ds : List PyData} : DatAll M xs ds → Dat M (.fl xs) (.list ds)
  | lst {a : Addr} {xs : List U} {ds : List PyData} : M a = some (.lst xs) → DatAll M xs ds → Dat M (.ref a) (.list ds)
inductive DatAll (M : Mem) : List U → List PyData → Prop
  | nil : DatAll M [] []
  | cons {u : U} {us : List U} {d : PyData} {ds : List PyData} : Dat M u d → DatAll M us ds → DatAll M (u :: us) (d :: ds)
end
mutual
theorem Dat.lies {K : Frag} {H : Hp} {M : Mem} (rm : RepM K H M) : ∀ {u : U} {v : V} {d : PyData}, Dat M u d → Rep K H u v → Lies K H v d
  | _, _, _, .non, r => by cases r; exact .non
  | _, _, _, .bl b, r => by cases r; exact .bl b
  | _, _, _, .int i, r => by cases r; exact .int i
  | _, _, _, .str x h, r => by cases r; exact .str x h
  | _, _, _, .tup h, r => by
    cases r with
    | tup s r => exact .tup s (DatAll.lies rm h r)
  | _, _, _, .fl h, r => by
    cases r with
    | fl s r => exact .lst s.sq (DatAll.lies rm h r)
  | _, _, _, .lst (a := a) e h, r => by
    cases r
    obtain ⟨ys, e2, r⟩ := rm a _ e
    exact .lst (.inl (.inl e2)) (DatAll.lies rm h r)
theorem DatAll.lies {K : Frag} {H : Hp} {M : Mem} (rm : RepM K H M) : ∀ {us : List U} {vs : List V} {ds : List PyData}, DatAll M us ds → RepAll K H us vs → LiesAll K H vs ds
  | _, _, _, .nil, r => by cases r; exact .nil
  | _, _, _, .cons h t, r => by
    cases r with
    | cons r s => exact .cons (Dat.lies rm h r) (DatAll.lies rm t s)
end
theorem DatAll.ints {M : Mem} : ∀ ns : List Int, DatAll M (ns.map U.int) (ns.map PyData.int)
  | [] => .nil
  | n :: r => .cons (.int n) (DatAll.ints r)
theorem DatAll.strs {M : Mem} : ∀ xs : List Str, (∀ x ∈ xs, PyData.strOk x = true) → DatAll M (xs.map U.str) (xs.map PyData.str)
  | [], _ => .nil
  | x :: r, h => .cons (.str x (h x List.mem_cons_self)) (DatAll.strs r fun y hy => h y (List.mem_cons_of_mem _ hy))
@[reducible] noncomputable def sEq : U → U → Option Bool
  | .int i, .int j => some (decide (i = j))
  | .str i, .str j => some (decide (i = j))
  | .bl i, .bl j => some (decide (i = j))
  | .non, .non => some true
  | .non, .int _ => some false
  | .int _, .non => some false
  | .non, .bl _ => some false
  | .bl _, .non => some false
  | .non, .str _ => some false
  | .str _, .non => some false
  | .int _, .str _ => some false
  | .str _, .int _ => some false
  | .bl _, .str _ => some false
  | .str _, .bl _ => some false
  | _, _ => none
theorem sEq_ok {K : Frag} {H : Hp} {x2 y2 : U} {x y : V} {b : Bool} (rx : Rep K H x2 x) (ry : Rep K H y2 y) (h : sEq x2 y2 = some b) : scal x y = true ∧ decide (x = y) = b := by
  cases rx <;> cases ry <;> first
    | (injection h with h'; subst h'; exact ⟨rfl, by simp⟩)
    | (exact (Option.some_ne_none b h.symm).elim)
@[reducible] noncomputable def rEq2 : RR2 := fun x y M Q => oS (sEq x y) (∃ da db, Dat M x da ∧ Dat M y db ∧ min da.depth db.depth ≤ 60 ∧ Q (.bl (PyData.eqv da db)) M) fun b => Q (.bl b) M
@[reducible] noncomputable def rNe2 : RR2 := fun x y M Q => oS (sEq x y) (∃ da db, Dat M x da ∧ Dat M y db ∧ min da.depth db.depth ≤ 60 ∧ Q (.bl (!PyData.eqv da db)) M) fun b => Q (.bl (!b)) M
theorem o_eq (hu : X.A.units + 64 < cLine) : Op2 X (compareOp .Eq) rEq2 := by
  refine ⟨_, op_eqU hu, fun x y M Q Q' k h => ?_, fun x2 y2 x y M H Q rx ry rm h => ?_⟩
  · unfold rEq2 at h ⊢
    cases e : sEq x y with
    | none => rw [e] at h; obtain ⟨da, db, h1, h2, n, q⟩ := h; exact ⟨da, db, h1, h2, n, k _ _ q⟩
    | some b => rw [e] at h; exact k _ _ h
  · unfold rEq2 at h
    cases e : sEq x2 y2 with
    | none =>
      rw [e] at h
      obtain ⟨da, db, h1, h2, n, q⟩ := h
      exact .inr ⟨da, db, h1.lies rm rx, h2.lies rm ry, n, q _ H .refl (.bl _) rm⟩
    | some b =>
      rw [e] at h
      obtain ⟨s, d⟩ := sEq_ok rx ry e
      exact .inl ⟨s, by rw [d]; exact (show up X.K H Q (.bl b) M from h) _ H .refl (.bl _) rm⟩
theorem o_ne (hu : X.A.units + 64 < cLine) : Op2 X (compareOp .NotEq) rNe2 := by
  refine ⟨_, op_neU hu, fun x y M Q Q' k h => ?_, fun x2 y2 x y M H Q rx ry rm h => ?_⟩
  · unfold rNe2 at h ⊢
    cases e : sEq x y with
    | none => rw [e] at h; obtain ⟨da, db, h1, h2, n, q⟩ := h; exact ⟨da, db, h1, h2, n, k _ _ q⟩
    | some b => rw [e] at h; exact k _ _ h
  · unfold rNe2 at h
    cases e : sEq x2 y2 with
    | none =>
      rw [e] at h
      obtain ⟨da, db, h1, h2, n, q⟩ := h
      exact .inr ⟨da, db, h1.lies rm rx, h2.lies rm ry, n, q _ H .refl (.bl _) rm⟩
    | some b =>
      rw [e] at h
      obtain ⟨s, d⟩ := sEq_ok rx ry e
      exact .inl ⟨s, by rw [d]; exact (show up X.K H Q (.bl (!b)) M from h) _ H .refl (.bl _) rm⟩
@[reducible] noncomputable def isNon : U → Bool
  | .non => true
  | _ => false
@[reducible] noncomputable def rIs2 (neg : Bool) : RR2 := fun x y M Q => match y with
  | .non => Q (.bl (match neg with | true => !isNon x | false => isNon x)) M
  | _ => False
theorem isNon_ok {K : Frag} {H : Hp} {u : U} {v : V} (r : Rep K H u v) : decide (v = .non) = isNon u := by cases r <;> simp [isNon]
theorem o_is : Op2 X (compareOp .Is) (rIs2 false) := ⟨_, op_isN, fun x y M Q Q' k h => by
  match y, h with
  | .non, h => exact k _ _ h, fun x2 y2 x y M H Q rx ry rm h => by
  match y2, h, ry with
  | .non, h, .non => exact ⟨rfl, by rw [isNon_ok rx]; exact (show up X.K H Q _ M from h) _ H .refl (.bl _) rm⟩⟩
theorem o_isNot : Op2 X (compareOp .IsNot) (rIs2 true) := ⟨_, op_notN, fun x y M Q Q' k h => by
  match y, h with
  | .non, h => exact k _ _ h, fun x2 y2 x y M H Q rx ry rm h => by
  match y2, h, ry with
  | .non, h, .non => exact ⟨rfl, by rw [isNon_ok rx]; exact (show up X.K H Q _ M from h) _ H .refl (.bl _) rm⟩⟩
@[reducible] noncomputable def rIx2 : RR2 := fun x y M Q => match x, y with
  | .tup xs, .int i => oE (atI xs i) fun u => Q u M
  | .fl xs, .int i => oE (atI xs i) fun u => Q u M
  | .str z, .int i => z.length ≤ sizeLine ∧ oE (atI z.cps.toList i) fun c => Q (.str ⟨#[c]⟩) M
  | .ref a, .int i => ∃ xs, M a = some (.lst xs) ∧ oE (atI xs i) fun u => Q u M
  | _, _ => False
theorem x_ix : Ix2 X rIx2 := by
  refine ⟨_, ix_seq, fun x y M Q Q' k h => ?_, fun x2 y2 x y M H Q rx ry rm h => ?_⟩
  · match x, y, h with
    | .tup xs, .int i, h => exact oE_mono (fun u => k _ _) h
    | .fl xs, .int i, h => exact oE_mono (fun u => k _ _) h
    | .str xs, .int i, h => exact ⟨h.1, oE_mono (fun u => k _ _) h.2⟩
    | .ref a, .int i, h => obtain ⟨xs, e, q⟩ := h; exact ⟨xs, e, oE_mono (fun u => k _ _) q⟩
  · match x2, y2, h, rx, ry with
    | .tup xs, .int i, h, .tup s r, .int _ =>
      obtain ⟨u, e, q⟩ := oE_inv h
      obtain ⟨v, e2, rv⟩ := r.atI e
      exact .inr (.inl ⟨_, _, i, v, rfl, rfl, s, e2, q v H .refl rv rm⟩)
    | .fl xs, .int i, h, .fl s r, .int _ =>
      obtain ⟨u, e, q⟩ := oE_inv h
      obtain ⟨v, e2, rv⟩ := r.atI e
      exact .inl ⟨_, _, i, v, rfl, rfl, s.sq, e2, q v H .refl rv rm⟩
    | .str z, .int i, h, .str _, .int _ =>
      obtain ⟨c, e, q⟩ := oE_inv h.2
      exact .inr (.inr ⟨z, i, c, rfl, rfl, h.1, e, q _ H .refl (.str _) rm⟩)
    | .ref a, .int i, h, .ref _, .int _ =>
      obtain ⟨xs, e0, h⟩ := h
      obtain ⟨u, e, q⟩ := oE_inv h
      obtain ⟨ys, e1, r⟩ := rm a _ e0
      obtain ⟨v, e2, rv⟩ := r.atI e
      exact .inl ⟨_, _, i, v, rfl, rfl, .inl (.inl e1), e2, q v H .refl rv rm⟩
@[reducible] noncomputable def nth : List U → Nat → Option U
  | [], _ => none
  | u :: _, 0 => some u
  | _ :: r, n + 1 => nth r n
theorem nth_eq : ∀ (xs : List U) (n : Nat), nth xs n = xs[n]?
  | [], _ => by simp [nth]
  | u :: _, 0 => by simp [nth]
  | _ :: r, n + 1 => by simp [nth, nth_eq r n]
@[reducible] noncomputable def qIxN (ta : TE2) (n : Nat) : TE2 := fun σ M Q => ta σ M fun x M1 => match x with
  | .tup xs => vE (nth xs n) fun u => Q u M1
  | .fl xs => vE (nth xs n) fun u => Q u M1
  | .ref a => ∃ xs, M1 a = some (.lst xs) ∧ oE (xs[n]?) fun u => Q u M1
  | _ => False
theorem qe_ixN {a : Expr} {ta : TE2} {n : Nat} {i : Int} {j pos pos'} (ha : QE X a ta) (hs : PlainIx (.Constant (.int i) j pos')) (hn : i = (n : Int) := by rfl) : QE X (.Subscript a (.Constant (.int i) j pos') pos) (qIxN ta n) := by
  subst hn
  have q := qe_ix (pos := pos) x_ix ha (qe_int (i := (n : Int)) (j := j) (pos := pos')) hs
  refine ⟨fun σ M Q Q' k h => ha.mo _ _ _ _ (fun u M1 z => ?_) h, peW q.pe fun σ H Q z0 => exUp z0 fun σ2 M rs rm h => ⟨σ2, M, rs, rm, ha.mo _ _ _ _ (fun u M1 z => ?_) h⟩⟩
  · match u, z with
    | .tup xs, z => exact vE_mono (fun u => k _ _) z
    | .fl xs, z => exact vE_mono (fun u => k _ _) z
    | .ref a, z => obtain ⟨xs, e, q⟩ := z; exact ⟨xs, e, oE_mono (fun u => k _ _) q⟩
  · match u, z with
    | .tup xs, z => obtain ⟨v, e, q⟩ := vE_inv z; rw [nth_eq] at e; exact oE_some (atI_nat e) q
    | .fl xs, z => obtain ⟨v, e, q⟩ := vE_inv z; rw [nth_eq] at e; exact oE_some (atI_nat e) q
    | .ref a, z => obtain ⟨xs, e0, z⟩ := z; obtain ⟨v, e, q⟩ := oE_inv z; exact ⟨xs, e0, oE_some (atI_nat e) q⟩
@[reducible] noncomputable def rSet2 : RSet2 := fun o i v M Q => match o, i with
  | .ref a, .int k => ∃ xs j, M a = some (.lst xs) ∧ ixN xs.length k = some j ∧ Q (put M a (.lst (xs.set j v)))
  | _, _ => False
theorem s_set : Set2 X rSet2 := by
  refine ⟨_, set_list, fun o i v M Q Q' k h => ?_, fun o2 i2 v2 o i v M H Q ro ri rv rm h => ?_⟩
  · match o, i, h with
    | .ref a, .int i, h => obtain ⟨xs, j, e1, e2, q⟩ := h; exact ⟨xs, j, e1, e2, k _ q⟩
  · match o2, i2, h, ro, ri with
    | .ref a, .int i, h, .ref _, .int _ =>
      obtain ⟨xs, j, e1, e2, q⟩ := h
      obtain ⟨ys, h1, r⟩ := rm a _ e1
      have kw := lstTK (K := X.K) (zs := ys.set j v) h1
      exact ⟨a, ys, i, j, rfl, rfl, h1, by rw [← r.len]; exact e2, q _ kw (rm.write kw ⟨_, upd_same, (r.up kw).set (rv.up kw) j⟩)⟩
theorem i_add : Ip2 X .Add (fun x y M Q => match x, y with
  | .int i, .int j => Q (.int (i + j)) M
  | .str a, .str b => a.length + b.length ≤ sizeLine ∧ Q (.str (a ++ b)) M
  | _, _ => False) := by
  refine ⟨_, ip_addU, fun x y M Q Q' k h => ?_, fun x2 y2 x y M H Q rx ry rm h => ?_⟩
  · match x, y, h with
    | .int i, .int j, h => exact k _ _ h
    | .str i, .str j, h => exact ⟨h.1, k _ _ h.2⟩
  · match x2, y2, h, rx, ry with
    | .int i, .int j, h, .int _, .int _ => exact .inl ⟨i, j, rfl, rfl, (show up X.K H Q _ M from h) _ H .refl (.int _) rm⟩
    | .str i, .str j, h, .str _, .str _ => exact .inr ⟨i, j, rfl, rfl, h.1, h.2 _ H .refl (.str _) rm⟩
theorem i_sub : Ip2 X .Sub r_sub := ⟨_, ip_sub, r_sub_mo, fun x2 y2 x y M H Q rx ry rm h => by
  match x2, y2, h, rx, ry with
  | .int i, .int j, h, .int _, .int _ => exact ⟨i, j, rfl, rfl, (show up X.K H Q _ M from h) _ H .refl (.int _) rm⟩⟩
noncomputable def cutU (xs : List U) (lo hi : Option Int) : List U := (xs.drop (HT.sIx xs.length 0 lo)).take (HT.sIx xs.length xs.length hi - HT.sIx xs.length 0 lo)
theorem RepAll.cut {K : Frag} {H : Hp} {xs : List U} {ys : List V} (r : RepAll K H xs ys) (lo hi : Option Int) : RepAll K H (cutU xs lo hi) (cutV ys lo hi) := by
  unfold cutU cutV
  rw [r.len]
  exact (r.drop _).take _
end
section
variable {X : Cx}
@[reducible] noncomputable def rLen2 : RL2 := fun us M Q => match us with
  | [.str y] => y.length ≤ sizeLine ∧ Q (.int y.length) M
  | [.tup xs] => Q (.int xs.length) M
  | [.fl xs] => Q (.int xs.length) M
  | [.ref a] => ∃ xs, M a = some (.lst xs) ∧ Q (.int xs.length) M
  | _ => False
theorem c_len : Call2 X (.builtin "len") rLen2 := by
  refine ⟨_, call_lenU, fun us M Q Q' k h => ?_, fun us vs M H Q r rm h => ?_⟩
  · match us, h with
    | [.str y], h => exact ⟨h.1, k _ _ h.2⟩
    | [.tup xs], h => exact k _ _ h
    | [.fl xs], h => exact k _ _ h
    | [.ref a], h => obtain ⟨xs, e, q⟩ := h; exact ⟨xs, e, k _ _ q⟩
  · cases r with
    | nil => exact h.elim
    | cons ru r' =>
      cases r' with
      | cons _ _ => cases ru <;> exact h.elim
      | nil =>
        cases ru with
        | str y => exact ⟨_, _, rfl, ⟨h.1, rfl⟩, h.2 _ H .refl (.int _) rm⟩
        | tup s r => exact ⟨_, _, rfl, .inr ⟨_, s, rfl⟩, by rw [← r.len]; exact (show up X.K H Q _ M from h) _ H .refl (.int _) rm⟩
        | fl s r => exact ⟨_, _, rfl, .inl ⟨_, s.sq, rfl⟩, by rw [← r.len]; exact (show up X.K H Q _ M from h) _ H .refl (.int _) rm⟩
        | ref a =>
          obtain ⟨xs, e, q⟩ := h
          obtain ⟨ys, e1, r⟩ := rm a _ e
          exact ⟨_, _, rfl, .inl ⟨ys, .inl (.inl e1), rfl⟩, by rw [← r.len]; exact q _ H .refl (.int _) rm⟩
        | _ => exact h.elim
@[reducible] noncomputable def rList2 : RL2 := fun us M Q => match us with
  | [.tup xs] => ∀ p, M p = none → Q (.ref p) (put M p (.lst xs))
  | [.fl xs] => ∀ p, M p = none → Q (.ref p) (put M p (.lst xs))
  | [.ref a] => ∃ xs, M a = some (.lst xs) ∧ ∀ p, M p = none → Q (.ref p) (put M p (.lst xs))
  | _ => False
theorem c_list : Call2 X (.type "list") rList2 := by
  refine ⟨_, call_list_of, fun us M Q Q' k h => ?_, fun us vs M H Q r rm h => ?_⟩
  · match us, h with
    | [.tup xs], h => exact fun p hp => k _ _ (h p hp)
    | [.fl xs], h => exact fun p hp => k _ _ (h p hp)
    | [.ref a], h => obtain ⟨xs, e, q⟩ := h; exact ⟨xs, e, fun p hp => k _ _ (q p hp)⟩
  · have fin : ∀ {xs : List U} {ys : List V}, RepAll X.K H xs ys → (∀ p, M p = none → up X.K H Q (.ref p) (put M p (.lst xs))) → ∀ l, H l = none → Q (.ref l) (upd H l (.lst ys)) := fun {xs ys} r q l hl => by
      have kn := TK.new (K := X.K) (o := .lst ys) hl
      exact q l (rm.free hl) (.ref l) _ kn (.ref l) (rm.write kn ⟨_, upd_same, r.up kn⟩)
    cases r with
    | nil => exact h.elim
    | cons ru r' =>
      cases r' with
      | cons _ _ => cases ru <;> exact h.elim
      | nil =>
        cases ru with
        | tup s r => exact ⟨_, _, rfl, .inr s, fin r h⟩
        | fl s r => exact ⟨_, _, rfl, .inl s.sq, fin r h⟩
        | ref a =>
          obtain ⟨xs, e, q⟩ := h
          obtain ⟨ys, e1, r⟩ := rm a _ e
          exact ⟨_, _, rfl, .inl (.inl (.inl e1)), fin r q⟩
        | _ => exact h.elim
@[reducible] noncomputable def rTuple2 : RL2 := fun us M Q => match us with
  | [.tup xs] => Q (.tup xs) M
  | [.fl xs] => Q (.tup xs) M
  | [.ref a] => ∃ xs, M a = some (.lst xs) ∧ Q (.tup xs) M
  | _ => False
theorem c_tuple : Call2 X (.type "tuple") rTuple2 := by
  refine ⟨_, call_tuple_of, fun us M Q Q' k h => ?_, fun us vs M H Q r rm h => ?_⟩
  · match us, h with
    | [.tup xs], h => exact k _ _ h
    | [.fl xs], h => exact k _ _ h
    | [.ref a], h => obtain ⟨xs, e, q⟩ := h; exact ⟨xs, e, k _ _ q⟩
  · have fin : ∀ {xs : List U} {ys : List V}, RepAll X.K H xs ys → up X.K H Q (.tup xs) M → ∀ l, H l = none → Q (.ref l) (upd H l (.tup ys)) := fun {xs ys} r q l hl => by
      have kn := TK.new (K := X.K) (o := .tup ys) hl
      exact q (.ref l) _ kn (.tup (SqT.of upd_same) (r.up kn)) (rm.same (same_new hl _))
    cases r with
    | nil => exact h.elim
    | cons ru r' =>
      cases r' with
      | cons _ _ => cases ru <;> exact h.elim
      | nil =>
        cases ru with
        | tup s r => exact ⟨_, _, rfl, .inr ⟨s, (show up X.K H Q _ M from h) _ H .refl (.tup s r) rm⟩⟩
        | fl s r => exact ⟨_, _, rfl, .inl ⟨s.sq, fin r h⟩⟩
        | ref a =>
          obtain ⟨xs, e, q⟩ := h
          obtain ⟨ys, e1, r⟩ := rm a _ e
          exact ⟨_, _, rfl, .inl ⟨.inl (.inl e1), fin r q⟩⟩
        | _ => exact h.elim
@[reducible] noncomputable def tyU (u : U) (M : Mem) (R : String → Prop) : Prop := match u with
  | .non => R "NoneType"
  | .bl _ => R "bool"
  | .int _ => R "int"
  | .str _ => R "str"
  | .tup _ => R "tuple"
  | .fl _ => R "list"
  | .ref a => ∃ xs, M a = some (.lst xs) ∧ R "list"
  | .ty _ => False
noncomputable def isiB (t n : String) : Bool := decide (t = n) || (decide (t = "bool") && decide (n = "int"))
noncomputable def isiOk (t n : String) : Bool := ["NoneType", "bool", "int", "str", "tuple", "list"].contains t && ["bool", "int", "str", "tuple", "list"].contains n
@[reducible] noncomputable def rIsi2 : RL2 := fun us M Q => match us with
  | [u, .ty n] => tyU u M fun t => isiOk t n = true ∧ Q (.bl (isiB t n)) M
  | _ => False
theorem tyU_mo {u : U} {M : Mem} {R R' : String → Prop} (k : ∀ t, R t → R' t) (h : tyU u M R) : tyU u M R' := by
  cases u with
  | ref a => obtain ⟨xs, e, q⟩ := h; exact ⟨xs, e, k _ q⟩
  | ty n => exact h
  | _ => exact k _ h
theorem isi_kit (K : Frag) (t n : String) (h : isiOk t n = true) : PySem.W.kitOne K (.type t) (.type n) = some (isiB t n) := by
  have h1 : t ∈ ["NoneType", "bool", "int", "str", "tuple", "list"] := by unfold isiOk at h; rw [Bool.and_eq_true] at h; simpa using h.1
  have h2 : n ∈ ["bool", "int", "str", "tuple", "list"] := by unfold isiOk at h; rw [Bool.and_eq_true] at h; simpa using h.2
  simp only [List.mem_cons, List.not_mem_nil, or_false] at h1 h2
  rcases h1 with rfl | rfl | rfl | rfl | rfl | rfl <;> rcases h2 with rfl | rfl | rfl | rfl | rfl <;> rfl
theorem call_isiS : CallR X (.builtin "isinstance") (fun xs H Q => ∃ a n t b, xs = [.ref a, .ty n] ∧ ((t = "tuple" ∧ ∃ ys, SqT X.K H a ys) ∨ (t = "list" ∧ ∃ ys, SqL X.K H a ys)) ∧ PySem.W.kitOne X.K (.type t) (.type n) = some b ∧ Q (.bl b) H) := by
  intro pins s σ H xs us Q I r h
  obtain ⟨a, n, t, b, rfl, ty, e, q⟩ := h
  obtain ⟨u, w', rfl, ru, rw'⟩ := r.two
  obtain rfl : w' = Value.type n := rw'
  obtain rfl : u = Value.ref a := ru
  have fin : ∀ tk, EP X pins σ Q (.bool b) { s with toks := tk } := fun tk => ⟨.bl b, H, I.tok tk, rfl, q⟩
  rcases ty with ⟨rfl, ys, hq⟩ | ⟨rfl, ys, hq⟩
  · obtain ⟨its, rv, ⟨o, h1, h2, _⟩, _⟩ := I.tuple hq
    exact PySem.W.kia_one PySem.W.kitx_tuple I.kIn ⟨o, h1, h2⟩ e (fun z => nomatch z) fin
  · obtain ⟨its, rv, ⟨o, n', h1, h2, _⟩, _⟩ := I.list hq
    exact PySem.W.kia_one PySem.W.kitx_list I.kIn ⟨o, h1, h2⟩ e (fun z => nomatch z) fin
theorem CallR.or {f : Value} {r r' : List V → Hp → VK → Prop} (h : CallR X f r) (h' : CallR X f r') : CallR X f (fun xs H Q => r xs H Q ∨ r' xs H Q) := fun pins s σ H xs us Q I rv q =>
  q.elim (h pins s σ H xs us Q I rv) (h' pins s σ H xs us Q I rv)
theorem c_isi : Call2 X (.builtin "isinstance") rIsi2 := by
  refine ⟨_, CallR.or call_isiT call_isiS, fun us M Q Q' k h => ?_, fun us vs M H Q r rm h => ?_⟩
  · match us, h with
    | [u, .ty n], h => exact tyU_mo (R' := fun t => isiOk t n = true ∧ Q' (.bl (isiB t n)) M) (fun t q => ⟨q.1, k _ _ q.2⟩) (show tyU u M fun t => isiOk t n = true ∧ Q (.bl (isiB t n)) M from h)
  · cases r with
    | nil => exact h.elim
    | cons ru r =>
      cases r with
      | nil => exact h.elim
      | cons rt r =>
        cases r with
        | cons _ _ => cases rt <;> exact h.elim
        | nil =>
          cases rt with
          | ty n =>
            cases ru with
            | ty _ => exact h.elim
            | non => exact .inl ⟨_, n, _, _, rfl, .non, isi_kit X.K _ _ h.1, h.2 _ H .refl (.bl _) rm⟩
            | bl _ => exact .inl ⟨_, n, _, _, rfl, .bl _, isi_kit X.K _ _ h.1, h.2 _ H .refl (.bl _) rm⟩
            | int _ => exact .inl ⟨_, n, _, _, rfl, .int _, isi_kit X.K _ _ h.1, h.2 _ H .refl (.bl _) rm⟩
            | str _ => exact .inl ⟨_, n, _, _, rfl, .str _, isi_kit X.K _ _ h.1, h.2 _ H .refl (.bl _) rm⟩
            | tup s r => exact .inr ⟨_, n, _, _, rfl, .inl ⟨rfl, _, s⟩, isi_kit X.K _ _ h.1, h.2 _ H .refl (.bl _) rm⟩
            | fl s r => exact .inr ⟨_, n, _, _, rfl, .inr ⟨rfl, _, s.sq⟩, isi_kit X.K _ _ h.1, h.2 _ H .refl (.bl _) rm⟩
            | ref a =>
              obtain ⟨xs, e, h⟩ := h
              obtain ⟨ys, e1, r⟩ := rm a _ e
              exact .inr ⟨a, n, _, _, rfl, .inr ⟨rfl, ys, .inl (.inl e1)⟩, isi_kit X.K _ _ h.1, h.2 _ H .refl (.bl _) rm⟩
          | _ => exact h.elim
end
section
variable {X : Cx} {tg l a b : Expr} {tl : TE2} {t : TA2} {p pos : Pos}
noncomputable def noChk : Mem → Prop := fun _ => True
@[reducible] noncomputable def rngU (lo : Int) : Nat → List U
  | 0 => []
  | n + 1 => .int lo :: rngU (lo + 1) n
theorem rngU_len : ∀ (n : Nat) (lo : Int), (rngU lo n).length = n
  | 0, _ => rfl
  | n + 1, lo => congrArg (· + 1) (rngU_len n (lo + 1))
theorem rngU_get : ∀ (n : Nat) (lo : Int) (i : Nat), i < n → (rngU lo n)[i]? = some (.int (lo + i))
  | 0, _, _, h => absurd h (Nat.not_lt_zero _)
  | n + 1, lo, 0, _ => by simp [rngU]
  | n + 1, lo, i + 1, h => by
    have q := rngU_get n (lo + 1) i (by omega)
    simp only [rngU, List.getElem?_cons_succ, q]
    congr 2
    omega
theorem it_rng {K : Frag} {H0 : Hp} {lo : Int} {n : Nat} : ItOk K H0 (Itr lo n) (rngU lo n) noChk := fun i H M k rm _ => by
  rw [rngU_len]
  refine ⟨fun h => Nat.le_of_eq h, fun x hx => ?_⟩
  have hlt : i < n := by have := (List.getElem?_eq_some_iff.mp hx).1; rw [rngU_len] at this; exact this
  rw [rngU_get n lo i hlt] at hx
  cases hx
  refine ⟨hlt, fun v H' z9 => ?_⟩
  obtain ⟨e1, e2⟩ := z9
  subst e1; subst e2
  exact ⟨.refl, rm, .int _⟩
@[reducible] noncomputable def kRng1 (t : TA2) : TI2 := fun σ M R => t σ M fun us M1 => match us with
  | [.int j] => -(2 ^ 62) ≤ j ∧ j < 2 ^ 62 ∧ R (rngU 0 j.toNat) noChk M1
  | _ => False
theorem piW {iter : Expr} {t t' : TI} (h : PI X tg iter t) (i : ∀ σ H R, t' σ H R → t σ H R) : PI X tg iter t' := fun pins s σ H R I q => h pins s σ H R I (i σ H R q)
theorem qi_range1 (hg : Gl X "range") (hm : X.mg "range" = none) (ha : QA X [a] t) (hs : starEach [a] X.env = [(false, eval a X.env)] := by rfl) : QI X tg (.Call (.Name "range" p) [a] [] pos) (kRng1 t) := by
  refine ⟨fun σ M Q Q' k h => ha.mo _ _ _ _ (fun us M1 z => ?_) h, piW (pi_range1 hg hm ha.pe hs) fun σ H R z0 => exUp z0 fun σ2 M rs rm h => lfA ha.mo rs rm h fun us M1 vs H1 k1 r1 m1 s1 h1 => ?_⟩
  · match us, z with
    | [.int j], z => exact ⟨z.1, z.2.1, k _ _ _ z.2.2⟩
  · cases r1 with
    | nil => exact h1.elim
    | cons ru r' =>
      cases r' with
      | cons _ _ => cases ru <;> exact h1.elim
      | nil =>
        cases ru with
        | int j => exact ⟨j, rfl, h1.1, h1.2.1, h1.2.2 _ H1 k1 m1 it_rng⟩
        | _ => exact h1.elim
end
end L3
namespace L3
open PySem PySem.Spec PyProof.Rows L2
section
variable {X : Cx} {tg l a b : Expr} {tl : TE2} {t : TA2} {p pos : Pos}
@[reducible] noncomputable def chs (z : Str) : List U := z.cps.toList.map fun c => .str ⟨#[c]⟩
@[reducible] noncomputable def kSeq (tl : TE2) : TI2 := fun σ M R => tl σ M fun x M1 => match x with
  | .tup xs => R xs noChk M1
  | .fl xs => R xs noChk M1
  | .str z => R (chs z) noChk M1
  | .ref a => ∃ xs, M1 a = some (.lst xs) ∧ R xs (fun M => M a = some (.lst xs)) M1
  | _ => False
theorem get_of {K : Frag} {H : Hp} {xs : List U} {ys : List V} {i : Nat} {x : U} {v : V} (r : RepAll K H xs ys) (hx : xs[i]? = some x) (hv : ys[i]? = some v) : Rep K H x v := by
  obtain ⟨w, e, q⟩ := r.get hx
  rw [hv] at e; cases e; exact q
theorem lt_of {α : Type} {xs : List α} {i : Nat} {x : α} (h : xs[i]? = some x) : i < xs.length := (List.getElem?_eq_some_iff.mp h).1
theorem it_tup {K : Frag} {H0 : Hp} {a : Addr} {xs : List U} {ys : List V} (s : SqT K H0 a ys) (r : RepAll K H0 xs ys) : ItOk K H0 (Itt K a) xs noChk := fun i H M k rm _ => by
  have s' := k.t _ _ s
  have r' := r.up k
  refine ⟨fun h => ⟨ys, s', by rw [← r.len]; omega⟩, fun x hx => ?_⟩
  obtain ⟨v, ev, rv⟩ := r'.get hx
  exact ⟨⟨ys, v, s', ev⟩, fun v' H' ⟨e1, e2⟩ => by subst e1; exact ⟨.refl, rm, get_of r' hx (e2 ys s')⟩⟩
theorem it_fl {K : Frag} {H0 : Hp} {a : Addr} {xs : List U} {ys : List V} (s : FrL K H0 a ys) (r : RepAll K H0 xs ys) : ItOk K H0 (Itl K a) xs noChk := fun i H M k rm _ => by
  have s' := (k.f _ _ s).sq
  have r' := r.up k
  refine ⟨fun h => ⟨ys, s', by rw [← r.len]; omega⟩, fun x hx => ?_⟩
  obtain ⟨v, ev, rv⟩ := r'.get hx
  exact ⟨⟨ys, v, s', ev⟩, fun v' H' ⟨e1, e2⟩ => by subst e1; exact ⟨.refl, rm, get_of r' hx (e2 ys s')⟩⟩
theorem it_lst {K : Frag} {H0 : Hp} {a : Addr} {xs : List U} : ItOk K H0 (Itl K a) xs (fun M => M a = some (.lst xs)) := fun i H M k rm c => by
  obtain ⟨ys, e, r'⟩ := rm a _ c
  have s' : SqL K H a ys := .inl (.inl e)
  refine ⟨fun h => ⟨ys, s', by rw [← r'.len]; omega⟩, fun x hx => ?_⟩
  obtain ⟨v, ev, rv⟩ := r'.get hx
  exact ⟨⟨ys, v, s', ev⟩, fun v' H' ⟨e1, e2⟩ => by subst e1; exact ⟨.refl, rm, get_of r' hx (e2 ys s')⟩⟩
theorem it_str {K : Frag} {H0 : Hp} {z : Str} : ItOk K H0 (Its z) (chs z) noChk := fun i H M k rm _ => by
  have hl : (chs z).length = z.cps.size := by simp [chs]
  refine ⟨fun h => (by rw [hl] at h; exact h.symm), fun x hx => ?_⟩
  have hlt := lt_of hx
  rw [hl] at hlt
  refine ⟨hlt, fun v' H' z9 => ?_⟩
  obtain ⟨e1, c, e2, e3⟩ := z9
  subst e1; subst e3
  refine ⟨.refl, rm, ?_⟩
  have : x = .str ⟨#[c]⟩ := by
    simp only [chs, List.getElem?_map, Array.getElem?_toList, e2, Option.map_some, Option.some.injEq] at hx
    exact hx.symm
  subst this
  exact .str _
theorem qi_seq (hl : QE X l tl) : QI X tg l (kSeq tl) := by
  refine ⟨fun σ M Q Q' k h => hl.mo _ _ _ _ (fun u M1 z => ?_) h, piW (pi_seq hl.pe) fun σ H R z0 => exUp z0 fun σ2 M rs rm h => lf hl.mo rs rm h fun u M1 v H1 k1 r1 m1 s1 h1 => ?_⟩
  · match u, z with
    | .tup xs, z => exact k _ _ _ z
    | .fl xs, z => exact k _ _ _ z
    | .str xs, z => exact k _ _ _ z
    | .ref a, z => obtain ⟨xs, e, q⟩ := z; exact ⟨xs, e, k _ _ _ q⟩
  · cases r1 with
    | tup s r => exact .inr (.inl ⟨_, rfl, ⟨_, s⟩, (show upI X.K H R _ noChk M1 from h1) _ H1 k1 m1 (it_tup s r)⟩)
    | fl s r => exact .inl ⟨_, rfl, ⟨_, s.sq⟩, (show upI X.K H R _ noChk M1 from h1) _ H1 k1 m1 (it_fl s r)⟩
    | str z => exact .inr (.inr ⟨z, rfl, (show upI X.K H R _ noChk M1 from h1) _ H1 k1 m1 it_str⟩)
    | ref a =>
      obtain ⟨xs, e, q⟩ := h1
      obtain ⟨ys, e1, r⟩ := m1 a _ e
      exact .inl ⟨a, rfl, ⟨ys, .inl (.inl e1)⟩, q _ H1 k1 m1 it_lst⟩
    | _ => exact h1.elim
end
section
variable {chk : Mem → Prop} {g : TG2} {tb : TS2} {tc : TT2} {te : TE2} {xs : List U} {D : Ends2} {σ : St2} {M : Mem} {Q : UK}
theorem Walk.inv (Pv : Nat → St2 → Mem → Prop) (h0 : Pv 0 σ M)
    (hs : ∀ i x σ M, xs[i]? = some x → Pv i σ M → chk M ∧ g x σ M fun σ1 M1 => tb { D with nx := fun σ' M' => ∃ M2, Le M2 M' ∧ Pv (i + 1) σ' M2, ct := fun σ' M' => ∃ M2, Le M2 M' ∧ Pv (i + 1) σ' M2, bk := D.nx } σ1 M1)
    (hd : ∀ σ M, Pv xs.length σ M → chk M ∧ D.nx σ M) : Walk chk g tb xs D σ M := by
  refine ⟨Pv, h0, fun i σ M hi w => ?_⟩
  cases e : xs[i]? with
  | none =>
    have el : i = xs.length := by have := List.getElem?_eq_none_iff.mp e; omega
    subst el
    exact hd σ M w
  | some x => exact hs i x σ M e w
theorem Comp.inv (hn : xs.length ≤ sizeLine) (Pv : Nat → List U → St2 → Mem → Prop) (h0 : Pv 0 [] σ M)
    (hs : ∀ i x ys σ M, xs[i]? = some x → ys.length ≤ i → Pv i ys σ M → chk M ∧ g x σ M fun σ1 M1 => tc σ1 M1 fun b M2 => bE b (te σ1 M2 fun y M3 => ∃ M4, Le M4 M3 ∧ Pv (i + 1) (ys ++ [y]) σ1 M4) (∃ M4, Le M4 M2 ∧ Pv (i + 1) ys σ1 M4))
    (hd : ∀ ys σ M, Pv xs.length ys σ M → chk M ∧ ∀ p, M p = none → Q (.ref p) (put M p (.lst ys))) : Comp chk g tc te xs Q σ M := by
  refine ⟨hn, Pv, h0, fun i ys σ M hi hy w => ?_⟩
  cases e : xs[i]? with
  | none =>
    have el : i = xs.length := by have := List.getElem?_eq_none_iff.mp e; omega
    subst el
    exact hd ys σ M w
  | some x => exact hs i x ys σ M e hy w
end
end L3
namespace L3
open PySem PySem.Spec PyProof.Rows L2
section
variable {X : Cx}
end
end L3
namespace L3
open PySem PySem.Spec PyProof.Rows L2
theorem small {n : Nat} (h : n ≤ 1000) : n ≤ sizeLine := Nat.le_of_lt (small1000 h)
section
variable {g : TG2} {tb : TS2} {tc : TT2} {te : TE2} {xs : List U} {D : Ends2} {σ : St2} {M : Mem} {Q : UK}
theorem Walk.rng {lo : Int} {n : Nat} (Pv : Nat → St2 → Mem → Prop) (h0 : Pv 0 σ M)
    (hs : ∀ i σ M, i < n → Pv i σ M → g (.int (lo + i)) σ M fun σ1 M1 => tb { D with nx := fun σ' M' => ∃ M2, Le M2 M' ∧ Pv (i + 1) σ' M2, ct := fun σ' M' => ∃ M2, Le M2 M' ∧ Pv (i + 1) σ' M2, bk := D.nx } σ1 M1)
    (hd : ∀ σ M, Pv n σ M → D.nx σ M) : Walk noChk g tb (rngU lo n) D σ M :=
  Walk.inv Pv h0 (fun i x σ M hx p => by
    have hlt : i < n := by have := lt_of hx; rw [rngU_len] at this; exact this
    rw [rngU_get n lo i hlt] at hx
    cases hx
    exact ⟨trivial, hs i σ M hlt p⟩) fun σ M p => ⟨trivial, hd σ M (by rw [rngU_len] at p; exact p)⟩
end
theorem Le.put {M M' : Mem} {p : Addr} {o : O} (l : Le M M') (h : M p = none) : Le M (put M' p o) := fun a u q => by rw [put_ne (mne q h)]; exact l a u q
theorem put_swap {M : Mem} {p z : Addr} {a b c : O} (h : p ≠ z) : put (put (put M p a) z b) p c = put (put M p c) z b := by
  funext x; unfold put; by_cases h1 : x = p
  · subst h1; rw [if_pos rfl, if_neg h, if_pos rfl]
  · rw [if_neg h1]; by_cases h2 : x = z
    · rw [if_pos h2, if_pos h2]
    · rw [if_neg h2, if_neg h2, if_neg h1, if_neg h1]
theorem FrL.of {K : Frag} {H : Hp} {a : Addr} {xs : List V} (o : Only H) (h : SqL K H a xs) : FrL K H a xs := by
  rcases h with (h | ⟨ob, h⟩) | h
  · rcases o a with z | ⟨ob, ys, z⟩
    · rw [z] at h; cases h
    · rw [z] at h; cases h
  · exact .inl ⟨ob, h⟩
  · exact .inr h
theorem atI_neg1 {α : Type} {xs : List α} {v : α} (h : xs[xs.length - 1]? = some v) : atI xs (-1) = some v := by
  have hl := lt_of h
  unfold atI ixN
  rw [if_neg (by decide), if_pos (by omega)]
  show xs[((-1 : Int) + xs.length).toNat]? = some v
  have e : ((-1 : Int) + xs.length).toNat = xs.length - 1 := by omega
  rw [e]; exact h
end L3
namespace L3
open PySem PySem.Spec PyProof.Rows L2
section
variable {X : Cx} {e a : Expr} {es : List Expr} {te ta : TE2} {pos p2 : Pos}
noncomputable def CDivB (i j : Int) : Prop := j ≠ 0 ∧ j.natAbs.log2 < 9000
theorem op_fdivB : OpR X (binaryOp .FloorDiv) (rI CDivB fun i j => .int (i.fdiv j)) := opI fun _ _ _ _ _ _ _ hc q => floordiv_int hc.1 q (.inl (PyProof.noPylong_of_log2 hc.2))
@[reducible] noncomputable def r_fdivB : RR2 := fun x y M Q => match x, y with
  | .int i, .int j => CDivB i j ∧ Q (.int (i.fdiv j)) M
  | _, _ => False
theorem o_fdivB : Op2 X (binaryOp .FloorDiv) r_fdivB := ⟨_, op_fdivB, fun x y M Q Q' k h => by
  match x, y, h with
  | .int i, .int j, h => exact ⟨h.1, k _ _ h.2⟩, fun x2 y2 x y M H Q rx ry rm h => by
  match x2, y2, h, rx, ry with
  | .int i, .int j, h, .int _, .int _ => exact ⟨i, j, rfl, rfl, h.1, h.2 _ H .refl (.int _) rm⟩⟩
theorem bools_at {bs : List Bool} : ∀ {its : List Value} {i : Nat} {v : Value}, Vals (bs.map V.bl) its → its[i]? = some v → ∃ b, bs[i]? = some b ∧ v = .bool b := by
  intro its i v r h
  have hl := r.length
  rw [List.length_map] at hl
  have hlt : i < bs.length := by rw [hl]; exact (List.getElem?_eq_some_iff.mp h).1
  obtain ⟨u, e1, e2⟩ := r.get (i := i) (x := V.bl bs[i]) (by rw [List.getElem?_map, List.getElem?_eq_getElem hlt]; rfl)
  rw [h] at e1; cases e1
  exact ⟨bs[i], List.getElem?_eq_getElem hlt, e2⟩
theorem range_any' (bs : List Bool) : ((List.range bs.length).any fun i => (bs[i]?).getD false) = bs.any id := by
  rw [Bool.eq_iff_iff]
  simp only [List.any_eq_true, List.mem_range, id]
  constructor
  · rintro ⟨i, hi, h⟩
    rw [List.getElem?_eq_getElem hi] at h
    exact ⟨_, List.getElem_mem hi, h⟩
  · rintro ⟨b, hb, h⟩
    obtain ⟨i, hi, rfl⟩ := List.getElem_of_mem hb
    exact ⟨i, hi, by rw [List.getElem?_eq_getElem hi]; exact h⟩
theorem kept_it {s : Shared} {h' : Heap} {o : Obj} (hk : ∀ b x, b ∉ [s.heap.objs.size] → (s.heap.push o).get? b = some x → h'.get? b = some x) : ∀ b x, s.heap.get? b = some x → h'.get? b = some x :=
  fun b x e => hk b x (fun hm => by rw [List.mem_singleton.mp hm] at e; exact Nat.lt_irrefl _ (Heap.lt_size e)) (Heap.get?_push_of_some _ e)
theorem call_anyB (hc : X.calm = true) : CallR X (.builtin "any") (fun xs H Q => ∃ p bs, xs = [.ref p] ∧ SqL X.K H p (List.map V.bl bs) ∧ Q (.bl (bs.any id)) H) := by
  intro pins s σ H xs us Q I r h
  obtain ⟨p, bs, rfl, hq, q⟩ := h
  obtain ⟨u, rfl, ru⟩ := vals1 r
  obtain rfl : u = Value.ref p := ru
  obtain ⟨its, rv, pl, _⟩ := I.list hq
  have hl := pl.isList
  have hlt : p < s.heap.objs.size := by obtain ⟨_, e, _⟩ := hl; exact Heap.lt_size e
  have hlen : its.length = bs.length := by have := rv.length; rw [List.length_map] at this; exact this.symm
  refine call_any_walk (wpAny_pyIter_list hl ?_)
  refine ⟨s.heap.objs.size, [s.heap.objs.size, p], [s.heap.objs.size], its.toArray.size, _, _, fun i => (bs[i]?).getD false, rfl, Walks.list (A := X.A.in1) (I.ok.hd hc) _ p (Nat.ne_of_lt hlt) its.toArray,
    ⟨⟨_, Heap.get?_push_size _ rfl, rfl, rfl⟩, hl.push _⟩, fun i v s' Q' E' hP hQ => ?_, fun h' tk hk => ?_⟩
  · obtain ⟨b, e, rfl⟩ := bools_at rv (i := i) (v := v) (by simpa using hP)
    simp only [e, Option.getD_some] at hQ
    exact wpAny_truthy_bool hQ
  · have e : ((List.range its.toArray.size).any fun i => (bs[i]?).getD false) = bs.any id := by
      rw [List.size_toArray, hlen]; exact range_any' bs
    rw [e]
    exact ⟨.bl _, H, I.kept (kept_it hk), rfl, q⟩
theorem RepAll.bls_of {K : Frag} {H : Hp} {bs : List Bool} : ∀ {vs : List V}, RepAll K H (bs.map U.bl) vs → vs = bs.map V.bl := by
  induction bs with
  | nil => intro ys h; cases h; rfl
  | cons z zs ih => intro ys h; cases h with
    | cons r t => cases r; rw [ih t]; rfl
@[reducible] noncomputable def rAny2 : RL2 := fun us M Q => match us with
  | [.ref a] => ∃ bs, M a = some (.lst (List.map U.bl bs)) ∧ Q (.bl (bs.any id)) M
  | _ => False
theorem c_any (hc : X.calm = true) : Call2 X (.builtin "any") rAny2 := ⟨_, call_anyB hc, fun us M Q Q' k h => by
  match us, h with
  | [.ref a], h => obtain ⟨ns, e, q⟩ := h; exact ⟨ns, e, k _ _ q⟩, fun us vs M H Q r rm h => by
  match us, vs, r, h with
  | [.ref a], _, .cons (.ref _) .nil, h =>
    obtain ⟨ns, e, q⟩ := h
    obtain ⟨ys, e1, r⟩ := rm a _ e
    rw [r.bls_of] at e1
    exact ⟨a, ns, rfl, .inl (.inl e1), q _ H .refl (.bl _) rm⟩⟩
end
end L3
namespace L3
open PySem PySem.Spec PyProof.Rows L2
section
variable {P : Program} {w : World} {K : Frag} {mg : Str → Option Value} {base : Heap} {x qual m : Str} {st : Stmt} {C f : Addr} {fd : FuncData} {N ps : List Str} {k : Nat} {sp : Sp2}
theorem met2 (cl : Cls K C) (me : Meth K C m f) (F : Fun K m qual st f fd) (S : FnScope N ps (defScope st)) (mo : MoSp sp) (len : ∀ us M Q, sp us M Q → us.length = ps.length)
    (hb : ∀ (kV doc pm : Value) (an : Option Addr) (cdv ct : Value) (us : List Value), us.length = ps.length → bindArgs (PySem.W.fnOf m qual (defArgs st) (defBody st) (defScope st) .none kV doc pm an cdv ct) ⟨us, []⟩ = pure (ps.zip us))
    (hbody : ∀ (cdv : Value) (A : Around) (outer : List Env) (s : Shared) (H : Hp) (E : XK), Room k (A.deeper (envOfC qual (defScope st) s.heap.objs.size f cdv)) →
      ∃ t, QSs (cxOf CX0 P w K mg base N qual (defScope st) f cdv A outer s H E).nox (defBody st) t ∧ ∀ us M Q, Clo Q → sp us M Q → t { nx := fun _ M' => Q .non M', rt := Q } (start2 N us) M) : Mt2 P w K mg base (k + 1) C m ps sp :=
  ⟨mo, ⟨cl, f, fd, me, fn2 F S len hbody, F.binds hb⟩⟩
theorem mak2 (mk : Mk K C f) (hm : mg x = some (.ref C)) (F : Fun K "__init__" qual st f fd) (S : FnScope N ps (defScope st)) (mo : MoSp sp) (len : ∀ us M Q, sp us M Q → us.length = ps.length)
    (hb : ∀ (kV doc pm : Value) (an : Option Addr) (cdv ct : Value) (us : List Value), us.length = ps.length → bindArgs (PySem.W.fnOf "__init__" qual (defArgs st) (defBody st) (defScope st) .none kV doc pm an cdv ct) ⟨us, []⟩ = pure (ps.zip us))
    (hbody : ∀ (cdv : Value) (A : Around) (outer : List Env) (s : Shared) (H : Hp) (E : XK), Room k (A.deeper (envOfC qual (defScope st) s.heap.objs.size f cdv)) →
      ∃ t, QSs (cxOf CX0 P w K mg base N qual (defScope st) f cdv A outer s H E).nox (defBody st) t ∧ ∀ us M Q, Clo Q → sp us M Q → t { nx := fun _ M' => Q .non M', rt := Q } (start2 N us) M) : Mk2 P w K mg base (k + 1) x C ps sp :=
  ⟨mo, ⟨f, fd, mk, fn2 F S len hbody, hm, F.binds hb⟩⟩
theorem Mt2.mono {j : Nat} (M : Mt2 P w K mg base j C m ps sp) (h : j ≤ k) : Mt2 P w K mg base k C m ps sp := by
  obtain ⟨mo, cl, f, fd, me, F, b⟩ := M
  exact ⟨mo, ⟨cl, f, fd, me, F.mono h, b⟩⟩
theorem Mk2.mono {j : Nat} (M : Mk2 P w K mg base j x C ps sp) (h : j ≤ k) : Mk2 P w K mg base k x C ps sp := by
  obtain ⟨mo, f, fd, me, F, hm, b⟩ := M
  exact ⟨mo, ⟨f, fd, me, F.mono h, hm, b⟩⟩
end
section
variable {X : Cx} {tg a b c : Expr} {t : TA2} {p pos : Pos}
end
end L3
set_option maxHeartbeats 1000000
namespace L3
open PySem PySem.Spec PyProof.Rows L2 SeqAt MeetsSeq
section
variable {X : Cx}
theorem rem_loop (l : Addr) (items : Array Value) (n : Nat) (x : Value) (e : Nat → Bool) (j : Nat) (hj : j < items.size) (hit : e j = true) (k : Nat) (hs1 : items.size ≤ sizeLine) :
    ∀ i : Nat, j - i = k → i ≤ j → (∀ m (hm : m < items.size), i ≤ m → m < j → e m = false) → Meets (Builtin.«list.remove.loop» ⟨[.ref l, x, rawInt i], []⟩)
      (fun A R s => s.heap.get? l = some { cls := .type "list", dict := none, data := .seq items n, slots := #[] } ∧ (∀ m (hm : m < items.size), EqAt A.in1 s items[m] x (e m)) ∧ R (.ok (.ret .none)) { s with heap := s.heap.update l (Obj.mapSeq fun xs => xs.eraseIdxIfInBounds j) }) := by
  induction k with
  | zero =>
    intro i hk hij hno prog w A R s h
    obtain ⟨hp, g, d, tk, os⟩ := s
    obtain ⟨hl, he, h⟩ := h
    obtain rfl : i = j := by omega
    wp_walk using wpAny_loadPart' hl
    rw [show items[((i : Nat) : Int).toNat]? = some items[i] by simp [hj]]
    refine wpAny_bind (he i hj prog w _ _ ?_)
    rw [hit]
    have hz : (items.eraseIdxIfInBounds i).size ≤ sizeLine + 1 := Nat.le_trans (size_erased items _) (Nat.le_succ_of_le hs1)
    wp_walk using (wpAny_updateSeq hl rfl (hz := hs1) (_hz' := hz)), wpAny_loadPart' hl
    simpa using h
  | succ k ih =>
    intro i hk hij hno prog w A R s h
    obtain ⟨hp, g, d, tk, os⟩ := s
    obtain ⟨hl, he, h⟩ := h
    have hlt : i < items.size := by omega
    wp_walk using wpAny_loadPart' hl
    rw [show items[((i : Nat) : Int).toNat]? = some items[i] by simp [hlt]]
    refine wpAny_bind (he i hlt prog w _ _ ?_)
    rw [hno i hlt (Nat.le_refl _) (by omega)]
    wp_walk
    rw [show ((i : Int) + 1) = ((i + 1 : Nat) : Int) by push_cast; rfl]
    exact ⟨plainId_quiet plain_remove_loop _, codeAny_builtin entry_remove_loop (by
      rw [Around.under_plainId plain_remove_loop _]
      exact ih (i + 1) (by omega) (by omega) (fun m hm h1 h2 => hno m hm (by omega) h2) prog w A R _ ⟨hl, he, h⟩)⟩
theorem rem_list (l : Addr) (items : Array Value) (n : Nat) (x : Value) (e : Nat → Bool) (j : Nat) (hj : j < items.size) (hit : e j = true) (hno : ∀ m (hm : m < items.size), m < j → e m = false) (hs1 : items.size ≤ sizeLine) :
    Meets (Builtin.«list.remove» ⟨[.ref l, x], []⟩)
      (fun A R s => s.heap.get? l = some { cls := .type "list", dict := none, data := .seq items n, slots := #[] } ∧ (∀ m (hm : m < items.size), EqAt A.in1 s items[m] x (e m)) ∧ R (.ok (.ret .none)) { s with heap := s.heap.update l (Obj.mapSeq fun xs => xs.eraseIdxIfInBounds j) }) := by
  intro prog w A R s h
  obtain ⟨hp, g, d, tk, os⟩ := s
  obtain ⟨hl, he, h⟩ := h
  wp_walk using wpAny_loadPart' hl
  exact ⟨plainId_quiet plain_remove_loop _, codeAny_builtin entry_remove_loop (by
    rw [Around.under_plainId plain_remove_loop _]
    exact rem_loop l items n x e j hj hit _ hs1 0 rfl (Nat.zero_le _) (fun m hm _ h2 => hno m hm h2) prog w A R _ ⟨hl, he, h⟩)⟩
noncomputable def rRem (K : Frag) : V → List V → Hp → VK → Prop := fun x vs H Q => ∃ l xs y ds d j, x = .ref l ∧ vs = [y] ∧ H l = some (.lst xs) ∧ LiesAll K H xs ds ∧ Lies K H y d ∧ d.depth ≤ 60 ∧ (∃ dj, ds[j]? = some dj ∧ PyData.eqv dj d = true) ∧ (∀ m dm, m < j → ds[m]? = some dm → PyData.eqv dm d = false) ∧ Q .non (upd H l (.lst (xs.eraseIdx j)))
theorem LiesAll.len {K : Frag} {H : Hp} : ∀ {vs : List V} {ds : List PyData}, LiesAll K H vs ds → vs.length = ds.length
  | _, _, .nil => rfl
  | _, _, .cons _ t => congrArg (· + 1) (LiesAll.len t)
theorem reads_at {h : Heap} : ∀ {us : List Value} {ds : List PyData} {as : List Addr} {i : Nat} {u : Value}, ReadsAll h us ds as → us[i]? = some u → ∃ d bs, ds[i]? = some d ∧ Reads h u d bs
  | _, _, _, _, _, .nil, e => by simp at e
  | _, _, _, 0, _, .cons r _, e => by simp at e; subst e; exact ⟨_, _, rfl, r⟩
  | _, _, _, i + 1, u, .cons _ t, e => by
    obtain ⟨d, bs, h1, h2⟩ := reads_at (i := i) (u := u) t (by simpa using e)
    exact ⟨d, bs, by simpa using h1, h2⟩
theorem lay_at : ∀ {ds : List PyData} {i : Nat} {d : PyData}, PyData.canLayAll0 ds = true → ds[i]? = some d → d.canLay0 = true
  | [], _, _, _, e => by simp at e
  | x :: r, 0, d, h, e => by simp at e; subst e; simp [PyData.canLayAll0] at h; exact h.1
  | x :: r, i + 1, d, h, e => by simp [PyData.canLayAll0] at h; exact lay_at (i := i) h.2 (by simpa using e)
theorem Vals.erase : ∀ {xs : List V} {us : List Value}, Vals xs us → ∀ j, Vals (xs.eraseIdx j) (us.eraseIdx j)
  | _, _, .nil, _ => .nil
  | _, _, .cons _ t, 0 => t
  | _, _, .cons r t, j + 1 => .cons r (Vals.erase t j)
theorem mt_rem {k : Nat} (hr : Room (k + 1) X.A) : MtR X "list.remove" (rRem X.K) := by
  intro pins s σ H x vs v us Q I rx rv h
  obtain ⟨l, xs, y, ds, d, j, rfl, rfl, hH, hds, hd, hdep, ⟨dj, ej, hj⟩, hno, q⟩ := h
  cases rx
  obtain ⟨u, rfl, ru⟩ := rv.one
  obtain ⟨z, its, n, r, hl, e⟩ := I.lstM hH
  obtain ⟨as, ra⟩ := I.readsAll hds r
  obtain ⟨bs, rb⟩ := I.reads hd ru
  have hlen : its.length = ds.length := by rw [← LiesAll.len hds]; exact r.length.symm
  have hjl : j < ds.length := lt_of ej
  have un := hr.units
  have hid : ∀ m (hm : m < its.toArray.size), ∃ dm, ds[m]? = some dm ∧ EqAt X.A.in1 s its.toArray[m] u (PyData.eqv dm d) := fun m hm => by
    have hm' : m < its.length := by simpa using hm
    obtain ⟨dm, cs, e1, r1⟩ := reads_at ra (i := m) (u := its[m]) (List.getElem?_eq_getElem hm')
    refine ⟨dm, e1, ?_⟩
    have := eqAt_reads dm d X.A.in1 s its[m] u cs bs r1 rb (lay_at hds.lay e1) hd.lay (by show X.A.units + 1 + _ < _; omega)
    simpa using this
  refine call_meets F.slot_list_remove ⟨_, e, rfl⟩ F.entry_list_remove (F.args_list_remove_2 _ _) (rem_list l its.toArray n u (fun m => match ds[m]? with | some dm => PyData.eqv dm d | none => false) j (by simpa [hlen] using hjl) (by simp only [ej]; exact hj)
    (fun m hm hlt => ?_) (by rw [List.size_toArray]; omega)) ⟨e, fun m hm => ?_, ?_⟩
  · have hm' : m < ds.length := by rw [← hlen]; simpa using hm
    rw [List.getElem?_eq_getElem hm']
    exact hno m _ hlt (List.getElem?_eq_getElem hm')
  · obtain ⟨dm, e1, e2⟩ := hid m hm
    simp only [e1]
    exact e2
  · refine ⟨.non, _, I.lset (its' := its.eraseIdx j) hH e ?_ (Vals.erase r j) ?_, rfl, q⟩
    · rw [List.eraseIdxIfInBounds_toArray]
    · rw [List.length_eraseIdx]; split <;> omega
@[reducible] noncomputable def rRem2 : RM2 := fun x xs M Q => match x, xs with
  | .ref a, [y] => ∃ ys ds d j, M a = some (.lst ys) ∧ DatAll M ys ds ∧ Dat M y d ∧ d.depth ≤ 60 ∧ (∃ dj, ds[j]? = some dj ∧ PyData.eqv dj d = true) ∧ (∀ m dm, m < j → ds[m]? = some dm → PyData.eqv dm d = false) ∧ Q .non (put M a (.lst (ys.eraseIdx j)))
  | _, _ => False
theorem RepAll.erase {K : Frag} {H : Hp} : ∀ {xs : List U} {ys : List V}, RepAll K H xs ys → ∀ j, RepAll K H (xs.eraseIdx j) (ys.eraseIdx j)
  | _, _, .nil, _ => .nil
  | _, _, .cons _ t, 0 => t
  | _, _, .cons r t, j + 1 => .cons r (RepAll.erase t j)
theorem m_remove {k : Nat} (hr : Room (k + 1) X.A) : Mr2 X "list.remove" rRem2 := by
  refine ⟨_, mt_rem hr, fun x xs M Q Q' k h => ?_, fun x2 xs2 x xs M H Q rx rxs rm h => ?_⟩
  · match x, xs, h with
    | .ref a, [y], h => obtain ⟨ys, ds, d, j, h1, h2, h3, h4, h5, h6, q⟩ := h; exact ⟨ys, ds, d, j, h1, h2, h3, h4, h5, h6, k _ _ q⟩
  · match x2, xs2, h, x, xs, rx, rxs with
    | .ref a, [y], h, _, _, .ref _, .cons (v := v) ry .nil =>
      obtain ⟨ys, ds, d, j, h1, h2, h3, h4, h5, h6, q⟩ := h
      obtain ⟨zs, e2, r⟩ := rm a _ h1
      have kw := lstTK (K := X.K) (zs := zs.eraseIdx j) e2
      exact ⟨a, zs, v, ds, d, j, rfl, rfl, e2, h2.lies rm r, h3.lies rm ry, h4, h5, h6, q .non _ kw .non (rm.write kw ⟨_, upd_same, (r.up kw).erase j⟩)⟩
end
section
variable {prog : Program} {w : World} {A : Around} {R : Result → Shared → Prop}
end
section
variable {X : Cx}
end
section
variable {X : Cx}
end
section
variable {X : Cx} {tg a b c : Expr} {t : TA2} {p pos : Pos}
end
end L3
set_option maxHeartbeats 1000000
namespace L3
open PySem PySem.Spec PyProof.Rows L2
section
variable {X : Cx} {tg a b c : Expr} {t : TA2} {p pos : Pos}
end
end L3
set_option maxHeartbeats 1000000
namespace L3
open PySem PySem.Spec PyProof.Rows L2
noncomputable def valU (kvs : List (Key × U)) (k : Key) : Option U := (kvs.find? fun kv => decide (kv.1 = k)).map (·.2)
noncomputable def putD (kvs : List (Key × U)) (k : Key) (v : U) : List (Key × U) :=
  if (kvs.any fun kv => decide (kv.1 = k)) = true then kvs.map (fun kv => if kv.1 = k then (kv.1, v) else kv) else kvs ++ [(k, v)]
noncomputable def dropD (kvs : List (Key × U)) (k : Key) : List (Key × U) := kvs.filter fun kv => decide (kv.1 ≠ k)
section
variable {K : Frag} {H : Hp}
theorem PrK.len {α β : Type} {R : α → β → Prop} : ∀ {x : List (Key × α)} {y : List (Key × β)}, PrK R x y → x.length = y.length
  | _, _, .nil => rfl
  | _, _, .cons _ t => congrArg (· + 1) t.len
theorem PrK.val {R : U → V → Prop} (k : Key) : ∀ {x : List (Key × U)} {y : List (Key × V)}, PrK R x y →
    (valU x k = none ∧ valV y k = none) ∨ ∃ a b, valU x k = some a ∧ valV y k = some b ∧ R a b
  | _, _, .nil => .inl ⟨rfl, rfl⟩
  | _, _, .cons (f := g) (a := a) (b := b) r t => by
    unfold valU valV
    simp only [List.find?_cons]
    by_cases e : g = k
    · simp only [e, decide_true, Option.map_some]; exact .inr ⟨a, b, rfl, rfl, r⟩
    · simp only [e, decide_false]; exact PrK.val k t
theorem PrK.any {R : U → V → Prop} (k : Key) : ∀ {x : List (Key × U)} {y : List (Key × V)}, PrK R x y → (x.any fun kv => decide (kv.1 = k)) = (y.any fun kv => decide (kv.1 = k))
  | _, _, .nil => rfl
  | _, _, .cons r t => by simp only [List.any_cons, PrK.any k t]
theorem PrK.map {R : U → V → Prop} (k : Key) {u : U} {v : V} (ruv : R u v) : ∀ {x : List (Key × U)} {y : List (Key × V)}, PrK R x y → PrK R (x.map fun kv => if kv.1 = k then (kv.1, u) else kv) (y.map fun kv => if kv.1 = k then (kv.1, v) else kv)
  | _, _, .nil => .nil
  | _, _, .cons (f := g) r t => by
    simp only [List.map_cons]
    by_cases e : g = k
    · simp only [e, if_true]; exact .cons ruv (PrK.map k ruv t)
    · simp only [e, if_false]; exact .cons r (PrK.map k ruv t)
theorem PrK.app {R : U → V → Prop} {k : Key} {u : U} {v : V} (ruv : R u v) : ∀ {x : List (Key × U)} {y : List (Key × V)}, PrK R x y → PrK R (x ++ [(k, u)]) (y ++ [(k, v)])
  | _, _, .nil => .cons ruv .nil
  | _, _, .cons r t => .cons r (PrK.app ruv t)
theorem PrK.put {R : U → V → Prop} (k : Key) {u : U} {v : V} {x : List (Key × U)} {y : List (Key × V)} (p : PrK R x y) (ruv : R u v) : PrK R (putD x k u) (putK y k v) := by
  unfold putD putK
  rw [p.any k]
  split
  · exact p.map k ruv
  · exact p.app ruv
theorem PrK.drop {R : U → V → Prop} (k : Key) : ∀ {x : List (Key × U)} {y : List (Key × V)}, PrK R x y → PrK R (dropD x k) (dropK y k)
  | _, _, .nil => .nil
  | _, _, .cons (f := g) r t => by
    have q := PrK.drop k t
    unfold dropD dropK at q ⊢
    by_cases e : g = k
    · rw [List.filter_cons_of_neg (by simp [e]), List.filter_cons_of_neg (by simp [e])]; exact q
    · rw [List.filter_cons_of_pos (by simp [e]), List.filter_cons_of_pos (by simp [e])]; exact .cons r q
theorem dctTK {a : Addr} {ys zs : List (Key × V)} (e : H a = some (.dK ys)) : TK K H (upd H a (.dK zs)) := TK.write e (fun _ z => by cases z) (fun _ _ z => by cases z)
end
section
variable {X : Cx} {e o i value : Expr} {te to ti tv : TE2} {pos tpos : Pos}
@[reducible] noncomputable def rDix : RR2 := fun x y M Q => match x, y with
  | .ref a, .str z => ∃ kvs, M a = some (.dct kvs) ∧ oE (valU kvs (.inr z)) fun u => Q u M
  | .ref a, .int n => ∃ kvs, M a = some (.dct kvs) ∧ oE (valU kvs (.inl n)) fun u => Q u M
  | _, _ => False
theorem rDix_mo : ∀ x y M Q Q', (∀ u M', Q u M' → Q' u M') → rDix x y M Q → rDix x y M Q' := fun x y M Q Q' k h => by
  match x, y, h with
  | .ref a, .str z, h => obtain ⟨kvs, e, q⟩ := h; exact ⟨kvs, e, oE_mono (fun u => k _ _) q⟩
  | .ref a, .int z, h => obtain ⟨kvs, e, q⟩ := h; exact ⟨kvs, e, oE_mono (fun u => k _ _) q⟩
theorem dget_of {K : Frag} {H : Hp} {M : Mem} {a : Addr} {kvs : List (Key × U)} {k : Key} {u : U} (rm : RepM K H M) (e : M a = some (.dct kvs)) (q : valU kvs k = some u) : ∃ v, DGet H a (kV k) (some v) ∧ Rep K H u v := by
  obtain ⟨gs, h, r⟩ := rm a _ e
  rcases r.val k with ⟨z, _⟩ | ⟨u', v, z1, z2, rr⟩
  · rw [q] at z; cases z
  · rw [q] at z1; cases z1
    exact ⟨v, by rw [← z2]; exact .k h, rr⟩
theorem qe_dix (hu : X.A.units + 64 < cLine) (ho : QE X o to) (hi : QE X i ti) (hs : NoSl i) : QE X (.Subscript o i pos) (qOp rDix to ti) := by
  refine ⟨qOp_mo rDix_mo ho.mo hi.mo, peW (pe_dget (by omega) ho.pe hi.pe hs) fun σ H Q z0 => exUp z0 fun σ2 M rs rm h => lf ho.mo rs rm h fun x2 M1 x H1 k1 r1 m1 s1 h1 => lf hi.mo s1 m1 h1 fun y2 M2 y H2 k2 r2 m2 s2 h2 => ?_⟩
  match x2, y2, r1, r2, h2 with
  | .ref a, .str z, .ref _, .str _, h2 =>
    obtain ⟨kvs, e, q⟩ := h2
    obtain ⟨u, eu, q⟩ := oE_inv q
    obtain ⟨v, g, rv⟩ := dget_of m2 e eu
    exact ⟨a, v, rfl, g, q v H2 (k1.trans k2) rv m2⟩
  | .ref a, .int z, .ref _, .int _, h2 =>
    obtain ⟨kvs, e, q⟩ := h2
    obtain ⟨u, eu, q⟩ := oE_inv q
    obtain ⟨v, g, rv⟩ := dget_of m2 e eu
    exact ⟨a, v, rfl, g, q v H2 (k1.trans k2) rv m2⟩
@[reducible] noncomputable def rDset : RSet2 := fun o i v M Q => match o, i with
  | .ref a, .str z => ∃ kvs, M a = some (.dct kvs) ∧ kvs.length < 1000000 ∧ Q (put M a (.dct (putD kvs (.inr z) v)))
  | .ref a, .int n => ∃ kvs, M a = some (.dct kvs) ∧ kvs.length < 1000000 ∧ Q (put M a (.dct (putD kvs (.inl n) v)))
  | _, _ => False
theorem set_dict (hu : X.A.units + 64 < cLine) : PSet X (fun o i v H Q => ∃ a H', o = .ref a ∧ DPut H a i v H' ∧ Q H') := by
  intro pins s σ H o i v ov iv u Q I ro ri rv ⟨a, H', e, g, q⟩
  subst e
  obtain rfl : ov = Value.ref a := ro
  exact d_setItem (by omega) I g ri rv fun s' I' => ⟨H', I', q⟩
theorem dput_of {K : Frag} {H : Hp} {M : Mem} {a : Addr} {kvs : List (Key × U)} {k : Key} {u : U} {v : V} (rm : RepM K H M) (e : M a = some (.dct kvs)) (hl : kvs.length < 1000000) (ru : Rep K H u v) :
    ∃ H', DPut H a (kV k) v H' ∧ TK K H H' ∧ RepM K H' (put M a (.dct (putD kvs k u))) := by
  obtain ⟨gs, h, r⟩ := rm a _ e
  have kw := dctTK (K := K) (zs := putK gs k v) h
  exact ⟨_, .k h (by rw [← r.len, sizeLine_eq]; omega), kw, rm.write kw ⟨_, upd_same, (r.mono fun _ _ q => q.up kw).put k (ru.up kw)⟩⟩
theorem s_dset (hu : X.A.units + 64 < cLine) : Set2 X rDset := by
  refine ⟨_, set_dict hu, fun o i v M Q Q' k h => ?_, fun o2 i2 v2 o i v M H Q ro ri rv rm h => ?_⟩
  · match o, i, h with
    | .ref a, .str z, h => obtain ⟨kvs, e1, e2, q⟩ := h; exact ⟨kvs, e1, e2, k _ q⟩
    | .ref a, .int z, h => obtain ⟨kvs, e1, e2, q⟩ := h; exact ⟨kvs, e1, e2, k _ q⟩
  · match o2, i2, h, ro, ri with
    | .ref a, .str z, h, .ref _, .str _ =>
      obtain ⟨kvs, e1, e2, q⟩ := h
      obtain ⟨H', g, kw, m'⟩ := dput_of (k := .inr z) rm e1 e2 rv
      exact ⟨a, H', rfl, g, q H' kw m'⟩
    | .ref a, .int z, h, .ref _, .int _ =>
      obtain ⟨kvs, e1, e2, q⟩ := h
      obtain ⟨H', g, kw, m'⟩ := dput_of (k := .inl z) rm e1 e2 rv
      exact ⟨a, H', rfl, g, q H' kw m'⟩
@[reducible] noncomputable def qDAug (to ti tv : TE2) (r : RR2) : TS2 := fun D σ M => to σ M fun x M1 => ti σ M1 fun y M2 => match x, y with
  | .ref a, .str z => ∃ kvs, M2 a = some (.dct kvs) ∧ oE (valU kvs (.inr z)) fun v => tv σ M2 fun w M3 => r v w M3 fun n M4 => ∃ kvs', M4 a = some (.dct kvs') ∧ kvs'.length < 1000000 ∧ D.nx σ (put M4 a (.dct (putD kvs' (.inr z) n)))
  | _, _ => False
theorem qs_daug {op : Operator} {r : RR2} (hu : X.A.units + 64 < cLine) (ho : QE X o to) (hi : QE X i ti) (hv : QE X value tv) (hop : Ip2 X op r)
    (ha : ∀ ov iv new, augStore i ov iv new = (do holding [new, ov, iv] (setItem ov iv new); release [new, ov, iv] []; pure .next) := by intro _ _ _; rfl) : QS X (.AugAssign (.Subscript o i tpos) op value pos) (qDAug to ti tv r) := by
  obtain ⟨r1, o1, R⟩ := hop.ex
  refine ⟨fun D D' σ M l h => ho.mo _ _ _ _ (fun x M1 => hi.mo _ _ _ _ fun y M2 z => ?_) h, psW (ps_daug (by omega) ho.pe hi.pe hv.pe o1 ha) fun D σ H ⟨σ2, M, rs, rm, h⟩ => lf ho.mo rs rm h fun x2 M1 x H1 k1 r1 m1 s1 h1 => lf hi.mo s1 m1 h1 fun y2 M2 y H2 k2 r2 m2 s2 h2 => ?_⟩
  · match x, y, z with
    | .ref a, .str s, z =>
      obtain ⟨kvs, e, q⟩ := z
      exact ⟨kvs, e, oE_mono (fun u => hv.mo _ _ _ _ fun w M3 => R.mo _ _ _ _ _ fun n M4 ⟨kvs', e1, e2, q⟩ => ⟨kvs', e1, e2, l.nx _ _ q⟩) q⟩
  · match x2, y2, r1, r2, h2 with
    | .ref a, .str z, .ref _, .str _, h2 =>
      obtain ⟨kvs, e, q⟩ := h2
      obtain ⟨u, eu, q⟩ := oE_inv q
      obtain ⟨v, g, rv⟩ := dget_of m2 e eu
      refine ⟨a, v, rfl, g, lf hv.mo s2 m2 q fun w2 M3 w H3 k3 r3 m3 s3 h3 => ?_⟩
      refine R.rf u w2 v w M3 H3 _ (rv.up k3) r3 m3 (R.mo _ _ _ _ _ (fun n2 M4 ⟨kvs', e1, e2, q⟩ n H4 k4 r4 m4 => ?_) h3)
      obtain ⟨H5, g5, kw, m5⟩ := dput_of (k := .inr z) m4 e1 e2 r4
      exact ⟨H5, g5, q σ H5 ((((k1.trans k2).trans k3).trans k4).trans kw) ((s3.up k4).up kw) m5⟩
@[reducible] noncomputable def qDNew : TE2 := fun _ M Q => ∀ p, M p = none → Q (.ref p) (put M p (.dct []))
theorem qe_dnew : QE X (.Dict [] [] pos) qDNew := by
  refine ⟨fun σ M Q Q' k h p hp => k _ _ (h p hp), peW pe_dnewK fun σ H Q ⟨σ2, M, rs, rm, h⟩ p hp => ?_⟩
  have kn := TK.new (K := X.K) (o := .dK []) hp
  exact h p (rm.free hp) (.ref p) _ kn (.ref _) (rm.write kn ⟨[], upd_same, .nil⟩)
@[reducible] noncomputable def isBl (b : Bool) : U → Bool
  | .bl c => c == b
  | _ => false
theorem op_notB : OpR X (compareOp .IsNot) (fun x y H Q => ∃ b, y = .bl b ∧ Q (.bl (!decide (x = .bl b))) H) := by
  intro pins s σ H x y v u Q I rx ry h
  obtain ⟨b, rfl, q⟩ := h
  cases ry
  cases x with
  | bl c => cases rx; exact wpAny_pure (fin_bl I q (by cases b <;> cases c <;> rfl))
  | _ => first
    | (cases rx; exact wpAny_pure (fin_bl I q (by simp)))
    | (obtain ⟨t, rfl⟩ := rx; exact wpAny_pure (fin_bl I q (by simp)))
theorem isBl_ok {K : Frag} {H : Hp} {b : Bool} {u : U} {v : V} (r : Rep K H u v) : decide (v = .bl b) = isBl b u := by
  cases r <;> first | rfl | (rename_i c; cases b <;> cases c <;> rfl) | simp [isBl]
@[reducible] noncomputable def rIsB (neg : Bool) : RR2 := fun x y M Q => match y with
  | .bl b => Q (.bl (match neg with | true => !isBl b x | false => isBl b x)) M
  | _ => False
theorem o_isNotB : Op2 X (compareOp .IsNot) (rIsB true) := ⟨_, op_notB, fun x y M Q Q' k h => by
  match y, h with
  | .bl b, h => exact k _ _ h, fun x2 y2 x y M H Q rx ry rm h => by
  match y2, h, ry with
  | .bl b, h, .bl _ => exact ⟨b, rfl, by rw [isBl_ok rx]; exact (show up X.K H Q _ M from h) _ H .refl (.bl _) rm⟩⟩
theorem isi_kit2 (K : Frag) (t n m : String) (h : isiOk t n = true) (h' : isiOk t m = true) : PySem.W.kitAny K (.type t) [.type n, .type m] = some (isiB t n || isiB t m) := by
  unfold PySem.W.kitAny
  rw [isi_kit K t n h]
  cases e : isiB t n with
  | true => rfl
  | false =>
    simp only [Bool.false_or]
    unfold PySem.W.kitAny
    rw [isi_kit K t m h']
    cases isiB t m <;> rfl
theorem call_isi2 : CallR X (.builtin "isinstance") (fun xs H Q => ∃ v b n m t, xs = [v, .ref b] ∧ SqT X.K H b [.ty n, .ty m] ∧ ((∃ a, v = .ref a ∧ ((t = "tuple" ∧ ∃ ys, SqT X.K H a ys) ∨ (t = "list" ∧ ∃ ys, SqL X.K H a ys))) ∨ (t = "int" ∧ ∃ i, v = .int i) ∨ (t = "str" ∧ ∃ z, v = .str z) ∨ (t = "bool" ∧ ∃ c, v = .bl c) ∨ (t = "NoneType" ∧ v = .non)) ∧
    isiOk t n = true ∧ isiOk t m = true ∧ Q (.bl (isiB t n || isiB t m)) H) := by
  intro pins s σ H xs us Q I r h
  obtain ⟨v, b, n, m, t, rfl, sb, ty, e1, e2, q⟩ := h
  obtain ⟨u, w', rfl, ru, rw'⟩ := r.two
  obtain rfl : w' = Value.ref b := rw'
  have e := isi_kit2 X.K t n m e1 e2
  have fin : ∀ tk, EP X pins σ Q (.bool (isiB t n || isiB t m)) { s with toks := tk } := fun tk => ⟨.bl _, H, I.tok tk, rfl, q⟩
  obtain ⟨its, rv, ⟨o, h1, h2, nn, h3⟩, _⟩ := I.tuple sb
  have eits : its = [.type n, .type m] := by
    cases rv with
    | cons r1 rv =>
      cases rv with
      | cons r2 rv =>
        cases rv
        cases r1; cases r2; rfl
  subst eits
  obtain ⟨oc, od, odt, osl⟩ := o
  cases h2
  cases h3
  rcases ty with ⟨a, rfl, ⟨rfl, ys, hq⟩ | ⟨rfl, ys, hq⟩⟩ | ⟨rfl, i, rfl⟩ | ⟨rfl, z, rfl⟩ | ⟨rfl, c, rfl⟩ | ⟨rfl, rfl⟩
  · obtain rfl : u = Value.ref a := ru
    obtain ⟨its, rv, ⟨o, g1, g2, _⟩, _⟩ := I.tuple hq
    exact PySem.W.kia_tup PySem.W.kitx_tuple I.kIn ⟨o, g1, g2⟩ h1 e (fun z => nomatch z) fin
  · obtain rfl : u = Value.ref a := ru
    obtain ⟨its, rv, ⟨o, n', g1, g2, _⟩, _⟩ := I.list hq
    exact PySem.W.kia_tup PySem.W.kitx_list I.kIn ⟨o, g1, g2⟩ h1 e (fun z => nomatch z) fin
  · obtain ⟨tk, rfl⟩ := ru
    exact PySem.W.kia_tup PySem.W.kitx_int I.kIn trivial h1 e (fun z => nomatch z) fin
  · obtain ⟨tk, rfl⟩ := ru
    exact PySem.W.kia_tup PySem.W.kitx_str I.kIn trivial h1 e (fun z => nomatch z) fin
  · cases ru
    exact PySem.W.kia_tup PySem.W.kitx_bool I.kIn trivial h1 e (fun z => nomatch z) fin
  · cases ru
    exact PySem.W.kia_tup PySem.W.kitx_none I.kIn trivial h1 e (fun z => nomatch z) fin
@[reducible] noncomputable def rIsiT : RL2 := fun us M Q => match us with
  | [u, .tup [.ty n, .ty m]] => tyU u M fun t => (isiOk t n = true ∧ isiOk t m = true) ∧ Q (.bl (isiB t n || isiB t m)) M
  | _ => False
noncomputable def KindV (K : Frag) (H : Hp) (v : V) (t : String) : Prop :=
  (∃ a, v = .ref a ∧ ((t = "tuple" ∧ ∃ ys, SqT K H a ys) ∨ (t = "list" ∧ ∃ ys, SqL K H a ys))) ∨ (t = "int" ∧ ∃ i, v = .int i) ∨ (t = "str" ∧ ∃ z, v = .str z) ∨ (t = "bool" ∧ ∃ c, v = .bl c) ∨ (t = "NoneType" ∧ v = .non)
theorem tyU_kind {K : Frag} {H : Hp} {M : Mem} {u : U} {v : V} {R : String → Prop} (rx : Rep K H u v) (rm : RepM K H M) (h : tyU u M R) : ∃ t, R t ∧ KindV K H v t := by
  cases rx with
  | non => exact ⟨_, h, .inr (.inr (.inr (.inr ⟨rfl, rfl⟩)))⟩
  | bl c => exact ⟨_, h, .inr (.inr (.inr (.inl ⟨rfl, c, rfl⟩)))⟩
  | int i => exact ⟨_, h, .inr (.inl ⟨rfl, i, rfl⟩)⟩
  | str z => exact ⟨_, h, .inr (.inr (.inl ⟨rfl, z, rfl⟩))⟩
  | tup s r => exact ⟨_, h, .inl ⟨_, rfl, .inl ⟨rfl, _, s⟩⟩⟩
  | fl s r => exact ⟨_, h, .inl ⟨_, rfl, .inr ⟨rfl, _, s.sq⟩⟩⟩
  | ref a =>
    obtain ⟨xs, e, h⟩ := h
    obtain ⟨ys, e1, r⟩ := rm a _ e
    exact ⟨_, h, .inl ⟨a, rfl, .inr ⟨rfl, ys, .inl (.inl e1)⟩⟩⟩
  | ty n => exact h.elim
theorem c_isi2 : Call2 X (.builtin "isinstance") rIsiT := by
  refine ⟨_, call_isi2, fun us M Q Q' k h => ?_, fun us vs M H Q r rm h => ?_⟩
  · match us, h with
    | [u, .tup [.ty n, .ty m]], h => exact tyU_mo (R' := fun t => (isiOk t n = true ∧ isiOk t m = true) ∧ Q' (.bl (isiB t n || isiB t m)) M) (fun t q => ⟨q.1, k _ _ q.2⟩) (show tyU u M fun t => (isiOk t n = true ∧ isiOk t m = true) ∧ Q (.bl (isiB t n || isiB t m)) M from h)
  · match us, h with
    | [u, .tup [.ty n, .ty m]], h =>
      cases r with
      | cons rx rr =>
        cases rr with
        | cons rt rr =>
          cases rr
          cases rt with
          | tup s rs =>
            cases rs with
            | cons r1 rs =>
              cases rs with
              | cons r2 rs =>
                cases rs
                cases r1; cases r2
                obtain ⟨t, ⟨⟨e1, e2⟩, q⟩, kd⟩ := tyU_kind (R := fun t => (isiOk t n = true ∧ isiOk t m = true) ∧ up X.K H Q (.bl (isiB t n || isiB t m)) M) rx rm h
                exact ⟨_, _, n, m, t, rfl, s, kd, e1, e2, q _ H .refl (.bl _) rm⟩
theorem strs_of : ∀ {zs : List Str} {its : List Value}, Vals (zs.map V.str) its → ∃ l : List (Str × Tok), its = strValues l ∧ l.map (·.1) = zs
  | [], _, .nil => ⟨[], rfl, rfl⟩
  | z :: zs, _, .cons r t => by
    obtain ⟨tk, rfl⟩ := r
    obtain ⟨l, e1, e2⟩ := strs_of t
    exact ⟨(z, tk) :: l, by rw [e1]; rfl, by rw [List.map_cons, e2]⟩
theorem mt_join : MtM X "str.join" (fun x vs H Q => ∃ z l zs, x = .str z ∧ vs = [.ref l] ∧ H l = some (.lst (zs.map V.str)) ∧ JoinOk z zs = true ∧ Q (.str (Txt.join z zs)) H) := by
  intro pins s σ H x vs v us Q I rx rv h
  obtain ⟨z, l, zs, rfl, rfl, hH, ok, q⟩ := h
  obtain ⟨t, rfl⟩ := rx
  obtain ⟨u, rfl, ru⟩ := rv.one
  cases ru
  obtain ⟨_, its, n, r, hl, e⟩ := I.lstM hH
  obtain ⟨ps, e1, e2⟩ := strs_of r
  subst e1
  exact SC.join ⟨_, e, rfl, n, rfl⟩ e2 ok fun t' k => ⟨.str _, H, I.tok k, ⟨t', rfl⟩, q⟩
theorem RepAll.strsV {K : Frag} {H : Hp} {zs : List Str} : ∀ {ys : List V}, RepAll K H (zs.map U.str) ys → ys = zs.map V.str := by
  induction zs with
  | nil => intro ys h; cases h; rfl
  | cons z zs ih => intro ys h; cases h with
    | cons r t => cases r; rw [ih t]; rfl
@[reducible] noncomputable def rJoin2 : RM2 := fun x xs M Q => match x, xs with
  | .str z, [.ref a] => ∃ zs : List Str, M a = some (.lst (zs.map U.str)) ∧ JoinOk z zs = true ∧ Q (.str (Txt.join z zs)) M
  | _, _ => False
theorem m_join : Mr2 X "str.join" rJoin2 := by
  refine ⟨_, mt_join, fun x xs M Q Q' k h => ?_, fun x2 xs2 x xs M H Q rx rxs rm h => ?_⟩
  · match x, xs, h with
    | .str z, [.ref a], h => obtain ⟨zs, e, e2, q⟩ := h; exact ⟨zs, e, e2, k _ _ q⟩
  · cases rx with
    | str z =>
      cases rxs with
      | nil => exact h.elim
      | cons ru r' =>
        cases r' with
        | cons _ _ => cases ru <;> exact h.elim
        | nil =>
          cases ru with
          | ref a =>
            obtain ⟨zs, e, e2, q⟩ := h
            obtain ⟨ys, e4, r⟩ := rm a _ e
            rw [r.strsV] at e4
            exact ⟨z, a, zs, rfl, rfl, e4, e2, q _ H .refl (.str _) rm⟩
          | _ => exact h.elim
    | _ => exact h.elim
theorem sw_any {elt : Expr} {gs : List Comprehension} {sc : Scope} {p p' : Pos} {x : Str} {n : Nat} {env : Env} : ∃ b, swapsWith (.ListComp elt gs sc p) (some (.Name x p')) n env = pure b := ⟨_, rfl⟩
end
end L3
set_option maxHeartbeats 1000000
namespace L3
open PySem PySem.Spec PyProof.Rows L2 SeqAt MeetsSeq
@[reducible] noncomputable def kU : Key → U
  | .inl i => .int i
  | .inr x => .str x
@[reducible] noncomputable def keysU (kvs : List (Key × U)) : List U := kvs.map fun p => kU p.1
section
variable {X : Cx} {e v a b : Expr} {te tv ta tb : TE2} {pos : Pos}
end
end L3
set_option maxHeartbeats 1000000
namespace L2
open PySem PySem.Spec PyProof.Rows
section
variable {X : Cx} {pins : List (Addr × Obj)} {σ : St} {H : Hp} {s : Shared} {a : Addr}
noncomputable def NF (X : Cx) (a : Addr) : Prop := ∀ o u, X.H₀ a ≠ some (.frz o u)
theorem Inv.nf {u : HO} (I : Inv X pins σ H s) (e : H a = some u) (n : ∀ o v, u ≠ .frz o v) : NF X a := fun o v q => by
  have z := I.base.frzs a o v q
  rw [e] at z
  exact n o v (Option.some.inj z)
theorem Inv.retype {u u' : HO} (I : Inv X pins σ H s) (e : H a = some u) (n1 : ∀ xs, u ≠ .tup xs) (n2 : ∀ x, u ≠ .own x) (n3 : ∀ ps, u ≠ .tbl ps) (nf : NF X a)
    (new : ObjOk X.prog X.w (upd H a u') s.heap a u') : Inv X pins σ (upd H a u') s := by
  have na : ∀ b, H b = none → b ≠ a := fun b z w => by rw [w, e] at z; cases z
  have up : ∀ b, H b = none → upd H a u' b = none := fun b z => by rw [upd_ne (na b z)]; exact z
  refine ⟨I.ok, I.os, I.bare, ⟨I.base.keep, I.base.slot, fun b o h1 h2 h3 => up b (I.base.free b o h1 h2 h3), I.base.there, fun b xs q => ?_, fun b o v q => ?_, fun b ps q => ?_⟩, I.loc, I.cell, up _ I.free, fun x c h => up _ (I.freeC x c h), fun p hp => ?_, fun b v q => ?_, I.len⟩
  · have z := I.base.tups b xs q
    rw [upd_ne (fun w => by rw [w, e] at z; exact n1 xs (Option.some.inj z))]; exact z
  · have z := I.base.frzs b o v q
    rw [upd_ne (fun w => nf o v (by rw [← w]; exact q))]; exact z
  · obtain ⟨more, z⟩ := I.base.tbls b ps q
    exact ⟨more, by rw [upd_ne (fun w => by rw [w, e] at z; exact n3 _ (Option.some.inj z))]; exact z⟩
  · obtain ⟨h1, h2, h3, h4, h5⟩ := I.pin p hp
    exact ⟨h1, up _ h2, h3, h4, h5⟩
  · by_cases hb : b = a
    · subst hb; rw [upd_same] at q; cases q; exact new
    · rw [upd_ne hb] at q
      exact (I.hok b v q).stay (fun c w _ z => z) (fun c z => by rw [upd_ne (fun w => by rw [w, e] at z; exact n2 _ (Option.some.inj z))]; exact z) (fun c xs z => by rw [upd_ne (fun w => by rw [w, e] at z; exact n1 _ (Option.some.inj z))]; exact z)
noncomputable def Itd (a : Addr) (o : Obj) : It :=
  ⟨fun i H => ∃ gs, H a = some (.frz o (.dK gs)) ∧ i < gs.length, fun i H x H' => H' = H ∧ ∀ gs, H a = some (.frz o (.dK gs)) → (gs[i]?).map (fun p => kV p.1) = some x, fun i H => ∃ gs, H a = some (.frz o (.dK gs)) ∧ gs.length ≤ i⟩
theorem rel_key {k : Key} {v : Value} (h : keyIs k v = true) : RelV (kV k) v := by
  rcases keyIs_shape h with ⟨i, t, rfl, rfl⟩ | ⟨x, t, rfl, rfl⟩
  · exact ⟨t, rfl⟩
  · exact ⟨t, rfl⟩
theorem frz_at {o : Obj} {es : Array DictEntry} {ep : Nat} {gs : List (Key × V)} (I : Inv X pins σ H s) (e : H a = some (.frz o (.dK gs))) (hd : o.data = .dict es ep) : ∃ vs, KV gs vs ∧ s.heap.DictAt (mixKind X.prog X.w) a vs ep ∧ es.size = vs.length := by
  obtain ⟨h0, _, _, vs, r, ob, es', ep', h1, h2, h3, h4, h5, h6⟩ := (show ObjOk X.prog X.w H s.heap a (.frz o (.dK gs)) from I.hok a _ e)
  rw [h0] at h1; cases h1
  rw [hd] at h3; cases h3
  exact ⟨vs, r, ⟨o, es, h0, h2, hd, h4, h5, h6⟩, by rw [← h5.length]; simp⟩
theorem turn_dict {P : Program} {w : World} {K : PySem.W.Frag} {tg : Expr} (a it : Addr) (o : Obj) (es : Array DictEntry) (ep : Nat) (hd : o.data = .dict es ep) : Turn P w K tg (Itd a o) [it] it (fun i h => h.IsKeyIter it a i es.size ep) where
  mem := by simp
  obj := fun i h st b hb => by
    have e : b = it := by simpa using hb
    subst e
    obtain ⟨o, e, c, d⟩ := st
    exact ⟨o, e, fun v z => by rw [d] at z; cases z⟩
  keep := fun i h h' st k => st.at fun o e => k it (by simp) o e
  item := by
    intro X hP hw hK hc i pins s σ H E I hf st hg
    subst hP hw hK
    obtain ⟨gs, ea, hi⟩ := hg
    obtain ⟨vs, r, da, hes⟩ := frz_at I ea hd
    have hl : gs.length = vs.length := Paired.length r
    obtain ⟨⟨k, x⟩, hx⟩ : ∃ p, vs[i]? = some p := ⟨vs[i]'(by omega), by simp⟩
    obtain ⟨f0, f1, f2, f3, f4, f5⟩ := hf it (by simp)
    have gk : (gs[i]?).map (fun p => kV p.1) = some (kV k) := by
      have hi' : i < gs.length := hi
      have : ∀ {gs : List (Key × V)} {vs : List (Key × Value)} (i : Nat), KV gs vs → vs[i]? = some (k, x) → (gs[i]?).map (fun p => kV p.1) = some (kV k) := by
        intro gs vs i r
        unfold KV at r
        induction r generalizing i with
        | nil => intro h; simp at h
        | @cons p q ps qs h t ih =>
          intro hq
          cases i with
          | zero => simp at hq; subst hq; simp [h.1]
          | succ i => simpa using ih i (by simpa using hq)
      exact this i r hx
    rw [hes] at st
    refine wpAny_pyNext_dict_item st da hx fun key h' hkey st' sb => ?_
    have I1 : Inv X pins σ H { s with heap := h' } := I.turned (t' := s.toks) (fun b o hb e => (sb.2 b hb).trans e) f0 f1 f3 f4 f5
    obtain ⟨oi, e, c, d⟩ := id st'
    exact ⟨key, rfl, go_of (s := { s with heap := h' }) e c d (by decide) ⟨kV k, H, I1, rel_key hkey, ⟨rfl, fun gs' e' => by rw [ea] at e'; cases e'; exact gk⟩, by rw [hes]; exact st', fun b hb => (hf b hb).1⟩⟩
  done := by
    intro X hP hw hK hc i pins s σ H E I hf st hg
    subst hP hw hK
    obtain ⟨gs, ea, hi⟩ := hg
    obtain ⟨vs, r, da, hes⟩ := frz_at I ea hd
    have hl : gs.length = vs.length := Paired.length r
    obtain ⟨f0, f1, f2, f3, f4, f5⟩ := hf it (by simp)
    rw [hes] at st
    exact wpAny_pyNext_dict_end (I.ok.hd hc) st da (List.getElem?_eq_none (by omega)) fun h' eb => ⟨rfl, I.turned (t' := s.toks) (fun b o hb e => eb b o hb e) f0 f1 f3 f4 f5⟩
  self := fun _ _ _ _ _ st h => wpAny_pyIter_keyiter st h
noncomputable def iDict (X : Cx) (tl : TE) : TI := fun σ H R => tl σ H fun x H1 => ∃ a gs, x = .ref a ∧ H1 a = some (.dK gs) ∧ ∀ o, NF X a → R (Itd a o) (upd H1 a (.frz o (.dK gs)))
theorem pi_dict {tg l : Expr} {tl : TE} (hl : PE X l tl) : PI X tg l (iDict X tl) := by
  intro pins s σ H R I h
  refine thn (hl pins s σ H _ I h) fun v s1 z9 => ?_
  obtain ⟨x, H1, I1, r1, q1⟩ := z9
  obtain ⟨a, gs, e, ea, q⟩ := q1
  subst e
  cases r1
  have nf := I1.nf ea (fun o v z => by cases z)
  obtain ⟨hz, hS, vs, r, ob, es, ep, h1, h2, h3, h4⟩ := (show ObjOk X.prog X.w H1 s1.heap a (.dK gs) from I1.hok a _ ea)
  have I2 : Inv X pins σ (upd H1 a (.frz ob (.dK gs))) s1 := I1.retype ea (fun _ z => by cases z) (fun _ z => by cases z) (fun _ z => by cases z) nf ⟨h1, hz, hS, vs, r, ob, es, ep, h1, h2, h3, h4⟩
  refine wpAny_pyIter_dict (knd := mixKind X.prog X.w) hS ⟨ob, es, h1, h2, h3, h4⟩ ?_
  refine ⟨s1.heap.objs.size, [s1.heap.objs.size], _, _, _, rfl, I2.kept (t' := s1.toks) fun b o e => Heap.get?_push_of_some _ e, turn_dict a _ ob es ep h3, ⟨_, Heap.get?_push_size _ rfl, rfl, ?_⟩, fun b hb => ?_, q ob nf⟩
  · have hes : es.size = vs.length := by rw [← h4.2.1.length]; simp
    rw [hes]; rfl
  · have e : b = s1.heap.objs.size := by simpa using hb
    subst e
    exact I2.fpOk (Nat.le_refl _) (I2.hok.fresh (Nat.le_refl _))
noncomputable def thawN (X : Cx) (Q : St → Hp → Prop) : St → Hp → Prop := fun σ H => ∃ a o gs, NF X a ∧ H a = some (.frz o (.dK gs)) ∧ Q σ (upd H a (.dK gs))
noncomputable def thawK (X : Cx) (Q : VK) : VK := fun v H => ∃ a o gs, NF X a ∧ H a = some (.frz o (.dK gs)) ∧ Q v (upd H a (.dK gs))
noncomputable def thawD (X : Cx) (D : Ends) : Ends := ⟨thawN X D.nx, thawK X D.rt, thawN X D.bk, thawN X D.ct⟩
theorem Inv.thaw {o : Obj} {gs : List (Key × V)} (I : Inv X pins σ H s) (nf : NF X a) (e : H a = some (.frz o (.dK gs))) : Inv X pins σ (upd H a (.dK gs)) s :=
  I.retype e (fun _ z => by cases z) (fun _ z => by cases z) (fun _ z => by cases z) nf (show ObjOk X.prog X.w H s.heap a (.frz o (.dK gs)) from I.hok a _ e).2
theorem ps_thaw {st : Stmt} {t : TS} (h : PS X st t) : PS X st (fun D σ H => t (thawD X D) σ H) := by
  intro pins s σ H D I q
  refine thn (h pins s σ H (thawD X D) I q) fun f s1 p => ?_
  cases f with
  | next => obtain ⟨σ', H', I', a, o, gs, nf, e, q⟩ := p; exact ⟨σ', _, I'.thaw nf e, q⟩
  | brk => obtain ⟨σ', H', I', a, o, gs, nf, e, q⟩ := p; exact ⟨σ', _, I'.thaw nf e, q⟩
  | cont => obtain ⟨σ', H', I', a, o, gs, nf, e, q⟩ := p; exact ⟨σ', _, I'.thaw nf e, q⟩
  | ret u => obtain ⟨v, σ', H', I', r, a, o, gs, nf, e, q⟩ := p; exact ⟨v, σ', _, I'.thaw nf e, r, q⟩
theorem pe_thaw {e : Expr} {t : TE} (h : PE X e t) : PE X e (fun σ H Q => t σ H (thawK X Q)) := by
  intro pins s σ H Q I q
  exact thn (h pins s σ H (thawK X Q) I q) fun u s1 ⟨v, H', I', r, a, o, gs, nf, e, q⟩ => ⟨v, _, I'.thaw nf e, r, q⟩
end
end L2
namespace L3
open PySem PySem.Spec PyProof.Rows L2 SeqAt MeetsSeq
section
variable {X : Cx} {pos : Pos}
theorem frzTK {K : Frag} {H : Hp} {a : Addr} {o : Obj} {ys : List (Key × V)} {u : HO} (e : H a = some (.frz o (.dK ys))) : TK K H (upd H a u) := by
  refine ⟨fun b xs q => ?_, fun b xs q => ?_⟩
  · rcases q with (q | ⟨o', q⟩) | q
    · exact .inl (.inl (by rw [upd_ne (fun w => by rw [w, e] at q; cases q)]; exact q))
    · exact .inl (.inr ⟨o', by rw [upd_ne (fun w => by rw [w, e] at q; cases q)]; exact q⟩)
    · exact .inr q
  · rcases q with ⟨o', q⟩ | q
    · exact .inl ⟨o', by rw [upd_ne (fun w => by rw [w, e] at q; cases q)]; exact q⟩
    · exact .inr q
theorem keys_get {K : Frag} {H : Hp} : ∀ {kvs : List (Key × U)} {gs : List (Key × V)} {i : Nat}, PrK (Rep K H) kvs gs → ∀ x, (keysU kvs)[i]? = some x → ∃ p : Key × V, gs[i]? = some p ∧ x = kU p.1
  | _, _, _, .nil, x, h => by simp at h
  | _, _, 0, .cons (f := f) (b := b) r t, x, h => by simp at h; subst h; exact ⟨(f, b), rfl, rfl⟩
  | _, _, i + 1, .cons r t, x, h => by
    obtain ⟨p, h1, h2⟩ := keys_get (i := i) t x (by simpa using h)
    exact ⟨p, by simpa using h1, h2⟩
theorem rep_key {K : Frag} {H : Hp} (k : Key) : Rep K H (kU k) (kV k) := by
  cases k with
  | inl i => exact .int i
  | inr x => exact .str x
theorem PrK.lenK {K : Frag} {H : Hp} {kvs : List (Key × U)} {gs : List (Key × V)} (r : PrK (Rep K H) kvs gs) : (keysU kvs).length = gs.length := by rw [List.length_map]; exact r.len
theorem it_dict {K : Frag} {H0 : Hp} {a : Addr} {o : Obj} {kvs : List (Key × U)} : ItOk K H0 (Itd a o) (keysU kvs) (fun M => M a = some (.fdc o kvs)) := fun i H M k rm c => by
  obtain ⟨gs, e, r⟩ := rm a _ c
  refine ⟨fun h => ⟨gs, e, by rw [← r.lenK]; omega⟩, fun x hx => ?_⟩
  obtain ⟨p, h1, h2⟩ := keys_get r x hx
  refine ⟨⟨gs, e, lt_of h1⟩, fun v' H' z9 => ?_⟩
  obtain ⟨e1, e2⟩ := z9
  subst e1
  have := e2 gs e
  rw [h1] at this
  cases this
  subst h2
  exact ⟨.refl, rm, rep_key _⟩
theorem walk_lf {K : Frag} {J : It} {xs : List U} {chk : Mem → Prop} {g : TG2} {tb : TS2} {D : Ends} {σ2 : St2} {σ : St} {M1 : Mem} {H H1 : Hp} (hg : MoG g) (hb : MoS tb) (io : ItOk K H1 J xs chk) (k1 : TK K H H1) (m1 : RepM K H1 M1) (s1 : RepS K H1 σ2 σ)
    (h1 : Walk chk g tb xs (upD K H D) σ2 M1) : ∃ W : Nat → Nat → St → Hp → Prop, (∃ m, W 0 m σ H1) ∧ ∀ i m σ H, W i m σ H →
  (J.stop i H ∧ D.nx σ H) ∨ (J.go i H ∧ ∃ N : St → Hp → Prop, (∀ σ' H', N σ' H' → ∃ m', m' < m ∧ W (i + 1) m' σ' H') ∧ ∀ x H', J.yld i H x H' → liftG K g x σ H' fun σ2 H2 => liftS K tb { D with nx := N, ct := N, bk := D.nx } σ2 H2) := by
  obtain ⟨W, w0, ws⟩ := h1
  let N : Nat → St → Hp → Prop := fun i σ H => i ≤ xs.length ∧ ∃ s2 M, RepS K H s2 σ ∧ RepM K H M ∧ TK K H1 H ∧ W i s2 M
  refine ⟨fun i m σ H => m = xs.length - i ∧ N i σ H, ⟨_, rfl, Nat.zero_le _, σ2, M1, s1, m1, .refl, w0⟩, ?_⟩
  rintro i m s Hi ⟨rfl, hl, s2, Mi, ri, mi, ki, wi'⟩
  obtain ⟨ck, q⟩ := ws i s2 Mi hl wi'
  obtain ⟨js, jg⟩ := io i Hi Mi ki mi ck
  cases e : xs[i]? with
  | none =>
    rw [e] at q
    have el : xs.length = i := by have := List.getElem?_eq_none_iff.mp e; omega
    exact .inl ⟨js el, q s Hi (k1.trans ki) ri mi⟩
  | some x =>
    rw [e] at q
    have hlt : i < xs.length := (List.getElem?_eq_some_iff.mp e).1
    obtain ⟨go, yl⟩ := jg x e
    refine .inr ⟨go, N (i + 1), fun s' H' n => ⟨xs.length - (i + 1), by omega, rfl, n⟩, fun v H' y => ?_⟩
    obtain ⟨k', m', r'⟩ := yl v H' y
    refine lfG hg r' (ri.up k') m' q fun t2 M2 t H2 k2 r2 m2 q2 => ⟨t2, M2, r2, m2, hb _ _ _ _ ?_ q2⟩
    have kk := ((k1.trans ki).trans k').trans k2
    refine ⟨?_, fun u M3 z => up_up kk z, fun t3 M3 z => upS_up kk z, ?_⟩
    · rintro t3 M3 ⟨M4, l, w⟩ t4 H3 k3 r3 m3
      exact ⟨hlt, t3, M4, r3, m3.le l, ((ki.trans k').trans k2).trans k3, w⟩
    · rintro t3 M3 ⟨M4, l, w⟩ t4 H3 k3 r3 m3
      exact ⟨hlt, t3, M4, r3, m3.le l, ((ki.trans k').trans k2).trans k3, w⟩
theorem comp_wlf {K : Frag} {J : It} {xs : List U} {chk : Mem → Prop} {ix : List (Option Nat)} {g : TG2} {tc : TT2} {te : TE2} {Q : VK} {σ2 : St2} {σ : St} {M1 : Mem} {H H1 : Hp} (mg : MoG g) (mc : MoT tc) (me : MoE te) (io : ItOk K H1 J xs chk) (k1 : TK K H H1) (m1 : RepM K H1 M1) (s1 : RepS K H1 σ2 σ)
    (h1 : Comp chk g tc te xs (up K H Q) (blk2 ix σ2) M1) : ∃ (W : Nat → List V → St → Hp → Prop) (n : Nat), n ≤ sizeLine ∧ W 0 [] (blkStart ix σ) H1 ∧ ∀ i xs σ' H', W i xs σ' H' → xs.length ≤ i →
    (J.stop i H' ∧ ∀ p, H' p = none → Q (.ref p) (upd H' p (.lst xs))) ∨
    (J.go i H' ∧ i < n ∧ ∃ M : List V → St → Hp → Prop, (∀ ys σ3 H3, M ys σ3 H3 → W (i + 1) ys σ3 H3) ∧ ∀ x H2, J.yld i H' x H2 → liftG K g x σ' H2 fun σ2 H3 => liftT K tc σ2 H3 fun b H4 => if b = true then lift K te σ2 H4 fun y H5 => M (xs ++ [y]) σ2 H5 else M xs σ2 H4) := by
  obtain ⟨hn, W, w0, ws⟩ := h1
  let N : Nat → List V → St → Hp → Prop := fun i vs σ H => i ≤ xs.length ∧ ∃ us s2 M, RepAll K H us vs ∧ RepS K H s2 σ ∧ RepM K H M ∧ TK K H1 H ∧ W i us s2 M
  refine ⟨N, xs.length, hn, ⟨Nat.zero_le _, [], _, M1, .nil, s1.blk ix, m1, .refl, w0⟩, ?_⟩
  rintro i vs s Hi ⟨hl, us, s2, Mi, ru, ri, mi, ki, w⟩ hv
  obtain ⟨ck, q⟩ := ws i us s2 Mi hl (by rw [ru.len]; exact hv) w
  obtain ⟨js, jg⟩ := io i Hi Mi ki mi ck
  cases e : xs[i]? with
  | none =>
    rw [e] at q
    have el : xs.length = i := by have := List.getElem?_eq_none_iff.mp e; omega
    refine .inl ⟨js el, fun p hp => ?_⟩
    have kn := TK.new (K := K) (o := .lst vs) hp
    exact q p (mi.free hp) (.ref p) _ ((k1.trans ki).trans kn) (.ref p) (mi.write kn ⟨vs, upd_same, ru.up kn⟩)
  | some x =>
    rw [e] at q
    have hlt : i < xs.length := (List.getElem?_eq_some_iff.mp e).1
    obtain ⟨go, yl⟩ := jg x e
    refine .inr ⟨go, hlt, N (i + 1), fun _ _ _ z => z, fun v H' y => ?_⟩
    obtain ⟨k', m', r'⟩ := yl v H' y
    refine lfG mg r' (ri.up k') m' q fun t2 M2 t H2 k2 r2 m2 q2 => lfT mc r2 m2 q2 fun b M3 H3 k3 m3 r3 q3 => ?_
    have kk := ((ki.trans k').trans k2).trans k3
    have ru' := ((ru.up k').up k2).up k3
    cases b with
    | false =>
      rw [if_neg Bool.false_ne_true]
      obtain ⟨M4, l, w4⟩ := q3
      exact ⟨hlt, us, t2, M4, ru', r3, m3.le l, kk, w4⟩
    | true =>
      rw [if_pos rfl]
      refine lf me r3 m3 q3 fun y2 M5 y5 H5 k5 r5 m5 s5 q5 => ?_
      obtain ⟨M4, l, w4⟩ := q5
      exact ⟨hlt, us ++ [y2], t2, M4, (ru'.up k5).app (.cons r5 .nil), s5, m5.le l, kk.trans k5, w4⟩
section
variable {tg l : Expr} {tl : TE2} {g : TG2} {tb : TS2}
@[reducible] noncomputable def thaw2 (a : Addr) (o : Obj) (kvs : List (Key × U)) (D : Ends2) : Ends2 :=
  ⟨fun σ M => M a = some (.fdc o kvs) ∧ D.nx σ (put M a (.dct kvs)), fun u M => M a = some (.fdc o kvs) ∧ D.rt u (put M a (.dct kvs)), fun σ M => M a = some (.fdc o kvs) ∧ D.bk σ (put M a (.dct kvs)), fun σ M => M a = some (.fdc o kvs) ∧ D.ct σ (put M a (.dct kvs))⟩
theorem thaw_rep {K : Frag} {H : Hp} {M : Mem} {a : Addr} {o : Obj} {kvs : List (Key × U)} (rm : RepM K H M) (e : M a = some (.fdc o kvs)) : ∃ gs, H a = some (.frz o (.dK gs)) ∧ TK K H (upd H a (.dK gs)) ∧ RepM K (upd H a (.dK gs)) (put M a (.dct kvs)) := by
  obtain ⟨gs, h, r⟩ := rm a _ e
  have kt := frzTK (K := K) (u := .dK gs) h
  exact ⟨gs, h, kt, rm.write kt ⟨gs, upd_same, r.mono fun _ _ q => q.up kt⟩⟩
theorem frz_rep {K : Frag} {H : Hp} {M : Mem} {a : Addr} {kvs : List (Key × U)} {gs : List (Key × V)} (o : Obj) (rm : RepM K H M) (h : H a = some (.dK gs)) (r : PrK (Rep K H) kvs gs) : TK K H (upd H a (.frz o (.dK gs))) ∧ RepM K (upd H a (.frz o (.dK gs))) (put M a (.fdc o kvs)) := by
  have kt : TK K H (upd H a (.frz o (.dK gs))) := TK.write h (fun _ z => by cases z) (fun _ _ z => by cases z)
  exact ⟨kt, rm.write kt ⟨gs, upd_same, r.mono fun _ _ q => q.up kt⟩⟩
@[reducible] noncomputable def qForD (tl : TE2) (g : TG2) (tb : TS2) : TS2 := fun D σ M => tl σ M fun x M1 => match x with
  | .ref a => ∃ kvs, M1 a = some (.dct kvs) ∧ ∀ o, Walk (fun M => M a = some (.fdc o kvs)) g tb (keysU kvs) (thaw2 a o kvs D) σ (put M1 a (.fdc o kvs))
  | _ => False
theorem thaw2_le {a : Addr} {o : Obj} {kvs : List (Key × U)} {D D' : Ends2} (l : Ends2.Le D D') : Ends2.Le (thaw2 a o kvs D) (thaw2 a o kvs D') := ⟨fun _ _ z => ⟨z.1, l.nx _ _ z.2⟩, fun _ _ z => ⟨z.1, l.rt _ _ z.2⟩, fun _ _ z => ⟨z.1, l.bk _ _ z.2⟩, fun _ _ z => ⟨z.1, l.ct _ _ z.2⟩⟩
theorem thaw_up {a : Addr} {o : Obj} {kvs : List (Key × U)} {H : Hp} {D : Ends} (nf : NF X a) : Ends2.Le (thaw2 a o kvs (upD X.K H D)) (upD X.K H (thawD X D)) := by
  have key : ∀ (Q : St → Hp → Prop) σ M, M a = some (.fdc o kvs) ∧ upS X.K H Q σ (put M a (.dct kvs)) → upS X.K H (thawN X Q) σ M := fun Q σ M ⟨e, q⟩ s H' k rs rm => by
    obtain ⟨gs, h, kt, rm'⟩ := thaw_rep rm e
    exact ⟨a, o, gs, nf, h, q s _ (k.trans kt) (rs.up kt) rm'⟩
  refine ⟨key _, fun u M ⟨e, q⟩ v H' k r rm => ?_, key _, key _⟩
  obtain ⟨gs, h, kt, rm'⟩ := thaw_rep rm e
  exact ⟨a, o, gs, nf, h, q v _ (k.trans kt) (r.up kt) rm'⟩
theorem qs_forD {body : List Stmt} (hp : PassesOwn (model X.prog X.w) X.A X.env X.xe) (hc : X.calm = true) (hl : QE X l tl) (hg : QG X tg g) (hb : QSs X body tb)
    (hs : ∀ x, foldedSetIterable l X.env x = pure x := by intro _; rfl) : QS X (.For tg l body [] pos) (qForD tl g tb) := by
  refine ⟨fun D D' σ M le h => hl.mo _ _ _ _ (fun x M1 z => ?_) h, psW (ps_thaw (ps_for hp hc (pi_dict hl.pe) hg.pe hb.pe hs)) fun D σ H ⟨σ2, M, rs, rm, h⟩ => lf hl.mo rs rm h fun u M1 v H1 k1 r1 m1 s1 h1 => ?_⟩
  · cases x with
    | ref a => obtain ⟨kvs, e, q⟩ := z; exact ⟨kvs, e, fun o => Walk_mo hg.mo hb.mo (thaw2_le le) (q o)⟩
    | _ => exact z.elim
  · cases u with
    | ref a =>
      cases r1
      obtain ⟨kvs, e, q⟩ := h1
      obtain ⟨gs, e1, r⟩ := m1 a _ e
      refine ⟨a, gs, rfl, e1, fun o nf => ?_⟩
      obtain ⟨kt, m2⟩ := frz_rep o m1 e1 r
      exact walk_lf hg.mo hb.mo it_dict (k1.trans kt) m2 (s1.up kt) (Walk_mo hg.mo hb.mo (thaw_up nf) (q o))
    | _ => exact h1.elim
@[reducible] noncomputable def qCompD (tl : TE2) (ix : List (Option Nat)) (g : TG2) (tc : TT2) (te : TE2) : TE2 := fun σ M Q => tl σ M fun x M1 => match x with
  | .ref a => ∃ kvs, M1 a = some (.dct kvs) ∧ ∀ o, Comp (fun M => M a = some (.fdc o kvs)) g tc te (keysU kvs) (fun u M' => M' a = some (.fdc o kvs) ∧ Q u (put M' a (.dct kvs))) (blk2 ix σ) (put M1 a (.fdc o kvs))
  | _ => False
theorem qe_compD {elt : Expr} {ifs : List Expr} {scope : Scope} {N : List Str} {ix : List (Option Nat)} {tc : TT2} {te : TE2} (hc : X.calm = true) (hl : QE X l tl)
    (hg : ∀ (cl : List (Str × Addr)) (C : Addr) (s : Shared) (H : Hp) (ex : List Addr), QG (X.blk N scope cl C s H ex) tg g)
    (hf : ∀ (cl : List (Str × Addr)) (C : Addr) (s : Shared) (H : Hp) (ex : List Addr), QF (X.blk N scope cl C s H ex) ifs tc)
    (he : ∀ (cl : List (Str × Addr)) (C : Addr) (s : Shared) (H : Hp) (ex : List Addr), QE (X.blk N scope cl C s H ex) elt te)
    (hb : blkOk X.env.scope.names X.N N scope ix = true) (hs : ∀ x, foldedSetIterable l X.env x = pure x := by intro _; rfl) :
    QE X (.ListComp elt [⟨tg, l, ifs, 0⟩] scope pos) (qCompD tl ix g tc te) := by
  have g0 := (hg [] 0 X.s₀ X.H₀ []).mo
  have f0 := (hf [] 0 X.s₀ X.H₀ []).mo
  have e0 := (he [] 0 X.s₀ X.H₀ []).mo
  refine ⟨fun σ M Q Q' k h => hl.mo _ _ _ _ (fun x M1 z => ?_) h, peW (pe_thaw (pe_comp (N := N) (ix := ix) (g := liftG X.K g) (tc := liftT X.K tc) (te := lift X.K te) hc (pi_dict hl.pe) (fun cl C s H ex => (hg cl C s H ex).pe) (fun cl C s H ex => (hf cl C s H ex).pe) (fun cl C s H ex => (he cl C s H ex).pe) hb hs)) fun σ H Q z0 => exUp z0 fun σ2 M rs rm h => lf hl.mo rs rm h fun u M1 v H1 k1 r1 m1 s1 h1 => ?_⟩
  · cases x with
    | ref a => obtain ⟨kvs, e, q⟩ := z; exact ⟨kvs, e, fun o => Comp_mo (fun u M' w => ⟨w.1, k _ _ w.2⟩) (q o)⟩
    | _ => exact z.elim
  · cases u with
    | ref a =>
      cases r1
      obtain ⟨kvs, e, q⟩ := h1
      obtain ⟨gs, e1, r⟩ := m1 a _ e
      refine ⟨a, gs, rfl, e1, fun o nf => ?_⟩
      obtain ⟨kt, m2⟩ := frz_rep o m1 e1 r
      refine comp_wlf g0 f0 e0 it_dict (k1.trans kt) m2 (s1.up kt) (Comp_mo (fun u M' z9 v H' k r rm => ?_) (q o))
      obtain ⟨e, q⟩ := z9
      obtain ⟨gs', h', kt', rm'⟩ := thaw_rep rm e
      exact ⟨a, o, gs', nf, h', q v _ (k.trans kt') (r.up kt') rm'⟩
    | _ => exact h1.elim
end
end
end L3
set_option maxHeartbeats 1000000
namespace L3
open PySem PySem.Spec PyProof.Rows L2
section
variable {chk : Mem → Prop} {g : TG2} {tb : TS2} {tc : TT2} {te : TE2} {xs : List U} {D : Ends2} {σ : St2} {M : Mem} {Q : UK}
theorem Comp.pure {α : Type} (as : List α) (f : α → U) (p : α → Bool) (h : α → U) (S : St2 → Prop) (hx : xs = as.map f) (h0 : S σ) (hn : as.length ≤ sizeLine) (hc : ∀ M', Le M M' → chk M')
    (hs : ∀ a ∈ as, ∀ σ, S σ → ∀ (Y : U → St2 → Mem → Prop) (N : St2 → Mem → Prop), (p a = true → ∀ σ1 M3, S σ1 → Le M M3 → Y (h a) σ1 M3) → (p a = false → ∀ σ1 M2, S σ1 → Le M M2 → N σ1 M2) →
      g (f a) σ M fun σ1 M1 => tc σ1 M1 fun b M2 => bE b (te σ1 M2 fun y M3 => Y y σ1 M3) (N σ1 M2))
    (hd : ∀ q, M q = none → Q (.ref q) (put M q (.lst ((as.filter p).map h)))) : Comp chk g tc te xs Q σ M := by
  subst hx
  refine Comp.inv (by rw [List.length_map]; exact hn) (fun i ys σ M' => M' = M ∧ ys = ((as.take i).filter p).map h ∧ S σ) ⟨rfl, rfl, h0⟩ ?_ ?_
  · rintro i x ys σ M' hx hy ⟨rfl, rfl, s⟩
    rw [List.getElem?_map] at hx
    cases en : as[i]? with
    | none => rw [en] at hx; cases hx
    | some a =>
      rw [en] at hx; cases hx
      have et : as.take (i + 1) = as.take i ++ [a] := by rw [List.take_add_one, en]; rfl
      refine ⟨hc _ (Le.refl _), hs a (List.mem_of_getElem? en) σ s _ _ (fun c σ1 M3 s1 l => ⟨M', l, rfl, ?_, s1⟩) (fun c σ1 M3 s1 l => ⟨M', l, rfl, ?_, s1⟩)⟩
      · rw [et, List.filter_append, List.filter_cons_of_pos c, List.map_append]; rfl
      · rw [et, List.filter_append, List.filter_cons_of_neg (by rw [c]; decide), List.filter_nil, List.append_nil]
  · rintro ys σ M' ⟨rfl, rfl, s⟩
    refine ⟨hc _ (Le.refl _), fun q hq => ?_⟩
    rw [List.length_map, List.take_length]
    exact hd q hq
theorem Comp.mapped {α : Type} (as : List α) (f : α → U) (h : α → U) (S : St2 → Prop) (hx : xs = as.map f) (h0 : S σ) (hn : as.length ≤ sizeLine) (hc : ∀ M', Le M M' → chk M')
    (hs : ∀ a ∈ as, ∀ σ, S σ → ∀ (Y : U → St2 → Mem → Prop), (∀ σ1 M3, S σ1 → Le M M3 → Y (h a) σ1 M3) → ∀ N : St2 → Mem → Prop,
      g (f a) σ M fun σ1 M1 => tc σ1 M1 fun b M2 => bE b (te σ1 M2 fun y M3 => Y y σ1 M3) (N σ1 M2))
    (hd : ∀ q, M q = none → Q (.ref q) (put M q (.lst (as.map h)))) : Comp chk g tc te xs Q σ M := by
  refine Comp.pure as f (fun _ => true) h S hx h0 hn hc (fun a ha σ s Y N yes no => hs a ha σ s Y (yes rfl) N) (fun q hq => ?_)
  rw [List.filter_eq_self.mpr (fun _ _ => rfl)]
  exact hd q hq
theorem rngU_map : ∀ (n : Nat) (lo : Int), rngU lo n = (List.range n).map fun i : Nat => U.int (lo + i)
  | n, lo => by
    apply List.ext_getElem?
    intro i
    by_cases h : i < n
    · rw [rngU_get n lo i h, List.getElem?_map, List.getElem?_range h]; rfl
    · rw [List.getElem?_eq_none (by rw [rngU_len]; omega), List.getElem?_eq_none (by rw [List.length_map, List.length_range]; omega)]
end
section
variable {M : Mem} {a C : Addr} {K : Frag}
theorem rdL {xs : List U} {k : List U → Prop} (h : M a = some (.lst xs)) (q : k xs) : ∃ xs, M a = some (.lst xs) ∧ k xs := ⟨_, h, q⟩
end
end L3
set_option maxHeartbeats 1000000
namespace L3
open PySem PySem.Spec PyProof.Rows L2
@[reducible] noncomputable def strsOf : List U → Option (List Str)
  | [] => some []
  | .str z :: r => match strsOf r with
    | some zs => some (z :: zs)
    | none => none
  | _ => none
theorem strsOf_inv : ∀ {us : List U} {zs : List Str}, strsOf us = some zs → us = zs.map U.str
  | [], zs, h => by cases h; rfl
  | .str z :: r, zs, h => by
    have h : (match strsOf r with | some zs => some (z :: zs) | none => none) = some zs := h
    cases e : strsOf r with
    | none => rw [e] at h; cases h
    | some ys => rw [e] at h; cases h; rw [strsOf_inv e]; rfl
  | .non :: r, zs, h => by cases h
  | .bl b :: r, zs, h => by cases h
  | .int i :: r, zs, h => by cases h
  | .tup x :: r, zs, h => by cases h
  | .fl x :: r, zs, h => by cases h
  | .ref a :: r, zs, h => by cases h
  | .ty n :: r, zs, h => by cases h
theorem inV_strs (z : Str) : ∀ zs : List Str, inV (.str z) (zs.map V.str) = decide (z ∈ zs)
  | [] => by simp [inV]
  | a :: r => by
    have ih := inV_strs z r
    unfold inV at ih ⊢
    rw [List.map_cons, List.any_cons, ih]
    show (a == z || _) = _
    by_cases e : z = a
    · subst e; simp
    · have e' : (a == z) = false := by simpa using fun w => e w.symm
      rw [e']; simp [e]
theorem inV_ints (z : Int) : ∀ zs : List Int, inV (.int z) (zs.map V.int) = decide (z ∈ zs)
  | [] => by simp [inV]
  | a :: r => by
    have ih := inV_ints z r
    unfold inV at ih ⊢
    rw [List.map_cons, List.any_cons, ih]
    show (a == z || _) = _
    by_cases e : z = a
    · subst e; simp
    · have e' : (a == z) = false := by simpa using fun w => e w.symm
      rw [e']; simp [e]
theorem flat_strs (zs : List Str) : (zs.map V.str).all flatV = true := by rw [List.all_eq_true]; intro x hx; obtain ⟨z, _, rfl⟩ := List.mem_map.mp hx; rfl
theorem flat_ints (zs : List Int) : (zs.map V.int).all flatV = true := by rw [List.all_eq_true]; intro x hx; obtain ⟨z, _, rfl⟩ := List.mem_map.mp hx; rfl
@[reducible] noncomputable def r_in (neg : Bool) : RR2 := fun x y M Q => match x, y with
  | .str z, .tup ys => oE (strsOf ys) fun zs => Q (.bl (if neg then !decide (z ∈ zs) else decide (z ∈ zs))) M
  | .str z, .ref a => ∃ zs : List Str, M a = some (.lst (zs.map U.str)) ∧ Q (.bl (if neg then !decide (z ∈ zs) else decide (z ∈ zs))) M
  | .int z, .tup ys => ∃ zs : List Int, ys = zs.map U.int ∧ Q (.bl (if neg then !decide (z ∈ zs) else decide (z ∈ zs))) M
  | .int z, .ref a => ∃ zs : List Int, M a = some (.lst (zs.map U.int)) ∧ Q (.bl (if neg then !decide (z ∈ zs) else decide (z ∈ zs))) M
  | _, _ => False
theorem r_in_mo (neg : Bool) : ∀ x y M Q Q', (∀ u M', Q u M' → Q' u M') → r_in neg x y M Q → r_in neg x y M Q' := fun x y M Q Q' k h => by
  match x, y, h with
  | .str z, .tup ys, h => exact oE_mono (fun zs => k _ _) h
  | .str z, .ref a, h => obtain ⟨zs, e, q⟩ := h; exact ⟨zs, e, k _ _ q⟩
  | .int z, .tup ys, h => obtain ⟨zs, e, q⟩ := h; exact ⟨zs, e, k _ _ q⟩
  | .int z, .ref a, h => obtain ⟨zs, e, q⟩ := h; exact ⟨zs, e, k _ _ q⟩
theorem r_in_rf {K : Frag} (neg : Bool) (x2 y2 : U) (x y : V) (M : Mem) (H : Hp) (Q : VK) (rx : Rep K H x2 x) (ry : Rep K H y2 y) (rm : RepM K H M) (h : r_in neg x2 y2 M (up K H Q)) : rIn K neg x y H Q := by
  match x2, y2, rx, ry, h with
  | .str z, .tup ys, .str _, .tup s r, h =>
    obtain ⟨zs, e, q⟩ := oE_inv h
    rw [strsOf_inv e] at r
    rw [r.strsV] at s
    refine ⟨_, zs.map V.str, rfl, .inr s, rfl, flat_strs zs, ?_⟩
    rw [inV_strs]
    exact q _ H .refl (.bl _) rm
  | .str z, .ref a, .str _, .ref _, h =>
    obtain ⟨zs, e, q⟩ := h
    obtain ⟨vs, e2, r⟩ := rm a _ e
    rw [r.strsV] at e2
    refine ⟨a, zs.map V.str, rfl, .inl (.inl (.inl e2)), rfl, flat_strs zs, ?_⟩
    rw [inV_strs]
    exact q _ H .refl (.bl _) rm
  | .int z, .tup ys, .int _, .tup s r, h =>
    obtain ⟨zs, e, q⟩ := h
    subst e
    rw [r.ints_of] at s
    refine ⟨_, zs.map V.int, rfl, .inr s, rfl, flat_ints zs, ?_⟩
    rw [inV_ints]
    exact q _ H .refl (.bl _) rm
  | .int z, .ref a, .int _, .ref _, h =>
    obtain ⟨zs, e, q⟩ := h
    obtain ⟨vs, e2, r⟩ := rm a _ e
    rw [r.ints_of] at e2
    refine ⟨a, zs.map V.int, rfl, .inl (.inl (.inl e2)), rfl, flat_ints zs, ?_⟩
    rw [inV_ints]
    exact q _ H .refl (.bl _) rm
section
variable {X : Cx} {e f o i : Expr} {te tf to ti : TE2} {pos apos cpos : Pos}
theorem o_in : Op2 X (compareOp .In) (r_in false) := ⟨_, op_in_seq, r_in_mo false, r_in_rf false⟩
theorem op_inD (hu : X.A.units + 64 < cLine) : OpR X (compareOp .In) (fun x y H Q => ∃ a r, y = .ref a ∧ DGet H a x r ∧ Q (.bl r.isSome) H) := by
  intro pins s σ H x y v u Q I rx ry ⟨a, r, ey, g, q⟩
  subst ey
  cases (show u = Value.ref a from ry)
  exact d_in (by omega) I g rx fun s' I' => ⟨.bl _, H, I', rfl, q⟩
@[reducible] noncomputable def r_inD (neg : Bool) : RR2 := fun x y M Q => match x, y with
  | .str z, .ref a => ∃ kvs, M a = some (.dct kvs) ∧ Q (.bl (if neg then !(valU kvs (.inr z)).isSome else (valU kvs (.inr z)).isSome)) M
  | .int z, .ref a => ∃ kvs, M a = some (.dct kvs) ∧ Q (.bl (if neg then !(valU kvs (.inl z)).isSome else (valU kvs (.inl z)).isSome)) M
  | _, _ => False
theorem r_inD_mo (neg : Bool) : ∀ x y M Q Q', (∀ u M', Q u M' → Q' u M') → r_inD neg x y M Q → r_inD neg x y M Q' := fun x y M Q Q' k h => by
  match x, y, h with
  | .str z, .ref a, h => obtain ⟨zs, e, q⟩ := h; exact ⟨zs, e, k _ _ q⟩
  | .int z, .ref a, h => obtain ⟨zs, e, q⟩ := h; exact ⟨zs, e, k _ _ q⟩
theorem dgetO {K : Frag} {H : Hp} {M : Mem} {a : Addr} {kvs : List (Key × U)} (rm : RepM K H M) (e : M a = some (.dct kvs)) (k : Key) : ∃ r, DGet H a (kV k) r ∧ r.isSome = (valU kvs k).isSome ∧ ∀ d dv, Rep K H d dv → Rep K H ((valU kvs k).getD d) (r.getD dv) := by
  obtain ⟨gs, h, r⟩ := rm a _ e
  refine ⟨_, .k h, ?_⟩
  rcases r.val k with ⟨z, w⟩ | ⟨u', v, z1, z2, rr⟩
  · rw [z, w]; exact ⟨rfl, fun d dv q => q⟩
  · rw [z1, z2]; exact ⟨rfl, fun d dv q => rr⟩
theorem o_inD (hu : X.A.units + 64 < cLine) : Op2 X (compareOp .In) (r_inD false) := ⟨_, op_inD hu, r_inD_mo false, fun x2 y2 x y M H Q rx ry rm h => by
  match x2, y2, rx, ry, h with
  | .str z, .ref a, .str _, .ref _, h =>
    obtain ⟨kvs, e, q⟩ := h
    obtain ⟨r, g, g1, _⟩ := dgetO rm e (.inr z)
    exact ⟨a, r, rfl, g, by rw [g1]; exact q _ H .refl (.bl _) rm⟩
  | .int z, .ref a, .int _, .ref _, h =>
    obtain ⟨kvs, e, q⟩ := h
    obtain ⟨r, g, g1, _⟩ := dgetO rm e (.inl z)
    exact ⟨a, r, rfl, g, by rw [g1]; exact q _ H .refl (.bl _) rm⟩⟩
@[reducible] noncomputable def keyU : U → Option Key
  | .str z => some (.inr z)
  | .int n => some (.inl n)
  | _ => none
theorem keyU_rep {K : Frag} {H : Hp} {u : U} {v : V} {k : Key} (h : keyU u = some k) (r : Rep K H u v) : v = kV k := by
  cases r <;> first | (cases h; rfl) | cases h
theorem isD_of {K : Frag} {H : Hp} {M : Mem} {a : Addr} {kvs : List (Key × U)} (rm : RepM K H M) (e : M a = some (.dct kvs)) : IsD H a := by
  obtain ⟨gs, h, _⟩ := rm a _ e
  exact .inl ⟨gs, .inl h⟩
@[reducible] noncomputable def qDPop (to ti : TE2) : TE2 := fun σ M Q => to σ M fun x M1 => match x with
  | .ref a => ∃ kvs, M1 a = some (.dct kvs) ∧ ti σ M1 fun y M2 => vE (keyU y) fun k => ∃ kvs', M2 a = some (.dct kvs') ∧ oE (valU kvs' k) fun v => Q v (put M2 a (.dct (dropD kvs' k)))
  | _ => False
theorem qe_dpop (ho : QE X o to) (he : QE X e te) (m : M1 X o "pop" apos e cpos := by exact ⟨rfl, rfl, rfl, rfl⟩) : QE X (.Call (.Attribute o "pop" apos) [e] [] cpos) (qDPop to te) := by
  refine ⟨fun σ M Q Q' k h => ho.mo _ _ _ _ (fun u M1 z => ?_) h, peW (pe_dpop1 ho.pe he.pe m) fun σ H Q z0 => exUp z0 fun σ2 M rs rm h => lf ho.mo rs rm h fun x2 M1 x H1 k1 r1 m1 s1 h1 => ?_⟩
  · match u, z with
    | .ref a, ⟨kvs, e1, z⟩ => exact ⟨kvs, e1, he.mo _ _ _ _ (fun y M2 z => vE_mono (fun kk ⟨kvs', e2, q⟩ => ⟨kvs', e2, oE_mono (fun v q => k _ _ q) q⟩) z) z⟩
  · match x2, r1, h1 with
    | .ref a, .ref _, ⟨kvs, e1, h1⟩ =>
      refine ⟨a, rfl, isD_of m1 e1, lf he.mo s1 m1 h1 fun y2 M2 y H2 k2 r2 m2 s2 h2 => ?_⟩
      obtain ⟨kk, ek, kvs', e2, h2⟩ := vE_inv h2
      have ey := keyU_rep ek r2
      obtain ⟨u, eu, q⟩ := oE_inv h2
      obtain ⟨gs, h, r⟩ := m2 a _ e2
      rcases r.val kk with ⟨z, _⟩ | ⟨u', v, z1, z2, rr⟩
      · rw [eu] at z; cases z
      · rw [eu] at z1; cases z1
        have kw := dctTK (K := X.K) (zs := dropK gs kk) h
        exact ⟨gs, kk, v, h, ey, z2, q v _ ((k1.trans k2).trans kw) (rr.up kw) (m2.write kw ⟨_, upd_same, (r.drop kk).mono fun _ _ q => q.up kw⟩)⟩
end
section
variable {g : TG2} {tb : TS2} {tc : TT2} {te : TE2} {σ : St2} {M : Mem} {Q : UK} {a : Addr} {kvs : List (Key × U)} {ob : Obj}
theorem put_id' {o : O} (h : M a = some o) : put M a o = M := by
  funext b; unfold put; split
  · rename_i e; rw [e, h]
  · rfl
theorem thaw_new {q : Addr} {o : O} (h : M a = some (.dct kvs)) (hq : put M a (.fdc ob kvs) q = none) : M q = none ∧ q ≠ a ∧ put (put (put M a (.fdc ob kvs)) q o) a (.dct kvs) = put M q o := by
  have n : q ≠ a := fun z => by rw [z, put_same] at hq; cases hq
  rw [put_ne n] at hq
  refine ⟨hq, n, ?_⟩
  funext b
  unfold put
  by_cases e1 : b = a
  · rw [if_pos e1, e1, if_neg (Ne.symm n), h]
  · rw [if_neg e1]
    by_cases e2 : b = q
    · rw [if_pos e2, if_pos e2]
    · rw [if_neg e2, if_neg e2, if_neg e1]
theorem Comp.dict (ks : List Str) (p : Str → Bool) (h : Str → U) (S : St2 → Prop) (hM : M a = some (.dct kvs)) (hx : keysU kvs = ks.map U.str) (h0 : S σ) (hn : ks.length ≤ sizeLine)
    (hs : ∀ k ∈ ks, ∀ σ, S σ → ∀ (Y : U → St2 → Mem → Prop) (N : St2 → Mem → Prop), (p k = true → ∀ σ1 M3, S σ1 → Le (put M a (.fdc ob kvs)) M3 → Y (h k) σ1 M3) → (p k = false → ∀ σ1 M2, S σ1 → Le (put M a (.fdc ob kvs)) M2 → N σ1 M2) →
      g (.str k) σ (put M a (.fdc ob kvs)) fun σ1 M1 => tc σ1 M1 fun b M2 => bE b (te σ1 M2 fun y M3 => Y y σ1 M3) (N σ1 M2))
    (hd : ∀ q, M q = none → Q (.ref q) (put M q (.lst ((ks.filter p).map h)))) :
    Comp (fun M => M a = some (.fdc ob kvs)) g tc te (keysU kvs) (fun u M' => M' a = some (.fdc ob kvs) ∧ Q u (put M' a (.dct kvs))) σ (put M a (.fdc ob kvs)) := by
  refine Comp.pure ks U.str p h S hx h0 hn (fun M' l => l _ _ put_same) hs fun q hq => ?_
  obtain ⟨q1, q2, q3⟩ := thaw_new (o := .lst ((ks.filter p).map h)) hM hq
  refine ⟨by rw [put_ne (Ne.symm q2)]; exact put_same, ?_⟩
  rw [q3]
  exact hd q q1
end
end L3
set_option maxHeartbeats 1000000
namespace L3
open PySem PySem.Spec PyProof.Rows L2
section
variable {X : Cx} {e f o i value : Expr} {te tf to ti tv : TE2} {pos apos cpos tpos : Pos}
theorem get_list : PGet X (fun x y H Q => ∃ p xs i v, x = .ref p ∧ y = .int i ∧ SqL X.K H p xs ∧ 0 ≤ i ∧ atI xs i = some v ∧ Q v H) := by
  intro pins s σ H x y v u Q I rx ry h
  obtain ⟨p, xs, i, z, rfl, rfl, hq, h0, he, q⟩ := h
  cases rx
  obtain ⟨t, rfl⟩ := ry
  obtain ⟨its, r, pl, hz⟩ := I.list hq
  obtain ⟨j, h1, h2, h3, h4, h5⟩ := atI_get he
  obtain ⟨w, ew, rw'⟩ := r.get h2
  have hl := r.length
  have hn := line63
  have hj : i.toNat = j := by
    rw [seqIndex_of h0 h5] at h1
    exact Option.some.inj h1
  exact getItem_listL pl.isList h0 (by omega) (by rw [hj]; simpa using ew) ⟨z, H, I, rw', q⟩
@[reducible] noncomputable def qLAug (to ti tv : TE2) (r : RR2) : TS2 := fun D σ M => to σ M fun x M1 => ti σ M1 fun y M2 => match x, y with
  | .ref a, .int k => ∃ xs, M2 a = some (.lst xs) ∧ 0 ≤ k ∧ oE (atI xs k) fun v => tv σ M2 fun w M3 => r v w M3 fun n M4 => ∃ xs' j, M4 a = some (.lst xs') ∧ ixN xs'.length k = some j ∧ D.nx σ (put M4 a (.lst (xs'.set j n)))
  | _, _ => False
theorem qs_laug {op : Operator} {r : RR2} (ho : QE X o to) (hi : QE X i ti) (hv : QE X value tv) (hop : Ip2 X op r)
    (ha : ∀ ov iv new, augStore i ov iv new = (do holding [new, ov, iv] (setItem ov iv new); release [new, ov, iv] []; pure .next) := by intro _ _ _; rfl) : QS X (.AugAssign (.Subscript o i tpos) op value pos) (qLAug to ti tv r) := by
  obtain ⟨r1, o1, R⟩ := hop.ex
  refine ⟨fun D D' σ M l h => ho.mo _ _ _ _ (fun x M1 => hi.mo _ _ _ _ fun y M2 z => ?_) h, psW (ps_augS ho.pe hi.pe get_list hv.pe o1 set_list ha) fun D σ H ⟨σ2, M, rs, rm, h⟩ => lf ho.mo rs rm h fun x2 M1 x H1 k1 r1 m1 s1 h1 => lf hi.mo s1 m1 h1 fun y2 M2 y H2 k2 r2 m2 s2 h2 => ?_⟩
  · match x, y, z with
    | .ref a, .int k, z =>
      obtain ⟨xs, e, e0, q⟩ := z
      exact ⟨xs, e, e0, oE_mono (fun u => hv.mo _ _ _ _ fun w M3 => R.mo _ _ _ _ _ fun n M4 ⟨xs', j, e1, e2, q⟩ => ⟨xs', j, e1, e2, l.nx _ _ q⟩) q⟩
  · match x2, y2, r1, r2, h2 with
    | .ref a, .int k, .ref _, .int _, h2 =>
      obtain ⟨xs, e, e0, q⟩ := h2
      obtain ⟨u, eu, q⟩ := oE_inv q
      obtain ⟨ys, hy, ry⟩ := m2 a _ e
      obtain ⟨v, ev, rv⟩ := ry.atI eu
      refine ⟨a, ys, k, v, rfl, rfl, .inl (.inl hy), e0, ev, lf hv.mo s2 m2 q fun w2 M3 w H3 k3 r3 m3 s3 h3 => ?_⟩
      refine R.rf u w2 v w M3 H3 _ (rv.up k3) r3 m3 (R.mo _ _ _ _ _ (fun n2 M4 ⟨xs', j, e1, e2, q⟩ n H4 k4 r4 m4 => ?_) h3)
      obtain ⟨zs, hz, rz⟩ := m4 a _ e1
      have kw := lstTK (K := X.K) (zs := zs.set j n) hz
      exact ⟨a, zs, k, j, rfl, rfl, hz, by rw [← rz.len]; exact e2, q σ _ ((((k1.trans k2).trans k3).trans k4).trans kw) ((s3.up k4).up kw) (m4.write kw ⟨_, upd_same, (rz.up kw).set (r4.up kw) j⟩)⟩
theorem call_intB : CallR X (.type "int") (fun xs H Q => ∃ b, xs = [.bl b] ∧ Q (.int (if b then 1 else 0)) H) := by
  intro pins s σ H xs us Q I rv ⟨b, e, q⟩
  subst e
  obtain ⟨u, rfl, ru⟩ := rv.one
  cases ru
  exact call_int_bool ⟨.int _, H, I.tok _, ⟨_, rfl⟩, q⟩
@[reducible] noncomputable def rInt2 : RL2 := fun us M Q => match us with
  | [.bl b] => Q (.int (if b then 1 else 0)) M
  | _ => False
theorem c_int : Call2 X (.type "int") rInt2 := by
  refine ⟨_, call_intB, fun us M Q Q' k h => ?_, fun us vs M H Q r rm h => ?_⟩
  · match us, h with
    | [.bl b], h => exact k _ _ h
  · match us, r, h with
    | [.bl b], .cons (.bl _) .nil, h => exact ⟨b, rfl, h _ H .refl (.int _) rm⟩
end
end L3
set_option maxHeartbeats 1000000
namespace HT
open PySem PySem.Spec PyProof.Rows
section
variable {prog : Program} {w : World} {A : Around} {E : Value → Shared → Prop} {s : Shared}
theorem getItem_tuple_whole {t sl : Addr} {items : Array Value} {vl vu : Value} {lo hi : Option Int} {Q : Value → Shared → Prop} (ht : IsTup s.heap t items) (hs : s.heap.IsSliceOf sl vl vu .none) (pl : IsPart vl lo) (pu : IsPart vu hi)
    (hw : sIx items.size 0 lo = 0 ∧ sIx items.size items.size hi = items.size) (h : Q (.ref t) s) : wpAny (model prog w) A (getItem (.ref t) (.ref sl)) Q E s := by
  obtain ⟨os, hos, hcs, hds⟩ := id hs
  have hTs : s.TypeIs (.ref sl) "slice" := ⟨os, hos, hcs⟩
  unfold getItem
  try with_reducible refine wpAny_holding ?_
  first | refine wpAny_bind (wpAny_pure ?_) | skip
  refine wpAny_bind (wpAny_sequenceKey ht.typeIs (by decide) ?_)
  refine wpAny_bind (wpAny_callSpecial?_slot (name := Str.ofString "__getitem__") ht.typeIs PyProof.Rows.slot_tuple_getitem
    (wpAny_call_entry PyProof.Rows.slot_tuple_getitem ht.typeIs entry_tuple_getitem ?_ (args_tuple_getitem _ _)))
  show wpAny _ _ (Builtin.Tuple.tupleItemsOf (.ref t) >>= _) _ _ s
  refine wpAny_bind (tupleItemsOf_ ht ?_)
  refine wpAny_bind (wpAny_typeOf hTs ?_)
  rw [if_pos (by decide)]
  refine wpAny_bind (sliceApplied_gen hs pl pu ?_)
  have hyes : (((sIx items.size 0 lo : Nat) : Int) == 0 && (1 : Int) == 1 && (sIx items.size items.size hi - sIx items.size 0 lo) == items.size) = true := by
    rw [hw.1, hw.2]; simp
  show wpAny _ _ (if (((sIx items.size 0 lo : Nat) : Int) == 0 && (1 : Int) == 1 && (sIx items.size items.size hi - sIx items.size 0 lo) == items.size) = true then _ else _) _ _ s
  rw [if_pos hyes]
  refine wpAny_bind ?_
  unfold Builtin.Tuple.tupleIsExact
  refine wpAny_bind (wpAny_typeOf ht.typeIs (wpAny_pure ?_))
  rw [if_pos (by decide)]
  exact wpAny_bind (wpAny_rule (wpAny_pure ⟨_, rfl, wpAny_pure h⟩))
end
end HT
namespace L2
open PySem PySem.Spec PyProof.Rows
section
variable {X : Cx}
noncomputable def rSlTW (K : PySem.W.Frag) : V → Option Int → Option Int → Hp → VK → Prop := fun x lo hi H Q => ∃ a xs, x = .ref a ∧ SqT K H a xs ∧ (HT.sIx xs.length 0 lo = 0 ∧ HT.sIx xs.length xs.length hi = xs.length) ∧ Q (.ref a) H
theorem sl_tupW : SlR X (rSlTW X.K) := by
  intro pins s σ H x v vl vu lo hi sl Q I rx hs pl pu h
  obtain ⟨a, xs, rfl, hx, hw, q⟩ := h
  cases rx
  obtain ⟨its, r, ht, hz⟩ := I.tuple hx
  have hlen : its.toArray.size = xs.length := by rw [List.size_toArray]; exact r.length.symm
  refine ⟨"tuple", _, PyProof.Rows.slot_tuple_getitem.lookup, ht.typeIs, ?_⟩
  exact HT.getItem_tuple_whole ht hs pl pu (by rw [hlen]; exact hw) ⟨.ref a, H, I, rfl, q⟩
end
end L2
namespace L3
open PySem PySem.Spec PyProof.Rows L2
section
variable {X : Cx}
@[reducible] noncomputable def rSlA : RS2 := fun x lo hi M Q => match x with
  | .str z => z.length ≤ sizeLine ∧ Q (.str (cutS z lo hi)) M
  | .tup xs => Q (.tup (cutU xs lo hi)) M
  | .fl xs => ∀ p, M p = none → Q (.ref p) (put M p (.lst (cutU xs lo hi)))
  | .ref a => ∃ xs, M a = some (.lst xs) ∧ ∀ p, M p = none → Q (.ref p) (put M p (.lst (cutU xs lo hi)))
  | _ => False
theorem l_slA : Sl2 X rSlA := by
  refine ⟨_, sl_U.or sl_tupW, fun x lo hi M Q Q' k h => ?_, fun x2 x lo hi M H Q rx rm h => ?_⟩
  · match x, h with
    | .str z, h => exact ⟨h.1, k _ _ h.2⟩
    | .tup xs, h => exact k _ _ h
    | .fl xs, h => exact fun p hp => k _ _ (h p hp)
    | .ref a, h => obtain ⟨xs, e, q⟩ := h; exact ⟨xs, e, fun p hp => k _ _ (q p hp)⟩
  · match x2, h, rx with
    | .str z, h, .str _ => exact .inl (.inl ⟨z, rfl, h.1, h.2 _ H .refl (.str _) rm⟩)
    | .tup xs, h, .tup (ys := ys) s r =>
      by_cases hw : HT.sIx ys.length 0 lo = 0 ∧ HT.sIx ys.length ys.length hi = ys.length
      · refine .inr ⟨_, _, rfl, s, hw, ?_⟩
        have e : cutU xs lo hi = xs := by
          unfold cutU
          rw [r.len, hw.1, hw.2, List.drop_zero, Nat.sub_zero, ← r.len, List.take_length]
        have h : up X.K H Q (.tup (cutU xs lo hi)) M := h
        rw [e] at h
        exact h _ H .refl (.tup s r) rm
      · refine .inl (.inr (.inr ⟨_, _, rfl, s, hw, fun p hp => ?_⟩))
        have kn := TK.new (K := X.K) (o := .tup (cutV ys lo hi)) hp
        exact (show up X.K H Q (.tup (cutU xs lo hi)) M from h) (.ref p) _ kn (.tup (SqT.of upd_same) ((r.cut lo hi).up kn)) (rm.same (same_new hp _))
    | .fl xs, h, .fl (ys := ys) s r =>
      refine .inl (.inr (.inl ⟨_, _, rfl, s.sq, fun p hp => ?_⟩))
      have kn := TK.new (K := X.K) (o := .lst (cutV ys lo hi)) hp
      exact h p (rm.free hp) (.ref p) _ kn (.ref p) (rm.write kn ⟨_, upd_same, (r.cut lo hi).up kn⟩)
    | .ref a, h, .ref _ =>
      obtain ⟨xs, e, q⟩ := h
      obtain ⟨ys, e1, r⟩ := rm a _ e
      refine .inl (.inr (.inl ⟨a, ys, rfl, .inl (.inl e1), fun p hp => ?_⟩))
      have kn := TK.new (K := X.K) (o := .lst (cutV ys lo hi)) hp
      exact q p (rm.free hp) (.ref p) _ kn (.ref p) (rm.write kn ⟨_, upd_same, (r.cut lo hi).up kn⟩)
end
end L3
set_option maxHeartbeats 1000000
namespace PySem
open Sem (wp)
theorem getAttrQ_miss_list {prog : Program} {w : World} {A : Around} {E : Value → Shared → Prop} {s : Shared} {a : Addr} {o : Obj} {xs : Array Value} {k : Nat} {name : Str} {Q : Option Value → Shared → Prop}
    (hx : s.heap.get? a = some o) (hc : o.cls = .type "list") (hdat : o.data = .seq xs k) (hd : o.dict = none) (hmiss : typeLookup (.type "list") name = pure none) (hname : (["__module__", "__name__", "__qualname__", "__doc__", "__annotations__"] : List Str).contains name = false) (hA : A.handled = none)
    (h : ∀ h' tk e, Heap.NewExcOf s.heap h' e "AttributeError" → Q none { s with heap := h', toks := tk }) (hsz : name.length + 100 ≤ sizeLine := by size_fits) :
    wpAny (model prog w) A (getAttr? (.ref a) name) Q E s := by
  obtain ⟨c, dct, dat, sl⟩ := o
  simp only at hc hdat hd
  subst hc hdat hd
  obtain ⟨hp, g, d, tk, os⟩ := s
  have hT : ∀ tk', (⟨hp, g, d, tk', os⟩ : Shared).TypeIs (.ref a) "list" := fun _ => ⟨_, hx, rfl⟩
  have f1 := sub_AttributeError
  have f3 := F.slot_list_getattribute.lookup
  have f4 := F.slot_list_getattribute.bind (.ref a)
  have f5 := am_list_getattr_none
  unfold getAttr? getAttrBy? getAttrBy
  repeat (any_goals (first | assumption | exact hT _ | ((with_reducible show wpAny _ _ (call (Value.builtin "list.__getattribute__") _ _) _ _ _); refine call_meets F.slot_list_getattribute (hT _) am_entry_list_getattribute (F.args_list_getattribute_2 _ _) (meets_getattribute_miss_list a xs k sl name _ hmiss hname hsz) ⟨hx, hA, fun h' tk' e hx' => ?_⟩) | wp_step))
  obtain ⟨t', u', he⟩ := hx'.there
  show wpAny _ _ (getattributeRaised _ _ _ _ _ _ _) _ _ _
  unfold getattributeRaised
  repeat (any_goals (first | assumption | wp_step))
  exact h _ _ _ hx'.of
end PySem
namespace PySem
namespace F
theorem entry_dict_update_loop : entryFor table "dict.update.loop" = some Builtin.«dict.update.loop» := entryFor_of_tree (by kernel_rfl)
theorem plain_dict_update_loop : plainId "dict.update.loop" = true := by decide +kernel
theorem miss_list_keys : typeLookup (.type "list") "keys" = pure none := am_miss_of_fast (by decide +kernel)
end F
end PySem
namespace L2
open PySem PySem.Spec PyProof.Rows
section
variable {prog : Program} {w : World} {A : Around} {R : Result → Shared → Prop}
noncomputable def PairsIn (prog : Program) (w : World) (its : List Value) (ps : List (Key × Value)) (h : Heap) : Prop := ∀ (i : Nat) (v : Value), its[i]? = some v → ∃ a key val k, v = .ref a ∧ IsTup h a #[key, val] ∧ (mixKind prog w).is k key = true ∧ ps[i]? = some (k, val)
theorem PairsIn.keep {its : List Value} {ps : List (Key × Value)} {h h' : Heap} (x : PairsIn prog w its ps h) (k : ∀ (i : Nat) a o, its[i]? = some (.ref a) → h.get? a = some o → h'.get? a = some o) : PairsIn prog w its ps h' := fun i v e => by
  obtain ⟨a, key, val, kk, rfl, ⟨o, h1, h2, n, h3⟩, hi, hp⟩ := x i v e
  exact ⟨a, key, val, kk, rfl, ⟨o, k i a o e h1, h2, n, h3⟩, hi, hp⟩
theorem dictOf_keep {h h' : Heap} {d : Addr} {kvs : List (Key × Value)} (x : h.DictOf (mixKind prog w) d kvs) (k : ∀ o, h.get? d = some o → h'.get? d = some o) : h'.DictOf (mixKind prog w) d kvs := by
  obtain ⟨o, es, ep, ho, r⟩ := x
  exact ⟨o, es, ep, k o ho, r⟩
theorem pairs_loop {I l d : Addr} {its : List Value} {ps : List (Key × Value)} (hh : A.handled = none) (hne : l ≠ I) (hd : d ≠ I ∧ d ≠ l) (nI : ∀ i : Nat, its[i]? ≠ some (.ref I)) (nd : ∀ i : Nat, its[i]? ≠ some (.ref d)) (hlen : ps.length = its.length) (hsz : ps.length ≤ 1000) :
    ∀ (k i : Nat) (s : Shared) (j : Int) (t : Tok), its.length - i = k → i ≤ its.length → (s.heap.IsListIter I l i ∧ s.heap.IsList l its.toArray) → PairsIn prog w its ps s.heap → s.heap.DictOf (mixKind prog w) d (merged [] (ps.take i)) →
      (∀ h' tk, h'.DictOf (mixKind prog w) d (merged [] ps) → (∀ b o, b ≠ I → b ≠ d → s.heap.get? b = some o → h'.get? b = some o) → R (.ok (.ret .none)) { s with heap := h', toks := tk }) →
      codeAny (model prog w) A (.builtin "dict.update.loop" ⟨[.ref d, .ref I, .int j t, .none], []⟩) R s := by
  have W := Walks.list (prog := prog) (w := w) (A := A.in1) hh I l hne its.toArray
  intro k
  induction k with
  | zero =>
    intro i s j t hk hi hst hT hD hR
    have hin : i = its.length := by omega
    refine codeAny_builtin F.entry_dict_update_loop ?_
    rw [Around.under_plainId F.plain_dict_update_loop _]
    show wpAny _ A.in1 (pyNext (.ref I) >>= _) _ _ s
    refine wpAny_bind (W.done s _ _ (by rw [List.size_toArray, ← hin]; exact hst) fun h' tk hk' => ?_)
    show wpAny _ A.in1 (Builtin.Dict.addKeywords d [] >>= _) _ _ _
    refine wpAny_bind (wpAny_pure (wpAny_pure ?_))
    rw [hin, ← hlen, List.take_length] at hD
    exact hR h' tk (dictOf_keep hD fun o e => hk' d o (by simpa using hd.1) e) fun b o hb _ e => hk' b o (by simpa using hb) e
  | succ k ih =>
    intro i s j t hk hi hst hT hD hR
    have hlt : i < its.length := by omega
    refine codeAny_builtin F.entry_dict_update_loop ?_
    rw [Around.under_plainId F.plain_dict_update_loop _]
    show wpAny _ A.in1 (pyNext (.ref I) >>= _) _ _ s
    refine wpAny_bind (W.item i s _ _ (by rw [List.size_toArray]; exact hlt) hst fun v h' tk hP hst' hk' => ?_)
    have hT' : PairsIn prog w its ps h' := hT.keep fun i a o e g => hk' a o (by simpa using fun z : a = I => nI i (by rw [e, z])) g
    have hD' : h'.DictOf (mixKind prog w) d (merged [] (ps.take i)) := dictOf_keep hD fun o e => hk' d o (by simpa using hd.1) e
    have hv : its[i]? = some v := by simpa using hP
    obtain ⟨a, key, val, kk, rfl, ta, ik, ip⟩ := hT' i v hv
    have tT : (⟨h', s.gens, s.drawn, tk, s.os⟩ : Shared).TypeIs (.ref a) "tuple" := by
      obtain ⟨o, h1, h2, n, h3⟩ := ta
      exact ⟨o, h1, h2⟩
    show wpAny _ A.in1 (holding [Value.ref a] _ >>= _) _ _ _
    refine wpAny_bind (wpAny_holding (wpAny_bind ?_))
    show wpAny _ A.in1 (tryCatch (Builtin.Dict.pairItems (.ref a)) _) _ _ _
    refine wpAny_tryCatch ?_
    unfold Builtin.Dict.pairItems
    refine wpAny_bind (wpAny_typeOf tT ?_)
    rw [if_pos (by decide)]
    obtain ⟨o, h1, h2, n, h3⟩ := ta
    refine wpAny_bind (wpAny_seqItems h1 h3 (wpAny_pure ?_))
    show wpAny _ A.in1 (holding [key, val] (dictSet d key val)) _ _ _
    refine wpAny_holding ?_
    have hl1 : (merged [] (ps.take i)).length ≤ sizeLine := by
      have := merged_length_le ([] : List (Key × Value)) (ps.take i)
      rw [List.length_take] at this
      simp only [List.length_nil] at this
      rw [sizeLine_eq]; omega
    refine wpAny_dictSet_pairs (hsz := hl1) ik hD' fun h2' hD2 hs2 => ?_
    have em : merged [] (ps.take (i + 1)) = stored (merged [] (ps.take i)) kk val := merged_take_succ _ _ _ _ ip
    refine wpAny_pure ⟨plainId_quiet F.plain_dict_update_loop _, ih (i + 1) _ _ _ (by omega) hlt (W.frame _ _ _ hst' fun b hbf o e => ?_) (hT'.keep fun i a o e g => ?_) (by rw [em]; exact hD2) fun h'' tk'' hD'' hk'' => ?_⟩
    · refine (hs2.2 b (fun z : b = d => ?_)).trans e
      subst z
      simp at hbf
      rcases hbf with z | z
      · exact hd.1 z
      · exact hd.2 z
    · exact (hs2.2 a (fun z : a = d => nd i (by rw [e, z]))).trans g
    · exact hR h'' tk'' hD'' fun b o hbI hbd e => hk'' b o hbI hbd ((hs2.2 b hbd).trans (hk' b o (by simpa using hbI) e))
end
section
variable {X : Cx}
theorem pairs_of {pins : List (Addr × Obj)} {σ : St} {H : Hp} {s : Shared} (I : Inv X pins σ H s) : ∀ {vs : List V} {its : List Value} {ps : List (Key × V)}, Vals vs its → vs.length = ps.length → (∀ (i : Nat) x k v, vs[i]? = some x → ps[i]? = some (k, v) → ∃ a, x = .ref a ∧ SqT X.K H a [kV k, v]) →
    ∃ qs : List (Key × Value), KV ps qs ∧ qs.length = its.length ∧ PairsIn X.prog X.w its qs s.heap := by
  intro vs its ps hv
  induction hv generalizing ps with
  | nil =>
    intro hl ht
    cases ps with
    | nil => exact ⟨[], .nil, rfl, fun i v e => by simp at e⟩
    | cons p ps => simp at hl
  | cons r t ih =>
    rename_i x u vs us
    intro hl ht
    cases ps with
    | nil => simp at hl
    | cons p ps =>
    obtain ⟨k, v⟩ := p
    obtain ⟨qs, kv, ql, hp⟩ := ih (ps := ps) (by simpa using hl) (fun i x k v e1 e2 => ht (i + 1) x k v (by simpa using e1) (by simpa using e2))
    obtain ⟨a, rfl, sq⟩ := ht 0 x k v rfl rfl
    obtain rfl : u = Value.ref a := r
    obtain ⟨ws, r1, p1, _⟩ := I.tuple sq
    obtain ⟨key, val, rfl, rk, rv⟩ := r1.two
    refine ⟨(k, val) :: qs, .cons ⟨rfl, rv⟩ kv, by simp [ql], fun i w e => ?_⟩
    cases i with
    | zero => cases e; exact ⟨a, key, val, k, rfl, p1, kV_is rk, rfl⟩
    | succ i =>
      obtain ⟨a', key', val', k', e1, e2, e3, e4⟩ := hp i w (by simpa using e)
      exact ⟨a', key', val', k', e1, e2, e3, by simpa using e4⟩
theorem call_dictP (hc : X.calm = true) : CallR X (.type "dict") (fun xs H Q => ∃ (l : Addr) (vs : List V) (ps : List (Key × V)), xs = [.ref l] ∧ H l = some (.lst vs) ∧ vs.length = ps.length ∧ ps.length ≤ 1000 ∧ (ps.map (·.1)).Nodup ∧ (∀ (i : Nat) x k v, vs[i]? = some x → ps[i]? = some (k, v) → ∃ a, x = .ref a ∧ SqT X.K H a [kV k, v]) ∧ ∀ p, H p = none → Q (.ref p) (upd H p (.dK ps))) := by
  intro pins s σ H xs us Q I r h
  obtain ⟨l, vs, ps, rfl, hH, hlen, hsz, hnd, ht, q⟩ := h
  obtain ⟨u, rfl, ru⟩ := r.one
  obtain rfl : u = Value.ref l := ru
  obtain ⟨z0, its, n, rv, hl0, e0⟩ := I.lstM hH
  obtain ⟨qs, kv, hql, hP⟩ := pairs_of I (its := its) rv hlen ht
  have hll : l < s.heap.objs.size := Heap.lt_size e0
  have hIs : s.heap.IsList l its.toArray := ⟨_, e0, rfl, n, rfl⟩
  have hh : X.A.handled = none := I.ok.hd hc
  have hqn : (qs.map (·.1)).Nodup := by rw [← kv.keys]; exact hnd
  have old : ∀ (i : Nat) a, its[i]? = some (.ref a) → a < s.heap.objs.size := fun i a e => by
    obtain ⟨a', key, val, kk, e1, ⟨o, h1, _⟩, _⟩ := hP i _ e
    cases e1
    exact Heap.lt_size h1
  refine callType_codes (Q₁ := fun obj s₁ => obj = .ref s.heap.objs.size ∧ s₁ = { s with heap := s.heap.push { cls := .type "dict", data := .dict #[] } }) F.kt_called_dict (F.kt_typeCall_dict_1 _) F.entry_dict_init (kt_code_dict_new _ ⟨rfl, rfl⟩) ?_
  rintro obj s₁ ⟨rfl, rfl⟩
  have hnew : (s.heap.push { cls := .type "dict", data := .dict #[] }).DictOf (mixKind X.prog X.w) s.heap.objs.size [] := Heap.DictOf.new s.heap
  have e1 : (s.heap.push { cls := .type "dict", data := .dict #[] }).get? l = some { cls := .type "list", data := .seq its.toArray n } := Heap.get?_push_of_some _ e0
  refine ⟨hnew.typeIs, F.args_dict_init_2 _ _, ?_⟩
  unfold Builtin.«dict.__init__»
  refine wpAny_bind ?_
  unfold Builtin.Dict.selfAndRest
  refine wpAny_bind (wpAny_notOrdered_dict hnew.typeIs ?_)
  show wpAny _ _ (pure (s.heap.objs.size, [Value.ref l])) _ _ _
  refine wpAny_pure ?_
  show wpAny _ _ (Builtin.Dict.updateFrom "dict.__init__" s.heap.objs.size (.ref l) [] .none) _ _ _
  unfold Builtin.Dict.updateFrom
  refine wpAny_bind (wpAny_typeOf (show Shared.TypeIs _ (.ref l) "list" from ⟨_, e1, rfl⟩) ?_)
  rw [if_pos (by decide)]
  refine wpAny_bind (getAttrQ_miss_list e1 rfl rfl rfl F.miss_list_keys (by decide +kernel) hh (fun h' tk e hx => ?_) (by decide +kernel))
  simp only [Option.isNone_none, if_true]
  refine wpAny_bind (wpAny_rule (wpAny_bind ?_))
  have hx1 := hx.keeps
  have e2 : h'.get? l = some { cls := .type "list", data := .seq its.toArray n } := hx1 _ _ e1
  have hszd : s.heap.objs.size < h'.objs.size := by
    obtain ⟨o, es, ep, ho, _⟩ := hnew
    exact Heap.lt_size (hx1 _ _ ho)
  have keep0 : ∀ b o, s.heap.get? b = some o → h'.get? b = some o := fun b o e => hx1 b o (Heap.get?_push_of_some _ e)
  refine wpAny_pyIter_list (s := { s with heap := h', toks := tk }) ⟨_, e2, rfl, n, rfl⟩ (wpAny_pure ⟨plainId_quiet F.plain_dict_update_loop _, ?_⟩)
  have lt1 : s.heap.objs.size < h'.objs.size := hszd
  refine pairs_loop (prog := X.prog) (w := X.w) (A := X.A.in1) (I := h'.objs.size) (l := l) (d := s.heap.objs.size) (its := its) (ps := qs) hh (Nat.ne_of_lt (Nat.lt_trans hll lt1)) ⟨Nat.ne_of_lt lt1, Ne.symm (Nat.ne_of_lt hll)⟩ (fun i e => ?_) (fun i e => Nat.lt_irrefl _ (old i _ e)) hql (by rw [hql, ← hl0, hlen]; exact hsz) _ 0 _ _ _ rfl (Nat.zero_le _) ⟨⟨_, Heap.get?_push_size _ rfl, rfl, rfl⟩, ?_⟩ (hP.keep fun i a o e g => Heap.get?_push_of_some _ (keep0 a o g)) ?_ fun h2 tk2 hD2 hk2 => ?_
  · have := old i _ e
    exact Nat.lt_irrefl _ (Nat.lt_trans lt1 this)
  · exact ⟨_, Heap.get?_push_of_some _ e2, rfl, n, rfl⟩
  · exact dictOf_keep hnew fun o e => Heap.get?_push_of_some _ (hx1 _ _ e)
  · rw [merged_nil_of_nodup qs hqn] at hD2
    refine ⟨rfl, ⟨.ref _, _, I.laid (a := s.heap.objs.size) (o := .dK ps) (t' := tk2) (fun b o e => ?_) (Nat.le_refl _) (dk_new (by rw [sizeLine_eq]; omega) (beq_eq_false_iff_ne.mpr (Ne.symm (Nat.ne_of_lt I.big))) kv hD2), rfl, q _ (I.hok.fresh (Nat.le_refl _))⟩⟩
    have hb := Heap.lt_size e
    exact hk2 b o (Nat.ne_of_lt (Nat.lt_trans hb lt1)) (Nat.ne_of_lt hb) (Heap.get?_push_of_some _ (keep0 b o e))
end
end L2
set_option maxHeartbeats 1000000
namespace L3
open PySem PySem.Spec PyProof.Rows L2
noncomputable def pairsU (kvs : List (Str × U)) : List U := kvs.map fun p => .tup [.str p.1, p.2]
noncomputable def dictU (kvs : List (Str × U)) : List (Key × U) := kvs.map fun p => (.inr p.1, p.2)
@[reducible] noncomputable def rDictP : RL2 := fun us M Q => match us with
  | [.ref l] => ∃ kvs, M l = some (.lst (pairsU kvs)) ∧ (kvs.map (·.1)).Nodup ∧ kvs.length ≤ 1000 ∧ ∀ p, M p = none → Q (.ref p) (put M p (.dct (dictU kvs)))
  | _ => False
theorem pairs_rep {K : Frag} {H : Hp} : ∀ {kvs : List (Str × U)} {ys : List V}, RepAll K H (pairsU kvs) ys → ∃ ps : List (Key × V), ys.length = ps.length ∧ ps.length = kvs.length ∧ ps.map (·.1) = kvs.map (fun p => Sum.inr p.1) ∧ PrK (Rep K H) (dictU kvs) ps ∧ ∀ (i : Nat) x k v, ys[i]? = some x → ps[i]? = some (k, v) → ∃ a, x = .ref a ∧ SqT K H a [kV k, v]
  | [], _, .nil => ⟨[], rfl, rfl, rfl, .nil, fun i x k v e => by simp at e⟩
  | (s, u) :: kvs, ys, h => by
    have h : RepAll K H (.tup [.str s, u] :: pairsU kvs) ys := h
    cases h with
    | cons r t =>
      rename_i x0 ys
      cases r with
      | tup sq ra =>
        rename_i a zs
        cases ra with
        | cons r1 ra2 =>
          cases r1
          cases ra2 with
          | cons ru r3 =>
            rename_i v ws
            cases r3
            obtain ⟨ps, h1, h2, h3, h4, h5⟩ := pairs_rep t
            refine ⟨(.inr s, v) :: ps, by simp [h1], by simp [h2], by simp [h3], .cons ru h4, fun i x k w e1 e2 => ?_⟩
            cases i with
            | zero => cases e1; cases e2; exact ⟨a, rfl, sq⟩
            | succ i => exact h5 i x k w (by simpa using e1) (by simpa using e2)
section
variable {X : Cx}
theorem c_dictP (hc : X.calm = true) : Call2 X (.type "dict") rDictP := by
  refine ⟨_, call_dictP hc, fun us M Q Q' k h => ?_, fun us vs M H Q r rm h => ?_⟩
  · match us, h with
    | [.ref l], h => obtain ⟨kvs, e, e2, e3, q⟩ := h; exact ⟨kvs, e, e2, e3, fun p hp => k _ _ (q p hp)⟩
  · obtain ⟨l, rfl, h⟩ : ∃ l, us = [.ref l] ∧ rDictP [.ref l] M (up X.K H Q) := by
      match us, h with
      | [.ref l], h => exact ⟨l, rfl, h⟩
    cases r with
    | cons r1 r2 =>
      cases r2
      cases r1
      obtain ⟨kvs, e, e2, e3, q⟩ := h
      obtain ⟨ys, hy, ry⟩ := rm l _ e
      obtain ⟨ps, h1, h2, h3, h4, h5⟩ := pairs_rep ry
      refine ⟨l, ys, ps, rfl, hy, h1, by omega, ?_, h5, fun p hp => ?_⟩
      · rw [h3]
        have : kvs.map (fun p => (Sum.inr p.1 : Key)) = (kvs.map (·.1)).map Sum.inr := by rw [List.map_map]; rfl
        rw [this]
        exact e2.map (f := Sum.inr) (fun a b n z => n (Sum.inr.inj z))
      · have kw := TK.new (K := X.K) (o := .dK ps) hp
        exact q p (rm.free hp) _ _ kw (.ref _) (rm.write kw ⟨ps, upd_same, h4.mono fun _ _ q => q.up kw⟩)
end
end L3
set_option maxHeartbeats 1000000
namespace L3
open PySem PySem.Spec PyProof.Rows L2
section
variable {X : Cx} {e o i : Expr} {te to ti : TE2} {pos : Pos}
@[reducible] noncomputable def rDixF : RR2 := fun x y M Q => match x, y with
  | .ref a, .str z => ∃ ob kvs, M a = some (.fdc ob kvs) ∧ oE (valU kvs (.inr z)) fun u => Q u M
  | _, _ => False
theorem rDixF_mo : ∀ x y M Q Q', (∀ u M', Q u M' → Q' u M') → rDixF x y M Q → rDixF x y M Q' := fun x y M Q Q' k h => by
  match x, y, h with
  | .ref a, .str z, h => obtain ⟨ob, kvs, e, q⟩ := h; exact ⟨ob, kvs, e, oE_mono (fun u => k _ _) q⟩
theorem qe_dixF (hu : X.A.units + 64 < cLine) (ho : QE X o to) (hi : QE X i ti) (hs : NoSl i) : QE X (.Subscript o i pos) (qOp rDixF to ti) := by
  refine ⟨qOp_mo rDixF_mo ho.mo hi.mo, peW (pe_dget (by omega) ho.pe hi.pe hs) fun σ H Q ⟨σ2, M, rs, rm, h⟩ => lf ho.mo rs rm h fun x2 M1 x H1 k1 r1 m1 s1 h1 => lf hi.mo s1 m1 h1 fun y2 M2 y H2 k2 r2 m2 s2 h2 => ?_⟩
  match x2, y2, r1, r2, h2 with
  | .ref a, .str z, .ref _, .str _, h2 =>
    obtain ⟨ob, kvs, e, q⟩ := h2
    obtain ⟨u, eu, q⟩ := oE_inv q
    obtain ⟨gs, h, r⟩ := m2 a _ e
    rcases r.val (.inr z) with ⟨z', _⟩ | ⟨u', v, z1, z2, rr⟩
    · rw [eu] at z'; cases z'
    · rw [eu] at z1; cases z1
      exact ⟨a, v, rfl, by rw [← z2]; exact .inl ⟨gs, .inr z, .inr ⟨ob, h⟩, rfl, rfl⟩, q v H2 (k1.trans k2) rr m2⟩
end
end L3
set_option maxHeartbeats 1000000
namespace H
open PySem
inductive GR where
  | opens (m k : Int) | below (m : Int) (at_ : Str)
inductive FR where
  | turns | number | least
inductive Com where
  | at_ (ts : List Int) | draws (seed many low high first : Int)
inductive Tl where
  | exit (nm : Str) | way (nm : Str) (k : Int) (th : Str) | desk (nm : Str) (hands : Int) (takes : List Int) (ranked : Bool) (rests : List (Int × Int)) (th : Str)
  | gate (nm : Str) (r : GR) (th : Str) | fork (nm : Str) (r : FR) (ths : List Str) | lend (nm pool th : Str) | give (nm pool th : Str) | pool (nm : Str) (many : Int) | door (nm : Str) (rank : Int) (com : Com) (th : Str)
noncomputable def Tl.name : Tl → Str
  | .exit n => n
  | .way n _ _ => n
  | .desk n _ _ _ _ _ => n
  | .gate n _ _ => n
  | .fork n _ _ => n
  | .lend n _ _ => n
  | .give n _ _ => n
  | .pool n _ => n
  | .door n _ _ _ => n
noncomputable def Tl.thens : Tl → List Str
  | .exit _ => []
  | .way _ _ t => [t]
  | .desk _ _ _ _ _ t => [t]
  | .gate _ _ t => [t]
  | .fork _ _ ts => ts
  | .lend _ _ t => [t]
  | .give _ _ t => [t]
  | .pool _ _ => []
  | .door _ _ _ t => [t]
structure Vs where
  rank : Int
  st : Str
  since : Int
  til : Option Int
  things : List Str
structure TF where
  plan : List (Str × Tl) := []
  rows : List (Str × List Nat) := []
  tal : List (Str × Int) := []
  stock : List (Str × Int) := []
  ppl : List Vs := []
section
variable {α β : Type}
noncomputable def putL (l : List (Str × α)) (k : Str) (v : α) : List (Str × α) := if (l.any fun p => decide (p.1 = k)) = true then l.map (fun p => if p.1 = k then (p.1, v) else p) else l ++ [(k, v)]
theorem any_look {k : Str} : ∀ {l : List (Str × α)}, (l.any fun p => decide (p.1 = k)) = true ↔ (l.lookup k).isSome = true
  | [] => by simp
  | (b, z) :: r => by
    have ih := @any_look k r
    rw [List.any_cons, List.lookup_cons]
    by_cases e : b = k
    · subst e; simp
    · have : (k == b) = false := by simpa using fun z => e z.symm
      simp only [e, decide_false, Bool.false_or, this]; exact ih
theorem look_map_set {k m : Str} {x : α} : ∀ {l : List (Str × α)}, (l.map fun p => if p.1 = k then (p.1, x) else p).lookup m = if m = k then (l.lookup m).map fun _ => x else l.lookup m
  | [] => by simp
  | (b, z) :: r => by
    have ih := @look_map_set k m x r
    rw [List.map_cons]
    by_cases e1 : b = k
    · subst e1
      simp only [if_true, List.lookup_cons]
      by_cases e2 : m = b
      · subst e2; simp
      · have : (m == b) = false := by simpa using e2
        simp only [this, e2, if_false] at ih ⊢
        exact ih
    · simp only [e1, if_false, List.lookup_cons]
      by_cases e2 : m = b
      · subst e2; simp [e1]
      · have : (m == b) = false := by simpa using e2
        simp only [this]; exact ih
theorem look_app_new {k m : Str} {x : α} : ∀ {l : List (Str × α)}, l.lookup k = none → (l ++ [(k, x)]).lookup m = if m = k then some x else l.lookup m
  | [], _ => by
    by_cases e : m = k
    · subst e; simp
    · have : (m == k) = false := by simpa using e
      simp [List.lookup_cons, this, e]
  | (b, z) :: r, h => by
    rw [List.cons_append, List.lookup_cons, List.lookup_cons]
    rw [List.lookup_cons] at h
    by_cases e : k = b
    · subst e; simp at h
    · have e' : (k == b) = false := by simpa using e
      rw [e'] at h
      by_cases e2 : m = b
      · subst e2; simp [Ne.symm e]
      · have : (m == b) = false := by simpa using e2
        simp only [this]; exact look_app_new h
theorem look_put {k m : Str} {x : α} {l : List (Str × α)} : (putL l k x).lookup m = if m = k then some x else l.lookup m := by
  unfold putL
  by_cases h : (l.any fun p => decide (p.1 = k)) = true
  · rw [if_pos h, look_map_set]
    by_cases e : m = k
    · rw [if_pos e, if_pos e, e]
      have := any_look.mp h
      cases q : l.lookup k with
      | none => rw [q] at this; cases this
      | some z => rfl
    · rw [if_neg e, if_neg e]
  · rw [if_neg h]
    refine look_app_new ?_
    cases q : l.lookup k with
    | none => rfl
    | some z => exact absurd (any_look.mpr (by rw [q]; rfl)) h
theorem put_len {k : Str} {x y : α} {l : List (Str × α)} (h : l.lookup k = some y) : (putL l k x).length = l.length := by
  unfold putL
  rw [if_pos (any_look.mpr (by rw [h]; rfl)), List.length_map]
theorem put_keys {k : Str} {x y : α} {l : List (Str × α)} (h : l.lookup k = some y) : (putL l k x).map (·.1) = l.map (·.1) := by
  unfold putL
  rw [if_pos (any_look.mpr (by rw [h]; rfl)), List.map_map]
  apply List.map_congr_left
  intro p _
  show (if p.1 = k then (p.1, x) else p).1 = p.1
  split <;> rfl
theorem look_mem {k : Str} {x : α} : ∀ {l : List (Str × α)}, l.lookup k = some x → (k, x) ∈ l
  | [], h => by cases h
  | (a, y) :: r, h => by
    rw [List.lookup_cons] at h
    cases e : k == a with
    | true =>
      rw [e] at h; cases h
      have : k = a := by simpa using e
      rw [this]; exact List.mem_cons_self
    | false => rw [e] at h; exact List.mem_cons_of_mem _ (look_mem h)
theorem mem_look {k : Str} {x : α} : ∀ {l : List (Str × α)}, (l.map (·.1)).Nodup → (k, x) ∈ l → l.lookup k = some x
  | [], _, h => by cases h
  | (a, y) :: r, nd, h => by
    rw [List.map_cons, List.nodup_cons] at nd
    rw [List.lookup_cons]
    rcases List.mem_cons.mp h with e | e
    · cases e; simp
    · have n : (k == a) = false := by
        have : k ≠ a := fun z => nd.1 (List.mem_map.mpr ⟨(k, x), e, z⟩)
        simpa using this
      rw [n]; exact mem_look nd.2 e
end
noncomputable def setN (rs : List (Str × List Nat)) (nm : Str) (xs : List Nat) : List (Str × List Nat) := rs.map fun r => if r.1 = nm then (nm, xs) else r
theorem look_setN {nm m : Str} {xs : List Nat} : ∀ {rs : List (Str × List Nat)}, (setN rs nm xs).lookup m = if m = nm then (rs.lookup m).map fun _ => xs else rs.lookup m
  | [] => by simp [setN]
  | r :: t => by
    have ih := @look_setN nm m xs t
    unfold setN at ih ⊢
    obtain ⟨a, ys⟩ := r
    simp only [List.map_cons]
    by_cases e1 : a = nm
    · subst e1
      simp only [if_true, List.lookup_cons]
      by_cases e2 : m = a
      · subst e2; simp
      · have : (m == a) = false := by simpa using e2
        simp only [this]; rw [ih]
    · simp only [e1, if_false, List.lookup_cons]
      by_cases e2 : m = a
      · subst e2; simp [e1]
      · have : (m == a) = false := by simpa using e2
        simp only [this]; rw [ih]
variable (t : TF)
noncomputable def restsAt (rs : List (Int × Int)) (turn : Int) : Bool := rs.any fun p => decide (p.1 ≤ turn) && decide (turn < p.2)
noncomputable def rowAt (nm : Str) : List Nat := (t.rows.lookup nm).getD []
noncomputable def talAt (nm : Str) : Int := (t.tal.lookup nm).getD 0
noncomputable def leftAt (nm : Str) : Int := (t.stock.lookup nm).getD 0
noncomputable def waits (n : Nat) : Bool := match t.ppl[n]? with
  | some v => v.til.isNone
  | none => false
noncomputable def rankOf (n : Nat) : Int := match t.ppl[n]? with
  | some v => v.rank
  | none => 0
noncomputable def best (rk : Nat → Int) (ranked : Bool) : List Nat → Nat
  | [] => 0
  | w :: r => if ranked = true then (w :: r).foldl (fun first n => if rk n > rk first then n else first) w else w
noncomputable def canDesk (n : Nat) (nm : Str) (hands : Int) (ranked : Bool) (rests : List (Int × Int)) (turn : Int) : Bool :=
  decide (((rowAt t nm).length : Int) - ((rowAt t nm).filter (waits t)).length < hands) && !restsAt rests turn && decide (best (rankOf t) ranked ((rowAt t nm).filter (waits t)) = n)
noncomputable def canTl (n : Nat) (v : Vs) (turn : Int) : Tl → Bool
  | .exit _ => false
  | .way _ k _ => decide (v.since + k ≤ turn)
  | .desk nm hands _ ranked rests _ => match v.til with
    | some u => decide (u ≤ turn)
    | none => canDesk t n nm hands ranked rests turn
  | .gate _ (.opens m k) _ => decide (turn % m < k)
  | .gate _ (.below m a) _ => decide (((rowAt t a).length : Int) < m)
  | .lend _ p _ => decide (0 < leftAt t p)
  | _ => true
noncomputable def leastOf (f : Str → Nat) : List Str → Str
  | [] => Str.empty
  | a :: r => r.foldl (fun b x => if f x < f b then x else b) a
noncomputable def goalT (n : Nat) : Tl → Str
  | .fork nm .turns ths => ths.getD (talAt t nm % ths.length).toNat Str.empty
  | .fork _ .number ths => ths.getD (n % ths.length) Str.empty
  | .fork _ .least ths => leastOf (fun a => (rowAt t a).length) ths
  | .exit a => a
  | .way _ _ a => a
  | .desk _ _ _ _ _ a => a
  | .gate _ _ a => a
  | .lend _ _ a => a
  | .give _ _ a => a
  | .pool a _ => a
  | .door _ _ _ a => a
noncomputable def comeT (nm : Str) (rank turn : Int) : TF := { t with ppl := t.ppl ++ [⟨rank, nm, turn, none, []⟩], rows := setN t.rows nm (rowAt t nm ++ [t.ppl.length]) }
noncomputable def beginT (n : Nat) (v : Vs) (nm : Str) (takes : List Int) (turn : Int) : TF := { t with ppl := t.ppl.set n { v with til := some (turn + takes.getD (talAt t nm % takes.length).toNat 0) }, tal := putL t.tal nm (talAt t nm + 1) }
noncomputable def talB : Tl → List (Str × Int)
  | .fork nm _ _ => putL t.tal nm (talAt t nm + 1)
  | _ => t.tal
noncomputable def stockB : Tl → List (Str × Int)
  | .lend _ p _ => putL t.stock p (leftAt t p - 1)
  | .give _ p _ => putL t.stock p (leftAt t p + 1)
  | _ => t.stock
noncomputable def thingsB (xs : List Str) : Tl → List Str
  | .lend _ p _ => if p ∈ xs then xs else xs ++ [p]
  | .give _ p _ => xs.erase p
  | _ => xs
noncomputable def goT (n : Nat) (v : Vs) (tl : Tl) (th : Str) (turn : Int) : TF :=
  { t with tal := talB t tl, stock := stockB t tl, rows := setN (setN t.rows v.st ((rowAt t v.st).erase n)) th (((setN t.rows v.st ((rowAt t v.st).erase n)).lookup th).getD [] ++ [n]), ppl := t.ppl.set n { v with st := th, since := turn, til := none, things := thingsB v.things tl } }
noncomputable def moveTl (n : Nat) (v : Vs) (turn : Int) : Tl → TF
  | .desk nm hands takes ranked rests th => match v.til with
    | none => beginT t n v nm takes turn
    | some _ => goT t n v (.desk nm hands takes ranked rests th) th turn
  | tl => goT t n v tl (goalT t n tl) turn
noncomputable def wordTl (n : Nat) (v : Vs) : Tl → Str × Str
  | .desk nm _ _ _ _ th => match v.til with
    | none => ("begins", nm)
    | some _ => ("enters", th)
  | tl => ("enters", goalT t n tl)
noncomputable def okTl : Tl → Prop
  | .desk _ _ ts _ rs _ => ts ≠ [] ∧ ts.length ≤ 1000 ∧ rs.length ≤ 1000
  | .gate _ (.opens m _) _ => 0 < m
  | .fork _ _ ths => ths ≠ [] ∧ ths.length ≤ 1000
  | .door _ _ (.at_ ts) _ => ts.length ≤ 1000
  | _ => True
noncomputable def labTl (h : Str → List Str) (stock : List (Str × Int)) : Tl → Prop
  | .lend nm p th => p ∉ h nm ∧ h th = h nm ++ [p] ∧ ∃ k, stock.lookup p = some k
  | .give nm p th => p ∈ h nm ∧ h th = (h nm).erase p ∧ ∃ k, stock.lookup p = some k
  | .gate nm (.below _ a) th => h th = h nm
  | .door nm _ _ th => h nm = [] ∧ h th = []
  | .pool _ _ => True
  | tl => ∀ b ∈ tl.thens, h b = h tl.name
structure Wf (h : Str → List Str) (t : TF) : Prop where
  nm : ∀ a tl, t.plan.lookup a = some tl → tl.name = a
  rw_ : ∀ a tl, t.plan.lookup a = some tl → ∃ row, t.rows.lookup a = some row
  ta : ∀ a tl, t.plan.lookup a = some tl → ∃ k, t.tal.lookup a = some k
  thn : ∀ a tl, t.plan.lookup a = some tl → ∀ b ∈ tl.thens, ∃ tl', t.plan.lookup b = some tl'
  bl : ∀ a nm m b th, t.plan.lookup a = some (.gate nm (.below m b) th) → ∃ tl', t.plan.lookup b = some tl'
  ok : ∀ a tl, t.plan.lookup a = some tl → okTl tl
  lab : ∀ a tl, t.plan.lookup a = some tl → labTl h t.stock tl
  st : ∀ (n : Nat) (v : Vs), t.ppl[n]? = some v → ∃ tl, t.plan.lookup v.st = some tl
  mem : ∀ (n : Nat) (v : Vs), t.ppl[n]? = some v → n ∈ rowAt t v.st
  inr : ∀ a row, t.rows.lookup a = some row → row.Nodup ∧ ∀ n ∈ row, ∃ v, t.ppl[n]? = some v ∧ v.st = a
  hd : ∀ (n : Nat) (v : Vs), t.ppl[n]? = some v → v.things = h v.st
  pl : t.plan.length ≤ 1000
  tll : t.tal.length ≤ 1000
  sl : t.stock.length ≤ 1000
section
variable {t : TF} {h : Str → List Str}
theorem row_at {nm : Str} {xs : List Nat} (e : t.rows.lookup nm = some xs) : rowAt t nm = xs := by unfold rowAt; rw [e]; rfl
theorem tal_at {nm : Str} {k : Int} (e : t.tal.lookup nm = some k) : talAt t nm = k := by unfold talAt; rw [e]; rfl
theorem left_at {nm : Str} {k : Int} (e : t.stock.lookup nm = some k) : leftAt t nm = k := by unfold leftAt; rw [e]; rfl
theorem nodup_lt : ∀ (n : Nat) (l : List Nat), l.Nodup → (∀ x ∈ l, x < n) → l.length ≤ n
  | 0, l, _, h => by
    cases l with
    | nil => exact Nat.le_refl _
    | cons a r => exact absurd (h a List.mem_cons_self) (Nat.not_lt_zero _)
  | n + 1, l, nd, h => by
    have nd' := nd.erase n
    have h' : ∀ x ∈ l.erase n, x < n := fun x hx => by
      have := (nd.mem_erase_iff).mp hx
      have := h x this.2
      omega
    have := nodup_lt n _ nd' h'
    have := List.le_length_erase (a := n) (l := l)
    omega
theorem Wf.lt (w : Wf h t) {a : Str} {row : List Nat} (e : t.rows.lookup a = some row) : ∀ n ∈ row, n < t.ppl.length := fun n hn => by
  obtain ⟨v, q, _⟩ := (w.inr a row e).2 n hn
  exact (List.getElem?_eq_some_iff.mp q).1
theorem Wf.len (w : Wf h t) {a : Str} {row : List Nat} (e : t.rows.lookup a = some row) : row.length ≤ t.ppl.length := nodup_lt _ _ (w.inr a row e).1 (w.lt e)
theorem Wf.at_ (w : Wf h t) {n : Nat} {v : Vs} (e : t.ppl[n]? = some v) : ∃ tl row, t.plan.lookup v.st = some tl ∧ t.rows.lookup v.st = some row ∧ n ∈ row := by
  obtain ⟨tl, q⟩ := w.st n v e
  obtain ⟨row, q'⟩ := w.rw_ _ _ q
  have := w.mem n v e
  rw [row_at q'] at this
  exact ⟨tl, row, q, q', this⟩
theorem Wf.come (w : Wf h t) {nm : Str} {r : Int} {c : Com} {th : Str} (turn : Int) (e : t.plan.lookup nm = some (.door nm r c th)) : Wf h (comeT t nm r turn) := by
  obtain ⟨row, hr⟩ := w.rw_ _ _ e
  have er : rowAt t nm = row := row_at hr
  have lk : ∀ m, (comeT t nm r turn).rows.lookup m = if m = nm then some (row ++ [t.ppl.length]) else t.rows.lookup m := fun m => by
    show (setN t.rows nm (rowAt t nm ++ [t.ppl.length])).lookup m = _
    rw [look_setN, er]
    by_cases z : m = nm
    · rw [if_pos z, if_pos z, z, hr]; rfl
    · rw [if_neg z, if_neg z]
  have old : ∀ (n : Nat) (v : Vs), t.ppl[n]? = some v → (comeT t nm r turn).ppl[n]? = some v := fun n v q => by
    show (t.ppl ++ [_])[n]? = _
    rw [List.getElem?_append_left (List.getElem?_eq_some_iff.mp q).1]; exact q
  have new : (comeT t nm r turn).ppl[t.ppl.length]? = some ⟨r, nm, turn, none, []⟩ := by
    show (t.ppl ++ [_])[t.ppl.length]? = _
    rw [List.getElem?_append_right (Nat.le_refl _), Nat.sub_self]; rfl
  have bk : ∀ (n : Nat) (v : Vs), (comeT t nm r turn).ppl[n]? = some v → t.ppl[n]? = some v ∨ (n = t.ppl.length ∧ v = ⟨r, nm, turn, none, []⟩) := fun n v q => by
    by_cases z : n < t.ppl.length
    · left
      have q : (t.ppl ++ [_])[n]? = some v := q
      rw [List.getElem?_append_left z] at q; exact q
    · have hl : n < (t.ppl ++ [(⟨r, nm, turn, none, []⟩ : Vs)]).length := (List.getElem?_eq_some_iff.mp q).1
      rw [List.length_append, List.length_singleton] at hl
      have : n = t.ppl.length := by omega
      subst this
      rw [new] at q; cases q; exact .inr ⟨rfl, rfl⟩
  refine ⟨w.nm, fun a tl q => ?_, w.ta, w.thn, w.bl, w.ok, w.lab, fun n v q => ?_, fun n v q => ?_, fun a rw q => ?_, fun n v q => ?_, w.pl, w.tll, w.sl⟩
  · rw [lk]
    by_cases z : a = nm
    · rw [if_pos z]; exact ⟨_, rfl⟩
    · rw [if_neg z]; exact w.rw_ a tl q
  · rcases bk n v q with z | ⟨_, rfl⟩
    · exact w.st n v z
    · exact ⟨_, e⟩
  · unfold rowAt
    rw [lk]
    rcases bk n v q with z | ⟨rfl, rfl⟩
    · have m := w.mem n v z
      by_cases z' : v.st = nm
      · rw [if_pos z']
        rw [z', er] at m
        exact List.mem_append.mpr (.inl m)
      · rw [if_neg z']; exact m
    · rw [if_pos rfl]; exact List.mem_append.mpr (.inr (List.mem_singleton.mpr rfl))
  · rw [lk] at q
    by_cases z : a = nm
    · rw [if_pos z] at q; cases q
      obtain ⟨nd, hm⟩ := w.inr nm row hr
      refine ⟨List.nodup_append.mpr ⟨nd, by simp, fun x hx y hy => ?_⟩, fun n hn => ?_⟩
      · have := w.lt hr x hx
        rw [List.mem_singleton.mp hy]; omega
      · rcases List.mem_append.mp hn with y | y
        · obtain ⟨v, g1, g2⟩ := hm n y
          exact ⟨v, old n v g1, by rw [g2, z]⟩
        · rw [List.mem_singleton.mp y]
          exact ⟨_, new, z.symm⟩
    · rw [if_neg z] at q
      obtain ⟨nd, hm⟩ := w.inr a rw q
      exact ⟨nd, fun n hn => let ⟨v, g1, g2⟩ := hm n hn; ⟨v, old n v g1, g2⟩⟩
  · rcases bk n v q with z | ⟨_, rfl⟩
    · exact w.hd n v z
    · exact (w.lab _ _ e).1.symm
theorem Wf.beg (w : Wf h t) {n : Nat} {v : Vs} {nm : Str} {takes : List Int} {k turn : Int} (hv : t.ppl[n]? = some v) (hk : t.tal.lookup nm = some k) : Wf h (beginT t n v nm takes turn) := by
  have hlt := (List.getElem?_eq_some_iff.mp hv).1
  obtain ⟨v', ev'⟩ : ∃ v' : Vs, v' = { v with til := some (turn + takes.getD (talAt t nm % takes.length).toNat 0) } := ⟨_, rfl⟩
  have ep : (beginT t n v nm takes turn).ppl = t.ppl.set n v' := by rw [ev']; rfl
  have bk : ∀ (m : Nat) (u : Vs), (beginT t n v nm takes turn).ppl[m]? = some u → ∃ u0, t.ppl[m]? = some u0 ∧ u0.st = u.st ∧ u0.things = u.things := fun m u q => by
    rw [ep] at q
    by_cases z : m = n
    · subst z
      rw [List.getElem?_set_self hlt] at q; cases q
      exact ⟨v, hv, by rw [ev'], by rw [ev']⟩
    · rw [List.getElem?_set_ne (fun w => z w.symm)] at q
      exact ⟨u, q, rfl, rfl⟩
  have fw : ∀ (m : Nat) (u : Vs), t.ppl[m]? = some u → ∃ u1, (beginT t n v nm takes turn).ppl[m]? = some u1 ∧ u1.st = u.st := fun m u q => by
    rw [ep]
    by_cases z : m = n
    · subst z
      rw [hv] at q; cases q
      exact ⟨v', List.getElem?_set_self hlt, by rw [ev']⟩
    · exact ⟨u, by rw [List.getElem?_set_ne (fun w => z w.symm)]; exact q, rfl⟩
  refine ⟨w.nm, w.rw_, fun a tl q => ?_, w.thn, w.bl, w.ok, w.lab, fun m u q => ?_, fun m u q => ?_, fun a rw q => ?_, fun m u q => ?_, w.pl, ?_, w.sl⟩
  · show ∃ k, (putL t.tal nm _).lookup a = some k
    rw [look_put]
    by_cases z : a = nm
    · rw [if_pos z]; exact ⟨_, rfl⟩
    · rw [if_neg z]; exact w.ta a tl q
  · obtain ⟨u0, g1, g2, _⟩ := bk m u q
    rw [← g2]; exact w.st m u0 g1
  · obtain ⟨u0, g1, g2, _⟩ := bk m u q
    rw [← g2]; exact w.mem m u0 g1
  · obtain ⟨nd, hm⟩ := w.inr a rw q
    refine ⟨nd, fun x hx => ?_⟩
    obtain ⟨u, g1, g2⟩ := hm x hx
    obtain ⟨u1, g3, g4⟩ := fw x u g1
    exact ⟨u1, g3, by rw [g4, g2]⟩
  · obtain ⟨u0, g1, g2, g3⟩ := bk m u q
    rw [← g3, ← g2]; exact w.hd m u0 g1
  · show (putL t.tal nm _).length ≤ _
    rw [put_len hk]; exact w.tll
theorem go_look {n : Nat} {v : Vs} {tl : Tl} {th m : Str} {turn : Int} {row ys : List Nat} (hr : t.rows.lookup v.st = some row) (hy : (setN t.rows v.st (row.erase n)).lookup th = some ys) : (goT t n v tl th turn).rows.lookup m = if m = th then some (ys ++ [n]) else if m = v.st then some (row.erase n) else t.rows.lookup m := by
  show (setN (setN t.rows v.st ((rowAt t v.st).erase n)) th _).lookup m = _
  rw [row_at hr, hy, look_setN]
  by_cases e : m = th
  · rw [if_pos e, if_pos e, e, hy]; rfl
  · rw [if_neg e, if_neg e, look_setN]
    by_cases e' : m = v.st
    · rw [if_pos e', if_pos e', e', hr]; rfl
    · rw [if_neg e', if_neg e']
theorem go_hy (w : Wf h t) {n : Nat} {v : Vs} {th : Str} {row : List Nat} {tl' : Tl} (hv : t.ppl[n]? = some v) (hr : t.rows.lookup v.st = some row) (hp : t.plan.lookup th = some tl') : ∃ ys, (setN t.rows v.st (row.erase n)).lookup th = some ys ∧ n ∉ ys ∧ (∀ x ∈ ys, ∃ u, t.ppl[x]? = some u ∧ u.st = th) ∧ ys.Nodup := by
  obtain ⟨r', hr'⟩ := w.rw_ _ _ hp
  rw [look_setN]
  by_cases e : th = v.st
  · rw [if_pos e, e, hr]
    obtain ⟨nd, hm⟩ := w.inr _ _ hr
    exact ⟨row.erase n, rfl, fun z => ((nd.mem_erase_iff).mp z).1 rfl, fun x hx => hm x ((nd.mem_erase_iff).mp hx).2, nd.erase _⟩
  · rw [if_neg e, hr']
    obtain ⟨nd, hm⟩ := w.inr _ _ hr'
    exact ⟨r', rfl, fun z => by
      obtain ⟨u, g1, g2⟩ := hm n z
      rw [hv] at g1; cases g1; exact e g2.symm, hm, nd⟩
theorem lab_th (w : Wf h t) {a th : Str} {tl : Tl} (hp : t.plan.lookup a = some tl) (hth : th ∈ tl.thens) : thingsB (h a) tl = h th := by
  have hn := w.nm _ _ hp
  have hl := w.lab _ _ hp
  rw [← hn]
  cases tl with
  | lend nm p b =>
    have e : th = b := List.mem_singleton.mp hth
    subst e
    show (if p ∈ h nm then h nm else h nm ++ [p]) = _
    rw [if_neg hl.1]; exact hl.2.1.symm
  | give nm p b =>
    have e : th = b := List.mem_singleton.mp hth
    subst e
    exact hl.2.1.symm
  | gate nm r b =>
    have e : th = b := List.mem_singleton.mp hth
    subst e
    cases r with
    | opens m k => exact (hl th hth).symm
    | below m x =>
      have hl : h th = h nm := hl
      exact hl.symm
  | door nm r c b =>
    have e : th = b := List.mem_singleton.mp hth
    subst e
    have hl : h nm = [] ∧ h th = [] := hl
    show h nm = h th
    rw [hl.1, hl.2]
  | pool nm k => cases hth
  | exit nm => cases hth
  | way nm k b => exact (hl th hth).symm
  | desk nm a b c d e => exact (hl th hth).symm
  | fork nm r ths => exact (hl th hth).symm
theorem talB_look {tl : Tl} {a : Str} (hx : ∃ k, t.tal.lookup a = some k) : ∃ k, (talB t tl).lookup a = some k := by
  cases tl with
  | fork nm r ths =>
    show ∃ k, (putL t.tal nm _).lookup a = some k
    rw [look_put]
    by_cases z : a = nm
    · rw [if_pos z]; exact ⟨_, rfl⟩
    · rw [if_neg z]; exact hx
  | _ => exact hx
theorem stockB_look {tl : Tl} {a : Str} (hx : ∃ k, t.stock.lookup a = some k) : ∃ k, (stockB t tl).lookup a = some k := by
  cases tl with
  | lend nm p b =>
    show ∃ k, (putL t.stock p _).lookup a = some k
    rw [look_put]
    by_cases z : a = p
    · rw [if_pos z]; exact ⟨_, rfl⟩
    · rw [if_neg z]; exact hx
  | give nm p b =>
    show ∃ k, (putL t.stock p _).lookup a = some k
    rw [look_put]
    by_cases z : a = p
    · rw [if_pos z]; exact ⟨_, rfl⟩
    · rw [if_neg z]; exact hx
  | _ => exact hx
theorem labTl_mono {tl : Tl} {s s' : List (Str × Int)} (hs : ∀ a, (∃ k, s.lookup a = some k) → ∃ k, s'.lookup a = some k) (l : labTl h s tl) : labTl h s' tl := by
  cases tl with
  | lend nm p b => exact ⟨l.1, l.2.1, hs _ l.2.2⟩
  | give nm p b => exact ⟨l.1, l.2.1, hs _ l.2.2⟩
  | gate nm r b => cases r <;> exact l
  | _ => exact l
theorem talB_len (w : Wf h t) {a : Str} {tl : Tl} (hp : t.plan.lookup a = some tl) : (talB t tl).length = t.tal.length := by
  obtain ⟨k, hk⟩ := w.ta _ _ hp
  have hn := w.nm _ _ hp
  cases tl with
  | fork nm r ths =>
    have hn : nm = a := hn
    subst hn
    exact put_len hk
  | _ => rfl
theorem stockB_len (w : Wf h t) {a : Str} {tl : Tl} (hp : t.plan.lookup a = some tl) : (stockB t tl).length = t.stock.length := by
  have hl := w.lab _ _ hp
  cases tl with
  | lend nm p b => obtain ⟨k, hk⟩ := hl.2.2; exact put_len hk
  | give nm p b => obtain ⟨k, hk⟩ := hl.2.2; exact put_len hk
  | _ => rfl
theorem Wf.go (w : Wf h t) {n : Nat} {v : Vs} {tl : Tl} {th : Str} (turn : Int) (hv : t.ppl[n]? = some v) (hp : t.plan.lookup v.st = some tl) (hth : th ∈ tl.thens) : Wf h (goT t n v tl th turn) := by
  have hlt := (List.getElem?_eq_some_iff.mp hv).1
  obtain ⟨row, hr⟩ := w.rw_ _ _ hp
  obtain ⟨tl', hp'⟩ := w.thn _ _ hp th hth
  obtain ⟨ys, hy, ny, my, ndy⟩ := go_hy w (n := n) hv hr hp'
  have lk := fun m => go_look (t := t) (n := n) (v := v) (tl := tl) (th := th) (m := m) (turn := turn) hr hy
  obtain ⟨v', ev'⟩ : ∃ v' : Vs, v' = { v with st := th, since := turn, til := none, things := thingsB v.things tl } := ⟨_, rfl⟩
  have es : v'.st = th := by rw [ev']
  have ep : (goT t n v tl th turn).ppl = t.ppl.set n v' := by rw [ev']; rfl
  have self : (goT t n v tl th turn).ppl[n]? = some v' := by rw [ep]; exact List.getElem?_set_self hlt
  have oth : ∀ (m : Nat), m ≠ n → (goT t n v tl th turn).ppl[m]? = t.ppl[m]? := fun m z => by rw [ep, List.getElem?_set_ne (fun w => z w.symm)]
  refine ⟨w.nm, fun a tl q => ?_, fun a tl q => talB_look (w.ta a tl q), w.thn, w.bl, w.ok, fun a tl q => labTl_mono (fun b hb => stockB_look hb) (w.lab a tl q), fun m u q => ?_, fun m u q => ?_, fun a rw q => ?_, fun m u q => ?_, w.pl, ?_, ?_⟩
  · rw [lk]
    by_cases z : a = th
    · rw [if_pos z]; exact ⟨_, rfl⟩
    · rw [if_neg z]
      by_cases z' : a = v.st
      · rw [if_pos z']; exact ⟨_, rfl⟩
      · rw [if_neg z']; exact w.rw_ a tl q
  · by_cases z : m = n
    · subst z
      rw [self] at q; cases q
      rw [es]; exact ⟨_, hp'⟩
    · rw [oth m z] at q; exact w.st m u q
  · unfold rowAt
    rw [lk]
    by_cases z : m = n
    · subst z
      rw [self] at q; cases q
      rw [if_pos es]; exact List.mem_append.mpr (.inr (List.mem_singleton.mpr rfl))
    · rw [oth m z] at q
      have hm := w.mem m u q
      by_cases z1 : u.st = th
      · rw [if_pos z1]
        refine List.mem_append.mpr (.inl ?_)
        rw [z1] at hm
        rw [look_setN] at hy
        by_cases z2 : th = v.st
        · rw [if_pos z2, z2, hr] at hy
          cases hy
          rw [z2, row_at hr] at hm
          exact ((w.inr _ _ hr).1.mem_erase_iff).mpr ⟨z, hm⟩
        · rw [if_neg z2] at hy
          rw [row_at hy] at hm
          exact hm
      · rw [if_neg z1]
        by_cases z2 : u.st = v.st
        · rw [if_pos z2]
          rw [z2, row_at hr] at hm
          exact ((w.inr _ _ hr).1.mem_erase_iff).mpr ⟨z, hm⟩
        · rw [if_neg z2]; exact hm
  · rw [lk] at q
    by_cases z : a = th
    · rw [if_pos z] at q; cases q
      refine ⟨List.nodup_append.mpr ⟨ndy, by simp, fun x hx y hy' => ?_⟩, fun x hx => ?_⟩
      · rw [List.mem_singleton.mp hy']
        intro e; rw [e] at hx; exact ny hx
      · rcases List.mem_append.mp hx with y | y
        · have nx : x ≠ n := fun e => by rw [e] at y; exact ny y
          obtain ⟨u, g1, g2⟩ := my x y
          exact ⟨u, by rw [oth x nx]; exact g1, by rw [g2, z]⟩
        · rw [List.mem_singleton.mp y]
          exact ⟨v', self, by rw [es, z]⟩
    · rw [if_neg z] at q
      by_cases z' : a = v.st
      · rw [if_pos z'] at q; cases q
        obtain ⟨nd, hm⟩ := w.inr _ _ hr
        refine ⟨nd.erase _, fun x hx => ?_⟩
        have hx' := (nd.mem_erase_iff).mp hx
        obtain ⟨u, g1, g2⟩ := hm x hx'.2
        exact ⟨u, by rw [oth x hx'.1]; exact g1, by rw [g2, z']⟩
      · rw [if_neg z'] at q
        obtain ⟨nd, hm⟩ := w.inr a rw q
        refine ⟨nd, fun x hx => ?_⟩
        obtain ⟨u, g1, g2⟩ := hm x hx
        have nx : x ≠ n := fun e => by
          rw [e, hv] at g1; cases g1; exact z' g2.symm
        exact ⟨u, by rw [oth x nx]; exact g1, g2⟩
  · by_cases z : m = n
    · subst z
      rw [self] at q; cases q
      rw [es, ev']
      show thingsB v.things tl = _
      rw [w.hd _ _ hv]
      exact lab_th w hp hth
    · rw [oth m z] at q; exact w.hd m u q
  · show (talB t tl).length ≤ _; rw [talB_len w hp]; exact w.tll
  · show (stockB t tl).length ≤ _; rw [stockB_len w hp]; exact w.sl
theorem least_mem (f : Str → Nat) : ∀ (r : List Str) (a : Str), r.foldl (fun b x => if f x < f b then x else b) a ∈ a :: r
  | [], a => List.mem_singleton.mpr rfl
  | x :: r, a => by
    rw [List.foldl_cons]
    have := least_mem f r (if f x < f a then x else a)
    rcases List.mem_cons.mp this with e | e
    · rw [e]; split
      · exact List.mem_cons_of_mem _ List.mem_cons_self
      · exact List.mem_cons_self
    · exact List.mem_cons_of_mem _ (List.mem_cons_of_mem _ e)
theorem goal_mem {n : Nat} {tl : Tl} (ok : okTl tl) (he : ∀ a, tl ≠ .exit a) (hpl : ∀ a k, tl ≠ .pool a k) : goalT t n tl ∈ tl.thens := by
  have get : ∀ (l : List Str) (i : Nat), i < l.length → l.getD i Str.empty ∈ l := fun l i hi => by
    rw [List.getD_eq_getElem?_getD, List.getElem?_eq_getElem hi]; exact List.getElem_mem _
  cases tl with
  | exit a => exact absurd rfl (he a)
  | pool a k => exact absurd rfl (hpl a k)
  | fork nm r ths =>
    have hl : 0 < ths.length := List.length_pos_iff.mpr ok.1
    cases r with
    | turns =>
      refine get ths (talAt t nm % ((ths.length : Nat) : Int)).toNat ?_
      have g1 := Int.emod_nonneg (talAt t nm) (show ((ths.length : Nat) : Int) ≠ 0 by omega)
      have g2 := Int.emod_lt_of_pos (talAt t nm) (show (0 : Int) < ((ths.length : Nat) : Int) by omega)
      generalize talAt t nm % ((ths.length : Nat) : Int) = z at g1 g2 ⊢
      omega
    | number => exact get _ _ (Nat.mod_lt _ hl)
    | least =>
      show leastOf _ ths ∈ ths
      cases ths with
      | nil => exact absurd rfl ok.1
      | cons a r => exact least_mem _ r a
  | _ => exact List.mem_singleton.mpr rfl
theorem Wf.move (w : Wf h t) {n : Nat} {v : Vs} {tl : Tl} (turn : Int) (hv : t.ppl[n]? = some v) (hp : t.plan.lookup v.st = some tl) (he : ∀ a, tl ≠ .exit a) (hpl : ∀ a k, tl ≠ .pool a k) : Wf h (moveTl t n v turn tl) := by
  have hg := goal_mem (t := t) (n := n) (w.ok _ _ hp) he hpl
  cases tl with
  | desk nm hands takes ranked rests th =>
    unfold moveTl
    cases v.til with
    | none =>
      obtain ⟨k, hk⟩ := w.ta _ _ hp
      have hn : nm = v.st := w.nm _ _ hp
      exact w.beg hv (by rw [hn]; exact hk)
    | some u => exact w.go turn hv hp (List.mem_singleton.mpr rfl)
  | exit a => exact absurd rfl (he a)
  | pool a k => exact absurd rfl (hpl a k)
  | _ => exact w.go turn hv hp hg
end
end H
set_option maxHeartbeats 1000000
namespace H
open PySem
noncomputable def poolOf : Tl → Option (Str × Int)
  | .pool n m => some (n, m)
  | _ => none
noncomputable def TFa (ts : List Tl) : TF := { plan := ts.map fun t => (t.name, t), rows := ts.map fun t => (t.name, []), tal := ts.map fun t => (t.name, 0) }
noncomputable def TF0 (ts : List Tl) : TF := { TFa ts with stock := ts.filterMap poolOf }
theorem put_new {α : Type} {l : List (Str × α)} {k : Str} {v : α} (h : l.lookup k = none) : putL l k v = l ++ [(k, v)] := by
  unfold putL
  rw [if_neg]
  intro z
  have := any_look.mp z
  rw [h] at this; cases this
theorem look_map {α : Type} {g : Tl → α} {t : Tl} : ∀ {ts : List Tl}, (ts.map Tl.name).Nodup → t ∈ ts → (ts.map fun t => (t.name, g t)).lookup t.name = some (g t)
  | [], _, h => by cases h
  | u :: ts, nd, h => by
    rw [List.map_cons, List.nodup_cons] at nd
    rw [List.map_cons, List.lookup_cons]
    rcases List.mem_cons.mp h with e | e
    · subst e; simp
    · have n : (t.name == u.name) = false := by
        have : t.name ≠ u.name := fun z => nd.1 (List.mem_map.mpr ⟨t, e, z⟩)
        simpa using this
      simp only [n]; exact look_map nd.2 e
theorem look_map_inv {α : Type} {g : Tl → α} {a : Str} {x : α} : ∀ {ts : List Tl}, (ts.map fun t => (t.name, g t)).lookup a = some x → ∃ t ∈ ts, t.name = a ∧ g t = x
  | [], h => by cases h
  | u :: ts, h => by
    rw [List.map_cons, List.lookup_cons] at h
    cases e : a == u.name with
    | true =>
      rw [e] at h; cases h
      have : a = u.name := by simpa using e
      exact ⟨u, List.mem_cons_self, this.symm, rfl⟩
    | false =>
      rw [e] at h
      obtain ⟨t, h1, h2⟩ := look_map_inv h
      exact ⟨t, List.mem_cons_of_mem _ h1, h2⟩
theorem look_map_none {α : Type} {g : Tl → α} {a : Str} : ∀ {ts : List Tl}, a ∉ ts.map Tl.name → (ts.map fun t => (t.name, g t)).lookup a = none
  | [], h => rfl
  | u :: ts, h => by
    rw [List.map_cons, List.mem_cons] at h
    rw [List.map_cons, List.lookup_cons]
    have : (a == u.name) = false := by simpa using fun z => h (.inl z)
    rw [this]
    exact look_map_none fun z => h (.inr z)
theorem pools_keys : ∀ ts : List Tl, ((ts.filterMap poolOf).map (·.1)).Sublist (ts.map Tl.name)
  | [] => List.Sublist.refl _
  | t :: ts => by
    have ih := pools_keys ts
    rw [List.map_cons]
    cases t with
    | pool n m => rw [List.filterMap_cons_some (f := poolOf) (a := Tl.pool n m) (b := (n, m)) rfl, List.map_cons]; exact ih.cons₂ n
    | _ => rw [List.filterMap_cons_none (f := poolOf) rfl]; exact ih.cons _
theorem pool_look {ts : List Tl} {n : Str} {m : Int} (nd : (ts.map Tl.name).Nodup) (h : Tl.pool n m ∈ ts) : (ts.filterMap poolOf).lookup n = some m :=
  mem_look ((pools_keys ts).nodup nd) (List.mem_filterMap.mpr ⟨_, h, rfl⟩)
structure Good (h : Str → List Str) (ts : List Tl) : Prop where
  nd : (ts.map Tl.name).Nodup
  len : ts.length ≤ 1000
  thn : ∀ tl ∈ ts, ∀ b ∈ tl.thens, ∃ tl' ∈ ts, tl'.name = b
  bl : ∀ nm m b th, Tl.gate nm (.below m b) th ∈ ts → ∃ tl' ∈ ts, tl'.name = b
  ok : ∀ tl ∈ ts, okTl tl
  lab : ∀ tl ∈ ts, labTl h (ts.filterMap poolOf) tl
theorem Wf.start {h : Str → List Str} {ts : List Tl} (g : Good h ts) : Wf h (TF0 ts) := by
  have mk : ∀ a tl, (TF0 ts).plan.lookup a = some tl → tl ∈ ts ∧ tl.name = a := fun a tl q => by
    obtain ⟨t, h1, h2, h3⟩ := look_map_inv (g := id) q
    cases h3
    exact ⟨h1, h2⟩
  have fw : ∀ tl ∈ ts, (TF0 ts).plan.lookup tl.name = some tl := fun tl q => look_map (g := id) g.nd q
  refine ⟨fun a tl q => (mk a tl q).2, fun a tl q => ?_, fun a tl q => ?_, fun a tl q b hb => ?_, fun a nm m b th q => ?_, fun a tl q => g.ok tl (mk a tl q).1, fun a tl q => g.lab tl (mk a tl q).1, fun n v q => ?_, fun n v q => ?_, fun a row q => ?_, fun n v q => ?_, ?_, ?_, ?_⟩
  · obtain ⟨h1, h2⟩ := mk a tl q
    rw [← h2]; exact ⟨[], look_map (g := fun _ => []) g.nd h1⟩
  · obtain ⟨h1, h2⟩ := mk a tl q
    rw [← h2]; exact ⟨0, look_map (g := fun _ => 0) g.nd h1⟩
  · obtain ⟨h1, h2⟩ := mk a tl q
    obtain ⟨t', h3, h4⟩ := g.thn tl h1 b hb
    rw [← h4]; exact ⟨t', fw t' h3⟩
  · obtain ⟨h1, h2⟩ := mk a _ q
    obtain ⟨t', h3, h4⟩ := g.bl _ _ _ _ h1
    rw [← h4]; exact ⟨t', fw t' h3⟩
  · cases q
  · cases q
  · obtain ⟨t, h1, h2, h3⟩ := look_map_inv (g := fun _ => ([] : List Nat)) q
    cases h3
    exact ⟨List.nodup_nil, fun n hn => by cases hn⟩
  · cases q
  · show (ts.map _).length ≤ _; rw [List.length_map]; exact g.len
  · show (ts.map _).length ≤ _; rw [List.length_map]; exact g.len
  · exact Nat.le_trans (List.length_filterMap_le _ _) g.len
end H
set_option maxHeartbeats 1000000
namespace G1
open PySem L2 L3
structure Stp (M S M' S' : Mem) : Prop where
  le : Le S' M'
  kp : ∀ b o, M b = some o → S b = none → M' b = some o ∧ S' b = none
section
variable {M M' M'' S S' S'' : Mem} {Ss : List Mem} {p : Addr} {o o' : O}
theorem Stp.refl (h : Le S M) : Stp M S M S := ⟨h, fun b o x y => ⟨x, y⟩⟩
theorem Stp.trans (x : Stp M S M' S') (y : Stp M' S' M'' S'') : Stp M S M'' S'' := ⟨y.le, fun b o h n => let ⟨h1, n1⟩ := x.kp b o h n; y.kp b o h1 n1⟩
end
section
variable {σ : Type} {obj obj' : σ → Option O} {ad ad' : σ → Addr} {M M' : Mem}
noncomputable def Gr (obj : σ → Option O) (ad : σ → Addr) : Prop := ∀ s s' o o', obj s = some o → obj s' = some o' → ad s = ad s' → s = s'
open Classical in
noncomputable def fp (obj : σ → Option O) (ad : σ → Addr) : Mem := fun b => if h : ∃ s, (obj s).isSome = true ∧ ad s = b then obj h.choose else none
theorem fp_none {b : Addr} (h : ∀ s o, obj s = some o → ad s ≠ b) : fp obj ad b = none := by
  unfold fp
  split
  · rename_i z
    cases e : obj z.choose with
    | none => rfl
    | some o => exact absurd z.choose_spec.2 (h _ o e)
  · rfl
theorem fp_inv {b : Addr} {o : O} (h : fp obj ad b = some o) : ∃ s, obj s = some o ∧ ad s = b := by
  unfold fp at h
  split at h
  · rename_i z
    exact ⟨z.choose, h, z.choose_spec.2⟩
  · cases h
theorem fp_some (g : Gr obj ad) {s : σ} {o : O} (h : obj s = some o) : fp obj ad (ad s) = some o := by
  have z : ∃ s', (obj s').isSome = true ∧ ad s' = ad s := ⟨s, by rw [h]; rfl, rfl⟩
  unfold fp
  rw [dif_pos z]
  obtain ⟨z1, z2⟩ := z.choose_spec
  cases e : obj z.choose with
  | none => rw [e] at z1; cases z1
  | some u =>
    have := g _ _ _ _ e h z2
    rw [this, h] at e
    exact e.symm
theorem fp_no {b : Addr} (g : Gr obj ad) (h : fp obj ad b = none) {s : σ} {o : O} (e : obj s = some o) : ad s ≠ b := fun z => by
  rw [← z, fp_some g e] at h; cases h
theorem Gr.upd (g : Gr obj ad) (l : Le (fp obj ad) M) {s0 : σ} {o0 o : O} (e0 : obj s0 = some o0) (e1 : obj' s0 = some o) (e : ∀ s, s ≠ s0 → obj' s = obj s) : Gr obj' ad ∧ Stp M (fp obj ad) (put M (ad s0) o) (fp obj' ad) := by
  have dom : ∀ s u, obj' s = some u → ∃ u', obj s = some u' := fun s u q => by
    by_cases z : s = s0
    · subst z; exact ⟨_, e0⟩
    · rw [e s z] at q; exact ⟨_, q⟩
  have g' : Gr obj' ad := fun s s' u u' q q' z => let ⟨w, hw⟩ := dom s u q; let ⟨w', hw'⟩ := dom s' u' q'; g s s' w w' hw hw' z
  refine ⟨g', fun b u q => ?_, fun b u hb hn => ?_⟩
  · obtain ⟨s, hs, rfl⟩ := fp_inv q
    by_cases z : s = s0
    · subst z; rw [e1] at hs; cases hs; exact put_same
    · rw [e s z] at hs
      rw [put_ne (fun w => z (g s s0 u o0 hs e0 w))]
      exact l _ _ (fp_some g hs)
  · have n := fp_no g hn e0
    exact ⟨(put_ne (Ne.symm n)).trans hb, fp_none fun s w q z => let ⟨w', q'⟩ := dom s w q; fp_no g hn q' z⟩
theorem Gr.new (g : Gr obj ad) (l : Le (fp obj ad) M) {s0 : σ} {p : Addr} {o : O} (hp : M p = none) (n0 : obj s0 = none) (e1 : obj' s0 = some o) (e : ∀ s, s ≠ s0 → obj' s = obj s) (a1 : ad' s0 = p) (a : ∀ s, s ≠ s0 → ad' s = ad s) : Gr obj' ad' ∧ Stp M (fp obj ad) (put M p o) (fp obj' ad') := by
  have np : ∀ s u, obj s = some u → ad s ≠ p := fun s u q z => by
    have := l _ _ (fp_some g q)
    rw [z, hp] at this; cases this
  have g' : Gr obj' ad' := fun s s' u u' q q' z => by
    by_cases h1 : s = s0 <;> by_cases h2 : s' = s0
    · rw [h1, h2]
    · rw [h1, a1, a s' h2] at z
      rw [e s' h2] at q'
      exact absurd z.symm (np s' u' q')
    · rw [h2, a1, a s h1] at z
      rw [e s h1] at q
      exact absurd z (np s u q)
    · rw [a s h1, a s' h2] at z
      rw [e s h1] at q
      rw [e s' h2] at q'
      exact g s s' u u' q q' z
  refine ⟨g', fun b u q => ?_, fun b u hb hn => ⟨kpM hb hp, fp_none fun s w q z => ?_⟩⟩
  · obtain ⟨s, hs, rfl⟩ := fp_inv q
    by_cases z : s = s0
    · subst z; rw [e1] at hs; cases hs; rw [a1]; exact put_same
    · rw [e s z] at hs
      rw [a s z]
      exact kpM (l _ _ (fp_some g hs)) hp
  · by_cases z' : s = s0
    · rw [z', a1] at z; rw [← z, hp] at hb; cases hb
    · rw [e s z'] at q
      rw [a s z'] at z
      exact fp_no g hn q z
end
end G1
set_option maxHeartbeats 1000000
namespace G2
open PySem L2 L3 G1
inductive Slot where
  | fl | pl | sd | ta | sk | pp | row (n : Str) | vis (i : Nat) | th (i : Nat)
  deriving DecidableEq
structure Vst where
  rank : U
  st : U
  since : U
  til : U
  things : List Str
structure Fl where
  plan : List (Key × U) := []
  rows : List (Str × List Int) := []
  tal : List (Key × U) := []
  stock : List (Key × U) := []
  ppl : List Vst := []
  ex : List U := []
structure Rp where
  top : (Slot → Addr) → List U → O
  tc : ∀ ad ad' x, ad .pl = ad' .pl → ad .sd = ad' .sd → ad .ta = ad' .ta → ad .sk = ad' .sk → ad .pp = ad' .pp → top ad x = top ad' x
  vis : U → U → U → U → Addr → O
  th : List Str → O
noncomputable def rowsD (ad : Slot → Addr) (rs : List (Str × List Int)) : List (Key × U) := rs.map fun r => (.inr r.1, .ref (ad (.row r.1)))
noncomputable def pplL (ad : Slot → Addr) (n : Nat) : List U := (List.range n).map fun i => .ref (ad (.vis i))
noncomputable def obj (R : Rp) (ad : Slot → Addr) (f : Fl) : Slot → Option O
  | .fl => some (R.top ad f.ex)
  | .pl => some (.dct f.plan)
  | .sd => some (.dct (rowsD ad f.rows))
  | .ta => some (.dct f.tal)
  | .sk => some (.dct f.stock)
  | .pp => some (.lst (pplL ad f.ppl.length))
  | .row n => (f.rows.lookup n).map fun xs => .lst (xs.map U.int)
  | .vis i => (f.ppl[i]?).map fun v => R.vis v.rank v.st v.since v.til (ad (.th i))
  | .th i => (f.ppl[i]?).map fun v => R.th v.things
noncomputable def FP (R : Rp) (ad : Slot → Addr) (f : Fl) : Mem := fp (obj R ad f) ad
structure FS (R : Rp) (M : Mem) (ad : Slot → Addr) (f : Fl) : Prop where
  g : Gr (obj R ad f) ad
  l : Le (FP R ad f) M
structure Step (R : Rp) (M : Mem) (ad : Slot → Addr) (f : Fl) (M' : Mem) (ad' : Slot → Addr) (f' : Fl) : Prop where
  g : Gr (obj R ad' f') ad'
  st : Stp M (FP R ad f) M' (FP R ad' f')
  fl : ad' .fl = ad .fl
section
variable {R : Rp} {M M' : Mem} {ad ad' : Slot → Addr} {f f' : Fl}
theorem Step.fs (s : Step R M ad f M' ad' f') : FS R M' ad' f' := ⟨s.g, s.st.le⟩
theorem Step.refl (h : FS R M ad f) : Step R M ad f M ad f := ⟨h.g, .refl h.l, rfl⟩
theorem Step.trans {M'' : Mem} {ad'' : Slot → Addr} {f'' : Fl} (x : Step R M ad f M' ad' f') (y : Step R M' ad' f' M'' ad'' f'') : Step R M ad f M'' ad'' f'' := ⟨y.g, x.st.trans y.st, y.fl.trans x.fl⟩
theorem FS.at_ (h : FS R M ad f) {s : Slot} {o : O} (e : obj R ad f s = some o) : M (ad s) = some o := h.l _ _ (fp_some h.g e)
theorem FS.ne (h : FS R M ad f) {s s' : Slot} {o o' : O} (e : obj R ad f s = some o) (e' : obj R ad f s' = some o') (n : s ≠ s') : ad s ≠ ad s' := fun z => n (h.g s s' o o' e e' z)
theorem FS.new {p : Addr} {o : O} (h : FS R M ad f) (hp : M p = none) : FS R (put M p o) ad f := ⟨h.g, h.l.trans (Le.new hp)⟩
theorem FS.le (h : FS R M ad f) (l : Le M M') : FS R M' ad f := ⟨h.g, h.l.trans l⟩
theorem FS.upd (h : FS R M ad f) {s0 : Slot} {o0 o : O} (e0 : obj R ad f s0 = some o0) (e1 : obj R ad f' s0 = some o) (e : ∀ s, s ≠ s0 → obj R ad f' s = obj R ad f s) : Step R M ad f (put M (ad s0) o) ad f' :=
  let ⟨g, s⟩ := h.g.upd h.l e0 e1 e; ⟨g, s, rfl⟩
noncomputable def setV (f : Fl) (n : Nat) (v : Vst) : Fl := { f with ppl := f.ppl.set n v }
noncomputable def setRow (rs : List (Str × List Int)) (nm : Str) (xs : List Int) : List (Str × List Int) := rs.map fun r => if r.1 = nm then (nm, xs) else r
noncomputable def setR (f : Fl) (nm : Str) (xs : List Int) : Fl := { f with rows := setRow f.rows nm xs }
theorem lookup_setRow {nm m : Str} {xs : List Int} : ∀ {rs : List (Str × List Int)}, (setRow rs nm xs).lookup m = if m = nm then (rs.lookup m).map fun _ => xs else rs.lookup m
  | [] => by simp [setRow]
  | r :: t => by
    have ih := @lookup_setRow nm m xs t
    unfold setRow at ih ⊢
    obtain ⟨a, ys⟩ := r
    simp only [List.map_cons]
    by_cases e1 : a = nm
    · subst e1
      simp only [if_true, List.lookup_cons]
      by_cases e2 : m = a
      · subst e2; simp
      · have : (m == a) = false := by simpa using e2
        simp only [this]; rw [ih]
    · simp only [e1, if_false, List.lookup_cons]
      by_cases e2 : m = a
      · subst e2; simp [e1]
      · have : (m == a) = false := by simpa using e2
        simp only [this]; rw [ih]
theorem rowsD_set {nm : Str} {xs : List Int} {rs : List (Str × List Int)} : rowsD ad (setRow rs nm xs) = rowsD ad rs := by
  unfold rowsD setRow
  rw [List.map_map]
  apply List.map_congr_left
  intro r _
  show (Sum.inr (if r.1 = nm then (nm, xs) else r).1, U.ref (ad (.row (if r.1 = nm then (nm, xs) else r).1))) = _
  by_cases e : r.1 = nm
  · rw [if_pos e, e]
  · rw [if_neg e]
theorem FS.stepR (h : FS R M ad f) {nm : Str} {xs ys : List Int} (e : f.rows.lookup nm = some xs) : Step R M ad f (put M (ad (.row nm)) (.lst (ys.map U.int))) ad (setR f nm ys) := by
  refine h.upd (s0 := .row nm) (o0 := .lst (xs.map U.int)) (by show (f.rows.lookup nm).map _ = _; rw [e]; rfl) (by show ((setRow f.rows nm ys).lookup nm).map _ = _; rw [lookup_setRow, if_pos rfl, e]; rfl) fun s z => ?_
  cases s with
  | row m =>
    show ((setRow f.rows nm ys).lookup m).map _ = (f.rows.lookup m).map _
    rw [lookup_setRow, if_neg (fun w => z (by rw [w]))]
  | sd => show some (O.dct (rowsD ad (setRow f.rows nm ys))) = some (O.dct (rowsD ad f.rows)); rw [rowsD_set]
  | _ => rfl
theorem FS.stepV (h : FS R M ad f) {n : Nat} {v v' : Vst} (e : f.ppl[n]? = some v) (hk : v'.things = v.things) : Step R M ad f (put M (ad (.vis n)) (R.vis v'.rank v'.st v'.since v'.til (ad (.th n)))) ad (setV f n v') := by
  have hn : n < f.ppl.length := (List.getElem?_eq_some_iff.mp e).1
  refine h.upd (s0 := .vis n) (o0 := R.vis v.rank v.st v.since v.til (ad (.th n))) (by show (f.ppl[n]?).map _ = _; rw [e]; rfl) (by show ((f.ppl.set n v')[n]?).map _ = _; rw [List.getElem?_set_self hn]; rfl) fun s z => ?_
  cases s with
  | vis i =>
    show ((f.ppl.set n v')[i]?).map _ = (f.ppl[i]?).map _
    rw [List.getElem?_set_ne (fun w => z (by rw [w]))]
  | th i =>
    show ((f.ppl.set n v')[i]?).map _ = (f.ppl[i]?).map _
    by_cases w : n = i
    · subst w
      rw [List.getElem?_set_self hn, e]
      show some (R.th v'.things) = some (R.th v.things)
      rw [hk]
    · rw [List.getElem?_set_ne w]
  | pp => show some (O.lst (pplL ad (f.ppl.set n v').length)) = _; rw [List.length_set]; rfl
  | _ => rfl
theorem FS.stepTh (h : FS R M ad f) {n : Nat} {v : Vst} {ts : List Str} (e : f.ppl[n]? = some v) : Step R M ad f (put M (ad (.th n)) (R.th ts)) ad (setV f n { v with things := ts }) := by
  have hn : n < f.ppl.length := (List.getElem?_eq_some_iff.mp e).1
  refine h.upd (s0 := .th n) (o0 := R.th v.things) (by show (f.ppl[n]?).map _ = _; rw [e]; rfl) (by show ((f.ppl.set n _)[n]?).map _ = _; rw [List.getElem?_set_self hn]; rfl) fun s z => ?_
  cases s with
  | vis i =>
    show ((f.ppl.set n _)[i]?).map _ = (f.ppl[i]?).map _
    by_cases w : n = i
    · subst w
      rw [List.getElem?_set_self hn, e]; rfl
    · rw [List.getElem?_set_ne w]
  | th i =>
    show ((f.ppl.set n _)[i]?).map _ = (f.ppl[i]?).map _
    rw [List.getElem?_set_ne (fun w => z (by rw [w]))]
  | pp => show some (O.lst (pplL ad (f.ppl.set n _).length)) = _; rw [List.length_set]; rfl
  | _ => rfl
theorem FS.stepPl (h : FS R M ad f) {d : List (Key × U)} : Step R M ad f (put M (ad .pl) (.dct d)) ad { f with plan := d } :=
  h.upd (s0 := .pl) rfl rfl fun s z => by cases s <;> first | rfl | exact absurd rfl z
theorem FS.stepTa (h : FS R M ad f) {d : List (Key × U)} : Step R M ad f (put M (ad .ta) (.dct d)) ad { f with tal := d } :=
  h.upd (s0 := .ta) rfl rfl fun s z => by cases s <;> first | rfl | exact absurd rfl z
theorem FS.stepSk (h : FS R M ad f) {d : List (Key × U)} : Step R M ad f (put M (ad .sk) (.dct d)) ad { f with stock := d } :=
  h.upd (s0 := .sk) rfl rfl fun s z => by cases s <;> first | rfl | exact absurd rfl z
theorem FS.o (h : FS R M ad f) : M (ad .fl) = some (R.top ad f.ex) := h.at_ (s := .fl) rfl
theorem FS.pl (h : FS R M ad f) : M (ad .pl) = some (.dct f.plan) := h.at_ (s := .pl) rfl
theorem FS.sd (h : FS R M ad f) : M (ad .sd) = some (.dct (rowsD ad f.rows)) := h.at_ (s := .sd) rfl
theorem FS.ta (h : FS R M ad f) : M (ad .ta) = some (.dct f.tal) := h.at_ (s := .ta) rfl
theorem FS.sk (h : FS R M ad f) : M (ad .sk) = some (.dct f.stock) := h.at_ (s := .sk) rfl
theorem FS.pp (h : FS R M ad f) : M (ad .pp) = some (.lst (pplL ad f.ppl.length)) := h.at_ (s := .pp) rfl
theorem FS.row (h : FS R M ad f) {nm : Str} {xs : List Int} (e : f.rows.lookup nm = some xs) : M (ad (.row nm)) = some (.lst (xs.map U.int)) := h.at_ (s := .row nm) (by show (f.rows.lookup nm).map _ = _; rw [e]; rfl)
theorem FS.vis (h : FS R M ad f) {n : Nat} {v : Vst} (e : f.ppl[n]? = some v) : M (ad (.vis n)) = some (R.vis v.rank v.st v.since v.til (ad (.th n))) := h.at_ (s := .vis n) (by show (f.ppl[n]?).map _ = _; rw [e]; rfl)
theorem FS.th (h : FS R M ad f) {n : Nat} {v : Vst} (e : f.ppl[n]? = some v) : M (ad (.th n)) = some (R.th v.things) := h.at_ (s := .th n) (by show (f.ppl[n]?).map _ = _; rw [e]; rfl)
theorem valU_rows {nm : Str} {xs : List Int} : ∀ {rs : List (Str × List Int)}, rs.lookup nm = some xs → valU (rowsD ad rs) (.inr nm) = some (.ref (ad (.row nm)))
  | [], h => by cases h
  | (a, ys) :: t, h => by
    unfold valU rowsD
    simp only [List.map_cons, List.find?_cons]
    by_cases e : a = nm
    · subst e; simp
    · have e' : ¬ (Sum.inr a : Key) = Sum.inr nm := fun z => e (Sum.inr.inj z)
      simp only [e', decide_false]
      have h' : t.lookup nm = some xs := by
        rw [List.lookup_cons] at h
        have : (nm == a) = false := by simpa using Ne.symm e
        rw [this] at h; exact h
      exact valU_rows h'
noncomputable def newA (ad : Slot → Addr) (n : Nat) (a t : Addr) : Slot → Addr := fun s => if s = .vis n then a else if s = .th n then t else ad s
theorem newA_old {n : Nat} {a t : Addr} {s : Slot} (h1 : s ≠ .vis n) (h2 : s ≠ .th n) : newA ad n a t s = ad s := by unfold newA; rw [if_neg h1, if_neg h2]
theorem pplL_new {n : Nat} {a t : Addr} : pplL (newA ad n a t) (n + 1) = pplL ad n ++ [.ref a] := by
  unfold pplL
  rw [List.range_succ, List.map_append]
  congr 1
  · apply List.map_congr_left
    intro i hi
    rw [newA_old (fun z => by cases z; exact Nat.lt_irrefl _ (List.mem_range.mp hi)) (fun z => by cases z)]
  · show [U.ref (newA ad n a t (.vis n))] = _
    unfold newA; rw [if_pos rfl]
noncomputable def newF (f : Fl) (v : Vst) : Fl := { f with ppl := f.ppl ++ [v] }
theorem obj_new {v : Vst} {a t : Addr} (s : Slot) : obj R (newA ad f.ppl.length a t) (newF f v) s =
    if s = .vis f.ppl.length then some (R.vis v.rank v.st v.since v.til t) else if s = .th f.ppl.length then some (R.th v.things) else if s = .pp then some (.lst (pplL ad f.ppl.length ++ [.ref a])) else obj R ad f s := by
  have e1 : ∀ n, newA ad f.ppl.length a t (.row n) = ad (.row n) := fun n => newA_old (fun z => by cases z) (fun z => by cases z)
  have c0 : ∀ s, s = .pl ∨ s = .sd ∨ s = .ta ∨ s = .sk ∨ s = .pp → newA ad f.ppl.length a t s = ad s := fun s hs => by
    rcases hs with rfl | rfl | rfl | rfl | rfl <;> exact newA_old (fun z => by cases z) (fun z => by cases z)
  cases s with
  | fl =>
    rw [if_neg (fun z => by cases z), if_neg (fun z => by cases z), if_neg (fun z => by cases z)]
    show some (R.top _ _) = some (R.top _ _)
    rw [R.tc (newA ad f.ppl.length a t) ad _ (c0 _ (by simp)) (c0 _ (by simp)) (c0 _ (by simp)) (c0 _ (by simp)) (c0 _ (by simp))]; rfl
  | pl => rfl
  | ta => rfl
  | sk => rfl
  | sd =>
    rw [if_neg (fun z => by cases z), if_neg (fun z => by cases z), if_neg (fun z => by cases z)]
    show some (O.dct (rowsD _ f.rows)) = some (O.dct (rowsD _ f.rows))
    unfold rowsD; simp only [e1]
  | pp =>
    rw [if_neg (fun z => by cases z), if_neg (fun z => by cases z), if_pos rfl]
    show some (O.lst (pplL _ (f.ppl ++ [v]).length)) = _
    rw [List.length_append, List.length_singleton, pplL_new]
  | row n =>
    rw [if_neg (fun z => by cases z), if_neg (fun z => by cases z), if_neg (fun z => by cases z)]; rfl
  | vis i =>
    show ((f.ppl ++ [v])[i]?).map _ = _
    by_cases z : i = f.ppl.length
    · subst z
      rw [if_pos rfl, List.getElem?_append_right (Nat.le_refl _), Nat.sub_self]
      show some (R.vis v.rank v.st v.since v.til (newA ad f.ppl.length a t (.th f.ppl.length))) = _
      unfold newA; rw [if_neg (fun z => by cases z), if_pos rfl]
    · rw [if_neg (fun w => z (by cases w; rfl)), if_neg (fun z => by cases z), if_neg (fun z => by cases z)]
      show _ = (f.ppl[i]?).map _
      rw [newA_old (fun z => by cases z) (fun w => z (by cases w; rfl))]
      by_cases hi : i < f.ppl.length
      · rw [List.getElem?_append_left hi]
      · rw [List.getElem?_eq_none (by rw [List.length_append, List.length_singleton]; omega), List.getElem?_eq_none (by omega)]
  | th i =>
    show ((f.ppl ++ [v])[i]?).map _ = _
    by_cases z : i = f.ppl.length
    · subst z
      rw [if_neg (fun z => by cases z), if_pos rfl, List.getElem?_append_right (Nat.le_refl _), Nat.sub_self]; rfl
    · rw [if_neg (fun z => by cases z), if_neg (fun w => z (by cases w; rfl)), if_neg (fun z => by cases z)]
      show _ = (f.ppl[i]?).map _
      by_cases hi : i < f.ppl.length
      · rw [List.getElem?_append_left hi]
      · rw [List.getElem?_eq_none (by rw [List.length_append, List.length_singleton]; omega), List.getElem?_eq_none (by omega)]
theorem FS.come (h : FS R M ad f) {v : Vst} {a t : Addr} (ha : M a = none) (ht : M t = none) (hat : a ≠ t) :
    Step R M ad f (put (put (put M t (R.th v.things)) a (R.vis v.rank v.st v.since v.til t)) (ad .pp) (.lst (pplL ad f.ppl.length ++ [.ref a]))) (newA ad f.ppl.length a t) (newF f v) := by
  have nv : obj R ad f (.vis f.ppl.length) = none := by show (f.ppl[f.ppl.length]?).map _ = none; rw [List.getElem?_eq_none (Nat.le_refl _)]; rfl
  have nt : obj R ad f (.th f.ppl.length) = none := by show (f.ppl[f.ppl.length]?).map _ = none; rw [List.getElem?_eq_none (Nat.le_refl _)]; rfl
  obtain ⟨g1, s1⟩ := h.g.new (obj' := fun s => if s = .th f.ppl.length then some (R.th v.things) else obj R ad f s) (ad' := fun s => if s = .th f.ppl.length then t else ad s) (s0 := .th f.ppl.length) (o := R.th v.things) h.l ht nt (if_pos rfl) (fun s z => if_neg z) (if_pos rfl) (fun s z => if_neg z)
  have ha' : put M t (R.th v.things) a = none := by rw [put_ne hat]; exact ha
  obtain ⟨g2, s2⟩ := g1.new (obj' := fun s => if s = .vis f.ppl.length then some (R.vis v.rank v.st v.since v.til t) else if s = .th f.ppl.length then some (R.th v.things) else obj R ad f s) (ad' := newA ad f.ppl.length a t) (s0 := .vis f.ppl.length) (o := R.vis v.rank v.st v.since v.til t) s1.le ha' (by show (if _ then _ else _) = _; rw [if_neg (fun z => by cases z)]; exact nv) (if_pos rfl) (fun s z => if_neg z) (by unfold newA; rw [if_pos rfl]) (fun s z => by unfold newA; rw [if_neg z])
  have hpp : newA ad f.ppl.length a t .pp = ad .pp := newA_old (fun z => by cases z) (fun z => by cases z)
  obtain ⟨g3, s3⟩ := g2.upd (obj' := obj R (newA ad f.ppl.length a t) (newF f v)) (s0 := .pp) (o0 := .lst (pplL ad f.ppl.length)) (o := .lst (pplL ad f.ppl.length ++ [.ref a])) s2.le (by
    show (if _ then _ else _) = _
    rw [if_neg (fun z => by cases z), if_neg (fun z => by cases z)]; rfl) (by
    rw [obj_new, if_neg (fun z => by cases z), if_neg (fun z => by cases z), if_pos rfl]) (fun s z => by rw [obj_new]; simp only [z, if_false])
  rw [hpp] at s3
  exact ⟨g3, (s1.trans s2).trans s3, newA_old (fun z => by cases z) (fun z => by cases z)⟩
noncomputable def rowA (ad : Slot → Addr) (nm : Str) (p : Addr) : Slot → Addr := fun s => if s = .row nm then p else ad s
noncomputable def rowF (f : Fl) (nm : Str) : Fl := { f with rows := f.rows ++ [(nm, [])] }
theorem rowA_old {nm : Str} {p : Addr} {s : Slot} (h : s ≠ .row nm) : rowA ad nm p s = ad s := by unfold rowA; rw [if_neg h]
theorem rowA_new {nm : Str} {p : Addr} : rowA ad nm p (.row nm) = p := by unfold rowA; rw [if_pos rfl]
theorem look_none {m : Str} : ∀ {rs : List (Str × List Int)}, rs.lookup m = none → ∀ r ∈ rs, r.1 ≠ m
  | [], _, r, hr => by cases hr
  | (a, ys) :: t, h, r, hr => by
    rw [List.lookup_cons] at h
    cases e : m == a with
    | true => rw [e] at h; cases h
    | false =>
      rw [e] at h
      rcases List.mem_cons.mp hr with z | z
      · subst z; intro w; rw [← w] at e; simp at e
      · exact look_none h r z
theorem rowsD_new {nm : Str} {p : Addr} {rs : List (Str × List Int)} (h : rs.lookup nm = none) : rowsD (rowA ad nm p) (rs ++ [(nm, [])]) = rowsD ad rs ++ [(.inr nm, .ref p)] := by
  unfold rowsD
  rw [List.map_append]
  congr 1
  · apply List.map_congr_left
    intro r hr
    rw [rowA_old (fun z => look_none h r hr (by injection z))]
  · show [((Sum.inr nm : Key), U.ref (rowA ad nm p (.row nm)))] = _
    rw [rowA_new]
theorem putD_rows {nm : Str} {p : Addr} {rs : List (Str × List Int)} (h : rs.lookup nm = none) : putD (rowsD ad rs) (.inr nm) (.ref p) = rowsD ad rs ++ [(.inr nm, .ref p)] := by
  unfold putD
  rw [if_neg]
  intro z
  rw [List.any_eq_true] at z
  obtain ⟨kv, hk, e⟩ := z
  unfold rowsD at hk
  obtain ⟨r, hr, e2⟩ := List.mem_map.mp hk
  have e := of_decide_eq_true e
  rw [← e2] at e
  exact look_none h r hr (Sum.inr.inj e)
theorem obj_row {nm : Str} {p : Addr} (h : f.rows.lookup nm = none) (s : Slot) : obj R (rowA ad nm p) (rowF f nm) s =
    if s = .row nm then some (.lst []) else if s = .sd then some (.dct (rowsD ad f.rows ++ [(.inr nm, .ref p)])) else obj R ad f s := by
  have c0 : ∀ s, s = .pl ∨ s = .sd ∨ s = .ta ∨ s = .sk ∨ s = .pp → rowA ad nm p s = ad s := fun s hs => by
    rcases hs with rfl | rfl | rfl | rfl | rfl <;> exact rowA_old (fun z => by cases z)
  cases s with
  | fl =>
    rw [if_neg (fun z => by cases z), if_neg (fun z => by cases z)]
    show some (R.top _ _) = some (R.top _ _)
    rw [R.tc (rowA ad nm p) ad _ (c0 _ (by simp)) (c0 _ (by simp)) (c0 _ (by simp)) (c0 _ (by simp)) (c0 _ (by simp))]; rfl
  | pl => rfl
  | ta => rfl
  | sk => rfl
  | sd =>
    rw [if_neg (fun z => by cases z), if_pos rfl]
    show some (O.dct (rowsD (rowA ad nm p) (f.rows ++ [(nm, [])]))) = _
    rw [rowsD_new h]
  | pp => rw [if_neg (fun z => by cases z), if_neg (fun z => by cases z)]; rfl
  | row m =>
    show ((f.rows ++ [(nm, [])]).lookup m).map _ = _
    rw [H.look_app_new h]
    by_cases e : m = nm
    · subst e; rw [if_pos rfl, if_pos rfl]; rfl
    · rw [if_neg e, if_neg (fun z => e (by injection z)), if_neg (fun z => by cases z)]; rfl
  | vis i => rw [if_neg (fun z => by cases z), if_neg (fun z => by cases z)]; rfl
  | th i => rw [if_neg (fun z => by cases z), if_neg (fun z => by cases z)]; rfl
theorem FS.stepRow (h : FS R M ad f) {nm : Str} {p : Addr} (hr : f.rows.lookup nm = none) (hp : M p = none) :
    Step R M ad f (put (put M p (.lst [])) (ad .sd) (.dct (rowsD ad f.rows ++ [(.inr nm, .ref p)]))) (rowA ad nm p) (rowF f nm) := by
  obtain ⟨g1, s1⟩ := h.g.new (obj' := fun s => if s = .row nm then some (.lst []) else obj R ad f s) (ad' := rowA ad nm p) (s0 := .row nm) (o := .lst []) h.l hp (by show (f.rows.lookup nm).map _ = none; rw [hr]; rfl) (if_pos rfl) (fun s z => if_neg z) rowA_new (fun s z => rowA_old z)
  obtain ⟨g2, s2⟩ := g1.upd (obj' := obj R (rowA ad nm p) (rowF f nm)) (s0 := .sd) (o0 := .dct (rowsD ad f.rows)) (o := .dct (rowsD ad f.rows ++ [(.inr nm, .ref p)])) s1.le (by show (if _ then _ else _) = _; rw [if_neg (fun z => by cases z)]; rfl) (by rw [obj_row hr, if_neg (fun z => by cases z), if_pos rfl]) (fun s z => by rw [obj_row hr]; simp only [z, if_false])
  rw [rowA_old (s := .sd) (fun z => by cases z)] at s2
  exact ⟨g2, s1.trans s2, rowA_old (fun z => by cases z)⟩
end
end G2
set_option maxHeartbeats 1000000
namespace G3
open PySem L2 L3 G1 G2 H
@[reducible] noncomputable def grU : GR → U
  | .opens m k => .tup [.str "opens", .int m, .int k]
  | .below m a => .tup [.str "below", .int m, .str a]
@[reducible] noncomputable def frU : FR → U
  | .turns => .str "turns"
  | .number => .str "number"
  | .least => .str "least"
@[reducible] noncomputable def comU : Com → U
  | .at_ ts => .tup [.str "at", .tup (ts.map U.int)]
  | .draws a b c d e => .tup [.str "draws", .int a, .int b, .int c, .int d, .int e]
@[reducible] noncomputable def pairU (p : Int × Int) : U := .tup [.int p.1, .int p.2]
@[reducible] noncomputable def restsU (rs : List (Int × Int)) : U := .tup (rs.map pairU)
@[reducible] noncomputable def tlU : Tl → U
  | .exit n => .tup [.str "exit", .str n]
  | .way n k th => .tup [.str "way", .str n, .int k, .str th]
  | .desk n h ts r rs th => .tup [.str "desk", .str n, .int h, .tup (ts.map U.int), .bl r, restsU rs, .str th]
  | .gate n g th => .tup [.str "gate", .str n, grU g, .str th]
  | .fork n r ths => .tup [.str "fork", .str n, frU r, .tup (ths.map U.str)]
  | .lend n p th => .tup [.str "lend", .str n, .str p, .str th]
  | .give n p th => .tup [.str "give", .str n, .str p, .str th]
  | .pool n m => .tup [.str "pool", .str n, .int m]
  | .door n r c th => .tup [.str "door", .str n, .int r, comU c, .str th]
noncomputable def sortOf : Tl → Str
  | .exit _ => "exit"
  | .way _ _ _ => "way"
  | .desk _ _ _ _ _ _ => "desk"
  | .gate _ _ _ => "gate"
  | .fork _ _ _ => "fork"
  | .lend _ _ _ => "lend"
  | .give _ _ _ => "give"
  | .pool _ _ => "pool"
  | .door _ _ _ _ => "door"
@[reducible] noncomputable def tilU : Option Int → U
  | none => .non
  | some i => .int i
noncomputable def thU (xs : List Str) : List (Key × U) := xs.map fun x => (.inr x, .bl true)
noncomputable def kvU {α : Type} (f : α → U) (l : List (Str × α)) : List (Key × U) := l.map fun p => (.inr p.1, f p.2)
noncomputable def nats (xs : List Nat) : List Int := xs.map fun n : Nat => (n : Int)
noncomputable def rowsI (rs : List (Str × List Nat)) : List (Str × List Int) := rs.map fun r => (r.1, nats r.2)
noncomputable def vsV (v : Vs) : Vst := ⟨.int v.rank, .str v.st, .int v.since, tilU v.til, v.things⟩
noncomputable def flT (t : TF) : Fl := ⟨kvU tlU t.plan, rowsI t.rows, kvU U.int t.tal, kvU U.int t.stock, t.ppl.map vsV, []⟩
section
variable {α β : Type}
theorem valU_kv {f : α → U} {k : Str} {x : α} : ∀ {l : List (Str × α)}, l.lookup k = some x → valU (kvU f l) (.inr k) = some (f x)
  | [], h => by cases h
  | (a, y) :: t, h => by
    unfold valU kvU
    simp only [List.map_cons, List.find?_cons]
    by_cases e : a = k
    · subst e
      rw [List.lookup_cons, beq_self_eq_true] at h
      cases h
      simp
    · have e' : ¬ (Sum.inr a : Key) = Sum.inr k := fun z => e (Sum.inr.inj z)
      simp only [e', decide_false]
      have h' : t.lookup k = some x := by
        rw [List.lookup_cons] at h
        have : (k == a) = false := by simpa using fun z => e z.symm
        rw [this] at h; exact h
      have := valU_kv (f := f) h'
      unfold valU kvU at this
      exact this
theorem putD_kv {f : α → U} {k : Str} {x : α} {l : List (Str × α)} : putD (kvU f l) (.inr k) (f x) = kvU f (putL l k x) := by
  unfold putD putL kvU
  have e : ((l.map fun p => ((Sum.inr p.1 : Key), f p.2)).any fun kv => decide (kv.1 = Sum.inr k)) = (l.any fun p => decide (p.1 = k)) := by
    rw [List.any_map]
    congr 1; funext p
    show decide ((Sum.inr p.1 : Key) = Sum.inr k) = decide (p.1 = k)
    congr 1
    exact propext ⟨fun z => Sum.inr.inj z, fun z => by rw [z]⟩
  rw [e]
  by_cases h : (l.any fun p => decide (p.1 = k)) = true
  · rw [if_pos h, if_pos h, List.map_map, List.map_map]
    apply List.map_congr_left
    intro p _
    show (if (Sum.inr p.1 : Key) = Sum.inr k then _ else _) = _
    by_cases z : p.1 = k
    · simp only [Function.comp, z, if_true]
    · have z' : ¬ (Sum.inr p.1 : Key) = Sum.inr k := fun w => z (Sum.inr.inj w)
      simp only [Function.comp, z, z', if_false]
  · rw [if_neg h, if_neg h, List.map_append]; rfl
theorem kv_len {f : α → U} {l : List (Str × α)} : (kvU f l).length = l.length := List.length_map ..
end
theorem look_rows {nm : Str} : ∀ {rs : List (Str × List Nat)}, (rowsI rs).lookup nm = (rs.lookup nm).map nats
  | [] => rfl
  | (a, xs) :: t => by
    show ((a, nats xs) :: rowsI t).lookup nm = _
    rw [List.lookup_cons, List.lookup_cons]
    cases nm == a with
    | true => rfl
    | false => exact look_rows
theorem rows_set {rs : List (Str × List Nat)} {nm : Str} {xs : List Nat} : setRow (rowsI rs) nm (nats xs) = rowsI (setN rs nm xs) := by
  unfold setRow rowsI setN
  rw [List.map_map, List.map_map]
  apply List.map_congr_left
  intro r _
  show (if r.1 = nm then (nm, nats xs) else (r.1, nats r.2)) = _
  simp only [Function.comp]
  by_cases e : r.1 = nm
  · rw [if_pos e, if_pos e]
  · rw [if_neg e, if_neg e]
theorem nats_erase (xs : List Nat) (n : Nat) : (nats xs).erase (n : Int) = nats (xs.erase n) := by
  unfold nats
  induction xs with
  | nil => rfl
  | cons a r ih =>
    rw [List.map_cons, List.erase_cons, List.erase_cons]
    by_cases e : a = n
    · subst e; simp
    · have e1 : ((a : Int) == (n : Int)) = false := beq_eq_false_iff_ne.mpr (by omega)
      have e2 : (a == n) = false := by simpa using e
      rw [e1, e2]
      simp only [Bool.false_eq_true, if_false, List.map_cons, ih]
theorem nats_mem {xs : List Nat} {n : Nat} : (n : Int) ∈ nats xs ↔ n ∈ xs := by
  unfold nats
  rw [List.mem_map]
  constructor
  · rintro ⟨a, ha, e⟩
    have : a = n := by omega
    rw [← this]; exact ha
  · intro h; exact ⟨n, h, rfl⟩
theorem nats_app (xs : List Nat) (n : Nat) : nats xs ++ [(n : Int)] = nats (xs ++ [n]) := by unfold nats; rw [List.map_append]; rfl
theorem nats_len (xs : List Nat) : (nats xs).length = xs.length := by unfold nats; rw [List.length_map]
theorem nats_map (xs : List Nat) : (nats xs).map U.int = xs.map fun n : Nat => U.int n := by unfold nats; rw [List.map_map]; rfl
noncomputable def visF (rank st since til : U) (t : Addr) : List (Str × U) := [("rank", rank), ("station", st), ("since", since), ("until", til), ("things", .ref t)]
noncomputable def flF (ad : Slot → Addr) : List (Str × U) := [("plan", .ref (ad .pl)), ("standing", .ref (ad .sd)), ("tallies", .ref (ad .ta)), ("stock", .ref (ad .sk)), ("people", .ref (ad .pp))]
@[reducible] noncomputable def RF (CF CV : Addr) : Rp := ⟨fun ad _ => .ins CF (flF ad), fun ad ad' x h1 h2 h3 h4 h5 => by unfold flF; rw [h1, h2, h3, h4, h5], fun a b c d t => .ins CV (visF a b c d t), fun xs => .dct (thU xs)⟩
section
variable {t : TF} {n : Nat} {v : Vs}
theorem ppl_v (h : t.ppl[n]? = some v) : (flT t).ppl[n]? = some (vsV v) := by show (t.ppl.map vsV)[n]? = _; rw [List.getElem?_map, h]; rfl
theorem ppl_n (h : n < t.ppl.length) : ∃ v, t.ppl[n]? = some v := ⟨_, List.getElem?_eq_getElem h⟩
theorem ppl_len : (flT t).ppl.length = t.ppl.length := List.length_map ..
theorem row_fl {nm : Str} {xs : List Nat} (h : t.rows.lookup nm = some xs) : (flT t).rows.lookup nm = some (nats xs) := by show (rowsI t.rows).lookup nm = _; rw [look_rows, h]; rfl
variable {ps : Str → Bool} {x : List U}
end
section
variable {t : TF} {n : Nat} {v : Vs} {nm th : Str} {turn rank : Int} {xs row ys : List Nat} {ps : Str → Bool} {x : List U}
theorem come_fl (h : t.rows.lookup nm = some xs) : setR (newF (flT t) (vsV ⟨rank, nm, turn, none, []⟩)) nm (nats xs ++ [(t.ppl.length : Int)]) = flT (comeT t nm rank turn) := by
  unfold setR newF comeT flT
  rw [H.row_at h]
  simp only [nats_app, rows_set, List.map_append, List.map_cons, List.map_nil]
end
end G3
set_option maxHeartbeats 1000000
namespace G4
open PySem PySem.Spec PyProof.Rows L2 L3 G1 G2 G3 H
noncomputable def pureD : Nat → U → Bool
  | _, .non => true
  | _, .bl _ => true
  | _, .int _ => true
  | _, .str _ => true
  | d + 1, .tup xs => decide (xs.length ≤ 100000) && xs.attach.all fun x => pureD d x.1
  | _, _ => false
theorem pureD_tup {d : Nat} {xs : List U} (h : pureD d (.tup xs) = true) : ∃ e, d = e + 1 ∧ xs.length ≤ 100000 ∧ ∀ x ∈ xs, pureD e x = true := by
  cases d with
  | zero => simp [pureD] at h
  | succ e =>
    unfold pureD at h
    rw [Bool.and_eq_true, List.all_eq_true] at h
    exact ⟨e, rfl, of_decide_eq_true h.1, fun x hx => h.2 ⟨x, hx⟩ (List.mem_attach _ _)⟩
theorem pureD_mk {d : Nat} {xs : List U} (hl : xs.length ≤ 100000) (h : ∀ x ∈ xs, pureD d x = true) : pureD (d + 1) (.tup xs) = true := by
  unfold pureD
  rw [decide_eq_true hl, Bool.true_and, List.all_eq_true]
  exact fun x _ => h x.1 x.2
theorem pure_ints {d : Nat} {ts : List Int} (h : ts.length ≤ 1000) : pureD (d + 1) (.tup (ts.map U.int)) = true := pureD_mk (by rw [List.length_map]; omega) (fun x hx => by obtain ⟨n, _, rfl⟩ := List.mem_map.mp hx; cases d <;> rfl)
theorem pure_strs {d : Nat} {ts : List Str} (h : ts.length ≤ 1000) : pureD (d + 1) (.tup (ts.map U.str)) = true := pureD_mk (by rw [List.length_map]; omega) (fun x hx => by obtain ⟨n, _, rfl⟩ := List.mem_map.mp hx; cases d <;> rfl)
theorem pure_rests {d : Nat} {rs : List (Int × Int)} (h : rs.length ≤ 1000) : pureD (d + 2) (restsU rs) = true := pureD_mk (by rw [List.length_map]; omega) (fun x hx => by
  obtain ⟨n, _, rfl⟩ := List.mem_map.mp hx
  exact pureD_mk (Nat.le_of_ble_eq_true rfl) (fun y hy => by
    simp only [List.mem_cons, List.not_mem_nil, or_false] at hy
    rcases hy with e | e <;> rw [e] <;> cases d <;> rfl))
theorem pure_com {c : Com} (h : match c with | .at_ ts => ts.length ≤ 1000 | _ => True) : pureD 2 (comU c) = true := by
  cases c with
  | at_ ts => exact pureD_mk (Nat.le_of_ble_eq_true rfl) (fun y hy => by
      simp only [List.mem_cons, List.not_mem_nil, or_false] at hy
      rcases hy with e | e <;> rw [e]
      · rfl
      · exact pure_ints h)
  | draws a b c d e => exact pureD_mk (Nat.le_of_ble_eq_true rfl) (fun y hy => by
      simp only [List.mem_cons, List.not_mem_nil, or_false] at hy
      rcases hy with e | e | e | e | e | e <;> rw [e] <;> rfl)
theorem pure_T {t : Tl} (h : okTl t) : pureD 3 (tlU t) = true := by
  cases t with
  | exit n => exact pureD_mk (Nat.le_of_ble_eq_true rfl) (fun y hy => by simp only [List.mem_cons, List.not_mem_nil, or_false] at hy; rcases hy with e | e <;> rw [e] <;> rfl)
  | way n k th => exact pureD_mk (Nat.le_of_ble_eq_true rfl) (fun y hy => by simp only [List.mem_cons, List.not_mem_nil, or_false] at hy; rcases hy with e | e | e | e <;> rw [e] <;> rfl)
  | desk n k ts r rs th => exact pureD_mk (Nat.le_of_ble_eq_true rfl) (fun y hy => by
      simp only [List.mem_cons, List.not_mem_nil, or_false] at hy
      rcases hy with e | e | e | e | e | e | e <;> rw [e] <;> first | rfl | exact pure_ints h.2.1 | exact pure_rests h.2.2)
  | gate n r th => exact pureD_mk (Nat.le_of_ble_eq_true rfl) (fun y hy => by
      simp only [List.mem_cons, List.not_mem_nil, or_false] at hy
      rcases hy with e | e | e | e <;> rw [e] <;> first | rfl | (cases r <;> exact pureD_mk (Nat.le_of_ble_eq_true rfl) (fun y hy => by
        simp only [List.mem_cons, List.not_mem_nil, or_false] at hy
        rcases hy with e | e | e <;> rw [e] <;> rfl)))
  | fork n r ths => exact pureD_mk (Nat.le_of_ble_eq_true rfl) (fun y hy => by
      simp only [List.mem_cons, List.not_mem_nil, or_false] at hy
      rcases hy with e | e | e | e <;> rw [e] <;> first | rfl | (cases r <;> rfl) | exact pure_strs h.2)
  | lend n p th => exact pureD_mk (Nat.le_of_ble_eq_true rfl) (fun y hy => by simp only [List.mem_cons, List.not_mem_nil, or_false] at hy; rcases hy with e | e | e | e <;> rw [e] <;> rfl)
  | give n p th => exact pureD_mk (Nat.le_of_ble_eq_true rfl) (fun y hy => by simp only [List.mem_cons, List.not_mem_nil, or_false] at hy; rcases hy with e | e | e | e <;> rw [e] <;> rfl)
  | pool n k => exact pureD_mk (Nat.le_of_ble_eq_true rfl) (fun y hy => by simp only [List.mem_cons, List.not_mem_nil, or_false] at hy; rcases hy with e | e | e <;> rw [e] <;> rfl)
  | door n r c th => exact pureD_mk (Nat.le_of_ble_eq_true rfl) (fun y hy => by
      simp only [List.mem_cons, List.not_mem_nil, or_false] at hy
      rcases hy with e | e | e | e | e <;> rw [e] <;> first | rfl | exact pure_com (by cases c <;> first | exact h | trivial))
structure FlV (K : Frag) (CV : Addr) : Prop where
  rank : Fld K CV "rank"
  station : Fld K CV "station"
  since : Fld K CV "since"
  until_ : Fld K CV "until"
  things : Fld K CV "things"
structure FlF (K : Frag) (CF : Addr) : Prop where
  plan : Fld K CF "plan"
  standing : Fld K CF "standing"
  tallies : Fld K CF "tallies"
  stock : Fld K CF "stock"
  people : Fld K CF "people"
section
variable {a b c d : U} {t : Addr} {ad : Slot → Addr}
theorem lv_rank : (visF a b c d t).lookup ("rank" : Str) = some a := rfl
theorem lv_station : (visF a b c d t).lookup ("station" : Str) = some b := rfl
theorem lv_since : (visF a b c d t).lookup ("since" : Str) = some c := rfl
theorem lv_until : (visF a b c d t).lookup ("until" : Str) = some d := rfl
theorem lv_things : (visF a b c d t).lookup ("things" : Str) = some (.ref t) := rfl
theorem pv_station {v : U} : putU "station" v (visF a b c d t) = visF a v c d t := rfl
theorem pv_since {v : U} : putU "since" v (visF a b c d t) = visF a b v d t := rfl
theorem pv_until {v : U} : putU "until" v (visF a b c d t) = visF a b c v t := rfl
theorem lf_plan : (flF ad).lookup ("plan" : Str) = some (.ref (ad .pl)) := rfl
theorem lf_standing : (flF ad).lookup ("standing" : Str) = some (.ref (ad .sd)) := rfl
theorem lf_tallies : (flF ad).lookup ("tallies" : Str) = some (.ref (ad .ta)) := rfl
theorem lf_stock : (flF ad).lookup ("stock" : Str) = some (.ref (ad .sk)) := rfl
theorem lf_people : (flF ad).lookup ("people" : Str) = some (.ref (ad .pp)) := rfl
end
section
variable {CF CV : Addr} {M : Mem} {ad : Slot → Addr} {f : Fl} {n : Nat} {v : Vst}
theorem fo (h : FS (RF CF CV) M ad f) : M (ad .fl) = some (.ins CF (flF ad)) := h.o
theorem fvis (h : FS (RF CF CV) M ad f) (e : f.ppl[n]? = some v) : M (ad (.vis n)) = some (.ins CV (visF v.rank v.st v.since v.til (ad (.th n)))) := h.vis e
theorem fth (h : FS (RF CF CV) M ad f) (e : f.ppl[n]? = some v) : M (ad (.th n)) = some (.dct (thU v.things)) := h.th e
theorem atI_ppl {n k : Nat} (h : k < n) : atI (pplL ad n) (k : Int) = some (.ref (ad (.vis k))) := by
  refine atI_nat ?_
  unfold pplL
  rw [List.getElem?_map, List.getElem?_range h]; rfl
theorem ppl_size {n : Nat} : (pplL ad n).length = n := by unfold pplL; rw [List.length_map, List.length_range]
end
theorem put_comm {M : Mem} {a b : Addr} {x y : O} (h : a ≠ b) : put (put M a x) b y = put (put M b y) a x := by
  funext c; unfold put
  by_cases e1 : c = b
  · subst e1; rw [if_pos rfl, if_neg (Ne.symm h), if_pos rfl]
  · rw [if_neg e1]
    by_cases e2 : c = a
    · rw [if_pos e2, if_pos e2]
    · rw [if_neg e2, if_neg e2, if_neg e1]
theorem put_none {M : Mem} {a b : Addr} {o : O} (h : put M a o b = none) : b ≠ a ∧ M b = none := by
  unfold put at h
  split at h
  · cases h
  · rename_i z; exact ⟨z, h⟩
theorem rem_ints {M : Mem} {xs : List Int} {n : Int} (hm : n ∈ xs) : ∃ ds d j, DatAll M (xs.map U.int) ds ∧ Dat M (.int n) d ∧ d.depth ≤ 60 ∧ (∃ dj, ds[j]? = some dj ∧ PyData.eqv dj d = true) ∧ (∀ m dm, m < j → ds[m]? = some dm → PyData.eqv dm d = false) ∧ (xs.map U.int).eraseIdx j = (xs.erase n).map U.int := by
  have hidx := List.idxOf_lt_length_of_mem hm
  refine ⟨xs.map PyData.int, .int n, xs.idxOf n, DatAll.ints _, .int _, by show PyData.depth (.int n) ≤ 60; simp [PyData.depth], ⟨.int n, ?_, by simp [PyData.eqv]⟩, fun i di hi hdi => ?_, ?_⟩
  · rw [List.getElem?_map, List.getElem?_eq_getElem hidx, List.getElem_idxOf]; rfl
  · have hil : i < xs.length := by omega
    rw [List.getElem?_map, List.getElem?_eq_getElem hil] at hdi
    cases hdi
    have := List.not_of_lt_findIdx (p := (· == n)) hi
    simp only [PyData.eqv]
    simpa using this
  · have em : ∀ (ys : List Int) (i : Nat), (ys.map U.int).eraseIdx i = (ys.eraseIdx i).map U.int := fun ys => by
      induction ys with
      | nil => intro i; rfl
      | cons y r ih => intro i; cases i with
        | zero => rfl
        | succ i => simp only [List.map_cons, List.eraseIdx_cons_succ, ih]
    rw [em, ← List.erase_eq_eraseIdx_of_idxOf rfl]
theorem rem_strs {M : Mem} {xs : List Str} {n : Str} (hok : ∀ x ∈ xs, PyData.strOk x = true) (hm : n ∈ xs) : ∃ ds d j, DatAll M (xs.map U.str) ds ∧ Dat M (.str n) d ∧ d.depth ≤ 60 ∧ (∃ dj, ds[j]? = some dj ∧ PyData.eqv dj d = true) ∧ (∀ m dm, m < j → ds[m]? = some dm → PyData.eqv dm d = false) ∧ (xs.map U.str).eraseIdx j = (xs.erase n).map U.str := by
  have hidx := List.idxOf_lt_length_of_mem hm
  refine ⟨xs.map PyData.str, .str n, xs.idxOf n, DatAll.strs _ hok, .str _ (hok n hm), by show PyData.depth (.str n) ≤ 60; simp [PyData.depth], ⟨.str n, ?_, by simp [PyData.eqv]⟩, fun i di hi hdi => ?_, ?_⟩
  · rw [List.getElem?_map, List.getElem?_eq_getElem hidx, List.getElem_idxOf]; rfl
  · have hil : i < xs.length := by omega
    rw [List.getElem?_map, List.getElem?_eq_getElem hil] at hdi
    cases hdi
    have := List.not_of_lt_findIdx (p := (· == n)) hi
    simp only [PyData.eqv]
    simpa using this
  · have em : ∀ (ys : List Str) (i : Nat), (ys.map U.str).eraseIdx i = (ys.eraseIdx i).map U.str := fun ys => by
      induction ys with
      | nil => intro i; rfl
      | cons y r ih => intro i; cases i with
        | zero => rfl
        | succ i => simp only [List.map_cons, List.eraseIdx_cons_succ, ih]
    rw [em, ← List.erase_eq_eraseIdx_of_idxOf rfl]
end G4
namespace G4
open PySem PySem.Spec PyProof.Rows L2 L3 G1 G2 G3 H
noncomputable def restU : Tl → List U
  | .exit _ => []
  | .way _ k th => [.int k, .str th]
  | .desk _ h ts r rs th => [.int h, .tup (ts.map U.int), .bl r, restsU rs, .str th]
  | .gate _ g th => [grU g, .str th]
  | .fork _ r ths => [frU r, .tup (ths.map U.str)]
  | .lend _ p th => [.str p, .str th]
  | .give _ p th => [.str p, .str th]
  | .pool _ m => [.int m]
  | .door _ r c th => [.int r, comU c, .str th]
theorem tlU_eq (t : Tl) : tlU t = .tup (.str (sortOf t) :: .str t.name :: restU t) := by cases t <;> rfl
theorem pool_of {t : Tl} (h : sortOf t = "pool") : ∃ n m, t = .pool n m := by
  have key : ∀ x ∈ (["exit", "way", "desk", "gate", "fork", "lend", "give", "door"] : List Str), x ≠ "pool" := by decide +kernel
  cases t with
  | pool n m => exact ⟨n, m, rfl⟩
  | _ => exact absurd h (key _ (by simp [sortOf]))
theorem pools_filter (ts : List Tl) : (ts.filter fun t => decide (sortOf t = "pool")).filterMap poolOf = ts.filterMap poolOf := by
  induction ts with
  | nil => rfl
  | cons t r ih =>
    by_cases h : sortOf t = "pool"
    · obtain ⟨n, m, rfl⟩ := pool_of h
      rw [List.filter_cons_of_pos (by rw [h]; decide +kernel), List.filterMap_cons_some (f := poolOf) (b := (n, m)) rfl, List.filterMap_cons_some (f := poolOf) (b := (n, m)) rfl, ih]
    · have e : poolOf t = none := by
        cases t with
        | pool n m => exact absurd rfl h
        | _ => rfl
      rw [List.filter_cons_of_neg (by simpa using h), List.filterMap_cons_none e, ih]
section
variable {CF CV : Addr} {K : Frag} {R : Rp} {M : Mem} {ad : Slot → Addr} {f : Fl} {n : Nat} {v : Vst} {t : TF} {nm : Str} {g : U → Prop}
theorem r_people (h : FS (RF CF CV) M ad f) (W : FlF K CF) (q : g (.ref (ad .pp))) : ∃ C fs, M (ad .fl) = some (.ins C fs) ∧ Fld K C "people" ∧ oE (fs.lookup ("people" : Str)) g := ⟨_, _, fo h, W.people, oE_some lf_people q⟩
theorem r_plan (h : FS (RF CF CV) M ad f) (W : FlF K CF) (q : g (.ref (ad .pl))) : ∃ C fs, M (ad .fl) = some (.ins C fs) ∧ Fld K C "plan" ∧ oE (fs.lookup ("plan" : Str)) g := ⟨_, _, fo h, W.plan, oE_some lf_plan q⟩
theorem r_standing (h : FS (RF CF CV) M ad f) (W : FlF K CF) (q : g (.ref (ad .sd))) : ∃ C fs, M (ad .fl) = some (.ins C fs) ∧ Fld K C "standing" ∧ oE (fs.lookup ("standing" : Str)) g := ⟨_, _, fo h, W.standing, oE_some lf_standing q⟩
theorem r_tallies (h : FS (RF CF CV) M ad f) (W : FlF K CF) (q : g (.ref (ad .ta))) : ∃ C fs, M (ad .fl) = some (.ins C fs) ∧ Fld K C "tallies" ∧ oE (fs.lookup ("tallies" : Str)) g := ⟨_, _, fo h, W.tallies, oE_some lf_tallies q⟩
theorem r_stock (h : FS (RF CF CV) M ad f) (W : FlF K CF) (q : g (.ref (ad .sk))) : ∃ C fs, M (ad .fl) = some (.ins C fs) ∧ Fld K C "stock" ∧ oE (fs.lookup ("stock" : Str)) g := ⟨_, _, fo h, W.stock, oE_some lf_stock q⟩
theorem r_pp {k : Nat} (h : FS R M ad f) (hn : k < f.ppl.length) (q : g (.ref (ad (.vis k)))) : ∃ xs, M (ad .pp) = some (.lst xs) ∧ oE (atI xs (k : Int)) g := ⟨_, h.pp, oE_some (atI_ppl hn) q⟩
theorem r_st (h : FS (RF CF CV) M ad f) (e : f.ppl[n]? = some v) (V : FlV K CV) (q : g v.st) : ∃ C fs, M (ad (.vis n)) = some (.ins C fs) ∧ Fld K C "station" ∧ oE (fs.lookup ("station" : Str)) g := ⟨_, _, fvis h e, V.station, oE_some lv_station q⟩
theorem r_since (h : FS (RF CF CV) M ad f) (e : f.ppl[n]? = some v) (V : FlV K CV) (q : g v.since) : ∃ C fs, M (ad (.vis n)) = some (.ins C fs) ∧ Fld K C "since" ∧ oE (fs.lookup ("since" : Str)) g := ⟨_, _, fvis h e, V.since, oE_some lv_since q⟩
theorem r_until (h : FS (RF CF CV) M ad f) (e : f.ppl[n]? = some v) (V : FlV K CV) (q : g v.til) : ∃ C fs, M (ad (.vis n)) = some (.ins C fs) ∧ Fld K C "until" ∧ oE (fs.lookup ("until" : Str)) g := ⟨_, _, fvis h e, V.until_, oE_some lv_until q⟩
theorem r_rank (h : FS (RF CF CV) M ad f) (e : f.ppl[n]? = some v) (V : FlV K CV) (q : g v.rank) : ∃ C fs, M (ad (.vis n)) = some (.ins C fs) ∧ Fld K C "rank" ∧ oE (fs.lookup ("rank" : Str)) g := ⟨_, _, fvis h e, V.rank, oE_some lv_rank q⟩
theorem r_things (h : FS (RF CF CV) M ad f) (e : f.ppl[n]? = some v) (V : FlV K CV) (q : g (.ref (ad (.th n)))) : ∃ C fs, M (ad (.vis n)) = some (.ins C fs) ∧ Fld K C "things" ∧ oE (fs.lookup ("things" : Str)) g := ⟨_, _, fvis h e, V.things, oE_some lv_things q⟩
theorem r_pl {tl : Tl} (h : FS R M ad (flT t)) (e : t.plan.lookup nm = some tl) (q : g (tlU tl)) : ∃ kvs, M (ad .pl) = some (.dct kvs) ∧ oE (valU kvs (.inr nm)) g := ⟨_, h.pl, oE_some (valU_kv e) q⟩
theorem r_ta {k : Int} (h : FS R M ad (flT t)) (e : t.tal.lookup nm = some k) (q : g (.int k)) : ∃ kvs, M (ad .ta) = some (.dct kvs) ∧ oE (valU kvs (.inr nm)) g := ⟨_, h.ta, oE_some (valU_kv e) q⟩
theorem r_sk {k : Int} (h : FS R M ad (flT t)) (e : t.stock.lookup nm = some k) (q : g (.int k)) : ∃ kvs, M (ad .sk) = some (.dct kvs) ∧ oE (valU kvs (.inr nm)) g := ⟨_, h.sk, oE_some (valU_kv e) q⟩
theorem r_sd {xs : List Int} (h : FS R M ad f) (e : f.rows.lookup nm = some xs) (q : g (.ref (ad (.row nm)))) : ∃ kvs, M (ad .sd) = some (.dct kvs) ∧ oE (valU kvs (.inr nm)) g := ⟨_, h.sd, oE_some (valU_rows e) q⟩
theorem r_row {xs : List Int} {k : List U → Prop} (h : FS R M ad f) (e : f.rows.lookup nm = some xs) (q : k (xs.map U.int)) : ∃ ys, M (ad (.row nm)) = some (.lst ys) ∧ k ys := ⟨_, h.row e, q⟩
end
end G4
set_option maxHeartbeats 1000000
namespace N1
open PySem PySem.Spec PyProof.Rows L2 L3
noncomputable def one (c : Nat) : Str := ⟨#[c]⟩
theorem glue_ones (A : Array Nat) : ∀ cs : List Nat, (cs.map one).foldl (fun acc p => acc ++ (Str.ofString "").cps ++ p.cps) A = A ++ cs.toArray
  | [] => by simp
  | c :: r => by
    rw [List.map_cons, List.foldl_cons, glue_ones _ r]
    have e : (Str.ofString "").cps = #[] := by decide +kernel
    rw [e]
    simp [one]
theorem join_ones (cs : List Nat) : Txt.join (Str.ofString "") (cs.map one) = ⟨cs.toArray⟩ := by
  show Builtin.Str.glued (Str.ofString "") (cs.map one) = _
  unfold Builtin.Str.glued
  cases cs with
  | nil => rfl
  | cons c r =>
    show (⟨(((c :: r).map one).drop 1).foldl _ _⟩ : Str) = _
    rw [List.map_cons, List.drop_succ_cons, List.drop_zero]
    have := glue_ones (one c).cps r
    rw [show ((one c :: r.map one).headD Str.empty).cps = (one c).cps from rfl, this]
    simp [one]
theorem joinOk_ones {cs : List Nat} (h : cs.length ≤ 1000) : JoinOk (Str.ofString "") (cs.map one) = true := by
  unfold JoinOk
  rw [StrLaws.joinFits (B := 1)]
  · rfl
  · intro y hy
    obtain ⟨c, _, rfl⟩ := List.mem_map.mp hy
    exact Nat.le_refl _
  · have e : (Str.ofString "").length = 0 := by decide +kernel
    rw [e, List.length_map]; omega
noncomputable def abc : Str := Str.ofString "abcdefghijklmnopqrstuvwxyz"
theorem abc_len : abc.cps.toList.length = 26 := by decide +kernel
theorem abc_inj : ∀ i j : Fin 26, abc.cps.toList[i.1]? = abc.cps.toList[j.1]? → i = j := by decide +kernel
theorem abc_ok : ∀ c ∈ abc.cps.toList, 97 ≤ c ∧ c < 123 := by decide +kernel
noncomputable def qz : Str := Str.ofString "qzjv"
theorem qz_len : qz.cps.toList.length = 4 := by decide +kernel
theorem qz_ok : ∀ c ∈ qz.cps.toList, 97 ≤ c ∧ c < 123 := by decide +kernel
noncomputable def letter (m : Int) : Nat := abc.cps.toList.getD (m % 26).toNat 0
theorem letter_get (m : Int) : abc.cps.toList[(m % 26).toNat]? = some (letter m) := by
  have h : (m % 26).toNat < abc.cps.toList.length := by rw [abc_len]; omega
  unfold letter
  rw [List.getElem?_eq_getElem h, List.getD_eq_getElem?_getD, List.getElem?_eq_getElem h]; rfl
theorem letter_inj {m n : Int} (h : letter m = letter n) : m % 26 = n % 26 := by
  have := abc_inj ⟨(m % 26).toNat, by omega⟩ ⟨(n % 26).toNat, by omega⟩ (by rw [letter_get, letter_get, h])
  have := congrArg Fin.val this
  simp only at this
  omega
theorem letter_ok (m : Int) : 97 ≤ letter m ∧ letter m < 123 := abc_ok _ (List.mem_of_getElem? (letter_get m))
noncomputable def qzat (m : Int) : Nat := qz.cps.toList.getD (m % 4).toNat 0
theorem qzat_get (m : Int) : qz.cps.toList[(m % 4).toNat]? = some (qzat m) := by
  have h : (m % 4).toNat < qz.cps.toList.length := by rw [qz_len]; omega
  unfold qzat
  rw [List.getElem?_eq_getElem h, List.getD_eq_getElem?_getD, List.getElem?_eq_getElem h]; rfl
theorem qzat_ok (m : Int) : 97 ≤ qzat m ∧ qzat m < 123 := qz_ok _ (List.mem_of_getElem? (qzat_get m))
noncomputable def nameOf (cs : List Nat) (at_ : Nat) (m : Int) : Str := ⟨(cs.set at_ (letter m)).toArray⟩
noncomputable def names (cs : List Nat) (at_ : Nat) (b : Int) (n : Nat) : List Str := (List.range n).map fun k : Nat => nameOf cs at_ (b + (k : Int))
structure NamesOk (n : Nat) (ns : List Str) : Prop where
  len : ns.length = n
  nd : ns.Nodup
  ok : ∀ x ∈ ns, PyData.strOk x = true ∧ x.length ≤ 8 ∧ 0 < x.length ∧ ∀ c ∈ x.cps.toList, 97 ≤ c ∧ c < 123
theorem nameOf_inj {cs : List Nat} {i : Nat} {m k : Int} (hi : i < cs.length) (h : nameOf cs i m = nameOf cs i k) : m % 26 = k % 26 := by
  have e : (cs.set i (letter m)).toArray = (cs.set i (letter k)).toArray := congrArg Str.cps h
  have e : cs.set i (letter m) = cs.set i (letter k) := by simpa using e
  have e := congrArg (fun l : List Nat => l[i]?) e
  simp only [List.getElem?_set_self hi, Option.some.injEq] at e
  exact letter_inj e
theorem names_ok {cs : List Nat} {i n : Nat} {b : Int} (hn : n ≤ 26) (hi : i < cs.length) (hl : cs.length ≤ 8) (hc : ∀ c ∈ cs, 97 ≤ c ∧ c < 123) : NamesOk n (names cs i b n) := by
  refine ⟨by unfold names; rw [List.length_map, List.length_range], ?_, fun x hx => ?_⟩
  · unfold names
    rw [List.nodup_iff_pairwise_ne, List.pairwise_map]
    refine List.Pairwise.imp_of_mem ?_ (List.nodup_range (n := n))
    intro x y hx hy hne e
    have := nameOf_inj hi e
    have h1 := List.mem_range.mp hx
    have h2 := List.mem_range.mp hy
    omega
  · unfold names at hx
    obtain ⟨k, _, rfl⟩ := List.mem_map.mp hx
    have key : ∀ c ∈ cs.set i (letter (b + k)), 97 ≤ c ∧ c < 123 := fun c hc' => by
      rcases List.mem_or_eq_of_mem_set hc' with z | z
      · exact hc c z
      · rw [z]; exact letter_ok _
    refine ⟨?_, ?_, ?_, fun c hc' => key c (by simpa [nameOf] using hc')⟩
    · show ((cs.set i (letter (b + k))).toArray.all fun c => decide (c < 0x110000)) = true
      simp only [List.all_toArray, List.all_eq_true, decide_eq_true_eq]
      intro c hc'
      have := key c hc'
      omega
    · show (cs.set i (letter (b + k))).toArray.size ≤ 8
      simp; omega
    · show 0 < (cs.set i (letter (b + k))).toArray.size
      simp; omega
theorem atI_qz (m : Int) : atI qz.cps.toList (m % 4) = some (qzat m) := by
  have e : m % 4 = (((m % 4).toNat : Nat) : Int) := by omega
  rw [e]; exact atI_nat (qzat_get m)
theorem atI_abc (m : Int) : atI abc.cps.toList (m % 26) = some (letter m) := by
  have e : m % 26 = (((m % 26).toNat : Nat) : Int) := by omega
  rw [e]; exact atI_nat (letter_get m)
theorem names_succ (cs : List Nat) (i : Nat) (b : Int) (n : Nat) : names cs i b (n + 1) = names cs i b n ++ [nameOf cs i (b + (n : Int))] := by
  unfold names; rw [List.range_succ, List.map_append]; rfl
theorem names_len (cs : List Nat) (i : Nat) (b : Int) (n : Nat) : (names cs i b n).length = n := by unfold names; rw [List.length_map, List.length_range]
theorem set_ones (cs : List Nat) (i : Nat) (c : Nat) : (((cs.map one).map U.str).set i (.str ⟨#[c]⟩)) = ((cs.set i c).map one).map U.str := by
  rw [List.map_set, List.map_set]; rfl
end N1
set_option maxHeartbeats 1000000
namespace L3
open PySem PySem.Spec PyProof.Rows L2
theorem cut_from (xs : List U) (k : Nat) : cutU xs (some (k : Int)) none = xs.drop k := by
  unfold cutU
  have e1 : HT.sIx xs.length 0 (some (k : Int)) = min k xs.length := by simp [HT.sIx]; omega
  have e2 : HT.sIx xs.length xs.length none = xs.length := by simp [HT.sIx]
  rw [e1, e2]
  by_cases h : k ≤ xs.length
  · rw [Nat.min_eq_left h, List.take_of_length_le (by rw [List.length_drop]; omega)]
  · rw [List.drop_eq_nil_of_le (by omega), List.drop_eq_nil_of_le (by omega), List.take_nil]
theorem cut_to (xs : List U) (k : Nat) : cutU xs none (some (k : Int)) = xs.take k := by
  unfold cutU
  have e1 : HT.sIx xs.length xs.length (some (k : Int)) = min k xs.length := by simp [HT.sIx]; omega
  have e2 : HT.sIx xs.length 0 none = 0 := by simp [HT.sIx]
  rw [e1, e2, List.drop_zero, Nat.sub_zero]
  by_cases h : k ≤ xs.length
  · rw [Nat.min_eq_left h]
  · rw [Nat.min_eq_right (by omega), List.take_length, List.take_of_length_le (by omega)]
end L3
set_option maxHeartbeats 1000000
namespace K21
open PySem PySem.Spec PyProof.Rows L2 L3 G1 G2 G3 G4 H
local macro_rules | `(tactic| walk_at "w") => `(tactic| with_reducible conv => whnf)
local macro_rules | `(tactic| walk_at "c") => `(tactic| first | exact L3.small (Nat.le_of_ble_eq_true rfl) | (show (0 : Int) < _; omega) | omega | exact ⟨by omega, by omega⟩ | exact CMul.ok (Or.inl ⟨by omega, by omega⟩) | exact CMul.ok (Or.inr ⟨by omega, by omega⟩) | (simp only [strLen_append]; omega) | exact rfl | exact True.intro | decide)
local macro_rules | `(tactic| walk_at "s") => `(tactic| first | ((with_reducible refine And.intro ?c ?q); (case c => walk_at "c"); walk_at "w") | (with_reducible refine bE_t ?_; walk_at "w") | (with_reducible refine bE_f ?_; walk_at "w") | (refine bEt (by decide +kernel) ?_; walk_at "w") | (refine bEf (by decide +kernel) ?_; walk_at "w"))
local macro_rules | `(tactic| walk_at "g") => `(tactic| (walk_at "w"; repeat walk_at "s"))
local macro_rules | `(tactic| walk_at "n") => `(tactic| ((with_reducible refine Exists.intro _ (And.intro (Le.refl _) ?q)); walk_at "g"))
local macro_rules | `(tactic| walk_at "m1") => `(tactic| first | exact put_same | refine kpM ?_ (by assumption) | refine (put_ne (by first | assumption | (apply Ne.symm; assumption))).trans ?_)
local macro_rules | `(tactic| walk_at "m") => `(tactic| (repeat walk_at "m1"))
local macro_rules | `(tactic| walk_at "r") => `(tactic| first
  | refine r_people (by assumption) (by assumption) ?_
  | refine r_pp (by assumption) (by assumption) ?_
  | refine r_st (by assumption) (by assumption) (by assumption) ?_
  | refine r_until (by assumption) (by assumption) (by assumption) ?_
  | refine r_since (by assumption) (by assumption) (by assumption) ?_
  | refine r_rank (by assumption) (by assumption) (by assumption) ?_
  | refine r_things (by assumption) (by assumption) (by assumption) ?_
  | refine r_plan (by assumption) (by assumption) ?_
  | refine r_pl (by assumption) (by assumption) ?_
  | refine r_standing (by assumption) (by assumption) ?_
  | refine r_sd (by assumption) (by assumption) ?_
  | refine r_row (by assumption) (by assumption) ?_
  | refine r_tallies (by assumption) (by assumption) ?_
  | refine r_ta (by assumption) (by assumption) ?_
  | refine r_stock (by assumption) (by assumption) ?_
  | refine r_sk (by assumption) (by assumption) ?_
  | refine ⟨_, fo (by assumption), rfl, ?_⟩)
local macro_rules | `(tactic| walk_at "go") => `(tactic| (walk_at "g"; repeat (walk_at "r"; walk_at "g")))
noncomputable def top (i : Nat) : Stmt := PySem.Challenge.pw_hallclock_k21_lent_and_given.main.body.getD i (.Pass ⟨0, 0, 0, 0⟩)
structure Bl (mg : Str → Option Value) : Prop where
  b_len : mg "len" = none
  b_range : mg "range" = none
  b_tuple : mg "tuple" = none
  b_list : mg "list" = none
  b_isinstance : mg "isinstance" = none
  b_int : mg "int" = none
  b_bool : mg "bool" = none
  b_any : mg "any" = none
  b_dict : mg "dict" = none
section
variable {P : Program} {w : World} {K : Frag} {mg : Str → Option Value} {base : Heap} {CF CV : Addr}
noncomputable def cellAt (ns : List Int) (k : Int) : Int := if k < ns.length then ns.getD k.toNat 0 else 0
inductive spCellAt (us : List U) (M : Mem) (Q : U → Mem → Prop) : Prop
  | mk (ns : List Int) (k : Int) : (us = [.fl (ns.map U.int), .int k]) → (0 ≤ k) → (Q (.int (cellAt ns k)) M) → spCellAt  us M Q
noncomputable def st_l_cell_at : Stmt := top 10
theorem sc_l_cell_at : FnScope ["_law_script", "_law_k"] ["_law_script", "_law_k"] (defScope st_l_cell_at) := ⟨rfl, rfl, rfl, by decide +kernel, rfl, by decide +kernel, by decide +kernel⟩
theorem c_l_cell_at (T : Bl mg) (F : FunM K mg "_law_cell_at" st_l_cell_at) : Cal2 P w K mg base 1 "_law_cell_at" ["_law_script", "_law_k"] spCellAt := by
  refine cal2 F sc_l_cell_at (by rintro us M Q Q' k ⟨ns, i, e, h, q⟩; exact ⟨ns, i, e, h, k _ _ q⟩) (by rintro us M Q ⟨ns, i, e, _⟩; rw [e]; rfl) (by rintro _ _ _ _ _ _ us hl; obtain ⟨_, _, rfl⟩ := len2 hl; rfl) (hbody := fun f cdv A outer s H E hr => ?_)
  refine ⟨_, (qss_cons (qs_if (qt_cmp o_lt (qv 1) (qe_callB c_len (by rfl) T.b_len PySem.boot_len (qa_cons (qv 0) qa_nil)) (nomark _)) (qss_one (qs_ret (qe_ix x_ix (qv 0) (qv 1) (fun _ _ => rfl)))) qss_nil)
      (qss_one (qs_ret qe_int))), ?_⟩
  rintro us M Q cl ⟨ns, k, rfl, h0, q⟩
  walk_at "g"
  rw [List.length_map]
  unfold cellAt at q
  refine bE2 (fun c => ?_) (fun c => ?_)
  · have c' := of_decide_eq_true c
    rw [if_pos c'] at q
    walk_at "g"
    exact oE_some (atI_map ns k h0 c') q
  · have c' := of_decide_eq_false c
    rw [if_neg c'] at q
    exact q
noncomputable def mixed (c k : Int) : Int := ((c % 1000003 + 7) * (31 * k * k + 48271) + c / 1000003 * 16807) % 2147483629
theorem mixed_nn (c k : Int) : 0 ≤ mixed c k := Int.emod_nonneg _ (by decide)
inductive spMixed (us : List U) (M : Mem) (Q : U → Mem → Prop) : Prop
  | mk (c k : Int) : (us = [.int c, .int k]) → (0 ≤ k) → (k ≤ 1000) → (Q (.int (mixed c k)) M) → spMixed  us M Q
noncomputable def st_l_mixed : Stmt := top 11
theorem sc_l_mixed : FnScope ["_law_cell", "_law_k"] ["_law_cell", "_law_k"] (defScope st_l_mixed) := ⟨rfl, rfl, rfl, by decide +kernel, rfl, by decide +kernel, by decide +kernel⟩
theorem c_l_mixed (F : FunM K mg "_law_mixed" st_l_mixed) : Cal2 P w K mg base 1 "_law_mixed" ["_law_cell", "_law_k"] spMixed := by
  refine cal2 F sc_l_mixed (by rintro us M Q Q' k ⟨c, i, e, h, h', q⟩; exact ⟨c, i, e, h, h', k _ _ q⟩) (by rintro us M Q ⟨ns, i, e, _⟩; rw [e]; rfl) (by rintro _ _ _ _ _ _ us hl; obtain ⟨_, _, rfl⟩ := len2 hl; rfl) (hbody := fun f cdv A outer s H E hr => ?_)
  refine ⟨_, (qss_one (qs_ret (qe_op o_mod (qe_op o_add (qe_op o_mul (qe_op o_add (qe_op o_mod (qv 0) qe_int) qe_int) (qe_op o_add (qe_op o_mul (qe_op o_mul qe_int (qv 1)) (qv 1)) qe_int)) (qe_op o_mul (qe_op o_fdiv (qv 0) qe_int) qe_int)) qe_int))), ?_⟩
  rintro us M Q cl ⟨c, k, rfl, h0, h1, q⟩
  walk_at "g"
  exact q
noncomputable def spFixed (d : Nat) : Sp2 := fun us M Q => (∃ u, us = [u] ∧ pureD d u = true ∧ Q u M) ∨ ∃ a xs, us = [.ref a] ∧ 0 < d ∧ M a = some (.lst xs) ∧ xs.length ≤ 100000 ∧ (∀ x ∈ xs, pureD (d - 1) x = true) ∧ Q (.tup xs) M
noncomputable def spNone : Sp2 := fun _ _ _ => False
noncomputable def st_fixed : Stmt := top 4
theorem sc_fixed : FnScope ["value"] ["value"] (defScope st_fixed) := ⟨rfl, rfl, rfl, by decide +kernel, rfl, by decide +kernel, by decide +kernel⟩
theorem c_fixed0 (F : FunM K mg "fixed" st_fixed) : Cal2 P w K mg base 1 "fixed" ["value"] spNone := by
  refine cal2 F sc_fixed (fun us M Q Q' k h => h) (fun us M Q h => h.elim) (by rintro _ _ _ _ _ _ us hl; obtain ⟨_, rfl⟩ := len1 hl; rfl) (hbody := fun f cdv A outer s H E hr => ?_)
  exact ⟨_, qss_cons qs_never (qss_one qs_never), fun us M Q cl h => h.elim⟩
theorem c_fixed1 {k d : Nat} {sp : Sp2} (T : Bl mg) (F : FunM K mg "fixed" st_fixed) (c_fixed : Cal2 P w K mg base (k + 1) "fixed" ["value"] sp) (hsp : ∀ e u M Q, d = e + 1 → pureD e u = true → Q u M → sp [u] M Q) : Cal2 P w K mg base (k + 3) "fixed" ["value"] (spFixed d) := by
  refine cal2 F sc_fixed (fun us M Q Q' k h => ?_) (fun us M Q h => ?_) (by rintro _ _ _ _ _ _ us hl; obtain ⟨_, rfl⟩ := len1 hl; rfl) (hbody := fun f cdv A outer s H E hr => ?_)
  · rcases h with ⟨u, e, h, q⟩ | ⟨a, xs, e, h0, h1, h2, h3, q⟩
    · exact .inl ⟨u, e, h, k _ _ q⟩
    · exact .inr ⟨a, xs, e, h0, h1, h2, h3, k _ _ q⟩
  · rcases h with ⟨u, e, _⟩ | ⟨a, xs, e, _⟩ <;> (rw [e]; rfl)
  refine ⟨_, (qss_cons (qs_if (qt_tru (qe_callB c_isi2 (by rfl) T.b_isinstance PyProof.Rows.boot_isinstance (qa_cons (qv 0) (qa_cons (qe_tup (qa_cons (qe_ty rfl T.b_list PyProof.Rows.boot_list) (qa_cons (qe_ty rfl T.b_tuple PyProof.Rows.boot_tuple) qa_nil))) qa_nil))) (fun _ => rfl)) (qss_one (qs_ret (qe_callTy c_tuple (by rfl) T.b_tuple PyProof.Rows.boot_tuple (qa_cons (qe_comp rfl (qi_seq (qv 0)) (fun _ _ _ _ _ => (qg_name (i := 0) (show List.Nodup (["part"] : List Str) by decide +kernel) rfl (by first | exact Or.inl rfl | exact Or.inr rfl))) (fun _ _ _ _ _ => qf_nil) (fun _ _ _ _ _ => (qe_call c_fixed (hr.mono (by first | decide | omega)) rfl (qa_cons (qv 0) qa_nil))) (N := ["part"]) (ix := [none]) (by kernel_rfl)) qa_nil)))) qss_nil)
      (qss_one (qs_ret (qv 0)))), ?_⟩
  rintro us M Q cl h
  rcases h with ⟨u, rfl, h, q⟩ | ⟨a, xs, rfl, h0, h1, h2, h3, q⟩
  · cases u with
    | tup xs =>
      obtain ⟨e, rfl, hl, hx⟩ := pureD_tup h
      walk_at "g"
      refine Comp.mapped xs id id (fun σ => ∃ v, σ = [v]) (List.map_id _).symm ⟨_, rfl⟩ (by rw [sizeLine_eq]; omega) (fun _ _ => trivial) ?_ ?_
      · rintro x hx' σ ⟨v, rfl⟩ Y yes N
        walk_at "g"
        exact hsp e x _ _ rfl (hx x hx') (yes _ _ ⟨_, rfl⟩ (Le.refl _))
      · intro p hp
        walk_at "g"
        refine ⟨_, put_same, ?_⟩
        rw [List.map_id]
        exact cl _ _ _ (Le.new hp) q
    | fl _ => simp [pureD] at h
    | ref _ => simp [pureD] at h
    | ty _ => simp [pureD] at h
    | _ =>
      walk_at "g"
      exact q
  · walk_at "g"
    refine ⟨_, h1, ?_⟩
    walk_at "g"
    refine ⟨_, h1, ?_⟩
    obtain ⟨e, rfl⟩ : ∃ e, d = e + 1 := ⟨d - 1, by omega⟩
    refine Comp.mapped xs id id (fun σ => ∃ v, σ = [v]) (List.map_id _).symm ⟨_, rfl⟩ (by rw [sizeLine_eq]; omega) (fun _ l => l _ _ h1) ?_ ?_
    · rintro x hx' σ ⟨v, rfl⟩ Y yes N
      walk_at "g"
      exact hsp e x _ _ rfl (h3 x hx') (yes _ _ ⟨_, rfl⟩ (Le.refl _))
    · intro p hp
      walk_at "g"
      refine ⟨_, put_same, ?_⟩
      rw [List.map_id]
      exact cl _ _ _ (Le.new hp) q
theorem c_fixed (T : Bl mg) (F : FunM K mg "fixed" st_fixed) : ∀ d, Cal2 P w K mg base (2 * d + 3) "fixed" ["value"] (spFixed d)
  | 0 => c_fixed1 (k := 0) T F (c_fixed0 F) fun e u M Q z => by omega
  | d + 1 => c_fixed1 (k := 2 * d + 2) T F (c_fixed T F d) fun e u M Q z h q => by
    obtain rfl : d = e := by omega
    exact .inl ⟨u, rfl, h, q⟩
inductive spOfSort (us : List U) (M : Mem) (Q : U → Mem → Prop) : Prop
  | mk (a : _) (ts : List Tl) (z : Str) : (us = [.ref a, .str z]) → (M a = some (.lst (ts.map tlU))) → (ts.length ≤ 100000) → (∀ p, M p = none → Q (.ref p) (L3.put M p (.lst ((ts.filter fun t => decide (sortOf t = z)).map tlU)))) → spOfSort  us M Q
noncomputable def st_of_sort : Stmt := top 2
theorem sc_of_sort : FnScope ["hall", "sort"] ["hall", "sort"] (defScope st_of_sort) := ⟨rfl, rfl, rfl, by decide +kernel, rfl, by decide +kernel, by decide +kernel⟩
theorem c_of_sort (F : FunM K mg "of_sort" st_of_sort) : Cal2 P w K mg base 1 "of_sort" ["hall", "sort"] spOfSort := by
  refine cal2 F sc_of_sort (by rintro us M Q Q' k ⟨a, hs, z, e, h, hl, q⟩; exact ⟨a, hs, z, e, h, hl, fun p hp => k _ _ (q p hp)⟩) (by rintro us M Q ⟨a, hs, z, e, _⟩; rw [e]; rfl) (by rintro _ _ _ _ _ _ us hl; obtain ⟨_, _, rfl⟩ := len2 hl; rfl) (hbody := fun f cdv A outer s H E hr => ?_)
  refine ⟨_, (qss_one (qs_ret (qe_comp rfl (qi_seq (qv 0)) (fun _ _ _ _ _ => (qg_name (i := 0) (show List.Nodup (["told", "sort"] : List Str) by decide +kernel) rfl (by first | exact Or.inl rfl | exact Or.inr rfl))) (fun _ _ _ _ _ => (qf_one (qt_cmp (o_eq hr.units) (qe_ixN (n := 0) (qv 0) (fun _ _ => rfl)) (qv 1) (nomark _)))) (fun _ _ _ _ _ => (qv 0)) (N := ["told", "sort"]) (ix := [none, some 1]) (by kernel_rfl)))), ?_⟩
  rintro us M Q cl ⟨a, ts, z, rfl, h, hl, q⟩
  walk_at "g"
  refine ⟨_, h, ?_⟩
  refine Comp.pure ts tlU (fun t => decide (sortOf t = z)) tlU (fun σ => ∃ v, σ = [v, some (.str z)]) rfl ⟨_, rfl⟩ (by rw [sizeLine_eq]; omega) (fun _ l => l _ _ h) ?_ q
  rintro t ht σ ⟨v, rfl⟩ Y N yes no
  rw [tlU_eq] at yes ⊢
  walk_at "g"
  refine bE2 (fun c => ?_) (fun c => ?_)
  · walk_at "g"
    exact yes c _ _ ⟨_, rfl⟩ (Le.refl _)
  · exact no c _ _ ⟨_, rfl⟩ (Le.refl _)
inductive spVisitor (CV : Addr) (us : List U) (M : Mem) (Q : U → Mem → Prop) : Prop
  | mk (a : _) (r : _) : (us = [.ref a, r]) → (M a = some (.ins CV [])) → (∀ t, M t = none → Q .non (L3.put (L3.put M t (.dct [])) a (.ins CV (visF r .non .non .non t)))) → spVisitor CV us M Q
noncomputable def st_Visitor_init : Stmt := inClass (top 6) 0
theorem sc_Visitor_init : FnScope ["self", "rank"] ["self", "rank"] (defScope st_Visitor_init) := ⟨rfl, rfl, rfl, by decide +kernel, rfl, by decide +kernel, by decide +kernel⟩
theorem m_Visitor {f : Addr} {fd : FuncData} (V : FlV K CV) (mk : Mk K CV f) (hm : mg "Visitor" = some (.ref CV)) (F : Fun K "__init__" "Visitor.__init__" st_Visitor_init f fd) : Mk2 P w K mg base 1 "Visitor" CV ["self", "rank"] (spVisitor CV) := by
  refine mak2 mk hm F sc_Visitor_init (by rintro us M Q Q' k ⟨a, r, e, h, q⟩; exact ⟨a, r, e, h, fun l hl => k _ _ (q l hl)⟩) (by rintro us M Q ⟨a, r, e, _⟩; rw [e]; rfl) (by rintro _ _ _ _ _ _ us hl; obtain ⟨_, _, rfl⟩ := len2 hl; rfl) (hbody := fun cdv A outer s H E hr => ?_)
  refine ⟨_, (qss_cons (qs_fld K (qv 0) (qv 1) rfl)
      (qss_cons (qs_fld K (qv 0) qe_non rfl)
      (qss_cons (qs_fld K (qv 0) qe_non rfl)
      (qss_cons (qs_fld K (qv 0) qe_non rfl)
      (qss_one (qs_fld K (qv 0) qe_dnew rfl)))))), ?_⟩
  rintro us M Q cl ⟨a, r, rfl, h, q⟩
  walk_at "g"
  refine ⟨_, _, h, V.rank, Nat.le_of_ble_eq_true rfl, ?_⟩
  walk_at "g"
  refine ⟨_, _, put_same, V.station, Nat.le_of_ble_eq_true rfl, ?_⟩
  rw [put_put]
  walk_at "g"
  refine ⟨_, _, put_same, V.since, Nat.le_of_ble_eq_true rfl, ?_⟩
  rw [put_put]
  walk_at "g"
  refine ⟨_, _, put_same, V.until_, Nat.le_of_ble_eq_true rfl, ?_⟩
  rw [put_put]
  walk_at "g"
  intro t ht
  walk_at "g"
  refine ⟨_, _, kpM put_same ht, V.things, Nat.le_of_ble_eq_true rfl, ?_⟩
  have hat : a ≠ t := mne put_same ht
  have hMt : M t = none := by rw [put_ne (Ne.symm hat)] at ht; exact ht
  rw [put_swap hat, put_comm hat]
  exact q t hMt
noncomputable def enterF (f : Fl) (n : Nat) (v : Vst) (nm : Str) (turn : U) (xs : List Int) : Fl := setR (setV f n { v with st := .str nm, since := turn, til := .non }) nm (xs ++ [(n : Int)])
inductive spEnter (CF CV : Addr) (us : List U) (M : Mem) (Q : U → Mem → Prop) : Prop
  | mk (ad : Slot → Addr) (f : _) (n : Nat) (nm : _) (turn : _) (v : _) (xs : _) : (us = [.ref (ad .fl), .int n, .str nm, turn]) → (FS (RF CF CV) M ad f) → (f.ppl[n]? = some v) → (f.rows.lookup nm = some xs) → (xs.length < 900) → (∀ M', Step (RF CF CV) M ad f M' ad (enterF f n v nm turn xs) → Q .non M') → spEnter CF CV us M Q
noncomputable def st_Floor_enter : Stmt := inClass (top 8) 2
theorem sc_Floor_enter : FnScope ["self", "number", "name", "turn", "visitor"] ["self", "number", "name", "turn"] (defScope st_Floor_enter) := ⟨rfl, rfl, rfl, by decide +kernel, rfl, by decide +kernel, by decide +kernel⟩
theorem k_enter {f : Addr} {fd : FuncData} (V : FlV K CV) (W : FlF K CF) (me : Meth K CF "enter" f) (F : Fun K "enter" "Floor.enter" st_Floor_enter f fd) : Mt2 P w K mg base 1 CF "enter" ["self", "number", "name", "turn"] (spEnter CF CV) := by
  refine met2 W.plan.cl me F sc_Floor_enter (by rintro us M Q Q' k ⟨ad, f, n, nm, turn, v, xs, e, h, h1, h2, h3, q⟩; exact ⟨ad, f, n, nm, turn, v, xs, e, h, h1, h2, h3, fun M' s => k _ _ (q M' s)⟩) (by rintro us M Q ⟨ad, f, n, nm, turn, v, xs, e, _⟩; rw [e]; rfl) (by rintro _ _ _ _ _ _ us hl; obtain ⟨_, _, _, _, rfl⟩ := len4 hl; rfl) (hbody := fun cdv A outer s H E hr => ?_)
  refine ⟨_, (qss_cons (qs_set (i := 4) sc_Floor_enter.nd rfl (by first | exact Or.inl rfl | exact Or.inr rfl) (qe_ix x_ix (qe_fldK K (qv 0) rfl) (qv 1) (fun _ _ => rfl)))
      (qss_cons (qs_fld K (qv 4) (qv 2) rfl)
      (qss_cons (qs_fld K (qv 4) (qv 3) rfl)
      (qss_cons (qs_fld K (qv 4) qe_non rfl)
      (qss_one (qs_expr (qe_bm PySem.F.plainAttrs_list PySem.F.slot_list_append PySem.F.type_list_append m_append (qe_dix hr.units (qe_fldK K (qv 0) rfl) (qv 2) (fun _ _ => rfl)) (qa_cons (qv 1) qa_nil)))))))), ?_⟩
  rintro us M Q cl ⟨ad, f, n, nm, turn, v, xs, rfl, h, hv, hx, hl, q⟩
  have hn : n < f.ppl.length := (List.getElem?_eq_some_iff.mp hv).1
  walk_at "go"
  refine ⟨_, _, fvis h hv, V.station, Nat.le_of_ble_eq_true rfl, ?_⟩
  rw [pv_station]
  have s1 := (h.stepV (v' := { v with st := .str nm }) hv rfl).fs
  have v1 : (setV f n { v with st := .str nm }).ppl[n]? = some { v with st := .str nm } := List.getElem?_set_self hn
  walk_at "g"
  refine ⟨_, _, fvis s1 v1, V.since, Nat.le_of_ble_eq_true rfl, ?_⟩
  rw [pv_since, put_put]
  have s2 := (h.stepV (v' := { v with st := .str nm, since := turn }) hv rfl).fs
  have v2 : (setV f n { v with st := .str nm, since := turn }).ppl[n]? = some { v with st := .str nm, since := turn } := List.getElem?_set_self hn
  walk_at "g"
  refine ⟨_, _, fvis s2 v2, V.until_, Nat.le_of_ble_eq_true rfl, ?_⟩
  rw [pv_until, put_put]
  have s3 := h.stepV (v' := { v with st := .str nm, since := turn, til := .non }) hv rfl
  have f3 := s3.fs
  have hx3 : (setV f n { v with st := .str nm, since := turn, til := .non }).rows.lookup nm = some xs := hx
  walk_at "go"
  refine ⟨⟨rfl, _, f3.row hx3⟩, ?_⟩
  walk_at "g"
  refine ⟨_, f3.row hx3, by rw [List.length_map]; exact small1000 (by omega), ?_⟩
  have e : xs.map U.int ++ [U.int n] = (xs ++ [(n : Int)]).map U.int := by rw [List.map_append]; rfl
  rw [e]
  exact q _ (s3.trans (f3.stepR hx3))
theorem setV_new {f : Fl} {v v' : Vst} : setV (newF f v) f.ppl.length v' = newF f v' := by
  unfold setV newF
  simp only []
  rw [List.set_append_right _ _ (Nat.le_refl _), Nat.sub_self]; rfl
inductive spCome (CF CV : Addr) (us : List U) (M : Mem) (Q : U → Mem → Prop) : Prop
  | mk (ad : Slot → Addr) (t : _) (nm : _) (r : _) (c : _) (th : _) (turn : Int) (xs : _) : (us = [.ref (ad .fl), .str nm, .int turn]) → (FS (RF CF CV) M ad (flT t)) → (t.plan.lookup nm = some (.door nm r c th)) → (t.rows.lookup nm = some xs) → (xs.length < 900) → (t.ppl.length < 900) → (∀ M' ad', Step (RF CF CV) M ad (flT t) M' ad' (flT (comeT t nm r turn)) → Q (.int t.ppl.length) M') → spCome CF CV us M Q
noncomputable def st_Floor_come : Stmt := inClass (top 8) 1
theorem sc_Floor_come : FnScope ["self", "name", "turn", "number"] ["self", "name", "turn"] (defScope st_Floor_come) := ⟨rfl, rfl, rfl, by decide +kernel, rfl, by decide +kernel, by decide +kernel⟩
theorem k_come {f : Addr} {fd : FuncData} (T : Bl mg) (V : FlV K CV) (W : FlF K CF) (me : Meth K CF "come" f) (F : Fun K "come" "Floor.come" st_Floor_come f fd) (m_Visitor : Mk2 P w K mg base 1 "Visitor" CV ["self", "rank"] (spVisitor CV)) (k_enter : Mt2 P w K mg base 1 CF "enter" ["self", "number", "name", "turn"] (spEnter CF CV)) : Mt2 P w K mg base 3 CF "come" ["self", "name", "turn"] (spCome CF CV) := by
  refine met2 W.plan.cl me F sc_Floor_come (by rintro us M Q Q' k ⟨ad, t, nm, r, c, th, turn, xs, e, h, h1, h2, h3, h4, q⟩; exact ⟨ad, t, nm, r, c, th, turn, xs, e, h, h1, h2, h3, h4, fun M' ad' s => k _ _ (q M' ad' s)⟩) (by rintro us M Q ⟨ad, t, nm, r, c, th, turn, xs, e, _⟩; rw [e]; rfl) (by rintro _ _ _ _ _ _ us hl; obtain ⟨_, _, _, rfl⟩ := len3 hl; rfl) (hbody := fun cdv A outer s H E hr => ?_)
  refine ⟨_, (qss_cons (qs_set (i := 3) sc_Floor_come.nd rfl (by first | exact Or.inl rfl | exact Or.inr rfl) (qe_callB c_len (by rfl) T.b_len PySem.boot_len (qa_cons (qe_fldK K (qv 0) rfl) qa_nil)))
      (qss_cons (qs_expr (qe_bm PySem.F.plainAttrs_list PySem.F.slot_list_append PySem.F.type_list_append m_append (qe_fldK K (qv 0) rfl) (qa_cons (qe_make m_Visitor (hr.mono (by first | decide | omega)) rfl (qa_cons (qe_ixN (n := 2) (qe_dix hr.units (qe_fldK K (qv 0) rfl) (qv 1) (fun _ _ => rfl)) (fun _ _ => rfl)) qa_nil)) qa_nil)))
      (qss_cons (qs_expr (qe_meth (qv 0) k_enter (hr.mono (by first | decide | omega)) (qa_cons (qv 3) (qa_cons (qv 1) (qa_cons (qv 2) qa_nil)))))
      (qss_one (qs_ret (qv 3)))))), ?_⟩
  rintro us M Q cl ⟨ad, t, nm, r, c, th, turn, xs, rfl, h, hp, hx, hl, hl2, q⟩
  walk_at "go"
  refine ⟨_, h.pp, ?_⟩
  rw [ppl_size, ppl_len]
  walk_at "go"
  refine ⟨⟨rfl, _, h.pp⟩, ?_⟩
  walk_at "go"
  intro a ha
  walk_at "g"
  refine ⟨a, .int r, rfl, put_same, fun b hb => ?_⟩
  obtain ⟨hta, ht⟩ := put_none hb
  rw [put_swap (Ne.symm hta), put_comm (Ne.symm hta)]
  have hpp := h.pp
  have n1 : ad .pp ≠ a := mne hpp ha
  have n2 : ad .pp ≠ b := mne hpp ht
  walk_at "g"
  refine ⟨_, (put_ne n1).trans ((put_ne n2).trans hpp), by rw [ppl_size, ppl_len]; exact small1000 (by omega), ?_⟩
  have s1 := h.come (v := ⟨.int r, .non, .non, .non, []⟩) ha ht (Ne.symm hta)
  have ev : (newF (flT t) ⟨.int r, .non, .non, .non, []⟩).ppl[t.ppl.length]? = some ⟨.int r, .non, .non, .non, []⟩ := by show ((flT t).ppl ++ [_])[t.ppl.length]? = _; rw [← ppl_len, List.getElem?_append_right (Nat.le_refl _), Nat.sub_self]; rfl
  have e0 := s1.fl
  walk_at "g"
  rw [← e0]
  have f1 := s1.fs
  refine ⟨_, fo f1, rfl, ?_⟩
  walk_at "g"
  refine ⟨newA ad (flT t).ppl.length a b, newF (flT t) ⟨.int r, .non, .non, .non, []⟩, t.ppl.length, nm, .int turn, _, nats xs, rfl, f1, ev, row_fl hx, by rw [nats_len]; exact hl, fun M' s2 => ?_⟩
  walk_at "g"
  refine q M' (newA ad (flT t).ppl.length a b) ?_
  have e : enterF (newF (flT t) ⟨.int r, .non, .non, .non, []⟩) t.ppl.length ⟨.int r, .non, .non, .non, []⟩ nm (.int turn) (nats xs) = flT (comeT t nm r turn) := by
    rw [← come_fl hx]
    unfold enterF
    rw [← ppl_len (t := t), setV_new]
    rfl
  rw [e] at s2
  exact s1.trans s2
inductive spLeft (CF CV : Addr) (us : List U) (M : Mem) (Q : U → Mem → Prop) : Prop
  | mk (ad : Slot → Addr) (t : _) (nm : _) (k : _) : (us = [.ref (ad .fl), .str nm]) → (FS (RF CF CV) M ad (flT t)) → (t.stock.lookup nm = some k) → (Q (.int k) M) → spLeft CF CV us M Q
noncomputable def st_Floor_left : Stmt := inClass (top 8) 13
theorem sc_Floor_left : FnScope ["self", "pool"] ["self", "pool"] (defScope st_Floor_left) := ⟨rfl, rfl, rfl, by decide +kernel, rfl, by decide +kernel, by decide +kernel⟩
theorem k_left {f : Addr} {fd : FuncData} (W : FlF K CF) (me : Meth K CF "left" f) (F : Fun K "left" "Floor.left" st_Floor_left f fd) : Mt2 P w K mg base 1 CF "left" ["self", "pool"] (spLeft CF CV) := by
  refine met2 W.plan.cl me F sc_Floor_left (by rintro us M Q Q' k ⟨ad, t, nm, m, e, h, h1, q⟩; exact ⟨ad, t, nm, m, e, h, h1, k _ _ q⟩) (by rintro us M Q ⟨ad, t, nm, m, e, _⟩; rw [e]; rfl) (by rintro _ _ _ _ _ _ us hl; obtain ⟨_, _, rfl⟩ := len2 hl; rfl) (hbody := fun cdv A outer s H E hr => ?_)
  refine ⟨_, (qss_one (qs_ret (qe_dix hr.units (qe_fldK K (qv 0) rfl) (qv 1) (fun _ _ => rfl)))), ?_⟩
  rintro us M Q cl ⟨ad, t, nm, m, rfl, h, hk, q⟩
  walk_at "go"
  exact q
theorem flT_add {ts : List Tl} {t : Tl} (hn : t.name ∉ ts.map Tl.name) : flT (TFa (ts ++ [t])) = { rowF (flT (TFa ts)) t.name with plan := putD (kvU tlU (TFa ts).plan) (.inr t.name) (tlU t), tal := putD (kvU U.int (TFa ts).tal) (.inr t.name) (.int 0) } := by
  have e1 : (TFa (ts ++ [t])).plan = putL (TFa ts).plan t.name t := by show (ts ++ [t]).map (fun t => (t.name, t)) = putL (ts.map fun t => (t.name, t)) t.name t; rw [put_new (look_map_none (g := fun t => t) hn), List.map_append]; rfl
  have e2 : (TFa (ts ++ [t])).tal = putL (TFa ts).tal t.name 0 := by show (ts ++ [t]).map (fun t => (t.name, (0 : Int))) = putL (ts.map fun t => (t.name, (0 : Int))) t.name 0; rw [put_new (look_map_none (g := fun _ => (0 : Int)) hn), List.map_append]; rfl
  have e3 : (TFa (ts ++ [t])).rows = (TFa ts).rows ++ [(t.name, [])] := by show (ts ++ [t]).map _ = _; rw [List.map_append]; rfl
  unfold flT
  rw [e1, e2, e3, putD_kv, putD_kv]
  unfold rowF rowsI
  simp only [List.map_append]
  rfl
noncomputable def stk (ts ps : List Tl) : TF := { TFa ts with stock := ps.filterMap poolOf }
theorem flT_stk {ts ps : List Tl} {n : Str} {m : Int} (nd : ((ps ++ [Tl.pool n m]).map Tl.name).Nodup) : flT (stk ts (ps ++ [.pool n m])) = { flT (stk ts ps) with stock := putD (kvU U.int (stk ts ps).stock) (.inr n) (.int m) } := by
  have hn : (ps.filterMap poolOf).lookup n = none := by
    cases e : (ps.filterMap poolOf).lookup n with
    | none => rfl
    | some k =>
      have h1 := (pools_keys ps).subset (List.mem_map.mpr ⟨(n, k), look_mem e, rfl⟩)
      rw [List.map_append, List.nodup_append] at nd
      exact absurd rfl (nd.2.2 n h1 n (by simp [Tl.name]))
  have e1 : (stk ts (ps ++ [.pool n m])).stock = putL (stk ts ps).stock n m := by
    show (ps ++ [Tl.pool n m]).filterMap poolOf = putL (ps.filterMap poolOf) n m
    rw [put_new hn, List.filterMap_append]; rfl
  rw [putD_kv]
  unfold flT
  rw [e1]
  rfl
inductive spFloor (CF CV : Addr) (us : List U) (M : Mem) (Q : U → Mem → Prop) : Prop
  | mk (a : _) (l : _) (ts : _) : (us = [.ref a, .ref l]) → (M a = some (.ins CF [])) → (M l = some (.lst (ts.map tlU))) → (ts.length ≤ 1000) → ((∀ t ∈ ts, okTl t)) → ((ts.map Tl.name).Nodup) → (∀ M' ad, FS (RF CF CV) M' ad (flT (TF0 ts)) → ad .fl = a → (∀ b o, M b = some o → b ≠ a → M' b = some o ∧ FP (RF CF CV) ad (flT (TF0 ts)) b = none) → Q .non M') → spFloor CF CV us M Q
noncomputable def st_Floor_init : Stmt := inClass (top 8) 0
theorem sc_Floor_init : FnScope ["self", "hall", "told", "pool"] ["self", "hall"] (defScope st_Floor_init) := ⟨rfl, rfl, rfl, by decide +kernel, rfl, by decide +kernel, by decide +kernel⟩
theorem m_Floor {f : Addr} {fd : FuncData} (W : FlF K CF) (mk : Mk K CF f) (hm : mg "Floor" = some (.ref CF)) (F : Fun K "__init__" "Floor.__init__" st_Floor_init f fd) (c_fixed : Cal2 P w K mg base 11 "fixed" ["value"] (spFixed 4)) (c_of_sort : Cal2 P w K mg base 1 "of_sort" ["hall", "sort"] spOfSort) : Mk2 P w K mg base 13 "Floor" CF ["self", "hall"] (spFloor CF CV) := by
  refine mak2 mk hm F sc_Floor_init (by rintro us M Q Q' k ⟨a, l, hs, e, h, h1, h2, h3, h4, q⟩; exact ⟨a, l, hs, e, h, h1, h2, h3, h4, fun M' ad f1 f2 f3 => k _ _ (q M' ad f1 f2 f3)⟩) (by rintro us M Q ⟨a, l, hs, e, _⟩; rw [e]; rfl) (by rintro _ _ _ _ _ _ us hl; obtain ⟨_, _, rfl⟩ := len2 hl; rfl) (hbody := fun cdv A outer s H E hr => ?_)
  refine ⟨_, (qss_cons (qs_fld K (qv 0) qe_dnew rfl)
      (qss_cons (qs_fld K (qv 0) qe_dnew rfl)
      (qss_cons (qs_fld K (qv 0) qe_dnew rfl)
      (qss_cons (qs_fld K (qv 0) qe_dnew rfl)
      (qss_cons (qs_fld K (qv 0) (qe_lst qa_nil) rfl)
      (qss_cons (qs_for PassesOwn.never rfl (qi_seq (qe_call c_fixed (hr.mono (by first | decide | omega)) rfl (qa_cons (qv 1) qa_nil))) (qg_name (i := 2) sc_Floor_init.nd rfl (by first | exact Or.inl rfl | exact Or.inr rfl)) (qss_cons (qs_asg (qv 2) (qg_sub (qe_fldK K (qv 0) rfl) (qe_ixN (n := 1) (qv 2) (fun _ _ => rfl)) (s_dset hr.units)))
      (qss_cons (qs_asg (qe_lst qa_nil) (qg_sub (qe_fldK K (qv 0) rfl) (qe_ixN (n := 1) (qv 2) (fun _ _ => rfl)) (s_dset hr.units)))
      (qss_one (qs_asg qe_int (qg_sub (qe_fldK K (qv 0) rfl) (qe_ixN (n := 1) (qv 2) (fun _ _ => rfl)) (s_dset hr.units)))))))
      (qss_one (qs_for PassesOwn.never rfl (qi_seq (qe_call c_of_sort (hr.mono (by first | decide | omega)) rfl (qa_cons (qv 1) (qa_cons qe_str qa_nil)))) (qg_name (i := 3) sc_Floor_init.nd rfl (by first | exact Or.inl rfl | exact Or.inr rfl)) (qss_one (qs_asg (qe_ixN (n := 2) (qv 3) (fun _ _ => rfl)) (qg_sub (qe_fldK K (qv 0) rfl) (qe_ixN (n := 1) (qv 3) (fun _ _ => rfl)) (s_dset hr.units)))))))))))), ?_⟩
  rintro us M Q cl ⟨a, l, ts, rfl, h, hl, hlen, hok, hnd, q⟩
  walk_at "g"
  intro p1 h1
  walk_at "g"
  refine ⟨_, _, kpM h h1, W.plan, Nat.le_of_ble_eq_true rfl, ?_⟩
  walk_at "g"
  intro p2 h2
  walk_at "g"
  refine ⟨_, _, kpM put_same h2, W.standing, Nat.le_of_ble_eq_true rfl, ?_⟩
  walk_at "g"
  intro p3 h3
  walk_at "g"
  refine ⟨_, _, kpM put_same h3, W.tallies, Nat.le_of_ble_eq_true rfl, ?_⟩
  walk_at "g"
  intro p4 h4
  walk_at "g"
  refine ⟨_, _, kpM put_same h4, W.stock, Nat.le_of_ble_eq_true rfl, ?_⟩
  walk_at "g"
  intro p5 h5
  walk_at "g"
  refine ⟨_, _, kpM put_same h5, W.people, Nat.le_of_ble_eq_true rfl, ?_⟩
  walk_at "g"
  obtain ⟨x2, y2⟩ := put_none h2
  obtain ⟨x2', y2'⟩ := put_none y2
  obtain ⟨x3, y3⟩ := put_none h3
  obtain ⟨x3a, y3a⟩ := put_none y3
  obtain ⟨x3b, y3b⟩ := put_none y3a
  obtain ⟨x3c, y3c⟩ := put_none y3b
  obtain ⟨x4, y4⟩ := put_none h4
  obtain ⟨x4a, y4a⟩ := put_none y4
  obtain ⟨x4b, y4b⟩ := put_none y4a
  obtain ⟨x4c, y4c⟩ := put_none y4b
  obtain ⟨x4d, y4d⟩ := put_none y4c
  obtain ⟨x4e, y4e⟩ := put_none y4d
  obtain ⟨x5, y5⟩ := put_none h5
  obtain ⟨x5a, y5a⟩ := put_none y5
  obtain ⟨x5b, y5b⟩ := put_none y5a
  obtain ⟨x5c, y5c⟩ := put_none y5b
  obtain ⟨x5d, y5d⟩ := put_none y5c
  obtain ⟨x5e, y5e⟩ := put_none y5d
  obtain ⟨x5f, y5f⟩ := put_none y5e
  obtain ⟨x5g, y5g⟩ := put_none y5f
  have x1 : a ≠ p1 := mne h h1
  have hla : l ≠ a := fun z => by rw [z, h] at hl; cases hl
  let ad0 : Slot → Addr := fun s => match s with
    | .pl => p1
    | .sd => p2
    | .ta => p3
    | .sk => p4
    | .pp => p5
    | _ => a
  generalize eN : L3.put _ a (O.ins CF (putU "people" (U.ref p5) _)) = N
  have e1 : ∀ s o, obj (RF CF CV) ad0 {} s = some o → s = .fl ∨ s = .pl ∨ s = .sd ∨ s = .ta ∨ s = .sk ∨ s = .pp := fun s o q => by
    cases s with
    | row n => cases q
    | vis i => simp [obj] at q
    | th i => simp [obj] at q
    | _ => simp
  have kp0 : ∀ b o, M b = some o → b ≠ a → N b = some o ∧ FP (RF CF CV) ad0 {} b = none := fun b o hb hba => by
    have n1 := mne hb h1
    have n2 := mne hb y2'
    have n3 := mne hb y3c
    have n4 := mne hb y4e
    have n5 := mne hb y5g
    rw [← eN]
    refine ⟨by rw [put_ne hba, put_ne n5, put_ne hba, put_ne n4, put_ne hba, put_ne n3, put_ne hba, put_ne n2, put_ne hba, put_ne n1]; exact hb, fp_none fun s o q z => ?_⟩
    rcases e1 s o q with rfl | rfl | rfl | rfl | rfl | rfl
    · exact hba z.symm
    · exact n1 z.symm
    · exact n2 z.symm
    · exact n3 z.symm
    · exact n4 z.symm
    · exact n5 z.symm
  have fs0 : FS (RF CF CV) N ad0 {} := by
    rw [← eN]
    clear h2 h3 h4 h5 y2 y3 y3a y3b y4 y4a y4b y4c y4d y5 y5a y5b y5c y5d y5e y5f kp0
    refine ⟨fun s s' o o' q q' z => ?_, fun b o q => ?_⟩
    · rcases e1 s o q with rfl | rfl | rfl | rfl | rfl | rfl <;> rcases e1 s' o' q' with rfl | rfl | rfl | rfl | rfl | rfl <;> first | rfl | exact absurd z (by assumption) | exact absurd z.symm (by assumption)
    · obtain ⟨s, q1, q2⟩ := fp_inv q
      rw [← q2]
      rcases e1 s o q1 with rfl | rfl | rfl | rfl | rfl | rfl <;> cases q1
      · exact put_same
      · show L3.put _ a _ p1 = _; walk_at "m"
      · show L3.put _ a _ p2 = _; walk_at "m"
      · show L3.put _ a _ p3 = _; walk_at "m"
      · show L3.put _ a _ p4 = _; walk_at "m"
      · show L3.put _ a _ p5 = _; walk_at "m"
  clear h2 h3 h4 h5 y2 y3 y3a y3b y4 y4a y4b y4c y4d y5 y5a y5b y5c y5d y5e y5f eN
  refine .inr ⟨l, ts.map tlU, rfl, by omega, (kp0 l _ hl hla).1, by rw [List.length_map]; omega, fun x hx => ?_, ?_⟩
  · obtain ⟨t, ht, rfl⟩ := List.mem_map.mp hx
    exact pure_T (hok t ht)
  walk_at "g"
  refine Walk.inv (fun i σ M' => ∃ ad v2 v3, σ = [some (.ref a), some (.ref l), v2, v3] ∧ FS (RF CF CV) M' ad (flT (TFa (ts.take i))) ∧ ad .fl = a ∧ ∀ b o, M b = some o → b ≠ a → M' b = some o ∧ FP (RF CF CV) ad (flT (TFa (ts.take i))) b = none) ⟨ad0, _, _, rfl, fs0, rfl, kp0⟩ ?_ ?_
  · clear kp0 fs0
    rintro i x σ M' hx ⟨ad, v2, v3, rfl, fs, hfl, kp⟩
    refine ⟨trivial, ?_⟩
    rw [List.getElem?_map] at hx
    cases et : ts[i]? with
    | none => rw [et] at hx; cases hx
    | some t =>
      rw [et] at hx; cases hx
      have hi : i < ts.length := lt_of et
      have et' : ts.take (i + 1) = ts.take i ++ [t] := by rw [List.take_add_one, et]; rfl
      have hnew : t.name ∉ (ts.take i).map Tl.name := fun z => by
        have : ((ts.take i ++ [t]).map Tl.name).Nodup := by rw [← et']; exact hnd.sublist ((List.take_sublist _ _).map _)
        rw [List.map_append, List.nodup_append] at this
        exact this.2.2 _ z _ (by simp) rfl
      rw [et', flT_add hnew]
      have hlt : (ts.take i).length ≤ 1000 := by rw [List.length_take]; omega
      have hrow : (flT (TFa (ts.take i))).rows.lookup t.name = none := by
        show (rowsI (TFa (ts.take i)).rows).lookup t.name = none
        rw [look_rows]
        have : (TFa (ts.take i)).rows.lookup t.name = none := look_map_none hnew
        rw [this]; rfl
      have lp : (flT (TFa (ts.take i))).plan.length < 1000000 := by show (kvU tlU ((ts.take i).map _)).length < _; rw [kv_len, List.length_map]; omega
      have lt' : (flT (TFa (ts.take i))).tal.length < 1000000 := by show (kvU U.int ((ts.take i).map _)).length < _; rw [kv_len, List.length_map]; omega
      have lr : (rowsD ad (flT (TFa (ts.take i))).rows).length < 1000000 := by unfold rowsD; rw [List.length_map]; show (rowsI ((ts.take i).map _)).length < _; unfold rowsI; rw [List.length_map, List.length_map]; omega
      have epl : (flT (TFa (ts.take i))).plan = kvU tlU (TFa (ts.take i)).plan := rfl
      have eta : (flT (TFa (ts.take i))).tal = kvU U.int (TFa (ts.take i)).tal := rfl
      rw [← epl, ← eta]
      generalize flT (TFa (ts.take i)) = f0 at fs kp hrow lp lt' lr ⊢
      rw [tlU_eq]
      walk_at "g"
      rw [← hfl]
      refine ⟨_, _, fo fs, W.plan, oE_some lf_plan ?_⟩
      walk_at "g"
      refine ⟨_, fs.pl, lp, ?_⟩
      have s1 := fs.stepPl (d := putD f0.plan (.inr t.name) (.tup (.str (sortOf t) :: .str t.name :: restU t)))
      walk_at "g"
      intro p hp
      walk_at "g"
      refine ⟨_, _, kpM (fo s1.fs) hp, W.standing, oE_some lf_standing ?_⟩
      walk_at "g"
      refine ⟨_, kpM s1.fs.sd hp, lr, ?_⟩
      have s2 := s1.fs.stepRow (nm := t.name) hrow hp
      rw [putD_rows (rs := f0.rows) hrow]
      walk_at "g"
      have f2 := fo s2.fs
      have t2 := s2.fs.ta
      refine ⟨_, _, f2, W.tallies, oE_some lf_tallies ?_⟩
      walk_at "g"
      refine ⟨_, t2, lt', ?_⟩
      have s3 := s2.fs.stepTa (d := putD f0.tal (.inr t.name) (.int 0))
      have ss := (s1.trans s2).trans s3
      walk_at "g"
      refine ⟨_, Le.refl _, _, _, _, rfl, ss.fs, ss.fl, fun b o hb hba => ?_⟩
      obtain ⟨z1, z2⟩ := kp b o hb (by rw [← hfl]; exact hba)
      exact ss.st.kp b o z1 z2
  · clear kp0 fs0
    rintro σ M' ⟨ad, v2, v3, rfl, fs, hfl, kp⟩
    refine ⟨trivial, ?_⟩
    have etl : ts.take (ts.map tlU).length = ts := by rw [List.length_map, List.take_length]
    rw [etl] at fs kp
    walk_at "g"
    refine ⟨l, ts, _, rfl, (kp l _ hl hla).1, by omega, fun p hp => ?_⟩
    walk_at "g"
    refine ⟨_, put_same, ?_⟩
    have e0 : stk ts [] = TFa ts := rfl
    have eF : stk ts (ts.filter fun t => decide (sortOf t = "pool")) = TF0 ts := by unfold stk TF0; rw [pools_filter]
    have hps : ∀ t ∈ (ts.filter fun t => decide (sortOf t = "pool")), ∃ n m, t = .pool n m := fun t ht => pool_of (of_decide_eq_true (List.mem_filter.mp ht).2)
    have hpn : ((ts.filter fun t => decide (sortOf t = "pool")).map Tl.name).Nodup := hnd.sublist (List.filter_sublist.map _)
    have hpl : (ts.filter fun t => decide (sortOf t = "pool")).length ≤ 1000 := Nat.le_trans (List.length_filter_le _ _) hlen
    generalize (ts.filter fun t => decide (sortOf t = "pool")) = ps at eF hps hpn hpl ⊢
    have hpo : FP (RF CF CV) ad (flT (TFa ts)) p = none := fp_none fun s o q z => by
      have := fs.at_ q
      rw [z, hp] at this; cases this
    refine Walk.inv (fun i σ M' => ∃ ad v2 v3, σ = [some (.ref a), some (.ref l), v2, v3] ∧ M' p = some (.lst (ps.map tlU)) ∧ FP (RF CF CV) ad (flT (stk ts (ps.take i))) p = none ∧ FS (RF CF CV) M' ad (flT (stk ts (ps.take i))) ∧ ad .fl = a ∧ ∀ b o, M b = some o → b ≠ a → M' b = some o ∧ FP (RF CF CV) ad (flT (stk ts (ps.take i))) b = none)
      ⟨ad, _, _, rfl, put_same, hpo, fs.new hp, hfl, fun b o hb hba => ⟨kpM (kp b o hb hba).1 hp, (kp b o hb hba).2⟩⟩ ?_ ?_
    · clear fs kp hpo hp hfl
      rintro i x σ M' hx ⟨ad, v2, v3, rfl, hpl', hpo, fs, hfl, kp⟩
      refine ⟨hpl', ?_⟩
      rw [List.getElem?_map] at hx
      cases et : ps[i]? with
      | none => rw [et] at hx; cases hx
      | some t =>
        rw [et] at hx; cases hx
        have et' : ps.take (i + 1) = ps.take i ++ [t] := by rw [List.take_add_one, et]; rfl
        obtain ⟨n, m, rfl⟩ := hps t (List.mem_of_getElem? et)
        have nd' : ((ps.take i ++ [Tl.pool n m]).map Tl.name).Nodup := by rw [← et']; exact hpn.sublist ((List.take_sublist _ _).map _)
        rw [et', flT_stk nd']
        have ls : (flT (stk ts (ps.take i))).stock.length < 1000000 := by
          show (kvU U.int ((ps.take i).filterMap poolOf)).length < _
          rw [kv_len]
          have := List.length_filterMap_le poolOf (ps.take i)
          rw [List.length_take] at this
          omega
        have esk : (flT (stk ts (ps.take i))).stock = kvU U.int (stk ts (ps.take i)).stock := rfl
        rw [← esk]
        generalize flT (stk ts (ps.take i)) = f0 at fs kp hpo ls ⊢
        walk_at "g"
        rw [← hfl]
        refine ⟨_, _, fo fs, W.stock, oE_some lf_stock ?_⟩
        walk_at "g"
        refine ⟨_, fs.sk, ls, ?_⟩
        have s1 := fs.stepSk (d := putD f0.stock (.inr n) (.int m))
        walk_at "g"
        obtain ⟨k1, k2⟩ := s1.st.kp p _ hpl' hpo
        refine ⟨_, Le.refl _, ad, _, _, rfl, k1, k2, s1.fs, rfl, fun b o hb hba => ?_⟩
        obtain ⟨z1, z2⟩ := kp b o hb (by rw [← hfl]; exact hba)
        exact s1.st.kp b o z1 z2
    · clear fs kp hpo hp hfl
      rintro σ M' ⟨ad, v2, v3, rfl, hpl', hpo, fs, hfl, kp⟩
      refine ⟨hpl', ?_⟩
      have etl : ps.take (ps.map tlU).length = ps := by rw [List.length_map, List.take_length]
      rw [etl, eF] at fs kp
      walk_at "g"
      exact q M' ad fs hfl kp
end
set_option maxHeartbeats 1000000
open PySem PySem.Spec PyProof.Rows L2 L3 G1 G2 G3 G4 H
section
variable {P : Program} {w : World} {K : Frag} {mg : Str → Option Value} {base : Heap} {CF CV : Addr}
inductive spRests (us : List U) (M : Mem) (Q : U → Mem → Prop) : Prop
  | mk (a : _) (b : _) (c : _) (d : _) (e : _) (rs : _) (g : _) (turn : Int) : (us = [.tup [a, b, c, d, e, restsU rs, g], .int turn]) → (rs.length ≤ 1000) → (Q (.bl (restsAt rs turn)) M) → spRests  us M Q
noncomputable def st_rests_at : Stmt := top 7
theorem sc_rests_at : FnScope ["desk", "turn"] ["desk", "turn"] (defScope st_rests_at) := ⟨rfl, rfl, rfl, by decide +kernel, rfl, by decide +kernel, by decide +kernel⟩
theorem c_rests_at (T : Bl mg) (F : FunM K mg "rests_at" st_rests_at) : Cal2 P w K mg base 1 "rests_at" ["desk", "turn"] spRests := by
  refine cal2 F sc_rests_at (by rintro us M Q Q' k ⟨a, b, c, d, e, rs, g, turn, h, h1, q⟩; exact ⟨a, b, c, d, e, rs, g, turn, h, h1, k _ _ q⟩) (by rintro us M Q ⟨a, b, c, d, e, rs, g, turn, h, _⟩; rw [h]; rfl) (by rintro _ _ _ _ _ _ us hl; obtain ⟨_, _, rfl⟩ := len2 hl; rfl) (hbody := fun f cdv A outer s H E hr => ?_)
  refine ⟨_, (qss_one (qs_ret (qe_callB (c_any rfl) (by rfl) T.b_any PyProof.Rows.boot_any (qa_cons (qe_comp rfl (qi_seq (qe_ixN (n := 5) (qv 0) (fun _ _ => rfl))) (fun _ _ _ _ _ => (qg_name (i := 0) (show List.Nodup (["rest", "turn"] : List Str) by decide +kernel) rfl (by first | exact Or.inl rfl | exact Or.inr rfl))) (fun _ _ _ _ _ => qf_nil) (fun _ _ _ _ _ => (qe_chain o_le o_lt (qe_ixN (n := 0) (qv 0) (fun _ _ => rfl)) (qv 1) (qe_ixN (n := 1) (qv 0) (fun _ _ => rfl)))) (N := ["rest", "turn"]) (ix := [none, some 1]) (by kernel_rfl)) qa_nil)))), ?_⟩
  rintro us M Q cl ⟨a, b, c, d, e, rs, g, turn, rfl, hl, q⟩
  walk_at "g"
  refine Comp.mapped rs pairU (fun p => U.bl (decide (p.1 ≤ turn) && decide (turn < p.2))) (fun σ => ∃ v, σ = [v, some (.int turn)]) rfl ⟨_, rfl⟩ (by rw [sizeLine_eq]; omega) (fun _ _ => trivial) ?_ ?_
  · rintro p hp σ ⟨v, rfl⟩ Y yes N
    walk_at "g"
    refine bE2 (fun c1 => ?_) (fun c1 => ?_)
    · rw [c1, Bool.true_and] at yes
      walk_at "g"
      exact yes _ _ ⟨_, rfl⟩ (Le.refl _)
    · rw [c1, Bool.false_and] at yes
      exact yes _ _ ⟨_, rfl⟩ (Le.refl _)
  · intro p hp
    walk_at "g"
    have e : (rs.map fun p => U.bl (decide (p.1 ≤ turn) && decide (turn < p.2))) = (rs.map fun p => (decide (p.1 ≤ turn) && decide (turn < p.2))).map U.bl := by rw [List.map_map]; rfl
    rw [e]
    refine ⟨_, put_same, ?_⟩
    rw [List.any_map]
    exact cl _ _ _ (Le.new hp) q
theorem rank_at {t : TF} {n : Nat} {v : Vs} (h : t.ppl[n]? = some v) : rankOf t n = v.rank := by unfold rankOf; rw [h]
inductive spFore (CF CV : Addr) (us : List U) (M : Mem) (Q : U → Mem → Prop) : Prop
  | mk (ad : Slot → Addr) (t : _) (p : _) (ws : _) (ranked : _) : (us = [.ref (ad .fl), .ref p, .bl ranked]) → (FS (RF CF CV) M ad (flT t)) → (M p = some (.lst (ws.map fun n : Nat => U.int n))) → (ws ≠ []) → ((∀ x ∈ ws, x < t.ppl.length)) → (Q (.int (best (rankOf t) ranked ws : Nat)) M) → spFore CF CV us M Q
noncomputable def st_Floor_foremost : Stmt := inClass (top 8) 6
theorem sc_Floor_foremost : FnScope ["self", "waiting", "ranked", "first", "number"] ["self", "waiting", "ranked"] (defScope st_Floor_foremost) := ⟨rfl, rfl, rfl, by decide +kernel, rfl, by decide +kernel, by decide +kernel⟩
theorem k_foremost {f : Addr} {fd : FuncData} (V : FlV K CV) (W : FlF K CF) (me : Meth K CF "foremost" f) (F : Fun K "foremost" "Floor.foremost" st_Floor_foremost f fd) : Mt2 P w K mg base 1 CF "foremost" ["self", "waiting", "ranked"] (spFore CF CV) := by
  refine met2 W.plan.cl me F sc_Floor_foremost (by rintro us M Q Q' k ⟨ad, t, p, ws, r, e, h, h1, h2, h3, q⟩; exact ⟨ad, t, p, ws, r, e, h, h1, h2, h3, k _ _ q⟩) (by rintro us M Q ⟨ad, t, p, ws, r, e, _⟩; rw [e]; rfl) (by rintro _ _ _ _ _ _ us hl; obtain ⟨_, _, _, rfl⟩ := len3 hl; rfl) (hbody := fun cdv A outer s H E hr => ?_)
  refine ⟨_, (qss_cons (qs_set (i := 3) sc_Floor_foremost.nd rfl (by first | exact Or.inl rfl | exact Or.inr rfl) (qe_ixN (n := 0) (qv 1) (fun _ _ => rfl)))
      (qss_cons (qs_if (qt_tru (qv 2) (fun _ => rfl)) (qss_one (qs_for PassesOwn.never rfl (qi_seq (qv 1)) (qg_name (i := 4) sc_Floor_foremost.nd rfl (by first | exact Or.inl rfl | exact Or.inr rfl)) (qss_one (qs_if (qt_cmp o_gt (qe_fldK K (qe_ix x_ix (qe_fldK K (qv 0) rfl) (qv 4) (fun _ _ => rfl)) rfl) (qe_fldK K (qe_ix x_ix (qe_fldK K (qv 0) rfl) (qv 3) (fun _ _ => rfl)) rfl) (nomark _)) (qss_one (qs_set (i := 3) sc_Floor_foremost.nd rfl (by first | exact Or.inl rfl | exact Or.inr rfl) (qv 4))) qss_nil)))) qss_nil)
      (qss_one (qs_ret (qv 3))))), ?_⟩
  rintro us M Q cl ⟨ad, t, p, ws, ranked, rfl, h, hp, hne, hlt, q⟩
  obtain ⟨w0, r, rfl⟩ : ∃ w0 r, ws = w0 :: r := by cases ws with
    | nil => exact absurd rfl hne
    | cons a b => exact ⟨a, b, rfl⟩
  walk_at "g"
  refine ⟨_, hp, oE_some rfl ?_⟩
  cases ranked with
  | false =>
    walk_at "g"
    exact q
  | true =>
    walk_at "g"
    refine ⟨_, hp, ?_⟩
    have hi0 : w0 < t.ppl.length := hlt w0 List.mem_cons_self
    refine Walk.inv (fun i σ M' => M' = M ∧ ∃ m v4, σ = [some (.ref (ad .fl)), some (.ref p), some (.bl true), some (.int (m : Nat)), v4] ∧ m < t.ppl.length ∧ m = ((w0 :: r).take i).foldl (fun first n => if rankOf t n > rankOf t first then n else first) w0) ⟨rfl, w0, _, rfl, hi0, rfl⟩ ?_ ?_
    · rintro i n σ M' hn ⟨rfl, m, v4, rfl, hm, em⟩
      refine ⟨hp, ?_⟩
      rw [List.getElem?_map] at hn
      cases en : (w0 :: r)[i]? with
      | none => rw [en] at hn; cases hn
      | some x =>
        rw [en] at hn; cases hn
        have hx : x < t.ppl.length := hlt x (List.mem_of_getElem? en)
        have et : (w0 :: r).take (i + 1) = (w0 :: r).take i ++ [x] := by rw [List.take_add_one, en]; rfl
        obtain ⟨vx, ex⟩ := ppl_n hx
        obtain ⟨vm, em'⟩ := ppl_n hm
        have ex1 := ppl_v ex
        have em1 := ppl_v em'
        have hx1 : x < (flT t).ppl.length := by rw [ppl_len]; exact hx
        have hm1 : m < (flT t).ppl.length := by rw [ppl_len]; exact hm
        walk_at "go"
        refine bE2 (fun c => ?_) (fun c => ?_)
        · walk_at "g"
          have c' : vx.rank > vm.rank := of_decide_eq_true c
          refine ⟨_, Le.refl _, rfl, x, _, rfl, hx, ?_⟩
          rw [et, List.foldl_append, ← em, List.foldl_cons, List.foldl_nil, rank_at ex, rank_at em', if_pos (by omega)]
        · walk_at "g"
          have c' : ¬ vx.rank > vm.rank := of_decide_eq_false c
          refine ⟨_, Le.refl _, rfl, m, _, rfl, hm, ?_⟩
          rw [et, List.foldl_append, ← em, List.foldl_cons, List.foldl_nil, rank_at ex, rank_at em', if_neg (by omega)]
    · rintro σ M' ⟨rfl, m, v4, rfl, hm, em⟩
      refine ⟨hp, ?_⟩
      walk_at "g"
      rw [List.length_map, List.take_length] at em
      have : best (rankOf t) true (w0 :: r) = m := by rw [em]; rfl
      rw [this] at q
      exact q
noncomputable def canDeskV (t : TF) (n : Nat) (v : Vs) (nm : Str) (hands : Int) (ranked : Bool) (rs : List (Int × Int)) (turn : Int) : Bool := match v.til with
  | some u => decide (u ≤ turn)
  | none => canDesk t n nm hands ranked rs turn
inductive spCanDesk (CF CV : Addr) (us : List U) (M : Mem) (Q : U → Mem → Prop) : Prop
  | mk (ad : Slot → Addr) (t : _) (n : Nat) (v : _) (nm : _) (hands : _) (takes : _) (ranked : _) (rs : _) (th : _) (row : _) (turn : Int) : (us = [.ref (ad .fl), .int n, tlU (.desk nm hands takes ranked rs th), .int turn]) → (FS (RF CF CV) M ad (flT t)) → (t.ppl[n]? = some v) → (t.rows.lookup nm = some row) → ((∀ o ∈ row, o < t.ppl.length)) → (n ∈ row) → (row.length ≤ 900) → (rs.length ≤ 1000) → (Q (.bl (canDeskV t n v nm hands ranked rs turn)) M) → spCanDesk CF CV us M Q
noncomputable def st_Floor_can_at_desk : Stmt := inClass (top 8) 5
theorem sc_Floor_can_at_desk : FnScope ["self", "number", "desk", "turn", "visitor", "waiting", "served"] ["self", "number", "desk", "turn"] (defScope st_Floor_can_at_desk) := ⟨rfl, rfl, rfl, by decide +kernel, rfl, by decide +kernel, by decide +kernel⟩
theorem k_can_at_desk {f : Addr} {fd : FuncData} (T : Bl mg) (V : FlV K CV) (W : FlF K CF) (me : Meth K CF "can_at_desk" f) (F : Fun K "can_at_desk" "Floor.can_at_desk" st_Floor_can_at_desk f fd) (c_rests_at : Cal2 P w K mg base 1 "rests_at" ["desk", "turn"] spRests) (k_foremost : Mt2 P w K mg base 1 CF "foremost" ["self", "waiting", "ranked"] (spFore CF CV)) : Mt2 P w K mg base 3 CF "can_at_desk" ["self", "number", "desk", "turn"] (spCanDesk CF CV) := by
  refine met2 W.plan.cl me F sc_Floor_can_at_desk (by rintro us M Q Q' k ⟨ad, t, n, v, nm, h, ts, r, rs, th, row, turn, e, g1, g2, g3, g4, g5, g6, g7, q⟩; exact ⟨ad, t, n, v, nm, h, ts, r, rs, th, row, turn, e, g1, g2, g3, g4, g5, g6, g7, k _ _ q⟩) (by rintro us M Q ⟨ad, t, n, v, nm, h, ts, r, rs, th, row, turn, e, _⟩; rw [e]; rfl) (by rintro _ _ _ _ _ _ us hl; obtain ⟨_, _, _, _, rfl⟩ := len4 hl; rfl) (hbody := fun cdv A outer s H E hr => ?_)
  refine ⟨_, (qss_cons (qs_set (i := 4) sc_Floor_can_at_desk.nd rfl (by first | exact Or.inl rfl | exact Or.inr rfl) (qe_ix x_ix (qe_fldK K (qv 0) rfl) (qv 1) (fun _ _ => rfl)))
      (qss_cons (qs_if (qt_cmp o_isNot (qe_fldK K (qv 4) rfl) qe_non (nomark _)) (qss_one (qs_ret (qe_cmp o_ge (qv 3) (qe_fldK K (qv 4) rfl) (nomark _)))) qss_nil)
      (qss_cons (qs_setc (i := 5) rfl sc_Floor_can_at_desk.nd rfl rfl sw_any (qi_seq (qe_dix hr.units (qe_fldK K (qv 0) rfl) (qe_ixN (n := 1) (qv 2) (fun _ _ => rfl)) (fun _ _ => rfl))) (fun _ _ _ _ _ => (qg_name (i := 0) (show List.Nodup (["other", "self"] : List Str) by decide +kernel) rfl (by first | exact Or.inl rfl | exact Or.inr rfl))) (fun _ _ _ _ _ => (qf_one (qt_cmp o_is (qe_fldK K (qe_ix x_ix (qe_fldK K (qv 1) rfl) (qv 0) (fun _ _ => rfl)) rfl) qe_non (nomark _)))) (fun _ _ _ _ _ => (qv 0)) (N := ["other", "self"]) (ix := [none, some 0]) (by kernel_rfl))
      (qss_cons (qs_set (i := 6) sc_Floor_can_at_desk.nd rfl (by first | exact Or.inl rfl | exact Or.inr rfl) (qe_op o_sub (qe_callB c_len (by rfl) T.b_len PySem.boot_len (qa_cons (qe_dix hr.units (qe_fldK K (qv 0) rfl) (qe_ixN (n := 1) (qv 2) (fun _ _ => rfl)) (fun _ _ => rfl)) qa_nil)) (qe_callB c_len (by rfl) T.b_len PySem.boot_len (qa_cons (qv 5) qa_nil))))
      (qss_one (qs_ret (qe_and (qe_cmp o_lt (qv 6) (qe_ixN (n := 2) (qv 2) (fun _ _ => rfl)) (nomark _)) (qe_and (qe_notB (qe_call c_rests_at (hr.mono (by first | decide | omega)) rfl (qa_cons (qv 2) (qa_cons (qv 3) qa_nil)))) (qe_one (qe_cmp (o_eq hr.units) (qe_meth (qv 0) k_foremost (hr.mono (by first | decide | omega)) (qa_cons (qv 5) (qa_cons (qe_ixN (n := 4) (qv 2) (fun _ _ => rfl)) qa_nil))) (qv 1) (nomark _))))))))))), ?_⟩
  rintro us M Q cl ⟨ad, t, n, v, nm, hands, ts, ranked, rs, th, row, turn, rfl, h, hv, hrow, hall, hn, hl, hrs, q⟩
  have hv1 := ppl_v hv
  have hn1 : n < (flT t).ppl.length := (List.getElem?_eq_some_iff.mp hv1).1
  have hr1 := row_fl hrow
  walk_at "go"
  unfold canDeskV at q
  cases et : v.til with
  | some u =>
    rw [et] at q
    have lt : (vsV v).til = .int u := by show tilU v.til = _; rw [et]
    rw [lt]
    walk_at "go"
    rw [lt]
    walk_at "go"
    exact q
  | none =>
    rw [et] at q
    have lt : (vsV v).til = .non := by show tilU v.til = _; rw [et]
    rw [lt]
    walk_at "go"
    refine Comp.pure row (fun n : Nat => U.int n) (waits t) (fun n : Nat => U.int n) (fun σ => ∃ v, σ = [v, some (.ref (ad .fl))]) (nats_map row) ⟨_, rfl⟩ (by rw [sizeLine_eq]; omega) (fun M' l => l _ _ (h.row hr1)) ?_ ?_
    · rintro o ho σ ⟨v1, rfl⟩ Y N yes no
      have ho' := hall o ho
      obtain ⟨vo, eo⟩ := ppl_n ho'
      have eo1 := ppl_v eo
      have ho1 : o < (flT t).ppl.length := by rw [ppl_len]; exact ho'
      have hw : waits t o = vo.til.isNone := by unfold waits; rw [eo]
      walk_at "go"
      cases eo' : vo.til with
      | none =>
        have lt : (vsV vo).til = .non := by show tilU vo.til = _; rw [eo']
        rw [lt]
        walk_at "g"
        exact yes (by rw [hw, eo']; rfl) _ _ ⟨_, rfl⟩ (Le.refl _)
      | some u =>
        have lt : (vsV vo).til = .int u := by show tilU vo.til = _; rw [eo']
        rw [lt]
        walk_at "g"
        exact no (by rw [hw, eo']; rfl) _ _ ⟨_, rfl⟩ (Le.refl _)
    · intro p hp
      have fs := h.new (o := .lst ((row.filter (waits t)).map fun n : Nat => U.int n)) hp
      walk_at "go"
      refine ⟨_, put_same, ?_⟩
      walk_at "g"
      rw [List.length_map, List.length_map, nats_len]
      unfold canDesk at q
      rw [_root_.H.row_at hrow] at q
      have hwn : n ∈ row.filter (waits t) := List.mem_filter.mpr ⟨hn, by unfold waits; rw [hv]; simp [et]⟩
      refine bE2 (fun c1 => ?_) (fun c1 => ?_)
      · rw [c1, Bool.true_and] at q
        walk_at "g"
        refine ⟨_, _, _, _, _, rs, _, turn, rfl, hrs, ?_⟩
        walk_at "g"
        cases c2 : restsAt rs turn with
        | true =>
          rw [c2] at q
          walk_at "g"
          exact cl _ _ _ (Le.new hp) q
        | false =>
          rw [c2, Bool.not_false, Bool.true_and] at q
          walk_at "g"
          refine ⟨_, fo fs, rfl, ?_⟩
          walk_at "g"
          refine ⟨ad, t, p, _, ranked, rfl, fs, put_same, (fun z => by rw [z] at hwn; cases hwn), (fun x hx => hall x (List.mem_filter.mp hx).1), ?_⟩
          walk_at "g"
          have e : decide (((best (rankOf t) ranked (row.filter (waits t)) : Nat) : Int) = (n : Int)) = decide (best (rankOf t) ranked (row.filter (waits t)) = n) := by
            congr 1; exact propext ⟨fun z => by omega, fun z => by omega⟩
          rw [e]
          exact cl _ _ _ (Le.new hp) q
      · rw [c1] at q
        exact cl _ _ _ (Le.new hp) q
noncomputable def letsT (t : TF) (turn : Int) : GR → Bool
  | .opens m k => decide (turn % m < k)
  | .below m a => decide (((rowAt t a).length : Int) < m)
inductive spLets (CF CV : Addr) (us : List U) (M : Mem) (Q : U → Mem → Prop) : Prop
  | mk (ad : Slot → Addr) (t : _) (g : _) (turn : Int) : (us = [.ref (ad .fl), grU g, .int turn]) → (FS (RF CF CV) M ad (flT t)) → ((match g with | .opens m _ => 0 < m | .below _ a => ∃ row, t.rows.lookup a = some row)) → (Q (.bl (letsT t turn g)) M) → spLets CF CV us M Q
noncomputable def st_Floor_lets_by : Stmt := inClass (top 8) 4
theorem sc_Floor_lets_by : FnScope ["self", "rule", "turn"] ["self", "rule", "turn"] (defScope st_Floor_lets_by) := ⟨rfl, rfl, rfl, by decide +kernel, rfl, by decide +kernel, by decide +kernel⟩
theorem k_lets_by {f : Addr} {fd : FuncData} (T : Bl mg) (W : FlF K CF) (me : Meth K CF "lets_by" f) (F : Fun K "lets_by" "Floor.lets_by" st_Floor_lets_by f fd) : Mt2 P w K mg base 1 CF "lets_by" ["self", "rule", "turn"] (spLets CF CV) := by
  refine met2 W.plan.cl me F sc_Floor_lets_by (by rintro us M Q Q' k ⟨ad, t, g, turn, e, h, h1, q⟩; exact ⟨ad, t, g, turn, e, h, h1, k _ _ q⟩) (by rintro us M Q ⟨ad, t, g, turn, e, _⟩; rw [e]; rfl) (by rintro _ _ _ _ _ _ us hl; obtain ⟨_, _, _, rfl⟩ := len3 hl; rfl) (hbody := fun cdv A outer s H E hr => ?_)
  refine ⟨_, (qss_cons (qs_if (qt_cmp (o_eq hr.units) (qe_ixN (n := 0) (qv 1) (fun _ _ => rfl)) qe_str (nomark _)) (qss_one (qs_ret (qe_cmp o_lt (qe_op o_mod (qv 2) (qe_ixN (n := 1) (qv 1) (fun _ _ => rfl))) (qe_ixN (n := 2) (qv 1) (fun _ _ => rfl)) (nomark _)))) qss_nil)
      (qss_one (qs_ret (qe_cmp o_lt (qe_callB c_len (by rfl) T.b_len PySem.boot_len (qa_cons (qe_dix hr.units (qe_fldK K (qv 0) rfl) (qe_ixN (n := 2) (qv 1) (fun _ _ => rfl)) (fun _ _ => rfl)) qa_nil)) (qe_ixN (n := 1) (qv 1) (fun _ _ => rfl)) (nomark _))))), ?_⟩
  rintro us M Q cl ⟨ad, t, g, turn, rfl, h, ok, q⟩
  cases g with
  | opens m k =>
    have ok : 0 < m := ok
    walk_at "g"
    exact q
  | below m a =>
    obtain ⟨row, hr⟩ := ok
    have hr1 := row_fl hr
    walk_at "go"
    have q : Q (.bl (decide (((rowAt t a).length : Int) < m))) M := q
    rw [_root_.H.row_at hr] at q
    rw [List.length_map, nats_len]
    exact q
noncomputable def OkC (t : TF) (n : Nat) : Tl → Prop
  | .desk nm _ _ _ rs _ => ∃ row, t.rows.lookup nm = some row ∧ (∀ o ∈ row, o < t.ppl.length) ∧ n ∈ row ∧ row.length ≤ 900 ∧ rs.length ≤ 1000
  | .gate _ g _ => match g with
    | .opens m _ => 0 < m
    | .below _ a => ∃ row, t.rows.lookup a = some row
  | .lend _ p _ => ∃ k, t.stock.lookup p = some k
  | _ => True
theorem okC {h : Str → List Str} {t : TF} (w : Wf h t) (hl : t.ppl.length ≤ 900) {n : Nat} {v : Vs} {tl : Tl} (hv : t.ppl[n]? = some v) (hp : t.plan.lookup v.st = some tl) : OkC t n tl := by
  have hn := w.nm _ _ hp
  have ho := w.ok _ _ hp
  have hb := w.lab _ _ hp
  cases tl with
  | desk nm hands ts r rs th =>
    obtain ⟨tl', row, g1, g2, g3⟩ := w.at_ hv
    have hn : nm = v.st := hn
    rw [← hn] at g2
    exact ⟨row, g2, w.lt g2, g3, Nat.le_trans (w.len g2) hl, ho.2.2⟩
  | gate nm g th =>
    cases g with
    | opens m k => exact ho
    | below m a =>
      obtain ⟨tl', g1⟩ := w.bl _ _ _ _ _ hp
      exact w.rw_ _ _ g1
  | lend nm p th => exact hb.2.2
  | _ => trivial
inductive spCan (CF CV : Addr) (us : List U) (M : Mem) (Q : U → Mem → Prop) : Prop
  | mk (ad : Slot → Addr) (t : _) (n : Nat) (turn : Int) (v : _) (tl : _) : (us = [.ref (ad .fl), .int n, .int turn]) → (FS (RF CF CV) M ad (flT t)) → (t.ppl[n]? = some v) → (t.plan.lookup v.st = some tl) → (OkC t n tl) → (Q (.bl (canTl t n v turn tl)) M) → spCan CF CV us M Q
noncomputable def st_Floor_can : Stmt := inClass (top 8) 3
theorem sc_Floor_can : FnScope ["self", "number", "turn", "visitor", "told", "sort"] ["self", "number", "turn"] (defScope st_Floor_can) := ⟨rfl, rfl, rfl, by decide +kernel, rfl, by decide +kernel, by decide +kernel⟩
theorem k_can {f : Addr} {fd : FuncData} (V : FlV K CV) (W : FlF K CF) (me : Meth K CF "can" f) (F : Fun K "can" "Floor.can" st_Floor_can f fd) (k_can_at_desk : Mt2 P w K mg base 3 CF "can_at_desk" ["self", "number", "desk", "turn"] (spCanDesk CF CV)) (k_lets_by : Mt2 P w K mg base 1 CF "lets_by" ["self", "rule", "turn"] (spLets CF CV)) : Mt2 P w K mg base 5 CF "can" ["self", "number", "turn"] (spCan CF CV) := by
  refine met2 W.plan.cl me F sc_Floor_can (by rintro us M Q Q' k ⟨ad, t, n, turn, v, tl, e, h, h1, h2, h3, q⟩; exact ⟨ad, t, n, turn, v, tl, e, h, h1, h2, h3, k _ _ q⟩) (by rintro us M Q ⟨ad, t, n, turn, v, tl, e, _⟩; rw [e]; rfl) (by rintro _ _ _ _ _ _ us hl; obtain ⟨_, _, _, rfl⟩ := len3 hl; rfl) (hbody := fun cdv A outer s H E hr => ?_)
  refine ⟨_, (qss_cons (qs_set (i := 3) sc_Floor_can.nd rfl (by first | exact Or.inl rfl | exact Or.inr rfl) (qe_ix x_ix (qe_fldK K (qv 0) rfl) (qv 1) (fun _ _ => rfl)))
      (qss_cons (qs_set (i := 4) sc_Floor_can.nd rfl (by first | exact Or.inl rfl | exact Or.inr rfl) (qe_dix hr.units (qe_fldK K (qv 0) rfl) (qe_fldK K (qv 3) rfl) (fun _ _ => rfl)))
      (qss_cons (qs_set (i := 5) sc_Floor_can.nd rfl (by first | exact Or.inl rfl | exact Or.inr rfl) (qe_ixN (n := 0) (qv 4) (fun _ _ => rfl)))
      (qss_cons (qs_if (qt_cmp (o_eq hr.units) (qv 5) qe_str (nomark _)) (qss_one (qs_ret qe_bl)) qss_nil)
      (qss_cons (qs_if (qt_cmp (o_eq hr.units) (qv 5) qe_str (nomark _)) (qss_one (qs_ret (qe_cmp o_ge (qv 2) (qe_op o_add (qe_fldK K (qv 3) rfl) (qe_ixN (n := 2) (qv 4) (fun _ _ => rfl))) (nomark _)))) qss_nil)
      (qss_cons (qs_if (qt_cmp (o_eq hr.units) (qv 5) qe_str (nomark _)) (qss_one (qs_ret (qe_meth (qv 0) k_can_at_desk (hr.mono (by first | decide | omega)) (qa_cons (qv 1) (qa_cons (qv 4) (qa_cons (qv 2) qa_nil)))))) qss_nil)
      (qss_cons (qs_if (qt_cmp (o_eq hr.units) (qv 5) qe_str (nomark _)) (qss_one (qs_ret (qe_meth (qv 0) k_lets_by (hr.mono (by first | decide | omega)) (qa_cons (qe_ixN (n := 2) (qv 4) (fun _ _ => rfl)) (qa_cons (qv 2) qa_nil))))) qss_nil)
      (qss_cons (qs_if (qt_cmp (o_eq hr.units) (qv 5) qe_str (nomark _)) (qss_one (qs_ret (qe_cmp o_gt (qe_dix hr.units (qe_fldK K (qv 0) rfl) (qe_ixN (n := 2) (qv 4) (fun _ _ => rfl)) (fun _ _ => rfl)) qe_int (nomark _)))) qss_nil)
      (qss_one (qs_ret qe_bl)))))))))), ?_⟩
  rintro us M Q cl ⟨ad, t, n, turn, v, tl, rfl, h, hv, hp, ok, q⟩
  have hv1 := ppl_v hv
  have hn1 : n < (flT t).ppl.length := (List.getElem?_eq_some_iff.mp hv1).1
  have hp1 : t.plan.lookup v.st = some tl := hp
  walk_at "go"
  cases tl with
  | desk nm hands ts ranked rs th =>
    obtain ⟨row, g1, g2, g3, g4, g5⟩ := ok
    walk_at "go"
    exact ⟨ad, t, n, v, nm, hands, ts, ranked, rs, th, row, turn, rfl, h, hv, g1, g2, g3, g4, g5, q⟩
  | gate nm r th =>
    walk_at "go"
    exact ⟨ad, t, r, turn, rfl, h, by cases r <;> exact ok, by cases r <;> exact q⟩
  | lend nm p th =>
    obtain ⟨k, hk⟩ := ok
    walk_at "go"
    have q : Q (.bl (decide (0 < leftAt t p))) M := q
    rw [left_at hk] at q
    exact q
  | _ =>
    walk_at "go"
    exact q
end
set_option maxHeartbeats 1000000
open PySem PySem.Spec PyProof.Rows L2 L3 G1 G2 G3 G4 H
section
variable {P : Program} {w : World} {K : Frag} {mg : Str → Option Value} {base : Heap} {CF CV : Addr}
noncomputable def LST : FR → Prop
  | .least => False
  | _ => True
theorem begin_fl {t : TF} {n : Nat} {v : Vs} {nm : Str} {ts : List Int} {turn : Int} : { setV (flT t) n { vsV v with til := .int (turn + ts.getD (talAt t nm % ts.length).toNat 0) } with tal := putD (kvU U.int t.tal) (.inr nm) (.int (talAt t nm + 1)) } = flT (beginT t n v nm ts turn) := by
  unfold beginT flT setV
  rw [putD_kv, List.map_set]
  rfl
inductive spBegin (CF CV : Addr) (us : List U) (M : Mem) (Q : U → Mem → Prop) : Prop
  | mk (ad : Slot → Addr) (t : _) (n : Nat) (v : _) (nm : _) (hands : _) (takes : _) (ranked : _) (rs : _) (th : _) (k turn : Int) : (us = [.ref (ad .fl), .ref (ad (.vis n)), tlU (.desk nm hands takes ranked rs th), .int turn]) → (FS (RF CF CV) M ad (flT t)) → (t.ppl[n]? = some v) → (takes ≠ []) → (t.tal.lookup nm = some k) → (t.tal.length ≤ 1000) → (∀ M', Step (RF CF CV) M ad (flT t) M' ad (flT (beginT t n v nm takes turn)) → Q (.tup [.str "begins", .str nm]) M') → spBegin CF CV us M Q
noncomputable def st_Floor_begin : Stmt := inClass (top 8) 8
theorem sc_Floor_begin : FnScope ["self", "visitor", "desk", "turn", "takes"] ["self", "visitor", "desk", "turn"] (defScope st_Floor_begin) := ⟨rfl, rfl, rfl, by decide +kernel, rfl, by decide +kernel, by decide +kernel⟩
theorem k_begin {f : Addr} {fd : FuncData} (T : Bl mg) (V : FlV K CV) (W : FlF K CF) (me : Meth K CF "begin" f) (F : Fun K "begin" "Floor.begin" st_Floor_begin f fd) : Mt2 P w K mg base 1 CF "begin" ["self", "visitor", "desk", "turn"] (spBegin CF CV) := by
  refine met2 W.plan.cl me F sc_Floor_begin (by rintro us M Q Q' k ⟨ad, t, n, v, nm, hands, ts, r, rs, th, k', turn, e, h, h1, h2, h3, h4, q⟩; exact ⟨ad, t, n, v, nm, hands, ts, r, rs, th, k', turn, e, h, h1, h2, h3, h4, fun M' s => k _ _ (q M' s)⟩) (by rintro us M Q ⟨ad, t, n, v, nm, hands, ts, r, rs, th, k', turn, e, _⟩; rw [e]; rfl) (by rintro _ _ _ _ _ _ us hl; obtain ⟨_, _, _, _, rfl⟩ := len4 hl; rfl) (hbody := fun cdv A outer s H E hr => ?_)
  refine ⟨_, (qss_cons (qs_set (i := 4) sc_Floor_begin.nd rfl (by first | exact Or.inl rfl | exact Or.inr rfl) (qe_ixN (n := 3) (qv 2) (fun _ _ => rfl)))
      (qss_cons (qs_fld K (qv 1) (qe_op o_add (qv 3) (qe_ix x_ix (qv 4) (qe_op o_mod (qe_dix hr.units (qe_fldK K (qv 0) rfl) (qe_ixN (n := 1) (qv 2) (fun _ _ => rfl)) (fun _ _ => rfl)) (qe_callB c_len (by rfl) T.b_len PySem.boot_len (qa_cons (qv 4) qa_nil))) (fun _ _ => rfl))) rfl)
      (qss_cons (qs_daug hr.units (qe_fldK K (qv 0) rfl) (qe_ixN (n := 1) (qv 2) (fun _ _ => rfl)) qe_int i_add)
      (qss_one (qs_ret (qe_tup (qa_cons qe_str (qa_cons (qe_ixN (n := 1) (qv 2) (fun _ _ => rfl)) qa_nil)))))))), ?_⟩
  rintro us M Q cl ⟨ad, t, n, v, nm, hands, ts, ranked, rs, th, k, turn, rfl, h, hv, hts, hk, hlen, q⟩
  have hv1 := ppl_v hv
  rw [← begin_fl] at q
  rw [tal_at hk] at q
  walk_at "go"
  have hpos : 0 < ts.length := List.length_pos_iff.mpr hts
  refine ⟨by rw [List.length_map]; omega, ?_⟩
  walk_at "g"
  rw [List.length_map]
  refine oE_some (atI_map ts _ (Int.emod_nonneg _ (by omega)) (Int.emod_lt_of_pos _ (by omega))) ?_
  walk_at "g"
  refine ⟨_, _, fvis h hv1, V.until_, Nat.le_of_ble_eq_true rfl, ?_⟩
  rw [pv_until]
  have s1 := h.stepV (v' := { vsV v with til := .int (turn + ts.getD (k % ts.length).toNat 0) }) hv1 rfl
  have f1 := s1.fs
  walk_at "g"
  refine ⟨_, _, fo f1, W.tallies, oE_some lf_tallies ?_⟩
  walk_at "g"
  refine ⟨_, f1.ta, oE_some (valU_kv hk) ?_⟩
  walk_at "g"
  refine ⟨_, f1.ta, ?_, ?_⟩
  · show (kvU U.int t.tal).length < _
    rw [kv_len]; omega
  have s2 := f1.stepTa (d := putD (kvU U.int t.tal) (.inr nm) (.int (k + 1)))
  walk_at "g"
  exact q _ (s1.trans s2)
noncomputable def OkG (t : TF) : Tl → Prop
  | .fork nm r ths => ths ≠ [] ∧ (∃ k, t.tal.lookup nm = some k) ∧ (∀ a ∈ ths, ∃ row, t.rows.lookup a = some row) ∧ LST r
  | .exit _ => False
  | .pool _ _ => False
  | _ => True
inductive spNext (CF CV : Addr) (us : List U) (M : Mem) (Q : U → Mem → Prop) : Prop
  | mk (ad : Slot → Addr) (t : _) (tl : _) (n : Nat) : (us = [.ref (ad .fl), tlU tl, .int n]) → (FS (RF CF CV) M ad (flT t)) → (OkG t tl) → (Q (.str (goalT t n tl)) M) → spNext CF CV us M Q
noncomputable def st_Floor_next_of : Stmt := inClass (top 8) 9
theorem sc_Floor_next_of : FnScope ["self", "told", "number", "thens"] ["self", "told", "number"] (defScope st_Floor_next_of) := ⟨rfl, rfl, rfl, by decide +kernel, rfl, by decide +kernel, by decide +kernel⟩
theorem pick_str {ths : List Str} {i : Int} (h0 : 0 ≤ i) (h1 : i < ths.length) : atI (ths.map U.str) i = some (.str (ths.getD i.toNat Str.empty)) := by
  obtain ⟨k, rfl⟩ : ∃ k : Nat, i = k := ⟨i.toNat, by omega⟩
  have hk : k < ths.length := by omega
  refine atI_nat ?_
  rw [List.getElem?_map, List.getElem?_eq_getElem hk, List.getD_eq_getElem?_getD]
  show some (U.str ths[k]) = some (U.str ((ths[((k : Nat) : Int).toNat]?).getD Str.empty))
  rw [Int.toNat_natCast, List.getElem?_eq_getElem hk]; rfl
theorem k_next_of {f : Addr} {fd : FuncData} (T : Bl mg) (W : FlF K CF) (me : Meth K CF "next_of" f) (F : Fun K "next_of" "Floor.next_of" st_Floor_next_of f fd) : Mt2 P w K mg base 2 CF "next_of" ["self", "told", "number"] (spNext CF CV) := by
  refine met2 W.plan.cl me F sc_Floor_next_of (by rintro us M Q Q' k ⟨ad, t, tl, n, e, h, h1, q⟩; exact ⟨ad, t, tl, n, e, h, h1, k _ _ q⟩) (by rintro us M Q ⟨ad, t, tl, n, e, _⟩; rw [e]; rfl) (by rintro _ _ _ _ _ _ us hl; obtain ⟨_, _, _, rfl⟩ := len3 hl; rfl) (hbody := fun cdv A outer s H E hr => ?_)
  refine ⟨_, (qss_cons (qs_if (qt_cmp (o_ne hr.units) (qe_ixN (n := 0) (qv 1) (fun _ _ => rfl)) qe_str (nomark _)) (qss_one (qs_ret (qe_ix x_ix (qv 1) (qe_un u_neg qe_int) (fun _ _ => rfl)))) qss_nil)
      (qss_cons (qs_set (i := 3) sc_Floor_next_of.nd rfl (by first | exact Or.inl rfl | exact Or.inr rfl) (qe_ixN (n := 3) (qv 1) (fun _ _ => rfl)))
      (qss_cons (qs_if (qt_cmp (o_eq hr.units) (qe_ixN (n := 2) (qv 1) (fun _ _ => rfl)) qe_str (nomark _)) (qss_one (qs_ret (qe_ix x_ix (qv 3) (qe_op o_mod (qe_dix hr.units (qe_fldK K (qv 0) rfl) (qe_ixN (n := 1) (qv 1) (fun _ _ => rfl)) (fun _ _ => rfl)) (qe_callB c_len (by rfl) T.b_len PySem.boot_len (qa_cons (qv 3) qa_nil))) (fun _ _ => rfl)))) qss_nil)
      (qss_cons (qs_if (qt_cmp (o_eq hr.units) (qe_ixN (n := 2) (qv 1) (fun _ _ => rfl)) qe_str (nomark _)) (qss_one (qs_ret (qe_ix x_ix (qv 3) (qe_op o_mod (qv 2) (qe_callB c_len (by rfl) T.b_len PySem.boot_len (qa_cons (qv 3) qa_nil))) (fun _ _ => rfl)))) qss_nil)
      (qss_one qs_never))))), ?_⟩
  rintro us M Q cl ⟨ad, t, tl, n, rfl, h, ok, q⟩
  cases tl with
  | exit a => exact ok.elim
  | pool a m => exact ok.elim
  | fork nm r ths =>
    obtain ⟨hne, ⟨k, hk⟩, hrows, hls⟩ := ok
    have hpos : 0 < ths.length := List.length_pos_iff.mpr hne
    cases r with
    | turns =>
      have q : Q (.str (ths.getD (talAt t nm % ths.length).toNat Str.empty)) M := q
      rw [tal_at hk] at q
      walk_at "go"
      refine ⟨by rw [List.length_map]; omega, ?_⟩
      walk_at "g"
      rw [List.length_map]
      exact oE_some (pick_str (Int.emod_nonneg _ (by omega)) (Int.emod_lt_of_pos _ (by omega))) q
    | number =>
      have q : Q (.str (ths.getD (n % ths.length) Str.empty)) M := q
      walk_at "go"
      refine ⟨by rw [List.length_map]; omega, ?_⟩
      walk_at "g"
      rw [List.length_map]
      have e : ((n : Int) % (ths.length : Int)) = ((n % ths.length : Nat) : Int) := by omega
      refine oE_some (pick_str (Int.emod_nonneg _ (by omega)) (Int.emod_lt_of_pos _ (by omega))) ?_
      rw [e, Int.toNat_natCast]
      exact q
    | least => exact hls.elim
  | _ =>
    walk_at "go"
    exact oE_some (atI_neg1 rfl) q
noncomputable def OkM (t : TF) (n : Nat) (v : Vs) (tl : Tl) : Prop := tl.name = v.st ∧ OkG t tl ∧ okTl tl ∧ (∃ k, t.tal.lookup v.st = some k) ∧ t.tal.length ≤ 1000 ∧ t.stock.length ≤ 1000 ∧ v.things.Nodup ∧ v.things.length ≤ 1000 ∧
  (∃ row ys, t.rows.lookup v.st = some row ∧ n ∈ row ∧ (setN t.rows v.st (row.erase n)).lookup (goalT t n tl) = some ys ∧ ys.length < 900) ∧
  match tl with
  | .lend _ p _ => ∃ k, t.stock.lookup p = some k
  | .give _ p _ => p ∈ v.things ∧ ∃ k, t.stock.lookup p = some k
  | _ => True
theorem thU_put {xs : List Str} {p : Str} : putD (thU xs) (.inr p) (.bl true) = thU (if p ∈ xs then xs else xs ++ [p]) := by
  unfold putD thU
  by_cases h : p ∈ xs
  · rw [if_pos h, if_pos (List.any_eq_true.mpr ⟨(.inr p, .bl true), List.mem_map.mpr ⟨p, h, rfl⟩, by simp⟩), List.map_map]
    apply List.map_congr_left
    intro x _
    show (if (Sum.inr x : Key) = .inr p then ((Sum.inr x : Key), U.bl true) else (Sum.inr x, U.bl true)) = _
    split <;> rfl
  · rw [if_neg h, if_neg]
    · rw [List.map_append]; rfl
    · rw [Bool.not_eq_true, List.any_eq_false]
      intro q hq
      obtain ⟨x, hx, rfl⟩ := List.mem_map.mp hq
      have : ¬ x = p := fun z => by rw [z] at hx; exact h hx
      simpa using this
theorem thU_drop {xs : List Str} {p : Str} (nd : xs.Nodup) : dropD (thU xs) (.inr p) = thU (xs.erase p) := by
  unfold dropD thU
  rw [nd.erase_eq_filter, List.filter_map]
  congr 1
  apply List.filter_congr
  intro x _
  show decide ((Sum.inr x : Key) ≠ .inr p) = (x != p)
  by_cases e : x = p
  · subst e; simp
  · have : ¬ (Sum.inr x : Key) = .inr p := fun z => e (Sum.inr.inj z)
    simp [e]
theorem thU_get {xs : List Str} {p : Str} (h : p ∈ xs) : valU (thU xs) (.inr p) = some (.bl true) := by
  unfold valU thU
  induction xs with
  | nil => cases h
  | cons x r ih =>
    rw [List.map_cons, List.find?_cons]
    by_cases e : x = p
    · subst e; simp
    · have : ¬ (Sum.inr x : Key) = .inr p := fun z => e (Sum.inr.inj z)
      simp only [this, decide_false]
      exact ih ((List.mem_cons.mp h).resolve_left (fun z => e z.symm))
theorem thU_has {xs : List Str} {p : Str} : (valU (thU xs) (.inr p)).isSome = decide (p ∈ xs) := by
  by_cases h : p ∈ xs
  · rw [thU_get h, decide_eq_true h]; rfl
  · rw [decide_eq_false h]
    unfold valU thU
    rw [List.find?_eq_none.mpr]
    · rfl
    · intro q hq
      obtain ⟨x, hx, rfl⟩ := List.mem_map.mp hq
      have : ¬ x = p := fun z => by rw [z] at hx; exact h hx
      simpa using this
theorem go_fl {t t1 : TF} {n : Nat} {v v1 : Vs} {tl : Tl} {th : Str} {turn : Int} {row ys : List Nat} (h1 : t1.rows = t.rows) (h2 : t1.plan = t.plan) (h3 : t1.tal = talB t tl) (h4 : t1.stock = stockB t tl) (h5 : ∀ w, t1.ppl.set n w = t.ppl.set n w) (e : v1 = { v with things := thingsB v.things tl }) (hr : t.rows.lookup v.st = some row) (hy : (setN t.rows v.st (row.erase n)).lookup th = some ys) :
    enterF (setR (flT t1) v.st ((nats row).erase n)) n (vsV v1) th (.int turn) (nats ys) = flT (goT t n v tl th turn) := by
  unfold enterF goT flT setR setV
  rw [_root_.H.row_at hr, hy]
  simp only [nats_erase, nats_app, rows_set, h1, h2, h3, h4, ← List.map_set, Option.getD_some]
  have e2 : ({ vsV v1 with st := .str th, since := .int turn, til := .non } : Vst) = vsV { v with st := th, since := turn, til := none, things := thingsB v.things tl } := by rw [e]; rfl
  rw [e2, ← List.map_set, h5]
inductive spMove (CF CV : Addr) (us : List U) (M : Mem) (Q : U → Mem → Prop) : Prop
  | mk (ad : Slot → Addr) (t : _) (n : Nat) (turn : Int) (v : _) (tl : _) : (us = [.ref (ad .fl), .int n, .int turn]) → (FS (RF CF CV) M ad (flT t)) → (t.ppl[n]? = some v) → (t.plan.lookup v.st = some tl) → (OkM t n v tl) → (∀ M', Step (RF CF CV) M ad (flT t) M' ad (flT (moveTl t n v turn tl)) → Q (.tup [.str (wordTl t n v tl).1, .str (wordTl t n v tl).2]) M') → spMove CF CV us M Q
set_option hygiene false
local macro_rules | `(tactic| walk_at "mt") => `(tactic| (
  have hrow1 := row_fl hr1
  have f1 := s1.fs
  walk_at "go"
  refine ⟨⟨rfl, _, f1.row hrow1⟩, ?_⟩
  walk_at "g"
  obtain ⟨ds, d, j, r1, r2, r3, r4, r5, r6⟩ := rem_ints (nats_mem.mpr hm)
  refine ⟨_, ds, d, j, f1.row hrow1, r1, r2, r3, r4, r5, ?_⟩
  rw [r6]
  have s2 := f1.stepR (ys := (nats row).erase n) hrow1
  walk_at "g"
  refine ⟨_, fo s2.fs, rfl, ?_⟩
  walk_at "g"
  refine ⟨ad, _, n, _, .int turn, _, nats ys, rfl, s2.fs, ppl_v hv1', hy2, by rw [nats_len]; exact hyl, fun M' s3 => ?_⟩
  walk_at "g"
  refine q M' ?_
  have ss := (s1.trans s2).trans s3
  rw [hgo] at ss
  exact ss))
set_option hygiene true
noncomputable def st_Floor_move : Stmt := inClass (top 8) 7
theorem sc_Floor_move : FnScope ["self", "number", "turn", "visitor", "told", "then"] ["self", "number", "turn"] (defScope st_Floor_move) := ⟨rfl, rfl, rfl, by decide +kernel, rfl, by decide +kernel, by decide +kernel⟩
theorem k_move {f : Addr} {fd : FuncData} (V : FlV K CV) (W : FlF K CF) (me : Meth K CF "move" f) (F : Fun K "move" "Floor.move" st_Floor_move f fd) (k_begin : Mt2 P w K mg base 1 CF "begin" ["self", "visitor", "desk", "turn"] (spBegin CF CV)) (k_next_of : Mt2 P w K mg base 2 CF "next_of" ["self", "told", "number"] (spNext CF CV)) (k_enter : Mt2 P w K mg base 1 CF "enter" ["self", "number", "name", "turn"] (spEnter CF CV)) : Mt2 P w K mg base 4 CF "move" ["self", "number", "turn"] (spMove CF CV) := by
  refine met2 W.plan.cl me F sc_Floor_move (by rintro us M Q Q' k ⟨ad, t, n, turn, v, tl, e, h, h1, h2, h3, q⟩; exact ⟨ad, t, n, turn, v, tl, e, h, h1, h2, h3, fun M' s => k _ _ (q M' s)⟩) (by rintro us M Q ⟨ad, t, n, turn, v, tl, e, _⟩; rw [e]; rfl) (by rintro _ _ _ _ _ _ us hl; obtain ⟨_, _, _, rfl⟩ := len3 hl; rfl) (hbody := fun cdv A outer s H E hr => ?_)
  refine ⟨_, (qss_cons (qs_set (i := 3) sc_Floor_move.nd rfl (by first | exact Or.inl rfl | exact Or.inr rfl) (qe_ix x_ix (qe_fldK K (qv 0) rfl) (qv 1) (fun _ _ => rfl)))
      (qss_cons (qs_set (i := 4) sc_Floor_move.nd rfl (by first | exact Or.inl rfl | exact Or.inr rfl) (qe_dix hr.units (qe_fldK K (qv 0) rfl) (qe_fldK K (qv 3) rfl) (fun _ _ => rfl)))
      (qss_cons (qs_if (QW.qt (qw_and (qt_cmp (o_eq hr.units) (qe_ixN (n := 0) (qv 4) (fun _ _ => rfl)) qe_str (nomark _)) (qw_and1 (qt_cmp o_is (qe_fldK K (qv 3) rfl) qe_non (nomark _))))) (qss_one (qs_ret (qe_meth (qv 0) k_begin (hr.mono (by first | decide | omega)) (qa_cons (qv 3) (qa_cons (qv 4) (qa_cons (qv 2) qa_nil)))))) qss_nil)
      (qss_cons (qs_set (i := 5) sc_Floor_move.nd rfl (by first | exact Or.inl rfl | exact Or.inr rfl) (qe_meth (qv 0) k_next_of (hr.mono (by first | decide | omega)) (qa_cons (qv 4) (qa_cons (qv 1) qa_nil))))
      (qss_cons (qs_if (qt_cmp (o_eq hr.units) (qe_ixN (n := 0) (qv 4) (fun _ _ => rfl)) qe_str (nomark _)) (qss_one (qs_daug hr.units (qe_fldK K (qv 0) rfl) (qe_ixN (n := 1) (qv 4) (fun _ _ => rfl)) qe_int i_add)) qss_nil)
      (qss_cons (qs_if (qt_cmp (o_eq hr.units) (qe_ixN (n := 0) (qv 4) (fun _ _ => rfl)) qe_str (nomark _)) (qss_cons (qs_daug hr.units (qe_fldK K (qv 0) rfl) (qe_ixN (n := 2) (qv 4) (fun _ _ => rfl)) qe_int i_sub)
      (qss_one (qs_asg qe_bl (qg_sub (qe_fldK K (qv 3) rfl) (qe_ixN (n := 2) (qv 4) (fun _ _ => rfl)) (s_dset hr.units))))) qss_nil)
      (qss_cons (qs_if (qt_cmp (o_eq hr.units) (qe_ixN (n := 0) (qv 4) (fun _ _ => rfl)) qe_str (nomark _)) (qss_cons (qs_daug hr.units (qe_fldK K (qv 0) rfl) (qe_ixN (n := 2) (qv 4) (fun _ _ => rfl)) qe_int i_add)
      (qss_one (qs_expr (qe_dpop (qe_fldK K (qv 3) rfl) (qe_ixN (n := 2) (qv 4) (fun _ _ => rfl)))))) qss_nil)
      (qss_cons (qs_expr (qe_bm PySem.F.plainAttrs_list PySem.F.slot_list_remove PySem.F.type_list_remove (m_remove hr) (qe_dix hr.units (qe_fldK K (qv 0) rfl) (qe_ixN (n := 1) (qv 4) (fun _ _ => rfl)) (fun _ _ => rfl)) (qa_cons (qv 1) qa_nil)))
      (qss_cons (qs_expr (qe_meth (qv 0) k_enter (hr.mono (by first | decide | omega)) (qa_cons (qv 1) (qa_cons (qv 5) (qa_cons (qv 2) qa_nil)))))
      (qss_one (qs_ret (qe_tup (qa_cons qe_str (qa_cons (qv 5) qa_nil)))))))))))))), ?_⟩
  rintro us M Q cl ⟨ad, t, n, turn, v, tl, rfl, h, hv, hp, ⟨hnm, hok, hokt, ⟨k, hk⟩, htl, hsl, hnd, hthl, ⟨row, ys, hr, hm, hy, hyl⟩, hlg⟩, q⟩
  have hv1 := ppl_v hv
  have hn1 : n < (flT t).ppl.length := (List.getElem?_eq_some_iff.mp hv1).1
  have hlt := (List.getElem?_eq_some_iff.mp hv).1
  have hy3 : ∀ th, (setN t.rows v.st (row.erase n)).lookup th = some ys → (setRow (rowsI t.rows) v.st ((nats row).erase n)).lookup th = some (nats ys) := fun th hy => by rw [nats_erase, rows_set, look_rows, hy]; rfl
  walk_at "go"
  cases tl with
  | exit a => exact hok.elim
  | pool a m => exact hok.elim
  | desk nm hands ts ranked rs th =>
    obtain rfl : nm = v.st := hnm
    walk_at "go"
    cases et : v.til with
    | none =>
      have lt : (vsV v).til = .non := by show tilU v.til = _; rw [et]
      rw [lt]
      walk_at "go"
      have e1 : moveTl t n v turn (.desk v.st hands ts ranked rs th) = beginT t n v v.st ts turn := by unfold moveTl; rw [et]
      have e2 : wordTl t n v (.desk v.st hands ts ranked rs th) = (("begins" : Str), v.st) := by unfold wordTl; rw [et]
      rw [e1, e2] at q
      exact ⟨ad, t, n, v, v.st, hands, ts, ranked, rs, th, k, turn, rfl, h, hv, hokt.1, hk, htl, q⟩
    | some u =>
      have lt : (vsV v).til = .int u := by show tilU v.til = _; rw [et]
      rw [lt]
      walk_at "go"
      have e1 : moveTl t n v turn (.desk v.st hands ts ranked rs th) = goT t n v (.desk v.st hands ts ranked rs th) th turn := by unfold moveTl; rw [et]
      have e2 : wordTl t n v (.desk v.st hands ts ranked rs th) = (("enters" : Str), th) := by unfold wordTl; rw [et]
      rw [e1, e2] at q
      refine ⟨ad, t, _, n, rfl, h, hok, ?_⟩
      walk_at "g"
      have s1 := Step.refl h
      have hr1 := hr
      have hv1' := hv
      have hy2 := hy3 _ hy
      have hgo := go_fl (t := t) (t1 := t) (v1 := v) (tl := .desk v.st hands ts ranked rs th) (turn := turn) rfl rfl rfl rfl (fun _ => rfl) rfl hr hy
      walk_at "mt"
  | way nm k' th =>
    obtain rfl : nm = v.st := hnm
    walk_at "go"
    refine ⟨ad, t, _, n, rfl, h, hok, ?_⟩
    walk_at "g"
    have s1 := Step.refl h
    have hr1 := hr
    have hv1' := hv
    have hy2 := hy3 _ hy
    have hgo := go_fl (t := t) (t1 := t) (v1 := v) (tl := .way v.st k' th) (turn := turn) rfl rfl rfl rfl (fun _ => rfl) rfl hr hy
    walk_at "mt"
  | gate nm r th =>
    obtain rfl : nm = v.st := hnm
    walk_at "go"
    refine ⟨ad, t, _, n, rfl, h, hok, ?_⟩
    walk_at "g"
    have s1 := Step.refl h
    have hr1 := hr
    have hv1' := hv
    have hy2 := hy3 _ hy
    have hgo := go_fl (t := t) (t1 := t) (v1 := v) (tl := .gate v.st r th) (turn := turn) rfl rfl rfl rfl (fun _ => rfl) rfl hr hy
    walk_at "mt"
  | door nm r c th =>
    obtain rfl : nm = v.st := hnm
    walk_at "go"
    refine ⟨ad, t, _, n, rfl, h, hok, ?_⟩
    walk_at "g"
    have s1 := Step.refl h
    have hr1 := hr
    have hv1' := hv
    have hy2 := hy3 _ hy
    have hgo := go_fl (t := t) (t1 := t) (v1 := v) (tl := .door v.st r c th) (turn := turn) rfl rfl rfl rfl (fun _ => rfl) rfl hr hy
    walk_at "mt"
  | fork nm r ths =>
    obtain rfl : nm = v.st := hnm
    walk_at "go"
    refine ⟨ad, t, _, n, rfl, h, hok, ?_⟩
    walk_at "go"
    refine ⟨_, h.ta, by show (kvU U.int t.tal).length < _; rw [kv_len]; omega, ?_⟩
    have s1 : Step (RF CF CV) M ad (flT t) (L3.put M (ad .ta) (.dct (kvU U.int (putL t.tal v.st (k + 1))))) ad (flT { t with tal := talB t (.fork v.st r ths) }) := by
      have := h.stepTa (d := putD (kvU U.int t.tal) (.inr v.st) (.int (k + 1)))
      rw [putD_kv] at this
      rw [show talB t (.fork v.st r ths) = putL t.tal v.st (talAt t v.st + 1) from rfl, tal_at hk]
      exact this
    have hr1 : (TF.rows { t with tal := talB t (.fork v.st r ths) }).lookup v.st = some row := hr
    have hv1' : (TF.ppl { t with tal := talB t (.fork v.st r ths) })[n]? = some v := hv
    have hy2 := hy3 _ hy
    have hgo := go_fl (t := t) (t1 := { t with tal := talB t (.fork v.st r ths) }) (v1 := v) (tl := .fork v.st r ths) (turn := turn) rfl rfl rfl rfl (fun _ => rfl) rfl hr hy
    rw [show putD (flT t).tal (.inr v.st) (.int (k + 1)) = kvU U.int (putL t.tal v.st (k + 1)) from putD_kv]
    walk_at "mt"
  | lend nm p th =>
    obtain rfl : nm = v.st := hnm
    obtain ⟨m, hpm⟩ := hlg
    walk_at "go"
    refine ⟨ad, t, _, n, rfl, h, hok, ?_⟩
    walk_at "go"
    refine ⟨_, h.sk, by show (kvU U.int t.stock).length < _; rw [kv_len]; omega, ?_⟩
    have s0 : Step (RF CF CV) M ad (flT t) (L3.put M (ad .sk) (.dct (kvU U.int (putL t.stock p (m - 1))))) ad (flT { t with stock := putL t.stock p (m - 1) }) := by
      have := h.stepSk (d := putD (kvU U.int t.stock) (.inr p) (.int (m - 1)))
      rw [putD_kv] at this
      exact this
    rw [show putD (flT t).stock (.inr p) (.int (m - 1)) = kvU U.int (putL t.stock p (m - 1)) from putD_kv]
    have f0 := s0.fs
    have hv0 : (flT { t with stock := putL t.stock p (m - 1) }).ppl[n]? = some (vsV v) := hv1
    walk_at "go"
    refine ⟨_, fth f0 hv0, by show (thU v.things).length < _; unfold thU; rw [List.length_map]; omega, ?_⟩
    rw [show (vsV v).things = v.things from rfl, thU_put]
    have s00 := f0.stepTh (ts := if p ∈ v.things then v.things else v.things ++ [p]) hv0
    have s1 : Step (RF CF CV) M ad (flT t) (L3.put (L3.put M (ad .sk) (.dct (kvU U.int (putL t.stock p (m - 1))))) (ad (.th n)) (.dct (thU (if p ∈ v.things then v.things else v.things ++ [p])))) ad (flT { t with stock := stockB t (.lend v.st p th), ppl := t.ppl.set n { v with things := thingsB v.things (.lend v.st p th) } }) := by
      have := s0.trans s00
      have e : flT { t with stock := stockB t (.lend v.st p th), ppl := t.ppl.set n { v with things := thingsB v.things (.lend v.st p th) } } = setV (flT { t with stock := putL t.stock p (m - 1) }) n { vsV v with things := if p ∈ v.things then v.things else v.things ++ [p] } := by
        unfold flT setV
        rw [show stockB t (.lend v.st p th) = putL t.stock p (leftAt t p - 1) from rfl, left_at hpm, List.map_set]; rfl
      rw [e]; exact this
    have hr1 : (TF.rows { t with stock := stockB t (.lend v.st p th), ppl := t.ppl.set n { v with things := thingsB v.things (.lend v.st p th) } }).lookup v.st = some row := hr
    have hv1' : (TF.ppl { t with stock := stockB t (.lend v.st p th), ppl := t.ppl.set n { v with things := thingsB v.things (.lend v.st p th) } })[n]? = some { v with things := thingsB v.things (.lend v.st p th) } := List.getElem?_set_self hlt
    have hy2 := hy3 _ hy
    have hgo := go_fl (t := t) (t1 := { t with stock := stockB t (.lend v.st p th), ppl := t.ppl.set n { v with things := thingsB v.things (.lend v.st p th) } }) (v1 := { v with things := thingsB v.things (.lend v.st p th) }) (tl := .lend v.st p th) (turn := turn) rfl rfl rfl rfl (fun _ => List.set_set ..) rfl hr hy
    walk_at "mt"
  | give nm p th =>
    obtain rfl : nm = v.st := hnm
    obtain ⟨hpt, m, hpm⟩ := hlg
    walk_at "go"
    refine ⟨ad, t, _, n, rfl, h, hok, ?_⟩
    walk_at "go"
    refine ⟨_, h.sk, by show (kvU U.int t.stock).length < _; rw [kv_len]; omega, ?_⟩
    have s0 : Step (RF CF CV) M ad (flT t) (L3.put M (ad .sk) (.dct (kvU U.int (putL t.stock p (m + 1))))) ad (flT { t with stock := putL t.stock p (m + 1) }) := by
      have := h.stepSk (d := putD (kvU U.int t.stock) (.inr p) (.int (m + 1)))
      rw [putD_kv] at this
      exact this
    rw [show putD (flT t).stock (.inr p) (.int (m + 1)) = kvU U.int (putL t.stock p (m + 1)) from putD_kv]
    have f0 := s0.fs
    have hv0 : (flT { t with stock := putL t.stock p (m + 1) }).ppl[n]? = some (vsV v) := hv1
    walk_at "go"
    refine ⟨_, fth f0 hv0, ?_⟩
    walk_at "g"
    refine ⟨_, fth f0 hv0, oE_some (thU_get hpt) ?_⟩
    rw [show (vsV v).things = v.things from rfl, thU_drop hnd]
    have s00 := f0.stepTh (ts := v.things.erase p) hv0
    have s1 : Step (RF CF CV) M ad (flT t) (L3.put (L3.put M (ad .sk) (.dct (kvU U.int (putL t.stock p (m + 1))))) (ad (.th n)) (.dct (thU (v.things.erase p)))) ad (flT { t with stock := stockB t (.give v.st p th), ppl := t.ppl.set n { v with things := thingsB v.things (.give v.st p th) } }) := by
      have := s0.trans s00
      have e : flT { t with stock := stockB t (.give v.st p th), ppl := t.ppl.set n { v with things := thingsB v.things (.give v.st p th) } } = setV (flT { t with stock := putL t.stock p (m + 1) }) n { vsV v with things := v.things.erase p } := by
        unfold flT setV
        rw [show stockB t (.give v.st p th) = putL t.stock p (leftAt t p + 1) from rfl, left_at hpm, List.map_set]; rfl
      rw [e]; exact this
    have hr1 : (TF.rows { t with stock := stockB t (.give v.st p th), ppl := t.ppl.set n { v with things := thingsB v.things (.give v.st p th) } }).lookup v.st = some row := hr
    have hv1' : (TF.ppl { t with stock := stockB t (.give v.st p th), ppl := t.ppl.set n { v with things := thingsB v.things (.give v.st p th) } })[n]? = some { v with things := thingsB v.things (.give v.st p th) } := List.getElem?_set_self hlt
    have hy2 := hy3 _ hy
    have hgo := go_fl (t := t) (t1 := { t with stock := stockB t (.give v.st p th), ppl := t.ppl.set n { v with things := thingsB v.things (.give v.st p th) } }) (v1 := { v with things := thingsB v.things (.give v.st p th) }) (tl := .give v.st p th) (turn := turn) rfl rfl rfl rfl (fun _ => List.set_set ..) rfl hr hy
    walk_at "mt"
theorem okM {h : Str → List Str} {t : TF} (w : Wf h t) (hh : ∀ a, (h a).Nodup ∧ (h a).length ≤ 1000) (hl : t.ppl.length ≤ 800) {n : Nat} {v : Vs} {tl : Tl} (hv : t.ppl[n]? = some v) (hp : t.plan.lookup v.st = some tl) (he : ∀ a, tl ≠ .exit a) (hpl : ∀ a k, tl ≠ .pool a k) (hlst : ∀ nm r ths, tl = .fork nm r ths → LST r) : OkM t n v tl := by
  have hn := w.nm _ _ hp
  have ho := w.ok _ _ hp
  have hb := w.lab _ _ hp
  obtain ⟨k, hk⟩ := w.ta _ _ hp
  obtain ⟨tl', row, g1, g2, g3⟩ := w.at_ hv
  have hg := goal_mem (t := t) (n := n) ho he hpl
  obtain ⟨tl2, hp2⟩ := w.thn _ _ hp _ hg
  obtain ⟨ys, y1, y2, y3, y4⟩ := go_hy w (n := n) hv g2 hp2
  have yl : ys.length ≤ t.ppl.length := nodup_lt _ _ y4 fun x hx => by
    obtain ⟨u, q, _⟩ := y3 x hx
    exact (List.getElem?_eq_some_iff.mp q).1
  have hhd := w.hd _ _ hv
  refine ⟨hn, ?_, ho, ⟨k, hk⟩, w.tll, w.sl, by rw [hhd]; exact (hh _).1, by rw [hhd]; exact (hh _).2, ⟨row, ys, g2, g3, y1, by omega⟩, ?_⟩
  · cases tl with
    | exit a => exact absurd rfl (he a)
    | pool a m => exact absurd rfl (hpl a m)
    | fork nm r ths =>
      have hn : nm = v.st := hn
      exact ⟨ho.1, ⟨k, by rw [hn]; exact hk⟩, fun a ha => by
        obtain ⟨tl3, h3⟩ := w.thn _ _ hp a ha
        exact w.rw_ _ _ h3, hlst _ _ _ rfl⟩
    | _ => trivial
  · cases tl with
    | lend nm p th => exact hb.2.2
    | give nm p th =>
      have hn : nm = v.st := hn
      refine ⟨?_, hb.2.2⟩
      rw [hhd, ← hn]
      exact hb.1
    | _ => trivial
noncomputable def heldT (t : TF) (v : Vs) : List Str := (t.stock.map Prod.fst).filter fun p => decide (p ∈ v.things)
inductive spHeld (CF CV : Addr) (us : List U) (M : Mem) (Q : U → Mem → Prop) : Prop
  | mk (ad : Slot → Addr) (t : _) (n : Nat) (v : _) : (us = [.ref (ad .fl), .int n]) → (FS (RF CF CV) M ad (flT t)) → (t.ppl[n]? = some v) → (t.stock.length ≤ 1000) → (∀ p, M p = none → Q (.ref p) (L3.put M p (.lst ((heldT t v).map U.str)))) → spHeld CF CV us M Q
noncomputable def st_Floor_held : Stmt := inClass (top 8) 12
theorem sc_Floor_held : FnScope ["self", "number"] ["self", "number"] (defScope st_Floor_held) := ⟨rfl, rfl, rfl, by decide +kernel, rfl, by decide +kernel, by decide +kernel⟩
theorem k_held {f : Addr} {fd : FuncData} (V : FlV K CV) (W : FlF K CF) (me : Meth K CF "held" f) (F : Fun K "held" "Floor.held" st_Floor_held f fd) : Mt2 P w K mg base 1 CF "held" ["self", "number"] (spHeld CF CV) := by
  refine met2 W.plan.cl me F sc_Floor_held (by rintro us M Q Q' k ⟨ad, t, n, v, e, h, h1, h2, q⟩; exact ⟨ad, t, n, v, e, h, h1, h2, fun p hp => k _ _ (q p hp)⟩) (by rintro us M Q ⟨ad, t, n, v, e, _⟩; rw [e]; rfl) (by rintro _ _ _ _ _ _ us hl; obtain ⟨_, _, rfl⟩ := len2 hl; rfl) (hbody := fun cdv A outer s H E hr => ?_)
  refine ⟨_, (qss_one (qs_ret (qe_compD rfl (qe_fldK K (qv 0) rfl) (fun _ _ _ _ _ => (qg_name (i := 0) (show List.Nodup (["pool", "number", "self"] : List Str) by decide +kernel) rfl (by first | exact Or.inl rfl | exact Or.inr rfl))) (fun _ _ _ _ _ => (qf_one (qt_cmp (o_inD hr.units) (qv 0) (qe_fldK K (qe_ix x_ix (qe_fldK K (qv 2) rfl) (qv 1) (fun _ _ => rfl)) rfl) (by with_unfolding_all rfl)))) (fun _ _ _ _ _ => (qv 0)) (N := ["pool", "number", "self"]) (ix := [none, some 1, some 0]) (by kernel_rfl)))), ?_⟩
  rintro us M Q cl ⟨ad, t, n, v, rfl, h, hv, hl, q⟩
  have hv1 := ppl_v hv
  have hn1 : n < (flT t).ppl.length := (List.getElem?_eq_some_iff.mp hv1).1
  walk_at "go"
  refine ⟨_, h.sk, fun ob => ?_⟩
  obtain ⟨o1, ov⟩ : ∃ o, obj (RF CF CV) ad (flT t) (.vis n) = some o := ⟨_, by show ((flT t).ppl[n]?).map _ = _; rw [hv1]; rfl⟩
  obtain ⟨o2, ot⟩ : ∃ o, obj (RF CF CV) ad (flT t) (.th n) = some o := ⟨_, by show ((flT t).ppl[n]?).map _ = _; rw [hv1]; rfl⟩
  have n1 : ad .fl ≠ ad .sk := h.ne (s := .fl) (s' := .sk) rfl rfl (fun z => by cases z)
  have n2 : ad .pp ≠ ad .sk := h.ne (s := .pp) (s' := .sk) rfl rfl (fun z => by cases z)
  have n3 : ad (.vis n) ≠ ad .sk := h.ne ov (s' := .sk) rfl (fun z => by cases z)
  have n4 : ad (.th n) ≠ ad .sk := h.ne ot (s' := .sk) rfl (fun z => by cases z)
  refine Comp.dict (t.stock.map Prod.fst) (fun p => decide (p ∈ v.things)) U.str (fun σ => ∃ u, σ = [u, some (.int n), some (.ref (ad .fl))]) h.sk (by unfold keysU; show (kvU U.int t.stock).map _ = _; unfold kvU; rw [List.map_map, List.map_map]; rfl) ⟨_, rfl⟩ (by rw [List.length_map, sizeLine_eq]; omega) ?_ q
  rintro p hp σ ⟨u, rfl⟩ Y N yes no
  walk_at "g"
  refine ⟨_, _, (put_ne n1).trans (fo h), W.people, oE_some lf_people ?_⟩
  walk_at "g"
  refine ⟨_, (put_ne n2).trans h.pp, oE_some (atI_ppl hn1) ?_⟩
  walk_at "g"
  refine ⟨_, _, (put_ne n3).trans (fvis h hv1), V.things, oE_some lv_things ?_⟩
  walk_at "g"
  refine ⟨_, (put_ne n4).trans (fth h hv1), ?_⟩
  walk_at "g"
  rw [show (vsV v).things = v.things from rfl, thU_has]
  refine bE2 (fun c => ?_) (fun c => ?_)
  · walk_at "g"
    exact yes c _ _ ⟨_, rfl⟩ (Le.refl _)
  · exact no c _ _ ⟨_, rfl⟩ (Le.refl _)
end
set_option maxHeartbeats 1000000
open PySem PySem.Spec PyProof.Rows L2 L3 G1 G2 G3 G4 H N1
local macro_rules | `(tactic| walk_at "a") => `(tactic| first | assumption | exact put_same | (refine kpM ?_ (by assumption); walk_at "a") | (refine (put_ne (by assumption)).trans ?_; walk_at "a"))
local macro_rules | `(tactic| walk_at "l") => `(tactic| first
  | (refine rdL (by walk_at "a") (oE_some rfl ?_); walk_at "g")
  | (refine rdD (by walk_at "a") (oE_some rfl ?_); walk_at "g"))
local macro_rules | `(tactic| walk_at "gl") => `(tactic| (walk_at "g"; repeat walk_at "l"))
section
variable {P : Program} {w : World} {K : Frag} {mg : Str → Option Value} {base : Heap} {CF CV : Addr}
inductive spNames (us : List U) (M : Mem) (Q : U → Mem → Prop) : Prop
  | mk (c : Int) : (us = [.int c]) → (0 ≤ c) → (∀ p ns, M p = none → NamesOk 22 ns → Q (.ref p) (L3.put M p (.lst (ns.map U.str)))) → spNames  us M Q
noncomputable def st_l_names : Stmt := top 12
theorem sc_l_names : FnScope ["_law_cell", "_law_size", "_law_at", "_law_rest", "_law_found", "_law_k", "_law_row"] ["_law_cell"] (defScope st_l_names) := ⟨rfl, rfl, rfl, by decide +kernel, rfl, by decide +kernel, by decide +kernel⟩
theorem c_l_names (T : Bl mg) (F : FunM K mg "_law_names" st_l_names) : Cal2 P w K mg base 1 "_law_names" ["_law_cell"] spNames := by
  refine cal2 F sc_l_names (by rintro us M Q Q' k ⟨c, e, h, q⟩; exact ⟨c, e, h, fun p ns h1 h2 => k _ _ (q p ns h1 h2)⟩) (by rintro us M Q ⟨c, e, _⟩; rw [e]; rfl) (by rintro _ _ _ _ _ _ us hl; obtain ⟨_, rfl⟩ := len1 hl; rfl) (hbody := fun f cdv A outer s H E hr => ?_)
  refine ⟨_, (qss_cons (qs_set (i := 1) sc_l_names.nd rfl (by first | exact Or.inl rfl | exact Or.inr rfl) (qe_op o_add qe_int (qe_op o_mod (qv 0) qe_int)))
      (qss_cons (qs_set (i := 2) sc_l_names.nd rfl (by first | exact Or.inl rfl | exact Or.inr rfl) (qe_op o_mod (qe_op o_fdiv (qv 0) qe_int) (qv 1)))
      (qss_cons (qs_setc (i := 3) rfl sc_l_names.nd rfl rfl sw_any (qi_range1 rfl T.b_range (qa_cons (qv 1) qa_nil)) (fun _ _ _ _ _ => (qg_name (i := 0) (show List.Nodup (["_law_j", "_law_cell"] : List Str) by decide +kernel) rfl (by first | exact Or.inl rfl | exact Or.inr rfl))) (fun _ _ _ _ _ => qf_nil) (fun _ _ _ _ _ => (qe_ix x_ix qe_str (qe_op o_mod (qe_op o_fdivB (qv 1) (qe_op o_add qe_int (qe_op o_mul qe_int (qv 0)))) qe_int) (fun _ _ => rfl))) (N := ["_law_j", "_law_cell"]) (ix := [none, some 0]) (by kernel_rfl))
      (qss_cons (qs_set (i := 4) sc_l_names.nd rfl (by first | exact Or.inl rfl | exact Or.inr rfl) (qe_lst qa_nil))
      (qss_cons (qs_for PassesOwn.never rfl (qi_range1 rfl T.b_range (qa_cons qe_int qa_nil)) (qg_name (i := 5) sc_l_names.nd rfl (by first | exact Or.inl rfl | exact Or.inr rfl)) (qss_cons (qs_set (i := 6) sc_l_names.nd rfl (by first | exact Or.inl rfl | exact Or.inr rfl) (qe_callTy c_list (by rfl) T.b_list PyProof.Rows.boot_list (qa_cons (qv 3) qa_nil)))
      (qss_cons (qs_asg (qe_ix x_ix qe_str (qe_op o_mod (qe_op o_add (qe_op o_fdiv (qv 0) qe_int) (qv 5)) qe_int) (fun _ _ => rfl)) (qg_sub (qv 6) (qv 2) s_set))
      (qss_one (qs_expr (qe_bm PySem.F.plainAttrs_list PySem.F.slot_list_append PySem.F.type_list_append m_append (qv 4) (qa_cons (qe_bm PySem.F.plainAttrs_str PySem.F.slot_str_join PySem.F.type_str_join m_join qe_str (qa_cons (qv 6) qa_nil)) qa_nil)))))))
      (qss_one (qs_ret (qv 4)))))))), ?_⟩
  rintro us M Q cl ⟨c, rfl, c0, q⟩
  walk_at "g"
  have hs : 2 ≤ 2 + c % 7 ∧ 2 + c % 7 ≤ 8 := by omega
  generalize 2 + c % 7 = size at hs ⊢
  have ha : 0 ≤ c / 7 % size ∧ c / 7 % size < size := ⟨Int.emod_nonneg _ (by omega), Int.emod_lt_of_pos _ (by omega)⟩
  generalize c / 7 % size = at_ at ha ⊢
  have hrl : (rngU 0 size.toNat).length = size.toNat := rngU_len _ _
  refine Comp.inv (by rw [hrl, sizeLine_eq]; omega) (fun i ys σ M' => M' = M ∧ ∃ cs : List Nat, cs.length = i ∧ (∀ c ∈ cs, 97 ≤ c ∧ c < 123) ∧ ys = (cs.map one).map U.str ∧ ∃ v, σ = [v, some (.int c)]) ⟨rfl, [], rfl, (fun _ h => by cases h), rfl, _, rfl⟩ ?_ ?_
  · rintro i x ys σ M' hx hy ⟨rfl, cs, hcs, hok, rfl, v, rfl⟩
    have hi : i < size.toNat := by have := lt_of hx; rw [hrl] at this; exact this
    rw [rngU_get _ _ _ hi] at hx
    cases hx
    refine ⟨trivial, ?_⟩
    walk_at "g"
    refine ⟨⟨by omega, Nat.lt_of_le_of_lt (Nat.log2_le_self _) (by omega)⟩, ?_⟩
    walk_at "g"
    refine oE_some (atI_qz _) ?_
    generalize c.fdiv (49 + 13 * (0 + (i : Int))) = m
    exact ⟨_, Le.refl _, rfl, cs ++ [qzat m], by rw [List.length_append, hcs]; rfl, fun x hx => (List.mem_append.mp hx).elim (hok x) (fun z => by rw [List.mem_singleton.mp z]; exact qzat_ok m), by rw [List.map_append, List.map_append]; rfl, _, rfl⟩
  · rintro ys σ M' ⟨rfl, cs, hcs, hok, rfl, v, rfl⟩
    rw [hrl] at hcs
    refine ⟨trivial, fun p hp => ?_⟩
    walk_at "g"
    intro pf hpf
    walk_at "g"
    have h1 : M' pf = none := (put_none hpf).2
    have npf : pf ≠ p := (put_none hpf).1
    refine Walk.rng (fun i σ M2 => ∃ v5 v6, σ = [some (.int c), some (.int size), some (.int at_), some (.ref p), some (.ref pf), v5, v6] ∧ M2 = L3.put (L3.put M' p (.lst ((cs.map one).map U.str))) pf (.lst ((names cs at_.toNat (c / 17) i).map U.str))) ⟨_, _, rfl, rfl⟩ ?_ ?_
    · rintro i σ M2 hi ⟨v5, v6, rfl, rfl⟩
      walk_at "g"
      refine ⟨_, (put_ne (Ne.symm npf)).trans put_same, fun pr hpr => ?_⟩
      have npr : pf ≠ pr := mne put_same hpr
      walk_at "g"
      refine oE_some (atI_abc _) ?_
      walk_at "g"
      refine ⟨_, at_.toNat, put_same, ?_, ?_⟩
      · rw [List.length_map, List.length_map, hcs]
        have e : at_ = (at_.toNat : Int) := by omega
        unfold ixN
        rw [if_pos (by omega), if_pos (by omega)]
      rw [put_put, set_ones]
      walk_at "g"
      refine ⟨⟨rfl, _, (put_ne npr).trans put_same⟩, ?_⟩
      walk_at "g"
      refine ⟨_, put_same, joinOk_ones (by rw [List.length_set]; omega), ?_⟩
      rw [N1.join_ones]
      walk_at "g"
      refine ⟨_, (put_ne npr).trans put_same, by rw [List.length_map, names_len]; exact small1000 (by have : i < 22 := hi; omega), ?_⟩
      rw [put_swap npr]
      walk_at "g"
      refine ⟨_, Le.new ?_, _, _, rfl, ?_⟩
      · rw [put_ne (Ne.symm npr)] at hpr ⊢
        exact hpr
      · rw [names_succ, List.map_append]
        rw [Int.zero_add]; rfl
    · rintro σ M2 ⟨v5, v6, rfl, rfl⟩
      walk_at "g"
      rw [put_comm (Ne.symm npf)]
      exact cl _ _ _ (Le.new (by rw [put_ne (Ne.symm npf)]; exact hp)) (q pf _ h1 (names_ok (by decide) (by omega) (by omega) hok))
inductive spWhole (us : List U) (M : Mem) (Q : U → Mem → Prop) : Prop
  | mk (i : Int) : (us = [.int i]) → (Q (.bl true) M) → spWhole  us M Q
noncomputable def st_l_whole : Stmt := top 13
theorem sc_l_whole : FnScope ["_law_found"] ["_law_found"] (defScope st_l_whole) := ⟨rfl, rfl, rfl, by decide +kernel, rfl, by decide +kernel, by decide +kernel⟩
theorem c_l_whole (T : Bl mg) (F : FunM K mg "_law_whole" st_l_whole) : Cal2 P w K mg base 1 "_law_whole" ["_law_found"] spWhole := by
  refine cal2 F sc_l_whole (by rintro us M Q Q' k ⟨i, e, q⟩; exact ⟨i, e, k _ _ q⟩) (by rintro us M Q ⟨i, e, _⟩; rw [e]; rfl) (by rintro _ _ _ _ _ _ us hl; obtain ⟨_, rfl⟩ := len1 hl; rfl) (hbody := fun f cdv A outer s H E hr => ?_)
  refine ⟨_, (qss_one (qs_ret (qe_and (qe_callB c_isi (by rfl) T.b_isinstance PyProof.Rows.boot_isinstance (qa_cons (qv 0) (qa_cons (qe_ty rfl T.b_int PyProof.Rows.boot_int) qa_nil))) (qe_one (qe_notB (qe_callB c_isi (by rfl) T.b_isinstance PyProof.Rows.boot_isinstance (qa_cons (qv 0) (qa_cons (qe_ty rfl T.b_bool PyProof.Rows.boot_bool) qa_nil)))))))), ?_⟩
  rintro us M Q cl ⟨i, rfl, q⟩
  walk_at "g"
  exact q
@[reducible] noncomputable def triU (x : Bool × Str × Str) : U := .tup [.str (if x.1 then "lend" else "give"), .str x.2.1, .str x.2.2]
@[reducible] noncomputable def poolU (p : Str × Int) : U := .tup [.str "pool", .str p.1, .int p.2]
inductive Vr (n0 n1 n3 n4 n5 n6 : Str) : List (Str × Int) → List (Bool × Str × Str) → Prop
  | two (a b : Int) : Vr n0 n1 n3 n4 n5 n6 [(n0, a), (n1, b)] [(true, n3, n0), (true, n4, n1), (false, n5, n1), (false, n6, n0)]
  | one (a : Int) : Vr n0 n1 n3 n4 n5 n6 [(n0, a)] [(true, n3, n0), (false, n6, n0)]
inductive spBuilt (us : List U) (M : Mem) (Q : U → Mem → Prop) : Prop
  | mk (pn : _) (n0 : _) (n1 : _) (n2 : _) (n3 : _) (n4 : _) (n5 : _) (n6 : _) (tl : _) (c : Int) : (us = [.ref pn, .int c]) → (0 ≤ c) → (M pn = some (.lst ((n0 :: n1 :: n2 :: n3 :: n4 :: n5 :: n6 :: tl).map U.str))) → (∀ M' pp pr ps rs, Vr n0 n1 n3 n4 n5 n6 ps rs → Le M M' → M' pp = some (.lst (ps.map poolU)) → M' pr = some (.lst (rs.map triU)) → Q (.tup [.ref pp, .ref pr]) M') → spBuilt  us M Q
noncomputable def st_l_built : Stmt := top 14
theorem sc_l_built : FnScope ["_law_names_here", "_law_cell", "_law_many", "_law_pools", "_law_row"] ["_law_names_here", "_law_cell"] (defScope st_l_built) := ⟨rfl, rfl, rfl, by decide +kernel, rfl, by decide +kernel, by decide +kernel⟩
theorem c_l_built (F : FunM K mg "_law_built" st_l_built) : Cal2 P w K mg base 1 "_law_built" ["_law_names_here", "_law_cell"] spBuilt := by
  refine cal2 F sc_l_built (by rintro us M Q Q' k ⟨pn, n0, n1, n2, n3, n4, n5, n6, tl, c, e, h, h1, q⟩; exact ⟨pn, n0, n1, n2, n3, n4, n5, n6, tl, c, e, h, h1, fun a b c d e f g h i => k _ _ (q a b c d e f g h i)⟩) (by rintro us M Q ⟨pn, n0, n1, n2, n3, n4, n5, n6, tl, c, e, _⟩; rw [e]; rfl) (by rintro _ _ _ _ _ _ us hl; obtain ⟨_, _, rfl⟩ := len2 hl; rfl) (hbody := fun f cdv A outer s H E hr => ?_)
  refine ⟨_, (qss_cons (qs_set (i := 2) sc_l_built.nd rfl (by first | exact Or.inl rfl | exact Or.inr rfl) (qe_lst (qa_cons (qe_op o_add qe_int (qe_op o_mod (qv 1) qe_int)) (qa_cons (qe_op o_add qe_int (qe_op o_mod (qe_op o_fdiv (qv 1) qe_int) (qe_pick0 (qa_cons qe_int (qa_cons qe_int qa_nil)) (qp_op o_mod r_mod_pu (qp_op o_fdiv r_fdiv_pu (qp_v 1) qp_int) qp_int) (fun _ _ => rfl)))) qa_nil))))
      (qss_cons (qs_set (i := 3) sc_l_built.nd rfl (by first | exact Or.inl rfl | exact Or.inr rfl) (qe_lst (qa_cons (qe_tup (qa_cons qe_str (qa_cons (qe_ixN (n := 0) (qv 0) (fun _ _ => rfl)) (qa_cons (qe_ixN (n := 0) (qv 2) (fun _ _ => rfl)) qa_nil)))) (qa_cons (qe_tup (qa_cons qe_str (qa_cons (qe_ixN (n := 1) (qv 0) (fun _ _ => rfl)) (qa_cons (qe_ixN (n := 1) (qv 2) (fun _ _ => rfl)) qa_nil)))) qa_nil))))
      (qss_cons (qs_set (i := 4) sc_l_built.nd rfl (by first | exact Or.inl rfl | exact Or.inr rfl) (qe_lst (qa_cons (qe_tup (qa_cons qe_str (qa_cons (qe_ixN (n := 3) (qv 0) (fun _ _ => rfl)) (qa_cons (qe_ixN (n := 0) (qv 0) (fun _ _ => rfl)) qa_nil)))) (qa_cons (qe_tup (qa_cons qe_str (qa_cons (qe_ixN (n := 4) (qv 0) (fun _ _ => rfl)) (qa_cons (qe_ixN (n := 1) (qv 0) (fun _ _ => rfl)) qa_nil)))) (qa_cons (qe_tup (qa_cons qe_str (qa_cons (qe_ixN (n := 5) (qv 0) (fun _ _ => rfl)) (qa_cons (qe_ixN (n := 1) (qv 0) (fun _ _ => rfl)) qa_nil)))) qa_nil)))))
      (qss_cons (qs_expr (qe_bm PySem.F.plainAttrs_list PySem.F.slot_list_append PySem.F.type_list_append m_append (qv 4) (qa_cons (qe_tup (qa_cons qe_str (qa_cons (qe_ixN (n := 6) (qv 0) (fun _ _ => rfl)) (qa_cons (qe_ixN (n := 0) (qv 0) (fun _ _ => rfl)) qa_nil)))) qa_nil)))
      (qss_cons (qs_if (qt_cmp (o_eq hr.units) (qe_op o_mod (qe_op o_fdiv (qv 1) qe_int) qe_int) qe_int (nomark _)) (qss_cons (qs_set (i := 3) sc_l_built.nd rfl (by first | exact Or.inl rfl | exact Or.inr rfl) (qe_slice l_slA (qv 3) qo_none (qo_some qe_int)))
      (qss_one (qs_set (i := 4) sc_l_built.nd rfl (by first | exact Or.inl rfl | exact Or.inr rfl) (qe_lst (qa_cons (qe_ixN (n := 0) (qv 4) (fun _ _ => rfl)) (qa_cons (qe_ixN (n := 3) (qv 4) (fun _ _ => rfl)) qa_nil)))))) qss_nil)
      (qss_one (qs_ret (qe_tup (qa_cons (qv 3) (qa_cons (qv 4) qa_nil)))))))))), ?_⟩
  rintro us M Q cl ⟨pn, n0, n1, n2, n3, n4, n5, n6, tl, c, rfl, c0, hpn, q⟩
  walk_at "g"
  obtain ⟨bq, hb0, hb⟩ : ∃ b : Int, 0 < b ∧ atI [U.int 3, U.int 20] (c / 9 % 2) = some (.int b) := by
    rcases (by omega : c / 9 % 2 = 0 ∨ c / 9 % 2 = 1) with e | e <;> rw [e]
    · exact ⟨3, by decide, rfl⟩
    · exact ⟨20, by decide, rfl⟩
  refine oE_some hb ?_
  walk_at "g"
  intro p1 h1
  walk_at "gl"
  intro p2 h2
  walk_at "gl"
  intro p3 h3
  walk_at "gl"
  refine ⟨⟨rfl, _, put_same⟩, ?_⟩
  walk_at "gl"
  rw [put_put]
  have L1 : Le M (L3.put M p1 (.lst [.int (1 + c % 3), .int (1 + c / 3 % bq)])) := Le.new h1
  have L2 := L1.trans (Le.new (o := .lst [.tup [.str "pool", .str n0, .int (1 + c % 3)], .tup [.str "pool", .str n1, .int (1 + c / 3 % bq)]]) h2)
  have L3' := L2.trans (Le.new (o := .lst ([.tup [.str "lend", .str n3, .str n0], .tup [.str "lend", .str n4, .str n1], .tup [.str "give", .str n5, .str n1]] ++ [.tup [.str "give", .str n6, .str n0]])) h3)
  have hp := kpM (u := .lst ([.tup [.str "lend", .str n3, .str n0], .tup [.str "lend", .str n4, .str n1], .tup [.str "give", .str n5, .str n1]] ++ [.tup [.str "give", .str n6, .str n0]])) (put_same (M := L3.put M p1 (.lst [.int (1 + c % 3), .int (1 + c / 3 % bq)])) (a := p2) (o := .lst [.tup [.str "pool", .str n0, .int (1 + c % 3)], .tup [.str "pool", .str n1, .int (1 + c / 3 % bq)]])) h3
  generalize hM : L3.put (L3.put (L3.put M p1 (.lst [.int (1 + c % 3), .int (1 + c / 3 % bq)])) p2 (.lst [.tup [.str "pool", .str n0, .int (1 + c % 3)], .tup [.str "pool", .str n1, .int (1 + c / 3 % bq)]])) p3 (.lst ([.tup [.str "lend", .str n3, .str n0], .tup [.str "lend", .str n4, .str n1], .tup [.str "give", .str n5, .str n1]] ++ [.tup [.str "give", .str n6, .str n0]])) = M3 at L3' hp ⊢
  have hr : M3 p3 = some (.lst ([.tup [.str "lend", .str n3, .str n0], .tup [.str "lend", .str n4, .str n1], .tup [.str "give", .str n5, .str n1]] ++ [.tup [.str "give", .str n6, .str n0]])) := by rw [← hM]; exact put_same
  clear hM h1 h2 h3
  refine bE2 (fun c1 => ?_) (fun c1 => ?_)
  · walk_at "g"
    refine ⟨_, hp, fun p4 h4 => ?_⟩
    walk_at "gl"
    intro p5 h5
    walk_at "g"
    exact q _ p4 p5 _ _ (.one (1 + c % 3)) ((L3'.trans (Le.new h4)).trans (Le.new h5)) (kpM put_same h5) put_same
  · walk_at "g"
    exact q _ p2 p3 _ _ (.two (1 + c % 3) (1 + c / 3 % bq)) L3' hp hr
noncomputable def stepH (xs : List Str) (x : Bool × Str × Str) : List Str := if x.1 then xs ++ [x.2.2] else xs.erase x.2.2
noncomputable def heldAt (rs : List (Bool × Str × Str)) (k : Nat) : List Str := (rs.take k).foldl stepH []
theorem heldAt_succ {rs : List (Bool × Str × Str)} {k : Nat} {x : Bool × Str × Str} (h : rs[k]? = some x) : heldAt rs (k + 1) = stepH (heldAt rs k) x := by
  unfold heldAt
  rw [List.take_add_one, h, List.foldl_append]; rfl
noncomputable def pathOf (rs : List (Bool × Str × Str)) (ex : Str) : List Str := rs.map (fun x => x.2.1) ++ [ex]
noncomputable def tlOf (rs : List (Bool × Str × Str)) (ex : Str) (k : Nat) : Tl := match rs[k]? with
  | some (true, n, p) => .lend n p ((pathOf rs ex).getD (k + 1) Str.empty)
  | some (false, n, p) => .give n p ((pathOf rs ex).getD (k + 1) Str.empty)
  | none => .exit ex
noncomputable def hallOf (ps : List (Str × Int)) (rs : List (Bool × Str × Str)) (ex dr : Str) : List Tl := (List.range rs.length).map (tlOf rs ex) ++ [.exit ex] ++ ps.map (fun p => .pool p.1 p.2) ++ [.door dr 0 (.at_ [0]) ((pathOf rs ex).getD 0 Str.empty)]
noncomputable def hOf (rs : List (Bool × Str × Str)) (ex : Str) (a : Str) : List Str := if a ∈ pathOf rs ex then heldAt rs ((pathOf rs ex).idxOf a) else []
structure Facts (ps : List (Str × Int)) (rs : List (Bool × Str × Str)) (ex dr : Str) : Prop where
  good : Good (hOf rs ex) (hallOf ps rs ex dr)
  nd : (pathOf rs ex).Nodup
  rl : rs.length = 2 ∨ rs.length = 4
  hold : ∀ (k : Nat) (x : Bool × Str × Str), rs[k]? = some x → x.1 = false → x.2.2 ∈ heldAt rs k
  pool : ∀ (k : Nat) (x : Bool × Str × Str), rs[k]? = some x → x.2.2 ∈ ps.map (·.1)
  pnd : (ps.map (·.1)).Nodup
  pl : ps.length ≤ 2
  hn : ∀ a, (hOf rs ex a).Nodup ∧ (hOf rs ex a).length ≤ 1000
theorem facts {n0 n1 n2 n3 n4 n5 n6 n7 : Str} {ps : List (Str × Int)} {rs : List (Bool × Str × Str)} (v : Vr n0 n1 n3 n4 n5 n6 ps rs) (nd : [n0, n1, n2, n3, n4, n5, n6, n7].Nodup) : Facts ps rs n2 n7 := by
  simp only [List.nodup_cons, List.mem_cons, List.not_mem_nil, or_false, not_or, List.nodup_nil, and_true, not_false_eq_true] at nd
  obtain ⟨⟨a1, a2, a3, a4, a5, a6, a7⟩, ⟨b2, b3, b4, b5, b6, b7⟩, ⟨c3, c4, c5, c6, c7⟩, ⟨d4, d5, d6, d7⟩, ⟨e5, e6, e7⟩, ⟨f6, f7⟩, g7⟩ := nd
  have sy : ∀ {x y : Str}, ¬ x = y → ¬ y = x := fun h z => h z.symm
  have a1' := sy a1; have a2' := sy a2; have a3' := sy a3; have a4' := sy a4; have a5' := sy a5; have a6' := sy a6; have a7' := sy a7
  have b2' := sy b2; have b3' := sy b3; have b4' := sy b4; have b5' := sy b5; have b6' := sy b6; have b7' := sy b7
  have c3' := sy c3; have c4' := sy c4; have c5' := sy c5; have c6' := sy c6; have c7' := sy c7
  have d4' := sy d4; have d5' := sy d5; have d6' := sy d6; have d7' := sy d7
  have e5' := sy e5; have e6' := sy e6; have e7' := sy e7
  have f6' := sy f6; have f7' := sy f7; have g7' := sy g7
  have bq : ∀ {x y : Str}, ¬ x = y → (x == y) = false := fun h => by simpa using h
  cases v with
  | two a b =>
    have e1 : hallOf [(n0, a), (n1, b)] [(true, n3, n0), (true, n4, n1), (false, n5, n1), (false, n6, n0)] n2 n7 = [.lend n3 n0 n4, .lend n4 n1 n5, .give n5 n1 n6, .give n6 n0 n2, .exit n2, .pool n0 a, .pool n1 b, .door n7 0 (.at_ [0]) n3] := rfl
    have e2 : pathOf [(true, n3, n0), (true, n4, n1), (false, n5, n1), (false, n6, n0)] n2 = [n3, n4, n5, n6, n2] := rfl
    have ep : ([.lend n3 n0 n4, .lend n4 n1 n5, .give n5 n1 n6, .give n6 n0 n2, .exit n2, .pool n0 a, .pool n1 b, .door n7 0 (.at_ [0]) n3] : List Tl).filterMap poolOf = [(n0, a), (n1, b)] := rfl
    have hh : ∀ a, hOf [(true, n3, n0), (true, n4, n1), (false, n5, n1), (false, n6, n0)] n2 a = if a = n3 then [] else if a = n4 then [n0] else if a = n5 then [n0, n1] else if a = n6 then [n0] else [] := fun a => by
      unfold hOf
      rw [e2]
      by_cases z : a ∈ [n3, n4, n5, n6, n2]
      · rw [if_pos z]
        simp only [List.mem_cons, List.not_mem_nil, or_false] at z
        rcases z with rfl | rfl | rfl | rfl | rfl
        all_goals (simp only [List.idxOf_cons, beq_self_eq_true, bq d4, bq d5, bq d6, bq e5, bq e6, bq f6, bq c3', bq c4', bq c5', bq c6', cond_true, cond_false, Nat.zero_add])
        all_goals simp [heldAt, stepH, *]
      · rw [if_neg z]
        simp only [List.mem_cons, List.not_mem_nil, or_false, not_or] at z
        simp [z]
    refine ⟨⟨?_, ?_, ?_, ?_, ?_, ?_⟩, ?_, .inr rfl, ?_, ?_, ?_, Nat.le_of_ble_eq_true rfl, ?_⟩
    · rw [e1]; simp [Tl.name, *]
    · rw [e1]; exact Nat.le_of_ble_eq_true rfl
    · rw [e1]
      intro tl h b hb
      show ∃ tl', tl' ∈ _ ∧ Tl.name tl' = b
      refine List.mem_map.mp ?_
      simp only [List.mem_cons, List.not_mem_nil, or_false] at h
      rcases h with rfl | rfl | rfl | rfl | rfl | rfl | rfl | rfl <;> simp only [Tl.thens, List.mem_singleton, List.not_mem_nil] at hb <;> (subst hb; simp [Tl.name])
    · rw [e1]; intro nm m b th h; simp at h
    · rw [e1]
      intro tl h
      simp only [List.mem_cons, List.not_mem_nil, or_false] at h
      rcases h with rfl | rfl | rfl | rfl | rfl | rfl | rfl | rfl <;> first | trivial | exact Nat.le_of_ble_eq_true rfl | (intro b hb; cases hb)
    · rw [e1, ep]
      intro tl h
      simp only [List.mem_cons, List.not_mem_nil, or_false] at h
      rcases h with rfl | rfl | rfl | rfl | rfl | rfl | rfl | rfl <;> simp [labTl, hh, Tl.thens, List.lookup_cons, *]
    · rw [e2]; simp [*]
    · intro k x h hx
      match k, h with
      | 0, h => cases h; cases hx
      | 1, h => cases h; cases hx
      | 2, h => cases h; simp [heldAt, stepH, *]
      | 3, h => cases h; simp [heldAt, stepH, *]
      | k + 4, h => simp at h
    · intro k x h
      match k, h with
      | 0, h => cases h; simp
      | 1, h => cases h; simp
      | 2, h => cases h; simp
      | 3, h => cases h; simp
      | k + 4, h => simp at h
    · simp [*]
    · intro a0; rw [hh]; repeat' split
      all_goals simp [*]
  | one a =>
    have e1 : hallOf [(n0, a)] [(true, n3, n0), (false, n6, n0)] n2 n7 = [.lend n3 n0 n6, .give n6 n0 n2, .exit n2, .pool n0 a, .door n7 0 (.at_ [0]) n3] := rfl
    have e2 : pathOf [(true, n3, n0), (false, n6, n0)] n2 = [n3, n6, n2] := rfl
    have ep : ([.lend n3 n0 n6, .give n6 n0 n2, .exit n2, .pool n0 a, .door n7 0 (.at_ [0]) n3] : List Tl).filterMap poolOf = [(n0, a)] := rfl
    have hh : ∀ a, hOf [(true, n3, n0), (false, n6, n0)] n2 a = if a = n6 then [n0] else [] := fun a => by
      unfold hOf
      rw [e2]
      by_cases z : a ∈ [n3, n6, n2]
      · rw [if_pos z]
        simp only [List.mem_cons, List.not_mem_nil, or_false] at z
        rcases z with rfl | rfl | rfl
        all_goals (simp only [List.idxOf_cons, beq_self_eq_true, bq d6, bq c3', bq c6', cond_true, cond_false, Nat.zero_add])
        all_goals simp [heldAt, stepH, *]
      · rw [if_neg z]
        simp only [List.mem_cons, List.not_mem_nil, or_false, not_or] at z
        simp [z]
    refine ⟨⟨?_, ?_, ?_, ?_, ?_, ?_⟩, ?_, .inl rfl, ?_, ?_, ?_, Nat.le_of_ble_eq_true rfl, ?_⟩
    · rw [e1]; simp [Tl.name, *]
    · rw [e1]; exact Nat.le_of_ble_eq_true rfl
    · rw [e1]
      intro tl h b hb
      show ∃ tl', tl' ∈ _ ∧ Tl.name tl' = b
      refine List.mem_map.mp ?_
      simp only [List.mem_cons, List.not_mem_nil, or_false] at h
      rcases h with rfl | rfl | rfl | rfl | rfl <;> simp only [Tl.thens, List.mem_singleton, List.not_mem_nil] at hb <;> (subst hb; simp [Tl.name])
    · rw [e1]; intro nm m b th h; simp at h
    · rw [e1]
      intro tl h
      simp only [List.mem_cons, List.not_mem_nil, or_false] at h
      rcases h with rfl | rfl | rfl | rfl | rfl <;> first | trivial | exact Nat.le_of_ble_eq_true rfl | (intro b hb; cases hb)
    · rw [e1, ep]
      intro tl h
      simp only [List.mem_cons, List.not_mem_nil, or_false] at h
      rcases h with rfl | rfl | rfl | rfl | rfl <;> simp [labTl, hh, Tl.thens, List.lookup_cons, *]
    · rw [e2]; simp [*]
    · intro k x h hx
      match k, h with
      | 0, h => cases h; cases hx
      | 1, h => cases h; simp [heldAt, stepH, *]
      | k + 2, h => simp at h
    · intro k x h
      match k, h with
      | 0, h => cases h; simp
      | 1, h => cases h; simp
      | k + 2, h => simp at h
    · simp [*]
    · intro a0; rw [hh]; repeat' split
      all_goals simp [*]
end
set_option maxHeartbeats 1000000
open PySem PySem.Spec PyProof.Rows L2 L3 G1 G2 G3 G4 H N1
theorem pool_inv {tl : Tl} {a : Str} {k : Int} (h : poolOf tl = some (a, k)) : tl = .pool a k := by
  cases tl with
  | pool n m => cases h; rfl
  | _ => cases h
theorem good_perm {h : Str → List Str} {ts ts' : List Tl} (g : Good h ts) (p : ts'.Perm ts) : Good h ts' := by
  have nd : (ts'.map Tl.name).Nodup := (p.map Tl.name).nodup_iff.mpr g.nd
  refine ⟨nd, by rw [p.length_eq]; exact g.len, fun tl m b hb => ?_, fun nm m b th hm => ?_, fun tl m => g.ok tl (p.mem_iff.mp m), fun tl m => ?_⟩
  · obtain ⟨tl', q, e⟩ := g.thn tl (p.mem_iff.mp m) b hb
    exact ⟨tl', p.mem_iff.mpr q, e⟩
  · obtain ⟨tl', q, e⟩ := g.bl nm m b th (p.mem_iff.mp hm)
    exact ⟨tl', p.mem_iff.mpr q, e⟩
  · refine labTl_mono (fun a z => ?_) (g.lab tl (p.mem_iff.mp m))
    obtain ⟨k, hk⟩ := z
    obtain ⟨tl0, m0, e0⟩ := List.mem_filterMap.mp (look_mem hk)
    have := pool_inv e0
    subst this
    exact ⟨k, pool_look nd (p.mem_iff.mpr m0)⟩
theorem path_len {rs : List (Bool × Str × Str)} {ex : Str} : (pathOf rs ex).length = rs.length + 1 := by
  unfold pathOf; rw [List.length_append, List.length_map]; rfl
theorem path_get {rs : List (Bool × Str × Str)} {ex : Str} {k : Nat} {x : Bool × Str × Str} (h : rs[k]? = some x) : (pathOf rs ex)[k]? = some x.2.1 := by
  have hk := (List.getElem?_eq_some_iff.mp h).1
  unfold pathOf
  rw [List.getElem?_append_left (by rw [List.length_map]; exact hk), List.getElem?_map, h]; rfl
theorem path_at {rs : List (Bool × Str × Str)} {ex : Str} {k : Nat} {x : Bool × Str × Str} (h : rs[k]? = some x) : (pathOf rs ex).getD k Str.empty = x.2.1 := by
  rw [List.getD_eq_getElem?_getD, path_get h]; rfl
theorem path_end {rs : List (Bool × Str × Str)} {ex : Str} : (pathOf rs ex).getD rs.length Str.empty = ex := by
  rw [List.getD_eq_getElem?_getD]
  unfold pathOf
  rw [List.getElem?_append_right (by rw [List.length_map]; exact Nat.le_refl _), List.length_map, Nat.sub_self]; rfl
theorem tl_at {rs : List (Bool × Str × Str)} {ex : Str} {k : Nat} {b : Bool} {n p : Str} (h : rs[k]? = some (b, n, p)) : tlOf rs ex k = if b then .lend n p ((pathOf rs ex).getD (k + 1) Str.empty) else .give n p ((pathOf rs ex).getD (k + 1) Str.empty) := by
  unfold tlOf; rw [h]; cases b <;> rfl
theorem tl_name {rs : List (Bool × Str × Str)} {ex : Str} {k : Nat} {x : Bool × Str × Str} (h : rs[k]? = some x) : (tlOf rs ex k).name = x.2.1 := by
  obtain ⟨b, n, p⟩ := x
  rw [tl_at h]; cases b <;> rfl
theorem idx_of {l : List Str} : ∀ {k : Nat} {a : Str}, l.Nodup → l[k]? = some a → l.idxOf a = k := by
  induction l with
  | nil => intro k a _ h; simp at h
  | cons y r ih =>
    intro k a nd h
    rw [List.nodup_cons] at nd
    cases k with
    | zero => simp at h; subst h; simp
    | succ k =>
      rw [List.getElem?_cons_succ] at h
      have ne : (y == a) = false := by
        simp only [beq_eq_false_iff_ne, ne_eq]
        intro z; subst z
        exact nd.1 (List.mem_of_getElem? h)
      rw [List.idxOf_cons, ne, cond_false, ih nd.2 h]
theorem hOf_at {rs : List (Bool × Str × Str)} {ex : Str} (nd : (pathOf rs ex).Nodup) {k : Nat} (hk : k ≤ rs.length) : hOf rs ex ((pathOf rs ex).getD k Str.empty) = heldAt rs k := by
  have hl : k < (pathOf rs ex).length := by rw [path_len]; omega
  have e : (pathOf rs ex)[k]? = some ((pathOf rs ex).getD k Str.empty) := by rw [List.getD_eq_getElem?_getD, List.getElem?_eq_getElem hl]; rfl
  unfold hOf
  rw [if_pos (List.mem_of_getElem? e), idx_of nd e]
theorem held_mem {rs : List (Bool × Str × Str)} : ∀ (k : Nat) (y : Str), y ∈ heldAt rs k → ∃ x ∈ rs, x.2.2 = y := by
  intro k
  induction k with
  | zero => intro y h; cases h
  | succ k ih =>
    intro y h
    cases e : rs[k]? with
    | none =>
      have el : heldAt rs (k + 1) = heldAt rs k := by unfold heldAt; rw [List.take_add_one, e]; simp
      rw [el] at h; exact ih y h
    | some x =>
      rw [heldAt_succ e] at h
      unfold stepH at h
      split at h
      · rcases List.mem_append.mp h with z | z
        · exact ih y z
        · exact ⟨x, List.mem_of_getElem? e, (List.mem_singleton.mp z).symm⟩
      · exact ih y (List.mem_of_mem_erase h)
noncomputable def dueOf (hs : List Tl) (xs : List Str) : List Str := (hs.filter fun tl => decide (sortOf tl = "pool") && decide (tl.name ∈ xs)).map Tl.name
theorem due_eq (xs : List Str) : ∀ hs : List Tl, dueOf hs xs = ((hs.filterMap poolOf).map Prod.fst).filter fun p => decide (p ∈ xs) := by
  intro hs
  induction hs with
  | nil => rfl
  | cons t r ih =>
    unfold dueOf at ih ⊢
    by_cases h : sortOf t = "pool"
    · obtain ⟨n, m, rfl⟩ := pool_of h
      rw [List.filterMap_cons_some (f := poolOf) (b := (n, m)) rfl, List.map_cons]
      by_cases c : n ∈ xs
      · rw [List.filter_cons_of_pos (by rw [h]; simp [Tl.name, c]), List.filter_cons_of_pos (by simpa using c), List.map_cons, ih]; rfl
      · rw [List.filter_cons_of_neg (by simp [Tl.name, c]), List.filter_cons_of_neg (by simpa using c), ih]
    · have e : poolOf t = none := by
        cases t with
        | pool n m => exact absurd rfl h
        | _ => rfl
      rw [List.filter_cons_of_neg (by simp [h]), List.filterMap_cons_none e, ih]
structure In (ps : List (Str × Int)) (rs : List (Bool × Str × Str)) (ex : Str) (hs : List Tl) (t : TF) (sp : List Nat) (lf : List (Str × Int)) : Prop where
  wf : Wf (hOf rs ex) t
  plan : t.plan = hs.map fun tl => (tl.name, tl)
  len : t.ppl.length = sp.length
  at_ : ∀ (j : Nat) v, t.ppl[j]? = some v → ∃ k, sp[j]? = some k ∧ k ≤ rs.length ∧ v.st = (pathOf rs ex).getD k Str.empty
  stk : ∀ a, lf.lookup a = t.stock.lookup a
  ks : t.stock.map Prod.fst = (hs.filterMap poolOf).map Prod.fst
  lk : lf.map (·.1) = ps.map (·.1)
section
variable {ps : List (Str × Int)} {rs : List (Bool × Str × Str)} {ex dr : Str} {hs : List Tl} {t : TF} {sp : List Nat} {lf : List (Str × Int)} {n k : Nat} {v : Vs} {turn : Int}
theorem mem_tl (hk : k < rs.length) : tlOf rs ex k ∈ hallOf ps rs ex dr := by
  unfold hallOf
  simp only [List.mem_append, List.mem_map, List.mem_range]
  exact .inl (.inl (.inl ⟨k, hk, rfl⟩))
theorem mem_exit : Tl.exit ex ∈ hallOf ps rs ex dr := by unfold hallOf; simp
theorem mem_door : Tl.door dr 0 (.at_ [0]) ((pathOf rs ex).getD 0 Str.empty) ∈ hallOf ps rs ex dr := by unfold hallOf; simp
theorem mem_pool {a : Str} {m : Int} (h : (a, m) ∈ ps) : Tl.pool a m ∈ hallOf ps rs ex dr := by
  unfold hallOf
  simp only [List.mem_append, List.mem_map]
  exact .inl (.inr ⟨(a, m), h, rfl⟩)
theorem pool_mem {a : Str} {m : Int} (h : Tl.pool a m ∈ hallOf ps rs ex dr) : (a, m) ∈ ps := by
  unfold hallOf at h
  simp only [List.mem_append, List.mem_map, List.mem_range, List.mem_singleton] at h
  rcases h with ((⟨j, hj, e⟩ | e) | ⟨q, hq, e⟩) | e
  · exfalso
    obtain ⟨⟨b, n, p⟩, hx⟩ : ∃ x, rs[j]? = some x := ⟨_, List.getElem?_eq_getElem hj⟩
    rw [tl_at hx] at e
    cases b <;> simp at e
  · cases e
  · cases e; exact hq
  · cases e
theorem In.st (I : In ps rs ex hs t sp lf) (hv : t.ppl[n]? = some v) (hk : sp[n]? = some k) : k ≤ rs.length ∧ v.st = (pathOf rs ex).getD k Str.empty := by
  obtain ⟨k', e, h1, h2⟩ := I.at_ n v hv
  rw [hk] at e; cases e
  exact ⟨h1, h2⟩
theorem In.vis (I : In ps rs ex hs t sp lf) (hk : sp[n]? = some k) : ∃ v, t.ppl[n]? = some v := by
  have hn : n < t.ppl.length := by rw [I.len]; exact (List.getElem?_eq_some_iff.mp hk).1
  exact ⟨_, List.getElem?_eq_getElem hn⟩
theorem In.look (I : In ps rs ex hs t sp lf) (nd : (hs.map Tl.name).Nodup) {tl : Tl} (m : tl ∈ hs) : t.plan.lookup tl.name = some tl := by
  rw [I.plan]; exact look_map (g := fun t => t) nd m
theorem In.tl (I : In ps rs ex hs t sp lf) (nd : (hs.map Tl.name).Nodup) (pm : hs.Perm (hallOf ps rs ex dr)) (hv : t.ppl[n]? = some v) (hk : sp[n]? = some k) {x : Bool × Str × Str} (hx : rs[k]? = some x) : t.plan.lookup v.st = some (tlOf rs ex k) := by
  obtain ⟨h1, h2⟩ := I.st hv hk
  rw [h2, path_at hx, ← tl_name (ex := ex) hx]
  exact I.look nd (pm.mem_iff.mpr (mem_tl (List.getElem?_eq_some_iff.mp hx).1))
theorem In.out (I : In ps rs ex hs t sp lf) (nd : (hs.map Tl.name).Nodup) (pm : hs.Perm (hallOf ps rs ex dr)) (hv : t.ppl[n]? = some v) (hk : sp[n]? = some rs.length) : t.plan.lookup v.st = some (.exit ex) := by
  obtain ⟨h1, h2⟩ := I.st hv hk
  rw [h2, path_end]
  exact I.look nd (tl := .exit ex) (pm.mem_iff.mpr mem_exit)
theorem In.held (I : In ps rs ex hs t sp lf) (nd : (pathOf rs ex).Nodup) (hv : t.ppl[n]? = some v) (hk : sp[n]? = some k) : dueOf hs (heldAt rs k) = (t.stock.map Prod.fst).filter fun p => decide (p ∈ v.things) := by
  obtain ⟨h1, h2⟩ := I.st hv hk
  have h3 : v.things = heldAt rs k := by rw [I.wf.hd n v hv, h2, hOf_at nd h1]
  rw [due_eq, I.ks, h3]
theorem In.can (I : In ps rs ex hs t sp lf) {b : Bool} {a p : Str} (hx : rs[k]? = some (b, a, p)) {m : Int} (hm : lf.lookup p = some m) : canTl t n v turn (tlOf rs ex k) = (!b || decide (0 < m)) := by
  rw [tl_at hx]
  cases b with
  | true =>
    show decide (0 < leftAt t p) = _
    rw [left_at (by rw [← I.stk]; exact hm)]; simp
  | false => rfl
theorem word_tl {b : Bool} {a p : Str} (hx : rs[k]? = some (b, a, p)) : wordTl t n v (tlOf rs ex k) = (("enters" : Str), (pathOf rs ex).getD (k + 1) Str.empty) := by
  rw [tl_at hx]; cases b <;> rfl
theorem not_exit {b : Bool} {a p : Str} (hx : rs[k]? = some (b, a, p)) : (∀ a, tlOf rs ex k ≠ .exit a) ∧ (∀ a m, tlOf rs ex k ≠ .pool a m) ∧ (∀ nm r ths, tlOf rs ex k = .fork nm r ths → LST r) := by
  rw [tl_at hx]
  cases b <;> exact ⟨fun a z => (by simp at z), fun a m z => (by simp at z), fun nm r ths z => (by simp at z)⟩
theorem In.move (I : In ps rs ex hs t sp lf) (hv : t.ppl[n]? = some v) (hk : sp[n]? = some k) {b : Bool} {a p : Str} (hx : rs[k]? = some (b, a, p)) (hp : t.plan.lookup v.st = some (tlOf rs ex k)) {m : Int} (hm : lf.lookup p = some m) :
    In ps rs ex hs (moveTl t n v turn (tlOf rs ex k)) (sp.set n (k + 1)) (putL lf p (m + if b then -1 else 1)) := by
  obtain ⟨ne1, ne2, _⟩ := not_exit (ex := ex) hx
  have hw := I.wf.move turn hv hp ne1 ne2
  have hm' : t.stock.lookup p = some m := by rw [← I.stk]; exact hm
  have hl : leftAt t p = m := left_at hm'
  have hn : n < t.ppl.length := (List.getElem?_eq_some_iff.mp hv).1
  have hns : n < sp.length := (List.getElem?_eq_some_iff.mp hk).1
  have hkr : k < rs.length := (List.getElem?_eq_some_iff.mp hx).1
  have e : ∃ v', (moveTl t n v turn (tlOf rs ex k)).ppl = t.ppl.set n v' ∧ v'.st = (pathOf rs ex).getD (k + 1) Str.empty := by
    rw [tl_at hx]
    cases b with
    | true => exact ⟨_, rfl, rfl⟩
    | false => exact ⟨_, rfl, rfl⟩
  have e2 : (moveTl t n v turn (tlOf rs ex k)).stock = putL t.stock p (m + if b then -1 else 1) := by
    rw [tl_at hx]
    cases b with
    | true => show putL t.stock p (leftAt t p - 1) = _; rw [hl]; rfl
    | false => show putL t.stock p (leftAt t p + 1) = _; rw [hl]; rfl
  have e3 : (moveTl t n v turn (tlOf rs ex k)).plan = t.plan := by
    rw [tl_at hx]; cases b <;> rfl
  obtain ⟨v', e1, e1'⟩ := e
  refine ⟨hw, by rw [e3]; exact I.plan, by rw [e1, List.length_set, List.length_set]; exact I.len, fun j u hu => ?_, fun a' => ?_, ?_, ?_⟩
  · rw [e1] at hu
    by_cases z : n = j
    · subst z
      rw [List.getElem?_set_self hn] at hu
      cases hu
      exact ⟨k + 1, List.getElem?_set_self hns, hkr, e1'⟩
    · rw [List.getElem?_set_ne z] at hu
      rw [List.getElem?_set_ne z]
      exact I.at_ j u hu
  · rw [e2, look_put, look_put, I.stk]
  · rw [e2, show (putL t.stock p (m + if b = true then -1 else 1)).map Prod.fst = t.stock.map Prod.fst from put_keys hm']; exact I.ks
  · rw [put_keys hm]; exact I.lk
theorem In.enter (I : In ps rs ex hs t sp lf) {th : Str} (hth : th = (pathOf rs ex).getD 0 Str.empty) {c : Com} (hp : t.plan.lookup dr = some (.door dr 0 c th)) :
    Wf (hOf rs ex) (comeT t dr 0 0) ∧ (comeT t dr 0 0).ppl[t.ppl.length]? = some ⟨0, dr, 0, none, []⟩ ∧
    In ps rs ex hs (moveTl (comeT t dr 0 0) t.ppl.length ⟨0, dr, 0, none, []⟩ 0 (.door dr 0 c th)) (sp ++ [0]) lf := by
  have w1 := I.wf.come 0 hp
  have hv : (comeT t dr 0 0).ppl[t.ppl.length]? = some ⟨0, dr, 0, none, []⟩ := by
    show (t.ppl ++ [_])[t.ppl.length]? = _
    rw [List.getElem?_append_right (Nat.le_refl _), Nat.sub_self]; rfl
  refine ⟨w1, hv, ?_⟩
  have w2 := w1.move (tl := .door dr 0 c th) 0 hv hp (fun a z => by cases z) (fun a m z => by cases z)
  refine ⟨w2, I.plan, ?_, fun j u hu => ?_, I.stk, I.ks, I.lk⟩
  · show ((t.ppl ++ [_]).set _ _).length = _
    rw [List.length_set, List.length_append, List.length_append, I.len]; rfl
  · have hu : ((t.ppl ++ [(⟨0, dr, 0, none, []⟩ : Vs)]).set t.ppl.length ⟨0, th, 0, none, []⟩)[j]? = some u := hu
    have hj : j < ((t.ppl ++ [(⟨0, dr, 0, none, []⟩ : Vs)]).set t.ppl.length ⟨0, th, 0, none, []⟩).length := (List.getElem?_eq_some_iff.mp hu).1
    rw [List.length_set, List.length_append, List.length_singleton] at hj
    by_cases z : j = t.ppl.length
    · subst z
      rw [List.getElem?_set_self (by rw [List.length_append, List.length_singleton]; omega)] at hu
      cases hu
      refine ⟨0, ?_, Nat.zero_le _, hth⟩
      rw [I.len, List.getElem?_append_right (Nat.le_refl _), Nat.sub_self]; rfl
    · have hj' : j < t.ppl.length := by omega
      rw [List.getElem?_set_ne (by omega), List.getElem?_append_left hj'] at hu
      obtain ⟨k, g1, g2, g3⟩ := I.at_ j u hu
      exact ⟨k, by rw [List.getElem?_append_left (List.getElem?_eq_some_iff.mp g1).1]; exact g1, g2, g3⟩
theorem In.start (F : Facts ps rs ex dr) (pm : hs.Perm (hallOf ps rs ex dr)) : In ps rs ex hs (TF0 hs) [] ps := by
  have g := good_perm F.good pm
  refine ⟨Wf.start g, rfl, rfl, (fun j v h => by cases h), fun a => ?_, rfl, rfl⟩
  apply Option.ext
  intro m
  constructor
  · intro h
    exact pool_look g.nd (pm.mem_iff.mpr (mem_pool (look_mem h)))
  · intro h
    obtain ⟨tl0, m0, e0⟩ := List.mem_filterMap.mp (look_mem h)
    have := pool_inv e0
    subst this
    exact mem_look F.pnd (pool_mem (pm.mem_iff.mp m0))
end
structure Sd (CF CV : Addr) (M0 M : Mem) (ad : Slot → Addr) (t : TF) (pd ps : Addr) (lf : List (Str × Int)) (sp : List Nat) : Prop where
  fs : FS (RF CF CV) M ad (flT t)
  d : M pd = some (.dct (kvU U.int lf)) ∧ FP (RF CF CV) ad (flT t) pd = none
  s : M ps = some (.lst ((nats sp).map U.int)) ∧ FP (RF CF CV) ad (flT t) ps = none
  ne : pd ≠ ps
  out : ∀ b o, M0 b = some o → (M b = some o ∧ FP (RF CF CV) ad (flT t) b = none) ∧ b ≠ pd ∧ b ≠ ps
theorem off {R : Rp} {M : Mem} {ad : Slot → Addr} {f : Fl} {p : Addr} {o : O} (h : FS R M ad f) (n : FP R ad f p = none) : FS R (L3.put M p o) ad f := ⟨h.g, fun b u q => by
  have : b ≠ p := fun z => by rw [z, n] at q; cases q
  exact (put_ne this).trans (h.l b u q)⟩
theorem FP_new {R : Rp} {M : Mem} {ad : Slot → Addr} {f : Fl} {p : Addr} (h : FS R M ad f) (hp : M p = none) : FP R ad f p = none := by
  cases e : FP R ad f p with
  | none => rfl
  | some o => rw [h.l p o e] at hp; cases hp
section
variable {CF CV : Addr} {M0 M M' : Mem} {ad ad' : Slot → Addr} {t t' : TF} {pd ps p : Addr} {lf lf' : List (Str × Int)} {sp sp' : List Nat} {o : O}
theorem Sd.step (h : Sd CF CV M0 M ad t pd ps lf sp) (s : Step (RF CF CV) M ad (flT t) M' ad' (flT t')) : Sd CF CV M0 M' ad' t' pd ps lf sp :=
  ⟨s.fs, s.st.kp _ _ h.d.1 h.d.2, s.st.kp _ _ h.s.1 h.s.2, h.ne, fun b o hb => ⟨s.st.kp _ _ (h.out b o hb).1.1 (h.out b o hb).1.2, (h.out b o hb).2⟩⟩
theorem Sd.setD (h : Sd CF CV M0 M ad t pd ps lf sp) : Sd CF CV M0 (L3.put M pd (.dct (kvU U.int lf'))) ad t pd ps lf' sp :=
  ⟨off h.fs h.d.2, ⟨put_same, h.d.2⟩, ⟨(put_ne (Ne.symm h.ne)).trans h.s.1, h.s.2⟩, h.ne, fun b o hb => ⟨⟨(put_ne (h.out b o hb).2.1).trans (h.out b o hb).1.1, (h.out b o hb).1.2⟩, (h.out b o hb).2⟩⟩
theorem Sd.setS (h : Sd CF CV M0 M ad t pd ps lf sp) : Sd CF CV M0 (L3.put M ps (.lst ((nats sp').map U.int))) ad t pd ps lf sp' :=
  ⟨off h.fs h.s.2, ⟨(put_ne h.ne).trans h.d.1, h.d.2⟩, ⟨put_same, h.s.2⟩, h.ne, fun b o hb => ⟨⟨(put_ne (h.out b o hb).2.2).trans (h.out b o hb).1.1, (h.out b o hb).1.2⟩, (h.out b o hb).2⟩⟩
theorem Sd.le (h : Sd CF CV M0 M ad t pd ps lf sp) : Le M0 M := fun b o hb => (h.out b o hb).1.1
end
theorem depth_listS (ns : List Str) : (PyData.list (ns.map PyData.str)).depth ≤ 3 := by
  have h : ∀ ns : List Str, PyData.depthAll (ns.map PyData.str) ≤ 2 := fun ns => by
    induction ns with
    | nil => simp [PyData.depthAll]
    | cons n r ih => simp [PyData.depthAll, PyData.depth]; omega
  have := h ns
  simp only [PyData.depth]
  omega
theorem eqv_listS (ns : List Str) : PyData.eqv (.list (ns.map PyData.str)) (.list (ns.map PyData.str)) = true := by
  have h : ∀ ns : List Str, PyData.eqvAll (ns.map PyData.str) (ns.map PyData.str) = true := fun ns => by
    induction ns with
    | nil => simp [PyData.eqvAll]
    | cons n r ih => simp [PyData.eqvAll, PyData.eqv, ih]
  simpa [PyData.eqv] using h ns
set_option maxHeartbeats 1000000
open PySem PySem.Spec PyProof.Rows L2 L3 G1 G2 G3 G4 H N1
section
variable {P : Program} {w : World} {K : Frag} {mg : Str → Option Value} {base : Heap} {CF CV : Addr}
inductive spRight (CF CV : Addr) (us : List U) (M : Mem) (Q : U → Mem → Prop) : Prop
  | mk (ad : Slot → Addr) (t : _) (n : Nat) (v : _) (k : Nat) (pr : _) (ph : _) (pd : _) (rs : List (Bool × Str × Str)) (hs : List Tl) (lf : List (Str × Int)) : (us = [.ref (ad .fl), .int k, .ref pr, .ref ph, .ref pd, .int n]) → (FS (RF CF CV) M ad (flT t)) → (t.ppl[n]? = some v) → (t.stock.length ≤ 1000) → (M pr = some (.lst (rs.map triU))) → (k ≤ rs.length) → (rs.length ≤ 100) → ((∀ (j : Nat) (x : Bool × Str × Str), rs[j]? = some x → x.1 = false → x.2.2 ∈ heldAt rs j)) → ((∀ x ∈ rs, PyData.strOk x.2.2 = true)) → (M ph = some (.lst (hs.map tlU))) → (hs.length ≤ 1000) → (M pd = some (.dct (kvU U.int lf))) → (FP (RF CF CV) ad (flT t) pd = none) → (dueOf hs (heldAt rs k) = heldT t v) → ((lf.map (·.1)).Nodup) → ((∀ a, lf.lookup a = t.stock.lookup a)) → (Q (.bl true) M) → spRight CF CV us M Q
theorem held_len {rs : List (Bool × Str × Str)} : ∀ k : Nat, (heldAt rs k).length ≤ k := by
  intro k
  induction k with
  | zero => exact Nat.le_refl _
  | succ k ih =>
    cases e : rs[k]? with
    | none =>
      have el : heldAt rs (k + 1) = heldAt rs k := by unfold heldAt; rw [List.take_add_one, e]; simp
      rw [el]; omega
    | some x =>
      rw [heldAt_succ e]
      unfold stepH
      split
      · rw [List.length_append, List.length_singleton]; omega
      · have := List.length_erase_le (a := x.2.2) (l := heldAt rs k); omega
noncomputable def st_l_right : Stmt := top 15
theorem sc_l_right : FnScope ["_law_floor", "_law_spot", "_law_row", "_law_hall", "_law_left", "_law_number", "_law_held", "_law_told", "_law_due", "_law_found", "_law_pool"] ["_law_floor", "_law_spot", "_law_row", "_law_hall", "_law_left", "_law_number"] (defScope st_l_right) := ⟨rfl, rfl, rfl, by decide +kernel, rfl, by decide +kernel, by decide +kernel⟩
theorem c_l_right (T : Bl mg) (F : FunM K mg "_law_right" st_l_right) (c_l_whole : Cal2 P w K mg base 1 "_law_whole" ["_law_found"] spWhole) (k_held : Mt2 P w K mg base 1 CF "held" ["self", "number"] (spHeld CF CV)) (k_left : Mt2 P w K mg base 1 CF "left" ["self", "pool"] (spLeft CF CV)) : Cal2 P w K mg base 3 "_law_right" ["_law_floor", "_law_spot", "_law_row", "_law_hall", "_law_left", "_law_number"] (spRight CF CV) := by
  refine cal2 F sc_l_right (by rintro us M Q Q' kk ⟨ad, t, n, v, k, pr, ph, pd, rs, hs, lf, e, h, h1, h2, h3, h4, h5, h6, h7, h8, h9, h10, h11, h12, h13, h14, q⟩; exact ⟨ad, t, n, v, k, pr, ph, pd, rs, hs, lf, e, h, h1, h2, h3, h4, h5, h6, h7, h8, h9, h10, h11, h12, h13, h14, kk _ _ q⟩) (by rintro us M Q ⟨ad, t, n, v, k, pr, ph, pd, rs, hs, lf, e, _⟩; rw [e]; rfl) (by rintro _ _ _ _ _ _ us hl; obtain ⟨_, _, _, _, _, _, rfl⟩ := len6 hl; rfl) (hbody := fun f cdv A outer s H E hr => ?_)
  refine ⟨_, (qss_cons (qs_set (i := 6) sc_l_right.nd rfl (by first | exact Or.inl rfl | exact Or.inr rfl) (qe_lst qa_nil))
      (qss_cons (qs_for PassesOwn.never rfl (qi_seq (qe_slice l_slA (qv 2) qo_none (qo_some (qv 1)))) (qg_name (i := 7) sc_l_right.nd rfl (by first | exact Or.inl rfl | exact Or.inr rfl)) (qss_one (qs_if (qt_cmp (o_eq hr.units) (qe_ixN (n := 0) (qv 7) (fun _ _ => rfl)) qe_str (nomark _)) (qss_one (qs_expr (qe_bm PySem.F.plainAttrs_list PySem.F.slot_list_append PySem.F.type_list_append m_append (qv 6) (qa_cons (qe_ixN (n := 2) (qv 7) (fun _ _ => rfl)) qa_nil)))) (qss_one (qs_expr (qe_bm PySem.F.plainAttrs_list PySem.F.slot_list_remove PySem.F.type_list_remove (m_remove hr) (qv 6) (qa_cons (qe_ixN (n := 2) (qv 7) (fun _ _ => rfl)) qa_nil)))))))
      (qss_cons (qs_setc (i := 8) rfl sc_l_right.nd rfl rfl sw_any (qi_seq (qv 3)) (fun _ _ _ _ _ => (qg_name (i := 0) (show List.Nodup (["_law_told", "_law_held"] : List Str) by decide +kernel) rfl (by first | exact Or.inl rfl | exact Or.inr rfl))) (fun _ _ _ _ _ => (qf_one (QW.qt (qw_and (qt_cmp (o_eq hr.units) (qe_ixN (n := 0) (qv 0) (fun _ _ => rfl)) qe_str (nomark _)) (qw_and1 (qt_cmp o_in (qe_ixN (n := 1) (qv 0) (fun _ _ => rfl)) (qv 1) (by with_unfolding_all rfl))))))) (fun _ _ _ _ _ => (qe_ixN (n := 1) (qv 0) (fun _ _ => rfl))) (N := ["_law_told", "_law_held"]) (ix := [none, some 6]) (by kernel_rfl))
      (qss_cons (qs_set (i := 9) sc_l_right.nd rfl (by first | exact Or.inl rfl | exact Or.inr rfl) (qe_meth (qv 0) k_held (hr.mono (by first | decide | omega)) (qa_cons (qv 5) qa_nil)))
      (qss_cons (qs_if (QW.qt (qw_or (qt_not (qt_tru (qe_callB c_isi (by rfl) T.b_isinstance PyProof.Rows.boot_isinstance (qa_cons (qv 9) (qa_cons (qe_ty rfl T.b_list PyProof.Rows.boot_list) qa_nil))) (fun _ => rfl))) (qw_or1 (qt_cmp (o_ne hr.units) (qv 9) (qv 8) (nomark _))))) (qss_one (qs_ret qe_bl)) qss_nil)
      (qss_cons (qs_expr (qe_bm PySem.F.plainAttrs_list PySem.F.slot_list_append PySem.F.type_list_append m_append (qv 9) (qa_cons qe_str qa_nil)))
      (qss_cons (qs_forD PassesOwn.never rfl (qv 4) (qg_name (i := 10) sc_l_right.nd rfl (by first | exact Or.inl rfl | exact Or.inr rfl)) (qss_one (qs_if (QW.qt (qw_or (qt_not (qt_tru (qe_call c_l_whole (hr.mono (by first | decide | omega)) rfl (qa_cons (qe_meth (qv 0) k_left (hr.mono (by first | decide | omega)) (qa_cons (qv 10) qa_nil)) qa_nil)) (fun _ => rfl))) (qw_or1 (qt_cmp (o_ne hr.units) (qe_meth (qv 0) k_left (hr.mono (by first | decide | omega)) (qa_cons (qv 10) qa_nil)) (qe_dixF hr.units (qv 4) (qv 10) (fun _ _ => rfl)) (nomark _))))) (qss_one (qs_ret qe_bl)) qss_nil)))
      (qss_one (qs_ret (qe_cmp (o_eq hr.units) (qe_meth (qv 0) k_held (hr.mono (by first | decide | omega)) (qa_cons (qv 5) qa_nil)) (qv 8) (nomark _))))))))))), ?_⟩
  rintro us M Q cl ⟨ad, t, n, v, k, pr, ph, pd, rs, hs, lf, rfl, h, hv, hsl, hpr, hk, hrl, hold, hok, hph, hhl, hpd, hpf, hdue, hnd, hlf, q⟩
  walk_at "g"
  intro p0 h0
  walk_at "g"
  refine ⟨_, kpM hpr h0, fun p1 h1 => ?_⟩
  walk_at "g"
  refine ⟨_, put_same, ?_⟩
  have ec : cutU (rs.map triU) none (some ((k : Nat) : Int)) = (rs.take k).map triU := by rw [cut_to, List.map_take]
  rw [ec]
  obtain ⟨n10, h1M⟩ := put_none h1
  generalize hM2 : L3.put (L3.put M p0 (.lst [])) p1 (.lst ((rs.take k).map triU)) = M2
  have c1 : M2 p1 = some (.lst ((rs.take k).map triU)) := by rw [← hM2]; exact put_same
  have c0 : M2 p0 = some (.lst []) := by rw [← hM2]; exact kpM put_same h1
  have L2 : Le M M2 := by rw [← hM2]; exact (Le.new h0).trans (Le.new h1)
  clear hM2 h1
  have okH : ∀ j, ∀ y ∈ heldAt rs j, PyData.strOk y = true := fun j y hy => by
    obtain ⟨x, hx, e⟩ := held_mem j y hy
    rw [← e]; exact hok x hx
  refine Walk.inv (fun i σ M' => ∃ u, σ = [some (.ref (ad .fl)), some (.int k), some (.ref pr), some (.ref ph), some (.ref pd), some (.int n), some (.ref p0), u, none, none, none] ∧ M' = L3.put M2 p0 (.lst ((heldAt rs i).map U.str))) ⟨_, rfl, (put_id' c0).symm⟩ ?_ ?_
  · rintro i x σ M' hx ⟨u, rfl, rfl⟩
    refine ⟨(put_ne n10).trans c1, ?_⟩
    rw [List.getElem?_map] at hx
    cases et : (rs.take k)[i]? with
    | none => rw [et] at hx; cases hx
    | some y =>
      rw [et] at hx; cases hx
      have hi : i < k := by have := (List.getElem?_eq_some_iff.mp et).1; rw [List.length_take] at this; omega
      rw [List.getElem?_take_of_lt hi] at et
      have hlen := held_len (rs := rs) i
      have es := heldAt_succ et
      obtain ⟨b, a, p⟩ := y
      cases b with
      | true =>
        walk_at "g"
        refine ⟨⟨rfl, _, put_same⟩, ?_⟩
        walk_at "g"
        refine ⟨_, put_same, by rw [List.length_map]; exact small1000 (by omega), ?_⟩
        rw [put_put]
        refine ⟨_, Le.refl _, _, rfl, ?_⟩
        rw [es]
        unfold stepH
        rw [if_pos rfl, List.map_append]; rfl
      | false =>
        have hm := hold i _ et rfl
        walk_at "g"
        refine ⟨⟨rfl, _, put_same⟩, ?_⟩
        walk_at "g"
        obtain ⟨ds, d, j, r1, r2, r3, r4, r5, r6⟩ := rem_strs (M := L3.put M2 p0 (.lst ((heldAt rs i).map U.str))) (okH i) hm
        refine ⟨_, ds, d, j, put_same, r1, r2, r3, r4, r5, ?_⟩
        rw [r6, put_put]
        refine ⟨_, Le.refl _, _, rfl, ?_⟩
        rw [es]; rfl
  · rintro σ M' ⟨u, rfl, rfl⟩
    refine ⟨(put_ne n10).trans c1, ?_⟩
    rw [List.length_map, List.length_take, Nat.min_eq_left hk]
    have L3' : Le M (L3.put M2 p0 (.lst ((heldAt rs k).map U.str))) := L2.put h0
    have c2 : L3.put M2 p0 (.lst ((heldAt rs k).map U.str)) p0 = some (.lst ((heldAt rs k).map U.str)) := put_same
    generalize L3.put M2 p0 (.lst ((heldAt rs k).map U.str)) = M3 at L3' c2 ⊢
    walk_at "g"
    refine ⟨_, L3' _ _ hph, ?_⟩
    refine Comp.pure hs tlU (fun tl => decide (sortOf tl = "pool") && decide (tl.name ∈ heldAt rs k)) (fun tl => U.str tl.name) (fun σ => ∃ u, σ = [u, some (.ref p0)]) rfl ⟨_, rfl⟩ (by rw [sizeLine_eq]; omega) (fun M' l => l _ _ (L3' _ _ hph)) ?_ fun p2 h2 => ?_
    · rintro tl htl σ ⟨u, rfl⟩ Y N yes no
      rw [tlU_eq]
      walk_at "g"
      refine bE2 (fun c => ?_) (fun c => ?_)
      · walk_at "g"
        refine ⟨_, c2, ?_⟩
        walk_at "g"
        refine bE2 (fun c' => ?_) (fun c' => ?_)
        · have c' : decide (tl.name ∈ heldAt rs k) = true := c'
          walk_at "g"
          exact yes (by rw [c, c']; rfl) _ _ ⟨_, rfl⟩ (Le.refl _)
        · have c' : decide (tl.name ∈ heldAt rs k) = false := c'
          exact no (by rw [c']; simp) _ _ ⟨_, rfl⟩ (Le.refl _)
      · exact no (by rw [c]; rfl) _ _ ⟨_, rfl⟩ (Le.refl _)
    have e2 : ((hs.filter fun tl => decide (sortOf tl = "pool") && decide (tl.name ∈ heldAt rs k)).map fun tl => U.str tl.name) = (heldT t v).map U.str := by
      rw [← hdue]; unfold dueOf; rw [List.map_map]; rfl
    rw [e2]
    have okD : ∀ y ∈ heldT t v, PyData.strOk y = true := fun y hy => by
      rw [← hdue, due_eq] at hy
      exact okH k y (of_decide_eq_true (List.mem_filter.mp hy).2)
    have L4 := L3'.trans (Le.new (o := .lst ((heldT t v).map U.str)) h2)
    have f4 := h.le L4
    have d4 : L3.put M3 p2 (.lst ((heldT t v).map U.str)) p2 = some (.lst ((heldT t v).map U.str)) := put_same
    generalize L3.put M3 p2 (.lst ((heldT t v).map U.str)) = M4 at L4 f4 d4 ⊢
    clear L3' c2
    walk_at "go"
    refine ⟨ad, t, n, v, rfl, f4, hv, hsl, fun p3 h3 => ?_⟩
    walk_at "g"
    refine ⟨_, put_same, ?_⟩
    walk_at "g"
    have dp := depth_listS (heldT t v)
    refine ⟨_, _, .lst put_same (DatAll.strs _ okD), .lst (kpM d4 h3) (DatAll.strs _ okD), by omega, ?_⟩
    walk_at "g"
    refine bEf (by rw [eqv_listS]; rfl) ?_
    walk_at "g"
    refine ⟨⟨rfl, _, put_same⟩, ?_⟩
    walk_at "g"
    refine ⟨_, put_same, by rw [List.length_map]; exact small1000 (by unfold heldT; have := List.length_filter_le (fun p => decide (p ∈ v.things)) (t.stock.map Prod.fst); rw [List.length_map] at this; omega), ?_⟩
    rw [put_put]
    have L5 := L4.trans (Le.new (o := .lst ((heldT t v).map U.str ++ [.str "more"])) h3)
    have d5 : L3.put M4 p3 (.lst ((heldT t v).map U.str ++ [.str "more"])) p2 = some (.lst ((heldT t v).map U.str)) := kpM d4 h3
    generalize L3.put M4 p3 (.lst ((heldT t v).map U.str ++ [.str "more"])) = M5 at L5 d5 ⊢
    have f5 := h.le L5
    clear L4 f4 d4
    walk_at "g"
    refine ⟨_, L5 _ _ hpd, fun ob => ?_⟩
    have f6 : FS (RF CF CV) (L3.put M5 pd (.fdc ob (kvU U.int lf))) ad (flT t) := off f5 hpf
    refine Walk.inv (fun i σ M' => ∃ u, σ = [some (.ref (ad .fl)), some (.int k), some (.ref pr), some (.ref ph), some (.ref pd), some (.int n), some (.ref p0), _, some (.ref p2), some (.ref p3), u] ∧ M' = L3.put M5 pd (.fdc ob (kvU U.int lf))) ⟨_, rfl, rfl⟩ ?_ ?_
    · rintro i x σ M' hx ⟨u, rfl, rfl⟩
      refine ⟨put_same, ?_⟩
      have hx : ((kvU U.int lf).map fun p => kU p.1)[i]? = some x := hx
      unfold kvU at hx
      rw [List.map_map, List.getElem?_map] at hx
      cases et : lf[i]? with
      | none => rw [et] at hx; cases hx
      | some y =>
        rw [et] at hx; cases hx
        obtain ⟨a, m⟩ := y
        have hm : lf.lookup a = some m := mem_look hnd (List.mem_of_getElem? et)
        have hm2 : t.stock.lookup a = some m := by rw [← hlf]; exact hm
        walk_at "go"
        refine ⟨ad, t, a, m, rfl, f6, hm2, ?_⟩
        walk_at "g"
        refine ⟨m, rfl, ?_⟩
        walk_at "go"
        refine ⟨ad, t, a, m, rfl, f6, hm2, ?_⟩
        walk_at "g"
        refine ⟨_, _, put_same, oE_some (valU_kv hm) ?_⟩
        walk_at "g"
        refine bEf (by simp) ?_
        exact ⟨_, Le.refl _, _, rfl, rfl⟩
    · rintro σ M' ⟨u, rfl, rfl⟩
      refine ⟨put_same, put_same, ?_⟩
      rw [put_put, put_id' (L5 _ _ hpd)]
      walk_at "go"
      refine ⟨ad, t, n, v, rfl, f5, hv, hsl, fun p4 h4 => ?_⟩
      walk_at "g"
      refine ⟨_, _, .lst put_same (DatAll.strs _ okD), .lst (kpM d5 h4) (DatAll.strs _ okD), by omega, ?_⟩
      rw [eqv_listS]
      exact cl _ M _ (L5.trans (Le.new h4)) q
end
set_option maxHeartbeats 1000000
open PySem PySem.Spec PyProof.Rows L2 L3 G1 G2 G3 G4 H N1
section
variable {P : Program} {w : World} {K : Frag} {mg : Str → Option Value} {base : Heap} {CF CV : Addr}
inductive LI (CF CV : Addr) (M0 : Mem) (fr : List (Option U)) (fl pd psp : Addr) (ps : List (Str × Int)) (rs : List (Bool × Str × Str)) (ex : Str) (hs : List Tl) (m : Nat) (σ : List (Option U)) (M' : Mem) : Prop
  | mk (ad : Slot → Addr) (t : TF) (sp : List Nat) (lf : List (Str × Int)) (v11 v12 v13 v14 v15 v16 : Option U) : σ = fr ++ [v11, v12, v13, v14, v15, v16] → ad .fl = fl → Sd CF CV M0 M' ad t pd psp lf sp → In ps rs ex hs t sp lf → sp.length = m → LI CF CV M0 fr fl pd psp ps rs ex hs m σ M'
theorem ixN_nat {n i : Nat} (h : i < n) : ixN n (i : Int) = some i := by
  unfold ixN
  rw [if_pos (by omega), if_pos (by omega)]
  simp
theorem nats_get {sp : List Nat} {j k : Nat} (h : sp[j]? = some k) : atI ((nats sp).map U.int) (j : Int) = some (.int k) := by
  refine atI_nat ?_
  unfold nats
  rw [List.map_map, List.getElem?_map, h]; rfl
theorem nats_set {sp : List Nat} {j k : Nat} : ((nats sp).map U.int).set j (.int ((k : Int) + 1)) = (nats (sp.set j (k + 1))).map U.int := by
  unfold nats
  rw [List.map_map, List.map_map, List.map_set]; rfl
theorem tri_get {rs : List (Bool × Str × Str)} {k : Nat} {x : Bool × Str × Str} (h : rs[k]? = some x) : atI (rs.map triU) (k : Int) = some (triU x) := by
  refine atI_nat ?_
  rw [List.getElem?_map, h]; rfl
theorem path_getU {xs : List Str} {k : Nat} (h : k < xs.length) : atI (xs.map U.str) (k : Int) = some (.str (xs.getD k Str.empty)) := by
  refine atI_nat ?_
  rw [List.getElem?_map, List.getElem?_eq_getElem h, List.getD_eq_getElem?_getD, List.getElem?_eq_getElem h]; rfl
theorem pick_give {a p : Str} : atI [U.int 1, U.int (-1)] (if decide ((if ((false, a, p) : Bool × Str × Str).fst = true then ("lend" : Str) else "give") = "lend") = true then 1 else 0) = some (.int 1) := by
  have e : (if decide ((if false = true then ("lend" : Str) else "give") = "lend") = true then (1 : Int) else 0) = 0 := by decide +kernel
  show atI _ (if decide ((if false = true then ("lend" : Str) else "give") = "lend") = true then (1 : Int) else 0) = _
  rw [e]; rfl
theorem pick_lend {a p : Str} : atI [U.int 1, U.int (-1)] (if decide ((if ((true, a, p) : Bool × Str × Str).fst = true then ("lend" : Str) else "give") = "lend") = true then 1 else 0) = some (.int (-1)) := by
  have e : (if decide ((if true = true then ("lend" : Str) else "give") = "lend") = true then (1 : Int) else 0) = 1 := by decide +kernel
  show atI _ (if decide ((if true = true then ("lend" : Str) else "give") = "lend") = true then (1 : Int) else 0) = _
  rw [e]; rfl
set_option hygiene false
local macro_rules | `(tactic| walk_at "mv") => `(tactic| (
  refine ⟨_, sd.d.1, oE_some (valU_kv hm) ?_⟩
  walk_at "g"
  intro pl hpl
  walk_at "g"
  refine oE_some hix ⟨put_same, M', Le.new hpl, ?_⟩
  walk_at "g"
  refine ⟨_, sd.d.1, by unfold kvU; rw [List.length_map]; omega, ?_⟩
  rw [← edl, putD_kv]
  have sd1 := sd.setD (lf' := putL lf p dl)
  generalize L3.put M' pd (.dct (kvU U.int (putL lf p dl))) = M1 at sd1 ⊢
  walk_at "g"
  refine ⟨_, sd1.s.1, by omega, oE_some (nats_get hk') ?_⟩
  walk_at "g"
  refine ⟨_, j, sd1.s.1, by rw [hsz]; exact ixN_nat hj, ?_⟩
  rw [nats_set]
  have sd2 := sd1.setS (sp' := sp.set j (k' + 1))
  generalize L3.put M1 psp (.lst ((nats (sp.set j (k' + 1))).map U.int)) = M2 at sd2 ⊢
  clear sd1
  have f2 := sd2.fs
  walk_at "go"
  refine ⟨ad, t, j, _, v, _, rfl, f2, hv, htl, okm, fun M3 st3 => ?_⟩
  have sd3 := sd2.step st3
  clear st3 sd2 f2
  rw [ww]
  have hk2 : (sp.set j (k' + 1))[j]? = some (k' + 1) := List.getElem?_set_self (by omega)
  walk_at "g"
  refine ⟨_, sd3.s.1, oE_some (nats_get hk2) ?_⟩
  walk_at "g"
  refine ⟨_, (sd3.out _ _ haA).1.1, oE_some (path_getU (k := k' + 1) (by rw [path_len]; omega)) ?_⟩
  walk_at "g"
  have hd : ∀ M, Dat M (.tup [.str "enters", .str ((pathOf rs ex).getD (k' + 1) Str.empty)]) (.tuple [.str "enters", .str ((pathOf rs ex).getD (k' + 1) Str.empty)]) := fun M => .tup (.cons (.str _ (by decide +kernel)) (.cons (.str _ (okp _ (by rw [List.getD_eq_getElem?_getD, List.getElem?_eq_getElem (by rw [path_len]; omega)]; exact List.getElem_mem _))) .nil))
  refine ⟨_, _, hd _, hd _, Nat.le_trans (Nat.min_le_left _ _) (by simp [PyData.depth, PyData.depthAll]), ?_⟩
  walk_at "g"
  refine bEf (by simp [PyData.eqv, PyData.eqvAll]) ?_
  walk_at "g"
  refine ⟨_, sd3.s.1, oE_some (nats_get hk2) ?_⟩
  walk_at "g"
  obtain ⟨v2, hv2⟩ := I2.vis hk2
  have f3 := sd3.fs
  refine ⟨ad, _, j, v2, k' + 1, pr, z3, pd, rs, hs, _, rfl, f3, hv2, I2.wf.sl, (sd3.out _ _ hrA).1.1, by omega, by omega, F8.hold, fun x hx => (okr x hx).2, (sd3.out _ _ hhA).1.1, hsl, sd3.d.1, sd3.d.2, I2.held F8.nd hv2 hk2, by rw [I2.lk]; exact F8.pnd, I2.stk, ?_⟩
  walk_at "g"
  exact ⟨_, Le.refl _, ad, _, _, _, _, _, _, _, _, _, rfl, rfl, sd3, I2, by rw [List.length_set]; exact hl⟩))
set_option hygiene true
theorem path_getN {xs : List Str} {k : Nat} (h : k < xs.length) : (xs.map U.str)[k]? = some (.str (xs.getD k Str.empty)) := by
  rw [List.getElem?_map, List.getElem?_eq_getElem h, List.getD_eq_getElem?_getD, List.getElem?_eq_getElem h]; rfl
noncomputable def spLaw : Sp2 := fun us M Q => ∃ ns : List Int, us = [.fl (ns.map U.int)] ∧ ns.length ≤ 63 ∧ Q (.bl true) M
noncomputable def st_law : Stmt := top 16
theorem sc_law : FnScope ["_law_script", "_law_names_here", "_law_cell", "_law_pools", "_law_row", "_law_path", "_law_hall", "_law_at", "_law_floor", "_law_left", "_law_spots", "_law_k", "_law_mixed_here", "_law_number", "_law_told", "_law_due", "_law_found"] ["_law_script"] (defScope st_law) := ⟨rfl, rfl, rfl, by decide +kernel, rfl, by decide +kernel, by decide +kernel⟩
theorem ok_law {f : Addr} {fd : FuncData} (T : Bl mg) (F : Fun K "law" "law" st_law f fd) (c_l_cell_at : Cal2 P w K mg base 1 "_law_cell_at" ["_law_script", "_law_k"] spCellAt) (c_l_mixed : Cal2 P w K mg base 1 "_law_mixed" ["_law_cell", "_law_k"] spMixed) (c_l_names : Cal2 P w K mg base 1 "_law_names" ["_law_cell"] spNames)
    (c_l_built : Cal2 P w K mg base 1 "_law_built" ["_law_names_here", "_law_cell"] spBuilt) (c_l_right : Cal2 P w K mg base 3 "_law_right" ["_law_floor", "_law_spot", "_law_row", "_law_hall", "_law_left", "_law_number"] (spRight CF CV))
    (m_Floor : Mk2 P w K mg base 13 "Floor" CF ["self", "hall"] (spFloor CF CV)) (k_come : Mt2 P w K mg base 3 CF "come" ["self", "name", "turn"] (spCome CF CV)) (k_can : Mt2 P w K mg base 5 CF "can" ["self", "number", "turn"] (spCan CF CV)) (k_move : Mt2 P w K mg base 5 CF "move" ["self", "number", "turn"] (spMove CF CV)) : FnOk P w K mg base CX0 15 f fd ["_law_script"] (liftSp K spLaw) := by
  refine fn2 F sc_law (by rintro us M Q ⟨ns, e, _⟩; rw [e]; rfl) (hbody := fun cdv A outer s H E hr => ?_)
  refine ⟨_, (qss_cons (qs_set (i := 1) sc_law.nd rfl (by first | exact Or.inl rfl | exact Or.inr rfl) (qe_call c_l_names (hr.mono (by first | decide | omega)) rfl (qa_cons (qe_call c_l_mixed (hr.mono (by first | decide | omega)) rfl (qa_cons (qe_call c_l_cell_at (hr.mono (by first | decide | omega)) rfl (qa_cons (qv 0) (qa_cons qe_int qa_nil))) (qa_cons qe_int qa_nil))) qa_nil)))
      (qss_cons (qs_set (i := 2) sc_law.nd rfl (by first | exact Or.inl rfl | exact Or.inr rfl) (qe_call c_l_mixed (hr.mono (by first | decide | omega)) rfl (qa_cons (qe_call c_l_cell_at (hr.mono (by first | decide | omega)) rfl (qa_cons (qv 0) (qa_cons qe_int qa_nil))) (qa_cons qe_int qa_nil))))
      (qss_cons (qs_asg (qe_call c_l_built (hr.mono (by first | decide | omega)) rfl (qa_cons (qv 1) (qa_cons (qv 2) qa_nil))) (qg_tup (n := 2) rfl (qgs_cons (qg_name (i := 3) sc_law.nd rfl (by first | exact Or.inl rfl | exact Or.inr rfl)) (qgs_cons (qg_name (i := 4) sc_law.nd rfl (by first | exact Or.inl rfl | exact Or.inr rfl)) qgs_nil))))
      (qss_cons (qs_set (i := 5) sc_law.nd rfl (by first | exact Or.inl rfl | exact Or.inr rfl) (qe_op o_add (qe_comp rfl (qi_seq (qv 4)) (fun _ _ _ _ _ => (qg_name (i := 0) (show List.Nodup (["_law_told"] : List Str) by decide +kernel) rfl (by first | exact Or.inl rfl | exact Or.inr rfl))) (fun _ _ _ _ _ => qf_nil) (fun _ _ _ _ _ => (qe_ixN (n := 1) (qv 0) (fun _ _ => rfl))) (N := ["_law_told"]) (ix := [none]) (by kernel_rfl)) (qe_lst (qa_cons (qe_ixN (n := 2) (qv 1) (fun _ _ => rfl)) qa_nil))))
      (qss_cons (qs_set (i := 6) sc_law.nd rfl (by first | exact Or.inl rfl | exact Or.inr rfl) (qe_op o_add (qe_comp rfl (qi_range1 rfl T.b_range (qa_cons (qe_callB c_len (by rfl) T.b_len PySem.boot_len (qa_cons (qv 4) qa_nil)) qa_nil)) (fun _ _ _ _ _ => (qg_name (i := 0) (show List.Nodup (["_law_k", "_law_row", "_law_path"] : List Str) by decide +kernel) rfl (by first | exact Or.inl rfl | exact Or.inr rfl))) (fun _ _ _ _ _ => qf_nil) (fun _ _ _ _ _ => (qe_op o_add (qe_ix x_ix (qv 1) (qv 0) (fun _ _ => rfl)) (qe_tup (qa_cons (qe_ix x_ix (qv 2) (qe_op o_add (qv 0) qe_int) (fun _ _ => rfl)) qa_nil)))) (N := ["_law_k", "_law_row", "_law_path"]) (ix := [none, some 4, some 5]) (by kernel_rfl)) (qe_lst (qa_cons (qe_tup (qa_cons qe_str (qa_cons (qe_ixN (n := 2) (qv 1) (fun _ _ => rfl)) qa_nil))) qa_nil))))
      (qss_cons (qs_set (i := 6) sc_law.nd rfl (by first | exact Or.inl rfl | exact Or.inr rfl) (qe_op o_add (qe_op o_add (qv 6) (qv 3)) (qe_lst (qa_cons (qe_tup (qa_cons qe_str (qa_cons (qe_ixN (n := 7) (qv 1) (fun _ _ => rfl)) (qa_cons qe_int (qa_cons (qe_tup (qa_cons qe_str (qa_cons (qe_tup (qa_cons qe_int qa_nil)) qa_nil))) (qa_cons (qe_ixN (n := 0) (qv 5) (fun _ _ => rfl)) qa_nil)))))) qa_nil))))
      (qss_cons (qs_set (i := 7) sc_law.nd rfl (by first | exact Or.inl rfl | exact Or.inr rfl) (qe_op o_mod (qe_op o_fdiv (qv 2) qe_int) (qe_callB c_len (by rfl) T.b_len PySem.boot_len (qa_cons (qv 6) qa_nil))))
      (qss_cons (qs_set (i := 6) sc_law.nd rfl (by first | exact Or.inl rfl | exact Or.inr rfl) (qe_op o_add (qe_slice l_slA (qv 6) (qo_some (qv 7)) qo_none) (qe_slice l_slA (qv 6) qo_none (qo_some (qv 7)))))
      (qss_cons (qs_set (i := 8) sc_law.nd rfl (by first | exact Or.inl rfl | exact Or.inr rfl) (qe_make m_Floor (hr.mono (by first | decide | omega)) rfl (qa_cons (qv 6) qa_nil)))
      (qss_cons (qs_set (i := 9) sc_law.nd rfl (by first | exact Or.inl rfl | exact Or.inr rfl) (qe_callTy (c_dictP rfl) (by rfl) T.b_dict PyProof.Rows.boot_dict (qa_cons (qe_comp rfl (qi_seq (qv 3)) (fun _ _ _ _ _ => (qg_name (i := 0) (show List.Nodup (["_law_pool"] : List Str) by decide +kernel) rfl (by first | exact Or.inl rfl | exact Or.inr rfl))) (fun _ _ _ _ _ => qf_nil) (fun _ _ _ _ _ => (qe_tup (qa_cons (qe_ixN (n := 1) (qv 0) (fun _ _ => rfl)) (qa_cons (qe_ixN (n := 2) (qv 0) (fun _ _ => rfl)) qa_nil)))) (N := ["_law_pool"]) (ix := [none]) (by kernel_rfl)) qa_nil)))
      (qss_cons (qs_set (i := 10) sc_law.nd rfl (by first | exact Or.inl rfl | exact Or.inr rfl) (qe_lst qa_nil))
      (qss_cons (qs_for PassesOwn.never rfl (qi_range1 rfl T.b_range (qa_cons (qe_op o_add qe_int (qe_op o_mod (qe_op o_fdiv (qv 2) qe_int) qe_int)) qa_nil)) (qg_name (i := 11) sc_law.nd rfl (by first | exact Or.inl rfl | exact Or.inr rfl)) (qss_cons (qs_expr (qe_bm PySem.F.plainAttrs_list PySem.F.slot_list_append PySem.F.type_list_append m_append (qv 10) (qa_cons qe_int qa_nil)))
      (qss_one (qs_if (QW.qt (qw_or (qt_cmp (o_ne hr.units) (qe_meth (qv 8) k_come (hr.mono (by first | decide | omega)) (qa_cons (qe_ixN (n := 7) (qv 1) (fun _ _ => rfl)) (qa_cons qe_int qa_nil))) (qv 11) (nomark _)) (qw_or1 (qt_cmp (o_ne hr.units) (qe_meth (qv 8) k_move (hr.mono (by first | decide | omega)) (qa_cons (qv 11) (qa_cons qe_int qa_nil))) (qe_tup (qa_cons qe_str (qa_cons (qe_ixN (n := 0) (qv 5) (fun _ _ => rfl)) qa_nil))) (nomark _))))) (qss_one (qs_ret qe_bl)) qss_nil))))
      (qss_cons (qs_for PassesOwn.never rfl (qi_range1 rfl T.b_range (qa_cons qe_int qa_nil)) (qg_name (i := 11) sc_law.nd rfl (by first | exact Or.inl rfl | exact Or.inr rfl)) (qss_cons (qs_set (i := 12) sc_law.nd rfl (by first | exact Or.inl rfl | exact Or.inr rfl) (qe_call c_l_mixed (hr.mono (by first | decide | omega)) rfl (qa_cons (qe_call c_l_cell_at (hr.mono (by first | decide | omega)) rfl (qa_cons (qv 0) (qa_cons (qe_op o_add qe_int (qe_op o_mod (qv 11) qe_int)) qa_nil))) (qa_cons (qv 11) qa_nil))))
      (qss_cons (qs_set (i := 13) sc_law.nd rfl (by first | exact Or.inl rfl | exact Or.inr rfl) (qe_op o_mod (qv 12) (qe_callB c_len (by rfl) T.b_len PySem.boot_len (qa_cons (qv 10) qa_nil))))
      (qss_cons (qs_if (qt_cmp (o_eq hr.units) (qe_ix x_ix (qv 10) (qv 13) (fun _ _ => rfl)) (qe_callB c_len (by rfl) T.b_len PySem.boot_len (qa_cons (qv 4) qa_nil)) (nomark _)) (qss_cons (qs_if (qt_cmp o_isNotB (qe_meth (qv 8) k_can (hr.mono (by first | decide | omega)) (qa_cons (qv 13) (qa_cons (qv 11) qa_nil))) qe_bl (nomark _)) (qss_one (qs_ret qe_bl)) qss_nil)
      (qss_one qs_continue)) qss_nil)
      (qss_cons (qs_set (i := 14) sc_law.nd rfl (by first | exact Or.inl rfl | exact Or.inr rfl) (qe_ix x_ix (qv 4) (qe_ix x_ix (qv 10) (qv 13) (fun _ _ => rfl)) (fun _ _ => rfl)))
      (qss_cons (qs_set (i := 15) sc_law.nd rfl (by first | exact Or.inl rfl | exact Or.inr rfl) (qe_or (qe_cmp (o_eq hr.units) (qe_ixN (n := 0) (qv 14) (fun _ _ => rfl)) qe_str (nomark _)) (qe_one (qe_cmp o_gt (qe_dix hr.units (qv 9) (qe_ixN (n := 2) (qv 14) (fun _ _ => rfl)) (fun _ _ => rfl)) qe_int (nomark _)))))
      (qss_cons (qs_set (i := 16) sc_law.nd rfl (by first | exact Or.inl rfl | exact Or.inr rfl) (qe_meth (qv 8) k_can (hr.mono (by first | decide | omega)) (qa_cons (qv 13) (qa_cons (qv 11) qa_nil))))
      (qss_cons (qs_if (QW.qt (qw_or (qt_not (qt_tru (qe_callB c_isi (by rfl) T.b_isinstance PyProof.Rows.boot_isinstance (qa_cons (qv 16) (qa_cons (qe_ty rfl T.b_bool PyProof.Rows.boot_bool) qa_nil))) (fun _ => rfl))) (qw_or1 (qt_cmp (o_ne hr.units) (qv 16) (qv 15) (nomark _))))) (qss_one (qs_ret qe_bl)) qss_nil)
      (qss_cons (qs_if (qt_tru (qv 15) (fun _ => rfl)) (qss_cons (qs_daug hr.units (qv 9) (qe_ixN (n := 2) (qv 14) (fun _ _ => rfl)) (qe_pick (qa_cons qe_int (qa_cons (qe_un u_neg qe_int) qa_nil)) (qe_callTy c_int (by rfl) T.b_int PyProof.Rows.boot_int (qa_cons (qe_cmp (o_eq hr.units) (qe_ixN (n := 0) (qv 14) (fun _ _ => rfl)) qe_str (nomark _)) qa_nil)) (fun _ _ => rfl)) i_add)
      (qss_cons (qs_laug (qv 10) (qv 13) qe_int i_add)
      (qss_one (qs_if (qt_cmp (o_ne hr.units) (qe_meth (qv 8) k_move (hr.mono (by first | decide | omega)) (qa_cons (qv 13) (qa_cons (qv 11) qa_nil))) (qe_tup (qa_cons qe_str (qa_cons (qe_ix x_ix (qv 5) (qe_ix x_ix (qv 10) (qv 13) (fun _ _ => rfl)) (fun _ _ => rfl)) qa_nil))) (nomark _)) (qss_one (qs_ret qe_bl)) qss_nil)))) qss_nil)
      (qss_one (qs_if (qt_not (qt_tru (qe_call c_l_right (hr.mono (by first | decide | omega)) rfl (qa_cons (qv 8) (qa_cons (qe_ix x_ix (qv 10) (qv 13) (fun _ _ => rfl)) (qa_cons (qv 4) (qa_cons (qv 6) (qa_cons (qv 9) (qa_cons (qv 13) qa_nil))))))) (fun _ => rfl))) (qss_one (qs_ret qe_bl)) qss_nil)))))))))))
      (qss_one (qs_ret qe_bl))))))))))))))), ?_⟩
  rintro us M Q cl ⟨ns, rfl, h63, q⟩
  walk_at "g"
  refine ⟨ns, _, rfl, by omega, ?_⟩
  walk_at "g"
  refine ⟨_, _, rfl, by omega, by omega, ?_⟩
  walk_at "g"
  refine ⟨_, rfl, mixed_nn _ _, fun pn nms hpn hnm => ?_⟩
  walk_at "g"
  refine ⟨ns, _, rfl, by omega, ?_⟩
  walk_at "g"
  refine ⟨_, _, rfl, by omega, by omega, ?_⟩
  generalize hc : mixed (cellAt ns 0) 2 = c
  have c0 : 0 ≤ c := by rw [← hc]; exact mixed_nn _ _
  clear hc
  walk_at "g"
  obtain ⟨n0, n1, ex, n3, n4, n5, n6, dr, tl, rfl⟩ : ∃ n0 n1 n2 n3 n4 n5 n6 n7 tl, nms = n0 :: n1 :: n2 :: n3 :: n4 :: n5 :: n6 :: n7 :: tl := by
    have hl := hnm.len
    rcases nms with _ | ⟨n0, _ | ⟨n1, _ | ⟨n2, _ | ⟨n3, _ | ⟨n4, _ | ⟨n5, _ | ⟨n6, _ | ⟨n7, tl⟩⟩⟩⟩⟩⟩⟩⟩ <;> first | (simp at hl; done) | exact ⟨n0, n1, n2, n3, n4, n5, n6, n7, tl, rfl⟩
  refine ⟨pn, n0, n1, ex, n3, n4, n5, n6, dr :: tl, c, rfl, c0, put_same, fun M1 pp pr ps rs vr L1 hpp hpr => ?_⟩
  have sub8 : [n0, n1, ex, n3, n4, n5, n6, dr].Sublist (n0 :: n1 :: ex :: n3 :: n4 :: n5 :: n6 :: dr :: tl) := by simp
  have hnd8 : [n0, n1, ex, n3, n4, n5, n6, dr].Nodup := hnm.nd.sublist sub8
  have F8 := facts vr hnd8
  have okn : ∀ x ∈ [n0, n1, ex, n3, n4, n5, n6, dr], PyData.strOk x = true := fun x hx => (hnm.ok x (sub8.subset hx)).1
  have okr : ∀ x ∈ rs, PyData.strOk x.2.1 = true ∧ PyData.strOk x.2.2 = true := by
    cases vr <;> (intro x hx; simp only [List.mem_cons, List.not_mem_nil, or_false] at hx; rcases hx with rfl | rfl | rfl | rfl <;> exact ⟨okn _ (by simp), okn _ (by simp)⟩)
  have okp : ∀ x ∈ pathOf rs ex, PyData.strOk x = true := fun x hx => by
    unfold pathOf at hx
    rcases List.mem_append.mp hx with z | z
    · obtain ⟨y, hy, rfl⟩ := List.mem_map.mp z
      exact (okr y hy).1
    · rw [List.mem_singleton.mp z]; exact okn _ (by simp)
  have hn1 : M1 pn = some (.lst ((n0 :: n1 :: ex :: n3 :: n4 :: n5 :: n6 :: dr :: tl).map U.str)) := L1 _ _ put_same
  have LM1 : Le M M1 := (Le.new hpn).trans L1
  have hrl : rs.length = 2 ∨ rs.length = 4 := F8.rl
  have hpl := F8.pl
  clear L1 hpn hnm vr sub8
  walk_at "g"
  refine ⟨_, hpr, ?_⟩
  refine Comp.mapped rs triU (fun x => .str x.2.1) (fun σ => ∃ u, σ = [u]) rfl ⟨_, rfl⟩ (by rw [sizeLine_eq]; omega) (fun M' l => l _ _ hpr) ?_ fun q1 g1 => ?_
  · rintro ⟨b, a, p⟩ hx σ ⟨u, rfl⟩ Y yes N
    walk_at "g"
    exact yes _ _ ⟨_, rfl⟩ (Le.refl _)
  walk_at "g"
  refine ⟨_, kpM hn1 g1, oE_some rfl ?_⟩
  walk_at "g"
  intro q2 g2
  walk_at "g"
  refine ⟨_, _, kpM put_same g2, put_same, by rw [List.length_map, sizeLine_eq, List.length_singleton]; omega, fun q3 g3 => ?_⟩
  have ep : (rs.map (fun x : Bool × Str × Str => U.str x.2.1) ++ [U.str ex]) = (pathOf rs ex).map U.str := by unfold pathOf; rw [List.map_append, List.map_map]; rfl
  rw [ep]
  have L3' := ((LM1.trans (Le.new g1)).trans (Le.new g2)).trans (Le.new (o := .lst ((pathOf rs ex).map U.str)) g3)
  have hn3 := kpM (u := .lst ((pathOf rs ex).map U.str)) (kpM (kpM hn1 g1) g2) g3
  have hr3 := kpM (u := .lst ((pathOf rs ex).map U.str)) (kpM (kpM hpr g1) g2) g3
  have hp3 := kpM (u := .lst ((pathOf rs ex).map U.str)) (kpM (kpM hpp g1) g2) g3
  have ha3 : L3.put _ q3 (.lst ((pathOf rs ex).map U.str)) q3 = some _ := put_same (M := L3.put (L3.put M1 q1 (.lst (rs.map (fun x : Bool × Str × Str => U.str x.2.1)))) q2 (.lst [U.str ex]))
  generalize L3.put _ q3 (.lst ((pathOf rs ex).map U.str)) = M3 at L3' hn3 hr3 hp3 ha3 ⊢
  clear g1 g2 g3 hn1 hpr hpp LM1
  walk_at "g"
  refine ⟨_, hr3, ?_⟩
  walk_at "w"
  rw [List.length_map]
  refine ⟨by omega, by omega, ?_⟩
  walk_at "w"
  rw [Int.toNat_natCast, rngU_map]
  refine Comp.mapped (List.range rs.length) (fun i : Nat => U.int (0 + (i : Int))) (fun i => tlU (tlOf rs ex i)) (fun σ => ∃ u, σ = [u, some (.ref pr), some (.ref q3)]) (by simp) ⟨_, rfl⟩ (by rw [List.length_range, sizeLine_eq]; omega) (fun M' l => trivial) ?_ fun q4 g4 => ?_
  · rintro i hi σ ⟨u, rfl⟩ Y yes N
    have hi := List.mem_range.mp hi
    obtain ⟨⟨b, a, p⟩, hx⟩ : ∃ x, rs[i]? = some x := ⟨_, List.getElem?_eq_getElem hi⟩
    have y := yes [some (.int (0 + (i : Int))), some (.ref pr), some (.ref q3)] M3 ⟨_, rfl⟩ (Le.refl _)
    rw [tl_at hx] at y
    rw [Int.zero_add] at y ⊢
    walk_at "g"
    refine ⟨_, hr3, oE_some (tri_get hx) ?_⟩
    walk_at "g"
    refine ⟨_, ha3, oE_some (path_getU (k := i + 1) (by rw [path_len]; omega)) ?_⟩
    walk_at "g"
    refine ⟨List.cons_ne_nil _ _, by rw [sizeLine_eq]; exact Nat.le_of_ble_eq_true rfl, ?_⟩
    cases b <;> exact y
  walk_at "g"
  refine ⟨_, kpM hn3 g4, oE_some rfl ?_⟩
  walk_at "g"
  intro q5 g5
  walk_at "g"
  refine ⟨_, _, kpM put_same g5, put_same, by rw [List.length_map, List.length_range, sizeLine_eq, List.length_singleton]; omega, fun q6 g6 => ?_⟩
  walk_at "g"
  refine ⟨_, _, put_same, kpM (kpM (kpM hp3 g4) g5) g6, by simp only [List.length_append, List.length_map, List.length_range, List.length_singleton, sizeLine_eq]; omega, fun q7 g7 => ?_⟩
  walk_at "g"
  refine ⟨_, kpM (kpM (kpM (kpM hn3 g4) g5) g6) g7, oE_some rfl ?_⟩
  walk_at "g"
  refine ⟨_, kpM (kpM (kpM (kpM ha3 g4) g5) g6) g7, oE_some (path_getN (k := 0) (by rw [path_len]; omega)) ?_⟩
  walk_at "g"
  intro q8 g8
  walk_at "g"
  refine ⟨_, _, kpM put_same g8, put_same, by simp only [List.length_append, List.length_map, List.length_range, List.length_singleton, sizeLine_eq]; omega, fun q9 g9 => ?_⟩
  walk_at "g"
  have eH : ((List.range rs.length).map (fun i => tlU (tlOf rs ex i)) ++ [U.tup [.str "exit", .str ex]] ++ ps.map poolU ++ [U.tup [.str "door", .str dr, .int 0, .tup [.str "at", .tup [.int 0]], .str ((pathOf rs ex).getD 0 Str.empty)]]) = (hallOf ps rs ex dr).map tlU := by
    unfold hallOf
    simp only [List.map_append, List.map_map]
    rfl
  rw [eH]
  have L9 := ((((((L3'.trans (Le.new g4)).trans (Le.new g5)).trans (Le.new g6)).trans (Le.new g7)).trans (Le.new g8)).trans (Le.new (o := .lst ((hallOf ps rs ex dr).map tlU)) g9))
  have hn9 := kpM (u := .lst ((hallOf ps rs ex dr).map tlU)) (kpM (kpM (kpM (kpM (kpM hn3 g4) g5) g6) g7) g8) g9
  have hr9 := kpM (u := .lst ((hallOf ps rs ex dr).map tlU)) (kpM (kpM (kpM (kpM (kpM hr3 g4) g5) g6) g7) g8) g9
  have hp9 := kpM (u := .lst ((hallOf ps rs ex dr).map tlU)) (kpM (kpM (kpM (kpM (kpM hp3 g4) g5) g6) g7) g8) g9
  have ha9 := kpM (u := .lst ((hallOf ps rs ex dr).map tlU)) (kpM (kpM (kpM (kpM (kpM ha3 g4) g5) g6) g7) g8) g9
  generalize eM9 : L3.put _ q9 (O.lst ((hallOf ps rs ex dr).map tlU)) = M9 at L9 hn9 hr9 hp9 ha9 ⊢
  have hh9 : M9 q9 = some (.lst ((hallOf ps rs ex dr).map tlU)) := by rw [← eM9]; exact put_same
  clear eM9 g4 g5 g6 g7 g8 g9 hn3 hr3 hp3 ha3 L3'
  refine ⟨_, hh9, ?_⟩
  have hHl : 0 < (hallOf ps rs ex dr).length ∧ (hallOf ps rs ex dr).length ≤ 1000 := ⟨List.length_pos_of_mem mem_exit, F8.good.len⟩
  walk_at "g"
  refine ⟨by rw [List.length_map]; omega, ?_⟩
  walk_at "g"
  obtain ⟨k, ek, hk⟩ : ∃ k : Nat, c / 540 % (((hallOf ps rs ex dr).map tlU).length : Int) = (k : Int) ∧ k < (hallOf ps rs ex dr).length := by
    rw [List.length_map]
    have g1 := Int.emod_nonneg (c / 540) (show (((hallOf ps rs ex dr).length : Nat) : Int) ≠ 0 by omega)
    have g2 := Int.emod_lt_of_pos (c / 540) (show (0 : Int) < (((hallOf ps rs ex dr).length : Nat) : Int) by omega)
    exact ⟨(c / 540 % (((hallOf ps rs ex dr).length : Nat) : Int)).toNat, by omega, by omega⟩
  rw [ek]
  refine ⟨_, hh9, fun z1 y1 => ?_⟩
  walk_at "g"
  refine ⟨_, kpM hh9 y1, fun z2 y2 => ?_⟩
  walk_at "g"
  obtain ⟨hs, ehs⟩ : ∃ hs, hs = (hallOf ps rs ex dr).drop k ++ (hallOf ps rs ex dr).take k := ⟨_, rfl⟩
  have e4 : cutU ((hallOf ps rs ex dr).map tlU) (some (k : Int)) none ++ cutU ((hallOf ps rs ex dr).map tlU) none (some (k : Int)) = hs.map tlU := by rw [cut_from, cut_to, ehs, List.map_append, List.map_drop, List.map_take]
  have pm : hs.Perm (hallOf ps rs ex dr) := by rw [ehs]; exact List.perm_append_comm.trans (by rw [List.take_append_drop])
  clear ehs
  have hsl : hs.length ≤ 1000 := by rw [pm.length_eq]; exact hHl.2
  refine ⟨_, _, kpM put_same y2, put_same, by rw [← List.length_append, e4, sizeLine_eq, List.length_map]; omega, fun z3 y3 => ?_⟩
  rw [e4]
  have LA := ((L9.trans (Le.new y1)).trans (Le.new y2)).trans (Le.new (o := .lst (hs.map tlU)) y3)
  have hnA := kpM (u := .lst (hs.map tlU)) (kpM (kpM hn9 y1) y2) y3
  have hrA := kpM (u := .lst (hs.map tlU)) (kpM (kpM hr9 y1) y2) y3
  have hpA := kpM (u := .lst (hs.map tlU)) (kpM (kpM hp9 y1) y2) y3
  have haA := kpM (u := .lst (hs.map tlU)) (kpM (kpM ha9 y1) y2) y3
  generalize eM0 : L3.put _ z3 (O.lst (hs.map tlU)) = M0 at LA hnA hrA hpA haA ⊢
  have hhA : M0 z3 = some (.lst (hs.map tlU)) := by rw [← eM0]; exact put_same
  clear eM0 y1 y2 y3 hh9 hn9 hr9 hp9 ha9 L9 e4 ek
  walk_at "g"
  intro fl hfl
  walk_at "g"
  have gd := good_perm F8.good pm
  refine ⟨fl, z3, hs, rfl, put_same, kpM hhA hfl, hsl, gd.ok, gd.nd, fun M5 ad fs hfl' kp => ?_⟩
  have I0 := In.start F8 pm
  have kp0 : ∀ b o, M0 b = some o → M5 b = some o ∧ FP (RF CF CV) ad (flT (TF0 hs)) b = none := fun b o hb => kp b o (kpM hb hfl) (mne hb hfl)
  clear kp hfl
  generalize TF0 hs = t0 at fs I0 kp0
  walk_at "g"
  refine ⟨_, (kp0 _ _ hpA).1, ?_⟩
  refine Comp.mapped ps poolU (fun p => .tup [.str p.1, .int p.2]) (fun σ => ∃ u, σ = [u]) rfl ⟨_, rfl⟩ (by rw [sizeLine_eq]; omega) (fun M' l => l _ _ (kp0 _ _ hpA).1) ?_ fun w1 x1 => ?_
  · rintro ⟨a, m⟩ hx σ ⟨u, rfl⟩ Y yes N
    walk_at "g"
    exact yes _ _ ⟨_, rfl⟩ (Le.refl _)
  walk_at "g"
  refine ⟨ps.map fun p => (p.1, .int p.2), by rw [put_same]; unfold pairsU; rw [List.map_map]; rfl, by rw [List.map_map]; exact F8.pnd, by rw [List.length_map]; omega, fun pd x2 => ?_⟩
  have eD : dictU (ps.map fun p => (p.1, U.int p.2)) = kvU U.int ps := by unfold dictU kvU; rw [List.map_map]; rfl
  rw [eD]
  walk_at "g"
  intro psp x3
  have sd0 : Sd CF CV M0 (L3.put (L3.put (L3.put M5 w1 (.lst (ps.map fun p => U.tup [.str p.1, .int p.2]))) pd (.dct (kvU U.int ps))) psp (.lst [])) ad t0 pd psp ps [] := by
    have f1 := fs.new (o := .lst (ps.map fun p => .tup [.str p.1, .int p.2])) x1
    have f2 := f1.new (o := .dct (kvU U.int ps)) x2
    refine ⟨f2.new x3, ⟨kpM put_same x3, FP_new f1 x2⟩, ⟨put_same, FP_new f2 x3⟩, mne put_same x3, fun b o hb => ?_⟩
    obtain ⟨e1, e2⟩ := kp0 b o hb
    exact ⟨⟨kpM (kpM (kpM e1 x1) x2) x3, e2⟩, mne (kpM e1 x1) x2, mne (kpM (kpM e1 x1) x2) x3⟩
  generalize L3.put (L3.put (L3.put M5 w1 (.lst (ps.map fun p => U.tup [.str p.1, .int p.2]))) pd (.dct (kvU U.int ps))) psp (.lst []) = M6 at sd0 ⊢
  clear x1 x2 x3 kp0 fs eD
  walk_at "g"
  have hN : 1 ≤ (1 + c / 11 % 10).toNat ∧ (1 + c / 11 % 10).toNat ≤ 10 := by omega
  generalize (1 + c / 11 % 10).toNat = N at hN ⊢
  refine Walk.rng (fun i σ M' => LI CF CV M0 [some (.fl (ns.map U.int)), some (.ref pn), some (.int c), some (.ref pp), some (.ref pr), some (.ref q3), some (.ref z3), some (.int (k : Int)), some (.ref fl), some (.ref pd), some (.ref psp)] fl pd psp ps rs ex hs i σ M') ?_ ?_ ?_
  · exact ⟨ad, t0, [], ps, _, _, _, _, _, _, rfl, hfl', sd0, I0, rfl⟩
  · clear sd0 I0 hfl'
    rintro i σ M' hi ⟨ad, t, sp, lf, v11, v12, v13, v14, v15, v16, rfl, rfl, sd, I, hl⟩
    simp only [List.cons_append, List.nil_append]
    rw [show (0 : Int) + (i : Int) = i by omega]
    have hlt := I.len
    walk_at "g"
    refine ⟨⟨rfl, _, sd.s.1⟩, ?_⟩
    walk_at "g"
    refine ⟨_, sd.s.1, by rw [List.length_map]; exact small1000 (by unfold nats; rw [List.length_map]; omega), ?_⟩
    rw [show (nats sp).map U.int ++ [U.int 0] = (nats (sp ++ [0])).map U.int by unfold nats; simp]
    have sd1 := sd.setS (sp' := sp ++ [0])
    generalize L3.put M' psp (.lst ((nats (sp ++ [0])).map U.int)) = M1 at sd1 ⊢
    clear sd
    have f1 := sd1.fs
    walk_at "go"
    refine ⟨_, (sd1.out _ _ hnA).1.1, oE_some rfl ?_⟩
    walk_at "g"
    have hpd := I.look gd.nd (tl := .door dr 0 (.at_ [0]) ((pathOf rs ex).getD 0 Str.empty)) (pm.mem_iff.mpr mem_door)
    have hpd : t.plan.lookup dr = some (.door dr 0 (.at_ [0]) ((pathOf rs ex).getD 0 Str.empty)) := hpd
    obtain ⟨row, hrow⟩ := I.wf.rw_ _ _ hpd
    have hrl' := I.wf.len hrow
    refine ⟨ad, t, dr, 0, .at_ [0], _, 0, row, rfl, f1, hpd, hrow, by omega, by omega, fun M2 ad2 st2 => ?_⟩
    obtain ⟨w1, hv1, I2⟩ := I.enter rfl hpd
    have sd2 := sd1.step st2
    have f2 := sd2.fs
    have efl := st2.fl
    rw [← efl]
    clear st2 sd1 f1
    rw [hlt, hl] at hv1 I2 ⊢
    walk_at "g"
    refine bEf (by simp) ?_
    walk_at "go"
    have okm := okM w1 F8.hn (by show (t.ppl ++ [_]).length ≤ 800; rw [List.length_append, List.length_singleton]; omega) hv1 hpd (fun a z => by cases z) (fun a m z => by cases z) (fun a r ths z => by cases z)
    refine ⟨ad2, _, i, 0, _, _, rfl, f2, hv1, hpd, okm, fun M3 st3 => ?_⟩
    have sd3 := sd2.step st3
    clear st3 sd2 f2
    walk_at "g"
    refine ⟨_, (sd3.out _ _ haA).1.1, oE_some (path_getN (k := 0) (by rw [path_len]; omega)) ?_⟩
    walk_at "g"
    have hd : ∀ M, Dat M (.tup [.str "enters", .str ((pathOf rs ex).getD 0 Str.empty)]) (.tuple [.str "enters", .str ((pathOf rs ex).getD 0 Str.empty)]) := fun M => .tup (.cons (.str _ (by decide +kernel)) (.cons (.str _ (okp _ (by rw [List.getD_eq_getElem?_getD, List.getElem?_eq_getElem (by rw [path_len]; omega)]; exact List.getElem_mem _))) .nil))
    refine ⟨_, _, hd _, hd _, Nat.le_trans (Nat.min_le_left _ _) (by simp [PyData.depth, PyData.depthAll]), ?_⟩
    walk_at "g"
    refine bEf (by simp [PyData.eqv, PyData.eqvAll]) ?_
    exact ⟨_, Le.refl _, ad2, _, _, _, _, _, _, _, _, _, rfl, rfl, sd3, I2, by rw [List.length_append, List.length_singleton, hl]⟩
  · rintro σ M' ⟨ad, t, sp, lf, v11, v12, v13, v14, v15, v16, rfl, rfl, sd, I, hl⟩
    simp only [List.cons_append, List.nil_append]
    clear sd0 I0 hfl'
    walk_at "g"
    refine Walk.rng (fun i σ M' => LI CF CV M0 [some (.fl (ns.map U.int)), some (.ref pn), some (.int c), some (.ref pp), some (.ref pr), some (.ref q3), some (.ref z3), some (.int (k : Int)), some (.ref (ad .fl)), some (.ref pd), some (.ref psp)] (ad .fl) pd psp ps rs ex hs N σ M') ?_ ?_ ?_
    · exact ⟨ad, t, sp, lf, _, _, _, _, _, _, rfl, rfl, sd, I, hl⟩
    · clear sd I hl
      generalize ad .fl = fl
      clear ad t sp lf
      rintro i σ M' hi ⟨ad, t, sp, lf, v11, v12, v13, v14, v15, v16, rfl, rfl, sd, I, hl⟩
      simp only [List.cons_append, List.nil_append]
      rw [show (0 : Int) + (i : Int) = i by omega]
      walk_at "g"
      refine ⟨ns, _, rfl, by omega, ?_⟩
      walk_at "g"
      refine ⟨_, _, rfl, by omega, by omega, ?_⟩
      generalize mixed (cellAt ns (1 + (i : Int) % 30)) i = m
      walk_at "g"
      refine ⟨_, sd.s.1, ?_⟩
      have hsz : ((nats sp).map U.int).length = N := by unfold nats; rw [List.length_map, List.length_map, hl]
      rw [hsz]
      walk_at "g"
      obtain ⟨j, ej, hj⟩ : ∃ j : Nat, m % ((N : Nat) : Int) = (j : Int) ∧ j < N := by
        have g1 := Int.emod_nonneg m (show ((N : Nat) : Int) ≠ 0 by omega)
        have g2 := Int.emod_lt_of_pos m (show (0 : Int) < ((N : Nat) : Int) by omega)
        exact ⟨(m % ((N : Nat) : Int)).toNat, by omega, by omega⟩
      rw [ej]
      clear ej
      obtain ⟨k', hk'⟩ : ∃ k', sp[j]? = some k' := ⟨_, List.getElem?_eq_getElem (by omega)⟩
      obtain ⟨v, hv⟩ := I.vis hk'
      obtain ⟨hkl, hst⟩ := I.st hv hk'
      refine ⟨_, sd.s.1, oE_some (nats_get hk') ?_⟩
      walk_at "g"
      refine ⟨_, (sd.out _ _ hrA).1.1, ?_⟩
      walk_at "g"
      rw [List.length_map]
      have fs := sd.fs
      have hppl := I.len
      refine bE2 (fun c1 => ?_) (fun c1 => ?_)
      · have c1 := of_decide_eq_true c1
        have hke : k' = rs.length := by omega
        subst hke
        walk_at "go"
        refine ⟨ad, t, j, _, v, .exit ex, rfl, fs, hv, I.out gd.nd pm hv hk', trivial, ?_⟩
        walk_at "g"
        exact ⟨_, Le.refl _, ad, _, _, _, _, _, _, _, _, _, rfl, rfl, sd, I, hl⟩
      · have c1 := of_decide_eq_false c1
        have hkl' : k' < rs.length := by omega
        obtain ⟨x, hx⟩ : ∃ x, rs[k']? = some x := ⟨_, List.getElem?_eq_getElem hkl'⟩
        have htl := I.tl gd.nd pm hv hk' hx
        obtain ⟨b, a, p⟩ := x
        obtain ⟨lm, hm⟩ : ∃ m, lf.lookup p = some m := by
          have hp : p ∈ lf.map (·.1) := by rw [I.lk]; exact F8.pool _ _ hx
          obtain ⟨y, hy, rfl⟩ := List.mem_map.mp hp
          exact ⟨y.2, mem_look (by rw [I.lk]; exact F8.pnd) hy⟩
        have hcan := I.can (n := j) (v := v) (turn := (i : Int)) hx hm
        have okc := okC I.wf (by omega) hv htl
        have okm := okM I.wf F8.hn (by omega) hv htl (not_exit hx).1 (not_exit hx).2.1 (not_exit hx).2.2
        have I2 := I.move (turn := (i : Int)) hv hk' hx htl hm
        have ww := word_tl (t := t) (n := j) (v := v) (ex := ex) hx
        walk_at "g"
        refine ⟨_, sd.s.1, oE_some (nats_get hk') ?_⟩
        walk_at "g"
        refine ⟨_, (sd.out _ _ hrA).1.1, oE_some (tri_get hx) ?_⟩
        have hll : lf.length ≤ 2 := by have := congrArg List.length I.lk; rw [List.length_map, List.length_map] at this; omega
        cases b with
        | false =>
          have hcan : canTl t j v (i : Int) (tlOf rs ex k') = true := hcan
          have I2 : In ps rs ex hs (moveTl t j v (i : Int) (tlOf rs ex k')) (sp.set j (k' + 1)) (putL lf p (lm + 1)) := I2
          walk_at "go"
          refine ⟨ad, t, j, _, v, _, rfl, fs, hv, htl, okc, ?_⟩
          rw [hcan]
          walk_at "g"
          obtain ⟨dl, edl⟩ : ∃ dl : Int, dl = lm + 1 := ⟨_, rfl⟩
          rw [← edl] at I2
          have hix := pick_give (a := a) (p := p)
          walk_at "mv"
        | true =>
          have hcan : canTl t j v (i : Int) (tlOf rs ex k') = decide (0 < lm) := by rw [hcan]; simp
          have I2 : In ps rs ex hs (moveTl t j v (i : Int) (tlOf rs ex k')) (sp.set j (k' + 1)) (putL lf p (lm + -1)) := I2
          walk_at "g"
          refine ⟨_, sd.d.1, oE_some (valU_kv hm) ?_⟩
          walk_at "go"
          refine ⟨ad, t, j, _, v, _, rfl, fs, hv, htl, okc, ?_⟩
          rw [hcan]
          walk_at "g"
          refine bEf (by simp) ?_
          walk_at "g"
          refine bE2 (fun c2 => ?_) (fun c2 => ?_)
          · walk_at "g"
            obtain ⟨dl, edl⟩ : ∃ dl : Int, dl = lm + -1 := ⟨_, rfl⟩
            rw [← edl] at I2
            have hix := pick_lend (a := a) (p := p)
            walk_at "mv"
          · walk_at "g"
            refine ⟨_, sd.s.1, oE_some (nats_get hk') ?_⟩
            walk_at "g"
            refine ⟨ad, t, j, v, k', pr, z3, pd, rs, hs, lf, rfl, fs, hv, I.wf.sl, (sd.out _ _ hrA).1.1, hkl, by omega, F8.hold, fun x hx => (okr x hx).2, (sd.out _ _ hhA).1.1, hsl, sd.d.1, sd.d.2, I.held F8.nd hv hk', by rw [I.lk]; exact F8.pnd, I.stk, ?_⟩
            walk_at "g"
            exact ⟨_, Le.refl _, ad, _, _, _, _, _, _, _, _, _, rfl, rfl, sd, I, hl⟩
    · rintro σ M' ⟨ad', t, sp, lf, v11, v12, v13, v14, v15, v16, rfl, _, sd, I, hl⟩
      simp only [List.cons_append, List.nil_append]
      walk_at "g"
      exact cl _ M _ (LA.trans sd.le) q
end
open PySem PySem.Spec PyProof.Rows L2 L3 G1 G2 G3 G4 H
theorem all_mk {l : PySem.W.OpenLaw} {w : World} {K : PySem.W.Frag} {h : Heap} {mg : Str → Option Value} {fa f1 f2 f3 f4 f5 f6 f7 f8 f9 f10 g1 g2 g3 g4 g5 g6 g7 g8 g9 g10 g11 g12 g13 D1 D2 : Addr} (X : K.In h) (G : h.Ns mainGlobals mg) (hfa : mg "law" = some (.ref fa))
    {od1 an1 od2 an2 od3 an3 od4 an4 od5 an5 od6 an6 od7 an7 od8 an8 od9 an9 od10 an10 odm1 anm1 odm2 anm2 odm3 anm3 odm4 anm4 odm5 anm5 odm6 anm6 odm7 anm7 odm8 anm8 odm9 anm9 odm10 anm10 odm11 anm11 odm12 anm12 odm13 anm13 : Option Addr} {sl1 sl2 sl3 sl4 sl5 sl6 sl7 sl8 sl9 sl10 slm1 slm2 slm3 slm4 slm5 slm6 slm7 slm8 slm9 slm10 slm11 slm12 slm13 : Array (Option Value)} {oc1 kV1 dc1 pm1 cd1 ct1 oc2 kV2 dc2 pm2 cd2 ct2 oc3 kV3 dc3 pm3 cd3 ct3 oc4 kV4 dc4 pm4 cd4 ct4 oc5 kV5 dc5 pm5 cd5 ct5 oc6 kV6 dc6 pm6 cd6 ct6 oc7 kV7 dc7 pm7 cd7 ct7 oc8 kV8 dc8 pm8 cd8 ct8 oc9 kV9 dc9 pm9 cd9 ct9 oc10 kV10 dc10 pm10 cd10 ct10 ocm1 kVm1 dcm1 pmm1 cdm1 ctm1 ocm2 kVm2 dcm2 pmm2 cdm2 ctm2 ocm3 kVm3 dcm3 pmm3 cdm3 ctm3 ocm4 kVm4 dcm4 pmm4 cdm4 ctm4 ocm5 kVm5 dcm5 pmm5 cdm5 ctm5 ocm6 kVm6 dcm6 pmm6 cdm6 ctm6 ocm7 kVm7 dcm7 pmm7 cdm7 ctm7 ocm8 kVm8 dcm8 pmm8 cdm8 ctm8 ocm9 kVm9 dcm9 pmm9 cdm9 ctm9 ocm10 kVm10 dcm10 pmm10 cdm10 ctm10 ocm11 kVm11 dcm11 pmm11 cdm11 ctm11 ocm12 kVm12 dcm12 pmm12 cdm12 ctm12 ocm13 kVm13 dcm13 pmm13 cdm13 ctm13 : Value}
    (aC1 : PySem.W.nsIn K mainGlobals "Floor" = some (some (.ref D1))) (pg1 : PySem.W.plainGet K D1 Str.empty = true) (hd1 : PySem.W.hasDictIn K D1 = true) (po1 : PySem.W.plainOver K D1 = true) (sa1 : PySem.W.findIn K (.ref D1) "__setattr__" = some (some (.builtin "object.__setattr__"))) (mk1 : PySem.W.makesIn K D1 = true) (kc1 : PySem.W.keepIn K (.ref D1) = true)
    (aC2 : PySem.W.nsIn K mainGlobals "Visitor" = some (some (.ref D2))) (pg2 : PySem.W.plainGet K D2 Str.empty = true) (hd2 : PySem.W.hasDictIn K D2 = true) (po2 : PySem.W.plainOver K D2 = true) (sa2 : PySem.W.findIn K (.ref D2) "__setattr__" = some (some (.builtin "object.__setattr__"))) (mk2 : PySem.W.makesIn K D2 = true) (kc2 : PySem.W.keepIn K (.ref D2) = true)
    (nF1 : PySem.W.findIn K (.ref D1) "plan" = some none)
    (nF2 : PySem.W.findIn K (.ref D1) "standing" = some none)
    (nF3 : PySem.W.findIn K (.ref D1) "tallies" = some none)
    (nF4 : PySem.W.findIn K (.ref D1) "stock" = some none)
    (nF5 : PySem.W.findIn K (.ref D1) "people" = some none)
    (nF6 : PySem.W.findIn K (.ref D2) "rank" = some none)
    (nF7 : PySem.W.findIn K (.ref D2) "station" = some none)
    (nF8 : PySem.W.findIn K (.ref D2) "since" = some none)
    (nF9 : PySem.W.findIn K (.ref D2) "until" = some none)
    (nF10 : PySem.W.findIn K (.ref D2) "things" = some none)
    (am1 : PySem.W.findIn K (.ref D1) "__init__" = some (some (.ref g1))) (im1 : PySem.W.isFn K (.ref g1) = true) (lm1 : K.lookup g1 = some ⟨ocm1, odm1, .func (PySem.W.fnOf "__init__" "Floor.__init__" (defArgs st_Floor_init) (defBody st_Floor_init) (defScope st_Floor_init) .none kVm1 dcm1 pmm1 anm1 cdm1 ctm1), slm1⟩) (cm1 : PySem.W.codeIn K cdm1 "Floor.__init__" = true) (km1 : PySem.W.keepIn K (.ref g1) = true)
    (am2 : PySem.W.findIn K (.ref D1) "come" = some (some (.ref g2))) (im2 : PySem.W.isFn K (.ref g2) = true) (lm2 : K.lookup g2 = some ⟨ocm2, odm2, .func (PySem.W.fnOf "come" "Floor.come" (defArgs st_Floor_come) (defBody st_Floor_come) (defScope st_Floor_come) .none kVm2 dcm2 pmm2 anm2 cdm2 ctm2), slm2⟩) (cm2 : PySem.W.codeIn K cdm2 "Floor.come" = true) (km2 : PySem.W.keepIn K (.ref g2) = true)
    (am3 : PySem.W.findIn K (.ref D1) "enter" = some (some (.ref g3))) (im3 : PySem.W.isFn K (.ref g3) = true) (lm3 : K.lookup g3 = some ⟨ocm3, odm3, .func (PySem.W.fnOf "enter" "Floor.enter" (defArgs st_Floor_enter) (defBody st_Floor_enter) (defScope st_Floor_enter) .none kVm3 dcm3 pmm3 anm3 cdm3 ctm3), slm3⟩) (cm3 : PySem.W.codeIn K cdm3 "Floor.enter" = true) (km3 : PySem.W.keepIn K (.ref g3) = true)
    (am4 : PySem.W.findIn K (.ref D1) "can" = some (some (.ref g4))) (im4 : PySem.W.isFn K (.ref g4) = true) (lm4 : K.lookup g4 = some ⟨ocm4, odm4, .func (PySem.W.fnOf "can" "Floor.can" (defArgs st_Floor_can) (defBody st_Floor_can) (defScope st_Floor_can) .none kVm4 dcm4 pmm4 anm4 cdm4 ctm4), slm4⟩) (cm4 : PySem.W.codeIn K cdm4 "Floor.can" = true) (km4 : PySem.W.keepIn K (.ref g4) = true)
    (am5 : PySem.W.findIn K (.ref D1) "can_at_desk" = some (some (.ref g5))) (im5 : PySem.W.isFn K (.ref g5) = true) (lm5 : K.lookup g5 = some ⟨ocm5, odm5, .func (PySem.W.fnOf "can_at_desk" "Floor.can_at_desk" (defArgs st_Floor_can_at_desk) (defBody st_Floor_can_at_desk) (defScope st_Floor_can_at_desk) .none kVm5 dcm5 pmm5 anm5 cdm5 ctm5), slm5⟩) (cm5 : PySem.W.codeIn K cdm5 "Floor.can_at_desk" = true) (km5 : PySem.W.keepIn K (.ref g5) = true)
    (am6 : PySem.W.findIn K (.ref D1) "foremost" = some (some (.ref g6))) (im6 : PySem.W.isFn K (.ref g6) = true) (lm6 : K.lookup g6 = some ⟨ocm6, odm6, .func (PySem.W.fnOf "foremost" "Floor.foremost" (defArgs st_Floor_foremost) (defBody st_Floor_foremost) (defScope st_Floor_foremost) .none kVm6 dcm6 pmm6 anm6 cdm6 ctm6), slm6⟩) (cm6 : PySem.W.codeIn K cdm6 "Floor.foremost" = true) (km6 : PySem.W.keepIn K (.ref g6) = true)
    (am7 : PySem.W.findIn K (.ref D1) "lets_by" = some (some (.ref g7))) (im7 : PySem.W.isFn K (.ref g7) = true) (lm7 : K.lookup g7 = some ⟨ocm7, odm7, .func (PySem.W.fnOf "lets_by" "Floor.lets_by" (defArgs st_Floor_lets_by) (defBody st_Floor_lets_by) (defScope st_Floor_lets_by) .none kVm7 dcm7 pmm7 anm7 cdm7 ctm7), slm7⟩) (cm7 : PySem.W.codeIn K cdm7 "Floor.lets_by" = true) (km7 : PySem.W.keepIn K (.ref g7) = true)
    (am8 : PySem.W.findIn K (.ref D1) "move" = some (some (.ref g8))) (im8 : PySem.W.isFn K (.ref g8) = true) (lm8 : K.lookup g8 = some ⟨ocm8, odm8, .func (PySem.W.fnOf "move" "Floor.move" (defArgs st_Floor_move) (defBody st_Floor_move) (defScope st_Floor_move) .none kVm8 dcm8 pmm8 anm8 cdm8 ctm8), slm8⟩) (cm8 : PySem.W.codeIn K cdm8 "Floor.move" = true) (km8 : PySem.W.keepIn K (.ref g8) = true)
    (am9 : PySem.W.findIn K (.ref D1) "begin" = some (some (.ref g9))) (im9 : PySem.W.isFn K (.ref g9) = true) (lm9 : K.lookup g9 = some ⟨ocm9, odm9, .func (PySem.W.fnOf "begin" "Floor.begin" (defArgs st_Floor_begin) (defBody st_Floor_begin) (defScope st_Floor_begin) .none kVm9 dcm9 pmm9 anm9 cdm9 ctm9), slm9⟩) (cm9 : PySem.W.codeIn K cdm9 "Floor.begin" = true) (km9 : PySem.W.keepIn K (.ref g9) = true)
    (am10 : PySem.W.findIn K (.ref D1) "next_of" = some (some (.ref g10))) (im10 : PySem.W.isFn K (.ref g10) = true) (lm10 : K.lookup g10 = some ⟨ocm10, odm10, .func (PySem.W.fnOf "next_of" "Floor.next_of" (defArgs st_Floor_next_of) (defBody st_Floor_next_of) (defScope st_Floor_next_of) .none kVm10 dcm10 pmm10 anm10 cdm10 ctm10), slm10⟩) (cm10 : PySem.W.codeIn K cdm10 "Floor.next_of" = true) (km10 : PySem.W.keepIn K (.ref g10) = true)
    (am11 : PySem.W.findIn K (.ref D1) "held" = some (some (.ref g11))) (im11 : PySem.W.isFn K (.ref g11) = true) (lm11 : K.lookup g11 = some ⟨ocm11, odm11, .func (PySem.W.fnOf "held" "Floor.held" (defArgs st_Floor_held) (defBody st_Floor_held) (defScope st_Floor_held) .none kVm11 dcm11 pmm11 anm11 cdm11 ctm11), slm11⟩) (cm11 : PySem.W.codeIn K cdm11 "Floor.held" = true) (km11 : PySem.W.keepIn K (.ref g11) = true)
    (am12 : PySem.W.findIn K (.ref D1) "left" = some (some (.ref g12))) (im12 : PySem.W.isFn K (.ref g12) = true) (lm12 : K.lookup g12 = some ⟨ocm12, odm12, .func (PySem.W.fnOf "left" "Floor.left" (defArgs st_Floor_left) (defBody st_Floor_left) (defScope st_Floor_left) .none kVm12 dcm12 pmm12 anm12 cdm12 ctm12), slm12⟩) (cm12 : PySem.W.codeIn K cdm12 "Floor.left" = true) (km12 : PySem.W.keepIn K (.ref g12) = true)
    (am13 : PySem.W.findIn K (.ref D2) "__init__" = some (some (.ref g13))) (im13 : PySem.W.isFn K (.ref g13) = true) (lm13 : K.lookup g13 = some ⟨ocm13, odm13, .func (PySem.W.fnOf "__init__" "Visitor.__init__" (defArgs st_Visitor_init) (defBody st_Visitor_init) (defScope st_Visitor_init) .none kVm13 dcm13 pmm13 anm13 cdm13 ctm13), slm13⟩) (cm13 : PySem.W.codeIn K cdm13 "Visitor.__init__" = true) (km13 : PySem.W.keepIn K (.ref g13) = true)
    (a1 : PySem.W.nsIn K mainGlobals "fixed" = some (some (.ref f1))) (l1 : K.lookup f1 = some ⟨oc1, od1, .func (PySem.W.fnOf "fixed" "fixed" (defArgs st_fixed) (defBody st_fixed) (defScope st_fixed) .none kV1 dc1 pm1 an1 cd1 ct1), sl1⟩) (c1 : PySem.W.codeIn K cd1 "fixed" = true) (k1 : PySem.W.keepIn K (.ref f1) = true)
    (a2 : PySem.W.nsIn K mainGlobals "of_sort" = some (some (.ref f2))) (l2 : K.lookup f2 = some ⟨oc2, od2, .func (PySem.W.fnOf "of_sort" "of_sort" (defArgs st_of_sort) (defBody st_of_sort) (defScope st_of_sort) .none kV2 dc2 pm2 an2 cd2 ct2), sl2⟩) (c2 : PySem.W.codeIn K cd2 "of_sort" = true) (k2 : PySem.W.keepIn K (.ref f2) = true)
    (a3 : PySem.W.nsIn K mainGlobals "rests_at" = some (some (.ref f3))) (l3 : K.lookup f3 = some ⟨oc3, od3, .func (PySem.W.fnOf "rests_at" "rests_at" (defArgs st_rests_at) (defBody st_rests_at) (defScope st_rests_at) .none kV3 dc3 pm3 an3 cd3 ct3), sl3⟩) (c3 : PySem.W.codeIn K cd3 "rests_at" = true) (k3 : PySem.W.keepIn K (.ref f3) = true)
    (a4 : PySem.W.nsIn K mainGlobals "_law_cell_at" = some (some (.ref f4))) (l4 : K.lookup f4 = some ⟨oc4, od4, .func (PySem.W.fnOf "_law_cell_at" "_law_cell_at" (defArgs st_l_cell_at) (defBody st_l_cell_at) (defScope st_l_cell_at) .none kV4 dc4 pm4 an4 cd4 ct4), sl4⟩) (c4 : PySem.W.codeIn K cd4 "_law_cell_at" = true) (k4 : PySem.W.keepIn K (.ref f4) = true)
    (a5 : PySem.W.nsIn K mainGlobals "_law_mixed" = some (some (.ref f5))) (l5 : K.lookup f5 = some ⟨oc5, od5, .func (PySem.W.fnOf "_law_mixed" "_law_mixed" (defArgs st_l_mixed) (defBody st_l_mixed) (defScope st_l_mixed) .none kV5 dc5 pm5 an5 cd5 ct5), sl5⟩) (c5 : PySem.W.codeIn K cd5 "_law_mixed" = true) (k5 : PySem.W.keepIn K (.ref f5) = true)
    (a6 : PySem.W.nsIn K mainGlobals "_law_names" = some (some (.ref f6))) (l6 : K.lookup f6 = some ⟨oc6, od6, .func (PySem.W.fnOf "_law_names" "_law_names" (defArgs st_l_names) (defBody st_l_names) (defScope st_l_names) .none kV6 dc6 pm6 an6 cd6 ct6), sl6⟩) (c6 : PySem.W.codeIn K cd6 "_law_names" = true) (k6 : PySem.W.keepIn K (.ref f6) = true)
    (a7 : PySem.W.nsIn K mainGlobals "_law_whole" = some (some (.ref f7))) (l7 : K.lookup f7 = some ⟨oc7, od7, .func (PySem.W.fnOf "_law_whole" "_law_whole" (defArgs st_l_whole) (defBody st_l_whole) (defScope st_l_whole) .none kV7 dc7 pm7 an7 cd7 ct7), sl7⟩) (c7 : PySem.W.codeIn K cd7 "_law_whole" = true) (k7 : PySem.W.keepIn K (.ref f7) = true)
    (a8 : PySem.W.nsIn K mainGlobals "_law_built" = some (some (.ref f8))) (l8 : K.lookup f8 = some ⟨oc8, od8, .func (PySem.W.fnOf "_law_built" "_law_built" (defArgs st_l_built) (defBody st_l_built) (defScope st_l_built) .none kV8 dc8 pm8 an8 cd8 ct8), sl8⟩) (c8 : PySem.W.codeIn K cd8 "_law_built" = true) (k8 : PySem.W.keepIn K (.ref f8) = true)
    (a9 : PySem.W.nsIn K mainGlobals "_law_right" = some (some (.ref f9))) (l9 : K.lookup f9 = some ⟨oc9, od9, .func (PySem.W.fnOf "_law_right" "_law_right" (defArgs st_l_right) (defBody st_l_right) (defScope st_l_right) .none kV9 dc9 pm9 an9 cd9 ct9), sl9⟩) (c9 : PySem.W.codeIn K cd9 "_law_right" = true) (k9 : PySem.W.keepIn K (.ref f9) = true)
    (a10 : PySem.W.nsIn K mainGlobals "law" = some (some (.ref f10))) (l10 : K.lookup f10 = some ⟨oc10, od10, .func (PySem.W.fnOf "law" "law" (defArgs st_law) (defBody st_law) (defScope st_law) .none kV10 dc10 pm10 an10 cd10 ct10), sl10⟩) (c10 : PySem.W.codeIn K cd10 "law" = true) (k10 : PySem.W.keepIn K (.ref f10) = true)
    (z1 : PySem.W.nsIn K mainGlobals "len" = some none)
    (z2 : PySem.W.nsIn K mainGlobals "range" = some none)
    (z3 : PySem.W.nsIn K mainGlobals "tuple" = some none)
    (z4 : PySem.W.nsIn K mainGlobals "list" = some none)
    (z5 : PySem.W.nsIn K mainGlobals "isinstance" = some none)
    (z6 : PySem.W.nsIn K mainGlobals "int" = some none)
    (z7 : PySem.W.nsIn K mainGlobals "bool" = some none)
    (z8 : PySem.W.nsIn K mainGlobals "any" = some none)
    (z9 : PySem.W.nsIn K mainGlobals "dict" = some none)
    : ∃ fd : FuncData, (∀ (s : Shared) (v : Value), BindsTo s fd ⟨[v], []⟩ [("_law_script", v)]) ∧ ∀ base : Heap, K.In base → base.Ns mainGlobals mg → FnOk l.prog w K mg base CX0 15 fa fd ["_law_script"] (liftSp K spLaw) := by
  have e := hfa.symm.trans (PySem.W.mg_of X G a10)
  cases e
  have T : Bl mg := ⟨PySem.W.mg_none_of X G z1, PySem.W.mg_none_of X G z2, PySem.W.mg_none_of X G z3, PySem.W.mg_none_of X G z4, PySem.W.mg_none_of X G z5, PySem.W.mg_none_of X G z6, PySem.W.mg_none_of X G z7, PySem.W.mg_none_of X G z8, PySem.W.mg_none_of X G z9⟩
  have FL1 : Fld K D1 "plan" := ⟨⟨pg1, hd1, po1, sa1⟩, nF1⟩
  have FL2 : Fld K D1 "standing" := ⟨⟨pg1, hd1, po1, sa1⟩, nF2⟩
  have FL3 : Fld K D1 "tallies" := ⟨⟨pg1, hd1, po1, sa1⟩, nF3⟩
  have FL4 : Fld K D1 "stock" := ⟨⟨pg1, hd1, po1, sa1⟩, nF4⟩
  have FL5 : Fld K D1 "people" := ⟨⟨pg1, hd1, po1, sa1⟩, nF5⟩
  have FL6 : Fld K D2 "rank" := ⟨⟨pg2, hd2, po2, sa2⟩, nF6⟩
  have FL7 : Fld K D2 "station" := ⟨⟨pg2, hd2, po2, sa2⟩, nF7⟩
  have FL8 : Fld K D2 "since" := ⟨⟨pg2, hd2, po2, sa2⟩, nF8⟩
  have FL9 : Fld K D2 "until" := ⟨⟨pg2, hd2, po2, sa2⟩, nF9⟩
  have FL10 : Fld K D2 "things" := ⟨⟨pg2, hd2, po2, sa2⟩, nF10⟩
  have GF1 := fun_mk (st := st_Floor_init) lm1 cm1 km1
  have GM1 : Meth K D1 "__init__" g1 := ⟨am1, im1, km1⟩
  have MK1 : Mk K D1 g1 := ⟨mk1, am1, im1, kc1⟩
  have GF2 := fun_mk (st := st_Floor_come) lm2 cm2 km2
  have GM2 : Meth K D1 "come" g2 := ⟨am2, im2, km2⟩
  have GF3 := fun_mk (st := st_Floor_enter) lm3 cm3 km3
  have GM3 : Meth K D1 "enter" g3 := ⟨am3, im3, km3⟩
  have GF4 := fun_mk (st := st_Floor_can) lm4 cm4 km4
  have GM4 : Meth K D1 "can" g4 := ⟨am4, im4, km4⟩
  have GF5 := fun_mk (st := st_Floor_can_at_desk) lm5 cm5 km5
  have GM5 : Meth K D1 "can_at_desk" g5 := ⟨am5, im5, km5⟩
  have GF6 := fun_mk (st := st_Floor_foremost) lm6 cm6 km6
  have GM6 : Meth K D1 "foremost" g6 := ⟨am6, im6, km6⟩
  have GF7 := fun_mk (st := st_Floor_lets_by) lm7 cm7 km7
  have GM7 : Meth K D1 "lets_by" g7 := ⟨am7, im7, km7⟩
  have GF8 := fun_mk (st := st_Floor_move) lm8 cm8 km8
  have GM8 : Meth K D1 "move" g8 := ⟨am8, im8, km8⟩
  have GF9 := fun_mk (st := st_Floor_begin) lm9 cm9 km9
  have GM9 : Meth K D1 "begin" g9 := ⟨am9, im9, km9⟩
  have GF10 := fun_mk (st := st_Floor_next_of) lm10 cm10 km10
  have GM10 : Meth K D1 "next_of" g10 := ⟨am10, im10, km10⟩
  have GF11 := fun_mk (st := st_Floor_held) lm11 cm11 km11
  have GM11 : Meth K D1 "held" g11 := ⟨am11, im11, km11⟩
  have GF12 := fun_mk (st := st_Floor_left) lm12 cm12 km12
  have GM12 : Meth K D1 "left" g12 := ⟨am12, im12, km12⟩
  have GF13 := fun_mk (st := st_Visitor_init) lm13 cm13 km13
  have GM13 : Meth K D2 "__init__" g13 := ⟨am13, im13, km13⟩
  have MK2 : Mk K D2 g13 := ⟨mk2, am13, im13, kc2⟩
  refine ⟨PySem.W.fnOf "law" "law" (defArgs st_law) (defBody st_law) (defScope st_law) .none kV10 dc10 pm10 an10 cd10 ct10, fun s v => .of_eq rfl, fun base _ _ => ?_⟩
  have VV := FlV.mk FL6 FL7 FL8 FL9 FL10
  have WW := FlF.mk FL1 FL2 FL3 FL4 FL5
  have cfx := c_fixed (P := l.prog) (w := w) (base := base) T (⟨_, _, fun_mk (st := st_fixed) l1 c1 k1, PySem.W.mg_of X G a1⟩ : FunM K mg "fixed" st_fixed) 4
  have cos := c_of_sort (P := l.prog) (w := w) (base := base) (⟨_, _, fun_mk (st := st_of_sort) l2 c2 k2, PySem.W.mg_of X G a2⟩ : FunM K mg "of_sort" st_of_sort)
  have crs := c_rests_at (P := l.prog) (w := w) (base := base) T (⟨_, _, fun_mk (st := st_rests_at) l3 c3 k3, PySem.W.mg_of X G a3⟩ : FunM K mg "rests_at" st_rests_at)
  have mV := m_Visitor (P := l.prog) (w := w) (base := base) VV MK2 (PySem.W.mg_of X G aC2) GF13
  have kenter := k_enter (P := l.prog) (w := w) (base := base) (mg := mg) VV WW GM3 GF3
  have kcome := k_come (P := l.prog) (w := w) (base := base) T VV WW GM2 GF2 (mV.mono (by decide)) (kenter.mono (by decide))
  have kfore := k_foremost (P := l.prog) (w := w) (base := base) (mg := mg) VV WW GM6 GF6
  have kcad := k_can_at_desk (P := l.prog) (w := w) (base := base) T VV WW GM5 GF5 (crs.mono (by decide)) (kfore.mono (by decide))
  have klets := k_lets_by (P := l.prog) (w := w) (base := base) (CV := D2) T WW GM7 GF7
  have kcan := k_can (P := l.prog) (w := w) (base := base) (mg := mg) VV WW GM4 GF4 (kcad.mono (by decide)) (klets.mono (by decide))
  have kbegin := k_begin (P := l.prog) (w := w) (base := base) T VV WW GM9 GF9
  have knext := k_next_of (P := l.prog) (w := w) (base := base) (CV := D2) T WW GM10 GF10
  have kmove := k_move (P := l.prog) (w := w) (base := base) (mg := mg) VV WW GM8 GF8 (kbegin.mono (by decide)) (knext.mono (by decide)) (kenter.mono (by decide))
  have kheld := k_held (P := l.prog) (w := w) (base := base) (mg := mg) VV WW GM11 GF11
  have kleft := k_left (P := l.prog) (w := w) (base := base) (mg := mg) (CV := D2) WW GM12 GF12
  have mF := m_Floor (P := l.prog) (w := w) (base := base) (CV := D2) WW MK1 (PySem.W.mg_of X G aC1) GF1 (cfx.mono (by decide)) (cos.mono (by decide))
  have C4 := c_l_cell_at (P := l.prog) (w := w) (base := base) T (⟨_, _, fun_mk (st := st_l_cell_at) l4 c4 k4, PySem.W.mg_of X G a4⟩ : FunM K mg "_law_cell_at" st_l_cell_at)
  have C5 := c_l_mixed (P := l.prog) (w := w) (base := base) (⟨_, _, fun_mk (st := st_l_mixed) l5 c5 k5, PySem.W.mg_of X G a5⟩ : FunM K mg "_law_mixed" st_l_mixed)
  have C6 := c_l_names (P := l.prog) (w := w) (base := base) T (⟨_, _, fun_mk (st := st_l_names) l6 c6 k6, PySem.W.mg_of X G a6⟩ : FunM K mg "_law_names" st_l_names)
  have C7 := c_l_whole (P := l.prog) (w := w) (base := base) T (⟨_, _, fun_mk (st := st_l_whole) l7 c7 k7, PySem.W.mg_of X G a7⟩ : FunM K mg "_law_whole" st_l_whole)
  have C8 := c_l_built (P := l.prog) (w := w) (base := base) (⟨_, _, fun_mk (st := st_l_built) l8 c8 k8, PySem.W.mg_of X G a8⟩ : FunM K mg "_law_built" st_l_built)
  have C9 := c_l_right (P := l.prog) (w := w) (base := base) T (⟨_, _, fun_mk (st := st_l_right) l9 c9 k9, PySem.W.mg_of X G a9⟩ : FunM K mg "_law_right" st_l_right) (C7.mono (by decide)) (kheld.mono (by decide)) (kleft.mono (by decide))
  exact ok_law T (fun_mk (st := st_law) l10 c10 k10) (C4.mono (by decide)) (C5.mono (by decide)) (C6.mono (by decide)) (C8.mono (by decide)) (C9.mono (by decide)) (mF.mono (by decide)) (kcome.mono (by decide)) (kcan.mono (by decide)) (kmove.mono (by decide))
open PySem.W PySem.W.X in
theorem walkZ {q : Program} {loose : List Str} {XP : (Str → Option Value) → Heap → Prop} {r : PySem.W.RowW} {d : DefRec} {kwd : List (Str × Expr)} {run : Value → List Value → Sem Value} {K : Params → PySem.W.Frag} {as : List Addr} {n t : Nat} (e : ∀ P, as = (K P).map (·.1)) (h : WalkO q loose XP (InK K) r d kwd run) : WalkX q loose XP (obsZ as) (valZ K n t) r d kwd run :=
  fun w s₀ s₁ mg mb G y a o pm cd doc dV kV h1 h2 h3 h4 h5 h6 args vals as' L h7 h8 h9 h10 h11 => h w s₀ s₁ mg mb G (InK.keeps w _ _ (z_facts e y).2.1 L.keeps) a o pm cd doc dV kV h1 h2 h3 h4 h5 h6 args vals as' h7 h8 h9 h10 h11
theorem walk {l : PySem.W.OpenLaw} {q : Program} {loose : List Str} {XP : (Str → Option Value) → Heap → Prop} {YP : World → Heap → Prop} {d : DefRec} {K : Params → PySem.W.Frag} (hn : l.most = some 63) (hdf : d.params.defaults = [])
    (hY : ∀ (w : World) (h : Heap), YP w h → (K w.params).In h)
    (F : ∀ (w : World) (mg : Str → Option Value) (fa : Addr) (h : Heap), (K w.params).In h → h.Ns mainGlobals mg → mg d.name = some (.ref fa) →
      ∃ fd : FuncData, (∀ (s : Shared) (u : Value), BindsTo s fd ⟨[u], []⟩ [("_law_script", u)]) ∧ ∀ base : Heap, (K w.params).In base → base.Ns mainGlobals mg → FnOk l.prog w (K w.params) mg base CX0 15 fa fd ["_law_script"] (liftSp (K w.params) spLaw)) :
    PySem.W.WalkO q loose XP YP l.row.toRowW d [] (fun f vs => PySem.call f vs) :=
  L2.walk_of (n := 63) (k := 15) (x := "_law_script") (CX := fun _ => CX0) (sp := fun w => liftSp (K w.params) spLaw) hn (by decide) hdf ⟨rfl, by decide, by decide, rfl⟩ hY F
    (fun _ H a ns hl hO hS => ⟨[.fl (ns.map U.int)], fun _ => none, .cons (.fl (FrL.of hO hS) (RepAll.ints ns)) .nil, fun _ _ z => (by cases z), ns, rfl, hl, fun v H' _ r _ => (by cases r; rfl)⟩) fun _ _ _ _ _ z => z
end K21
open PySem PySem.W PyProof.Rows
set_option maxRecDepth 100000 in
set_option maxHeartbeats 0 in
theorem PySem.Challenge.cw_hallclock_k21_lent_and_given_holds : PySem.Challenge.rw_hallclock_k21_lent_and_given.Holds := by
  w_on; o_law; z_head; (case hw => w_witness2)
  k_fill
  refine K21.walkZ (fun _ => by kernel_rfl) ?_
  refine K21.walk (l := PySem.Challenge.rw_hallclock_k21_lent_and_given) rfl rfl (fun w h Y => Y) ?F
  case F =>
    intro w mg fa h KX G hmg
    refine' K21.all_mk KX G hmg ?aC1 ?pg1 ?hd1 ?po1 ?sa1 ?mk1 ?kc1 ?aC2 ?pg2 ?hd2 ?po2 ?sa2 ?mk2 ?kc2 ?nF1 ?nF2 ?nF3 ?nF4 ?nF5 ?nF6 ?nF7 ?nF8 ?nF9 ?nF10 ?am1 ?im1 ?lm1 ?cm1 ?km1 ?am2 ?im2 ?lm2 ?cm2 ?km2 ?am3 ?im3 ?lm3 ?cm3 ?km3 ?am4 ?im4 ?lm4 ?cm4 ?km4 ?am5 ?im5 ?lm5 ?cm5 ?km5 ?am6 ?im6 ?lm6 ?cm6 ?km6 ?am7 ?im7 ?lm7 ?cm7 ?km7 ?am8 ?im8 ?lm8 ?cm8 ?km8 ?am9 ?im9 ?lm9 ?cm9 ?km9 ?am10 ?im10 ?lm10 ?cm10 ?km10 ?am11 ?im11 ?lm11 ?cm11 ?km11 ?am12 ?im12 ?lm12 ?cm12 ?km12 ?am13 ?im13 ?lm13 ?cm13 ?km13 ?a1 ?l1 ?c1 ?k1 ?a2 ?l2 ?c2 ?k2 ?a3 ?l3 ?c3 ?k3 ?a4 ?l4 ?c4 ?k4 ?a5 ?l5 ?c5 ?k5 ?a6 ?l6 ?c6 ?k6 ?a7 ?l7 ?c7 ?k7 ?a8 ?l8 ?c8 ?k8 ?a9 ?l9 ?c9 ?k9 ?a10 ?l10 ?c10 ?k10 ?z1 ?z2 ?z3 ?z4 ?z5 ?z6 ?z7 ?z8 ?z9
    (case aC1 => k_is)
    (case pg1 => k_is)
    (case hd1 => k_is)
    (case po1 => k_is)
    (case sa1 => k_is)
    (case mk1 => k_is)
    (case kc1 => k_is)
    (case aC2 => k_is)
    (case pg2 => k_is)
    (case hd2 => k_is)
    (case po2 => k_is)
    (case sa2 => k_is)
    (case mk2 => k_is)
    (case kc2 => k_is)
    (case nF1 => k_is)
    (case nF2 => k_is)
    (case nF3 => k_is)
    (case nF4 => k_is)
    (case nF5 => k_is)
    (case nF6 => k_is)
    (case nF7 => k_is)
    (case nF8 => k_is)
    (case nF9 => k_is)
    (case nF10 => k_is)
    (case am1 => k_is)
    (case im1 => k_is)
    (case lm1 => k_is)
    (case cm1 => k_is)
    (case km1 => k_is)
    (case am2 => k_is)
    (case im2 => k_is)
    (case lm2 => k_is)
    (case cm2 => k_is)
    (case km2 => k_is)
    (case am3 => k_is)
    (case im3 => k_is)
    (case lm3 => k_is)
    (case cm3 => k_is)
    (case km3 => k_is)
    (case am4 => k_is)
    (case im4 => k_is)
    (case lm4 => k_is)
    (case cm4 => k_is)
    (case km4 => k_is)
    (case am5 => k_is)
    (case im5 => k_is)
    (case lm5 => k_is)
    (case cm5 => k_is)
    (case km5 => k_is)
    (case am6 => k_is)
    (case im6 => k_is)
    (case lm6 => k_is)
    (case cm6 => k_is)
    (case km6 => k_is)
    (case am7 => k_is)
    (case im7 => k_is)
    (case lm7 => k_is)
    (case cm7 => k_is)
    (case km7 => k_is)
    (case am8 => k_is)
    (case im8 => k_is)
    (case lm8 => k_is)
    (case cm8 => k_is)
    (case km8 => k_is)
    (case am9 => k_is)
    (case im9 => k_is)
    (case lm9 => k_is)
    (case cm9 => k_is)
    (case km9 => k_is)
    (case am10 => k_is)
    (case im10 => k_is)
    (case lm10 => k_is)
    (case cm10 => k_is)
    (case km10 => k_is)
    (case am11 => k_is)
    (case im11 => k_is)
    (case lm11 => k_is)
    (case cm11 => k_is)
    (case km11 => k_is)
    (case am12 => k_is)
    (case im12 => k_is)
    (case lm12 => k_is)
    (case cm12 => k_is)
    (case km12 => k_is)
    (case am13 => k_is)
    (case im13 => k_is)
    (case lm13 => k_is)
    (case cm13 => k_is)
    (case km13 => k_is)
    (case a1 => k_is)
    (case l1 => k_is)
    (case c1 => k_is)
    (case k1 => k_is)
    (case a2 => k_is)
    (case l2 => k_is)
    (case c2 => k_is)
    (case k2 => k_is)
    (case a3 => k_is)
    (case l3 => k_is)
    (case c3 => k_is)
    (case k3 => k_is)
    (case a4 => k_is)
    (case l4 => k_is)
    (case c4 => k_is)
    (case k4 => k_is)
    (case a5 => k_is)
    (case l5 => k_is)
    (case c5 => k_is)
    (case k5 => k_is)
    (case a6 => k_is)
    (case l6 => k_is)
    (case c6 => k_is)
    (case k6 => k_is)
    (case a7 => k_is)
    (case l7 => k_is)
    (case c7 => k_is)
    (case k7 => k_is)
    (case a8 => k_is)
    (case l8 => k_is)
    (case c8 => k_is)
    (case k8 => k_is)
    (case a9 => k_is)
    (case l9 => k_is)
    (case c9 => k_is)
    (case k9 => k_is)
    (case a10 => k_is)
    (case l10 => k_is)
    (case c10 => k_is)
    (case k10 => k_is)
    (case z1 => k_is)
    (case z2 => k_is)
    (case z3 => k_is)
    (case z4 => k_is)
    (case z5 => k_is)
    (case z6 => k_is)
    (case z7 => k_is)
    (case z8 => k_is)
    (case z9 => k_is)
