import PyProof.Rows.All
import Wide.All
import OpenK.AllK
import Wide.FinOn
import Lean
import PyProof.EqAt
import PyProof.EqKinds
import PyProof.TupleCall
import PyProof.ExcClass3
import PyProof.ExcInit
import PyProof.ExcBaseAll.ValueError
import PyProof.StationsW
import OpenK.KOwn
import PyProof.InstStoreFacts
import PyProof.ExcAttrAll.ValueError
import KE.KIsAll
import KE.KTryMore
import PyProof.StrLawsOcc
import PyProof.Rows.SortStr
import PySem.Challenge.RW_hallclock_k01_words
set_option Elab.async false
set_option genSizeOf false
set_option linter.all false
set_option maxRecDepth 100000
set_option maxHeartbeats 4000000
namespace L2
open PySem PySem.Spec PyProof.Rows
noncomputable abbrev Key := Sum Int Str
noncomputable def keyIs : Key → Value → Bool
  | .inl k, v => Value.isInt k v
  | .inr x, v => Value.isStrOf x v
noncomputable def keyH (w : World) : Key → Int
  | .inl k => hashInt k
  | .inr x => hashStr w x
theorem keyIs_shape : ∀ {k : Key} {v : Value}, keyIs k v = true → (∃ i t, k = Sum.inl i ∧ v = Value.int i t) ∨ (∃ x t, k = Sum.inr x ∧ v = Value.str x t)
  | .inl i, v, h => by
    obtain ⟨t, e⟩ := Value.isInt_shape (k := i) (v := v) h
    exact .inl ⟨i, t, rfl, e⟩
  | .inr x, v, h => by
    obtain ⟨t, e⟩ := Value.isStrOf_shape (x := x) (v := v) h
    exact .inr ⟨x, t, rfl, e⟩
theorem key_ll (a b : Int) : decide ((Sum.inl a : Key) = Sum.inl b) = (a == b) := by
  by_cases e : a = b
  · subst e; simp
  · have h : ¬ (Sum.inl a : Key) = Sum.inl b := fun q => e (Sum.inl.inj q)
    rw [decide_eq_false h]
    exact (beq_eq_false_iff_ne.mpr e).symm
theorem key_rr (a b : Str) : decide ((Sum.inr a : Key) = Sum.inr b) = decide (a = b) := by
  by_cases e : a = b
  · subst e; simp
  · have h : ¬ (Sum.inr a : Key) = Sum.inr b := fun q => e (Sum.inr.inj q)
    rw [decide_eq_false h, decide_eq_false e]
theorem key_lr (a : Int) (b : Str) : decide ((Sum.inl a : Key) = Sum.inr b) = false := decide_eq_false (fun q => nomatch q)
theorem key_rl (a : Str) (b : Int) : decide ((Sum.inr a : Key) = Sum.inl b) = false := decide_eq_false (fun q => nomatch q)
noncomputable def mixKind (prog : Program) (w : World) : PySem.KeyKind prog w Key where
  is := keyIs
  hash := keyH w
  inj := fun v a b ha hb => by
    rcases keyIs_shape ha with ⟨i, t, rfl, rfl⟩ | ⟨x, t, rfl, rfl⟩
    · rcases keyIs_shape hb with ⟨j, u, rfl, e⟩ | ⟨y, u, rfl, e⟩
      · injection e with e1 _; rw [e1]
      · exact nomatch e
    · rcases keyIs_shape hb with ⟨j, u, rfl, e⟩ | ⟨y, u, rfl, e⟩
      · exact nomatch e
      · injection e with e1 _; rw [e1]
  byValue := fun k v h => by
    rcases keyIs_shape h with ⟨i, t, rfl, rfl⟩ | ⟨x, t, rfl, rfl⟩ <;> rfl
  pyHash := fun hv h => by
    rcases keyIs_shape hv with ⟨i, t, rfl, rfl⟩ | ⟨x, t, rfl, rfl⟩
    · exact wpAny_pyHash_int h
    · exact wpAny_pyHash_str h
  eqBool := fun hu hv h => by
    rcases keyIs_shape hu with ⟨i, t, rfl, rfl⟩ | ⟨x, t, rfl, rfl⟩
    · rcases keyIs_shape hv with ⟨j, u, rfl, rfl⟩ | ⟨y, u, rfl, rfl⟩
      · rw [key_ll] at h; exact wpAny_eqBool_int h
      · rw [key_lr] at h; exact SeqAt.EqAt.int_str i t y u _ _ _ _ h
    · rcases keyIs_shape hv with ⟨j, u, rfl, rfl⟩ | ⟨y, u, rfl, rfl⟩
      · rw [key_rl] at h; exact SeqAt.EqAt.str_int x t j u _ _ _ _ h
      · rw [key_rr] at h; exact wpAny_eqBool_str h
  «strs» := fun k x t v h => by
    rcases keyIs_shape h with ⟨i, u, rfl, e⟩ | ⟨y, u, rfl, e⟩
    · exact nomatch e
    · injection e with e1 _
      subst e1
      cases v <;> rfl
end L2
namespace L2
open PySem PySem.Spec PyProof.Rows
inductive V where
  | non | bl (b : Bool) | int (i : Int) | str (x : Str) | byt (b : Array UInt8) | flt (b : UInt64) | ref (a : Addr) | ty (n : String)
  deriving DecidableEq
noncomputable def RelV : V → Value → Prop
  | .non, u => u = Value.none
  | .bl b, u => u = Value.bool b
  | .int i, u => ∃ t, u = Value.int i t
  | .str x, u => ∃ t, u = Value.str x t
  | .byt b, u => ∃ t, u = Value.bytes b t
  | .flt b, u => ∃ t, u = Value.float b t
  | .ref a, u => u = Value.ref a
  | .ty n, u => u = Value.type n
noncomputable abbrev Vals : List V → List Value → Prop := Paired RelV
theorem Vals.length {xs : List V} {us : List Value} (r : Vals xs us) : xs.length = us.length := Paired.length r
theorem Vals.get : ∀ {xs : List V} {us : List Value} {i : Nat} {x : V}, Vals xs us → xs[i]? = some x → ∃ u, us[i]? = some u ∧ RelV x u
  | _, _, _, _, .nil, e => by simp at e
  | _, _, 0, _, .cons r _, e => by simp at e; subst e; exact ⟨_, rfl, r⟩
  | _, _, i + 1, x, .cons _ t, e => by
    obtain ⟨u, h1, h2⟩ := Vals.get (i := i) (x := x) t (by simpa using e)
    exact ⟨u, by simpa using h1, h2⟩
theorem Vals.set {x : V} {u : Value} (r : RelV x u) : ∀ {xs : List V} {us : List Value} (i : Nat), Vals xs us → Vals (xs.set i x) (us.set i u)
  | _, _, _, .nil => .nil
  | _, _, 0, .cons _ t => .cons r t
  | _, _, i + 1, .cons q t => .cons q (Vals.set r i t)
theorem Vals.append {xs ys : List V} {us ws : List Value} (a : Vals xs us) (s : Vals ys ws) : Vals (xs ++ ys) (us ++ ws) := by
  induction a with
  | nil => exact s
  | cons r _ ih => exact .cons r ih
theorem Vals.take : ∀ {xs : List V} {us : List Value} (n : Nat), Vals xs us → Vals (xs.take n) (us.take n)
  | _, _, 0, _ => .nil
  | _, _, _ + 1, .nil => .nil
  | _, _, n + 1, .cons r t => .cons r (Vals.take n t)
theorem Vals.drop : ∀ {xs : List V} {us : List Value} (n : Nat), Vals xs us → Vals (xs.drop n) (us.drop n)
  | _, _, 0, r => r
  | _, _, _ + 1, .nil => .nil
  | _, _, n + 1, .cons _ t => Vals.drop n t
noncomputable def RelO : Option V → Option Value → Prop
  | some v, some u => RelV v u
  | none, none => True
  | _, _ => False
noncomputable def KV {κ : Type} : List (κ × V) → List (κ × Value) → Prop := Paired fun (p : κ × V) (q : κ × Value) => p.1 = q.1 ∧ RelV p.2 q.2
noncomputable def kV : Key → V
  | .inl i => .int i
  | .inr x => .str x
inductive HO where
    | lst (xs : List V)
    | tup (xs : List V)
    | dK (kvs : List (Key × V)) | dT (kvs : List (List Key × V))
    | set (S : Int → Bool) (n : Nat)
    | ins (C dx : Addr) (fs : List (Str × V))
    | own (x : Addr)
    | xd (fs : List (Str × V))
    | met (f x : Addr)
    | rng (lo hi : Int)
    | frz (o : Obj) (u : HO)
    | tbl (ps : Array Value)
    | ext (φ : Heap → Prop)
noncomputable abbrev Hp := Addr → Option HO
noncomputable def upd (H : Hp) (a : Addr) (o : HO) : Hp := fun b => if b = a then some o else H b
theorem upd_same {H : Hp} {a : Addr} {o : HO} : upd H a o a = some o := by unfold upd; rw [if_pos rfl]
theorem upd_ne {H : Hp} {a b : Addr} {o : HO} (h : b ≠ a) : upd H a o b = H b := by unfold upd; rw [if_neg h]
theorem upd_upd {H : Hp} {a : Addr} {o u : HO} : upd (upd H a o) a u = upd H a u := by
  funext b; unfold upd; split <;> rfl
theorem ne_of_none {H : Hp} {a b : Addr} {o : HO} (h : H a = some o) (h' : H b = none) : a ≠ b := by
  intro e; subst e; rw [h] at h'; cases h'
noncomputable def InsO (h : Heap) (a C dx : Addr) : Prop := ∃ dt sl, h.get? a = some ⟨.ref C, some dx, dt, sl⟩ ∧ ∀ c, dt ≠ .cls c
section
variable (P : Program) (w : World)
noncomputable def ObjOk (H : Hp) (h : Heap) (a : Addr) : HO → Prop
  | .lst xs => xs.length ≤ sizeLine ∧ ∃ (its : List Value) (n : Nat), Vals xs its ∧ h.get? a = some { cls := .type "list", data := .seq its.toArray n }
  | .tup xs => xs.length ≤ sizeLine ∧ ∃ its : List Value, Vals xs its ∧ IsTup h a its.toArray
  | .dK kvs => kvs.length ≤ sizeLine ∧ (a == sysModules) = false ∧ ∃ vs, KV kvs vs ∧ h.DictOf (mixKind P w) a vs
  | .dT kvs => kvs.length ≤ sizeLine ∧ (a == sysModules) = false ∧ ∃ xs : List (List Key × Addr × Value),
      Paired (fun (p : List Key × V) (q : List Key × Addr × Value) => p.1 = q.1 ∧ H q.2.1 = some (.tup (p.1.map kV)) ∧ RelV p.2 q.2.2) kvs xs ∧
      ∃ o es ep, h.get? a = some o ∧ o.ExactDict ∧ o.data = .dict es ep ∧ es.toList = xs.map (entryOfKey (tupleKind (mixKind P w))) ∧ (xs.map (·.1)).Nodup
  | .set S n => h.SetOf (intKind P w) a S n
  | .ins C dx fs => H dx = some (.own a) ∧ fs.length ≤ 1000 ∧ dx ≠ a ∧ InsO h a C dx ∧
      ∃ mA, h.Ns1 dx mA ∧ (∀ f, RelO (fs.lookup f) (mA f)) ∧ PySem.Within mA (fs.map (·.1))
  | .own _ => ∃ o, h.get? a = some o
  | .xd fs => ∃ mA, h.Ns1 a mA ∧ ∀ f, RelO (fs.lookup f) (mA f)
  | .rng lo hi => ∃ t u v, h.get? a = some { cls := .type "range", data := .fields #[.int lo t, .int hi u, .int 1 v] }
  | .frz o u => h.get? a = some o ∧ ObjOk H h a u
  | .tbl ps => h.get? a = some { cls := .none, data := .fields ps }
  | .met f x => h.get? a = some (PySem.W.methodObj (.ref f) (.ref x))
  | .ext φ => φ h ∧ (∃ o, h.get? a = some o) ∧ ∀ h1 h2 : Heap, φ h1 → (∀ o, h1.get? a = some o → h2.get? a = some o) → φ h2
noncomputable def HOk (H : Hp) (h : Heap) : Prop := ∀ a o, H a = some o → ObjOk P w H h a o
end
section
variable {P : Program} {w : World} {H H' : Hp} {h h' : Heap} {a : Addr} {o : HO}
theorem ObjOk.lt (x : ObjOk P w H h a o) : a < h.objs.size := by
  cases o with
  | lst xs => obtain ⟨_, _, _, _, e⟩ := x; exact Heap.lt_size e
  | tup xs => obtain ⟨_, _, _, p⟩ := x; exact p.lt
  | dK kvs => obtain ⟨_, _, _, _, o, _, _, e, _⟩ := x; exact Heap.lt_size e
  | dT kvs => obtain ⟨_, _, _, _, o, _, _, e, _⟩ := x; exact Heap.lt_size e
  | set S n => obtain ⟨o, _, _, _, e, _⟩ := x; exact Heap.lt_size e
  | ins C dx fs => obtain ⟨_, _, _, ⟨_, _, e, _⟩, _⟩ := x; exact Heap.lt_size e
  | own y => obtain ⟨_, e⟩ := x; exact Heap.lt_size e
  | xd fs => obtain ⟨_, ⟨_, _, _, e, _⟩, _⟩ := x; exact Heap.lt_size e
  | rng lo hi => obtain ⟨_, _, _, e⟩ := x; exact Heap.lt_size e
  | frz ob u => obtain ⟨e, _⟩ := x; exact Heap.lt_size e
  | tbl ps => exact Heap.lt_size (show h.get? a = some _ from x)
  | met f y => exact Heap.lt_size (show h.get? a = some _ from x)
  | ext φ => obtain ⟨_, ⟨_, e⟩, _⟩ := x; exact Heap.lt_size e
theorem Paired.mapP {α β : Type} {F G : α → β → Prop} {l₁ : List α} {l₂ : List β} (a : Paired F l₁ l₂) (f : ∀ a b, F a b → G a b) : Paired G l₁ l₂ := by
  induction a with
  | nil => exact .nil
  | cons r _ ih => exact .cons (f _ _ r) ih
theorem ObjOk.stay (x : ObjOk P w H h a o) (k : ∀ b u, (b = a ∨ H b = some (.own a)) → h.get? b = some u → h'.get? b = some u)
    (ho : ∀ b, H b = some (.own a) → H' b = some (.own a)) (ht : ∀ b xs, H b = some (.tup xs) → H' b = some (.tup xs)) : ObjOk P w H' h' a o := by
  induction o with
  | lst xs => obtain ⟨z, its, n, r, e⟩ := x; exact ⟨z, its, n, r, k _ _ (.inl rfl) e⟩
  | tup xs => obtain ⟨z, its, r, ob, e, c⟩ := x; exact ⟨z, its, r, ob, k _ _ (.inl rfl) e, c⟩
  | dK kvs => obtain ⟨z, y, vs, r, ob, es, ep, e, c⟩ := x; exact ⟨z, y, vs, r, ob, es, ep, k _ _ (.inl rfl) e, c⟩
  | dT kvs =>
    obtain ⟨z, y, xs, r, ob, es, ep, e, c⟩ := x
    exact ⟨z, y, xs, Paired.mapP r fun p q z => ⟨z.1, ht _ _ z.2.1, z.2.2⟩, ob, es, ep, k _ _ (.inl rfl) e, c⟩
  | set S n => obtain ⟨ob, es, ep, t, e, c⟩ := x; exact ⟨ob, es, ep, t, k _ _ (.inl rfl) e, c⟩
  | ins C dx fs =>
    obtain ⟨d, z, ne, ⟨dt, sl, e, nc⟩, mA, ⟨od, es, ep, e2, c⟩, r⟩ := x
    exact ⟨ho _ d, z, ne, ⟨dt, sl, k _ _ (.inl rfl) e, nc⟩, mA, ⟨od, es, ep, k _ _ (.inr d) e2, c⟩, r⟩
  | own y => obtain ⟨ob, e⟩ := x; exact ⟨ob, k _ _ (.inl rfl) e⟩
  | xd fs => obtain ⟨mA, ⟨od, es, ep, e, c⟩, r⟩ := x; exact ⟨mA, ⟨od, es, ep, k _ _ (.inl rfl) e, c⟩, r⟩
  | rng lo hi => obtain ⟨t, u, v, e⟩ := x; exact ⟨t, u, v, k _ _ (.inl rfl) e⟩
  | frz ob u ih => obtain ⟨e, q⟩ := x; exact ⟨k _ _ (.inl rfl) e, ih q⟩
  | tbl ps =>
    have e : h.get? a = some { cls := .none, data := .fields ps } := x
    show h'.get? a = some { cls := .none, data := .fields ps }
    exact k a _ (.inl rfl) e
  | met f y =>
    have e : h.get? a = some (PySem.W.methodObj (.ref f) (.ref y)) := x
    show h'.get? a = some (PySem.W.methodObj (.ref f) (.ref y))
    exact k a _ (.inl rfl) e
  | ext φ => obtain ⟨p, ⟨o, e⟩, st⟩ := x; exact ⟨st _ _ p fun o q => k _ _ (.inl rfl) q, ⟨o, k _ _ (.inl rfl) e⟩, st⟩
theorem HOk.lt (x : HOk P w H h) (e : H a = some o) : a < h.objs.size := (x a o e).lt
theorem HOk.fresh (x : HOk P w H h) (e : h.objs.size ≤ a) : H a = none := by
  cases q : H a with
  | none => rfl
  | some u => exact absurd (Nat.lt_of_lt_of_le (x.lt q) e) (Nat.lt_irrefl _)
theorem HOk.kept (x : HOk P w H h) (k : ∀ b u, h.get? b = some u → h'.get? b = some u) : HOk P w H h' := fun a o e =>
  (x a o e).stay (fun b u _ q => k b u q) (fun _ q => q) fun _ _ q => q
theorem HOk.laid (x : HOk P w H h) (k : ∀ b u, h.get? b = some u → h'.get? b = some u) (hp : h.objs.size ≤ a) (new : ObjOk P w (upd H a o) h' a o) : HOk P w (upd H a o) h' := fun b u e => by
  have hn := x.fresh hp
  by_cases hb : b = a
  · subst hb; rw [upd_same] at e; cases e; exact new
  · rw [upd_ne hb] at e
    exact (x b u e).stay (fun c v _ q => k c v q) (fun c q => by rw [upd_ne (ne_of_none q hn)]; exact q) fun c xs q => by rw [upd_ne (ne_of_none q hn)]; exact q
end
noncomputable def Rd (H : Hp) (a : Addr) (u : HO) : Prop := H a = some u ∨ ∃ o, H a = some (.frz o u)
theorem Rd.ok {P : Program} {w : World} {H : Hp} {h : Heap} {a : Addr} {u : HO} (r : Rd H a u) (x : HOk P w H h) : ObjOk P w H h a u := by
  rcases r with r | ⟨o, r⟩
  · exact x a u r
  · obtain ⟨_, q⟩ := x a _ r
    exact q
noncomputable def Mut : Option HO → Prop
  | some (.lst _) => True
  | some (.dK _) => True
  | some (.dT _) => True
  | some (.set _ _) => True
  | some (.ins _ _ _) => True
  | some (.ext _) => True
  | _ => False
section
variable {P : Program} {w : World} {H : Hp} {h h' : Heap} {x e : Addr} {o' : HO}
theorem HOk.write (ok : HOk P w H h) (mu : Mut (H x)) (he : e = x ∨ H e = some (.own x)) (k : ∀ b u, b ≠ e → h.get? b = some u → h'.get? b = some u) (heo : ∃ u, h'.get? e = some u)
    (new : ObjOk P w (upd H x o') h' x o') : HOk P w (upd H x o') h' := fun b u q => by
  have nown : ∀ c y, H c = some (.own y) → c ≠ x := fun c y r z => by subst z; rw [r] at mu; exact mu
  have ntup : ∀ c xs, H c = some (.tup xs) → c ≠ x := fun c xs r z => by subst z; rw [r] at mu; exact mu
  by_cases hb : b = x
  · subst hb; rw [upd_same] at q; cases q; exact new
  · rw [upd_ne hb] at q
    by_cases hbe : b = e
    · have q' : H b = some (.own x) := by
        rcases he with z | z
        · exact absurd (hbe.trans z) hb
        · rw [hbe]; exact z
      rw [q] at q'; cases q'
      obtain ⟨v, hv⟩ := heo
      exact ⟨v, by rw [hbe]; exact hv⟩
    · refine (ok b u q).stay (fun c v hc r => k c v ?_ r) (fun c r => by rw [upd_ne (nown c b r)]; exact r) fun c xs r => by rw [upd_ne (ntup c xs r)]; exact r
      rcases hc with rfl | hc
      · exact hbe
      · rintro rfl
        rcases he with z | z
        · exact nown c b hc z
        · rw [hc] at z; cases z; exact hb rfl
end
structure Un (fs ex : List Addr) (H H' : Hp) (h h' : Heap) : Prop where
  keep : ∀ b o, h.get? b = some o → H b = none → b ∉ fs → b ∉ ex → h'.get? b = some o
  slot : ∀ b o, h.get? b = some o → H b = none → b ∈ fs → b ∉ ex → ∃ sl, h'.get? b = some { o with slots := sl }
  free : ∀ b o, h.get? b = some o → H b = none → b ∉ ex → H' b = none
  there : ∀ b o, h.get? b = some o → b ∉ ex → ∃ o', h'.get? b = some o'
  tups : ∀ b xs, H b = some (.tup xs) → H' b = some (.tup xs)
  frzs : ∀ b o u, H b = some (.frz o u) → H' b = some (.frz o u)
  tbls : ∀ b ps, H b = some (.tbl ps) → ∃ more, H' b = some (.tbl (ps ++ more))
section
variable {fs fs' ex ex' : List Addr} {H H1 H2 : Hp} {h h1 h2 h' : Heap} {a x e : Addr} {o : HO}
theorem Un.any (u : Un fs ex H H1 h h1) {b : Addr} {ob : Obj} (q : h.get? b = some ob) (n : H b = none) (hx : b ∉ ex) : ∃ sl, h1.get? b = some { ob with slots := sl } := by
  by_cases hb : b ∈ fs
  · exact u.slot b ob q n hb hx
  · exact ⟨ob.slots, u.keep b ob q n hb hx⟩
theorem Un.kept (k : ∀ b u, h.get? b = some u → h'.get? b = some u) : Un fs ex H H h h' :=
  ⟨fun b ob q _ _ _ => k b ob q, fun b ob q _ _ _ => ⟨ob.slots, k b ob q⟩, fun _ _ _ n _ => n, fun b ob q _ => ⟨ob, k b ob q⟩, fun _ _ q => q, fun _ _ _ q => q, fun _ ps q => ⟨#[], by rw [q]; simp⟩⟩
theorem Un.refl : Un fs ex H H h h := Un.kept fun _ _ q => q
theorem Un.laid (k : ∀ b u, h.get? b = some u → h'.get? b = some u) (hp : h.objs.size ≤ a) (hn : H a = none) : Un fs ex H (upd H a o) h h' where
  keep := fun b u q _ _ _ => k b u q
  slot := fun b u q _ _ _ => ⟨u.slots, k b u q⟩
  free := fun b u q n _ => by rw [upd_ne (Nat.ne_of_lt (Nat.lt_of_lt_of_le (Heap.lt_size q) hp))]; exact n
  there := fun b u q _ => ⟨u, k b u q⟩
  tups := fun b xs q => by rw [upd_ne (ne_of_none q hn)]; exact q
  frzs := fun b u xs q => by rw [upd_ne (ne_of_none q hn)]; exact q
  tbls := fun b ps q => ⟨#[], by rw [upd_ne (ne_of_none q hn), q]; simp⟩
theorem Un.write (mu : Mut (H x)) (he : e = x ∨ H e = some (.own x)) (k : ∀ b u, b ≠ e → h.get? b = some u → h'.get? b = some u) (heo : ∃ u, h'.get? e = some u) : Un fs ex H (upd H x o) h h' := by
  have hx : ∀ b, H b = none → b ≠ x := fun b n z => by subst z; rw [n] at mu; exact mu
  have hb : ∀ b, H b = none → b ≠ e := fun b n z => by
    subst z
    rcases he with r | r
    · exact hx b n r
    · rw [n] at r; cases r
  have hm : ∀ b u, H b = some u → ¬ Mut (some u) → b ≠ x := fun b u q nm z => by subst z; rw [q] at mu; exact nm mu
  refine ⟨fun b u q n _ _ => k b u (hb b n) q, fun b u q n _ _ => ⟨u.slots, k b u (hb b n) q⟩, fun b u q n _ => by rw [upd_ne (hx b n)]; exact n, fun b u q _ => ?_,
    fun b xs q => by rw [upd_ne (hm b _ q fun z => z)]; exact q, fun b u xs q => by rw [upd_ne (hm b _ q fun z => z)]; exact q, fun b ps q => ⟨#[], by rw [upd_ne (hm b _ q fun z => z), q]; simp⟩⟩
  by_cases hbe : b = e
  · subst hbe; exact heo
  · exact ⟨u, k b u hbe q⟩
end
noncomputable def trk (h : Heap) (H : Hp) : List Addr := (List.range h.objs.size).filter fun a => (H a).isSome
noncomputable def hidT (h : Heap) (H : Hp) : Heap := PySem.W.hideAll h (trk h H)
theorem hidT_size (h : Heap) (H : Hp) : (hidT h H).objs.size = h.objs.size := PySem.W.hideAll_size _ _
theorem hidT_get {h : Heap} {H : Hp} {b : Addr} {o : Obj} (e : h.get? b = some o) (n : H b = none) : (hidT h H).get? b = some o :=
  PySem.W.hideAll_get _ e fun hm => by
    have q : (H b).isSome = true := (List.mem_filter.mp hm).2
    rw [n] at q; simp at q
theorem of_hidT {h : Heap} {H : Hp} {b : Addr} {o : Obj} (e : (hidT h H).get? b = some o) : h.get? b = some o ∧ H b = none := by
  have e' : h.get? b = some o := PySem.W.of_hideAll (trk h H) e
  refine ⟨e', ?_⟩
  cases q : H b with
  | none => rfl
  | some x =>
    have hm : b ∈ trk h H := List.mem_filter.mpr ⟨List.mem_range.mpr (Heap.lt_size e'), by simp [q]⟩
    have z : (hidT h H).get? b = none := PySem.W.hideAll_none (trk h H) hm
    rw [z] at e; cases e
end L2
namespace L2
open PySem PySem.Spec PyProof.Rows
structure Mod (K : PySem.W.Frag) (mg : Str → Option Value) (base : Heap) : Prop where
  kin : K.In base
  glob : base.Ns mainGlobals mg
  blt : ∃ mb, base.Ns builtinsNs mb ∧ ∀ x : Str, x ≠ "__name__" → mb x = bootBuiltins x
  nolimit : base.NoLimit
structure Cx where
  prog : Program
  w : World
  K : PySem.W.Frag
  mg : Str → Option Value
  base : Heap
  A : Around
  N : List Str
  s₀ : Shared
  H₀ : Hp
  env : Env
  outer : List Env
  stack : List Env
  ex : List Addr
  fn : Str → Bool
  calm : Bool
  pn : List (Addr × Obj)
  xe : Value → Shared → Prop
noncomputable def frs (l : List Env) : List Addr := l.filterMap (·.frame)
noncomputable abbrev Cx.fs (X : Cx) : List Addr := frs X.outer
noncomputable def Vis (sc : Scope) (x : Str) : Prop := sc.names.lookup x = some .local ∨ sc.names.lookup x = some .cell ∨ sc.names.lookup x = some .free
noncomputable def Loc (sc : Scope) (x : Str) : Prop := sc.names.lookup x = some .local ∨ sc.names.lookup x = some .cell
noncomputable def Look (env : Env) (h : Heap) (m : Str → Option Value) (x : Str) (u : Value) : Prop :=
  (env.kindOf x = some .local ∧ m x = some u) ∨ ((env.kindOf x = some .cell ∨ env.kindOf x = some .free) ∧ ∃ c, env.cells.lookup x = some c ∧ h.IsCell c (some u))
structure Cx.Ok (X : Cx) : Prop where
  mod : Mod X.K X.mg X.base
  kind : X.env.scope.kind = .function
  glob : X.env.globals = mainGlobals
  blt : X.env.builtins = builtinsNs
  above : X.s₀.heap.objs.size ≤ X.env.locals
  inj : ∀ x y c, X.env.cells.lookup x = some c → X.env.cells.lookup y = some c → x = y
  has : ∀ x, (X.env.kindOf x = some .cell ∨ X.env.kindOf x = some .free) → ∃ c, X.env.cells.lookup x = some c
  cab : ∀ x c, X.fn x = true → X.env.cells.lookup x = some c → X.s₀.heap.objs.size ≤ c
  hd : X.calm = true → X.A.handled = none
  frames : X.A.frames = some X.stack
  stk : X.stack = X.outer ∨ (X.stack = X.env :: X.outer ∧ X.env.frame = some X.env.locals)
  exf : ∀ b ∈ X.ex, b ≠ X.env.locals ∧ ∀ x c, X.env.cells.lookup x = some c → c ≠ b
  bs : ∀ b o, X.base.get? b = some o → X.s₀.heap.get? b = some o ∧ X.H₀ b = none
  bsz : X.base.objs.size ≤ X.s₀.heap.objs.size
  noex : ∀ b o, X.base.get? b = some o → b ∉ X.ex
  exfs : ∀ b ∈ X.ex, b ∉ X.fs
  funs : X.s₀.heap.FunFrames X.base X.outer
  frf : ∀ b ∈ X.fs, X.H₀ b = none
structure Inv (X : Cx) (pins : List (Addr × Obj)) (σ : List (Option V)) (H : Hp) (s : Shared) : Prop where
  ok : X.Ok
  os : s.os = X.s₀.os
  bare : AllBare s.gens
  base : Un X.fs X.ex X.H₀ H X.s₀.heap s.heap
  loc : ∃ m, s.heap.Ns X.env.locals m ∧ ∀ (i : Nat) (x : Str) (v : V), X.N[i]? = some x → σ[i]? = some (some v) → Vis X.env.scope x → ∃ u, RelV v u ∧ Look X.env s.heap m x u
  cell : ∀ x c, X.env.cells.lookup x = some c → ∃ v, s.heap.IsCell c v
  free : H X.env.locals = none
  freeC : ∀ x c, X.env.cells.lookup x = some c → H c = none
  pin : ∀ p ∈ X.pn ++ pins, s.heap.get? p.1 = some p.2 ∧ H p.1 = none ∧ p.1 ≠ X.env.locals ∧ p.1 ∉ X.fs ∧ ∀ v, p.2.data ≠ .cell v
  hok : HOk X.prog X.w H s.heap
  len : σ.length = X.N.length
section
variable {X : Cx} {pins : List (Addr × Obj)} {σ : List (Option V)} {H H' : Hp} {s : Shared} {h' : Heap}
theorem Cx.Ok.nofr (ok : X.Ok) {b : Addr} {o : Obj} (e : X.base.get? b = some o) : b ∉ X.fs := fun hb => by
  have := (ok.funs.mem hb).1
  rw [e] at this; cases this
theorem Inv.bs (I : Inv X pins σ H s) : ∀ b o, X.base.get? b = some o → s.heap.get? b = some o ∧ H b = none := fun b o e =>
  ⟨I.base.keep b o (I.ok.bs b o e).1 (I.ok.bs b o e).2 (I.ok.nofr e) (I.ok.noex b o e), I.base.free b o (I.ok.bs b o e).1 (I.ok.bs b o e).2 (I.ok.noex b o e)⟩
theorem Inv.bk (I : Inv X pins σ H s) : ∀ b o, X.base.get? b = some o → s.heap.get? b = some o := fun b o e => (I.bs b o e).1
theorem Inv.mod (I : Inv X pins σ H s) : Mod X.K X.mg X.base := I.ok.mod
theorem Inv.kIn (I : Inv X pins σ H s) : X.K.In s.heap := I.ok.mod.kin.keeps I.bk
theorem Inv.lt (I : Inv X pins σ H s) : X.env.locals < s.heap.objs.size := let ⟨_, hn, _⟩ := I.loc; hn.lt
theorem Inv.sz (I : Inv X pins σ H s) : X.s₀.heap.objs.size ≤ s.heap.objs.size := Nat.le_trans I.ok.above (Nat.le_of_lt I.lt)
theorem Inv.nofs (I : Inv X pins σ H s) {a : Addr} (h : s.heap.objs.size ≤ a) : a ∉ X.fs := fun hb => by
  obtain ⟨_, o, ho, _⟩ := I.ok.funs.mem hb
  exact absurd (Nat.lt_of_lt_of_le (Heap.lt_size ho) (Nat.le_trans I.sz h)) (Nat.lt_irrefl _)
theorem Inv.cne (I : Inv X pins σ H s) : ∀ x c, X.env.cells.lookup x = some c → c ≠ X.env.locals := fun x c e z => by
  obtain ⟨v, o, ho, hd⟩ := I.cell x c e
  obtain ⟨m, ⟨o', es, ep, ho', hd', _⟩, _⟩ := I.loc
  rw [z, ho'] at ho; cases ho; rw [hd'] at hd; cases hd
theorem Inv.funs (I : Inv X pins σ H s) : s.heap.FunFrames X.base X.outer := by
  have all : ∀ (l : List Env), (∀ b ∈ frs l, b ∈ X.fs) → X.s₀.heap.FunFrames X.base l → s.heap.FunFrames X.base l := by
    intro l
    induction l with
    | nil => intro _ _; trivial
    | cons env r ih =>
      intro hs hl
      obtain ⟨hk, ⟨L, o, hf, hn, ho, hd⟩, hr⟩ := hl
      have hL : L ∈ X.fs := hs L (by unfold frs; rw [List.filterMap_cons, hf]; exact List.mem_cons_self)
      obtain ⟨sl, e⟩ := I.base.slot L o ho (I.ok.frf L hL) hL fun z => I.ok.exfs L z hL
      exact ⟨hk, ⟨L, _, hf, hn, e, hd⟩, ih (fun b hb => hs b (by unfold frs; rw [List.filterMap_cons, hf]; exact List.mem_cons_of_mem _ hb)) hr⟩
  exact all X.outer (fun _ hb => hb) I.ok.funs
theorem Inv.stack (I : Inv X pins σ H s) : s.heap.FunFrames X.base X.stack := by
  rcases I.ok.stk with e | ⟨e, hf⟩
  · rw [e]; exact I.funs
  · rw [e]
    obtain ⟨m, hn, _⟩ := I.loc
    refine .cons (by rw [I.ok.kind]; decide) hf hn ?_ I.funs
    exact Heap.get?_none_of_le (Nat.le_trans I.ok.bsz I.ok.above)
theorem Inv.stkSub (I : Inv X pins σ H s) : ∀ b ∈ frs X.stack, b ∈ X.env.locals :: X.fs := fun b hb => by
  rcases I.ok.stk with e | ⟨e, hf⟩
  · rw [e] at hb; exact List.mem_cons_of_mem _ hb
  · rw [e] at hb
    unfold frs at hb
    rw [List.filterMap_cons, hf] at hb
    exact hb
theorem Inv.stkFree (I : Inv X pins σ H s) : ∀ b ∈ frs X.stack, H b = none := fun b hb => by
  rcases List.mem_cons.mp (I.stkSub b hb) with e | hb
  · rw [e]; exact I.free
  · obtain ⟨_, o, ho, _⟩ := I.ok.funs.mem hb
    exact I.base.free b o ho (I.ok.frf b hb) fun z => I.ok.exfs b z hb
theorem Inv.step {g' : Array GenState} {t' : Nat} {d' : Drawn} {ch : List Addr} (I : Inv X pins σ H s)
    (hch : ∀ b ∈ ch, (b ∈ X.ex ∨ X.s₀.heap.objs.size ≤ b) ∧ b ≠ X.env.locals ∧ (∀ x c, X.env.cells.lookup x = some c → c ≠ b) ∧ ∀ p ∈ X.pn ++ pins, p.1 ≠ b)
    (keep : ∀ b o, b ≠ X.env.locals → b ∉ X.fs → b ∉ ch → s.heap.get? b = some o → H b = none → h'.get? b = some o)
    (slot : ∀ b o, b ≠ X.env.locals → b ∈ X.fs → b ∉ ch → s.heap.get? b = some o → H b = none → ∃ sl, h'.get? b = some { o with slots := sl }) (free : ∀ b o, b ∉ ch → s.heap.get? b = some o → H b = none → H' b = none)
    (there : ∀ b o, b ∉ ch → s.heap.get? b = some o → ∃ o', h'.get? b = some o')
    (tups : ∀ b xs, H b = some (.tup xs) → H' b = some (.tup xs)) (frzs : ∀ b o u, H b = some (.frz o u) → H' b = some (.frz o u)) (tbls : ∀ b ps, H b = some (.tbl ps) → ∃ more, H' b = some (.tbl (ps ++ more)))
    (ns : ∀ m, s.heap.Ns X.env.locals m → h'.Ns X.env.locals m) (hok : HOk X.prog X.w H' h') (hg : AllBare g') :
    Inv X pins σ H' { s with heap := h', gens := g', drawn := d', toks := t' } := by
  have neL : ∀ b o, X.s₀.heap.get? b = some o → b ≠ X.env.locals := fun b o e => Nat.ne_of_lt (Nat.lt_of_lt_of_le (Heap.lt_size e) I.ok.above)
  have neC : ∀ b o, X.s₀.heap.get? b = some o → b ∉ X.ex → b ∉ ch := fun b o e hx hb => by
    rcases (hch b hb).1 with z | z
    · exact hx z
    · exact absurd (Nat.lt_of_lt_of_le (Heap.lt_size e) z) (Nat.lt_irrefl _)
  have cellK : ∀ x c, X.env.cells.lookup x = some c → ∀ v, s.heap.IsCell c v → h'.IsCell c v := fun x c e v ⟨o, ho, hd⟩ => by
    have nch : c ∉ ch := fun z => (hch c z).2.2.1 x c e rfl
    by_cases hc : c ∈ X.fs
    · obtain ⟨sl, q⟩ := slot c o (I.cne x c e) hc nch ho (I.freeC x c e)
      exact ⟨_, q, hd⟩
    · exact ⟨o, keep c o (I.cne x c e) hc nch ho (I.freeC x c e), hd⟩
  refine ⟨I.ok, I.os, hg, ⟨fun b o e n hb hx => ?_, fun b o e n hb hx => ?_, fun b o e n hx => ?_, fun b o e hx => ?_, fun b xs e => tups b xs (I.base.tups b xs e), fun b o xs e => frzs b o xs (I.base.frzs b o xs e), fun b ps e => ?_⟩, ?_, fun x c e => ?_, ?_, fun x c e => ?_, fun p hp => ?_, hok, I.len⟩
  · exact keep b o (neL b o e) hb (neC b o e hx) (I.base.keep b o e n hb hx) (I.base.free b o e n hx)
  · obtain ⟨sl, e1⟩ := I.base.slot b o e n hb hx
    obtain ⟨sl', e2⟩ := slot b _ (neL b o e) hb (neC b o e hx) e1 (I.base.free b o e n hx)
    exact ⟨sl', e2⟩
  · obtain ⟨o', e1⟩ := I.base.there b o e hx
    exact free b o' (neC b o e hx) e1 (I.base.free b o e n hx)
  · obtain ⟨o', e1⟩ := I.base.there b o e hx
    exact there b o' (neC b o e hx) e1
  · obtain ⟨m1, e1⟩ := I.base.tbls b ps e
    obtain ⟨m2, e2⟩ := tbls b _ e1
    exact ⟨m1 ++ m2, by rw [e2, Array.append_assoc]⟩
  · obtain ⟨m, hn, hl⟩ := I.loc
    refine ⟨m, ns m hn, fun i x v e1 e2 e3 => ?_⟩
    obtain ⟨u, r, l⟩ := hl i x v e1 e2 e3
    refine ⟨u, r, ?_⟩
    rcases l with l | ⟨k, c, e, z⟩
    · exact .inl l
    · exact .inr ⟨k, c, e, cellK x c e _ z⟩
  · obtain ⟨v, z⟩ := I.cell x c e
    exact ⟨v, cellK x c e v z⟩
  · obtain ⟨m, ⟨o, _, _, ho, _⟩, _⟩ := I.loc
    exact free _ o (fun z => (hch _ z).2.1 rfl) ho I.free
  · obtain ⟨v, o, ho, hd⟩ := I.cell x c e
    exact free c o (fun z => (hch c z).2.2.1 x c e rfl) ho (I.freeC x c e)
  · obtain ⟨e, n, ne, nf, d⟩ := I.pin p hp
    have nch : p.1 ∉ ch := fun z => (hch p.1 z).2.2.2 p hp rfl
    exact ⟨keep p.1 p.2 ne nf nch e n, free p.1 p.2 nch e n, ne, nf, d⟩
theorem Inv.un {t' : Nat} (I : Inv X pins σ H s) (u : Un X.fs [] H H' s.heap h') (hok : HOk X.prog X.w H' h') : Inv X pins σ H' { s with heap := h', toks := t' } := by
  obtain ⟨m, ⟨o, es, ep, ho, r⟩, _⟩ := id I.loc
  obtain ⟨sl, hL⟩ := u.any ho I.free (by simp)
  exact I.step (g' := s.gens) (d' := s.drawn) (ch := []) (fun _ z => nomatch z) (fun b o _ hb _ e n => u.keep b o e n hb (by simp)) (fun b o _ hb _ e n => u.slot b o e n hb (by simp)) (fun b o _ e n => u.free b o e n (by simp)) (fun b o _ e => u.there b o e (by simp)) u.tups u.frzs u.tbls (fun m' hm => by
    obtain ⟨o', es', ep', ho', r'⟩ := hm
    rw [ho] at ho'; cases ho'
    exact ⟨_, es', ep', hL, r'⟩) hok I.bare
theorem Inv.call {g' : Array GenState} {t' : Nat} {d' : Drawn} {ch : List Addr} (I : Inv X pins σ H s) (u : Un (frs X.stack) ch H H' s.heap h') (hok : HOk X.prog X.w H' h') (hg : AllBare g')
    (hch : ∀ b ∈ ch, (b ∈ X.ex ∨ X.s₀.heap.objs.size ≤ b) ∧ b ≠ X.env.locals ∧ (∀ x c, X.env.cells.lookup x = some c → c ≠ b) ∧ ∀ p ∈ X.pn ++ pins, p.1 ≠ b) :
    Inv X pins σ H' { s with heap := h', gens := g', drawn := d', toks := t' } := by
  obtain ⟨m, ⟨o, es, ep, ho, r⟩, _⟩ := id I.loc
  obtain ⟨sl, hL⟩ := u.any ho I.free fun z => (hch _ z).2.1 rfl
  exact I.step (ch := ch) hch (fun b o hL hb hc e n => u.keep b o e n (fun z => (List.mem_cons.mp (I.stkSub b z)).elim hL hb) hc) (fun b o _ _ hc e n => u.any e n hc) (fun b o hc e n => u.free b o e n hc) (fun b o hc e => u.there b o e hc) u.tups u.frzs u.tbls (fun m' hm => by
    obtain ⟨o', es', ep', ho', r'⟩ := hm
    rw [ho] at ho'; cases ho'
    exact ⟨_, es', ep', hL, r'⟩) hok hg
theorem Inv.turned {t' : Nat} {it : Addr} (I : Inv X pins σ H s) (k : ∀ b o, b ≠ it → s.heap.get? b = some o → h'.get? b = some o) (hn : H it = none) (hL : it ≠ X.env.locals)
    (h1 : it ∈ X.ex ∨ X.s₀.heap.objs.size ≤ it) (h2 : ∀ x c, X.env.cells.lookup x = some c → c ≠ it) (h3 : ∀ p ∈ X.pn ++ pins, p.1 ≠ it) : Inv X pins σ H { s with heap := h', toks := t' } := by
  have nit : ∀ b u, H b = some u → b ≠ it := fun b u e z => by rw [z, hn] at e; cases e
  refine I.step (g' := s.gens) (d' := s.drawn) (ch := [it]) (fun b hb => ?_) (fun b o _ _ hc e _ => k b o (fun z => hc (by simp [z])) e) (fun b o _ _ hc e _ => ⟨o.slots, k b o (fun z => hc (by simp [z])) e⟩) (fun _ _ _ _ n => n)
    (fun b o hc e => ⟨o, k b o (fun z => hc (by simp [z])) e⟩) (fun _ _ e => e) (fun _ _ _ e => e) (fun b ps e => ⟨#[], by rw [e]; simp⟩) (fun m hm => ?_) (fun b u e => ?_) I.bare
  · have e : b = it := by simpa using hb
    subst e
    exact ⟨h1, hL, h2, h3⟩
  · obtain ⟨o, es, ep, ho, r⟩ := hm
    exact ⟨o, es, ep, k _ o (Ne.symm hL) ho, r⟩
  · refine (I.hok b u e).stay (fun c v hc q => k c v ?_ q) (fun _ q => q) fun _ _ q => q
    rcases hc with z | z
    · rw [z]; exact nit b u e
    · exact nit c _ z
theorem Inv.tok (I : Inv X pins σ H s) (t : Nat) : Inv X pins σ H { s with toks := t } := I.un (h' := s.heap) (t' := t) Un.refl I.hok
theorem Inv.kept {t' : Nat} (I : Inv X pins σ H s) (k : ∀ b u, s.heap.get? b = some u → h'.get? b = some u) : Inv X pins σ H { s with heap := h', toks := t' } := I.un (Un.kept k) (I.hok.kept k)
theorem Inv.laid {a : Addr} {o : HO} {t' : Nat} (I : Inv X pins σ H s) (k : ∀ b u, s.heap.get? b = some u → h'.get? b = some u) (hp : s.heap.objs.size ≤ a) (new : ObjOk X.prog X.w (upd H a o) h' a o) :
    Inv X pins σ (upd H a o) { s with heap := h', toks := t' } := I.un (Un.laid k hp (I.hok.fresh hp)) (I.hok.laid k hp new)
theorem Inv.write {x e : Addr} {o : HO} {t' : Nat} (I : Inv X pins σ H s) (mu : Mut (H x)) (he : e = x ∨ H e = some (.own x)) (k : ∀ b u, b ≠ e → s.heap.get? b = some u → h'.get? b = some u) (heo : ∃ u, h'.get? e = some u)
    (new : ObjOk X.prog X.w (upd H x o) h' x o) : Inv X pins σ (upd H x o) { s with heap := h', toks := t' } := I.un (Un.write mu he k heo) (I.hok.write mu he k heo new)
theorem Inv.weak {σ' : List (Option V)} (I : Inv X pins σ H s) (hl : σ'.length = σ.length) (w : ∀ (i : Nat) v, σ'[i]? = some (some v) → σ[i]? = some (some v)) : Inv X pins σ' H s :=
  ⟨I.ok, I.os, I.bare, I.base, let ⟨m, hn, hl'⟩ := I.loc; ⟨m, hn, fun i x v e1 e2 e3 => hl' i x v e1 (w i v e2) e3⟩, I.cell, I.free, I.freeC, I.pin, I.hok, hl.trans I.len⟩
theorem Inv.pins_of {pins' : List (Addr × Obj)} (I : Inv X pins σ H s) (h : ∀ p ∈ pins', s.heap.get? p.1 = some p.2 ∧ H p.1 = none ∧ p.1 ≠ X.env.locals ∧ p.1 ∉ X.fs ∧ ∀ v, p.2.data ≠ .cell v) : Inv X pins' σ H s :=
  ⟨I.ok, I.os, I.bare, I.base, I.loc, I.cell, I.free, I.freeC, fun p hp => (List.mem_append.mp hp).elim (fun z => I.pin p (List.mem_append_left _ z)) (h p), I.hok, I.len⟩
theorem nodup_ix {N : List Str} (hN : N.Nodup) {i j : Nat} {x : Str} (a : N[i]? = some x) (b : N[j]? = some x) : i = j := by
  obtain ⟨h1, e1⟩ := List.getElem?_eq_some_iff.mp a
  obtain ⟨h2, e2⟩ := List.getElem?_eq_some_iff.mp b
  exact (List.getElem_inj hN).mp (e1.trans e2.symm)
theorem store_ok2 {M : Model} {A : Around} {E : Value → Shared → Prop} {i : Nat} {x : Str} {v : V} {u : Value} {Q : Unit → Shared → Prop} (I : Inv X pins σ H s) (hN : X.N.Nodup) (hi : X.N[i]? = some x) (hx : Loc X.env.scope x) (r : RelV v u)
    (h : ∀ s', Inv X pins (σ.set i (some v)) H s' → (∃ a, Heap.SameBut a s.heap s'.heap ∧ (a = X.env.locals ∨ X.env.cells.lookup x = some a)) → Q () s') (hf : X.fn x = true ∨ X.env.scope.names.lookup x = some .local := by first | exact .inl rfl | exact .inr rfl | assumption) : wpAny M A (storeName X.env x u) Q E s := by
  obtain ⟨m, hn, hl⟩ := id I.loc
  have hcls : (X.env.scope.kind == .class || (X.env.scope.kind == .module && X.env.locals != X.env.globals)) = false := by rw [I.ok.kind]; rfl
  have hiσ : i < σ.length := by rw [I.len]; exact (List.getElem?_eq_some_iff.mp hi).1
  have cne := I.cne
  have tracked : ∀ {a : Addr} {h' : Heap}, (∃ o, s.heap.get? a = some o ∧ H a = none) → Heap.SameBut a s.heap h' → HOk X.prog X.w H h' := fun {a h'} ha hs b ob e => by
    obtain ⟨_, _, hfree⟩ := ha
    refine (I.hok b ob e).stay (fun c w' hc q => (hs.2 c ?_).trans q) (fun _ q => q) fun _ _ q => q
    rintro rfl
    rcases hc with rfl | hc
    · rw [hfree] at e; cases e
    · rw [hfree] at hc; cases hc
  rcases hx with hk | hk
  · refine wpAny_storeName_local hk hn (fun h' hn' hs => ?_) hcls
    obtain ⟨oL, _, _, hoL, _⟩ := id hn
    refine h _ ⟨I.ok, I.os, I.bare, ⟨fun b o e n hb hx => ?_, fun b o e n hb hx => ?_, I.base.free, fun b o e hx => ?_, I.base.tups, I.base.frzs, I.base.tbls⟩, ⟨_, hn', fun j y v' e1 e2 e3 => ?_⟩, fun y c e => ?_, I.free, I.freeC, fun p hp => ?_, tracked ⟨oL, hoL, I.free⟩ hs, by simpa using I.len⟩ ⟨_, hs, .inl rfl⟩
    · exact (hs.2 b (Nat.ne_of_lt (Nat.lt_of_lt_of_le (Heap.lt_size e) I.ok.above))).trans (I.base.keep b o e n hb hx)
    · obtain ⟨sl, e1⟩ := I.base.slot b o e n hb hx
      exact ⟨sl, (hs.2 b (Nat.ne_of_lt (Nat.lt_of_lt_of_le (Heap.lt_size e) I.ok.above))).trans e1⟩
    · obtain ⟨o', e1⟩ := I.base.there b o e hx
      exact ⟨o', (hs.2 b (Nat.ne_of_lt (Nat.lt_of_lt_of_le (Heap.lt_size e) I.ok.above))).trans e1⟩
    · by_cases hj : j = i
      · subst hj
        rw [hi] at e1; cases e1
        rw [List.getElem?_set_self hiσ] at e2
        cases e2
        exact ⟨u, r, .inl ⟨hk, by simp⟩⟩
      · rw [List.getElem?_set_ne (Ne.symm hj)] at e2
        obtain ⟨u', r', q⟩ := hl j y v' e1 e2 e3
        refine ⟨u', r', ?_⟩
        rcases q with ⟨k, e⟩ | ⟨k, c, e, z⟩
        · refine .inl ⟨k, ?_⟩
          have : y ≠ x := fun e => hj (nodup_ix hN e1 (e ▸ hi))
          simp [this, e]
        · exact .inr ⟨k, c, e, z.sameBut hs (cne y c e)⟩
    · obtain ⟨w', z⟩ := I.cell y c e
      exact ⟨w', z.sameBut hs (cne y c e)⟩
    · obtain ⟨e, n, ne, nf, d⟩ := I.pin p hp
      exact ⟨(hs.2 p.1 ne).trans e, n, ne, nf, d⟩
  · have hfn : X.fn x = true := by
      rcases hf with z | z
      · exact z
      · rw [z] at hk; cases hk
    obtain ⟨c, hc⟩ := I.ok.has x (.inl hk)
    obtain ⟨w', z⟩ := I.cell x c hc
    refine wpAny_storeName_cell I.ok.kind hk hc z (fun h' hc' hs => ?_)
    obtain ⟨oc, hoc, hocd⟩ := id z
    refine h { s with heap := h' } ⟨I.ok, I.os, I.bare, ⟨fun b o e n hb hx => ?_, fun b o e n hb hx => ?_, I.base.free, fun b o e hx => ?_, I.base.tups, I.base.frzs, I.base.tbls⟩, ⟨m, hn.sameBut hs (Ne.symm (cne x c hc)), fun j y v' e1 e2 e3 => ?_⟩, fun y c' e => ?_, I.free, I.freeC, fun p hp => ?_, tracked ⟨oc, hoc, I.freeC x c hc⟩ hs, by simpa using I.len⟩ ⟨c, hs, .inr hc⟩
    · exact (hs.2 b (Nat.ne_of_lt (Nat.lt_of_lt_of_le (Heap.lt_size e) (I.ok.cab x c hfn hc)))).trans (I.base.keep b o e n hb hx)
    · obtain ⟨sl, e1⟩ := I.base.slot b o e n hb hx
      exact ⟨sl, (hs.2 b (Nat.ne_of_lt (Nat.lt_of_lt_of_le (Heap.lt_size e) (I.ok.cab x c hfn hc)))).trans e1⟩
    · obtain ⟨o', e1⟩ := I.base.there b o e hx
      exact ⟨o', (hs.2 b (Nat.ne_of_lt (Nat.lt_of_lt_of_le (Heap.lt_size e) (I.ok.cab x c hfn hc)))).trans e1⟩
    · by_cases hj : j = i
      · subst hj
        rw [hi] at e1; cases e1
        rw [List.getElem?_set_self hiσ] at e2
        cases e2
        exact ⟨u, r, .inr ⟨.inl hk, c, hc, hc'⟩⟩
      · rw [List.getElem?_set_ne (Ne.symm hj)] at e2
        obtain ⟨u', r', q⟩ := hl j y v' e1 e2 e3
        refine ⟨u', r', ?_⟩
        rcases q with q | ⟨k, c', e, z'⟩
        · exact .inl q
        · refine .inr ⟨k, c', e, z'.sameBut hs ?_⟩
          rintro rfl
          exact hj (nodup_ix hN e1 (I.ok.inj _ _ _ e hc ▸ hi))
    · by_cases hcc : c' = c
      · subst hcc; exact ⟨_, hc'⟩
      · obtain ⟨w2, z2⟩ := I.cell y c' e
        exact ⟨w2, z2.sameBut hs hcc⟩
    · obtain ⟨e, n, ne, nf, d⟩ := I.pin p hp
      refine ⟨(hs.2 p.1 ?_).trans e, n, ne, nf, d⟩
      intro q
      rw [q, hoc] at e
      have q' : oc = p.2 := Option.some.inj e
      exact d w' (by rw [← q']; exact hocd)
theorem store_ok {M : Model} {A : Around} {E : Value → Shared → Prop} {i : Nat} {x : Str} {v : V} {u : Value} {Q : Unit → Shared → Prop} (I : Inv X pins σ H s) (hN : X.N.Nodup) (hi : X.N[i]? = some x) (hx : Loc X.env.scope x) (r : RelV v u)
    (h : ∀ s', Inv X pins (σ.set i (some v)) H s' → Q () s') (hf : X.fn x = true ∨ X.env.scope.names.lookup x = some .local := by first | exact .inl rfl | exact .inr rfl | assumption) : wpAny M A (storeName X.env x u) Q E s :=
  store_ok2 I hN hi hx r (fun s' I' _ => h s' I') hf
theorem Inv.call' {s' : Shared} {ch : List Addr} (I : Inv X pins σ H s) (ho : s'.os = s.os) (u : Un (frs X.stack) ch H H' s.heap s'.heap) (hok : HOk X.prog X.w H' s'.heap) (hg : AllBare s'.gens)
    (hch : ∀ b ∈ ch, (b ∈ X.ex ∨ X.s₀.heap.objs.size ≤ b) ∧ b ≠ X.env.locals ∧ (∀ x c, X.env.cells.lookup x = some c → c ≠ b) ∧ ∀ p ∈ X.pn ++ pins, p.1 ≠ b) : Inv X pins σ H' s' := by
  obtain ⟨h', g', d', t', o'⟩ := s'
  have e : o' = s.os := ho
  subst e
  exact I.call (g' := g') (t' := t') (d' := d') u hok hg hch
end
noncomputable abbrev XK := Value → Option Addr → Hp → Prop
noncomputable abbrev St := List (Option V)
noncomputable abbrev VK := V → Hp → Prop
noncomputable abbrev TE := St → Hp → VK → Prop
noncomputable abbrev TT := St → Hp → (Bool → Hp → Prop) → Prop
noncomputable abbrev TA := St → Hp → (List V → Hp → Prop) → Prop
structure Ends where
  nx : St → Hp → Prop
  rt : VK
  bk : St → Hp → Prop := fun _ _ => False
  ct : St → Hp → Prop := fun _ _ => False
noncomputable abbrev TS := Ends → St → Hp → Prop
noncomputable def EP (X : Cx) (pins : List (Addr × Obj)) (σ : St) (Q : VK) (u : Value) (s' : Shared) : Prop := ∃ v H', Inv X pins σ H' s' ∧ RelV v u ∧ Q v H'
noncomputable def TP (X : Cx) (pins : List (Addr × Obj)) (σ : St) (Q : Bool → Hp → Prop) (b : Bool) (s' : Shared) : Prop := ∃ H', Inv X pins σ H' s' ∧ Q b H'
noncomputable def AP (X : Cx) (pins : List (Addr × Obj)) (σ : St) (Q : List V → Hp → Prop) (us : List Value) (s' : Shared) : Prop := ∃ vs H', Inv X pins σ H' s' ∧ Vals vs us ∧ Q vs H'
noncomputable def SP (X : Cx) (pins : List (Addr × Obj)) (D : Ends) (f : Flow) (s' : Shared) : Prop :=
  match f with
  | .next => ∃ σ' H', Inv X pins σ' H' s' ∧ D.nx σ' H'
  | .brk => ∃ σ' H', Inv X pins σ' H' s' ∧ D.bk σ' H'
  | .cont => ∃ σ' H', Inv X pins σ' H' s' ∧ D.ct σ' H'
  | .ret u => ∃ v σ' H', Inv X pins σ' H' s' ∧ RelV v u ∧ D.rt v H'
noncomputable def PE (X : Cx) (e : Expr) (t : TE) : Prop :=
  ∀ (pins : List (Addr × Obj)) (s : Shared) (σ : St) (H : Hp) (Q : VK), Inv X pins σ H s → t σ H Q → wpAny (model X.prog X.w) X.A (eval e X.env) (EP X pins σ Q) X.xe s
noncomputable def PT (X : Cx) (e : Expr) (t : TT) : Prop :=
  ∀ (pins : List (Addr × Obj)) (s : Shared) (σ : St) (H : Hp) (Q : Bool → Hp → Prop), Inv X pins σ H s → t σ H Q → wpAny (model X.prog X.w) X.A (isTrue e X.env (eval e X.env)) (TP X pins σ Q) X.xe s
noncomputable def PW (X : Cx) (e : Expr) (t : TT) : Prop :=
  ∀ (whole : Sem Value) (pins : List (Addr × Obj)) (s : Shared) (σ : St) (H : Hp) (Q : Bool → Hp → Prop), Inv X pins σ H s → t σ H Q → wpAny (model X.prog X.w) X.A (isTrue e X.env whole) (TP X pins σ Q) X.xe s
theorem PW.pt {X : Cx} {e : Expr} {t : TT} (h : PW X e t) : PT X e t := h _
noncomputable def PA (X : Cx) (es : List Expr) (t : TA) : Prop :=
  ∀ (pos : Pos) (pins : List (Addr × Obj)) (s : Shared) (σ : St) (H : Hp) (Q : List V → Hp → Prop), Inv X pins σ H s → t σ H Q → wpAny (model X.prog X.w) X.A (spliced (backTo pos (starEach es X.env))) (AP X pins σ Q) X.xe s
noncomputable def PS (X : Cx) (st : Stmt) (t : TS) : Prop :=
  ∀ (pins : List (Addr × Obj)) (s : Shared) (σ : St) (H : Hp) (D : Ends), Inv X pins σ H s → t D σ H → wpAny (model X.prog X.w) X.A (exec st X.env) (SP X pins D) X.xe s
noncomputable def PSs (X : Cx) (st : List Stmt) (t : TS) : Prop :=
  ∀ (pins : List (Addr × Obj)) (s : Shared) (σ : St) (H : Hp) (D : Ends), Inv X pins σ H s → t D σ H → wpAny (model X.prog X.w) X.A (execs st X.env) (SP X pins D) X.xe s
theorem thn {α : Type} {t : Sem α} {Q Q' : α → Shared → Prop} {M : Model} {A : Around} {E : Value → Shared → Prop} {s : Shared} (h : wpAny M A t Q E s) (hQ : ∀ a s, Q a s → Q' a s) : wpAny M A t Q' E s := wpAny_mono h hQ fun _ _ x => x
end L2
namespace L2
open PySem PySem.Spec PyProof.Rows
section
variable {X : Cx}
noncomputable def tVar (i : Nat) : TE := fun σ H Q => ∃ v, σ[i]? = some (some v) ∧ Q v H
noncomputable def tC (v : V) : TE := fun _ H Q => Q v H
theorem pe_var {i : Nat} {x : Str} {pos : Pos} (hN : X.N[i]? = some x) (hv : Vis X.env.scope x) (hd : (x == ("__debug__" : Str)) = false := by decide) (hcd : (x == ("__classdict__" : Str)) = false := by decide) : PE X (.Name x pos) (tVar i) := by
  intro pins s σ H Q I h
  obtain ⟨v, e, h⟩ := h
  obtain ⟨m, hn, hl⟩ := I.loc
  obtain ⟨u, r, l⟩ := hl i x v hN e hv
  have fin : EP X pins σ Q u s := ⟨v, H, I, r, h⟩
  rcases l with ⟨hk, hm⟩ | ⟨hk, c, hc, hcell⟩
  · exact wpAny_Name (wpAny_loadName_local I.ok.kind hk hn hm fin) hd
  · rcases hk with hk | hk
    · exact wpAny_Name (wpAny_loadName_cell I.ok.kind hk hc hcell fin) hd
    · exact wpAny_Name (wpAny_loadName_free I.ok.kind hk hc hcell fin hcd) hd
theorem pe_int {i j pos} : PE X (.Constant (.int i) j pos) (tC (.int i)) := fun _ _ _ H _ I h => wpAny_Constant_int ⟨.int i, H, I.tok _, ⟨_, rfl⟩, h⟩
theorem pe_bl {b j pos} : PE X (.Constant (.bool b) j pos) (tC (.bl b)) := fun _ _ _ H _ I h => Constant_bool ⟨.bl b, H, I, rfl, h⟩
theorem pe_non {j pos} : PE X (.Constant .none j pos) (tC .non) := fun _ _ _ H _ I h => Constant_none ⟨.non, H, I, rfl, h⟩
theorem pe_str {x j pos} : PE X (.Constant (.str x) j pos) (tC (.str x)) := fun _ _ _ H _ I h => Calls.Constant_str ⟨.str x, H, I.tok _, ⟨_, rfl⟩, h⟩
noncomputable def Gl (X : Cx) (x : Str) : Prop := X.env.kindOf x = some .globalImplicit
theorem ld_glob {E : Value → Shared → Prop} {pins : List (Addr × Obj)} {s : Shared} {σ : St} {H : Hp} {x : Str} {u : Value} {pos : Pos} {Q : Value → Shared → Prop} (I : Inv X pins σ H s) (hg : Gl X x) (hm : X.mg x = some u) (h : Q u s)
    (hd : (x == ("__debug__" : Str)) = false := by decide) : wpAny (model X.prog X.w) X.A (eval (.Name x pos) X.env) Q E s :=
  Calls.Name_function_global I.ok.kind hg (Calls.loadGlobal_global (by rw [I.ok.glob]; exact I.mod.glob.keeps I.bk) hm h) hd
theorem ld_blt {E : Value → Shared → Prop} {pins : List (Addr × Obj)} {s : Shared} {σ : St} {H : Hp} {x : Str} {u : Value} {pos : Pos} {Q : Value → Shared → Prop} (I : Inv X pins σ H s) (hg : Gl X x) (hm : X.mg x = none) (hv : bootBuiltins x = some u) (h : Q u s)
    (hn : x ≠ "__name__" := by decide) (hd : (x == ("__debug__" : Str)) = false := by decide) : wpAny (model X.prog X.w) X.A (eval (.Name x pos) X.env) Q E s := by
  obtain ⟨mb, h1, h2⟩ := I.mod.blt
  exact Calls.Name_function_global I.ok.kind hg (Calls.loadGlobal_builtin (by rw [I.ok.glob]; exact I.mod.glob.keeps I.bk) hm (by rw [I.ok.blt]; exact h1.keeps I.bk) ((h2 x hn).trans hv) h) hd
theorem pe_glob {x : Str} {v : V} {u : Value} {pos : Pos} (hg : Gl X x) (hm : X.mg x = some u) (r : RelV v u) (hd : (x == ("__debug__" : Str)) = false := by decide) : PE X (.Name x pos) (tC v) :=
  fun _ _ _ H _ I h => ld_glob I hg hm ⟨v, H, I, r, h⟩ hd
theorem pe_bltn {x : Str} {v : V} {u : Value} {pos : Pos} (hg : Gl X x) (hm : X.mg x = none) (hv : bootBuiltins x = some u) (r : RelV v u) (hn : x ≠ "__name__" := by decide) (hd : (x == ("__debug__" : Str)) = false := by decide) : PE X (.Name x pos) (tC v) :=
  fun _ _ _ H _ I h => ld_blt I hg hm hv ⟨v, H, I, r, h⟩ hn hd
variable {a b : Expr} {ta tb : TE} {pos : Pos}
variable {tA tB' : TT} {rest : List Expr}
noncomputable def tAnd (t u : TT) : TT := fun σ H Q => t σ H fun c H1 => if c = true then u σ H1 Q else Q false H1
noncomputable def tOr (t u : TT) : TT := fun σ H Q => t σ H fun c H1 => if c = true then Q true H1 else u σ H1 Q
noncomputable def tNot (t : TT) : TT := fun σ H Q => t σ H fun c H1 => Q (!c) H1
theorem pw_and1 (ha : PT X a tA) : PW X (.BoolOp .And [a] pos) tA := by
  intro wh pins s σ H Q I h
  refine isTrue_and (thn (ha pins s σ H Q I h) fun c s1 e => ?_)
  cases c with
  | true => exact isTrue_and_nil e
  | false => exact e
theorem pw_or1 (ha : PT X a tA) : PW X (.BoolOp .Or [a] pos) tA := by
  intro wh pins s σ H Q I h
  refine isTrue_or (thn (ha pins s σ H Q I h) fun c s1 e => ?_)
  cases c with
  | false => exact isTrue_or_nil e
  | true => exact e
theorem pw_and (ha : PT X a tA) (hb : PW X (.BoolOp .And (b :: rest) pos) tB') : PW X (.BoolOp .And (a :: b :: rest) pos) (tAnd tA tB') := by
  intro wh pins s σ H Q I h
  refine isTrue_and (thn (ha pins s σ H _ I h) fun c s1 z9 => ?_)
  obtain ⟨H1, I1, q1⟩ := z9
  cases c with
  | true => exact hb wh pins s1 σ H1 Q I1 q1
  | false => exact ⟨H1, I1, q1⟩
theorem pw_or (ha : PT X a tA) (hb : PW X (.BoolOp .Or (b :: rest) pos) tB') : PW X (.BoolOp .Or (a :: b :: rest) pos) (tOr tA tB') := by
  intro wh pins s σ H Q I h
  refine isTrue_or (thn (ha pins s σ H _ I h) fun c s1 z9 => ?_)
  obtain ⟨H1, I1, q1⟩ := z9
  cases c with
  | true => exact ⟨H1, I1, q1⟩
  | false => exact hb wh pins s1 σ H1 Q I1 q1
theorem pt_not (ha : PT X a tA) : PT X (.UnaryOp .Not a pos) (tNot tA) := by
  intro pins s σ H Q I h
  exact isTrue_not (ha pins s σ H (fun c H1 => Q (!c) H1) I h)
noncomputable def tAndV (ta tb : TE) : TE := fun σ H Q => ta σ H fun x H1 => ∃ c, x = .bl c ∧ if c = true then tb σ H1 Q else Q (.bl false) H1
noncomputable def tOrV (ta tb : TE) : TE := fun σ H Q => ta σ H fun x H1 => ∃ c, x = .bl c ∧ if c = true then Q (.bl true) H1 else tb σ H1 Q
theorem pe_one {op} {t : TE} (h : PE X a t) : PE X (.BoolOp op [a] pos) t := fun pins s σ H Q I hw => BoolOp_one (h pins s σ H Q I hw)
theorem pe_and (ha : PE X a ta) (hb : PE X (.BoolOp .And (b :: rest) pos) tb) : PE X (.BoolOp .And (a :: b :: rest) pos) (tAndV ta tb) := by
  intro pins s σ H Q I h
  refine BoolOp_and (thn (ha pins s σ H _ I h) fun v s1 z9 => ?_)
  obtain ⟨x, H1, I1, r1, q1⟩ := z9
  obtain ⟨c, rfl, q1⟩ := q1
  cases r1
  refine wpAny_truthy_bool ?_
  cases c with
  | true => exact hb pins s1 σ H1 Q I1 q1
  | false => exact ⟨.bl false, H1, I1, rfl, q1⟩
theorem pe_or (ha : PE X a ta) (hb : PE X (.BoolOp .Or (b :: rest) pos) tb) : PE X (.BoolOp .Or (a :: b :: rest) pos) (tOrV ta tb) := by
  intro pins s σ H Q I h
  refine BoolOp_or (thn (ha pins s σ H _ I h) fun v s1 z9 => ?_)
  obtain ⟨x, H1, I1, r1, q1⟩ := z9
  obtain ⟨c, rfl, q1⟩ := q1
  cases r1
  refine wpAny_truthy_bool ?_
  cases c with
  | false => exact hb pins s1 σ H1 Q I1 q1
  | true => exact ⟨.bl true, H1, I1, rfl, q1⟩
noncomputable def tIf (t : TT) (ta tb : TE) : TE := fun σ H Q => t σ H fun c H1 => if c = true then ta σ H1 Q else tb σ H1 Q
theorem pe_ifExp {c : Expr} (hc : PT X c tA) (ha : PE X a ta) (hb : PE X b tb) : PE X (.IfExp c a b pos) (tIf tA ta tb) := by
  intro pins s σ H Q I h
  refine wpAny_IfExp (thn (hc pins s σ H _ I h) fun d s1 z9 => ?_)
  obtain ⟨H1, I1, q1⟩ := z9
  cases d with
  | true => exact ha pins s1 σ H1 Q I1 q1
  | false => exact hb pins s1 σ H1 Q I1 q1
end
end L2
namespace L2
open PySem PySem.Spec PyProof.Rows
noncomputable def SqL (K : PySem.W.Frag) (H : Hp) (a : Addr) (xs : List V) : Prop :=
  Rd H a (.lst xs) ∨
    ∃ (o : Obj) (its : Array Value) (n : Nat), K.lookup a = some o ∧ o.cls = .type "list" ∧ o.dict = none ∧ o.data = .seq its n ∧ its.size ≤ sizeLine ∧ Vals xs its.toList
noncomputable def SqT (K : PySem.W.Frag) (H : Hp) (a : Addr) (xs : List V) : Prop :=
  Rd H a (.tup xs) ∨
    ∃ (o : Obj) (its : Array Value) (n : Nat), K.lookup a = some o ∧ o.cls = .type "tuple" ∧ o.data = .seq its n ∧ its.size ≤ sizeLine ∧ Vals xs its.toList
noncomputable def absV : Value → Option V
  | .none => some .non
  | .bool b => some (.bl b)
  | .int i _ => some (.int i)
  | .str x _ => some (.str x)
  | .bytes b _ => some (.byt b)
  | .float b _ => some (.flt b)
  | .ref a => some (.ref a)
  | .type n => some (.ty n)
  | _ => none
theorem RelV.abs {x : V} {u : Value} (r : RelV x u) : absV u = some x := by
  cases x with
  | non => cases r; rfl
  | bl _ => cases r; rfl
  | int _ => obtain ⟨t, rfl⟩ := r; rfl
  | str _ => obtain ⟨t, rfl⟩ := r; rfl
  | byt _ => obtain ⟨t, rfl⟩ := r; rfl
  | flt _ => obtain ⟨t, rfl⟩ := r; rfl
  | ref _ => cases r; rfl
  | ty _ => cases r; rfl
theorem RelV.inj {x y : V} {u : Value} (r : RelV x u) (q : RelV y u) : x = y := Option.some.inj (r.abs.symm.trans q.abs)
theorem Vals.inj {xs ys : List V} {us : List Value} (a : Vals xs us) (b : Vals ys us) : xs = ys := by
  induction a generalizing ys with
  | nil => cases b; rfl
  | cons r _ ih =>
    cases b with
    | cons r' t' => rw [r.inj r', ih t']
section
variable {X : Cx} {pins : List (Addr × Obj)} {σ : St} {H : Hp} {s : Shared} {a : Addr} {xs ys : List V}
theorem SqT.of {K : PySem.W.Frag} (h : H a = some (.tup xs)) : SqT K H a xs := .inl (.inl h)
theorem Inv.list (I : Inv X pins σ H s) (h : SqL X.K H a xs) : ∃ its : List Value, Vals xs its ∧ PlainL s.heap a its.toArray ∧ xs.length ≤ sizeLine := by
  rcases h with h | ⟨o, its, n, hk, hc, hd, hs, hz, r⟩
  · obtain ⟨z, its, n, r, e⟩ := h.ok I.hok
    exact ⟨its, r, ⟨_, n, e, rfl, rfl, rfl⟩, z⟩
  · refine ⟨its.toList, r, ⟨o, n, I.kIn a o hk, hc, hd, by simpa using hs⟩, ?_⟩
    have e := r.length
    simp only [Array.length_toList] at e
    omega
theorem Inv.tuple (I : Inv X pins σ H s) (h : SqT X.K H a xs) : ∃ its : List Value, Vals xs its ∧ IsTup s.heap a its.toArray ∧ xs.length ≤ sizeLine := by
  rcases h with h | ⟨o, its, n, hk, hc, hs, hz, r⟩
  · obtain ⟨z, its, r, p⟩ := h.ok I.hok
    exact ⟨its, r, p, z⟩
  · refine ⟨its.toList, r, ⟨o, I.kIn a o hk, hc, n, by simpa using hs⟩, ?_⟩
    have e := r.length
    simp only [Array.length_toList] at e
    omega
theorem Inv.list_inj (I : Inv X pins σ H s) (h : SqL X.K H a xs) (h' : SqL X.K H a ys) : xs = ys := by
  obtain ⟨its, r, ⟨o, n, e, _, _, d⟩, _⟩ := I.list h
  obtain ⟨its', r', ⟨o', n', e', _, _, d'⟩, _⟩ := I.list h'
  rw [e] at e'; cases e'
  rw [d] at d'
  injection d' with d1 _
  have : its = its' := by simpa using congrArg Array.toList d1
  subst this
  exact r.inj r'
theorem Inv.tuple_inj (I : Inv X pins σ H s) (h : SqT X.K H a xs) (h' : SqT X.K H a ys) : xs = ys := by
  obtain ⟨its, r, ⟨o, e, _, n, d⟩, _⟩ := I.tuple h
  obtain ⟨its', r', ⟨o', e', _, n', d'⟩, _⟩ := I.tuple h'
  rw [e] at e'; cases e'
  rw [d] at d'
  injection d' with d1 _
  have : its = its' := by simpa using congrArg Array.toList d1
  subst this
  exact r.inj r'
end
noncomputable abbrev Cx.wish (X : Cx) (E : Value → Shared → Prop) : Cx := { X with xe := E }
noncomputable abbrev Cx.nox (X : Cx) : Cx := X.wish fun _ _ => False
theorem Cx.Ok.wish {X : Cx} (ok : X.Ok) (E : Value → Shared → Prop) : (X.wish E).Ok :=
  ⟨ok.mod, ok.kind, ok.glob, ok.blt, ok.above, ok.inj, ok.has, ok.cab, ok.hd, ok.frames, ok.stk, ok.exf, ok.bs, ok.bsz, ok.noex, ok.exfs, ok.funs, ok.frf⟩
theorem Cx.Ok.unwish {X : Cx} {E : Value → Shared → Prop} (ok : (X.wish E).Ok) : X.Ok :=
  ⟨ok.mod, ok.kind, ok.glob, ok.blt, ok.above, ok.inj, ok.has, ok.cab, ok.hd, ok.frames, ok.stk, ok.exf, ok.bs, ok.bsz, ok.noex, ok.exfs, ok.funs, ok.frf⟩
section
variable {X : Cx} {pins : List (Addr × Obj)} {σ : St} {H : Hp} {s : Shared} {E : Value → Shared → Prop}
theorem Inv.wish (I : Inv X pins σ H s) (E : Value → Shared → Prop) : Inv (X.wish E) pins σ H s := ⟨I.ok.wish E, I.os, I.bare, I.base, I.loc, I.cell, I.free, I.freeC, I.pin, I.hok, I.len⟩
theorem Inv.unwish (I : Inv (X.wish E) pins σ H s) : Inv X pins σ H s := ⟨I.ok.unwish, I.os, I.bare, I.base, I.loc, I.cell, I.free, I.freeC, I.pin, I.hok, I.len⟩
theorem SP.unwish {D : Ends} {f : Flow} {s' : Shared} (h : SP (X.wish E) pins D f s') : SP X pins D f s' := by
  cases f with
  | next => obtain ⟨σ', H', I, q⟩ := h; exact ⟨σ', H', I.unwish, q⟩
  | brk => obtain ⟨σ', H', I, q⟩ := h; exact ⟨σ', H', I.unwish, q⟩
  | cont => obtain ⟨σ', H', I, q⟩ := h; exact ⟨σ', H', I.unwish, q⟩
  | ret u => obtain ⟨v, σ', H', I, r, q⟩ := h; exact ⟨v, σ', H', I.unwish, r, q⟩
theorem PSs.nox {st : List Stmt} {t : TS} (h : PSs X.nox st t) : PSs X st t := fun pins s σ H D I hw =>
  wpAny_mono (h pins s σ H D (I.wish _) hw) (fun _ _ q => q.unwish) fun _ _ z => False.elim z
end
section
variable {X : Cx} {st : Stmt} {rest : List Stmt} {t u : TS} {e : Expr} {te : TE} {pos : Pos}
noncomputable def tNext : TS := fun D σ H => D.nx σ H
noncomputable def tSeq (t u : TS) : TS := fun D σ H => t { D with nx := u D } σ H
theorem pss_nil : PSs X [] tNext := fun _ _ σ H _ I h => wpAny_execs_nil ⟨σ, H, I, h⟩
theorem pss_cons (h1 : PS X st t) (h2 : PSs X rest u) : PSs X (st :: rest) (tSeq t u) := by
  intro pins s σ H D I h
  refine wpAny_execs_cons (thn (h1 pins s σ H { D with nx := u D } I h) fun f s1 q => ?_)
  cases f with
  | next =>
    obtain ⟨σ', H', I', q⟩ := q
    exact h2 pins s1 σ' H' D I' q
  | ret v => exact q
  | brk => exact q
  | cont => exact q
theorem pss_one (h1 : PS X st t) : PSs X [st] t := by
  intro pins s σ H D I h
  refine wpAny_execs_cons (thn (h1 pins s σ H D I h) fun f s1 q => ?_)
  cases f with
  | next => exact wpAny_execs_nil q
  | ret v => exact q
  | brk => exact q
  | cont => exact q
noncomputable def tCont : TS := fun D σ H => D.ct σ H
theorem ps_continue : PS X (.Continue pos) tCont := fun _ _ σ H _ I h => wpAny_Continue ⟨σ, H, I, h⟩
theorem Inv.quiet {pins : List (Addr × Obj)} {σ : St} {H : Hp} {s : Shared} (I : Inv X pins σ H s) : interactive X.env = false := by simp [interactive, I.ok.kind]
noncomputable def tDrop (te : TE) : TS := fun D σ H => te σ H fun _ H1 => D.nx σ H1
theorem ps_expr (he : PE X e te) (hs : swapsWith e none pos.line X.env = pure false := by rfl) : PS X (.Expr e pos) (tDrop te) := by
  intro pins s σ H D I h
  exact wpAny_Expr_any (thn (he pins s σ H _ I h) fun v s1 ⟨x, H1, I1, r1, q1⟩ => ⟨σ, H1, I1, q1⟩) I.quiet hs
noncomputable def tRet (te : TE) : TS := fun D σ H => te σ H D.rt
theorem ps_ret (he : PE X e te) : PS X (.Return (some e) pos) (tRet te) := by
  intro pins s σ H D I h
  exact wpAny_Return_some (thn (he pins s σ H _ I h) fun v s1 ⟨x, H1, I1, r1, q1⟩ => ⟨x, σ, H1, I1, r1, q1⟩)
noncomputable def tIfS (c : TT) (t u : TS) : TS := fun D σ H => c σ H fun b H1 => if b = true then t D σ H1 else u D σ H1
theorem ps_if {c : Expr} {a b : List Stmt} {tc : TT} (hc : PT X c tc) (ha : PSs X a t) (hb : PSs X b u) : PS X (.If c a b pos) (tIfS tc t u) := by
  intro pins s σ H D I h
  refine wpAny_If (thn (hc pins s σ H _ I h) fun d s1 z9 => ?_)
  obtain ⟨H1, I1, q1⟩ := z9
  cases d with
  | true => exact ha pins s1 σ H1 D I1 q1
  | false => exact hb pins s1 σ H1 D I1 q1
end
noncomputable abbrev TG := V → St → Hp → (St → Hp → Prop) → Prop
noncomputable abbrev TGs := List V → St → Hp → (St → Hp → Prop) → Prop
noncomputable def PG (X : Cx) (target : Expr) (t : TG) : Prop :=
  ∀ (pins : List (Addr × Obj)) (s : Shared) (σ : St) (H : Hp) (v : V) (u : Value) (Q : St → Hp → Prop), Inv X pins σ H s → RelV v u → t v σ H Q →
    wpAny (model X.prog X.w) X.A (assign target X.env u) (fun _ s' => ∃ σ' H', Inv X pins σ' H' s' ∧ Q σ' H') X.xe s
noncomputable def PGs (X : Cx) (ts : List Expr) (t : TGs) : Prop :=
  ∀ (pins : List (Addr × Obj)) (s : Shared) (σ : St) (H : Hp) (vs : List V) (us : List Value) (Q : St → Hp → Prop), Inv X pins σ H s → Vals vs us → t vs σ H Q →
    wpAny (model X.prog X.w) X.A (assignInOrder ((assignEach ts X.env).map (·.2)) us) (fun _ s' => ∃ σ' H', Inv X pins σ' H' s' ∧ Q σ' H') X.xe s
noncomputable abbrev TSet := V → V → V → Hp → (Hp → Prop) → Prop
noncomputable def PSet (X : Cx) (t : TSet) : Prop :=
  ∀ (pins : List (Addr × Obj)) (s : Shared) (σ : St) (H : Hp) (o i v : V) (ov iv u : Value) (Q : Hp → Prop), Inv X pins σ H s → RelV o ov → RelV i iv → RelV v u → t o i v H Q →
    wpAny (model X.prog X.w) X.A (setItem ov iv u) (fun _ s' => ∃ H', Inv X pins σ H' s' ∧ Q H') X.xe s
noncomputable abbrev TIp := V → V → Hp → VK → Prop
noncomputable def PIp (X : Cx) (op : Operator) (t : TIp) : Prop :=
  ∀ (pins : List (Addr × Obj)) (s : Shared) (σ : St) (H : Hp) (x y : V) (v u : Value) (Q : VK), Inv X pins σ H s → RelV x v → RelV y u → t x y H Q →
    wpAny (model X.prog X.w) X.A (inplaceOp op v u) (EP X pins σ Q) X.xe s
section
variable {X : Cx} {pos : Pos}
noncomputable def gName (i : Nat) : TG := fun v σ H Q => Q (σ.set i (some v)) H
theorem pg_name {i : Nat} {x : Str} (hN : X.N.Nodup) (hi : X.N[i]? = some x) (hx : Loc X.env.scope x) (hf : X.fn x = true ∨ X.env.scope.names.lookup x = some .local := by first | exact .inl rfl | exact .inr rfl | assumption) : PG X (.Name x pos) (gName i) := by
  intro pins s σ H v u Q I r h
  exact wpAny_assign_Name (store_ok I hN hi hx r (fun s' I' => ⟨_, H, I', h⟩) hf)
noncomputable def gNil : TGs := fun vs σ H Q => vs = [] ∧ Q σ H
noncomputable def gCons (t : TG) (u : TGs) : TGs := fun vs σ H Q => ∃ v r, vs = v :: r ∧ t v σ H fun σ' H' => u r σ' H' Q
theorem pgs_nil : PGs X [] gNil := by
  intro pins s σ H vs us Q I r h
  obtain ⟨e, h⟩ := h
  subst e
  cases r
  exact assignInOrder_nil ⟨σ, H, I, h⟩
theorem pgs_cons {e : Expr} {es : List Expr} {t : TG} {u : TGs} (h1 : PG X e t) (h2 : PGs X es u)
    (hs : (assignEach (e :: es) X.env).map (·.2) = assign e X.env :: (assignEach es X.env).map (·.2) := by rfl) : PGs X (e :: es) (gCons t u) := by
  intro pins s σ H vs us Q I r h
  obtain ⟨v, vr, e1, h⟩ := h
  subst e1
  cases r with
  | cons r rr =>
    rw [hs]
    refine assignInOrder_cons (thn (h1 pins s σ H _ _ _ I r h) fun _ s1 z9 => ?_)
    obtain ⟨σ1, H1, I1, q1⟩ := z9
    exact h2 pins s1 σ1 H1 _ _ Q I1 rr q1
noncomputable def gTup (K : PySem.W.Frag) (n : Nat) (t : TGs) : TG := fun v σ H Q => ∃ a xs, v = .ref a ∧ SqT K H a xs ∧ xs.length = n ∧ t xs σ H Q
theorem pg_tup {es : List Expr} {k : Nat} {t : TGs} {n : Nat} (hc : X.calm = true) (h : PGs X es t)
    (hn : (assignEach es X.env).length = n := by rfl) (hst : (assignEach es X.env).findIdx? (·.1) = none := by rfl) : PG X (.Tuple es k pos) (gTup X.K n t) := by
  intro pins s σ H v u Q I r hw
  obtain ⟨a, xs, e1, hq, hl, hw⟩ := hw
  subst e1
  cases r
  obtain ⟨its, rv, ht, hz⟩ := I.tuple hq
  refine assign_Tuple_tuple (I.ok.hd hc) ht (by simp [hn, ← hl, rv.length]) hst fun h' hx => ?_
  have I1 : Inv X pins σ H { s with heap := h' } := I.kept (t' := s.toks) fun b o e => hx b o (Nat.ne_of_lt (Heap.lt_size e)) e
  exact h pins _ σ H xs _ Q I1 (by simpa using rv) hw
noncomputable def gSub (to ti : TE) (t : TSet) : TG := fun v σ H Q => to σ H fun o H1 => ti σ H1 fun i H2 => t o i v H2 fun H3 => Q σ H3
theorem pg_sub {o i : Expr} {to ti : TE} {t : TSet} (ho : PE X o to) (hi : PE X i ti) (hs : PSet X t)
    (ha : ∀ v, assign (.Subscript o i pos) X.env v = (do
      let ov ← holding [v] (eval o X.env)
      let iv ← holding [v, ov] (eval i X.env)
      standAt pos
      holding [v, ov, iv] (setItem ov iv v)
      release [v, ov, iv] []) := by intro _; rfl) : PG X (.Subscript o i pos) (gSub to ti t) := by
  intro pins s σ H v u Q I r h
  rw [ha]
  refine wpAny_bind (wpAny_holding (thn (ho pins s σ H _ I h) fun ov s1 z9 => ?_))
  obtain ⟨x, H1, I1, r1, q1⟩ := z9
  refine wpAny_bind (wpAny_holding (thn (hi pins s1 σ H1 _ I1 q1) fun iv s2 z9 => ?_))
  obtain ⟨y, H2, I2, r2, q2⟩ := z9
  refine wpAny_bind (wpAny_standAt (wpAny_bind (wpAny_holding (thn (hs pins s2 σ H2 x y v ov iv u _ I2 r1 r2 r q2) fun _ s3 z9 => ?_))))
  obtain ⟨H3, I3, q3⟩ := z9
  exact wpAny_release ⟨σ, H3, I3, q3⟩
noncomputable def tAsg (te : TE) (g : TG) : TS := fun D σ H => te σ H fun x H1 => g x σ H1 D.nx
theorem ps_asg {tg e : Expr} {te : TE} {g : TG} (he : PE X e te) (hg : PG X tg g) (hs : swapsWithSole [tg] e pos.line X.env = pure false := by rfl) (hw : swappedStores [tg] e X.env = pure none := by rfl)
    (h1 : (assignEach [tg] X.env).map (·.2) = [assign tg X.env] := by rfl) : PS X (.Assign [tg] e pos) (tAsg te g) := by
  intro pins s σ H D I h
  refine wpAny_Assign_stores (thn (he pins s σ H _ I h) fun v s1 z9 => ?_) hs hw
  obtain ⟨x, H1, I1, r1, q1⟩ := z9
  rw [h1]
  exact thn (hg pins s1 σ H1 x v _ I1 r1 q1) fun _ s2 q => q
theorem ps_set {i : Nat} {x : Str} {e : Expr} {te : TE} {pos' : Pos} (hN : X.N.Nodup) (hi : X.N[i]? = some x) (hx : Loc X.env.scope x) (he : PE X e te) (hs : swapsWith e (some (.Name x pos')) pos.line X.env = pure false := by rfl) (hf : X.fn x = true ∨ X.env.scope.names.lookup x = some .local := by first | exact .inl rfl | exact .inr rfl | assumption) :
    PS X (.Assign [.Name x pos'] e pos) (tAsg te (gName i)) := by
  intro pins s σ H D I h
  refine wpAny_Assign_Name (thn (he pins s σ H _ I h) fun v s1 z9 => ?_) hs
  obtain ⟨y, H1, I1, r1, q1⟩ := z9
  exact store_ok I1 hN hi hx r1 (fun s2 I2 => ⟨_, H1, I2, q1⟩) hf
noncomputable def tAug (i : Nat) (te : TE) (ti : TIp) : TS := fun D σ H => ∃ x, σ[i]? = some (some x) ∧ te σ H fun y H1 => ti x y H1 fun z H2 => D.nx (σ.set i (some z)) H2
theorem ps_aug {i : Nat} {x : Str} {e : Expr} {te : TE} {op : Operator} {ti : TIp} {pos' : Pos} (hN : X.N.Nodup) (hi : X.N[i]? = some x) (hx : Loc X.env.scope x) (he : PE X e te) (ho : PIp X op ti) (hf : X.fn x = true ∨ X.env.scope.names.lookup x = some .local := by first | exact .inl rfl | exact .inr rfl | assumption) :
    PS X (.AugAssign (.Name x pos') op e pos) (tAug i te ti) := by
  intro pins s σ H D I h
  obtain ⟨v, e1, h⟩ := h
  obtain ⟨m, hn, hl⟩ := I.loc
  have vis : Vis X.env.scope x := by rcases hx with k | k; exact .inl k; exact .inr (.inl k)
  obtain ⟨u, r, l⟩ := hl i x v hi e1 vis
  refine wpAny_AugAssign_Name ?_
  have go : wpAny (model X.prog X.w) X.A (eval e X.env) (fun w s₂ => wpAny (model X.prog X.w) X.A (inplaceOp op u w) (fun r s₃ => wpAny (model X.prog X.w) X.A (storeName X.env x r) (fun _ => SP X pins D .next) X.xe s₃) X.xe s₂) X.xe s := by
    refine thn (he pins s σ H _ I h) fun w s1 z9 => ?_
    obtain ⟨y, H1, I1, r1, q1⟩ := z9
    refine thn (ho pins s1 σ H1 v y u w _ I1 r r1 q1) fun z s2 z9 => ?_
    obtain ⟨zv, H2, I2, r2, q2⟩ := z9
    exact store_ok I2 hN hi hx r2 (fun s3 I3 => ⟨_, H2, I3, q2⟩) hf
  rcases l with ⟨hk, hm⟩ | ⟨hk, c, hc, hcell⟩
  · exact wpAny_loadName_local I.ok.kind hk hn hm go
  · rcases hk with hk | hk
    · exact wpAny_loadName_cell I.ok.kind hk hc hcell go
    · rcases hx with k | k
      · have : X.env.scope.names.lookup x = some .free := hk
        rw [k] at this; cases this
      · have : X.env.scope.names.lookup x = some .free := hk
        rw [k] at this; cases this
noncomputable def ipI (f : Int → Int → Int) : TIp := fun x y H Q => ∃ i j, x = .int i ∧ y = .int j ∧ Q (.int (f i j)) H
theorem ip_add : PIp X .Add (ipI fun i j => i + j) := by
  intro pins s σ H x y v u Q I r1 r2 h
  obtain ⟨i, j, e1, e2, q⟩ := h
  subst e1; subst e2
  obtain ⟨t, rfl⟩ := r1
  obtain ⟨t', rfl⟩ := r2
  exact iadd_int ⟨.int _, H, I.tok _, ⟨_, rfl⟩, q⟩
end
section
variable {X : Cx} {pos : Pos}
noncomputable def tWhile (c : TT) (tb : TS) : TS := fun D σ H => ∃ W : Nat → St → Hp → Prop, (∃ m, W m σ H) ∧ ∀ m σ H, W m σ H →
  c σ H fun b H1 => if b = true then ∃ N : St → Hp → Prop, (∀ σ' H', N σ' H' → ∃ m', m' < m ∧ W m' σ' H') ∧ tb { D with nx := N, ct := N, bk := D.nx } σ H1 else D.nx σ H1
theorem ps_while {c : Expr} {body : List Stmt} {tc : TT} {tb : TS} (hp : PassesOwn (model X.prog X.w) X.A X.env X.xe) (hc : PT X c tc) (hb : PSs X body tb) : PS X (.While c body [] pos) (tWhile tc tb) := by
  intro pins s σ H D I h
  obtain ⟨W, ⟨m0, w0⟩, turn⟩ := h
  refine wpAny_While (codeAny_whileLoop (fun n s' => ∃ σ' H', Inv X pins σ' H' s' ∧ W n σ' H') ?_ m0 ⟨σ, H, I, w0⟩)
  rintro n s1 ⟨σ1, H1, I1, w1⟩
  refine wpAny_passesOwn hp (thn (hc pins s1 σ1 H1 _ I1 (turn n σ1 H1 w1)) fun b s2 z9 => ?_)
  obtain ⟨H2, I2, q2⟩ := z9
  cases b with
  | true =>
    obtain ⟨N, hN, q2⟩ := q2
    rw [if_pos rfl]
    refine wpAny_passesOwn hp (thn (hb pins s2 σ1 H2 _ I2 q2) fun f s3 q3 => ?_)
    cases f with
    | next =>
      obtain ⟨σ3, H3, I3, n3⟩ := q3
      obtain ⟨m', hm, w3⟩ := hN σ3 H3 n3
      exact ⟨m', hm, σ3, H3, I3, w3⟩
    | cont =>
      obtain ⟨σ3, H3, I3, n3⟩ := q3
      obtain ⟨m', hm, w3⟩ := hN σ3 H3 n3
      exact ⟨m', hm, σ3, H3, I3, w3⟩
    | brk => exact q3
    | ret v => exact q3
  | false =>
    rw [if_neg Bool.false_ne_true]
    exact wpAny_execs_nil ⟨σ1, H2, I2, q2⟩
end
structure It where
  go : Nat → Hp → Prop
  yld : Nat → Hp → V → Hp → Prop
  stop : Nat → Hp → Prop
noncomputable def FpOk (X : Cx) (pins : List (Addr × Obj)) (H : Hp) (b : Addr) : Prop :=
  H b = none ∧ b ≠ X.env.locals ∧ b ∉ X.fs ∧ (b ∈ X.ex ∨ X.s₀.heap.objs.size ≤ b) ∧ (∀ x c, X.env.cells.lookup x = some c → c ≠ b) ∧ ∀ p ∈ X.pn ++ pins, p.1 ≠ b
theorem Inv.fpOk {X : Cx} {pins : List (Addr × Obj)} {σ : St} {H H' : Hp} {s : Shared} {b : Addr} (I : Inv X pins σ H s) (hb : s.heap.objs.size ≤ b) (hn : H' b = none) : FpOk X pins H' b := by
  refine ⟨hn, Nat.ne_of_gt (Nat.lt_of_lt_of_le I.lt hb), I.nofs hb, .inr (Nat.le_trans I.sz hb), fun x c e z => ?_, fun p hp z => ?_⟩
  · obtain ⟨v, q⟩ := I.cell x c e
    exact absurd (Nat.lt_of_lt_of_le q.lt (by rw [z]; exact hb)) (Nat.lt_irrefl _)
  · exact absurd (Nat.lt_of_lt_of_le (Heap.lt_size (I.pin p hp).1) (by rw [z]; exact hb)) (Nat.lt_irrefl _)
structure Turn (P : Program) (w : World) (K : PySem.W.Frag) (tg : Expr) (J : It) (fp : List Addr) (it : Addr) (tn : Nat → Heap → Prop) (qt : Cx → Prop := fun X => X.calm = true) : Prop where
  mem : it ∈ fp
  obj : ∀ i h, tn i h → ∀ b ∈ fp, ∃ o, h.get? b = some o ∧ ∀ v, o.data ≠ .cell v
  keep : ∀ i h h', tn i h → (∀ b ∈ fp, ∀ o, h.get? b = some o → h'.get? b = some o) → tn i h'
  item : ∀ (X : Cx), X.prog = P → X.w = w → X.K = K → qt X → ∀ (i : Nat) (pins : List (Addr × Obj)) (s : Shared) (σ : St) (H : Hp) (E : Value → Shared → Prop), Inv X pins σ H s → (∀ b ∈ fp, FpOk X pins H b) → tn i s.heap → J.go i H →
    wpAny (model P w) X.A (pyNext (.ref it)) (fun r s1 => ∃ u, r = some u ∧
      wpAny (model P w) X.A (letOwnedTupleGo tg (.ref it) u) (fun _ s2 => ∃ x H', Inv X pins σ H' s2 ∧ RelV x u ∧ J.yld i H x H' ∧ tn (i + 1) s2.heap ∧ ∀ b ∈ fp, H' b = none) E s1) E s
  done : ∀ (X : Cx), X.prog = P → X.w = w → X.K = K → qt X → ∀ (i : Nat) (pins : List (Addr × Obj)) (s : Shared) (σ : St) (H : Hp) (E : Value → Shared → Prop), Inv X pins σ H s → (∀ b ∈ fp, FpOk X pins H b) → tn i s.heap → J.stop i H →
    wpAny (model P w) X.A (pyNext (.ref it)) (fun r s1 => r = none ∧ Inv X pins σ H s1) E s
  self : ∀ (A : Around) (i : Nat) (s : Shared) (Q : Value → Shared → Prop) (E : Value → Shared → Prop), tn i s.heap → Q (.ref it) s → wpAny (model P w) A (pyIter (.ref it)) Q E s
noncomputable abbrev TI := St → Hp → (It → Hp → Prop) → Prop
noncomputable def PIE (X : Cx) (pins : List (Addr × Obj)) (σ : St) (tg : Expr) (R : It → Hp → Prop) (itv : Value) (s2 : Shared) : Prop :=
  ∃ (it : Addr) (fp : List Addr) (tn : Nat → Heap → Prop) (J : It) (H' : Hp), itv = .ref it ∧ Inv X pins σ H' s2 ∧ Turn X.prog X.w X.K tg J fp it tn ∧ tn 0 s2.heap ∧ (∀ b ∈ fp, FpOk X pins H' b) ∧ R J H'
noncomputable def PI (X : Cx) (tg iter : Expr) (wi : TI) : Prop :=
  ∀ (pins : List (Addr × Obj)) (s : Shared) (σ : St) (H : Hp) (R : It → Hp → Prop), Inv X pins σ H s → wi σ H R →
    wpAny (model X.prog X.w) X.A (eval iter X.env) (fun v s1 => wpAny (model X.prog X.w) X.A (pyIter v) (PIE X pins σ tg R) X.xe s1) X.xe s
theorem go_of {M : Model} {A : Around} {E : Value → Shared → Prop} {s : Shared} {tg : Expr} {it : Addr} {u : Value} {o : Obj} {n : String} {vs : Array Value} {Q : Unit → Shared → Prop} (ho : s.heap.get? it = some o) (hc : o.cls = .type n) (hd : o.data = .fields vs)
    (hn : ["enumerate", "zip", "dict_itemiterator", "dict_reverseitemiterator", "odict_iterator", "itertools.zip_longest", "itertools.pairwise"].contains n = false) (hQ : Q () s) : wpAny M A (letOwnedTupleGo tg (.ref it) u) Q E s := by
  unfold letOwnedTupleGo
  cases tg <;> first
    | exact wpAny_pure hQ
    | (cases u <;> first
        | exact wpAny_pure hQ
        | (refine wpAny_bind (wpAny_load ho ?_)
           rw [hc, hd]
           show wpAny M A (if (["enumerate", "zip", "dict_itemiterator", "dict_reverseitemiterator", "odict_iterator", "itertools.zip_longest", "itertools.pairwise"].contains n && vs[0]? == some (rawInt _)) = true then _ else _) Q E s
           rw [if_neg (by intro h; rw [hn, Bool.false_and] at h; cases h)]
           exact wpAny_pure hQ))
noncomputable def Itl (K : PySem.W.Frag) (a : Addr) : It :=
  ⟨fun i H => ∃ xs x, SqL K H a xs ∧ xs[i]? = some x, fun i H x H' => H' = H ∧ ∀ xs, SqL K H a xs → xs[i]? = some x, fun i H => ∃ xs, SqL K H a xs ∧ xs.length ≤ i⟩
noncomputable def Itt (K : PySem.W.Frag) (a : Addr) : It :=
  ⟨fun i H => ∃ xs x, SqT K H a xs ∧ xs[i]? = some x, fun i H x H' => H' = H ∧ ∀ xs, SqT K H a xs → xs[i]? = some x, fun i H => ∃ xs, SqT K H a xs ∧ xs.length ≤ i⟩
noncomputable def Itr (lo : Int) (n : Nat) : It := ⟨fun i _ => i < n, fun i H x H' => H' = H ∧ x = .int (lo + i), fun i _ => n ≤ i⟩
theorem turn_list {P : Program} {w : World} {K : PySem.W.Frag} {tg : Expr} (a it : Addr) : Turn P w K tg (Itl K a) [it] it (fun i h => h.IsListIter it a i) where
  mem := by simp
  obj := fun i h st b hb => by
    have e : b = it := by simpa using hb
    subst e
    obtain ⟨o, e, c, d⟩ := st
    exact ⟨o, e, fun v z => by rw [d] at z; cases z⟩
  keep := fun i h h' st k => st.at fun o e => k it (by simp) o e
  item := by
    intro X hP hw hK hc i pins s σ H E I hf st hg
    subst hP hw hK
    obtain ⟨xs, x, hq, hx⟩ := hg
    obtain ⟨its, rv, p, hz⟩ := I.list hq
    obtain ⟨u, hu, ru⟩ := rv.get hx
    obtain ⟨f0, f1, f2, f3, f4, f5⟩ := hf it (by simp)
    refine wpAny_pyNext_list_item st p.isList (x := u) (by simpa using hu) fun h' st' sb => ?_
    have I1 : Inv X pins σ H { s with heap := h' } := I.turned (t' := s.toks) (fun b o hb e => (sb.2 b hb).trans e) f0 f1 f3 f4 f5
    obtain ⟨o, e, c, d⟩ := id st'
    exact ⟨u, rfl, go_of (s := { s with heap := h' }) e c d (by decide) ⟨x, H, I1, ru, ⟨rfl, fun ys hy => by rw [I.list_inj hy hq]; exact hx⟩, st', fun b hb => (hf b hb).1⟩⟩
  done := by
    intro X hP hw hK hc i pins s σ H E I hf st hg
    subst hP hw hK
    obtain ⟨xs, hq, hx⟩ := hg
    obtain ⟨its, rv, p, hz⟩ := I.list hq
    obtain ⟨f0, f1, f2, f3, f4, f5⟩ := hf it (by simp)
    have hl := rv.length
    exact wpAny_pyNext_list_end (I.ok.hd hc) st p.isList (by simp; omega) fun h' eb => ⟨rfl, I.turned (t' := s.toks) (fun b o hb e => eb b o hb e) f0 f1 f3 f4 f5⟩
  self := fun _ _ _ _ _ st h => wpAny_pyIter_listiter st h
theorem turn_tuple {P : Program} {w : World} {K : PySem.W.Frag} {tg : Expr} (a it : Addr) : Turn P w K tg (Itt K a) [it] it (fun i h => h.IsTupleIter it a i) where
  mem := by simp
  obj := fun i h st b hb => by
    have e : b = it := by simpa using hb
    subst e
    obtain ⟨o, e, c, d⟩ := st
    exact ⟨o, e, fun v z => by rw [d] at z; cases z⟩
  keep := fun i h h' st k => st.at fun o e => k it (by simp) o e
  item := by
    intro X hP hw hK hc i pins s σ H E I hf st hg
    subst hP hw hK
    obtain ⟨xs, x, hq, hx⟩ := hg
    obtain ⟨its, rv, p, hz⟩ := I.tuple hq
    obtain ⟨u, hu, ru⟩ := rv.get hx
    obtain ⟨f0, f1, f2, f3, f4, f5⟩ := hf it (by simp)
    refine wpAny_pyNext_tuple_item st (show s.heap.IsTuple a its.toArray from p) (x := u) (by simpa using hu) fun h' st' sb => ?_
    have I1 : Inv X pins σ H { s with heap := h' } := I.turned (t' := s.toks) (fun b o hb e => (sb.2 b hb).trans e) f0 f1 f3 f4 f5
    obtain ⟨o, e, c, d⟩ := id st'
    exact ⟨u, rfl, go_of (s := { s with heap := h' }) e c d (by decide) ⟨x, H, I1, ru, ⟨rfl, fun ys hy => by rw [I.tuple_inj hy hq]; exact hx⟩, st', fun b hb => (hf b hb).1⟩⟩
  done := by
    intro X hP hw hK hc i pins s σ H E I hf st hg
    subst hP hw hK
    obtain ⟨xs, hq, hx⟩ := hg
    obtain ⟨its, rv, p, hz⟩ := I.tuple hq
    obtain ⟨f0, f1, f2, f3, f4, f5⟩ := hf it (by simp)
    have hl := rv.length
    exact wpAny_pyNext_tuple_end (I.ok.hd hc) st (show s.heap.IsTuple a its.toArray from p) (by simp; omega) fun h' eb => ⟨rfl, I.turned (t' := s.toks) (fun b o hb e => eb b o hb e) f0 f1 f3 f4 f5⟩
  self := fun _ _ _ _ _ st h => wpAny_pyIter_tupleiter st h
theorem turn_range {P : Program} {w : World} {K : PySem.W.Frag} {tg : Expr} (it : Addr) (lo : Int) (n : Nat) : Turn P w K tg (Itr lo n) [it] it (fun i h => IsRangeIter h it (lo + (i : Nat) * 1) ((n : Int) - (i : Nat)) 1) where
  mem := by simp
  obj := fun i h st b hb => by
    have e : b = it := by simpa using hb
    subst e
    exact ⟨_, st, fun v z => by
      have z' : Data.fields _ = Data.cell v := z
      cases z'⟩
  keep := fun i h h' st k => k it (by simp) _ st
  item := by
    intro X hP hw hK hc i pins s σ H E I hf st hg
    subst hP hw hK
    obtain ⟨f0, f1, f2, f3, f4, f5⟩ := hf it (by simp)
    have W := Walks.range (prog := X.prog) (w := X.w) (I.ok.hd hc) it lo 1 n
    refine W.item i s _ _ hg st fun v h' tk hv st' kk => ?_
    obtain ⟨t, rfl⟩ := hv
    have I1 : Inv X pins σ H { s with heap := h', toks := tk } := I.turned (fun b o hb e => kk b o (by simpa using hb) e) f0 f1 f3 f4 f5
    refine ⟨_, rfl, go_of (s := { s with heap := h', toks := tk }) (n := "range_iterator") st' rfl rfl (by decide) ⟨.int (lo + i), H, I1, ⟨t, ?_⟩, ⟨rfl, rfl⟩, st', fun b hb => (hf b hb).1⟩⟩
    rw [Int.mul_one]
  done := by
    intro X hP hw hK hc i pins s σ H E I hf st hg
    subst hP hw hK
    obtain ⟨f0, f1, f2, f3, f4, f5⟩ := hf it (by simp)
    exact wpAny_pyNext_range_end (I.ok.hd hc) st (by have : n ≤ i := hg; omega) fun h' eb => ⟨rfl, I.turned (t' := s.toks) (fun b o hb e => eb b o hb e) f0 f1 f3 f4 f5⟩
  self := fun _ _ _ _ _ st h => wpAny_pyIter_rangeiter st h
end L2
namespace L2
open PySem PySem.Spec PyProof.Rows
section
variable {X : Cx} {tg : Expr}
theorem range_it {pins : List (Addr × Obj)} {σ : St} {H : Hp} {s : Shared} {R : It → Hp → Prop} {E : Value → Shared → Prop} {lo hi : Int} {t u v : Tok} {tk : Nat} (I : Inv X pins σ H s) (h1 : -(2 ^ 62) ≤ lo) (h2 : lo < 2 ^ 62) (h3 : -(2 ^ 62) ≤ hi) (h4 : hi < 2 ^ 62)
    (q : R (Itr lo (hi - lo).toNat) H) : wpAny (model X.prog X.w) X.A (pyIter (.ref s.heap.objs.size)) (PIE X pins σ tg R) E { s with heap := s.heap.push { cls := .type "range", data := .fields #[.int lo t, .int hi u, .int 1 v] }, toks := tk } := by
  refine wpAny_pyIter_range (IsRange.new ..) (small_one h1 h2 h3 h4) ?_
  have I1 : Inv X pins σ H { s with heap := s.heap.push { cls := .type "range", data := .fields #[.int lo t, .int hi u, .int 1 v] }, toks := tk } := I.kept fun b o e => Heap.get?_push_of_some _ e
  refine ⟨(s.heap.push { cls := .type "range", data := .fields #[.int lo t, .int hi u, .int 1 v] }).objs.size, [(s.heap.push { cls := .type "range", data := .fields #[.int lo t, .int hi u, .int 1 v] }).objs.size], _, _, H, rfl,
    I1.kept (t' := tk) fun b o e => Heap.get?_push_of_some _ e, turn_range _ lo (hi - lo).toNat, ?_, fun b hb => ?_, q⟩
  · have e1 : lo + ((0 : Nat) : Int) * 1 = lo := by simp
    have e2 : (((hi - lo).toNat : Nat) : Int) - ((0 : Nat) : Int) = Builtin.Range.rangeSize lo hi 1 := by rw [rangeSize_one]; split <;> omega
    show IsRangeIter _ _ (lo + ((0 : Nat) : Int) * 1) ((((hi - lo).toNat : Nat) : Int) - ((0 : Nat) : Int)) 1
    rw [e1, e2]
    exact Heap.get?_push_size _ rfl
  · have e : b = (s.heap.push { cls := .type "range", data := .fields #[.int lo t, .int hi u, .int 1 v] }).objs.size := by simpa using hb
    subst e
    exact I1.fpOk (Nat.le_refl _) (I1.hok.fresh (Nat.le_refl _))
noncomputable def iRng1 (ta : TA) : TI := fun σ H R => ta σ H fun vs H1 => ∃ j : Int, vs = [.int j] ∧ -(2 ^ 62) ≤ j ∧ j < 2 ^ 62 ∧ R (Itr 0 j.toNat) H1
theorem pi_range1 {a : Expr} {ta : TA} {p pos : Pos} (hg : Gl X "range") (hm : X.mg "range" = none) (ha : PA X [a] ta) (hs : starEach [a] X.env = [(false, eval a X.env)] := by rfl) : PI X tg (.Call (.Name "range" p) [a] [] pos) (iRng1 ta) := by
  intro pins s σ H R I h
  refine Call_ (ld_blt I hg hm boot_range (PyProof.Rows.callWith_type1 (thn (ha pos pins s σ H _ I h) fun us s1 z9 => ?_) hs rfl))
  obtain ⟨vs, H1, I1, r1, q1⟩ := z9
  obtain ⟨j, e, q1, q2, q⟩ := q1
  subst e
  cases r1 with
  | cons r rr =>
    cases rr
    obtain ⟨t, rfl⟩ := r
    exact call_range_1 (range_it I1 (by omega) (by omega) q1 q2 (by simpa using q))
noncomputable def tFor (wi : TI) (g : TG) (tb : TS) : TS := fun D σ H => wi σ H fun J H1 => ∃ W : Nat → Nat → St → Hp → Prop, (∃ m, W 0 m σ H1) ∧ ∀ i m σ H, W i m σ H →
  (J.stop i H ∧ D.nx σ H) ∨ (J.go i H ∧ ∃ N : St → Hp → Prop, (∀ σ' H', N σ' H' → ∃ m', m' < m ∧ W (i + 1) m' σ' H') ∧ ∀ x H', J.yld i H x H' → g x σ H' fun σ2 H2 => tb { D with nx := N, ct := N, bk := D.nx } σ2 H2)
noncomputable def pinsAt (fp : List Addr) (h : Heap) : List (Addr × Obj) := fp.filterMap fun b => (h.get? b).map fun o => (b, o)
theorem mem_pinsAt {fp : List Addr} {h : Heap} {b : Addr} {o : Obj} (hb : b ∈ fp) (e : h.get? b = some o) : (b, o) ∈ pinsAt fp h := List.mem_filterMap.mpr ⟨b, hb, by rw [e]; rfl⟩
theorem of_pinsAt {fp : List Addr} {h : Heap} {p : Addr × Obj} (hp : p ∈ pinsAt fp h) : p.1 ∈ fp ∧ h.get? p.1 = some p.2 := by
  obtain ⟨b, hb, e⟩ := List.mem_filterMap.mp hp
  cases q : h.get? b with
  | none => rw [q] at e; cases e
  | some o =>
    rw [q] at e
    have e' : (b, o) = p := Option.some.inj e
    subst e'
    exact ⟨hb, q⟩
theorem Inv.pinned {pins : List (Addr × Obj)} {σ : St} {H : Hp} {s : Shared} {fp : List Addr} (I : Inv X pins σ H s) (hf : ∀ b ∈ fp, FpOk X pins H b) (ho : ∀ b ∈ fp, ∃ o, s.heap.get? b = some o ∧ ∀ v, o.data ≠ .cell v) : Inv X (pins ++ pinsAt fp s.heap) σ H s :=
  I.pins_of fun p hp => (List.mem_append.mp hp).elim (fun z => I.pin p (List.mem_append_right _ z)) fun z => by
    obtain ⟨hb, e⟩ := of_pinsAt z
    obtain ⟨f0, f1, f2, _⟩ := hf p.1 hb
    obtain ⟨o, e', d⟩ := ho p.1 hb
    rw [e] at e'; cases e'
    exact ⟨e, f0, f1, f2, d⟩
theorem Inv.unpinned {pins pl : List (Addr × Obj)} {σ : St} {H : Hp} {s : Shared} (I : Inv X (pins ++ pl) σ H s) : Inv X pins σ H s := I.pins_of fun p hp => I.pin p (List.mem_append_right _ (List.mem_append_left _ hp))
theorem ps_for {iter : Expr} {body : List Stmt} {wi : TI} {g : TG} {tb : TS} {pos : Pos} (hp : PassesOwn (model X.prog X.w) X.A X.env X.xe) (hc : X.calm = true) (hi : PI X tg iter wi) (hg : PG X tg g) (hb : PSs X body tb)
    (hs : ∀ x, foldedSetIterable iter X.env x = pure x := by intro _; rfl) : PS X (.For tg iter body [] pos) (tFor wi g tb) := by
  intro pins s σ H D I h
  refine wpAny_For (thn (hi pins s σ H _ I h) fun v s1 h1 => thn h1 fun itv s2 h2 => ?_) hs
  obtain ⟨it, fp, tn, J, H2, e, I2, T, st2, f2, W, ⟨m0, w0⟩, turn⟩ := h2
  subst e
  have stat : ∀ {H' : Hp}, (∀ b ∈ fp, H' b = none) → ∀ b ∈ fp, FpOk X pins H' b := fun hn b hb => ⟨hn b hb, (f2 b hb).2⟩
  refine codeAny_forLoop_any (fun n s' => ∃ i σ' H', Inv X pins σ' H' s' ∧ tn i s'.heap ∧ (∀ b ∈ fp, H' b = none) ∧ W i n σ' H') ?_ m0 ⟨0, σ, H2, I2, st2, fun b hb => (f2 b hb).1, w0⟩
  rintro n s3 ⟨i, σ3, H3, I3, st3, fr3, w3⟩
  rcases turn i n σ3 H3 w3 with ⟨stop, qn⟩ | ⟨go, N, hN, step⟩
  · refine wpAny_passesOwn hp (thn (T.done X rfl rfl rfl hc i pins s3 σ3 H3 X.xe I3 (stat fr3) st3 stop) fun r s4 z9 => ?_)
    obtain ⟨hr, I4⟩ := z9
    subst hr
    exact wpAny_execs_nil ⟨σ3, H3, I4, qn⟩
  · refine wpAny_passesOwn hp (thn (T.item X rfl rfl rfl hc i pins s3 σ3 H3 X.xe I3 (stat fr3) st3 go) fun r s4 z9 => ?_)
    obtain ⟨u, hr, h4⟩ := z9
    subst hr
    refine wpAny_passesOwn hp (thn h4 fun _ s5 z9 => ?_)
    obtain ⟨x, H5, I5, r5, y5, st5, fr5⟩ := z9
    have I5' := I5.pinned (stat fr5) (T.obj _ _ st5)
    refine wpAny_passesOwn hp (thn (hg _ s5 σ3 H5 x u _ I5' r5 (step x H5 y5)) fun _ s6 z9 => ?_)
    obtain ⟨σ6, H6, I6, q6⟩ := z9
    refine wpAny_passesOwn hp (thn (hb _ s6 σ6 H6 _ I6 q6) fun f s7 q7 => ?_)
    have again : ∀ {σ7 : St} {H7 : Hp}, Inv X (pins ++ pinsAt fp s5.heap) σ7 H7 s7 → N σ7 H7 → ∃ m, m < n ∧ ∃ i σ' H', Inv X pins σ' H' s7 ∧ tn i s7.heap ∧ (∀ b ∈ fp, H' b = none) ∧ W i m σ' H' := fun {σ7 H7} I7 n7 => by
      obtain ⟨m', hm, w7⟩ := hN σ7 H7 n7
      refine ⟨m', hm, i + 1, σ7, H7, I7.unpinned, T.keep _ _ _ st5 fun b hb o e => (I7.pin (b, o) (List.mem_append_right _ (List.mem_append_right _ (mem_pinsAt hb e)))).1, fun b hb => ?_, w7⟩
      obtain ⟨o, e, d⟩ := T.obj _ _ st5 b hb
      exact (I7.pin (b, o) (List.mem_append_right _ (List.mem_append_right _ (mem_pinsAt hb e)))).2.1
    cases f with
    | next => obtain ⟨σ7, H7, I7, n7⟩ := q7; exact again I7 n7
    | cont => obtain ⟨σ7, H7, I7, n7⟩ := q7; exact again I7 n7
    | brk => obtain ⟨σ7, H7, I7, q7⟩ := q7; exact ⟨σ7, H7, I7.unpinned, q7⟩
    | ret v => obtain ⟨x7, σ7, H7, I7, r7, q7⟩ := q7; exact ⟨x7, σ7, H7, I7.unpinned, r7, q7⟩
end
end L2
namespace L2
open PySem PySem.Spec PyProof.Rows
noncomputable abbrev R2 := V → V → Hp → VK → Prop
noncomputable def OpR (X : Cx) (f : Value → Value → Sem Value) (r : R2) : Prop :=
  ∀ (pins : List (Addr × Obj)) (s : Shared) (σ : St) (H : Hp) (x y : V) (v u : Value) (Q : VK), Inv X pins σ H s → RelV x v → RelV y u → r x y H Q →
    wpAny (model X.prog X.w) X.A (f v u) (EP X pins σ Q) X.xe s
noncomputable def UnR (X : Cx) (f : Value → Sem Value) (r : V → Hp → VK → Prop) : Prop :=
  ∀ (pins : List (Addr × Obj)) (s : Shared) (σ : St) (H : Hp) (x : V) (v : Value) (Q : VK), Inv X pins σ H s → RelV x v → r x H Q →
    wpAny (model X.prog X.w) X.A (f v) (EP X pins σ Q) X.xe s
noncomputable def CallR (X : Cx) (f : Value) (r : List V → Hp → VK → Prop) : Prop :=
  ∀ (pins : List (Addr × Obj)) (s : Shared) (σ : St) (H : Hp) (xs : List V) (us : List Value) (Q : VK), Inv X pins σ H s → Vals xs us → r xs H Q →
    wpAny (model X.prog X.w) X.A (call f us) (EP X pins σ Q) X.xe s
noncomputable def TruR (X : Cx) (r : V → Hp → (Bool → Hp → Prop) → Prop) : Prop :=
  ∀ (pins : List (Addr × Obj)) (s : Shared) (σ : St) (H : Hp) (x : V) (v : Value) (Q : Bool → Hp → Prop), Inv X pins σ H s → RelV x v → r x H Q →
    wpAny (model X.prog X.w) X.A (truthy v) (TP X pins σ Q) X.xe s
noncomputable def tOp (r : R2) (ta tb : TE) : TE := fun σ H Q => ta σ H fun x H1 => tb σ H1 fun y H2 => r x y H2 Q
noncomputable def tUn (r : V → Hp → VK → Prop) (ta : TE) : TE := fun σ H Q => ta σ H fun x H1 => r x H1 Q
noncomputable def rI (C : Int → Int → Prop) (g : Int → Int → V) : R2 := fun x y H Q => ∃ i j, x = .int i ∧ y = .int j ∧ C i j ∧ Q (g i j) H
noncomputable def rI0 (g : Int → Int → V) : R2 := fun x y H Q => ∃ i j, x = .int i ∧ y = .int j ∧ Q (g i j) H
noncomputable def rU (g : Int → V) : V → Hp → VK → Prop := fun x H Q => ∃ i, x = .int i ∧ Q (g i) H
section
variable {X : Cx} {a b c : Expr} {ta tb tc : TE} {pos : Pos}
theorem binT (ha : PE X a ta) (hb : PE X b tb) {pins : List (Addr × Obj)} {s : Shared} {σ : St} {H : Hp} {R : V → V → Hp → Prop} (I : Inv X pins σ H s)
    (h : ta σ H fun x H1 => tb σ H1 fun y H2 => R x y H2) {Q : Value → Shared → Prop} {f : Value → Value → Sem Value}
    (hf : ∀ v u s2 x y H2, Inv X pins σ H2 s2 → RelV x v → RelV y u → R x y H2 → wpAny (model X.prog X.w) X.A (f v u) Q X.xe s2) :
    wpAny (model X.prog X.w) X.A (eval a X.env) (fun v s₁ => wpAny (model X.prog X.w) X.A (eval b X.env) (fun u s₂ => wpAny (model X.prog X.w) X.A (f v u) Q X.xe s₂) X.xe s₁) X.xe s := by
  refine thn (ha pins s σ H _ I h) fun v s1 z9 => ?_
  obtain ⟨x, H1, I1, r1, q1⟩ := z9
  refine thn (hb pins s1 σ H1 _ I1 q1) fun u s2 z9 => ?_
  obtain ⟨y, H2, I2, r2, q2⟩ := z9
  exact hf v u s2 x y H2 I2 r1 r2 q2
theorem pe_op {op : Operator} {r : R2} (ho : OpR X (binaryOp op) r) (ha : PE X a ta) (hb : PE X b tb) : PE X (.BinOp a op b pos) (tOp r ta tb) := by
  intro pins s σ H Q I h
  exact wpAny_BinOp (binT ha hb I h fun v u s2 x y H2 I2 rx ry q => ho pins s2 σ H2 x y v u Q I2 rx ry q)
theorem pe_un {op : UnaryOp} {r : V → Hp → VK → Prop} (ho : UnR X (unaryOp op) r) (ha : PE X a ta) : PE X (.UnaryOp op a pos) (tUn r ta) := by
  intro pins s σ H Q I h
  exact UnaryOp_ (thn (ha pins s σ H _ I h) fun v s1 ⟨x, H1, I1, r1, q1⟩ => ho pins s1 σ H1 x v Q I1 r1 q1)
theorem opI {f : Value → Value → Sem Value} {C : Int → Int → Prop} {g : Int → Int → Int}
    (rule : ∀ (i j : Int) (t u : Tok) (s : Shared) (Q : Value → Shared → Prop) (E : Value → Shared → Prop), C i j → Q (.int (g i j) s.toks) { s with toks := s.toks + 1 } → wpAny (model X.prog X.w) X.A (f (.int i t) (.int j u)) Q E s) :
    OpR X f (rI C fun i j => .int (g i j)) := by
  intro pins s σ H x y v u Q I rx ry h
  obtain ⟨i, j, rfl, rfl, hc, q⟩ := h
  obtain ⟨t, rfl⟩ := rx
  obtain ⟨t', rfl⟩ := ry
  exact rule i j t t' s _ _ hc ⟨.int (g i j), H, I.tok _, ⟨_, rfl⟩, q⟩
theorem opI0 {f : Value → Value → Sem Value} {g : Int → Int → Int}
    (rule : ∀ (i j : Int) (t u : Tok) (s : Shared) (Q : Value → Shared → Prop) (E : Value → Shared → Prop), Q (.int (g i j) s.toks) { s with toks := s.toks + 1 } → wpAny (model X.prog X.w) X.A (f (.int i t) (.int j u)) Q E s) :
    OpR X f (rI0 fun i j => .int (g i j)) := by
  intro pins s σ H x y v u Q I rx ry h
  obtain ⟨i, j, rfl, rfl, q⟩ := h
  obtain ⟨t, rfl⟩ := rx
  obtain ⟨t', rfl⟩ := ry
  exact rule i j t t' s _ _ ⟨.int (g i j), H, I.tok _, ⟨_, rfl⟩, q⟩
theorem opB0 {f : Value → Value → Sem Value} {g : Int → Int → Bool}
    (rule : ∀ (i j : Int) (t u : Tok) (s : Shared) (Q : Value → Shared → Prop) (E : Value → Shared → Prop), Q (.bool (g i j)) s → wpAny (model X.prog X.w) X.A (f (.int i t) (.int j u)) Q E s) :
    OpR X f (rI0 fun i j => .bl (g i j)) := by
  intro pins s σ H x y v u Q I rx ry h
  obtain ⟨i, j, rfl, rfl, q⟩ := h
  obtain ⟨t, rfl⟩ := rx
  obtain ⟨t', rfl⟩ := ry
  exact rule i j t t' s _ _ ⟨.bl (g i j), H, I, rfl, q⟩
noncomputable def CDiv (i j : Int) : Prop := 0 < j ∧ j < 1073741824
noncomputable def CMul (i j : Int) : Prop := (-(2 ^ 64) < i ∧ i < 2 ^ 64) ∨ (-(2 ^ 64) < j ∧ j < 2 ^ 64)
theorem CMul.ok {i j : Int} (h : CMul i j) : IntMulOk i j := by
  rcases h with ⟨h1, h2⟩ | ⟨h1, h2⟩
  · exact .of_left (intBits_le_64 h1 h2)
  · exact .of_right (intBits_le_64 h1 h2)
theorem op_add : OpR X (binaryOp .Add) (rI0 fun i j => .int (i + j)) := opI0 fun _ _ _ _ _ _ _ q => add_int q
theorem op_fdiv : OpR X (binaryOp .FloorDiv) (rI CDiv fun i j => .int (i / j)) := opI fun i j _ _ _ _ _ hc q => by
  have h1 : (0 : Int) < j := hc.1
  have h2 : j < 1073741824 := hc.2
  exact floordiv_int (by omega) (by rw [Int.fdiv_eq_ediv_of_nonneg i (by omega)]; exact q) (.inl (PyProof.noPylong_small (by omega)))
theorem op_mod : OpR X (binaryOp .Mod) (rI (fun _ j => 0 < j) fun i j => .int (i % j)) := opI fun i j _ _ _ _ _ hc q => by
  have h1 : (0 : Int) < j := hc
  exact mod_int' (by omega) (by rw [Int.fmod_eq_emod_of_nonneg i (by omega)]; exact q)
theorem unI {f : Value → Sem Value} {g : Int → Int}
    (rule : ∀ (i : Int) (t : Tok) (s : Shared) (Q : Value → Shared → Prop) (E : Value → Shared → Prop), Q (.int (g i) s.toks) { s with toks := s.toks + 1 } → wpAny (model X.prog X.w) X.A (f (.int i t)) Q E s) :
    UnR X f (rU fun i => .int (g i)) := by
  intro pins s σ H x v Q I rx h
  obtain ⟨i, rfl, q⟩ := h
  obtain ⟨t, rfl⟩ := rx
  exact rule i t s _ _ ⟨.int (g i), H, I.tok _, ⟨_, rfl⟩, q⟩
theorem un_neg : UnR X (unaryOp .USub) (rU fun i => .int (-i)) := unI fun _ _ _ _ _ q => neg_int q
end
noncomputable def scal : V → V → Bool
  | .non, .non => true | .non, .int _ => true | .int _, .non => true | .non, .bl _ => true | .bl _, .non => true | .non, .str _ => true | .str _, .non => true
  | .int _, .int _ => true | .bl _, .bl _ => true | .str _, .str _ => true | .byt _, .byt _ => true
  | .int _, .str _ => true | .str _, .int _ => true | .bl _, .str _ => true | .str _, .bl _ => true
  | _, _ => false
noncomputable def rEq : R2 := fun x y H Q => scal x y = true ∧ Q (.bl (decide (x = y))) H
noncomputable def rNe : R2 := fun x y H Q => scal x y = true ∧ Q (.bl (!decide (x = y))) H
theorem dec_int {i j : Int} : decide (V.int i = V.int j) = (i == j) := by
  rw [Bool.eq_iff_iff]
  simp
theorem dec_bl {i j : Bool} : decide (V.bl i = V.bl j) = (i == j) := by
  rw [Bool.eq_iff_iff]
  simp
theorem dec_str {i j : Str} : decide (V.str i = V.str j) = (i == j) := by
  rw [Bool.eq_iff_iff]
  simp
theorem dec_byt {i j : Array UInt8} : decide (V.byt i = V.byt j) = (i.toList == j.toList) := by
  rw [Bool.eq_iff_iff]
  cases i
  cases j
  simp
section
variable {X : Cx} {a b c : Expr} {ta tb tc : TE} {pos : Pos}
theorem fin_bl {pins : List (Addr × Obj)} {σ : St} {H : Hp} {s : Shared} {Q : VK} {k k' : Bool} (I : Inv X pins σ H s) (q : Q (.bl k) H) (e : k = k') : EP X pins σ Q (.bool k') s := by
  subst e
  exact ⟨.bl k, H, I, rfl, q⟩
theorem op_eq : OpR X (compareOp .Eq) rEq := by
  intro pins s σ H x y v u Q I rx ry h
  obtain ⟨hs, q⟩ := h
  cases x with
  | non =>
    cases rx
    cases y with
    | non => cases ry; exact PySem.EqNone.eq_none_none (fin_bl I q (by simp))
    | bl j => cases ry; exact PySem.EqNone.eq_none_bool (fin_bl I q (by simp))
    | int j => obtain ⟨t', rfl⟩ := ry; exact PySem.EqNone.eq_none_int (fin_bl I q (by simp))
    | str j => obtain ⟨t', rfl⟩ := ry; exact PySem.EqNone.eq_none_str (fin_bl I q (by simp))
    | _ => exact absurd (show false = true from hs) Bool.false_ne_true
  | bl i =>
    cases rx
    cases y with
    | non => cases ry; exact PySem.EqNone.eq_bool_none (fin_bl I q (by simp))
    | bl j => cases ry; exact eq_bool (fin_bl I q dec_bl)
    | str j => obtain ⟨t', rfl⟩ := ry; exact PySem.EqMixed.eq_bool_str (fin_bl I q (by simp))
    | _ => exact absurd (show false = true from hs) Bool.false_ne_true
  | int i =>
    obtain ⟨t, rfl⟩ := rx
    cases y with
    | non => cases ry; exact PySem.EqNone.eq_int_none (fin_bl I q (by simp))
    | int j => obtain ⟨t', rfl⟩ := ry; exact eq_int (fin_bl I q dec_int)
    | str j => obtain ⟨t', rfl⟩ := ry; exact PySem.EqMixed.eq_int_str (fin_bl I q (by simp))
    | _ => exact absurd (show false = true from hs) Bool.false_ne_true
  | str i =>
    obtain ⟨t, rfl⟩ := rx
    cases y with
    | non => cases ry; exact PySem.EqNone.eq_str_none (fin_bl I q (by simp))
    | bl j => cases ry; exact PySem.EqMixed.eq_str_bool (fin_bl I q (by simp))
    | int j => obtain ⟨t', rfl⟩ := ry; exact PySem.EqMixed.eq_str_int (fin_bl I q (by simp))
    | str j => obtain ⟨t', rfl⟩ := ry; exact eq_str (fin_bl I q dec_str)
    | _ => exact absurd (show false = true from hs) Bool.false_ne_true
  | byt i =>
    obtain ⟨t, rfl⟩ := rx
    cases y with
    | byt j => obtain ⟨t', rfl⟩ := ry; exact PySem.W.eq_bytes (fin_bl I q dec_byt)
    | _ => exact absurd (show false = true from hs) Bool.false_ne_true
  | _ => cases y <;> exact absurd (show false = true from hs) Bool.false_ne_true
theorem op_ne : OpR X (compareOp .NotEq) rNe := by
  intro pins s σ H x y v u Q I rx ry h
  obtain ⟨hs, q⟩ := h
  cases x with
  | non =>
    cases rx
    cases y with
    | non => cases ry; exact PySem.EqNone.ne_none_none (fin_bl I q (by simp))
    | bl j => cases ry; exact PySem.EqNone.ne_none_bool (fin_bl I q (by simp))
    | int j => obtain ⟨t', rfl⟩ := ry; exact PySem.EqNone.ne_none_int (fin_bl I q (by simp))
    | str j => obtain ⟨t', rfl⟩ := ry; exact PySem.EqNone.ne_none_str (fin_bl I q (by simp))
    | _ => exact absurd (show false = true from hs) Bool.false_ne_true
  | bl i =>
    cases rx
    cases y with
    | non => cases ry; exact PySem.EqNone.ne_bool_none (fin_bl I q (by simp))
    | bl j => cases ry; exact ne_bool (fin_bl I q (congrArg not dec_bl))
    | str j => obtain ⟨t', rfl⟩ := ry; exact PySem.EqMixed.ne_bool_str (fin_bl I q (by simp))
    | _ => exact absurd (show false = true from hs) Bool.false_ne_true
  | int i =>
    obtain ⟨t, rfl⟩ := rx
    cases y with
    | non => cases ry; exact PySem.EqNone.ne_int_none (fin_bl I q (by simp))
    | int j => obtain ⟨t', rfl⟩ := ry; exact ne_int (fin_bl I q (congrArg not dec_int))
    | str j => obtain ⟨t', rfl⟩ := ry; exact PySem.EqMixed.ne_int_str (fin_bl I q (by simp))
    | _ => exact absurd (show false = true from hs) Bool.false_ne_true
  | str i =>
    obtain ⟨t, rfl⟩ := rx
    cases y with
    | non => cases ry; exact PySem.EqNone.ne_str_none (fin_bl I q (by simp))
    | bl j => cases ry; exact PySem.EqMixed.ne_str_bool (fin_bl I q (by simp))
    | int j => obtain ⟨t', rfl⟩ := ry; exact PySem.EqMixed.ne_str_int (fin_bl I q (by simp))
    | str j => obtain ⟨t', rfl⟩ := ry; exact ne_str (fin_bl I q (congrArg not dec_str))
    | _ => exact absurd (show false = true from hs) Bool.false_ne_true
  | byt i =>
    obtain ⟨t, rfl⟩ := rx
    cases y with
    | byt j => obtain ⟨t', rfl⟩ := ry; exact PySem.W.ne_bytes (fin_bl I q (congrArg not dec_byt))
    | _ => exact absurd (show false = true from hs) Bool.false_ne_true
  | _ => cases y <;> exact absurd (show false = true from hs) Bool.false_ne_true
theorem op_lt : OpR X (compareOp .Lt) (rI0 fun i j => .bl (decide (i < j))) := opB0 fun _ _ _ _ _ _ _ q => lt_int q
theorem op_le : OpR X (compareOp .LtE) (rI0 fun i j => .bl (decide (i ≤ j))) := opB0 fun _ _ _ _ _ _ _ q => le_int q
theorem op_gt : OpR X (compareOp .Gt) (rI0 fun i j => .bl (decide (j < i))) := opB0 fun _ _ _ _ _ _ _ q => gt_int q
theorem OpR.or {f : Value → Value → Sem Value} {r r' : R2} (h : OpR X f r) (h' : OpR X f r') : OpR X f (fun x y H Q => r x y H Q ∨ r' x y H Q) := by
  intro pins s σ H x y v u Q I rx ry q
  rcases q with q | q
  · exact h pins s σ H x y v u Q I rx ry q
  · exact h' pins s σ H x y v u Q I rx ry q
theorem nomark (b : Expr) {op : CmpOp} (h : op ≠ .In := by decide) (h2 : op ≠ .NotIn := by decide) : behindInMarks op b = false := by
  have e1 : (op == CmpOp.In) = false := by cases op <;> first | rfl | exact absurd rfl h
  have e2 : (op == CmpOp.NotIn) = false := by cases op <;> first | rfl | exact absurd rfl h2
  cases b <;> simp [behindInMarks, e1, e2]
theorem pe_cmpR {op : CmpOp} {r : R2} (ho : OpR X (compareOp op) r) (ha : PE X a ta) (hb : PE X b tb) (hm : behindInMarks op b = false) : PE X (.Compare a [op] [b] pos) (tOp r ta tb) := by
  intro pins s σ H Q I h
  exact wpAny_Compare1 (binT ha hb I h fun v u s2 x y H2 I2 rx ry q => ho pins s2 σ H2 x y v u Q I2 rx ry q) hm
noncomputable def tTest (t : TE) : TT := fun σ H Q => t σ H fun x H' => ∃ k, x = .bl k ∧ Q k H'
theorem pt_cmpR {op : CmpOp} {r : R2} (ho : OpR X (compareOp op) r) (ha : PE X a ta) (hb : PE X b tb) (hm : behindInMarks op b = false) : PT X (.Compare a [op] [b] pos) (tTest (tOp r ta tb)) := by
  intro pins s σ H Q I h
  refine wpAny_isTrue_Compare1 (thn (ha pins s σ H _ I h) fun v s1 ⟨x, H1, I1, r1, q1⟩ => thn (hb pins s1 σ H1 _ I1 q1) fun u s2 ⟨y, H2, I2, r2, q2⟩ =>
    thn (ho pins s2 σ H2 x y v u _ I2 r1 r2 q2) fun c s3 ⟨z, H3, I3, r3, k, e, q3⟩ => ?_) hm
  subst e
  cases r3
  exact wpAny_truthy_bool ⟨H3, I3, q3⟩
noncomputable def tChain (r r' : R2) (ta tb tc : TE) : TE := fun σ H Q => ta σ H fun x H1 => tb σ H1 fun y H2 => r x y H2 fun z H3 => ∃ k, z = .bl k ∧
  (if k = true then tc σ H3 fun w' H4 => r' y w' H4 Q else Q (.bl false) H3)
theorem pe_chain {op op' : CmpOp} {r r' : R2} (ho : OpR X (compareOp op) r) (ho' : OpR X (compareOp op') r') (ha : PE X a ta) (hb : PE X b tb) (hc : PE X c tc)
    (hm : lastMarks [op, op'] [b, c] = false := by with_unfolding_all rfl) : PE X (.Compare a [op, op'] [b, c] pos) (tChain r r' ta tb tc) := by
  intro pins s σ H Q I h
  refine Compare_chain (thn (ha pins s σ H _ I h) fun v s1 ⟨x, H1, I1, r1, q1⟩ => chain_link (thn (hb pins s1 σ H1 _ I1 q1) fun u s2 ⟨y, H2, I2, r2, q2⟩ =>
    thn (ho pins s2 σ H2 x y v u _ I2 r1 r2 q2) fun d s3 ⟨z, H3, I3, r3, k, e, q3⟩ => ?_)) hm
  subst e
  cases r3
  refine wpAny_truthy_bool ?_
  cases k with
  | false => exact ite_ff ⟨.bl false, H3, I3, rfl, q3⟩
  | true => exact ite_tt (chain_last (thn (hc pins s3 σ H3 _ I3 q3) fun w' s4 ⟨z', H4, I4, r4, q4⟩ => ho' pins s4 σ H4 y z' u w' Q I4 r2 r4 q4))
noncomputable def TruV (K : PySem.W.Frag) (x : V) (H : Hp) (k : Bool) : Prop :=
  match x with
  | .non => k = false
  | .bl b => k = b
  | .int i => k = (i != 0)
  | .str y => y.length ≤ sizeLine ∧ k = ((y.length : Int) != 0)
  | .byt y => y.size ≤ sizeLine ∧ k = ((y.size : Int) != 0)
  | .ref p => (∃ xs, SqL K H p xs ∧ k = !xs.isEmpty) ∨ (∃ xs, SqT K H p xs ∧ k = !xs.isEmpty) ∨ ∃ kvs, H p = some (.dK kvs) ∧ k = !kvs.isEmpty
  | _ => False
theorem isEmpty_kv {κ : Type} {kvs : List (κ × V)} {vs : List (κ × Value)} (r : KV kvs vs) : (!vs.isEmpty) = !kvs.isEmpty := by
  cases r <;> rfl
theorem isEmpty_of {xs : List V} {its : List Value} (r : Vals xs its) : (!its.toArray.isEmpty) = !xs.isEmpty := by
  cases r <;> simp
theorem line63 : (sizeLine : Nat) < 2 ^ 63 := by rw [sizeLine_eq]; decide
theorem tru_ok : TruR X (fun x H Q => ∃ k, TruV X.K x H k ∧ Q k H) := by
  intro pins s σ H x v Q I rx h
  obtain ⟨k, e, q⟩ := h
  have hl := line63
  have hs : sizeLine = 16777216 := sizeLine_eq
  cases x with
  | non =>
    cases rx
    have e' : k = false := e
    subst e'
    exact truthy_none ⟨H, I, q⟩
  | bl b =>
    cases rx
    have e' : k = b := e
    subst e'
    exact wpAny_truthy_bool ⟨H, I, q⟩
  | int i =>
    obtain ⟨t, rfl⟩ := rx
    have e' : k = (i != 0) := e
    subst e'
    exact PySem.P.truthy_int ⟨H, I, q⟩
  | str y =>
    obtain ⟨t, rfl⟩ := rx
    obtain ⟨hy, e'⟩ : y.length ≤ sizeLine ∧ k = ((y.length : Int) != 0) := e
    subst e'
    exact PySem.P.truthy_str (by omega) ⟨H, I.tok _, q⟩
  | byt y =>
    obtain ⟨t, rfl⟩ := rx
    obtain ⟨hy, e'⟩ : y.size ≤ sizeLine ∧ k = ((y.size : Int) != 0) := e
    subst e'
    exact PySem.W.truthy_bytes (by omega) ⟨H, I.tok _, q⟩
  | ref p =>
    cases rx
    have e' : (∃ xs, SqL X.K H p xs ∧ k = !xs.isEmpty) ∨ (∃ xs, SqT X.K H p xs ∧ k = !xs.isEmpty) ∨ ∃ kvs, H p = some (.dK kvs) ∧ k = !kvs.isEmpty := e
    rcases e' with ⟨xs, hx, e'⟩ | ⟨xs, hx, e'⟩ | ⟨kvs, hx, e'⟩
    · subst e'
      obtain ⟨its, r, pl, hz⟩ := I.list hx
      have hlen := r.length
      exact wpAny_truthy_list pl.isList (by simp only [List.size_toArray]; omega) ⟨H, I.tok _, by rw [isEmpty_of r]; exact q⟩
    · subst e'
      obtain ⟨its, r, pl, hz⟩ := I.tuple hx
      have hlen := r.length
      exact truthy_tuple pl (by simp only [List.size_toArray]; omega) ⟨H, I.tok _, by rw [isEmpty_of r]; exact q⟩
    · subst e'
      obtain ⟨hz, hS, vs, r, m⟩ : kvs.length ≤ sizeLine ∧ (p == sysModules) = false ∧ ∃ vs, KV kvs vs ∧ s.heap.DictOf (mixKind X.prog X.w) p vs := I.hok p _ hx
      have hlen : kvs.length = vs.length := Paired.length r
      exact wpAny_truthy_dict hS m (by omega) ⟨H, I.tok _, by rw [isEmpty_kv r]; exact q⟩
  | _ => exact (show False from e).elim
theorem pt_truth (ha : PE X a ta) (he : ∀ whole, isTrue a X.env whole = (do let v ← whole; standAt a.pos; holding [v] (truthy v))) :
    PT X a (fun σ H Q => ta σ H fun x H' => ∃ k, TruV X.K x H' k ∧ Q k H') := by
  intro pins s σ H Q I h
  exact isTrue_plain (thn (ha pins s σ H _ I h) fun v s1 ⟨x, H1, I1, r1, q1⟩ => tru_ok pins s1 σ H1 x v Q I1 r1 q1) (he _)
theorem op_add_str : OpR X (binaryOp .Add) (fun x y H Q => ∃ i j, x = .str i ∧ y = .str j ∧ i.length + j.length ≤ sizeLine ∧ Q (.str (i ++ j)) H) := by
  intro pins s σ H x y v u Q I rx ry h
  obtain ⟨i, j, rfl, rfl, hz, q⟩ := h
  obtain ⟨t, rfl⟩ := rx
  obtain ⟨t', rfl⟩ := ry
  exact add_str (fun t' tk => ⟨.str (i ++ j), H, I.tok _, ⟨_, rfl⟩, q⟩) hz
theorem vals1 {x : V} {us : List Value} (r : Vals [x] us) : ∃ u, us = [u] ∧ RelV x u := by
  cases r with
  | cons r1 r2 => cases r2; exact ⟨_, rfl, r1⟩
theorem call_str_int : CallR X (.type "str") (fun xs H Q => ∃ i, xs = [.int i] ∧ i.natAbs.log2 < 1920 ∧ Q (.str (toString i)) H) := by
  intro pins s σ H xs us Q I r h
  obtain ⟨i, rfl, hz, q⟩ := h
  obtain ⟨u, rfl, t, rfl⟩ := vals1 r
  exact PySem.P.str_of_int hz ⟨.str _, H, I.tok _, ⟨_, rfl⟩, q⟩
noncomputable def LenV (K : PySem.W.Frag) (x : V) (H : Hp) (n : Nat) : Prop :=
  match x with
  | .str y => y.length ≤ sizeLine ∧ n = y.length
  | .byt y => y.size ≤ sizeLine ∧ n = y.size
  | .ref p => (∃ xs, SqL K H p xs ∧ n = xs.length) ∨ ∃ xs, SqT K H p xs ∧ n = xs.length
  | _ => False
theorem call_len : CallR X (.builtin "len") (fun xs H Q => ∃ x n, xs = [x] ∧ LenV X.K x H n ∧ Q (.int n) H) := by
  intro pins s σ H xs us Q I r h
  obtain ⟨x, n, rfl, e, q⟩ := h
  obtain ⟨u, rfl, rx⟩ := vals1 r
  have hl := line63
  have hs : sizeLine = 16777216 := sizeLine_eq
  cases x with
  | str y =>
    obtain ⟨t, rfl⟩ := rx
    obtain ⟨hy, e'⟩ : y.length ≤ sizeLine ∧ n = y.length := e
    subst e'
    exact len_str (by omega) ⟨.int _, H, I.tok _, ⟨_, rfl⟩, q⟩
  | byt y =>
    obtain ⟨t, rfl⟩ := rx
    obtain ⟨hy, e'⟩ : y.size ≤ sizeLine ∧ n = y.size := e
    subst e'
    exact PySem.W.len_bytes (by omega) ⟨.int _, H, I.tok _, ⟨_, rfl⟩, q⟩
  | ref p =>
    cases rx
    have e' : (∃ xs, SqL X.K H p xs ∧ n = xs.length) ∨ ∃ xs, SqT X.K H p xs ∧ n = xs.length := e
    rcases e' with ⟨xs, hx, e'⟩ | ⟨xs, hx, e'⟩
    · subst e'
      obtain ⟨its, r', pl, hz⟩ := I.list hx
      have hlen := r'.length
      exact Calls.call_len_list pl.isList (by simp only [List.size_toArray]; omega) ⟨.int xs.length, H, I.tok _, ⟨_, by simp only [List.size_toArray]; rw [hlen]⟩, q⟩
    · subst e'
      obtain ⟨its, r', pl, hz⟩ := I.tuple hx
      have hlen := r'.length
      exact len_tuple pl (by simp only [List.size_toArray]; omega) ⟨.int xs.length, H, I.tok _, ⟨_, by simp only [List.size_toArray]; rw [hlen]⟩, q⟩
  | _ => exact (show False from e).elim
end
end L2
namespace L2
open PySem PySem.Spec PyProof.Rows
structure ObjM (h : Heap) (x dx C : Addr) (mA : Str → Option Value) : Prop where
  obj : InsO h x C dx
  ns : h.Ns1 dx mA
  ne : dx ≠ x
theorem lookIn_ns {h : Heap} {dx : Addr} {mA : Str → Option Value} (n : h.Ns1 dx mA) : ∃ od, h.get? dx = some od ∧ ∀ name, PySem.W.lookIn name od = some (mA name) := by
  obtain ⟨o, es, ep, ho, hd, hk, _, hm⟩ := n
  refine ⟨o, ho, fun name => ?_⟩
  have e := hm name
  unfold nsFind findBy at e
  rw [← Array.find?_toList] at e
  unfold PySem.W.lookIn
  rw [hd]
  dsimp only
  split
  · rename_i y q
    rw [q] at e
    exact congrArg some e
  · rename_i q
    rw [q] at e
    have a : es.toList.any (·.refKey) = false := by
      rw [List.any_eq_false]
      intro y hy
      obtain ⟨z, t, hkey⟩ := hk y (Array.mem_toList_iff.mp hy)
      simp [DictEntry.refKey, hkey]
    have a' : ¬ es.toList.any (·.refKey) = true := by rw [a]; exact Bool.false_ne_true
    rw [if_neg a']
    exact congrArg some e
theorem ObjM.look {h : Heap} {x dx C : Addr} {mA : Str → Option Value} (I : ObjM h x dx C mA) : ∃ dt sl od, PySem.W.InstAt h x ⟨.ref C, some dx, dt, sl⟩ C (some od) ∧ ∀ name, PySem.W.lookIn name od = some (mA name) := by
  obtain ⟨od, ho, hl⟩ := lookIn_ns I.ns
  obtain ⟨dt, sl, e, nc⟩ := I.obj
  refine ⟨dt, sl, od, ⟨e, rfl, ?_, ho⟩, hl⟩
  cases dt <;> first | rfl | exact absurd rfl (nc _)
section
variable {prog : Program} {w : World} {A : Around} {E : Value → Shared → Prop} {s : Shared} {K : PySem.W.Frag} {x dx C f : Addr} {mA : Str → Option Value} {name : Str} {v : Value}
end
theorem RelO.some_of {v : V} {o : Option Value} (r : RelO (some v) o) : ∃ u, o = some u ∧ RelV v u := by
  cases o with
  | none => exact (show False from r).elim
  | some u => exact ⟨u, rfl, r⟩
theorem handed_of {v : V} {u : Value} (r : RelV v u) : PySem.W.handedIn u = true := by
  cases v with
  | non => cases (show u = Value.none from r); rfl
  | bl b => cases (show u = Value.bool b from r); rfl
  | int i => obtain ⟨t, e⟩ := (show ∃ t, u = Value.int i t from r); cases e; rfl
  | str x => obtain ⟨t, e⟩ := (show ∃ t, u = Value.str x t from r); cases e; rfl
  | byt b => obtain ⟨t, e⟩ := (show ∃ t, u = Value.bytes b t from r); cases e; rfl
  | flt b => obtain ⟨t, e⟩ := (show ∃ t, u = Value.float b t from r); cases e; rfl
  | ref a => cases (show u = Value.ref a from r); rfl
  | ty n => cases (show u = Value.type n from r); rfl
section
variable {P : Program} {w : World} {H H' : Hp} {h h' : Heap} {a C dx : Addr} {fs fs' : List (Str × V)}
theorem ins_get (hok : HOk P w H h) (e : H a = some (.ins C dx fs)) : ∃ mA, ObjM h a dx C mA ∧ (∀ f, RelO (fs.lookup f) (mA f)) ∧ PySem.Within mA (fs.map (·.1)) ∧ fs.length ≤ 1000 ∧ H dx = some (.own a) := by
  obtain ⟨d, z, ne, ob, mA, n, r, q⟩ := (show ObjOk P w H h a (.ins C dx fs) from hok a _ e)
  exact ⟨mA, ⟨ob, n, ne⟩, r, q, z, d⟩
end
section
variable {X : Cx} {pins : List (Addr × Obj)} {σ : St} {H : Hp} {s : Shared} {a C dx : Addr} {fs : List (Str × V)} {f : Str} {v : V} {A : Around} {E : Value → Shared → Prop}
theorem attr_of {prog : Program} {w : World} {env : Env} {e : Expr} {f : Str} {pos : Pos} {s : Shared} {Q : Value → Shared → Prop} (hb : attributeBase e f env (eval e env) = eval e env)
    (h : wpAny (model prog w) A (eval e env) (fun o s₁ => wpAny (model prog w) A (getAttr o f true) Q E s₁) E s) : wpAny (model prog w) A (eval (.Attribute e f pos) env) Q E s :=
  Attribute_any_ h (by rw [arm_eval_Attribute, hb])
end
section
variable {X : Cx} {o e value : Expr} {f : Str} {pos pos' tpos : Pos} {ta tv : TE}
end
section
variable {X : Cx} {pins : List (Addr × Obj)} {σ : St} {H : Hp} {s : Shared} {A : Around} {E : Value → Shared → Prop} {Q : Value → Shared → Prop} {c : Value} {b : Bool}
end
end L2
namespace L2
open PySem PySem.Spec PyProof.Rows
structure Room (k : Nat) (A : Around) : Prop where
  hd : A.handled = none
  dp : A.depth + 3 * k + 5 < recursionLimit
  un : A.units + 16 * k + 200 < cLine
  gd : A.guards = some []
theorem Room.mono {j k : Nat} {A : Around} (r : Room k A) (h : j ≤ k) : Room j A := ⟨r.hd, by have := r.dp; omega, by have := r.un; omega, r.gd⟩
theorem Room.deeper {k : Nat} {A : Around} (r : Room (k + 1) A) (env : Env) : Room k (A.deeper env) :=
  ⟨r.hd, by have := r.dp; show A.depth + 1 + 3 * k + 5 < _; omega, by have := r.un; show A.units + 3 + 16 * k + 200 < _; omega, r.gd⟩
theorem make_depth {A : Around} {C : Addr} {us : List Value} {kw : List (Str × Value)} : (A.under (.builtin "type.__call__" ⟨.ref C :: us, kw⟩)).depth = A.depth + 1 := by
  first | rfl | simp [Around.under, Code.weight, Code.isCreation, Code.isGuard, Code.isCaller, Code.frames, Code.isFrame, guardIds]
theorem make_units {A : Around} {C : Addr} {us : List Value} {kw : List (Str × Value)} : (A.under (.builtin "type.__call__" ⟨.ref C :: us, kw⟩)).units = A.units + 1 := by
  first | rfl | simp [Around.under, Code.cUnits, Code.frames, Code.isFrame]
theorem Room.make {k : Nat} {A : Around} (r : Room (k + 1) A) (C : Addr) (us : List Value) (kw : List (Str × Value)) : Room k (A.under (.builtin "type.__call__" ⟨.ref C :: us, kw⟩)) :=
  ⟨r.hd, by have := r.dp; rw [make_depth]; omega, by have := r.un; rw [make_units]; omega, by first | exact r.gd | simpa [Around.under, Code.isGuard, Code.isFrame, guardIds] using r.gd⟩
theorem Room.depth {k : Nat} {A : Around} (r : Room k A) : A.depth < recursionLimit := by have := r.dp; omega
theorem Room.units {k : Nat} {A : Around} (r : Room k A) : A.units + 64 < cLine := by have := r.un; omega
noncomputable def tNil : TA := fun _ H Q => Q [] H
noncomputable def tCons (ta : TE) (tr : TA) : TA := fun σ H Q => ta σ H fun x H1 => tr σ H1 fun xs H2 => Q (x :: xs) H2
section
variable {X : Cx} {e : Expr} {es : List Expr} {te : TE} {t : TA} {pos : Pos}
theorem pa_nil : PA X [] tNil := fun _ _ _ _ H Q I h => Calls.spliced_nil ⟨[], H, I, .nil, h⟩
theorem pa_cons (ha : PE X e te) (hr : PA X es t) (hs : starEach (e :: es) X.env = (false, eval e X.env) :: starEach es X.env := by rfl) : PA X (e :: es) (tCons te t) := by
  intro pos pins s σ H Q I h
  rw [hs]
  show wpAny _ _ (spliced ((false, eval e X.env) :: backTo pos (starEach es X.env))) _ _ s
  refine Calls.spliced_cons (thn (ha pins s σ H _ I h) fun u s1 z9 => ?_)
  obtain ⟨x, H1, I1, r1, q1⟩ := z9
  exact thn (hr pos pins s1 σ H1 _ I1 q1) fun us s2 ⟨xs, H2, I2, r2, q2⟩ => ⟨x :: xs, H2, I2, .cons r1 r2, q2⟩
noncomputable def tTup (t : TA) : TE := fun σ H Q => t σ H fun xs H1 => xs.length ≤ sizeLine ∧ ∀ p, H1 p = none → Q (.ref p) (upd H1 p (.tup xs))
noncomputable def tLst (t : TA) : TE := fun σ H Q => t σ H fun xs H1 => xs.length ≤ sizeLine ∧ ∀ p, H1 p = none → Q (.ref p) (upd H1 p (.lst xs))
theorem pe_tup {x1} (h : PA X es t) : PE X (.Tuple es x1 pos) (tTup t) := by
  intro pins s σ H Q I hq
  refine wpAny_Tuple_spliced (thn (h pos pins s σ H _ I hq) fun us s1 ⟨xs, H1, I1, r, z, q⟩ => ⟨by rw [← r.length]; exact z, ?_⟩)
  have hf : H1 s1.heap.objs.size = none := I1.hok.fresh (Nat.le_refl _)
  refine ⟨.ref s1.heap.objs.size, upd H1 s1.heap.objs.size (.tup xs), I1.laid (t' := s1.toks) (fun b u e => Heap.get?_push_of_some _ e) (Nat.le_refl _) ?_, rfl, q _ hf⟩
  exact ⟨z, us, r, ⟨_, Heap.get?_push_size _ rfl, rfl, _, rfl⟩⟩
theorem pe_lst (h : PA X es t) : PE X (.List es pos) (tLst t) := by
  intro pins s σ H Q I hq
  refine wpAny_List_spliced (thn (h pos pins s σ H _ I hq) fun us s1 ⟨xs, H1, I1, r, z, q⟩ => ⟨by rw [← r.length]; exact z, ?_⟩)
  have hf : H1 s1.heap.objs.size = none := I1.hok.fresh (Nat.le_refl _)
  refine ⟨.ref s1.heap.objs.size, upd H1 s1.heap.objs.size (.lst xs), I1.laid (t' := s1.toks) (fun b u e => Heap.get?_push_of_some _ e) (Nat.le_refl _) ?_, rfl, q _ hf⟩
  exact ⟨z, us, 0, r, Heap.get?_push_size _ rfl⟩
end
noncomputable abbrev Sp := List V → Hp → VK → XK → Prop
noncomputable abbrev CXT := List Env → Hp → Shared → XK → Value → Shared → Prop
structure Env0 (P : Program) (w : World) (K : PySem.W.Frag) (mg : Str → Option Value) (base : Heap) (A : Around) (outer : List Env) (s : Shared) (H : Hp) : Prop where
  frames : A.frames = some outer
  mod : Mod K mg base
  bs : ∀ b o, base.get? b = some o → s.heap.get? b = some o ∧ H b = none
  bsz : base.objs.size ≤ s.heap.objs.size
  funs : s.heap.FunFrames base outer
  frf : ∀ b ∈ frs outer, H b = none
  hok : HOk P w H s.heap
  bare : AllBare s.gens
noncomputable def CE (outer : List Env) (P : Program) (w : World) (H : Hp) (s : Shared) (Q : VK) (u : Value) (s' : Shared) : Prop :=
  ∃ v H', s'.os = s.os ∧ AllBare s'.gens ∧ Un (frs outer) [] H H' s.heap s'.heap ∧ HOk P w H' s'.heap ∧ RelV v u ∧ Q v H'
noncomputable def CR (CX : CXT) (outer : List Env) (P : Program) (w : World) (H : Hp) (s : Shared) (Q : VK) (E : XK) (r : Result) (s' : Shared) : Prop :=
  match r with
  | .ok (.ret u) => CE outer P w H s Q u s'
  | .ok _ => False
  | .error e => CX outer H s E e s'
structure FnOk (P : Program) (w : World) (K : PySem.W.Frag) (mg : Str → Option Value) (base : Heap) (CX : CXT) (k : Nat) (f : Addr) (fd : FuncData) (ps : List Str) (sp : Sp) : Prop where
  len : ∀ vs H Q E, sp vs H Q E → vs.length = ps.length
  run : ∀ (A : Around) (outer : List Env) (s : Shared) (H : Hp) (args : Args) (us : List Value) (vs : List V) (Q : VK) (E : XK), Room k A → Env0 P w K mg base A outer s H → BindsTo s fd args (ps.zip us) → Vals vs us → sp vs H Q E →
    codeAny (model P w) A (.call (.ref f) args) (CR CX outer P w H s Q E) s
theorem FnOk.mono {P : Program} {w : World} {K : PySem.W.Frag} {mg : Str → Option Value} {base : Heap} {CX : CXT} {j k : Nat} {f : Addr} {fd : FuncData} {ps : List Str} {sp : Sp} (F : FnOk P w K mg base CX j f fd ps sp) (h : j ≤ k) :
    FnOk P w K mg base CX k f fd ps sp := ⟨F.len, fun A outer s H args us vs Q E hr => F.run A outer s H args us vs Q E (hr.mono h)⟩
theorem Env0.make {P : Program} {w : World} {K : PySem.W.Frag} {mg : Str → Option Value} {base : Heap} {A : Around} {outer : List Env} {s : Shared} {H : Hp} (e : Env0 P w K mg base A outer s H) (C : Addr) (us : List Value) (kw : List (Str × Value)) :
    Env0 P w K mg base (A.under (.builtin "type.__call__" ⟨.ref C :: us, kw⟩)) outer s H := ⟨by first | exact e.frames | (simpa [Around.under, Code.envs, Code.isFrame, pushEnvs] using e.frames), e.mod, e.bs, e.bsz, e.funs, e.frf, e.hok, e.bare⟩
section
variable {X : Cx} {pins : List (Addr × Obj)} {σ : St} {H : Hp} {s s' : Shared}
theorem Inv.env0 (I : Inv X pins σ H s) : Env0 X.prog X.w X.K X.mg X.base X.A X.stack s H :=
  ⟨I.ok.frames, I.ok.mod, I.bs, Nat.le_trans I.ok.bsz I.sz, I.stack, I.stkFree, I.hok, I.bare⟩
theorem Inv.after {Q : VK} {u : Value} (I : Inv X pins σ H s) (h : CE X.stack X.prog X.w H s Q u s') : EP X pins σ Q u s' := by
  obtain ⟨v, H', os, bare, un, hok, r, q⟩ := h
  obtain ⟨hh, g, d, t, os'⟩ := s'
  obtain rfl : os' = s.os := os
  exact ⟨v, H', I.call (h' := hh) (g' := g) (d' := d) (t' := t) (ch := []) un hok bare (fun b z => absurd z (by simp)), r, q⟩
end
noncomputable def tCall (sp : Sp) (dvs : List V) (E : XK) (t : TA) : TE := fun σ H Q => t σ H fun vs H1 => sp (vs ++ dvs) H1 Q E
noncomputable def Binds (K : PySem.W.Frag) (fd : FuncData) (ps : List Str) (ds : List Value) : Prop :=
  ∀ (s : Shared) (us : List Value), K.In s.heap → (us ++ ds).length = ps.length → BindsTo s fd ⟨us, []⟩ (ps.zip (us ++ ds))
theorem Binds.all {K : PySem.W.Frag} {fd : FuncData} {ps : List Str} (h : ∀ us : List Value, us.length = ps.length → bindArgs fd ⟨us, []⟩ = pure (ps.zip us)) : Binds K fd ps [] := fun s us _ hl => by
  rw [List.append_nil] at hl ⊢
  exact .of_eq (h us hl)
noncomputable def Passes (CX : CXT) (X : Cx) (E : XK) : Prop := ∀ (pins : List (Addr × Obj)) (σ : St) (H : Hp) (s : Shared) (e : Value) (s' : Shared), Inv X pins σ H s → CX X.stack H s E e s' → X.xe e s'
section
variable {X : Cx} {CX : CXT} {k : Nat} {f C : Addr} {fd : FuncData} {ps : List Str} {sp : Sp} {dvs : List V} {ds : List Value} {E : XK} {x m : Str} {p pos apos : Pos} {e o : Expr} {es : List Expr} {ta : TE} {t : TA}
theorem run_fn {pins : List (Addr × Obj)} {σ : St} {H : Hp} {s : Shared} {Q : VK} {us : List Value} {vs : List V} (F : FnOk X.prog X.w X.K X.mg X.base CX k f fd ps sp) (hr : Room k X.A) (hb : Binds X.K fd ps ds) (hd : Vals dvs ds) (hx : Passes CX X E)
    (I : Inv X pins σ H s) (r : Vals vs us) (h : sp (vs ++ dvs) H Q E) : wpAny (model X.prog X.w) X.A (call (.ref f) us) (EP X pins σ Q) X.xe s := by
  have r2 : Vals (vs ++ dvs) (us ++ ds) := r.append hd
  have hl : (us ++ ds).length = ps.length := by rw [← r2.length]; exact F.len _ _ _ _ h
  refine wpAny_call (codeAny_mono (F.run X.A X.stack s H ⟨us, []⟩ (us ++ ds) (vs ++ dvs) Q E hr I.env0 (hb s us I.kIn hl) r2 h) fun r s' hq => ?_)
  cases r with
  | error e => exact hx pins σ H s e s' I hq
  | ok fl =>
    cases fl with
    | ret u => exact I.after hq
    | next => exact False.elim hq
    | brk => exact False.elim hq
    | cont => exact False.elim hq
theorem pe_call (F : FnOk X.prog X.w X.K X.mg X.base CX k f fd ps sp) (hr : Room k X.A) (hg : Gl X x) (hm : X.mg x = some (.ref f)) (hk : PySem.W.keepIn X.K (.ref f) = true) (hb : Binds X.K fd ps ds) (hd : Vals dvs ds) (hx : Passes CX X E)
    (ha : PA X (e :: es) t) (hdb : (x == ("__debug__" : Str)) = false := by decide) (he : starEach (e :: es) X.env = (false, eval e X.env) :: starEach es X.env := by rfl) (hpl : (backTo pos (starEach es X.env)).any (·.1) = false := by rfl) :
    PE X (.Call (.Name x p) (e :: es) [] pos) (tCall sp dvs E t) := by
  intro pins s σ H Q I h
  refine wpAny_Call_Name_kw (ld_glob I hg hm ?_ hdb)
  refine PySem.W.callWith_K (h₀ := X.base) I.ok.mod.kin hk (thn (ha pos pins s σ H _ I h) fun us s1 ⟨vs, H1, I1, r, q⟩ => ⟨I1.kIn, ?_⟩) he hpl
  exact run_fn F hr hb hd hx I1 r q
theorem pe_call0 (F : FnOk X.prog X.w X.K X.mg X.base CX k f fd ps sp) (hr : Room k X.A) (hg : Gl X x) (hm : X.mg x = some (.ref f)) (hk : PySem.W.keepIn X.K (.ref f) = true) (hb : Binds X.K fd ps ds) (hd : Vals dvs ds) (hx : Passes CX X E)
    (hdb : (x == ("__debug__" : Str)) = false := by decide) : PE X (.Call (.Name x p) [] [] pos) (tCall sp dvs E tNil) := by
  intro pins s σ H Q I h
  refine wpAny_Call_Name_kw (ld_glob I hg hm ?_ hdb)
  exact PySem.W.callWith_K0 I.kIn hk (run_fn (us := []) F hr hb hd hx I .nil h)
end
section
variable {X : Cx} {CX : CXT} {k : Nat} {f C : Addr} {fd : FuncData} {ps ks : List Str} {sp : Sp} {E : XK} {x m : Str} {p pos apos kpos : Pos} {e o : Expr} {es : List Expr} {kws : List Keyword} {te ta : TE} {t tk : TA} {nm : Option Str}
variable {g : List Value → List Value → List Value} {gV : List V → List V → List V}
end
structure FnScope (N P : List Str) (sc : Scope) : Prop where
  kind : sc.kind = .function
  co : sc.isCoroutine = false
  gen : sc.isGenerator = false
  nd : N.Nodup
  pre : N.take P.length = P
  par : ∀ x ∈ P, sc.names.lookup x = some .local ∨ sc.names.lookup x = some .cell
  nofree : ∀ y ∈ sc.names, y.2 ≠ .free
theorem bindL_out {kindOf : Str → Option NameKind} {x : Str} : ∀ {binds : List (Str × Value)} {m : Str → Option Value}, (∀ v, (x, v) ∉ binds) → bindL kindOf binds m x = m x
  | [], _, _ => rfl
  | (n, v) :: r, m, h => by
    unfold bindL
    rw [bindL_out fun w hw => h w (List.mem_cons_of_mem _ hw)]
    split
    · have : x ≠ n := by rintro rfl; exact h v List.mem_cons_self
      simp [this]
    · rfl
theorem bindC_out {kindOf : Str → Option NameKind} {x : Str} : ∀ {binds : List (Str × Value)} {m : Str → Option Value}, (∀ v, (x, v) ∉ binds) → bindC kindOf binds m x = m x
  | [], _, _ => rfl
  | (n, v) :: r, m, h => by
    unfold bindC
    rw [bindC_out fun w hw => h w (List.mem_cons_of_mem _ hw)]
    split
    · rfl
    · have : x ≠ n := by rintro rfl; exact h v List.mem_cons_self
      simp [this]
theorem bindL_get {kindOf : Str → Option NameKind} {x : Str} {v : Value} : ∀ {P : List Str} {vs : List Value} {i : Nat} {m : Str → Option Value}, P.Nodup → P[i]? = some x → vs[i]? = some v → kindOf x = some .local →
    bindL kindOf (P.zip vs) m x = some v
  | [], _, _, _, _, h, _, _ => by simp at h
  | _ :: _, [], _, _, _, _, h, _ => by simp at h
  | p :: P, w :: vs, 0, m, nd, h1, h2, hk => by
    simp at h1 h2; subst h1; subst h2
    show bindL kindOf ((p, w) :: P.zip vs) m p = _
    unfold bindL
    rw [bindL_out fun v hv => (List.nodup_cons.mp nd).1 (List.of_mem_zip hv).1, if_pos hk]
    simp
  | p :: P, w :: vs, i + 1, m, nd, h1, h2, hk => by
    show bindL kindOf ((p, w) :: P.zip vs) m x = _
    unfold bindL
    exact bindL_get (i := i) (List.nodup_cons.mp nd).2 (by simpa using h1) (by simpa using h2) hk
theorem bindC_get {kindOf : Str → Option NameKind} {x : Str} {v : Value} : ∀ {P : List Str} {vs : List Value} {i : Nat} {m : Str → Option Value}, P.Nodup → P[i]? = some x → vs[i]? = some v → kindOf x ≠ some .local →
    bindC kindOf (P.zip vs) m x = some v
  | [], _, _, _, _, h, _, _ => by simp at h
  | _ :: _, [], _, _, _, _, h, _ => by simp at h
  | p :: P, w :: vs, 0, m, nd, h1, h2, hk => by
    simp at h1 h2; subst h1; subst h2
    show bindC kindOf ((p, w) :: P.zip vs) m p = _
    unfold bindC
    rw [bindC_out fun v hv => (List.nodup_cons.mp nd).1 (List.of_mem_zip hv).1, if_neg hk]
    simp
  | p :: P, w :: vs, i + 1, m, nd, h1, h2, hk => by
    show bindC kindOf ((p, w) :: P.zip vs) m x = _
    unfold bindC
    exact bindC_get (i := i) (List.nodup_cons.mp nd).2 (by simpa using h1) (by simpa using h2) hk
noncomputable def start (N : List Str) (vs : List V) : St := vs.map some ++ List.replicate (N.length - vs.length) none
noncomputable def cxOf (CX : CXT) (P : Program) (w : World) (K : PySem.W.Frag) (mg : Str → Option Value) (base : Heap) (N : List Str) (qual : Str) (scope : Scope) (f : Addr) (cd : Value) (A : Around) (outer : List Env) (s : Shared) (H : Hp) (E : XK) : Cx where
  prog := P
  w := w
  K := K
  mg := mg
  base := base
  A := A.deeper (envOfC qual scope s.heap.objs.size f cd)
  N := N
  s₀ := s
  H₀ := H
  env := envOfC qual scope s.heap.objs.size f cd
  outer := outer
  stack := envOfC qual scope s.heap.objs.size f cd :: outer
  ex := []
  calm := true
  fn := fun _ => true
  pn := []
  xe := fun e s' => wpAny (model P w) (A.deeper (envOfC qual scope s.heap.objs.size f cd)) (leaving (envOfC qual scope s.heap.objs.size f cd) e) (fun _ s'' => CX outer H s E e s'') (fun e' s'' => CX outer H s E e' s'') s'
theorem cell_has {sc : Scope} {n : Nat} {x : Str} (h : sc.names.lookup x = some .cell) : ∃ c, (cellsFrom n sc.names []).lookup x = some c := by
  have q := PySem.W.cellsFrom_some sc.names n [] (.inl h)
  exact Option.isSome_iff_exists.mp q
theorem inv_start {CX : CXT} {P : Program} {w : World} {K : PySem.W.Frag} {mg : Str → Option Value} {base : Heap} {N ps : List Str} {qual : Str} {scope : Scope} {f : Addr} {cd : Value} {A : Around} {outer : List Env} {s s1 : Shared} {H : Hp} {E : XK} {us : List Value} {vs : List V}
    (S : FnScope N ps scope) (hd : A.handled = none) (e0 : Env0 P w K mg base A outer s H) (hl : vs.length = ps.length) (r : Vals vs us)
    (x : InCallC s s.heap.objs.size (bindL (envOfC qual scope s.heap.objs.size f cd).kindOf (ps.zip us) fun _ => none) (cellsFrom (s.heap.objs.size + 1) scope.names []) (bindC (envOfC qual scope s.heap.objs.size f cd).kindOf (ps.zip us) fun _ => none) s1) :
    Inv (cxOf CX P w K mg base N qual scope f cd A outer s H E) [] (start N vs) H s1 := by
  have hpl : ps.length ≤ N.length := by have := congrArg List.length S.pre; rw [List.length_take] at this; omega
  obtain ⟨h1, tk, rfl, hk⟩ := x.done
  have noA : ∀ b : Addr, b ∉ (cxOf CX P w K mg base N qual scope f cd A outer s H E).ex := fun b z => absurd (show b ∈ ([] : List Addr) from z) (by simp)
  refine ⟨⟨e0.mod, S.kind, rfl, rfl, Nat.le_refl _, fun y z c h1 h2 => ?_, fun y hy => ?_, fun y c _ h => ?_, fun _ => hd, Around.frames_deeper e0.frames, .inr ⟨rfl, rfl⟩, fun b z => absurd z (noA b), e0.bs, e0.bsz, fun b _ _ => noA b, fun b z => absurd z (noA b), e0.funs, e0.frf⟩,
    rfl, e0.bare, Un.kept hk, ⟨_, x.toInCall.ns, fun i y v h1 h2 h3 => ?_⟩, fun y c h => ⟨_, x.cell y c h⟩, e0.hok.fresh (Nat.le_refl _), fun y c h => ?_, fun p hp => absurd (show p ∈ ([] : List (Addr × Obj)) from hp) (by simp), e0.hok.kept hk, ?_⟩
  · exact name_of_addr x.apart (PySem.mem_of_lookup h1) (PySem.mem_of_lookup h2)
  · have hy : scope.names.lookup y = some .cell ∨ scope.names.lookup y = some .free := hy
    rcases hy with hy | hy
    · exact cell_has hy
    · exact absurd rfl (S.nofree _ (PySem.mem_of_lookup hy))
  · exact Nat.le_of_lt (x.above y c (PySem.mem_of_lookup h))
  · have hi : i < vs.length := by
      unfold start at h2
      by_cases hi : i < vs.length
      · exact hi
      · rw [List.getElem?_append_right (by simpa using hi)] at h2
        rw [List.getElem?_replicate] at h2
        split at h2 <;> cases h2
    have ha : vs[i]? = some v := by
      unfold start at h2
      rw [List.getElem?_append_left (by simpa using hi), List.getElem?_map] at h2
      cases e : vs[i]? with
      | none => rw [e] at h2; cases h2
      | some a => rw [e] at h2; cases h2; rfl
    obtain ⟨u, hu, rv⟩ := r.get ha
    have hp : ps[i]? = some y := by
      rw [← S.pre, List.getElem?_take_of_lt (by omega)]; exact h1
    have ndP : ps.Nodup := by rw [← S.pre]; exact S.nd.sublist (List.take_sublist _ _)
    refine ⟨u, rv, ?_⟩
    rcases S.par y (List.mem_of_getElem? hp) with k | k
    · exact .inl ⟨k, bindL_get ndP hp hu k⟩
    · obtain ⟨c, e⟩ := cell_has (n := s.heap.objs.size + 1) k
      refine .inr ⟨.inl k, c, e, ?_⟩
      have q := x.cell y c e
      rw [bindC_get ndP hp hu (by show scope.names.lookup y ≠ _; rw [k]; decide)] at q
      exact q
  · exact e0.hok.fresh (Nat.le_of_lt (x.above y c (PySem.mem_of_lookup h)))
  · unfold start
    show _ = N.length
    rw [List.length_append, List.length_map, List.length_replicate]
    omega
theorem fn_of {CX : CXT} {P : Program} {w : World} {K : PySem.W.Frag} {mg : Str → Option Value} {base : Heap} {k : Nat} {f : Addr} {name qual : Str} {params : Arguments} {body : List Stmt} {scope : Scope} {dV kV doc pm cdv ct oc : Value} {an od : Option Addr}
    {osl : Array (Option Value)} {N ps : List Str} {sp : Sp} (lk : K.lookup f = some ⟨oc, od, .func (PySem.W.fnOf name qual params body scope dV kV doc pm an cdv ct), osl⟩) (hcd : PySem.W.codeIn K cdv qual = true) (S : FnScope N ps scope)
    (len : ∀ vs H Q E, sp vs H Q E → vs.length = ps.length)
    (hbody : ∀ (A : Around) (outer : List Env) (s : Shared) (H : Hp) (vs : List V) (Q : VK) (E : XK), Room k (A.deeper (envOfC qual scope s.heap.objs.size f cdv)) → sp vs H Q E →
      ∃ t, PSs (cxOf CX P w K mg base N qual scope f cdv A outer s H E) body t ∧ t { nx := fun _ H' => Q .non H', rt := Q } (start N vs) H) :
    FnOk P w K mg base CX (k + 1) f (PySem.W.fnOf name qual params body scope dV kV doc pm an cdv ct) ps sp := by
  refine ⟨len, fun A outer s H args us vs Q E hr e0 hb r hsp => ?_⟩
  have hl := len _ _ _ _ hsp
  have KX : K.In s.heap := e0.mod.kin.keeps fun b o e => (e0.bs b o e).1
  have lim : s.heap.NoLimit := e0.mod.nolimit.keeps fun b o e => (e0.bs b o e).1
  have hkind : ∀ y ∈ ps.zip us, scope.names.lookup y.1 = some .local ∨ (scope.names.lookup y.1 = some .cell ∧ ((cellsFrom (s.heap.objs.size + 1) scope.names []).lookup y.1).isSome = true) := fun ⟨n, v⟩ hy => by
    rcases S.par n (List.of_mem_zip hy).1 with q | q
    · exact .inl q
    · exact .inr ⟨q, PySem.W.cellsFrom_some _ _ _ (.inl q)⟩
  refine codeAny_call_function hr.depth (KX _ _ lk) rfl S.co S.gen rfl (PySem.W.codeRec_of KX hcd) (hb _ _ _ _ ?_)
  refine wpAny_newFunctionEnv_cells S.kind hkind fun env he s1 x => ?_
  subst he
  refine ⟨lim.keeps x.toInCall.keep, codeAny_func ?_⟩
  obtain ⟨t, ht, hq⟩ := hbody A outer s H vs Q E (hr.deeper _) hsp
  have I : Inv (cxOf CX P w K mg base N qual scope f cdv A outer s H E) [] (start N vs) H s1 := inv_start S hr.hd e0 hl r x
  refine wpAny_mono (ht [] s1 (start N vs) H _ I hq) (fun fl s' hs => ?_) fun e s' hs => hs
  have fin : ∀ {σ' : St} {H' : Hp} {v : V} {u : Value}, Inv (cxOf CX P w K mg base N qual scope f cdv A outer s H E) [] σ' H' s' → RelV v u → Q v H' → CE outer P w H s Q u s' :=
    fun {σ' H' v u} J rv q => ⟨v, H', J.os, J.bare, J.base, J.hok, rv, q⟩
  cases fl with
  | ret u =>
    obtain ⟨v, σ', H', J, rv, q⟩ := hs
    exact fin J rv q
  | next =>
    obtain ⟨σ', H', J, q⟩ := hs
    exact fin (v := V.non) (u := Value.none) J rfl q
  | brk =>
    obtain ⟨_, _, _, q⟩ := hs
    exact False.elim q
  | cont =>
    obtain ⟨_, _, _, q⟩ := hs
    exact False.elim q
end L2
namespace L2
open PySem PySem.Spec PyProof.Rows
section
variable {X : Cx} {x : Str} {p pos : Pos} {e : Expr} {es : List Expr} {t : TA} {id T : String} {r : List V → Hp → VK → Prop}
noncomputable def tCB (r : List V → Hp → VK → Prop) (t : TA) : TE := fun σ H Q => t σ H fun vs H1 => r vs H1 Q
theorem pe_callB (hc : CallR X (.builtin id) r) (hg : Gl X x) (hm : X.mg x = none) (hv : bootBuiltins x = some (.builtin id)) (ha : PA X (e :: es) t) (hn : x ≠ "__name__" := by decide) (hdb : (x == ("__debug__" : Str)) = false := by decide)
    (he : starEach (e :: es) X.env = (false, eval e X.env) :: starEach es X.env := by rfl) (hpl : (backTo pos (starEach es X.env)).any (·.1) = false := by rfl) : PE X (.Call (.Name x p) (e :: es) [] pos) (tCB r t) := by
  intro pins s σ H Q I h
  refine wpAny_Call_Name_kw (ld_blt I hg hm hv ?_ hn hdb)
  exact PyProof.Rows.callWith_builtin1 (thn (ha pos pins s σ H _ I h) fun us s1 ⟨vs, H1, I1, r1, q1⟩ => hc pins s1 σ H1 vs us Q I1 r1 q1) he hpl
theorem pe_callTy (hc : CallR X (.type T) r) (hg : Gl X x) (hm : X.mg x = none) (hv : bootBuiltins x = some (.type T)) (ha : PA X (e :: es) t) (hn : x ≠ "__name__" := by decide) (hdb : (x == ("__debug__" : Str)) = false := by decide)
    (he : starEach (e :: es) X.env = (false, eval e X.env) :: starEach es X.env := by rfl) (hpl : (backTo pos (starEach es X.env)).any (·.1) = false := by rfl) : PE X (.Call (.Name x p) (e :: es) [] pos) (tCB r t) := by
  intro pins s σ H Q I h
  refine wpAny_Call_Name_kw (ld_blt I hg hm hv ?_ hn hdb)
  exact PyProof.Rows.callWith_type1 (thn (ha pos pins s σ H _ I h) fun us s1 ⟨vs, H1, I1, r1, q1⟩ => hc pins s1 σ H1 vs us Q I1 r1 q1) he hpl
end
end L2
namespace HT
open PySem PyProof.Rows
section
open PySem.SeqAt
open PySem.AutoSeq1 (wpAny_loadPart')
open PySem.MeetsSeq PySem.MeetsSeq2 PySem.MeetsSeq3
end
section
variable {prog : Program} {w : World} {A : Around} {E : Value → Shared → Prop} {s : Shared}
noncomputable def sIx (n d : Nat) : Option Int → Nat
  | none => d
  | some v => if v < 0 then (v + (n : Int)).toNat else min v.toNat n
theorem sIx_nat (n d k : Nat) : sIx n d (some (k : Int)) = min k n := by
  show (if (k : Int) < 0 then ((k : Int) + (n : Int)).toNat else min (k : Int).toNat n) = min k n
  rw [if_neg (by omega), Int.toNat_natCast]
theorem sIx_le (n d : Nat) (hd : d ≤ n) (o : Option Int) : sIx n d o ≤ n := by
  cases o with
  | none => exact hd
  | some v =>
    show (if v < 0 then (v + (n : Int)).toNat else min v.toNat n) ≤ n
    by_cases hv : v < 0
    · rw [if_pos hv]; omega
    · rw [if_neg hv]; exact Nat.min_le_right _ _
end
end HT
namespace L2
open PySem PySem.Spec PyProof.Rows
noncomputable abbrev TO := St → Hp → (Option Int → Hp → Prop) → Prop
noncomputable def PO (X : Cx) (e : Option Expr) (t : TO) : Prop :=
  ∀ (pins : List (Addr × Obj)) (s : Shared) (σ : St) (H : Hp) (Q : Option Int → Hp → Prop), Inv X pins σ H s → t σ H Q →
    wpAny (model X.prog X.w) X.A (evalPart e X.env) (fun u s' => ∃ o H', Inv X pins σ H' s' ∧ IsPart u o ∧ Q o H') X.xe s
noncomputable def tNoPart : TO := fun _ H Q => Q none H
noncomputable def tPart (t : TE) : TO := fun σ H Q => t σ H fun x H1 => ∃ i, x = .int i ∧ Q (some i) H1
section
variable {X : Cx} {e : Expr} {te : TE} {lo hi : Option Expr} {tl th : TO} {pos p2 : Pos}
theorem po_none : PO X none tNoPart := by
  intro pins s σ H Q I h
  rw [evalPart_none]
  exact wpAny_pure ⟨none, H, I, .none, h⟩
theorem po_some (h : PE X e te) : PO X (some e) (tPart te) := by
  intro pins s σ H Q I hw
  rw [evalPart_some]
  refine thn (h pins s σ H _ I hw) fun u s1 z9 => ?_
  obtain ⟨x, H1, I1, r1, q1⟩ := z9
  obtain ⟨i, rfl, q⟩ := q1
  obtain ⟨t, rfl⟩ := r1
  exact ⟨some i, H1, I1, .int i t, q⟩
noncomputable def SlR (X : Cx) (r : V → Option Int → Option Int → Hp → VK → Prop) : Prop :=
  ∀ (pins : List (Addr × Obj)) (s : Shared) (σ : St) (H : Hp) (x : V) (v vl vu : Value) (lo hi : Option Int) (sl : Addr) (Q : VK), Inv X pins σ H s → RelV x v → s.heap.IsSliceOf sl vl vu .none → IsPart vl lo → IsPart vu hi → r x lo hi H Q →
    ∃ T id, typeLookup (.type T) "__getitem__" = pure (some (.builtin id)) ∧ s.TypeIs v T ∧ wpAny (model X.prog X.w) X.A (getItem v (.ref sl)) (EP X pins σ Q) X.xe s
theorem SlR.or {r r' : V → Option Int → Option Int → Hp → VK → Prop} (h : SlR X r) (h' : SlR X r') : SlR X (fun x lo hi H Q => r x lo hi H Q ∨ r' x lo hi H Q) := by
  intro pins s σ H x v vl vu lo hi sl Q I rx hs pl pu q
  rcases q with q | q
  · exact h pins s σ H x v vl vu lo hi sl Q I rx hs pl pu q
  · exact h' pins s σ H x v vl vu lo hi sl Q I rx hs pl pu q
noncomputable def tSl (r : V → Option Int → Option Int → Hp → VK → Prop) (te : TE) (tl th : TO) : TE := fun σ H Q => te σ H fun x H1 => tl σ H1 fun l H2 => th σ H2 fun u H3 => r x l u H3 Q
theorem pe_slice {r : V → Option Int → Option Int → Hp → VK → Prop} (hr : SlR X r) (he : PE X e te) (hl : PO X lo tl) (hu : PO X hi th) : PE X (.Subscript e (.Slice lo hi none p2) pos) (tSl r te tl th) := by
  intro pins s σ H Q I h
  refine Subscript_ (thn (he pins s σ H _ I h) fun v s1 z9 => ?_)
  obtain ⟨x, H1, I1, r1, q1⟩ := z9
  refine wpAny_Slice (thn (hl pins s1 σ H1 _ I1 q1) fun vl s2 ⟨l, H2, I2, pl, q2⟩ => thn (hu pins s2 σ H2 _ I2 q2) fun vu s3 z9 => ?_)
  obtain ⟨u, H3, I3, pu, q3⟩ := z9
  rw [evalPart_none]
  refine wpAny_pure ?_
  have I4 : Inv X pins σ H3 { s3 with heap := s3.heap.push { cls := .type "slice", data := .fields #[vl, vu, .none] } } := I3.kept (t' := s3.toks) fun b ob q => Heap.get?_push_of_some _ q
  obtain ⟨T, id, hT, ht, hg⟩ := hr pins { s3 with heap := s3.heap.push { cls := .type "slice", data := .fields #[vl, vu, .none] } } σ H3 x v vl vu l u s3.heap.objs.size Q I4 r1 (Heap.IsSliceOf.new ..) pl pu q3
  show wpAny (model X.prog X.w) X.A (subscriptTail e (.Slice lo hi none p2) v (.ref s3.heap.objs.size)) (EP X pins σ Q) X.xe { s3 with heap := s3.heap.push { cls := .type "slice", data := .fields #[vl, vu, .none] } }
  exact tail_any (ops := [.ref s3.heap.objs.size, v]) ht hT hg (by with_unfolding_all rfl)
noncomputable def cutV (xs : List V) (lo hi : Option Int) : List V := (xs.drop (HT.sIx xs.length 0 lo)).take (HT.sIx xs.length xs.length hi - HT.sIx xs.length 0 lo)
theorem cutV_length (xs : List V) (lo hi : Option Int) : (cutV xs lo hi).length ≤ xs.length := by
  unfold cutV
  rw [List.length_take, List.length_drop]
  omega
end
end L2
namespace L2
open PySem PySem.Spec PyProof.Rows
noncomputable def ixN (n : Nat) (i : Int) : Option Nat := if 0 ≤ i then (if i < n then some i.toNat else none) else if -(n : Int) ≤ i then some (i + n).toNat else none
noncomputable def atI {α : Type} (xs : List α) (i : Int) : Option α := (ixN xs.length i).bind fun j => xs[j]?
theorem ixN_seq {n : Nat} {i : Int} {j : Nat} (h : ixN n i = some j) : seqIndex? i n = some j ∧ j < n ∧ -(n : Int) ≤ i ∧ i < n := by
  unfold ixN at h
  by_cases h0 : 0 ≤ i
  · rw [if_pos h0] at h
    by_cases h1 : i < n
    · rw [if_pos h1] at h
      have e : i.toNat = j := Option.some.inj h
      exact ⟨by rw [seqIndex_of h0 h1, e], by omega, by omega, h1⟩
    · rw [if_neg h1] at h; cases h
  · rw [if_neg h0] at h
    by_cases h1 : -(n : Int) ≤ i
    · rw [if_pos h1] at h
      have e : (i + n).toNat = j := Option.some.inj h
      exact ⟨by rw [seqIndex_neg (by omega) h1, e], by omega, h1, by omega⟩
    · rw [if_neg h1] at h; cases h
theorem atI_get {α : Type} {xs : List α} {i : Int} {v : α} (h : atI xs i = some v) : ∃ j, seqIndex? i xs.length = some j ∧ xs[j]? = some v ∧ j < xs.length ∧ -(xs.length : Int) ≤ i ∧ i < xs.length := by
  unfold atI at h
  cases e : ixN xs.length i with
  | none => rw [e] at h; cases h
  | some j =>
    rw [e] at h
    obtain ⟨h1, h2, h3, h4⟩ := ixN_seq e
    exact ⟨j, h1, h, h2, h3, h4⟩
theorem atI_nat {α : Type} {xs : List α} {j : Nat} {v : α} (h : xs[j]? = some v) : atI xs (j : Int) = some v := by
  have hj : j < xs.length := (List.getElem?_eq_some_iff.mp h).1
  have e : ixN xs.length (j : Int) = some j := by
    unfold ixN
    rw [if_pos (by omega), if_pos (by omega)]; simp
  unfold atI; rw [e]; exact h
noncomputable def PlainIx (b : Expr) : Prop := ∀ o i, subscripted b false o i = operate [o, i] (getItem o i)
noncomputable def IxR (X : Cx) (r : R2) : Prop :=
  ∀ (value slice : Expr) (pins : List (Addr × Obj)) (s : Shared) (σ : St) (H : Hp) (x y : V) (v u : Value) (Q : VK), Inv X pins σ H s → RelV x v → RelV y u → r x y H Q →
    subscripted slice false v u = operate [v, u] (getItem v u) → wpAny (model X.prog X.w) X.A (subscriptTail value slice v u) (EP X pins σ Q) X.xe s
noncomputable def MtR (X : Cx) (id : String) (r : V → List V → Hp → VK → Prop) : Prop :=
  ∀ (pins : List (Addr × Obj)) (s : Shared) (σ : St) (H : Hp) (x : V) (xs : List V) (v : Value) (us : List Value) (Q : VK), Inv X pins σ H s → RelV x v → Vals xs us → r x xs H Q →
    wpAny (model X.prog X.w) X.A (call (.builtin id) (v :: us)) (EP X pins σ Q) X.xe s
section
variable {X : Cx} {a b : Expr} {ta tb : TE} {pos : Pos}
theorem IxR.or {r r' : R2} (h : IxR X r) (h' : IxR X r') : IxR X (fun x y H Q => r x y H Q ∨ r' x y H Q) := by
  intro value slice pins s σ H x y v u Q I rx ry q hs
  rcases q with q | q
  · exact h value slice pins s σ H x y v u Q I rx ry q hs
  · exact h' value slice pins s σ H x y v u Q I rx ry q hs
theorem pe_ix {r : R2} (hr : IxR X r) (ha : PE X a ta) (hb : PE X b tb) (hs : PlainIx b) : PE X (.Subscript a b pos) (tOp r ta tb) := by
  intro pins s σ H Q I h
  exact Subscript_ (binT ha hb I h fun v u s2 x y H2 I2 rx ry q => hr a b pins s2 σ H2 x y v u Q I2 rx ry q (hs _ _))
noncomputable def rIxL (K : PySem.W.Frag) : R2 := fun x y H Q => ∃ p xs i v, x = .ref p ∧ y = .int i ∧ SqL K H p xs ∧ atI xs i = some v ∧ Q v H
noncomputable def rIxT (K : PySem.W.Frag) : R2 := fun x y H Q => ∃ p xs i v, x = .ref p ∧ y = .int i ∧ SqT K H p xs ∧ atI xs i = some v ∧ Q v H
noncomputable def rIxS : R2 := fun x y H Q => ∃ z i c, x = .str z ∧ y = .int i ∧ z.length ≤ sizeLine ∧ atI z.cps.toList i = some c ∧ Q (.str ⟨#[c]⟩) H
theorem ix_list : IxR X (rIxL X.K) := by
  intro value slice pins s σ H x y v u Q I rx ry h hs
  obtain ⟨p, xs, i, z, rfl, rfl, hq, he, q⟩ := h
  cases rx
  obtain ⟨t, rfl⟩ := ry
  obtain ⟨its, r, pl, hz⟩ := I.list hq
  obtain ⟨j, h1, h2, h3, h4, h5⟩ := atI_get he
  obtain ⟨w, ew, rw'⟩ := r.get h2
  have hl := r.length
  have hn := line63
  have fin : EP X pins σ Q w s := ⟨z, H, I, rw', q⟩
  by_cases h0 : 0 ≤ i
  · have hj : i.toNat = j := by
      rw [seqIndex_of h0 h5] at h1
      exact Option.some.inj h1
    exact item_listR pl.isList h0 (by omega) (by rw [hj]; simpa using ew) fin hs
  · have hj : (i + (its.toArray.size : Int)).toNat = j := by
      rw [seqIndex_neg (by omega) h4] at h1
      rw [List.size_toArray, ← hl]
      exact Option.some.inj h1
    exact subscriptTail_builtinR (x := w) pl.isList.typeIs slot_list_getitem.lookup
      (wpAny_getItem_list_neg (Q := fun r s' => r = w ∧ EP X pins σ Q r s') pl.isList (by omega) (by rw [List.size_toArray] <;> omega) (by omega) (by rw [hj]; simpa using ew) ⟨rfl, fin⟩) hs
theorem ix_tup : IxR X (rIxT X.K) := by
  intro value slice pins s σ H x y v u Q I rx ry h hs
  obtain ⟨p, xs, i, z, rfl, rfl, hq, he, q⟩ := h
  cases rx
  obtain ⟨t, rfl⟩ := ry
  obtain ⟨its, r, pl, hz⟩ := I.tuple hq
  obtain ⟨j, h1, h2, h3, h4, h5⟩ := atI_get he
  obtain ⟨w, ew, rw'⟩ := r.get h2
  have hl := r.length
  have hn := line63
  have fin : EP X pins σ Q w s := ⟨z, H, I, rw', q⟩
  exact subscriptTail_builtinR (x := w) pl.typeIs slot_tuple_getitem.lookup
    (getItem_tuple (j := j) (Q := fun r s' => r = w ∧ EP X pins σ Q r s') pl (by omega) (by omega) (by rw [List.size_toArray, ← hl]; exact h1) (by simpa using ew) ⟨rfl, fin⟩) hs
theorem ix_str : IxR X rIxS := by
  intro value slice pins s σ H x y v u Q I rx ry h hs
  obtain ⟨z, i, c, rfl, rfl, hz, he, q⟩ := h
  obtain ⟨t, rfl⟩ := rx
  obtain ⟨t', rfl⟩ := ry
  obtain ⟨j, h1, h2, h3, h4, h5⟩ := atI_get he
  have hl : z.cps.toList.length = z.length := by simp [Str.length]
  rw [hl] at h1 h4 h5
  have hn := line63
  exact tail_any (typeIs_str s z t) slot_str_getitem.lookup (getItem_str (c := c) (by
    have e1 : decide (i < -(2 ^ 63 : Int)) = false := decide_eq_false (by omega)
    have e2 : decide (i ≥ 2 ^ 63) = false := decide_eq_false (by omega)
    rw [e1, e2, Bool.or_false]) (by rw [h1]; simpa using h2) ⟨.str ⟨#[c]⟩, H, I.tok _, ⟨_, rfl⟩, q⟩) hs
noncomputable def rIx (K : PySem.W.Frag) : R2 := fun x y H Q => rIxL K x y H Q ∨ rIxT K x y H Q ∨ rIxS x y H Q
theorem ix_seq : IxR X (rIx X.K) := ix_list.or (ix_tup.or ix_str)
theorem mapSeq_set (its : List Value) (n j : Nat) (u : Value) : Obj.mapSeq (·.setIfInBounds j u) { cls := .type "list", data := .seq its.toArray n } = { cls := .type "list", data := .seq (its.set j u).toArray n } := by
  simp [Obj.mapSeq]
theorem Inv.lst {pins : List (Addr × Obj)} {σ : St} {H : Hp} {s : Shared} {p : Addr} {xs : List V} (I : Inv X pins σ H s) (h : H p = some (.lst xs)) :
    ∃ (its : List Value) (n : Nat), Vals xs its ∧ s.heap.get? p = some { cls := .type "list", data := .seq its.toArray n } ∧ xs.length ≤ sizeLine := by
  obtain ⟨z, its, n, r, e⟩ := I.hok p _ h
  exact ⟨its, n, r, e, z⟩
theorem Inv.lstUpd {pins : List (Addr × Obj)} {σ : St} {H : Hp} {s : Shared} {p : Addr} {xs ys : List V} {its its' : List Value} {n n' : Nat} {f : Obj → Obj} (I : Inv X pins σ H s) (h : H p = some (.lst xs))
    (ho : s.heap.get? p = some { cls := .type "list", data := .seq its.toArray n }) (hf : f { cls := .type "list", data := .seq its.toArray n } = { cls := .type "list", data := .seq its'.toArray n' }) (r : Vals ys its') (hz : ys.length ≤ sizeLine) (t : Nat) :
    Inv X pins σ (upd H p (.lst ys)) { s with heap := s.heap.update p f, toks := t } := by
  have e : (s.heap.update p f).get? p = some { cls := .type "list", data := .seq its'.toArray n' } := by
    rw [Heap.get?_update_self f ho (by rw [hf] <;> rfl), hf]
  refine I.write (x := p) (e := p) (by rw [h]; trivial) (.inl rfl) (fun b u hb q => (Heap.get?_update_other _ _ (Ne.symm hb)).trans q) ⟨_, e⟩ ?_
  exact ⟨hz, its', n', r, e⟩
noncomputable def rSetL : V → V → V → Hp → (Hp → Prop) → Prop := fun o i v H Q => ∃ p xs k j, o = .ref p ∧ i = .int k ∧ H p = some (.lst xs) ∧ ixN xs.length k = some j ∧ Q (upd H p (.lst (xs.set j v)))
theorem set_list : PSet X rSetL := by
  intro pins s σ H o i v ov iv u Q I ro ri rv h
  obtain ⟨p, xs, k, j, rfl, rfl, hp, hj, q⟩ := h
  cases ro
  obtain ⟨t, rfl⟩ := ri
  obtain ⟨its, n, r, ho, hz⟩ := I.lst hp
  obtain ⟨h1, h2, h3, h4⟩ := ixN_seq hj
  have hl := r.length
  have hn := line63
  have I' : Inv X pins σ (upd H p (.lst (xs.set j v))) { s with heap := s.heap.update p (Obj.mapSeq (·.setIfInBounds j u)) } :=
    I.lstUpd hp ho (mapSeq_set its n j u) (r.set rv j) (by rw [List.length_set]; exact hz) s.toks
  by_cases h0 : 0 ≤ k
  · have hk : k.toNat = j := by
      rw [seqIndex_of h0 h4] at h1
      exact Option.some.inj h1
    exact PySem.W.ki_setAt ho h0 (by omega) (by rw [List.size_toArray, ← hl]; exact h4) (by rw [hk]; exact ⟨_, I', q⟩)
  · have hk : (k + (its.toArray.size : Int)).toNat = j := by
      rw [seqIndex_neg (by omega) h3] at h1
      rw [List.size_toArray, ← hl]
      exact Option.some.inj h1
    exact PySem.W.ki_setBack ho (by omega) (by rw [List.size_toArray, ← hl]; exact h3) (by omega) (by rw [hk]; exact ⟨_, I', q⟩)
theorem slice_bounds (lo hi : Option Int) (n : Nat) : (sliceBounds lo hi none n).1 = ((HT.sIx n 0 lo : Nat) : Int) ∧ (sliceBounds lo hi none n).2.1 = ((HT.sIx n n hi : Nat) : Int) ∧ (sliceBounds lo hi none n).2.2 = 1 := by
  refine ⟨?_, ?_, rfl⟩
  · cases lo with
    | none => simp [sliceBounds, HT.sIx]
    | some i =>
      simp only [sliceBounds, HT.sIx, Option.getD_none, show (1 : Int) > 0 by decide, if_true]
      by_cases h : i < 0
      · simp only [h, if_true] <;> omega
      · simp only [h, if_false] <;> omega
  · cases hi with
    | none => simp [sliceBounds, HT.sIx]
    | some i =>
      simp only [sliceBounds, HT.sIx, Option.getD_none, show (1 : Int) > 0 by decide, if_true]
      by_cases h : i < 0
      · simp only [h, if_true] <;> omega
      · simp only [h, if_false] <;> omega
theorem slicePick_cut (its : List Value) (lo hi : Option Int) : slicePick its.toArray lo hi none = ((its.drop (HT.sIx its.length 0 lo)).take (HT.sIx its.length its.length hi - HT.sIx its.length 0 lo)).toArray := by
  obtain ⟨h1, h2, h3⟩ := slice_bounds lo hi its.toArray.size
  unfold slicePick
  rw [h1, h2, h3]
  simp only [sliceRange_one, pick_run, List.size_toArray] <;> rfl
noncomputable def rSlL (K : PySem.W.Frag) : V → Option Int → Option Int → Hp → VK → Prop := fun x lo hi H Q => ∃ a xs, x = .ref a ∧ SqL K H a xs ∧ ∀ p, H p = none → Q (.ref p) (upd H p (.lst (cutV xs lo hi)))
theorem sl_list : SlR X (rSlL X.K) := by
  intro pins s σ H x v vl vu lo hi sl Q I rx hs pl pu h
  obtain ⟨a, xs, rfl, hx, q⟩ := h
  cases rx
  obtain ⟨its, r, ht, hz⟩ := I.list hx
  have hlen := r.length
  refine ⟨"list", _, slot_list_getitem.lookup, ht.isList.typeIs, ?_⟩
  refine wpAny_getItem_list_slice ht.isList hs pl pu .none (by simp) ?_ (by rw [List.size_toArray] <;> omega)
  rw [slicePick_cut, ← hlen]
  refine ⟨.ref s.heap.objs.size, _, I.laid (t' := s.toks) (o := .lst (cutV xs lo hi)) (fun b ob q => Heap.get?_push_of_some _ q) (Nat.le_refl _) ?_, rfl, q _ (I.hok.fresh (Nat.le_refl _))⟩
  exact ⟨Nat.le_trans (cutV_length xs lo hi) hz, _, 0, (r.drop (HT.sIx xs.length 0 lo)).take (HT.sIx xs.length xs.length hi - HT.sIx xs.length 0 lo), Heap.get?_push_size _ rfl⟩
noncomputable def flatV : V → Bool
  | .non => true
  | .bl _ => true
  | .int _ => true
  | .str _ => true
  | _ => false
noncomputable def eqV : V → V → Bool
  | .non, .non => true
  | .bl a, .bl b => a == b
  | .bl a, .int b => (if a then 1 else 0) == b
  | .int a, .bl b => a == (if b then 1 else 0)
  | .int a, .int b => a == b
  | .str a, .str b => a == b
  | _, _ => false
theorem eqAt_V {A : Around} {s : Shared} {y x : V} {u v : Value} (ry : RelV y u) (rx : RelV x v) (fy : flatV y = true) (fx : flatV x = true) : SeqAt.EqAt A s u v (eqV y x) := by
  cases y with
  | non =>
    cases ry
    cases x with
    | non => cases rx; exact SeqAt.EqAt.same _
    | bl b => cases rx; exact SeqAt.EqAt.none_bool b
    | int b => obtain ⟨t, rfl⟩ := rx; exact SeqAt.EqAt.none_int b t
    | str b => obtain ⟨t, rfl⟩ := rx; exact SeqAt.EqAt.none_str b t
    | _ => exact absurd (show false = true from fx) Bool.false_ne_true
  | bl a =>
    cases ry
    cases x with
    | non => cases rx; exact SeqAt.EqAt.bool_none a
    | bl b => cases rx; exact SeqAt.EqAt.bool_bool a b
    | int b => obtain ⟨t, rfl⟩ := rx; exact SeqAt.EqAt.bool_int a b t
    | str b => obtain ⟨t, rfl⟩ := rx; exact SeqAt.EqAt.bool_str a b t
    | _ => exact absurd (show false = true from fx) Bool.false_ne_true
  | int a =>
    obtain ⟨t', rfl⟩ := ry
    cases x with
    | non => cases rx; exact SeqAt.EqAt.int_none a t'
    | bl b => cases rx; exact SeqAt.EqAt.int_bool a t' b
    | int b => obtain ⟨t, rfl⟩ := rx; exact SeqAt.EqAt.int_int a t' b t
    | str b => obtain ⟨t, rfl⟩ := rx; exact SeqAt.EqAt.int_str a t' b t
    | _ => exact absurd (show false = true from fx) Bool.false_ne_true
  | str a =>
    obtain ⟨t', rfl⟩ := ry
    cases x with
    | non => cases rx; exact SeqAt.EqAt.str_none a t'
    | bl b => cases rx; exact SeqAt.EqAt.str_bool a t' b
    | int b => obtain ⟨t, rfl⟩ := rx; exact SeqAt.EqAt.str_int a t' b t
    | str b => obtain ⟨t, rfl⟩ := rx; exact SeqAt.EqAt.str_str a t' b t
    | _ => exact absurd (show false = true from fx) Bool.false_ne_true
  | _ => exact absurd (show false = true from fy) Bool.false_ne_true
noncomputable def eqU (x : V) (u : Value) : Bool := match u with
  | .none => eqV .non x
  | .bool b => eqV (.bl b) x
  | .int i _ => eqV (.int i) x
  | .str z _ => eqV (.str z) x
  | _ => false
theorem eqU_of {x y : V} {u : Value} (r : RelV y u) (f : flatV y = true) : eqU x u = eqV y x := by
  cases y with
  | non => cases r; rfl
  | bl b => cases r; rfl
  | int i => obtain ⟨t, rfl⟩ := r; rfl
  | str z => obtain ⟨t, rfl⟩ := r; rfl
  | _ => exact absurd (show false = true from f) Bool.false_ne_true
theorem any_eqU {x : V} {xs : List V} {us : List Value} (a : Vals xs us) : xs.all flatV = true → us.any (eqU x) = xs.any fun y => eqV y x := by
  induction a with
  | nil => exact fun _ => rfl
  | cons r t ih =>
    intro f
    rw [List.all_cons, Bool.and_eq_true] at f
    rw [List.any_cons, List.any_cons, eqU_of r f.1, ih f.2]
theorem mem_eqAt {A : Around} {s : Shared} {x : V} {v : Value} (rx : RelV x v) (fx : flatV x = true) {xs : List V} {us : List Value} (a : Vals xs us) : xs.all flatV = true → ∀ u ∈ us, SeqAt.EqAt A s u v (eqU x u) := by
  induction a with
  | nil => exact fun _ u hu => by cases hu
  | cons r t ih =>
    intro f u' hu
    rw [List.all_cons, Bool.and_eq_true] at f
    rcases List.mem_cons.mp hu with rfl | hu
    · rw [eqU_of r f.1]; exact eqAt_V r rx f.1 fx
    · exact ih f.2 u' hu
noncomputable def inV (x : V) (xs : List V) : Bool := xs.any fun y => eqV y x
noncomputable def rIn (K : PySem.W.Frag) (neg : Bool) : R2 := fun x y H Q => ∃ p xs, y = .ref p ∧ (SqL K H p xs ∨ SqT K H p xs) ∧ flatV x = true ∧ xs.all flatV = true ∧ Q (.bl (if neg then !inV x xs else inV x xs)) H
theorem op_in_seq : OpR X (compareOp .In) (rIn X.K false) := by
  intro pins s σ H x y v u Q I rx ry h
  obtain ⟨p, xs, rfl, hq, fx, fs, q⟩ := h
  cases ry
  rcases hq with hq | hq
  · obtain ⟨its, r, pl, hz⟩ := I.list hq
    refine SeqAt.in_listAt (eqU x) pl.isList (fun w hw => mem_eqAt rx fx r fs w (by simpa using hw)) ⟨.bl _, H, I, rfl, ?_⟩
    rw [show its.toArray.any (eqU x) = its.any (eqU x) by simp, any_eqU r fs]
    exact q
  · obtain ⟨its, r, pl, hz⟩ := I.tuple hq
    refine SeqAt.in_tupleAt (eqU x) pl (fun w hw => mem_eqAt rx fx r fs w (by simpa using hw)) ⟨.bl _, H, I, rfl, ?_⟩
    rw [show its.toArray.any (eqU x) = its.any (eqU x) by simp, any_eqU r fs]
    exact q
theorem op_notIn_seq : OpR X (compareOp .NotIn) (rIn X.K true) := by
  intro pins s σ H x y v u Q I rx ry h
  obtain ⟨p, xs, rfl, hq, fx, fs, q⟩ := h
  cases ry
  rcases hq with hq | hq
  · obtain ⟨its, r, pl, hz⟩ := I.list hq
    refine SeqAt.notIn_listAt (eqU x) pl.isList (fun w hw => mem_eqAt rx fx r fs w (by simpa using hw)) ⟨.bl _, H, I, rfl, ?_⟩
    rw [show its.toArray.any (eqU x) = its.any (eqU x) by simp, any_eqU r fs]
    exact q
  · obtain ⟨its, r, pl, hz⟩ := I.tuple hq
    refine SeqAt.notIn_tupleAt (eqU x) pl (fun w hw => mem_eqAt rx fx r fs w (by simpa using hw)) ⟨.bl _, H, I, rfl, ?_⟩
    rw [show its.toArray.any (eqU x) = its.any (eqU x) by simp, any_eqU r fs]
    exact q
noncomputable def tyV (K : PySem.W.Frag) (T : String) (x : V) (H : Hp) : Prop := match x with
  | .str _ => T = "str"
  | .int _ => T = "int"
  | .ref p => (T = "list" ∧ ∃ xs, SqL K H p xs) ∨ (T = "tuple" ∧ ∃ o, K.lookup p = some o ∧ o.cls = .type "tuple" ∧ o.dict = none) ∨
      (T = "dict" ∧ ((∃ kvs, H p = some (.dK kvs)) ∨ ∃ kvs, H p = some (.dT kvs))) ∨ (T = "set" ∧ ∃ S n, H p = some (.set S n))
  | _ => False
theorem tyV_is {pins : List (Addr × Obj)} {σ : St} {H : Hp} {s : Shared} {T : String} {x : V} {v : Value} (I : Inv X pins σ H s) (r : RelV x v) (ty : tyV X.K T x H) :
    s.TypeIs v T ∧ ∀ a, v = .ref a → ∃ ob, s.heap.get? a = some ob ∧ ob.dict = none := by
  cases x with
  | str z =>
    obtain ⟨t, rfl⟩ := r
    cases (show T = "str" from ty)
    exact ⟨typeIs_str s z t, fun _ e => nomatch e⟩
  | int i =>
    obtain ⟨t, rfl⟩ := r
    cases (show T = "int" from ty)
    exact ⟨typeIs_int s i t, fun _ e => nomatch e⟩
  | ref p =>
    cases r
    rcases ty with ⟨rfl, xs, hq⟩ | ⟨rfl, o, hk, hc, hd⟩ | ⟨rfl, hk⟩ | ⟨rfl, S, n, hk⟩
    · obtain ⟨its, _, pl, _⟩ := I.list hq
      refine ⟨pl.isList.typeIs, fun a e => ?_⟩
      cases e
      obtain ⟨o, n, e, c, hd, _⟩ := pl
      exact ⟨o, e, hd⟩
    · refine ⟨⟨o, I.kIn p o hk, hc⟩, fun a e => ?_⟩
      cases e
      exact ⟨o, I.kIn _ o hk, hd⟩
    · have z : ∃ o, s.heap.get? p = some o ∧ o.ExactDict := by
        rcases hk with ⟨kvs, hk⟩ | ⟨kvs, hk⟩
        · obtain ⟨_, _, _, _, o, _, _, e, ex, _⟩ := I.hok p _ hk
          exact ⟨o, e, ex⟩
        · obtain ⟨_, _, _, _, o, _, _, e, ex, _⟩ := I.hok p _ hk
          exact ⟨o, e, ex⟩
      obtain ⟨o, e, ex⟩ := z
      refine ⟨⟨o, e, ex.1⟩, fun a e2 => ?_⟩
      cases e2
      exact ⟨o, e, ex.2.1⟩
    · obtain ⟨o, _, _, _, e, ex, _⟩ := I.hok p _ hk
      refine ⟨⟨o, e, ex.1⟩, fun a e2 => ?_⟩
      cases e2
      exact ⟨o, e, ex.2.1⟩
  | _ => exact False.elim ty
noncomputable def tBM (K : PySem.W.Frag) (T : String) (r : V → List V → Hp → VK → Prop) (to : TE) (t : TA) : TE := fun σ H Q => to σ H fun x H1 => tyV K T x H1 ∧ t σ H1 fun xs H2 => r x xs H2 Q
variable {o e : Expr} {es : List Expr} {to : TE} {t : TA} {name : Str} {apos cpos : Pos} {T id : String} {r : V → List V → Hp → VK → Prop}
theorem pe_bm (pa : PlainAttrs T) (slot : Slot T name id) (hty : typeOf (.builtin id) = pure (.type "method_descriptor")) (hm : MtR X id r) (ho : PE X o to) (ha : PA X (e :: es) t)
    (hbase : attributeBase o name X.env (eval o X.env) = eval o X.env := by rfl)
    (hfew : ((backTo cpos (starEach (e :: es) X.env)).all (fun x => !x.1) && (backToKw cpos (keywordEach [] X.env)).all (fun x => x.1.isSome)
      && decide ((e :: es).length + ([] : List Keyword).length + (if ([] : List Keyword).isEmpty then 0 else 1) < 30)) = true := by rfl)
    (hline : (apos.endLine == cpos.line) = true := by rfl) (hs : starEach (e :: es) X.env = (false, eval e X.env) :: starEach es X.env := by rfl) (hplain : (backTo cpos (starEach es X.env)).any (·.1) = false := by rfl) :
    PE X (.Call (.Attribute o name apos) (e :: es) [] cpos) (tBM X.K T r to t) := by
  intro pins s σ H Q I h
  refine wpAny_Call_method_late hbase hfew hline rfl (thn (ho pins s σ H _ I h) fun v s1 z9 => ?_)
  obtain ⟨x, H1, I1, r1, ty, q1⟩ := z9
  obtain ⟨h1, h2⟩ := tyV_is I1 r1 ty
  refine ⟨T, id, pa, slot, hty, h1, h2, ?_⟩
  have hA := ha cpos pins s1 σ H1 _ I1 q1
  rw [hs] at hA ⊢
  refine Calls.callWith_builtin (by show (false || (backTo cpos (starEach es X.env)).any (·.1)) = false; rw [hplain] <;> rfl) (Calls.evalArgs_plain ?_)
  exact thn hA fun us s2 ⟨vs, H2, I2, r2, q2⟩ => hm pins s2 σ H2 x vs v us Q I2 r1 r2 q2
/- xs.append(e), list.index on a module's tuple .. are MtR facts of 06m -/
end
end L2
namespace L2
open PySem PySem.Spec PyProof.Rows
noncomputable def MtM (X : Cx) (id : String) (r : V → List V → Hp → VK → Prop) : Prop :=
  ∀ (pins : List (Addr × Obj)) (s : Shared) (σ : St) (H : Hp) (x : V) (xs : List V) (v : Value) (us : List Value) (Q : VK), Inv X pins σ H s → RelV x v → Vals xs us → r x xs H Q →
    wpAny (model X.prog X.w) X.A (call (.builtin id) (v :: us)) (EP X pins σ Q) X.xe s
theorem Vals.one {x : V} {us : List Value} (h : Vals [x] us) : ∃ u, us = [u] ∧ RelV x u := by
  cases h with
  | cons r h => cases h; exact ⟨_, rfl, r⟩
theorem Vals.two {x y : V} {us : List Value} (h : Vals [x, y] us) : ∃ u v, us = [u, v] ∧ RelV x u ∧ RelV y v := by
  cases h with
  | cons r h => cases h with
    | cons q h => cases h; exact ⟨_, _, rfl, r, q⟩
theorem Vals.rep {xs : List V} {us : List Value} (h : Vals xs us) : ∀ k : Nat, Vals (List.replicate k xs).flatten (List.replicate k us).flatten
  | 0 => .nil
  | k + 1 => by
    rw [List.replicate_succ, List.replicate_succ, List.flatten_cons, List.flatten_cons]
    exact Vals.append h (Vals.rep h k)
theorem foldl_rep (its : List Value) : ∀ (k : Nat) (acc : List Value),
    List.foldl (fun x1 x2 => x1 ++ x2) acc.toArray (List.replicate k its.toArray) = (acc ++ (List.replicate k its).flatten).toArray
  | 0, acc => by simp
  | k + 1, acc => by
    have e : acc.toArray ++ its.toArray = (acc ++ its).toArray := by simp
    have e2 : (acc ++ its) ++ (List.replicate k its).flatten = acc ++ (List.replicate (k + 1) its).flatten := by
      rw [List.replicate_succ, List.flatten_cons, List.append_assoc]
    rw [← e2, ← foldl_rep its k (acc ++ its), ← e, List.replicate_succ, List.foldl_cons]
section
variable {X : Cx} {pins : List (Addr × Obj)} {σ : St} {H : Hp} {s : Shared} {l b : Addr} {xs ys zs : List V}
theorem Inv.lset {its its' : List Value} {n : Nat} {f : Array Value → Array Value} {t' : Nat} (I : Inv X pins σ H s) (hH : H l = some (.lst xs))
    (e : s.heap.get? l = some { cls := .type "list", data := .seq its.toArray n }) (hf : f its.toArray = its'.toArray) (hv : Vals ys its') (hz : ys.length ≤ sizeLine) :
    Inv X pins σ (upd H l (.lst ys)) { s with heap := s.heap.update l (Obj.mapSeq f), toks := t' } := by
  have q := PySem.IsL.update e f
  rw [hf] at q
  refine I.write (x := l) (e := l) (by rw [hH]; exact trivial) (.inl rfl) (fun b' u hb hu => (Heap.get?_update_other s.heap (Obj.mapSeq f) (Ne.symm hb)).trans hu) ⟨_, q⟩ ?_
  exact ⟨hz, its', _, hv, q⟩
theorem Inv.lnew {its : List Value} {t' : Nat} (I : Inv X pins σ H s) (hv : Vals ys its) (hz : ys.length ≤ sizeLine) :
    Inv X pins σ (upd H s.heap.objs.size (.lst ys)) { s with heap := s.heap.push { cls := .type "list", data := .seq its.toArray }, toks := t' } :=
  I.laid (fun _ _ q => Heap.get?_push_of_some _ q) (Nat.le_refl _) ⟨hz, its, 0, hv, Heap.get?_push_size _ rfl⟩
theorem Inv.fresh (I : Inv X pins σ H s) : H s.heap.objs.size = none := I.hok.fresh (Nat.le_refl _)
theorem Inv.lstM (I : Inv X pins σ H s) (hH : H l = some (.lst xs)) : xs.length ≤ sizeLine ∧ ∃ (its : List Value) (n : Nat), Vals xs its ∧ xs.length = its.length ∧ s.heap.get? l = some { cls := .type "list", data := .seq its.toArray n } := by
  obtain ⟨z, its, n, r, e⟩ := I.hok l _ hH
  exact ⟨z, its, n, r, r.length, e⟩
theorem notLongL {n : Nat} (h : n ≤ sizeLine) : Builtin.List.listTooLong n = false := by
  unfold Builtin.List.listTooLong
  exact decide_eq_false (by omega)
end
section
variable {X : Cx}
noncomputable def rAppend : V → List V → Hp → VK → Prop := fun x vs H Q => ∃ l xs y, x = .ref l ∧ vs = [y] ∧ H l = some (.lst xs) ∧ xs.length < sizeLine ∧ Q .non (upd H l (.lst (xs ++ [y])))
theorem mt_append : MtM X "list.append" rAppend := by
  intro pins s σ H x vs v us Q I rx rv h
  obtain ⟨l, xs, y, rfl, rfl, hH, hz, q⟩ := h
  cases rx
  obtain ⟨u, rfl, ru⟩ := rv.one
  obtain ⟨z, its, n, r, hl, e⟩ := I.lstM hH
  refine call_meets F.slot_list_append ⟨_, e, rfl⟩ F.entry_list_append (F.args_list_append_2 _ _) (PySem.list_append l its.toArray n u (by rw [List.size_toArray]; omega)) ⟨e, ?_⟩
  refine ⟨.non, _, I.lset (its' := its ++ [u]) hH e (by simp) (r.append (.cons ru .nil)) ?_, rfl, q⟩
  rw [List.length_append, List.length_singleton]
  omega
noncomputable def rCat : R2 := fun x y H Q => ∃ l b xs zs, x = .ref l ∧ y = .ref b ∧ H l = some (.lst xs) ∧ H b = some (.lst zs) ∧ xs.length + zs.length ≤ sizeLine ∧ ∀ p, H p = none → Q (.ref p) (upd H p (.lst (xs ++ zs)))
theorem op_cat : OpR X (binaryOp .Add) rCat := by
  intro pins s σ H x y v u Q I rx ry h
  obtain ⟨l, b, xs, zs, rfl, rfl, hH, hB, hz, q⟩ := h
  cases rx
  cases ry
  obtain ⟨z, its, n, r, hl, e⟩ := I.lstM hH
  obtain ⟨z2, its2, n2, r2, hl2, e2⟩ := I.lstM hB
  refine PySem.P.add_list e e2 ?_ (by rw [List.size_toArray, List.size_toArray]; omega)
  have ea : its.toArray ++ its2.toArray = (its ++ its2).toArray := by simp
  rw [ea]
  exact ⟨.ref _, _, I.lnew (t' := s.toks) (r.append r2) (by rw [List.length_append]; omega), rfl, q _ I.fresh⟩
noncomputable def rRep : R2 := fun x y H Q => ∃ l k xs, x = .ref l ∧ y = .int k ∧ H l = some (.lst xs) ∧ -(2 ^ 63) ≤ k ∧ k < 2 ^ 63 ∧ xs.length * k.toNat ≤ sizeLine ∧
  ∀ p, H p = none → Q (.ref p) (upd H p (.lst (List.replicate k.toNat xs).flatten))
theorem len_rep {α : Type} (xs : List α) (k : Nat) : (List.replicate k xs).flatten.length = k * xs.length := by
  induction k with
  | zero => simp
  | succ k ih => rw [List.replicate_succ, List.flatten_cons, List.length_append, ih, Nat.succ_mul, Nat.add_comm]
theorem op_rep : OpR X (binaryOp .Mult) rRep := by
  intro pins s σ H x y v u Q I rx ry h
  obtain ⟨l, k, xs, rfl, rfl, hH, h1, h2, hz, q⟩ := h
  cases rx
  obtain ⟨t, rfl⟩ := ry
  obtain ⟨z, its, n, r, hl, e⟩ := I.lstM hH
  have hlen : its.toArray.size * k.toNat ≤ sizeLine := by rw [List.size_toArray, ← hl]; exact hz
  have hcap : ¬ its.toArray.size * k.toNat > (2 ^ 63 - 1) / 8 := by
    have : (sizeLine : Nat) ≤ (2 ^ 63 - 1) / 8 := by decide
    omega
  have hfit : ¬ (!Builtin.List.listFitsIndex k) = true := by
    rw [fitsIndex_both h1 h2]
    exact Bool.false_ne_true
  have hlong : ¬ Builtin.List.listTooLong (its.toArray.size * k.toNat) = true := by
    rw [notLongL hlen]
    exact Bool.false_ne_true
  have hnew : List.foldl (fun x1 x2 => x1 ++ x2) #[] (List.replicate (if its.toArray.isEmpty = true then 0 else k.toNat) its.toArray) = (List.replicate k.toNat its).flatten.toArray := by
    have f0 : ∀ m : Nat, List.foldl (fun x1 x2 => x1 ++ x2) #[] (List.replicate m its.toArray) = (List.replicate m its).flatten.toArray := fun m => by
      have := foldl_rep its m []
      rw [List.nil_append] at this
      exact this
    rw [f0]
    cases its with
    | nil => simp
    | cons a r' => rw [if_neg (by simp)]
  refine wpAny_binaryOp_repeat_ref (T := "list") (U := "int") (by decide) ⟨_, e, rfl⟩ (fun s' => typeIs_int s' k t) noFill_list_mul F.fills_int_mul F.slot_int_rmul repeat_list F.slot_int_index.lookup
    (call_meets F.slot_int_rmul (typeIs_int s k t) F.entry_int_rmul (F.args_int_rmul_2 _ _) (int___rmul___int_list k t l its.toArray n)
      ⟨e, rfl, ⟨_, e, rfl⟩, call_meets F.slot_list_mul ⟨_, e, rfl⟩ F.entry_list_mul (F.args_list_mul_2 _ _) (AutoListH.list___mul___list_int_3 l its.toArray n k t hfit hcap hlong) ⟨e, ?_⟩⟩)
  rw [hnew]
  exact ⟨.ref _, _, I.lnew (t' := s.toks) (r.rep k.toNat) (by rw [len_rep, Nat.mul_comm]; exact hz), rfl, q _ I.fresh⟩
end
section
variable {prog : Program} {w : World} {A : Around} {E : Value → Shared → Prop} {s : Shared}
end
section
variable {X : Cx}
end
end L2
namespace Att
open PySem PySem.W PySem.Calls PyProof.Rows
theorem ints_of_wellAll {P : Params} {h : Heap} : ∀ (ns : List Int) (vs : List Value), WellAll P h vs (ns.map WData.int) → IntsAre vs ns := by
  intro ns
  induction ns with
  | nil =>
    intro vs w
    rw [List.map_nil] at w
    cases w
    exact .nil
  | cons n ns ih =>
    intro vs w
    rw [List.map_cons] at w
    cases w with
    | cons a b =>
      cases a
      exact .cons _ _ (ih _ b)
theorem script_of {l : OpenLaw} {n : Nat} (hn : l.most = some n) {P : Params} {h : Heap} {args : List WData} {vals : List Value}
    (hpre : l.row.toRowW.claim.pre args = true) (hwl : WellAll P h vals args) :
    ∃ a vs ns, vals = [Value.ref a] ∧ args = [WData.list (ns.map WData.int)] ∧ h.get? a = some { cls := .type "list", data := .seq vs.toArray } ∧ IntsAre vs ns ∧ ns.length ≤ n := by
  have hsh : WShape.hasAll [] args [.list .int] = true := (pre_splitW hpre).1
  have hc : l.pre.holds [] { args := args } = true := (pre_splitW hpre).2
  obtain ⟨d, r, rfl, h1, h2⟩ := hasAllW_cons hsh
  obtain rfl := hasAllW_nil h2
  obtain ⟨xs, rfl, h3⟩ := hasW_list h1
  obtain ⟨ns, rfl⟩ := items_int h3
  have hlen : ns.length ≤ n := by
    unfold OpenLaw.pre at hc
    have h4 : (WTm.not (.lt (.lit (.int (n : Int))) (.len (.arg 0)))).holds [] { args := [.list (ns.map .int)] } = true := by
      have h4 := (holds_andW hc).1
      rw [hn] at h4
      exact h4
    have h5 := condW_of h4 (w_not (w_lt w_lit (w_len_list (w_arg rfl))))
    rw [List.length_map] at h5
    refine Nat.le_of_not_lt fun q => ?_
    have q' : (n : Int) < ((ns.length : Nat) : Int) := by omega
    first
      | (rw [decide_eq_true q'] at h5; exact absurd h5 (by decide))
      | (simp at h5; omega)
  cases hwl with
  | cons w1 w2 =>
    cases w2
    cases w1 with
    | list ho hall => exact ⟨_, _, ns, rfl, rfl, ho, ints_of_wellAll ns _ hall, hlen⟩
theorem post_true (l : OpenLaw) (args : List WData) : l.row.toRowW.claim.post args (.bool true) args = true :=
  postW_of (r := l.row.toRowW) (X := (true == true))
    (show WShape.has [] (.bool true) .bool = true by first | rfl | decide | simp [WShape.has, WShape.arms, WShape.armsAll])
    (show (WTm.eq .res (.lit (.bool true))).value [] { args := args, res := some (.bool true), after := args } = some (.bool (true == true)) from w_eq_bool (w_res rfl) w_lit) rfl
theorem attach_call {l : OpenLaw} {n : Nat} {q : Program} {loose : List Str} {XP : (Str → Option Value) → Heap → Prop} {YP : World → Heap → Prop} {d : DefRec}
    (hn : l.most = some n) (hdf : d.params.defaults = [])
    (call : ∀ (w : World) (s₀ s₁ : Shared) (mg mb : Str → Option Value) (fa : Addr) (o : Obj) (pm cd doc : Value) (a : Addr) (vs : List Value) (ns : List Int),
      Ground q loose [] XP w s₀ mg mb s₁.heap → YP w s₁.heap →
      s₁.heap.get? fa = some o → o.data = .func (docDef d.name d.params d.body d.scope pm cd doc) → s₁.heap.CodeRec cd d.name → mg d.name = some (.ref fa) →
      s₁.heap.get? a = some { cls := .type "list", data := .seq vs.toArray } → IntsAre vs ns → ns.length ≤ n → s₁.gens = #[] →
      codeAny (model l.prog w) callerA (.call (.ref fa) ⟨[.ref a], []⟩) (fun r s' => r = .ok (.ret (.bool true)) ∧ OldK s₁.heap s'.heap ∧ s'.os = s₁.os ∧ AllBare s'.gens) s₁) :
    WalkO q loose XP YP l.row.toRowW d [] (fun f vs => PySem.call f vs) := by
  intro w s₀ s₁ mg mb G Y fa o pm cd doc dV kV ho hd hcd hD hmg hg args vals as hpre hlay hrd hwl hlo
  obtain rfl : dV = .none := Dflts.none hD hdf
  obtain rfl : kV = .none := Dflts.noKw hD
  obtain ⟨a, vs, ns, rfl, rfl, hobj, hints, hlen⟩ := script_of hn hpre hwl
  refine enter_call (codeAny_mono (call w s₀ s₁ mg mb fa o pm cd doc a vs ns G Y ho (fd_plain hd) hcd hmg hobj hints hlen hg) fun r s' hq => ?_)
  obtain ⟨rfl, h2, h3, h4⟩ := hq
  exact ⟨.inl ⟨.bool true, .bool true, [], rfl, fun _ => rfl, .bool true, post_true l _, fun _ => ⟨List.Pairwise.nil, fun _ hm => (nomatch hm)⟩⟩, h2, h3, h4⟩
section
variable {prog : Program} {w : World} {A : Around} {E : Value → Shared → Prop} {s : Shared} {K : Frag}
end
end Att
namespace L2
open PySem PySem.Spec PyProof.Rows
theorem vals_ints {vs : List Value} {ns : List Int} (a : IntsAre vs ns) : Vals (ns.map V.int) vs := by
  induction a with
  | nil => exact .nil
  | cons n t _ ih => exact .cons ⟨t, rfl⟩ ih
noncomputable def Only (H : Hp) : Prop := ∀ b, H b = none ∨ ∃ o xs, H b = some (.frz o (.lst xs))
theorem law_call {P : Program} {w : World} {K : PySem.W.Frag} {mg mb : Str → Option Value} {CX : CXT} {k : Nat} {fa a : Addr} {fd : FuncData} {x : Str} {sp : Sp} {s₁ : Shared} {vs : List Value} {ns : List Int}
    (KX : K.In s₁.heap) (hns : s₁.heap.Ns mainGlobals mg) (hb : s₁.heap.Ns builtinsNs mb) (hbb : ∀ x : Str, x ≠ "__name__" → mb x = bootBuiltins x) (hlim : s₁.heap.NoLimit) (hg : s₁.gens = #[])
    (ha : s₁.heap.get? a = some { cls := .type "list", data := .seq vs.toArray }) (hi : IntsAre vs ns) (hl : ns.length ≤ sizeLine) (hr : Room k callerA)
    (F : ∀ base : Heap, K.In base → base.Ns mainGlobals mg → FnOk P w K mg base CX k fa fd [x] sp) (hbind : ∀ (s : Shared) (u : Value), BindsTo s fd ⟨[u], []⟩ [(x, u)])
    (hsp : ∀ H : Hp, Only H → SqL K H a (ns.map V.int) → sp [.ref a] H (fun v _ => v = .bl true) fun _ _ _ => False)
    (hCX : ∀ H e s', CX [] H s₁ (fun _ _ _ => False) e s' → False) :
    codeAny (model P w) callerA (.call (.ref fa) ⟨[.ref a], []⟩) (fun r s' => r = .ok (.ret (.bool true)) ∧ OldK s₁.heap s'.heap ∧ s'.os = s₁.os ∧ AllBare s'.gens) s₁ := by
  have rv := vals_ints hi
  have lenV := hi.length
  have core : ∀ H : Hp, Only H → SqL K H a (ns.map V.int) → HOk P w H s₁.heap → (∀ b, H b ≠ none → b = a) → (H a ≠ none → K.lookup a = none) →
      codeAny (model P w) callerA (.call (.ref fa) ⟨[.ref a], []⟩) (fun r s' => r = .ok (.ret (.bool true)) ∧ OldK s₁.heap s'.heap ∧ s'.os = s₁.os ∧ AllBare s'.gens) s₁ := by
    intro H hO hS hok hA hK
    have base_of : ∀ {b : Addr} {o : Obj}, s₁.heap.get? b = some o → H b = none → (hidT s₁.heap H).get? b = some o := fun e n => hidT_get e n
    have noA : ∀ {b : Addr} {o : Obj} {es : Array DictEntry} {ep : Nat}, s₁.heap.get? b = some o → o.data = .dict es ep → H b = none := fun {b o es ep} e d => by
      cases q : H b with
      | none => rfl
      | some u =>
        have e' : b = a := hA b (by rw [q]; simp)
        subst e'
        rw [ha] at e; cases e
        have d' : Data.seq vs.toArray _ = Data.dict es ep := d
        cases d'
    have nsK : ∀ {b : Addr} {m : Str → Option Value}, s₁.heap.Ns b m → (hidT s₁.heap H).Ns b m := fun {b m} ⟨o, es, ep, e, d, r⟩ => ⟨o, es, ep, base_of e (noA e d), d, r⟩
    have hKb : K.In (hidT s₁.heap H) := fun b o e => base_of (KX b o e) (by
      cases q : H b with
      | none => rfl
      | some u =>
        have e' : b = a := hA b (by rw [q]; simp)
        subst e'
        rw [hK (by rw [q]; simp)] at e; cases e)
    have hM : Mod K mg (hidT s₁.heap H) := ⟨hKb, nsK hns, ⟨mb, nsK hb, hbb⟩, let ⟨mc, h1, h2⟩ := hlim; ⟨mc, nsK h1, h2⟩⟩
    have e0 : Env0 P w K mg (hidT s₁.heap H) callerA [] s₁ H := ⟨rfl, hM, fun b o e => of_hidT e, Nat.le_of_eq (hidT_size _ _), trivial, fun b hb => absurd (show b ∈ ([] : List Addr) from hb) (by simp), hok, .of_eq hg⟩
    refine codeAny_mono ((F _ hKb (nsK hns)).run callerA [] s₁ H ⟨[.ref a], []⟩ [.ref a] [.ref a] _ _ hr e0 (hbind s₁ (.ref a)) (.cons rfl .nil) (hsp H hO hS)) fun r s' h => ?_
    cases r with
    | error e => exact (hCX H e s' h).elim
    | ok fl =>
      cases fl with
      | next => exact False.elim h
      | brk => exact False.elim h
      | cont => exact False.elim h
      | ret u =>
        obtain ⟨v, H', os, bare, un, hok', r', q⟩ := h
        have q' : v = .bl true := q
        subst q'
        obtain rfl : u = Value.bool true := r'
        refine ⟨rfl, OldK.of_keep fun b o e => ?_, os, bare⟩
        cases q : H b with
        | none => exact un.keep b o e q (by intro z; exact absurd (show b ∈ ([] : List Addr) from z) (by simp)) (by simp)
        | some u =>
          rcases hO b with z | ⟨ob, xs, z⟩
          · rw [q] at z; cases z
          · have z2 := un.frzs b ob _ z
            obtain ⟨e1, _⟩ := hok b _ z
            obtain ⟨e2, _⟩ := hok' b _ z2
            rw [e] at e1; cases e1
            exact e2
  cases hk : K.lookup a with
  | some o =>
    have e := KX a o hk
    rw [ha] at e
    cases e
    refine core (fun _ => none) (fun _ => .inl rfl) (.inr ⟨_, vs.toArray, _, hk, rfl, rfl, rfl, by rw [List.size_toArray, lenV]; exact hl, by simpa using rv⟩) (fun b u z => by have z' : (none : Option HO) = some u := z; cases z') (fun b z => absurd rfl z) fun z => absurd rfl z
  | none =>
    refine core (fun b => if b = a then some (.frz { cls := .type "list", data := .seq vs.toArray } (.lst (ns.map V.int))) else none) (fun b => ?_) (.inl (.inr ⟨{ cls := .type "list", data := .seq vs.toArray }, if_pos rfl⟩)) (fun b u z => ?_) (fun b z => ?_) fun _ => hk
    · by_cases hb : b = a
      · exact .inr ⟨_, _, if_pos hb⟩
      · exact .inl (if_neg hb)
    · by_cases hb : b = a
      · have z' := (if_pos hb).symm.trans z
        cases z'
        subst hb
        exact ⟨ha, by rw [List.length_map]; exact hl, vs, _, rv, ha⟩
      · have z' := (if_neg hb).symm.trans z
        cases z'
    · by_cases hb : b = a
      · exact hb
      · exact absurd (if_neg hb) z
end L2
namespace L2
open PySem PySem.Spec PyProof.Rows
theorem walk_of {l : PySem.W.OpenLaw} {n k : Nat} {q : Program} {loose : List Str} {XP : (Str → Option Value) → Heap → Prop} {YP : World → Heap → Prop} {d : DefRec} {K : Params → PySem.W.Frag} {CX : World → CXT} {sp : World → Sp} {x : Str}
    (hn : l.most = some n) (hn2 : n ≤ sizeLine) (hdf : d.params.defaults = []) (hr : Room k callerA)
    (hY : ∀ (w : World) (h : Heap), YP w h → (K w.params).In h)
    (F : ∀ (w : World) (mg : Str → Option Value) (fa : Addr) (h : Heap), (K w.params).In h → h.Ns mainGlobals mg → mg d.name = some (.ref fa) →
      ∃ fd : FuncData, (∀ (s : Shared) (u : Value), BindsTo s fd ⟨[u], []⟩ [(x, u)]) ∧
        ∀ base : Heap, (K w.params).In base → base.Ns mainGlobals mg → FnOk l.prog w (K w.params) mg base (CX w) k fa fd [x] (sp w))
    (hsp : ∀ (w : World) (H : Hp) (a : Addr) (ns : List Int), ns.length ≤ n → Only H → SqL (K w.params) H a (ns.map V.int) → sp w [.ref a] H (fun v _ => v = .bl true) fun _ _ _ => False)
    (hCX : ∀ (w : World) (H : Hp) (s : Shared) (e : Value) (s' : Shared), CX w [] H s (fun _ _ _ => False) e s' → False) :
    PySem.W.WalkO q loose XP YP l.row.toRowW d [] (fun f vs => PySem.call f vs) := by
  refine Att.attach_call hn hdf fun w s₀ s₁ mg mb fa o pm cd doc a vs ns G Y ho hd hcd hmg hobj hints hlen hg => ?_
  have KX := hY w _ Y
  obtain ⟨fd, hb, hF⟩ := F w mg fa _ KX G.T.g hmg
  exact law_call KX G.T.g G.T.b G.T.builtins G.T.nolimit hg hobj hints (Nat.le_trans hlen hn2) hr hF hb (fun H hO hS => hsp w H a ns hlen hO hS) fun H e s' => hCX w H s₁ e s'
end L2
/- THE LAST THEOREM (shape; LID, My.* are yours):
   My.Adr: a structure of the addresses that your layer names (classes, functions); My.Txt K t: a structure (Prop) of the equations over K;
   My.txt_mk : {K} {implicit addresses ..} (e1 : nsIn K mainGlobals "law" = some (some (.ref f))) (e2 : K.lookup f = some ⟨oc, od, .func (fnOf "law" "law" params body scope dV kV doc pm an cdv ct), sl⟩) (e3 : codeIn K cdv "law" = true) .. : ∃ t, My.Txt K t
(the tactic k_is has no namespace: write k_is) -/
namespace L2
open PySem PySem.Spec PyProof.Rows
noncomputable def inClass (s : Stmt) (j : Nat) : Stmt := match s with
  | .ClassDef _ _ _ body _ _ _ _ _ _ _ => body.getD j (.Pass ⟨0, 0, 0, 0⟩)
  | _ => .Pass ⟨0, 0, 0, 0⟩
noncomputable def defArgs (s : Stmt) : Arguments := match s with
  | .FunctionDef _ a _ _ _ _ _ _ _ _ => a
  | _ => { posonlyargs := [], args := [], vararg := none, kwonlyargs := [], kw_defaults := [], kwarg := none, defaults := [] }
noncomputable def defBody (s : Stmt) : List Stmt := match s with
  | .FunctionDef _ _ b _ _ _ _ _ _ _ => b
  | _ => []
noncomputable def defScope (s : Stmt) : Scope := match s with
  | .FunctionDef _ _ _ _ _ _ sc _ _ _ => sc
  | _ => { kind := .function, names := [], isGenerator := false, isCoroutine := false }
noncomputable abbrev CX0 : CXT := fun _ _ _ _ _ _ => False
noncomputable abbrev E0 : XK := fun _ _ _ => False
theorem pass0 {X : Cx} : Passes CX0 X E0 := fun _ _ _ _ _ _ _ h => h.elim
structure Fun (K : PySem.W.Frag) (x qual : Str) (st : Stmt) (f : Addr) (fd : FuncData) : Prop where
  ex : ∃ (oc : Value) (od : Option Addr) (kV doc pm : Value) (an : Option Addr) (cdv ct : Value) (osl : Array (Option Value)),
    fd = PySem.W.fnOf x qual (defArgs st) (defBody st) (defScope st) .none kV doc pm an cdv ct ∧ K.lookup f = some ⟨oc, od, .func fd, osl⟩ ∧ PySem.W.codeIn K cdv qual = true
  kp : PySem.W.keepIn K (.ref f) = true
section
variable {P : Program} {w : World} {K : PySem.W.Frag} {mg : Str → Option Value} {base : Heap}
theorem Fun.ok {x qual : Str} {st : Stmt} {f : Addr} {fd : FuncData} {N ps : List Str} {k : Nat} {sp : Sp} (F : Fun K x qual st f fd) (S : FnScope N ps (defScope st)) (len : ∀ vs H Q E, sp vs H Q E → vs.length = ps.length)
    (hbody : ∀ (cdv : Value) (A : Around) (outer : List Env) (s : Shared) (H : Hp) (vs : List V) (Q : VK) (E : XK), Room k (A.deeper (envOfC qual (defScope st) s.heap.objs.size f cdv)) → sp vs H Q E →
      ∃ t, PSs (cxOf CX0 P w K mg base N qual (defScope st) f cdv A outer s H E).nox (defBody st) t ∧ t { nx := fun _ H' => Q .non H', rt := Q } (start N vs) H) : FnOk P w K mg base CX0 (k + 1) f fd ps sp := by
  obtain ⟨oc, od, kV, doc, pm, an, cdv, ct, osl, rfl, lk, hcd⟩ := F.ex
  refine fn_of lk hcd S len fun A outer s H vs Q E hr hsp => ?_
  obtain ⟨t, h, q⟩ := hbody cdv A outer s H vs Q E hr hsp
  exact ⟨t, h.nox, q⟩
theorem Fun.binds {x qual : Str} {st : Stmt} {f : Addr} {fd : FuncData} {ps : List Str} (F : Fun K x qual st f fd)
    (h : ∀ (kV doc pm : Value) (an : Option Addr) (cdv ct : Value) (us : List Value), us.length = ps.length → bindArgs (PySem.W.fnOf x qual (defArgs st) (defBody st) (defScope st) .none kV doc pm an cdv ct) ⟨us, []⟩ = pure (ps.zip us)) : Binds K fd ps [] := by
  obtain ⟨oc, od, kV, doc, pm, an, cdv, ct, osl, rfl, lk, hcd⟩ := F.ex
  exact .all (h kV doc pm an cdv ct)
theorem fun_mk {x qual : Str} {st : Stmt} {f : Addr} {oc : Value} {od an : Option Addr} {osl : Array (Option Value)} {kV doc pm cdv ct : Value} (l : K.lookup f = some ⟨oc, od, .func (PySem.W.fnOf x qual (defArgs st) (defBody st) (defScope st) .none kV doc pm an cdv ct), osl⟩)
    (c : PySem.W.codeIn K cdv qual = true) (k : PySem.W.keepIn K (.ref f) = true) : Fun K x qual st f (PySem.W.fnOf x qual (defArgs st) (defBody st) (defScope st) .none kV doc pm an cdv ct) := ⟨⟨oc, od, kV, doc, pm, an, cdv, ct, osl, rfl, l, c⟩, k⟩
end
theorem small1000 {n : Nat} (h : n ≤ 1000) : n < sizeLine := Nat.lt_of_le_of_lt h (by decide)
section
variable {X : Cx}
theorem pv (i : Nat) {x : Str} {pos : Pos} (hN : X.N[i]? = some x := by rfl) (hv : Vis X.env.scope x := by first | exact Or.inl rfl | exact Or.inr (Or.inl rfl) | exact Or.inr (Or.inr rfl)) (hd : (x == ("__debug__" : Str)) = false := by decide)
    (hcd : (x == ("__classdict__" : Str)) = false := by decide) : PE X (.Name x pos) (tVar i) := pe_var hN hv hd hcd
end
noncomputable def Same (H H' : Hp) : Prop := ∀ b o, H b = some o → H' b = some o
end L2
namespace L2
open PySem PySem.Spec PyProof.Rows
section
variable {κ : Type} [DecidableEq κ]
end
section
variable {P : Program} {w : World} {H : Hp} {h : Heap} {a : Addr}
end
section
variable {X : Cx} {pins : List (Addr × Obj)} {σ : St} {H : Hp} {s : Shared} {a : Addr} {y v : V} {u r : Value} {o : Option V} {A : Around} {E : Value → Shared → Prop}
theorem Inv.big (I : Inv X pins σ H s) : sysModules < s.heap.objs.size := by
  have h : mainGlobals < s.heap.objs.size := (I.mod.glob.keeps I.bk).lt
  exact Nat.lt_trans (by decide) h
end
section
variable {X : Cx} {pins : List (Addr × Obj)} {σ : St} {H : Hp} {s : Shared} {a : Addr} {kvs : List (Key × V)} {k : Key} {u : Value} {A : Around} {E : Value → Shared → Prop}
end
section
variable {X : Cx} {o i e value : Expr} {pos pos' tpos : Pos} {td ty tv : TE}
end
theorem dk_empty {P : Program} {w : World} {H : Hp} (h : Heap) (hb : sysModules < h.objs.size) : ObjOk P w H (h.push { cls := .type "dict", data := .dict #[] }) h.objs.size (.dK []) :=
  ⟨Nat.zero_le _, beq_eq_false_iff_ne.mpr (Ne.symm (Nat.ne_of_lt hb)), [], .nil, Heap.DictOf.new h⟩
noncomputable def tDNewK : TE := fun _ H Q => ∀ p, H p = none → Q (.ref p) (upd H p (.dK []))
section
variable {X : Cx} {pos : Pos}
theorem pe_dnewK : PE X (.Dict [] [] pos) tDNewK := fun pins s σ H Q I h =>
  wpAny_Dict_empty ⟨.ref s.heap.objs.size, _, I.laid (a := s.heap.objs.size) (o := .dK []) (t' := s.toks) (fun _ _ q => Heap.get?_push_of_some _ q) (Nat.le_refl _) (dk_empty s.heap I.big), rfl, h _ (I.hok.fresh (Nat.le_refl _))⟩
end
section
variable {X : Cx} {pins : List (Addr × Obj)} {σ : St} {H : Hp} {s : Shared} {a : Addr} {y d : V} {u r : Value} {o : Option V} {A : Around} {E : Value → Shared → Prop}
end
section
variable {X : Cx} {o e f : Expr} {apos cpos : Pos} {td ty tx : TE}
end
section
variable {X : Cx} {pins : List (Addr × Obj)} {σ : St} {H : Hp} {s : Shared} {a : Addr} {kvs : List (Key × V)} {A : Around} {E : Value → Shared → Prop}
end
section
variable {X : Cx} {pins : List (Addr × Obj)} {σ : St} {H : Hp} {s : Shared} {a : Addr} {y : V} {u : Value} {A : Around} {E : Value → Shared → Prop}
end
end L2
namespace L2
open PySem PySem.Spec PyProof.Rows
section
variable {X : Cx}
end
section
variable {κ : Type} [DecidableEq κ]
end
end L2
namespace L2
open PySem PySem.Spec PyProof.Rows
theorem HOk.track {P : Program} {w : World} {H : Hp} {h : Heap} {a : Addr} {o : HO} (x : HOk P w H h) (hn : H a = none) (new : ObjOk P w (upd H a o) h a o) : HOk P w (upd H a o) h := fun b u e => by
  by_cases hb : b = a
  · subst hb; rw [upd_same] at e; cases e; exact new
  · rw [upd_ne hb] at e
    exact (x b u e).stay (fun c v _ q => q) (fun c q => by rw [upd_ne (ne_of_none q hn)]; exact q) fun c xs q => by rw [upd_ne (ne_of_none q hn)]; exact q
theorem Un.more {fs ex : List Addr} {H H' : Hp} {h h' : Heap} {a : Addr} {o : HO} (u : Un fs ex H H' h h') (hp : h.objs.size ≤ a) (hn : H' a = none) : Un fs ex H (upd H' a o) h h' where
  keep := u.keep
  slot := u.slot
  free := fun b ob q n hx => by rw [upd_ne (Nat.ne_of_lt (Nat.lt_of_lt_of_le (Heap.lt_size q) hp))]; exact u.free b ob q n hx
  there := u.there
  tups := fun b xs q => by have z := u.tups b xs q; rw [upd_ne (ne_of_none z hn)]; exact z
  frzs := fun b ob xs q => by have z := u.frzs b ob xs q; rw [upd_ne (ne_of_none z hn)]; exact z
  tbls := fun b ps q => by obtain ⟨m, z⟩ := u.tbls b ps q; exact ⟨m, by rw [upd_ne (ne_of_none z hn)]; exact z⟩
theorem Un.elder {fs ex ex' : List Addr} {H H' : Hp} {h0 h h' : Heap} (u : Un fs ex H H' h h') (k : ∀ b o, h0.get? b = some o → h.get? b = some o) (hx : ∀ b o, h0.get? b = some o → b ∈ ex → b ∈ ex') : Un fs ex' H H' h0 h' where
  keep := fun b o e n hb he => u.keep b o (k b o e) n hb fun z => he (hx b o e z)
  slot := fun b o e n hb he => u.slot b o (k b o e) n hb fun z => he (hx b o e z)
  free := fun b o e n he => u.free b o (k b o e) n fun z => he (hx b o e z)
  there := fun b o e he => u.there b o (k b o e) fun z => he (hx b o e z)
  tups := u.tups
  frzs := u.frzs
  tbls := u.tbls
noncomputable abbrev Cx.blk (X : Cx) (N : List Str) (scope : Scope) (cl : List (Str × Addr)) (C : Addr) (s : Shared) (H : Hp) (ex : List Addr) : Cx :=
  { X with N := N, s₀ := s, H₀ := H, env := compEnvC scope cl C X.env, outer := X.stack, ex := ex, fn := fun _ => false, pn := [], xe := fun _ _ => False }
noncomputable def slotOk (names0 : List (Str × NameKind)) (N0 : List Str) (sc : List (Str × NameKind)) (x : Str) : Option Nat → Bool
  | none => true
  | some j => decide (N0[j]? = some x) && (decide (names0.lookup x = some .cell) || decide (names0.lookup x = some .free)) && decide (sc.lookup x = some .free)
noncomputable def blkOk (names0 : List (Str × NameKind)) (N0 N : List Str) (sc : Scope) (ix : List (Option Nat)) : Bool :=
  decide (sc.kind = .function) && decide N.Nodup && decide (ix.length = N.length) && (N.zip ix).all (fun p => slotOk names0 N0 sc.names p.1 p.2) &&
  sc.names.all (fun y => decide (y.2 ≠ .cell) && (decide (y.2 ≠ .local) || decide (sc.names.lookup y.1 = some .local)) && (decide (y.2 ≠ .free) || decide (names0.lookup y.1 = some .cell) || decide (names0.lookup y.1 = some .free)))
noncomputable def blkStart (ix : List (Option Nat)) (σ : St) : St := ix.map fun o => match o with
  | some j => (σ[j]?).getD none
  | none => none
theorem closure_go (env : Env) : ∀ (names : List (Str × NameKind)) (cs : List (Str × Addr)), (∀ y ∈ names, y.2 = .free → ∃ c, env.cells.lookup y.1 = some c) →
    ∃ cl, (forIn names cs fun (x : Str × NameKind) (r : List (Str × Addr)) => match x with | (name, kind) => if (kind == .free) = true then (do let a ← cellOf env name; pure (ForInStep.yield ((name, a) :: r))) else pure (ForInStep.yield r) : Sem (List (Str × Addr))) = pure cl ∧
      (∀ x c, cl.lookup x = some c → env.cells.lookup x = some c ∨ cs.lookup x = some c) ∧ (∀ x c, cs.lookup x = some c → ∃ c', cl.lookup x = some c') ∧ ∀ x, (x, NameKind.free) ∈ names → ∃ c, cl.lookup x = some c
  | [], cs, _ => ⟨cs, rfl, fun _ _ h => .inr h, fun _ c h => ⟨c, h⟩, fun _ h => by cases h⟩
  | (n, k) :: r, cs, h => by
    by_cases hk : k = .free
    · subst hk
      obtain ⟨c, hc⟩ := h (n, .free) List.mem_cons_self rfl
      obtain ⟨cl, e, h1, h2, h3⟩ := closure_go env r ((n, c) :: cs) fun y hy => h y (List.mem_cons_of_mem _ hy)
      have hself : ((n, c) :: cs).lookup n = some c := by simp [List.lookup]
      refine ⟨cl, ?_, fun x d hx => ?_, fun x d hx => ?_, fun x hx => ?_⟩
      · rw [List.forIn_cons]
        have ec : cellOf env n = pure c := by unfold cellOf; rw [hc]
        show ((do let a ← cellOf env n; pure (ForInStep.yield ((n, a) :: cs))) >>= _) = pure cl
        rw [ec]
        exact e
      · rcases h1 x d hx with z | z
        · exact .inl z
        · by_cases hxn : x = n
          · subst hxn
            rw [hself] at z
            cases z
            exact .inl hc
          · have hb : (x == n) = false := beq_eq_false_iff_ne.mpr hxn
            simp only [List.lookup, hb] at z
            exact .inr z
      · by_cases hxn : x = n
        · subst hxn
          exact h2 x c hself
        · have hb : (x == n) = false := beq_eq_false_iff_ne.mpr hxn
          exact h2 x d (by simp only [List.lookup, hb]; exact hx)
      · rcases List.mem_cons.mp hx with z | z
        · cases z
          exact h2 n c hself
        · exact h3 x z
    · obtain ⟨cl, e, h1, h2, h3⟩ := closure_go env r cs fun y hy => h y (List.mem_cons_of_mem _ hy)
      refine ⟨cl, ?_, h1, h2, fun x hx => ?_⟩
      · rw [List.forIn_cons]
        have hb : (k == NameKind.free) = false := by simpa using hk
        show ((if (k == NameKind.free) = true then _ else pure (ForInStep.yield cs)) >>= _) = pure cl
        rw [if_neg (by rw [hb]; exact Bool.false_ne_true)]
        exact e
      · rcases List.mem_cons.mp hx with z | z
        · cases z
          exact absurd rfl hk
        · exact h3 x z
theorem closure_of {env : Env} {scope : Scope} (h : ∀ y ∈ scope.names, y.2 = .free → ∃ c, env.cells.lookup y.1 = some c) :
    ∃ cl, closureFor scope env = pure cl ∧ (∀ x c, cl.lookup x = some c → env.cells.lookup x = some c) ∧ ∀ x, (x, NameKind.free) ∈ scope.names → ∃ c, cl.lookup x = some c := by
  obtain ⟨cl, e, h1, _, h3⟩ := closure_go env scope.names [] h
  refine ⟨cl, ?_, fun x c hx => (h1 x c hx).elim id (fun z => by simp at z), h3⟩
  unfold closureFor
  exact (congrArg (fun m : Sem (List (Str × Addr)) => m >>= fun r => pure r) e)
theorem relabel_look {scope : Scope} {env : Env} {x : Str} {k : NameKind} (h : (relabel scope env).names.lookup x = some k) (hk : k = .cell ∨ k = .free) (hc : ∀ y ∈ scope.names, y.2 ≠ .cell) : (x, NameKind.free) ∈ scope.names := by
  have go : ∀ names : List (Str × NameKind), (∀ y ∈ names, y.2 ≠ .cell) →
      (names.map fun (n, k) => if (k == NameKind.free && env.scope.kind == .function && env.kindOf n == some .cell) then (n, NameKind.cell) else (n, k)).lookup x = some k → (x, NameKind.free) ∈ names := by
    intro names
    induction names with
    | nil => intro _ h; cases h
    | cons y r ih =>
      intro hc h
      obtain ⟨n, k'⟩ := y
      rw [List.map_cons] at h
      by_cases hxn : x = n
      · subst hxn
        by_cases hf : k' = .free
        · subst hf; exact List.mem_cons_self
        · have hb : (k' == NameKind.free) = false := by simpa using hf
          simp only [hb, Bool.false_and, Bool.false_eq_true, if_false, List.lookup, beq_self_eq_true] at h
          cases h
          rcases hk with z | z
          · exact absurd z (hc _ List.mem_cons_self)
          · exact absurd z hf
      · have hb : (x == n) = false := beq_eq_false_iff_ne.mpr hxn
        refine List.mem_cons_of_mem _ (ih (fun y hy => hc y (List.mem_cons_of_mem _ hy)) ?_)
        have h' : List.lookup x ((if (k' == NameKind.free && env.scope.kind == .function && env.kindOf n == some .cell) = true then (n, NameKind.cell) else (n, k')) :: _) = some k := h
        by_cases hcnd : (k' == NameKind.free && env.scope.kind == .function && env.kindOf n == some .cell) = true
        · rw [if_pos hcnd, List.lookup_cons, hb] at h'; exact h'
        · rw [if_neg hcnd, List.lookup_cons, hb] at h'; exact h'
  exact go scope.names hc h
theorem relabel_free {scope : Scope} {env : Env} {x : Str} (h : scope.names.lookup x = some .free) : (relabel scope env).names.lookup x = some .cell ∨ (relabel scope env).names.lookup x = some .free := by
  have go : ∀ names : List (Str × NameKind), names.lookup x = some .free →
      (names.map fun (n, k) => if (k == NameKind.free && env.scope.kind == .function && env.kindOf n == some .cell) then (n, NameKind.cell) else (n, k)).lookup x = some .cell ∨
      (names.map fun (n, k) => if (k == NameKind.free && env.scope.kind == .function && env.kindOf n == some .cell) then (n, NameKind.cell) else (n, k)).lookup x = some .free := by
    intro names
    induction names with
    | nil => intro h; cases h
    | cons y r ih =>
      intro h
      obtain ⟨n, k'⟩ := y
      rw [List.map_cons]
      by_cases hxn : x = n
      · subst hxn
        simp only [List.lookup, beq_self_eq_true] at h
        cases h
        show List.lookup x ((if (NameKind.free == NameKind.free && env.scope.kind == .function && env.kindOf x == some .cell) = true then (x, NameKind.cell) else (x, NameKind.free)) :: _) = _ ∨ List.lookup x ((if (NameKind.free == NameKind.free && env.scope.kind == .function && env.kindOf x == some .cell) = true then (x, NameKind.cell) else (x, NameKind.free)) :: _) = _
        by_cases hcnd : (NameKind.free == NameKind.free && env.scope.kind == .function && env.kindOf x == some .cell) = true
        · left; rw [if_pos hcnd, List.lookup_cons, beq_self_eq_true]
        · right; rw [if_neg hcnd, List.lookup_cons, beq_self_eq_true]
      · have hb : (x == n) = false := beq_eq_false_iff_ne.mpr hxn
        simp only [List.lookup, hb] at h
        show List.lookup x ((if (k' == NameKind.free && env.scope.kind == .function && env.kindOf n == some .cell) = true then (n, NameKind.cell) else (n, k')) :: _) = _ ∨ List.lookup x ((if (k' == NameKind.free && env.scope.kind == .function && env.kindOf n == some .cell) = true then (n, NameKind.cell) else (n, k')) :: _) = _
        by_cases hcnd : (k' == NameKind.free && env.scope.kind == .function && env.kindOf n == some .cell) = true
        · rw [if_pos hcnd, List.lookup_cons, hb]; exact ih h
        · rw [if_neg hcnd, List.lookup_cons, hb]; exact ih h
  exact go scope.names h
structure BlkOk (names0 : List (Str × NameKind)) (N0 N : List Str) (sc : Scope) (ix : List (Option Nat)) : Prop where
  kind : sc.kind = .function
  nd : N.Nodup
  len : ix.length = N.length
  slot : ∀ (i j : Nat) (x : Str), N[i]? = some x → ix[i]? = some (some j) → N0[j]? = some x ∧ (names0.lookup x = some .cell ∨ names0.lookup x = some .free) ∧ sc.names.lookup x = some .free
  cellless : ∀ y ∈ sc.names, y.2 ≠ .cell
  names : ∀ y ∈ sc.names, y.2 = .local → sc.names.lookup y.1 = some .local
  clos : ∀ y ∈ sc.names, y.2 = .free → names0.lookup y.1 = some .cell ∨ names0.lookup y.1 = some .free
theorem BlkOk.of {names0 : List (Str × NameKind)} {N0 N : List Str} {sc : Scope} {ix : List (Option Nat)} (h : blkOk names0 N0 N sc ix = true) : BlkOk names0 N0 N sc ix := by
  unfold blkOk at h
  simp only [Bool.and_eq_true, decide_eq_true_eq, List.all_eq_true, Bool.or_eq_true, ne_eq] at h
  obtain ⟨⟨⟨⟨h1, h2⟩, h3⟩, h4⟩, h5⟩ := h
  refine ⟨h1, h2, h3, fun i j x e1 e2 => ?_, fun y hy => (h5 y hy).1.1, fun y hy hl => ?_, fun y hy hf => ?_⟩
  · have hz : (N.zip ix)[i]? = some (x, some j) := by
      rw [List.getElem?_zip_eq_some]
      exact ⟨e1, e2⟩
    have := h4 (x, some j) (List.mem_of_getElem? hz)
    simp only [slotOk, Bool.and_eq_true, decide_eq_true_eq, Bool.or_eq_true] at this
    exact ⟨this.1.1, this.1.2, this.2⟩
  · rcases (h5 y hy).1.2 with z | z
    · exact absurd hl z
    · exact z
  · rcases (h5 y hy).2 with (z | z) | z
    · exact absurd hf z
    · exact .inl z
    · exact .inr z
theorem blkStart_get {ix : List (Option Nat)} {σ : St} {i : Nat} {v : V} (h : (blkStart ix σ)[i]? = some (some v)) : ∃ j, ix[i]? = some (some j) ∧ σ[j]? = some (some v) := by
  unfold blkStart at h
  rw [List.getElem?_map] at h
  cases e : ix[i]? with
  | none => rw [e] at h; cases h
  | some o =>
    rw [e] at h
    cases o with
    | none => cases h
    | some j =>
      refine ⟨j, rfl, ?_⟩
      have h' : (σ[j]?).getD none = some v := Option.some.inj h
      cases q : σ[j]? with
      | none => rw [q] at h'; cases h'
      | some w => rw [q] at h'; exact congrArg some h'
section
variable {X : Cx} {pins : List (Addr × Obj)} {σ : St} {H : Hp} {s : Shared}
theorem blk_ok {N : List Str} {scope : Scope} {cl : List (Str × Addr)} {C : Addr} {ex : List Addr} {ix : List (Option Nat)} (I : Inv X pins σ H s) (B : BlkOk X.env.scope.names X.N N scope ix)
    (hsub : ∀ x c, cl.lookup x = some c → X.env.cells.lookup x = some c) (hhas : ∀ x, (x, NameKind.free) ∈ scope.names → ∃ c, cl.lookup x = some c) (hC : s.heap.objs.size ≤ C) (hex : ∀ b ∈ ex, FpOk X pins H b) (hlt : ∀ b ∈ ex, b < s.heap.objs.size) :
    (X.blk N scope cl C s H ex).Ok where
  mod := I.ok.mod
  kind := B.kind
  glob := I.ok.glob
  blt := I.ok.blt
  above := hC
  inj := fun x y c h1 h2 => I.ok.inj x y c (hsub x c h1) (hsub y c h2)
  has := fun x hx => by
    rcases hx with hx | hx
    · exact hhas x (relabel_look hx (.inl rfl) B.cellless)
    · exact hhas x (relabel_look hx (.inr rfl) B.cellless)
  cab := fun _ _ z => by cases z
  hd := I.ok.hd
  frames := I.ok.frames
  stk := .inl rfl
  exf := fun b hb => ⟨Nat.ne_of_lt (Nat.lt_of_lt_of_le (hlt b hb) hC), fun x c e => (hex b hb).2.2.2.2.1 x c (hsub x c e)⟩
  bs := I.bs
  bsz := Nat.le_trans I.ok.bsz I.sz
  noex := fun b o e hb => by
    rcases (hex b hb).2.2.2.1 with z | z
    · exact I.ok.noex b o e z
    · exact absurd (Nat.lt_of_lt_of_le (Heap.lt_size e) (Nat.le_trans I.ok.bsz z)) (Nat.lt_irrefl _)
  exfs := fun b hb hf => by
    rcases List.mem_cons.mp (I.stkSub b hf) with z | z
    · exact (hex b hb).2.1 z
    · exact (hex b hb).2.2.1 z
  funs := I.stack
  frf := I.stkFree
end
noncomputable def PF (X : Cx) (ifs : List Expr) (t : TT) : Prop :=
  ∀ (pins : List (Addr × Obj)) (s : Shared) (σ : St) (H : Hp) (Q : Bool → Hp → Prop), Inv X pins σ H s → t σ H Q →
    wpAny (model X.prog X.w) X.A (forIn ifs true fun c r => if r = true then do let ok ← isTrue c X.env (eval c X.env); pure (ForInStep.yield ok) else pure (ForInStep.yield r)) (TP X pins σ Q) X.xe s
noncomputable def tTrue : TT := fun _ H Q => Q true H
theorem pf_nil {X : Cx} : PF X [] tTrue := fun _ _ _ H _ I h => wpAny_tests_nil ⟨H, I, h⟩
theorem pf_one {X : Cx} {c : Expr} {t : TT} (h : PT X c t) : PF X [c] t := fun pins s σ H Q I hq => wpAny_tests_one (h pins s σ H Q I hq)
section
variable {prog : Program} {w : World} {A : Around} {R : Result → Shared → Prop} {s : Shared}
theorem comp_loop {elt target iter : Expr} {ifs : List Expr} {scope : Scope} {pos : Pos} {it acc : Value} {env : Env} (I : Nat → Shared → Prop)
    (turn : ∀ n s, I n s → wpAny (model prog w) A (pyNext it) (fun r s₁ => match r with
      | none => R (.ok .next) s₁
      | some v => wpAny (model prog w) A (letOwnedTupleGo target it v) (fun _ s₀ => wpAny (model prog w) A (assign target env v) (fun _ s₂ =>
          wpAny (model prog w) A (forIn ifs true fun c r => if r = true then do let ok ← isTrue c env (eval c env); pure (ForInStep.yield ok) else pure (ForInStep.yield r)) (fun ok s₃ =>
            if ok = true then wpAny (model prog w) A (eval elt env) (fun x s₄ =>
              wpAny (model prog w) A (call (.builtin "list.append") [acc, x]) (fun _ s₅ => ∃ m, m < n ∧ I m s₅) (fun _ _ => False) s₄) (fun _ _ => False) s₃
            else ∃ m, m < n ∧ I m s₃) (fun _ _ => False) s₂) (fun _ _ => False) s₀) (fun _ _ => False) s₁) (fun _ _ => False) s)
    (n : Nat) (h : I n s) : codeAny (model prog w) A (.compLoop (.ListComp elt [⟨target, iter, ifs, 0⟩] scope pos) 0 it acc env) R s := by
  refine codeAny_loop rfl I (fun n s hI => ?_) n h
  show wpAny _ A ((compTurn (.ListComp elt [⟨target, iter, ifs, 0⟩] scope pos) 0 it acc env).onRaise (fun x => do noteFrame x env; theTreesLotGoes x)) _ _ s
  refine wpAny_noted (wpAny_noRaise ?_)
  rw [compTurn_list]
  refine wpAny_bind (wpAny_standAt (wpAny_bind (wpAny_mono (turn n s hI) (fun r s₁ h₁ => ?_) fun _ _ h' => h')))
  cases r with
  | none => exact wpAny_pure h₁
  | some v =>
    refine wpAny_bind (wpAny_mono h₁ (fun _ s₀ h₀' => ?_) fun _ _ h' => h')
    refine wpAny_bind (wpAny_mono h₀' (fun _ s₂ h₂ => wpAny_bind (wpAny_mono h₂ (fun ok s₃ h₃ => ?_) fun _ _ h' => h')) fun _ _ h' => h')
    cases ok with
    | false => exact wpAny_pure ⟨rfl, h₃⟩
    | true =>
      exact wpAny_bind (wpAny_bind (wpAny_mono h₃ (fun x s₄ h₄ => wpAny_bind (wpAny_mono h₄ (fun _ s₅ h₅ => wpAny_pure (wpAny_pure ⟨rfl, h₅⟩)) fun _ _ h' => h')) fun _ _ h' => h'))
end
noncomputable def lstObj (us : List Value) (n : Nat) : Obj := { cls := .type "list", data := .seq us.toArray n }
noncomputable def tComp (wi : TI) (ix : List (Option Nat)) (g : TG) (tc : TT) (te : TE) : TE := fun σ H Q => wi σ H fun J H1 =>
  ∃ (W : Nat → List V → St → Hp → Prop) (n : Nat), n ≤ sizeLine ∧ W 0 [] (blkStart ix σ) H1 ∧ ∀ i xs σ' H', W i xs σ' H' → xs.length ≤ i →
    (J.stop i H' ∧ ∀ p, H' p = none → Q (.ref p) (upd H' p (.lst xs))) ∨
    (J.go i H' ∧ i < n ∧ ∃ M : List V → St → Hp → Prop, (∀ ys σ3 H3, M ys σ3 H3 → W (i + 1) ys σ3 H3) ∧ ∀ x H2, J.yld i H' x H2 → g x σ' H2 fun σ2 H3 => tc σ2 H3 fun b H4 => if b = true then te σ2 H4 fun y H5 => M (xs ++ [y]) σ2 H5 else M xs σ2 H4)
section
variable {X : Cx} {elt tg iter : Expr} {ifs : List Expr} {scope : Scope} {pos : Pos} {N : List Str} {ix : List (Option Nat)} {wi : TI} {g : TG} {tc : TT} {te : TE}
theorem comp_block {pins : List (Addr × Obj)} {σ : St} {H2 : Hp} {s2 : Shared} {it : Addr} {fp : List Addr} {tn : Nat → Heap → Prop} {J : It} {Q : VK} {RR : Value → Addr → Result → Shared → Prop} {E : Value → Shared → Prop} {cl : List (Str × Addr)} {qt : Cx → Prop}
    (hc : ∀ (C : Addr) (s : Shared) (ex : List Addr), (∀ b o, s2.heap.get? b = some o → s.heap.get? b = some o) → (∀ b ∈ ex, b ∈ fp ∨ s2.heap.objs.size ≤ b) → qt (X.blk N scope cl C s H2 ex)) (B : BlkOk X.env.scope.names X.N N scope ix)
    (hg : ∀ (cl : List (Str × Addr)) (C : Addr) (s : Shared) (H : Hp) (ex : List Addr), PG (X.blk N scope cl C s H ex) tg g)
    (hf : ∀ (cl : List (Str × Addr)) (C : Addr) (s : Shared) (H : Hp) (ex : List Addr), PF (X.blk N scope cl C s H ex) ifs tc)
    (he : ∀ (cl : List (Str × Addr)) (C : Addr) (s : Shared) (H : Hp) (ex : List Addr), PE (X.blk N scope cl C s H ex) elt te)
    (hsub : ∀ x c, cl.lookup x = some c → X.env.cells.lookup x = some c) (hhas : ∀ x, (x, NameKind.free) ∈ scope.names → ∃ c, cl.lookup x = some c)
    (I2 : Inv X pins σ H2 s2) (T : Turn X.prog X.w X.K tg J fp it tn qt) (t0 : tn 0 s2.heap) (f2 : ∀ b ∈ fp, FpOk X pins H2 b)
    (h : ∃ (W : Nat → List V → St → Hp → Prop) (n : Nat), n ≤ sizeLine ∧ W 0 [] (blkStart ix σ) H2 ∧ ∀ i xs σ' H', W i xs σ' H' → xs.length ≤ i →
      (J.stop i H' ∧ ∀ p, H' p = none → Q (.ref p) (upd H' p (.lst xs))) ∨
      (J.go i H' ∧ i < n ∧ ∃ M : List V → St → Hp → Prop, (∀ ys σ3 H3, M ys σ3 H3 → W (i + 1) ys σ3 H3) ∧ ∀ x H2, J.yld i H' x H2 → g x σ' H2 fun σ2 H3 => tc σ2 H3 fun b H4 => if b = true then te σ2 H4 fun y H5 => M (xs ++ [y]) σ2 H5 else M xs σ2 H4))
    (hRR : ∀ D C H5 s5, Inv X pins σ H5 s5 → Q (.ref D) H5 → (∃ m, s5.heap.Ns C m) → H5 C = none → s2.heap.objs.size ≤ C → RR (.ref D) C (.ok .next) s5) :
    wpAny (model X.prog X.w) X.A (newList []) (fun acc s₃ => wpAny (model X.prog X.w) X.A (newFunctionEnv scope X.env.globals cl [] X.env.qual none .none (some X.env)) (fun cenv s₄ =>
      codeAny (model X.prog X.w) X.A (.compStart (.ListComp elt [⟨tg, iter, ifs, 0⟩] scope pos) 0 (.ref it) acc { cenv with scope := relabel scope X.env }) (RR acc cenv.locals) s₄) E s₃) E s2 := by
  obtain ⟨W, n, hn, w0, turn⟩ := h
  refine wpAny_newObj_type (wpAny_newFunctionEnv B.cellless (by intro y hy; simp at hy) (fun h₁ hns₁ hsb₁ => ?_) B.kind)
  dsimp only at hns₁ hsb₁ ⊢
  generalize hH3 : s2.heap.push { cls := .type "list", dict := none, data := .seq ([] : List Value).toArray } = G3 at hns₁ hsb₁ ⊢
  have hD : G3.objs.size = s2.heap.objs.size + 1 := by rw [← hH3, Heap.size_push]
  have up3 : ∀ b o, s2.heap.get? b = some o → G3.get? b = some o := fun b o e => by rw [← hH3]; exact Heap.get?_push_of_some _ e
  have atD : G3.get? s2.heap.objs.size = some (lstObj [] 0) := by rw [← hH3]; exact Heap.get?_push_size _ rfl
  have I3 : Inv X pins σ H2 { s2 with heap := G3 } := I2.kept (t' := s2.toks) up3
  have neC : ∀ b o, G3.get? b = some o → b ≠ G3.objs.size := fun b o e => Nat.ne_of_lt (Heap.lt_size e)
  have up4 : ∀ b o, G3.get? b = some o → h₁.get? b = some o := fun b o e => (hsb₁.2 b (neC b o e)).trans (Heap.get?_push_of_some _ e)
  have fD : FpOk X pins H2 s2.heap.objs.size := I2.fpOk (Nat.le_refl _) (I2.hok.fresh (Nat.le_refl _))
  have fC : FpOk X pins H2 G3.objs.size := I3.fpOk (Nat.le_refl _) (I3.hok.fresh (Nat.le_refl _))
  have itlt : ∀ b ∈ fp, b < s2.heap.objs.size := fun b hb => by
    obtain ⟨o, e, _⟩ := T.obj 0 _ t0 b hb
    exact Heap.lt_size e
  have exlt : ∀ b ∈ s2.heap.objs.size :: fp, b < G3.objs.size := fun b hb => by
    rw [hD]
    rcases List.mem_cons.mp hb with z | z
    · rw [z]; exact Nat.lt_succ_self _
    · exact Nat.lt_succ_of_lt (itlt b z)
  have exF : ∀ b ∈ s2.heap.objs.size :: fp, FpOk X pins H2 b := fun b hb => by
    rcases List.mem_cons.mp hb with z | z
    · rw [z]; exact fD
    · exact f2 b z
  have ok := blk_ok (N := N) (C := G3.objs.size) (ex := s2.heap.objs.size :: fp) I3 B hsub hhas (Nat.le_refl _) exF exlt
  generalize hX : X.blk N scope cl G3.objs.size { s2 with heap := G3 } H2 (s2.heap.objs.size :: fp) = X' at ok
  have nfs : ∀ b, b ≠ X.env.locals → b ∉ X.fs → b ∉ X'.fs := fun b h1 h2 hb => by
    subst hX
    rcases List.mem_cons.mp (I2.stkSub b hb) with z | z
    · exact h1 z
    · exact h2 z
  have pinD : ∀ {H' : Hp} {s' : Shared} {us : List Value} {k : Nat}, s'.heap.get? s2.heap.objs.size = some (lstObj us k) → H' s2.heap.objs.size = none →
      ∀ p ∈ [(s2.heap.objs.size, lstObj us k)], s'.heap.get? p.1 = some p.2 ∧ H' p.1 = none ∧ p.1 ≠ X'.env.locals ∧ p.1 ∉ X'.fs ∧ ∀ v, p.2.data ≠ .cell v := fun {H' s' us k} e z p hp => by
    obtain rfl : p = (s2.heap.objs.size, lstObj us k) := by simpa using hp
    refine ⟨e, z, ?_, nfs _ fD.2.1 fD.2.2.1, fun v q => by cases q⟩
    subst hX
    exact Nat.ne_of_lt (by rw [hD]; exact Nat.lt_succ_self _)
  have J0 : Inv X' [(s2.heap.objs.size, lstObj [] 0)] (blkStart ix σ) H2 { s2 with heap := h₁, toks := s2.toks } := by
    refine ⟨ok, by subst hX; rfl, I2.bare, ?_, ⟨_, by subst hX; exact hns₁, fun i x v e1 e2 e3 => ?_⟩, fun x c e => ?_, ?_, fun x c e => ?_, fun p hp => ?_, ?_, ?_⟩
    · subst hX; exact Un.kept up4
    · obtain ⟨j, ej, eσ⟩ := blkStart_get e2
      obtain ⟨hN0, hk0, hfree⟩ := B.slot i j x (by subst hX; exact e1) ej
      obtain ⟨m, hnm, hl⟩ := I2.loc
      obtain ⟨u, ru, lk⟩ := hl j x v hN0 eσ (.inr hk0)
      refine ⟨u, ru, ?_⟩
      rcases lk with ⟨hk, _⟩ | ⟨_, c, hcc, hcell⟩
      · have hk : X.env.scope.names.lookup x = some .local := hk
        rcases hk0 with z | z <;> (rw [hk] at z; cases z)
      · have hmem : (x, NameKind.free) ∈ scope.names := PySem.mem_of_lookup hfree
        obtain ⟨c', hc'⟩ := hhas x hmem
        have e' := hsub x c' hc'
        rw [hcc] at e'; cases e'
        refine .inr ⟨?_, c, by subst hX; exact hc', ?_⟩
        · subst hX; exact relabel_free hfree
        · obtain ⟨o, ho, hd⟩ := hcell
          exact ⟨o, up4 c o (up3 c o ho), hd⟩
    · obtain ⟨v, o, ho, hd⟩ := I2.cell x c (hsub x c (by subst hX; exact e))
      exact ⟨v, o, up4 c o (up3 c o ho), hd⟩
    · subst hX; exact fC.1
    · exact I2.freeC x c (hsub x c (by subst hX; exact e))
    · have hp' : p ∈ [(s2.heap.objs.size, lstObj [] 0)] := by subst hX; simpa using hp
      exact pinD (s' := { s2 with heap := h₁, toks := s2.toks }) (up4 _ _ atD) fD.1 p hp'
    · subst hX; exact (I2.hok.kept fun b o e => up4 b o (up3 b o e))
    · subst hX
      show (blkStart ix σ).length = N.length
      unfold blkStart
      rw [List.length_map]
      exact B.len
  have fpX : ∀ {H' : Hp} {us : List Value} {k : Nat}, (∀ b ∈ fp, H' b = none) → ∀ b ∈ fp, FpOk X' [(s2.heap.objs.size, lstObj us k)] H' b := fun {H' us k} hn b hb => by
    obtain ⟨g0, g1, g2, g3, g4, g5⟩ := f2 b hb
    refine ⟨hn b hb, ?_, nfs b g1 g2, .inl ?_, fun x c e => ?_, fun p hp => ?_⟩
    · subst hX; exact Nat.ne_of_lt (by rw [hD]; exact Nat.lt_succ_of_lt (itlt b hb))
    · subst hX; exact List.mem_cons_of_mem _ hb
    · exact g4 x c (hsub x c (by subst hX; exact e))
    · have hp' : p = (s2.heap.objs.size, lstObj us k) := by subst hX; simpa using hp
      rw [hp']
      exact Ne.symm (Nat.ne_of_lt (itlt b hb))
  have hcX : qt X' := by
    subst hX
    exact hc _ _ _ up3 fun b hb => (List.mem_cons.mp hb).elim (fun z => .inr (Nat.le_of_eq z.symm)) .inl
  have hgX : PG X' tg g := by subst hX; exact hg _ _ _ _ _
  have hfX : PF X' ifs tc := by subst hX; exact hf _ _ _ _ _
  have heX : PE X' elt te := by subst hX; exact he _ _ _ _ _
  have hprog : X'.prog = X.prog := by subst hX; rfl
  have hw : X'.w = X.w := by subst hX; rfl
  have hK : X'.K = X.K := by subst hX; rfl
  have hA : X'.A = X.A := by subst hX; rfl
  have hxe : X'.xe = fun _ _ => False := by subst hX; rfl
  have henv : X'.env = compEnvC scope cl G3.objs.size X.env := by subst hX; rfl
  have hexD : s2.heap.objs.size ∈ X'.ex := by subst hX; exact List.mem_cons_self
  have cellD : ∀ x c, X'.env.cells.lookup x = some c → c ≠ s2.heap.objs.size := fun x c e => fD.2.2.2.2.1 x c (hsub x c (by subst hX; exact e))
  have locD : s2.heap.objs.size ≠ X'.env.locals := by subst hX; exact Nat.ne_of_lt (by rw [hD]; exact Nat.lt_succ_self _)
  have pn0 : X'.pn = [] := by subst hX; rfl
  have fin : ∀ {xs : List V} {us : List Value} {k : Nat} {σ' : St} {H' : Hp} {s' : Shared}, Inv X' [(s2.heap.objs.size, lstObj us k)] σ' H' s' → Vals xs us → xs.length ≤ sizeLine → (∀ p, H' p = none → Q (.ref p) (upd H' p (.lst xs))) →
      RR (.ref s2.heap.objs.size) G3.objs.size (.ok .next) s' := fun {xs us k σ' H' s'} I' rv hl hq => by
    obtain ⟨eD, nD, _, _, _⟩ := I'.pin (s2.heap.objs.size, lstObj us k) (List.mem_append_right _ List.mem_cons_self)
    have uu : Un (frs X.stack) fp H2 (upd H' s2.heap.objs.size (.lst xs)) s2.heap s'.heap := by
      have u1 : Un (frs X.stack) (s2.heap.objs.size :: fp) H2 H' G3 s'.heap := by have z := I'.base; subst hX; exact z
      exact (u1.elder up3 (fun b o e hb => (List.mem_cons.mp hb).elim (fun z => absurd z (Nat.ne_of_lt (Heap.lt_size e))) id)).more (Nat.le_refl _) nD
    have hok' : HOk X.prog X.w (upd H' s2.heap.objs.size (.lst xs)) s'.heap := by
      have z := I'.hok
      rw [hprog, hw] at z
      exact z.track nD ⟨hl, us, k, rv, eD⟩
    have I5 : Inv X pins σ (upd H' s2.heap.objs.size (.lst xs)) s' := I2.call' (s' := s') (ch := fp) (by have z := I'.os; subst hX; exact z) uu hok' I'.bare fun b hb => by
      obtain ⟨g0, g1, g2, g3, g4, g5⟩ := f2 b hb
      exact ⟨g3, g1, g4, g5⟩
    obtain ⟨m, hm, _⟩ := I'.loc
    have nC : H' G3.objs.size = none := by have z := I'.free; subst hX; exact z
    refine hRR _ _ _ s' I5 (hq _ nD) ⟨m, by subst hX; exact hm⟩ ?_ (by rw [hD]; exact Nat.le_succ _)
    rw [upd_ne (by rw [hD]; exact Nat.ne_of_gt (Nat.lt_succ_self _))]
    exact nC
  have loop : codeAny (model X.prog X.w) X.A (.compLoop (.ListComp elt [⟨tg, iter, ifs, 0⟩] scope pos) 0 (.ref it) (.ref s2.heap.objs.size) (compEnvC scope cl G3.objs.size X.env)) (RR (.ref s2.heap.objs.size) G3.objs.size) { s2 with heap := h₁, toks := s2.toks } := by
    refine comp_loop (fun m s' => ∃ i xs us k σ' H', m = n + 1 - i ∧ i ≤ n ∧ Inv X' [(s2.heap.objs.size, lstObj us k)] σ' H' s' ∧ tn i s'.heap ∧ (∀ b ∈ fp, H' b = none) ∧ Vals xs us ∧ xs.length ≤ i ∧ W i xs σ' H') ?_ (n + 1)
      ⟨0, [], [], 0, _, H2, rfl, Nat.zero_le _, J0, T.keep 0 _ _ t0 (fun b _ o e => up4 b o (up3 b o e)), fun b hb => (f2 b hb).1, .nil, Nat.le_refl _, w0⟩
    rintro m s' ⟨i, xs, us, k, σ', H', rfl, hin, I', ti, fr, rv, hxi, wi'⟩
    rcases turn i xs σ' H' wi' hxi with ⟨stop, hq⟩ | ⟨go, hlt, M, hM, step⟩
    · have st0 := T.done X' hprog hw hK hcX i _ s' σ' H' (fun _ _ => False) I' (fpX fr) ti stop
      rw [hA] at st0
      refine thn st0 fun r s1 hr => ?_
      obtain ⟨rfl, I1⟩ := hr
      exact fin I1 rv (Nat.le_trans hxi (Nat.le_trans hin hn)) hq
    · have st0 := T.item X' hprog hw hK hcX i _ s' σ' H' (fun _ _ => False) I' (fpX fr) ti go
      rw [hA] at st0
      refine thn st0 fun r s1 hr => ?_
      obtain ⟨u, rfl, h1⟩ := hr
      dsimp only
      refine thn h1 fun _ s5 z9 => ?_
      obtain ⟨x, H5, I5, r5, y5, t5, fr5⟩ := z9
      have I5' := I5.pinned (fpX fr5) (T.obj _ _ t5)
      have st1 := hgX _ s5 σ' H5 x u _ I5' r5 (step x H5 y5)
      rw [hprog, hw, hA, hxe, henv] at st1
      refine thn st1 fun _ s6 z9 => ?_
      obtain ⟨σ6, H6, I6, q6⟩ := z9
      have st2 := hfX _ s6 σ6 H6 _ I6 q6
      rw [hprog, hw, hA, hxe, henv] at st2
      refine thn st2 fun ok s7 z9 => ?_
      obtain ⟨H7, I7, q7⟩ := z9
      have back : ∀ {H8 : Hp} {s8 : Shared}, Inv X' ([(s2.heap.objs.size, lstObj us k)] ++ pinsAt fp s5.heap) σ6 H8 s8 → tn (i + 1) s8.heap ∧ (∀ b ∈ fp, H8 b = none) ∧ Inv X' [(s2.heap.objs.size, lstObj us k)] σ6 H8 s8 := fun {H8 s8} I8 => by
        have pin : ∀ b ∈ fp, ∀ o, s5.heap.get? b = some o → s8.heap.get? b = some o ∧ H8 b = none := fun b hb o e => by
          have z := I8.pin (b, o) (List.mem_append_right _ (List.mem_append_right _ (mem_pinsAt hb e)))
          exact ⟨z.1, z.2.1⟩
        refine ⟨T.keep _ _ _ t5 fun b hb o e => (pin b hb o e).1, fun b hb => ?_, I8.unpinned⟩
        obtain ⟨o, e, _⟩ := T.obj _ _ t5 b hb
        exact (pin b hb o e).2
      cases ok with
      | false =>
        rw [if_neg Bool.false_ne_true] at q7
        rw [if_neg Bool.false_ne_true]
        obtain ⟨t8, f8, I8⟩ := back I7
        exact ⟨n + 1 - (i + 1), by omega, i + 1, xs, us, k, σ6, H7, rfl, hlt, I8, t8, f8, rv, Nat.le_succ_of_le hxi, hM _ _ _ q7⟩
      | true =>
        rw [if_pos rfl] at q7
        rw [if_pos rfl]
        have st3 := heX _ s7 σ6 H7 _ I7 q7
        rw [hprog, hw, hA, hxe, henv] at st3
        refine thn st3 fun y s8 z9 => ?_
        obtain ⟨yv, H8, I8, r8, q8⟩ := z9
        obtain ⟨t8, f8, I8'⟩ := back I8
        obtain ⟨eD, nD, _, _, _⟩ := I8'.pin (s2.heap.objs.size, lstObj us k) (List.mem_append_right _ List.mem_cons_self)
        have hul : us.length ≤ i := by rw [← rv.length]; exact hxi
        refine call_meets F.slot_list_append ⟨_, eD, rfl⟩ F.entry_list_append (F.args_list_append_2 _ _) (PySem.list_append s2.heap.objs.size us.toArray k y (by rw [List.size_toArray]; omega)) ⟨eD, ?_⟩
        have q := PySem.IsL.update eD (fun a => a.push y)
        have kp : ∀ b o, b ≠ s2.heap.objs.size → s8.heap.get? b = some o → (s8.heap.update s2.heap.objs.size (Obj.mapSeq fun a => a.push y)).get? b = some o := fun b o hb e => (Heap.get?_update_other s8.heap _ (Ne.symm hb)).trans e
        have I9 : Inv X' [] σ6 H8 { s8 with heap := s8.heap.update s2.heap.objs.size (Obj.mapSeq fun a => a.push y), toks := s8.toks } :=
          (I8'.pins_of (pins' := []) (fun p hp => by cases hp)).turned (it := s2.heap.objs.size) kp nD locD (.inl hexD) cellD (fun p hp => by rw [pn0] at hp; cases hp)
        have hpush : us.toArray.push y = (us ++ [y]).toArray := by simp
        rw [hpush] at q
        have I10 := I9.pins_of (pinD (H' := H8) (s' := { s8 with heap := s8.heap.update s2.heap.objs.size (Obj.mapSeq fun a => a.push y), toks := s8.toks }) q nD)
        refine ⟨n + 1 - (i + 1), by omega, i + 1, xs ++ [yv], us ++ [y], _, σ6, H8, rfl, hlt, I10, T.keep _ _ _ t8 (fun b hb o e => kp b o (Nat.ne_of_lt (itlt b hb)) e), f8, rv.append (.cons r8 .nil), ?_, hM _ _ _ q8⟩
        rw [List.length_append, List.length_singleton]
        omega
  refine codeAny_compStart_list loop (T.self X.A 0 _ _ _ (T.keep 0 _ _ t0 fun b _ o e => up4 b o (up3 b o e)) loop)
theorem pe_comp (hc : X.calm = true) (hi : PI X tg iter wi)
    (hg : ∀ (cl : List (Str × Addr)) (C : Addr) (s : Shared) (H : Hp) (ex : List Addr), PG (X.blk N scope cl C s H ex) tg g)
    (hf : ∀ (cl : List (Str × Addr)) (C : Addr) (s : Shared) (H : Hp) (ex : List Addr), PF (X.blk N scope cl C s H ex) ifs tc)
    (he : ∀ (cl : List (Str × Addr)) (C : Addr) (s : Shared) (H : Hp) (ex : List Addr), PE (X.blk N scope cl C s H ex) elt te)
    (hb : blkOk X.env.scope.names X.N N scope ix = true) (hs : ∀ x, foldedSetIterable iter X.env x = pure x := by intro _; rfl) :
    PE X (.ListComp elt [⟨tg, iter, ifs, 0⟩] scope pos) (tComp wi ix g tc te) := by
  have B := BlkOk.of hb
  intro pins s σ H Q I h
  obtain ⟨cl, hclos, hsub, hhas⟩ := closure_of (env := X.env) (scope := scope) fun y hy hf => I.ok.has y.1 (B.clos y hy hf)
  rw [eval_ListComp]
  refine wpAny_comprehension_free (use := none) rfl hs hclos B.kind B.names (thn (hi pins s σ H _ I h) fun v s1 h1 => thn h1 fun itv s2 h2 => ?_)
  obtain ⟨it, fp, tn, J, H2, rfl, I2, T, t0, f2, hw⟩ := h2
  refine comp_block (RR := fun acc C => compPost (model X.prog X.w) X.A X.xe none (EP X pins σ Q) acc C) (fun _ _ _ _ _ => hc) B hg hf he hsub hhas I2 T t0 f2 hw ?_
  intro D C H5 s5 I5 q5 ⟨m, hm⟩ nC hC
  refine ⟨m, hm, fun h' hs' => ⟨.ref D, H5, ?_, rfl, q5⟩⟩
  have fC : FpOk X pins H5 C := I2.fpOk hC nC
  exact I5.turned (t' := s5.toks) (it := C) (fun b o hb e => (hs'.2 b hb).trans e) fC.1 fC.2.1 fC.2.2.2.1 fC.2.2.2.2.1 fC.2.2.2.2.2
theorem ps_setc {i : Nat} {x : Str} {pos' spos : Pos} (hc : X.calm = true) (hN : X.N.Nodup) (hix : X.N[i]? = some x) (hx : X.env.scope.names.lookup x = some .local) (hi : PI X tg iter wi)
    (hg : ∀ (cl : List (Str × Addr)) (C : Addr) (s : Shared) (H : Hp) (ex : List Addr), PG (X.blk N scope cl C s H ex) tg g)
    (hf : ∀ (cl : List (Str × Addr)) (C : Addr) (s : Shared) (H : Hp) (ex : List Addr), PF (X.blk N scope cl C s H ex) ifs tc)
    (he : ∀ (cl : List (Str × Addr)) (C : Addr) (s : Shared) (H : Hp) (ex : List Addr), PE (X.blk N scope cl C s H ex) elt te)
    (hb : blkOk X.env.scope.names X.N N scope ix = true) (hsw : swapsWith (.ListComp elt [⟨tg, iter, ifs, 0⟩] scope pos) (some (.Name x pos')) spos.line X.env = pure true) (hs : ∀ x, foldedSetIterable iter X.env x = pure x := by intro _; rfl) :
    PS X (.Assign [.Name x pos'] (.ListComp elt [⟨tg, iter, ifs, 0⟩] scope pos) spos) (tAsg (tComp wi ix g tc te) (gName i)) := by
  have B := BlkOk.of hb
  intro pins s σ H D I h
  obtain ⟨cl, hclos, hsub, hhas⟩ := closure_of (env := X.env) (scope := scope) fun y hy hf => I.ok.has y.1 (B.clos y hy hf)
  rw [exec_Assign_Name_used _ _ _ _ hsw]
  refine wpAny_bind (wpAny_standAt (wpAny_bind ?_))
  show wpAny _ X.A (do let _ ← comprehension (.ListComp elt [⟨tg, iter, ifs, 0⟩] scope pos) scope X.env _ (newList []) false (eval iter X.env) (some (assign (.Name x pos') X.env))) _ _ s
  refine wpAny_bind (wpAny_mono (wpAny_comprehension_free (use := some (assign (.Name x pos') X.env)) (Q := fun _ s' => SP X pins D .next s') rfl hs hclos B.kind B.names
    (thn (hi pins s σ H _ I h) fun v s1 h1 => thn h1 fun itv s2 h2 => ?_)) (fun _ s' hq => wpAny_pure (wpAny_pure hq)) fun _ _ e => e)
  obtain ⟨it, fp, tn, J, H2, rfl, I2, T, t0, f2, hw⟩ := h2
  refine comp_block (Q := fun x H1 => gName i x σ H1 D.nx) (RR := fun acc C => compPost (model X.prog X.w) X.A X.xe (some (assign (.Name x pos') X.env)) (fun _ s' => SP X pins D .next s') acc C) (fun _ _ _ _ _ => hc) B hg hf he hsub hhas I2 T t0 f2 hw ?_
  intro Dl C H5 s5 I5 q5 ⟨m, hm⟩ nC hC
  have fC : FpOk X pins H5 C := I2.fpOk hC nC
  show wpAny _ X.A (assign (.Name x pos') X.env (.ref Dl)) _ _ s5
  refine wpAny_assign_Name (store_ok2 I5 hN hix (.inl hx) (v := .ref Dl) rfl (fun s6 I6 z9 => ?_) (.inr hx))
  obtain ⟨a, hsb, ha⟩ := z9
  have hCa : C ≠ a := by
    rcases ha with z | z
    · rw [z]; exact fC.2.1
    · exact Ne.symm (fC.2.2.2.2.1 x a z)
  refine ⟨m, hm.sameBut hsb hCa, fun h' hs' => ⟨_, H5, ?_, q5⟩⟩
  exact I6.turned (t' := s6.toks) (it := C) (fun b o hb e => (hs'.2 b hb).trans e) fC.1 fC.2.1 fC.2.2.2.1 fC.2.2.2.2.1 fC.2.2.2.2.2
end
end L2
namespace L2
open PySem PySem.Spec PyProof.Rows
section
variable {X : Cx} {pins : List (Addr × Obj)} {σ : St} {H : Hp} {s : Shared} {h' : Heap}
theorem Inv.turnedN {t' : Nat} {ch : List Addr} (I : Inv X pins σ H s) (k : ∀ b o, b ∉ ch → s.heap.get? b = some o → h'.get? b = some o) (hf : ∀ b ∈ ch, FpOk X pins H b) : Inv X pins σ H { s with heap := h', toks := t' } := by
  have nit : ∀ b u, H b = some u → b ∉ ch := fun b u e z => by rw [(hf b z).1] at e; cases e
  refine I.step (g' := s.gens) (d' := s.drawn) (ch := ch) (fun b hb => ?_) (fun b o _ _ hc e _ => k b o hc e) (fun b o _ _ hc e _ => ⟨o.slots, k b o hc e⟩) (fun _ _ _ _ n => n)
    (fun b o hc e => ⟨o, k b o hc e⟩) (fun _ _ e => e) (fun _ _ _ e => e) (fun b ps e => ⟨#[], by rw [e]; simp⟩) (fun m hm => ?_) (fun b u e => ?_) I.bare
  · obtain ⟨g0, g1, g2, g3, g4, g5⟩ := hf b hb
    exact ⟨g3, g1, g4, g5⟩
  · obtain ⟨o, es, ep, ho, r⟩ := hm
    exact ⟨o, es, ep, k _ o (fun z => (hf _ z).2.1 rfl) ho, r⟩
  · refine (I.hok b u e).stay (fun c v hc q => k c v ?_ q) (fun _ q => q) fun _ _ q => q
    rcases hc with z | z
    · rw [z]; exact nit b u e
    · exact nit c _ z
theorem Inv.track {a : Addr} {o : HO} (I : Inv X pins σ H s) (f : FpOk X pins H a) (hs0 : X.s₀.heap.objs.size ≤ a) (new : ObjOk X.prog X.w (upd H a o) s.heap a o) : Inv X pins σ (upd H a o) s :=
  ⟨I.ok, I.os, I.bare, I.base.more hs0 f.1, I.loc, I.cell, by rw [upd_ne (Ne.symm f.2.1)]; exact I.free, fun x c e => by rw [upd_ne (f.2.2.2.2.1 x c e)]; exact I.freeC x c e,
    fun p hp => let ⟨e, n, r⟩ := I.pin p hp; ⟨e, by rw [upd_ne (f.2.2.2.2.2 p hp)]; exact n, r⟩, I.hok.track f.1 new, I.len⟩
end
noncomputable def Its (x : Str) : It := ⟨fun i _ => i < x.cps.size, fun i H v H' => H' = H ∧ ∃ c, x.cps[i]? = some c ∧ v = .str ⟨#[c]⟩, fun i _ => i = x.cps.size⟩
theorem strNames (x : Str) : ["enumerate", "zip", "dict_itemiterator", "dict_reverseitemiterator", "odict_iterator", "itertools.zip_longest", "itertools.pairwise"].contains (strIterType x) = false := by
  unfold strIterType
  split <;> decide
theorem walks_str {P : Program} {w : World} {A : Around} (hh : A.handled = none) (it : Addr) (x : Str) (t : Tok) : Walks P w A it [it] [it] x.cps.size (SignAt x) (fun i h => h.IsStrIter it (strIterType x) x t i) := by
  unfold strIterType
  cases ha : x.cps.all (· < 128)
  · exact Walks.strWide hh it x t
  · exact Walks.strAscii hh it x t
theorem draws_str {P : Program} {w : World} {A : Around} (hh : A.handled = none) (it : Addr) (x : Str) (t : Tok) : Draws P w A it [it] x.cps.size (fun i v => ∃ c u, x.cps[i]? = some c ∧ v = .str ⟨#[c]⟩ u) (fun i h => h.IsStrIter it (strIterType x) x t i) := by
  unfold strIterType
  cases ha : x.cps.all (· < 128)
  · exact Draws.strWide hh it x t
  · exact Draws.strAscii hh it x t
theorem turn_str {P : Program} {w : World} {K : PySem.W.Frag} {tg : Expr} (it : Addr) (x : Str) (t : Tok) : Turn P w K tg (Its x) [it] it (fun i h => h.IsStrIter it (strIterType x) x t i) where
  mem := by simp
  obj := fun i h st b hb => by
    have e : b = it := by simpa using hb
    subst e
    obtain ⟨o, e, c, d⟩ := st
    exact ⟨o, e, fun v z => by rw [d] at z; cases z⟩
  keep := fun i h h' st k => let ⟨o, e, r⟩ := st; ⟨o, k it (by simp) o e, r⟩
  item := by
    intro X hP hw hK hc i pins s σ H E I hf st hg
    subst hP hw hK
    refine (walks_str (I.ok.hd hc) it x t).item i s _ _ hg st fun v h' tk hv st' kk => ?_
    obtain ⟨c, u, hx, rfl⟩ := hv
    have I1 : Inv X pins σ H { s with heap := h', toks := tk } := I.turnedN (ch := [it]) kk hf
    obtain ⟨o, e, cl, d⟩ := id st'
    exact ⟨_, rfl, go_of (s := { s with heap := h', toks := tk }) e cl d (strNames x) ⟨.str ⟨#[c]⟩, H, I1, ⟨u, rfl⟩, ⟨rfl, c, hx, rfl⟩, st', fun b hb => (hf b hb).1⟩⟩
  done := by
    intro X hP hw hK hc i pins s σ H E I hf st hg
    subst hP hw hK
    have hg' : i = x.cps.size := hg
    subst hg'
    exact (walks_str (I.ok.hd hc) it x t).done s _ _ st fun h' tk kk => ⟨rfl, I.turnedN (ch := [it]) kk hf⟩
  self := fun A i s Q E st h => by
    unfold strIterType at st
    cases ha : x.cps.all (· < 128)
    · rw [ha] at st; exact wpAny_pyIter_striter_wide st h
    · rw [ha] at st; exact wpAny_pyIter_striter_ascii st h
noncomputable def Ites (x : Str) : It := ⟨fun i _ => i < x.cps.size, fun i H v H' => ∃ T c, H T = none ∧ x.cps[i]? = some c ∧ v = .ref T ∧ H' = upd H T (.tup [.int i, .str ⟨#[c]⟩]), fun i _ => i = x.cps.size⟩
noncomputable def Itel (K : PySem.W.Frag) (a : Addr) : It :=
  ⟨fun i H => ∃ xs x, SqL K H a xs ∧ xs[i]? = some x, fun i H v H' => ∃ T y, H T = none ∧ (∀ xs, SqL K H a xs → xs[i]? = some y) ∧ v = .ref T ∧ H' = upd H T (.tup [.int i, y]), fun i H => ∃ xs, SqL K H a xs ∧ xs.length ≤ i⟩
theorem enum_out {X : Cx} {pins : List (Addr × Obj)} {σ : St} {H : Hp} {s : Shared} {e it : Addr} {i tk : Nat} {x : Value} {h' h'' : Heap} {y : V} (I : Inv X pins σ H s) (hf : ∀ b ∈ [e, it], FpOk X pins H b) (he : e < s.heap.objs.size)
    (hT : h'.get? s.heap.objs.size = some { cls := .type "tuple", data := .seq #[.int i tk, x] }) (hk : ∀ b o, b ≠ e → b ≠ it → s.heap.get? b = some o → h'.get? b = some o) (hs : Heap.SameBut e h' h'') (ry : RelV y x) (t' : Nat) :
    Inv X pins σ (upd H s.heap.objs.size (.tup [.int i, y])) { s with heap := h'', toks := t' } := by
  have I1 : Inv X pins σ H { s with heap := h'', toks := t' } := I.turnedN (ch := [e, it]) (fun b o hb q => (hs.2 b fun z => hb (by simp [z])).trans (hk b o (fun z => hb (by simp [z])) (fun z => hb (by simp [z])) q)) hf
  have f := I.fpOk (Nat.le_refl _) (I.hok.fresh (Nat.le_refl _))
  refine I1.track f I.sz ⟨by show 2 ≤ sizeLine; decide, [.int i tk, x], .cons ⟨tk, rfl⟩ (.cons ry .nil), ?_⟩
  exact ⟨_, (hs.2 _ (Nat.ne_of_gt he)).trans hT, rfl, _, rfl⟩
theorem turn_enumS {P : Program} {w : World} {K : PySem.W.Frag} {elts : List Expr} {k : Nat} {pos : Pos} (e it : Addr) (hne : e ≠ it) (x : Str) (t : Tok) :
    Turn P w K (.Tuple elts k pos) (Ites x) [e, it] e (fun i h => (∃ old, IsEnum h e it i old) ∧ h.IsStrIter it (strIterType x) x t i) where
  mem := by simp
  obj := fun i h st b hb => by
    obtain ⟨⟨old, he⟩, o, ho, c, d⟩ := st
    rcases List.mem_cons.mp hb with z | z
    · rw [z]; exact ⟨_, he, fun v q => by cases q⟩
    · have z' : b = it := by simpa using z
      rw [z']; exact ⟨o, ho, fun v q => by rw [d] at q; cases q⟩
  keep := fun i h h' st k => by
    obtain ⟨⟨old, he⟩, o, ho, c, d⟩ := st
    exact ⟨⟨old, k e (by simp) _ he⟩, o, k it (by simp) o ho, c, d⟩
  item := by
    intro X hP hw hK hc i pins s σ H E I hf st hg
    subst hP hw hK
    obtain ⟨⟨old, he⟩, st⟩ := st
    refine wpAny_pyNext_enum_itemD (draws_str (show (X.A.in1).handled = none from I.ok.hd hc) it x t) he st hg hne (by simpa using hne) fun v h' tk hv ho st' hT hsz hk => ?_
    obtain ⟨c, u, hx, rfl⟩ := hv
    refine ⟨_, rfl, wpAny_letOwnedTupleGo_enum ho fun h'' he'' hs'' => ?_⟩
    refine ⟨.ref s.heap.objs.size, _, enum_out (y := .str ⟨#[c]⟩) I hf (Heap.lt_size he) hT hk hs'' ⟨u, rfl⟩ _, rfl, ⟨_, c, I.hok.fresh (Nat.le_refl _), hx, rfl, rfl⟩, ⟨⟨_, by simpa using he''⟩, ?_⟩, fun b hb => ?_⟩
    · obtain ⟨o, ho', r⟩ := st'
      exact ⟨o, (hs''.2 it (Ne.symm hne)).trans ho', r⟩
    · have hlt : b < s.heap.objs.size := by
        rcases List.mem_cons.mp hb with z | z
        · rw [z]; exact Heap.lt_size he
        · have z' : b = it := by simpa using z
          obtain ⟨o, ho', _⟩ := st
          rw [z']; exact Heap.lt_size ho'
      rw [upd_ne (Nat.ne_of_lt hlt)]
      exact (hf b hb).1
  done := by
    intro X hP hw hK hc i pins s σ H E I hf st hg
    subst hP hw hK
    have hg' : i = x.cps.size := hg
    subst hg'
    obtain ⟨⟨old, he⟩, st⟩ := st
    exact wpAny_pyNext_enum_endD (draws_str (show (X.A.in1).handled = none from I.ok.hd hc) it x t) he st fun h' kk => ⟨rfl, I.turnedN (t' := s.toks) (ch := [it]) (fun b o hb q => kk b o (fun z => hb (by simp [z])) q) fun b hb => hf b (List.mem_cons_of_mem _ hb)⟩
  self := fun A i s Q E st h => let ⟨⟨_, he⟩, _⟩ := st; wpAny_pyIter_enum he h
theorem turn_enumL {P : Program} {w : World} {K : PySem.W.Frag} {elts : List Expr} {k : Nat} {pos : Pos} (a e it : Addr) (hne : e ≠ it) :
    Turn P w K (.Tuple elts k pos) (Itel K a) [e, it] e (fun i h => (∃ old, IsEnum h e it i old) ∧ h.IsListIter it a i) where
  mem := by simp
  obj := fun i h st b hb => by
    obtain ⟨⟨old, he⟩, o, ho, c, d⟩ := st
    rcases List.mem_cons.mp hb with z | z
    · rw [z]; exact ⟨_, he, fun v q => by cases q⟩
    · have z' : b = it := by simpa using z
      rw [z']; exact ⟨o, ho, fun v q => by rw [d] at q; cases q⟩
  keep := fun i h h' st k => by
    obtain ⟨⟨old, he⟩, o, ho, c, d⟩ := st
    exact ⟨⟨old, k e (by simp) _ he⟩, o, k it (by simp) o ho, c, d⟩
  item := by
    intro X hP hw hK hc i pins s σ H E I hf st hg
    subst hP hw hK
    obtain ⟨⟨old, he⟩, st⟩ := st
    obtain ⟨xs, x, hq, hx⟩ := hg
    obtain ⟨its, rv, p, hz⟩ := I.list hq
    obtain ⟨u, hu, ru⟩ := rv.get hx
    refine wpAny_pyNext_enum_item he st p.isList (x := u) (by simpa using hu) hne fun h' ho st' hT hsz hk => ?_
    refine ⟨_, rfl, wpAny_letOwnedTupleGo_enum ho fun h'' he'' hs'' => ?_⟩
    refine ⟨.ref s.heap.objs.size, _, enum_out (y := x) I hf (Heap.lt_size he) hT hk hs'' ru _, rfl, ⟨_, x, I.hok.fresh (Nat.le_refl _), fun ys hy => by rw [I.list_inj hy hq]; exact hx, rfl, rfl⟩, ⟨⟨_, by simpa using he''⟩, ?_⟩, fun b hb => ?_⟩
    · exact st'.at fun o e' => (hs''.2 it (Ne.symm hne)).trans e'
    · have hlt : b < s.heap.objs.size := by
        rcases List.mem_cons.mp hb with z | z
        · rw [z]; exact Heap.lt_size he
        · have z' : b = it := by simpa using z
          obtain ⟨o, ho', _⟩ := st
          rw [z']; exact Heap.lt_size ho'
      rw [upd_ne (Nat.ne_of_lt hlt)]
      exact (hf b hb).1
  done := by
    intro X hP hw hK hc i pins s σ H E I hf st hg
    subst hP hw hK
    obtain ⟨⟨old, he⟩, st⟩ := st
    obtain ⟨xs, hq, hx⟩ := hg
    obtain ⟨its, rv, p, hz⟩ := I.list hq
    have hl := rv.length
    exact wpAny_pyNext_enum_end (I.ok.hd hc) he st p.isList (by simp; omega) fun h' kk => ⟨rfl, I.turnedN (t' := s.toks) (ch := [it]) (fun b o hb q => kk b o (fun z => hb (by simp [z])) q) fun b hb => hf b (List.mem_cons_of_mem _ hb)⟩
  self := fun A i s Q E st h => let ⟨⟨_, he⟩, _⟩ := st; wpAny_pyIter_enum he h
section
variable {X : Cx}
variable {elts : List Expr} {k : Nat} {tpos : Pos} {a : Expr} {ta : TA} {p pos : Pos}
end
end L2
namespace L2
open PySem PySem.Spec PyProof.Rows
noncomputable def cutS (x : Str) (lo hi : Option Int) : Str := ⟨((x.cps.toList.drop (HT.sIx x.length 0 lo)).take (HT.sIx x.length x.length hi - HT.sIx x.length 0 lo)).toArray⟩
theorem strIdx (lo hi : Option Int) (n : Nat) : Builtin.Str.strSliceIndices lo hi 1 n = (List.range (HT.sIx n n hi - HT.sIx n 0 lo)).map (HT.sIx n 0 lo + ·) := by
  have h : Builtin.Str.strSliceIndices lo hi 1 n = sliceRange (sliceBounds lo hi none n).1 (sliceBounds lo hi none n).2.1 1 := rfl
  obtain ⟨h1, h2, _⟩ := slice_bounds lo hi n
  rw [h, h1, h2, sliceRange_one]
theorem slice_cut (x : Str) (lo hi : Option Int) : Txt.slice x lo hi = cutS x lo hi := by
  have hx : x.length = x.cps.toList.length := by simp [Str.length]
  unfold Txt.slice
  rw [strIdx]
  split
  · rename_i hc
    have hl : ((List.range (HT.sIx x.length x.length hi - HT.sIx x.length 0 lo)).map (HT.sIx x.length 0 lo + ·)).length = x.length := by
      rw [Bool.and_eq_true] at hc
      exact eq_of_beq hc.2
    rw [List.length_map, List.length_range] at hl
    have h2 := HT.sIx_le x.length x.length (Nat.le_refl _) hi
    have e1 : HT.sIx x.length 0 lo = 0 ∨ x.length = 0 := by omega
    refine ext_toList ?_
    show x.cps.toList = ((x.cps.toList.drop (HT.sIx x.length 0 lo)).take _).toArray.toList
    rw [List.toList_toArray, hl]
    rcases e1 with e1 | e1
    · rw [e1, List.drop_zero, List.take_of_length_le (Nat.le_of_eq hx.symm)]
    · rw [e1, List.take_zero]
      rw [hx] at e1
      exact List.eq_nil_of_length_eq_zero e1
  · rw [pick_run]
    rfl
section
variable {X : Cx}
noncomputable def rSlS : V → Option Int → Option Int → Hp → VK → Prop := fun x lo hi H Q => ∃ z, x = .str z ∧ z.length ≤ sizeLine ∧ Q (.str (cutS z lo hi)) H
theorem isPart_value {v : Value} {o : Option Int} (p : IsPart v o) : ∃ q : Option (Int × Tok), v = partValue q ∧ q.map (·.1) = o := by
  cases p with
  | none => exact ⟨none, rfl, rfl⟩
  | int i t => exact ⟨some (i, t), rfl, rfl⟩
theorem sl_str : SlR X rSlS := by
  intro pins s σ H x v vl vu lo hi sl Q I rx hs pl pu h
  obtain ⟨z, rfl, hz, q⟩ := h
  obtain ⟨t, rfl⟩ := rx
  obtain ⟨ql, rfl, el⟩ := isPart_value pl
  obtain ⟨qu, rfl, eu⟩ := isPart_value pu
  refine ⟨"str", _, F.slot_str_getitem.lookup, typeIs_str _ _ _, ?_⟩
  obtain ⟨o, ho, hc, hd⟩ := hs
  refine wpAny_getItem_str_slice (l := ql) (u := qu) (st := none) ⟨o, ho, hc, hd⟩ rfl ?_
  have fin : ∀ t' k, EP X pins σ Q (.str (Txt.slice z lo hi) t') { s with toks := k } := fun t' k => ⟨.str (cutS z lo hi), H, I.tok _, ⟨t', by rw [slice_cut]⟩, q⟩
  have key : (sliceMade z t ql qu none).post (EP X pins σ Q) s := by
    unfold sliceMade slicePicked
    rw [el, eu]
    exact post_val_or_str ⟨Nat.le_trans (Txt.slice_le z lo hi) hz, fin⟩
  exact key
theorem ip_addS : PIp X .Add (fun x y H Q => ∃ i j, x = .str i ∧ y = .str j ∧ i.length + j.length ≤ sizeLine ∧ Q (.str (i ++ j)) H) := by
  intro pins s σ H x y v u Q I r1 r2 h
  obtain ⟨i, j, e1, e2, hz, q⟩ := h
  subst e1; subst e2
  obtain ⟨t, rfl⟩ := r1
  obtain ⟨t', rfl⟩ := r2
  exact PyProof.Rows.iadd_str (fun t'' tk => ⟨.str (i ++ j), H, I.tok _, ⟨_, rfl⟩, q⟩) hz
noncomputable def repS (x : Str) (n : Nat) : Str := ⟨(List.replicate n x.cps.toList).flatten.toArray⟩
theorem foldl_cps (xs : Array Nat) : ∀ (n : Nat) (acc : Array Nat), (List.replicate n xs).foldl (· ++ ·) acc = acc ++ (List.replicate n xs.toList).flatten.toArray
  | 0, acc => by simp
  | n + 1, acc => by
    rw [List.replicate_succ, List.foldl_cons, foldl_cps xs n, List.replicate_succ, List.flatten_cons]
    apply Array.toList_inj.mp
    simp
theorem repS_length (x : Str) (n : Nat) : (repS x n).length = n * x.length := by
  show (List.replicate n x.cps.toList).flatten.toArray.size = n * x.cps.size
  rw [List.size_toArray, len_rep]
  simp
theorem op_repS : OpR X (binaryOp .Mult) (fun x y H Q => ∃ z n, x = .str z ∧ y = .int n ∧ -(2 ^ 63) ≤ n ∧ n < 2 ^ 63 ∧ z.length * n.toNat ≤ sizeLine ∧ Q (.str (repS z n.toNat)) H) := by
  intro pins s σ H x y v u Q I rx ry h
  obtain ⟨z, n, rfl, rfl, h1, h2, hz, q⟩ := h
  obtain ⟨t, rfl⟩ := rx
  obtain ⟨t', rfl⟩ := ry
  have hs : sizeLine = 16777216 := sizeLine_eq
  have whole : ∀ t'' k, EP X pins σ Q (.str (repS z n.toNat) t'') { s with toks := k } := fun t'' k => ⟨.str _, H, I.tok _, ⟨t'', rfl⟩, q⟩
  refine PySem.P.mul_str ?_ (fun g1 g2 => ?_) (fun g1 g2 => ?_) ?_
  · rw [decide_eq_false (by omega), decide_eq_false (by omega)]; rfl
  · intro hgt
    have hn : 1 ≤ n := by omega
    have e : z.length * n.toNat ≤ 16777216 := by rw [← hs]; exact hz
    have e2 : (z.length : Int) * n ≤ 16777216 := by
      have : ((z.length * n.toNat : Nat) : Int) = (z.length : Int) * n := by rw [Int.natCast_mul, Int.toNat_of_nonneg (by omega)]
      omega
    have e3 : (z.length : Int) ≤ (2 ^ 63 - 1) / n := by
      rw [Int.le_ediv_iff_mul_le (by omega)]
      omega
    omega
  · show decide _ = false
    exact decide_eq_false (by rw [← hs] at *; omega)
  · by_cases g1 : n < 1
    · rw [if_pos g1]
      have e0 : n.toNat = 0 := by omega
      have w := whole s.toks (s.toks + 1)
      rw [e0] at w
      exact ⟨by decide, w⟩
    · rw [if_neg g1]
      by_cases g2 : (n == 1 || z.length == 0) = true
      · rw [if_pos g2]
        have e : repS z n.toNat = z := by
          refine ext_toList ?_
          show (List.replicate n.toNat z.cps.toList).flatten.toArray.toList = z.cps.toList
          rw [List.toList_toArray]
          rcases Bool.or_eq_true _ _ ▸ g2 with g | g
          · have : n = 1 := eq_of_beq g
            subst this
            simp
          · have : z.length = 0 := eq_of_beq g
            have hz0 : z.cps.toList = [] := List.eq_nil_of_length_eq_zero (by simpa [Str.length] using this)
            rw [hz0]
            simp
        have w := whole t s.toks
        rw [e] at w
        exact w
      · rw [if_neg g2]
        have e : (⟨(List.replicate n.toNat z.cps).foldl (· ++ ·) #[]⟩ : Str) = repS z n.toNat := by
          refine ext_toList ?_
          show ((List.replicate n.toNat z.cps).foldl (· ++ ·) #[]).toList = (List.replicate n.toNat z.cps.toList).flatten.toArray.toList
          rw [foldl_cps]
          simp
        have w := whole s.toks (s.toks + 1)
        rw [e]
        refine ⟨?_, w⟩
        show (repS z n.toNat).length ≤ sizeLine
        rw [repS_length, Nat.mul_comm]
        exact hz
end
end L2
namespace L2
open PySem PySem.Spec PyProof.Rows
mutual
inductive Lies (K : PySem.W.Frag) (H : Hp) : V → PyData → Prop
  | non : Lies K H .non .none
  | bl (b : Bool) : Lies K H (.bl b) (.bool b)
  | int (i : Int) : Lies K H (.int i) (.int i)
  | str (x : Str) (h : PyData.strOk x = true) : Lies K H (.str x) (.str x)
  | lst {a : Addr} {vs : List V} {ds : List PyData} : SqL K H a vs → LiesAll K H vs ds → Lies K H (.ref a) (.list ds)
  | tup {a : Addr} {vs : List V} {ds : List PyData} : SqT K H a vs → LiesAll K H vs ds → Lies K H (.ref a) (.tuple ds)
inductive LiesAll (K : PySem.W.Frag) (H : Hp) : List V → List PyData → Prop
  | nil : LiesAll K H [] []
  | cons {v : V} {vs : List V} {d : PyData} {ds : List PyData} : Lies K H v d → LiesAll K H vs ds → LiesAll K H (v :: vs) (d :: ds)
end
theorem Lies.lay {K : PySem.W.Frag} {H : Hp} {v : V} {d : PyData} (h : Lies K H v d) : d.canLay0 = true :=
  Lies.rec (motive_1 := fun _ d _ => d.canLay0 = true) (motive_2 := fun _ ds _ => PyData.canLayAll0 ds = true) rfl (fun _ => rfl) (fun _ => rfl) (fun _ h => by simpa [PyData.canLay0] using h)
    (fun _ _ ih => by simpa [PyData.canLay0] using ih) (fun _ _ ih => by simpa [PyData.canLay0] using ih) rfl (fun _ _ a b => by simp [PyData.canLayAll0, a, b]) h
section
variable {X : Cx} {pins : List (Addr × Obj)} {σ : St} {H : Hp} {s : Shared}
theorem Inv.reads (I : Inv X pins σ H s) {v : V} {d : PyData} {u : Value} (h : Lies X.K H v d) (r : RelV v u) : ∃ as, Reads s.heap u d as :=
  Lies.rec (motive_1 := fun v d _ => ∀ u, RelV v u → ∃ as, Reads s.heap u d as) (motive_2 := fun vs ds _ => ∀ us, Vals vs us → ∃ as, ReadsAll s.heap us ds as)
    (by intro u r; cases r; exact ⟨_, .none⟩) (by intro b u r; cases r; exact ⟨_, .bool b⟩) (by intro i u r; obtain ⟨t, rfl⟩ := r; exact ⟨_, .int i t⟩) (by intro x _ u r; obtain ⟨t, rfl⟩ := r; exact ⟨_, .str x t⟩)
    (by
      intro a xs ds h _ ih u r
      cases r
      obtain ⟨its, rv, ⟨o, n, e, c, _, d⟩, _⟩ := I.list h
      obtain ⟨as, ra⟩ := ih _ rv
      exact ⟨_, .list e c d (by simpa using ra)⟩)
    (by
      intro a xs ds h _ ih u r
      cases r
      obtain ⟨its, rv, ⟨o, e, c, n, d⟩, _⟩ := I.tuple h
      obtain ⟨as, ra⟩ := ih _ rv
      exact ⟨_, .tuple e c d (by simpa using ra)⟩)
    (by intro us r; cases r; exact ⟨_, .nil⟩)
    (by
      intro v vs d ds _ _ ih1 ih2 us r
      cases r with
      | cons r1 r2 =>
        obtain ⟨as, ra⟩ := ih1 _ r1
        obtain ⟨bs, rb⟩ := ih2 _ r2
        exact ⟨_, .cons ra rb⟩) h u r
end
section
variable {X : Cx}
theorem op_eqD (hu : X.A.units + 64 < cLine) : OpR X (compareOp .Eq) (fun x y H Q => ∃ da db, Lies X.K H x da ∧ Lies X.K H y db ∧ min da.depth db.depth ≤ 60 ∧ Q (.bl (PyData.eqv da db)) H) := by
  intro pins s σ H x y v u Q I rx ry h
  obtain ⟨da, db, ha, hb, hd, q⟩ := h
  obtain ⟨as, ra⟩ := I.reads ha rx
  obtain ⟨bs, rb⟩ := I.reads hb ry
  exact SeqAt.compareEq_reads ra rb ha.lay hb.lay (by omega) ⟨.bl _, H, I, rfl, q⟩
theorem op_neD (hu : X.A.units + 64 < cLine) : OpR X (compareOp .NotEq) (fun x y H Q => ∃ da db, Lies X.K H x da ∧ Lies X.K H y db ∧ min da.depth db.depth ≤ 60 ∧ Q (.bl (!PyData.eqv da db)) H) := by
  intro pins s σ H x y v u Q I rx ry h
  obtain ⟨da, db, ha, hb, hd, q⟩ := h
  obtain ⟨as, ra⟩ := I.reads ha rx
  obtain ⟨bs, rb⟩ := I.reads hb ry
  exact SeqAt.compareNe_reads ra rb ha.lay hb.lay (by omega) ⟨.bl _, H, I, rfl, q⟩
end
mutual
theorem eqv_self : ∀ d : PyData, d.canLay0 = true → PyData.eqv d d = true
  | .none, _ => rfl
  | .bool b, _ => by simp [PyData.eqv]
  | .int i, _ => by simp [PyData.eqv]
  | .str x, _ => by simp [PyData.eqv]
  | .list xs, h => by simp only [PyData.eqv]; exact eqvAll_self xs (by simpa [PyData.canLay0] using h)
  | .tuple xs, h => by simp only [PyData.eqv]; exact eqvAll_self xs (by simpa [PyData.canLay0] using h)
  | .dict _, h => by simp [PyData.canLay0] at h
theorem eqvAll_self : ∀ ds : List PyData, PyData.canLayAll0 ds = true → PyData.eqvAll ds ds = true
  | [], _ => rfl
  | d :: r, h => by
    have h' : d.canLay0 = true ∧ PyData.canLayAll0 r = true := by simpa [PyData.canLayAll0] using h
    simp only [PyData.eqvAll, eqv_self d h'.1, eqvAll_self r h'.2, Bool.and_self]
end
section
variable {X : Cx}
end
end L2
namespace L2
open PySem PySem.Spec PyProof.Rows
section
variable {X : Cx}
noncomputable def rAddS : R2 := fun x y H Q => ∃ i j, x = .str i ∧ y = .str j ∧ i.length + j.length ≤ sizeLine ∧ Q (.str (i ++ j)) H
noncomputable def rEqD (K : PySem.W.Frag) : R2 := fun x y H Q => ∃ da db, Lies K H x da ∧ Lies K H y db ∧ min da.depth db.depth ≤ 60 ∧ Q (.bl (PyData.eqv da db)) H
noncomputable def rNeD (K : PySem.W.Frag) : R2 := fun x y H Q => ∃ da db, Lies K H x da ∧ Lies K H y db ∧ min da.depth db.depth ≤ 60 ∧ Q (.bl (!PyData.eqv da db)) H
noncomputable def rEqU (K : PySem.W.Frag) : R2 := fun x y H Q => rEq x y H Q ∨ rEqD K x y H Q
noncomputable def rNeU (K : PySem.W.Frag) : R2 := fun x y H Q => rNe x y H Q ∨ rNeD K x y H Q
theorem op_eqU (hu : X.A.units + 64 < cLine) : OpR X (compareOp .Eq) (rEqU X.K) := op_eq.or (op_eqD hu)
theorem op_neU (hu : X.A.units + 64 < cLine) : OpR X (compareOp .NotEq) (rNeU X.K) := op_ne.or (op_neD hu)
noncomputable def rLenU (K : PySem.W.Frag) : List V → Hp → VK → Prop := fun xs H Q => ∃ x n, xs = [x] ∧ LenV K x H n ∧ Q (.int n) H
theorem call_lenU : CallR X (.builtin "len") (rLenU X.K) := call_len
end
structure Cal (P : Program) (w : World) (K : PySem.W.Frag) (mg : Str → Option Value) (base : Heap) (k : Nat) (x : Str) (ps : List Str) (sp : Sp) : Prop where
  ex : ∃ (f : Addr) (fd : FuncData), FnOk P w K mg base CX0 k f fd ps sp ∧ mg x = some (.ref f) ∧ PySem.W.keepIn K (.ref f) = true ∧ Binds K fd ps []
theorem Cal.mono {P : Program} {w : World} {K : PySem.W.Frag} {mg : Str → Option Value} {base : Heap} {j k : Nat} {x : Str} {ps : List Str} {sp : Sp} (C : Cal P w K mg base j x ps sp) (h : j ≤ k) : Cal P w K mg base k x ps sp :=
  let ⟨f, fd, F, r⟩ := C.ex
  ⟨f, fd, F.mono h, r⟩
structure FunM (K : PySem.W.Frag) (mg : Str → Option Value) (x : Str) (st : Stmt) : Prop where
  ex : ∃ (f : Addr) (fd : FuncData), Fun K x x st f fd ∧ mg x = some (.ref f)
section
variable {X : Cx} {k : Nat} {x : Str} {ps : List Str} {sp : Sp} {e : Expr} {es : List Expr} {t : TA} {p pos : Pos}
theorem pe_callC (C : Cal X.prog X.w X.K X.mg X.base k x ps sp) (hr : Room k X.A) (hg : Gl X x) (ha : PA X (e :: es) t) (hdb : (x == ("__debug__" : Str)) = false := by decide)
    (he : starEach (e :: es) X.env = (false, eval e X.env) :: starEach es X.env := by rfl) (hpl : (backTo pos (starEach es X.env)).any (·.1) = false := by rfl) : PE X (.Call (.Name x p) (e :: es) [] pos) (tCall sp [] E0 t) := by
  obtain ⟨f, fd, F, hm, hk, hb⟩ := C.ex
  exact pe_call F hr hg hm hk hb .nil pass0 ha hdb he hpl
theorem pe_callC0 (C : Cal X.prog X.w X.K X.mg X.base k x ps sp) (hr : Room k X.A) (hg : Gl X x) (hdb : (x == ("__debug__" : Str)) = false := by decide) : PE X (.Call (.Name x p) [] [] pos) (tCall sp [] E0 tNil) := by
  obtain ⟨f, fd, F, hm, hk, hb⟩ := C.ex
  exact pe_call0 F hr hg hm hk hb .nil pass0 hdb
end
end L2
namespace L2
open PySem PySem.Spec PyProof.Rows
section
variable {X : Cx} {tg : Expr}
noncomputable def iSeq (K : PySem.W.Frag) (tl : TE) : TI := fun σ H R => tl σ H fun x H1 =>
  (∃ a, x = .ref a ∧ (∃ xs, SqL K H1 a xs) ∧ R (Itl K a) H1) ∨ (∃ a, x = .ref a ∧ (∃ xs, SqT K H1 a xs) ∧ R (Itt K a) H1) ∨ ∃ z, x = .str z ∧ R (Its z) H1
theorem pi_seq {l : Expr} {tl : TE} (hl : PE X l tl) : PI X tg l (iSeq X.K tl) := by
  intro pins s σ H R I h
  refine thn (hl pins s σ H _ I h) fun v s1 z9 => ?_
  obtain ⟨x, H1, I1, r1, q1⟩ := z9
  have one : ∀ b ∈ [s1.heap.objs.size], FpOk X pins H1 b := fun b hb => by
    have e : b = s1.heap.objs.size := by simpa using hb
    subst e
    exact I1.fpOk (Nat.le_refl _) (I1.hok.fresh (Nat.le_refl _))
  rcases q1 with ⟨a, e, ⟨xs, hq⟩, q⟩ | ⟨a, e, ⟨xs, hq⟩, q⟩ | ⟨z, e, q⟩
  · subst e; cases r1
    obtain ⟨its, rv, p, hz⟩ := I1.list hq
    exact wpAny_pyIter_list p.isList ⟨s1.heap.objs.size, [s1.heap.objs.size], _, _, H1, rfl, I1.kept (t' := s1.toks) fun b o e => Heap.get?_push_of_some _ e, turn_list a _, ⟨_, Heap.get?_push_size _ rfl, rfl, rfl⟩, one, q⟩
  · subst e; cases r1
    obtain ⟨its, rv, p, hz⟩ := I1.tuple hq
    exact wpAny_pyIter_tuple (show s1.heap.IsTuple a its.toArray from p) ⟨s1.heap.objs.size, [s1.heap.objs.size], _, _, H1, rfl, I1.kept (t' := s1.toks) fun b o e => Heap.get?_push_of_some _ e, turn_tuple a _, ⟨_, Heap.get?_push_size _ rfl, rfl, rfl⟩, one, q⟩
  · subst e
    obtain ⟨t, rfl⟩ := r1
    exact wpAny_pyIter_strU ⟨s1.heap.objs.size, [s1.heap.objs.size], _, _, H1, rfl, I1.kept (t' := s1.toks) fun b o e => Heap.get?_push_of_some _ e, turn_str _ z t, ⟨_, Heap.get?_push_size _ rfl, rfl, rfl⟩, one, q⟩
theorem ip_addU : PIp X .Add (fun x y H Q => ipI (fun i j => i + j) x y H Q ∨ rAddS x y H Q) := by
  intro pins s σ H x y v u Q I r1 r2 h
  rcases h with h | h
  · exact ip_add pins s σ H x y v u Q I r1 r2 h
  · exact ip_addS pins s σ H x y v u Q I r1 r2 h
end
section
variable {K : PySem.W.Frag} {g : TG} {tb : TS} {D : Ends} {σ : St} {H : Hp}
end
section
variable {K : PySem.W.Frag} {g : TG} {tc : TT} {te : TE} {Q : VK} {σ : St} {H : Hp}
end
end L2
namespace L2
open PySem PySem.Spec PyProof.Rows
section
variable {K : PySem.W.Frag} {σ : St} {H : Hp} {Q : VK} {D : Ends} {X : Cx}
end
end L2
namespace L2
open PySem PySem.Spec PyProof.Rows
section
variable {X : Cx} {k : Nat} {x m : Str} {C : Addr} {ps : List Str} {sp : Sp} {o e : Expr} {es : List Expr} {ta : TE} {t : TA} {p pos apos : Pos}
end
end L2
namespace L2
open PySem PySem.Spec PyProof.Rows
section
variable {K : PySem.W.Frag} {σ : St} {H : Hp} {Q : VK}
theorem kp {H : Hp} {a p : Addr} {o u : HO} (h : H a = some o) (hp : H p = none) : upd H p u a = some o := by rw [upd_ne (ne_of_none h hp)]; exact h
theorem same_new {H : Hp} {p : Addr} (h : H p = none) (o : HO) : Same H (upd H p o) := fun b u q => kp q h
end
theorem atI_of {α : Type} {xs : List α} {i : Int} {v : α} (h0 : 0 ≤ i) (h : xs[i.toNat]? = some v) : atI xs i = some v := by
  have q := atI_nat h
  have e : ((i.toNat : Nat) : Int) = i := by omega
  rw [e] at q
  exact q
theorem atI_map {α : Type} {g : Int → α} (ns : List Int) (i : Int) (h0 : 0 ≤ i) (h1 : i < ns.length) : atI (ns.map g) i = some (g (ns.getD i.toNat 0)) := by
  have hlt : i.toNat < ns.length := by omega
  refine atI_of h0 ?_
  rw [List.getElem?_map, List.getD_eq_getElem?_getD, List.getElem?_eq_getElem hlt]
  rfl
end L2
namespace L2
open PySem PySem.Spec PyProof.Rows
section
variable {X : Cx} (K : PySem.W.Frag)
variable {tg e o l : Expr} {es : List Expr} {te ta to tl : TE} {t : TA} {pos apos cpos p : Pos} {f name : Str} {T id : String} {r : V → List V → Hp → VK → Prop}
end
section
variable {K : PySem.W.Frag} {σ : St} {H : Hp} {Q : VK}
end
section
variable {σ : St} {H : Hp}
variable {K : PySem.W.Frag}
end
end L2
namespace L2
open PySem PySem.Spec PyProof.Rows
section
variable {K : PySem.W.Frag} {σ : St} {H : Hp} {Q : VK}
end
end L2
namespace L2
open PySem PySem.Spec PyProof.Rows
mutual
noncomputable def noL : PyData → Bool
  | .list _ => false
  | .tuple xs => noLs xs
  | .dict _ => false
  | _ => true
noncomputable def noLs : List PyData → Bool
  | [] => true
  | d :: r => noL d && noLs r
end
end L2
namespace L2
open PySem PySem.Spec PyProof.Rows
section
variable {K : PySem.W.Frag} {σ : St} {H : Hp} {Q : VK}
end
end L2
namespace L3
open PySem PySem.Spec PyProof.Rows L2
noncomputable abbrev Frag := PySem.W.Frag
noncomputable abbrev St := L2.St
inductive U where
  | non | bl (b : Bool) | int (i : Int) | str (x : Str) | tup (xs : List U) | fl (xs : List U) | ref (a : Addr) | ty (n : String)
noncomputable def FrL (K : Frag) (H : Hp) (a : Addr) (xs : List V) : Prop :=
  (∃ o, H a = some (.frz o (.lst xs))) ∨
    ∃ (o : Obj) (its : Array Value) (n : Nat), K.lookup a = some o ∧ o.cls = .type "list" ∧ o.dict = none ∧ o.data = .seq its n ∧ its.size ≤ sizeLine ∧ Vals xs its.toList
theorem FrL.sq {K : Frag} {H : Hp} {a : Addr} {xs : List V} (h : FrL K H a xs) : SqL K H a xs := h.elim (fun ⟨o, e⟩ => .inl (.inr ⟨o, e⟩)) .inr
mutual
inductive Rep (K : Frag) (H : Hp) : U → V → Prop
  | non : Rep K H .non .non
  | bl (b : Bool) : Rep K H (.bl b) (.bl b)
  | int (i : Int) : Rep K H (.int i) (.int i)
  | str (x : Str) : Rep K H (.str x) (.str x)
  | ref (a : Addr) : Rep K H (.ref a) (.ref a)
  | ty (n : String) : Rep K H (.ty n) (.ty n)
  | tup {a : Addr} {xs : List U} {ys : List V} : SqT K H a ys → RepAll K H xs ys → Rep K H (.tup xs) (.ref a)
  | fl {a : Addr} {xs : List U} {ys : List V} : FrL K H a ys → RepAll K H xs ys → Rep K H (.fl xs) (.ref a)
inductive RepAll (K : Frag) (H : Hp) : List U → List V → Prop
  | nil : RepAll K H [] []
  | cons {u : U} {us : List U} {v : V} {vs : List V} : Rep K H u v → RepAll K H us vs → RepAll K H (u :: us) (v :: vs)
end
structure TK (K : Frag) (H H' : Hp) : Prop where
  t : ∀ a xs, SqT K H a xs → SqT K H' a xs
  f : ∀ a xs, FrL K H a xs → FrL K H' a xs
section
variable {K : Frag} {H H' H1 H2 : Hp} {a p : Addr} {u : U} {v : V} {us : List U} {vs : List V}
theorem TK.refl : TK K H H := ⟨fun _ _ h => h, fun _ _ h => h⟩
theorem TK.trans (x : TK K H H1) (y : TK K H1 H2) : TK K H H2 := ⟨fun a xs h => y.t a xs (x.t a xs h), fun a xs h => y.f a xs (x.f a xs h)⟩
theorem TK.of (h : ∀ b o, (∃ xs, o = .tup xs) ∨ (∃ ob u, o = .frz ob u) → H b = some o → H' b = some o) : TK K H H' := by
  refine ⟨fun b xs q => ?_, fun b xs q => ?_⟩
  · rcases q with (q | ⟨o, q⟩) | q
    · exact .inl (.inl (h _ _ (.inl ⟨xs, rfl⟩) q))
    · exact .inl (.inr ⟨o, h _ _ (.inr ⟨o, _, rfl⟩) q⟩)
    · exact .inr q
  · rcases q with ⟨o, q⟩ | q
    · exact .inl ⟨o, h _ _ (.inr ⟨o, _, rfl⟩) q⟩
    · exact .inr q
theorem TK.same (e : Same H H') : TK K H H' := TK.of fun b o _ q => e b o q
theorem TK.new {o : HO} (h : H p = none) : TK K H (upd H p o) := TK.same (same_new h o)
theorem TK.write {o o' : HO} (h : H a = some o) (n1 : ∀ xs, o ≠ .tup xs) (n2 : ∀ ob u, o ≠ .frz ob u) : TK K H (upd H a o') := TK.of fun b ob c q => by
  by_cases e : b = a
  · subst e
    rw [h] at q; cases q
    rcases c with ⟨xs, rfl⟩ | ⟨x, y, rfl⟩
    · exact absurd rfl (n1 xs)
    · exact absurd rfl (n2 x y)
  · rw [upd_ne e]; exact q
theorem Rep.up (k : TK K H H') {u : U} {v : V} (r : Rep K H u v) : Rep K H' u v :=
  Rep.rec (motive_1 := fun u v _ => Rep K H' u v) (motive_2 := fun us vs _ => RepAll K H' us vs) .non .bl .int .str .ref .ty (fun h _ ih => .tup (k.t _ _ h) ih) (fun h _ ih => .fl (k.f _ _ h) ih) .nil (fun _ _ a b => .cons a b) r
theorem RepAll.ind {motive : List U → List V → Prop} (h0 : motive [] []) (h1 : ∀ {u : U} {us : List U} {v : V} {vs : List V}, Rep K H u v → RepAll K H us vs → motive us vs → motive (u :: us) (v :: vs)) {us : List U} {vs : List V} (r : RepAll K H us vs) : motive us vs :=
  RepAll.rec (motive_1 := fun _ _ _ => True) (motive_2 := fun us vs _ => motive us vs) trivial (fun _ => trivial) (fun _ => trivial) (fun _ => trivial) (fun _ => trivial) (fun _ => trivial) (fun _ _ _ => trivial) (fun _ _ _ => trivial) h0 (fun a b _ c => h1 a b c) r
theorem RepAll.up (k : TK K H H') {us : List U} {vs : List V} (r : RepAll K H us vs) : RepAll K H' us vs := RepAll.ind (motive := fun us vs => RepAll K H' us vs) .nil (fun a _ b => .cons (a.up k) b) r
theorem RepAll.len {us : List U} {vs : List V} (r : RepAll K H us vs) : us.length = vs.length := RepAll.ind (motive := fun us vs => us.length = vs.length) rfl (fun _ _ b => congrArg (· + 1) b) r
theorem RepAll.get : ∀ {us : List U} {vs : List V} {i : Nat} {u : U}, RepAll K H us vs → us[i]? = some u → ∃ v, vs[i]? = some v ∧ Rep K H u v
  | _, _, _, _, .nil, e => by simp at e
  | _, _, 0, _, .cons r _, e => by simp at e; subst e; exact ⟨_, rfl, r⟩
  | _, _, i + 1, u, .cons _ t, e => by
    obtain ⟨v, h1, h2⟩ := RepAll.get (i := i) (u := u) t (by simpa using e)
    exact ⟨v, by simpa using h1, h2⟩
theorem RepAll.app {us ws : List U} {vs zs : List V} (r : RepAll K H us vs) (q : RepAll K H ws zs) : RepAll K H (us ++ ws) (vs ++ zs) := RepAll.ind (motive := fun us vs => RepAll K H (us ++ ws) (vs ++ zs)) q (fun a _ b => .cons a b) r
theorem RepAll.set {u : U} {v : V} (r : Rep K H u v) : ∀ {us : List U} {vs : List V} (i : Nat), RepAll K H us vs → RepAll K H (us.set i u) (vs.set i v)
  | _, _, _, .nil => .nil
  | _, _, 0, .cons _ t => .cons r t
  | _, _, i + 1, .cons q t => .cons q (RepAll.set r i t)
theorem RepAll.take : ∀ {us : List U} {vs : List V} (n : Nat), RepAll K H us vs → RepAll K H (us.take n) (vs.take n)
  | _, _, 0, _ => by simpa using RepAll.nil
  | _, _, _ + 1, .nil => .nil
  | _, _, n + 1, .cons r t => .cons r (RepAll.take n t)
theorem RepAll.drop : ∀ {us : List U} {vs : List V} (n : Nat), RepAll K H us vs → RepAll K H (us.drop n) (vs.drop n)
  | _, _, 0, r => r
  | _, _, _ + 1, .nil => .nil
  | _, _, n + 1, .cons _ t => RepAll.drop n t
theorem RepAll.atI {us : List U} {vs : List V} {i : Int} {u : U} (r : RepAll K H us vs) (h : atI us i = some u) : ∃ v, L2.atI vs i = some v ∧ Rep K H u v := by
  unfold L2.atI at h ⊢
  rw [← r.len]
  cases e : ixN us.length i with
  | none => rw [e] at h; cases h
  | some j => rw [e] at h; exact r.get h
theorem RepAll.ints : ∀ ns : List Int, RepAll K H (ns.map U.int) (ns.map V.int)
  | [] => .nil
  | n :: r => .cons (.int n) (RepAll.ints r)
theorem RepAll.strs : ∀ ns : List Str, RepAll K H (ns.map U.str) (ns.map V.str)
  | [] => .nil
  | n :: r => .cons (.str n) (RepAll.strs r)
end
noncomputable abbrev St2 := List (Option U)
@[reducible] noncomputable def gV : St2 → Nat → Option U
  | [], _ => none
  | o :: _, 0 => o
  | _ :: r, n + 1 => gV r n
@[reducible] noncomputable def sV : St2 → Nat → U → St2
  | [], _, _ => []
  | _ :: r, 0, u => some u :: r
  | o :: r, n + 1, u => o :: sV r n u
@[reducible] noncomputable def nones : Nat → St2
  | 0 => []
  | n + 1 => none :: nones n
@[reducible] noncomputable def start2 : List Str → List U → St2
  | [], us => us.map some
  | _ :: r, [] => none :: start2 r []
  | _ :: r, u :: us => some u :: start2 r us
@[reducible] noncomputable def blk2 : List (Option Nat) → St2 → St2
  | [], _ => []
  | none :: r, σ => none :: blk2 r σ
  | some j :: r, σ => gV σ j :: blk2 r σ
noncomputable def RepO1 (K : Frag) (H : Hp) : Option U → Option V → Prop
  | none, _ => True
  | some u, some v => Rep K H u v
  | some _, none => False
inductive RepS (K : Frag) (H : Hp) : St2 → St → Prop
  | nil : RepS K H [] []
  | cons {o : Option U} {r : St2} {p : Option V} {s : St} : RepO1 K H o p → RepS K H r s → RepS K H (o :: r) (p :: s)
section
variable {K : Frag} {H H' : Hp} {u : U} {v : V}
theorem RepS.up (k : TK K H H') {σ2 : St2} {σ : St} (r : RepS K H σ2 σ) : RepS K H' σ2 σ := by
  induction r with
  | nil => exact .nil
  | @cons o r p s h t ih =>
    refine .cons ?_ ih
    cases o with
    | none => exact trivial
    | some u =>
      cases p with
      | none => exact h
      | some v => exact Rep.up k h
theorem RepS.get : ∀ {σ2 : St2} {σ : St} {i : Nat}, RepS K H σ2 σ → gV σ2 i = some u → ∃ v, σ[i]? = some (some v) ∧ Rep K H u v
  | _, _, _, .nil, e => by cases e
  | _, _, 0, .cons (o := o) (p := p) h _, e => by
    have e' : o = some u := e
    subst e'
    cases p with
    | none => exact h.elim
    | some v => exact ⟨v, rfl, h⟩
  | _, _, i + 1, .cons _ t, e => by
    obtain ⟨v, h1, h2⟩ := RepS.get (i := i) t e
    exact ⟨v, by simpa using h1, h2⟩
theorem RepS.opt : ∀ {σ2 : St2} {σ : St} (i : Nat), RepS K H σ2 σ → RepO1 K H (gV σ2 i) ((σ[i]?).getD none)
  | _, _, _, .nil => by simp [gV, RepO1]
  | _, _, 0, .cons (o := o) (p := p) h _ => h
  | _, _, i + 1, .cons _ t => by simpa [gV] using RepS.opt i t
theorem RepS.set (r : Rep K H u v) : ∀ {σ2 : St2} {σ : St} (i : Nat), RepS K H σ2 σ → RepS K H (sV σ2 i u) (σ.set i (some v))
  | _, _, _, .nil => .nil
  | _, _, 0, .cons _ t => .cons r t
  | _, _, i + 1, .cons h t => .cons h (RepS.set r i t)
theorem RepS.nnn : ∀ n : Nat, RepS K H (nones n) (List.replicate n none)
  | 0 => .nil
  | n + 1 => .cons trivial (RepS.nnn n)
theorem RepS.somes {us : List U} {vs : List V} (r : RepAll K H us vs) : RepS K H (us.map some) (vs.map some) := RepAll.ind (motive := fun us vs => RepS K H (us.map some) (vs.map some)) .nil (fun h _ t => .cons h t) r
theorem RepS.strt : ∀ {us : List U} {vs : List V} (N : List Str), RepAll K H us vs → RepS K H (start2 N us) (vs.map some ++ List.replicate (N.length - vs.length) none)
  | _, _, [], r => by simpa [start2] using RepS.somes r
  | _, _, _ :: N, .nil => by
    have q := RepS.strt (us := []) (vs := []) N .nil
    simp only [List.map_nil, List.nil_append, List.length_nil, Nat.sub_zero, List.length_cons, List.replicate_succ] at q ⊢
    exact .cons trivial q
  | _, _, _ :: N, .cons (v := v) (vs := vs) h t => by
    have q := RepS.strt N t
    simp only [List.length_cons, Nat.add_sub_add_right, List.map_cons, List.cons_append]
    exact .cons h q
theorem RepS.blk : ∀ (ix : List (Option Nat)) {σ2 : St2} {σ : St}, RepS K H σ2 σ → RepS K H (blk2 ix σ2) (blkStart ix σ)
  | [], _, _, _ => .nil
  | none :: r, _, _, h => .cons trivial (RepS.blk r h)
  | some j :: r, _, _, h => .cons (h.opt j) (RepS.blk r h)
end
inductive O where
  | lst (xs : List U) | ins (C : Addr) (fs : List (Str × U)) | dct (kvs : List (Key × U))
    | fdc (ob : Obj) (kvs : List (Key × U))
noncomputable abbrev Mem := Addr → Option O
noncomputable def put (M : Mem) (a : Addr) (o : O) : Mem := fun b => if b = a then some o else M b
theorem put_same {M : Mem} {a : Addr} {o : O} : put M a o a = some o := by unfold put; rw [if_pos rfl]
theorem put_ne {M : Mem} {a b : Addr} {o : O} (h : b ≠ a) : put M a o b = M b := by unfold put; rw [if_neg h]
theorem put_put {M : Mem} {a : Addr} {o u : O} : put (put M a o) a u = put M a u := by funext b; unfold put; split <;> rfl
noncomputable def Le (M M' : Mem) : Prop := ∀ a o, M a = some o → M' a = some o
theorem Le.refl (M : Mem) : Le M M := fun _ _ h => h
theorem Le.trans {M M1 M2 : Mem} (x : Le M M1) (y : Le M1 M2) : Le M M2 := fun a o h => y a o (x a o h)
theorem mne {M : Mem} {a p : Addr} {o : O} (h : M a = some o) (n : M p = none) : a ≠ p := fun e => by subst e; rw [h] at n; cases n
theorem Le.new {M : Mem} {p : Addr} {o : O} (h : M p = none) : Le M (put M p o) := fun a u q => by rw [put_ne (mne q h)]; exact q
theorem kpM {M : Mem} {a p : Addr} {o u : O} (h : M a = some o) (n : M p = none) : put M p u a = some o := by rw [put_ne (mne h n)]; exact h
theorem Le.free {M M' : Mem} (e : Le M M') {p : Addr} (h : M' p = none) : M p = none := by
  cases q : M p with
  | none => rfl
  | some o => rw [e p o q] at h; cases h
inductive Pr {α β : Type} (R : α → β → Prop) : List (Str × α) → List (Str × β) → Prop
  | nil : Pr R [] []
  | cons {f : Str} {a : α} {b : β} {x : List (Str × α)} {y : List (Str × β)} : R a b → Pr R x y → Pr R ((f, a) :: x) ((f, b) :: y)
inductive PrK {α β : Type} (R : α → β → Prop) : List (Key × α) → List (Key × β) → Prop
  | nil : PrK R [] []
  | cons {f : Key} {a : α} {b : β} {x : List (Key × α)} {y : List (Key × β)} : R a b → PrK R x y → PrK R ((f, a) :: x) ((f, b) :: y)
theorem Pr.mono {α β : Type} {R S : α → β → Prop} (h : ∀ a b, R a b → S a b) {x : List (Str × α)} {y : List (Str × β)} (p : Pr R x y) : Pr S x y := by
  induction p with
  | nil => exact .nil
  | cons r _ ih => exact .cons (h _ _ r) ih
theorem PrK.mono {α β : Type} {R S : α → β → Prop} (h : ∀ a b, R a b → S a b) {x : List (Key × α)} {y : List (Key × β)} (p : PrK R x y) : PrK S x y := by
  induction p with
  | nil => exact .nil
  | cons r _ ih => exact .cons (h _ _ r) ih
theorem Pr.look {α β : Type} {R : α → β → Prop} (f : Str) {x : List (Str × α)} {y : List (Str × β)} (p : Pr R x y) :
    (x.lookup f = none ∧ y.lookup f = none) ∨ ∃ a b, x.lookup f = some a ∧ y.lookup f = some b ∧ R a b := by
  induction p with
  | nil => exact .inl ⟨rfl, rfl⟩
  | @cons g a b _ _ r _ ih =>
    rw [List.lookup_cons, List.lookup_cons]
    cases e : f == g with
    | true => exact .inr ⟨a, b, rfl, rfl, r⟩
    | false => exact ih
noncomputable def RepO (K : Frag) (H : Hp) (a : Addr) : O → Prop
  | .lst xs => ∃ ys, H a = some (.lst ys) ∧ RepAll K H xs ys
  | .ins C fs => ∃ dx gs, H a = some (.ins C dx gs) ∧ Pr (Rep K H) fs gs
  | .dct kvs => ∃ gs, H a = some (.dK gs) ∧ PrK (Rep K H) kvs gs
  | .fdc ob kvs => ∃ gs, H a = some (.frz ob (.dK gs)) ∧ PrK (Rep K H) kvs gs
noncomputable def RepM (K : Frag) (H : Hp) (M : Mem) : Prop := ∀ a o, M a = some o → RepO K H a o
section
variable {K : Frag} {H H' : Hp} {M M' : Mem} {a p : Addr} {o : O}
theorem RepO.at_ {b : Addr} (e : H' b = H b) (k : TK K H H') (r : RepO K H b o) : RepO K H' b o := by
  cases o with
  | lst xs => obtain ⟨ys, h, r⟩ := r; exact ⟨ys, by rw [e]; exact h, r.up k⟩
  | ins C fs => obtain ⟨dx, gs, h, r⟩ := r; exact ⟨dx, gs, by rw [e]; exact h, r.mono fun _ _ q => q.up k⟩
  | dct kvs => obtain ⟨gs, h, r⟩ := r; exact ⟨gs, by rw [e]; exact h, r.mono fun _ _ q => q.up k⟩
  | fdc ob kvs => obtain ⟨gs, h, r⟩ := r; exact ⟨gs, by rw [e]; exact h, r.mono fun _ _ q => q.up k⟩
theorem RepO.some_ (r : RepO K H a o) : ∃ u, H a = some u := by
  cases o with
  | lst xs => obtain ⟨ys, h, _⟩ := r; exact ⟨_, h⟩
  | ins C fs => obtain ⟨dx, gs, h, _⟩ := r; exact ⟨_, h⟩
  | dct kvs => obtain ⟨gs, h, _⟩ := r; exact ⟨_, h⟩
  | fdc ob kvs => obtain ⟨gs, h, _⟩ := r; exact ⟨_, h⟩
theorem RepM.free (r : RepM K H M) (h : H p = none) : M p = none := by
  cases q : M p with
  | none => rfl
  | some o => obtain ⟨u, e⟩ := (r p o q).some_; rw [h] at e; cases e
theorem RepM.le (r : RepM K H M') (l : Le M M') : RepM K H M := fun a o h => r a o (l a o h)
theorem RepM.same (r : RepM K H M) (e : Same H H') : RepM K H' M := fun b o h => by
  obtain ⟨u, q⟩ := (r b o h).some_
  exact (r b o h).at_ (by rw [q]; exact e b u q) (TK.same e)
theorem RepM.write {ho : HO} (r : RepM K H M) (k : TK K H (upd H a ho)) (n : RepO K (upd H a ho) a o) : RepM K (upd H a ho) (put M a o) := fun b u q => by
  by_cases e : b = a
  · subst e; rw [put_same] at q; cases q; exact n
  · rw [put_ne e] at q
    exact (r b u q).at_ (upd_ne e) k
end
end L3
set_option maxHeartbeats 1000000
namespace L3
open PySem PySem.Spec PyProof.Rows L2
section
variable {K : Frag} {H : Hp} {u w : U} {v : V} {vs : List V} {a : Addr} {xs : List U}
theorem RepAll.one (r : RepAll K H [u] vs) : ∃ v, vs = [v] ∧ Rep K H u v := by
  cases r with
  | cons a b => cases b; exact ⟨_, rfl, a⟩
theorem RepAll.two (r : RepAll K H [u, w] vs) : ∃ x y, vs = [x, y] ∧ Rep K H u x ∧ Rep K H w y := by
  cases r with
  | cons a b =>
    obtain ⟨y, rfl, c⟩ := b.one
    exact ⟨_, y, rfl, a, c⟩
theorem Rep.refI (r : Rep K H (.ref a) v) : v = .ref a := by cases r; rfl
theorem Rep.intI {i : Int} (r : Rep K H (.int i) v) : v = .int i := by cases r; rfl
theorem Rep.strI {z : Str} (r : Rep K H (.str z) v) : v = .str z := by cases r; rfl
theorem Rep.nonI (r : Rep K H .non v) : v = .non := by cases r; rfl
theorem Rep.blI {b : Bool} (r : Rep K H (.bl b) v) : v = .bl b := by cases r; rfl
theorem Rep.tyI {n : String} (r : Rep K H (.ty n) v) : v = .ty n := by cases r; rfl
theorem Rep.tupI (r : Rep K H (.tup xs) v) : ∃ a ys, v = .ref a ∧ SqT K H a ys ∧ RepAll K H xs ys := by
  cases r with
  | tup s r => exact ⟨_, _, rfl, s, r⟩
theorem Rep.flI (r : Rep K H (.fl xs) v) : ∃ a ys, v = .ref a ∧ FrL K H a ys ∧ RepAll K H xs ys := by
  cases r with
  | fl s r => exact ⟨_, _, rfl, s, r⟩
end
end L3
namespace L3
open PySem PySem.Spec PyProof.Rows L2
theorem exUp {α β : Type} {A : α → Prop} {B : β → Prop} {C : α → β → Prop} {D : Prop} (h : ∃ a b, A a ∧ B b ∧ C a b) (k : ∀ a b, A a → B b → C a b → D) : D := by
  obtain ⟨a, b, x, y, z⟩ := h
  exact k a b x y z
noncomputable abbrev UK := U → Mem → Prop
noncomputable abbrev TE2 := St2 → Mem → UK → Prop
noncomputable abbrev TT2 := St2 → Mem → (Bool → Mem → Prop) → Prop
noncomputable abbrev TA2 := St2 → Mem → (List U → Mem → Prop) → Prop
structure Ends2 where
  nx : St2 → Mem → Prop
  rt : UK
  bk : St2 → Mem → Prop := fun _ _ => False
  ct : St2 → Mem → Prop := fun _ _ => False
noncomputable abbrev TS2 := Ends2 → St2 → Mem → Prop
noncomputable abbrev TG2 := U → St2 → Mem → (St2 → Mem → Prop) → Prop
noncomputable abbrev TGs2 := List U → St2 → Mem → (St2 → Mem → Prop) → Prop
noncomputable abbrev TI2 := St2 → Mem → (List U → (Mem → Prop) → Mem → Prop) → Prop
noncomputable def oE {α : Type} (o : Option α) (f : α → Prop) : Prop := match o with
  | some a => f a
  | none => False
@[reducible] noncomputable def vE {α : Type} (o : Option α) (f : α → Prop) : Prop := match o with
  | some a => f a
  | none => False
theorem vE_inv {α : Type} {o : Option α} {f : α → Prop} (h : vE o f) : ∃ a, o = some a ∧ f a := by
  cases o with
  | none => exact h.elim
  | some a => exact ⟨a, rfl, h⟩
theorem vE_mono {α : Type} {o : Option α} {f g : α → Prop} (k : ∀ a, f a → g a) (h : vE o f) : vE o g := by
  cases o with
  | none => exact h
  | some a => exact k a h
noncomputable def bE (b : Bool) (A B : Prop) : Prop := match b with
  | true => A
  | false => B
theorem oE_some {α : Type} {o : Option α} {f : α → Prop} {a : α} (h : o = some a) (q : f a) : oE o f := by subst h; exact q
theorem oE_inv {α : Type} {o : Option α} {f : α → Prop} (h : oE o f) : ∃ a, o = some a ∧ f a := by
  cases o with
  | none => exact h.elim
  | some a => exact ⟨a, rfl, h⟩
theorem oE_mono {α : Type} {o : Option α} {f g : α → Prop} (k : ∀ a, f a → g a) (h : oE o f) : oE o g := by
  cases o with
  | none => exact h
  | some a => exact k a h
theorem bE_mono {b : Bool} {A B A' B' : Prop} (h1 : A → A') (h2 : B → B') (h : bE b A B) : bE b A' B' := by
  cases b with
  | true => exact h1 h
  | false => exact h2 h
theorem bE_t {A B : Prop} (h : A) : bE true A B := h
theorem bE_f {A B : Prop} (h : B) : bE false A B := h
theorem bE2 {b : Bool} {A B : Prop} (h1 : b = true → A) (h2 : b = false → B) : bE b A B := by
  cases b with
  | true => exact h1 rfl
  | false => exact h2 rfl
theorem bEt {b : Bool} {A B : Prop} (h : b = true) (q : A) : bE b A B := by subst h; exact q
theorem bEf {b : Bool} {A B : Prop} (h : b = false) (q : B) : bE b A B := by subst h; exact q
section
variable (K : Frag) (H : Hp)
noncomputable def up (Q : VK) : UK := fun u M => ∀ v H', TK K H H' → Rep K H' u v → RepM K H' M → Q v H'
noncomputable def upT (Q : Bool → Hp → Prop) : Bool → Mem → Prop := fun b M => ∀ H', TK K H H' → RepM K H' M → Q b H'
noncomputable def upA (Q : List V → Hp → Prop) : List U → Mem → Prop := fun us M => ∀ vs H', TK K H H' → RepAll K H' us vs → RepM K H' M → Q vs H'
noncomputable def upS (Q : St → Hp → Prop) : St2 → Mem → Prop := fun σ2 M => ∀ σ H', TK K H H' → RepS K H' σ2 σ → RepM K H' M → Q σ H'
noncomputable def upD (D : Ends) : Ends2 := ⟨upS K H D.nx, up K H D.rt, upS K H D.bk, upS K H D.ct⟩
end
section
variable (K : Frag)
noncomputable def lift (t : TE2) : TE := fun σ H Q => ∃ σ2 M, RepS K H σ2 σ ∧ RepM K H M ∧ t σ2 M (up K H Q)
noncomputable def liftT (t : TT2) : TT := fun σ H Q => ∃ σ2 M, RepS K H σ2 σ ∧ RepM K H M ∧ t σ2 M (upT K H Q)
noncomputable def liftA (t : TA2) : TA := fun σ H Q => ∃ σ2 M, RepS K H σ2 σ ∧ RepM K H M ∧ t σ2 M (upA K H Q)
noncomputable def liftS (t : TS2) : TS := fun D σ H => ∃ σ2 M, RepS K H σ2 σ ∧ RepM K H M ∧ t (upD K H D) σ2 M
noncomputable def liftG (t : TG2) : TG := fun v σ H Q => ∃ u σ2 M, Rep K H u v ∧ RepS K H σ2 σ ∧ RepM K H M ∧ t u σ2 M (upS K H Q)
noncomputable def liftGs (t : TGs2) : TGs := fun vs σ H Q => ∃ us σ2 M, RepAll K H us vs ∧ RepS K H σ2 σ ∧ RepM K H M ∧ t us σ2 M (upS K H Q)
noncomputable def ItOk (H0 : Hp) (J : It) (xs : List U) (chk : Mem → Prop) : Prop := ∀ i H M, TK K H0 H → RepM K H M → chk M →
  (xs.length = i → J.stop i H) ∧ ∀ x, xs[i]? = some x → J.go i H ∧ ∀ v H', J.yld i H v H' → TK K H H' ∧ RepM K H' M ∧ Rep K H' x v
noncomputable def upI (H : Hp) (R : It → Hp → Prop) : List U → (Mem → Prop) → Mem → Prop := fun xs chk M => ∀ J H', TK K H H' → RepM K H' M → ItOk K H' J xs chk → R J H'
noncomputable def liftI (t : TI2) : TI := fun σ H R => ∃ σ2 M, RepS K H σ2 σ ∧ RepM K H M ∧ t σ2 M (upI K H R)
end
section
variable {K : Frag} {H H1 : Hp}
theorem up_up {Q : VK} (k : TK K H H1) {u : U} {M : Mem} (h : up K H Q u M) : up K H1 Q u M := fun v H' k' => h v H' (k.trans k')
theorem upT_up {Q : Bool → Hp → Prop} (k : TK K H H1) {b : Bool} {M : Mem} (h : upT K H Q b M) : upT K H1 Q b M := fun H' k' => h H' (k.trans k')
theorem upS_up {Q : St → Hp → Prop} (k : TK K H H1) {σ : St2} {M : Mem} (h : upS K H Q σ M) : upS K H1 Q σ M := fun v H' k' => h v H' (k.trans k')
theorem up_le {Q : VK} {u : U} {M M' : Mem} (l : Le M M') (h : up K H Q u M) : up K H Q u M' := fun v H' k r m => h v H' k r (m.le l)
end
noncomputable def MoE (t : TE2) : Prop := ∀ σ M Q Q', (∀ u M', Q u M' → Q' u M') → t σ M Q → t σ M Q'
noncomputable def MoT (t : TT2) : Prop := ∀ σ M Q Q', (∀ u M', Q u M' → Q' u M') → t σ M Q → t σ M Q'
noncomputable def MoA (t : TA2) : Prop := ∀ σ M Q Q', (∀ u M', Q u M' → Q' u M') → t σ M Q → t σ M Q'
noncomputable def MoG (t : TG2) : Prop := ∀ u σ M Q Q', (∀ σ M', Q σ M' → Q' σ M') → t u σ M Q → t u σ M Q'
noncomputable def MoGs (t : TGs2) : Prop := ∀ u σ M Q Q', (∀ σ M', Q σ M' → Q' σ M') → t u σ M Q → t u σ M Q'
noncomputable def MoI (t : TI2) : Prop := ∀ σ M Q Q', (∀ xs chk M', Q xs chk M' → Q' xs chk M') → t σ M Q → t σ M Q'
structure Ends2.Le (D D' : Ends2) : Prop where
  nx : ∀ σ M, D.nx σ M → D'.nx σ M
  rt : ∀ u M, D.rt u M → D'.rt u M
  bk : ∀ σ M, D.bk σ M → D'.bk σ M
  ct : ∀ σ M, D.ct σ M → D'.ct σ M
noncomputable def MoS (t : TS2) : Prop := ∀ D D' σ M, Ends2.Le D D' → t D σ M → t D' σ M
theorem upD_up {K : Frag} {H H1 : Hp} {D : Ends} (k : TK K H H1) : Ends2.Le (upD K H D) (upD K H1 D) := ⟨fun _ _ h => upS_up k h, fun _ _ h => up_up k h, fun _ _ h => upS_up k h, fun _ _ h => upS_up k h⟩
structure QE (X : Cx) (e : Expr) (t : TE2) : Prop where
  mo : MoE t
  pe : PE X e (lift X.K t)
structure QT (X : Cx) (e : Expr) (t : TT2) : Prop where
  mo : MoT t
  pe : PT X e (liftT X.K t)
structure QW (X : Cx) (e : Expr) (t : TT2) : Prop where
  mo : MoT t
  pe : PW X e (liftT X.K t)
structure QA (X : Cx) (es : List Expr) (t : TA2) : Prop where
  mo : MoA t
  pe : PA X es (liftA X.K t)
structure QF (X : Cx) (es : List Expr) (t : TT2) : Prop where
  mo : MoT t
  pe : PF X es (liftT X.K t)
structure QS (X : Cx) (st : Stmt) (t : TS2) : Prop where
  mo : MoS t
  pe : PS X st (liftS X.K t)
structure QSs (X : Cx) (st : List Stmt) (t : TS2) : Prop where
  mo : MoS t
  pe : PSs X st (liftS X.K t)
structure QG (X : Cx) (tg : Expr) (t : TG2) : Prop where
  mo : MoG t
  pe : PG X tg (liftG X.K t)
structure QGs (X : Cx) (tg : List Expr) (t : TGs2) : Prop where
  mo : MoGs t
  pe : PGs X tg (liftGs X.K t)
structure QI (X : Cx) (tg iter : Expr) (t : TI2) : Prop where
  mo : MoI t
  pe : PI X tg iter (liftI X.K t)
section
variable {X : Cx} {e : Expr} {st : Stmt} {sts : List Stmt} {es : List Expr}
theorem peW {t t' : TE} (h : PE X e t) (i : ∀ σ H Q, t' σ H Q → t σ H Q) : PE X e t' := fun pins s σ H Q I q => h pins s σ H Q I (i σ H Q q)
theorem ptW {t t' : TT} (h : PT X e t) (i : ∀ σ H Q, t' σ H Q → t σ H Q) : PT X e t' := fun pins s σ H Q I q => h pins s σ H Q I (i σ H Q q)
theorem pwW {t t' : TT} (h : PW X e t) (i : ∀ σ H Q, t' σ H Q → t σ H Q) : PW X e t' := fun w pins s σ H Q I q => h w pins s σ H Q I (i σ H Q q)
theorem paW {t t' : TA} (h : PA X es t) (i : ∀ σ H Q, t' σ H Q → t σ H Q) : PA X es t' := fun pos pins s σ H Q I q => h pos pins s σ H Q I (i σ H Q q)
theorem pfW {t t' : TT} (h : PF X es t) (i : ∀ σ H Q, t' σ H Q → t σ H Q) : PF X es t' := fun pins s σ H Q I q => h pins s σ H Q I (i σ H Q q)
theorem psW {t t' : TS} (h : PS X st t) (i : ∀ D σ H, t' D σ H → t D σ H) : PS X st t' := fun pins s σ H D I q => h pins s σ H D I (i D σ H q)
theorem pssW {t t' : TS} (h : PSs X sts t) (i : ∀ D σ H, t' D σ H → t D σ H) : PSs X sts t' := fun pins s σ H D I q => h pins s σ H D I (i D σ H q)
end
section
variable {K : Frag} {σ2 : St2} {M : Mem} {σ : St} {H : Hp}
theorem lf {t : TE2} (mo : MoE t) (rs : RepS K H σ2 σ) (rm : RepM K H M) {P : UK} (h : t σ2 M P) {R : VK} (k : ∀ u M1 v H1, TK K H H1 → Rep K H1 u v → RepM K H1 M1 → RepS K H1 σ2 σ → P u M1 → R v H1) : lift K t σ H R :=
  ⟨σ2, M, rs, rm, mo _ _ _ _ (fun u M1 p v H1 tk r m => k u M1 v H1 tk r m (rs.up tk) p) h⟩
theorem lfT {t : TT2} (mo : MoT t) (rs : RepS K H σ2 σ) (rm : RepM K H M) {P : Bool → Mem → Prop} (h : t σ2 M P) {R : Bool → Hp → Prop} (k : ∀ b M1 H1, TK K H H1 → RepM K H1 M1 → RepS K H1 σ2 σ → P b M1 → R b H1) : liftT K t σ H R :=
  ⟨σ2, M, rs, rm, mo _ _ _ _ (fun u M1 p H1 tk m => k u M1 H1 tk m (rs.up tk) p) h⟩
theorem lfA {t : TA2} (mo : MoA t) (rs : RepS K H σ2 σ) (rm : RepM K H M) {P : List U → Mem → Prop} (h : t σ2 M P) {R : List V → Hp → Prop} (k : ∀ us M1 vs H1, TK K H H1 → RepAll K H1 us vs → RepM K H1 M1 → RepS K H1 σ2 σ → P us M1 → R vs H1) : liftA K t σ H R :=
  ⟨σ2, M, rs, rm, mo _ _ _ _ (fun u M1 p v H1 tk r m => k u M1 v H1 tk r m (rs.up tk) p) h⟩
theorem lfG {t : TG2} (mo : MoG t) {u : U} {v : V} (ru : Rep K H u v) (rs : RepS K H σ2 σ) (rm : RepM K H M) {P : St2 → Mem → Prop} (h : t u σ2 M P) {R : St → Hp → Prop} (k : ∀ σ2' M1 σ' H1, TK K H H1 → RepS K H1 σ2' σ' → RepM K H1 M1 → P σ2' M1 → R σ' H1) : liftG K t v σ H R :=
  ⟨u, σ2, M, ru, rs, rm, mo _ _ _ _ _ (fun s2 M1 p s1 H1 tk r m => k s2 M1 s1 H1 tk r m p) h⟩
theorem lfI {t : TI2} (mo : MoI t) (rs : RepS K H σ2 σ) (rm : RepM K H M) {P : List U → (Mem → Prop) → Mem → Prop} (h : t σ2 M P) {R : It → Hp → Prop} (k : ∀ xs chk M1 J H1, TK K H H1 → RepM K H1 M1 → RepS K H1 σ2 σ → ItOk K H1 J xs chk → P xs chk M1 → R J H1) : liftI K t σ H R :=
  ⟨σ2, M, rs, rm, mo _ _ _ _ (fun xs chk M1 p J H1 tk m io => k xs chk M1 J H1 tk m (rs.up tk) io p) h⟩
end
section
variable {X : Cx} {a b c e : Expr} {ta tb tc : TE2} {pos : Pos}
@[reducible] noncomputable def qVar (i : Nat) : TE2 := fun σ M Q => vE (gV σ i) fun u => Q u M
@[reducible] noncomputable def qC (u : U) : TE2 := fun _ M Q => Q u M
theorem qv (i : Nat) {x : Str} (hN : X.N[i]? = some x := by rfl) (hv : Vis X.env.scope x := by first | exact Or.inl rfl | exact Or.inr (Or.inl rfl) | exact Or.inr (Or.inr rfl)) (hd : (x == ("__debug__" : Str)) = false := by decide)
    (hcd : (x == ("__classdict__" : Str)) = false := by decide) : QE X (.Name x pos) (qVar i) := by
  refine ⟨fun σ M Q Q' k h => vE_mono (fun u => k u M) h, peW (pe_var hN hv hd hcd) fun σ H Q h => ?_⟩
  obtain ⟨σ2, M, rs, rm, h⟩ := h
  obtain ⟨u, e1, q⟩ := vE_inv h
  obtain ⟨v, e2, r⟩ := rs.get e1
  exact ⟨v, e2, q v H .refl r rm⟩
theorem qe_c {u : U} {v : V} (h : PE X e (tC v)) (r : ∀ H, Rep X.K H u v) : QE X e (qC u) :=
  ⟨fun σ M Q Q' k h => k _ _ h, peW h fun σ H Q ⟨σ2, M, rs, rm, q⟩ => q v H .refl (r H) rm⟩
theorem qe_int {i j} : QE X (.Constant (.int i) j pos) (qC (.int i)) := qe_c pe_int fun _ => .int _
theorem qe_bl {b j} : QE X (.Constant (.bool b) j pos) (qC (.bl b)) := qe_c pe_bl fun _ => .bl _
theorem qe_non {j} : QE X (.Constant .none j pos) (qC .non) := qe_c pe_non fun _ => .non
theorem qe_str {x j} : QE X (.Constant (.str x) j pos) (qC (.str x)) := qe_c pe_str fun _ => .str _
theorem qe_ty {x : Str} {n : String} (hg : Gl X x) (hm : X.mg x = none) (hv : bootBuiltins x = some (.type n)) (hn : x ≠ "__name__" := by decide) (hd : (x == ("__debug__" : Str)) = false := by decide) : QE X (.Name x pos) (qC (.ty n)) :=
  qe_c (pe_bltn hg hm hv (v := .ty n) rfl hn hd) fun _ => .ty _
theorem qe_cls {x : Str} {C : Addr} (hg : Gl X x) (hm : X.mg x = some (.ref C)) (hd : (x == ("__debug__" : Str)) = false := by decide) : QE X (.Name x pos) (qC (.ref C)) :=
  qe_c (pe_glob hg hm (v := .ref C) rfl hd) fun _ => .ref _
noncomputable abbrev RR2 := U → U → Mem → UK → Prop
structure RefO (K : Frag) (r : R2) (r2 : RR2) : Prop where
  mo : ∀ x y M Q Q', (∀ u M', Q u M' → Q' u M') → r2 x y M Q → r2 x y M Q'
  rf : ∀ x2 y2 x y M H Q, Rep K H x2 x → Rep K H y2 y → RepM K H M → r2 x2 y2 M (up K H Q) → r x y H Q
structure Op2 (X : Cx) (f : Value → Value → Sem Value) (r2 : RR2) : Prop where
  ex : ∃ r, OpR X f r ∧ RefO X.K r r2
@[reducible] noncomputable def qOp (r : RR2) (ta tb : TE2) : TE2 := fun σ M Q => ta σ M fun x M1 => tb σ M1 fun y M2 => r x y M2 Q
theorem qOp_mo {r : RR2} (hr : ∀ x y M Q Q', (∀ u M', Q u M' → Q' u M') → r x y M Q → r x y M Q') (ha : MoE ta) (hb : MoE tb) : MoE (qOp r ta tb) := fun σ M Q Q' k h => ha _ _ _ _ (fun x M1 h1 => hb _ _ _ _ (fun y M2 h2 => hr _ _ _ _ _ k h2) h1) h
theorem qOp_lf {r : R2} {r2 : RR2} {K : Frag} (R : RefO K r r2) (ha : MoE ta) (hb : MoE tb) {σ : St} {H : Hp} {Q : VK} (h : lift K (qOp r2 ta tb) σ H Q) : tOp r (lift K ta) (lift K tb) σ H Q := by
  obtain ⟨σ2, M, rs, rm, h⟩ := h
  exact lf ha rs rm h fun x2 M1 x H1 k1 r1 m1 s1 h1 => lf hb s1 m1 h1 fun y2 M2 y H2 k2 r2 m2 s2 h2 =>
    R.rf x2 y2 x y M2 H2 Q (r1.up k2) r2 m2 (R.mo _ _ _ _ _ (fun u M' q => up_up (k1.trans k2) q) h2)
theorem qe_op {op : Operator} {r2 : RR2} (o : Op2 X (binaryOp op) r2) (ha : QE X a ta) (hb : QE X b tb) : QE X (.BinOp a op b pos) (qOp r2 ta tb) := by
  obtain ⟨r, o1, R⟩ := o.ex
  exact ⟨qOp_mo R.mo ha.mo hb.mo, peW (pe_op o1 ha.pe hb.pe) fun σ H Q h => qOp_lf R ha.mo hb.mo h⟩
theorem qe_cmp {op : CmpOp} {r2 : RR2} (o : Op2 X (compareOp op) r2) (ha : QE X a ta) (hb : QE X b tb) (hm : behindInMarks op b = false) : QE X (.Compare a [op] [b] pos) (qOp r2 ta tb) := by
  obtain ⟨r, o1, R⟩ := o.ex
  exact ⟨qOp_mo R.mo ha.mo hb.mo, peW (pe_cmpR o1 ha.pe hb.pe hm) fun σ H Q h => qOp_lf R ha.mo hb.mo h⟩
@[reducible] noncomputable def isB (Q : Bool → Mem → Prop) : UK := fun u M => match u with
  | .bl k => Q k M
  | _ => False
theorem isB_mono {Q Q' : Bool → Mem → Prop} (k : ∀ u M', Q u M' → Q' u M') {u : U} {M : Mem} (h : isB Q u M) : isB Q' u M := by
  cases u with
  | bl b => exact k b M h
  | _ => exact h
@[reducible] noncomputable def qTest (t : TE2) : TT2 := fun σ M Q => t σ M (isB Q)
theorem qTest_mo {t : TE2} (h : MoE t) : MoT (qTest t) := fun σ M Q Q' k q => h _ _ _ _ (fun u M' z => isB_mono k z) q
theorem isB_up {K : Frag} {H H' : Hp} {Q : Bool → Hp → Prop} {u : U} {M : Mem} {v : V} (h : isB (upT K H Q) u M) (k : TK K H H') (r : Rep K H' u v) (m : RepM K H' M) : ∃ c, v = .bl c ∧ Q c H' := by
  cases u with
  | bl b => cases r; exact ⟨b, rfl, h H' k m⟩
  | _ => exact h.elim
theorem qt_cmp {op : CmpOp} {r2 : RR2} (o : Op2 X (compareOp op) r2) (ha : QE X a ta) (hb : QE X b tb) (hm : behindInMarks op b = false) : QT X (.Compare a [op] [b] pos) (qTest (qOp r2 ta tb)) := by
  obtain ⟨r, o1, R⟩ := o.ex
  refine ⟨qTest_mo (qOp_mo R.mo ha.mo hb.mo), ptW (pt_cmpR o1 ha.pe hb.pe hm) fun σ H Q h => ?_⟩
  exact qOp_lf R ha.mo hb.mo (Q := fun x H' => ∃ k, x = .bl k ∧ Q k H') (by
    obtain ⟨σ2, M, rs, rm, h⟩ := h
    exact ⟨σ2, M, rs, rm, qOp_mo R.mo ha.mo hb.mo _ _ _ _ (fun u M' q v H' k r m => isB_up q k r m) h⟩)
@[reducible] noncomputable def qChain (r r' : RR2) (ta tb tc : TE2) : TE2 := fun σ M Q => ta σ M fun x M1 => tb σ M1 fun y M2 => r x y M2 (isB fun k M3 => bE k (tc σ M3 fun z M4 => r' y z M4 Q) (Q (.bl false) M3))
theorem qChain_mo {r r' : RR2} (hr : ∀ x y M Q Q', (∀ u M', Q u M' → Q' u M') → r x y M Q → r x y M Q') (hr' : ∀ x y M Q Q', (∀ u M', Q u M' → Q' u M') → r' x y M Q → r' x y M Q') (ha : MoE ta) (hb : MoE tb) (hc : MoE tc) : MoE (qChain r r' ta tb tc) :=
  fun σ M Q Q' k h => ha _ _ _ _ (fun x M1 h1 => hb _ _ _ _ (fun y M2 h2 => hr _ _ _ _ _ (fun u M' => isB_mono fun c M3 => bE_mono (hc _ _ _ _ fun z M4 => hr' _ _ _ _ _ k) (k _ _)) h2) h1) h
theorem qChain_lf {r r' : R2} {r2 r2' : RR2} {K : Frag} (R : RefO K r r2) (R' : RefO K r' r2') (ha : MoE ta) (hb : MoE tb) (hc : MoE tc) {σ : St} {H : Hp} {Q : VK} (h : lift K (qChain r2 r2' ta tb tc) σ H Q) : tChain r r' (lift K ta) (lift K tb) (lift K tc) σ H Q := by
  obtain ⟨σ2, M, rs, rm, h⟩ := h
  refine lf ha rs rm h fun x2 M1 x H1 k1 r1 m1 s1 h1 => lf hb s1 m1 h1 fun y2 M2 y H2 k2 ry m2 s2 h2 => ?_
  refine R.rf x2 y2 x y M2 H2 _ (r1.up k2) ry m2 (R.mo _ _ _ _ _ (fun u M' q v H' k r m => ?_) h2)
  cases u with
  | bl b =>
    cases r
    refine ⟨b, rfl, ?_⟩
    cases b with
    | false =>
      rw [if_neg Bool.false_ne_true]
      exact (show up K H Q (.bl false) M' from q) _ H' ((k1.trans k2).trans k) (.bl _) m
    | true =>
      rw [if_pos rfl]
      exact lf hc (s2.up k) m q fun z2 M4 z H4 k4 r4 m4 s4 h4 => R'.rf y2 z2 y z M4 H4 Q ((ry.up k).up k4) r4 m4 (R'.mo _ _ _ _ _ (fun u M' q => up_up (((k1.trans k2).trans k).trans k4) q) h4)
  | _ => exact q.elim
theorem qe_chain {op op' : CmpOp} {r r' : RR2} (o : Op2 X (compareOp op) r) (o' : Op2 X (compareOp op') r') (ha : QE X a ta) (hb : QE X b tb) (hc : QE X c tc)
    (hm : lastMarks [op, op'] [b, c] = false := by with_unfolding_all rfl) : QE X (.Compare a [op, op'] [b, c] pos) (qChain r r' ta tb tc) := by
  obtain ⟨s, o1, R⟩ := o.ex
  obtain ⟨s', o1', R'⟩ := o'.ex
  exact ⟨qChain_mo R.mo R'.mo ha.mo hb.mo hc.mo, peW (pe_chain o1 o1' ha.pe hb.pe hc.pe hm) fun σ H Q h => qChain_lf R R' ha.mo hb.mo hc.mo h⟩
structure Un2 (X : Cx) (f : Value → Sem Value) (r2 : U → Mem → UK → Prop) : Prop where
  ex : ∃ r, UnR X f r ∧ (∀ x M Q Q', (∀ u M', Q u M' → Q' u M') → r2 x M Q → r2 x M Q') ∧ ∀ x2 x M H Q, Rep X.K H x2 x → RepM X.K H M → r2 x2 M (up X.K H Q) → r x H Q
@[reducible] noncomputable def qUn (r : U → Mem → UK → Prop) (ta : TE2) : TE2 := fun σ M Q => ta σ M fun x M1 => r x M1 Q
theorem qe_un {op : UnaryOp} {r2 : U → Mem → UK → Prop} (o : Un2 X (unaryOp op) r2) (ha : QE X a ta) : QE X (.UnaryOp op a pos) (qUn r2 ta) := by
  obtain ⟨r, o1, mo, rf⟩ := o.ex
  refine ⟨fun σ M Q Q' k h => ha.mo _ _ _ _ (fun x M1 => mo _ _ _ _ k) h, peW (pe_un o1 ha.pe) fun σ H Q z0 => exUp z0 fun σ2 M rs rm h => ?_⟩
  exact lf ha.mo rs rm h fun x2 M1 x H1 k1 r1 m1 s1 h1 => rf x2 x M1 H1 Q r1 m1 (mo _ _ _ _ (fun u M' q => up_up k1 q) h1)
@[reducible] noncomputable def qAndV (ta tb : TE2) : TE2 := fun σ M Q => ta σ M (isB fun c M1 => bE c (tb σ M1 Q) (Q (.bl false) M1))
@[reducible] noncomputable def qOrV (ta tb : TE2) : TE2 := fun σ M Q => ta σ M (isB fun c M1 => bE c (Q (.bl true) M1) (tb σ M1 Q))
theorem qe_one {op} (h : QE X a ta) : QE X (.BoolOp op [a] pos) ta := ⟨h.mo, pe_one h.pe⟩
theorem isB_go {K : Frag} {H H' : Hp} {P : Bool → Mem → Prop} {u : U} {M : Mem} {v : V} (h : isB P u M) (r : Rep K H' u v) : ∃ c, v = .bl c ∧ P c M := by
  cases u with
  | bl b => cases r; exact ⟨b, rfl, h⟩
  | _ => exact h.elim
theorem qe_and {rest : List Expr} (ha : QE X a ta) (hb : QE X (.BoolOp .And (b :: rest) pos) tb) : QE X (.BoolOp .And (a :: b :: rest) pos) (qAndV ta tb) := by
  refine ⟨fun σ M Q Q' k h => ha.mo _ _ _ _ (fun x M1 => isB_mono fun c M2 => bE_mono (hb.mo _ _ _ _ k) (k _ _)) h, peW (pe_and ha.pe hb.pe) fun σ H Q z0 => exUp z0 fun σ2 M rs rm h => ?_⟩
  refine lf ha.mo rs rm h fun x2 M1 x H1 k1 r1 m1 s1 h1 => ?_
  obtain ⟨c, rfl, h2⟩ := isB_go (H := H1) h1 r1
  refine ⟨c, rfl, ?_⟩
  cases c with
  | true => rw [if_pos rfl]; exact ⟨σ2, M1, s1, m1, hb.mo _ _ _ _ (fun u M' q => up_up k1 q) h2⟩
  | false => rw [if_neg Bool.false_ne_true]; exact (show up X.K H Q (.bl false) M1 from h2) _ H1 k1 (.bl _) m1
theorem qe_or {rest : List Expr} (ha : QE X a ta) (hb : QE X (.BoolOp .Or (b :: rest) pos) tb) : QE X (.BoolOp .Or (a :: b :: rest) pos) (qOrV ta tb) := by
  refine ⟨fun σ M Q Q' k h => ha.mo _ _ _ _ (fun x M1 => isB_mono fun c M2 => bE_mono (k _ _) (hb.mo _ _ _ _ k)) h, peW (pe_or ha.pe hb.pe) fun σ H Q z0 => exUp z0 fun σ2 M rs rm h => ?_⟩
  refine lf ha.mo rs rm h fun x2 M1 x H1 k1 r1 m1 s1 h1 => ?_
  obtain ⟨c, rfl, h2⟩ := isB_go (H := H1) h1 r1
  refine ⟨c, rfl, ?_⟩
  cases c with
  | true => rw [if_pos rfl]; exact (show up X.K H Q (.bl true) M1 from h2) _ H1 k1 (.bl _) m1
  | false => rw [if_neg Bool.false_ne_true]; exact ⟨σ2, M1, s1, m1, hb.mo _ _ _ _ (fun u M' q => up_up k1 q) h2⟩
variable {tA tB' : TT2}
@[reducible] noncomputable def qAnd (t u : TT2) : TT2 := fun σ M Q => t σ M fun c M1 => bE c (u σ M1 Q) (Q false M1)
@[reducible] noncomputable def qOr (t u : TT2) : TT2 := fun σ M Q => t σ M fun c M1 => bE c (Q true M1) (u σ M1 Q)
@[reducible] noncomputable def qNot (t : TT2) : TT2 := fun σ M Q => t σ M fun c M1 => Q (!c) M1
theorem qw_and1 (ha : QT X a tA) : QW X (.BoolOp .And [a] pos) tA := ⟨ha.mo, pw_and1 ha.pe⟩
theorem qw_or1 (ha : QT X a tA) : QW X (.BoolOp .Or [a] pos) tA := ⟨ha.mo, pw_or1 ha.pe⟩
theorem qw_and {rest : List Expr} (ha : QT X a tA) (hb : QW X (.BoolOp .And (b :: rest) pos) tB') : QW X (.BoolOp .And (a :: b :: rest) pos) (qAnd tA tB') := by
  refine ⟨fun σ M Q Q' k h => ha.mo _ _ _ _ (fun c M1 => bE_mono (hb.mo _ _ _ _ k) (k _ _)) h, pwW (pw_and ha.pe hb.pe) fun σ H Q z0 => exUp z0 fun σ2 M rs rm h => ?_⟩
  refine lfT ha.mo rs rm h fun c M1 H1 k1 m1 s1 h1 => ?_
  cases c with
  | true => rw [if_pos rfl]; exact ⟨σ2, M1, s1, m1, hb.mo _ _ _ _ (fun u M' q => upT_up k1 q) h1⟩
  | false => rw [if_neg Bool.false_ne_true]; exact (show upT X.K H Q false M1 from h1) H1 k1 m1
theorem qw_or {rest : List Expr} (ha : QT X a tA) (hb : QW X (.BoolOp .Or (b :: rest) pos) tB') : QW X (.BoolOp .Or (a :: b :: rest) pos) (qOr tA tB') := by
  refine ⟨fun σ M Q Q' k h => ha.mo _ _ _ _ (fun c M1 => bE_mono (k _ _) (hb.mo _ _ _ _ k)) h, pwW (pw_or ha.pe hb.pe) fun σ H Q z0 => exUp z0 fun σ2 M rs rm h => ?_⟩
  refine lfT ha.mo rs rm h fun c M1 H1 k1 m1 s1 h1 => ?_
  cases c with
  | true => rw [if_pos rfl]; exact (show upT X.K H Q true M1 from h1) H1 k1 m1
  | false => rw [if_neg Bool.false_ne_true]; exact ⟨σ2, M1, s1, m1, hb.mo _ _ _ _ (fun u M' q => upT_up k1 q) h1⟩
theorem QW.qt {t : TT2} (h : QW X e t) : QT X e t := ⟨h.mo, h.pe.pt⟩
theorem qt_not (ha : QT X a tA) : QT X (.UnaryOp .Not a pos) (qNot tA) := by
  refine ⟨fun σ M Q Q' k h => ha.mo _ _ _ _ (fun c M1 => k _ _) h, ptW (pt_not ha.pe) fun σ H Q z0 => exUp z0 fun σ2 M rs rm h => ?_⟩
  exact lfT ha.mo rs rm h fun c M1 H1 k1 m1 s1 h1 => (show upT X.K H Q (!c) M1 from h1) H1 k1 m1
@[reducible] noncomputable def qIf (t : TT2) (ta tb : TE2) : TE2 := fun σ M Q => t σ M fun c M1 => bE c (ta σ M1 Q) (tb σ M1 Q)
theorem qe_ifExp {c : Expr} (hc : QT X c tA) (ha : QE X a ta) (hb : QE X b tb) : QE X (.IfExp c a b pos) (qIf tA ta tb) := by
  refine ⟨fun σ M Q Q' k h => hc.mo _ _ _ _ (fun c M1 => bE_mono (ha.mo _ _ _ _ k) (hb.mo _ _ _ _ k)) h, peW (pe_ifExp hc.pe ha.pe hb.pe) fun σ H Q z0 => exUp z0 fun σ2 M rs rm h => ?_⟩
  refine lfT hc.mo rs rm h fun c M1 H1 k1 m1 s1 h1 => ?_
  cases c with
  | true => rw [if_pos rfl]; exact ⟨σ2, M1, s1, m1, ha.mo _ _ _ _ (fun u M' q => up_up k1 q) h1⟩
  | false => rw [if_neg Bool.false_ne_true]; exact ⟨σ2, M1, s1, m1, hb.mo _ _ _ _ (fun u M' q => up_up k1 q) h1⟩
@[reducible] noncomputable def truU (u : U) (M : Mem) (Q : Bool → Mem → Prop) : Prop := match u with
  | .non => Q false M
  | .bl b => Q b M
  | .int i => Q (i != 0) M
  | .str y => y.length ≤ sizeLine ∧ Q ((y.length : Int) != 0) M
  | .tup xs => Q (!xs.isEmpty) M
  | .fl xs => Q (!xs.isEmpty) M
  | .ref a => ∃ xs, M a = some (.lst xs) ∧ Q (!xs.isEmpty) M
  | .ty _ => False
theorem truU_mo {u : U} {M : Mem} {Q Q' : Bool → Mem → Prop} (k : ∀ u M', Q u M' → Q' u M') (h : truU u M Q) : truU u M Q' := by
  cases u with
  | str y => exact ⟨h.1, k _ _ h.2⟩
  | ref a => obtain ⟨xs, e, q⟩ := h; exact ⟨xs, e, k _ _ q⟩
  | ty n => exact h
  | _ => exact k _ _ h
theorem isE {K : Frag} {H : Hp} {xs : List U} {ys : List V} (r : RepAll K H xs ys) : xs.isEmpty = ys.isEmpty := by cases r <;> rfl
@[reducible] noncomputable def qTru (ta : TE2) : TT2 := fun σ M Q => ta σ M fun u M1 => truU u M1 Q
theorem qt_tru (ha : QE X a ta) (he : ∀ whole, isTrue a X.env whole = (do let v ← whole; standAt a.pos; holding [v] (truthy v))) : QT X a (qTru ta) := by
  refine ⟨fun σ M Q Q' k h => ha.mo _ _ _ _ (fun c M1 => truU_mo k) h, ptW (pt_truth ha.pe he) fun σ H Q z0 => exUp z0 fun σ2 M rs rm h => ?_⟩
  refine lf ha.mo rs rm h fun x2 M1 x H1 k1 r1 m1 s1 h1 => ?_
  cases r1 with
  | non => exact ⟨_, rfl, (show upT X.K H Q _ M1 from h1) H1 k1 m1⟩
  | bl b => exact ⟨_, rfl, (show upT X.K H Q _ M1 from h1) H1 k1 m1⟩
  | int i => exact ⟨_, rfl, (show upT X.K H Q _ M1 from h1) H1 k1 m1⟩
  | str y => exact ⟨_, ⟨h1.1, rfl⟩, h1.2 H1 k1 m1⟩
  | tup hs r => exact ⟨_, .inr (.inl ⟨_, hs, rfl⟩), by rw [← isE r]; exact (show upT X.K H Q _ M1 from h1) H1 k1 m1⟩
  | fl hs r => exact ⟨_, .inl ⟨_, hs.sq, rfl⟩, by rw [← isE r]; exact (show upT X.K H Q _ M1 from h1) H1 k1 m1⟩
  | ref p =>
    obtain ⟨xs, e, q⟩ := h1
    obtain ⟨ys, e2, r⟩ := m1 p _ e
    exact ⟨_, .inl ⟨ys, .inl (.inl e2), rfl⟩, by rw [← isE r]; exact q H1 k1 m1⟩
  | ty n => exact h1.elim
end
end L3
namespace L3
open PySem PySem.Spec PyProof.Rows L2
section
variable {X : Cx} {a b c e : Expr} {es : List Expr} {ta tb tc te : TE2} {t : TA2} {pos p : Pos} {x : Str}
@[reducible] noncomputable def qNil : TA2 := fun _ M Q => Q [] M
@[reducible] noncomputable def qCons (ta : TE2) (tr : TA2) : TA2 := fun σ M Q => ta σ M fun x M1 => tr σ M1 fun xs M2 => Q (x :: xs) M2
theorem qa_nil : QA X [] qNil := ⟨fun σ M Q Q' k h => k _ _ h, paW pa_nil fun σ H Q z0 => exUp z0 fun σ2 M rs rm h => h [] H .refl .nil rm⟩
theorem qa_cons (ha : QE X e te) (hr : QA X es t) (hs : starEach (e :: es) X.env = (false, eval e X.env) :: starEach es X.env := by rfl) : QA X (e :: es) (qCons te t) := by
  refine ⟨fun σ M Q Q' k h => ha.mo _ _ _ _ (fun x M1 => hr.mo _ _ _ _ fun xs M2 => k _ _) h, paW (pa_cons ha.pe hr.pe hs) fun σ H Q z0 => exUp z0 fun σ2 M rs rm h => ?_⟩
  exact lf ha.mo rs rm h fun x2 M1 x H1 k1 r1 m1 s1 h1 => lfA hr.mo s1 m1 h1 fun us M2 vs H2 k2 r2 m2 s2 h2 => h2 (x :: vs) H2 (k1.trans k2) (.cons (r1.up k2) r2) m2
@[reducible] noncomputable def qTup (t : TA2) : TE2 := fun σ M Q => t σ M fun xs M1 => xs.length ≤ sizeLine ∧ Q (.tup xs) M1
theorem qe_tup {x1} (h : QA X es t) : QE X (.Tuple es x1 pos) (qTup t) := by
  refine ⟨fun σ M Q Q' k h' => h.mo _ _ _ _ (fun xs M1 q => ⟨q.1, k _ _ q.2⟩) h', peW (pe_tup h.pe) fun σ H Q z9 => ?_⟩
  obtain ⟨σ2, M, rs, rm, h'⟩ := z9
  refine lfA h.mo rs rm h' fun us M1 vs H1 k1 r1 m1 s1 h1 => ⟨by rw [← r1.len]; exact h1.1, fun q hq => ?_⟩
  exact h1.2 (.ref q) _ (k1.trans (TK.new hq)) (.tup (SqT.of upd_same) (r1.up (TK.new hq))) (m1.same (same_new hq _))
@[reducible] noncomputable def qLst (t : TA2) : TE2 := fun σ M Q => t σ M fun xs M1 => xs.length ≤ sizeLine ∧ ∀ q, M1 q = none → Q (.ref q) (put M1 q (.lst xs))
theorem qe_lst (h : QA X es t) : QE X (.List es pos) (qLst t) := by
  refine ⟨fun σ M Q Q' k h' => h.mo _ _ _ _ (fun xs M1 q => ⟨q.1, fun p hp => k _ _ (q.2 p hp)⟩) h', peW (pe_lst h.pe) fun σ H Q z9 => ?_⟩
  obtain ⟨σ2, M, rs, rm, h'⟩ := z9
  refine lfA h.mo rs rm h' fun us M1 vs H1 k1 r1 m1 s1 h1 => ⟨by rw [← r1.len]; exact h1.1, fun q hq => ?_⟩
  exact h1.2 q (m1.free hq) (.ref q) _ (k1.trans (TK.new hq)) (.ref q) (m1.write (TK.new hq) ⟨vs, upd_same, r1.up (TK.new hq)⟩)
@[reducible] noncomputable def qPick (t : TA2) (ti : TE2) : TE2 := fun σ M Q => t σ M fun xs M1 => xs.length ≤ sizeLine ∧ ∀ q, M1 q = none → ti σ (put M1 q (.lst xs)) fun y M2 => match y with
  | .int i => oE (atI xs i) fun u => M2 q = some (.lst xs) ∧ ∃ M3, Le M3 M2 ∧ Q u M3
  | _ => False
theorem qe_pick {p2 : Pos} (h : QA X es t) (hi : QE X b tb) (hs : PlainIx b) : QE X (.Subscript (.List es p2) b pos) (qPick t tb) := by
  refine ⟨fun σ M Q Q' k h' => h.mo _ _ _ _ (fun xs M1 q => ⟨q.1, fun p hp => hi.mo _ _ _ _ (fun y M2 z => ?_) (q.2 p hp)⟩) h', peW (pe_ix ix_list (pe_lst h.pe) hi.pe hs) fun σ H Q ⟨σ2, M, rs, rm, h'⟩ => ?_⟩
  · cases y with
    | int i => exact oE_mono (fun u ⟨e, M3, l, q⟩ => ⟨e, M3, l, k _ _ q⟩) z
    | _ => exact z
  refine lfA h.mo rs rm h' fun us M1 vs H1 k1 r1 m1 s1 h1 => ⟨by rw [← r1.len]; exact h1.1, fun q hq => ?_⟩
  have kn := TK.new (K := X.K) (o := .lst vs) hq
  refine lf hi.mo (s1.up kn) (m1.write kn (o := .lst us) ⟨vs, upd_same, r1.up kn⟩) (h1.2 q (m1.free hq)) fun y2 M2 y H2 k2 r2 m2 s2 h2 => ?_
  cases r2 with
  | int i =>
    obtain ⟨u, ea, eq, M3, l, fin⟩ := oE_inv h2
    obtain ⟨ys, e2, ra⟩ := m2 q _ eq
    obtain ⟨v, ev, rv⟩ := ra.atI ea
    exact ⟨q, ys, i, v, rfl, rfl, .inl (.inl e2), ev, fin v H2 ((k1.trans kn).trans k2) rv (m2.le l)⟩
  | _ => exact h2.elim
noncomputable def Pu (t : TE2) : Prop := ∀ σ M M' Q, t σ M Q → t σ M' fun y M2 => M2 = M' ∧ Q y M
theorem pu_var {i : Nat} : Pu (qVar i) := fun σ M M' Q h => vE_mono (fun u q => ⟨rfl, q⟩) h
theorem pu_c {u : U} : Pu (qC u) := fun σ M M' Q h => ⟨rfl, h⟩
noncomputable def PuO (r : RR2) : Prop := ∀ x y M M' Q, r x y M Q → r x y M' fun u M2 => M2 = M' ∧ Q u M
theorem pu_op {r : RR2} (hr : PuO r) (ha : Pu ta) (hb : Pu tb) (mr : ∀ x y M Q Q', (∀ u M', Q u M' → Q' u M') → r x y M Q → r x y M Q') (ma : MoE ta) (mb : MoE tb) : Pu (qOp r ta tb) := fun σ M M' Q h => by
  refine ma _ _ _ _ (fun x M1 ⟨e, q⟩ => ?_) (ha σ M M' _ h)
  subst e
  refine mb _ _ _ _ (fun y M2 z9 => ?_) (hb σ M M1 _ q)
  obtain ⟨e, q⟩ := z9
  subst e
  exact hr _ _ _ _ _ q
@[reducible] noncomputable def qPick0 (t : TA2) (ti : TE2) : TE2 := fun σ M Q => t σ M fun xs M1 => xs.length ≤ sizeLine ∧ ti σ M1 fun y M2 => match y with
  | .int i => oE (atI xs i) fun u => Q u M2
  | _ => False
structure QP (X : Cx) (e : Expr) (t : TE2) : Prop where
  qe : QE X e t
  pu : Pu t
theorem qp_v (i : Nat) {x : Str} (hN : X.N[i]? = some x := by rfl) (hv : Vis X.env.scope x := by first | exact Or.inl rfl | exact Or.inr (Or.inl rfl) | exact Or.inr (Or.inr rfl)) (hd : (x == ("__debug__" : Str)) = false := by decide)
    (hcd : (x == ("__classdict__" : Str)) = false := by decide) : QP X (.Name x pos) (qVar i) := ⟨qv i hN hv hd hcd, pu_var⟩
theorem qp_int {i j} : QP X (.Constant (.int i) j pos) (qC (.int i)) := ⟨qe_int, pu_c⟩
theorem qp_op {op : Operator} {r : RR2} (o : Op2 X (binaryOp op) r) (hr : PuO r) (ha : QP X a ta) (hb : QP X b tb) : QP X (.BinOp a op b pos) (qOp r ta tb) := by
  obtain ⟨r1, o1, R⟩ := id o.ex
  exact ⟨qe_op o ha.qe hb.qe, pu_op hr ha.pu hb.pu R.mo ha.qe.mo hb.qe.mo⟩
theorem qe_pick0 {p2 : Pos} (h : QA X es t) (hq : QP X b tb) (hs : PlainIx b) : QE X (.Subscript (.List es p2) b pos) (qPick0 t tb) := by
  have hi := hq.qe
  have pu := hq.pu
  refine ⟨fun σ M Q Q' k h' => h.mo _ _ _ _ (fun xs M1 q => ⟨q.1, hi.mo _ _ _ _ (fun y M2 z => ?_) q.2⟩) h', peW (qe_pick h hi hs).pe fun σ H Q ⟨σ2, M, rs, rm, h'⟩ => ?_⟩
  · cases y with
    | int i => exact oE_mono (fun u => k u M2) z
    | _ => exact z
  refine ⟨σ2, M, rs, rm, h.mo _ _ _ _ (fun xs M1 ⟨l, q⟩ => ⟨l, fun p hp => hi.mo _ _ _ _ (fun y M2 ⟨e, z⟩ => ?_) (pu _ _ (put M1 p (.lst xs)) _ q)⟩) h'⟩
  subst e
  cases y with
  | int i => exact oE_mono (fun u w => ⟨put_same, M1, Le.new hp, w⟩) z
  | _ => exact z
noncomputable abbrev RL2 := List U → Mem → UK → Prop
structure RefL (K : Frag) (r : List V → Hp → VK → Prop) (r2 : RL2) : Prop where
  mo : ∀ xs M Q Q', (∀ u M', Q u M' → Q' u M') → r2 xs M Q → r2 xs M Q'
  rf : ∀ us vs M H Q, RepAll K H us vs → RepM K H M → r2 us M (up K H Q) → r vs H Q
structure Call2 (X : Cx) (f : Value) (r2 : RL2) : Prop where
  ex : ∃ r, CallR X f r ∧ RefL X.K r r2
@[reducible] noncomputable def qCB (r : RL2) (t : TA2) : TE2 := fun σ M Q => t σ M fun us M1 => r us M1 Q
theorem qCB_mo {r : RL2} (hr : ∀ xs M Q Q', (∀ u M', Q u M' → Q' u M') → r xs M Q → r xs M Q') (ht : MoA t) : MoE (qCB r t) := fun σ M Q Q' k h => ht _ _ _ _ (fun us M1 => hr _ _ _ _ k) h
theorem qCB_lf {r : List V → Hp → VK → Prop} {r2 : RL2} {K : Frag} (R : RefL K r r2) (ht : MoA t) {σ : St} {H : Hp} {Q : VK} (h : lift K (qCB r2 t) σ H Q) : liftA K t σ H fun vs H1 => r vs H1 Q := by
  obtain ⟨σ2, M, rs, rm, h⟩ := h
  exact lfA ht rs rm h fun us M1 vs H1 k1 r1 m1 s1 h1 => R.rf us vs M1 H1 Q r1 m1 (R.mo _ _ _ _ (fun u M' q => up_up k1 q) h1)
theorem qe_callB {id : String} {r : RL2} (hc : Call2 X (.builtin id) r) (hg : Gl X x) (hm : X.mg x = none) (hv : bootBuiltins x = some (.builtin id)) (ha : QA X (e :: es) t) (hn : x ≠ "__name__" := by decide) (hdb : (x == ("__debug__" : Str)) = false := by decide)
    (he : starEach (e :: es) X.env = (false, eval e X.env) :: starEach es X.env := by rfl) (hpl : (backTo pos (starEach es X.env)).any (·.1) = false := by rfl) : QE X (.Call (.Name x p) (e :: es) [] pos) (qCB r t) := by
  obtain ⟨r1, o1, R⟩ := hc.ex
  exact ⟨qCB_mo R.mo ha.mo, peW (pe_callB o1 hg hm hv ha.pe hn hdb he hpl) fun σ H Q h => qCB_lf R ha.mo h⟩
theorem qe_callTy {T : String} {r : RL2} (hc : Call2 X (.type T) r) (hg : Gl X x) (hm : X.mg x = none) (hv : bootBuiltins x = some (.type T)) (ha : QA X (e :: es) t) (hn : x ≠ "__name__" := by decide) (hdb : (x == ("__debug__" : Str)) = false := by decide)
    (he : starEach (e :: es) X.env = (false, eval e X.env) :: starEach es X.env := by rfl) (hpl : (backTo pos (starEach es X.env)).any (·.1) = false := by rfl) : QE X (.Call (.Name x p) (e :: es) [] pos) (qCB r t) := by
  obtain ⟨r1, o1, R⟩ := hc.ex
  exact ⟨qCB_mo R.mo ha.mo, peW (pe_callTy o1 hg hm hv ha.pe hn hdb he hpl) fun σ H Q h => qCB_lf R ha.mo h⟩
structure Ix2 (X : Cx) (r2 : RR2) : Prop where
  ex : ∃ r, IxR X r ∧ RefO X.K r r2
theorem qe_ix {r : RR2} (o : Ix2 X r) (ha : QE X a ta) (hb : QE X b tb) (hs : PlainIx b) : QE X (.Subscript a b pos) (qOp r ta tb) := by
  obtain ⟨r1, o1, R⟩ := o.ex
  exact ⟨qOp_mo R.mo ha.mo hb.mo, peW (pe_ix o1 ha.pe hb.pe hs) fun σ H Q h => qOp_lf R ha.mo hb.mo h⟩
noncomputable abbrev TO2 := St2 → Mem → (Option Int → Mem → Prop) → Prop
structure QO (X : Cx) (e : Option Expr) (t : TO2) : Prop where
  mo : ∀ σ M Q Q', (∀ u M', Q u M' → Q' u M') → t σ M Q → t σ M Q'
  pe : PO X e (fun σ H Q => ∃ σ2 M, RepS X.K H σ2 σ ∧ RepM X.K H M ∧ t σ2 M fun o M' => ∀ H', TK X.K H H' → RepM X.K H' M' → Q o H')
@[reducible] noncomputable def qNoPart : TO2 := fun _ M Q => Q none M
@[reducible] noncomputable def qPart (t : TE2) : TO2 := fun σ M Q => t σ M fun x M1 => match x with
  | .int i => Q (some i) M1
  | _ => False
theorem poW {e : Option Expr} {t t' : TO} (h : PO X e t) (i : ∀ σ H Q, t' σ H Q → t σ H Q) : PO X e t' := fun pins s σ H Q I q => h pins s σ H Q I (i σ H Q q)
theorem qo_none : QO X none qNoPart := ⟨fun σ M Q Q' k h => k _ _ h, poW po_none fun σ H Q z0 => exUp z0 fun σ2 M rs rm h => h H .refl rm⟩
theorem qo_some (h : QE X e te) : QO X (some e) (qPart te) := by
  refine ⟨fun σ M Q Q' k h' => h.mo _ _ _ _ (fun u M1 z => ?_) h', poW (po_some h.pe) fun σ H Q ⟨σ2, M, rs, rm, h'⟩ => ?_⟩
  · cases u with
    | int i => exact k _ _ z
    | _ => exact z
  refine lf h.mo rs rm h' fun x2 M1 x H1 k1 r1 m1 s1 h1 => ?_
  cases r1 with
  | int i => exact ⟨i, rfl, (show ∀ H', TK X.K H H' → RepM X.K H' M1 → Q (some i) H' from h1) H1 k1 m1⟩
  | _ => exact h1.elim
noncomputable abbrev RS2 := U → Option Int → Option Int → Mem → UK → Prop
structure Sl2 (X : Cx) (r2 : RS2) : Prop where
  ex : ∃ r, SlR X r ∧ (∀ x l u M Q Q', (∀ u M', Q u M' → Q' u M') → r2 x l u M Q → r2 x l u M Q') ∧ ∀ x2 x l u M H Q, Rep X.K H x2 x → RepM X.K H M → r2 x2 l u M (up X.K H Q) → r x l u H Q
@[reducible] noncomputable def qSl (r : RS2) (te : TE2) (tl th : TO2) : TE2 := fun σ M Q => te σ M fun x M1 => tl σ M1 fun l M2 => th σ M2 fun u M3 => r x l u M3 Q
theorem qe_slice {r : RS2} {lo hi : Option Expr} {tl th : TO2} {p2 : Pos} (o : Sl2 X r) (he : QE X e te) (hl : QO X lo tl) (hu : QO X hi th) : QE X (.Subscript e (.Slice lo hi none p2) pos) (qSl r te tl th) := by
  obtain ⟨r1, o1, mo, rf⟩ := o.ex
  refine ⟨fun σ M Q Q' k h => he.mo _ _ _ _ (fun x M1 => hl.mo _ _ _ _ fun l M2 => hu.mo _ _ _ _ fun u M3 => mo _ _ _ _ _ _ k) h, peW (pe_slice o1 he.pe hl.pe hu.pe) fun σ H Q z0 => exUp z0 fun σ2 M rs rm h => ?_⟩
  refine lf he.mo rs rm h fun x2 M1 x H1 k1 r1 m1 s1 h1 => ⟨σ2, M1, s1, m1, hl.mo _ _ _ _ (fun l M2 h2 H2 k2 m2 => ⟨σ2, M2, s1.up k2, m2, hu.mo _ _ _ _ (fun u M3 h3 H3 k3 m3 => ?_) h2⟩) h1⟩
  exact rf x2 x l u M3 H3 Q ((r1.up k2).up k3) m3 (mo _ _ _ _ _ _ (fun u M' q => up_up ((k1.trans k2).trans k3) q) h3)
end
section
variable {X : Cx} {e : Expr} {te : TE2} {pos : Pos} {st : Stmt} {rest : List Stmt} {t u : TS2}
@[reducible] noncomputable def qNext : TS2 := fun D σ M => D.nx σ M
@[reducible] noncomputable def qSeq (t u : TS2) : TS2 := fun D σ M => t { D with nx := u D } σ M
@[reducible] noncomputable def qCont : TS2 := fun D σ M => D.ct σ M
@[reducible] noncomputable def qDrop (te : TE2) : TS2 := fun D σ M => te σ M fun _ M1 => D.nx σ M1
@[reducible] noncomputable def qRet (te : TE2) : TS2 := fun D σ M => te σ M D.rt
@[reducible] noncomputable def qIfS (c : TT2) (t u : TS2) : TS2 := fun D σ M => c σ M fun b M1 => bE b (t D σ M1) (u D σ M1)
theorem qss_nil : QSs X [] qNext := ⟨fun D D' σ M l h => l.nx _ _ h, pssW pss_nil fun D σ H ⟨σ2, M, rs, rm, h⟩ => h σ H .refl rs rm⟩
theorem qss_one (h1 : QS X st t) : QSs X [st] t := ⟨h1.mo, pss_one h1.pe⟩
theorem qss_cons (h1 : QS X st t) (h2 : QSs X rest u) : QSs X (st :: rest) (qSeq t u) := by
  refine ⟨fun D D' σ M l h => h1.mo { D with nx := u D } { D' with nx := u D' } σ M ⟨fun σ M => h2.mo _ _ _ _ l, l.rt, l.bk, l.ct⟩ h, pssW (pss_cons h1.pe h2.pe) fun D σ H ⟨σ2, M, rs, rm, h⟩ => ⟨σ2, M, rs, rm, h1.mo { (upD X.K H D) with nx := u (upD X.K H D) } _ _ _ ?_ h⟩⟩
  exact ⟨fun s2 M1 q s1 H1 k r m => ⟨s2, M1, r, m, h2.mo _ _ _ _ (upD_up k) q⟩, fun _ _ q => q, fun _ _ q => q, fun _ _ q => q⟩
theorem qs_continue : QS X (.Continue pos) qCont := ⟨fun D D' σ M l h => l.ct _ _ h, psW ps_continue fun D σ H ⟨σ2, M, rs, rm, h⟩ => h σ H .refl rs rm⟩
theorem qs_expr (he : QE X e te) (hs : swapsWith e none pos.line X.env = pure false := by rfl) : QS X (.Expr e pos) (qDrop te) :=
  ⟨fun D D' σ M l h => he.mo _ _ _ _ (fun u M1 => l.nx _ _) h, psW (ps_expr he.pe hs) fun D σ H ⟨σ2, M, rs, rm, h⟩ => lf he.mo rs rm h fun u M1 v H1 k1 r1 m1 s1 h1 => h1 σ H1 k1 s1 m1⟩
theorem qs_ret (he : QE X e te) : QS X (.Return (some e) pos) (qRet te) :=
  ⟨fun D D' σ M l h => he.mo _ _ _ _ l.rt h, psW (ps_ret he.pe) fun D σ H h => h⟩
theorem qs_if {c : Expr} {a b : List Stmt} {tc : TT2} (hc : QT X c tc) (ha : QSs X a t) (hb : QSs X b u) : QS X (.If c a b pos) (qIfS tc t u) := by
  refine ⟨fun D D' σ M l h => hc.mo _ _ _ _ (fun b M1 => bE_mono (ha.mo _ _ _ _ l) (hb.mo _ _ _ _ l)) h, psW (ps_if hc.pe ha.pe hb.pe) fun D σ H z9 => ?_⟩
  obtain ⟨σ2, M, rs, rm, h⟩ := z9
  refine lfT hc.mo rs rm h fun c M1 H1 k1 m1 s1 h1 => ?_
  cases c with
  | true => rw [if_pos rfl]; exact ⟨σ2, M1, s1, m1, ha.mo _ _ _ _ (upD_up k1) h1⟩
  | false => rw [if_neg Bool.false_ne_true]; exact ⟨σ2, M1, s1, m1, hb.mo _ _ _ _ (upD_up k1) h1⟩
@[reducible] noncomputable def jName (i : Nat) : TG2 := fun u σ M Q => Q (sV σ i u) M
theorem pgW {tg : Expr} {t t' : TG} (h : PG X tg t) (i : ∀ v σ H Q, t' v σ H Q → t v σ H Q) : PG X tg t' := by
  unfold PG at h ⊢
  intros; apply h <;> first | assumption | (apply i; assumption)
theorem pgsW {tg : List Expr} {t t' : TGs} (h : PGs X tg t) (i : ∀ v σ H Q, t' v σ H Q → t v σ H Q) : PGs X tg t' := by
  unfold PGs at h ⊢
  intros; apply h <;> first | assumption | (apply i; assumption)
theorem qg_name {i : Nat} {x : Str} (hN : X.N.Nodup) (hi : X.N[i]? = some x) (hx : Loc X.env.scope x) (hf : X.fn x = true ∨ X.env.scope.names.lookup x = some .local := by first | exact .inl rfl | exact .inr rfl | assumption) : QG X (.Name x pos) (jName i) :=
  ⟨fun u σ M Q Q' k h => k _ _ h, pgW (pg_name hN hi hx hf) fun v σ H Q ⟨u, σ2, M, ru, rs, rm, h⟩ => h _ H .refl (rs.set ru i) rm⟩
@[reducible] noncomputable def jNil : TGs2 := fun us σ M Q => match us with
  | [] => Q σ M
  | _ => False
@[reducible] noncomputable def jCons (t : TG2) (u : TGs2) : TGs2 := fun us σ M Q => match us with
  | x :: r => t x σ M fun σ' M' => u r σ' M' Q
  | [] => False
theorem qgs_nil : QGs X [] jNil := by
  refine ⟨fun u σ M Q Q' k h => ?_, pgsW pgs_nil fun vs σ H Q ⟨us, σ2, M, ru, rs, rm, h⟩ => ?_⟩
  · cases u with
    | nil => exact k _ _ h
    | cons _ _ => exact h
  · cases ru with
    | nil => exact ⟨rfl, h σ H .refl rs rm⟩
    | cons _ _ => exact h.elim
theorem qgs_cons {es : List Expr} {t : TG2} {u : TGs2} (h1 : QG X e t) (h2 : QGs X es u) (hs : (assignEach (e :: es) X.env).map (·.2) = assign e X.env :: (assignEach es X.env).map (·.2) := by rfl) : QGs X (e :: es) (jCons t u) := by
  refine ⟨fun us σ M Q Q' k h => ?_, pgsW (pgs_cons h1.pe h2.pe hs) fun vs σ H Q ⟨us, σ2, M, ru, rs, rm, h⟩ => ?_⟩
  · cases us with
    | nil => exact h
    | cons x r => exact h1.mo _ _ _ _ _ (fun σ M => h2.mo _ _ _ _ _ k) h
  · cases ru with
    | nil => exact h.elim
    | cons r0 rr =>
      refine ⟨_, _, rfl, lfG h1.mo r0 rs rm h fun s2 M1 s1 H1 k1 r1 m1 q => ⟨_, s2, M1, rr.up k1, r1, m1, h2.mo _ _ _ _ _ (fun σ' M' z => upS_up k1 z) q⟩⟩
@[reducible] noncomputable def jTup (n : Nat) (t : TGs2) : TG2 := fun u σ M Q => match u with
  | .tup xs => xs.length = n ∧ t xs σ M Q
  | _ => False
theorem qg_tup {es : List Expr} {k : Nat} {t : TGs2} {n : Nat} (hc : X.calm = true) (h : QGs X es t)
    (hn : (assignEach es X.env).length = n := by rfl) (hst : (assignEach es X.env).findIdx? (·.1) = none := by rfl) : QG X (.Tuple es k pos) (jTup n t) := by
  refine ⟨fun u σ M Q Q' k h' => ?_, pgW (pg_tup hc h.pe hn hst) fun v σ H Q ⟨u, σ2, M, ru, rs, rm, h'⟩ => ?_⟩
  · cases u with
    | tup xs => exact ⟨h'.1, h.mo _ _ _ _ _ k h'.2⟩
    | _ => exact h'
  · cases ru with
    | tup sq r => exact ⟨_, _, rfl, sq, by rw [← r.len]; exact h'.1, ⟨_, σ2, M, r, rs, rm, h'.2⟩⟩
    | _ => exact h'.elim
@[reducible] noncomputable def qAsg (te : TE2) (g : TG2) : TS2 := fun D σ M => te σ M fun x M1 => g x σ M1 D.nx
theorem qs_asg {tg : Expr} {g : TG2} (he : QE X e te) (hg : QG X tg g) (hs : swapsWithSole [tg] e pos.line X.env = pure false := by rfl) (hw : swappedStores [tg] e X.env = pure none := by rfl)
    (h1 : (assignEach [tg] X.env).map (·.2) = [assign tg X.env] := by rfl) : QS X (.Assign [tg] e pos) (qAsg te g) :=
  ⟨fun D D' σ M l h => he.mo _ _ _ _ (fun x M1 => hg.mo _ _ _ _ _ l.nx) h, psW (ps_asg he.pe hg.pe hs hw h1) fun D σ H ⟨σ2, M, rs, rm, h⟩ =>
    lf he.mo rs rm h fun u M1 v H1 k1 r1 m1 s1 h1 => lfG hg.mo r1 s1 m1 h1 fun s2 M2 s1 H2 k2 r2 m2 q => q s1 H2 (k1.trans k2) r2 m2⟩
@[reducible] noncomputable def qSet (i : Nat) (te : TE2) : TS2 := fun D σ M => te σ M fun x M1 => D.nx (sV σ i x) M1
theorem qs_set {i : Nat} {x : Str} {pos' : Pos} (hN : X.N.Nodup) (hi : X.N[i]? = some x) (hx : Loc X.env.scope x) (he : QE X e te) (hs : swapsWith e (some (.Name x pos')) pos.line X.env = pure false := by rfl) (hf : X.fn x = true ∨ X.env.scope.names.lookup x = some .local := by first | exact .inl rfl | exact .inr rfl | assumption) :
    QS X (.Assign [.Name x pos'] e pos) (qSet i te) :=
  ⟨fun D D' σ M l h => he.mo _ _ _ _ (fun x M1 => l.nx _ _) h, psW (ps_set hN hi hx he.pe hs hf) fun D σ H ⟨σ2, M, rs, rm, h⟩ =>
    lf he.mo rs rm h fun u M1 v H1 k1 r1 m1 s1 h1 => h1 _ H1 k1 (s1.set r1 i) m1⟩
end
end L3
namespace L3
open PySem PySem.Spec PyProof.Rows L2
section
variable {X : Cx} {e o i : Expr} {te to ti : TE2} {pos : Pos}
noncomputable abbrev RSet2 := U → U → U → Mem → (Mem → Prop) → Prop
structure Set2 (X : Cx) (r2 : RSet2) : Prop where
  ex : ∃ r, PSet X r ∧ (∀ o i v M Q Q', (∀ M', Q M' → Q' M') → r2 o i v M Q → r2 o i v M Q') ∧
    ∀ o2 i2 v2 o i v M H Q, Rep X.K H o2 o → Rep X.K H i2 i → Rep X.K H v2 v → RepM X.K H M → r2 o2 i2 v2 M (fun M' => ∀ H', TK X.K H H' → RepM X.K H' M' → Q H') → r o i v H Q
@[reducible] noncomputable def jSub (to ti : TE2) (r : RSet2) : TG2 := fun v σ M Q => to σ M fun o M1 => ti σ M1 fun i M2 => r o i v M2 fun M3 => Q σ M3
theorem qg_sub {r : RSet2} (ho : QE X o to) (hi : QE X i ti) (s : Set2 X r)
    (ha : ∀ v, assign (.Subscript o i pos) X.env v = (do
      let ov ← holding [v] (eval o X.env)
      let iv ← holding [v, ov] (eval i X.env)
      standAt pos
      holding [v, ov, iv] (setItem ov iv v)
      release [v, ov, iv] []) := by intro _; rfl) : QG X (.Subscript o i pos) (jSub to ti r) := by
  obtain ⟨r1, o1, mo, rf⟩ := s.ex
  refine ⟨fun u σ M Q Q' k h => ho.mo _ _ _ _ (fun x M1 => hi.mo _ _ _ _ fun y M2 => mo _ _ _ _ _ _ fun M3 => k _ _) h, pgW (pg_sub ho.pe hi.pe o1 ha) fun v σ H Q z9 => ?_⟩
  obtain ⟨u, σ2, M, ru, rs, rm, h⟩ := z9
  refine lf ho.mo rs rm h fun x2 M1 x H1 k1 r1 m1 s1 h1 => lf hi.mo s1 m1 h1 fun y2 M2 y H2 k2 r2 m2 s2 h2 => ?_
  exact rf x2 y2 u x y v M2 H2 _ (r1.up k2) r2 ((ru.up k1).up k2) m2 (mo _ _ _ _ _ _ (fun M3 q H3 k3 m3 => q σ H3 ((k1.trans k2).trans k3) (s2.up k3) m3) h2)
structure Ip2 (X : Cx) (op : Operator) (r2 : RR2) : Prop where
  ex : ∃ r, PIp X op r ∧ RefO X.K r r2
@[reducible] noncomputable def qAug (n : Nat) (te : TE2) (r : RR2) : TS2 := fun D σ M => vE (gV σ n) fun x => te σ M fun y M1 => r x y M1 fun z M2 => D.nx (sV σ n z) M2
theorem qs_aug {n : Nat} {x : Str} {op : Operator} {r : RR2} {pos' : Pos} (hN : X.N.Nodup) (hi : X.N[n]? = some x) (hx : Loc X.env.scope x) (he : QE X e te) (ho : Ip2 X op r) (hf : X.fn x = true ∨ X.env.scope.names.lookup x = some .local := by first | exact .inl rfl | exact .inr rfl | assumption) :
    QS X (.AugAssign (.Name x pos') op e pos) (qAug n te r) := by
  obtain ⟨r1, o1, R⟩ := ho.ex
  refine ⟨fun D D' σ M l h => vE_mono (fun u => he.mo _ _ _ _ fun y M1 => R.mo _ _ _ _ _ fun z M2 => l.nx _ _) h, psW (ps_aug hN hi hx he.pe o1 hf) fun D σ H z9 => ?_⟩
  obtain ⟨σ2, M, rs, rm, h⟩ := z9
  obtain ⟨u, e1, h⟩ := vE_inv h
  obtain ⟨v, e2, ru⟩ := rs.get e1
  refine ⟨v, e2, lf he.mo rs rm h fun y2 M1 y H1 k1 r1 m1 s1 h1 => ?_⟩
  exact R.rf u y2 v y M1 H1 _ (ru.up k1) r1 m1 (R.mo _ _ _ _ _ (fun z2 M2 q z H2 k2 r2 m2 => q _ H2 (k1.trans k2) ((s1.up k2).set r2 n) m2) h1)
@[reducible] noncomputable def oS {α : Type} (o : Option α) (B : Prop) (f : α → Prop) : Prop := match o with
  | some a => f a
  | none => B
noncomputable def Walk (chk : Mem → Prop) (g : TG2) (tb : TS2) (xs : List U) (D : Ends2) (σ : St2) (M : Mem) : Prop :=
  ∃ W : Nat → St2 → Mem → Prop, W 0 σ M ∧ ∀ i σ M, i ≤ xs.length → W i σ M → chk M ∧ oS (xs[i]?) (D.nx σ M) fun x => g x σ M fun σ1 M1 =>
    tb { D with nx := fun σ' M' => ∃ M2, Le M2 M' ∧ W (i + 1) σ' M2, ct := fun σ' M' => ∃ M2, Le M2 M' ∧ W (i + 1) σ' M2, bk := D.nx } σ1 M1
@[reducible] noncomputable def qFor (wi : TI2) (g : TG2) (tb : TS2) : TS2 := fun D σ M => wi σ M fun xs chk M1 => Walk chk g tb xs D σ M1
theorem Walk_mo {chk : Mem → Prop} {g : TG2} {tb : TS2} {xs : List U} (hg : MoG g) (hb : MoS tb) {D D' : Ends2} (l : Ends2.Le D D') {σ : St2} {M : Mem} (h : Walk chk g tb xs D σ M) : Walk chk g tb xs D' σ M := by
  obtain ⟨W, w0, ws⟩ := h
  refine ⟨W, w0, fun i σ M hi w => ?_⟩
  obtain ⟨c, q⟩ := ws i σ M hi w
  refine ⟨c, ?_⟩
  cases e : xs[i]? with
  | none => rw [e] at q; exact l.nx _ _ q
  | some x =>
    rw [e] at q
    refine hg _ _ _ _ _ (fun σ1 M1 z => ?_) q
    exact hb _ _ _ _ (Ends2.Le.mk (D := { D with nx := fun σ' M' => ∃ M2, Le M2 M' ∧ W (i + 1) σ' M2, ct := fun σ' M' => ∃ M2, Le M2 M' ∧ W (i + 1) σ' M2, bk := D.nx }) (fun _ _ z => z) l.rt l.nx (fun _ _ z => z)) z
theorem qs_for {tg iter : Expr} {body : List Stmt} {wi : TI2} {g : TG2} {tb : TS2} (hp : PassesOwn (model X.prog X.w) X.A X.env X.xe) (hc : X.calm = true) (hi : QI X tg iter wi) (hg : QG X tg g) (hb : QSs X body tb)
    (hs : ∀ x, foldedSetIterable iter X.env x = pure x := by intro _; rfl) : QS X (.For tg iter body [] pos) (qFor wi g tb) := by
  refine ⟨fun D D' σ M l h => hi.mo _ _ _ _ (fun xs chk M1 => Walk_mo hg.mo hb.mo l) h, psW (ps_for hp hc hi.pe hg.pe hb.pe hs) fun D σ H z9 => ?_⟩
  obtain ⟨σ2, M, rs, rm, h⟩ := z9
  refine lfI hi.mo rs rm h fun xs chk M1 J H1 k1 m1 s1 io h1 => ?_
  obtain ⟨W, w0, ws⟩ := h1
  let N : Nat → St → Hp → Prop := fun i σ H => i ≤ xs.length ∧ ∃ s2 M, RepS X.K H s2 σ ∧ RepM X.K H M ∧ TK X.K H1 H ∧ W i s2 M
  refine ⟨fun i m σ H => m = xs.length - i ∧ N i σ H, ⟨_, rfl, Nat.zero_le _, σ2, M1, s1, m1, .refl, w0⟩, ?_⟩
  rintro i m s Hi ⟨rfl, hl, s2, Mi, ri, mi, ki, wi'⟩
  obtain ⟨ck, q⟩ := ws i s2 Mi hl wi'
  obtain ⟨js, jg⟩ := io i Hi Mi ki mi ck
  cases e : xs[i]? with
  | none =>
    rw [e] at q
    have el : xs.length = i := by have := List.getElem?_eq_none_iff.mp e; omega
    exact .inl ⟨js el, q s Hi (k1.trans ki) ri mi⟩
  | some x =>
    rw [e] at q
    have hlt : i < xs.length := (List.getElem?_eq_some_iff.mp e).1
    obtain ⟨go, yl⟩ := jg x e
    refine .inr ⟨go, N (i + 1), fun s' H' n => ⟨xs.length - (i + 1), by omega, rfl, n⟩, fun v H' y => ?_⟩
    obtain ⟨k', m', r'⟩ := yl v H' y
    refine lfG hg.mo r' (ri.up k') m' q fun t2 M2 t H2 k2 r2 m2 q2 => ⟨t2, M2, r2, m2, hb.mo _ _ _ _ ?_ q2⟩
    have kk := ((k1.trans ki).trans k').trans k2
    refine ⟨?_, fun u M3 z => up_up kk z, fun t3 M3 z => upS_up kk z, ?_⟩
    · rintro t3 M3 ⟨M4, l, w⟩ t4 H3 k3 r3 m3
      exact ⟨hlt, t3, M4, r3, m3.le l, ((ki.trans k').trans k2).trans k3, w⟩
    · rintro t3 M3 ⟨M4, l, w⟩ t4 H3 k3 r3 m3
      exact ⟨hlt, t3, M4, r3, m3.le l, ((ki.trans k').trans k2).trans k3, w⟩
noncomputable def Loop (c : TT2) (tb : TS2) (D : Ends2) (σ : St2) (M : Mem) : Prop :=
  ∃ W : Nat → St2 → Mem → Prop, (∃ m, W m σ M) ∧ ∀ m σ M, W m σ M → c σ M fun b M1 => bE b
    (tb { D with nx := fun σ' M' => ∃ m' M2, m' < m ∧ Le M2 M' ∧ W m' σ' M2, ct := fun σ' M' => ∃ m' M2, m' < m ∧ Le M2 M' ∧ W m' σ' M2, bk := D.nx } σ M1) (D.nx σ M1)
@[reducible] noncomputable def qWhile (c : TT2) (tb : TS2) : TS2 := fun D σ M => Loop c tb D σ M
theorem qs_while {c : Expr} {body : List Stmt} {tc : TT2} {tb : TS2} (hp : PassesOwn (model X.prog X.w) X.A X.env X.xe) (hc : QT X c tc) (hb : QSs X body tb) : QS X (.While c body [] pos) (qWhile tc tb) := by
  refine ⟨fun D D' σ M l ⟨W, w0, ws⟩ => ⟨W, w0, fun m σ M w => hc.mo _ _ _ _ (fun b M1 => bE_mono (hb.mo _ _ _ _ (Ends2.Le.mk (D := { D with nx := fun σ' M' => ∃ m' M2, m' < m ∧ Le M2 M' ∧ W m' σ' M2, ct := fun σ' M' => ∃ m' M2, m' < m ∧ Le M2 M' ∧ W m' σ' M2, bk := D.nx }) (fun _ _ z => z) l.rt l.nx (fun _ _ z => z))) (l.nx _ _)) (ws m σ M w)⟩, psW (ps_while hp hc.pe hb.pe) fun D σ H z9 => ?_⟩
  obtain ⟨σ2, M, rs, rm, h⟩ := z9
  obtain ⟨W, ⟨m0, w0⟩, ws⟩ := h
  refine ⟨fun m s Hs => ∃ s2 M, RepS X.K Hs s2 s ∧ RepM X.K Hs M ∧ TK X.K H Hs ∧ W m s2 M, ⟨m0, σ2, M, rs, rm, .refl, w0⟩, ?_⟩
  rintro m s Hs ⟨s2, Ms, ri, mi, ki, w⟩
  refine lfT hc.mo ri mi (ws m s2 Ms w) fun b M1 H1 k1 m1 s1 h1 => ?_
  cases b with
  | false => rw [if_neg Bool.false_ne_true]; exact (show upS X.K H D.nx s2 M1 from h1) s H1 (ki.trans k1) s1 m1
  | true =>
    rw [if_pos rfl]
    refine ⟨fun s' H' => ∃ m', m' < m ∧ ∃ s2 M, RepS X.K H' s2 s' ∧ RepM X.K H' M ∧ TK X.K H H' ∧ W m' s2 M, fun s' H' z => z, ⟨s2, M1, s1, m1, hb.mo _ _ _ _ ?_ h1⟩⟩
    have kk := ki.trans k1
    refine ⟨?_, fun u M3 z => up_up kk z, fun t3 M3 z => upS_up kk z, ?_⟩
    · rintro t3 M3 ⟨m', M4, hm, l, w⟩ t4 H3 k3 r3 m3
      exact ⟨m', hm, t3, M4, r3, m3.le l, kk.trans k3, w⟩
    · rintro t3 M3 ⟨m', M4, hm, l, w⟩ t4 H3 k3 r3 m3
      exact ⟨m', hm, t3, M4, r3, m3.le l, kk.trans k3, w⟩
theorem qf_nil : QF X [] (fun _ M Q => Q true M) := ⟨fun σ M Q Q' k h => k _ _ h, pfW pf_nil fun σ H Q z0 => exUp z0 fun σ2 M rs rm h => h H .refl rm⟩
theorem qf_one {c : Expr} {t : TT2} (h : QT X c t) : QF X [c] t := ⟨h.mo, pf_one h.pe⟩
noncomputable def Comp (chk : Mem → Prop) (g : TG2) (tc : TT2) (te : TE2) (xs : List U) (Q : UK) (σ : St2) (M : Mem) : Prop :=
  xs.length ≤ sizeLine ∧ ∃ W : Nat → List U → St2 → Mem → Prop, W 0 [] σ M ∧ ∀ i ys σ M, i ≤ xs.length → ys.length ≤ i → W i ys σ M → chk M ∧ oS (xs[i]?) (∀ p, M p = none → Q (.ref p) (put M p (.lst ys))) fun x => g x σ M fun σ1 M1 =>
    tc σ1 M1 fun b M2 => bE b (te σ1 M2 fun y M3 => ∃ M4, Le M4 M3 ∧ W (i + 1) (ys ++ [y]) σ1 M4) (∃ M4, Le M4 M2 ∧ W (i + 1) ys σ1 M4)
@[reducible] noncomputable def qComp (wi : TI2) (ix : List (Option Nat)) (g : TG2) (tc : TT2) (te : TE2) : TE2 := fun σ M Q => wi σ M fun xs chk M1 => Comp chk g tc te xs Q (blk2 ix σ) M1
theorem Comp_mo {chk : Mem → Prop} {g : TG2} {tc : TT2} {te : TE2} {xs : List U} {Q Q' : UK} (k : ∀ u M', Q u M' → Q' u M') {σ : St2} {M : Mem} (h : Comp chk g tc te xs Q σ M) : Comp chk g tc te xs Q' σ M := by
  obtain ⟨n, W, w0, ws⟩ := h
  refine ⟨n, W, w0, fun i ys σ M hi hy w => ?_⟩
  obtain ⟨c, q⟩ := ws i ys σ M hi hy w
  refine ⟨c, ?_⟩
  cases e : xs[i]? with
  | none => rw [e] at q; exact fun p hp => k _ _ (q p hp)
  | some x => rw [e] at q; exact q
theorem comp_lf {K : Frag} {wi : TI2} {ix : List (Option Nat)} {g : TG2} {tc : TT2} (mi : MoI wi) (mg : MoG g) (mc : MoT tc) (me : MoE te) {σ : St} {H : Hp} {Q : VK} (h : lift K (qComp wi ix g tc te) σ H Q) :
    tComp (liftI K wi) ix (liftG K g) (liftT K tc) (lift K te) σ H Q := by
  obtain ⟨σ2, M, rs, rm, h⟩ := h
  refine lfI mi rs rm h fun xs chk M1 J H1 k1 m1 s1 io h1 => ?_
  obtain ⟨hn, W, w0, ws⟩ := h1
  let N : Nat → List V → St → Hp → Prop := fun i vs σ H => i ≤ xs.length ∧ ∃ us s2 M, RepAll K H us vs ∧ RepS K H s2 σ ∧ RepM K H M ∧ TK K H1 H ∧ W i us s2 M
  refine ⟨N, xs.length, hn, ⟨Nat.zero_le _, [], _, M1, .nil, s1.blk ix, m1, .refl, w0⟩, ?_⟩
  rintro i vs s Hi ⟨hl, us, s2, Mi, ru, ri, mi, ki, w⟩ hv
  obtain ⟨ck, q⟩ := ws i us s2 Mi hl (by rw [ru.len]; exact hv) w
  obtain ⟨js, jg⟩ := io i Hi Mi ki mi ck
  cases e : xs[i]? with
  | none =>
    rw [e] at q
    have el : xs.length = i := by have := List.getElem?_eq_none_iff.mp e; omega
    refine .inl ⟨js el, fun p hp => ?_⟩
    have kn := TK.new (K := K) (o := .lst vs) hp
    exact q p (mi.free hp) (.ref p) _ ((k1.trans ki).trans kn) (.ref p) (mi.write kn ⟨vs, upd_same, ru.up kn⟩)
  | some x =>
    rw [e] at q
    have hlt : i < xs.length := (List.getElem?_eq_some_iff.mp e).1
    obtain ⟨go, yl⟩ := jg x e
    refine .inr ⟨go, hlt, N (i + 1), fun _ _ _ z => z, fun v H' y => ?_⟩
    obtain ⟨k', m', r'⟩ := yl v H' y
    refine lfG mg r' (ri.up k') m' q fun t2 M2 t H2 k2 r2 m2 q2 => lfT mc r2 m2 q2 fun b M3 H3 k3 m3 r3 q3 => ?_
    have kk := ((ki.trans k').trans k2).trans k3
    have ru' := ((ru.up k').up k2).up k3
    cases b with
    | false =>
      rw [if_neg Bool.false_ne_true]
      obtain ⟨M4, l, w4⟩ := q3
      exact ⟨hlt, us, t2, M4, ru', r3, m3.le l, kk, w4⟩
    | true =>
      rw [if_pos rfl]
      refine lf me r3 m3 q3 fun y2 M5 y5 H5 k5 r5 m5 s5 q5 => ?_
      obtain ⟨M4, l, w4⟩ := q5
      exact ⟨hlt, us ++ [y2], t2, M4, (ru'.up k5).app (.cons r5 .nil), s5, m5.le l, kk.trans k5, w4⟩
section
variable {elt tg iter : Expr} {ifs : List Expr} {scope : Scope} {N : List Str} {ix : List (Option Nat)} {wi : TI2} {g : TG2} {tc : TT2}
theorem qe_comp (hc : X.calm = true) (hi : QI X tg iter wi)
    (hg : ∀ (cl : List (Str × Addr)) (C : Addr) (s : Shared) (H : Hp) (ex : List Addr), QG (X.blk N scope cl C s H ex) tg g)
    (hf : ∀ (cl : List (Str × Addr)) (C : Addr) (s : Shared) (H : Hp) (ex : List Addr), QF (X.blk N scope cl C s H ex) ifs tc)
    (he : ∀ (cl : List (Str × Addr)) (C : Addr) (s : Shared) (H : Hp) (ex : List Addr), QE (X.blk N scope cl C s H ex) elt te)
    (hb : blkOk X.env.scope.names X.N N scope ix = true) (hs : ∀ x, foldedSetIterable iter X.env x = pure x := by intro _; rfl) :
    QE X (.ListComp elt [⟨tg, iter, ifs, 0⟩] scope pos) (qComp wi ix g tc te) := by
  have d0 : Shared := X.s₀
  have g0 := (hg [] 0 X.s₀ X.H₀ []).mo
  have f0 := (hf [] 0 X.s₀ X.H₀ []).mo
  have e0 := (he [] 0 X.s₀ X.H₀ []).mo
  refine ⟨fun σ M Q Q' k h => hi.mo _ _ _ _ (fun xs chk M1 => Comp_mo k) h, peW (pe_comp (N := N) (ix := ix) (g := liftG X.K g) (tc := liftT X.K tc) (te := lift X.K te) hc hi.pe (fun cl C s H ex => (hg cl C s H ex).pe) (fun cl C s H ex => (hf cl C s H ex).pe) (fun cl C s H ex => (he cl C s H ex).pe) hb hs) fun σ H Q h => comp_lf hi.mo g0 f0 e0 h⟩
theorem qs_setc {i : Nat} {x : Str} {pos' spos : Pos} (hc : X.calm = true) (hN : X.N.Nodup) (hix : X.N[i]? = some x) (hx : X.env.scope.names.lookup x = some .local)
    (hsw : ∃ b, swapsWith (.ListComp elt [⟨tg, iter, ifs, 0⟩] scope pos) (some (.Name x pos')) spos.line X.env = pure b) (hi : QI X tg iter wi)
    (hg : ∀ (cl : List (Str × Addr)) (C : Addr) (s : Shared) (H : Hp) (ex : List Addr), QG (X.blk N scope cl C s H ex) tg g)
    (hf : ∀ (cl : List (Str × Addr)) (C : Addr) (s : Shared) (H : Hp) (ex : List Addr), QF (X.blk N scope cl C s H ex) ifs tc)
    (he : ∀ (cl : List (Str × Addr)) (C : Addr) (s : Shared) (H : Hp) (ex : List Addr), QE (X.blk N scope cl C s H ex) elt te)
    (hb : blkOk X.env.scope.names X.N N scope ix = true) (hs : ∀ x, foldedSetIterable iter X.env x = pure x := by intro _; rfl) :
    QS X (.Assign [.Name x pos'] (.ListComp elt [⟨tg, iter, ifs, 0⟩] scope pos) spos) (qSet i (qComp wi ix g tc te)) := by
  have Q := qe_comp (pos := pos) hc hi hg hf he hb hs
  obtain ⟨b, hsw⟩ := hsw
  cases b with
  | false => exact qs_set hN hix (.inl hx) Q hsw (.inr hx)
  | true =>
    have g0 := (hg [] 0 X.s₀ X.H₀ []).mo
    have f0 := (hf [] 0 X.s₀ X.H₀ []).mo
    have e0 := (he [] 0 X.s₀ X.H₀ []).mo
    refine ⟨fun D D' σ M l h => Q.mo _ _ _ _ (fun x M1 => l.nx _ _) h, psW (ps_setc (N := N) (ix := ix) (g := liftG X.K g) (tc := liftT X.K tc) (te := lift X.K te) hc hN hix hx hi.pe (fun cl C s H ex => (hg cl C s H ex).pe) (fun cl C s H ex => (hf cl C s H ex).pe) (fun cl C s H ex => (he cl C s H ex).pe) hb hsw hs) fun D σ H z9 => ?_⟩
    obtain ⟨σ2, M, rs, rm, h⟩ := z9
    refine comp_lf hi.mo g0 f0 e0 (Q := fun x H1 => gName i x σ H1 D.nx) ⟨σ2, M, rs, rm, Q.mo _ _ _ _ (fun u M1 q v H1 k r m => ?_) h⟩
    exact q _ H1 k ((rs.up k).set r i) m
end
end
end L3
namespace L3
open PySem PySem.Spec PyProof.Rows L2
noncomputable abbrev Sp2 := List U → Mem → UK → Prop
noncomputable def liftSp (K : Frag) (sp : Sp2) : Sp := fun vs H Q _ => ∃ us M, RepAll K H us vs ∧ RepM K H M ∧ sp us M (up K H Q)
noncomputable def MoSp (sp : Sp2) : Prop := ∀ us M Q Q', (∀ u M', Q u M' → Q' u M') → sp us M Q → sp us M Q'
structure Cal2 (P : Program) (w : World) (K : Frag) (mg : Str → Option Value) (base : Heap) (k : Nat) (x : Str) (ps : List Str) (sp : Sp2) : Prop where
  mo : MoSp sp
  cal : Cal P w K mg base k x ps (liftSp K sp)
theorem Cal2.mono {P : Program} {w : World} {K : Frag} {mg : Str → Option Value} {base : Heap} {j k : Nat} {x : Str} {ps : List Str} {sp : Sp2} (C : Cal2 P w K mg base j x ps sp) (h : j ≤ k) : Cal2 P w K mg base k x ps sp := ⟨C.mo, C.cal.mono h⟩
noncomputable def Clo (Q : UK) : Prop := ∀ u M M', Le M M' → Q u M → Q u M'
theorem up_clo {K : Frag} {H : Hp} {Q : VK} : Clo (up K H Q) := fun _ _ _ l h => up_le l h
section
variable {X : Cx} {k : Nat} {x m : Str} {C : Addr} {ps : List Str} {sp : Sp2} {e o : Expr} {es : List Expr} {ta : TE2} {t : TA2} {p pos apos : Pos}
@[reducible] noncomputable def qCall (sp : Sp2) (t : TA2) : TE2 := fun σ M Q => t σ M fun us M1 => sp us M1 Q
theorem qCall_mo (ms : MoSp sp) (mt : MoA t) : MoE (qCall sp t) := fun σ M Q Q' k h => mt _ _ _ _ (fun us M1 => ms _ _ _ _ k) h
theorem qCall_lf {K : Frag} (ms : MoSp sp) (mt : MoA t) {σ : St} {H : Hp} {Q : VK} (h : lift K (qCall sp t) σ H Q) : tCall (liftSp K sp) [] E0 (liftA K t) σ H Q := by
  obtain ⟨σ2, M, rs, rm, h⟩ := h
  exact lfA mt rs rm h fun us M1 vs H1 k1 r1 m1 s1 h1 => ⟨us, M1, by rw [List.append_nil]; exact r1, m1, ms _ _ _ _ (fun u M' q => up_up k1 q) h1⟩
theorem qe_call (Ca : Cal2 X.prog X.w X.K X.mg X.base k x ps sp) (hr : Room k X.A) (hg : Gl X x) (ha : QA X (e :: es) t) (hdb : (x == ("__debug__" : Str)) = false := by decide)
    (he : starEach (e :: es) X.env = (false, eval e X.env) :: starEach es X.env := by rfl) (hpl : (backTo pos (starEach es X.env)).any (·.1) = false := by rfl) : QE X (.Call (.Name x p) (e :: es) [] pos) (qCall sp t) :=
  ⟨qCall_mo Ca.mo ha.mo, peW (pe_callC Ca.cal hr hg ha.pe hdb he hpl) fun σ H Q h => qCall_lf Ca.mo ha.mo h⟩
theorem qe_call0 (Ca : Cal2 X.prog X.w X.K X.mg X.base k x ps sp) (hr : Room k X.A) (hg : Gl X x) (hdb : (x == ("__debug__" : Str)) = false := by decide) : QE X (.Call (.Name x p) [] [] pos) (qCall sp qNil) := by
  refine ⟨qCall_mo Ca.mo (fun σ M Q Q' k h => k _ _ h), peW (pe_callC0 Ca.cal hr hg hdb) fun σ H Q z0 => exUp z0 fun σ2 M rs rm h => ?_⟩
  exact ⟨[], M, .nil, rm, h⟩
end
theorem fn2 {P : Program} {w : World} {K : Frag} {mg : Str → Option Value} {base : Heap} {x qual : Str} {st : Stmt} {f : Addr} {fd : FuncData} {N ps : List Str} {k : Nat} {sp : Sp2} (F : Fun K x qual st f fd) (S : FnScope N ps (defScope st)) (len : ∀ us M Q, sp us M Q → us.length = ps.length)
    (hbody : ∀ (cdv : Value) (A : Around) (outer : List Env) (s : Shared) (H : Hp) (E : XK), Room k (A.deeper (envOfC qual (defScope st) s.heap.objs.size f cdv)) →
      ∃ t, QSs (cxOf CX0 P w K mg base N qual (defScope st) f cdv A outer s H E).nox (defBody st) t ∧ ∀ us M Q, Clo Q → sp us M Q → t { nx := fun _ M' => Q .non M', rt := Q } (start2 N us) M) : FnOk P w K mg base CX0 (k + 1) f fd ps (liftSp K sp) := by
  refine F.ok S (fun vs H Q E h => ?_) fun cdv A outer s H vs Q E hr h => ?_
  · obtain ⟨us, M, r, m, h⟩ := h
    rw [← r.len]; exact len _ _ _ h
  · obtain ⟨us, M, r, m, h⟩ := h
    obtain ⟨t, T, q⟩ := hbody cdv A outer s H E hr
    refine ⟨_, T.pe, ?_⟩
    refine ⟨start2 N us, M, RepS.strt N r, m, T.mo _ _ _ _ ?_ (q us M (up K H Q) up_clo h)⟩
    exact ⟨fun σ M' z σ' H' k _ m' => z .non H' k .non m', fun u M' z => z, fun _ _ z => z.elim, fun _ _ z => z.elim⟩
theorem len1 {α : Type} {l : List α} (h : l.length = 1) : ∃ a0, l = [a0] := List.length_eq_one_iff.mp h
theorem len2 {α : Type} {l : List α} (h : l.length = 2) : ∃ a0 a1, l = [a0, a1] := by
  cases l with
  | nil => cases h
  | cons b0 l => obtain ⟨b1, rfl⟩ := len1 (Nat.succ.inj h); exact ⟨b0, b1, rfl⟩
theorem len3 {α : Type} {l : List α} (h : l.length = 3) : ∃ a0 a1 a2, l = [a0, a1, a2] := by
  cases l with
  | nil => cases h
  | cons b0 l => obtain ⟨b1, b2, rfl⟩ := len2 (Nat.succ.inj h); exact ⟨b0, b1, b2, rfl⟩
theorem cal2 {P : Program} {w : World} {K : Frag} {mg : Str → Option Value} {base : Heap} {x : Str} {st : Stmt} {N ps : List Str} {k : Nat} {sp : Sp2} (F : FunM K mg x st) (S : FnScope N ps (defScope st)) (mo : MoSp sp) (len : ∀ us M Q, sp us M Q → us.length = ps.length)
    (hb : ∀ (kV doc pm : Value) (an : Option Addr) (cdv ct : Value) (us : List Value), us.length = ps.length → bindArgs (PySem.W.fnOf x x (defArgs st) (defBody st) (defScope st) .none kV doc pm an cdv ct) ⟨us, []⟩ = pure (ps.zip us))
    (hbody : ∀ (f : Addr) (cdv : Value) (A : Around) (outer : List Env) (s : Shared) (H : Hp) (E : XK), Room k (A.deeper (envOfC x (defScope st) s.heap.objs.size f cdv)) →
      ∃ t, QSs (cxOf CX0 P w K mg base N x (defScope st) f cdv A outer s H E).nox (defBody st) t ∧ ∀ us M Q, Clo Q → sp us M Q → t { nx := fun _ M' => Q .non M', rt := Q } (start2 N us) M) : Cal2 P w K mg base (k + 1) x ps sp := by
  obtain ⟨f, fd, G, hm⟩ := F.ex
  exact ⟨mo, ⟨f, fd, fn2 G S len (hbody f), hm, G.kp, G.binds hb⟩⟩
section
variable {X : Cx} {k : Nat} {x m f : Str} {C : Addr} {ps : List Str} {sp : Sp2} {e o value : Expr} {es : List Expr} {ta tv : TE2} {t : TA2} {p pos apos pos' : Pos}
end
noncomputable abbrev RM2 := U → List U → Mem → UK → Prop
@[reducible] noncomputable def isT (T : String) (x : U) (M : Mem) : Prop := match x with
  | .str _ => T = "str"
  | .ref a => T = "list" ∧ ∃ xs, M a = some (.lst xs)
  | _ => False
@[reducible] noncomputable def qBm (T : String) (r : RM2) (to : TE2) (t : TA2) : TE2 := fun σ M Q => to σ M fun x M1 => isT T x M1 ∧ t σ M1 fun xs M2 => r x xs M2 Q
section
variable {X : Cx} {o e : Expr} {es : List Expr} {to : TE2} {t : TA2} {apos cpos : Pos} {T id : String} {name : Str} {r : RM2}
theorem isT_ty {K : Frag} {H : Hp} {M : Mem} {u : U} {v : V} (h : isT T u M) (r : Rep K H u v) (m : RepM K H M) : tyV K T v H := by
  cases r with
  | str x => exact h
  | ref a => obtain ⟨e, xs, q⟩ := h; obtain ⟨ys, e2, _⟩ := m a _ q; exact .inl ⟨e, ys, .inl (.inl e2)⟩
  | _ => exact h.elim
theorem qBm_lf {K : Frag} {r1 : V → List V → Hp → VK → Prop} (mo : ∀ x xs M Q Q', (∀ u M', Q u M' → Q' u M') → r x xs M Q → r x xs M Q') (rf : ∀ x2 xs2 x xs M H Q, Rep K H x2 x → RepAll K H xs2 xs → RepM K H M → r x2 xs2 M (up K H Q) → r1 x xs H Q) (m1 : MoE to) (m2 : MoA t)
    {σ : St} {H : Hp} {Q : VK} (h : lift K (qBm T r to t) σ H Q) : tBM K T r1 (lift K to) (liftA K t) σ H Q := by
  obtain ⟨σ2, M, rs, rm, h⟩ := h
  refine lf m1 rs rm h fun x2 M1 x H1 k1 r1 m1 s1 h1 => ⟨isT_ty h1.1 r1 m1, lfA m2 s1 m1 h1.2 fun us M2 vs H2 k2 r2 m2 s2 h2 => ?_⟩
  exact rf x2 us x vs M2 H2 Q (r1.up k2) r2 m2 (mo _ _ _ _ _ (fun u M' q => up_up (k1.trans k2) q) h2)
structure Mr2 (X : Cx) (id : String) (r2 : RM2) : Prop where
  ex : ∃ r, MtR X id r ∧ (∀ x xs M Q Q', (∀ u M', Q u M' → Q' u M') → r2 x xs M Q → r2 x xs M Q') ∧
    ∀ x2 xs2 x xs M H Q, Rep X.K H x2 x → RepAll X.K H xs2 xs → RepM X.K H M → r2 x2 xs2 M (up X.K H Q) → r x xs H Q
theorem qe_bm (pa : PlainAttrs T) (slot : Slot T name id) (hty : typeOf (.builtin id) = pure (.type "method_descriptor")) (hm : Mr2 X id r) (ho : QE X o to) (ha : QA X (e :: es) t)
    (hbase : attributeBase o name X.env (eval o X.env) = eval o X.env := by rfl)
    (hfew : ((backTo cpos (starEach (e :: es) X.env)).all (fun x => !x.1) && (backToKw cpos (keywordEach [] X.env)).all (fun x => x.1.isSome)
      && decide ((e :: es).length + ([] : List Keyword).length + (if ([] : List Keyword).isEmpty then 0 else 1) < 30)) = true := by rfl)
    (hline : (apos.endLine == cpos.line) = true := by rfl) (hs : starEach (e :: es) X.env = (false, eval e X.env) :: starEach es X.env := by rfl) (hplain : (backTo cpos (starEach es X.env)).any (·.1) = false := by rfl) :
    QE X (.Call (.Attribute o name apos) (e :: es) [] cpos) (qBm T r to t) := by
  obtain ⟨r1, o1, mo, rf⟩ := hm.ex
  exact ⟨fun σ M Q Q' k h => ho.mo _ _ _ _ (fun x M1 z => ⟨z.1, ha.mo _ _ _ _ (fun xs M2 => mo _ _ _ _ _ k) z.2⟩) h, peW (pe_bm pa slot hty o1 ho.pe ha.pe hbase hfew hline hs hplain) fun σ H Q h => qBm_lf mo rf ho.mo ha.mo h⟩
theorem lstTK {K : Frag} {H : Hp} {a : Addr} {ys zs : List V} (e : H a = some (.lst ys)) : TK K H (upd H a (.lst zs)) := TK.write e (fun _ z => by cases z) (fun _ _ z => by cases z)
end
end L3
namespace L3
open PySem PySem.Spec PyProof.Rows L2
section
variable {X : Cx} {f : Value → Value → Sem Value}
@[reducible] noncomputable def r_fdiv : RR2 := fun x y M Q => match x, y with
  | .int i, .int j => CDiv i j ∧ Q (.int (i / j)) M
  | _, _ => False
@[reducible] noncomputable def r_mod : RR2 := fun x y M Q => match x, y with
  | .int i, .int j => 0 < j ∧ Q (.int (i % j)) M
  | _, _ => False
@[reducible] noncomputable def r_mulI : RR2 := fun x y M Q => match x, y with
  | .int i, .int j => IntMulOk i j ∧ Q (.int (i * j)) M
  | _, _ => False
theorem op_mulC : OpR X (binaryOp .Mult) (rI IntMulOk fun i j => .int (i * j)) := opI fun _ _ _ _ _ _ _ hc q => mul_int q hc
@[reducible] noncomputable def r_addI : RR2 := fun x y M Q => match x, y with
  | .int i, .int j => Q (.int (i + j)) M
  | _, _ => False
@[reducible] noncomputable def r_lt : RR2 := fun x y M Q => match x, y with
  | .int i, .int j => Q (.bl (decide (i < j))) M
  | _, _ => False
@[reducible] noncomputable def r_le : RR2 := fun x y M Q => match x, y with
  | .int i, .int j => Q (.bl (decide (i ≤ j))) M
  | _, _ => False
@[reducible] noncomputable def r_gt : RR2 := fun x y M Q => match x, y with
  | .int i, .int j => Q (.bl (decide (j < i))) M
  | _, _ => False
mutual
inductive Dat (M : Mem) : U → PyData → Prop
  | non : Dat M .non .none
  | bl (b : Bool) : Dat M (.bl b) (.bool b)
  | int (i : Int) : Dat M (.int i) (.int i)
  | str (x : Str) (h : PyData.strOk x = true) : Dat M (.str x) (.str x)
  | tup {xs : List U} {ds : List PyData} : DatAll M xs ds → Dat M (.tup xs) (.tuple ds)
  | fl {xs : List U} {ds : List PyData} : DatAll M xs ds → Dat M (.fl xs) (.list ds)
  | lst {a : Addr} {xs : List U} {ds : List PyData} : M a = some (.lst xs) → DatAll M xs ds → Dat M (.ref a) (.list ds)
inductive DatAll (M : Mem) : List U → List PyData → Prop
  | nil : DatAll M [] []
  | cons {u : U} {us : List U} {d : PyData} {ds : List PyData} : Dat M u d → DatAll M us ds → DatAll M (u :: us) (d :: ds)
end
theorem Dat.lies {K : Frag} {H : Hp} {M : Mem} (rm : RepM K H M) {u : U} {v : V} {d : PyData} (h : Dat M u d) (r : Rep K H u v) : Lies K H v d :=
  Dat.rec (motive_1 := fun u d _ => ∀ v, Rep K H u v → Lies K H v d) (motive_2 := fun us ds _ => ∀ vs, RepAll K H us vs → LiesAll K H vs ds)
    (by intro v r; obtain rfl := r.nonI; exact .non) (by intro b v r; obtain rfl := r.blI; exact .bl b) (by intro i v r; obtain rfl := r.intI; exact .int i) (by intro x h v r; obtain rfl := r.strI; exact .str x h)
    (by intro xs ds _ ih v r; obtain ⟨a, ys, rfl, s, r⟩ := r.tupI; exact .tup s (ih _ r)) (by intro xs ds _ ih v r; obtain ⟨a, ys, rfl, s, r⟩ := r.flI; exact .lst s.sq (ih _ r))
    (by intro a xs ds e _ ih v r; obtain rfl := r.refI; obtain ⟨ys, e2, r⟩ := rm a _ e; exact .lst (.inl (.inl e2)) (ih _ r))
    (by intro vs r; cases r; exact .nil) (by intro u us d ds _ _ ih1 ih2 vs r; cases r with | cons r s => exact .cons (ih1 _ r) (ih2 _ s)) h v r
theorem DatAll.ints {M : Mem} : ∀ ns : List Int, DatAll M (ns.map U.int) (ns.map PyData.int)
  | [] => .nil
  | n :: r => .cons (.int n) (DatAll.ints r)
theorem DatAll.strs {M : Mem} : ∀ xs : List Str, (∀ x ∈ xs, PyData.strOk x = true) → DatAll M (xs.map U.str) (xs.map PyData.str)
  | [], _ => .nil
  | x :: r, h => .cons (.str x (h x List.mem_cons_self)) (DatAll.strs r fun y hy => h y (List.mem_cons_of_mem _ hy))
@[reducible] noncomputable def nth : List U → Nat → Option U
  | [], _ => none
  | u :: _, 0 => some u
  | _ :: r, n + 1 => nth r n
theorem nth_eq : ∀ (xs : List U) (n : Nat), nth xs n = xs[n]?
  | [], _ => by simp [nth]
  | u :: _, 0 => by simp [nth]
  | _ :: r, n + 1 => by simp [nth, nth_eq r n]
noncomputable def cutU (xs : List U) (lo hi : Option Int) : List U := (xs.drop (HT.sIx xs.length 0 lo)).take (HT.sIx xs.length xs.length hi - HT.sIx xs.length 0 lo)
theorem RepAll.cut {K : Frag} {H : Hp} {xs : List U} {ys : List V} (r : RepAll K H xs ys) (lo hi : Option Int) : RepAll K H (cutU xs lo hi) (cutV ys lo hi) := by
  unfold cutU cutV
  rw [r.len]
  exact (r.drop _).take _
end
section
variable {X : Cx}
end
section
variable {X : Cx} {tg l a b : Expr} {tl : TE2} {t : TA2} {p pos : Pos}
noncomputable def noChk : Mem → Prop := fun _ => True
@[reducible] noncomputable def rngU (lo : Int) : Nat → List U
  | 0 => []
  | n + 1 => .int lo :: rngU (lo + 1) n
theorem rngU_len : ∀ (n : Nat) (lo : Int), (rngU lo n).length = n
  | 0, _ => rfl
  | n + 1, lo => congrArg (· + 1) (rngU_len n (lo + 1))
theorem rngU_get : ∀ (n : Nat) (lo : Int) (i : Nat), i < n → (rngU lo n)[i]? = some (.int (lo + i))
  | 0, _, _, h => absurd h (Nat.not_lt_zero _)
  | n + 1, lo, 0, _ => by simp [rngU]
  | n + 1, lo, i + 1, h => by
    have q := rngU_get n (lo + 1) i (by omega)
    simp only [rngU, List.getElem?_cons_succ, q]
    congr 2
    omega
theorem it_rng {K : Frag} {H0 : Hp} {lo : Int} {n : Nat} : ItOk K H0 (Itr lo n) (rngU lo n) noChk := fun i H M k rm _ => by
  rw [rngU_len]
  refine ⟨fun h => Nat.le_of_eq h, fun x hx => ?_⟩
  have hlt : i < n := by have := (List.getElem?_eq_some_iff.mp hx).1; rw [rngU_len] at this; exact this
  rw [rngU_get n lo i hlt] at hx
  cases hx
  refine ⟨hlt, fun v H' z9 => ?_⟩
  obtain ⟨e1, e2⟩ := z9
  subst e1; subst e2
  exact ⟨.refl, rm, .int _⟩
@[reducible] noncomputable def kRng1 (t : TA2) : TI2 := fun σ M R => t σ M fun us M1 => match us with
  | [.int j] => -(2 ^ 62) ≤ j ∧ j < 2 ^ 62 ∧ R (rngU 0 j.toNat) noChk M1
  | _ => False
theorem piW {iter : Expr} {t t' : TI} (h : PI X tg iter t) (i : ∀ σ H R, t' σ H R → t σ H R) : PI X tg iter t' := fun pins s σ H R I q => h pins s σ H R I (i σ H R q)
end
end L3
namespace L3
open PySem PySem.Spec PyProof.Rows L2
section
variable {X : Cx} {tg l a b : Expr} {tl : TE2} {t : TA2} {p pos : Pos}
@[reducible] noncomputable def chs (z : Str) : List U := z.cps.toList.map fun c => .str ⟨#[c]⟩
@[reducible] noncomputable def kSeq (tl : TE2) : TI2 := fun σ M R => tl σ M fun x M1 => match x with
  | .tup xs => R xs noChk M1
  | .fl xs => R xs noChk M1
  | .str z => R (chs z) noChk M1
  | .ref a => ∃ xs, M1 a = some (.lst xs) ∧ R xs (fun M => M a = some (.lst xs)) M1
  | _ => False
theorem get_of {K : Frag} {H : Hp} {xs : List U} {ys : List V} {i : Nat} {x : U} {v : V} (r : RepAll K H xs ys) (hx : xs[i]? = some x) (hv : ys[i]? = some v) : Rep K H x v := by
  obtain ⟨w, e, q⟩ := r.get hx
  rw [hv] at e; cases e; exact q
theorem lt_of {α : Type} {xs : List α} {i : Nat} {x : α} (h : xs[i]? = some x) : i < xs.length := (List.getElem?_eq_some_iff.mp h).1
theorem it_tup {K : Frag} {H0 : Hp} {a : Addr} {xs : List U} {ys : List V} (s : SqT K H0 a ys) (r : RepAll K H0 xs ys) : ItOk K H0 (Itt K a) xs noChk := fun i H M k rm _ => by
  have s' := k.t _ _ s
  have r' := r.up k
  refine ⟨fun h => ⟨ys, s', by rw [← r.len]; omega⟩, fun x hx => ?_⟩
  obtain ⟨v, ev, rv⟩ := r'.get hx
  exact ⟨⟨ys, v, s', ev⟩, fun v' H' ⟨e1, e2⟩ => by subst e1; exact ⟨.refl, rm, get_of r' hx (e2 ys s')⟩⟩
theorem it_fl {K : Frag} {H0 : Hp} {a : Addr} {xs : List U} {ys : List V} (s : FrL K H0 a ys) (r : RepAll K H0 xs ys) : ItOk K H0 (Itl K a) xs noChk := fun i H M k rm _ => by
  have s' := (k.f _ _ s).sq
  have r' := r.up k
  refine ⟨fun h => ⟨ys, s', by rw [← r.len]; omega⟩, fun x hx => ?_⟩
  obtain ⟨v, ev, rv⟩ := r'.get hx
  exact ⟨⟨ys, v, s', ev⟩, fun v' H' ⟨e1, e2⟩ => by subst e1; exact ⟨.refl, rm, get_of r' hx (e2 ys s')⟩⟩
theorem it_lst {K : Frag} {H0 : Hp} {a : Addr} {xs : List U} : ItOk K H0 (Itl K a) xs (fun M => M a = some (.lst xs)) := fun i H M k rm c => by
  obtain ⟨ys, e, r'⟩ := rm a _ c
  have s' : SqL K H a ys := .inl (.inl e)
  refine ⟨fun h => ⟨ys, s', by rw [← r'.len]; omega⟩, fun x hx => ?_⟩
  obtain ⟨v, ev, rv⟩ := r'.get hx
  exact ⟨⟨ys, v, s', ev⟩, fun v' H' ⟨e1, e2⟩ => by subst e1; exact ⟨.refl, rm, get_of r' hx (e2 ys s')⟩⟩
theorem it_str {K : Frag} {H0 : Hp} {z : Str} : ItOk K H0 (Its z) (chs z) noChk := fun i H M k rm _ => by
  have hl : (chs z).length = z.cps.size := by simp [chs]
  refine ⟨fun h => (by rw [hl] at h; exact h.symm), fun x hx => ?_⟩
  have hlt := lt_of hx
  rw [hl] at hlt
  refine ⟨hlt, fun v' H' z9 => ?_⟩
  obtain ⟨e1, c, e2, e3⟩ := z9
  subst e1; subst e3
  refine ⟨.refl, rm, ?_⟩
  have : x = .str ⟨#[c]⟩ := by
    simp only [chs, List.getElem?_map, Array.getElem?_toList, e2, Option.map_some, Option.some.injEq] at hx
    exact hx.symm
  subst this
  exact .str _
theorem qi_seq (hl : QE X l tl) : QI X tg l (kSeq tl) := by
  refine ⟨fun σ M Q Q' k h => hl.mo _ _ _ _ (fun u M1 z => ?_) h, piW (pi_seq hl.pe) fun σ H R z0 => exUp z0 fun σ2 M rs rm h => lf hl.mo rs rm h fun u M1 v H1 k1 r1 m1 s1 h1 => ?_⟩
  · match u, z with
    | .tup xs, z => exact k _ _ _ z
    | .fl xs, z => exact k _ _ _ z
    | .str xs, z => exact k _ _ _ z
    | .ref a, z => obtain ⟨xs, e, q⟩ := z; exact ⟨xs, e, k _ _ _ q⟩
  · cases r1 with
    | tup s r => exact .inr (.inl ⟨_, rfl, ⟨_, s⟩, (show upI X.K H R _ noChk M1 from h1) _ H1 k1 m1 (it_tup s r)⟩)
    | fl s r => exact .inl ⟨_, rfl, ⟨_, s.sq⟩, (show upI X.K H R _ noChk M1 from h1) _ H1 k1 m1 (it_fl s r)⟩
    | str z => exact .inr (.inr ⟨z, rfl, (show upI X.K H R _ noChk M1 from h1) _ H1 k1 m1 it_str⟩)
    | ref a =>
      obtain ⟨xs, e, q⟩ := h1
      obtain ⟨ys, e1, r⟩ := m1 a _ e
      exact .inl ⟨a, rfl, ⟨ys, .inl (.inl e1)⟩, q _ H1 k1 m1 it_lst⟩
    | _ => exact h1.elim
@[reducible] noncomputable def enumU : Int → List U → List U
  | _, [] => []
  | n, x :: r => .tup [.int n, x] :: enumU (n + 1) r
theorem enumU_len : ∀ (xs : List U) (n : Int), (enumU n xs).length = xs.length
  | [], _ => rfl
  | _ :: r, n => congrArg (· + 1) (enumU_len r (n + 1))
theorem enumU_get : ∀ (xs : List U) (n : Int) (i : Nat), (enumU n xs)[i]? = (xs[i]?).map fun x => .tup [.int (n + i), x]
  | [], _, _ => by simp [enumU]
  | x :: r, n, 0 => by simp [enumU]
  | x :: r, n, i + 1 => by
    simp only [enumU, List.getElem?_cons_succ, enumU_get r (n + 1) i]
    congr 1; funext x; congr 3; omega
theorem enum_yld {K : Frag} {H H' : Hp} {M : Mem} {T : Addr} {i : Nat} {x : U} {y : V} (rm : RepM K H M) (hT : H T = none) (e : H' = upd H T (.tup [.int i, y])) (r : Rep K H x y) : TK K H H' ∧ RepM K H' M ∧ Rep K H' (.tup [.int (0 + i), x]) (.ref T) := by
  subst e
  have kn := TK.new (K := K) (o := .tup [.int i, y]) hT
  refine ⟨kn, rm.same (same_new hT _), .tup (SqT.of upd_same) (.cons ?_ (.cons (r.up kn) .nil))⟩
  rw [Int.zero_add]; exact .int _
theorem it_enumL {K : Frag} {H0 : Hp} {a : Addr} {xs : List U} {chk : Mem → Prop} (h : ∀ H M, TK K H0 H → RepM K H M → chk M → ∃ ys, SqL K H a ys ∧ RepAll K H xs ys) : ItOk K H0 (Itel K a) (enumU 0 xs) chk := fun i H M k rm c => by
  obtain ⟨ys, s', r'⟩ := h H M k rm c
  rw [enumU_len]
  refine ⟨fun h => ⟨ys, s', by rw [← r'.len]; omega⟩, fun x hx => ?_⟩
  rw [enumU_get] at hx
  cases ex : xs[i]? with
  | none => rw [ex] at hx; cases hx
  | some x0 =>
    rw [ex] at hx; cases hx
    obtain ⟨v, ev, rv⟩ := r'.get ex
    refine ⟨⟨ys, v, s', ev⟩, fun v' H' z9 => ?_⟩
    obtain ⟨T, y, hT, e2, e3, e4⟩ := z9
    subst e3
    exact enum_yld rm hT e4 (get_of r' ex (e2 ys s'))
theorem it_enumS {K : Frag} {H0 : Hp} {z : Str} : ItOk K H0 (Ites z) (enumU 0 (chs z)) noChk := fun i H M k rm _ => by
  have hl : (chs z).length = z.cps.size := by simp [chs]
  rw [enumU_len, hl]
  refine ⟨fun h => h.symm, fun x hx => ?_⟩
  rw [enumU_get] at hx
  cases ex : (chs z)[i]? with
  | none => rw [ex] at hx; cases hx
  | some x0 =>
    rw [ex] at hx; cases hx
    have hlt := lt_of ex
    rw [hl] at hlt
    refine ⟨hlt, fun v' H' z9 => ?_⟩
    obtain ⟨T, c, hT, e2, e3, e4⟩ := z9
    subst e3
    have : x0 = .str ⟨#[c]⟩ := by
      simp only [chs, List.getElem?_map, Array.getElem?_toList, e2, Option.map_some, Option.some.injEq] at ex
      exact ex.symm
    subst this
    exact enum_yld rm hT e4 (.str _)
noncomputable def iEnumD (K : Frag) (ta : TA) : TI := fun σ H R => ta σ H fun vs H1 => (∃ z, vs = [.str z] ∧ R (Ites z) H1) ∨ ∃ a, vs = [.ref a] ∧ (∃ xs, SqL K H1 a xs) ∧ R (Itel K a) H1
theorem pi_enumD {elts : List Expr} {k : Nat} {tpos : Pos} {ta : TA} (hg : Gl X "enumerate") (hm : X.mg "enumerate" = none) (ha : PA X [a] ta) (hs : starEach [a] X.env = [(false, eval a X.env)] := by rfl) : PI X (.Tuple elts k tpos) (.Call (.Name "enumerate" p) [a] [] pos) (iEnumD X.K ta) := by
  intro pins s σ H R I h
  refine Call_ (ld_blt I hg hm boot_enumerate (PyProof.Rows.callWith_type1 (thn (ha pos pins s σ H _ I h) fun us s1 z9 => ?_) hs rfl))
  obtain ⟨vs, H1, I1, r1, q1⟩ := z9
  have fp : ∀ b ∈ [s1.heap.objs.size + 1, s1.heap.objs.size], FpOk X pins H1 b := fun b hb => by
    have hge : s1.heap.objs.size ≤ b := by
      rcases List.mem_cons.mp hb with z | z
      · rw [z]; exact Nat.le_succ _
      · have z' : b = s1.heap.objs.size := by simpa using z
        rw [z']; exact Nat.le_refl _
    exact I1.fpOk hge (I1.hok.fresh hge)
  rcases q1 with ⟨z, e, q⟩ | ⟨l, e, ⟨xs, hq⟩, q⟩
  · subst e
    cases r1 with
    | cons r rr =>
      cases rr
      obtain ⟨t, rfl⟩ := r
      refine call_enumerate_str fun h' he st hsz kk => wpAny_pyIter_enum he ?_
      exact ⟨s1.heap.objs.size + 1, [s1.heap.objs.size + 1, s1.heap.objs.size], _, _, H1, rfl, I1.kept (t' := s1.toks) kk, turn_enumS _ _ (Nat.ne_of_gt (Nat.lt_succ_self _)) z t, ⟨⟨_, he⟩, st⟩, fp, q⟩
  · subst e
    cases r1 with
    | cons r rr =>
      cases rr
      cases r
      obtain ⟨its, rv, pl, hz⟩ := I1.list hq
      refine call_enumerate_list pl.isList fun h' he st hsz kk => wpAny_pyIter_enum he ?_
      exact ⟨s1.heap.objs.size + 1, [s1.heap.objs.size + 1, s1.heap.objs.size], _, _, H1, rfl, I1.kept (t' := s1.toks) kk, turn_enumL _ _ _ (Nat.ne_of_gt (Nat.lt_succ_self _)), ⟨⟨_, he⟩, st⟩, fp, q⟩
end
section
variable {chk : Mem → Prop} {g : TG2} {tb : TS2} {tc : TT2} {te : TE2} {xs : List U} {D : Ends2} {σ : St2} {M : Mem} {Q : UK}
theorem Walk.inv (Pv : Nat → St2 → Mem → Prop) (h0 : Pv 0 σ M)
    (hs : ∀ i x σ M, xs[i]? = some x → Pv i σ M → chk M ∧ g x σ M fun σ1 M1 => tb { D with nx := fun σ' M' => ∃ M2, Le M2 M' ∧ Pv (i + 1) σ' M2, ct := fun σ' M' => ∃ M2, Le M2 M' ∧ Pv (i + 1) σ' M2, bk := D.nx } σ1 M1)
    (hd : ∀ σ M, Pv xs.length σ M → chk M ∧ D.nx σ M) : Walk chk g tb xs D σ M := by
  refine ⟨Pv, h0, fun i σ M hi w => ?_⟩
  cases e : xs[i]? with
  | none =>
    have el : i = xs.length := by have := List.getElem?_eq_none_iff.mp e; omega
    subst el
    exact hd σ M w
  | some x => exact hs i x σ M e w
theorem Loop.inv {c : TT2} (Pv : St2 → Mem → Prop) (μ : St2 → Mem → Nat) (h0 : Pv σ M)
    (hs : ∀ σ M, Pv σ M → c σ M fun b M1 => bE b (tb { D with nx := fun σ' M' => ∃ m' M2, m' < μ σ M ∧ Le M2 M' ∧ Pv σ' M2 ∧ μ σ' M2 = m', ct := fun σ' M' => ∃ m' M2, m' < μ σ M ∧ Le M2 M' ∧ Pv σ' M2 ∧ μ σ' M2 = m', bk := D.nx } σ M1) (D.nx σ M1)) : Loop c tb D σ M := by
  refine ⟨fun m σ M => Pv σ M ∧ μ σ M = m, ⟨_, h0, rfl⟩, fun m σ M z9 => ?_⟩
  obtain ⟨p, e⟩ := z9
  subst e
  exact hs σ M p
theorem Comp.inv (hn : xs.length ≤ sizeLine) (Pv : Nat → List U → St2 → Mem → Prop) (h0 : Pv 0 [] σ M)
    (hs : ∀ i x ys σ M, xs[i]? = some x → ys.length ≤ i → Pv i ys σ M → chk M ∧ g x σ M fun σ1 M1 => tc σ1 M1 fun b M2 => bE b (te σ1 M2 fun y M3 => ∃ M4, Le M4 M3 ∧ Pv (i + 1) (ys ++ [y]) σ1 M4) (∃ M4, Le M4 M2 ∧ Pv (i + 1) ys σ1 M4))
    (hd : ∀ ys σ M, Pv xs.length ys σ M → chk M ∧ ∀ p, M p = none → Q (.ref p) (put M p (.lst ys))) : Comp chk g tc te xs Q σ M := by
  refine ⟨hn, Pv, h0, fun i ys σ M hi hy w => ?_⟩
  cases e : xs[i]? with
  | none =>
    have el : i = xs.length := by have := List.getElem?_eq_none_iff.mp e; omega
    subst el
    exact hd ys σ M w
  | some x => exact hs i x ys σ M e hy w
end
end L3
namespace L3
open PySem PySem.Spec PyProof.Rows L2
section
variable {X : Cx}
end
noncomputable def smallI (n : Int) : Prop := n.natAbs.log2 < 1920
theorem smallI_of {n : Int} (h1 : -1000000 ≤ n) (h2 : n ≤ 1000000) : smallI n := by
  unfold smallI
  have : n.natAbs < 2 ^ 1920 := Nat.lt_of_le_of_lt (by omega : n.natAbs ≤ 1000000) (by decide +kernel)
  by_cases h : n.natAbs = 0
  · rw [h]; decide
  · exact (Nat.log2_lt h).mpr this
end L3
namespace L3
open PySem PySem.Spec PyProof.Rows L2
theorem small {n : Nat} (h : n ≤ 1000) : n ≤ sizeLine := Nat.le_of_lt (small1000 h)
section
variable {g : TG2} {tb : TS2} {tc : TT2} {te : TE2} {xs : List U} {D : Ends2} {σ : St2} {M : Mem} {Q : UK}
theorem Walk.rng {lo : Int} {n : Nat} (Pv : Nat → St2 → Mem → Prop) (h0 : Pv 0 σ M)
    (hs : ∀ i σ M, i < n → Pv i σ M → g (.int (lo + i)) σ M fun σ1 M1 => tb { D with nx := fun σ' M' => ∃ M2, Le M2 M' ∧ Pv (i + 1) σ' M2, ct := fun σ' M' => ∃ M2, Le M2 M' ∧ Pv (i + 1) σ' M2, bk := D.nx } σ1 M1)
    (hd : ∀ σ M, Pv n σ M → D.nx σ M) : Walk noChk g tb (rngU lo n) D σ M :=
  Walk.inv Pv h0 (fun i x σ M hx p => by
    have hlt : i < n := by have := lt_of hx; rw [rngU_len] at this; exact this
    rw [rngU_get n lo i hlt] at hx
    cases hx
    exact ⟨trivial, hs i σ M hlt p⟩) fun σ M p => ⟨trivial, hd σ M (by rw [rngU_len] at p; exact p)⟩
theorem Walk.enumI {chk : Mem → Prop} {ns : List Int} (Pv : Nat → St2 → Mem → Prop) (h0 : Pv 0 σ M) (hc : ∀ i σ M, i ≤ ns.length → Pv i σ M → chk M)
    (hs : ∀ i n σ M, ns[i]? = some n → Pv i σ M → g (.tup [.int (0 + i), .int n]) σ M fun σ1 M1 => tb { D with nx := fun σ' M' => ∃ M2, Le M2 M' ∧ Pv (i + 1) σ' M2, ct := fun σ' M' => ∃ M2, Le M2 M' ∧ Pv (i + 1) σ' M2, bk := D.nx } σ1 M1)
    (hd : ∀ σ M, Pv ns.length σ M → D.nx σ M) : Walk chk g tb (enumU 0 (ns.map U.int)) D σ M :=
  Walk.inv Pv h0 (fun i x σ M hx p => by
    rw [enumU_get, List.getElem?_map] at hx
    cases e : ns[i]? with
    | none => rw [e] at hx; cases hx
    | some n => rw [e] at hx; cases hx; exact ⟨hc i σ M (Nat.le_of_lt (lt_of e)) p, hs i n σ M e p⟩) fun σ M p => by
      rw [enumU_len, List.length_map] at p; exact ⟨hc _ σ M (Nat.le_refl _) p, hd σ M p⟩
end
theorem Le.put {M M' : Mem} {p : Addr} {o : O} (l : Le M M') (h : M p = none) : Le M (put M' p o) := fun a u q => by rw [put_ne (mne q h)]; exact l a u q
noncomputable def cutI (ns : List Int) (lo hi : Option Int) : List Int := (ns.drop (HT.sIx ns.length 0 lo)).take (HT.sIx ns.length ns.length hi - HT.sIx ns.length 0 lo)
theorem cut_ints (ns : List Int) (lo hi : Option Int) : cutU (ns.map U.int) lo hi = (cutI ns lo hi).map U.int := by
  unfold cutU cutI
  rw [List.length_map, List.map_take, List.map_drop]
theorem FrL.of {K : Frag} {H : Hp} {a : Addr} {xs : List V} (o : Only H) (h : SqL K H a xs) : FrL K H a xs := by
  rcases h with (h | ⟨ob, h⟩) | h
  · rcases o a with z | ⟨ob, ys, z⟩
    · rw [z] at h; cases h
    · rw [z] at h; cases h
  · exact .inl ⟨ob, h⟩
  · exact .inr h
theorem atI_neg1 {α : Type} {xs : List α} {v : α} (h : xs[xs.length - 1]? = some v) : atI xs (-1) = some v := by
  have hl := lt_of h
  unfold atI ixN
  rw [if_neg (by decide), if_pos (by omega)]
  show xs[((-1 : Int) + xs.length).toNat]? = some v
  have e : ((-1 : Int) + xs.length).toNat = xs.length - 1 := by omega
  rw [e]; exact h
end L3
namespace L3
open PySem PySem.Spec PyProof.Rows L2
section
variable {X : Cx} {e a : Expr} {es : List Expr} {te ta : TE2} {pos p2 : Pos}
theorem bools_at {bs : List Bool} : ∀ {its : List Value} {i : Nat} {v : Value}, Vals (bs.map V.bl) its → its[i]? = some v → ∃ b, bs[i]? = some b ∧ v = .bool b := by
  intro its i v r h
  have hl := r.length
  rw [List.length_map] at hl
  have hlt : i < bs.length := by rw [hl]; exact (List.getElem?_eq_some_iff.mp h).1
  obtain ⟨u, e1, e2⟩ := r.get (i := i) (x := V.bl bs[i]) (by rw [List.getElem?_map, List.getElem?_eq_getElem hlt]; rfl)
  rw [h] at e1; cases e1
  exact ⟨bs[i], List.getElem?_eq_getElem hlt, e2⟩
theorem range_all' (bs : List Bool) : ((List.range bs.length).all fun i => (bs[i]?).getD true) = bs.all id := by
  rw [Bool.eq_iff_iff]
  simp only [List.all_eq_true, List.mem_range, id]
  constructor
  · intro h b hb
    obtain ⟨i, hi, rfl⟩ := List.getElem_of_mem hb
    have := h i hi
    rwa [List.getElem?_eq_getElem hi] at this
  · intro h i hi
    rw [List.getElem?_eq_getElem hi]
    exact h _ (List.getElem_mem hi)
theorem kept_it {s : Shared} {h' : Heap} {o : Obj} (hk : ∀ b x, b ∉ [s.heap.objs.size] → (s.heap.push o).get? b = some x → h'.get? b = some x) : ∀ b x, s.heap.get? b = some x → h'.get? b = some x :=
  fun b x e => hk b x (fun hm => by rw [List.mem_singleton.mp hm] at e; exact Nat.lt_irrefl _ (Heap.lt_size e)) (Heap.get?_push_of_some _ e)
theorem call_allB (hc : X.calm = true) : CallR X (.builtin "all") (fun xs H Q => ∃ p bs, xs = [.ref p] ∧ SqL X.K H p (List.map V.bl bs) ∧ Q (.bl (bs.all id)) H) := by
  intro pins s σ H xs us Q I r h
  obtain ⟨p, bs, rfl, hq, q⟩ := h
  obtain ⟨u, rfl, ru⟩ := vals1 r
  obtain rfl : u = Value.ref p := ru
  obtain ⟨its, rv, pl, _⟩ := I.list hq
  have hl := pl.isList
  have hlt : p < s.heap.objs.size := by obtain ⟨_, e, _⟩ := hl; exact Heap.lt_size e
  have hlen : its.length = bs.length := by have := rv.length; rw [List.length_map] at this; exact this.symm
  refine call_all_walk (wpAny_pyIter_list hl ?_)
  refine ⟨s.heap.objs.size, [s.heap.objs.size, p], [s.heap.objs.size], its.toArray.size, _, _, fun i => (bs[i]?).getD true, rfl, Walks.list (A := X.A.in1) (I.ok.hd hc) _ p (Nat.ne_of_lt hlt) its.toArray,
    ⟨⟨_, Heap.get?_push_size _ rfl, rfl, rfl⟩, hl.push _⟩, fun i v s' Q' E' hP hQ => ?_, fun h' tk hk => ?_⟩
  · obtain ⟨b, e, rfl⟩ := bools_at rv (i := i) (v := v) (by simpa using hP)
    simp only [e, Option.getD_some] at hQ
    exact wpAny_truthy_bool hQ
  · have e : ((List.range its.toArray.size).all fun i => (bs[i]?).getD true) = bs.all id := by
      rw [List.size_toArray, hlen]; exact range_all' bs
    rw [e]
    exact ⟨.bl _, H, I.kept (kept_it hk), rfl, q⟩
theorem RepAll.bls_of {K : Frag} {H : Hp} {bs : List Bool} : ∀ {vs : List V}, RepAll K H (bs.map U.bl) vs → vs = bs.map V.bl := by
  induction bs with
  | nil => intro ys h; cases h; rfl
  | cons z zs ih => intro ys h; cases h with
    | cons r t => cases r; rw [ih t]; rfl
noncomputable def tFmt (te : TE) : TE := fun σ H Q => te σ H fun x H1 => (∃ y, x = .str y ∧ y.length ≤ sizeLine ∧ Q (.str y) H1) ∨ ∃ i, x = .int i ∧ i.natAbs.log2 < 1920 ∧ Q (.str (toString i)) H1
theorem pe_fmt {te : TE} (he : PE X e te) : PE X (.FormattedValue e (-1) none pos) (tFmt te) := by
  intro pins s σ H Q I h
  refine FormattedValue_plain (thn (he pins s σ H _ I h) fun v s1 z9 => ?_)
  obtain ⟨x, H1, I1, r1, q1⟩ := z9
  rcases q1 with ⟨y, rfl, hz, q⟩ | ⟨i, rfl, hz, q⟩
  · obtain ⟨t, rfl⟩ := r1
    exact formatField_str (fun t' tk => ⟨.str y, H1, I1.tok tk, ⟨t', rfl⟩, q⟩) hz
  · obtain ⟨t, rfl⟩ := r1
    exact wpAny_formatField_int hz ⟨.str (toString i), H1, I1.tok _, ⟨_, rfl⟩, q⟩
noncomputable abbrev TJ := Str → St → Hp → VK → Prop
noncomputable def PJ (X : Cx) (es : List Expr) (t : TJ) : Prop := ∀ (acc : Str) (pins : List (Addr × Obj)) (s : Shared) (σ : St) (H : Hp) (Q : VK), Inv X pins σ H s → t acc σ H Q → wpAny (model X.prog X.w) X.A (joinParts acc (evalEach es X.env)) (EP X pins σ Q) X.xe s
noncomputable def tJNil : TJ := fun acc _ H Q => acc.length ≤ sizeLine ∧ Q (.str acc) H
noncomputable def tJCons (te : TE) (t : TJ) : TJ := fun acc σ H Q => te σ H fun x H1 => ∃ y, x = .str y ∧ (acc ++ y).length ≤ sizeLine ∧ t (acc ++ y) σ H1 Q
theorem pj_nil : PJ X [] tJNil := fun acc pins s σ H Q I h => joinParts_nil ⟨.str acc, H, I.tok _, ⟨_, rfl⟩, h.2⟩ h.1
theorem pj_cons {te : TE} {t : TJ} (he : PE X e te) (hr : PJ X es t) (hs : evalEach (e :: es) X.env = eval e X.env :: evalEach es X.env := by rfl) : PJ X (e :: es) (tJCons te t) := by
  intro acc pins s σ H Q I h
  rw [hs]
  refine joinParts_cons (thn (he pins s σ H _ I h) fun v s1 z9 => ?_)
  obtain ⟨x, H1, I1, r1, y, e1, hz, q⟩ := z9
  subst e1
  obtain ⟨t', rfl⟩ := r1
  exact ⟨hz, hr _ pins s1 σ H1 Q I1 q⟩
theorem pe_join {e2 : Expr} {t : TJ} (h : PJ X (e :: e2 :: es) t) : PE X (.JoinedStr (e :: e2 :: es) pos) (fun σ H Q => t Str.empty σ H Q) := fun pins s σ H Q I q => JoinedStr_many (h Str.empty pins s σ H Q I q)
end
end L3
namespace L3
open PySem PySem.Spec PyProof.Rows L2
section
variable {P : Program} {w : World} {K : Frag} {mg : Str → Option Value} {base : Heap} {x qual m : Str} {st : Stmt} {C f : Addr} {fd : FuncData} {N ps : List Str} {k : Nat} {sp : Sp2}
end
section
variable {X : Cx} {tg a b c : Expr} {t : TA2} {p pos : Pos}
end
end L3
set_option maxHeartbeats 1000000
namespace L3
open PySem PySem.Spec PyProof.Rows L2 SeqAt MeetsSeq
section
variable {X : Cx}
end
section
variable {prog : Program} {w : World} {A : Around} {R : Result → Shared → Prop}
end
section
variable {X : Cx}
end
section
variable {X : Cx}
end
section
variable {X : Cx} {tg a b c : Expr} {t : TA2} {p pos : Pos}
end
end L3
set_option maxHeartbeats 1000000
namespace L3
open PySem PySem.Spec PyProof.Rows L2
section
variable {X : Cx} {tg a b c : Expr} {t : TA2} {p pos : Pos}
end
end L3
set_option maxHeartbeats 1000000
namespace L3
open PySem PySem.Spec PyProof.Rows L2
section
variable {K : Frag} {H : Hp}
end
section
variable {X : Cx} {e o i value : Expr} {te to ti tv : TE2} {pos tpos : Pos}
@[reducible] noncomputable def qDNew : TE2 := fun _ M Q => ∀ p, M p = none → Q (.ref p) (put M p (.dct []))
theorem qe_dnew : QE X (.Dict [] [] pos) qDNew := by
  refine ⟨fun σ M Q Q' k h p hp => k _ _ (h p hp), peW pe_dnewK fun σ H Q ⟨σ2, M, rs, rm, h⟩ p hp => ?_⟩
  have kn := TK.new (K := X.K) (o := .dK []) hp
  exact h p (rm.free hp) (.ref p) _ kn (.ref _) (rm.write kn ⟨[], upd_same, .nil⟩)
theorem strs_of : ∀ {zs : List Str} {its : List Value}, Vals (zs.map V.str) its → ∃ l : List (Str × Tok), its = strValues l ∧ l.map (·.1) = zs
  | [], _, .nil => ⟨[], rfl, rfl⟩
  | z :: zs, _, .cons r t => by
    obtain ⟨tk, rfl⟩ := r
    obtain ⟨l, e1, e2⟩ := strs_of t
    exact ⟨(z, tk) :: l, by rw [e1]; rfl, by rw [List.map_cons, e2]⟩
theorem mt_join : MtM X "str.join" (fun x vs H Q => ∃ z l zs, x = .str z ∧ vs = [.ref l] ∧ H l = some (.lst (zs.map V.str)) ∧ JoinOk z zs = true ∧ Q (.str (Txt.join z zs)) H) := by
  intro pins s σ H x vs v us Q I rx rv h
  obtain ⟨z, l, zs, rfl, rfl, hH, ok, q⟩ := h
  obtain ⟨t, rfl⟩ := rx
  obtain ⟨u, rfl, ru⟩ := rv.one
  cases ru
  obtain ⟨_, its, n, r, hl, e⟩ := I.lstM hH
  obtain ⟨ps, e1, e2⟩ := strs_of r
  subst e1
  exact SC.join ⟨_, e, rfl, n, rfl⟩ e2 ok fun t' k => ⟨.str _, H, I.tok k, ⟨t', rfl⟩, q⟩
theorem RepAll.strsV {K : Frag} {H : Hp} {zs : List Str} : ∀ {ys : List V}, RepAll K H (zs.map U.str) ys → ys = zs.map V.str := by
  induction zs with
  | nil => intro ys h; cases h; rfl
  | cons z zs ih => intro ys h; cases h with
    | cons r t => cases r; rw [ih t]; rfl
theorem sw_any {elt : Expr} {gs : List Comprehension} {sc : Scope} {p p' : Pos} {x : Str} {n : Nat} {env : Env} : ∃ b, swapsWith (.ListComp elt gs sc p) (some (.Name x p')) n env = pure b := ⟨_, rfl⟩
end
end L3
set_option maxHeartbeats 1000000
namespace XC
open PySem PySem.Spec PyProof.Rows
noncomputable abbrev bareObj (C t : Addr) : Obj := { cls := .ref C, data := .fields #[.ref t, .none, .none, .none, .bool false, .none] }
noncomputable abbrev born (h : Heap) (C : Addr) (us : List Value) : Heap := (h.push { cls := .type "tuple", data := .seq us.toArray }).push (bareObj C h.objs.size)
theorem born_keep {h : Heap} {C : Addr} {us : List Value} {b : Addr} {o : Obj} (e : h.get? b = some o) : (born h C us).get? b = some o := Heap.get?_push_of_some _ (Heap.get?_push_of_some _ e)
theorem born_at {h : Heap} {C : Addr} {us : List Value} : (born h C us).get? (h.objs.size + 1) = some (bareObj C h.objs.size) := by
  unfold born bareObj
  heap_get
section
variable {prog : Program} {w : World} {A : Around} {E : Value → Shared → Prop} {h : Heap} {g : Array GenState} {d : Drawn} {t : Nat} {os : OsState}
variable {nm q : Str} {C N : Addr} {bs bm bmB : List Value} {hdct : Bool} {sn : List Str} {sub : List Value} {ab : Bool} {col : Option Bool} {dd : Option Addr} {k0 k1 k2 k3 k5 : Option Value} {B nid initId : String}
structure ErrCls (h : Heap) (C : Addr) (f : Addr) (bmB : List Value) (nid : String) : Prop where
  ex : ∃ nm q N bs bm hdct sn sub ab col dd k0 k1 k2 k3 k5 mN oI, h.get? C = some (excClassObj nm q C N bs bm hdct sn sub ab col dd k0 k1 k2 k3 k5 nid) ∧ h.Ns N mN ∧ mN "__init__" = some (.ref f) ∧ OwnTail h bmB bm ∧ h.get? f = some oI ∧ oI.cls = .type "function"
theorem made_by_type {us : List Value} {f : Addr} {Q : Fin → Shared → Prop} (F : ExcBaseFacts B nid initId bmB) (K : ErrCls h C f bmB nid) (hus : us.length ≤ sizeLine)
    (k : wpAny (model prog w) A (call (.ref f) (.ref (h.objs.size + 1) :: us)) (fun r s' => r = .none ∧ Q (.done (.ret (.ref (h.objs.size + 1)))) s') E ⟨born h C us, g, d, t, os⟩) :
    wpAny (model prog w) A (Builtin.«type.__call__» ⟨.ref C :: us, []⟩) Q E ⟨h, g, d, t, os⟩ := by
  obtain ⟨nm, q, N, bs, bm, hdct, sn, sub, ab, col, dd, k0, k1, k2, k3, k5, mN, oI, hC, hn, hi, T, hf, hfc⟩ := K.ex
  repeat (first | with_reducible refine wpAny_loadPart_at hC ?_ | with_reducible refine wpAny_madeBy_exc hC ?_ | wp_step)
  refine codeAny_call_builtin_code (Code.quiet_builtin _ F.quiet) (wpAny_check_new_subU F F.hasB T hC (codeAny_exc_new_subU F F.hasB F T hC ?_ hus))
  show wpAny _ _ _ _ _ _
  have at_ : ((h.push { cls := .type "tuple", data := .seq us.toArray }).push { cls := .ref C, data := .fields #[.ref h.objs.size, .none, .none, .none, .bool false, .none] }).get? (h.objs.size + 1) = some (bareObj C h.objs.size) := born_at
  have cC := born_keep (C := C) (us := us) hC
  have self : (Value.ref C :: bm).contains (.ref C) = true := by simp
  unfold isInstance
  repeat (first | with_reducible refine wpAny_loadPart_at at_ ?_ | (with_reducible refine wpAny_isSubtype_exc cC ?_; rw [self]) | wp_step)
  show wpAny _ _ (typeLookup (.ref C) _) _ _ _
  refine wpAny_typeLookup_tail cC (hn.keeps fun b o e => born_keep e) (T.keeps fun b o e => born_keep e) F.mroIs F.init.lookup ?_
  rw [hi]
  refine wpAny_holding (wpAny_bind ?_)
  unfold bindSpecial
  refine wpAny_bind (wpAny_typeOf (T := "function") ⟨_, born_keep hf, hfc⟩ ?_)
  rw [if_pos (by decide)]
  refine wpAny_pure (wpAny_bind (wpAny_mono k (fun r s' z => ?_) fun _ _ x => x))
  obtain ⟨rfl, z⟩ := z
  wp_walk
  exact z
theorem made {us : List Value} {f : Addr} {Q : Value → Shared → Prop} (F : ExcBaseFacts B nid initId bmB) (K : ErrCls h C f bmB nid) (hus : us.length ≤ sizeLine)
    (k : wpAny (model prog w) (A.under (.builtin "type.__call__" ⟨.ref C :: us, []⟩)) (call (.ref f) (.ref (h.objs.size + 1) :: us)) (fun r s' => r = .none ∧ Q (.ref (h.objs.size + 1)) s') E ⟨born h C us, g, d, t, os⟩) :
    wpAny (model prog w) A (call (.ref C) us) Q E ⟨h, g, d, t, os⟩ := by
  obtain ⟨nm, q, N, bs, bm, hdct, sn, sub, ab, col, dd, k0, k1, k2, k3, k5, mN, oI, hC, _⟩ := K.ex
  have lk := tc_lookup
  have bd := tc_bind (.ref C)
  have ty : (⟨h, g, d, t, os⟩ : Shared).TypeIs (.ref C) "type" := ⟨_, hC, rfl⟩
  refine wpAny_call (codeAny_of_tree ?_)
  show wpAny _ _ (callAny (.ref C) _) _ _ _
  repeat (any_goals (first | assumption | with_reducible refine wpAny_loadPart_at hC ?_ | wp_step))
  exact ⟨rfl, codeAny_call_builtin_at (Code.quiet_builtin _ (by decide +kernel)) entry_typeCall (wpAny_check_type_call_sub hC (made_by_type F K hus k))⟩
theorem base_init {e t0 : Addr} {us : List Value} {f : Addr} {Q : Value → Shared → Prop} (F : ExcBaseFacts B nid initId bmB) (K : ErrCls h C f bmB nid) (he : h.get? e = some (bareObj C t0)) (hus : us.length ≤ sizeLine)
    (k : ∀ h' tk, h'.get? e = some (bareObj C h.objs.size) → (∀ b o, b ≠ e → h.get? b = some o → h'.get? b = some o) → Q .none ⟨h', g, d, tk, os⟩) :
    wpAny (model prog w) A (call (.builtin initId) (.ref e :: us)) Q E ⟨h, g, d, t, os⟩ := by
  obtain ⟨nm, q, N, bs, bm, hdct, sn, sub, ab, col, dd, k0, k1, k2, k3, k5, mN, oI, hC, hn, hi, T, hf, hfc⟩ := K.ex
  have he1 := Heap.get?_push_of_some { cls := .type "tuple", data := .seq us.toArray } he
  refine wpAny_call (codeAny_call_builtin F.init.plain F.initEntry (wpAny_check_init_subU F T hC he rfl ?_))
  wp_walk
  refine k _ _ ?_ fun b o n q => ?_
  · rw [Heap.get?_update_self _ he1 rfl]; rfl
  · rw [Heap.get?_update_other _ _ (Ne.symm n)]; exact Heap.get?_push_of_some _ q
end
noncomputable def veB : List Value := [.type "ValueError", .type "Exception", .type "BaseException", .type "object"]
structure ErrSt (K : PySem.W.Frag) (C : Addr) (f : Str) : Prop where
  sa : PySem.W.findIn K (.ref C) "__setattr__" = some (some (.builtin "object.__setattr__"))
  na : PySem.W.findIn K (.ref C) f = some none
  cd : ∃ cd D, PySem.W.clsIn K C = some cd ∧ cd.hasDict = true ∧ cd.mro = .ref C :: .ref D :: veB
section
variable {prog : Program} {w : World} {A : Around} {E : Value → Shared → Prop} {K : PySem.W.Frag} {s : Shared} {C e t0 : Addr} {f : Str} {v : Value}
open PySem.W
noncomputable abbrev dicted (h : Heap) (e : Addr) : Heap := (h.push { cls := .type "dict", data := .dict #[] }).update e fun o => { cls := o.cls, dict := some h.objs.size, data := o.data, slots := o.slots }
theorem dicted_at {h : Heap} (he : h.get? e = some (bareObj C t0)) : (dicted h e).get? e = some { bareObj C t0 with dict := some h.objs.size } := Heap.get?_update_self _ (Heap.get?_push_of_some _ he) rfl
theorem dicted_ne {h : Heap} {b : Addr} {o : Obj} (n : b ≠ e) (q : (h.push { cls := .type "dict", data := .dict #[] }).get? b = some o) : (dicted h e).get? b = some o := (Heap.get?_update_ne _ _ _ _ n).trans q
theorem lay_first {Q : Unit → Shared → Prop} (X : K.In s.heap) (S : ErrSt K C f) (he : s.heap.get? e = some (bareObj C t0))
    (k : ∀ h' tk, h'.Ns1 s.heap.objs.size (fun y => if y = f then some v else none) → Heap.SameBut s.heap.objs.size (dicted s.heap e) h' → Q () { s with heap := h', toks := tk }) :
    wpAny (model prog w) A (setAttr (.ref e) f v) Q E s := by
  have I : InstAt s.heap e (bareObj C t0) C none := ⟨he, rfl, rfl, trivial⟩
  obtain ⟨cd, D, hc, hd, hm⟩ := S.cd
  have SF := PySem.F.store_ValueError
  refine set_plain X I S.sa ?_
  have sub : Looks (model prog w) s.heap (isInstance (.ref e) (.type "object")) true := I.type.andThen (looks_mroIn X (by unfold mroIn; rw [hc, Option.bind_some, hm]; rfl))
  refine codeAny_call_builtin SF.slot.plain SF.entry (check_slot (i := "object.__setattr__") (owner := "object") (n := "__setattr__") SF.kind SF.split sub (SF.args (.ref e) (.str f s.toks) v) ?_)
  rw [osa_eq, refuse_eq]
  have mro : Looks (model prog w) s.heap (mroOf (.ref C)) cd.mro := (looks_clsIn X hc).andThen .now
  refine wpAny_bind (wpAny_bind (Looks.here (s := { s with toks := s.toks + 1 }) I.type (wpAny_bind (Looks.here (s := { s with toks := s.toks + 1 }) mro ?_))))
  rw [hm, refuseLoop_ref, refuseLoop_ref, show refuseLoop (.ref e) "__setattr__" veB = pure () from SF.passes (.ref e)]
  refine wpAny_pure (wpAny_bind (Looks.here (s := { s with toks := s.toks + 1 }) I.type (wpAny_bind (Looks.here (s := { s with toks := s.toks + 1 }) (looks_findIn X S.na) (wpAny_bind (wpAny_pure ?_))))))
  refine wpAny_bind (wpAny_pure (wpAny_bind (wpAny_bind (wpAny_loadPart (o := bareObj C t0) he (wpAny_bind (Looks.here (s := { s with toks := s.toks + 1 }) (looks_clsIn X hc) ?_))))))
  rw [hd]
  show wpAny _ _ (if (!true || !typeHasDict (.ref C)) = true then pure none else alloc { cls := .type "dict", data := .dict #[] } >>= fun d => update e (fun o => { cls := o.cls, dict := some d, data := o.data, slots := o.slots }) >>= fun _ => dictMade (.ref C) e d) _ _ _
  rw [if_neg (by simp [typeHasDict])]
  have lt := Heap.lt_size he
  have he1 : (s.heap.push { cls := .type "dict", data := .dict #[] }).get? e = some (bareObj C t0) := Heap.get?_push_of_some _ he
  refine wpAny_bind (wpAny_alloc' (wpAny_bind (wpAny_update' he1 (wpAny_pure ?_))))
  have hD : ((s.heap.push { cls := .type "dict", data := .dict #[] }).update e fun o => { cls := o.cls, dict := some s.heap.objs.size, data := o.data, slots := o.slots }).get? s.heap.objs.size = some { cls := .type "dict", data := .dict #[] } :=
    (Heap.get?_update_ne _ _ _ _ (Nat.ne_of_gt lt)).trans (Heap.get?_push_at rfl rfl)
  have nD : ((s.heap.push { cls := .type "dict", data := .dict #[] }).update e fun o => { cls := o.cls, dict := some s.heap.objs.size, data := o.data, slots := o.slots }).Ns s.heap.objs.size (fun _ => none) :=
    ⟨_, #[], _, hD, rfl, (fun e he => absurd he (by simp)), fun _ => rfl⟩
  show wpAny _ _ (Builtin.ObjectAttr.storeInDict s.heap.objs.size (.str f s.toks) f v) _ _ _
  refine wpAny_bind (wpAny_pure (wpAny_bind (wpAny_nsSet1 (Heap.Ns1.of_empty nD) fun h' hn hs => ?_)))
  obtain ⟨oD, esD, epD, hoD, hdD, hcD⟩ := hn.count (Within.cons f v Within.nil)
  refine wpAny_bind (wpAny_lookBehind hoD (by rw [hdD]; exact pastItsLine_dict (Nat.le_trans hcD (by rw [List.length_cons, List.length_nil, sizeLine_eq]; omega))) (wpAny_pure ?_))
  exact k h' _ hn hs
end
structure ErrRd (K : PySem.W.Frag) (C : Addr) (f : Str) : Prop where
  ga : PySem.W.findIn K (.ref C) "__getattribute__" = some (some (.builtin "BaseException.__getattribute__"))
  gt : PySem.W.findIn K (.ref C) "__getattr__" = some none
  na : PySem.W.findIn K (.ref C) f = some none
  hd : PySem.W.hasDictIn K C = true
  be : PySem.W.mroIn K C (.type "BaseException") = some true
section
variable {prog : Program} {w : World} {A : Around} {E : Value → Shared → Prop} {K : PySem.W.Frag} {s : Shared} {C e : Addr} {oe od : Obj} {f : Str} {v : Value} {expr : Bool}
open PySem.W
theorem rd_attr {Q : Value → Shared → Prop} (X : K.In s.heap) (S : ErrRd K C f) (I : InstAt s.heap e oe C (some od)) (hl : lookIn f od = some (some v)) (hv : handedIn v = true) (k : Q v { s with toks := s.toks + 1 }) :
    wpAny (model prog w) A (getAttr (.ref e) f expr) Q E s := by
  obtain ⟨h, g, d, t, os⟩ := s
  have L0 := I.type (M := model prog w)
  have L1 := looks_findIn (M := model prog w) X S.ga
  have L2 := looks_findIn (M := model prog w) X S.gt
  have L3 := looks_find (M := model prog w) X I (findObj_own S.hd S.na rfl hl)
  have sub : Looks (model prog w) h (isInstance (.ref e) (.type "BaseException")) true := I.type.andThen (looks_mroIn X S.be)
  unfold getAttr getAttrBy
  refine wpAny_bind (wpAny_mkText (wpAny_holding (wpAny_bind (L0.at (wpAny_bind (L1.at ?_))))))
  show wpAny _ _ (getAttrByItsOwn _ _ _ _ _ _) _ _ _
  unfold getAttrByItsOwn
  have G := PySem.F.attr_ValueError.ga
  refine wpAny_bind ((looks_hook (M := model prog w) X (mc := .ref C) (r := none) S.gt).at ?_)
  refine wpAny_bind (wpAny_attempt (wpAny_holding ?_))
  unfold callGetattribute
  rw [show (expr && onTheHeap (Value.builtin "BaseException.__getattribute__")) = false by cases expr <;> rfl]
  rw [if_neg (by decide)]
  unfold boundAndCalled
  rw [G.bind]
  refine wpAny_bind (wpAny_pure (wpAny_call ?_))
  refine codeAny_call_builtin G.plain PySem.F.entry_bexc_ga (check_slot (i := "BaseException.__getattribute__") (owner := "BaseException") (n := "__getattribute__") (by decide +kernel) (by decide +kernel) sub (PySem.F.args_bexc_ga _ _) ?_)
  refine wpAny_bind (wpAny_pure (wpAny_bind (wpAny_pure (wpAny_bind (L0.at (wpAny_bind (L3.at (wpAny_pure ?_))))))))
  show wpAny _ _ (handedOut v) _ _ _
  rw [handedOut_of hv]; exact wpAny_pure k
end
end XC
set_option maxHeartbeats 1000000
namespace XC
open PySem PySem.Spec PyProof.Rows PySem.W
structure ErrIs (K : PySem.W.Frag) (C : Addr) : Prop where
  ga : findIn K (.ref C) "__getattribute__" = some (some (.builtin "BaseException.__getattribute__"))
  gt : findIn K (.ref C) "__getattr__" = some none
  hd : hasDictIn K C = true
  be : mroIn K C (.type "BaseException") = some true
  ob : mroIn K C (.type "object") = some true
  cl : findIn K (.ref C) "__class__" = some (some (.builtin "object.__class__"))
  gs : specialIn K (.builtin "object.__class__") "__get__" = some (some (.builtin "getset_descriptor.__get__"))
  tk : takesIn K (.builtin "object.__class__") = some true
section
variable {prog : Program} {w : World} {A : Around} {E : Value → Shared → Prop} {K : PySem.W.Frag} {s : Shared} {C e : Addr} {oe od : Obj}
theorem its_class {Q : Option Value → Shared → Prop} (X : K.In s.heap) (S : ErrIs K C) (I : InstAt s.heap e oe C (some od)) (k : Q (some (.ref C)) { s with toks := s.toks + 1 }) : wpAny (model prog w) A (getAttr? (.ref e) "__class__") Q E s := by
  obtain ⟨h, g, d, t, os⟩ := s
  have L0 := I.type (M := model prog w)
  have L1 := looks_findIn (M := model prog w) X S.ga
  have hf : findObj K C (some od) "__class__" = some (.bind (.builtin "getset_descriptor.__get__") (.builtin "object.__class__")) := findObj_data (by obtain ⟨cd, hc, _⟩ := any_some S.hd; rw [hc]; rfl) S.cl S.gs S.tk
  have L3 := looks_find (M := model prog w) X I hf
  have sub : Looks (model prog w) h (isInstance (.ref e) (.type "BaseException")) true := I.type.andThen (looks_mroIn X S.be)
  have G := PySem.F.attr_ValueError.ga
  unfold getAttr? getAttrBy? getAttrBy
  refine wpAny_bind (wpAny_mkText (wpAny_bind (wpAny_attempt (wpAny_holding (wpAny_bind (L0.at (wpAny_bind (L1.at ?_))))))))
  show wpAny _ _ (getAttrByItsOwn _ _ _ _ _ _) _ _ _
  unfold getAttrByItsOwn
  refine wpAny_bind ((looks_hook (M := model prog w) X (mc := .ref C) (r := none) S.gt).at ?_)
  refine wpAny_bind (wpAny_attempt (wpAny_holding ?_))
  show wpAny _ _ (boundAndCalled _ _ _) _ _ _
  unfold boundAndCalled
  rw [G.bind]
  refine wpAny_bind (wpAny_pure (wpAny_call ?_))
  refine codeAny_call_builtin G.plain PySem.F.entry_bexc_ga (check_slot (i := "BaseException.__getattribute__") (owner := "BaseException") (n := "__getattribute__") (by decide +kernel) (by decide +kernel) sub (PySem.F.args_bexc_ga _ _) ?_)
  refine wpAny_bind (wpAny_pure (wpAny_bind (wpAny_pure (wpAny_bind (L0.at (wpAny_bind (L3.at ?_)))))))
  show wpAny _ _ (holding [Value.builtin "object.__class__"] (call (.builtin "getset_descriptor.__get__") [.builtin "object.__class__", .ref e, .ref C]) >>= ret) _ _ _
  refine wpAny_bind (wpAny_holding (wpAny_call (class_get (s := ⟨h, g, d, t + 1, os⟩) X I S.ob (wpAny_pure ?_))))
  show wpAny _ _ (handedOut (.ref C)) _ _ _
  rw [handedOut_of rfl]
  exact wpAny_pure (wpAny_pure k)
theorem kitx_err (S : ErrIs K C) : KitX K (.ref e) (.ref C) (fun h => InstAt h e oe C (some od)) := by
  obtain ⟨cd, hc, _⟩ := any_some S.hd
  obtain ⟨c', d', sl', ho⟩ : ∃ c' d' sl', K.lookup C = some ⟨c', d', .cls cd, sl'⟩ := by
    unfold clsIn at hc
    split at hc
    · rename_i c' d' cd' sl' ho
      cases hc
      exact ⟨c', d', sl', ho⟩
    · cases hc
  refine ⟨fun M h X I => I.type, fun M h X I A Q E s k q => ?_, fun h tp dd its n sl X htp => ?_, fun X I k => its_class X S I k⟩
  · unfold isType loadHead
    exact wpAny_bind (wpAny_loadPart (k _ _ (X _ _ ho)) (wpAny_pure q))
  · refine Bool.eq_false_iff.mpr fun q => ?_
    have z : C = tp := Value.ref.inj (beq_iff_eq.mp q)
    rw [← z, X _ _ ho] at htp
    cases htp
theorem isi_err {Q : Value → Shared → Prop} {c : Value} {b : Bool} (X : K.In s.heap) (S : ErrIs K C) (I : InstAt s.heap e oe C (some od)) (q : kitOne K (.ref C) c = some b) (k : ∀ tk, Q (.bool b) { s with toks := tk }) :
    wpAny (model prog w) A (call (.builtin "isinstance") [.ref e, c]) Q E s := kia_one (kitx_err S) X I q (fun z => by cases z) k
end
end XC
set_option maxHeartbeats 1000000
namespace L2
open PySem PySem.Spec PyProof.Rows XC
noncomputable def Bare (C e : Addr) : Heap → Prop := fun h => ∃ t0, h.get? e = some (bareObj C t0)
noncomputable def Fresh1 (C dx e : Addr) : Heap → Prop := fun h => ∃ t0, h.get? e = some { bareObj C t0 with dict := some dx }
structure ErrK (K : PySem.W.Frag) (C f : Addr) (F : Str) : Prop where
  cls : ∀ h, K.In h → ErrCls h C f veB "ValueError.__new__"
  st : ErrSt K C F
  rd : ErrRd K C F
  is : ErrIs K C
  kp : PySem.W.keepIn K (.ref C) = true
section
variable {X : Cx} {pins : List (Addr × Obj)} {σ : St} {H : Hp} {s : Shared} {C e f : Addr} {F : Str} {A : Around} {E : Value → Shared → Prop}
theorem bare_ok {H : Hp} {h : Heap} {t0 : Addr} (q : h.get? e = some (bareObj C t0)) : ObjOk X.prog X.w H h e (.ext (Bare C e)) := ⟨⟨t0, q⟩, ⟨_, q⟩, by rintro h1 h2 ⟨t, z⟩ k; exact ⟨t, k _ z⟩⟩
theorem upd_id {o : HO} (h : H e = some o) : upd H e o = H := by
  funext b; unfold upd; split
  · rename_i z; rw [z, h]
  · rfl
theorem init_ok {u : Value} {Q : Value → Shared → Prop} (I : Inv X pins σ H s) (he : H e = some (.ext (Bare C e))) (K : ErrK X.K C f F) (k : ∀ s', Inv X pins σ H s' → Q .none s') :
    wpAny (model X.prog X.w) A (call (.builtin "ValueError.__init__") [.ref e, u]) Q E s := by
  obtain ⟨⟨t0, ho⟩, _⟩ := (show ObjOk X.prog X.w H s.heap e (.ext (Bare C e)) from I.hok e _ he)
  obtain ⟨h, g, d, t, os⟩ := s
  refine base_init PySem.F.excBase_ValueError (K.cls h I.kIn) ho (by show 1 ≤ sizeLine; decide) fun h' tk e1 kp => k _ ?_
  have := I.write (x := e) (e := e) (o := .ext (Bare C e)) (h' := h') (t' := tk) (by rw [he]; exact True.intro) (.inl rfl) (fun b q n z => kp b q n z) ⟨_, e1⟩ (bare_ok e1)
  rw [upd_id he] at this
  exact this
theorem fresh_ok {H : Hp} {h : Heap} {t0 dx : Addr} (q : h.get? e = some { bareObj C t0 with dict := some dx }) : ObjOk X.prog X.w H h e (.ext (Fresh1 C dx e)) := ⟨⟨t0, q⟩, ⟨_, q⟩, by rintro h1 h2 ⟨t, z⟩ k; exact ⟨t, k _ z⟩⟩
theorem upd_swap {H : Hp} {a b : Addr} {x y : HO} (n : a ≠ b) : upd (upd H a x) b y = upd (upd H b y) a x := by
  funext c; unfold upd
  by_cases e1 : c = b
  · subst e1; rw [if_pos rfl, if_neg (Ne.symm n), if_pos rfl]
  · rw [if_neg e1]
    by_cases e2 : c = a
    · rw [if_pos e2, if_pos e2]
    · rw [if_neg e2, if_neg e2, if_neg e1]
theorem setE_ok {y : V} {u : Value} {Q : Unit → Shared → Prop} (I : Inv X pins σ H s) (he : H e = some (.ext (Bare C e))) (S : ErrSt X.K C F) (ry : RelV y u) (k : ∀ dx s', H dx = none → Inv X pins σ (upd (upd H dx (.xd [(F, y)])) e (.ext (Fresh1 C dx e))) s' → Q () s') :
    wpAny (model X.prog X.w) A (setAttr (.ref e) F u) Q E s := by
  obtain ⟨⟨t0, ho⟩, _⟩ := (show ObjOk X.prog X.w H s.heap e (.ext (Bare C e)) from I.hok e _ he)
  refine lay_first I.kIn S ho fun h' tk ns sb => k s.heap.objs.size _ (I.hok.fresh (Nat.le_refl _)) ?_
  have lt : e < s.heap.objs.size := Heap.lt_size ho
  have ne : s.heap.objs.size ≠ e := Nat.ne_of_gt lt
  have e1 : (s.heap.push { cls := .type "dict", data := .dict #[] }).get? s.heap.objs.size = some { cls := .type "dict", data := .dict #[] } := Heap.get?_push_at rfl rfl
  have I1 := I.laid (a := s.heap.objs.size) (o := .ext fun h => ∃ o, h.get? s.heap.objs.size = some o) (h' := s.heap.push { cls := .type "dict", data := .dict #[] }) (t' := s.toks) (fun b u q => Heap.get?_push_of_some _ q) (Nat.le_refl _) ⟨⟨_, e1⟩, ⟨_, e1⟩, by rintro h1 h2 ⟨o, z⟩ k; exact ⟨o, k _ z⟩⟩
  have h1 : upd H s.heap.objs.size (.ext fun h => ∃ o, h.get? s.heap.objs.size = some o) e = some (.ext (Bare C e)) := by rw [upd_ne (Ne.symm ne)]; exact he
  have e2 := dicted_at (h := s.heap) ho
  have I2 := I1.write (x := e) (e := e) (o := .ext (Fresh1 C s.heap.objs.size e)) (h' := dicted s.heap e) (t' := s.toks) (by rw [h1]; exact True.intro) (.inl rfl) (fun b q n z => dicted_ne n z) ⟨_, e2⟩ (fresh_ok e2)
  have h2 : upd (upd H s.heap.objs.size (.ext fun h => ∃ o, h.get? s.heap.objs.size = some o)) e (.ext (Fresh1 C s.heap.objs.size e)) s.heap.objs.size = some (.ext fun h => ∃ o, h.get? s.heap.objs.size = some o) := by rw [upd_ne ne, upd_same]
  have I3 := I2.write (x := s.heap.objs.size) (e := s.heap.objs.size) (o := .xd [(F, y)]) (h' := h') (t' := tk) (by rw [h2]; exact True.intro) (.inl rfl) (fun b q n z => (sb.2 b n).trans z) (let ⟨o, _, _, q, _⟩ := ns; ⟨o, q⟩) (by
    refine ⟨_, ns, fun g => ?_⟩
    show RelO (List.lookup g [(F, y)]) (if g = F then some u else none)
    by_cases z : g = F
    · subst z; rw [if_pos rfl]; simp [List.lookup]; exact ry
    · rw [if_neg z]
      have : (g == F) = false := by simpa using z
      simp [List.lookup, this]; exact True.intro)
  rw [upd_swap ne, upd_upd, upd_swap (Ne.symm ne)] at I3
  exact I3
theorem look_key {g : Str} {v : V} : ∀ {fs : List (Str × V)}, fs.lookup g = some v → g ∈ fs.map (·.1) := by
  intro fs
  induction fs with
  | nil => intro h; cases h
  | cons p r ih =>
    intro h
    obtain ⟨a, x⟩ := p
    rw [List.lookup_cons] at h
    cases eb : g == a with
    | true => rw [beq_iff_eq.mp eb]; exact .head _
    | false => rw [eb] at h; exact .tail _ (ih h)
theorem Inv.asIns {dx : Addr} {fs : List (Str × V)} (I : Inv X pins σ H s) (he : H e = some (.ext (Fresh1 C dx e))) (hd : H dx = some (.xd fs)) (hl : fs.length ≤ 1000) : Inv X pins σ (upd (upd H dx (.own e)) e (.ins C dx fs)) s := by
  have ne : dx ≠ e := fun z => by rw [z, he] at hd; cases hd
  obtain ⟨⟨t0, ho⟩, _⟩ := (show ObjOk X.prog X.w H s.heap e (.ext (Fresh1 C dx e)) from I.hok e _ he)
  obtain ⟨mA, ns, rl⟩ := (show ObjOk X.prog X.w H s.heap dx (.xd fs) from I.hok dx _ hd)
  have oth : ∀ b, b ≠ e → b ≠ dx → upd (upd H dx (.own e)) e (.ins C dx fs) b = H b := fun b n1 n2 => by rw [upd_ne n1, upd_ne n2]
  have nb : ∀ b u, H b = some u → (∀ φ, u ≠ .ext φ) → (∀ gs, u ≠ .xd gs) → upd (upd H dx (.own e)) e (.ins C dx fs) b = some u := fun b u q n1 n2 => by
    rw [oth b (fun z => by rw [z, he] at q; cases q; exact n1 _ rfl) (fun z => by rw [z, hd] at q; cases q; exact n2 _ rfl)]; exact q
  have U : Un X.fs [] H (upd (upd H dx (.own e)) e (.ins C dx fs)) s.heap s.heap := ⟨fun b o q _ _ _ => q, fun b o q _ _ _ => ⟨o.slots, q⟩, fun b o q n _ => by
    rw [oth b (fun z => by rw [z, he] at n; cases n) (fun z => by rw [z, hd] at n; cases n)]; exact n, fun b o q _ => ⟨o, q⟩, fun b xs q => nb b _ q (fun _ z => by cases z) (fun _ z => by cases z), fun b o u q => nb b _ q (fun _ z => by cases z) (fun _ z => by cases z), fun b ps q => ⟨#[], by rw [Array.append_empty]; exact nb b _ q (fun _ z => by cases z) (fun _ z => by cases z)⟩⟩
  have K : HOk X.prog X.w (upd (upd H dx (.own e)) e (.ins C dx fs)) s.heap := fun b u q => by
    by_cases z : b = e
    · subst z
      rw [upd_same] at q; cases q
      refine ⟨by rw [upd_ne ne, upd_same], hl, ne, ⟨_, _, ho, fun c z => by cases z⟩, mA, ns, rl, fun g hg => ?_⟩
      have := rl g
      cases em : mA g with
      | none => exact absurd em hg
      | some w =>
        cases el : fs.lookup g with
        | none => rw [em, el] at this; exact this.elim
        | some v =>
          exact look_key el
    · rw [upd_ne z] at q
      by_cases z2 : b = dx
      · subst z2; rw [upd_same] at q; cases q
        obtain ⟨o, _, _, h1, _⟩ := ns
        exact ⟨o, h1⟩
      · rw [upd_ne z2] at q
        exact (I.hok b u q).stay (fun c w _ h => h) (fun c h => nb c _ h (fun _ z => by cases z) (fun _ z => by cases z)) fun c xs h => nb c _ h (fun _ z => by cases z) (fun _ z => by cases z)
  exact I.un U K
end
section
variable {X : Cx} {k : Nat} {f C D : Addr} {fd : FuncData} {ps : List Str} {sp : Sp} {x F : Str} {p pos apos pos' : Pos} {e o value : Expr} {es : List Expr} {t : TA} {ta tv : TE}
theorem run_makeE {pins : List (Addr × Obj)} {σ : St} {H : Hp} {s : Shared} {Q : VK} {us : List Value} {vs : List V} (K : ErrK X.K C f F) (Fn : FnOk X.prog X.w X.K X.mg X.base CX0 k f fd ps sp) (hr : Room (k + 1) X.A) (hb : Binds X.K fd ps []) (hz : us.length ≤ sizeLine)
    (I : Inv X pins σ H s) (r : Vals vs us) (h : ∀ e, H e = none → sp (.ref e :: vs) (upd H e (.ext (Bare C e))) (fun v H2 => v = .non ∧ Q (.ref e) H2) E0) :
    wpAny (model X.prog X.w) X.A (call (.ref C) us) (EP X pins σ Q) X.xe s := by
  have hq := h (s.heap.objs.size + 1) (I.hok.fresh (Nat.le_succ _))
  have I2 := I.laid (a := s.heap.objs.size + 1) (o := .ext (Bare C (s.heap.objs.size + 1))) (h' := born s.heap C us) (t' := s.toks) (fun b u q => born_keep q) (Nat.le_succ _) (bare_ok born_at)
  have r2 : Vals (V.ref (s.heap.objs.size + 1) :: vs) (Value.ref (s.heap.objs.size + 1) :: us) := .cons rfl r
  have hl : (Value.ref (s.heap.objs.size + 1) :: us).length = ps.length := by rw [← r2.length]; exact Fn.len _ _ _ _ hq
  have hb2 := hb _ (Value.ref (s.heap.objs.size + 1) :: us) I2.kIn (by rw [List.append_nil]; exact hl)
  rw [List.append_nil] at hb2
  refine made PySem.F.excBase_ValueError (K.cls s.heap I.kIn) hz (wpAny_call (codeAny_mono (Fn.run _ X.stack _ _ ⟨Value.ref (s.heap.objs.size + 1) :: us, []⟩ _ _ _ E0 (hr.make C us []) (I2.env0.make C us []) hb2 r2 hq) fun r s' hq' => ?_))
  cases r with
  | error e => exact hq'.elim
  | ok fl =>
    cases fl with
    | ret u =>
      obtain ⟨v, H', I3, rv, ev, q3⟩ := I2.after hq'
      subst ev
      exact ⟨rv, ⟨V.ref (s.heap.objs.size + 1), H', I3, rfl, q3⟩⟩
    | next => exact False.elim hq'
    | brk => exact False.elim hq'
    | cont => exact False.elim hq'
noncomputable def tMakeE (C : Addr) (sp : Sp) (t : TA) : TE := fun σ H Q => t σ H fun vs H1 => vs.length ≤ 100 ∧ ∀ e, H1 e = none → sp (.ref e :: vs) (upd H1 e (.ext (Bare C e))) (fun v H2 => v = .non ∧ Q (.ref e) H2) E0
theorem pe_makeE (K : ErrK X.K C f F) (Fn : FnOk X.prog X.w X.K X.mg X.base CX0 k f fd ps sp) (hr : Room (k + 1) X.A) (hb : Binds X.K fd ps []) (hg : Gl X x) (hm : X.mg x = some (.ref C)) (ha : PA X (e :: es) t)
    (hdb : (x == ("__debug__" : Str)) = false := by decide) (he : starEach (e :: es) X.env = (false, eval e X.env) :: starEach es X.env := by rfl) (hpl : (backTo pos (starEach es X.env)).any (·.1) = false := by rfl) :
    PE X (.Call (.Name x p) (e :: es) [] pos) (tMakeE C sp t) := by
  intro pins s σ H Q I h
  refine wpAny_Call_Name_kw (ld_glob I hg hm ?_ hdb)
  refine PySem.W.callWith_K (h₀ := X.base) I.ok.mod.kin K.kp (thn (ha pos pins s σ H _ I h) fun us s1 z => ?_) he hpl
  obtain ⟨vs, H1, I1, r, hl, q⟩ := z
  exact ⟨I1.kIn, run_makeE K Fn hr hb (by rw [List.nil_append, ← r.length, sizeLine_eq]; omega) I1 r q⟩
structure ThrB (K : PySem.W.Frag) (D : Addr) : Prop where
  ga : PySem.W.specialIn K (.ref D) "__getattribute__" = some (some (.builtin "type.__getattribute__"))
  rd : PySem.W.readsIn K D (.type "type") = true
  fc : PySem.W.findCls K (.ref D) (.type "type") "__init__" = some (.val (.builtin "ValueError.__init__"))
noncomputable def tInitE (K : PySem.W.Frag) (t : TA) : TE := fun σ H Q => t σ H fun vs H1 => ∃ e z C f F, vs = [.ref e, .str z] ∧ H1 e = some (.ext (Bare C e)) ∧ ErrK K C f F ∧ Q .non H1
theorem pe_initE {pl : Sem Bool} (T : ThrB X.K D) (hg : Gl X x) (hm : X.mg x = some (.ref D)) (ha : PA X (e :: es) t) (hdb : (x == ("__debug__" : Str)) = false := by decide)
    (hst : starEach (e :: es) X.env = (false, eval e X.env) :: starEach es X.env := by rfl) (hpl : (backTo pos (starEach es X.env)).any (·.1) = false := by rfl)
    (ht : eval (.Call (.Attribute (.Name x p) "__init__" apos) (e :: es) [] pos) X.env = (do
      let ov ← eval (.Name x p) X.env
      standAt apos.atName
      let (f, first) ← holding [ov] (getMethod ov "__init__" pl)
      callWith pos f first (backTo pos (starEach (e :: es) X.env)) (backToKw pos (keywordEach [] X.env))) := by rfl) :
    PE X (.Call (.Attribute (.Name x p) "__init__" apos) (e :: es) [] pos) (tInitE X.K t) := by
  intro pins s σ H Q I h
  refine PySem.W.methodCall_KW (pl := pl) (ld_glob I hg hm ?_ hdb) ht
  refine PySem.W.method_cls I.kIn T.ga (PySem.W.cls_value I.kIn T.rd T.fc rfl ?_)
  have hA := ha pos pins _ σ H _ (I.tok (s.toks + 1)) h
  rw [hst] at hA ⊢
  refine Calls.callWith_builtin (by show (false || (backTo pos (starEach es X.env)).any (·.1)) = false; rw [hpl] <;> rfl) (Calls.evalArgs_plain ?_)
  refine thn hA fun us s2 z => ?_
  obtain ⟨vs, H2, I2, r2, e, z, C, f, F, rfl, he, K, q⟩ := z
  obtain ⟨u1, u2, rfl, r3, r4⟩ := r2.two
  obtain rfl : u1 = Value.ref e := r3
  exact init_ok I2 he K fun s' I' => ⟨.non, H2, I', rfl, q⟩
noncomputable def sSetE (K : PySem.W.Frag) (ta tv : TE) (F : Str) : TS := fun D σ H => tv σ H fun y H1 => ta σ H1 fun x H2 => ∃ a C, x = .ref a ∧ H2 a = some (.ext (Bare C a)) ∧ ErrSt K C F ∧ ∀ dx, H2 dx = none → D.nx σ (upd (upd H2 dx (.xd [(F, y)])) a (.ext (Fresh1 C dx a)))
theorem ps_setE (ha : PE X o ta) (hv : PE X value tv) (hs : swapsWith value (some (.Attribute o F pos')) pos.line X.env = pure false) : PS X (.Assign [.Attribute o F pos'] value pos) (sSetE X.K ta tv F) := by
  intro pins s σ H D I h
  refine plainObj_wpAny_Assign_Attribute (thn (hv pins s σ H _ I h) fun u s1 z8 => ?_) hs
  obtain ⟨y, H1, I1, ry, q⟩ := z8
  refine thn (ha pins s1 σ H1 _ I1 q) fun ov s2 z9 => ?_
  obtain ⟨x, H2, I2, rx, a, C, ex, ea, S, q2⟩ := z9
  subst ex
  obtain rfl : ov = Value.ref a := rx
  exact setE_ok I2 ea S ry fun dx s3 hd I3 => ⟨σ, _, I3, q2 dx hd⟩
noncomputable def tFldE (K : PySem.W.Frag) (ta : TE) (F : Str) : TE := fun σ H Q => ta σ H fun x H1 => ∃ a C dx fs v, x = .ref a ∧ H1 a = some (.ins C dx fs) ∧ ErrRd K C F ∧ fs.lookup F = some v ∧ Q v H1
theorem pe_fldE (he : PE X e ta) (hb : attributeBase e F X.env (eval e X.env) = eval e X.env) : PE X (.Attribute e F pos) (tFldE X.K ta F) := by
  intro pins s σ H Q I h
  refine attr_of hb (thn (he pins s σ H _ I h) fun u s1 z9 => ?_)
  obtain ⟨x, H1, I1, rx, a, C, dx, fs, v, ex, ea, S, l, q⟩ := z9
  subst ex
  obtain rfl : u = Value.ref a := rx
  obtain ⟨mA, O, r, _, _, _⟩ := ins_get I1.hok ea
  obtain ⟨dt, sl, od, J, hl⟩ := O.look
  obtain ⟨u2, hu, ru⟩ := RelO.some_of (v := v) (o := mA F) (by rw [← l]; exact r F)
  exact rd_attr I1.kIn S J (by rw [hl, hu]) (handed_of ru) ⟨v, H1, I1.tok _, ru, q⟩
end
end L2
set_option maxHeartbeats 1000000
namespace XC
open PySem PySem.Spec PyProof.Rows
structure Touch (fs : List Addr) (e : Addr) (Ts : List Addr) (h h' : Heap) : Prop where
  keep : ∀ b o, h.get? b = some o → b ≠ e → b ∉ Ts → b ∉ fs → h'.get? b = some o
  slot : ∀ b o, h.get? b = some o → b ≠ e → b ∉ Ts → b ∈ fs → ∃ sl, h'.get? b = some { o with slots := sl }
  there : ∀ b o, h.get? b = some o → ∃ o', h'.get? b = some o'
noncomputable def Flew (h : Heap) (e : Addr) (c : Value) (d : Option Addr) (sl : Array (Option Value)) (T : Addr) (fl : Value) : Prop :=
  ∃ vs oT ts, h.get? e = some ⟨c, d, .fields vs, sl⟩ ∧ vs[2]? = some .none ∧ vs[1]? = some (.ref T) ∧ T ≠ e ∧ h.get? T = some oT ∧ oT.data = .fields ts ∧ ts[3]? = some fl
section
variable {M : Model} {A : Around} {E : Value → Shared → Prop} {s : Shared} {base : Heap} {env : Env} {outer : List Env} {L e : Addr} {c : Value} {d : Option Addr} {sl : Array (Option Value)} {vs : Array Value}
theorem Touch.any {fs Ts : List Addr} {h h' : Heap} (t : Touch fs e Ts h h') {b : Addr} {o : Obj} (q : h.get? b = some o) (n1 : b ≠ e) (n2 : b ∉ Ts) : ∃ sl, h'.get? b = some { o with slots := sl } := by
  by_cases z : b ∈ fs
  · exact t.slot b o q n1 n2 z
  · exact ⟨o.slots, t.keep b o q n1 n2 z⟩
theorem not_frame {h : Heap} {l : List Env} (hl : h.FunFrames base l) {b : Addr} {o : Obj} {ws : Array Value} (q : h.get? b = some o) (hd : o.data = .fields ws) : b ∉ l.filterMap (·.frame) := fun z => by
  obtain ⟨_, o', ho, nf⟩ := hl.mem z
  rw [q] at ho; cases ho; exact nf ws hd
theorem entry {head : Value} {next : Bool} {Q : Unit → Shared → Prop} (hfr : A.frames = some (env :: outer)) (hl : s.heap.FunFrames base (env :: outer)) (hf : env.frame = some L)
    (he : s.heap.get? e = some ⟨c, d, .fields vs, sl⟩) (hz : 1 < vs.size) (h2 : vs[2]? = some .none)
    (k : ∀ h' T, s.heap.objs.size ≤ T → Flew h' e c d sl T (rawInt L) → Touch ((env :: outer).filterMap (·.frame)) e [] s.heap h' → Q () { s with heap := h' }) :
    wpAny M A (do let a ← frameOf env; let pl ← entryPlaceOf L next; let b ← EntryCells.newEntry head a .none (rawInt L) .none pl; setField (.ref e) 1 b) Q E s := by
  have ne := not_frame hl he rfl
  refine wpAny_bind (wpAny_frameOf_fun hfr hl hf fun h1 so => wpAny_bind (wpAny_entryPlaceOf fun pl hp => ?_))
  unfold EntryCells.newEntry newFields
  refine wpAny_bind (wpAny_newObj_type ?_ (hp.sizeOk5 _ _ _ _ _))
  have e1 : h1.get? e = some ⟨c, d, .fields vs, sl⟩ := (so.2.1 e ne).trans he
  generalize ht : (([head, .ref L, .none, rawInt L, .none] ++ (if pl.isEmpty then List.replicate 6 Value.none else pl)).toArray : Array Value) = ts
  have h3 : ts[3]? = some (rawInt L) := by rw [← ht]; rfl
  refine wpAny_setField (Heap.get?_push_of_some _ e1) rfl hz ?_
  have nT : h1.objs.size ≠ e := Nat.ne_of_gt (Heap.lt_size e1)
  have up := Heap.get?_update_self (Obj.mapFields (·.setIfInBounds 1 (Value.ref h1.objs.size))) (Heap.get?_push_of_some { cls := .type "traceback", dict := none, data := .fields ts } e1) rfl
  have oth : ∀ b o, b ≠ e → h1.get? b = some o → ((h1.push { cls := .type "traceback", dict := none, data := .fields ts }).update e (Obj.mapFields (·.setIfInBounds 1 (Value.ref h1.objs.size)))).get? b = some o := fun b o n q => by
    rw [Heap.get?_update_other _ _ (Ne.symm n)]; exact Heap.get?_push_of_some _ q
  refine k _ h1.objs.size (by rw [so.1]; exact Nat.le_refl _) ⟨_, _, ts, up, by rw [Array.getElem?_setIfInBounds_ne (by decide)]; exact h2, by simp [hz], nT, by rw [Heap.get?_update_other _ _ (Ne.symm nT)]; exact Heap.get?_push_size _ rfl, rfl, h3⟩ ⟨fun b o q n1 _ n3 => oth b o n1 ((so.2.1 b n3).trans q), fun b o q n1 _ _ => ?_, fun b o q => ?_⟩
  · obtain ⟨s1, q1⟩ := so.2.2 b o q
    exact ⟨s1, oth b _ n1 q1⟩
  · by_cases z : b = e
    · rw [z]; exact ⟨_, up⟩
    · obtain ⟨s1, q1⟩ := so.2.2 b o q
      exact ⟨_, oth b _ z q1⟩
theorem note_first {Q : Unit → Shared → Prop} (hfr : A.frames = some (env :: outer)) (hl : s.heap.FunFrames base (env :: outer)) (hf : env.frame = some L) (he : s.heap.get? e = some ⟨c, d, .fields vs, sl⟩) (h1 : vs[1]? = some .none) (h2 : vs[2]? = some .none)
    (k : ∀ h' T, s.heap.objs.size ≤ T → Flew h' e c d sl T (rawInt L) → Touch ((env :: outer).filterMap (·.frame)) e [] s.heap h' → Q () { s with heap := h' }) : wpAny M A (noteFrame (.ref e) env) Q E s := by
  unfold noteFrame
  simp only [hf]
  refine wpAny_bind (wpAny_field he rfl h1 ?_)
  rw [if_neg (by decide)]
  exact entry hfr hl hf he (Array.getElem?_eq_some_iff.mp h1).1 h2 k
theorem flight_off {T : Addr} {fl : Value} {Q : Unit → Shared → Prop} (F : Flew s.heap e c d sl T fl) (k : ∀ h', Flew h' e c d sl T .none → Touch [] e [T] s.heap h' → (∀ b, b ≠ T → h'.get? b = s.heap.get? b) → Q () { s with heap := h' }) : wpAny M A (setFlight (.ref e) none) Q E s := by
  obtain ⟨vs, oT, ts, he, h2, h1, ne, hT, hd, h3⟩ := F
  have z3 : 3 < ts.size := (Array.getElem?_eq_some_iff.mp h3).1
  unfold setFlight
  refine wpAny_bind (wpAny_field he rfl h1 ?_)
  rw [if_pos (show (Value.ref T != Value.none) = true by simp)]
  refine wpAny_setField hT hd z3 ?_
  have oth : ∀ b, b ≠ T → (s.heap.update T (Obj.mapFields (·.setIfInBounds 3 ((none : Option Addr).elim Value.none fun f => rawInt f)))).get? b = s.heap.get? b := fun b n => Heap.get?_update_other _ _ (Ne.symm n)
  have at_ := Heap.get?_update_self (Obj.mapFields (·.setIfInBounds 3 ((none : Option Addr).elim Value.none fun f => rawInt f))) hT (Obj.isFreed_of_fields (Obj.data_mapFields hd _))
  have nt : ∀ {b : Addr}, b ∉ [T] → b ≠ T := fun n z => n (by rw [z]; exact .head _)
  refine k _ ⟨vs, _, _, (oth e (Ne.symm ne)).trans he, h2, h1, ne, at_, Obj.data_mapFields hd _, by simp [z3]⟩ ⟨fun b o q _ n _ => (oth b (nt n)).trans q, fun b o q _ n _ => ⟨o.slots, (oth b (nt n)).trans q⟩, fun b o q => ?_⟩ oth
  by_cases z : b = T
  · rw [z]; exact ⟨_, at_⟩
  · exact ⟨o, (oth b z).trans q⟩
theorem leave_first {Q : Unit → Shared → Prop} (hfr : A.frames = some (env :: outer)) (hl : s.heap.FunFrames base (env :: outer)) (hf : env.frame = some L) (he : s.heap.get? e = some ⟨c, d, .fields vs, sl⟩) (h1 : vs[1]? = some .none) (h2 : vs[2]? = some .none)
    (k : ∀ h' T, s.heap.objs.size ≤ T → Flew h' e c d sl T .none → Touch ((env :: outer).filterMap (·.frame)) e [] s.heap h' → Q () { s with heap := h' }) : wpAny M A (leaving env (.ref e)) Q E s := by
  unfold leaving
  refine wpAny_bind (note_first hfr hl hf he h1 h2 fun h1' T nT F t => ?_)
  refine flight_off (s := { s with heap := h1' }) F fun h2 F2 t2 oth => k h2 T nT F2 ?_
  have nb : ∀ b o, s.heap.get? b = some o → b ≠ T := fun b o q z => absurd (Heap.lt_size q) (by rw [z]; exact Nat.not_lt.mpr nT)
  exact ⟨fun b o q n1 n2 n3 => (oth b (nb b o q)).trans (t.keep b o q n1 n2 n3), fun b o q n1 n2 n3 => let ⟨s1, q1⟩ := t.slot b o q n1 n2 n3; ⟨s1, (oth b (nb b o q)).trans q1⟩, fun b o q => let ⟨o1, q1⟩ := t.there b o q; ⟨o1, (oth b (nb b o q)).trans q1⟩⟩
end
end XC
set_option maxHeartbeats 1000000
namespace L2
open PySem PySem.Spec PyProof.Rows XC
noncomputable def CXE (P : Program) (w : World) : CXT := fun outer H s E e s' => ∃ ea C dx fs T sl H', e = .ref ea ∧ Flew s'.heap ea (.ref C) (some dx) sl T .none ∧ s.heap.get? T = none ∧ H' T = none ∧ s'.os = s.os ∧ AllBare s'.gens ∧ Un (frs outer) [] H H' s.heap s'.heap ∧ HOk P w H' s'.heap ∧ H' ea = some (.ins C dx fs) ∧ E (.ref C) (some ea) H'
theorem HOk.touch {P : Program} {w : World} {H : Hp} {h h' : Heap} {fs Ts : List Addr} {e C dx : Addr} {gs : List (Str × V)} (hok : HOk P w H h) (t : Touch fs e Ts h h') (nf : ∀ b ∈ fs, H b = none) (nt : ∀ b ∈ Ts, H b = none) (he : H e = some (.ins C dx gs)) (hi : InsO h' e C dx) : HOk P w H h' := fun b u q => by
  have kp : ∀ c v, c ≠ e → (∃ u, H c = some u) → h.get? c = some v → h'.get? c = some v := fun c v n z r => by
    obtain ⟨u, z⟩ := z
    exact t.keep c v r n (fun m => by rw [nt c m] at z; cases z) (fun m => by rw [nf c m] at z; cases z)
  by_cases z : b = e
  · subst z
    rw [he] at q; cases q
    obtain ⟨d, z1, ne, _, mA, ns, r, q⟩ := (show ObjOk P w H h b (.ins C dx gs) from hok b _ he)
    exact ⟨d, z1, ne, hi, mA, ns.at fun o r => kp dx o ne ⟨_, d⟩ r, r, q⟩
  · refine (hok b u q).stay (fun c v hc r => ?_) (fun _ h => h) fun _ _ h => h
    rcases hc with rfl | hc
    · exact kp c v z ⟨_, q⟩ r
    · exact kp c v (fun y => by rw [y, he] at hc; cases hc) ⟨_, hc⟩ r
theorem flew_ins {h : Heap} {e C dx T : Addr} {sl : Array (Option Value)} {fl : Value} (F : Flew h e (.ref C) (some dx) sl T fl) : InsO h e C dx := by
  obtain ⟨vs, _, _, he, h2, _⟩ := F
  exact ⟨_, _, he, fun c z => by cases z⟩
section
variable {P : Program} {w : World} {K : PySem.W.Frag} {mg : Str → Option Value} {base : Heap} {N : List Str} {qual : Str} {scope : Scope} {f : Addr} {cd : Value} {A : Around} {outer : List Env} {s : Shared} {H : Hp} {E : XK}
theorem xe_raise {pins : List (Addr × Obj)} {σ : St} {H1 : Hp} {s1 : Shared} {e C dx : Addr} {fs : List (Str × V)} (I : Inv (cxOf (CXE P w) P w K mg base N qual scope f cd A outer s H E) pins σ H1 s1) (he : H1 e = some (.ext (Fresh1 C dx e))) (hd : H1 dx = some (.xd fs)) (hl : fs.length ≤ 1000)
    (q : E (.ref C) (some e) (upd (upd H1 dx (.own e)) e (.ins C dx fs))) : (cxOf (CXE P w) P w K mg base N qual scope f cd A outer s H E).xe (.ref e) s1 := by
  have I' := I.asIns he hd hl
  obtain ⟨⟨t0, ho⟩, _⟩ := (show ObjOk P w H1 s1.heap e (.ext (Fresh1 C dx e)) from I.hok e _ he)
  have hF := I'.stack
  have nf := I'.stkFree
  have ie : upd (upd H1 dx (.own e)) e (.ins C dx fs) e = some (.ins C dx fs) := upd_same
  show wpAny _ _ (leaving _ (.ref e)) _ _ s1
  refine leave_first (outer := outer) I.ok.frames hF rfl ho rfl rfl fun h' T nT F t => ?_
  have hU : Un (frs outer) [] H (upd (upd H1 dx (.own e)) e (.ins C dx fs)) s.heap s1.heap := I'.base
  have nL : ∀ b o, s.heap.get? b = some o → b ∉ frs outer → b ∉ (envOfC qual scope s.heap.objs.size f cd :: outer).filterMap (·.frame) := fun b o q n z => by
    rw [List.filterMap_cons] at z
    rcases List.mem_cons.mp (show b ∈ s.heap.objs.size :: outer.filterMap (·.frame) from z) with z | z
    · rw [z] at q; exact absurd (Heap.lt_size q) (Nat.lt_irrefl _)
    · exact n z
  have ne : ∀ b o, s.heap.get? b = some o → H b = none → b ≠ e := fun b o q n z => by
    have := hU.free b o q n (by simp)
    rw [z, ie] at this; cases this
  refine ⟨e, C, dx, fs, T, _, _, rfl, F, ?_, ?_, I.os, I.bare, ⟨fun b o q n n2 _ => t.keep b o (hU.keep b o q n n2 (by simp)) (ne b o q n) (by simp) (nL b o q n2), fun b o q n n2 _ => ?_, hU.free, fun b o q _ => ?_, hU.tups, hU.frzs, hU.tbls⟩, I'.hok.touch t nf (by simp) ie (flew_ins F), ie, q⟩
  · exact Heap.get?_none_of_le (Nat.le_trans I.sz nT)
  · exact I'.hok.fresh nT
  · obtain ⟨s1', q1⟩ := hU.slot b o q n n2 (by simp)
    obtain ⟨s2, q2⟩ := t.any q1 (ne b o q n) (by simp)
    exact ⟨s2, q2⟩
  · obtain ⟨o1, q1⟩ := hU.there b o q (by simp)
    exact t.there b o1 q1
end
section
variable {X : Cx} {k : Nat} {f C : Addr} {fd : FuncData} {ps : List Str} {sp : Sp} {x F : Str} {p pos cpos : Pos} {e : Expr} {es : List Expr} {t : TA}
theorem raise_one {M : Model} {A : Around} {E : Value → Shared → Prop} {s : Shared} {env : Env} {y : Sem Value} {Q : Flow → Shared → Prop} (hh : A.handled = none)
    (h : wpAny M A y (fun v s1 => ∃ a t0 dx, v = .ref a ∧ ErrCls s1.heap C f veB "ValueError.__new__" ∧ s1.heap.get? a = some { bareObj C t0 with dict := some dx } ∧ E (.ref a) s1) E s) : wpAny M A (raiseStmt env (some y) none) Q E s := by
  unfold raiseStmt
  refine wpAny_bind (wpAny_mono h (fun v s1 z => ?_) fun _ _ z => z)
  obtain ⟨a, t0, dx, rfl, K, ha, hE⟩ := z
  obtain ⟨nm, q, N, bs, bm, hdct, sn, sub, ab, col, dd, k0, k1, k2, k3, k5, mN, oI, hC, hn, hi, T, hf, hfc⟩ := K.ex
  have be : (Value.ref C :: bm).contains (.type "BaseException") = true := by rw [List.contains_cons, T.hasType (X := "BaseException") (b := true) (by decide +kernel), Bool.or_true]
  obtain ⟨hp, g, d, tk, os⟩ := s1
  repeat (first | with_reducible refine wpAny_loadPart_at ha ?_ | with_reducible refine wpAny_loadPart_at hC ?_ | (with_reducible refine wpAny_isSubtype_exc hC ?_; rw [be]) | wp_step)
  exact wpAny_raiseNew_none hh hE
noncomputable def sRaise (C : Addr) (sp : Sp) (W : Addr → Addr → List (Str × V) → Hp → Prop) (t : TA) : TS := fun D σ H => tMakeE C sp t σ H fun v H2 => ∃ a dx fs, v = .ref a ∧ H2 a = some (.ext (Fresh1 C dx a)) ∧ H2 dx = some (.xd fs) ∧ fs.length ≤ 1000 ∧ W a dx fs H2
theorem ps_raiseE {W : Addr → Addr → List (Str × V) → Hp → Prop} (hc : X.calm = true) (K : ErrK X.K C f F) (Fn : FnOk X.prog X.w X.K X.mg X.base CX0 k f fd ps sp) (hr : Room (k + 1) X.A) (hb : Binds X.K fd ps []) (hg : Gl X x) (hm : X.mg x = some (.ref C)) (ha : PA X (e :: es) t)
    (hW : ∀ pins σ H s a dx fs, Inv X pins σ H s → H a = some (.ext (Fresh1 C dx a)) → H dx = some (.xd fs) → fs.length ≤ 1000 → W a dx fs H → X.xe (.ref a) s)
    (hdb : (x == ("__debug__" : Str)) = false := by decide) (he : starEach (e :: es) X.env = (false, eval e X.env) :: starEach es X.env := by rfl) (hpl : (backTo cpos (starEach es X.env)).any (·.1) = false := by rfl) :
    PS X (.Raise (some (.Call (.Name x p) (e :: es) [] cpos)) none pos) (sRaise C sp W t) := by
  intro pins s σ H D I h
  rw [arm_exec_Raise]
  simp only [evalOpt, Option.map]
  have P := pe_makeE (p := p) (pos := cpos) K Fn hr hb hg hm ha hdb he hpl pins s σ H _ I h
  refine wpAny_bind (wpAny_standAt (raise_one (C := C) (f := f) (I.ok.hd hc) ?_))
  refine wpAny_bind (thn P fun v s1 hq => ?_)
  obtain ⟨v', H2, I2, hvr, a, dx, fs, rfl, ha2, hd2, hl2, w2⟩ := hq
  refine wpAny_bind (wpAny_standAt (wpAny_pure ?_))
  obtain ⟨⟨t0, ho⟩, _⟩ := (show ObjOk X.prog X.w H2 s1.heap a (.ext (Fresh1 C dx a)) from I2.hok a _ ha2)
  cases hvr
  exact ⟨a, t0, dx, rfl, K.cls _ I2.kIn, ho, hW pins σ H2 s1 a dx fs I2 ha2 hd2 hl2 w2⟩
end
end L2
set_option maxHeartbeats 1000000
namespace XC
open PySem PySem.Spec PyProof.Rows
section
variable {M : Model} {A : Around} {E : Value → Shared → Prop} {s : Shared} {base : Heap} {env : Env} {outer : List Env} {L e : Addr} {c : Value} {d : Option Addr} {sl : Array (Option Value)} {T : Addr}
theorem note_on {Q : Unit → Shared → Prop} (hfr : A.frames = some (env :: outer)) (hl : s.heap.FunFrames base (env :: outer)) (hf : env.frame = some L) (F : Flew s.heap e c d sl T .none)
    (k : ∀ h' T', s.heap.objs.size ≤ T' → Flew h' e c d sl T' (rawInt L) → Touch ((env :: outer).filterMap (·.frame)) e [T] s.heap h' → Q () { s with heap := h' }) : wpAny M A (noteFrame (.ref e) env) Q E s := by
  obtain ⟨vs, oT, ts, he, h2, h1, ne, hT, hd, h3⟩ := F
  have z1 : 1 < vs.size := (Array.getElem?_eq_some_iff.mp h1).1
  have z3 : 3 < ts.size := (Array.getElem?_eq_some_iff.mp h3).1
  unfold noteFrame
  simp only [hf]
  refine wpAny_bind (wpAny_field he rfl h1 ?_)
  rw [if_pos (show (Value.ref T != Value.none) = true by simp)]
  refine wpAny_bind (wpAny_field hT hd h3 ?_)
  rw [if_neg (show ¬ ((Value.none == rawInt L) = true) by simp [rawInt])]
  refine wpAny_bind (wpAny_setField hT hd z3 ?_)
  have oth : ∀ b, b ≠ T → (s.heap.update T (Obj.mapFields (·.setIfInBounds 3 Value.none))).get? b = s.heap.get? b := fun b n => Heap.get?_update_other _ _ (Ne.symm n)
  have at_ := Heap.get?_update_self (Obj.mapFields (·.setIfInBounds 3 Value.none)) hT (Obj.isFreed_of_fields (Obj.data_mapFields hd _))
  have nt : ∀ {b : Addr}, b ∉ [T] → b ≠ T := fun n z => n (by rw [z]; exact .head _)
  have e1 := (oth e (Ne.symm ne)).trans he
  have nT : T ∉ (env :: outer).filterMap (·.frame) := not_frame hl hT hd
  have hl' : (s.heap.update T (Obj.mapFields (·.setIfInBounds 3 Value.none))).FunFrames base (env :: outer) := Heap.FunFrames.of_keeps (fun b o q nf => ⟨o, (oth b fun z => by rw [z, hT] at q; cases q; exact nf ts hd).trans q, rfl⟩) hl
  refine entry (s := { s with heap := s.heap.update T (Obj.mapFields (·.setIfInBounds 3 Value.none)) }) hfr hl' hf e1 z1 h2 fun h' T' nT' F t => k h' T' (by rw [← Heap.size_update]; exact nT') F ⟨fun b o q n1 n2 n3 => t.keep b o ((oth b (nt n2)).trans q) n1 (by simp) n3, fun b o q n1 n2 n3 => t.slot b o ((oth b (nt n2)).trans q) n1 (by simp) n3, fun b o q => ?_⟩
  by_cases z : b = T
  · exact t.there b _ (by rw [z]; exact at_)
  · exact t.there b o ((oth b z).trans q)
theorem land {Q : Unit → Shared → Prop} (hfr : A.frames = some (env :: outer)) (hl : s.heap.FunFrames base (env :: outer)) (hf : env.frame = some L) (F : Flew s.heap e c d sl T .none)
    (k : ∀ h' T', s.heap.objs.size ≤ T' → Flew h' e c d sl T' .none → Touch ((env :: outer).filterMap (·.frame)) e [T] s.heap h' → Q () { s with heap := h' }) :
    wpAny M A (noteFrame (.ref e) env) (fun _ s1 => wpAny M A (setFlight (.ref e) none) Q E s1) E s := by
  refine note_on hfr hl hf F fun h1 T1 nT F1 t => ?_
  refine flight_off (s := { s with heap := h1 }) F1 fun h2 F2 t2 oth => k h2 T1 nT F2 ?_
  have nb : ∀ b o, s.heap.get? b = some o → b ≠ T1 := fun b o q z => absurd (Heap.lt_size q) (by rw [z]; exact Nat.not_lt.mpr nT)
  exact ⟨fun b o q n1 n2 n3 => (oth b (nb b o q)).trans (t.keep b o q n1 n2 n3), fun b o q n1 n2 n3 => let ⟨s1, q1⟩ := t.slot b o q n1 n2 n3; ⟨s1, (oth b (nb b o q)).trans q1⟩, fun b o q => let ⟨o1, q1⟩ := t.there b o q; ⟨o1, (oth b (nb b o q)).trans q1⟩⟩
end
end XC
namespace L2
open PySem PySem.Spec PyProof.Rows XC
theorem Un.touch {fs Ts : List Addr} {H H' : Hp} {h h1 h2 : Heap} {e C dx : Addr} {gs : List (Str × V)} (u : Un fs [] H H' h h1) (t : Touch fs e Ts h1 h2) (nT : ∀ b ∈ Ts, h.get? b = none) (he : H' e = some (.ins C dx gs)) : Un fs [] H H' h h2 := by
  have ne : ∀ b o, h.get? b = some o → H b = none → b ≠ e := fun b o q n z => by
    have f := u.free b o q n (by simp)
    rw [z, he] at f; cases f
  have nt : ∀ b o, h.get? b = some o → b ∉ Ts := fun b o q z => by rw [nT b z] at q; cases q
  refine ⟨fun b o q n n2 _ => t.keep b o (u.keep b o q n n2 (by simp)) (ne b o q n) (nt b o q) n2, fun b o q n n2 _ => ?_, u.free, fun b o q _ => ?_, u.tups, u.frzs, u.tbls⟩
  · obtain ⟨s1, q1⟩ := u.slot b o q n n2 (by simp)
    obtain ⟨s2, q2⟩ := t.slot b _ q1 (ne b o q n) (nt b o q) n2
    exact ⟨s2, q2⟩
  · obtain ⟨o1, q1⟩ := u.there b o q (by simp)
    exact t.there b o1 q1
noncomputable def Cx.amid (X : Cx) (e : Addr) (xe : Value → Shared → Prop) : Cx := { X with A := X.A.mark (some (.ref e)), calm := false, xe := xe }
noncomputable def Cx.held (X : Cx) (pl : List (Addr × Obj)) (xe : Value → Shared → Prop) : Cx := { X with pn := X.pn ++ pl, xe := xe }
section
variable {X : Cx} {pins pl : List (Addr × Obj)} {σ : St} {H : Hp} {s : Shared} {e : Addr} {xe : Value → Shared → Prop}
theorem Inv.amid (I : Inv X pins σ H s) : Inv (X.amid e xe) pins σ H s :=
  ⟨⟨I.ok.mod, I.ok.kind, I.ok.glob, I.ok.blt, I.ok.above, I.ok.inj, I.ok.has, I.ok.cab, (fun z => by cases z), I.ok.frames, I.ok.stk, I.ok.exf, I.ok.bs, I.ok.bsz, I.ok.noex, I.ok.exfs, I.ok.funs, I.ok.frf⟩, I.os, I.bare, I.base, I.loc, I.cell, I.free, I.freeC, I.pin, I.hok, I.len⟩
theorem Inv.held (I : Inv X pl σ H s) : Inv (X.held pl xe) [] σ H s :=
  ⟨⟨I.ok.mod, I.ok.kind, I.ok.glob, I.ok.blt, I.ok.above, I.ok.inj, I.ok.has, I.ok.cab, I.ok.hd, I.ok.frames, I.ok.stk, I.ok.exf, I.ok.bs, I.ok.bsz, I.ok.noex, I.ok.exfs, I.ok.funs, I.ok.frf⟩, I.os, I.bare, I.base, I.loc, I.cell, I.free, I.freeC, fun p hp => I.pin p (by simpa [Cx.held] using hp), I.hok, I.len⟩
theorem Inv.unheld (I : Inv (X.held pl xe) pins σ H s) : Inv X pl σ H s :=
  ⟨⟨I.ok.mod, I.ok.kind, I.ok.glob, I.ok.blt, I.ok.above, I.ok.inj, I.ok.has, I.ok.cab, I.ok.hd, I.ok.frames, I.ok.stk, I.ok.exf, I.ok.bs, I.ok.bsz, I.ok.noex, I.ok.exfs, I.ok.funs, I.ok.frf⟩, I.os, I.bare, I.base, I.loc, I.cell, I.free, I.freeC, fun p hp => I.pin p (List.mem_append_left _ hp), I.hok, I.len⟩
theorem unbind_ok {M : Model} {A : Around} {E : Value → Shared → Prop} {i : Nat} {x : Str} {v : V} {Q : Unit → Shared → Prop} (I : Inv X pins σ H s) (hN : X.N.Nodup) (hi : X.N[i]? = some x) (hx : X.env.scope.names.lookup x = some .local) (hv : σ[i]? = some (some v))
    (k : ∀ s', Inv X pins (σ.set i none) H s' → Q () s') : wpAny M A (unbindName X.env x) Q E s := by
  obtain ⟨m, hn, hl⟩ := id I.loc
  obtain ⟨u, _, lk⟩ := hl i x v hi hv (.inl hx)
  have mx : m x = some u := by
    rcases lk with ⟨_, z⟩ | ⟨z | z, _⟩
    · exact z
    · rw [show X.env.kindOf x = some .local from hx] at z; cases z
    · rw [show X.env.kindOf x = some .local from hx] at z; cases z
  have hiσ : i < σ.length := by rw [I.len]; exact (List.getElem?_eq_some_iff.mp hi).1
  refine wpAny_unbindName_local hx hn mx (by rw [I.ok.kind]; rfl) fun h' u' hn' same => k _ ?_
  have mv : ∀ {b : Addr} {o : Obj}, b ≠ X.env.locals → s.heap.get? b = some o → h'.get? b = some o := fun n q => (same.2 _ n).trans q
  have old : ∀ {b : Addr} {o : Obj}, X.s₀.heap.get? b = some o → b ≠ X.env.locals := fun q => Nat.ne_of_lt (Nat.lt_of_lt_of_le (Heap.lt_size q) I.ok.above)
  have nh : ∀ {b : Addr} {z : HO}, H b = some z → b ≠ X.env.locals := fun q y => by rw [y, I.free] at q; cases q
  refine { ok := I.ok, os := I.os, bare := I.bare, base := { keep := fun b o q n hb hx => mv (old q) (I.base.keep b o q n hb hx), slot := fun b o q n hb hx => ?_, free := I.base.free, there := fun b o q hx => ?_, tups := I.base.tups, frzs := I.base.frzs, tbls := I.base.tbls }, loc := ⟨_, hn', fun j y v' e1 e2 e3 => ?_⟩, cell := fun y c q => ?_, free := I.free, freeC := I.freeC, pin := fun p hp => ?_, hok := fun b z q => ?_, len := by simpa using I.len }
  · obtain ⟨sl, q1⟩ := I.base.slot b o q n hb hx
    exact ⟨sl, mv (old q) q1⟩
  · obtain ⟨o', q1⟩ := I.base.there b o q hx
    exact ⟨o', mv (old q) q1⟩
  · have hj : j ≠ i := fun z => by rw [z, List.getElem?_set_self hiσ] at e2; cases e2
    rw [List.getElem?_set_ne (Ne.symm hj)] at e2
    obtain ⟨w, rw', q⟩ := hl j y v' e1 e2 e3
    have yx : y ≠ x := fun z => hj (nodup_ix hN e1 (z ▸ hi))
    refine ⟨w, rw', ?_⟩
    rcases q with ⟨a, b⟩ | ⟨a, c, b, z⟩
    · exact .inl ⟨a, by simp [yx, b]⟩
    · exact .inr ⟨a, c, b, z.sameBut same (I.cne y c b)⟩
  · obtain ⟨w, z⟩ := I.cell y c q
    exact ⟨w, z.sameBut same (I.cne y c q)⟩
  · obtain ⟨q, n, ne, nf, d⟩ := I.pin p hp
    exact ⟨mv ne q, n, ne, nf, d⟩
  · refine (I.hok b z q).stay (fun c y hc r => mv ?_ r) (fun _ q => q) fun _ _ q => q
    rcases hc with rfl | hc
    · exact nh q
    · exact nh hc
end
end L2
set_option maxHeartbeats 1000000
namespace L2
open PySem PySem.Spec PyProof.Rows XC
theorem Touch.wider {fs Ts : List Addr} {e : Addr} {h h' : Heap} (t : Touch [] e Ts h h') : Touch fs e Ts h h' := ⟨fun b o q n1 n2 _ => t.keep b o q n1 n2 (by simp), fun b o q n1 n2 _ => ⟨o.slots, t.keep b o q n1 n2 (by simp)⟩, t.there⟩
section
variable {X : Cx} {pins : List (Addr × Obj)} {σ : St} {H : Hp} {s s' : Shared} {E : XK} {v : Value} {L : Addr}
theorem caught {M : Model} {E' : Value → Shared → Prop} {Q : Unit → Shared → Prop} (I : Inv X pins σ H s) (hs : X.stack = X.env :: X.outer) (hf : X.env.frame = some L) (h : CXE X.prog X.w X.stack H s E v s')
    (k : ∀ ea C dx fs sl T H' s2, v = .ref ea → H' ea = some (.ins C dx fs) → E (.ref C) (some ea) H' → Flew s2.heap ea (.ref C) (some dx) sl T .none → Inv X pins σ H' s2 →
      (∀ h3, Flew h3 ea (.ref C) (some dx) sl T .none → Touch [] ea [T] s2.heap h3 → Inv X pins σ H' { s2 with heap := h3 }) → Q () s2) :
    wpAny M X.A (noteFrame v X.env) (fun _ s1 => wpAny M X.A (setFlight v none) Q E' s1) E' s' := by
  obtain ⟨ea, C, dx, fs, T, sl, H', rfl, F, nT, hT, os, bare, un, hok, he, w⟩ := h
  have I1 : Inv X pins σ H' s' := I.call' os un hok bare (by simp)
  have fr := I1.stack
  have fq := I.ok.frames
  rw [hs] at fr fq
  have one : ∀ {T : Addr} {P : Addr → Prop}, P T → ∀ b ∈ [T], P b := fun p b m => by rw [List.mem_singleton.mp m]; exact p
  refine land fq fr hf F fun h2 T2 nT2 F2 t => ?_
  have t' : Touch (frs X.stack) ea [T] s'.heap h2 := by rw [hs]; exact t
  have un2 : Un (frs X.stack) [] H H' s.heap h2 := un.touch t' (one nT) he
  have ok2 : HOk X.prog X.w H' h2 := hok.touch t' I1.stkFree (one (P := fun b => H' b = none) hT) he (flew_ins F2)
  have sT : s.heap.get? T2 = none := by
    cases q : s.heap.get? T2 with
    | none => rfl
    | some o =>
      obtain ⟨o', q'⟩ := un.there T2 o q (by simp)
      exact absurd (Heap.lt_size q') (Nat.not_lt.mpr nT2)
  refine k ea C dx fs sl T2 H' _ rfl he w F2 (I.call' os un2 ok2 bare (by simp)) fun h3 F3 t3 => ?_
  have t3' : Touch (frs X.stack) ea [T2] h2 h3 := Touch.wider t3
  exact I.call' os (un2.touch t3' (one sT) he) (ok2.touch t3' I1.stkFree (one (P := fun b => H' b = none) (hok.fresh nT2)) he (flew_ins F3)) bare (by simp)
end
noncomputable def rem2 (H : Hp) (a b : Addr) : Hp := fun c => if c = a ∨ c = b then none else H c
noncomputable def RawOk (C dx : Addr) (fs : List (Str × V)) (oe od : Obj) : Prop := ∃ (vs : Array Value) (sl : Array (Option Value)) (mA : Str → Option Value), oe = ⟨.ref C, some dx, .fields vs, sl⟩ ∧ vs[2]? = some .none ∧ (∀ nm, PySem.W.lookIn nm od = some (mA nm)) ∧ ∀ g, RelO (fs.lookup g) (mA g)
noncomputable def Cx.suite (X : Cx) (pl : List (Addr × Obj)) (e : Addr) (oe : Obj) (dx : Addr) (od : Obj) : Cx := { X with A := X.A.mark (some (.ref e)), calm := false, pn := X.pn ++ pl ++ [(e, oe), (dx, od)], xe := fun _ _ => False }
section
variable {X : Cx} {pins pl : List (Addr × Obj)} {σ : St} {H : Hp} {s : Shared} {e C dx T : Addr} {oe od : Obj} {fs : List (Str × V)} {sl : Array (Option Value)} {fl : Value}
theorem Inv.unsuite (ok : X.Ok) (I : Inv (X.suite pl e oe dx od) pins σ H s) : Inv X pl σ H s := ⟨ok, I.os, I.bare, I.base, I.loc, I.cell, I.free, I.freeC, fun p hp => I.pin p (List.mem_append_left _ (List.mem_append_left _ hp)), I.hok, I.len⟩
theorem rem2_some {a b c : Addr} {u : HO} (h : rem2 H a b c = some u) : c ≠ a ∧ c ≠ b ∧ H c = some u := by
  unfold rem2 at h
  split at h
  · cases h
  · rename_i n
    exact ⟨fun z => n (.inl z), fun z => n (.inr z), h⟩
theorem rem2_of {a b c : Addr} {u : HO} (n1 : c ≠ a) (n2 : c ≠ b) (h : H c = some u) : rem2 H a b c = some u := by
  unfold rem2
  rw [if_neg (fun z => z.elim n1 n2)]; exact h
theorem rem2_none {a b c : Addr} (h : H c = none) : rem2 H a b c = none := by unfold rem2; split <;> first | rfl | exact h
theorem Inv.raw (I : Inv X pl σ H s) (he : H e = some (.ins C dx fs)) (F : Flew s.heap e (.ref C) (some dx) sl T fl) : ∃ oe od, RawOk C dx fs oe od ∧ s.heap.get? e = some oe ∧ Inv (X.suite pl e oe dx od) [] σ (rem2 H e dx) s := by
  obtain ⟨vs, oT, ts, hobj, h2, _⟩ := F
  obtain ⟨hd, _, ne, _, mA, ns, rl, _⟩ := (show ObjOk X.prog X.w H s.heap e (.ins C dx fs) from I.hok e _ he)
  obtain ⟨od, hod, hl⟩ := lookIn_ns ns
  have dat : ∀ v, od.data ≠ .cell v := by
    obtain ⟨o, es, ep, ho, q1, q2, q3, q4⟩ := ns
    rw [hod] at ho; cases ho
    intro v z
    first | (rw [q1] at z; cases z) | (rw [q2] at z; cases z) | (rw [q3] at z; cases z)
  have fsn : ∀ b ∈ X.fs, H b = none := fun b hb => by
    obtain ⟨_, o, ho, _⟩ := I.ok.funs.mem hb
    exact I.base.free b o ho (I.ok.frf b hb) fun z => I.ok.exfs b z hb
  have nn : ∀ {b : Addr} {u : HO}, H b = some u → b ≠ X.env.locals ∧ b ∉ X.fs := fun q => ⟨(fun z => by rw [z, I.free] at q; cases q), fun z => by rw [fsn _ z] at q; cases q⟩
  refine ⟨_, od, ⟨vs, sl, mA, rfl, h2, hl, rl⟩, hobj, ⟨⟨I.ok.mod, I.ok.kind, I.ok.glob, I.ok.blt, I.ok.above, I.ok.inj, I.ok.has, I.ok.cab, (fun z => by cases z), I.ok.frames, I.ok.stk, I.ok.exf, I.ok.bs, I.ok.bsz, I.ok.noex, I.ok.exfs, I.ok.funs, I.ok.frf⟩, I.os, I.bare, ⟨I.base.keep, I.base.slot, fun b o q n hx => rem2_none (I.base.free b o q n hx), I.base.there, fun b xs q => ?_, fun b o u q => ?_, fun b ps q => ?_⟩, I.loc, I.cell, rem2_none I.free, fun x c q => rem2_none (I.freeC x c q), fun p hp => ?_, fun b u q => ?_, I.len⟩⟩
  · have q1 := I.base.tups b xs q
    exact rem2_of (fun z => by rw [z, he] at q1; cases q1) (fun z => by rw [z, hd] at q1; cases q1) q1
  · have q1 := I.base.frzs b o u q
    exact rem2_of (fun z => by rw [z, he] at q1; cases q1) (fun z => by rw [z, hd] at q1; cases q1) q1
  · obtain ⟨more, q1⟩ := I.base.tbls b ps q
    exact ⟨more, rem2_of (fun z => by rw [z, he] at q1; cases q1) (fun z => by rw [z, hd] at q1; cases q1) q1⟩
  · rcases List.mem_append.mp (show p ∈ X.pn ++ pl ++ [(e, _), (dx, od)] from by simpa [Cx.suite] using hp) with z | z
    · obtain ⟨a, b, c⟩ := I.pin p z
      exact ⟨a, rem2_none b, c⟩
    · rcases List.mem_cons.mp z with z | z
      · rw [z]; exact ⟨hobj, by unfold rem2; rw [if_pos (.inl rfl)], (nn he).1, (nn he).2, fun v q => by cases q⟩
      · rw [List.mem_singleton.mp z]; exact ⟨hod, by unfold rem2; rw [if_pos (.inr rfl)], (nn hd).1, (nn hd).2, dat⟩
  · obtain ⟨n1, n2, q1⟩ := rem2_some q
    refine (I.hok b u q1).stay (fun _ _ _ r => r) (fun c r => rem2_of (fun z => by rw [z, he] at r; cases r) (fun z => by rw [z, hd] at r; cases r; exact n1 rfl) r) fun c xs r => rem2_of (fun z => by rw [z, he] at r; cases r) (fun z => by rw [z, hd] at r; cases r) r
end
section
variable {X : Cx} {i : Nat} {n c : Str} {C0 L : Addr} {body suite : List Stmt} {b0 : Stmt} {tb : Ends → TS} {ts : Addr → Obj → Addr → Obj → TS} {p1 hp pos : Pos}
noncomputable def tryE (X : Cx) (pins : List (Addr × Obj)) (D : Ends) (hs : List ExceptHandler) : Value → Shared → Prop := fun e s1 => wpAny (model X.prog X.w) X.A (noteFrame e X.env) (fun _ s2 => wpAny (model X.prog X.w) X.A (setFlight e none) (fun _ s3 => wpAny (model X.prog X.w) X.A (handleBy e X.env hs) (SP X pins D) X.xe s3) X.xe s2) X.xe s1
noncomputable def Ends.behind (D : Ends) (i : Nat) : Ends := { nx := fun σ H => D.nx (σ.set i none) H, rt := D.rt, bk := fun σ H => D.bk (σ.set i none) H, ct := fun σ H => D.ct (σ.set i none) H }
noncomputable def wishT (X : Cx) (C0 : Addr) (i : Nat) (ts : Addr → Obj → Addr → Obj → TS) (D : Ends) : XK := fun c oa H' => ∃ ea C dx fs, oa = some ea ∧ c = .ref C ∧ H' ea = some (.ins C dx fs) ∧ PySem.W.exmOne X.K (.ref C) (.ref C0) = some true ∧ ∀ oe od, RawOk C dx fs oe od → H' dx = some (.own ea) → ts ea oe dx od (D.behind i) ((List.replicate X.N.length none).set i (some (.ref ea))) (rem2 H' ea dx)
theorem ps_try (hb : ∀ pins D, PSs (X.held pins (tryE X pins D [.ExceptHandler (some (.Name c p1)) (some n) (b0 :: suite) hp])) body (tb D)) :
    PS X (.Try body [.ExceptHandler (some (.Name c p1)) (some n) (b0 :: suite) hp] [] [] pos) (fun D σ H => tb D D σ H) := by
  intro pins s σ H D I h
  refine wpAny_Try_except (wpAny_mono (hb pins D [] s σ H D I.held h) (fun f s1 q => ?_) fun e s1 q => q)
  cases f with
  | next =>
    obtain ⟨σ', H', I', q⟩ := q
    rw [arm_execs_nil]
    exact wpAny_pure ⟨σ', H', I'.unheld, q⟩
  | brk => obtain ⟨σ', H', I', q⟩ := q; exact ⟨σ', H', I'.unheld, q⟩
  | cont => obtain ⟨σ', H', I', q⟩ := q; exact ⟨σ', H', I'.unheld, q⟩
  | ret u => obtain ⟨v, σ', H', I', r, q⟩ := q; exact ⟨v, σ', H', I'.unheld, r, q⟩
theorem pass_try {pl : List (Addr × Obj)} {D : Ends} (hs : X.stack = X.env :: X.outer) (hf : X.env.frame = some L) (hg : Gl X c) (hm : X.mg c = some (.ref C0)) (hN : X.N.Nodup) (hi : X.N[i]? = some n) (hl : X.env.scope.names.lookup n = some .local)
    (hdb : (c == ("__debug__" : Str)) = false) (hsu : ∀ e oe dx od, PSs (X.suite pl e oe dx od) (b0 :: suite) (ts e oe dx od)) :
    Passes (CXE X.prog X.w) (X.held pl (tryE X pl D [.ExceptHandler (some (.Name c p1)) (some n) (b0 :: suite) hp])) (wishT X C0 i ts D) := by
  intro pins σ H s e s' I0 h
  have I : Inv X pl σ H s := I0.unheld
  show tryE X pl D _ e s'
  refine caught I hs hf h fun ea C dx fs sl T H' s2 hv he w F I2 later => ?_
  subst hv
  obtain ⟨ea', C', dx', fs', za, zc, he', hx, q⟩ := w
  cases za; cases zc
  rw [he] at he'; cases he'
  refine wpAny_handleBy_cons ?_ (by intro z; cases z)
  have Ia : Inv (X.amid ea fun _ _ => False) pl σ H' s2 := I2.amid
  refine codeAny_handlers_test (ld_glob Ia hg hm ?_ hdb)
  obtain ⟨vs, oT, tsv, hobj, _⟩ := id F
  have LT : PySem.W.Looks (model X.prog X.w) s2.heap (typeOf (.ref ea)) (.ref C) := (PySem.W.Looks.ld hobj).andThen .now
  refine (PySem.W.exm_one Ia.kIn LT hx).here ?_
  rw [if_pos rfl]
  show codeAny _ _ _ _ s2
  refine codeAny_handlers_suite_as (flight_off (s := s2) F fun h3 F3 t3 _ => ?_)
  obtain ⟨oe, od, raw, _, I4⟩ := (later h3 F3 t3).raw he F3
  have I4 := I4.weak (σ' := List.replicate X.N.length none) (by rw [List.length_replicate]; exact I2.len.symm) (fun j v z => by rw [List.getElem?_replicate] at z; split at z <;> cases z)
  refine store_ok (X := X.suite pl ea oe dx od) (v := .ref ea) I4 hN hi (.inl hl) rfl (fun s4 I5 => ?_) (.inr hl)
  refine wpAny_mono (hsu ea oe dx od [] s4 _ _ (D.behind i) I5 (q oe od raw (show ObjOk X.prog X.w H' s2.heap ea (.ins C dx fs) from I2.hok ea _ he).1)) (fun f s5 z => ?_) (fun _ _ z => z.elim)
  have fin : ∀ {σ' : St} {H1 : Hp}, Inv (X.suite pl ea oe dx od) [] σ' H1 s5 → (∀ s6, Inv X pl (σ'.set i none) H1 s6 → SP X pl D f s6) → wpAny (model X.prog X.w) X.A (do bindName X.env n .none; unbindBehindTheSuite X.env n hp) (fun _ s3 => SP X pl D f s3) X.xe s5 := fun {σ' H1} J g => by
    refine wpAny_bind (wpAny_bindName (store_ok (X := X) (v := .non) (J.unsuite I2.ok) hN hi (.inl hl) rfl (fun s6 J6 => ?_) (.inr hl)))
    unfold unbindBehindTheSuite
    have hj : i < σ'.length := by rw [J.len]; exact (List.getElem?_eq_some_iff.mp hi).1
    refine wpAny_onRaise (unbind_ok J6 hN hi hl (List.getElem?_set_self hj) fun s7 J7 => g s7 ?_)
    rw [List.set_set] at J7
    exact J7
  show wpAny (model X.prog X.w) X.A (do bindName X.env n .none; unbindBehindTheSuite X.env n hp) (fun _ s3 => SP X pl D f s3) X.xe s5
  cases f with
  | next => obtain ⟨σ', H1, J, g⟩ := z; exact fin J fun s6 J6 => ⟨_, H1, J6, g⟩
  | brk => obtain ⟨σ', H1, J, g⟩ := z; exact fin J fun s6 J6 => ⟨_, H1, J6, g⟩
  | cont => obtain ⟨σ', H1, J, g⟩ := z; exact fin J fun s6 J6 => ⟨_, H1, J6, g⟩
  | ret u => obtain ⟨v, σ', H1, J, r, g⟩ := z; exact fin J fun s6 J6 => ⟨v, _, H1, J6, r, g⟩
end
end L2
set_option maxHeartbeats 1000000
namespace L2
open PySem PySem.Spec PyProof.Rows XC
noncomputable abbrev Around.free (A : Around) : Around := { A with handled := none }
noncomputable abbrev Cx.any (X : Cx) : Cx := { X with calm := false, xe := fun _ _ => False }
structure FnX (P : Program) (w : World) (K : PySem.W.Frag) (mg : Str → Option Value) (base : Heap) (k : Nat) (f : Addr) (fd : FuncData) (ps : List Str) (sp : Sp) (R : List V → Hp → Heap → List Env → Prop) : Prop where
  len : ∀ vs H Q E, sp vs H Q E → vs.length = ps.length
  run : ∀ (A : Around) (outer : List Env) (s : Shared) (H : Hp) (args : Args) (us : List Value) (vs : List V) (Q : VK), Room k (Around.free A) → Env0 P w K mg base A outer s H → BindsTo s fd args (ps.zip us) → Vals vs us → sp vs H Q E0 → R vs H s.heap outer → codeAny (model P w) A (.call (.ref f) args) (CR CX0 outer P w H s Q E0) s
section
variable {P : Program} {w : World} {K : PySem.W.Frag} {mg : Str → Option Value} {base : Heap} {k : Nat} {f : Addr} {x qual : Str} {st : Stmt} {fd : FuncData} {N ps : List Str} {sp : Sp} {R : List V → Hp → Heap → List Env → Prop}
theorem Inv.any {X : Cx} {pins : List (Addr × Obj)} {σ : St} {H : Hp} {s : Shared} {A : Around} (hA : A.frames = X.A.frames) (I : Inv X pins σ H s) : Inv (Cx.any { X with A := A }) pins σ H s :=
  ⟨⟨I.ok.mod, I.ok.kind, I.ok.glob, I.ok.blt, I.ok.above, I.ok.inj, I.ok.has, I.ok.cab, (fun z => by cases z), hA.trans I.ok.frames, I.ok.stk, I.ok.exf, I.ok.bs, I.ok.bsz, I.ok.noex, I.ok.exfs, I.ok.funs, I.ok.frf⟩, I.os, I.bare, I.base, I.loc, I.cell, I.free, I.freeC, I.pin, I.hok, I.len⟩
theorem Fun.okX (F : Fun K x qual st f fd) (S : FnScope N ps (defScope st)) (len : ∀ vs H Q E, sp vs H Q E → vs.length = ps.length)
    (hbody : ∀ (cdv : Value) (A : Around) (outer : List Env) (s : Shared) (H : Hp) (vs : List V) (Q : VK), Room k (Around.free (A.deeper (envOfC qual (defScope st) s.heap.objs.size f cdv))) → sp vs H Q E0 → R vs H s.heap outer →
      ∃ t, PSs (cxOf CX0 P w K mg base N qual (defScope st) f cdv A outer s H E0).any (defBody st) t ∧ t { nx := fun _ H' => Q .non H', rt := Q } (start N vs) H) : FnX P w K mg base (k + 1) f fd ps sp R := by
  obtain ⟨oc, od, kV, doc, pm, an, cdv, ct, osl, rfl, lk, hcd⟩ := F.ex
  refine ⟨len, fun A outer s H args us vs Q hr e0 hb r hsp hR => ?_⟩
  have kept : ∀ b o, base.get? b = some o → s.heap.get? b = some o := fun b o z => (e0.bs b o z).1
  have KX := e0.mod.kin.keeps kept
  refine codeAny_call_function hr.depth (KX _ _ lk) rfl S.co S.gen rfl (PySem.W.codeRec_of KX hcd) (hb _ _ _ _ (wpAny_newFunctionEnv_cells S.kind ?_ fun env he s1 y => ?_))
  · intro z hz
    rcases S.par z.1 (List.of_mem_zip (show (z.1, z.2) ∈ ps.zip us from hz)).1 with q | q
    · exact .inl q
    · exact .inr ⟨q, PySem.W.cellsFrom_some _ _ _ (.inl q)⟩
  subst he
  refine ⟨(e0.mod.nolimit.keeps kept).keeps y.toInCall.keep, codeAny_func ?_⟩
  obtain ⟨t, ht, hq⟩ := hbody cdv A outer s H vs Q (hr.deeper _) hsp hR
  have e1 : Env0 P w K mg base (Around.free A) outer s H := ⟨e0.frames, e0.mod, e0.bs, e0.bsz, e0.funs, e0.frf, e0.hok, e0.bare⟩
  have I0 : Inv (cxOf CX0 P w K mg base N qual (defScope st) f cdv (Around.free A) outer s H E0) [] (start N vs) H s1 := inv_start S rfl e1 (len _ _ _ _ hsp) r y
  have I : Inv (cxOf CX0 P w K mg base N qual (defScope st) f cdv A outer s H E0).any [] (start N vs) H s1 := Inv.any (A := A.deeper (envOfC qual (defScope st) s.heap.objs.size f cdv)) rfl I0
  refine wpAny_mono (ht [] s1 _ H _ I hq) (fun fl s' z => ?_) fun _ _ z => z.elim
  cases fl with
  | ret u => obtain ⟨v, σ', H', J, rv, q⟩ := z; exact ⟨v, H', J.os, J.bare, J.base, J.hok, rv, q⟩
  | next => obtain ⟨σ', H', J, q⟩ := z; exact ⟨V.non, H', J.os, J.bare, J.base, J.hok, rfl, q⟩
  | brk => obtain ⟨_, _, _, q⟩ := z; exact q.elim
  | cont => obtain ⟨_, _, _, q⟩ := z; exact q.elim
end
section
variable {X : Cx} {k : Nat} {f : Addr} {fd : FuncData} {ps : List Str} {sp : Sp} {R : List V → Hp → Heap → List Env → Prop} {x : Str} {p pos : Pos} {e : Expr} {es : List Expr} {t : TA}
theorem pe_callX (F : FnX X.prog X.w X.K X.mg X.base k f fd ps sp R) (hR : ∀ pins σ H s vs Q, Inv X pins σ H s → sp vs H Q E0 → R vs H s.heap X.stack) (hr : Room k (Around.free X.A)) (hg : Gl X x) (hm : X.mg x = some (.ref f)) (hk : PySem.W.keepIn X.K (.ref f) = true) (hb : Binds X.K fd ps []) (ha : PA X (e :: es) t)
    (hdb : (x == ("__debug__" : Str)) = false := by decide) (he : starEach (e :: es) X.env = (false, eval e X.env) :: starEach es X.env := by rfl) (hpl : (backTo pos (starEach es X.env)).any (·.1) = false := by rfl) :
    PE X (.Call (.Name x p) (e :: es) [] pos) (tCall sp [] E0 t) := by
  intro pins s σ H Q I h
  refine wpAny_Call_Name_kw (ld_glob I hg hm ?_ hdb)
  refine PySem.W.callWith_K (h₀ := X.base) I.ok.mod.kin hk (thn (ha pos pins s σ H _ I h) fun us s1 z => ?_) he hpl
  obtain ⟨vs, H1, I1, r, q⟩ := z
  refine ⟨I1.kIn, wpAny_call ?_⟩
  rw [List.append_nil] at q
  have hl : us.length = ps.length := by rw [← r.length]; exact F.len _ _ _ _ q
  have bd := hb s1 us I1.kIn (by rw [List.append_nil]; exact hl)
  rw [List.append_nil] at bd
  refine codeAny_mono (F.run X.A X.stack s1 H1 ⟨us, []⟩ us vs Q hr I1.env0 bd r q (hR _ _ _ _ _ _ I1 q)) fun r s' hq => ?_
  cases r with
  | error e => exact hq.elim
  | ok fl =>
    cases fl with
    | ret u => exact I1.after hq
    | next => exact False.elim hq
    | brk => exact False.elim hq
    | cont => exact False.elim hq
end
end L2
set_option maxHeartbeats 1000000
namespace XC
open PySem PySem.Spec PyProof.Rows
theorem entry_unchain : entryFor table "proto.unchain" = some Builtin.«proto.unchain» := entryFor_of_fast (by kernel_rfl)
section
variable {prog : Program} {w : World} {A : Around} {E : Value → Shared → Prop} {s : Shared}
theorem unchain {Q : Value → Shared → Prop} {e v : Value} {h0 : Addr} {oh : Obj} {vs : Array Value} (hh : s.heap.get? h0 = some oh) (hd : oh.data = .fields vs) (h2 : vs[2]? = some .none) (k : Q .none s) :
    wpAny (model prog w) A (runValue (.builtin "proto.unchain" ⟨[e, .ref h0, v, .bool false], []⟩)) Q E s := by
  refine wpAny_runValue (codeAny_builtin entry_unchain ?_)
  unfold Builtin.«proto.unchain»
  refine wpAny_bind (wpAny_field hh hd h2 ?_)
  rw [if_pos (by rfl)]
  exact wpAny_pure k
theorem raise_chained {α : Type} {Q : α → Shared → Prop} {a h0 : Addr} {oh oa : Obj} {vs ws : Array Value} (hA : A.handled = some (.ref h0)) (ne : h0 ≠ a) (hh : s.heap.get? h0 = some oh) (hd : oh.data = .fields vs) (h2 : vs[2]? = some .none) (ha : s.heap.get? a = some oa) (hb : oa.data = .fields ws) (z2 : 2 < ws.size)
    (k : E (.ref a) { s with heap := s.heap.update a (Obj.mapFields (·.setIfInBounds 2 (.ref h0))) }) : wpAny (model prog w) A (raiseNew (.ref a) : Sem α) Q E s := by
  unfold raiseNew
  refine wpAny_bind (wpAny_handled ?_)
  rw [hA]
  show wpAny _ _ (if (Value.ref h0 != Value.ref a) = true then _ else _) _ _ _
  rw [if_pos (by simp [ne])]
  refine wpAny_bind (wpAny_holding (unchain hh hd h2 (wpAny_bind ?_)))
  show wpAny _ _ (setField (.ref a) 2 (.ref h0)) _ _ _
  exact wpAny_setField ha hb z2 (wpAny_throw k)
theorem range_endX {it h0 : Addr} {x left step : Int} {oh : Obj} {vs : Array Value} {Q : Option Value → Shared → Prop} (hA : A.handled = some (.ref h0)) (hh : s.heap.get? h0 = some oh) (hd : oh.data = .fields vs) (h2 : vs[2]? = some .none)
    (hit : IsRangeIter s.heap it x left step) (hleft : left ≤ 0) (k : ∀ h', (∀ b o, s.heap.get? b = some o → h'.get? b = some o) → Q none { s with heap := h' }) : wpAny (model prog w) A (pyNext (.ref it)) Q E s := by
  have hT : s.TypeIs (.ref it) "range_iterator" := ⟨_, hit, rfl⟩
  unfold pyNext
  refine wpAny_bind (wpAny_attempt (wpAny_callSpecial?_slot (name := Str.ofString "__next__") hT F.slot_range_iterator_next (wpAny_call_entry F.slot_range_iterator_next hT F.entry_range_iterator_next ?_ (F.args_range_iterator_next_1 _))))
  refine wpAny_bind (m := field (.ref it) 0) (wpAny_field hit rfl (x := rawInt x) rfl ?_)
  refine wpAny_bind (m := field (.ref it) 1) (wpAny_field hit rfl (x := rawInt left) rfl ?_)
  refine wpAny_bind (m := field (.ref it) 2) (wpAny_field hit rfl (x := rawInt step) rfl ?_)
  show wpAny _ _ (if left ≤ 0 then _ else _) _ _ s
  rw [if_pos hleft]
  refine wpAny_bind (wpAny_rule (wpAny_bind ?_))
  show wpAny _ _ (newExc (.type "StopIteration") [] >>= _) _ _ _
  refine wpAny_bind ?_
  simp only [newExc, newTuple]
  refine wpAny_bind (wpAny_newObj_type ?_ (by size_fits))
  refine wpAny_bind (m := firstArgMember _ _) (wpAny_of_eq (a := Value.none) (by first | rfl | (simp only [firstArgMember]; rfl)) ?_)
  refine wpAny_newObj_type ?_ (by size_fits)
  dsimp only
  generalize hT1 : s.heap.push { cls := Value.type "tuple", data := Data.seq #[] } = h1
  generalize hws : (#[Value.ref s.heap.objs.size, Value.none, Value.none, Value.none, Value.bool false, Value.none] ++ ownMembersOf (Value.type "StopIteration") [] : Array Value) = ws
  have z2 : 2 < ws.size := by rw [← hws, Array.size_append]; exact Nat.lt_of_lt_of_le (by decide) (Nat.le_add_right 6 _)
  have k1 : ∀ b o, s.heap.get? b = some o → h1.get? b = some o := fun b o q => by rw [← hT1]; exact Heap.get?_push_of_some _ q
  have nb : ∀ b o, s.heap.get? b = some o → b ≠ h1.objs.size := fun b o q => Nat.ne_of_lt (Heap.lt_size (k1 b o q))
  have own : (h1.push { cls := Value.type "StopIteration", data := Data.fields ws }).get? h1.objs.size = some { cls := Value.type "StopIteration", data := Data.fields ws } := Heap.get?_push_size _ rfl
  refine raise_chained (h0 := h0) (oh := oh) (vs := vs) (ws := ws) hA (nb h0 oh hh) (Heap.get?_push_of_some _ (k1 _ _ hh)) hd h2 own rfl z2 ?_
  have up := Heap.get?_update_self (Obj.mapFields (·.setIfInBounds 2 (Value.ref h0))) own rfl
  refine wpAny_bind (wpAny_isInstance (T := "StopIteration") (b := true) ⟨_, up, rfl⟩ isSubtype_stop (wpAny_pure (k _ fun b o q => ?_)))
  rw [Heap.get?_update_other _ _ (Ne.symm (nb b o q))]
  exact Heap.get?_push_of_some _ (k1 b o q)
end
end XC
set_option maxHeartbeats 1000000
namespace L2
open PySem PySem.Spec PyProof.Rows XC
noncomputable def Qt (X : Cx) : Prop := ∃ (e : Addr) (oe : Obj) (vs : Array Value), X.A.handled = some (.ref e) ∧ oe.data = .fields vs ∧ vs[2]? = some .none ∧ ∀ pins σ H s, Inv X pins σ H s → s.heap.get? e = some oe
noncomputable def ErrPin (X : Cx) : Prop := ∃ (e : Addr) (oe : Obj) (vs : Array Value), X.A.handled = some (.ref e) ∧ oe.data = .fields vs ∧ vs[2]? = some .none ∧ (e, oe) ∈ X.pn ∧ ∀ n, oe.cls ≠ .type n
theorem suite_pin {X : Cx} {pl : List (Addr × Obj)} {e C dx : Addr} {oe od : Obj} {fs : List (Str × V)} (h : X.A.handled = none) (r : RawOk C dx fs oe od) : ErrPin (X.suite pl e oe dx od) := by
  obtain ⟨vs, sl, mA, rfl, h2, _⟩ := r
  exact ⟨e, _, vs, rfl, rfl, h2, List.mem_append_right _ List.mem_cons_self, fun n z => by cases z⟩
theorem turn_rangeX {P : Program} {w : World} {K : PySem.W.Frag} {tg : Expr} (it : Addr) (lo : Int) (n : Nat) : Turn P w K tg (Itr lo n) [it] it (fun i h => IsRangeIter h it (lo + (i : Nat) * 1) ((n : Int) - (i : Nat)) 1) Qt where
  mem := (turn_range (P := P) (w := w) (K := K) (tg := tg) it lo n).mem
  obj := (turn_range (P := P) (w := w) (K := K) (tg := tg) it lo n).obj
  keep := (turn_range (P := P) (w := w) (K := K) (tg := tg) it lo n).keep
  item := by
    intro X hP hw hK hc i pins s σ H E I hf st hg
    subst hP hw hK
    obtain ⟨f0, f1, f2, f3, f4, f5⟩ := hf it (by simp)
    have hi : i < n := hg
    refine wpAny_pyNext_range_item st (by omega) fun h' st' same => ?_
    have e1 : lo + (i : Int) * 1 + 1 = lo + ((i + 1 : Nat) : Int) * 1 := by omega
    have e2 : (n : Int) - (i : Int) - 1 = (n : Int) - ((i + 1 : Nat) : Int) := by omega
    rw [e1, e2] at st'
    have I1 : Inv X pins σ H { s with heap := h', toks := s.toks + 1 } := I.turned (fun b o hb q => (same.2 b hb).trans q) f0 f1 f3 f4 f5
    exact ⟨_, rfl, go_of (s := { s with heap := h', toks := s.toks + 1 }) (n := "range_iterator") st' rfl rfl (by decide) ⟨.int (lo + i), H, I1, ⟨s.toks, by rw [Int.mul_one]⟩, ⟨rfl, rfl⟩, st', fun b hb => (hf b hb).1⟩⟩
  done := by
    intro X hP hw hK hc i pins s σ H E I hf st hg
    subst hP hw hK
    obtain ⟨e, oe, vs, hA, hd, h2, at_⟩ := hc
    have hi : n ≤ i := hg
    exact range_endX hA (at_ _ _ _ _ I) hd h2 st (by omega) fun h' kp => ⟨rfl, I.kept (t' := s.toks) kp⟩
  self := (turn_range (P := P) (w := w) (K := K) (tg := tg) it lo n).self
section
variable {X : Cx} {elt tg a : Expr} {ifs : List Expr} {scope : Scope} {pos p pos' : Pos} {N : List Str} {ix : List (Option Nat)} {ta : TA} {g : TG} {tc : TT} {te : TE}
theorem pe_compR (hq : ErrPin X) (hgr : Gl X "range") (hm : X.mg "range" = none) (ha : PA X [a] ta)
    (hg : ∀ (cl : List (Str × Addr)) (C : Addr) (s : Shared) (H : Hp) (ex : List Addr), PG (X.blk N scope cl C s H ex) tg g)
    (hf : ∀ (cl : List (Str × Addr)) (C : Addr) (s : Shared) (H : Hp) (ex : List Addr), PF (X.blk N scope cl C s H ex) ifs tc)
    (he : ∀ (cl : List (Str × Addr)) (C : Addr) (s : Shared) (H : Hp) (ex : List Addr), PE (X.blk N scope cl C s H ex) elt te)
    (hb : blkOk X.env.scope.names X.N N scope ix = true) (hst : starEach [a] X.env = [(false, eval a X.env)] := by rfl) (hs : ∀ x, foldedSetIterable (.Call (.Name "range" p) [a] [] pos') X.env x = pure x := by intro _; rfl) :
    PE X (.ListComp elt [⟨tg, .Call (.Name "range" p) [a] [] pos', ifs, 0⟩] scope pos) (tComp (iRng1 ta) ix g tc te) := by
  have B := BlkOk.of hb
  intro pins s σ H Q I h
  obtain ⟨cl, hclos, hsub, hhas⟩ := closure_of (env := X.env) (scope := scope) fun y hy hf => I.ok.has y.1 (B.clos y hy hf)
  rw [eval_ListComp]
  refine wpAny_comprehension_free (use := none) rfl hs hclos B.kind B.names ?_
  refine Call_ (ld_blt I hgr hm boot_range (PyProof.Rows.callWith_type1 (thn (ha pos' pins s σ H _ I h) fun us s1 z9 => ?_) hst rfl))
  obtain ⟨vs, H1, I1, r1, j, rfl, q1, q2, q⟩ := z9
  cases r1 with
  | cons r rr =>
    cases rr
    obtain ⟨t, rfl⟩ := r
    refine call_range_1 (wpAny_pyIter_range (IsRange.new ..) (small_one (by omega) (by omega) q1 q2) ?_)
    dsimp only
    generalize hh : s1.heap.push { cls := Value.type "range", data := Data.fields #[Value.int 0 s1.toks, Value.int j t, Value.int 1 (s1.toks + 1)] } = h1
    have k1 : ∀ b o, s1.heap.get? b = some o → h1.get? b = some o := fun b o z => by rw [← hh]; exact Heap.get?_push_of_some _ z
    generalize hi : h1.push { cls := Value.type "range_iterator", data := Data.fields #[rawInt 0, rawInt (Builtin.Range.rangeSize 0 j 1), rawInt 1] } = h2
    have k2 : ∀ b o, s1.heap.get? b = some o → h2.get? b = some o := fun b o z => by rw [← hi]; exact Heap.get?_push_of_some _ (k1 b o z)
    have st : IsRangeIter h2 h1.objs.size 0 (Builtin.Range.rangeSize 0 j 1) 1 := by rw [← hi]; exact Heap.get?_push_size _ rfl
    have st0 : IsRangeIter h2 h1.objs.size (0 + ((0 : Nat) : Int) * 1) ((j.toNat : Int) - ((0 : Nat) : Int)) 1 := by
      have e1 : Builtin.Range.rangeSize 0 j 1 = (j.toNat : Int) - ((0 : Nat) : Int) := by rw [rangeSize_one]; split <;> omega
      rw [← e1]; exact st
    have I2 : Inv X pins σ H1 { s1 with heap := h2, toks := s1.toks + 1 + 1 } := I1.kept (t' := s1.toks + 1 + 1) k2
    have big : s1.heap.objs.size ≤ h1.objs.size := by rw [← hh, Heap.size_push]; exact Nat.le_succ _
    have f2 : ∀ b ∈ [h1.objs.size], FpOk X pins H1 b := fun b z => by rw [List.mem_singleton.mp z]; exact I1.fpOk big (I1.hok.fresh big)
    refine comp_block (qt := Qt) (fp := [h1.objs.size]) (J := Itr 0 j.toNat) (s2 := { s1 with heap := h2, toks := s1.toks + 1 + 1 }) (RR := fun acc C => compPost (model X.prog X.w) X.A X.xe none (EP X pins σ Q) acc C) ?_ B hg hf he hsub hhas I2 (turn_rangeX _ 0 j.toNat) st0 f2 q ?_
    · intro C s' ex kp hex
      obtain ⟨e, oe, ws, hA, hd, hn, hp, nc⟩ := hq
      obtain ⟨at2, n2, nl, nf, _⟩ := I2.pin (e, oe) (List.mem_append_left _ hp)
      refine ⟨e, oe, ws, hA, hd, hn, fun pins' σ' H' s3 J => J.base.keep e oe (kp e oe at2) n2 (fun z => (List.mem_cons.mp (I2.stkSub e z)).elim nl nf) fun z => (hex e z).elim (fun z => ?_) fun z => absurd (Heap.lt_size at2) (Nat.not_lt.mpr z)⟩
      have at2' : h2.get? e = some oe := at2
      rw [List.mem_singleton.mp z, show h2.get? h1.objs.size = _ from st] at at2'
      cases at2'
      exact nc _ rfl
    · intro D C H5 s5 I5 q5 hm nC hC
      obtain ⟨m, hm⟩ := hm
      have fC : FpOk X pins H5 C := I2.fpOk hC nC
      exact ⟨m, hm, fun h' hs' => ⟨.ref D, H5, I5.turned (t' := s5.toks) (it := C) (fun b o z r => (hs'.2 b z).trans r) fC.1 fC.2.1 fC.2.2.2.1 fC.2.2.2.2.1 fC.2.2.2.2.2, rfl, q5⟩⟩
end
end L2
set_option maxHeartbeats 1000000
namespace L2
open PySem PySem.Spec PyProof.Rows XC
noncomputable def Raw (X : Cx) (e C : Addr) (od : Obj) : Prop := ∀ pins σ H s, Inv X pins σ H s → ∃ oe, PySem.W.InstAt s.heap e oe C (some od)
structure RawAt (e dx : Addr) (oe od : Obj) (H : Hp) (h : Heap) (outer : List Env) : Prop where
  ae : h.get? e = some oe
  ad : h.get? dx = some od
  ne : H e = none
  nd : H dx = none
  fe : e ∉ frs outer
  fd : dx ∉ frs outer
section
variable {X : Cx} {pins pl : List (Addr × Obj)} {σ : St} {H : Hp} {s : Shared} {e C dx : Addr} {oe od : Obj} {fs : List (Str × V)}
theorem suite_rawAt (I : Inv (X.suite pl e oe dx od) pins σ H s) : RawAt e dx oe od H s.heap X.stack := by
  have m1 : (e, oe) ∈ (X.suite pl e oe dx od).pn ++ pins := List.mem_append_left _ (List.mem_append_right _ List.mem_cons_self)
  have m2 : (dx, od) ∈ (X.suite pl e oe dx od).pn ++ pins := List.mem_append_left _ (List.mem_append_right _ (List.mem_cons_of_mem _ List.mem_cons_self))
  obtain ⟨a1, b1, c1, d1, _⟩ := I.pin _ m1
  obtain ⟨a2, b2, c2, d2, _⟩ := I.pin _ m2
  exact ⟨a1, a2, b1, b2, fun z => (List.mem_cons.mp (I.stkSub e z)).elim c1 d1, fun z => (List.mem_cons.mp (I.stkSub dx z)).elim c2 d2⟩
theorem RawAt.inst {outer : List Env} {h : Heap} (r : RawOk C dx fs oe od) (a : RawAt e dx oe od H h outer) : PySem.W.InstAt h e oe C (some od) := by
  obtain ⟨vs, sl, mA, rfl, _⟩ := r
  exact ⟨a.ae, rfl, rfl, a.ad⟩
theorem suite_raw (r : RawOk C dx fs oe od) : Raw (X.suite pl e oe dx od) e C od := fun _ _ _ _ I => ⟨oe, (suite_rawAt I).inst r⟩
theorem callee_raw {P : Program} {w : World} {K : PySem.W.Frag} {mg : Str → Option Value} {base : Heap} {N : List Str} {qual : Str} {scope : Scope} {f : Addr} {cd : Value} {A : Around} {outer : List Env} (r : RawOk C dx fs oe od) (a : RawAt e dx oe od H s.heap outer) :
    Raw (cxOf CX0 P w K mg base N qual scope f cd A outer s H E0).any e C od := fun _ _ _ _ I => by
  refine ⟨oe, RawAt.inst (H := H) (outer := outer) r ⟨I.base.keep e oe a.ae a.ne a.fe (fun z => absurd z (by simp [cxOf])), I.base.keep dx od a.ad a.nd a.fd (fun z => absurd z (by simp [cxOf])), a.ne, a.nd, a.fe, a.fd⟩⟩
theorem call_isiR (R : Raw X e C od) (S : ErrIs X.K C) : CallR X (.builtin "isinstance") (fun xs H Q => ∃ c u b, xs = [.ref e, c] ∧ RelV c u ∧ (∀ u', RelV c u' → u' = u) ∧ PySem.W.kitOne X.K (.ref C) u = some b ∧ Q (.bl b) H) := by
  intro pins s σ H xs us Q I r h
  obtain ⟨c, u, b, rfl, ru, un, q, hQ⟩ := h
  obtain ⟨oe, J⟩ := R _ _ _ _ I
  cases r with
  | cons r1 rr =>
    cases rr with
    | cons r2 rr =>
      cases rr
      obtain rfl := un _ r2
      cases r1
      exact isi_err I.kIn S J q fun tk => ⟨.bl b, H, I.tok tk, rfl, hQ⟩
end
section
variable {X : Cx} {e C dx : Addr} {od : Obj} {F : Str} {ex : Expr} {ta : TE} {pos : Pos} {fs : List (Str × V)}
noncomputable def tFldR (e : Addr) (v : V) (ta : TE) : TE := fun σ H Q => ta σ H fun x H1 => x = .ref e ∧ Q v H1
theorem pe_fldR {v : V} {oe : Obj} (R : Raw X e C od) (S : ErrRd X.K C F) (r : RawOk C dx fs oe od) (hv : fs.lookup F = some v) (he : PE X ex ta) (hb : attributeBase ex F X.env (eval ex X.env) = eval ex X.env) : PE X (.Attribute ex F pos) (tFldR e v ta) := by
  intro pins s σ H Q I h
  refine attr_of hb (thn (he pins s σ H _ I h) fun u s1 z9 => ?_)
  obtain ⟨x, H1, I1, rx, rfl, q⟩ := z9
  obtain rfl : u = Value.ref e := rx
  obtain ⟨oe', J⟩ := R _ _ _ _ I1
  obtain ⟨vs, sl, mA, _, _, hl, rl⟩ := r
  obtain ⟨u2, hu, ru⟩ := RelO.some_of (v := v) (o := mA F) (by rw [← hv]; exact rl F)
  exact rd_attr I1.kIn S J (by rw [hl, hu]) (handed_of ru) ⟨v, H1, I1.tok _, ru, q⟩
end
end L2
set_option maxHeartbeats 1000000
namespace L2
open PySem PySem.Spec PyProof.Rows XC
noncomputable def OkV : V → Prop
  | .int i => -1000000000 < i ∧ i < 1000000000
  | .str z => z.length ≤ 1000
  | _ => False
noncomputable def spE (C : Addr) (F : Str) : Sp := fun vs H Q _ => ∃ e v, vs = [.ref e, v] ∧ OkV v ∧ H e = some (.ext (Bare C e)) ∧ ∀ dx, H dx = none → Q .non (upd (upd H dx (.xd [(F, v)])) e (.ext (Fresh1 C dx e)))
noncomputable def tMakeI (C : Addr) (F : Str) (t : TA) : TE := fun σ H Q => tMakeE C (spE C F) t σ H fun v H2 => ∃ a dx v', v = .ref a ∧ H2 a = some (.ext (Fresh1 C dx a)) ∧ H2 dx = some (.xd [(F, v')]) ∧ Q (.ref a) (upd (upd H2 dx (.own a)) a (.ins C dx [(F, v')]))
section
variable {X : Cx} {k : Nat} {f C : Addr} {fd : FuncData} {ps : List Str} {x F : Str} {p pos : Pos} {e : Expr} {es : List Expr} {t : TA}
theorem pe_makeI (K : ErrK X.K C f F) (Fn : FnOk X.prog X.w X.K X.mg X.base CX0 k f fd ps (spE C F)) (hr : Room (k + 1) X.A) (hb : Binds X.K fd ps []) (hg : Gl X x) (hm : X.mg x = some (.ref C)) (ha : PA X (e :: es) t)
    (hdb : (x == ("__debug__" : Str)) = false := by decide) (he : starEach (e :: es) X.env = (false, eval e X.env) :: starEach es X.env := by rfl) (hpl : (backTo pos (starEach es X.env)).any (·.1) = false := by rfl) :
    PE X (.Call (.Name x p) (e :: es) [] pos) (tMakeI C F t) := by
  intro pins s σ H Q I h
  refine thn (pe_makeE K Fn hr hb hg hm ha hdb he hpl pins s σ H _ I h) fun u s1 z => ?_
  obtain ⟨v, H2, I2, r, a, dx, v', rfl, h1, h2, q⟩ := z
  exact ⟨.ref a, _, I2.asIns h1 h2 (by simp), r, q⟩
end
end L2
namespace L3
open PySem PySem.Spec PyProof.Rows L2 XC
noncomputable def OkU : U → Prop
  | .int i => -1000000000 < i ∧ i < 1000000000
  | .str z => z.length ≤ 1000
  | _ => False
theorem OkU.v {K : Frag} {H : Hp} {u : U} {v : V} (r : Rep K H u v) (h : OkU u) : OkV v := by
  cases r <;> first | exact h | exact h.elim
@[reducible] noncomputable def qMakeE (C : Addr) (F : Str) (t : TA2) : TE2 := fun σ M Q => t σ M fun us M1 => ∃ u, us = [u] ∧ OkU u ∧ ∀ a, M1 a = none → Q (.ref a) (put M1 a (.ins C [(F, u)]))
section
variable {X : Cx} {k : Nat} {f C : Addr} {fd : FuncData} {ps : List Str} {x F : Str} {p pos : Pos} {e : Expr} {es : List Expr} {t : TA2}
theorem made_eq {H : Hp} {e dx : Addr} {o1 o2 o3 o4 o5 : HO} (n : dx ≠ e) : upd (upd (upd (upd (upd H e o1) dx o2) e o3) dx o4) e o5 = upd (upd H dx o4) e o5 := by
  funext b
  unfold upd
  by_cases z : b = e
  · simp [z]
  · by_cases z2 : b = dx
    · simp [z2, n]
    · simp [z, z2]
theorem err_in {K : Frag} {H1 : Hp} {M1 : Mem} {u : U} {v : V} {a dx : Addr} (m1 : RepM K H1 M1) (r : Rep K H1 u v) (hx : H1 a = none) (hdx : H1 dx = none) (n : dx ≠ a) :
    TK K H1 (upd (upd H1 dx (.own a)) a (.ins C dx [(F, v)])) ∧ RepM K (upd (upd H1 dx (.own a)) a (.ins C dx [(F, v)])) (put M1 a (.ins C [(F, u)])) := by
  have ka := TK.new (K := K) (o := .own a) hdx
  have hx' : upd H1 dx (.own a) a = none := by rw [upd_ne (Ne.symm n)]; exact hx
  have kb := TK.new (K := K) (o := .ins C dx [(F, v)]) hx'
  exact ⟨ka.trans kb, RepM.write (m1.same (same_new hdx _)) kb ⟨dx, [(F, v)], upd_same, .cons ((r.up ka).up kb) .nil⟩⟩
theorem qe_makeE (K : ErrK X.K C f F) (Fn : FnOk X.prog X.w X.K X.mg X.base CX0 k f fd ps (spE C F)) (hr : Room (k + 1) X.A) (hb : Binds X.K fd ps []) (hg : Gl X x) (hm : X.mg x = some (.ref C)) (ha : QA X (e :: es) t)
    (hdb : (x == ("__debug__" : Str)) = false := by decide) (he : starEach (e :: es) X.env = (false, eval e X.env) :: starEach es X.env := by rfl) (hpl : (backTo pos (starEach es X.env)).any (·.1) = false := by rfl) :
    QE X (.Call (.Name x p) (e :: es) [] pos) (qMakeE C F t) := by
  refine ⟨fun σ M Q Q' k h => ha.mo _ _ _ _ (fun us M1 z => ?_) h, peW (pe_makeI K Fn hr hb hg hm ha.pe hdb he hpl) fun σ H Q z0 => exUp z0 fun σ2 M rs rm h => lfA ha.mo rs rm h fun us M1 vs H1 k1 r1 m1 s1 h1 => ?_⟩
  · obtain ⟨u, a, b, c⟩ := z
    exact ⟨u, a, b, fun x hx => k _ _ (c x hx)⟩
  · obtain ⟨u, rfl, ok, c⟩ := h1
    · obtain ⟨v, rfl, r⟩ := r1.one
      refine ⟨by simp, fun e he => ⟨e, _, rfl, ok.v r, upd_same, fun dx hdx => ?_⟩⟩
      have ne : dx ≠ e := fun z => by rw [z, upd_same] at hdx; cases hdx
      rw [upd_ne ne] at hdx
      refine ⟨rfl, e, dx, _, rfl, upd_same, by rw [upd_ne ne, upd_same], ?_⟩
      rw [made_eq ne]
      obtain ⟨k2, m2⟩ := err_in (C := C) (F := F) m1 r he hdx ne
      exact c e (m1.free he) (.ref e) _ (k1.trans k2) (.ref e) m2
end
end L3
set_option maxHeartbeats 1000000
namespace L3
open PySem PySem.Spec PyProof.Rows L2 XC
noncomputable abbrev XU := Addr → Addr → Mem → Prop
noncomputable abbrev Sp2E := List U → Mem → UK → XU → Prop
noncomputable def upX (K : Frag) (H : Hp) (E : XK) : XU := fun C a M => ∀ H', TK K H H' → RepM K H' M → E (.ref C) (some a) H'
noncomputable def liftSpE (K : Frag) (sp : Sp2E) : Sp := fun vs H Q E => ∃ us M, RepAll K H us vs ∧ RepM K H M ∧ sp us M (up K H Q) (upX K H E)
noncomputable def MoSpE (sp : Sp2E) : Prop := ∀ us M Q Q' R R', (∀ u M', Q u M' → Q' u M') → (∀ C a M', R C a M' → R' C a M') → sp us M Q R → sp us M Q' R'
theorem TK.ofUn {K : Frag} {fs ex : List Addr} {H H' : Hp} {h h' : Heap} (u : Un fs ex H H' h h') : TK K H H' := TK.of fun b o z q => by
  rcases z with ⟨xs, rfl⟩ | ⟨ob, v, rfl⟩
  · exact u.tups b xs q
  · exact u.frzs b ob v q
@[reducible] noncomputable def qRaise (C : Addr) (F : Str) (R : XU) (t : TA2) : TS2 := fun _ σ M => t σ M fun us M1 => ∃ u, us = [u] ∧ OkU u ∧ ∀ a, M1 a = none → R C a (put M1 a (.ins C [(F, u)]))
section
variable {P : Program} {w : World} {K : Frag} {mg : Str → Option Value} {base : Heap} {N : List Str} {qual : Str} {scope : Scope} {g : Addr} {cd : Value} {A : Around} {outer : List Env} {s0 : Shared} {H0 : Hp} {E : XK}
variable {k : Nat} {f C : Addr} {fd : FuncData} {ps : List Str} {x F : Str} {p pos cpos : Pos} {e : Expr} {es : List Expr} {t : TA2}
theorem qs_raise (Er : ErrK K C f F) (Fn : FnOk P w K mg base CX0 k f fd ps (spE C F)) (hr : Room (k + 1) (A.deeper (envOfC qual scope s0.heap.objs.size g cd))) (hb : Binds K fd ps []) (hg : Gl (cxOf (CXE P w) P w K mg base N qual scope g cd A outer s0 H0 E) x) (hm : mg x = some (.ref C))
    (ha : QA (cxOf (CXE P w) P w K mg base N qual scope g cd A outer s0 H0 E) (e :: es) t) (hdb : (x == ("__debug__" : Str)) = false := by decide)
    (he : starEach (e :: es) (envOfC qual scope s0.heap.objs.size g cd) = (false, eval e (envOfC qual scope s0.heap.objs.size g cd)) :: starEach es (envOfC qual scope s0.heap.objs.size g cd) := by rfl) (hpl : (backTo cpos (starEach es (envOfC qual scope s0.heap.objs.size g cd))).any (·.1) = false := by rfl) :
    QS (cxOf (CXE P w) P w K mg base N qual scope g cd A outer s0 H0 E) (.Raise (some (.Call (.Name x p) (e :: es) [] cpos)) none pos) (qRaise C F (upX K H0 E) t) := by
  refine ⟨fun D D' σ M _ h => h, psW (ps_raiseE (W := fun a dx fs H2 => TK K H0 (upd (upd H2 dx (.own a)) a (.ins C dx fs)) → E (.ref C) (some a) (upd (upd H2 dx (.own a)) a (.ins C dx fs))) rfl Er Fn hr hb hg hm ha.pe (fun pins σ H s a dx fs I h1 h2 h3 w => ?_) hdb he hpl) fun D σ H z0 => ?_⟩
  · exact xe_raise I h1 h2 h3 (w (TK.ofUn (I.asIns h1 h2 h3).base))
  · obtain ⟨σ2, M, rs, rm, h⟩ := z0
    refine lfA ha.mo rs rm h fun us M1 vs H1 k1 r1 m1 s1 h1 => ?_
    obtain ⟨u, rfl, ok, c⟩ := h1
    · obtain ⟨v, rfl, r⟩ := r1.one
      refine ⟨by simp, fun e he => ⟨e, _, rfl, ok.v r, upd_same, fun dx hdx => ?_⟩⟩
      have ne : dx ≠ e := fun z => by rw [z, upd_same] at hdx; cases hdx
      rw [upd_ne ne] at hdx
      refine ⟨rfl, e, dx, _, rfl, upd_same, by rw [upd_ne ne, upd_same], by simp, ?_⟩
      dsimp only
      rw [made_eq ne]
      obtain ⟨k2, m2⟩ := err_in (C := C) (F := F) m1 r he hdx ne
      exact fun tk => c e (m1.free he) _ tk m2
theorem fn2E {st : Stmt} {sp : Sp2E} (Fu : Fun K x qual st f fd) (S : FnScope N ps (defScope st)) (len : ∀ us M Q R, sp us M Q R → us.length = ps.length)
    (hbody : ∀ (cdv : Value) (A : Around) (outer : List Env) (s : Shared) (H : Hp) (E : XK), Room k (A.deeper (envOfC qual (defScope st) s.heap.objs.size f cdv)) →
      ∃ t, QSs (cxOf (CXE P w) P w K mg base N qual (defScope st) f cdv A outer s H E) (defBody st) t ∧ ∀ us M Q, Clo Q → sp us M Q (upX K H E) → t { nx := fun _ M' => Q .non M', rt := Q } (start2 N us) M) : FnOk P w K mg base (CXE P w) (k + 1) f fd ps (liftSpE K sp) := by
  obtain ⟨oc, od, kV, doc, pm, an, cdv, ct, osl, rfl, lk, hcd⟩ := Fu.ex
  refine fn_of lk hcd S (fun vs H Q E h => ?_) fun A outer s H vs Q E hr h => ?_
  · obtain ⟨us, M, r, m, h⟩ := h
    rw [← r.len]; exact len _ _ _ _ h
  · obtain ⟨us, M, r, m, h⟩ := h
    obtain ⟨t, T, q⟩ := hbody cdv A outer s H E hr
    refine ⟨_, T.pe, start2 N us, M, RepS.strt N r, m, T.mo _ _ _ _ ?_ (q us M (up K H Q) up_clo h)⟩
    exact ⟨fun σ M' z σ' H' k _ m' => z .non H' k .non m', fun u M' z => z, fun _ _ z => z.elim, fun _ _ z => z.elim⟩
end
end L3
set_option maxHeartbeats 1000000
namespace L3
open PySem PySem.Spec PyProof.Rows L2 XC
noncomputable def uOf : V → U
  | .int i => .int i
  | .str z => .str z
  | _ => .non
theorem uOf_rep {K : Frag} {H : Hp} {u : U} {v : V} (r : Rep K H u v) (h : OkU u) : u = uOf v ∧ OkV v := by
  cases r <;> first | exact ⟨rfl, h⟩ | exact h.elim
noncomputable def remM (M : Mem) (a : Addr) : Mem := fun b => if b = a then none else M b
theorem rem_in {K : Frag} {H : Hp} {M : Mem} {a dx : Addr} {C : Addr} {gs : List (Str × V)} (m : RepM K H M) (ha : H a = some (.ins C dx gs)) (hd : H dx = some (.own a)) : TK K H (rem2 H a dx) ∧ RepM K (rem2 H a dx) (remM M a) := by
  have tk : TK K H (rem2 H a dx) := TK.of fun b o z q => by
    rcases z with ⟨xs, rfl⟩ | ⟨ob, v, rfl⟩
    · exact rem2_of (fun z => by rw [z, ha] at q; cases q) (fun z => by rw [z, hd] at q; cases q) q
    · exact rem2_of (fun z => by rw [z, ha] at q; cases q) (fun z => by rw [z, hd] at q; cases q) q
  refine ⟨tk, fun b o q => ?_⟩
  unfold remM at q
  split at q
  · cases q
  · rename_i n
    have r := m b o q
    have nd : b ≠ dx := fun z => by
      rw [z] at r
      cases o with
      | lst xs => obtain ⟨ys, h, _⟩ := r; rw [hd] at h; cases h
      | ins C fs => obtain ⟨d, g, h, _⟩ := r; rw [hd] at h; cases h
      | dct kvs => obtain ⟨g, h, _⟩ := r; rw [hd] at h; cases h
      | fdc ob kvs => obtain ⟨g, h, _⟩ := r; rw [hd] at h; cases h
    exact r.at_ (by unfold rem2; rw [if_neg (fun z => z.elim n nd)]) tk
@[reducible] noncomputable def qTry (K : Frag) (C0 : Addr) (n i : Nat) (sp : Sp2E) (t : TA2) (t2 : Addr → Addr → Str → U → TS2) : TS2 := fun D σ M => t σ M fun us M1 => sp us M1 D.rt fun C a M' => PySem.W.exmOne K (.ref C) (.ref C0) = some true ∧ ∃ F u, M' a = some (.ins C [(F, u)]) ∧ OkU u ∧
  t2 a C F u { nx := fun _ _ => False, rt := D.rt } (sV (nones n) i (.ref a)) (remM M' a)
section
variable {X : Cx} {k i : Nat} {f C0 L : Addr} {fd : FuncData} {ps : List Str} {sp : Sp2E} {x n c : Str} {p p1 hp pos cpos rpos : Pos} {e : Expr} {es : List Expr} {body : List Stmt} {b0 : Stmt} {t : TA2} {t2 : Addr → Addr → Str → U → TS2}
theorem qs_try (hs : X.stack = X.env :: X.outer) (hf : X.env.frame = some L) (hgc : Gl X c) (hmc : X.mg c = some (.ref C0)) (hN : X.N.Nodup) (hi : X.N[i]? = some n) (hl : X.env.scope.names.lookup n = some .local)
    (Fn : FnOk X.prog X.w X.K X.mg X.base (CXE X.prog X.w) k f fd ps (liftSpE X.K sp)) (mo : MoSpE sp) (hr : Room k X.A) (hg : Gl X x) (hm : X.mg x = some (.ref f)) (hk : PySem.W.keepIn X.K (.ref f) = true) (hb : Binds X.K fd ps [])
    (mt : MoA t) (ha : ∀ pl xe, QA (X.held pl xe) (e :: es) t) (m2 : ∀ a C F u, MoS (t2 a C F u))
    (hsu : ∀ pl a C dx F v oe od, RawOk C dx [(F, v)] oe od → OkV v → QSs (X.suite pl a oe dx od) (b0 :: body) (t2 a C F (uOf v)))
    (hdc : (c == ("__debug__" : Str)) = false := by decide) (hdb : (x == ("__debug__" : Str)) = false := by decide) (he : starEach (e :: es) X.env = (false, eval e X.env) :: starEach es X.env := by rfl) (hpl : (backTo cpos (starEach es X.env)).any (·.1) = false := by rfl) :
    QS X (.Try [.Return (some (.Call (.Name x p) (e :: es) [] cpos)) rpos] [.ExceptHandler (some (.Name c p1)) (some n) (b0 :: body) hp] [] [] pos) (qTry X.K C0 X.N.length i sp t t2) := by
  let ts : Addr → Obj → Addr → Obj → TS := fun a oe dx od D σ H => ∃ C F v, RawOk C dx [(F, v)] oe od ∧ OkV v ∧ liftS X.K (t2 a C F (uOf v)) D σ H
  have body_ : ∀ pins D, PSs (X.held pins (tryE X pins D [.ExceptHandler (some (.Name c p1)) (some n) (b0 :: body) hp])) [.Return (some (.Call (.Name x p) (e :: es) [] cpos)) rpos] (tRet (tCall (liftSpE X.K sp) [] (wishT X C0 i ts D) (liftA X.K t))) := fun pins D =>
    pss_one (ps_ret (pe_call (X := X.held pins (tryE X pins D [.ExceptHandler (some (.Name c p1)) (some n) (b0 :: body) hp])) (ds := []) Fn hr hg hm hk hb .nil (pass_try hs hf hgc hmc hN hi hl hdc fun a oe dx od => by
      rintro pins s σ H D I ⟨C, F, v, raw, ok, h⟩
      exact (hsu _ a C dx F v oe od raw ok).pe pins s σ H D I h) (ha _ _).pe hdb he hpl))
  refine ⟨fun D D' σ M l h => mt _ _ _ _ (fun us M1 z => ?_) h, psW (ps_try body_) fun D σ H z0 => ?_⟩
  · refine mo _ _ _ _ _ _ (fun u M' q => l.rt u M' q) (fun C a M' q => ?_) z
    obtain ⟨q1, F, u, q2, q3, q4⟩ := q
    exact ⟨q1, F, u, q2, q3, m2 a C F u { nx := fun _ _ => False, rt := D.rt } { nx := fun _ _ => False, rt := D'.rt } _ _ ⟨fun _ _ z => z.elim, l.rt, fun _ _ z => z.elim, fun _ _ z => z.elim⟩ q4⟩
  · obtain ⟨σ2, M, rs, rm, h⟩ := z0
    refine lfA mt rs rm h fun us M1 vs H1 k1 r1 m1 s1 h1 => ?_
    refine ⟨us, M1, by rw [List.append_nil]; exact r1, m1, mo _ _ _ _ _ _ (fun u M' q => up_up k1 q) (fun C a M' q => ?_) h1⟩
    intro H' k2 m'
    obtain ⟨hx, F, u, hM, ok, q⟩ := q
    obtain ⟨dx, gs, hH, r⟩ := m' a _ hM
    cases r with
    | cons ru rr =>
      cases rr
      obtain ⟨hu, okv⟩ := uOf_rep ru ok
      refine ⟨a, C, dx, _, rfl, rfl, hH, hx, fun oe od raw hd => ⟨C, F, _, raw, okv, ?_⟩⟩
      obtain ⟨k3, m3⟩ := rem_in m' hH hd
      rw [hu] at q
      refine ⟨sV (nones X.N.length) i (.ref a), remM M' a, RepS.set (.ref a) i (RepS.nnn _), m3, m2 a C F _ { nx := fun _ _ => False, rt := up X.K H D.rt } _ _ _ ⟨fun _ _ z => z.elim, fun u M'' z => ?_, fun _ _ z => z.elim, fun _ _ z => z.elim⟩ q⟩
      exact up_up ((k1.trans k2).trans k3) z
end
end L3
set_option maxHeartbeats 1000000
namespace L3
open PySem PySem.Spec PyProof.Rows L2 XC
section
variable {X : Cx} {e C dx : Addr} {od oe : Obj} {F : Str} {ex : Expr} {ta : TE2} {pos : Pos} {v : V} {fs : List (Str × V)}
@[reducible] noncomputable def qFldR (e : Addr) (u : U) (ta : TE2) : TE2 := fun σ M Q => ta σ M fun x M1 => x = .ref e ∧ Q u M1
theorem qe_fldR (R : Raw X e C od) (S : ErrRd X.K C F) (r : RawOk C dx fs oe od) (hv : fs.lookup F = some v) (ok : OkV v) (he : QE X ex ta) (hb : attributeBase ex F X.env (eval ex X.env) = eval ex X.env) : QE X (.Attribute ex F pos) (qFldR e (uOf v) ta) := by
  refine ⟨fun σ M Q Q' k h => he.mo _ _ _ _ (fun u M1 z => ⟨z.1, k _ _ z.2⟩) h, peW (pe_fldR R S r hv he.pe hb) fun σ H Q z0 => exUp z0 fun σ2 M rs rm h => lf he.mo rs rm h fun u M1 w H1 k1 r1 m1 s1 h1 => ?_⟩
  obtain ⟨rfl, q⟩ := h1
  obtain rfl := r1.refI
  refine ⟨rfl, q v H1 k1 ?_ m1⟩
  cases v <;> first | exact ok.elim | exact Rep.int _ | exact Rep.str _
@[reducible] noncomputable def rIsiR (K : Frag) (e C : Addr) : RL2 := fun us M Q => ∃ c b, us = [.ref e, c] ∧ ((∃ D, c = .ref D ∧ PySem.W.kitOne K (.ref C) (.ref D) = some b) ∨ (∃ n, c = .ty n ∧ PySem.W.kitOne K (.ref C) (.type n) = some b)) ∧ Q (.bl b) M
theorem c_isiR (R : Raw X e C od) (S : ErrIs X.K C) : Call2 X (.builtin "isinstance") (rIsiR X.K e C) := by
  refine ⟨_, call_isiR R S, fun us M Q Q' k h => ?_, fun us vs M H Q r rm h => ?_⟩
  · obtain ⟨c, b, h1, h2, h3⟩ := h
    exact ⟨c, b, h1, h2, k _ _ h3⟩
  · obtain ⟨c, b, rfl, h2, h3⟩ := h
    · obtain ⟨x, y, rfl, r1, r2⟩ := r.two
      obtain rfl := r1.refI
      · rcases h2 with ⟨D, rfl, q⟩ | ⟨n, rfl, q⟩
        · obtain rfl := r2.refI
          exact ⟨.ref D, .ref D, b, rfl, rfl, fun u' z => z, q, h3 (.bl b) H .refl (.bl b) rm⟩
        · obtain rfl := r2.tyI
          exact ⟨.ty n, .type n, b, rfl, rfl, fun u' z => z, q, h3 (.bl b) H .refl (.bl b) rm⟩
end
theorem fn2X {P : Program} {w : World} {K : Frag} {mg : Str → Option Value} {base : Heap} {x qual : Str} {st : Stmt} {f : Addr} {fd : FuncData} {N ps : List Str} {k : Nat} {sp : Sp2} {e dx : Addr} {oe od : Obj} (F : Fun K x qual st f fd) (S : FnScope N ps (defScope st)) (len : ∀ us M Q, sp us M Q → us.length = ps.length)
    (hbody : ∀ (cdv : Value) (A : Around) (outer : List Env) (s : Shared) (H : Hp), Room k (Around.free (A.deeper (envOfC qual (defScope st) s.heap.objs.size f cdv))) → RawAt e dx oe od H s.heap outer →
      ∃ t, QSs (cxOf CX0 P w K mg base N qual (defScope st) f cdv A outer s H E0).any (defBody st) t ∧ ∀ us M Q, Clo Q → sp us M Q → t { nx := fun _ M' => Q .non M', rt := Q } (start2 N us) M) : FnX P w K mg base (k + 1) f fd ps (liftSp K sp) (fun _ H h outer => RawAt e dx oe od H h outer) := by
  refine F.okX S (fun vs H Q E h => ?_) fun cdv A outer s H vs Q hr h ra => ?_
  · obtain ⟨us, M, r, m, h⟩ := h
    rw [← r.len]; exact len _ _ _ h
  · obtain ⟨us, M, r, m, h⟩ := h
    obtain ⟨t, T, q⟩ := hbody cdv A outer s H hr ra
    refine ⟨_, T.pe, start2 N us, M, RepS.strt N r, m, T.mo _ _ _ _ ?_ (q us M (up K H Q) up_clo h)⟩
    exact ⟨fun σ M' z σ' H' k _ m' => z .non H' k .non m', fun u M' z => z, fun _ _ z => z.elim, fun _ _ z => z.elim⟩
section
variable {X : Cx} {k : Nat} {f e dx : Addr} {oe od : Obj} {fd : FuncData} {ps : List Str} {sp : Sp2} {pl : List (Addr × Obj)} {x : Str} {p pos : Pos} {a : Expr} {es : List Expr} {t : TA2}
theorem qe_callX (F : FnX X.prog X.w X.K X.mg X.base k f fd ps (liftSp X.K sp) (fun _ H h outer => RawAt e dx oe od H h outer)) (mo : MoSp sp) (hr : Room k (Around.free (X.suite pl e oe dx od).A)) (hg : Gl X x) (hm : X.mg x = some (.ref f)) (hk : PySem.W.keepIn X.K (.ref f) = true) (hb : Binds X.K fd ps []) (ha : QA (X.suite pl e oe dx od) (a :: es) t)
    (hdb : (x == ("__debug__" : Str)) = false := by decide) (he : starEach (a :: es) X.env = (false, eval a X.env) :: starEach es X.env := by rfl) (hpl : (backTo pos (starEach es X.env)).any (·.1) = false := by rfl) :
    QE (X.suite pl e oe dx od) (.Call (.Name x p) (a :: es) [] pos) (qCall sp t) :=
  ⟨qCall_mo mo ha.mo, peW (pe_callX (X := X.suite pl e oe dx od) F (fun pins σ H s vs Q I _ => (suite_rawAt (X := X) (pl := pl) I : RawAt e dx oe od H s.heap X.stack)) hr hg hm hk hb ha.pe hdb he hpl) fun σ H Q h => qCall_lf mo ha.mo h⟩
end
section
variable {X : Cx} {elt tg a : Expr} {ifs : List Expr} {scope : Scope} {pos p pos' : Pos} {N : List Str} {ix : List (Option Nat)} {t : TA2} {g : TG2} {tc : TT2} {te : TE2}
theorem rng1_lf {K : Frag} {σ : St} {H : Hp} {R : It → Hp → Prop} (mt : MoA t) (z : liftI K (kRng1 t) σ H R) : iRng1 (liftA K t) σ H R := by
  obtain ⟨σ2, M, rs, rm, h⟩ := z
  refine lfA mt rs rm h fun us M1 vs H1 k1 r1 m1 s1 h1 => ?_
  cases r1 with
  | nil => exact h1.elim
  | cons r rr =>
    cases rr with
    | cons _ _ => cases r <;> exact h1.elim
    | nil =>
      cases r with
      | int j => obtain ⟨q1, q2, q3⟩ := h1; exact ⟨j, rfl, q1, q2, q3 _ H1 k1 m1 it_rng⟩
      | _ => exact h1.elim
theorem kRng1_mo (mt : MoA t) : MoI (kRng1 t) := fun σ M Q Q' k h => mt _ _ _ _ (fun us M1 z => by
  cases us with
  | nil => exact z.elim
  | cons u r =>
    cases r with
    | cons _ _ => cases u <;> exact z.elim
    | nil => cases u <;> first | exact z.elim | exact ⟨z.1, z.2.1, k _ _ _ z.2.2⟩) h
theorem sqi_range1 (hg : Gl X "range") (hm : X.mg "range" = none) (ha : QA X [a] t) (hs : starEach [a] X.env = [(false, eval a X.env)] := by rfl) : QI X tg (.Call (.Name "range" p) [a] [] pos) (kRng1 t) := ⟨kRng1_mo ha.mo, piW (pi_range1 hg hm ha.pe hs) fun σ H R z => rng1_lf ha.mo z⟩
theorem qe_compR (hq : ErrPin X) (hgr : Gl X "range") (hm : X.mg "range" = none) (ha : QA X [a] t)
    (hg : ∀ (cl : List (Str × Addr)) (C : Addr) (s : Shared) (H : Hp) (ex : List Addr), QG (X.blk N scope cl C s H ex) tg g)
    (hf : ∀ (cl : List (Str × Addr)) (C : Addr) (s : Shared) (H : Hp) (ex : List Addr), QF (X.blk N scope cl C s H ex) ifs tc)
    (he : ∀ (cl : List (Str × Addr)) (C : Addr) (s : Shared) (H : Hp) (ex : List Addr), QE (X.blk N scope cl C s H ex) elt te)
    (hb : blkOk X.env.scope.names X.N N scope ix = true) (hst : starEach [a] X.env = [(false, eval a X.env)] := by rfl) (hs : ∀ x, foldedSetIterable (.Call (.Name "range" p) [a] [] pos') X.env x = pure x := by intro _; rfl) :
    QE X (.ListComp elt [⟨tg, .Call (.Name "range" p) [a] [] pos', ifs, 0⟩] scope pos) (qComp (kRng1 t) ix g tc te) := by
  have q1 := kRng1_mo ha.mo
  have g0 := (hg [] 0 X.s₀ X.H₀ []).mo
  have f0 := (hf [] 0 X.s₀ X.H₀ []).mo
  have e0 := (he [] 0 X.s₀ X.H₀ []).mo
  refine ⟨fun σ M Q Q' k h => q1 _ _ _ _ (fun xs chk M1 => Comp_mo k) h, peW (pe_compR (N := N) (ix := ix) (g := liftG X.K g) (tc := liftT X.K tc) (te := lift X.K te) hq hgr hm ha.pe (fun cl C s H ex => (hg cl C s H ex).pe) (fun cl C s H ex => (hf cl C s H ex).pe) (fun cl C s H ex => (he cl C s H ex).pe) hb hst hs) fun σ H Q h => ?_⟩
  have z := comp_lf q1 g0 f0 e0 h
  exact rng1_lf ha.mo z
end
end L3
set_option maxHeartbeats 1000000
namespace L3
open PySem PySem.Spec PyProof.Rows L2 XC
theorem init_fn {P : Program} {w : World} {K : Frag} {mg : Str → Option Value} {base : Heap} {k : Nat} {qual F : Str} {st : Stmt} {f C D : Addr} {fd : FuncData} {j1 j2 : Expr} {js : List Expr} {tj : TE} {p1 p2 p3 p4 p5 p6 p7 p8 p9 p10 : Pos}
    (Fu : Fun K "__init__" qual st f fd) (S : FnScope ["self", F] ["self", F] (defScope st)) (Er : ErrK K C f F) (T : ThrB K D) (hm : mg "HallError" = some (.ref D)) (hB : ∀ (cdv : Value) (A : Around) (outer : List Env) (s : Shared) (H : Hp) (E : XK), Gl (cxOf CX0 P w K mg base ["self", F] qual (defScope st) f cdv A outer s H E).nox "HallError")
    (hdF : (F == ("__debug__" : Str)) = false) (hcF : (F == ("__classdict__" : Str)) = false)
    (hb : defBody st = [.Expr (.Call (.Attribute (.Name "HallError" p1) "__init__" p2) [.Name "self" p3, .JoinedStr (j1 :: j2 :: js) p4] [] p5) p6, .Assign [.Attribute (.Name "self" p7) F p8] (.Name F p9) p10])
    (ht : ∀ (cdv : Value) (a : Addr), ∃ pl : Sem Bool, eval (.Call (.Attribute (.Name "HallError" p1) "__init__" p2) [.Name "self" p3, .JoinedStr (j1 :: j2 :: js) p4] [] p5) (envOfC qual (defScope st) a f cdv) = (do
      let ov ← eval (.Name "HallError" p1) (envOfC qual (defScope st) a f cdv)
      standAt p2.atName
      let (g, first) ← holding [ov] (getMethod ov "__init__" pl)
      callWith p5 g first (backTo p5 (starEach [.Name "self" p3, .JoinedStr (j1 :: j2 :: js) p4] (envOfC qual (defScope st) a f cdv))) (backToKw p5 (keywordEach [] (envOfC qual (defScope st) a f cdv)))))
    (hj : ∀ X : Cx, X.N = [("self" : Str), F] → X.env.scope = defScope st → PE X (.JoinedStr (j1 :: j2 :: js) p4) tj) (rd : ∀ a v H Q, OkV v → (∀ z, Q (.str z) H) → tj [some (.ref a), some v] H Q) :
    FnOk P w K mg base CX0 (k + 1) f fd ["self", F] (spE C F) := by
  refine Fu.ok S (fun vs H Q E h => ?_) fun cdv A outer s H vs Q E hr h => ?_
  · obtain ⟨e, v, rfl, _⟩ := h; rfl
  · obtain ⟨e, v, rfl, ok, he, q⟩ := h
    rw [hb]
    have vis : ∀ y ∈ [("self" : Str), F], Vis (defScope st) y := fun y hy => (S.par y hy).elim .inl fun z => .inr (.inl z)
    have v0 : Vis (cxOf CX0 P w K mg base ["self", F] qual (defScope st) f cdv A outer s H E).nox.env.scope "self" := vis _ (by simp)
    have v1 : Vis (cxOf CX0 P w K mg base ["self", F] qual (defScope st) f cdv A outer s H E).nox.env.scope F := vis _ (by simp)
    have a0 : PA (cxOf CX0 P w K mg base ["self", F] qual (defScope st) f cdv A outer s H E).nox [.Name "self" p3, .JoinedStr (j1 :: j2 :: js) p4] _ := pa_cons (pv 0 rfl v0) (pa_cons (hj _ rfl rfl) pa_nil)
    obtain ⟨pl, ht⟩ := ht cdv s.heap.objs.size
    refine ⟨_, pss_cons (ps_expr (pe_initE (pl := pl) T (hB cdv A outer s H E) hm a0 (by decide) (by rfl) (by rfl) ht)) (pss_one (ps_setE (pv 0 rfl v0) (pv 1 rfl v1 hdF hcF) (by rfl))), ?_⟩
    refine ⟨_, rfl, rd e v H _ ok fun z => ⟨e, z, C, f, F, rfl, he, Er, _, rfl, _, rfl, e, C, rfl, he, Er.st, fun dx hd => q dx hd⟩⟩
end L3
set_option maxHeartbeats 1000000
namespace L3
open PySem PySem.Spec PyProof.Rows L2 SeqAt MeetsSeq
section
variable {X : Cx} {e v a b : Expr} {te tv ta tb : TE2} {pos : Pos}
end
end L3
set_option maxHeartbeats 1000000
namespace L2
open PySem PySem.Spec PyProof.Rows
section
variable {X : Cx} {pins : List (Addr × Obj)} {σ : St} {H : Hp} {s : Shared} {a : Addr}
end
end L2
namespace L3
open PySem PySem.Spec PyProof.Rows L2 SeqAt MeetsSeq
section
variable {X : Cx} {pos : Pos}
section
variable {tg l : Expr} {tl : TE2} {g : TG2} {tb : TS2}
end
end
end L3
set_option maxHeartbeats 1000000
namespace L3
open PySem PySem.Spec PyProof.Rows L2
section
variable {chk : Mem → Prop} {g : TG2} {tb : TS2} {tc : TT2} {te : TE2} {xs : List U} {D : Ends2} {σ : St2} {M : Mem} {Q : UK}
theorem Comp.pure {α : Type} (as : List α) (f : α → U) (p : α → Bool) (h : α → U) (S : St2 → Prop) (hx : xs = as.map f) (h0 : S σ) (hn : as.length ≤ sizeLine) (hc : ∀ M', Le M M' → chk M')
    (hs : ∀ a ∈ as, ∀ σ, S σ → ∀ (Y : U → St2 → Mem → Prop) (N : St2 → Mem → Prop), (p a = true → ∀ σ1 M3, S σ1 → Le M M3 → Y (h a) σ1 M3) → (p a = false → ∀ σ1 M2, S σ1 → Le M M2 → N σ1 M2) →
      g (f a) σ M fun σ1 M1 => tc σ1 M1 fun b M2 => bE b (te σ1 M2 fun y M3 => Y y σ1 M3) (N σ1 M2))
    (hd : ∀ q, M q = none → Q (.ref q) (put M q (.lst ((as.filter p).map h)))) : Comp chk g tc te xs Q σ M := by
  subst hx
  refine Comp.inv (by rw [List.length_map]; exact hn) (fun i ys σ M' => M' = M ∧ ys = ((as.take i).filter p).map h ∧ S σ) ⟨rfl, rfl, h0⟩ ?_ ?_
  · rintro i x ys σ M' hx hy ⟨rfl, rfl, s⟩
    rw [List.getElem?_map] at hx
    cases en : as[i]? with
    | none => rw [en] at hx; cases hx
    | some a =>
      rw [en] at hx; cases hx
      have et : as.take (i + 1) = as.take i ++ [a] := by rw [List.take_add_one, en]; rfl
      refine ⟨hc _ (Le.refl _), hs a (List.mem_of_getElem? en) σ s _ _ (fun c σ1 M3 s1 l => ⟨M', l, rfl, ?_, s1⟩) (fun c σ1 M3 s1 l => ⟨M', l, rfl, ?_, s1⟩)⟩
      · rw [et, List.filter_append, List.filter_cons_of_pos c, List.map_append]; rfl
      · rw [et, List.filter_append, List.filter_cons_of_neg (by rw [c]; decide), List.filter_nil, List.append_nil]
  · rintro ys σ M' ⟨rfl, rfl, s⟩
    refine ⟨hc _ (Le.refl _), fun q hq => ?_⟩
    rw [List.length_map, List.take_length]
    exact hd q hq
theorem Comp.mapped {α : Type} (as : List α) (f : α → U) (h : α → U) (S : St2 → Prop) (hx : xs = as.map f) (h0 : S σ) (hn : as.length ≤ sizeLine) (hc : ∀ M', Le M M' → chk M')
    (hs : ∀ a ∈ as, ∀ σ, S σ → ∀ (Y : U → St2 → Mem → Prop), (∀ σ1 M3, S σ1 → Le M M3 → Y (h a) σ1 M3) → ∀ N : St2 → Mem → Prop,
      g (f a) σ M fun σ1 M1 => tc σ1 M1 fun b M2 => bE b (te σ1 M2 fun y M3 => Y y σ1 M3) (N σ1 M2))
    (hd : ∀ q, M q = none → Q (.ref q) (put M q (.lst (as.map h)))) : Comp chk g tc te xs Q σ M := by
  refine Comp.pure as f (fun _ => true) h S hx h0 hn hc (fun a ha σ s Y N yes no => hs a ha σ s Y (yes rfl) N) (fun q hq => ?_)
  rw [List.filter_eq_self.mpr (fun _ _ => rfl)]
  exact hd q hq
theorem rngU_map : ∀ (n : Nat) (lo : Int), rngU lo n = (List.range n).map fun i : Nat => U.int (lo + i)
  | n, lo => by
    apply List.ext_getElem?
    intro i
    by_cases h : i < n
    · rw [rngU_get n lo i h, List.getElem?_map, List.getElem?_range h]; rfl
    · rw [List.getElem?_eq_none (by rw [rngU_len]; omega), List.getElem?_eq_none (by rw [List.length_map, List.length_range]; omega)]
end
section
variable {M : Mem} {a C : Addr} {K : Frag}
end
end L3
set_option maxHeartbeats 1000000
namespace L3
open PySem PySem.Spec PyProof.Rows L2
theorem inV_strs (z : Str) : ∀ zs : List Str, inV (.str z) (zs.map V.str) = decide (z ∈ zs)
  | [] => by simp [inV]
  | a :: r => by
    have ih := inV_strs z r
    unfold inV at ih ⊢
    rw [List.map_cons, List.any_cons, ih]
    show (a == z || _) = _
    by_cases e : z = a
    · subst e; simp
    · have e' : (a == z) = false := by simpa using fun w => e w.symm
      rw [e']; simp [e]
theorem flat_strs (zs : List Str) : (zs.map V.str).all flatV = true := by rw [List.all_eq_true]; intro x hx; obtain ⟨z, _, rfl⟩ := List.mem_map.mp hx; rfl
section
variable {X : Cx} {e f o i : Expr} {te tf to ti : TE2} {pos apos cpos : Pos}
end
section
variable {g : TG2} {tb : TS2} {tc : TT2} {te : TE2} {σ : St2} {M : Mem} {Q : UK} {a : Addr} {kvs : List (Key × U)} {ob : Obj}
end
end L3
set_option maxHeartbeats 1000000
namespace L3
open PySem PySem.Spec PyProof.Rows L2 XC
section
variable {X : Cx}
noncomputable def hasT (b a : Str) : Bool := !(Builtin.Str.occurrences b a 0 b.length 1).isEmpty
theorem hasT_one (b : Str) (c : Nat) : hasT b ⟨#[c]⟩ = decide (c ∈ b.cps.toList) := StrLaws.found_one b c
theorem op_inS : OpR X (compareOp .In) (fun x y H Q => ∃ a b, x = .str a ∧ y = .str b ∧ Q (.bl (hasT b a)) H) := by
  intro pins s σ H x y v u Q I rx ry h
  obtain ⟨a, b, rfl, rfl, q⟩ := h
  obtain ⟨t, rfl⟩ := rx
  obtain ⟨t', rfl⟩ := ry
  exact in_str ⟨.bl _, H, I, rfl, q⟩
theorem op_ninS : OpR X (compareOp .NotIn) (fun x y H Q => ∃ a b, x = .str a ∧ y = .str b ∧ Q (.bl (!hasT b a)) H) := by
  intro pins s σ H x y v u Q I rx ry h
  obtain ⟨a, b, rfl, rfl, q⟩ := h
  obtain ⟨t, rfl⟩ := rx
  obtain ⟨t', rfl⟩ := ry
  exact notIn_str ⟨.bl _, H, I, rfl, q⟩
@[reducible] noncomputable def r_inS (neg : Bool) : RR2 := fun x y M Q => ∃ a b, x = .str a ∧ y = .str b ∧ Q (.bl (if neg then !hasT b a else hasT b a)) M
theorem o_inS : Op2 X (compareOp .In) (r_inS false) := by
  refine ⟨_, op_inS, fun x y M Q Q' k h => ?_, fun x2 y2 x y M H Q rx ry rm h => ?_⟩
  · obtain ⟨a, b, h1, h2, h3⟩ := h; exact ⟨a, b, h1, h2, k _ _ h3⟩
  · obtain ⟨a, b, rfl, rfl, q⟩ := h
    obtain rfl := rx.strI
    obtain rfl := ry.strI
    exact ⟨a, b, rfl, rfl, q (.bl _) H .refl (.bl _) rm⟩
theorem o_ninS : Op2 X (compareOp .NotIn) (r_inS true) := by
  refine ⟨_, op_ninS, fun x y M Q Q' k h => ?_, fun x2 y2 x y M H Q rx ry rm h => ?_⟩
  · obtain ⟨a, b, h1, h2, h3⟩ := h; exact ⟨a, b, h1, h2, k _ _ h3⟩
  · obtain ⟨a, b, rfl, rfl, q⟩ := h
    obtain rfl := rx.strI
    obtain rfl := ry.strI
    exact ⟨a, b, rfl, rfl, q (.bl _) H .refl (.bl _) rm⟩
theorem qe_gs {x z : Str} {pos : Pos} (hg : Gl X x) (hm : ∃ t, X.mg x = some (.str z t)) (hd : (x == ("__debug__" : Str)) = false := by decide) : QE X (.Name x pos) (qC (.str z)) := by
  obtain ⟨t, hm⟩ := hm
  exact qe_c (pe_glob hg hm (v := .str z) ⟨t, rfl⟩ hd) fun _ => .str _
theorem qe_gi {x : Str} {i : Int} {pos : Pos} (hg : Gl X x) (hm : ∃ t, X.mg x = some (.int i t)) (hd : (x == ("__debug__" : Str)) = false := by decide) : QE X (.Name x pos) (qC (.int i)) := by
  obtain ⟨t, hm⟩ := hm
  exact qe_c (pe_glob hg hm (v := .int i) ⟨t, rfl⟩ hd) fun _ => .int _
theorem rep_strs {K : Frag} {H : Hp} : ∀ zs : List Str, RepAll K H (zs.map U.str) (zs.map V.str)
  | [] => .nil
  | _ :: r => .cons (.str _) (rep_strs r)
theorem qe_gt {x : Str} {zs : List Str} {pos : Pos} (hg : Gl X x) (hm : ∃ a, X.mg x = some (.ref a) ∧ ∀ H, SqT X.K H a (zs.map V.str)) (hd : (x == ("__debug__" : Str)) = false := by decide) : QE X (.Name x pos) (qC (.tup (zs.map U.str))) := by
  obtain ⟨a, hm, sq⟩ := hm
  exact qe_c (pe_glob hg hm (v := .ref a) rfl hd) fun H => .tup (sq H) (rep_strs zs)
end
end L3
set_option maxHeartbeats 1000000
namespace L3
open PySem PySem.Spec PyProof.Rows L2
section
variable {X : Cx} {e f o i value : Expr} {te tf to ti tv : TE2} {pos apos cpos tpos : Pos}
end
end L3
set_option maxHeartbeats 1000000
namespace HT
open PySem PySem.Spec PyProof.Rows
section
variable {prog : Program} {w : World} {A : Around} {E : Value → Shared → Prop} {s : Shared}
end
end HT
namespace L2
open PySem PySem.Spec PyProof.Rows
section
variable {X : Cx}
end
end L2
namespace L3
open PySem PySem.Spec PyProof.Rows L2
section
variable {X : Cx}
end
end L3
set_option maxHeartbeats 1000000
namespace N1
open PySem PySem.Spec PyProof.Rows L2 L3
noncomputable def one (c : Nat) : Str := ⟨#[c]⟩
theorem glue_ones (A : Array Nat) : ∀ cs : List Nat, (cs.map one).foldl (fun acc p => acc ++ (Str.ofString "").cps ++ p.cps) A = A ++ cs.toArray
  | [] => by simp
  | c :: r => by
    rw [List.map_cons, List.foldl_cons, glue_ones _ r]
    have e : (Str.ofString "").cps = #[] := by decide +kernel
    rw [e]
    simp [one]
theorem join_ones (cs : List Nat) : Txt.join (Str.ofString "") (cs.map one) = ⟨cs.toArray⟩ := by
  show Builtin.Str.glued (Str.ofString "") (cs.map one) = _
  unfold Builtin.Str.glued
  cases cs with
  | nil => rfl
  | cons c r =>
    show (⟨(((c :: r).map one).drop 1).foldl _ _⟩ : Str) = _
    rw [List.map_cons, List.drop_succ_cons, List.drop_zero]
    have := glue_ones (one c).cps r
    rw [show ((one c :: r.map one).headD Str.empty).cps = (one c).cps from rfl, this]
    simp [one]
theorem joinOk_ones {cs : List Nat} (h : cs.length ≤ 1000) : JoinOk (Str.ofString "") (cs.map one) = true := by
  unfold JoinOk
  rw [StrLaws.joinFits (B := 1)]
  · rfl
  · intro y hy
    obtain ⟨c, _, rfl⟩ := List.mem_map.mp hy
    exact Nat.le_refl _
  · have e : (Str.ofString "").length = 0 := by decide +kernel
    rw [e, List.length_map]; omega
noncomputable def abc : Str := Str.ofString "abcdefghijklmnopqrstuvwxyz"
theorem abc_len : abc.cps.toList.length = 26 := by decide +kernel
theorem abc_ok : ∀ c ∈ abc.cps.toList, 97 ≤ c ∧ c < 123 := by decide +kernel
noncomputable def letter (m : Int) : Nat := abc.cps.toList.getD (m % 26).toNat 0
theorem letter_get (m : Int) : abc.cps.toList[(m % 26).toNat]? = some (letter m) := by
  have h : (m % 26).toNat < abc.cps.toList.length := by rw [abc_len]; omega
  unfold letter
  rw [List.getElem?_eq_getElem h, List.getD_eq_getElem?_getD, List.getElem?_eq_getElem h]; rfl
theorem letter_ok (m : Int) : 97 ≤ letter m ∧ letter m < 123 := abc_ok _ (List.mem_of_getElem? (letter_get m))
theorem atI_abc (m : Int) : atI abc.cps.toList (m % 26) = some (letter m) := by
  have e : m % 26 = (((m % 26).toNat : Nat) : Int) := by omega
  rw [e]; exact atI_nat (letter_get m)
end N1
namespace Mth
inductive Srt where
  | blank | other | letter | figure
  deriving DecidableEq
section
variable (L F B : Nat → Bool)
noncomputable def sortOf (c : Nat) : Srt := if F c then .figure else if L c then .letter else if B c then .blank else .other
noncomputable abbrev Run := Nat × List Nat
noncomputable def step (p c : Nat) (fl : List Run × Srt) : List Run × Srt :=
  let so := sortOf L F B c
  if so = fl.2 ∧ (so = .letter ∨ so = .figure) then (fl.1.dropLast ++ (fl.1.getLast?.map fun r => (r.1, r.2 ++ [c])).toList, so)
  else if so ≠ .blank then (fl.1 ++ [(p, [c])], so) else (fl.1, so)
noncomputable def goF : Nat → List Nat → List Run × Srt → List Run × Srt
  | _, [], fl => fl
  | p, c :: r, fl => goF (p + 1) r (step L F B p c fl)
noncomputable def runsFrom (p : Nat) (cs : List Nat) : List Run := (goF L F B p cs ([], .blank)).1
theorem step_off {p c : Nat} {fs : List Run} {la : Srt} (h : sortOf L F B c ≠ la ∨ ¬ (sortOf L F B c = .letter ∨ sortOf L F B c = .figure)) :
    step L F B p c (fs, la) = (if sortOf L F B c ≠ .blank then fs ++ [(p, [c])] else fs, sortOf L F B c) := by
  unfold step
  have h1 : ¬ (sortOf L F B c = la ∧ (sortOf L F B c = .letter ∨ sortOf L F B c = .figure)) := by
    rintro ⟨a, b⟩
    rcases h with h | h
    · exact h a
    · exact h b
  simp only [h1, if_false]
  split <;> rfl
theorem step_on {p c q : Nat} {fs : List Run} {w : List Nat} {la : Srt} (h : sortOf L F B c = la) (h2 : la = .letter ∨ la = .figure) : step L F B p c (fs ++ [(q, w)], la) = (fs ++ [(q, w ++ [c])], la) := by
  unfold step
  have h1 : sortOf L F B c = la ∧ (sortOf L F B c = .letter ∨ sortOf L F B c = .figure) := ⟨h, by rw [h]; exact h2⟩
  simp only [h1, if_true, and_self, true_and]
  simp [h, h2]
theorem go_pre (la : Srt) : ∀ (cs : List Nat) (p : Nat) (done fs : List Run) (lb : Srt), ((lb = .letter ∨ lb = .figure) → fs ≠ []) →
    (goF L F B p cs (done ++ fs, lb)) = (done ++ (goF L F B p cs (fs, lb)).1, (goF L F B p cs (fs, lb)).2)
  | [], _, _, _, _, _ => rfl
  | c :: r, p, done, fs, lb, hne => by
    show goF L F B (p + 1) r (step L F B p c (done ++ fs, lb)) = (done ++ (goF L F B (p + 1) r (step L F B p c (fs, lb))).1, (goF L F B (p + 1) r (step L F B p c (fs, lb))).2)
    by_cases hs : sortOf L F B c = lb ∧ (lb = .letter ∨ lb = .figure)
    · obtain ⟨h1, h2⟩ := hs
      have hf := hne h2
      obtain ⟨gs, x, rfl⟩ : ∃ gs x, fs = gs ++ [x] := ⟨fs.dropLast, fs.getLast hf, (List.dropLast_concat_getLast hf).symm⟩
      obtain ⟨q, w⟩ := x
      rw [← List.append_assoc, step_on L F B h1 h2, step_on L F B h1 h2, List.append_assoc]
      exact go_pre la r (p + 1) done (gs ++ [(q, w ++ [c])]) lb fun _ => by simp
    · have ho : sortOf L F B c ≠ lb ∨ ¬ (sortOf L F B c = .letter ∨ sortOf L F B c = .figure) := by
        by_cases e : sortOf L F B c = lb
        · right
          intro z
          exact hs ⟨e, by rw [← e]; exact z⟩
        · exact .inl e
      rw [step_off L F B ho, step_off L F B ho]
      by_cases hb : sortOf L F B c = .blank
      · rw [if_neg (by simp [hb]), if_neg (by simp [hb])]
        exact go_pre la r (p + 1) done fs _ fun z => by rw [hb] at z; rcases z with z | z <;> cases z
      · rw [if_pos hb, if_pos hb, List.append_assoc]
        exact go_pre la r (p + 1) done (fs ++ [(p, [c])]) _ fun _ => by simp
theorem go_blank (cs : List Nat) (p : Nat) (fs : List Run) (lb : Srt) (h : ∀ c r, cs = c :: r → sortOf L F B c ≠ lb ∨ ¬ (lb = .letter ∨ lb = .figure)) :
    (goF L F B p cs (fs, lb)).1 = fs ++ runsFrom L F B p cs := by
  cases cs with
  | nil => show fs = fs ++ []; simp
  | cons c r =>
    have h' := h c r rfl
    have e1 : step L F B p c (fs, lb) = step L F B p c (fs, .blank) := by
      rw [step_off L F B, step_off L F B]
      · by_cases z : sortOf L F B c = .blank
        · right; rw [z]; rintro (q | q) <;> cases q
        · exact .inl z
      · rcases h' with z | z
        · exact .inl z
        · by_cases q : sortOf L F B c = lb
          · right; rw [q]; exact z
          · exact .inl q
    show (goF L F B (p + 1) r (step L F B p c (fs, lb))).1 = fs ++ (goF L F B (p + 1) r (step L F B p c ([], .blank))).1
    rw [e1]
    have := go_pre L F B .blank (c :: r) p fs [] .blank (by rintro (q | q) <;> cases q)
    rw [List.append_nil] at this
    have e2 := congrArg Prod.fst this
    exact e2
theorem go_row (la : Srt) (h2 : la = .letter ∨ la = .figure) (fs : List Run) (q : Nat) : ∀ (cs : List Nat) (p : Nat) (w : List Nat),
    (goF L F B p cs (fs ++ [(q, w)], la)).1 = fs ++ [(q, w ++ cs.takeWhile fun c => decide (sortOf L F B c = la))] ++ runsFrom L F B (p + (cs.takeWhile fun c => decide (sortOf L F B c = la)).length) (cs.dropWhile fun c => decide (sortOf L F B c = la))
  | [], p, w => by simp [goF, runsFrom]
  | c :: r, p, w => by
    by_cases hs : sortOf L F B c = la
    · have hd : (decide (sortOf L F B c = la)) = true := decide_eq_true hs
      rw [List.takeWhile_cons_of_pos (by simpa using hs), List.dropWhile_cons_of_pos (by simpa using hs)]
      show (goF L F B (p + 1) r (step L F B p c (fs ++ [(q, w)], la))).1 = _
      rw [step_on L F B hs h2, go_row la h2 fs q r (p + 1) (w ++ [c])]
      simp only [List.append_assoc, List.singleton_append, List.length_cons]
      rw [Nat.add_assoc, Nat.add_comm 1]
    · rw [List.takeWhile_cons_of_neg (by simpa using hs), List.dropWhile_cons_of_neg (by simpa using hs)]
      rw [go_blank L F B (c :: r) p (fs ++ [(q, w)]) la fun c' r' e => by
        have e' : c = c' := (List.cons.inj e).1
        rw [← e']
        exact .inl hs]
      simp
theorem runs_nil (p : Nat) : runsFrom L F B p [] = [] := rfl
theorem runs_blank {p c : Nat} {r : List Nat} (h : sortOf L F B c = .blank) : runsFrom L F B p (c :: r) = runsFrom L F B (p + 1) r := by
  unfold runsFrom
  show (goF L F B (p + 1) r (step L F B p c ([], .blank))).1 = _
  rw [step_off L F B (.inr (by rw [h]; rintro (q | q) <;> cases q)), if_neg (by simp [h]), h]
theorem runs_other {p c : Nat} {r : List Nat} (h : sortOf L F B c = .other) : runsFrom L F B p (c :: r) = (p, [c]) :: runsFrom L F B (p + 1) r := by
  have e : runsFrom L F B p (c :: r) = (goF L F B (p + 1) r (step L F B p c ([], .blank))).1 := rfl
  rw [e, step_off L F B (.inl (by rw [h]; intro q; cases q)), if_pos (by rw [h]; intro q; cases q), h]
  rw [go_blank L F B r (p + 1) _ .other fun c' r' _ => .inr (by rintro (q | q) <;> cases q)]
  rfl
theorem runs_row {la : Srt} (h2 : la = .letter ∨ la = .figure) {p c : Nat} {r : List Nat} (h : sortOf L F B c = la) :
    runsFrom L F B p (c :: r) = (p, (c :: r).takeWhile fun c => decide (sortOf L F B c = la)) :: runsFrom L F B (p + ((c :: r).takeWhile fun c => decide (sortOf L F B c = la)).length) ((c :: r).dropWhile fun c => decide (sortOf L F B c = la)) := by
  have e : runsFrom L F B p (c :: r) = (goF L F B (p + 1) r (step L F B p c ([], .blank))).1 := rfl
  have nb : sortOf L F B c ≠ .blank := by rw [h]; rintro q; rcases h2 with z | z <;> rw [z] at q <;> cases q
  rw [e, step_off L F B (.inl nb), if_pos nb, h]
  rw [show ([] ++ [(p, [c])] : List Run) = [] ++ [(p, [c])] from rfl, go_row L F B la h2 [] p r (p + 1) [c]]
  rw [List.takeWhile_cons_of_pos (by simpa using h), List.dropWhile_cons_of_pos (by simpa using h)]
  simp only [List.nil_append, List.singleton_append, List.length_cons, List.cons_append]
  rw [Nat.add_assoc, Nat.add_comm 1]
end
end Mth
namespace Mth
section
variable (L F B : Nat → Bool)
theorem goF_snoc : ∀ (l : List Nat) (p c : Nat) (s : List Run × Srt), goF L F B p (l ++ [c]) s = step L F B (p + l.length) c (goF L F B p l s)
  | [], _, _, _ => rfl
  | d :: r, p, c, s => by
    show goF L F B (p + 1) (r ++ [c]) (step L F B p d s) = _
    rw [goF_snoc r (p + 1) c, List.length_cons, show p + 1 + r.length = p + (r.length + 1) by omega]
    rfl
noncomputable def Row (s : Srt) : Prop := s = .letter ∨ s = .figure
theorem step_ne {p c : Nat} {fl : List Run × Srt} (h : Row fl.2 → fl.1 ≠ []) : Row (step L F B p c fl).2 → (step L F B p c fl).1 ≠ [] := by
  obtain ⟨fs, la⟩ := fl
  intro hr
  by_cases hs : sortOf L F B c = la ∧ (la = .letter ∨ la = .figure)
  · obtain ⟨h1, h2⟩ := hs
    have hf : fs ≠ [] := h h2
    obtain ⟨gs, x, rfl⟩ : ∃ gs x, fs = gs ++ [x] := ⟨fs.dropLast, fs.getLast hf, (List.dropLast_concat_getLast hf).symm⟩
    obtain ⟨q, w⟩ := x
    rw [step_on L F B h1 h2]; simp
  · have ho : sortOf L F B c ≠ la ∨ ¬ (sortOf L F B c = .letter ∨ sortOf L F B c = .figure) := by
      by_cases e : sortOf L F B c = la
      · right
        intro z
        exact hs ⟨e, by rw [← e]; exact z⟩
      · exact .inl e
    rw [step_off L F B ho] at hr ⊢
    have nb : sortOf L F B c ≠ .blank := by
      intro z
      rcases hr with q | q
      · exact absurd (z.symm.trans q) (by decide)
      · exact absurd (z.symm.trans q) (by decide)
    rw [if_pos nb]
    simp
theorem go_ne : ∀ (l : List Nat) (p : Nat) (fl : List Run × Srt), (Row fl.2 → fl.1 ≠ []) → Row (goF L F B p l fl).2 → (goF L F B p l fl).1 ≠ []
  | [], _, _, h => h
  | c :: r, p, fl, h => go_ne r (p + 1) (step L F B p c fl) (step_ne L F B h)
noncomputable def wordAt : List Nat → List Nat
  | [] => []
  | c :: r => if F c then (c :: r).takeWhile F else if L c then (c :: r).takeWhile L else [c]
variable {L F B}
theorem w_fig {c : Nat} {r : List Nat} (hf : F c = true) : wordAt L F (c :: r) = (c :: r).takeWhile F := if_pos hf
theorem w_let {c : Nat} {r : List Nat} (hf : F c = false) (hl : L c = true) : wordAt L F (c :: r) = (c :: r).takeWhile L := (if_neg (by simp [hf])).trans (if_pos hl)
theorem w_oth {c : Nat} {r : List Nat} (hf : F c = false) (hl : L c = false) : wordAt L F (c :: r) = [c] := (if_neg (by simp [hf])).trans (if_neg (by simp [hl]))
theorem srt_fig (c : Nat) : decide (sortOf L F B c = .figure) = F c := by
  unfold sortOf
  cases F c <;> cases L c <;> cases B c <;> rfl
theorem srt_let (hd : ∀ c, L c = true → F c = false) (c : Nat) : decide (sortOf L F B c = .letter) = L c := by
  unfold sortOf
  have := hd c
  revert this
  cases F c <;> cases L c <;> cases B c <;> simp
theorem drop_while (p : Nat → Bool) : ∀ l : List Nat, l.dropWhile p = l.drop (l.takeWhile p).length
  | [] => rfl
  | c :: r => by
    cases h : p c with
    | true => rw [List.dropWhile_cons_of_pos h, List.takeWhile_cons_of_pos h, List.length_cons, List.drop_succ_cons, drop_while p r]
    | false => rw [List.dropWhile_cons_of_neg (by simp [h]), List.takeWhile_cons_of_neg (by simp [h])]; rfl
theorem runs_next (hd : ∀ c, L c = true → F c = false) {p c : Nat} {r : List Nat} (hb : (L c || F c) = true ∨ B c = false) :
    runsFrom L F B p (c :: r) = (p, wordAt L F (c :: r)) :: runsFrom L F B (p + (wordAt L F (c :: r)).length) ((c :: r).drop (wordAt L F (c :: r)).length) := by
  cases hf : F c with
  | true =>
    rw [w_fig hf]
    have e : (fun c => decide (sortOf L F B c = .figure)) = F := funext srt_fig
    have := runs_row L F B (.inr rfl) (p := p) (c := c) (r := r) (of_decide_eq_true ((srt_fig c).trans hf))
    rw [e, drop_while] at this
    exact this
  | false =>
    cases hl : L c with
    | true =>
      rw [w_let hf hl]
      have e : (fun c => decide (sortOf L F B c = .letter)) = L := funext (srt_let hd)
      have := runs_row L F B (.inl rfl) (p := p) (c := c) (r := r) (of_decide_eq_true ((srt_let hd c).trans hl))
      rw [e, drop_while] at this
      exact this
    | false =>
      rw [w_oth hf hl]
      have hB : B c = false := hb.resolve_left (by rw [hl, hf]; decide)
      exact runs_other L F B (by unfold sortOf; rw [hf, hl, hB]; rfl)
theorem runs_part {p c : Nat} {r : List Nat} (h1 : L c = false) (h2 : F c = false) (h3 : B c = true) : runsFrom L F B p (c :: r) = runsFrom L F B (p + 1) r :=
  runs_blank L F B (by unfold sortOf; rw [h1, h2, h3]; rfl)
noncomputable def Shape (L F : Nat → Bool) (w : List Nat) : Prop := (w ≠ [] ∧ ∀ c ∈ w, L c = true) ∨ (w ≠ [] ∧ ∀ c ∈ w, F c = true) ∨ ∃ c, w = [c] ∧ L c = false ∧ F c = false
theorem all_while (p : Nat → Bool) : ∀ l : List Nat, ∀ c ∈ l.takeWhile p, p c = true
  | [], c, h => by cases h
  | d :: r, c, h => by
    cases e : p d with
    | true =>
      rw [List.takeWhile_cons_of_pos e] at h
      rcases List.mem_cons.mp h with z | z
      · rw [z]; exact e
      · exact all_while p r c z
    | false => rw [List.takeWhile_cons_of_neg (by simp [e])] at h; cases h
theorem len_while (p : Nat → Bool) : ∀ l : List Nat, (l.takeWhile p).length ≤ l.length
  | [] => Nat.le_refl _
  | d :: r => by
    cases e : p d with
    | true => rw [List.takeWhile_cons_of_pos e, List.length_cons, List.length_cons]; exact Nat.succ_le_succ (len_while p r)
    | false => rw [List.takeWhile_cons_of_neg (by simp [e])]; exact Nat.zero_le _
theorem word_shape (c : Nat) (r : List Nat) : Shape L F (wordAt L F (c :: r)) ∧ 1 ≤ (wordAt L F (c :: r)).length ∧ (wordAt L F (c :: r)).length ≤ r.length + 1 ∧ wordAt L F (c :: r) = (c :: r).take (wordAt L F (c :: r)).length := by
  have tk : ∀ (p : Nat → Bool) (l : List Nat), l.takeWhile p = l.take (l.takeWhile p).length := fun p l => by
    induction l with
    | nil => rfl
    | cons d r ih =>
      cases e : p d with
      | true => rw [List.takeWhile_cons_of_pos e, List.length_cons, List.take_succ_cons, ← ih]
      | false => rw [List.takeWhile_cons_of_neg (by simp [e])]; rfl
  cases hf : F c with
  | true =>
    rw [w_fig hf]
    refine ⟨.inr (.inl ⟨by rw [List.takeWhile_cons_of_pos hf]; simp, all_while F _⟩), by rw [List.takeWhile_cons_of_pos hf]; simp, len_while F _, tk F _⟩
  | false =>
    cases hl : L c with
    | true =>
      rw [w_let hf hl]
      refine ⟨.inl ⟨by rw [List.takeWhile_cons_of_pos hl]; simp, all_while L _⟩, by rw [List.takeWhile_cons_of_pos hl]; simp, len_while L _, tk L _⟩
    | false =>
      rw [w_oth hf hl]
      exact ⟨.inr (.inr ⟨c, rfl, hl, hf⟩), Nat.le_refl _, by simp, by simp⟩
theorem runs_shape (hd : ∀ c, L c = true → F c = false) : ∀ (n : Nat) (l : List Nat) (p : Nat), l.length ≤ n → (runsFrom L F B p l).length ≤ l.length ∧ ∀ r ∈ runsFrom L F B p l, Shape L F r.2 ∧ r.1 < p + l.length ∧ r.2.length ≤ l.length
  | _, [], p, _ => ⟨Nat.le_refl _, fun r h => by cases h⟩
  | 0, c :: r, p, h => by cases h
  | n + 1, c :: r, p, h => by
    have h : r.length ≤ n := Nat.le_of_succ_le_succ h
    by_cases hb : (L c || F c) = true ∨ B c = false
    · rw [runs_next hd hb]
      obtain ⟨s1, s2, s3, s4⟩ := word_shape (L := L) (F := F) c r
      have hl : ((c :: r).drop (wordAt L F (c :: r)).length).length = r.length + 1 - (wordAt L F (c :: r)).length := by rw [List.length_drop, List.length_cons]
      have hr : r.length + 1 - (wordAt L F (c :: r)).length ≤ r.length := Nat.sub_le_of_le_add (Nat.add_le_add_left s2 _)
      have hs : (wordAt L F (c :: r)).length + (r.length + 1 - (wordAt L F (c :: r)).length) = r.length + 1 := Nat.add_sub_cancel' s3
      obtain ⟨i1, i2⟩ := runs_shape hd n ((c :: r).drop (wordAt L F (c :: r)).length) (p + (wordAt L F (c :: r)).length) (by rw [hl]; exact Nat.le_trans hr h)
      rw [hl] at i1 i2
      refine ⟨Nat.succ_le_succ (Nat.le_trans i1 hr), fun x hx => ?_⟩
      rcases List.mem_cons.mp hx with z | z
      · rw [z]; exact ⟨s1, Nat.lt_add_of_pos_right (Nat.succ_pos _), s3⟩
      · obtain ⟨a, b, d⟩ := i2 x z
        rw [Nat.add_assoc, hs] at b
        exact ⟨a, b, Nat.le_trans d (Nat.sub_le _ _)⟩
    · have h1 : L c = false := by cases z : L c with
        | true => exact absurd (.inl (by rw [z]; rfl)) hb
        | false => rfl
      have h2 : F c = false := by cases z : F c with
        | true => exact absurd (.inl (by rw [z, Bool.or_true])) hb
        | false => rfl
      have h3 : B c = true := by cases z : B c with
        | false => exact absurd (.inr z) hb
        | true => rfl
      rw [runs_part h1 h2 h3]
      obtain ⟨i1, i2⟩ := runs_shape hd n r (p + 1) h
      refine ⟨Nat.le_succ_of_le i1, fun x hx => ?_⟩
      obtain ⟨a, b, d⟩ := i2 x hx
      rw [Nat.add_assoc, Nat.add_comm 1] at b
      exact ⟨a, b, Nat.le_succ_of_le d⟩
theorem runs_sub (hd : ∀ c, L c = true → F c = false) : ∀ (n : Nat) (l : List Nat) (p : Nat), l.length ≤ n → ∀ r ∈ runsFrom L F B p l, ∀ c ∈ r.2, c ∈ l
  | _, [], p, _ => fun r h => by cases h
  | 0, c :: r, p, h => by cases h
  | n + 1, c :: r, p, h => by
    rw [List.length_cons] at h
    by_cases hb : (L c || F c) = true ∨ B c = false
    · rw [runs_next hd hb]
      obtain ⟨s1, s2, s3, s4⟩ := word_shape (L := L) (F := F) c r
      intro x hx d hdx
      rcases List.mem_cons.mp hx with z | z
      · rw [z, s4] at hdx
        exact List.mem_of_mem_take hdx
      · exact List.mem_of_mem_drop (runs_sub hd n _ _ (by rw [List.length_drop, List.length_cons]; omega) x z d hdx)
    · have h1 : L c = false := by cases z : L c with
        | true => exact absurd (.inl (by rw [z]; rfl)) hb
        | false => rfl
      have h2 : F c = false := by cases z : F c with
        | true => exact absurd (.inl (by rw [z, Bool.or_true])) hb
        | false => rfl
      have h3 : B c = true := by cases z : B c with
        | false => exact absurd (.inr z) hb
        | true => rfl
      rw [runs_part h1 h2 h3]
      exact fun x hx d hdx => List.mem_cons_of_mem _ (runs_sub hd n r (p + 1) (by omega) x hx d hdx)
noncomputable def wrong (G : List Nat → Bool) (rs : List Run) : List Nat := (rs.filter fun r => !G r.2).map (·.1)
theorem wrong_good {G : List Nat → Bool} {done rs : List Run} (h : ∀ r ∈ done, G r.2 = true) : wrong G (done ++ rs) = wrong G rs := by
  unfold wrong
  rw [List.filter_append, List.filter_eq_nil_iff.mpr (fun r hr => by simp [h r hr]), List.nil_append]
theorem wrong_bad {G : List Nat → Bool} {done rs : List Run} {i : Nat} {w : List Nat} (h : ∀ r ∈ done, G r.2 = true) (b : G w = false) : wrong G (done ++ (i, w) :: rs) = i :: wrong G rs := by
  rw [wrong_good h]
  unfold wrong
  rw [List.filter_cons_of_pos (by simp [b])]
  rfl
theorem wrong_nil {G : List Nat → Bool} {done : List Run} (h : ∀ r ∈ done, G r.2 = true) : wrong G done = [] := by
  have := wrong_good (rs := []) h
  rw [List.append_nil] at this
  exact this
end
end Mth
set_option maxHeartbeats 1000000
namespace L3
open PySem PySem.Spec PyProof.Rows L2 XC
theorem lt_tr : ∀ x y z : List Nat, ltCps y x = false → ltCps z y = false → ltCps z x = false
  | [], [], z, _, h => h
  | [], y :: r, z, h1, h2 => by
    cases z with
    | nil => simp [ltCps] at h2
    | cons c t => rfl
  | a :: p, [], z, h1, h2 => by simp [ltCps] at h1
  | a :: p, b :: q, [], h1, h2 => by simp [ltCps] at h2
  | a :: p, b :: q, c :: r, h1, h2 => by
    have ih := lt_tr p q r
    simp only [ltCps, Bool.or_eq_false_iff, decide_eq_false_iff_not, Bool.and_eq_false_iff, beq_eq_false_iff_ne, ne_eq] at h1 h2 ⊢
    refine ⟨by omega, ?_⟩
    by_cases e : c = a
    · right
      exact ih (h1.2.resolve_left (by omega)) (h2.2.resolve_left (by omega))
    · exact .inl e
theorem lt_as : ∀ x y : List Nat, ltCps y x = false → ltCps x y = false → x = y
  | [], [], _, _ => rfl
  | [], y :: r, _, h2 => by simp [ltCps] at h2
  | a :: p, [], h1, h2 => by simp [ltCps] at h1
  | a :: p, b :: q, h1, h2 => by
    have ih := lt_as p q
    simp only [ltCps, Bool.or_eq_false_iff, decide_eq_false_iff_not, Bool.and_eq_false_iff, beq_eq_false_iff_ne, ne_eq] at h1 h2
    have e : a = b := by omega
    rw [e, ih (h1.2.resolve_left (by omega)) (h2.2.resolve_left (by omega))]
noncomputable def NotBel (a b : Str) : Prop := ltCps b.cps.toList a.cps.toList = false
theorem rise_all : ∀ (l : List Str) (p : Str), risingS p l = true → (∀ x ∈ l, NotBel p x) ∧ l.Pairwise NotBel
  | [], _, _ => ⟨fun x h => (by cases h), .nil⟩
  | y :: r, p, h => by
    have h' : (!ltCps y.cps.toList p.cps.toList && risingS y r) = true := h
    rw [Bool.and_eq_true, Bool.not_eq_true'] at h'
    obtain ⟨a, b⟩ := rise_all r y h'.2
    refine ⟨fun x hx => ?_, .cons a b⟩
    rcases List.mem_cons.mp hx with z | z
    · rw [z]; exact h'.1
    · exact lt_tr _ _ _ h'.1 (a x z)
theorem sort_one {zs xs ys : List Str} (p1 : xs.Perm zs) (p2 : ys.Perm zs) (s1 : sortedS xs = true) (s2 : sortedS ys = true) : xs = ys := by
  have pw : ∀ l : List Str, sortedS l = true → l.Pairwise NotBel := fun l h => by
    cases l with
    | nil => exact .nil
    | cons x r => obtain ⟨a, b⟩ := rise_all r x h; exact .cons a b
  refine List.Perm.eq_of_pairwise (le := NotBel) (fun a b _ _ h1 h2 => ?_) (pw _ s1) (pw _ s2) (p1.trans p2.symm)
  have := lt_as _ _ h1 h2
  cases a; cases b
  exact congrArg Str.mk (Array.toList_inj.mp this)
section
variable {prog : Program} {w : World} {A : Around} {E : Value → Shared → Prop} {s : Shared}
theorem collectT {a : Addr} {vs : List Value} {Q : List Value → Shared → Prop} (ht : IsTup s.heap a vs.toArray) (hn : vs.length < 64)
    (q : Q vs { s with heap := (s.heap.push (seqObj "list" #[] 0)).update s.heap.objs.size (Obj.mapSeq (· ++ vs.toArray)) }) : wpAny (model prog w) A (collect (.ref a)) Q E s := by
  obtain ⟨ob, e, ec, m, ed⟩ := id ht
  have e' : (s.heap.push (seqObj "list" #[] 0)).get? a = some ob := Heap.get?_push_of_some _ e
  have sl : vs.length ≤ sizeLine := Nat.le_trans (Nat.le_of_lt hn) (by decide)
  unfold collect; refine wpAny_bind (wpAny_runValue (codeAny_builtin entry_proto_collect' ?_))
  change wpAny _ _ (do again (.builtin "list.__iadd__" ⟨[← newList [], .ref a], []⟩)) _ _ s
  refine wpAny_bind (wpAny_newList (wpAny_pure ⟨Code.quiet_builtin _ (by decide +kernel), codeAny_builtin entry_list_iadd' ?_⟩)); change wpAny _ _ (Builtin.List.listExtendWith (.ref s.heap.objs.size) (.ref a) (.ref s.heap.objs.size)) _ _ { s with heap := s.heap.push (seqObj "list" #[] 0) }
  unfold Builtin.List.listExtendWith; refine wpAny_bind (wpAny_typeOf (T := "tuple") ⟨ob, e', ec⟩ ?_)
  rw [if_pos (by rw [show (Value.type "tuple" == Value.type "tuple") = true by rfl]; simp)]; refine wpAny_bind (listItems_at e' ed ?_)
  refine wpAny_bind (listItems_at (xs := #[]) (n := 0) (Heap.get?_push_size _ rfl) rfl ?_); rw [if_neg (by simp)]
  refine wpAny_bind (listUpdate_at (xs := #[]) (n := 0) (Heap.get?_push_size _ rfl) rfl (wpAny_pure ?_) (Nat.zero_le _) (by show (#[] ++ vs.toArray).size ≤ sizeLine + 1; simp only [Array.size_append, List.size_toArray, List.length_nil]; omega))
  change wpAny (model prog w) A (do
      let ob ← load s.heap.objs.size
      match ob.data with
        | .seq ys _ => pure ys.toList
        | _ => unsupported "internal:collect") Q E { s with heap := (s.heap.push (seqObj "list" #[] 0)).update s.heap.objs.size (Obj.mapSeq (· ++ vs.toArray)) }
  refine wpAny_bind (wpAny_load (get?_update_seq (Heap.get?_push_size _ rfl) _) ?_); change wpAny _ _ (pure ((#[] : Array Value) ++ vs.toArray).toList) Q E _
  rw [show ((#[] : Array Value) ++ vs.toArray).toList = vs by simp]; exact wpAny_pure q
theorem sortT {a : Addr} {vs : List Value} {zs : List Str} {Q : Value → Shared → Prop} (ht : IsTup s.heap a vs.toArray) (hS : StrsAre vs zs) (hn : vs.length < 64)
    (q : ∀ (out : Array Value) (ys : List Str), StrsAre out.toList ys → ys.Perm zs → sortedS ys = true → Q (.ref (s.heap.objs.size + 1)) { s with heap := sortedAll s.heap vs out }) : wpAny (model prog w) A (call (.builtin "sorted") [.ref a]) Q E s := by
  refine Calls.call_function_entry kind_sorted plain_sorted entry_sorted (args_sorted1 _) ?_; unfold Builtin.«sorted»
  refine wpAny_bind (m := checkCount "sorted" 1 1 _) (wpAny_pure (wpAny_bind (collectT ht hn (wpAny_bind (wpAny_newList ?_)))))
  have zz : ((s.heap.push (seqObj "list" #[] 0)).update s.heap.objs.size (Obj.mapSeq (· ++ vs.toArray))).objs.size = s.heap.objs.size + 1 := (Heap.size_update ..).trans (size_push' _ _)
  have eL : (((s.heap.push (seqObj "list" #[] 0)).update s.heap.objs.size (Obj.mapSeq (· ++ vs.toArray))).push (seqObj "list" vs.toArray 0)).get? (s.heap.objs.size + 1) = some (seqObj "list" vs.toArray 0) := zz ▸ Heap.get?_push_size _ rfl
  change wpAny _ _ _ _ _ { s with heap := ((s.heap.push (seqObj "list" #[] 0)).update s.heap.objs.size (Obj.mapSeq (· ++ vs.toArray))).push (seqObj "list" vs.toArray 0) }
  rw [zz]
  refine wpAny_bind (wpAny_holding (wpAny_call_entry slot_list_sort ⟨_, eL, rfl⟩ entry_list_sort (list_sort_treeK strKind_oneLt eL hS.keysOf (fun v₁ v₂ rest e => keyKind_strs (by rw [← e]; exact hS)) hn fun st a1 a2 => ⟨_, rfl, ?_⟩) (args_list_sort _)))
  obtain ⟨ys, b1, b2, b3⟩ := sorted_out_str hS a1 a2
  exact wpAny_pure ⟨_, rfl, q _ ys b1 b2 b3⟩
end
section
variable {X : Cx}
theorem vals_strs : ∀ {zs : List Str} {its : List Value}, Vals (zs.map V.str) its → StrsAre its zs
  | [], _, .nil => .nil
  | z :: zs, _, .cons r t => by
    obtain ⟨tk, rfl⟩ := r
    exact .cons z tk (vals_strs t)
theorem strs_vals : ∀ {zs : List Str} {its : List Value}, StrsAre its zs → Vals (zs.map V.str) its
  | _, _, .nil => .nil
  | _, _, .cons z tk t => .cons ⟨tk, rfl⟩ (strs_vals t)
theorem call_sorted : CallR X (.builtin "sorted") (fun xs H Q => ∃ p zs, xs = [.ref p] ∧ (SqL X.K H p (zs.map V.str) ∨ SqT X.K H p (zs.map V.str)) ∧ zs.length < 64 ∧ ∀ ys : List Str, ys.Perm zs → sortedS ys = true → ∀ l, H l = none → Q (.ref l) (upd H l (.lst (ys.map V.str)))) := by
  intro pins s σ H xs us Q I r h
  obtain ⟨p, zs, rfl, hq, hn, q⟩ := h
  obtain ⟨u, rfl, ru⟩ := vals1 r
  obtain rfl : u = Value.ref p := ru
  have fin : ∀ (its : List Value) (out : Array Value) (ys : List Str), StrsAre out.toList ys → ys.Perm zs → sortedS ys = true → EP X pins σ Q (.ref (s.heap.objs.size + 1)) { s with heap := sortedAll s.heap its out } := fun its out ys a1 a2 a3 => by
    obtain ⟨e, he⟩ := sortedAll_at s.heap its out
    refine ⟨.ref _, _, I.laid (t' := s.toks) (o := .lst (ys.map V.str)) (fun _ _ => sortedAll_old) (Nat.le_succ _) ⟨?_, out.toList, e, strs_vals a1, by rw [he, Array.toArray_toList]⟩, rfl, q ys a2 a3 _ (I.hok.fresh (Nat.le_succ _))⟩
    rw [List.length_map, a2.length_eq]
    exact Nat.le_trans (Nat.le_of_lt hn) (by decide)
  have ln : ∀ its : List Value, Vals (zs.map V.str) its → its.length < 64 := fun its rv => by have := rv.length; rw [List.length_map] at this; omega
  rcases hq with hq | hq
  · obtain ⟨its, rv, pl, _⟩ := I.list hq
    exact sorted_strs pl.isList (vals_strs rv) (ln its rv) (fin its)
  · obtain ⟨its, rv, pl, _⟩ := I.tuple hq
    exact sortT pl (vals_strs rv) (ln its rv) (fin its)
@[reducible] noncomputable def rSort2 : RL2 := fun us M Q => ∃ u zs, us = [u] ∧ ((∃ a, u = .ref a ∧ M a = some (.lst (zs.map U.str))) ∨ u = .tup (zs.map U.str)) ∧ zs.length < 64 ∧ ∀ ys : List Str, ys.Perm zs → sortedS ys = true → ∀ p, M p = none → Q (.ref p) (put M p (.lst (ys.map U.str)))
theorem c_sorted : Call2 X (.builtin "sorted") rSort2 := by
  refine ⟨_, call_sorted, fun us M Q Q' k h => ?_, fun us vs M H Q r rm h => ?_⟩
  · obtain ⟨u, zs, h1, h2, h3, h4⟩ := h
    exact ⟨u, zs, h1, h2, h3, fun ys a b p hp => k _ _ (h4 ys a b p hp)⟩
  · obtain ⟨u, zs, rfl, h2, h3, h4⟩ := h
    · obtain ⟨v, rfl, r1⟩ := r.one
      have fin : ∀ ys : List Str, ys.Perm zs → sortedS ys = true → ∀ l, H l = none → Q (.ref l) (upd H l (.lst (ys.map V.str))) := fun ys a b l hl => by
        have kn := TK.new (K := X.K) (o := .lst (ys.map V.str)) hl
        exact h4 ys a b l (rm.free hl) (.ref l) _ kn (.ref l) (rm.write kn ⟨_, upd_same, RepAll.strs ys⟩)
      rcases h2 with ⟨a, rfl, e⟩ | rfl
      · obtain rfl := r1.refI
        obtain ⟨ys, e4, r⟩ := rm a _ e
        rw [r.strsV] at e4
        exact ⟨a, zs, rfl, .inl (.inl (.inl e4)), h3, fin⟩
      · obtain ⟨a, ys, rfl, sq, ra⟩ := r1.tupI
        rw [ra.strsV] at sq
        exact ⟨_, zs, rfl, .inr sq, h3, fin⟩
inductive KindU (M : Mem) : U → String → Prop
  | non : KindU M .non "NoneType"
  | bl (b : Bool) : KindU M (.bl b) "bool"
  | int (i : Int) : KindU M (.int i) "int"
  | str (z : Str) : KindU M (.str z) "str"
  | tup (xs : List U) : KindU M (.tup xs) "tuple"
  | lst {a : Addr} {xs : List U} : M a = some (.lst xs) → KindU M (.ref a) "list"
  | dct {a : Addr} {kvs : List (Key × U)} : M a = some (.dct kvs) → KindU M (.ref a) "dict"
@[reducible] noncomputable def r_mulL : RR2 := fun x y M Q => ∃ a xs n, x = .ref a ∧ y = .int n ∧ M a = some (.lst xs) ∧ 0 ≤ n ∧ n < 1000 ∧ xs.length ≤ 100 ∧ ∀ p, M p = none → Q (.ref p) (put M p (.lst (List.replicate n.toNat xs).flatten))
theorem RepAll.rept {K : Frag} {H : Hp} {xs : List U} {ys : List V} (r : RepAll K H xs ys) : ∀ n : Nat, RepAll K H (List.replicate n xs).flatten (List.replicate n ys).flatten
  | 0 => .nil
  | n + 1 => by rw [List.replicate_succ, List.replicate_succ, List.flatten_cons, List.flatten_cons]; exact r.app (RepAll.rept r n)
theorem o_mulL : Op2 X (binaryOp .Mult) r_mulL := by
  refine ⟨_, op_rep, fun x y M Q Q' k h => ?_, fun x2 y2 x y M H Q rx ry rm h => ?_⟩
  · obtain ⟨a, xs, n, h1, h2, h3, h4, h5, h6, h7⟩ := h
    exact ⟨a, xs, n, h1, h2, h3, h4, h5, h6, fun p hp => k _ _ (h7 p hp)⟩
  · obtain ⟨a, xs, n, rfl, rfl, h3, h4, h5, h6, h7⟩ := h
    obtain rfl := rx.refI
    obtain rfl := ry.intI
    obtain ⟨ys, e1, r⟩ := rm _ _ h3
    refine ⟨a, n, ys, rfl, rfl, e1, by omega, by omega, ?_, fun p hp => ?_⟩
    · have : ys.length * n.toNat ≤ 100 * 1000 := Nat.mul_le_mul (by rw [← r.len]; exact h6) (by omega)
      exact Nat.le_trans this (by decide)
    · have kn := TK.new (K := X.K) (o := .lst (List.replicate n.toNat ys).flatten) hp
      exact h7 p (rm.free hp) (.ref p) _ kn (.ref p) (rm.write kn ⟨_, upd_same, (r.rept _).up kn⟩)
end
section
variable {X : Cx} {e : Expr} {ta : TE2} {f : Str} {pos : Pos}
@[reducible] noncomputable def qFldE (K : Frag) (ta : TE2) (f : Str) : TE2 := fun σ M Q => ta σ M fun x M1 => ∃ a C fs u, x = .ref a ∧ M1 a = some (.ins C fs) ∧ ErrRd K C f ∧ fs.lookup f = some u ∧ Q u M1
theorem qe_fldE (K : Frag) (he : QE X e ta) (hb : attributeBase e f X.env (eval e X.env) = eval e X.env) (hK : X.K = K := by rfl) : QE X (.Attribute e f pos) (qFldE K ta f) := by
  subst hK
  refine ⟨fun σ M Q Q' k h => he.mo _ _ _ _ (fun u M1 z => ?_) h, peW (pe_fldE he.pe hb) fun σ H Q z0 => exUp z0 fun σ2 M rs rm h => lf he.mo rs rm h fun u M1 v H1 k1 r1 m1 s1 h1 => ?_⟩
  · obtain ⟨a, C, fs, u, e1, e2, e3, e4, q⟩ := z
    exact ⟨a, C, fs, u, e1, e2, e3, e4, k _ _ q⟩
  · obtain ⟨a, C, fs, u, rfl, e2, e3, e4, q⟩ := h1
    obtain rfl := r1.refI
    obtain ⟨dx, gs, e5, r⟩ := m1 a _ e2
    rcases r.look f with ⟨z, _⟩ | ⟨a1, b1, z1, z2, rr⟩
    · rw [e4] at z; cases z
    · rw [e4] at z1; cases z1
      exact ⟨a, C, dx, gs, b1, rfl, e5, e3, z2, q b1 H1 k1 rr m1⟩
end
end L3
set_option maxHeartbeats 1000000
namespace L3
open PySem PySem.Spec PyProof.Rows L2 XC PySem.W
noncomputable def strKey (e : DictEntry) : Bool := match e.key with
  | .str _ _ => true
  | _ => false
noncomputable def nsB (K : Frag) (N : Addr) (name : Str) (r : Option Value) : Bool := match K.lookup N with
  | some ⟨_, _, .dict es _, _⟩ => es.toList.all strKey && (nsFind es name == r)
  | _ => false
theorem nsB_ns {K : Frag} {h : Heap} {N : Addr} {name : Str} {r : Option Value} (X : K.In h) (e : nsB K N name r = true) : ∃ m, h.Ns N m ∧ m name = r := by
  unfold nsB at e
  split at e
  · rename_i c d es ep sl q
    rw [Bool.and_eq_true, List.all_eq_true] at e
    refine ⟨nsFind es, ⟨_, es, ep, X _ _ q, rfl, fun x hx => ?_, fun _ => rfl⟩, eq_of_beq e.2⟩
    have := e.1 x (Array.mem_def.mp hx)
    unfold strKey at this
    split at this
    · exact ⟨_, _, by assumption⟩
    · cases this
  · cases e
noncomputable def errB (K : Frag) (C : Addr) (F : Str) : Bool :=
  findIn K (.ref C) "__setattr__" == some (some (.builtin "object.__setattr__")) && (findIn K (.ref C) F == some none && (findIn K (.ref C) "__getattribute__" == some (some (.builtin "BaseException.__getattribute__")) && (findIn K (.ref C) "__getattr__" == some none && (hasDictIn K C && (mroIn K C (.type "BaseException") == some true && (mroIn K C (.type "object") == some true && (findIn K (.ref C) "__class__" == some (some (.builtin "object.__class__")) && (specialIn K (.builtin "object.__class__") "__get__" == some (some (.builtin "getset_descriptor.__get__")) && (takesIn K (.builtin "object.__class__") == some true && keepIn K (.ref C))))))))))
section
variable {K : Frag} {C f D N : Addr} {nm q F : Str} {bs : List Value} {sn : List Str} {sub : List Value} {ab : Bool} {col : Option Bool} {dd dd0 df : Option Addr} {k0 k1 k2 k3 k5 : Option Value} {c0 : Value} {cd0 : ClassData} {sl0 sf : Array (Option Value)} {ff : Data}
theorem errK_of (lc : K.lookup C = some (excClassObj nm q C N bs (.ref D :: veB) true sn sub ab col dd k0 k1 k2 k3 k5 "ValueError.__new__")) (n1 : nsB K N "__init__" (some (.ref f)) = true)
    (lD : K.lookup D = some ⟨c0, dd0, .cls cd0, sl0⟩) (n2 : nsB K cd0.ns "__init__" none = true) (lf : K.lookup f = some ⟨.type "function", df, ff, sf⟩) (e : errB K C F = true) : ErrK K C f F := by
  unfold errB at e
  simp only [Bool.and_eq_true, beq_iff_eq] at e
  obtain ⟨e1, e2, e3, e4, e5, e6, e7, e8, e9, e10, e11⟩ := e
  refine ⟨fun h X => ?_, ⟨e1, e2, _, D, by unfold clsIn; rw [lc], rfl, rfl⟩, ⟨e3, e4, e2, e5, e6⟩, ⟨e3, e4, e5, e6, e7, e8, e9, e10⟩, e11⟩
  obtain ⟨mN, hN, z1⟩ := nsB_ns X n1
  obtain ⟨mD, hD, z2⟩ := nsB_ns X n2
  exact ⟨nm, q, N, bs, _, true, sn, sub, ab, col, dd, k0, k1, k2, k3, k5, mN, _, X _ _ lc, hN, z1, .own (X _ _ lD) hD z2 .base, X _ _ lf, rfl⟩
end
noncomputable def valsB : List Str → List Value → Bool
  | [], [] => true
  | z :: zs, v :: vs => v.isStr z && valsB zs vs
  | _, _ => false
theorem isStr_of {v : Value} {z : Str} (h : v.isStr z = true) : ∃ t, v = .str z t := by
  unfold Value.isStr at h
  split at h
  · rw [eq_of_beq h]; exact ⟨_, rfl⟩
  · cases h
theorem vals_of : ∀ (zs : List Str) (vs : List Value), valsB zs vs = true → Vals (zs.map V.str) vs
  | [], [], _ => .nil
  | z :: zs, v :: vs, h => by
    have h' : (v.isStr z && valsB zs vs) = true := h
    rw [Bool.and_eq_true] at h'
    exact .cons (isStr_of h'.1) (vals_of zs vs h'.2)
  | [], _ :: _, h => by cases h
  | _ :: _, [], h => by cases h
theorem sqT_of {K : Frag} {a : Addr} {d : Option Addr} {its : Array Value} {n : Nat} {sl : Array (Option Value)} {zs : List Str} (l : K.lookup a = some ⟨.type "tuple", d, .seq its n, sl⟩) (e : valsB zs its.toList = true) (hz : zs.length ≤ 1000) : ∀ H, SqT K H a (zs.map V.str) := fun H => by
  have v := vals_of zs _ e
  refine .inr ⟨_, its, n, l, rfl, rfl, ?_, v⟩
  have h1 := v.length
  rw [List.length_map] at h1
  have h2 : its.toList.length = its.size := Array.length_toList
  have h3 : zs.length ≤ sizeLine := Nat.le_trans hz (by decide)
  omega
theorem boot_VE : bootBuiltins "ValueError" = some (.type "ValueError") := by decide +kernel
end L3
set_option maxHeartbeats 1000000
namespace L3
open PySem PySem.Spec PyProof.Rows L2 XC
section
variable {X : Cx}
@[reducible] noncomputable def sI0 (g : Int → Int → U) : RR2 := fun x y M Q => match x, y with
  | .int i, .int j => Q (g i j) M
  | _, _ => False
@[reducible] noncomputable def sI1 (C : Int → Int → Prop) (g : Int → Int → U) : RR2 := fun x y M Q => match x, y with
  | .int i, .int j => C i j ∧ Q (g i j) M
  | _, _ => False
theorem sI0_mo (g : Int → Int → U) : ∀ x y M Q Q', (∀ u M', Q u M' → Q' u M') → sI0 g x y M Q → sI0 g x y M Q' := by
  intro x y M Q Q' k h
  cases x <;> first | exact h.elim | (cases y <;> first | exact h.elim | exact k _ _ h)
theorem sI1_mo (C : Int → Int → Prop) (g : Int → Int → U) : ∀ x y M Q Q', (∀ u M', Q u M' → Q' u M') → sI1 C g x y M Q → sI1 C g x y M Q' := by
  intro x y M Q Q' k h
  cases x <;> first | exact h.elim | (cases y <;> first | exact h.elim | exact ⟨h.1, k _ _ h.2⟩)
theorem sI1_pu (C : Int → Int → Prop) (g : Int → Int → U) : PuO (sI1 C g) := by
  intro x y M M' Q h
  cases x <;> first | exact h.elim | (cases y <;> first | exact h.elim | exact ⟨h.1, rfl, h.2⟩)
theorem sI0_rf {K : Frag} {g : Int → Int → U} {gv : Int → Int → V} (hg : ∀ i j H, Rep K H (g i j) (gv i j)) : RefO K (rI0 gv) (sI0 g) := by
  refine ⟨sI0_mo g, fun x2 y2 x y M H Q rx ry rm h => ?_⟩
  cases rx with
  | int i =>
    cases ry with
    | int j => exact ⟨i, j, rfl, rfl, (show up K H Q _ M from h) _ H .refl (hg i j H) rm⟩
    | _ => exact h.elim
  | _ => exact h.elim
theorem sI1_rf {K : Frag} {C : Int → Int → Prop} {g : Int → Int → U} {gv : Int → Int → V} (hg : ∀ i j H, Rep K H (g i j) (gv i j)) : RefO K (rI C gv) (sI1 C g) := by
  refine ⟨sI1_mo C g, fun x2 y2 x y M H Q rx ry rm h => ?_⟩
  cases rx with
  | int i =>
    cases ry with
    | int j => exact ⟨i, j, rfl, rfl, h.1, h.2 _ H .refl (hg i j H) rm⟩
    | _ => exact h.elim
  | _ => exact h.elim
theorem so_lt : Op2 X (compareOp .Lt) r_lt := ⟨_, op_lt, sI0_rf (g := fun i j => .bl (decide (i < j))) fun _ _ _ => .bl _⟩
theorem so_le : Op2 X (compareOp .LtE) r_le := ⟨_, op_le, sI0_rf (g := fun i j => .bl (decide (i ≤ j))) fun _ _ _ => .bl _⟩
theorem so_gt : Op2 X (compareOp .Gt) r_gt := ⟨_, op_gt, sI0_rf (g := fun i j => .bl (decide (j < i))) fun _ _ _ => .bl _⟩
theorem so_fdiv : Op2 X (binaryOp .FloorDiv) r_fdiv := ⟨_, op_fdiv, sI1_rf (g := fun i j => .int (i / j)) fun _ _ _ => .int _⟩
theorem so_mod : Op2 X (binaryOp .Mod) r_mod := ⟨_, op_mod, sI1_rf (g := fun i j => .int (i % j)) fun _ _ _ => .int _⟩
theorem so_mul : Op2 X (binaryOp .Mult) r_mulI := ⟨_, op_mulC, sI1_rf (g := fun i j => .int (i * j)) fun _ _ _ => .int _⟩
theorem so_mod_pu : PuO r_mod := sI1_pu (fun _ j => 0 < j) fun i j => .int (i % j)
theorem so_fdiv_pu : PuO r_fdiv := sI1_pu CDiv fun i j => .int (i / j)
theorem si_add : Ip2 X .Add r_addI := by
  refine ⟨_, ip_addU, sI0_mo (fun i j => .int (i + j)), fun x2 y2 x y M H Q rx ry rm h => ?_⟩
  exact .inl ((sI0_rf (K := X.K) (g := fun i j => .int (i + j)) (gv := fun i j => .int (i + j)) fun _ _ _ => .int _).rf x2 y2 x y M H Q rx ry rm h)
@[reducible] noncomputable def sNeg : U → Mem → UK → Prop := fun x M Q => match x with
  | .int i => Q (.int (-i)) M
  | _ => False
theorem su_neg : Un2 X (unaryOp .USub) sNeg := by
  refine ⟨_, un_neg, fun x M Q Q' k h => ?_, fun x2 x M H Q rx rm h => ?_⟩
  · cases x <;> first | exact h.elim | exact k _ _ h
  · cases rx with
    | int i => exact ⟨i, rfl, (show up X.K H Q _ M from h) _ H .refl (.int _) rm⟩
    | _ => exact h.elim
theorem so_addI : Op2 X (binaryOp .Add) r_addI := ⟨_, op_add, sI0_rf (g := fun i j => .int (i + j)) fun _ _ _ => .int _⟩
noncomputable def sAddS : RR2 := fun x y M Q => ∃ a b, x = .str a ∧ y = .str b ∧ a.length + b.length ≤ sizeLine ∧ Q (.str (a ++ b)) M
theorem so_addS : Op2 X (binaryOp .Add) sAddS := by
  refine ⟨_, op_add_str, fun x y M Q Q' k h => ?_, fun x2 y2 x y M H Q rx ry rm h => ?_⟩
  · obtain ⟨a, b, h1, h2, h3, h4⟩ := h; exact ⟨a, b, h1, h2, h3, k _ _ h4⟩
  · obtain ⟨a, b, rfl, rfl, h3, h4⟩ := h
    obtain rfl := rx.strI
    obtain rfl := ry.strI
    exact ⟨a, b, rfl, rfl, h3, h4 _ H .refl (.str _) rm⟩
noncomputable def sAddL : RR2 := fun x y M Q => ∃ a b xs ys, x = .ref a ∧ y = .ref b ∧ M a = some (.lst xs) ∧ M b = some (.lst ys) ∧ xs.length + ys.length ≤ sizeLine ∧ ∀ p, M p = none → Q (.ref p) (put M p (.lst (xs ++ ys)))
theorem so_addL : Op2 X (binaryOp .Add) sAddL := by
  refine ⟨_, op_cat, fun x y M Q Q' k h => ?_, fun x2 y2 x y M H Q rx ry rm h => ?_⟩
  · obtain ⟨a, b, xs, ys, h1, h2, h3, h4, h5, h6⟩ := h; exact ⟨a, b, xs, ys, h1, h2, h3, h4, h5, fun p hp => k _ _ (h6 p hp)⟩
  · obtain ⟨a, b, xs, ys, rfl, rfl, e1, e2, n, q⟩ := h
    obtain rfl := rx.refI
    obtain rfl := ry.refI
    obtain ⟨x1, h1, r1⟩ := rm a _ e1
    obtain ⟨y1, h2, r2⟩ := rm b _ e2
    refine ⟨a, b, x1, y1, rfl, rfl, h1, h2, by rw [← r1.len, ← r2.len]; exact n, fun p hp => ?_⟩
    have kn := TK.new (K := X.K) (o := .lst (x1 ++ y1)) hp
    exact q p (rm.free hp) (.ref p) _ kn (.ref p) (rm.write kn ⟨_, upd_same, (r1.app r2).up kn⟩)
noncomputable def sMulS : RR2 := fun x y M Q => ∃ z n, x = .str z ∧ y = .int n ∧ -(2 ^ 63) ≤ n ∧ n < 2 ^ 63 ∧ z.length * n.toNat ≤ sizeLine ∧ Q (.str (repS z n.toNat)) M
theorem so_mulS : Op2 X (binaryOp .Mult) sMulS := by
  refine ⟨_, op_repS, fun x y M Q Q' k h => ?_, fun x2 y2 x y M H Q rx ry rm h => ?_⟩
  · obtain ⟨z, n, h1, h2, h3, h4, h5, h6⟩ := h; exact ⟨z, n, h1, h2, h3, h4, h5, k _ _ h6⟩
  · obtain ⟨z, n, rfl, rfl, h3, h4, h5, h6⟩ := h
    obtain rfl := rx.strI
    obtain rfl := ry.intI
    exact ⟨z, n, rfl, rfl, h3, h4, h5, h6 _ H .refl (.str _) rm⟩
@[reducible] noncomputable def sSc : U → U → Option Bool
  | .int i, .int j => some (decide (i = j))
  | .str i, .str j => some (decide (i = j))
  | .bl i, .bl j => some (decide (i = j))
  | _, _ => none
theorem sSc_ok {K : Frag} {H : Hp} {x2 y2 : U} {x y : V} {b : Bool} (rx : Rep K H x2 x) (ry : Rep K H y2 y) (h : sSc x2 y2 = some b) : scal x y = true ∧ decide (x = y) = b := by
  cases rx with
  | int i => cases ry <;> first | (injection h with h'; subst h'; exact ⟨rfl, by simp⟩) | exact (Option.some_ne_none b h.symm).elim
  | str i => cases ry <;> first | (injection h with h'; subst h'; exact ⟨rfl, by simp⟩) | exact (Option.some_ne_none b h.symm).elim
  | bl i => cases ry <;> first | (injection h with h'; subst h'; exact ⟨rfl, by simp⟩) | exact (Option.some_ne_none b h.symm).elim
  | _ => exact (Option.some_ne_none b h.symm).elim
@[reducible] noncomputable def sEq2 : RR2 := fun x y M Q => oS (sSc x y) (∃ da db, Dat M x da ∧ Dat M y db ∧ min da.depth db.depth ≤ 60 ∧ Q (.bl (PyData.eqv da db)) M) fun b => Q (.bl b) M
@[reducible] noncomputable def sNe2 : RR2 := fun x y M Q => oS (sSc x y) (∃ da db, Dat M x da ∧ Dat M y db ∧ min da.depth db.depth ≤ 60 ∧ Q (.bl (!PyData.eqv da db)) M) fun b => Q (.bl (!b)) M
noncomputable def sEqF (f : Bool → Bool) : RR2 := fun x y M Q => oS (sSc x y) (∃ da db, Dat M x da ∧ Dat M y db ∧ min da.depth db.depth ≤ 60 ∧ Q (.bl (f (PyData.eqv da db))) M) fun b => Q (.bl (f b)) M
theorem sEqF_rf {K : Frag} (f : Bool → Bool) : RefO K (fun x y H Q => (scal x y = true ∧ Q (.bl (f (decide (x = y)))) H) ∨ ∃ da db, Lies K H x da ∧ Lies K H y db ∧ min da.depth db.depth ≤ 60 ∧ Q (.bl (f (PyData.eqv da db))) H) (sEqF f) := by
  refine ⟨fun x y M Q Q' k h => ?_, fun x2 y2 x y M H Q rx ry rm h => ?_⟩
  · unfold sEqF at h ⊢
    cases e : sSc x y with
    | none => rw [e] at h; obtain ⟨da, db, h1, h2, n, q⟩ := h; exact ⟨da, db, h1, h2, n, k _ _ q⟩
    | some b => rw [e] at h; exact k _ _ h
  · unfold sEqF at h
    cases e : sSc x2 y2 with
    | none =>
      rw [e] at h
      obtain ⟨da, db, h1, h2, n, q⟩ := h
      exact .inr ⟨da, db, h1.lies rm rx, h2.lies rm ry, n, q _ H .refl (.bl _) rm⟩
    | some b =>
      rw [e] at h
      obtain ⟨s, d⟩ := sSc_ok rx ry e
      exact .inl ⟨s, by rw [d]; exact (show up K H Q _ M from h) _ H .refl (.bl _) rm⟩
theorem so_eq (hu : X.A.units + 64 < cLine) : Op2 X (compareOp .Eq) sEq2 := ⟨_, op_eqU hu, sEqF_rf fun b => b⟩
theorem so_ne (hu : X.A.units + 64 < cLine) : Op2 X (compareOp .NotEq) sNe2 := ⟨_, op_neU hu, sEqF_rf fun b => !b⟩
noncomputable def sIxS : RR2 := fun x y M Q => ∃ z i, x = .str z ∧ y = .int i ∧ z.length ≤ sizeLine ∧ oE (atI z.cps.toList i) fun c => Q (.str ⟨#[c]⟩) M
theorem sx_str : Ix2 X sIxS := by
  refine ⟨_, ix_seq, fun x y M Q Q' k h => ?_, fun x2 y2 x y M H Q rx ry rm h => ?_⟩
  · obtain ⟨z, i, h1, h2, h3, h4⟩ := h; exact ⟨z, i, h1, h2, h3, oE_mono (fun u => k _ _) h4⟩
  · obtain ⟨z, i, rfl, rfl, h3, h4⟩ := h
    obtain rfl := rx.strI
    obtain rfl := ry.intI
    obtain ⟨c, e, q⟩ := oE_inv h4
    exact .inr (.inr ⟨z, i, c, rfl, rfl, h3, e, q _ H .refl (.str _) rm⟩)
noncomputable def sIxF : RR2 := fun x y M Q => ∃ xs i, x = .fl xs ∧ y = .int i ∧ oE (atI xs i) fun u => Q u M
theorem sx_fl : Ix2 X sIxF := by
  refine ⟨_, ix_seq, fun x y M Q Q' k h => ?_, fun x2 y2 x y M H Q rx ry rm h => ?_⟩
  · obtain ⟨z, i, h1, h2, h4⟩ := h; exact ⟨z, i, h1, h2, oE_mono (fun u => k _ _) h4⟩
  · obtain ⟨xs, i, rfl, rfl, h4⟩ := h
    obtain rfl := ry.intI
    obtain ⟨a, ys, rfl, s, r⟩ := rx.flI
    obtain ⟨u, e, q⟩ := oE_inv h4
    obtain ⟨v, e2, rv⟩ := r.atI e
    exact .inl ⟨_, _, i, v, rfl, rfl, s.sq, e2, q v H .refl rv rm⟩
noncomputable def sIxR : RR2 := fun x y M Q => ∃ xs i, (x = .tup xs ∨ ∃ a, x = .ref a ∧ M a = some (.lst xs)) ∧ y = .int i ∧ oE (atI xs i) fun u => Q u M
theorem sx_ref : Ix2 X sIxR := by
  refine ⟨_, ix_seq, fun x y M Q Q' k h => ?_, fun x2 y2 x y M H Q rx ry rm h => ?_⟩
  · obtain ⟨xs, i, h1, h2, h3⟩ := h; exact ⟨xs, i, h1, h2, oE_mono (fun u => k _ _) h3⟩
  · obtain ⟨xs, i, h1, rfl, h3⟩ := h
    obtain rfl := ry.intI
    obtain ⟨u, e, q⟩ := oE_inv h3
    rcases h1 with rfl | ⟨a, rfl, e0⟩
    · obtain ⟨a, ys, rfl, s, r⟩ := rx.tupI
      obtain ⟨v, e2, rv⟩ := r.atI e
      exact .inr (.inl ⟨_, _, i, v, rfl, rfl, s, e2, q v H .refl rv rm⟩)
    · obtain rfl := rx.refI
      obtain ⟨ys, e1, r⟩ := rm a _ e0
      obtain ⟨v, e2, rv⟩ := r.atI e
      exact .inl ⟨_, _, i, v, rfl, rfl, .inl (.inl e1), e2, q v H .refl rv rm⟩
@[reducible] noncomputable def sIxN (ta : TE2) (n : Nat) : TE2 := fun σ M Q => ta σ M fun x M1 => match x with
  | .tup xs => vE (nth xs n) fun u => Q u M1
  | .ref a => ∃ xs, M1 a = some (.lst xs) ∧ oE (xs[n]?) fun u => Q u M1
  | _ => False
theorem sq_ixN {a : Expr} {ta : TE2} {n : Nat} {i : Int} {j pos pos'} (ha : QE X a ta) (hs : PlainIx (.Constant (.int i) j pos')) (hn : i = (n : Int) := by rfl) : QE X (.Subscript a (.Constant (.int i) j pos') pos) (sIxN ta n) := by
  subst hn
  have q := qe_ix (pos := pos) sx_ref ha (qe_int (i := (n : Int)) (j := j) (pos := pos')) hs
  refine ⟨fun σ M Q Q' k h => ha.mo _ _ _ _ (fun u M1 z => ?_) h, peW q.pe fun σ H Q z0 => exUp z0 fun σ2 M rs rm h => ⟨σ2, M, rs, rm, ha.mo _ _ _ _ (fun u M1 z => ?_) h⟩⟩
  · cases u with
    | tup xs => exact vE_mono (fun u => k _ _) z
    | ref a => obtain ⟨xs, e, q⟩ := z; exact ⟨xs, e, oE_mono (fun u => k _ _) q⟩
    | _ => exact z.elim
  · cases u with
    | tup xs => obtain ⟨v, e, q⟩ := vE_inv z; rw [nth_eq] at e; exact ⟨xs, n, .inl rfl, rfl, oE_some (atI_nat e) q⟩
    | ref a => obtain ⟨xs, e0, z⟩ := z; obtain ⟨v, e, q⟩ := oE_inv z; exact ⟨xs, n, .inr ⟨a, rfl, e0⟩, rfl, oE_some (atI_nat e) q⟩
    | _ => exact z.elim
noncomputable def sSet : RSet2 := fun o i v M Q => ∃ a k xs j, o = .ref a ∧ i = .int k ∧ M a = some (.lst xs) ∧ ixN xs.length k = some j ∧ Q (put M a (.lst (xs.set j v)))
theorem ss_set : Set2 X sSet := by
  refine ⟨_, set_list, fun o i v M Q Q' k h => ?_, fun o2 i2 v2 o i v M H Q ro ri rv rm h => ?_⟩
  · obtain ⟨a, n, xs, j, e1, e2, e3, e4, q⟩ := h; exact ⟨a, n, xs, j, e1, e2, e3, e4, k _ q⟩
  · obtain ⟨a, n, xs, j, rfl, rfl, e1, e2, q⟩ := h
    obtain rfl := ro.refI
    obtain rfl := ri.intI
    obtain ⟨ys, h1, r⟩ := rm a _ e1
    have kw := lstTK (K := X.K) (zs := ys.set j v) h1
    exact ⟨a, ys, n, j, rfl, rfl, h1, by rw [← r.len]; exact e2, q _ kw (rm.write kw ⟨_, upd_same, (r.up kw).set (rv.up kw) j⟩)⟩
@[reducible] noncomputable def sSl : RS2 := fun x lo hi M Q => match x with
  | .str z => z.length ≤ sizeLine ∧ Q (.str (cutS z lo hi)) M
  | .fl xs => ∀ p, M p = none → Q (.ref p) (put M p (.lst (cutU xs lo hi)))
  | _ => False
theorem sl_sl : Sl2 X sSl := by
  refine ⟨_, sl_str.or sl_list, fun x lo hi M Q Q' k h => ?_, fun x2 x lo hi M H Q rx rm h => ?_⟩
  · cases x with
    | str z => exact ⟨h.1, k _ _ h.2⟩
    | fl xs => exact fun p hp => k _ _ (h p hp)
    | _ => exact h.elim
  · cases rx with
    | str z => exact .inl ⟨z, rfl, h.1, h.2 _ H .refl (.str _) rm⟩
    | fl s r =>
      rename_i _ _ ys
      refine .inr ⟨_, _, rfl, s.sq, fun p hp => ?_⟩
      have kn := TK.new (K := X.K) (o := .lst (cutV ys lo hi)) hp
      exact h p (rm.free hp) (.ref p) _ kn (.ref p) (rm.write kn ⟨_, upd_same, (r.cut lo hi).up kn⟩)
    | _ => exact h.elim
noncomputable def sLen : RL2 := fun us M Q => ∃ u n, us = [u] ∧ ((∃ z, u = .str z ∧ z.length ≤ sizeLine ∧ n = z.length) ∨ ∃ xs, u = .fl xs ∧ n = xs.length) ∧ Q (.int (n : Nat)) M
theorem sc_len : Call2 X (.builtin "len") sLen := by
  refine ⟨_, call_lenU, fun us M Q Q' k h => ?_, fun us vs M H Q r rm h => ?_⟩
  · obtain ⟨u, n, h1, h2, h3⟩ := h; exact ⟨u, n, h1, h2, k _ _ h3⟩
  · obtain ⟨u, n, rfl, h2, h3⟩ := h
    · obtain ⟨v, rfl, r1⟩ := r.one
      have q := h3 _ H .refl (.int _) rm
      rcases h2 with ⟨z, rfl, h4, rfl⟩ | ⟨xs, rfl, rfl⟩
      · obtain rfl := r1.strI; exact ⟨_, _, rfl, ⟨h4, rfl⟩, q⟩
      · obtain ⟨a, ys, rfl, s, r⟩ := r1.flI
        exact ⟨_, _, rfl, .inl ⟨_, s.sq, rfl⟩, by rw [← r.len]; exact q⟩
noncomputable def sStr : RL2 := fun us M Q => ∃ i : Int, us = [.int i] ∧ i.natAbs.log2 < 1920 ∧ Q (.str (toString i)) M
theorem sc_str : Call2 X (.type "str") sStr := by
  refine ⟨_, call_str_int, fun us M Q Q' k h => ?_, fun us vs M H Q r rm h => ?_⟩
  · obtain ⟨i, h1, h2, h3⟩ := h; exact ⟨i, h1, h2, k _ _ h3⟩
  · obtain ⟨i, rfl, h2, h3⟩ := h
    obtain ⟨v, rfl, r1⟩ := r.one
    obtain rfl := r1.intI
    exact ⟨i, rfl, h2, h3 _ H .refl (.str _) rm⟩
noncomputable def sAll : RL2 := fun us M Q => ∃ a bs, us = [.ref a] ∧ M a = some (.lst (List.map U.bl bs)) ∧ Q (.bl (bs.all id)) M
theorem sc_all (hc : X.calm = true) : Call2 X (.builtin "all") sAll := by
  refine ⟨_, call_allB hc, fun us M Q Q' k h => ?_, fun us vs M H Q r rm h => ?_⟩
  · obtain ⟨a, bs, h1, h2, h3⟩ := h; exact ⟨a, bs, h1, h2, k _ _ h3⟩
  · obtain ⟨a, bs, rfl, h2, h3⟩ := h
    · obtain ⟨v, rfl, r1⟩ := r.one
      obtain rfl := r1.refI
      obtain ⟨ys, e1, r⟩ := rm a _ h2
      rw [r.bls_of] at e1
      exact ⟨a, bs, rfl, .inl (.inl e1), h3 _ H .refl (.bl _) rm⟩
noncomputable def sJoin : RM2 := fun x xs M Q => ∃ z a zs, x = .str z ∧ xs = [.ref a] ∧ M a = some (.lst (List.map U.str zs)) ∧ JoinOk z zs = true ∧ Q (.str (Txt.join z zs)) M
theorem sm_join : Mr2 X "str.join" sJoin := by
  refine ⟨_, mt_join, fun x xs M Q Q' k h => ?_, fun x2 xs2 x xs M H Q rx rxs rm h => ?_⟩
  · obtain ⟨z, a, zs, h1, h2, h3, h4, h5⟩ := h; exact ⟨z, a, zs, h1, h2, h3, h4, k _ _ h5⟩
  · obtain ⟨z, a, zs, rfl, rfl, h3, h4, h5⟩ := h
    obtain rfl := rx.strI
    · obtain ⟨v, rfl, r1⟩ := rxs.one
      obtain rfl := r1.refI
      obtain ⟨ys, e4, r⟩ := rm a _ h3
      rw [r.strsV] at e4
      exact ⟨z, a, zs, rfl, rfl, e4, h4, h5 _ H .refl (.str _) rm⟩
noncomputable def sApp : RM2 := fun x xs M Q => ∃ a y ys, x = .ref a ∧ xs = [y] ∧ M a = some (.lst ys) ∧ ys.length < sizeLine ∧ Q .non (put M a (.lst (ys ++ [y])))
theorem sm_append : Mr2 X "list.append" sApp := by
  refine ⟨rAppend, mt_append, fun x xs M Q Q' k h => ?_, fun x2 xs2 x xs M H Q rx rxs rm h => ?_⟩
  · obtain ⟨a, y, ys, h1, h2, h3, h4, h5⟩ := h; exact ⟨a, y, ys, h1, h2, h3, h4, k _ _ h5⟩
  · obtain ⟨a, y, ys, rfl, rfl, e, n, q⟩ := h
    obtain rfl := rx.refI
    · obtain ⟨v, rfl, ry⟩ := rxs.one
      obtain ⟨zs, e2, r⟩ := rm a _ e
      have kw := lstTK (K := X.K) (zs := zs ++ [v]) e2
      exact ⟨a, zs, _, rfl, rfl, e2, by rw [← r.len]; exact n, q .non _ kw .non (rm.write kw ⟨_, upd_same, (r.up kw).app (.cons (ry.up kw) .nil)⟩)⟩
noncomputable def sIn (neg : Bool) : RR2 := fun x y M Q => ∃ z zs, x = .str z ∧ (y = .tup (List.map U.str zs) ∨ ∃ a, y = .ref a ∧ M a = some (.lst (List.map U.str zs))) ∧ Q (.bl (if neg then !decide (z ∈ zs) else decide (z ∈ zs))) M
theorem sIn_rf {K : Frag} (neg : Bool) (x2 y2 : U) (x y : V) (M : Mem) (H : Hp) (Q : VK) (rx : Rep K H x2 x) (ry : Rep K H y2 y) (rm : RepM K H M) (h : sIn neg x2 y2 M (up K H Q)) : rIn K neg x y H Q := by
  obtain ⟨z, zs, rfl, h2, h3⟩ := h
  obtain rfl := rx.strI
  have fin : Q (.bl (if neg then !inV (.str z) (zs.map V.str) else inV (.str z) (zs.map V.str))) H := by rw [inV_strs]; exact h3 _ H .refl (.bl _) rm
  rcases h2 with rfl | ⟨a, rfl, e⟩
  · obtain ⟨a, ys, rfl, s, r⟩ := ry.tupI
    rw [r.strsV] at s
    exact ⟨_, _, rfl, .inr s, rfl, flat_strs zs, fin⟩
  · obtain rfl := ry.refI
    obtain ⟨ys, e1, r⟩ := rm a _ e
    rw [r.strsV] at e1
    exact ⟨_, _, rfl, .inl (.inl (.inl e1)), rfl, flat_strs zs, fin⟩
theorem sIn_mo (neg : Bool) : ∀ x y M Q Q', (∀ u M', Q u M' → Q' u M') → sIn neg x y M Q → sIn neg x y M Q' := by
  intro x y M Q Q' k h
  obtain ⟨z, zs, h1, h2, h3⟩ := h; exact ⟨z, zs, h1, h2, k _ _ h3⟩
theorem so_in : Op2 X (compareOp .In) (sIn false) := ⟨_, op_in_seq, sIn_mo false, sIn_rf false⟩
theorem so_nin : Op2 X (compareOp .NotIn) (sIn true) := ⟨_, op_notIn_seq, sIn_mo true, sIn_rf true⟩
inductive KdV (K : Frag) (H : Hp) : V → String → Prop
  | non : KdV K H .non "NoneType"
  | bl (b : Bool) : KdV K H (.bl b) "bool"
  | int (i : Int) : KdV K H (.int i) "int"
  | str (z : Str) : KdV K H (.str z) "str"
  | tup {a : Addr} {xs : List V} : SqT K H a xs → KdV K H (.ref a) "tuple"
  | lst {a : Addr} {xs : List V} : SqL K H a xs → KdV K H (.ref a) "list"
  | dct {a : Addr} {kvs : List (Key × V)} : H a = some (.dK kvs) → KdV K H (.ref a) "dict"
theorem call_isiA : CallR X (.builtin "isinstance") (fun xs H Q => ∃ v n t b, xs = [v, .ty n] ∧ KdV X.K H v t ∧ PySem.W.kitOne X.K (.type t) (.type n) = some b ∧ Q (.bl b) H) := by
  intro pins s σ H xs us Q I r h
  obtain ⟨v, n, t, b, rfl, kd, e, q⟩ := h
  obtain ⟨u, w', rfl, ru, rw'⟩ := r.two
  obtain rfl : w' = Value.type n := rw'
  have fin : ∀ tk, EP X pins σ Q (.bool b) { s with toks := tk } := fun tk => ⟨.bl b, H, I.tok tk, rfl, q⟩
  have nm : ∀ {x : Value}, x = .type n → True := fun _ => trivial
  cases kd with
  | non => cases ru; exact PySem.W.kia_one PySem.W.kitx_none I.kIn trivial e (fun z => nomatch z) fin
  | bl c => cases ru; exact PySem.W.kia_one PySem.W.kitx_bool I.kIn trivial e (fun z => nomatch z) fin
  | int i => obtain ⟨tk, rfl⟩ := ru; exact PySem.W.kia_one PySem.W.kitx_int I.kIn trivial e (fun z => nomatch z) fin
  | str i => obtain ⟨tk, rfl⟩ := ru; exact PySem.W.kia_one PySem.W.kitx_str I.kIn trivial e (fun z => nomatch z) fin
  | tup hq =>
    cases ru
    obtain ⟨its, rv, ⟨o, h1, h2, _⟩, _⟩ := I.tuple hq
    exact PySem.W.kia_one PySem.W.kitx_tuple I.kIn ⟨o, h1, h2⟩ e (fun z => nomatch z) fin
  | lst hq =>
    cases ru
    obtain ⟨its, rv, ⟨o, n', h1, h2, _⟩, _⟩ := I.list hq
    exact PySem.W.kia_one PySem.W.kitx_list I.kIn ⟨o, h1, h2⟩ e (fun z => nomatch z) fin
  | dct hd =>
    cases ru
    obtain ⟨_, _, vs, _, o, es, ep, h1, h2, _⟩ := I.hok _ _ hd
    exact PySem.W.kia_one PySem.W.kitx_dict I.kIn ⟨o, h1, h2.1⟩ e (fun z => nomatch z) fin
theorem KindU.v {K : Frag} {H : Hp} {M : Mem} {u : U} {v : V} {t : String} (h : KindU M u t) (r : Rep K H u v) (rm : RepM K H M) : KdV K H v t := by
  cases h with
  | non => obtain rfl := r.nonI; exact .non
  | bl b => obtain rfl := r.blI; exact .bl b
  | int b => obtain rfl := r.intI; exact .int b
  | str b => obtain rfl := r.strI; exact .str b
  | tup xs => obtain ⟨a, ys, rfl, s, _⟩ := r.tupI; exact .tup s
  | lst e => obtain rfl := r.refI; obtain ⟨ys, e1, _⟩ := rm _ _ e; exact .lst (.inl (.inl e1))
  | dct e => obtain rfl := r.refI; obtain ⟨ys, e1, _⟩ := rm _ _ e; exact .dct e1
noncomputable def sIsi (K : Frag) : RL2 := fun us M Q => ∃ u n t b, us = [u, .ty n] ∧ KindU M u t ∧ PySem.W.kitOne K (.type t) (.type n) = some b ∧ Q (.bl b) M
theorem sc_isi (K : Frag) (hK : X.K = K := by rfl) : Call2 X (.builtin "isinstance") (sIsi K) := by
  subst hK
  refine ⟨_, call_isiA, fun us M Q Q' k h => ?_, fun us vs M H Q r rm h => ?_⟩
  · obtain ⟨u, n, t, b, h1, h2, h3, h4⟩ := h; exact ⟨u, n, t, b, h1, h2, h3, k _ _ h4⟩
  · obtain ⟨u, n, t, b, rfl, h2, h3, h4⟩ := h
    · obtain ⟨x, y, rfl, r1, r2⟩ := r.two
      · obtain rfl := r2.tyI
        exact ⟨_, n, t, b, rfl, h2.v r1 rm, h3, h4 _ H .refl (.bl _) rm⟩
variable {M : Mem} {Q : UK}
theorem addS_s {a b : Str} (h : a.length + b.length ≤ sizeLine) (q : Q (.str (a ++ b)) M) : sAddS (.str a) (.str b) M Q := ⟨a, b, rfl, rfl, h, q⟩
theorem addL_s {a b : Addr} {xs ys : List U} (e1 : M a = some (.lst xs)) (e2 : M b = some (.lst ys)) (h : xs.length + ys.length ≤ sizeLine) (q : ∀ p, M p = none → Q (.ref p) (put M p (.lst (xs ++ ys)))) : sAddL (.ref a) (.ref b) M Q := ⟨a, b, xs, ys, rfl, rfl, e1, e2, h, q⟩
theorem ixS_s {z : Str} {i : Int} (h : z.length ≤ sizeLine) (q : oE (atI z.cps.toList i) fun c => Q (.str ⟨#[c]⟩) M) : sIxS (.str z) (.int i) M Q := ⟨z, i, rfl, rfl, h, q⟩
theorem ixF_s {xs : List U} {i : Int} (q : oE (atI xs i) fun u => Q u M) : sIxF (.fl xs) (.int i) M Q := ⟨xs, i, rfl, rfl, q⟩
theorem ixR_s {a : Addr} {xs : List U} {i : Int} (e : M a = some (.lst xs)) (q : oE (atI xs i) fun u => Q u M) : sIxR (.ref a) (.int i) M Q := ⟨xs, i, .inr ⟨a, rfl, e⟩, rfl, q⟩
theorem mulS_s {z : Str} {n : Int} (h1 : -(2 ^ 63) ≤ n) (h2 : n < 2 ^ 63) (h3 : z.length * n.toNat ≤ sizeLine) (q : Q (.str (repS z n.toNat)) M) : sMulS (.str z) (.int n) M Q := ⟨z, n, rfl, rfl, h1, h2, h3, q⟩
theorem set_s {a : Addr} {k : Int} {xs : List U} {j : Nat} {v : U} {R : Mem → Prop} (h1 : M a = some (.lst xs)) (h2 : ixN xs.length k = some j) (q : R (put M a (.lst (xs.set j v)))) : sSet (.ref a) (.int k) v M R := ⟨a, k, xs, j, rfl, rfl, h1, h2, q⟩
theorem len_s {z : Str} (h : z.length ≤ sizeLine) (q : Q (.int z.length) M) : sLen [.str z] M Q := ⟨_, _, rfl, .inl ⟨z, rfl, h, rfl⟩, q⟩
theorem len_f {xs : List U} (q : Q (.int xs.length) M) : sLen [.fl xs] M Q := ⟨_, _, rfl, .inr ⟨xs, rfl, rfl⟩, q⟩
theorem str_s {i : Int} (h : i.natAbs.log2 < 1920) (q : Q (.str (toString i)) M) : sStr [.int i] M Q := ⟨i, rfl, h, q⟩
theorem all_s {a : Addr} {bs : List Bool} (h : M a = some (.lst (bs.map U.bl))) (q : Q (.bl (bs.all id)) M) : sAll [.ref a] M Q := ⟨a, bs, rfl, h, q⟩
theorem join_s {z : Str} {a : Addr} {zs : List Str} (h : M a = some (.lst (zs.map U.str))) (ok : JoinOk z zs = true) (q : Q (.str (Txt.join z zs)) M) : sJoin (.str z) [.ref a] M Q := ⟨z, a, zs, rfl, rfl, h, ok, q⟩
theorem app_s {a : Addr} {y : U} {ys : List U} (h : M a = some (.lst ys)) (l : ys.length < sizeLine) (q : Q .non (put M a (.lst (ys ++ [y])))) : sApp (.ref a) [y] M Q := ⟨a, y, ys, rfl, rfl, h, l, q⟩
theorem in_t (zs : List Str) {neg : Bool} {z : Str} (q : Q (.bl (if neg then !decide (z ∈ zs) else decide (z ∈ zs))) M) : sIn neg (.str z) (.tup (zs.map U.str)) M Q := ⟨z, zs, rfl, .inl rfl, q⟩
theorem in_l {zs : List Str} {neg : Bool} {z : Str} {a : Addr} (h : M a = some (.lst (zs.map U.str))) (q : Q (.bl (if neg then !decide (z ∈ zs) else decide (z ∈ zs))) M) : sIn neg (.str z) (.ref a) M Q := ⟨z, zs, rfl, .inr ⟨a, rfl, h⟩, q⟩
theorem isi_s {K : Frag} {u : U} {t n : String} (b : Bool) (h : KindU M u t) (e : PySem.W.kitOne K (.type t) (.type n) = some b) (q : Q (.bl b) M) : sIsi K [u, .ty n] M Q := ⟨u, n, t, b, rfl, h, e, q⟩
theorem kit_str {K : Frag} {u : U} {t : String} (h : KindU M u t) : PySem.W.kitOne K (.type t) (.type "str") = some (decide (t = "str")) := by cases h <;> rfl
end
section
variable {X : Cx} {a : Expr} {t : TA2} {p pos : Pos}
noncomputable def sEnA (R : List U → (Mem → Prop) → Mem → Prop) (us : List U) (M1 : Mem) : Prop := (∃ z, us = [.str z] ∧ R (enumU 0 (chs z)) noChk M1) ∨ ∃ a xs, us = [.ref a] ∧ M1 a = some (.lst xs) ∧ R (enumU 0 xs) (fun M => M a = some (.lst xs)) M1
theorem enum_s {R : List U → (Mem → Prop) → Mem → Prop} {z : Str} {M : Mem} (q : R (enumU 0 (chs z)) noChk M) : sEnA R [.str z] M := .inl ⟨z, rfl, q⟩
theorem enum_l {R : List U → (Mem → Prop) → Mem → Prop} {a : Addr} {xs : List U} {M : Mem} (h : M a = some (.lst xs)) (q : R (enumU 0 xs) (fun M => M a = some (.lst xs)) M) : sEnA R [.ref a] M := .inr ⟨a, xs, rfl, h, q⟩
@[reducible] noncomputable def sEnum (t : TA2) : TI2 := fun σ M R => t σ M fun us M1 => sEnA R us M1
theorem sqi_enum {elts : List Expr} {k : Nat} {tpos : Pos} (hg : Gl X "enumerate") (hm : X.mg "enumerate" = none) (ha : QA X [a] t) (hs : starEach [a] X.env = [(false, eval a X.env)] := by rfl) : QI X (.Tuple elts k tpos) (.Call (.Name "enumerate" p) [a] [] pos) (sEnum t) := by
  refine ⟨fun σ M Q Q' k h => ha.mo _ _ _ _ (fun us M1 z => ?_) h, piW (pi_enumD hg hm ha.pe hs) fun σ H R z0 => exUp z0 fun σ2 M rs rm h => ?_⟩
  · rcases z with ⟨z, e, q⟩ | ⟨a, xs, e, e2, q⟩
    · exact .inl ⟨z, e, k _ _ _ q⟩
    · exact .inr ⟨a, xs, e, e2, k _ _ _ q⟩
  · refine lfA ha.mo rs rm h fun us M1 vs H1 k1 r1 m1 s1 h1 => ?_
    rcases h1 with ⟨z, rfl, q⟩ | ⟨a, xs, rfl, e, q⟩
    · obtain ⟨v, rfl, r⟩ := r1.one
      obtain rfl := r.strI
      exact .inl ⟨z, rfl, q _ H1 k1 m1 it_enumS⟩
    · obtain ⟨v, rfl, r⟩ := r1.one
      · obtain rfl := r.refI
        obtain ⟨ys, e1, r⟩ := m1 a _ e
        refine .inr ⟨a, rfl, ⟨ys, .inl (.inl e1)⟩, q _ H1 k1 m1 (it_enumL fun H' M' k' rm' c => ?_)⟩
        obtain ⟨zs, e2, r2⟩ := rm' a _ c
        exact ⟨zs, .inl (.inl e2), r2⟩
end
end L3
set_option maxHeartbeats 1000000
namespace K01
open PySem PySem.Spec PyProof.Rows L2 L3 XC
local macro_rules | `(tactic| walk_at "w") => `(tactic| with_reducible conv => whnf)
local macro_rules | `(tactic| walk_at "c") => `(tactic| first | exact L3.small (Nat.le_of_ble_eq_true rfl) | decide | exact ⟨by decide, by decide⟩ | (show (0 : Int) < _; decide) | assumption | (show (0 : Int) < _; omega) | omega | exact ⟨by omega, by omega⟩ | exact CMul.ok (Or.inl ⟨by omega, by omega⟩) | exact CMul.ok (Or.inr ⟨by omega, by omega⟩) | (simp only [strLen_append]; omega) | exact rfl | exact True.intro | decide)
local macro_rules | `(tactic| walk_at "s") => `(tactic| first | ((with_reducible refine And.intro ?c ?q); (case c => walk_at "c"); walk_at "w") | ((with_reducible refine L3.len_s ?c ?q); (case c => walk_at "c"); walk_at "w") | ((with_reducible refine L3.len_f ?q); walk_at "w") | ((with_reducible refine L3.addS_s ?c ?q); (case c => walk_at "c"); walk_at "w") | ((with_reducible refine L3.ixS_s ?c ?q); (case c => walk_at "c"); walk_at "w") | ((with_reducible refine L3.ixF_s ?q); walk_at "w") | (with_reducible refine bE_t ?_; walk_at "w") | (with_reducible refine bE_f ?_; walk_at "w") | (refine bEt (by decide +kernel) ?_; walk_at "w") | (refine bEf (by decide +kernel) ?_; walk_at "w"))
local macro_rules | `(tactic| walk_at "g") => `(tactic| (walk_at "w"; repeat walk_at "s"))
local macro_rules | `(tactic| walk_at "n") => `(tactic| ((with_reducible refine Exists.intro _ (And.intro (Le.refl _) ?q)); walk_at "g"))
local macro_rules | `(tactic| walk_at "m1") => `(tactic| first | exact put_same | refine kpM ?_ (by assumption) | refine (put_ne (by first | assumption | (apply Ne.symm; assumption))).trans ?_)
local macro_rules | `(tactic| walk_at "m") => `(tactic| (repeat walk_at "m1"))
noncomputable def top (i : Nat) : Stmt := PySem.Challenge.pw_hallclock_k01_words.main.body.getD i (.Pass ⟨0, 0, 0, 0⟩)
structure Bl (mg : Str → Option Value) : Prop where
  b_len : mg "len" = none
  b_range : mg "range" = none
  b_isinstance : mg "isinstance" = none
  b_str : mg "str" = none
  g_LETTERS : ∃ t, mg "LETTERS" = some (.str "abcdefghijklmnopqrstuvwxyz" t)
  g_FIGURES : ∃ t, mg "FIGURES" = some (.str "0123456789" t)
  g_PARTING : ∃ t, mg "PARTING" = some (.str " \n" t)
  g_MOST_SIGNS : ∃ t, mg "MOST_SIGNS" = some (.int 6000 t)
  g_MOST_LETTERS : ∃ t, mg "MOST_LETTERS" = some (.int 8 t)
  g_MOST_FIGURES : ∃ t, mg "MOST_FIGURES" = some (.int 4 t)
noncomputable def toldS : List Str := ["pool", "holds", "door", "rank", "at", "draws", "upto", "gaps", "to", "from", "then", "way", "takes", "desk", "hands", "ranked", "rests", "gate", "opens", "for", "below", "fork", "by", "turns", "number", "least", "lend", "of", "give", "exit", "change"]
noncomputable def marksS : List Str := [".", ","]
structure Tl (K : Frag) (mg : Str → Option Value) : Prop extends Bl mg where
  g_TOLD : ∃ a, mg "TOLD" = some (.ref a) ∧ ∀ H, SqT K H a (toldS.map V.str)
  g_MARKS : ∃ a, mg "MARKS" = some (.ref a) ∧ ∀ H, SqT K H a (marksS.map V.str)
section
variable {P : Program} {w : World} {K : Frag} {mg : Str → Option Value} {base : Heap}
noncomputable def cellAt (ns : List Int) (k : Int) : Int := if k < ns.length then ns.getD k.toNat 0 else 0
noncomputable def spCellAt : Sp2 := fun us M Q => ∃ (ns : List Int) (k : Int), us = [.fl (ns.map U.int), .int k] ∧ 0 ≤ k ∧ Q (.int (cellAt ns k)) M
noncomputable def st_l_cell_at : Stmt := top 30
theorem sc_l_cell_at : FnScope ["_law_script", "_law_k"] ["_law_script", "_law_k"] (defScope st_l_cell_at) := ⟨rfl, rfl, rfl, by decide +kernel, rfl, by decide +kernel, by decide +kernel⟩
theorem c_l_cell_at (T : Bl mg) (F : FunM K mg "_law_cell_at" st_l_cell_at) : Cal2 P w K mg base 1 "_law_cell_at" ["_law_script", "_law_k"] spCellAt := by
  refine cal2 F sc_l_cell_at (fun us M Q Q' k ⟨ns, i, e, h, q⟩ => ⟨ns, i, e, h, k _ _ q⟩) (fun us M Q ⟨ns, i, e, _⟩ => by rw [e]; rfl) (fun _ _ _ _ _ _ us hl => by obtain ⟨a, b, rfl⟩ := len2 hl; rfl) (hbody := fun f cdv A outer s H E hr => ?_)
  refine ⟨_, (qss_cons (qs_if (qt_cmp so_lt (qv 1) (qe_callB sc_len (by rfl) T.b_len PySem.boot_len (qa_cons (qv 0) qa_nil)) (nomark _)) (qss_one (qs_ret (qe_ix sx_fl (qv 0) (qv 1) (fun _ _ => rfl)))) qss_nil)
      (qss_one (qs_ret qe_int))), ?_⟩
  rintro us M Q cl ⟨ns, k, rfl, h0, q⟩
  walk_at "g"
  rw [List.length_map]
  unfold cellAt at q
  refine bE2 (fun c => ?_) (fun c => ?_)
  · have c' := of_decide_eq_true c
    rw [if_pos c'] at q
    walk_at "g"
    exact oE_some (atI_map ns k h0 c') q
  · have c' := of_decide_eq_false c
    rw [if_neg c'] at q
    exact q
noncomputable def mixed (c k : Int) : Int := ((c % 1000003 + 7) * (31 * k * k + 48271) + c / 1000003 * 16807) % 2147483629
noncomputable def spMixed : Sp2 := fun us M Q => ∃ c k : Int, us = [.int c, .int k] ∧ 0 ≤ k ∧ k ≤ 1000 ∧ Q (.int (mixed c k)) M
noncomputable def st_l_mixed : Stmt := top 31
theorem sc_l_mixed : FnScope ["_law_cell", "_law_k"] ["_law_cell", "_law_k"] (defScope st_l_mixed) := ⟨rfl, rfl, rfl, by decide +kernel, rfl, by decide +kernel, by decide +kernel⟩
theorem c_l_mixed (F : FunM K mg "_law_mixed" st_l_mixed) : Cal2 P w K mg base 1 "_law_mixed" ["_law_cell", "_law_k"] spMixed := by
  refine cal2 F sc_l_mixed (fun us M Q Q' k ⟨c, i, e, h, h', q⟩ => ⟨c, i, e, h, h', k _ _ q⟩) (fun us M Q ⟨ns, i, e, _⟩ => by rw [e]; rfl) (fun _ _ _ _ _ _ us hl => by obtain ⟨a, b, rfl⟩ := len2 hl; rfl) (hbody := fun f cdv A outer s H E hr => ?_)
  refine ⟨_, (qss_one (qs_ret (qe_op so_mod (qe_op so_addI (qe_op so_mul (qe_op so_addI (qe_op so_mod (qv 0) qe_int) qe_int) (qe_op so_addI (qe_op so_mul (qe_op so_mul qe_int (qv 1)) (qv 1)) qe_int)) (qe_op so_mul (qe_op so_fdiv (qv 0) qe_int) qe_int)) qe_int))), ?_⟩
  rintro us M Q cl ⟨c, k, rfl, h0, h1, q⟩
  walk_at "g"
  exact q
noncomputable def runLen (cs : List Nat) : List Nat → Nat
  | [] => 0
  | c :: r => if c ∈ cs then runLen cs r + 1 else 0
noncomputable def spRowEnd : Sp2 := fun us M Q => ∃ (t cs : Str) (i : Nat), us = [.str t, .int i, .str cs] ∧ i ≤ t.length ∧ t.length ≤ 100000 ∧ Q (.int (i + runLen cs.cps.toList (t.cps.toList.drop i) : Nat)) M
theorem runLen_on {cs l : List Nat} {j c : Nat} (h : l[j]? = some c) (m : c ∈ cs) : runLen cs (l.drop j) = runLen cs (l.drop (j + 1)) + 1 := by
  obtain ⟨hj, e⟩ := List.getElem?_eq_some_iff.mp h
  rw [List.drop_eq_getElem_cons hj, e]
  unfold runLen
  rw [if_pos m]
  cases l.drop (j + 1) <;> rfl
theorem runLen_off {cs l : List Nat} {j c : Nat} (h : l[j]? = some c) (m : c ∉ cs) : runLen cs (l.drop j) = 0 := by
  obtain ⟨hj, e⟩ := List.getElem?_eq_some_iff.mp h
  rw [List.drop_eq_getElem_cons hj, e]
  unfold runLen
  rw [if_neg m]
noncomputable def st_row_end : Stmt := top 21
theorem sc_row_end : FnScope ["text", "spot", "signs", "end"] ["text", "spot", "signs"] (defScope st_row_end) := ⟨rfl, rfl, rfl, by decide +kernel, rfl, by decide +kernel, by decide +kernel⟩
theorem c_row_end (T : Bl mg) (F : FunM K mg "row_end" st_row_end) : Cal2 P w K mg base 1 "row_end" ["text", "spot", "signs"] spRowEnd := by
  refine cal2 F sc_row_end (by rintro us M Q Q' k ⟨t, cs, i, e, h, h', q⟩; exact ⟨t, cs, i, e, h, h', k _ _ q⟩) (by rintro us M Q ⟨t, cs, i, e, _⟩; rw [e]; rfl) (fun _ _ _ _ _ _ us hl => by obtain ⟨a, b, c, rfl⟩ := len3 hl; rfl) (hbody := fun f cdv A outer s H E hr => ?_)
  refine ⟨_, (qss_cons (qs_set (i := 3) sc_row_end.nd rfl (by first | exact Or.inl rfl | exact Or.inr rfl) (qv 1))
      (qss_cons (qs_while PassesOwn.never (QW.qt (qw_and (qt_cmp so_lt (qv 3) (qe_callB sc_len (by rfl) T.b_len PySem.boot_len (qa_cons (qv 0) qa_nil)) (nomark _)) (qw_and1 (qt_cmp o_inS (qe_ix sx_str (qv 0) (qv 3) (fun _ _ => rfl)) (qv 2) (by with_unfolding_all rfl))))) (qss_one (qs_aug sc_row_end.nd (n := 3) rfl (by first | exact Or.inl rfl | exact Or.inr rfl) qe_int si_add)))
      (qss_one (qs_ret (qv 3))))), ?_⟩
  rintro us M Q cl ⟨t, cs, i, rfl, h0, h1, q⟩
  walk_at "g"
  refine Loop.inv (fun σ M' => M' = M ∧ ∃ j : Nat, σ = [some (.str t), some (.int i), some (.str cs), some (.int j)] ∧ j ≤ t.length ∧ j + runLen cs.cps.toList (t.cps.toList.drop j) = i + runLen cs.cps.toList (t.cps.toList.drop i)) (fun σ _ => match σ with | _ :: _ :: _ :: some (.int p) :: _ => t.length - p.toNat | _ => 0) ?_ ?_
  · exact ⟨rfl, i, rfl, h0, rfl⟩
  · rintro σ M' ⟨rfl, j, rfl, hj, e⟩
    have hz : t.length ≤ sizeLine := Nat.le_trans h1 (by decide)
    walk_at "g"
    refine bE2 (fun c => ?_) (fun c => ?_)
    · have cj : j < t.length := Int.ofNat_lt.mp (of_decide_eq_true c)
      have hjl : j < t.cps.toList.length := cj
      have hc := List.getElem?_eq_getElem hjl
      walk_at "g"
      refine oE_some (atI_nat hc) ?_
      walk_at "g"
      refine ⟨_, _, rfl, rfl, ?_⟩
      walk_at "g"
      rw [if_neg Bool.false_ne_true]
      refine bE2 (fun d => ?_) (fun d => ?_)
      · rw [hasT_one] at d
        have on := runLen_on hc (of_decide_eq_true d)
        walk_at "g"
        exact ⟨t.length - (j + 1), _, Nat.sub_succ_lt_self _ _ cj, Le.refl _, ⟨rfl, j + 1, rfl, cj, (Nat.succ_add_eq_add_succ _ _).trans ((congrArg (j + ·) on.symm).trans e)⟩, rfl⟩
      · rw [hasT_one] at d
        have off := runLen_off hc (of_decide_eq_false d)
        walk_at "g"
        have z : i + runLen cs.cps.toList (t.cps.toList.drop i) = j := e.symm.trans (congrArg (j + ·) off)
        rw [z] at q
        exact q
    · have cj : t.cps.toList.length ≤ j := Int.ofNat_le.mp (Int.not_lt.mp (of_decide_eq_false c))
      have z : i + runLen cs.cps.toList (t.cps.toList.drop i) = j := by
        rw [← e, List.drop_eq_nil_of_le cj]; rfl
      walk_at "g"
      rw [z] at q
      exact q
noncomputable def isRow (z cs : Str) (most : Int) : Bool := (decide ((1 : Int) ≤ z.length) && decide ((z.length : Int) ≤ most)) && decide (((0 + runLen cs.cps.toList (z.cps.toList.drop 0) : Nat) : Int) = z.length)
noncomputable def spIsRow : Sp2 := fun us M Q => ∃ (z cs : Str) (most : Int), us = [.str z, .str cs, .int most] ∧ z.length ≤ 100000 ∧ Q (.bl (isRow z cs most)) M
noncomputable def st_is_row : Stmt := top 22
theorem sc_is_row : FnScope ["word", "signs", "most"] ["word", "signs", "most"] (defScope st_is_row) := ⟨rfl, rfl, rfl, by decide +kernel, rfl, by decide +kernel, by decide +kernel⟩
theorem k_is_row (T : Bl mg) (c_row_end : Cal2 P w K mg base 1 "row_end" ["text", "spot", "signs"] spRowEnd) (F : FunM K mg "is_row" st_is_row) : Cal2 P w K mg base 2 "is_row" ["word", "signs", "most"] spIsRow := by
  refine cal2 F sc_is_row (by rintro us M Q Q' k ⟨t, cs, i, e, h, q⟩; exact ⟨t, cs, i, e, h, k _ _ q⟩) (by rintro us M Q ⟨t, cs, i, e, _⟩; rw [e]; rfl) (fun _ _ _ _ _ _ us hl => by obtain ⟨a, b, c, rfl⟩ := len3 hl; rfl) (hbody := fun f cdv A outer s H E hr => ?_)
  refine ⟨_, (qss_one (qs_ret (qe_and (qe_chain so_le so_le qe_int (qe_callB sc_len (by rfl) T.b_len PySem.boot_len (qa_cons (qv 0) qa_nil)) (qv 2)) (qe_one (qe_cmp (so_eq hr.units) (qe_call c_row_end (hr.mono (by first | decide | omega)) rfl (qa_cons (qv 0) (qa_cons qe_int (qa_cons (qv 1) qa_nil)))) (qe_callB sc_len (by rfl) T.b_len PySem.boot_len (qa_cons (qv 0) qa_nil)) (nomark _)))))), ?_⟩
  rintro us M Q cl ⟨z, cs, most, rfl, h1, q⟩
  have hz : z.length ≤ sizeLine := Nat.le_trans h1 (by decide)
  unfold isRow at q
  walk_at "g"
  refine bE2 (fun c => ?_) (fun c => ?_)
  · walk_at "g"
    refine bE2 (fun d => ?_) (fun d => ?_)
    · walk_at "g"
      refine ⟨z, cs, 0, rfl, Nat.zero_le _, h1, ?_⟩
      walk_at "g"
      rw [c, d] at q
      exact q
    · walk_at "g"
      rw [c, d] at q
      exact q
  · walk_at "g"
    rw [c] at q
    exact q
noncomputable def isNumU (z : Str) (most : Int) : Bool := isRow z "0123456789" most && (decide (z = "0") || !decide (z.cps.toList.head? = some 48))
noncomputable def spIsNumU : Sp2 := fun us M Q => ∃ (z : Str) (most : Int), us = [.str z, .int most] ∧ z.length ≤ 100000 ∧ Q (.bl (isNumU z most)) M
noncomputable def st_is_number_upto : Stmt := top 23
theorem sc_is_number_upto : FnScope ["word", "most"] ["word", "most"] (defScope st_is_number_upto) := ⟨rfl, rfl, rfl, by decide +kernel, rfl, by decide +kernel, by decide +kernel⟩
theorem k_is_number_upto (T : Bl mg) (c_is_row : Cal2 P w K mg base 2 "is_row" ["word", "signs", "most"] spIsRow) (F : FunM K mg "is_number_upto" st_is_number_upto) : Cal2 P w K mg base 3 "is_number_upto" ["word", "most"] spIsNumU := by
  refine cal2 F sc_is_number_upto (by rintro us M Q Q' k ⟨t, i, e, h, q⟩; exact ⟨t, i, e, h, k _ _ q⟩) (by rintro us M Q ⟨t, i, e, _⟩; rw [e]; rfl) (fun _ _ _ _ _ _ us hl => by obtain ⟨a, b, rfl⟩ := len2 hl; rfl) (hbody := fun f cdv A outer s H E hr => ?_)
  refine ⟨_, (qss_one (qs_ret (qe_and (qe_call c_is_row (hr.mono (by first | decide | omega)) rfl (qa_cons (qv 0) (qa_cons (qe_gs rfl T.g_FIGURES) (qa_cons (qv 1) qa_nil)))) (qe_one (qe_or (qe_cmp (so_eq hr.units) (qv 0) qe_str (nomark _)) (qe_one (qe_cmp (so_ne hr.units) (qe_ix sx_str (qv 0) qe_int (fun _ _ => rfl)) qe_str (nomark _)))))))), ?_⟩
  rintro us M Q cl ⟨z, most, rfl, h1, q⟩
  have hz : z.length ≤ sizeLine := Nat.le_trans h1 (by decide)
  unfold isNumU at q
  walk_at "g"
  refine ⟨z, _, most, rfl, h1, ?_⟩
  walk_at "g"
  refine bE2 (fun c => ?_) (fun c => ?_)
  · walk_at "g"
    refine bE2 (fun d => ?_) (fun d => ?_)
    · walk_at "g"
      rw [c, d] at q
      exact q
    · have hl : 1 ≤ z.length := by
        have a := (Bool.and_eq_true_iff.mp (Bool.and_eq_true_iff.mp c).1).1
        have := of_decide_eq_true a
        omega
      have tl : z.length = z.cps.toList.length := by rw [Array.length_toList]; rfl
      have hc := List.getElem?_eq_getElem (l := z.cps.toList) (i := 0) (by omega)
      walk_at "g"
      refine oE_some (atI_nat (j := 0) hc) ?_
      walk_at "g"
      rw [c, d] at q
      have hb : ∀ b : Bool, (b = true ↔ z.cps.toList.head? = some 48) → Q (U.bl !b) M := fun b hb => by
        have : b = decide (z.cps.toList.head? = some 48) := by cases b <;> simp_all
        rw [this]; exact q
      refine hb _ (decide_eq_true_iff.trans ?_)
      rw [List.head?_eq_getElem?, hc, show Str.ofString "0" = ⟨#[48]⟩ from rfl]
      constructor
      · intro e; rw [Str.mk.injEq] at e; have := congrArg (fun a : Array Nat => a.toList) e; simp only [List.cons.injEq] at this; rw [this.1]
      · intro e; rw [Option.some.inj e]
  · walk_at "g"
    rw [c] at q
    exact q
noncomputable def spIsNum : Sp2 := fun us M Q => ∃ z : Str, us = [.str z] ∧ z.length ≤ 100000 ∧ Q (.bl (isNumU z 4)) M
noncomputable def st_is_number : Stmt := top 24
theorem sc_is_number : FnScope ["word"] ["word"] (defScope st_is_number) := ⟨rfl, rfl, rfl, by decide +kernel, rfl, by decide +kernel, by decide +kernel⟩
theorem k_is_number (T : Tl K mg) (c_is_number_upto : Cal2 P w K mg base 3 "is_number_upto" ["word", "most"] spIsNumU) (F : FunM K mg "is_number" st_is_number) : Cal2 P w K mg base 4 "is_number" ["word"] spIsNum := by
  refine cal2 F sc_is_number (by rintro us M Q Q' k ⟨t, e, h, q⟩; exact ⟨t, e, h, k _ _ q⟩) (by rintro us M Q ⟨t, e, _⟩; rw [e]; rfl) (fun _ _ _ _ _ _ us hl => by obtain ⟨a, rfl⟩ := len1 hl; rfl) (hbody := fun f cdv A outer s H E hr => ?_)
  refine ⟨_, (qss_one (qs_ret (qe_call c_is_number_upto (hr.mono (by first | decide | omega)) rfl (qa_cons (qv 0) (qa_cons (qe_gi rfl T.g_MOST_FIGURES) qa_nil))))), ?_⟩
  rintro us M Q cl ⟨z, rfl, h1, q⟩
  walk_at "g"
  exact ⟨z, 4, rfl, h1, q⟩
noncomputable def isName (z : Str) : Bool := isRow z "abcdefghijklmnopqrstuvwxyz" 8 && !decide (z ∈ toldS)
noncomputable def spIsName : Sp2 := fun us M Q => ∃ z : Str, us = [.str z] ∧ z.length ≤ 100000 ∧ Q (.bl (isName z)) M
noncomputable def st_is_name : Stmt := top 25
theorem sc_is_name : FnScope ["word"] ["word"] (defScope st_is_name) := ⟨rfl, rfl, rfl, by decide +kernel, rfl, by decide +kernel, by decide +kernel⟩
theorem k_is_name (T : Tl K mg) (c_is_row : Cal2 P w K mg base 2 "is_row" ["word", "signs", "most"] spIsRow) (F : FunM K mg "is_name" st_is_name) : Cal2 P w K mg base 3 "is_name" ["word"] spIsName := by
  refine cal2 F sc_is_name (by rintro us M Q Q' k ⟨t, e, h, q⟩; exact ⟨t, e, h, k _ _ q⟩) (by rintro us M Q ⟨t, e, _⟩; rw [e]; rfl) (fun _ _ _ _ _ _ us hl => by obtain ⟨a, rfl⟩ := len1 hl; rfl) (hbody := fun f cdv A outer s H E hr => ?_)
  refine ⟨_, (qss_one (qs_ret (qe_and (qe_call c_is_row (hr.mono (by first | decide | omega)) rfl (qa_cons (qv 0) (qa_cons (qe_gs rfl T.g_LETTERS) (qa_cons (qe_gi rfl T.g_MOST_LETTERS) qa_nil)))) (qe_one (qe_cmp so_nin (qv 0) (qe_gt rfl T.g_TOLD) (by with_unfolding_all rfl)))))), ?_⟩
  rintro us M Q cl ⟨z, rfl, h1, q⟩
  unfold isName at q
  walk_at "g"
  refine ⟨z, _, 8, rfl, h1, ?_⟩
  walk_at "g"
  refine bE2 (fun c => ?_) (fun c => ?_)
  · walk_at "g"
    refine in_t toldS ?_
    walk_at "g"
    rw [c] at q
    exact q
  · walk_at "g"
    rw [c] at q
    exact q
noncomputable def isWord (z : Str) : Bool := isRow z "abcdefghijklmnopqrstuvwxyz" 8 || (isNumU z 4 || decide (z ∈ marksS))
noncomputable def spIsWord : Sp2 := fun us M Q => ∃ z : Str, us = [.str z] ∧ z.length ≤ 100000 ∧ Q (.bl (isWord z)) M
noncomputable def st_is_word : Stmt := top 26
theorem sc_is_word : FnScope ["word"] ["word"] (defScope st_is_word) := ⟨rfl, rfl, rfl, by decide +kernel, rfl, by decide +kernel, by decide +kernel⟩
theorem k_is_word (T : Tl K mg) (c_is_row : Cal2 P w K mg base 2 "is_row" ["word", "signs", "most"] spIsRow) (c_is_number : Cal2 P w K mg base 4 "is_number" ["word"] spIsNum) (F : FunM K mg "is_word" st_is_word) : Cal2 P w K mg base 5 "is_word" ["word"] spIsWord := by
  refine cal2 F sc_is_word (by rintro us M Q Q' k ⟨t, e, h, q⟩; exact ⟨t, e, h, k _ _ q⟩) (by rintro us M Q ⟨t, e, _⟩; rw [e]; rfl) (fun _ _ _ _ _ _ us hl => by obtain ⟨a, rfl⟩ := len1 hl; rfl) (hbody := fun f cdv A outer s H E hr => ?_)
  refine ⟨_, (qss_one (qs_ret (qe_or (qe_call c_is_row (hr.mono (by first | decide | omega)) rfl (qa_cons (qv 0) (qa_cons (qe_gs rfl T.g_LETTERS) (qa_cons (qe_gi rfl T.g_MOST_LETTERS) qa_nil)))) (qe_or (qe_call c_is_number (hr.mono (by first | decide | omega)) rfl (qa_cons (qv 0) qa_nil)) (qe_one (qe_cmp so_in (qv 0) (qe_gt rfl T.g_MARKS) (by with_unfolding_all rfl))))))), ?_⟩
  rintro us M Q cl ⟨z, rfl, h1, q⟩
  unfold isWord at q
  walk_at "g"
  refine ⟨z, _, 8, rfl, h1, ?_⟩
  walk_at "g"
  refine bE2 (fun c => ?_) (fun c => ?_)
  · walk_at "g"
    rw [c] at q
    exact q
  · walk_at "g"
    refine ⟨z, rfl, h1, ?_⟩
    walk_at "g"
    refine bE2 (fun d => ?_) (fun d => ?_)
    · walk_at "g"
      rw [c, d] at q
      exact q
    · walk_at "g"
      refine in_t marksS ?_
      walk_at "g"
      rw [c, d] at q
      exact q
noncomputable def lettersL : List Nat := ("abcdefghijklmnopqrstuvwxyz" : Str).cps.toList
noncomputable def figuresL : List Nat := ("0123456789" : Str).cps.toList
noncomputable def wordEnd (t : List Nat) (i c : Nat) : Nat := if c ∈ lettersL then i + runLen lettersL (t.drop i) else if c ∈ figuresL then i + runLen figuresL (t.drop i) else i + 1
noncomputable def spWordEnd : Sp2 := fun us M Q => ∃ (t : Str) (i c : Nat), us = [.str t, .int i] ∧ t.cps.toList[i]? = some c ∧ t.length ≤ 100000 ∧ Q (.int (wordEnd t.cps.toList i c : Nat)) M
noncomputable def st_word_end : Stmt := top 27
theorem sc_word_end : FnScope ["text", "spot", "signs"] ["text", "spot"] (defScope st_word_end) := ⟨rfl, rfl, rfl, by decide +kernel, rfl, by decide +kernel, by decide +kernel⟩
theorem k_word_end (T : Tl K mg) (c_row_end : Cal2 P w K mg base 1 "row_end" ["text", "spot", "signs"] spRowEnd) (F : FunM K mg "word_end" st_word_end) : Cal2 P w K mg base 2 "word_end" ["text", "spot"] spWordEnd := by
  refine cal2 F sc_word_end (by rintro us M Q Q' k ⟨t, i, c, e, h, h', q⟩; exact ⟨t, i, c, e, h, h', k _ _ q⟩) (by rintro us M Q ⟨t, i, c, e, _⟩; rw [e]; rfl) (fun _ _ _ _ _ _ us hl => by obtain ⟨a, b, rfl⟩ := len2 hl; rfl) (hbody := fun f cdv A outer s H E hr => ?_)
  refine ⟨_, (qss_cons (qs_for PassesOwn.never rfl (qi_seq (qe_tup (qa_cons (qe_gs rfl T.g_LETTERS) (qa_cons (qe_gs rfl T.g_FIGURES) qa_nil)))) (qg_name (i := 2) sc_word_end.nd rfl (by first | exact Or.inl rfl | exact Or.inr rfl)) (qss_one (qs_if (qt_cmp o_inS (qe_ix sx_str (qv 0) (qv 1) (fun _ _ => rfl)) (qv 2) (by with_unfolding_all rfl)) (qss_one (qs_ret (qe_call c_row_end (hr.mono (by first | decide | omega)) rfl (qa_cons (qv 0) (qa_cons (qv 1) (qa_cons (qv 2) qa_nil)))))) qss_nil)))
      (qss_one (qs_ret (qe_op so_addI (qv 1) qe_int)))), ?_⟩
  rintro us M Q cl ⟨t, i, c, rfl, hc, h1, q⟩
  have hz : t.length ≤ sizeLine := Nat.le_trans h1 (by decide)
  unfold wordEnd at q
  have hi : i < t.cps.toList.length := (List.getElem?_eq_some_iff.mp hc).1
  have tl : t.length = t.cps.toList.length := by rw [Array.length_toList]; rfl
  walk_at "g"
  refine Walk.inv (fun n σ M' => M' = M ∧ ∃ o, σ = [some (.str t), some (.int i), o] ∧ (1 ≤ n → c ∉ lettersL) ∧ (2 ≤ n → c ∉ figuresL)) ⟨rfl, none, rfl, by omega, by omega⟩ ?_ ?_
  · rintro n x σ M' hx ⟨rfl, o, rfl, a, b⟩
    refine ⟨trivial, ?_⟩
    match n, hx with
    | 0, hx =>
      cases hx
      walk_at "g"
      refine oE_some (atI_nat hc) ?_
      walk_at "g"
      refine ⟨_, _, rfl, rfl, ?_⟩
      walk_at "g"
      rw [if_neg Bool.false_ne_true]
      refine bE2 (fun d => ?_) (fun d => ?_)
      · rw [hasT_one] at d
        walk_at "g"
        refine ⟨t, _, i, rfl, by omega, h1, ?_⟩
        rw [if_pos (show c ∈ lettersL from of_decide_eq_true d)] at q
        exact q
      · rw [hasT_one] at d
        walk_at "g"
        exact ⟨_, Le.refl _, rfl, _, rfl, fun _ => of_decide_eq_false d, fun z => absurd z (by decide)⟩
    | 1, hx =>
      cases hx
      walk_at "g"
      refine oE_some (atI_nat hc) ?_
      walk_at "g"
      refine ⟨_, _, rfl, rfl, ?_⟩
      walk_at "g"
      rw [if_neg Bool.false_ne_true]
      refine bE2 (fun d => ?_) (fun d => ?_)
      · rw [hasT_one] at d
        walk_at "g"
        refine ⟨t, _, i, rfl, by omega, h1, ?_⟩
        rw [if_neg (a (Nat.le_refl _)), if_pos (show c ∈ figuresL from of_decide_eq_true d)] at q
        exact q
      · rw [hasT_one] at d
        walk_at "g"
        exact ⟨_, Le.refl _, rfl, _, rfl, fun _ => a (Nat.le_refl _), fun _ => of_decide_eq_false d⟩
    | n + 2, hx => cases hx
  · rintro σ M' ⟨rfl, o, rfl, a, b⟩
    refine ⟨trivial, ?_⟩
    rw [if_neg (a (by decide)), if_neg (b (by decide))] at q
    walk_at "g"
    exact q
end
set_option maxHeartbeats 1000000
open PySem PySem.Spec PyProof.Rows L2 L3 XC
noncomputable def partL : List Nat := (" \n" : Str).cps.toList
noncomputable def Lb (c : Nat) : Bool := decide (c ∈ lettersL)
noncomputable def Fb (c : Nat) : Bool := decide (c ∈ figuresL)
noncomputable def Bb (c : Nat) : Bool := decide (c ∈ partL)
theorem dis_LF : ∀ c, Lb c = true → Fb c = false := fun c h => by
  have h' : c ∈ lettersL := of_decide_eq_true h
  have : ∀ c ∈ lettersL, c ∉ figuresL := by decide +kernel
  exact decide_eq_false (this c h')
theorem dis_B : ∀ c, Bb c = true → Lb c = false ∧ Fb c = false := fun c h => by
  have h' : c ∈ partL := of_decide_eq_true h
  have : ∀ c ∈ partL, c ∉ lettersL ∧ c ∉ figuresL := by decide +kernel
  exact ⟨decide_eq_false (this c h').1, decide_eq_false (this c h').2⟩
noncomputable def strL (l : List Nat) : Str := ⟨l.toArray⟩
noncomputable def Gd (l : List Nat) : Bool := isWord (strL l)
noncomputable def runsT (z : Str) : List Mth.Run := Mth.runsFrom Lb Fb Bb 0 z.cps.toList
noncomputable def wrongT (z : Str) : List Nat := Mth.wrong Gd (runsT z)
noncomputable def foundT (z : Str) : List Str := (runsT z).map fun r => strL r.2
inductive Out where
  | ok (zs : List Str) | bad (i : Nat)
noncomputable def outW (z : Str) : List Nat → Out
  | [] => .ok (foundT z)
  | i :: _ => .bad i
noncomputable def outT (z : Str) : Out := if 6000 < z.length then .bad 0 else outW z (wrongT z)
noncomputable def outU : U → Out
  | .str z => outT z
  | _ => .bad 0
theorem outU_no {M : Mem} {u : U} {t : String} (h : KindU M u t) (n : t ≠ "str") : outU u = .bad 0 := by
  cases h <;> first | exact absurd rfl n | rfl
theorem kind_str {M : Mem} {u : U} {t : String} (h : KindU M u t) (e : t = "str") : ∃ z, u = .str z := by
  cases h <;> first | exact ⟨_, rfl⟩ | exact absurd e (by decide)
noncomputable def spWords (Bs : Addr) : Sp2E := fun us M Q R => ∃ u t, us = [u] ∧ KindU M u t ∧ (∀ z, u = .str z → z.length ≤ 100000) ∧ (∀ zs, outU u = .ok zs → ∀ p, M p = none → Q (.ref p) (put M p (.lst (zs.map U.str)))) ∧ ∀ i, outU u = .bad i → ∀ a, M a = none → R Bs a (put M a (.ins Bs [("spot", .int i)]))
theorem spWords_mo (Bs : Addr) : MoSpE (spWords Bs) := by
  rintro us M Q Q' R R' k1 k2 ⟨u, t, h1, h2, h3, h4, h5⟩
  exact ⟨u, t, h1, h2, h3, fun zs e p hp => k1 _ _ (h4 zs e p hp), fun i e a ha => k2 _ _ _ (h5 i e a ha)⟩
theorem runLen_while (cs : List Nat) : ∀ l : List Nat, runLen cs l = (l.takeWhile fun c => decide (c ∈ cs)).length
  | [] => rfl
  | c :: r => by
    unfold runLen
    by_cases h : c ∈ cs
    · rw [if_pos h, List.takeWhile_cons_of_pos (by simpa using h), List.length_cons, runLen_while cs r]
    · rw [if_neg h, List.takeWhile_cons_of_neg (by simpa using h)]; rfl
theorem wordEnd_at {t : List Nat} {i c : Nat} (h : t[i]? = some c) : wordEnd t i c = i + (Mth.wordAt Lb Fb (t.drop i)).length := by
  obtain ⟨hi, e⟩ := List.getElem?_eq_some_iff.mp h
  have ed : t.drop i = c :: t.drop (i + 1) := by rw [List.drop_eq_getElem_cons hi, e]
  unfold wordEnd
  rw [ed]
  by_cases hl : c ∈ lettersL
  · have b : Lb c = true := decide_eq_true hl
    rw [if_pos hl, Mth.w_let (dis_LF c b) b, runLen_while]; rfl
  · have b : Lb c = false := decide_eq_false hl
    rw [if_neg hl]
    by_cases hf : c ∈ figuresL
    · have b2 : Fb c = true := decide_eq_true hf
      rw [if_pos hf, Mth.w_fig b2, runLen_while]; rfl
    · have b2 : Fb c = false := decide_eq_false hf
      rw [if_neg hf, Mth.w_oth b2 b]; rfl
theorem okN {i : Nat} (h : i ≤ 100000) : OkU (.int (i : Int)) := ⟨by omega, by omega⟩
theorem word_fit {z : Str} {i c : Nat} (h : z.cps.toList[i]? = some c) : i + (Mth.wordAt Lb Fb (z.cps.toList.drop i)).length ≤ z.length ∧ 1 ≤ (Mth.wordAt Lb Fb (z.cps.toList.drop i)).length := by
  obtain ⟨hi, e⟩ := List.getElem?_eq_some_iff.mp h
  have ed : z.cps.toList.drop i = c :: z.cps.toList.drop (i + 1) := by rw [List.drop_eq_getElem_cons hi, e]
  obtain ⟨_, s2, s3, _⟩ := Mth.word_shape (L := Lb) (F := Fb) c (z.cps.toList.drop (i + 1))
  rw [← ed] at s2 s3
  rw [List.length_drop] at s3
  refine ⟨?_, s2⟩
  show _ ≤ z.cps.toList.length
  omega
theorem cut_word {z : Str} {i c : Nat} (h : z.cps.toList[i]? = some c) : cutS z (some (i : Int)) (some ((wordEnd z.cps.toList i c : Nat) : Int)) = strL (Mth.wordAt Lb Fb (z.cps.toList.drop i)) := by
  obtain ⟨hi, e⟩ := List.getElem?_eq_some_iff.mp h
  obtain ⟨f1, f2⟩ := word_fit h
  have ed : z.cps.toList.drop i = c :: z.cps.toList.drop (i + 1) := by rw [List.drop_eq_getElem_cons hi, e]
  obtain ⟨_, _, _, s4⟩ := Mth.word_shape (L := Lb) (F := Fb) c (z.cps.toList.drop (i + 1))
  rw [← ed] at s4
  unfold cutS strL
  rw [HT.sIx_nat, HT.sIx_nat, wordEnd_at h, Nat.min_eq_left f1, Nat.min_eq_left (show i ≤ z.length from Nat.le_of_lt hi), Nat.add_sub_cancel_left, ← s4]
theorem upX_le {K : Frag} {H : Hp} {E : XK} {C a : Addr} {M M' : Mem} (l : Le M M') (h : upX K H E C a M) : upX K H E C a M' := fun H' k m => h H' k (m.le l)
theorem le_put2 {M : Mem} {p a : Addr} {o o2 : O} (hp : M p = none) (ha : put M p o a = none) : M a = none ∧ Le (put M a o2) (put (put M p o) a o2) := by
  have na : a ≠ p := fun z => by rw [z, put_same] at ha; cases ha
  rw [put_ne na] at ha
  refine ⟨ha, fun b u q => ?_⟩
  by_cases z : b = a
  · rw [z, put_same] at q ⊢; exact q
  · rw [put_ne z] at q ⊢
    rw [put_ne (fun y => by rw [y, hp] at q; cases q)]; exact q
section
variable {P : Program} {w : World} {K : Frag} {mg : Str → Option Value} {base : Heap}
structure ErrT (K : Frag) (mg : Str → Option Value) (Bs f : Addr) (fd : FuncData) : Prop extends Tl K mg where
  e_BadSign : ErrK K Bs f "spot"
  g_BadSign : mg "BadSign" = some (.ref Bs)
  i_BadSign : Binds K fd ["self", "spot"] []
noncomputable def st_words : Stmt := top 28
theorem sc_words : FnScope ["text", "found", "spot", "end", "word"] ["text"] (defScope st_words) := ⟨rfl, rfl, rfl, by decide +kernel, rfl, by decide +kernel, by decide +kernel⟩
theorem f_words {Bs fI f : Addr} {fdI fd : FuncData} {qual : Str} (T : ErrT K mg Bs fI fdI) (e_BadSign : FnOk P w K mg base CX0 1 fI fdI ["self", "spot"] (spE Bs "spot")) (c_word_end : Cal2 P w K mg base 2 "word_end" ["text", "spot"] spWordEnd) (c_is_word : Cal2 P w K mg base 5 "is_word" ["word"] spIsWord) (F : Fun K "words" qual st_words f fd) : FnOk P w K mg base (CXE P w) 8 f fd ["text"] (liftSpE K (spWords Bs)) := by
  refine fn2E F sc_words (by rintro us M Q R ⟨u, t, e, _⟩; rw [e]; rfl) fun cdv A outer s H E hr => ?_
  refine ⟨_, (qss_cons (qs_if (QW.qt (qw_or (qt_not (qt_tru (qe_callB (sc_isi K) (by rfl) T.b_isinstance PyProof.Rows.boot_isinstance (qa_cons (qv 0) (qa_cons (qe_ty rfl T.b_str PyProof.Rows.boot_str) qa_nil))) (fun _ => rfl))) (qw_or1 (qt_cmp so_gt (qe_callB sc_len (by rfl) T.b_len PySem.boot_len (qa_cons (qv 0) qa_nil)) (qe_gi rfl T.g_MOST_SIGNS) (nomark _))))) (qss_one (qs_raise T.e_BadSign e_BadSign (hr.mono (by first | decide | omega)) T.i_BadSign rfl T.g_BadSign (qa_cons qe_int qa_nil))) qss_nil)
      (qss_cons (qs_set (i := 1) sc_words.nd rfl (by first | exact Or.inl rfl | exact Or.inr rfl) (qe_lst qa_nil))
      (qss_cons (qs_set (i := 2) sc_words.nd rfl (by first | exact Or.inl rfl | exact Or.inr rfl) qe_int)
      (qss_cons (qs_while PassesOwn.leaving (qt_cmp so_lt (qv 2) (qe_callB sc_len (by rfl) T.b_len PySem.boot_len (qa_cons (qv 0) qa_nil)) (nomark _)) (qss_cons (qs_if (qt_cmp o_inS (qe_ix sx_str (qv 0) (qv 2) (fun _ _ => rfl)) (qe_gs rfl T.g_PARTING) (by with_unfolding_all rfl)) (qss_cons (qs_aug sc_words.nd (n := 2) rfl (by first | exact Or.inl rfl | exact Or.inr rfl) qe_int si_add)
      (qss_one qs_continue)) qss_nil)
      (qss_cons (qs_set (i := 3) sc_words.nd rfl (by first | exact Or.inl rfl | exact Or.inr rfl) (qe_call c_word_end (hr.mono (by first | decide | omega)) rfl (qa_cons (qv 0) (qa_cons (qv 2) qa_nil))))
      (qss_cons (qs_set (i := 4) sc_words.nd rfl (by first | exact Or.inl rfl | exact Or.inr rfl) (qe_slice sl_sl (qv 0) (qo_some (qv 2)) (qo_some (qv 3))))
      (qss_cons (qs_if (qt_not (qt_tru (qe_call c_is_word (hr.mono (by first | decide | omega)) rfl (qa_cons (qv 4) qa_nil)) (fun _ => rfl))) (qss_one (qs_raise T.e_BadSign e_BadSign (hr.mono (by first | decide | omega)) T.i_BadSign rfl T.g_BadSign (qa_cons (qv 2) qa_nil))) qss_nil)
      (qss_cons (qs_expr (qe_bm PySem.F.plainAttrs_list PySem.F.slot_list_append PySem.F.type_list_append sm_append (qv 1) (qa_cons (qv 4) qa_nil)))
      (qss_one (qs_set (i := 2) sc_words.nd rfl (by first | exact Or.inl rfl | exact Or.inr rfl) (qv 3)))))))))
      (qss_one (qs_ret (qv 1))))))), ?_⟩
  rintro us M Q cl ⟨u, t, rfl, hk, hz, q, r⟩
  walk_at "g"
  refine isi_s (decide (t = "str")) hk (kit_str hk) ?_
  walk_at "g"
  by_cases ht : t = "str"
  · obtain ⟨z, rfl⟩ := kind_str hk ht
    subst ht
    have h1 := hz z rfl
    have hsz : z.length ≤ sizeLine := Nat.le_trans h1 (by decide)
    walk_at "g"
    refine bE2 (fun c => ?_) (fun c => ?_)
    · have c' : 6000 < z.length := Int.ofNat_lt.mp (of_decide_eq_true c)
      walk_at "g"
      refine ⟨_, rfl, ⟨by decide, by decide⟩, fun a ha => r 0 ?_ a ha⟩
      show outT z = _
      unfold outT
      rw [if_pos c']
    · have c' : ¬ 6000 < z.length := fun h => of_decide_eq_false c (Int.ofNat_lt.mpr h)
      have ho : outU (.str z) = outW z (wrongT z) := by
        show outT z = _
        unfold outT
        rw [if_neg c']
      rw [ho] at q r
      walk_at "g"
      intro p hp
      walk_at "g"
      refine Loop.inv (fun σ M' => ∃ (i : Nat) (done : List Mth.Run) (o3 o4 : Option U), σ = [some (.str z), some (.ref p), some (.int i), o3, o4] ∧ M' = put M p (.lst ((done.map fun r => strL r.2).map U.str)) ∧ i ≤ z.length ∧ (∀ r ∈ done, Gd r.2 = true) ∧ runsT z = done ++ Mth.runsFrom Lb Fb Bb i (z.cps.toList.drop i)) (fun σ _ => match σ with | _ :: _ :: some (.int j) :: _ => z.length - j.toNat | _ => 0) ?_ ?_
      · exact ⟨0, [], none, none, rfl, rfl, Nat.zero_le _, fun r h => (by cases h), rfl⟩
      · rintro σ M' ⟨i, done, o3, o4, rfl, rfl, hi, gd, hr2⟩
        walk_at "g"
        refine bE2 (fun c => ?_) (fun c => ?_)
        · have hil : i < z.cps.toList.length := Int.ofNat_lt.mp (of_decide_eq_true c)
          have hlt : i < z.length := hil
          have hc := List.getElem?_eq_getElem hil
          have ed : z.cps.toList.drop i = z.cps.toList[i] :: z.cps.toList.drop (i + 1) := List.drop_eq_getElem_cons hil
          generalize z.cps.toList[i] = d at hc ed
          walk_at "g"
          refine oE_some (atI_nat hc) ?_
          walk_at "g"
          refine ⟨_, _, rfl, rfl, ?_⟩
          walk_at "g"
          rw [if_neg Bool.false_ne_true]
          refine bE2 (fun k => ?_) (fun k => ?_)
          · rw [hasT_one] at k
            have kb : Bb d = true := k
            walk_at "g"
            refine ⟨z.length - (i + 1), _, Nat.sub_succ_lt_self _ _ hlt, Le.refl _, ⟨i + 1, done, o3, o4, rfl, rfl, hlt, gd, ?_⟩, rfl⟩
            rw [hr2, ed, Mth.runs_part (dis_B d kb).1 (dis_B d kb).2 kb]
          · rw [hasT_one] at k
            have kb : Bb d = false := k
            walk_at "g"
            refine ⟨z, i, d, rfl, hc, h1, ?_⟩
            walk_at "g"
            rw [cut_word hc]
            have hw := Mth.runs_next (L := Lb) (F := Fb) (B := Bb) dis_LF (p := i) (r := z.cps.toList.drop (i + 1)) (.inr kb)
            obtain ⟨s3, s2⟩ := word_fit hc
            rw [← ed] at hw
            have he := wordEnd_at hc
            generalize Mth.wordAt Lb Fb (z.cps.toList.drop i) = wd at hw s2 s3 he
            rw [List.drop_drop] at hw
            have wl : (strL wd).length = wd.length := by show wd.toArray.size = _; exact List.size_toArray ..
            refine ⟨strL wd, rfl, by rw [wl]; exact Nat.le_trans (Nat.le_trans (Nat.le_add_left _ _) s3) h1, ?_⟩
            walk_at "g"
            refine bE2 (fun g => ?_) (fun g => ?_)
            · have gb : Gd wd = false := by
                show isWord (strL wd) = false
                cases e : isWord (strL wd) with
                | true => rw [e] at g; cases g
                | false => rfl
              walk_at "g"
              refine ⟨_, rfl, okN (Nat.le_trans (Nat.le_of_lt hlt) h1), fun a ha => ?_⟩
              obtain ⟨ha', le⟩ := le_put2 (o2 := .ins Bs [("spot", .int i)]) hp ha
              refine upX_le le (r i ?_ a ha')
              unfold wrongT
              rw [hr2, hw, Mth.wrong_bad gd gb]
              rfl
            · have gb : Gd wd = true := by
                show isWord (strL wd) = true
                cases e : isWord (strL wd) with
                | false => rw [e] at g; cases g
                | true => rfl
              have nd : done.length < sizeLine := by
                have h2 := (Mth.runs_shape (L := Lb) (F := Fb) (B := Bb) dis_LF _ z.cps.toList 0 (Nat.le_refl _)).1
                have h3 : (runsT z).length ≤ z.cps.toList.length := h2
                rw [hr2, List.length_append] at h3
                exact Nat.lt_of_le_of_lt (Nat.le_trans (Nat.le_trans (Nat.le_add_right _ _) h3) (Nat.not_lt.mp c')) (by decide)
              walk_at "g"
              refine ⟨⟨rfl, _, put_same⟩, ?_⟩
              walk_at "g"
              refine app_s put_same (by rw [List.length_map, List.length_map]; exact nd) ?_
              walk_at "g"
              rw [put_put]
              refine ⟨z.length - wordEnd z.cps.toList i d, _, Nat.sub_lt_sub_left hlt (by rw [he]; exact Nat.lt_add_of_pos_right s2), Le.refl _, ⟨wordEnd z.cps.toList i d, done ++ [(i, wd)], _, _, rfl, ?_, by rw [he]; exact s3, ?_, ?_⟩, rfl⟩
              · rw [List.map_append, List.map_append]; rfl
              · intro x hx
                rcases List.mem_append.mp hx with y | y
                · exact gd x y
                · rw [List.mem_singleton.mp y]; exact gb
              · rw [hr2, hw, he, List.append_assoc]; rfl
        · walk_at "g"
          have hn : z.cps.toList.drop i = [] := List.drop_eq_nil_of_le (Int.ofNat_le.mp (Int.not_lt.mp (of_decide_eq_false c)))
          rw [hn, Mth.runs_nil, List.append_nil] at hr2
          have hw : wrongT z = [] := by unfold wrongT; rw [hr2]; exact Mth.wrong_nil gd
          rw [hw] at q
          have := q _ rfl p hp
          unfold foundT at this
          rw [hr2] at this
          exact this
  · refine bEt (by simp [ht]) ?_
    walk_at "g"
    exact ⟨_, rfl, ⟨by decide, by decide⟩, fun a ha => r 0 (outU_no hk ht) a ha⟩
end
set_option maxHeartbeats 1000000
open PySem PySem.Spec PyProof.Rows L2 L3 XC N1
structure Sm (n : Nat) (z : Str) : Prop where
  len : z.length ≤ n
  ok : ∀ c ∈ z.cps.toList, c < 1114112
section
variable {n m : Nat} {x y z : Str}
theorem Sm.mono (h : Sm n z) (l : n ≤ m) : Sm m z := ⟨Nat.le_trans h.len l, h.ok⟩
theorem Sm.app (a : Sm n x) (b : Sm m y) : Sm (n + m) (x ++ y) := ⟨by rw [strLen_append]; exact Nat.add_le_add a.len b.len, fun c hc => by
  have e : (x ++ y).cps.toList = x.cps.toList ++ y.cps.toList := by show (x.cps ++ y.cps).toList = _; exact Array.toList_append
  rw [e] at hc
  exact (List.mem_append.mp hc).elim (a.ok c) (b.ok c)⟩
theorem Sm.cut (h : Sm n z) (lo hi : Option Int) : Sm n (cutS z lo hi) := by
  refine ⟨?_, fun c hc => h.ok c ?_⟩
  · show (List.toArray _).size ≤ n
    rw [List.size_toArray]
    refine Nat.le_trans (List.length_take_le' _ _) (Nat.le_trans ?_ h.len)
    rw [List.length_drop]
    exact Nat.sub_le _ _
  · have : c ∈ (z.cps.toList.drop (HT.sIx z.length 0 lo)).take (HT.sIx z.length z.length hi - HT.sIx z.length 0 lo) := hc
    exact List.mem_of_mem_drop (List.mem_of_mem_take this)
theorem Sm.rep (h : Sm n z) (k : Nat) : Sm (k * n) (repS z k) := by
  refine ⟨by rw [repS_length]; exact Nat.mul_le_mul_left k h.len, fun c hc => ?_⟩
  have : c ∈ (List.replicate k z.cps.toList).flatten := hc
  obtain ⟨l, hl, hc⟩ := List.mem_flatten.mp this
  rw [(List.mem_replicate.mp hl).2] at hc
  exact h.ok c hc
theorem Sm.strOk (h : Sm n z) : PyData.strOk z = true := by
  show (z.cps.all fun c => decide (c < 1114112)) = true
  rw [← Array.all_toList, List.all_eq_true]
  intro c hc
  exact decide_eq_true (h.ok c hc)
noncomputable def smB (n : Nat) (z : Str) : Bool := decide (z.length ≤ n) && z.cps.toList.all fun c => decide (c < 1114112)
theorem Sm.of (h : smB n z = true) : Sm n z := by
  unfold smB at h
  rw [Bool.and_eq_true, List.all_eq_true] at h
  exact ⟨of_decide_eq_true h.1, fun c hc => of_decide_eq_true (h.2 c hc)⟩
theorem sm_mem {zs : List Str} (h : zs.all (smB n) = true) : ∀ z ∈ zs, Sm n z := fun z hz => Sm.of (List.all_eq_true.mp h z hz)
theorem sm_one {c : Nat} (h : c < 1114112) : Sm 1 ⟨#[c]⟩ := ⟨Nat.le_refl _, fun d hd => by
  have : d ∈ [c] := hd
  rw [List.mem_singleton.mp this]; exact h⟩
theorem sm_arr {cs : List Nat} (h : cs.length ≤ n) (ok : ∀ c ∈ cs, c < 1114112) : Sm n ⟨cs.toArray⟩ := ⟨by show (List.toArray cs).size ≤ n; rw [List.size_toArray]; exact h, ok⟩
end
theorem pickS {zs : List Str} {i : Int} {f : U → Prop} (h0 : 0 ≤ i) (h1 : i < zs.length) (q : ∀ z ∈ zs, f (.str z)) : oE (atI (zs.map U.str) i) f := by
  have hi : i.toNat < zs.length := by omega
  have e : i = ((i.toNat : Nat) : Int) := by omega
  rw [e]
  exact oE_some (atI_nat (v := U.str zs[i.toNat]) (by rw [List.getElem?_map, List.getElem?_eq_getElem hi]; rfl)) (q _ (List.getElem_mem hi))
theorem pickI {ns : List Int} {i : Int} {f : U → Prop} (h0 : 0 ≤ i) (h1 : i < ns.length) (q : ∀ n ∈ ns, f (.int n)) : oE (atI (ns.map U.int) i) f := by
  have hi : i.toNat < ns.length := by omega
  have e : i = ((i.toNat : Nat) : Int) := by omega
  rw [e]
  exact oE_some (atI_nat (v := U.int ns[i.toNat]) (by rw [List.getElem?_map, List.getElem?_eq_getElem hi]; rfl)) (q _ (List.getElem_mem hi))
theorem pickC {cs : List Nat} {i : Int} {f : Nat → Prop} (h0 : 0 ≤ i) (h1 : i < cs.length) (q : ∀ c ∈ cs, f c) : oE (atI cs i) f := by
  have hi : i.toNat < cs.length := by omega
  have e : i = ((i.toNat : Nat) : Int) := by omega
  rw [e]
  exact oE_some (atI_nat (List.getElem?_eq_getElem hi)) (q _ (List.getElem_mem hi))
theorem mod_in (x : Int) {n : Int} (h : 0 < n) : 0 ≤ x % n ∧ x % n < n := ⟨Int.emod_nonneg _ (Int.ne_of_gt h), Int.emod_lt_of_pos _ h⟩
theorem pickSm (zs : List Str) {x n : Int} {f : U → Prop} (hn : n = zs.length) (h : 0 < n) (q : ∀ z ∈ zs, f (.str z)) : oE (atI (zs.map U.str) (x % n)) f := pickS (mod_in x h).1 (hn ▸ (mod_in x h).2) q
theorem pickIm (ns : List Int) {x n : Int} {f : U → Prop} (hn : n = ns.length) (h : 0 < n) (q : ∀ k ∈ ns, f (.int k)) : oE (atI (ns.map U.int) (x % n)) f := pickI (mod_in x h).1 (hn ▸ (mod_in x h).2) q
theorem mulN {i : Nat} {j : Int} (h : i ≤ 1000) : IntMulOk (0 + (i : Int)) j := CMul.ok (.inl (by omega))
theorem kB {i : Nat} (h : i ≤ 900) : (0 ≤ 0 + (i : Int) ∧ 0 + (i : Int) ≤ 1000) ∧ 0 ≤ 50 + (0 + (i : Int)) ∧ 50 + (0 + (i : Int)) ≤ 1000 := by omega
theorem one9 (x : Int) : 0 ≤ 1 + x % 9 ∧ 1 + x % 9 < 10 := by omega
theorem smallD {d : Int} (h : 0 ≤ d ∧ d < 10) : d.natAbs.log2 < 1920 := smallI_of (by omega) (by omega)
theorem Sm.cuts {n : Nat} {z : Str} (h : Sm n z) (k : Int) : ∃ a b, a + b ≤ n ∧ Sm a (cutS z none (some k)) ∧ Sm b (cutS z (some k) none) := by
  refine ⟨_, _, ?_, ⟨Nat.le_refl _, (h.cut none (some k)).ok⟩, ⟨Nat.le_refl _, (h.cut (some k) none).ok⟩⟩
  refine Nat.le_trans ?_ h.len
  show (List.toArray _).size + (List.toArray _).size ≤ z.length
  have hk := HT.sIx_le z.length z.length (Nat.le_refl _) (some k)
  rw [List.size_toArray, List.size_toArray]
  exact Nat.le_trans (Nat.add_le_add (List.length_take_le _ _) (List.length_take_le _ _)) (Nat.le_of_eq (Nat.add_sub_cancel' hk))
theorem Sm.fit {n m : Nat} {x y : Str} (a : Sm n x) (b : Sm m y) (h : n + m ≤ 20000) : x.length + y.length ≤ sizeLine := Nat.le_trans (Nat.le_trans (Nat.add_le_add a.len b.len) h) (by decide)
theorem le_both {M M' : Mem} {a : Addr} {o : O} (l : Le M M') : Le (put M a o) (put M' a o) := fun b u q => by
  by_cases z : b = a
  · rw [z, put_same] at q ⊢; exact q
  · rw [put_ne z] at q ⊢; exact l b u q
noncomputable def figT (d : Int) : Nat := 48 + d.toNat
theorem figT_lt {m : Int} (h : 0 ≤ m ∧ m < 10) : figT m < 1114112 := by unfold figT; omega
theorem fig_str (d : Int) (h0 : 0 ≤ d) (h1 : d < 10) : Str.ofString (toString d) = one (figT d) := by
  have key : ∀ k : Fin 10, Str.ofString (toString ((k.1 : Nat) : Int)) = one (48 + k.1) := by decide +kernel
  have := key ⟨d.toNat, by omega⟩
  have e : ((d.toNat : Nat) : Int) = d := by omega
  rw [e] at this
  exact this
section
variable {P : Program} {w : World} {K : Frag} {mg : Str → Option Value} {base : Heap}
noncomputable def spToldW : Sp2 := fun us M Q => us = [] ∧ ∀ p, M p = none → Q (.ref p) (put M p (.lst (toldS.map U.str)))
noncomputable def st_l_told_words : Stmt := top 32
theorem sc_l_told_words : FnScope ["_law_some"] [] (defScope st_l_told_words) := ⟨rfl, rfl, rfl, by decide +kernel, rfl, by decide +kernel, by decide +kernel⟩
theorem c_l_told_words (F : FunM K mg "_law_told_words" st_l_told_words) : Cal2 P w K mg base 1 "_law_told_words" [] spToldW := by
  refine cal2 F sc_l_told_words (by rintro us M Q Q' k ⟨e, q⟩; exact ⟨e, fun p hp => k _ _ (q p hp)⟩) (by rintro us M Q ⟨e, _⟩; rw [e]; rfl) (fun _ _ _ _ _ _ us hl => by cases us with | nil => rfl | cons _ _ => cases hl) (hbody := fun f cdv A outer s H E hr => ?_)
  refine ⟨_, (qss_cons (qs_set (i := 0) sc_l_told_words.nd rfl (by first | exact Or.inl rfl | exact Or.inr rfl) (qe_lst (qa_cons qe_str (qa_cons qe_str (qa_cons qe_str (qa_cons qe_str (qa_cons qe_str (qa_cons qe_str (qa_cons qe_str (qa_cons qe_str (qa_cons qe_str (qa_cons qe_str (qa_cons qe_str (qa_cons qe_str (qa_cons qe_str qa_nil)))))))))))))))
      (qss_cons (qs_set (i := 0) sc_l_told_words.nd rfl (by first | exact Or.inl rfl | exact Or.inr rfl) (qe_op so_addL (qv 0) (qe_lst (qa_cons qe_str (qa_cons qe_str (qa_cons qe_str (qa_cons qe_str (qa_cons qe_str (qa_cons qe_str (qa_cons qe_str (qa_cons qe_str (qa_cons qe_str (qa_cons qe_str (qa_cons qe_str qa_nil))))))))))))))
      (qss_one (qs_ret (qe_op so_addL (qv 0) (qe_lst (qa_cons qe_str (qa_cons qe_str (qa_cons qe_str (qa_cons qe_str (qa_cons qe_str (qa_cons qe_str (qa_cons qe_str qa_nil))))))))))))), ?_⟩
  rintro us M Q cl ⟨rfl, q⟩
  walk_at "g"
  intro p1 h1
  walk_at "g"
  intro p2 h2
  walk_at "g"
  refine addL_s ((put_ne (mne put_same h2)).trans put_same) put_same (L3.small (Nat.le_of_ble_eq_true rfl)) fun p3 h3 => ?_
  walk_at "g"
  intro p4 h4
  walk_at "g"
  refine addL_s ((put_ne (mne put_same h4)).trans put_same) put_same (L3.small (Nat.le_of_ble_eq_true rfl)) fun p5 h5 => ?_
  exact cl _ _ _ (le_both ((((Le.new h1).trans (Le.new h2)).trans (Le.new h3)).trans (Le.new h4))) (q p5 (Le.free ((((Le.new h1).trans (Le.new h2)).trans (Le.new h3)).trans (Le.new h4)) h5))
noncomputable def spPiece : Sp2 := fun us M Q => ∃ c : Int, us = [.int c] ∧ ∀ z, Sm 8 z → Q (.str z) M
noncomputable def st_l_piece : Stmt := top 33
theorem sc_l_piece : FnScope ["_law_cell", "_law_more", "_law_kind", "_law_letters", "_law_size"] ["_law_cell"] (defScope st_l_piece) := ⟨rfl, rfl, rfl, by decide +kernel, rfl, by decide +kernel, by decide +kernel⟩
theorem c_l_piece (T : Bl mg) (c_l_told_words : Cal2 P w K mg base 1 "_law_told_words" [] spToldW) (F : FunM K mg "_law_piece" st_l_piece) : Cal2 P w K mg base 2 "_law_piece" ["_law_cell"] spPiece := by
  refine cal2 F sc_l_piece (by rintro us M Q Q' k ⟨c, e, q⟩; exact ⟨c, e, fun z hz => k _ _ (q z hz)⟩) (by rintro us M Q ⟨c, e, _⟩; rw [e]; rfl) (fun _ _ _ _ _ _ us hl => by obtain ⟨a, rfl⟩ := len1 hl; rfl) (hbody := fun f cdv A outer s H E hr => ?_)
  refine ⟨_, (qss_cons (qs_set (i := 1) sc_l_piece.nd rfl (by first | exact Or.inl rfl | exact Or.inr rfl) (qe_op so_fdiv (qv 0) qe_int))
      (qss_cons (qs_set (i := 2) sc_l_piece.nd rfl (by first | exact Or.inl rfl | exact Or.inr rfl) (qe_op so_mod (qv 0) qe_int))
      (qss_cons (qs_set (i := 3) sc_l_piece.nd rfl (by first | exact Or.inl rfl | exact Or.inr rfl) qe_str)
      (qss_cons (qs_if (qt_cmp (so_eq hr.units) (qv 2) qe_int (nomark _)) (qss_one (qs_ret (qe_ix sx_ref (qe_call0 c_l_told_words (hr.mono (by first | decide | omega)) rfl) (qe_op so_mod (qv 1) qe_int) (fun _ _ => rfl)))) qss_nil)
      (qss_cons (qs_if (qt_cmp (so_eq hr.units) (qv 2) qe_int (nomark _)) (qss_cons (qs_set (i := 4) sc_l_piece.nd rfl (by first | exact Or.inl rfl | exact Or.inr rfl) (qe_pick0 (qa_cons qe_int (qa_cons qe_int (qa_cons qe_int (qa_cons qe_int (qa_cons qe_int qa_nil))))) (qp_op so_mod so_mod_pu (qp_v 1) qp_int) (fun _ _ => rfl)))
      (qss_one (qs_ret (qe_bm PySem.F.plainAttrs_str PySem.F.slot_str_join PySem.F.type_str_join sm_join qe_str (qa_cons (qe_comp rfl (sqi_range1 rfl T.b_range (qa_cons (qv 4) qa_nil)) (fun _ _ _ _ _ => (qg_name (i := 0) (show List.Nodup (["_law_k", "_law_letters", "_law_more"] : List Str) by decide +kernel) rfl (by first | exact Or.inl rfl | exact Or.inr rfl))) (fun _ _ _ _ _ => qf_nil) (fun _ _ _ _ _ => (qe_ix sx_str (qv 1) (qe_op so_mod (qe_op so_addI (qe_op so_fdiv (qv 2) qe_int) (qe_op so_mul (qv 0) (qe_op so_addI qe_int (qe_op so_mod (qe_op so_fdiv (qv 2) qe_int) qe_int)))) qe_int) (fun _ _ => rfl))) (N := ["_law_k", "_law_letters", "_law_more"]) (ix := [none, some 3, some 1]) (by kernel_rfl)) qa_nil))))) qss_nil)
      (qss_cons (qs_if (qt_cmp (so_eq hr.units) (qv 2) qe_int (nomark _)) (qss_cons (qs_set (i := 4) sc_l_piece.nd rfl (by first | exact Or.inl rfl | exact Or.inr rfl) (qe_pick0 (qa_cons qe_int (qa_cons qe_int (qa_cons qe_int (qa_cons qe_int qa_nil)))) (qp_op so_mod so_mod_pu (qp_v 1) qp_int) (fun _ _ => rfl)))
      (qss_one (qs_ret (qe_op so_addS (qe_callTy sc_str (by rfl) T.b_str PyProof.Rows.boot_str (qa_cons (qe_op so_addI qe_int (qe_op so_mod (qe_op so_fdiv (qv 1) qe_int) qe_int)) qa_nil)) (qe_bm PySem.F.plainAttrs_str PySem.F.slot_str_join PySem.F.type_str_join sm_join qe_str (qa_cons (qe_comp rfl (sqi_range1 rfl T.b_range (qa_cons (qv 4) qa_nil)) (fun _ _ _ _ _ => (qg_name (i := 0) (show List.Nodup (["_law_k", "_law_more"] : List Str) by decide +kernel) rfl (by first | exact Or.inl rfl | exact Or.inr rfl))) (fun _ _ _ _ _ => qf_nil) (fun _ _ _ _ _ => (qe_callTy sc_str (by rfl) T.b_str PyProof.Rows.boot_str (qa_cons (qe_op so_mod (qe_op so_addI (qe_op so_fdiv (qv 1) qe_int) (qe_op so_mul (qv 0) (qe_op so_mod (qe_op so_fdiv (qv 1) qe_int) qe_int))) qe_int) qa_nil))) (N := ["_law_k", "_law_more"]) (ix := [none, some 1]) (by kernel_rfl)) qa_nil)))))) qss_nil)
      (qss_one (qs_ret (qe_pick0 (qa_cons qe_str (qa_cons qe_str (qa_cons qe_str (qa_cons qe_str (qa_cons qe_str (qa_cons qe_str (qa_cons qe_str (qa_cons qe_str qa_nil)))))))) (qp_op so_mod so_mod_pu (qp_v 1) qp_int) (fun _ _ => rfl)))))))))), ?_⟩
  rintro us M Q cl ⟨c, rfl, q⟩
  walk_at "g"
  refine bE2 (fun k => ?_) (fun k => ?_)
  · walk_at "g"
    refine ⟨rfl, fun p hp => ?_⟩
    walk_at "g"
    refine ixR_s put_same (pickSm toldS rfl (by decide) fun z hz => ?_)
    exact cl _ _ _ (Le.new hp) (q z (sm_mem (by decide +kernel) z hz))
  · walk_at "g"
    refine bE2 (fun k => ?_) (fun k => ?_)
    · walk_at "g"
      refine pickIm [1, 2, 3, 5, 8] rfl (by decide) fun size hs => ?_
      have hs' : 0 ≤ size ∧ size ≤ 8 := by
        have : ∀ x ∈ ([1, 2, 3, 5, 8] : List Int), 0 ≤ x ∧ x ≤ 8 := by decide
        exact this size hs
      walk_at "g"
      have hrl : (rngU 0 size.toNat).length = size.toNat := rngU_len _ _
      have h8 : size.toNat ≤ 8 := Int.toNat_le.mpr hs'.2
      refine Comp.inv (by rw [hrl]; exact L3.small (Nat.le_trans h8 (by decide))) (fun i ys σ M' => M' = M ∧ ∃ cs : List Nat, cs.length = i ∧ (∀ c ∈ cs, c < 1114112) ∧ ys = (cs.map one).map U.str ∧ ∃ v, σ = [v, some (.str abc), some (.int (c / 5))]) ⟨rfl, [], rfl, (fun _ h => by cases h), rfl, _, rfl⟩ ?_ ?_
      · rintro i x ys σ M' hx hy ⟨rfl, cs, hcs, hok, rfl, v, rfl⟩
        have hi : i < size.toNat := by have := lt_of hx; rw [hrl] at this; exact this
        rw [rngU_get _ _ _ hi] at hx
        cases hx
        have hm : IntMulOk (0 + (i : Int)) (1 + c / 5 / 130 % 25) := mulN (Nat.le_trans (Nat.le_of_lt hi) (Nat.le_trans h8 (by decide)))
        refine ⟨trivial, ?_⟩
        walk_at "g"
        refine oE_some (atI_abc _) ?_
        generalize c / 5 / 5 + (0 + (i : Int)) * (1 + c / 5 / 130 % 25) = m
        exact ⟨_, Le.refl _, rfl, cs ++ [letter m], by rw [List.length_append, hcs]; rfl, fun x hx => (List.mem_append.mp hx).elim (hok x) (fun z => by rw [List.mem_singleton.mp z]; exact Nat.lt_trans (letter_ok m).2 (by decide)), by rw [List.map_append, List.map_append]; rfl, _, rfl⟩
      · rintro ys σ M' ⟨rfl, cs, hcs, hok, rfl, v, rfl⟩
        rw [hrl] at hcs
        refine ⟨trivial, fun p hp => ?_⟩
        walk_at "g"
        refine join_s put_same (joinOk_ones (by rw [hcs]; exact Nat.le_trans h8 (by decide))) ?_
        rw [N1.join_ones]
        exact cl _ _ _ (Le.new hp) (q _ (sm_arr (by rw [hcs]; exact h8) hok))
    · walk_at "g"
      refine bE2 (fun k => ?_) (fun k => ?_)
      · walk_at "g"
        refine pickIm [0, 1, 2, 3] rfl (by decide) fun size hs => ?_
        have hs' : 0 ≤ size ∧ size ≤ 3 := by
          have : ∀ x ∈ ([0, 1, 2, 3] : List Int), 0 ≤ x ∧ x ≤ 3 := by decide
          exact this size hs
        walk_at "g"
        refine str_s (smallD (one9 _)) ?_
        walk_at "g"
        have hrl : (rngU 0 size.toNat).length = size.toNat := rngU_len _ _
        have h8 : size.toNat ≤ 3 := Int.toNat_le.mpr hs'.2
        refine Comp.inv (by rw [hrl]; exact L3.small (Nat.le_trans h8 (by decide))) (fun i ys σ M' => M' = M ∧ ∃ cs : List Nat, cs.length = i ∧ (∀ c ∈ cs, c < 1114112) ∧ ys = (cs.map one).map U.str ∧ ∃ v, σ = [v, some (.int (c / 5))]) ⟨rfl, [], rfl, (fun _ h => by cases h), rfl, _, rfl⟩ ?_ ?_
        · rintro i x ys σ M' hx hy ⟨rfl, cs, hcs, hok, rfl, v, rfl⟩
          have hi : i < size.toNat := by have := lt_of hx; rw [hrl] at this; exact this
          rw [rngU_get _ _ _ hi] at hx
          cases hx
          have hm : IntMulOk (0 + (i : Int)) (c / 5 / 360 % 10) := mulN (Nat.le_trans (Nat.le_of_lt hi) (Nat.le_trans h8 (by decide)))
          refine ⟨trivial, ?_⟩
          walk_at "g"
          have hm' := mod_in (c / 5 / 36 + (0 + (i : Int)) * (c / 5 / 360 % 10)) (n := 10) (by decide)
          refine str_s (smallD hm') ?_
          rw [fig_str _ hm'.1 hm'.2]
          generalize (c / 5 / 36 + (0 + (i : Int)) * (c / 5 / 360 % 10)) % 10 = m at hm'
          exact ⟨_, Le.refl _, rfl, cs ++ [figT m], by rw [List.length_append, hcs]; rfl, fun x hx => (List.mem_append.mp hx).elim (hok x) (fun z => by rw [List.mem_singleton.mp z]; exact figT_lt hm'), by rw [List.map_append, List.map_append]; rfl, _, rfl⟩
        · rintro ys σ M' ⟨rfl, cs, hcs, hok, rfl, v, rfl⟩
          rw [hrl] at hcs
          refine ⟨trivial, fun p hp => ?_⟩
          walk_at "g"
          refine join_s put_same (joinOk_ones (by rw [hcs]; exact Nat.le_trans h8 (by decide))) ?_
          have hm' := one9 (c / 5 / 4)
          rw [N1.join_ones, fig_str _ hm'.1 hm'.2]
          generalize 1 + c / 5 / 4 % 9 = m at hm'
          have s1 : Sm 1 (one (figT m)) := sm_one (figT_lt hm')
          have s2 : Sm 3 ⟨cs.toArray⟩ := sm_arr (by rw [hcs]; exact h8) hok
          refine addS_s (s1.fit s2 (by decide)) ?_
          exact cl _ _ _ (Le.new hp) (q _ ((s1.app s2).mono (by decide)))
      · walk_at "g"
        refine pickSm [".", ",", "0", ".", "then", "1000", "z9", "9z"] rfl (by decide) fun z hz => ?_
        exact q z (sm_mem (by decide +kernel) z hz)
noncomputable def spOdd : Sp2 := fun us M Q => ∃ c : Int, us = [.int c] ∧ ∀ z, Sm 11 z → Q (.str z) M
noncomputable def st_l_odd : Stmt := top 34
theorem sc_l_odd : FnScope ["_law_cell", "_law_more", "_law_some"] ["_law_cell"] (defScope st_l_odd) := ⟨rfl, rfl, rfl, by decide +kernel, rfl, by decide +kernel, by decide +kernel⟩
theorem c_l_odd (T : Bl mg) (F : FunM K mg "_law_odd" st_l_odd) : Cal2 P w K mg base 1 "_law_odd" ["_law_cell"] spOdd := by
  refine cal2 F sc_l_odd (by rintro us M Q Q' k ⟨c, e, q⟩; exact ⟨c, e, fun z hz => k _ _ (q z hz)⟩) (by rintro us M Q ⟨c, e, _⟩; rw [e]; rfl) (fun _ _ _ _ _ _ us hl => by obtain ⟨a, rfl⟩ := len1 hl; rfl) (hbody := fun f cdv A outer s H E hr => ?_)
  refine ⟨_, (qss_cons (qs_set (i := 1) sc_l_odd.nd rfl (by first | exact Or.inl rfl | exact Or.inr rfl) (qe_op so_fdiv (qv 0) qe_int))
      (qss_cons (qs_set (i := 2) sc_l_odd.nd rfl (by first | exact Or.inl rfl | exact Or.inr rfl) qe_str)
      (qss_cons (qs_if (qt_cmp so_lt (qe_op so_mod (qv 0) qe_int) qe_int (nomark _)) (qss_one (qs_ret (qe_ix sx_str (qv 2) (qe_op so_mod (qv 1) (qe_callB sc_len (by rfl) T.b_len PySem.boot_len (qa_cons (qv 2) qa_nil))) (fun _ _ => rfl)))) qss_nil)
      (qss_cons (qs_if (qt_cmp (so_eq hr.units) (qe_op so_mod (qv 0) qe_int) qe_int (nomark _)) (qss_one (qs_ret (qe_slice sl_sl qe_str qo_none (qo_some (qe_op so_addI qe_int (qe_op so_mod (qv 1) qe_int)))))) qss_nil)
      (qss_cons (qs_if (qt_cmp (so_eq hr.units) (qe_op so_mod (qv 0) qe_int) qe_int (nomark _)) (qss_one (qs_ret (qe_slice sl_sl qe_str qo_none (qo_some (qe_op so_addI qe_int (qe_op so_mod (qv 1) qe_int)))))) qss_nil)
      (qss_one (qs_ret (qe_pick0 (qa_cons qe_str (qa_cons qe_str (qa_cons qe_str (qa_cons qe_str (qa_cons qe_str (qa_cons qe_str (qa_cons qe_str (qa_cons qe_str (qa_cons qe_str (qa_cons qe_str qa_nil)))))))))) (qp_op so_mod so_mod_pu (qp_v 1) qp_int) (fun _ _ => rfl))))))))), ?_⟩
  rintro us M Q cl ⟨c, rfl, q⟩
  walk_at "g"
  refine bE2 (fun k => ?_) (fun k => ?_)
  · walk_at "g"
    refine pickC (Int.emod_nonneg _ (by decide)) (Int.emod_lt_of_pos _ (by decide)) fun d hd => ?_
    exact q _ ((sm_one ((Sm.of (n := 100) (by decide +kernel)).ok d hd)).mono (by decide))
  · walk_at "g"
    refine bE2 (fun k => ?_) (fun k => ?_)
    · walk_at "g"
      exact q _ ((Sm.of (by decide +kernel)).cut _ _)
    · walk_at "g"
      refine bE2 (fun k => ?_) (fun k => ?_)
      · walk_at "g"
        exact q _ ((Sm.of (by decide +kernel)).cut _ _)
      · walk_at "g"
        refine pickSm ["00", "01", "007", "0", "0a", "a0", "..", ",.", "0 0", "0000"] rfl (by decide) fun z hz => ?_
        exact q z (sm_mem (by decide +kernel) z hz)
noncomputable def spText : Sp2 := fun us M Q => ∃ ns : List Int, us = [.fl (ns.map U.int)] ∧ ∀ z, Sm 10000 z → Q (.str z) M
theorem cut30 (ns : List Int) : (cutI ns (some 1) (some 31)).length ≤ 30 := by
  unfold cutI
  cases ns with
  | nil => exact Nat.zero_le _
  | cons a r =>
    have h1 : HT.sIx (a :: r).length (a :: r).length (some 31) ≤ 31 := Nat.le_trans (Nat.le_of_eq (HT.sIx_nat _ _ 31)) (Nat.min_le_left _ _)
    have h2 : HT.sIx (a :: r).length 0 (some 1) = 1 := (HT.sIx_nat _ _ 1).trans (Nat.min_eq_left (Nat.succ_le_succ (Nat.zero_le _)))
    refine Nat.le_trans (List.length_take_le _ _) ?_
    rw [h2]
    exact Nat.sub_le_sub_right h1 1
structure Bl2 (mg : Str → Option Value) : Prop extends Bl mg where
  b_enumerate : mg "enumerate" = none
noncomputable def st_l_text : Stmt := top 35
theorem sc_l_text : FnScope ["_law_script", "_law_first", "_law_text_here", "_law_k", "_law_cell", "_law_more", "_law_at"] ["_law_script"] (defScope st_l_text) := ⟨rfl, rfl, rfl, by decide +kernel, rfl, by decide +kernel, by decide +kernel⟩
theorem c_l_text (T : Bl2 mg) (c_l_cell_at : Cal2 P w K mg base 1 "_law_cell_at" ["_law_script", "_law_k"] spCellAt) (c_l_mixed : Cal2 P w K mg base 1 "_law_mixed" ["_law_cell", "_law_k"] spMixed) (c_l_piece : Cal2 P w K mg base 2 "_law_piece" ["_law_cell"] spPiece) (c_l_odd : Cal2 P w K mg base 1 "_law_odd" ["_law_cell"] spOdd) (F : FunM K mg "_law_text" st_l_text) : Cal2 P w K mg base 3 "_law_text" ["_law_script"] spText := by
  refine cal2 F sc_l_text (by rintro us M Q Q' k ⟨c, e, q⟩; exact ⟨c, e, fun z hz => k _ _ (q z hz)⟩) (by rintro us M Q ⟨c, e, _⟩; rw [e]; rfl) (fun _ _ _ _ _ _ us hl => by obtain ⟨a, rfl⟩ := len1 hl; rfl) (hbody := fun f cdv A outer s H E hr => ?_)
  refine ⟨_, (qss_cons (qs_set (i := 1) sc_l_text.nd rfl (by first | exact Or.inl rfl | exact Or.inr rfl) (qe_call c_l_cell_at (hr.mono (by first | decide | omega)) rfl (qa_cons (qv 0) (qa_cons qe_int qa_nil))))
      (qss_cons (qs_set (i := 2) sc_l_text.nd rfl (by first | exact Or.inl rfl | exact Or.inr rfl) qe_str)
      (qss_cons (qs_for PassesOwn.never rfl (sqi_enum rfl T.b_enumerate (qa_cons (qe_slice sl_sl (qv 0) (qo_some qe_int) (qo_some qe_int)) qa_nil)) (qg_tup (n := 2) rfl (qgs_cons (qg_name (i := 3) sc_l_text.nd rfl (by first | exact Or.inl rfl | exact Or.inr rfl)) (qgs_cons (qg_name (i := 4) sc_l_text.nd rfl (by first | exact Or.inl rfl | exact Or.inr rfl)) qgs_nil))) (qss_cons (qs_set (i := 5) sc_l_text.nd rfl (by first | exact Or.inl rfl | exact Or.inr rfl) (qe_op so_fdiv (qe_call c_l_mixed (hr.mono (by first | decide | omega)) rfl (qa_cons (qv 4) (qa_cons (qv 3) qa_nil))) qe_int))
      (qss_one (qs_set (i := 2) sc_l_text.nd rfl (by first | exact Or.inl rfl | exact Or.inr rfl) (qe_op so_addS (qe_op so_addS (qv 2) (qe_call c_l_piece (hr.mono (by first | decide | omega)) rfl (qa_cons (qe_op so_fdiv (qv 5) qe_int) qa_nil))) (qe_pick0 (qa_cons qe_str (qa_cons qe_str (qa_cons qe_str (qa_cons qe_str (qa_cons qe_str (qa_cons qe_str (qa_cons qe_str (qa_cons qe_str qa_nil)))))))) (qp_op so_mod so_mod_pu (qp_v 5) qp_int) (fun _ _ => rfl)))))))
      (qss_cons (qs_set (i := 5) sc_l_text.nd rfl (by first | exact Or.inl rfl | exact Or.inr rfl) (qe_op so_fdiv (qe_call c_l_mixed (hr.mono (by first | decide | omega)) rfl (qa_cons (qv 1) (qa_cons qe_int qa_nil))) qe_int))
      (qss_cons (qs_for PassesOwn.never rfl (sqi_range1 rfl T.b_range (qa_cons (qe_pick0 (qa_cons qe_int (qa_cons qe_int (qa_cons qe_int (qa_cons qe_int qa_nil)))) (qp_op so_mod so_mod_pu (qp_v 5) qp_int) (fun _ _ => rfl)) qa_nil)) (qg_name (i := 3) sc_l_text.nd rfl (by first | exact Or.inl rfl | exact Or.inr rfl)) (qss_cons (qs_set (i := 6) sc_l_text.nd rfl (by first | exact Or.inl rfl | exact Or.inr rfl) (qe_op so_mod (qe_op so_fdiv (qe_call c_l_mixed (hr.mono (by first | decide | omega)) rfl (qa_cons (qv 5) (qa_cons (qv 3) qa_nil))) qe_int) (qe_op so_addI (qe_callB sc_len (by rfl) T.b_len PySem.boot_len (qa_cons (qv 2) qa_nil)) qe_int)))
      (qss_one (qs_set (i := 2) sc_l_text.nd rfl (by first | exact Or.inl rfl | exact Or.inr rfl) (qe_op so_addS (qe_op so_addS (qe_op so_addS (qe_slice sl_sl (qv 2) qo_none (qo_some (qv 6))) (qe_pick0 (qa_cons qe_str (qa_cons qe_str qa_nil)) (qp_op so_mod so_mod_pu (qp_op so_fdiv so_fdiv_pu (qp_v 5) qp_int) qp_int) (fun _ _ => rfl))) (qe_call c_l_odd (hr.mono (by first | decide | omega)) rfl (qa_cons (qe_op so_fdiv (qe_call c_l_mixed (hr.mono (by first | decide | omega)) rfl (qa_cons (qv 5) (qa_cons (qe_op so_addI qe_int (qv 3)) qa_nil))) qe_int) qa_nil))) (qe_slice sl_sl (qv 2) (qo_some (qv 6)) qo_none))))))
      (qss_cons (qs_if (qt_cmp (so_eq hr.units) (qe_op so_mod (qv 1) qe_int) qe_int (nomark _)) (qss_one (qs_ret (qe_slice sl_sl (qe_op so_addS (qe_op so_addS (qv 2) qe_str) (qe_op so_mulS qe_str qe_int)) qo_none (qo_some (qe_op so_addI qe_int (qe_op so_mod (qe_op so_fdiv (qv 1) qe_int) qe_int)))))) qss_nil)
      (qss_one (qs_ret (qv 2))))))))), ?_⟩
  rintro us M Q cl ⟨ns, rfl, q⟩
  walk_at "g"
  refine ⟨ns, 0, rfl, Int.le_refl _, ?_⟩
  generalize cellAt ns 0 = first
  walk_at "g"
  intro p hp
  rw [cut_ints]
  have h30 := cut30 ns
  generalize cutI ns (some 1) (some 31) = cs at h30
  walk_at "g"
  refine enum_l put_same ?_
  refine Walk.enumI (fun i σ M' => M' = put M p (.lst (cs.map U.int)) ∧ ∃ z o2 o3 o4 o5, Sm (10 * i) z ∧ σ = [some (.fl (ns.map U.int)), some (.int first), some (.str z), o2, o3, o4, o5]) ⟨rfl, _, _, _, _, _, Sm.of (by decide +kernel), rfl⟩ (fun i σ M' _ h => by rw [h.1]; exact put_same) ?_ ?_
  · rintro i n σ M' hi ⟨rfl, z, o2, o3, o4, o5, sz, rfl⟩
    have hi3 : i ≤ 30 := Nat.le_trans (Nat.le_of_lt (lt_of hi)) h30
    have hk := (kB (Nat.le_trans hi3 (by decide))).1
    have s3 : Sm 300 z := sz.mono (Nat.mul_le_mul_left 10 hi3)
    walk_at "g"
    refine ⟨n, _, rfl, hk.1, hk.2, ?_⟩
    walk_at "g"
    refine ⟨_, rfl, fun y sy => ?_⟩
    have f1 := s3.fit sy (by decide)
    walk_at "g"
    refine pickSm [" ", "\n", "  ", " ", "\n ", " ", " ", ""] rfl (by decide) fun v hv => ?_
    have sv : Sm 2 v := sm_mem (by decide +kernel) v hv
    have f2 := (s3.app sy).fit sv (by decide)
    walk_at "g"
    exact ⟨_, Le.refl _, rfl, _, _, _, _, _, ((sz.app sy).app sv).mono (Nat.le_of_eq ((Nat.add_assoc _ 8 2).trans (Nat.mul_succ 10 i).symm)), rfl⟩
  · rintro σ M' ⟨rfl, z, o2, o3, o4, o5, sz, rfl⟩
    have sz : Sm 300 z := sz.mono (Nat.mul_le_mul_left 10 h30)
    walk_at "g"
    refine ⟨_, _, rfl, by decide, by decide, ?_⟩
    generalize mixed first 41 = mo
    walk_at "g"
    refine pickIm [0, 0, 1, 2] rfl (by decide) fun tw ht => ?_
    have ht' : tw.toNat ≤ 2 ∧ 0 ≤ tw ∧ tw ≤ 2 := by
      have : ∀ x ∈ ([0, 0, 1, 2] : List Int), x.toNat ≤ 2 ∧ 0 ≤ x ∧ x ≤ 2 := by decide
      exact this tw ht
    walk_at "g"
    refine Walk.rng (fun i σ M' => M' = put M p (.lst (cs.map U.int)) ∧ ∃ z o2 o3 o5, Sm (300 + 12 * i) z ∧ σ = [some (.fl (ns.map U.int)), some (.int first), some (.str z), o2, o3, some (.int (mo / 7)), o5]) ⟨rfl, _, _, _, _, sz, rfl⟩ ?_ ?_
    · rintro i σ M' hi ⟨rfl, z, o2, o3, o5, sz, rfl⟩
      have hi2 : i ≤ 2 := Nat.le_trans (Nat.le_of_lt hi) ht'.1
      have hk := kB (Nat.le_trans hi2 (by decide))
      have s3 : Sm 324 z := sz.mono (Nat.add_le_add_left (Nat.mul_le_mul_left 12 hi2) 300)
      have hsz : z.length ≤ sizeLine := Nat.le_trans s3.len (by decide)
      have lp : (0 : Int) < (z.length : Int) + 1 := Int.lt_add_one_of_le (Int.natCast_nonneg _)
      walk_at "g"
      refine ⟨_, _, rfl, hk.1.1, hk.1.2, ?_⟩
      walk_at "g"
      refine pickSm [" ", ""] rfl (by decide) fun v hv => ?_
      have sv : Sm 1 v := sm_mem (by decide +kernel) v hv
      obtain ⟨a, b, hab, c1, c2⟩ := sz.cuts (mixed (mo / 7) (0 + (i : Int)) / 7 % ((z.length : Int) + 1))
      have k1 := s3.cut none (some (mixed (mo / 7) (0 + (i : Int)) / 7 % ((z.length : Int) + 1)))
      have k2 := s3.cut (some (mixed (mo / 7) (0 + (i : Int)) / 7 % ((z.length : Int) + 1))) none
      have f1 := k1.fit sv (by decide)
      walk_at "g"
      refine ⟨_, _, rfl, hk.2.1, hk.2.2, ?_⟩
      walk_at "g"
      refine ⟨_, rfl, fun y sy => ?_⟩
      have f2 := (k1.app sv).fit sy (by decide)
      have f3 := ((k1.app sv).app sy).fit k2 (by decide)
      walk_at "g"
      exact ⟨_, Le.refl _, rfl, _, _, _, _, (((c1.app sv).app sy).app c2).mono (by omega), rfl⟩
    · rintro σ M' ⟨rfl, z, o2, o3, o5, sz, rfl⟩
      have sz : Sm 324 z := sz.mono (Nat.add_le_add_left (Nat.mul_le_mul_left 12 ht'.1) 300)
      walk_at "g"
      refine bE2 (fun k => ?_) (fun k => ?_)
      · have s1 : Sm 1 (Str.ofString " ") := Sm.of (by decide +kernel)
        have s2 := (Sm.of (n := 17) (z := Str.ofString "exit a, then 3 . ") (by decide +kernel)).rep (Int.toNat 360)
        have e6 : Int.toNat 360 * 17 = 6120 := rfl
        rw [e6] at s2
        have f1 := sz.fit s1 (by decide)
        walk_at "g"
        refine mulS_s (by decide) (by decide) (Nat.le_trans (show (Str.ofString "exit a, then 3 . ").length * Int.toNat 360 ≤ 6120 by decide +kernel) (by decide)) ?_
        generalize repS (Str.ofString "exit a, then 3 . ") (Int.toNat 360) = rp at s2
        generalize Str.ofString " " = bl at s1
        have s3 := (sz.app s1).app s2
        have f2 := (sz.app s1).fit s2 (by decide)
        have f3 : (z ++ bl ++ rp).length ≤ sizeLine := Nat.le_trans s3.len (by decide)
        walk_at "g"
        exact cl _ _ _ (Le.new hp) (q _ ((s3.mono (by decide)).cut _ _))
      · walk_at "g"
        exact cl _ _ _ (Le.new hp) (q z (sz.mono (by decide)))
end
set_option maxHeartbeats 1000000
open PySem PySem.Spec PyProof.Rows L2 L3 XC N1
theorem runLen_all {cs : List Nat} : ∀ {w : List Nat}, (∀ c ∈ w, c ∈ cs) → runLen cs w = w.length
  | [], _ => rfl
  | c :: r, h => by
    unfold runLen
    rw [if_pos (h c List.mem_cons_self), runLen_all (w := r) fun d hd => h d (List.mem_cons_of_mem _ hd)]; rfl
theorem isRow_all {w : List Nat} {cs : Str} {most : Int} (h : ∀ c ∈ w, c ∈ cs.cps.toList) (ne : w ≠ []) : isRow (strL w) cs most = decide ((w.length : Int) ≤ most) := by
  have e : ((0 + runLen cs.cps.toList (((strL w).cps.toList).drop 0) : Nat) : Int) = (w.length : Int) := by
    show ((0 + runLen cs.cps.toList w : Nat) : Int) = _
    rw [runLen_all h]; omega
  have l : (strL w).length = w.length := List.size_toArray ..
  have p : 1 ≤ w.length := by cases w with | nil => exact absurd rfl ne | cons _ _ => simp
  unfold isRow
  rw [e, l, decide_eq_true (show (1 : Int) ≤ (w.length : Int) by omega), Bool.true_and, decide_eq_true rfl, Bool.and_true]
theorem isRow_not {c : Nat} {r : List Nat} {cs : Str} {most : Int} (h : c ∉ cs.cps.toList) : isRow (strL (c :: r)) cs most = false := by
  have e : ((0 + runLen cs.cps.toList (((strL (c :: r)).cps.toList).drop 0) : Nat) : Int) = 0 := by
    show ((0 + runLen cs.cps.toList (c :: r) : Nat) : Int) = _
    unfold runLen; rw [if_neg h]; rfl
  have l : (strL (c :: r)).length = r.length + 1 := List.size_toArray ..
  unfold isRow
  rw [e, l, decide_eq_false (show ¬ (0 : Int) = ((r.length + 1 : Nat) : Int) by omega), Bool.and_false]
theorem mark_head {c : Nat} {r : List Nat} (h : strL (c :: r) ∈ marksS) : c ∉ lettersL ∧ c ∉ figuresL := by
  have inj : ∀ z : Str, strL (c :: r) = z → z.cps.toList = c :: r := fun z e => by rw [← e]; rfl
  have : ∀ z ∈ marksS, ∀ c r, z.cps.toList = c :: r → c ∉ lettersL ∧ c ∉ figuresL := by
    intro z hz
    rcases List.mem_cons.mp hz with rfl | hz
    · intro c r e; cases e; decide +kernel
    · rcases List.mem_cons.mp hz with rfl | hz
      · intro c r e; cases e; decide +kernel
      · cases hz
  exact this _ h c r rfl
theorem word_L {w : List Nat} (h : ∀ c ∈ w, c ∈ lettersL) (ne : w ≠ []) : isWord (strL w) = decide (w.length < 9) := by
  cases w with
  | nil => exact absurd rfl ne
  | cons c r =>
    have hc := h c List.mem_cons_self
    have nf : c ∉ figuresL := of_decide_eq_false (dis_LF c (decide_eq_true hc))
    have nm : ¬ strL (c :: r) ∈ marksS := fun z => (mark_head z).1 hc
    unfold isWord isNumU
    rw [isRow_all h ne, isRow_not nf, Bool.false_and, decide_eq_false nm, Bool.or_false, Bool.or_false]
    exact decide_eq_decide.mpr (by omega)
theorem word_F {w : List Nat} (h : ∀ c ∈ w, c ∈ figuresL) (ne : w ≠ []) : isWord (strL w) = (decide (w.length < 5) && (decide (strL w = "0") || !decide (w.head? = some 48))) := by
  cases w with
  | nil => exact absurd rfl ne
  | cons c r =>
    have hc := h c List.mem_cons_self
    have nl : c ∉ lettersL := fun z => absurd hc (of_decide_eq_false (dis_LF c (decide_eq_true z)))
    have nm : ¬ strL (c :: r) ∈ marksS := fun z => (mark_head z).2 hc
    unfold isWord isNumU
    rw [isRow_all h ne, isRow_not nl, Bool.false_or, decide_eq_false nm, Bool.or_false]
    congr 1
    exact decide_eq_decide.mpr (by omega)
theorem word_O {c : Nat} (h1 : c ∉ lettersL) (h2 : c ∉ figuresL) : isWord (strL [c]) = decide (strL [c] ∈ marksS) := by
  unfold isWord isNumU
  rw [isRow_not h1, isRow_not h2, Bool.false_and, Bool.false_or, Bool.false_or]
section
variable {P : Program} {w : World} {K : Frag} {mg : Str → Option Value} {base : Heap}
noncomputable def spLWord : Sp2 := fun us M Q => ∃ v : List Nat, us = [.str (strL v)] ∧ Mth.Shape Lb Fb v ∧ v.length ≤ 100000 ∧ Q (.bl (isWord (strL v))) M
noncomputable def st_l_is_word : Stmt := top 37
theorem sc_l_is_word : FnScope ["_law_run"] ["_law_run"] (defScope st_l_is_word) := ⟨rfl, rfl, rfl, by decide +kernel, rfl, by decide +kernel, by decide +kernel⟩
theorem c_l_is_word (T : Bl mg) (F : FunM K mg "_law_is_word" st_l_is_word) : Cal2 P w K mg base 1 "_law_is_word" ["_law_run"] spLWord := by
  refine cal2 F sc_l_is_word (by rintro us M Q Q' k ⟨v, e, h, h', q⟩; exact ⟨v, e, h, h', k _ _ q⟩) (by rintro us M Q ⟨v, e, _⟩; rw [e]; rfl) (fun _ _ _ _ _ _ us hl => by obtain ⟨a, rfl⟩ := len1 hl; rfl) (hbody := fun f cdv A outer s H E hr => ?_)
  refine ⟨_, (qss_cons (qs_if (qt_cmp so_in (qv 0) (qe_tup (qa_cons qe_str (qa_cons qe_str qa_nil))) (by with_unfolding_all rfl)) (qss_one (qs_ret qe_bl)) qss_nil)
      (qss_cons (qs_if (qt_cmp o_inS (qe_ix sx_str (qv 0) qe_int (fun _ _ => rfl)) qe_str (by with_unfolding_all rfl)) (qss_one (qs_ret (qe_cmp so_lt (qe_callB sc_len (by rfl) T.b_len PySem.boot_len (qa_cons (qv 0) qa_nil)) qe_int (nomark _)))) qss_nil)
      (qss_one (qs_ret (qe_and (qe_cmp o_inS (qe_ix sx_str (qv 0) qe_int (fun _ _ => rfl)) qe_str (by with_unfolding_all rfl)) (qe_and (qe_cmp so_lt (qe_callB sc_len (by rfl) T.b_len PySem.boot_len (qa_cons (qv 0) qa_nil)) qe_int (nomark _)) (qe_one (qe_or (qe_cmp (so_eq hr.units) (qv 0) qe_str (nomark _)) (qe_one (qe_cmp (so_ne hr.units) (qe_ix sx_str (qv 0) qe_int (fun _ _ => rfl)) qe_str (nomark _))))))))))), ?_⟩
  rintro us M Q cl ⟨v, rfl, sh, h1, q⟩
  have l : (strL v).length = v.length := List.size_toArray ..
  have hz : (strL v).length ≤ sizeLine := Nat.le_trans (by rw [l]; exact h1) (show 100000 ≤ sizeLine by decide)
  walk_at "g"
  refine in_t marksS ?_
  walk_at "g"
  obtain ⟨c, r, rfl⟩ : ∃ c r, v = c :: r := by
    rcases sh with ⟨n, _⟩ | ⟨n, _⟩ | ⟨c, e, _⟩
    · exact List.exists_cons_of_ne_nil n
    · exact List.exists_cons_of_ne_nil n
    · exact ⟨c, [], e⟩
  have hc : (strL (c :: r)).cps.toList[0]? = some c := rfl
  refine bE2 (fun m => ?_) (fun m => ?_)
  · have m' : strL (c :: r) ∈ marksS := of_decide_eq_true m
    obtain ⟨n1, n2⟩ := mark_head m'
    walk_at "g"
    rcases sh with ⟨_, a⟩ | ⟨_, a⟩ | ⟨d, e, _⟩
    · exact absurd (of_decide_eq_true (a c List.mem_cons_self)) n1
    · exact absurd (of_decide_eq_true (a c List.mem_cons_self)) n2
    · cases e
      rw [word_O n1 n2, decide_eq_true m'] at q
      exact q
  · walk_at "g"
    refine oE_some (atI_nat (j := 0) hc) ?_
    walk_at "g"
    refine ⟨_, _, rfl, rfl, ?_⟩
    walk_at "g"
    rw [if_neg Bool.false_ne_true]
    refine bE2 (fun d => ?_) (fun d => ?_)
    · rw [hasT_one] at d
      have d' : c ∈ lettersL := of_decide_eq_true d
      walk_at "g"
      have hl : ∀ x ∈ c :: r, x ∈ lettersL := by
        rcases sh with ⟨_, a⟩ | ⟨_, a⟩ | ⟨x, e, a, _⟩
        · exact fun x hx => of_decide_eq_true (a x hx)
        · exact absurd (of_decide_eq_true (a c List.mem_cons_self)) (of_decide_eq_false (dis_LF c d))
        · cases e; exact absurd d' (of_decide_eq_false a)
      rw [word_L hl (by simp)] at q
      rw [l]
      have : decide ((((c :: r).length : Nat) : Int) < 9) = decide ((c :: r).length < 9) := decide_eq_decide.mpr (by omega)
      rw [this]
      exact q
    · rw [hasT_one] at d
      have d' : c ∉ lettersL := of_decide_eq_false d
      walk_at "g"
      refine oE_some (atI_nat (j := 0) hc) ?_
      walk_at "g"
      refine ⟨_, _, rfl, rfl, ?_⟩
      walk_at "g"
      rw [if_neg Bool.false_ne_true]
      refine bE2 (fun g => ?_) (fun g => ?_)
      · rw [hasT_one] at g
        have g' : c ∈ figuresL := of_decide_eq_true g
        have hf : ∀ x ∈ c :: r, x ∈ figuresL := by
          rcases sh with ⟨_, a⟩ | ⟨_, a⟩ | ⟨x, e, _, a⟩
          · exact absurd (of_decide_eq_true (a c List.mem_cons_self)) d'
          · exact fun x hx => of_decide_eq_true (a x hx)
          · cases e; exact absurd g' (of_decide_eq_false a)
        rw [word_F hf (by simp)] at q
        walk_at "g"
        rw [l]
        have e5 : decide ((((c :: r).length : Nat) : Int) < 5) = decide ((c :: r).length < 5) := decide_eq_decide.mpr (by omega)
        rw [e5]
        refine bE2 (fun b => ?_) (fun b => ?_)
        · rw [b, Bool.true_and] at q
          walk_at "g"
          refine bE2 (fun b2 => ?_) (fun b2 => ?_)
          · rw [b2, Bool.true_or] at q
            walk_at "g"
            exact q
          · rw [b2, Bool.false_or] at q
            walk_at "g"
            refine oE_some (atI_nat (j := 0) hc) ?_
            walk_at "g"
            have : decide ((⟨#[c]⟩ : Str) = "0") = decide ((c :: r).head? = some 48) := decide_eq_decide.mpr (by
              rw [show ("0" : Str) = ⟨#[48]⟩ from rfl]
              constructor
              · intro e; rw [Str.mk.injEq] at e; have := congrArg (fun a : Array Nat => a.toList) e; simp only [List.cons.injEq] at this; rw [this.1]; rfl
              · intro e; rw [Option.some.inj e])
            rw [← this] at q
            exact q
        · rw [b, Bool.false_and] at q
          walk_at "g"
          exact q
      · rw [hasT_one] at g
        have g' : c ∉ figuresL := of_decide_eq_false g
        walk_at "g"
        rcases sh with ⟨_, a⟩ | ⟨_, a⟩ | ⟨x, e, _⟩
        · exact absurd (of_decide_eq_true (a c List.mem_cons_self)) d'
        · exact absurd (of_decide_eq_true (a c List.mem_cons_self)) g'
        · cases e
          have m' : decide (strL [c] ∈ marksS) = false := m
          rw [word_O d' g', m'] at q
          exact q
noncomputable def runU (r : Mth.Run) : U := .tup [.int r.1, .str (strL r.2)]
noncomputable def srtN : Mth.Srt → Str
  | .blank => "blank"
  | .other => "other"
  | .letter => "letter"
  | .figure => "figure"
theorem bEfS {b a : Str} {A B : Prop} (h : hasT b a = false) (q : B) : bE (if false = true then !hasT b a else hasT b a) A B := by rw [if_neg Bool.false_ne_true, h]; exact q
theorem bEtS {b a : Str} {A B : Prop} (h : hasT b a = true) (q : A) : bE (if false = true then !hasT b a else hasT b a) A B := by rw [if_neg Bool.false_ne_true, h]; exact q
theorem bE_sw {b : Bool} {A B : Prop} (hB : B) (hA : b = true → B → A) : bE b A B := by
  cases b with
  | true => exact hA rfl hB
  | false => exact hB
theorem srtN_ne {a b : Mth.Srt} (h : a ≠ b) : decide (srtN a = srtN b) = false := by
  apply decide_eq_false
  cases a <;> cases b <;> first | exact absurd rfl h | decide +kernel
theorem strL_snoc (l : List Nat) (c : Nat) : strL l ++ ⟨#[c]⟩ = strL (l ++ [c]) := by
  show (⟨l.toArray ++ #[c]⟩ : Str) = ⟨(l ++ [c]).toArray⟩
  simp
theorem setLast (gs : List Mth.Run) (a b : Mth.Run) : ((gs ++ [a]).map runU).set gs.length (runU b) = (gs ++ [b]).map runU := by
  rw [List.map_append, List.map_append, List.set_append, if_neg (by rw [List.length_map]; omega), List.length_map, Nat.sub_self]; rfl
theorem lastRun (gs : List Mth.Run) (q0 : Nat) (wd : List Nat) : atI ((gs ++ [(q0, wd)]).map runU) (-1) = some (.tup [.int q0, .str (strL wd)]) := by
  apply atI_neg1
  rw [List.length_map, List.length_append, List.length_singleton, Nat.add_sub_cancel, List.getElem?_map, List.getElem?_append_right (Nat.le_refl _), Nat.sub_self]; rfl
theorem ixLast (n : Nat) : ixN (n + 1) (-1) = some n := by
  unfold ixN
  rw [if_neg (by decide), if_pos (by omega)]
  congr 1
  omega
noncomputable def spRuns : Sp2 := fun us M Q => ∃ z : Str, us = [.str z] ∧ z.length ≤ 6000 ∧ ∀ p, M p = none → Q (.ref p) (put M p (.lst ((runsT z).map runU)))
noncomputable def goT (z : Str) (k : Nat) : List Mth.Run × Mth.Srt := Mth.goF Lb Fb Bb 0 (z.cps.toList.take k) ([], .blank)
theorem goT_next {z : Str} {k c : Nat} (h : z.cps.toList[k]? = some c) : goT z (k + 1) = Mth.step Lb Fb Bb k c (goT z k) := by
  unfold goT
  have hk := (List.getElem?_eq_some_iff.mp h).1
  rw [List.take_add_one, h]
  have := Mth.goF_snoc Lb Fb Bb (z.cps.toList.take k) 0 c ([], .blank)
  rw [Nat.zero_add, List.length_take, Nat.min_eq_left (Nat.le_of_lt hk)] at this
  exact this
theorem goT_len {z : Str} : ∀ k, (goT z k).1.length ≤ k
  | 0 => Nat.le_refl _
  | k + 1 => by
    cases h : z.cps.toList[k]? with
    | none =>
      have : goT z (k + 1) = goT z k := by
        unfold goT
        rw [List.take_add_one, h]; simp
      rw [this]
      exact Nat.le_trans (goT_len k) (Nat.le_succ _)
    | some c =>
      rw [goT_next h]
      have ih := goT_len (z := z) k
      generalize goT z k = fl at ih
      unfold Mth.step
      dsimp only
      split
      · simp only [List.length_append, List.length_dropLast]
        cases fl.1.getLast? <;> simp <;> omega
      · split
        · simp only [List.length_append, List.length_singleton]; omega
        · exact Nat.le_trans ih (Nat.le_succ _)
theorem goT_wl {z : Str} : ∀ k, ∀ r ∈ (goT z k).1, r.2.length ≤ k
  | 0 => fun r h => by cases h
  | k + 1 => by
    cases h : z.cps.toList[k]? with
    | none =>
      have : goT z (k + 1) = goT z k := by
        unfold goT
        rw [List.take_add_one, h]; simp
      rw [this]
      exact fun r hr => Nat.le_trans (goT_wl k r hr) (Nat.le_succ _)
    | some c =>
      rw [goT_next h]
      have ih := goT_wl (z := z) k
      generalize goT z k = fl at ih
      unfold Mth.step
      dsimp only
      intro r hr
      split at hr
      · rcases List.mem_append.mp hr with y | y
        · exact Nat.le_trans (ih r (List.dropLast_sublist _ |>.subset y)) (Nat.le_succ _)
        · cases e : fl.1.getLast? with
          | none => rw [e] at y; cases y
          | some v =>
            rw [e] at y
            rw [List.mem_singleton.mp y]
            have := ih v (List.mem_of_getLast? e)
            show (v.2 ++ [c]).length ≤ k + 1
            rw [List.length_append]; exact Nat.succ_le_succ this
      · split at hr
        · rcases List.mem_append.mp hr with y | y
          · exact Nat.le_trans (ih r y) (Nat.le_succ _)
          · rw [List.mem_singleton.mp y]; exact Nat.succ_le_succ (Nat.zero_le _)
        · exact Nat.le_trans (ih r hr) (Nat.le_succ _)
noncomputable def st_l_runs : Stmt := top 36
theorem sc_l_runs : FnScope ["_law_text_here", "_law_found", "_law_last", "_law_at", "_law_mark", "_law_sort"] ["_law_text_here"] (defScope st_l_runs) := ⟨rfl, rfl, rfl, by decide +kernel, rfl, by decide +kernel, by decide +kernel⟩
theorem c_l_runs (T : Bl2 mg) (F : FunM K mg "_law_runs" st_l_runs) : Cal2 P w K mg base 1 "_law_runs" ["_law_text_here"] spRuns := by
  refine cal2 F sc_l_runs (by rintro us M Q Q' k ⟨z, e, h, q⟩; exact ⟨z, e, h, fun p hp => k _ _ (q p hp)⟩) (by rintro us M Q ⟨v, e, _⟩; rw [e]; rfl) (fun _ _ _ _ _ _ us hl => by obtain ⟨a, rfl⟩ := len1 hl; rfl) (hbody := fun f cdv A outer s H E hr => ?_)
  refine ⟨_, (qss_cons (qs_set (i := 1) sc_l_runs.nd rfl (by first | exact Or.inl rfl | exact Or.inr rfl) (qe_lst qa_nil))
      (qss_cons (qs_set (i := 2) sc_l_runs.nd rfl (by first | exact Or.inl rfl | exact Or.inr rfl) qe_str)
      (qss_cons (qs_for PassesOwn.never rfl (sqi_enum rfl T.b_enumerate (qa_cons (qv 0) qa_nil)) (qg_tup (n := 2) rfl (qgs_cons (qg_name (i := 3) sc_l_runs.nd rfl (by first | exact Or.inl rfl | exact Or.inr rfl)) (qgs_cons (qg_name (i := 4) sc_l_runs.nd rfl (by first | exact Or.inl rfl | exact Or.inr rfl)) qgs_nil))) (qss_cons (qs_set (i := 5) sc_l_runs.nd rfl (by first | exact Or.inl rfl | exact Or.inr rfl) (qe_ifExp (qt_cmp o_inS (qv 4) qe_str (by with_unfolding_all rfl)) qe_str qe_str))
      (qss_cons (qs_if (qt_cmp o_inS (qv 4) qe_str (by with_unfolding_all rfl)) (qss_one (qs_set (i := 5) sc_l_runs.nd rfl (by first | exact Or.inl rfl | exact Or.inr rfl) qe_str)) qss_nil)
      (qss_cons (qs_if (qt_cmp o_inS (qv 4) qe_str (by with_unfolding_all rfl)) (qss_one (qs_set (i := 5) sc_l_runs.nd rfl (by first | exact Or.inl rfl | exact Or.inr rfl) qe_str)) qss_nil)
      (qss_cons (qs_if (QW.qt (qw_and (qt_cmp (so_eq hr.units) (qv 5) (qv 2) (nomark _)) (qw_and1 (qt_cmp so_in (qv 5) (qe_tup (qa_cons qe_str (qa_cons qe_str qa_nil))) (by with_unfolding_all rfl))))) (qss_one (qs_asg (qe_tup (qa_cons (sq_ixN (n := 0) (qe_ix sx_ref (qv 1) (qe_un su_neg qe_int) (fun _ _ => rfl)) (fun _ _ => rfl)) (qa_cons (qe_op so_addS (sq_ixN (n := 1) (qe_ix sx_ref (qv 1) (qe_un su_neg qe_int) (fun _ _ => rfl)) (fun _ _ => rfl)) (qv 4)) qa_nil))) (qg_sub (qv 1) (qe_un su_neg qe_int) ss_set))) (qss_one (qs_if (qt_cmp (so_ne hr.units) (qv 5) qe_str (nomark _)) (qss_one (qs_expr (qe_bm PySem.F.plainAttrs_list PySem.F.slot_list_append PySem.F.type_list_append sm_append (qv 1) (qa_cons (qe_tup (qa_cons (qv 3) (qa_cons (qv 4) qa_nil))) qa_nil)))) qss_nil)))
      (qss_one (qs_set (i := 2) sc_l_runs.nd rfl (by first | exact Or.inl rfl | exact Or.inr rfl) (qv 5))))))))
      (qss_one (qs_ret (qv 1)))))), ?_⟩
  rintro us M Q cl ⟨z, rfl, h1, q⟩
  walk_at "g"
  intro p hp
  walk_at "g"
  refine enum_s ?_
  refine Walk.inv (fun k σ M' => ∃ fs la o3 o4 o5, goT z k = (fs, la) ∧ σ = [some (.str z), some (.ref p), some (.str (srtN la)), o3, o4, o5] ∧ M' = put M p (.lst (fs.map runU))) ⟨[], .blank, none, none, none, rfl, rfl, rfl⟩ ?_ ?_
  · rintro k x σ M' hx ⟨fs, la, o3, o4, o5, hg, rfl, rfl⟩
    refine ⟨trivial, ?_⟩
    rw [enumU_get] at hx
    cases hc : z.cps.toList[k]? with
    | none => rw [show (chs z)[k]? = none by rw [List.getElem?_map, hc]; rfl] at hx; cases hx
    | some c =>
      rw [show (chs z)[k]? = some (.str ⟨#[c]⟩) by rw [List.getElem?_map, hc]; rfl] at hx
      cases hx
      have hk := (List.getElem?_eq_some_iff.mp hc).1
      have tl : z.length = z.cps.toList.length := by rw [Array.length_toList]; rfl
      have hl := goT_len (z := z) k
      have nx := goT_next hc
      have ne := Mth.go_ne Lb Fb Bb (z.cps.toList.take k) 0 ([], .blank) (by rintro (y | y) <;> cases y)
      rw [show Mth.goF Lb Fb Bb 0 (z.cps.toList.take k) ([], .blank) = goT z k from rfl, hg] at ne
      rw [hg] at hl nx
      have hl : fs.length ≤ k := hl
      have nf : fs.length < sizeLine := Nat.lt_of_le_of_lt (show fs.length ≤ 6000 by omega) (by decide)
      have hw : ∀ r ∈ fs, r.2.length ≤ k := by have := goT_wl (z := z) k; rw [hg] at this; exact this
      by_cases hF : c ∈ figuresL
      · have bF : Fb c = true := decide_eq_true hF
        have nL : c ∉ lettersL := fun z => absurd (dis_LF c (decide_eq_true z)) (by rw [bF]; decide)
        have nB : c ∉ partL := fun z => absurd (dis_B c (decide_eq_true z)).2 (by rw [bF]; decide)
        have hS : Mth.sortOf Lb Fb Bb c = .figure := by unfold Mth.sortOf; rw [bF]; rfl
        have tB : hasT (Str.ofString " \n") ⟨#[c]⟩ = false := (hasT_one _ c).trans (decide_eq_false nB)
        have tL : hasT (Str.ofString "abcdefghijklmnopqrstuvwxyz") ⟨#[c]⟩ = false := (hasT_one _ c).trans (decide_eq_false nL)
        have tF : hasT (Str.ofString "0123456789") ⟨#[c]⟩ = true := (hasT_one _ c).trans (decide_eq_true hF)
        walk_at "g"
        refine ⟨_, _, rfl, rfl, ?_⟩
        with_reducible refine bEfS tB ?_
        walk_at "g"
        refine ⟨_, _, rfl, rfl, ?_⟩
        with_reducible refine bEfS tL ?_
        walk_at "g"
        refine ⟨_, _, rfl, rfl, ?_⟩
        with_reducible refine bEtS tF ?_
        walk_at "g"
        by_cases hla : la = .figure
        · subst hla
          obtain ⟨gs, y, rfl⟩ : ∃ gs y, fs = gs ++ [y] := ⟨fs.dropLast, fs.getLast (ne (.inr rfl)), (List.dropLast_concat_getLast _).symm⟩
          obtain ⟨q0, wd⟩ := y
          have wl : wd.length ≤ k := hw (q0, wd) (List.mem_append_right _ List.mem_cons_self)
          have l1 : (strL wd).length = wd.length := List.size_toArray ..
          refine bEt (decide_eq_true rfl) ?_
          walk_at "g"
          refine in_t ["letter", "figure"] ?_
          walk_at "g"
          refine ixR_s put_same (oE_some (lastRun gs q0 wd) ?_)
          walk_at "g"
          refine ixR_s put_same (oE_some (lastRun gs q0 wd) ?_)
          walk_at "g"
          refine addS_s (a := strL wd) (b := ⟨#[c]⟩) (Nat.le_trans (show (strL wd).length + 1 ≤ 6001 by omega) (show 6001 ≤ sizeLine by decide)) ?_
          walk_at "g"
          refine set_s (j := gs.length) put_same ?_ ?_
          · rw [List.length_map, List.length_append]; exact ixLast _
          rw [put_put, strL_snoc]
          have sl := setLast gs (q0, wd) (q0, wd ++ [c])
          unfold runU at sl
          refine ⟨_, Le.refl _, gs ++ [(q0, wd ++ [c])], .figure, _, _, _, by rw [nx]; exact Mth.step_on Lb Fb Bb hS (.inr rfl), rfl, ?_⟩
          exact congrArg (fun l => put M p (.lst l)) sl
        · refine bEf (srtN_ne (a := .figure) fun z => hla z.symm) ?_
          walk_at "g"
          refine ⟨⟨rfl, _, put_same⟩, ?_⟩
          walk_at "g"
          refine app_s put_same (by rw [List.length_map]; exact nf) ?_
          walk_at "g"
          rw [put_put]
          refine ⟨_, Le.refl _, fs ++ [(k, [c])], .figure, _, _, _, ?_, rfl, ?_⟩
          · rw [nx, Mth.step_off Lb Fb Bb (.inl (by rw [hS]; exact fun z => hla z.symm)), hS]; rfl
          · rw [List.map_append, Int.zero_add]; rfl
      · have bF : Fb c = false := decide_eq_false hF
        by_cases hL : c ∈ lettersL
        · have bL : Lb c = true := decide_eq_true hL
          have nB : c ∉ partL := fun z => absurd (dis_B c (decide_eq_true z)).1 (by rw [bL]; decide)
          have hS : Mth.sortOf Lb Fb Bb c = .letter := by unfold Mth.sortOf; rw [bF, bL]; rfl
          have tB : hasT (Str.ofString " \n") ⟨#[c]⟩ = false := (hasT_one _ c).trans (decide_eq_false nB)
          have tL : hasT (Str.ofString "abcdefghijklmnopqrstuvwxyz") ⟨#[c]⟩ = true := (hasT_one _ c).trans (decide_eq_true hL)
          have tF : hasT (Str.ofString "0123456789") ⟨#[c]⟩ = false := (hasT_one _ c).trans (decide_eq_false hF)
          walk_at "g"
          refine ⟨_, _, rfl, rfl, ?_⟩
          with_reducible refine bEfS tB ?_
          walk_at "g"
          refine ⟨_, _, rfl, rfl, ?_⟩
          with_reducible refine bEtS tL ?_
          walk_at "g"
          refine ⟨_, _, rfl, rfl, ?_⟩
          with_reducible refine bEfS tF ?_
          walk_at "g"
          by_cases hla : la = .letter
          · subst hla
            obtain ⟨gs, y, rfl⟩ : ∃ gs y, fs = gs ++ [y] := ⟨fs.dropLast, fs.getLast (ne (.inl rfl)), (List.dropLast_concat_getLast _).symm⟩
            obtain ⟨q0, wd⟩ := y
            have wl : wd.length ≤ k := hw (q0, wd) (List.mem_append_right _ List.mem_cons_self)
            have l1 : (strL wd).length = wd.length := List.size_toArray ..
            refine bEt (decide_eq_true rfl) ?_
            walk_at "g"
            refine in_t ["letter", "figure"] ?_
            walk_at "g"
            refine ixR_s put_same (oE_some (lastRun gs q0 wd) ?_)
            walk_at "g"
            refine ixR_s put_same (oE_some (lastRun gs q0 wd) ?_)
            walk_at "g"
            refine addS_s (a := strL wd) (b := ⟨#[c]⟩) (Nat.le_trans (show (strL wd).length + 1 ≤ 6001 by omega) (show 6001 ≤ sizeLine by decide)) ?_
            walk_at "g"
            refine set_s (j := gs.length) put_same ?_ ?_
            · rw [List.length_map, List.length_append]; exact ixLast _
            rw [put_put, strL_snoc]
            have sl := setLast gs (q0, wd) (q0, wd ++ [c])
            unfold runU at sl
            refine ⟨_, Le.refl _, gs ++ [(q0, wd ++ [c])], .letter, _, _, _, by rw [nx]; exact Mth.step_on Lb Fb Bb hS (.inl rfl), rfl, ?_⟩
            exact congrArg (fun l => put M p (.lst l)) sl
          · refine bEf (srtN_ne (a := .letter) fun z => hla z.symm) ?_
            walk_at "g"
            refine ⟨⟨rfl, _, put_same⟩, ?_⟩
            walk_at "g"
            refine app_s put_same (by rw [List.length_map]; exact nf) ?_
            walk_at "g"
            rw [put_put]
            refine ⟨_, Le.refl _, fs ++ [(k, [c])], .letter, _, _, _, ?_, rfl, ?_⟩
            · rw [nx, Mth.step_off Lb Fb Bb (.inl (by rw [hS]; exact fun z => hla z.symm)), hS]; rfl
            · rw [List.map_append, Int.zero_add]; rfl
        · have bL : Lb c = false := decide_eq_false hL
          by_cases hB : c ∈ partL
          · have bB : Bb c = true := decide_eq_true hB
            have hS : Mth.sortOf Lb Fb Bb c = .blank := by unfold Mth.sortOf; rw [bF, bL, bB]; rfl
            have tB : hasT (Str.ofString " \n") ⟨#[c]⟩ = true := (hasT_one _ c).trans (decide_eq_true hB)
            have tL : hasT (Str.ofString "abcdefghijklmnopqrstuvwxyz") ⟨#[c]⟩ = false := (hasT_one _ c).trans (decide_eq_false hL)
            have tF : hasT (Str.ofString "0123456789") ⟨#[c]⟩ = false := (hasT_one _ c).trans (decide_eq_false hF)
            have st : Mth.step Lb Fb Bb k c (fs, la) = (fs, .blank) := by rw [Mth.step_off Lb Fb Bb (.inr (by rw [hS]; rintro (y | y) <;> cases y)), hS]; rfl
            walk_at "g"
            refine ⟨_, _, rfl, rfl, ?_⟩
            with_reducible refine bEtS tB ?_
            walk_at "g"
            refine ⟨_, _, rfl, rfl, ?_⟩
            with_reducible refine bEfS tL ?_
            walk_at "g"
            refine ⟨_, _, rfl, rfl, ?_⟩
            with_reducible refine bEfS tF ?_
            walk_at "g"
            refine bE_sw ?_ fun y hB => ?_
            · walk_at "g"
              exact ⟨_, Le.refl _, fs, .blank, _, _, _, by rw [nx, st], rfl, rfl⟩
            · walk_at "g"
              refine in_t ["letter", "figure"] ?_
              exact hB
          · have bB : Bb c = false := decide_eq_false hB
            have hS : Mth.sortOf Lb Fb Bb c = .other := by unfold Mth.sortOf; rw [bF, bL, bB]; rfl
            have tB : hasT (Str.ofString " \n") ⟨#[c]⟩ = false := (hasT_one _ c).trans (decide_eq_false hB)
            have tL : hasT (Str.ofString "abcdefghijklmnopqrstuvwxyz") ⟨#[c]⟩ = false := (hasT_one _ c).trans (decide_eq_false hL)
            have tF : hasT (Str.ofString "0123456789") ⟨#[c]⟩ = false := (hasT_one _ c).trans (decide_eq_false hF)
            have st : Mth.step Lb Fb Bb k c (fs, la) = (fs ++ [(k, [c])], .other) := by rw [Mth.step_off Lb Fb Bb (.inr (by rw [hS]; rintro (y | y) <;> cases y)), hS]; rfl
            walk_at "g"
            refine ⟨_, _, rfl, rfl, ?_⟩
            with_reducible refine bEfS tB ?_
            walk_at "g"
            refine ⟨_, _, rfl, rfl, ?_⟩
            with_reducible refine bEfS tL ?_
            walk_at "g"
            refine ⟨_, _, rfl, rfl, ?_⟩
            with_reducible refine bEfS tF ?_
            walk_at "g"
            refine bE_sw ?_ fun y hB => ?_
            · walk_at "g"
              refine ⟨⟨rfl, _, put_same⟩, ?_⟩
              walk_at "g"
              refine app_s put_same (by rw [List.length_map]; exact nf) ?_
              walk_at "g"
              rw [put_put]
              refine ⟨_, Le.refl _, fs ++ [(k, [c])], .other, _, _, _, by rw [nx, st], rfl, ?_⟩
              rw [List.map_append, Int.zero_add]; rfl
            · walk_at "g"
              refine in_t ["letter", "figure"] ?_
              exact hB
  · rintro σ M' ⟨fs, la, o3, o4, o5, hg, rfl, rfl⟩
    refine ⟨trivial, ?_⟩
    walk_at "g"
    have : goT z (enumU 0 (chs z)).length = Mth.goF Lb Fb Bb 0 z.cps.toList ([], .blank) := by
      unfold goT
      rw [enumU_len, List.length_map, List.take_length]
    rw [this] at hg
    have e : runsT z = fs := by show (Mth.goF Lb Fb Bb 0 z.cps.toList ([], .blank)).1 = fs; rw [hg]
    rw [e] at q
    exact q p hp
end
set_option maxHeartbeats 1000000
open PySem PySem.Spec PyProof.Rows L2 L3 XC N1
section
variable {P : Program} {w : World} {K : Frag} {mg : Str → Option Value} {base : Heap}
structure KindT (K : Frag) (mg : Str → Option Value) (Bs c2 c3 c4 c5 c6 c7 c8 c9 c10 : Addr) : Prop where
  b_isinstance : mg "isinstance" = none
  b_ValueError : mg "ValueError" = none
  g_BadSign : mg "BadSign" = some (.ref Bs)
  g_BadText : mg "BadText" = some (.ref c2)
  g_BadName : mg "BadName" = some (.ref c3)
  g_BadNumber : mg "BadNumber" = some (.ref c4)
  g_BadRing : mg "BadRing" = some (.ref c5)
  g_BadLoan : mg "BadLoan" = some (.ref c6)
  g_TooMany : mg "TooMany" = some (.ref c7)
  g_NoDoor : mg "NoDoor" = some (.ref c8)
  g_BadChange : mg "BadChange" = some (.ref c9)
  g_BadKept : mg "BadKept" = some (.ref c10)
  is : ErrIs K Bs
  k1 : PySem.W.kitOne K (.ref Bs) (.ref Bs) = some true
  k2 : PySem.W.kitOne K (.ref Bs) (.ref c2) = some false
  k3 : PySem.W.kitOne K (.ref Bs) (.ref c3) = some false
  k4 : PySem.W.kitOne K (.ref Bs) (.ref c4) = some false
  k5 : PySem.W.kitOne K (.ref Bs) (.ref c5) = some false
  k6 : PySem.W.kitOne K (.ref Bs) (.ref c6) = some false
  k7 : PySem.W.kitOne K (.ref Bs) (.ref c7) = some false
  k8 : PySem.W.kitOne K (.ref Bs) (.ref c8) = some false
  k9 : PySem.W.kitOne K (.ref Bs) (.ref c9) = some false
  k10 : PySem.W.kitOne K (.ref Bs) (.ref c10) = some false
  kv : PySem.W.kitOne K (.ref Bs) (.type "ValueError") = some true
noncomputable def kindsL : List Bool := [true, false, false, false, false, false, false, false, false, false]
noncomputable def spKinds (e : Addr) : Sp2 := fun us M Q => us = [.ref e] ∧ ∀ p, M p = none → Q (.ref p) (put M p (.lst (kindsL.map U.bl)))
theorem spKinds_mo (e : Addr) : MoSp (spKinds e) := by
  rintro us M Q Q' k ⟨h, q⟩
  exact ⟨h, fun p hp => k _ _ (q p hp)⟩
noncomputable def st_l_kinds : Stmt := top 39
theorem sc_l_kinds : FnScope ["_law_e", "_law_found"] ["_law_e"] (defScope st_l_kinds) := ⟨rfl, rfl, rfl, by decide +kernel, rfl, by decide +kernel, by decide +kernel⟩
theorem x_kinds {e dx Bs c2 c3 c4 c5 c6 c7 c8 c9 c10 f : Addr} {oe od : Obj} {fs : List (Str × V)} {fd : FuncData} {qual : Str} (T : KindT K mg Bs c2 c3 c4 c5 c6 c7 c8 c9 c10) (r : RawOk Bs dx fs oe od) (F : Fun K "_law_kinds" qual st_l_kinds f fd) :
    FnX P w K mg base 1 f fd ["_law_e"] (liftSp K (spKinds e)) (fun _ H h outer => RawAt e dx oe od H h outer) := by
  refine fn2X F sc_l_kinds (by rintro us M Q ⟨h, _⟩; rw [h]; rfl) fun cdv A outer s H hr ra => ?_
  have R := callee_raw (P := P) (w := w) (K := K) (mg := mg) (base := base) (N := ["_law_e", "_law_found"]) (qual := qual) (scope := defScope st_l_kinds) (f := f) (cd := cdv) (A := A) r ra
  refine ⟨_, (qss_cons (qs_set (i := 1) sc_l_kinds.nd rfl (by first | exact Or.inl rfl | exact Or.inr rfl) (qe_lst (qa_cons (qe_callB (c_isiR R T.is) (by rfl) T.b_isinstance PyProof.Rows.boot_isinstance (qa_cons (qv 0) (qa_cons (qe_cls rfl T.g_BadSign) qa_nil))) (qa_cons (qe_callB (c_isiR R T.is) (by rfl) T.b_isinstance PyProof.Rows.boot_isinstance (qa_cons (qv 0) (qa_cons (qe_cls rfl T.g_BadText) qa_nil))) (qa_cons (qe_callB (c_isiR R T.is) (by rfl) T.b_isinstance PyProof.Rows.boot_isinstance (qa_cons (qv 0) (qa_cons (qe_cls rfl T.g_BadName) qa_nil))) (qa_cons (qe_callB (c_isiR R T.is) (by rfl) T.b_isinstance PyProof.Rows.boot_isinstance (qa_cons (qv 0) (qa_cons (qe_cls rfl T.g_BadNumber) qa_nil))) qa_nil))))))
      (qss_cons (qs_set (i := 1) sc_l_kinds.nd rfl (by first | exact Or.inl rfl | exact Or.inr rfl) (qe_op so_addL (qv 1) (qe_lst (qa_cons (qe_callB (c_isiR R T.is) (by rfl) T.b_isinstance PyProof.Rows.boot_isinstance (qa_cons (qv 0) (qa_cons (qe_cls rfl T.g_BadRing) qa_nil))) (qa_cons (qe_callB (c_isiR R T.is) (by rfl) T.b_isinstance PyProof.Rows.boot_isinstance (qa_cons (qv 0) (qa_cons (qe_cls rfl T.g_BadLoan) qa_nil))) (qa_cons (qe_callB (c_isiR R T.is) (by rfl) T.b_isinstance PyProof.Rows.boot_isinstance (qa_cons (qv 0) (qa_cons (qe_cls rfl T.g_TooMany) qa_nil))) (qa_cons (qe_callB (c_isiR R T.is) (by rfl) T.b_isinstance PyProof.Rows.boot_isinstance (qa_cons (qv 0) (qa_cons (qe_cls rfl T.g_NoDoor) qa_nil))) qa_nil)))))))
      (qss_cons (qs_set (i := 1) sc_l_kinds.nd rfl (by first | exact Or.inl rfl | exact Or.inr rfl) (qe_op so_addL (qv 1) (qe_lst (qa_cons (qe_callB (c_isiR R T.is) (by rfl) T.b_isinstance PyProof.Rows.boot_isinstance (qa_cons (qv 0) (qa_cons (qe_cls rfl T.g_BadChange) qa_nil))) (qa_cons (qe_callB (c_isiR R T.is) (by rfl) T.b_isinstance PyProof.Rows.boot_isinstance (qa_cons (qv 0) (qa_cons (qe_cls rfl T.g_BadKept) qa_nil))) qa_nil)))))
      (qss_one (qs_ret (qe_ifExp (qt_tru (qe_callB (c_isiR R T.is) (by rfl) T.b_isinstance PyProof.Rows.boot_isinstance (qa_cons (qv 0) (qa_cons (qe_ty rfl T.b_ValueError boot_VE) qa_nil))) (fun _ => rfl)) (qv 1) (qe_lst qa_nil))))))), ?_⟩
  rintro us M Q cl ⟨rfl, q⟩
  walk_at "g"
  refine ⟨_, _, rfl, .inl ⟨_, rfl, T.k1⟩, ?_⟩
  walk_at "g"
  refine ⟨_, _, rfl, .inl ⟨_, rfl, T.k2⟩, ?_⟩
  walk_at "g"
  refine ⟨_, _, rfl, .inl ⟨_, rfl, T.k3⟩, ?_⟩
  walk_at "g"
  refine ⟨_, _, rfl, .inl ⟨_, rfl, T.k4⟩, ?_⟩
  walk_at "g"
  intro p1 h1
  walk_at "g"
  refine ⟨_, _, rfl, .inl ⟨_, rfl, T.k5⟩, ?_⟩
  walk_at "g"
  refine ⟨_, _, rfl, .inl ⟨_, rfl, T.k6⟩, ?_⟩
  walk_at "g"
  refine ⟨_, _, rfl, .inl ⟨_, rfl, T.k7⟩, ?_⟩
  walk_at "g"
  refine ⟨_, _, rfl, .inl ⟨_, rfl, T.k8⟩, ?_⟩
  walk_at "g"
  intro p2 h2
  walk_at "g"
  refine addL_s ((put_ne (mne put_same h2)).trans put_same) put_same (L3.small (Nat.le_of_ble_eq_true rfl)) fun p3 h3 => ?_
  walk_at "g"
  refine ⟨_, _, rfl, .inl ⟨_, rfl, T.k9⟩, ?_⟩
  walk_at "g"
  refine ⟨_, _, rfl, .inl ⟨_, rfl, T.k10⟩, ?_⟩
  walk_at "g"
  intro p4 h4
  walk_at "g"
  refine addL_s ((put_ne (mne put_same h4)).trans put_same) put_same (L3.small (Nat.le_of_ble_eq_true rfl)) fun p5 h5 => ?_
  walk_at "g"
  refine ⟨_, _, rfl, .inr ⟨_, rfl, T.kv⟩, ?_⟩
  walk_at "g"
  exact cl _ _ _ (le_both ((((Le.new h1).trans (Le.new h2)).trans (Le.new h3)).trans (Le.new h4))) (q p5 (Le.free ((((Le.new h1).trans (Le.new h2)).trans (Le.new h3)).trans (Le.new h4)) h5))
end
set_option maxHeartbeats 1000000
open PySem PySem.Spec PyProof.Rows L2 L3 XC N1
theorem out_lt {z : Str} {i : Nat} (h : outT z = .bad i) (hz : z.length ≤ 10000) : i < 100000 := by
  unfold outT at h
  split at h
  · cases h; decide
  · cases e : wrongT z with
    | nil => rw [e] at h; cases h
    | cons j r =>
      rw [e] at h; cases h
      have m : i ∈ wrongT z := by rw [e]; exact List.mem_cons_self
      unfold wrongT Mth.wrong at m
      obtain ⟨x, hx, rfl⟩ := List.mem_map.mp m
      have := ((Mth.runs_shape (L := Lb) (F := Fb) (B := Bb) dis_LF _ z.cps.toList 0 (Nat.le_refl _)).2 x (List.mem_filter.mp hx).1).2.1
      have tl : z.length = z.cps.toList.length := by rw [Array.length_toList]; rfl
      omega
theorem outU_lt {u : U} {i : Nat} (h : outU u = .bad i) (hz : ∀ z, u = .str z → z.length ≤ 10000) : i < 100000 := by
  cases u with
  | str z => exact out_lt h (hz z rfl)
  | _ => cases h; decide
theorem qss_of {X : Cx} {sts : List Stmt} {t : TS2} {φ : Prop} (h : φ → QSs X sts t) : QSs X sts (fun D σ M => φ ∧ t D σ M) := ⟨fun D D' σ M l z => ⟨z.1, (h z.1).mo _ _ _ _ l z.2⟩, fun pins s σ H D I z => by
  obtain ⟨σ2, M, rs, rm, f, q⟩ := z
  exact (h f).pe pins s σ H D I ⟨σ2, M, rs, rm, q⟩⟩
theorem remM_put {M : Mem} {a : Addr} {o : O} (h : M a = none) : remM (put M a o) a = M := by
  funext b
  unfold remM
  by_cases e : b = a
  · rw [if_pos e, e, h]
  · rw [if_neg e, put_ne e]
@[reducible] noncomputable def toldT (K : Frag) (a : Addr) (u : U) : TS2 := qSeq (qIfS (qOr (qTest (qOp sNe2 (qCall (spKinds a) (qCons (qVar 1) qNil)) (qComp (kRng1 (qCons (qC (.int 10)) qNil)) [none] (jName 0) (fun _ M Q => Q true M) (qOp sEq2 (qVar 0) (qC (.int 0)))))) (qTru (qCB (sIsi K) (qCons (qFldR a u (qVar 1)) (qCons (qC (.ty "bool")) qNil))))) (qRet (qC .non)) qNext) (qRet (qFldR a u (qVar 1)))
theorem toldT_mo {X : Cx} (hu : X.A.units + 64 < cLine) (a : Addr) (u : U) : MoS (toldT X.K a u) := by
  obtain ⟨r1, _, R1⟩ := (so_ne (X := X) hu).ex
  obtain ⟨r2, _, R2⟩ := (sc_isi (X := X) X.K).ex
  have mF : MoE (qFldR a u (qVar 1)) := fun σ M Q Q' k h => vE_mono (fun v z => ⟨z.1, k _ _ z.2⟩) h
  have m1 : MoE (qCall (spKinds a) (qCons (qVar 1) qNil)) := qCall_mo (spKinds_mo a) fun σ M Q Q' k h => vE_mono (fun v z => k _ _ z) h
  have m2 : MoE (qComp (kRng1 (qCons (qC (.int 10)) qNil)) [none] (jName 0) (fun _ M Q => Q true M) (qOp sEq2 (qVar 0) (qC (.int 0)))) := fun σ M Q Q' k h => ⟨h.1, h.2.1, Comp_mo k h.2.2⟩
  have m3 : MoE (qCB (sIsi X.K) (qCons (qFldR a u (qVar 1)) (qCons (qC (.ty "bool")) qNil))) := qCB_mo R2.mo fun σ M Q Q' k h => mF _ _ _ _ (fun x M1 z => k _ _ z) h
  intro D D' σ M l h
  have kk : ∀ (b : Bool) (M1 : Mem), bE b (D.rt .non M1) (qFldR a u (qVar 1) σ M1 D.rt) → bE b (D'.rt .non M1) (qFldR a u (qVar 1) σ M1 D'.rt) := fun b M1 => bE_mono (l.rt _ _) (mF _ _ _ _ fun x M2 z => l.rt _ _ z)
  exact qTest_mo (qOp_mo R1.mo m1 m2) σ M _ _ (fun c M1 => bE_mono (kk true M1) fun z => m3 _ _ _ _ (fun x M2 => truU_mo kk) z) h
theorem datB {M : Mem} : ∀ bs : List Bool, DatAll M (bs.map U.bl) (bs.map PyData.bool)
  | [] => .nil
  | b :: r => .cons (.bl b) (datB r)
section
variable {P : Program} {w : World} {K : Frag} {mg : Str → Option Value} {base : Heap}
structure ToldT (K : Frag) (mg : Str → Option Value) (Bs He fW fK : Addr) (dW dK : FuncData) : Prop where
  b_isinstance : mg "isinstance" = none
  b_range : mg "range" = none
  b_bool : mg "bool" = none
  g_HallError : mg "HallError" = some (.ref He)
  g_words : mg "words" = some (.ref fW)
  k_words : PySem.W.keepIn K (.ref fW) = true
  i_words : Binds K dW ["text"] []
  g_kinds : mg "_law_kinds" = some (.ref fK)
  k_kinds : PySem.W.keepIn K (.ref fK) = true
  i_kinds : Binds K dK ["_law_e"] []
  ex : PySem.W.exmOne K (.ref Bs) (.ref He) = some true
  rd : ErrRd K Bs "spot"
noncomputable def spTold : Sp2 := fun us M Q => ∃ u t, us = [u] ∧ KindU M u t ∧ (∀ z, u = .str z → z.length ≤ 10000) ∧ (∀ zs, outU u = .ok zs → ∀ p, M p = none → Q (.ref p) (put M p (.lst (zs.map U.str)))) ∧ ∀ i, outU u = .bad i → Q (.int i) M
noncomputable def st_l_told : Stmt := top 40
theorem sc_l_told : FnScope ["_law_thing", "_law_e"] ["_law_thing"] (defScope st_l_told) := ⟨rfl, rfl, rfl, by decide +kernel, rfl, by decide +kernel, by decide +kernel⟩
theorem c_l_told {Bs He fW fK c2 c3 c4 c5 c6 c7 c8 c9 c10 : Addr} {dW dK : FuncData} {qual : Str} (T : ToldT K mg Bs He fW fK dW dK) (TK : KindT K mg Bs c2 c3 c4 c5 c6 c7 c8 c9 c10) (FK : Fun K "_law_kinds" qual st_l_kinds fK dK) (FW : FnOk P w K mg base (CXE P w) 8 fW dW ["text"] (liftSpE K (spWords Bs))) (F : FunM K mg "_law_told" st_l_told) : Cal2 P w K mg base 9 "_law_told" ["_law_thing"] spTold := by
  refine cal2 F sc_l_told (by rintro us M Q Q' k ⟨u, t, e, h1, h2, q1, q2⟩; exact ⟨u, t, e, h1, h2, fun zs e p hp => k _ _ (q1 zs e p hp), fun i e => k _ _ (q2 i e)⟩) (by rintro us M Q ⟨u, t, e, _⟩; rw [e]; rfl) (fun _ _ _ _ _ _ us hl => by obtain ⟨a, rfl⟩ := len1 hl; rfl) (hbody := fun f cdv A outer s H E hr => ?_)
  refine ⟨_, qss_one (qs_try (i := 1) (t2 := fun a C F u D σ M => (C = Bs ∧ F = "spot") ∧ toldT K a u D σ M) rfl rfl rfl T.g_HallError sc_l_told.nd rfl rfl FW (spWords_mo Bs) hr rfl T.g_words T.k_words T.i_words (fun σ M Q Q' k h => ?mt) (fun pl xe => qa_cons (qv 0) qa_nil) (fun a C F u => ?m2) (fun pl a C dx F v oe od raw ok => qss_of fun hc => ?su)), ?_⟩
  case mt => exact vE_mono (fun v z => k _ _ z) h
  case m2 => exact fun D D' σ M l z => ⟨z.1, toldT_mo (X := (cxOf CX0 P w K mg base ["_law_thing", "_law_e"] "_law_told" (defScope st_l_told) f cdv A outer s H E).nox) hr.units a u _ _ _ _ l z.2⟩
  case su =>
    obtain ⟨rfl, rfl⟩ := hc
    have R := suite_raw (X := (cxOf CX0 P w K mg base ["_law_thing", "_law_e"] "_law_told" (defScope st_l_told) f cdv A outer s H E).nox) (pl := pl) (e := a) raw
    exact (qss_cons (qs_if (QW.qt (qw_or (qt_cmp (so_ne hr.units) (qe_callX (x_kinds TK raw FK) (spKinds_mo a) ⟨rfl, (hr.mono (j := 1) (by decide)).dp, (hr.mono (j := 1) (by decide)).un, (hr.mono (j := 1) (by decide)).gd⟩ rfl T.g_kinds T.k_kinds T.i_kinds (qa_cons (qv 1) qa_nil)) (qe_compR (suite_pin hr.hd raw) rfl T.b_range (qa_cons qe_int qa_nil) (fun _ _ _ _ _ => qg_name (i := 0) (show List.Nodup (["_law_k"] : List Str) by decide +kernel) rfl (by first | exact Or.inl rfl | exact Or.inr rfl)) (fun _ _ _ _ _ => qf_nil) (fun _ _ _ _ _ => (qe_cmp (so_eq hr.units) (qv 0) qe_int (nomark _))) (N := ["_law_k"]) (ix := [none]) (by kernel_rfl)) (nomark _)) (qw_or1 (qt_tru (qe_callB (sc_isi K) (by rfl) T.b_isinstance PyProof.Rows.boot_isinstance (qa_cons (qe_fldR R T.rd raw rfl ok (qv 1) rfl) (qa_cons (qe_ty rfl T.b_bool PyProof.Rows.boot_bool) qa_nil))) (fun _ => rfl))))) (qss_one (qs_ret qe_non)) qss_nil) (qss_one (qs_ret (qe_fldR R T.rd raw rfl ok (qv 1) rfl))))
  rintro us M Q cl ⟨u, t, rfl, hk, hz, q, r⟩
  walk_at "g"
  refine ⟨u, t, rfl, hk, fun z e => Nat.le_trans (hz z e) (by decide), fun zs e p hp => q zs e p hp, fun i e a ha => ⟨T.ex, "spot", .int i, put_same, ?_, ⟨rfl, rfl⟩, ?_⟩⟩
  · have := outU_lt e hz
    exact ⟨by omega, by omega⟩
  · rw [remM_put ha]
    walk_at "g"
    refine ⟨rfl, fun p hp => ?_⟩
    walk_at "g"
    refine Comp.mapped (List.range 10) (fun i : Nat => U.int (0 + (i : Int))) (fun i : Nat => U.bl (decide (0 + (i : Int) = 0))) (fun σ => ∃ v, σ = [v]) (rngU_map 10 0) ⟨_, rfl⟩ (by decide) (fun _ _ => trivial) ?_ ?_
    · rintro i hi σ ⟨v, rfl⟩ Y yes N
      walk_at "g"
      exact yes _ _ ⟨_, rfl⟩ (Le.refl _)
    · intro p2 h2
      have e10 : ((List.range 10).map fun i : Nat => U.bl (decide (0 + (i : Int) = 0))) = kindsL.map U.bl := rfl
      rw [e10]
      walk_at "g"
      refine ⟨_, _, .lst (kpM put_same h2) (datB kindsL), .lst put_same (datB kindsL), by decide +kernel, ?_⟩
      rw [show PyData.eqv (.list (kindsL.map PyData.bool)) (.list (kindsL.map PyData.bool)) = true by decide +kernel]
      walk_at "g"
      refine ⟨rfl, ?_⟩
      walk_at "g"
      refine isi_s false (.int _) rfl ?_
      walk_at "g"
      refine ⟨rfl, ?_⟩
      exact cl _ _ _ ((Le.new hp).trans (Le.new h2)) (r i e)
end
set_option maxHeartbeats 1000000
open PySem PySem.Spec PyProof.Rows L2 L3 XC N1
theorem eqv_nil {ds : List PyData} : PyData.eqv (.list ds) (.list []) = decide (ds = []) := by
  cases ds <;> simp [PyData.eqv, PyData.eqvAll]
theorem depth0 (ds : List PyData) : min (PyData.list ds).depth (PyData.list []).depth ≤ 60 := Nat.le_trans (Nat.min_le_right _ _) (by simp [PyData.depth, PyData.depthAll])
section
variable {P : Program} {w : World} {K : Frag} {mg : Str → Option Value} {base : Heap}
noncomputable def spDue : Sp2 := fun us M Q => ∃ z, us = [.str z] ∧ Sm 10000 z ∧ (∀ i, outT z = .bad i → Q (.int i) M) ∧ ∀ zs, outT z = .ok zs → ∀ p, M p = none → Q (.ref p) (put M p (.lst (zs.map U.str)))
noncomputable def st_l_due : Stmt := top 38
theorem sc_l_due : FnScope ["_law_text_here", "_law_runs_here", "_law_wrong"] ["_law_text_here"] (defScope st_l_due) := ⟨rfl, rfl, rfl, by decide +kernel, rfl, by decide +kernel, by decide +kernel⟩
theorem c_l_due (T : Bl2 mg) (c_l_runs : Cal2 P w K mg base 1 "_law_runs" ["_law_text_here"] spRuns) (c_l_is_word : Cal2 P w K mg base 1 "_law_is_word" ["_law_run"] spLWord) (F : FunM K mg "_law_due" st_l_due) : Cal2 P w K mg base 2 "_law_due" ["_law_text_here"] spDue := by
  refine cal2 F sc_l_due (by rintro us M Q Q' k ⟨z, e, h, q1, q2⟩; exact ⟨z, e, h, fun i e => k _ _ (q1 i e), fun zs e p hp => k _ _ (q2 zs e p hp)⟩) (by rintro us M Q ⟨v, e, _⟩; rw [e]; rfl) (fun _ _ _ _ _ _ us hl => by obtain ⟨a, rfl⟩ := len1 hl; rfl) (hbody := fun f cdv A outer s H E hr => ?_)
  refine ⟨_, (qss_cons (qs_if (qt_cmp so_gt (qe_callB sc_len (by rfl) T.b_len PySem.boot_len (qa_cons (qv 0) qa_nil)) qe_int (nomark _)) (qss_one (qs_ret qe_int)) qss_nil)
      (qss_cons (qs_set (i := 1) sc_l_due.nd rfl (by first | exact Or.inl rfl | exact Or.inr rfl) (qe_call c_l_runs (hr.mono (by first | decide | omega)) rfl (qa_cons (qv 0) qa_nil)))
      (qss_cons (qs_setc (i := 2) rfl sc_l_due.nd rfl rfl sw_any (qi_seq (qv 1)) (fun _ _ _ _ _ => (qg_tup (n := 2) rfl (qgs_cons (qg_name (i := 0) (show List.Nodup (["_law_at", "_law_run"] : List Str) by decide +kernel) rfl (by first | exact Or.inl rfl | exact Or.inr rfl)) (qgs_cons (qg_name (i := 1) (show List.Nodup (["_law_at", "_law_run"] : List Str) by decide +kernel) rfl (by first | exact Or.inl rfl | exact Or.inr rfl)) qgs_nil)))) (fun _ _ _ _ _ => (qf_one (qt_not (qt_tru (qe_call c_l_is_word (hr.mono (by first | decide | omega)) rfl (qa_cons (qv 1) qa_nil)) (fun _ => rfl))))) (fun _ _ _ _ _ => (qv 0)) (N := ["_law_at", "_law_run"]) (ix := [none, none]) (by kernel_rfl))
      (qss_one (qs_ret (qe_ifExp (qt_cmp (so_ne hr.units) (qv 2) (qe_lst qa_nil) (nomark _)) (sq_ixN (n := 0) (qv 2) (fun _ _ => rfl)) (qe_comp rfl (qi_seq (qv 1)) (fun _ _ _ _ _ => (qg_tup (n := 2) rfl (qgs_cons (qg_name (i := 0) (show List.Nodup (["_law_at", "_law_run"] : List Str) by decide +kernel) rfl (by first | exact Or.inl rfl | exact Or.inr rfl)) (qgs_cons (qg_name (i := 1) (show List.Nodup (["_law_at", "_law_run"] : List Str) by decide +kernel) rfl (by first | exact Or.inl rfl | exact Or.inr rfl)) qgs_nil)))) (fun _ _ _ _ _ => qf_nil) (fun _ _ _ _ _ => (qv 1)) (N := ["_law_at", "_law_run"]) (ix := [none, none]) (by kernel_rfl)))))))), ?_⟩
  rintro us M Q cl ⟨z, rfl, sz, q1, q2⟩
  have hsz : z.length ≤ sizeLine := Nat.le_trans sz.len (by decide)
  have tl : z.length = z.cps.toList.length := by rw [Array.length_toList]; rfl
  walk_at "g"
  refine bE2 (fun c => ?_) (fun c => ?_)
  · have c' := of_decide_eq_true c
    walk_at "g"
    exact q1 0 (by unfold outT; rw [if_pos (by omega)])
  · have c' := of_decide_eq_false c
    have ho : outT z = outW z (wrongT z) := by unfold outT; rw [if_neg (by omega)]
    rw [ho] at q1 q2
    obtain ⟨n1, n2⟩ := Mth.runs_shape (L := Lb) (F := Fb) (B := Bb) dis_LF z.cps.toList.length z.cps.toList 0 (Nat.le_refl _)
    have n1 : (runsT z).length ≤ z.cps.toList.length := n1
    have n2 : ∀ r ∈ runsT z, Mth.Shape Lb Fb r.2 ∧ r.1 < 0 + z.cps.toList.length ∧ r.2.length ≤ z.cps.toList.length := n2
    have nl : (runsT z).length ≤ sizeLine := Nat.le_trans n1 (by rw [← tl]; exact hsz)
    walk_at "g"
    refine ⟨z, rfl, by omega, fun p hp => ?_⟩
    walk_at "g"
    refine ⟨_, put_same, ?_⟩
    walk_at "g"
    refine Comp.pure (runsT z) runU (fun r => !Gd r.2) (fun r => .int r.1) (fun σ => ∃ a b, σ = [a, b]) rfl ⟨_, _, rfl⟩ nl (fun M' l => l _ _ put_same) ?_ ?_
    · rintro r hr2 σ ⟨a, b, rfl⟩ Y N yes no
      obtain ⟨s1, s2, s3⟩ := n2 r hr2
      unfold runU
      walk_at "g"
      refine ⟨r.2, rfl, s1, by have := sz.len; omega, ?_⟩
      walk_at "g"
      refine bE2 (fun g => ?_) (fun g => ?_)
      · exact yes g _ _ ⟨_, _, rfl⟩ (Le.refl _)
      · exact no g _ _ ⟨_, _, rfl⟩ (Le.refl _)
    · intro p2 h2
      have ew : ((runsT z).filter fun r => !Gd r.2).map (fun r => U.int r.1) = ((wrongT z).map fun n : Nat => (n : Int)).map U.int := by
        unfold wrongT Mth.wrong
        rw [List.map_map, List.map_map]; rfl
      rw [ew]
      walk_at "g"
      intro p3 h3
      walk_at "g"
      have np : p2 ≠ p3 := mne put_same h3
      refine ⟨_, _, .lst ((put_ne np).trans put_same) (DatAll.ints _), .lst put_same .nil, depth0 _, ?_⟩
      rw [eqv_nil]
      walk_at "g"
      have l3 : Le M (put (put M p (.lst ((runsT z).map runU))) p2 (.lst (((wrongT z).map fun n : Nat => (n : Int)).map U.int))) := (Le.new hp).trans (Le.new h2)
      cases ew2 : wrongT z with
      | nil =>
        rw [ew2] at q2 h3 l3
        refine bEf rfl ?_
        walk_at "g"
        have npp : p ≠ p3 := mne ((put_ne (mne put_same h2)).trans put_same) h3
        refine ⟨_, (put_ne npp).trans ((put_ne (mne put_same h2)).trans put_same), ?_⟩
        walk_at "g"
        refine Comp.mapped (runsT z) runU (fun r => .str (strL r.2)) (fun σ => ∃ a b, σ = [a, b]) rfl ⟨_, _, rfl⟩ nl (fun M' l => l _ _ ((put_ne npp).trans ((put_ne (mne put_same h2)).trans put_same))) ?_ ?_
        · rintro r hr2 σ ⟨a, b, rfl⟩ Y yes N
          unfold runU
          walk_at "g"
          exact yes _ _ ⟨_, _, rfl⟩ (Le.refl _)
        · intro p4 h4
          have l4 := l3.trans (Le.new (o := .lst []) h3)
          refine cl _ _ _ (le_both l4) ?_
          have := q2 _ rfl p4 (l4.free h4)
          unfold foundT at this
          rw [List.map_map] at this
          exact this
      | cons i r =>
        rw [ew2] at q1 h3 l3
        refine bEt rfl ?_
        walk_at "g"
        refine ⟨_, (put_ne np).trans put_same, ?_⟩
        refine oE_some rfl ?_
        exact cl _ _ _ (l3.trans (Le.new h3)) (q1 i rfl)
theorem row_due (z : Str) : isRow z "abcdefghijklmnopqrstuvwxyz" 8 = ((decide ((0 : Int) < z.length) && decide ((z.length : Int) < 9)) && decide (z.cps.toList.filter (fun c => !decide (c ∈ lettersL)) = [])) := by
  have tl : z.length = z.cps.toList.length := by rw [Array.length_toList]; rfl
  have key : ∀ l : List Nat, (runLen lettersL l = l.length) ↔ l.filter (fun c => !decide (c ∈ lettersL)) = [] := fun l => by
    induction l with
    | nil => exact ⟨fun _ => rfl, fun _ => rfl⟩
    | cons c r ih =>
      unfold runLen
      by_cases h : c ∈ lettersL
      · rw [if_pos h, List.filter_cons_of_neg (by simp [h]), List.length_cons, ← ih]; omega
      · rw [if_neg h, List.filter_cons_of_pos (by simp [h])]; simp
  have e1 : decide ((1 : Int) ≤ z.length) = decide ((0 : Int) < z.length) := decide_eq_decide.mpr Iff.rfl
  have e2 : decide ((z.length : Int) ≤ 8) = decide ((z.length : Int) < 9) := decide_eq_decide.mpr (Int.lt_add_one_iff (b := 8)).symm
  have e3 : decide (((0 + runLen lettersL z.cps.toList : Nat) : Int) = z.length) = decide (z.cps.toList.filter (fun c => !decide (c ∈ lettersL)) = []) := decide_eq_decide.mpr (Iff.trans (by rw [Nat.zero_add]; exact Int.ofNat_inj) (key _))
  rw [← e1, ← e2, ← e3]; rfl
noncomputable def spNameR : Sp2 := fun us M Q => ∃ z, us = [.str z] ∧ Sm 1000 z ∧ Q (.bl true) M
structure Bl3 (mg : Str → Option Value) : Prop extends Bl2 mg where
  b_bool : mg "bool" = none
noncomputable def st_l_name_right : Stmt := top 42
theorem sc_l_name_right : FnScope ["_law_word", "_law_due_here", "_law_found"] ["_law_word"] (defScope st_l_name_right) := ⟨rfl, rfl, rfl, by decide +kernel, rfl, by decide +kernel, by decide +kernel⟩
theorem c_l_name_right (T : Bl3 mg) (c_is_name : Cal2 P w K mg base 3 "is_name" ["word"] spIsName) (c_l_told_words : Cal2 P w K mg base 1 "_law_told_words" [] spToldW) (F : FunM K mg "_law_name_right" st_l_name_right) : Cal2 P w K mg base 4 "_law_name_right" ["_law_word"] spNameR := by
  refine cal2 F sc_l_name_right (by rintro us M Q Q' k ⟨z, e, h, q⟩; exact ⟨z, e, h, k _ _ q⟩) (by rintro us M Q ⟨v, e, _⟩; rw [e]; rfl) (fun _ _ _ _ _ _ us hl => by obtain ⟨a, rfl⟩ := len1 hl; rfl) (hbody := fun f cdv A outer s H E hr => ?_)
  refine ⟨_, (qss_cons (qs_set (i := 1) sc_l_name_right.nd rfl (by first | exact Or.inl rfl | exact Or.inr rfl) (qe_and (qe_chain so_lt so_lt qe_int (qe_callB sc_len (by rfl) T.b_len PySem.boot_len (qa_cons (qv 0) qa_nil)) qe_int) (qe_one (qe_cmp (so_eq hr.units) (qe_comp rfl (qi_seq (qv 0)) (fun _ _ _ _ _ => (qg_name (i := 0) (show List.Nodup (["_law_mark"] : List Str) by decide +kernel) rfl (by first | exact Or.inl rfl | exact Or.inr rfl))) (fun _ _ _ _ _ => (qf_one (qt_cmp o_ninS (qv 0) qe_str (by with_unfolding_all rfl)))) (fun _ _ _ _ _ => (qv 0)) (N := ["_law_mark"]) (ix := [none]) (by kernel_rfl)) (qe_lst qa_nil) (nomark _)))))
      (qss_cons (qs_set (i := 2) sc_l_name_right.nd rfl (by first | exact Or.inl rfl | exact Or.inr rfl) (qe_call c_is_name (hr.mono (by first | decide | omega)) rfl (qa_cons (qv 0) qa_nil)))
      (qss_one (qs_ret (qe_and (qe_callB (sc_isi K) (by rfl) T.b_isinstance PyProof.Rows.boot_isinstance (qa_cons (qv 2) (qa_cons (qe_ty rfl T.b_bool PyProof.Rows.boot_bool) qa_nil))) (qe_one (qe_cmp (so_eq hr.units) (qv 2) (qe_and (qv 1) (qe_one (qe_cmp so_nin (qv 0) (qe_call0 c_l_told_words (hr.mono (by first | decide | omega)) rfl) (by with_unfolding_all rfl)))) (nomark _)))))))), ?_⟩
  rintro us M Q cl ⟨z, rfl, sz, q⟩
  have hsz : z.length ≤ sizeLine := Nat.le_trans sz.len (by decide)
  have tl : z.length = z.cps.toList.length := by rw [Array.length_toList]; rfl
  have rd := row_due z
  have lz : z.length ≤ 100000 := Nat.le_trans sz.len (by decide)
  walk_at "g"
  refine bE2 (fun c1 => ?_) (fun c1 => ?_)
  · walk_at "g"
    refine bE2 (fun c2 => ?_) (fun c2 => ?_)
    · walk_at "g"
      refine Comp.pure z.cps.toList (fun c => .str ⟨#[c]⟩) (fun c => !decide (c ∈ lettersL)) (fun c => .str ⟨#[c]⟩) (fun σ => ∃ a, σ = [a]) rfl ⟨_, rfl⟩ (by rw [← tl]; exact hsz) (fun _ _ => trivial) ?_ ?_
      · rintro c hc σ ⟨a, rfl⟩ Y N yes no
        walk_at "g"
        refine ⟨_, _, rfl, rfl, ?_⟩
        walk_at "g"
        rw [if_pos rfl, hasT_one]
        refine bE2 (fun g => ?_) (fun g => ?_)
        · exact yes g _ _ ⟨_, rfl⟩ (Le.refl _)
        · exact no g _ _ ⟨_, rfl⟩ (Le.refl _)
      · intro p hp
        walk_at "g"
        intro p2 h2
        walk_at "g"
        rw [c1, c2, Bool.true_and, Bool.true_and] at rd
        have fo : ∀ c ∈ z.cps.toList.filter (fun c => !decide (c ∈ lettersL)), c < 1114112 := fun c hc => sz.ok c ((List.mem_filter.mp hc).1)
        generalize z.cps.toList.filter (fun c => !decide (c ∈ lettersL)) = fl at rd fo h2
        have em : (fl.map fun c => U.str ⟨#[c]⟩) = (fl.map one).map U.str := by rw [List.map_map]; rfl
        rw [em] at h2 ⊢
        refine ⟨_, _, .lst (kpM put_same h2) (DatAll.strs (fl.map one) fun x hx => ?_), .lst put_same .nil, depth0 _, ?_⟩
        · obtain ⟨c, hc, rfl⟩ := List.mem_map.mp hx
          exact (sm_one (fo c hc)).strOk
        rw [eqv_nil]
        have ed : decide ((fl.map one).map PyData.str = []) = isRow z "abcdefghijklmnopqrstuvwxyz" 8 := by
          rw [rd]; exact decide_eq_decide.mpr (by simp)
        rw [ed]
        walk_at "g"
        refine ⟨z, rfl, lz, ?_⟩
        walk_at "g"
        refine isi_s true (.bl _) rfl ?_
        walk_at "g"
        have l2 := (Le.new (o := .lst ((fl.map one).map U.str)) hp).trans (Le.new (o := .lst []) h2)
        refine bE2 (fun g => ?_) (fun g => ?_)
        · walk_at "g"
          refine ⟨rfl, fun p3 h3 => ?_⟩
          walk_at "g"
          refine in_l (zs := toldS) put_same ?_
          rw [if_pos rfl]
          walk_at "g"
          have e : isName z = !decide (z ∈ toldS) := by unfold isName; rw [g, Bool.true_and]
          rw [e]
          refine cl _ _ _ (l2.trans (Le.new h3)) ?_
          rw [decide_eq_true rfl]; exact q
        · walk_at "g"
          have e : isName z = false := by unfold isName; rw [g, Bool.false_and]
          rw [e]
          refine cl _ _ _ l2 ?_
          exact q
    · walk_at "g"
      refine ⟨z, rfl, lz, ?_⟩
      walk_at "g"
      refine isi_s true (.bl _) rfl ?_
      walk_at "g"
      have e : isName z = false := by unfold isName; rw [rd, c1, c2]; rfl
      rw [e]
      exact q
  · walk_at "g"
    refine ⟨z, rfl, lz, ?_⟩
    walk_at "g"
    refine isi_s true (.bl _) rfl ?_
    walk_at "g"
    have e : isName z = false := by unfold isName; rw [rd, c1]; rfl
    rw [e]
    exact q
structure HandT (K : Frag) (mg : Str → Option Value) (B1 B2 B3 B4 B5 B6 f1 f2 f3 f4 f5 f6 : Addr) (d1 d2 d3 d4 d5 d6 : FuncData) : Prop extends Bl mg where
  e_BadSign : ErrK K B1 f1 "spot"
  e_BadText : ErrK K B2 f2 "spot"
  e_BadName : ErrK K B3 f3 "word"
  e_BadNumber : ErrK K B4 f4 "word"
  e_BadRing : ErrK K B5 f5 "word"
  e_BadLoan : ErrK K B6 f6 "word"
  g_BadSign : mg "BadSign" = some (.ref B1)
  g_BadText : mg "BadText" = some (.ref B2)
  g_BadName : mg "BadName" = some (.ref B3)
  g_BadNumber : mg "BadNumber" = some (.ref B4)
  g_BadRing : mg "BadRing" = some (.ref B5)
  g_BadLoan : mg "BadLoan" = some (.ref B6)
  i_BadSign : Binds K d1 ["self", "spot"] []
  i_BadText : Binds K d2 ["self", "spot"] []
  i_BadName : Binds K d3 ["self", "word"] []
  i_BadNumber : Binds K d4 ["self", "word"] []
  i_BadRing : Binds K d5 ["self", "word"] []
  i_BadLoan : Binds K d6 ["self", "word"] []
noncomputable def spHand : Sp2 := fun us M Q => ∃ c : Int, us = [.int c] ∧ Q (.bl true) M
noncomputable def st_l_by_hand : Stmt := top 41
theorem sc_l_by_hand : FnScope ["_law_cell", "_law_number", "_law_word", "_law_found"] ["_law_cell"] (defScope st_l_by_hand) := ⟨rfl, rfl, rfl, by decide +kernel, rfl, by decide +kernel, by decide +kernel⟩
theorem c_l_by_hand {B1 B2 B3 B4 B5 B6 f1 f2 f3 f4 f5 f6 : Addr} {d1 d2 d3 d4 d5 d6 : FuncData} (T : HandT K mg B1 B2 B3 B4 B5 B6 f1 f2 f3 f4 f5 f6 d1 d2 d3 d4 d5 d6) (e_BadSign : FnOk P w K mg base CX0 1 f1 d1 ["self", "spot"] (spE B1 "spot")) (e_BadText : FnOk P w K mg base CX0 1 f2 d2 ["self", "spot"] (spE B2 "spot"))
    (e_BadName : FnOk P w K mg base CX0 1 f3 d3 ["self", "word"] (spE B3 "word")) (e_BadNumber : FnOk P w K mg base CX0 1 f4 d4 ["self", "word"] (spE B4 "word")) (e_BadRing : FnOk P w K mg base CX0 1 f5 d5 ["self", "word"] (spE B5 "word")) (e_BadLoan : FnOk P w K mg base CX0 1 f6 d6 ["self", "word"] (spE B6 "word"))
    (c_l_piece : Cal2 P w K mg base 2 "_law_piece" ["_law_cell"] spPiece) (F : FunM K mg "_law_by_hand" st_l_by_hand) : Cal2 P w K mg base 4 "_law_by_hand" ["_law_cell"] spHand := by
  refine cal2 F sc_l_by_hand (by rintro us M Q Q' k ⟨z, e, q⟩; exact ⟨z, e, k _ _ q⟩) (by rintro us M Q ⟨v, e, _⟩; rw [e]; rfl) (fun _ _ _ _ _ _ us hl => by obtain ⟨a, rfl⟩ := len1 hl; rfl) (hbody := fun f cdv A outer s H E hr => ?_)
  refine ⟨_, (qss_cons (qs_set (i := 1) sc_l_by_hand.nd rfl (by first | exact Or.inl rfl | exact Or.inr rfl) (qe_op so_mod (qv 0) qe_int))
      (qss_cons (qs_set (i := 2) sc_l_by_hand.nd rfl (by first | exact Or.inl rfl | exact Or.inr rfl) (qe_call c_l_piece (hr.mono (by first | decide | omega)) rfl (qa_cons (qe_op so_addI (qe_op so_mul (qe_op so_fdiv (qv 0) qe_int) qe_int) qe_int) qa_nil)))
      (qss_cons (qs_if (QW.qt (qw_or (qt_cmp (so_ne hr.units) (qe_fldE K (qe_makeE T.e_BadSign e_BadSign (hr.mono (by first | decide | omega)) T.i_BadSign rfl T.g_BadSign (qa_cons (qv 1) qa_nil)) rfl) (qv 1) (nomark _)) (qw_or1 (qt_cmp (so_ne hr.units) (qe_fldE K (qe_makeE T.e_BadText e_BadText (hr.mono (by first | decide | omega)) T.i_BadText rfl T.g_BadText (qa_cons (qe_op so_addI (qv 1) qe_int) qa_nil)) rfl) (qe_op so_addI (qv 1) qe_int) (nomark _))))) (qss_one (qs_ret qe_bl)) qss_nil)
      (qss_cons (qs_set (i := 3) sc_l_by_hand.nd rfl (by first | exact Or.inl rfl | exact Or.inr rfl) (qe_lst (qa_cons (qe_fldE K (qe_makeE T.e_BadName e_BadName (hr.mono (by first | decide | omega)) T.i_BadName rfl T.g_BadName (qa_cons (qv 2) qa_nil)) rfl) (qa_cons (qe_fldE K (qe_makeE T.e_BadNumber e_BadNumber (hr.mono (by first | decide | omega)) T.i_BadNumber rfl T.g_BadNumber (qa_cons (qv 2) qa_nil)) rfl) (qa_cons (qe_fldE K (qe_makeE T.e_BadRing e_BadRing (hr.mono (by first | decide | omega)) T.i_BadRing rfl T.g_BadRing (qa_cons (qv 2) qa_nil)) rfl) (qa_cons (qe_fldE K (qe_makeE T.e_BadLoan e_BadLoan (hr.mono (by first | decide | omega)) T.i_BadLoan rfl T.g_BadLoan (qa_cons (qv 2) qa_nil)) rfl) qa_nil))))))
      (qss_one (qs_ret (qe_cmp (so_eq hr.units) (qv 3) (qe_op o_mulL (qe_lst (qa_cons (qv 2) qa_nil)) qe_int) (nomark _)))))))), ?_⟩
  rintro us M Q cl ⟨c, rfl, q⟩
  walk_at "g"
  refine ⟨_, rfl, fun z sz => ?_⟩
  have okz : OkU (.str z) := Nat.le_trans sz.len (by decide)
  walk_at "g"
  refine ⟨_, rfl, ⟨by omega, by omega⟩, fun a1 h1 => ?_⟩
  walk_at "g"
  refine ⟨_, _, _, _, rfl, put_same, T.e_BadSign.rd, rfl, ?_⟩
  walk_at "g"
  refine bEf (by simp) ?_
  walk_at "g"
  refine ⟨_, rfl, ⟨by omega, by omega⟩, fun a2 h2 => ?_⟩
  walk_at "g"
  refine ⟨_, _, _, _, rfl, put_same, T.e_BadText.rd, rfl, ?_⟩
  walk_at "g"
  refine bEf (by simp) ?_
  walk_at "g"
  refine ⟨_, rfl, okz, fun a3 h3 => ?_⟩
  walk_at "g"
  refine ⟨_, _, _, _, rfl, put_same, T.e_BadName.rd, rfl, ?_⟩
  walk_at "g"
  refine ⟨_, rfl, okz, fun a4 h4 => ?_⟩
  walk_at "g"
  refine ⟨_, _, _, _, rfl, put_same, T.e_BadNumber.rd, rfl, ?_⟩
  walk_at "g"
  refine ⟨_, rfl, okz, fun a5 h5 => ?_⟩
  walk_at "g"
  refine ⟨_, _, _, _, rfl, put_same, T.e_BadRing.rd, rfl, ?_⟩
  walk_at "g"
  refine ⟨_, rfl, okz, fun a6 h6 => ?_⟩
  walk_at "g"
  refine ⟨_, _, _, _, rfl, put_same, T.e_BadLoan.rd, rfl, ?_⟩
  walk_at "g"
  intro p1 g1
  walk_at "g"
  intro p2 g2
  walk_at "g"
  refine ⟨_, _, _, rfl, rfl, put_same, by decide, by decide, Nat.le_of_ble_eq_true rfl, fun p3 g3 => ?_⟩
  walk_at "g"
  have n12 : p1 ≠ p2 := mne put_same g2
  have n13 : p1 ≠ p3 := mne ((put_ne n12).trans put_same) g3
  have sd : ∀ M : Mem, DatAll M [.str z, .str z, .str z, .str z] [.str z, .str z, .str z, .str z] := fun M => .cons (.str z sz.strOk) (.cons (.str z sz.strOk) (.cons (.str z sz.strOk) (.cons (.str z sz.strOk) .nil)))
  refine ⟨_, _, .lst ((put_ne n13).trans ((put_ne n12).trans put_same)) (sd _), .lst put_same (sd _), by simp [PyData.depth, PyData.depthAll], ?_⟩
  have e : PyData.eqv (.list [.str z, .str z, .str z, .str z]) (.list [.str z, .str z, .str z, .str z]) = true := by simp [PyData.eqv, PyData.eqvAll]
  rw [e]
  exact cl _ _ _ (((((((((Le.new h1).trans (Le.new h2)).trans (Le.new h3)).trans (Le.new h4)).trans (Le.new h5)).trans (Le.new h6)).trans (Le.new g1)).trans (Le.new g2)).trans (Le.new g3)) q
end
set_option maxHeartbeats 1000000
open PySem PySem.Spec PyProof.Rows L2 L3 XC N1
theorem pickU {us : List U} {i : Int} {f : U → Prop} (h0 : 0 ≤ i) (h1 : i < us.length) (q : ∀ u ∈ us, f u) : oE (atI us i) f := by
  have hi : i.toNat < us.length := by omega
  have e : i = ((i.toNat : Nat) : Int) := by omega
  rw [e]
  exact oE_some (atI_nat (List.getElem?_eq_getElem hi)) (q _ (List.getElem_mem hi))
theorem eqv_strs {zs : List Str} (h : ∀ z ∈ zs, PyData.strOk z = true) : PyData.eqv (.list (zs.map PyData.str)) (.list (zs.map PyData.str)) = true := by
  refine eqv_self _ ?_
  have k : ∀ zs : List Str, (∀ z ∈ zs, PyData.strOk z = true) → PyData.canLayAll0 (zs.map PyData.str) = true := fun zs => by
    induction zs with
    | nil => intro _; rfl
    | cons z r ih => intro h; simp [PyData.canLayAll0, PyData.canLay0, ih fun y hy => h y (List.mem_cons_of_mem _ hy), h z List.mem_cons_self]
  simpa [PyData.canLay0] using k zs h
theorem depth_strs (ds : List PyData) : ∀ zs : List Str, min ds.length (PyData.list (zs.map PyData.str)).depth ≤ 60 := fun zs => by
  have k : ∀ zs : List Str, PyData.depthAll (zs.map PyData.str) ≤ 1 := fun zs => by
    induction zs with
    | nil => simp [PyData.depthAll]
    | cons z r ih => simp only [List.map_cons, PyData.depthAll, PyData.depth]; omega
  have := k zs
  simp only [PyData.depth]
  omega
theorem depth_s2 (d : PyData) (zs : List Str) : min d.depth (PyData.list (zs.map PyData.str)).depth ≤ 60 := by
  have := depth_strs [] zs
  have k : ∀ zs : List Str, PyData.depthAll (zs.map PyData.str) ≤ 1 := fun zs => by
    induction zs with
    | nil => simp [PyData.depthAll]
    | cons z r ih => simp only [List.map_cons, PyData.depthAll, PyData.depth]; omega
  have := k zs
  refine Nat.le_trans (Nat.min_le_right _ _) ?_
  simp only [PyData.depth]
  omega
noncomputable def Lw (z : Str) (du : U) (h : Addr) (n : Nat) (M : Mem) : Prop := ∃ hs : List Addr, hs.length ≤ n ∧ M h = some (.lst (hs.map U.ref)) ∧ ((∃ i : Nat, outT z = .bad i ∧ du = .int i ∧ hs = []) ∨ ∃ d zs, outT z = .ok zs ∧ du = .ref d ∧ d ≠ h ∧ M d = some (.lst (zs.map U.str)) ∧ ∀ q ∈ hs, q ≠ h ∧ M q = some (.lst ((zs ++ [("more" : Str)]).map U.str)))
theorem Lw.le {z : Str} {du : U} {h : Addr} {n : Nat} {M M' : Mem} (x : Lw z du h n M) (l : Le M M') : Lw z du h n M' := by
  obtain ⟨hs, h1, h2, h3⟩ := x
  refine ⟨hs, h1, l _ _ h2, ?_⟩
  rcases h3 with h3 | ⟨d, zs, a, b, c, e, g⟩
  · exact .inl h3
  · exact .inr ⟨d, zs, a, b, c, l _ _ e, fun q hq => ⟨(g q hq).1, l _ _ (g q hq).2⟩⟩
theorem ok_strs {z : Str} {zs : List Str} (sz : Sm 10000 z) (h : outT z = .ok zs) : ∀ x ∈ zs, PyData.strOk x = true := by
  unfold outT at h
  split at h
  · cases h
  · cases e : wrongT z with
    | cons j r => rw [e] at h; cases h
    | nil =>
      rw [e] at h; cases h
      intro x hx
      obtain ⟨r, hr, rfl⟩ := List.mem_map.mp hx
      exact (show Sm r.2.length (strL r.2) from sm_arr (Nat.le_refl _) fun c hc => sz.ok c (Mth.runs_sub dis_LF _ z.cps.toList 0 (Nat.le_refl _) r hr c hc)).strOk
theorem ok_len {z : Str} {zs : List Str} (sz : Sm 10000 z) (h : outT z = .ok zs) : zs.length ≤ 10000 := by
  unfold outT at h
  split at h
  · cases h
  · cases e : wrongT z with
    | cons j r => rw [e] at h; cases h
    | nil =>
      rw [e] at h; cases h
      unfold foundT
      rw [List.length_map]
      have := (Mth.runs_shape (L := Lb) (F := Fb) (B := Bb) dis_LF _ z.cps.toList 0 (Nat.le_refl _)).1
      have tl : z.length = z.cps.toList.length := by rw [Array.length_toList]; rfl
      have := sz.len
      exact Nat.le_trans (show (runsT z).length ≤ z.cps.toList.length by assumption) (by omega)
theorem due_to {z : Str} {M : Mem} {Q : UK} (sz : Sm 10000 z) (k : ∀ du M1, Le M M1 → ((∃ i : Nat, outT z = .bad i ∧ du = .int i) ∨ ∃ d zs, outT z = .ok zs ∧ du = .ref d ∧ M1 d = some (.lst (zs.map U.str))) → Q du M1) : spDue [.str z] M Q :=
  ⟨z, rfl, sz, fun i e => k _ _ (Le.refl _) (.inl ⟨i, e, rfl⟩), fun zs e p hp => k _ _ (Le.new hp) (.inr ⟨p, zs, e, rfl, put_same⟩)⟩
theorem told_to {z : Str} {M : Mem} {Q : UK} (sz : Sm 10000 z) (k1 : ∀ i : Nat, outT z = .bad i → Q (.int i) M) (k2 : ∀ zs, outT z = .ok zs → ∀ p, M p = none → Q (.ref p) (put M p (.lst (zs.map U.str)))) : spTold [.str z] M Q :=
  ⟨.str z, "str", rfl, .str z, fun z' e => by cases e; exact sz.len, k2, k1⟩
section
variable {P : Program} {w : World} {K : Frag} {mg : Str → Option Value} {base : Heap}
structure LawT (K : Frag) (mg : Str → Option Value) : Prop extends Bl3 mg where
  b_list : mg "list" = none
  b_tuple : mg "tuple" = none
  b_all : mg "all" = none
  b_sorted : mg "sorted" = none
  g_TOLD : ∃ a, mg "TOLD" = some (.ref a) ∧ ∀ H, SqT K H a (toldS.map V.str)
noncomputable def spLaw : Sp2 := fun us M Q => ∃ ns : List Int, us = [.fl (ns.map U.int)] ∧ ns.length ≤ 63 ∧ Q (.bl true) M
noncomputable def st_law : Stmt := top 43
theorem sc_law : FnScope ["_law_script", "_law_text_here", "_law_due_here", "_law_held", "_law_turn", "_law_found", "_law_cell", "_law_odd_here", "_law_some", "_law_word"] ["_law_script"] (defScope st_law) := ⟨rfl, rfl, rfl, by decide +kernel, rfl, by decide +kernel, by decide +kernel⟩
theorem ok_law {f : Addr} {fd : FuncData} (T : LawT K mg) (c_l_text : Cal2 P w K mg base 3 "_law_text" ["_law_script"] spText) (c_l_due : Cal2 P w K mg base 2 "_law_due" ["_law_text_here"] spDue) (c_l_told : Cal2 P w K mg base 9 "_law_told" ["_law_thing"] spTold)
    (c_l_mixed : Cal2 P w K mg base 1 "_law_mixed" ["_law_cell", "_law_k"] spMixed) (c_l_cell_at : Cal2 P w K mg base 1 "_law_cell_at" ["_law_script", "_law_k"] spCellAt) (c_l_told_words : Cal2 P w K mg base 1 "_law_told_words" [] spToldW) (c_l_piece : Cal2 P w K mg base 2 "_law_piece" ["_law_cell"] spPiece) (c_l_odd : Cal2 P w K mg base 1 "_law_odd" ["_law_cell"] spOdd)
    (c_l_name_right : Cal2 P w K mg base 4 "_law_name_right" ["_law_word"] spNameR) (c_l_by_hand : Cal2 P w K mg base 4 "_law_by_hand" ["_law_cell"] spHand) (F : Fun K "law" "law" st_law f fd) : FnOk P w K mg base CX0 10 f fd ["_law_script"] (liftSp K spLaw) := by
  refine fn2 F sc_law (by rintro us M Q ⟨ns, e, _⟩; rw [e]; rfl) (hbody := fun cdv A outer s H E hr => ?_)
  refine ⟨_, (qss_cons (qs_set (i := 1) sc_law.nd rfl (by first | exact Or.inl rfl | exact Or.inr rfl) (qe_call c_l_text (hr.mono (by first | decide | omega)) rfl (qa_cons (qv 0) qa_nil)))
      (qss_cons (qs_set (i := 2) sc_law.nd rfl (by first | exact Or.inl rfl | exact Or.inr rfl) (qe_call c_l_due (hr.mono (by first | decide | omega)) rfl (qa_cons (qv 1) qa_nil)))
      (qss_cons (qs_set (i := 3) sc_law.nd rfl (by first | exact Or.inl rfl | exact Or.inr rfl) (qe_lst qa_nil))
      (qss_cons (qs_for PassesOwn.never rfl (sqi_range1 rfl T.b_range (qa_cons qe_int qa_nil)) (qg_name (i := 4) sc_law.nd rfl (by first | exact Or.inl rfl | exact Or.inr rfl)) (qss_cons (qs_set (i := 5) sc_law.nd rfl (by first | exact Or.inl rfl | exact Or.inr rfl) (qe_call c_l_told (hr.mono (by first | decide | omega)) rfl (qa_cons (qv 1) qa_nil)))
      (qss_cons (qs_if (QW.qt (qw_or (qt_tru (qe_callB (sc_isi K) (by rfl) T.b_isinstance PyProof.Rows.boot_isinstance (qa_cons (qv 5) (qa_cons (qe_ty rfl T.b_bool PyProof.Rows.boot_bool) qa_nil))) (fun _ => rfl)) (qw_or (qt_cmp (so_ne hr.units) (qe_callB (sc_isi K) (by rfl) T.b_isinstance PyProof.Rows.boot_isinstance (qa_cons (qv 5) (qa_cons (qe_ty rfl T.b_list PyProof.Rows.boot_list) qa_nil))) (qe_callB (sc_isi K) (by rfl) T.b_isinstance PyProof.Rows.boot_isinstance (qa_cons (qv 2) (qa_cons (qe_ty rfl T.b_list PyProof.Rows.boot_list) qa_nil))) (nomark _)) (qw_or1 (qt_cmp (so_ne hr.units) (qv 5) (qv 2) (nomark _)))))) (qss_one (qs_ret qe_bl)) qss_nil)
      (qss_one (qs_if (qt_tru (qe_callB (sc_isi K) (by rfl) T.b_isinstance PyProof.Rows.boot_isinstance (qa_cons (qv 5) (qa_cons (qe_ty rfl T.b_list PyProof.Rows.boot_list) qa_nil))) (fun _ => rfl)) (qss_cons (qs_if (qt_not (qt_tru (qe_callB (sc_all rfl) (by rfl) T.b_all PyProof.Rows.boot_all (qa_cons (qe_comp rfl (qi_seq (qv 5)) (fun _ _ _ _ _ => (qg_name (i := 0) (show List.Nodup (["_law_word"] : List Str) by decide +kernel) rfl (by first | exact Or.inl rfl | exact Or.inr rfl))) (fun _ _ _ _ _ => qf_nil) (fun _ _ _ _ _ => (qe_callB (sc_isi K) (by rfl) T.b_isinstance PyProof.Rows.boot_isinstance (qa_cons (qv 0) (qa_cons (qe_ty rfl T.b_str PyProof.Rows.boot_str) qa_nil)))) (N := ["_law_word"]) (ix := [none]) (by kernel_rfl)) qa_nil)) (fun _ => rfl))) (qss_one (qs_ret qe_bl)) qss_nil)
      (qss_cons (qs_expr (qe_bm PySem.F.plainAttrs_list PySem.F.slot_list_append PySem.F.type_list_append sm_append (qv 5) (qa_cons qe_str qa_nil)))
      (qss_one (qs_expr (qe_bm PySem.F.plainAttrs_list PySem.F.slot_list_append PySem.F.type_list_append sm_append (qv 3) (qa_cons (qv 5) qa_nil)))))) qss_nil)))))
      (qss_cons (qs_set (i := 6) sc_law.nd rfl (by first | exact Or.inl rfl | exact Or.inr rfl) (qe_op so_fdiv (qe_call c_l_mixed (hr.mono (by first | decide | omega)) rfl (qa_cons (qe_call c_l_cell_at (hr.mono (by first | decide | omega)) rfl (qa_cons (qv 0) (qa_cons qe_int qa_nil))) (qa_cons qe_int qa_nil))) qe_int))
      (qss_cons (qs_set (i := 7) sc_law.nd rfl (by first | exact Or.inl rfl | exact Or.inr rfl) (qe_pick0 (qa_cons qe_non (qa_cons qe_int (qa_cons qe_bl (qa_cons (qe_lst (qa_cons qe_str qa_nil)) (qa_cons (qe_tup (qa_cons qe_str qa_nil)) (qa_cons qe_dnew (qa_cons qe_int (qa_cons (qe_lst (qa_cons (qv 1) qa_nil)) qa_nil)))))))) (qp_op so_mod so_mod_pu (qp_v 6) qp_int) (fun _ _ => rfl)))
      (qss_cons (qs_if (QW.qt (qw_or (qt_cmp (so_ne hr.units) (qe_call c_l_told (hr.mono (by first | decide | omega)) rfl (qa_cons (qv 7) qa_nil)) qe_int (nomark _)) (qw_or (qt_not (qt_tru (qe_callB (sc_isi K) (by rfl) T.b_isinstance PyProof.Rows.boot_isinstance (qa_cons (qe_gt rfl T.g_TOLD) (qa_cons (qe_ty rfl T.b_tuple PyProof.Rows.boot_tuple) qa_nil))) (fun _ => rfl))) (qw_or1 (qt_cmp (so_ne hr.units) (qe_callB c_sorted (by rfl) T.b_sorted PyProof.Rows.boot_sorted (qa_cons (qe_gt rfl T.g_TOLD) qa_nil)) (qe_callB c_sorted (by rfl) T.b_sorted PyProof.Rows.boot_sorted (qa_cons (qe_call0 c_l_told_words (hr.mono (by first | decide | omega)) rfl) qa_nil)) (nomark _)))))) (qss_one (qs_ret qe_bl)) qss_nil)
      (qss_cons (qs_set (i := 8) sc_law.nd rfl (by first | exact Or.inl rfl | exact Or.inr rfl) (qe_lst (qa_cons (qe_call c_l_piece (hr.mono (by first | decide | omega)) rfl (qa_cons (qe_op so_fdiv (qv 6) qe_int) qa_nil)) (qa_cons (qe_call c_l_odd (hr.mono (by first | decide | omega)) rfl (qa_cons (qe_op so_fdiv (qv 6) qe_int) qa_nil)) (qa_cons (qe_op so_addS (qe_call c_l_piece (hr.mono (by first | decide | omega)) rfl (qa_cons (qe_op so_fdiv (qv 6) qe_int) qa_nil)) (qe_call c_l_piece (hr.mono (by first | decide | omega)) rfl (qa_cons (qe_op so_fdiv (qv 6) qe_int) qa_nil))) (qa_cons qe_str qa_nil))))))
      (qss_cons (qs_for PassesOwn.never rfl (qi_seq (qe_op so_addL (qv 8) (qe_lst (qa_cons (qe_op so_addS (qe_call c_l_piece (hr.mono (by first | decide | omega)) rfl (qa_cons (qe_op so_addI (qe_op so_mul (qe_op so_fdiv (qv 6) qe_int) qe_int) qe_int) qa_nil)) qe_str) qa_nil)))) (qg_name (i := 9) sc_law.nd rfl (by first | exact Or.inl rfl | exact Or.inr rfl)) (qss_one (qs_if (qt_not (qt_tru (qe_call c_l_name_right (hr.mono (by first | decide | omega)) rfl (qa_cons (qv 9) qa_nil)) (fun _ => rfl))) (qss_one (qs_ret qe_bl)) qss_nil)))
      (qss_cons (qs_if (qt_not (qt_tru (qe_call c_l_by_hand (hr.mono (by first | decide | omega)) rfl (qa_cons (qe_op so_fdiv (qv 6) qe_int) qa_nil)) (fun _ => rfl))) (qss_one (qs_ret qe_bl)) qss_nil)
      (qss_one (qs_ret (qe_cmp (so_eq hr.units) (qe_comp rfl (qi_seq (qv 3)) (fun _ _ _ _ _ => (qg_name (i := 0) (show List.Nodup (["_law_one", "_law_due_here"] : List Str) by decide +kernel) rfl (by first | exact Or.inl rfl | exact Or.inr rfl))) (fun _ _ _ _ _ => (qf_one (qt_cmp (so_ne hr.units) (qv 0) (qe_op so_addL (qv 1) (qe_lst (qa_cons qe_str qa_nil))) (nomark _)))) (fun _ _ _ _ _ => (qv 0)) (N := ["_law_one", "_law_due_here"]) (ix := [none, some 2]) (by kernel_rfl)) (qe_lst qa_nil) (nomark _)))))))))))))), ?_⟩
  rintro us M Q cl ⟨ns, rfl, h63, q⟩
  walk_at "g"
  refine ⟨ns, rfl, fun z sz => ?_⟩
  walk_at "g"
  refine due_to sz fun du M1 lM hd => ?_
  walk_at "g"
  intro h hh
  have L0 : Lw z du h 0 (put M1 h (.lst [])) := ⟨[], Nat.le_refl _, put_same, by
    rcases hd with ⟨i, a, b⟩ | ⟨d, zs, a, b, c⟩
    · exact .inl ⟨i, a, b, rfl⟩
    · exact .inr ⟨d, zs, a, b, mne c hh, kpM c hh, fun q hq => by cases hq⟩⟩
  have lM0 : Le M (put M1 h (.lst [])) := lM.trans (Le.new hh)
  clear hd
  walk_at "g"
  refine Walk.rng (fun n σ M' => Lw z du h n M' ∧ Le M M' ∧ ∃ o4 o5, σ = [some (.fl (ns.map U.int)), some (.str z), some du, some (.ref h), o4, o5, none, none, none, none]) ⟨L0, lM0, _, _, rfl⟩ ?_ ?_
  · rintro n σ M' hn ⟨⟨hs, hl, hm, hc⟩, lM', o4, o5, rfl⟩
    walk_at "g"
    refine told_to sz (fun i e => ?_) (fun zs e p hp => ?_)
    · rcases hc with ⟨i', a, rfl, rfl⟩ | ⟨d, zs, a, _⟩
      · rw [e] at a; cases a
        walk_at "g"
        refine isi_s false (.int _) rfl ?_
        walk_at "g"
        refine isi_s false (.int _) rfl ?_
        walk_at "g"
        refine isi_s false (.int _) rfl ?_
        walk_at "g"
        refine bEf (by simp) ?_
        walk_at "g"
        refine isi_s false (.int _) rfl ?_
        walk_at "g"
        exact ⟨_, Le.refl _, ⟨[], Nat.zero_le _, hm, .inl ⟨i, e, rfl, rfl⟩⟩, lM', _, _, rfl⟩
      · rw [e] at a; cases a
    · rcases hc with ⟨i', a, _⟩ | ⟨d, zs', a, rfl, ndh, hd, hq⟩
      · rw [e] at a; cases a
      · rw [e] at a; cases a
        have okz := ok_strs sz e
        have lenz := ok_len sz e
        have lenS : zs.length < sizeLine := Nat.lt_of_le_of_lt lenz (by decide)
        have hdp := kpM (u := .lst (zs.map U.str)) hd hp
        walk_at "g"
        refine isi_s false (.lst put_same) rfl ?_
        walk_at "g"
        refine isi_s true (.lst put_same) rfl ?_
        walk_at "g"
        refine isi_s true (.lst hdp) rfl ?_
        walk_at "g"
        refine ⟨_, _, .lst put_same (DatAll.strs zs okz), .lst hdp (DatAll.strs zs okz), depth_s2 _ _, ?_⟩
        rw [eqv_strs okz]
        walk_at "g"
        refine isi_s true (.lst put_same) rfl ?_
        walk_at "g"
        refine ⟨_, put_same, ?_⟩
        walk_at "g"
        refine Comp.mapped zs U.str (fun _ => .bl true) (fun σ => ∃ a, σ = [a]) rfl ⟨_, rfl⟩ (Nat.le_of_lt lenS) (fun M' l => l _ _ put_same) ?_ ?_
        · rintro x hx σ ⟨a, rfl⟩ Y yes N
          walk_at "g"
          refine isi_s true (.str _) rfl ?_
          exact yes _ _ ⟨_, rfl⟩ (Le.refl _)
        · intro p2 h2
          have np : M p = none := lM'.free hp
          have np2 : M p2 = none := (lM'.trans (Le.new hp)).free h2
          have nh : M h = none := lM.free hh
          have hnp : h ≠ p := mne hm hp
          have dnp : d ≠ p := mne hd hp
          have kp := kpM (u := .lst (zs.map fun _ => U.bl true)) (put_same (M := M') (a := p) (o := .lst (zs.map U.str))) h2
          walk_at "g"
          refine all_s (bs := zs.map fun _ => true) (by rw [put_same, List.map_map]; rfl) ?_
          have al : (zs.map fun _ => true).all id = true := by simp
          rw [al]
          walk_at "g"
          refine ⟨⟨rfl, _, kp⟩, ?_⟩
          walk_at "g"
          refine app_s kp (by rw [List.length_map]; exact lenS) ?_
          walk_at "g"
          have kh : put (put (put M' p (.lst (zs.map U.str))) p2 (.lst (zs.map fun _ => U.bl true))) p (.lst (zs.map U.str ++ [.str "more"])) h = some (.lst (hs.map U.ref)) := (put_ne hnp).trans (kpM (kpM hm hp) h2)
          refine ⟨⟨rfl, _, kh⟩, ?_⟩
          walk_at "g"
          refine app_s kh (by rw [List.length_map]; exact Nat.lt_of_le_of_lt hl (Nat.lt_trans hn (by decide))) ?_
          walk_at "g"
          refine ⟨_, Le.refl _, ⟨hs ++ [p], by rw [List.length_append]; exact Nat.succ_le_succ hl, by rw [put_same, List.map_append]; rfl, .inr ⟨d, zs, e, rfl, ndh, (put_ne ndh).trans ((put_ne dnp).trans (kpM (kpM hd hp) h2)), fun y hy => ?_⟩⟩, (((lM'.put np).put np2).put np).put nh, _, _, rfl⟩
          rcases List.mem_append.mp hy with y1 | y1
          · obtain ⟨g1, g2⟩ := hq y y1
            exact ⟨g1, (put_ne g1).trans ((put_ne (mne g2 hp)).trans (kpM (kpM g2 hp) h2))⟩
          · rw [List.mem_singleton.mp y1]
            refine ⟨Ne.symm hnp, (put_ne (Ne.symm hnp)).trans (put_same.trans ?_)⟩
            rw [List.map_append]; rfl
  · rintro σ M' ⟨lw, lM', o4, o5, rfl⟩
    walk_at "g"
    refine ⟨ns, 0, rfl, Int.le_refl _, ?_⟩
    walk_at "g"
    refine ⟨_, _, rfl, by omega, by omega, ?_⟩
    generalize mixed (cellAt ns 0) 42 = mo
    walk_at "g"
    intro p1 h1
    walk_at "g"
    intro p2 h2
    walk_at "g"
    intro p3 h3
    walk_at "g"
    refine pickU (by omega) (by show _ < (8 : Int); omega) fun u hu => ?_
    have ku : ∃ t, KindU (put (put (put M' p1 (.lst [.str "a"])) p2 (.dct [])) p3 (.lst [.str z])) u t ∧ outU u = .bad 0 ∧ ∀ z', u ≠ .str z' := by
      simp only [List.mem_cons, List.not_mem_nil, or_false] at hu
      rcases hu with rfl | rfl | rfl | rfl | rfl | rfl | rfl | rfl
      · exact ⟨_, .non, rfl, fun _ e => by cases e⟩
      · exact ⟨_, .int _, rfl, fun _ e => by cases e⟩
      · exact ⟨_, .bl _, rfl, fun _ e => by cases e⟩
      · exact ⟨_, .lst (kpM (kpM put_same h2) h3), rfl, fun _ e => by cases e⟩
      · exact ⟨_, .tup _, rfl, fun _ e => by cases e⟩
      · exact ⟨_, .dct (kpM put_same h3), rfl, fun _ e => by cases e⟩
      · exact ⟨_, .int _, rfl, fun _ e => by cases e⟩
      · exact ⟨_, .lst put_same, rfl, fun _ e => by cases e⟩
    have l4 : Le M' (put (put (put M' p1 (.lst [.str "a"])) p2 (.dct [])) p3 (.lst [.str z])) := ((Le.new h1).trans (Le.new h2)).trans (Le.new h3)
    generalize put (put (put M' p1 (.lst [.str "a"])) p2 (.dct [])) p3 (.lst [.str z]) = M4 at ku l4
    clear hu h1 h2 h3
    obtain ⟨t, kt, ob, nz⟩ := ku
    walk_at "g"
    refine ⟨u, t, rfl, kt, fun z' e => absurd e (nz z'), fun zs e => (by rw [ob] at e; cases e), fun i e => ?_⟩
    rw [ob] at e; cases e
    walk_at "g"
    refine isi_s true (.tup _) rfl ?_
    walk_at "g"
    refine ⟨_, toldS, rfl, .inr rfl, by decide, fun ys a1 b1 q1 g1 => ?_⟩
    walk_at "g"
    refine ⟨rfl, fun q2 g2 => ?_⟩
    walk_at "g"
    refine ⟨_, toldS, rfl, .inl ⟨_, rfl, put_same⟩, by decide, fun xs a2 b2 q3 g3 => ?_⟩
    obtain rfl := sort_one a1 a2 b1 b2
    walk_at "g"
    have oky : ∀ x ∈ ys, PyData.strOk x = true := fun x hx => (sm_mem (n := 8) (zs := toldS) (by decide +kernel) x (a1.mem_iff.mp hx)).strOk
    refine ⟨_, _, .lst (kpM (kpM put_same g2) g3) (DatAll.strs ys oky), .lst put_same (DatAll.strs ys oky), depth_s2 _ _, ?_⟩
    rw [eqv_strs oky]
    have l5 := ((l4.trans (Le.new (o := .lst (ys.map U.str)) g1)).trans (Le.new (o := .lst (toldS.map U.str)) g2)).trans (Le.new (o := .lst (ys.map U.str)) g3)
    generalize put (put (put M4 q1 (.lst (ys.map U.str))) q2 (.lst (toldS.map U.str))) q3 (.lst (ys.map U.str)) = M5 at l5
    clear g1 g2 g3
    walk_at "g"
    refine ⟨_, rfl, fun w1 s1 => ?_⟩
    walk_at "g"
    refine ⟨_, rfl, fun w2 s2 => ?_⟩
    walk_at "g"
    refine ⟨_, rfl, fun w3 s3 => ?_⟩
    walk_at "g"
    refine ⟨_, rfl, fun w4 s4 => ?_⟩
    walk_at "g"
    refine addS_s (Nat.le_trans (Nat.add_le_add s3.len s4.len) (by decide)) ?_
    walk_at "g"
    intro p5 g5
    walk_at "g"
    refine ⟨_, rfl, fun w5 s5 => ?_⟩
    walk_at "g"
    refine addS_s (Nat.le_trans (Nat.add_le_add_right s5.len _) (by decide)) ?_
    walk_at "g"
    intro p6 g6
    walk_at "g"
    refine addL_s (kpM put_same g6) put_same (L3.small (Nat.le_of_ble_eq_true rfl)) fun p7 g7 => ?_
    walk_at "g"
    refine ⟨_, put_same, ?_⟩
    have l7 := ((l5.trans (Le.new (o := .lst [.str w1, .str w2, .str (w3 ++ w4), .str ""]) g5)).trans (Le.new (o := .lst [.str (w5 ++ "\n")]) g6)).trans (Le.new (o := .lst ([.str w1, .str w2, .str (w3 ++ w4), .str ""] ++ [.str (w5 ++ "\n")])) g7)
    have lst7 : put (put (put M5 p5 (.lst [.str w1, .str w2, .str (w3 ++ w4), .str ""])) p6 (.lst [.str (w5 ++ "\n")])) p7 (.lst ([.str w1, .str w2, .str (w3 ++ w4), .str ""] ++ [.str (w5 ++ "\n")])) p7 = some (.lst ([.str w1, .str w2, .str (w3 ++ w4), .str ""] ++ [.str (w5 ++ "\n")])) := put_same
    generalize put (put (put M5 p5 (.lst [.str w1, .str w2, .str (w3 ++ w4), .str ""])) p6 (.lst [.str (w5 ++ "\n")])) p7 (.lst ([.str w1, .str w2, .str (w3 ++ w4), .str ""] ++ [.str (w5 ++ "\n")])) = M7 at l7 lst7
    clear g5 g6 g7
    have allS : ∀ x ∈ ([.str w1, .str w2, .str (w3 ++ w4), .str ""] ++ [.str (w5 ++ "\n")] : List U), ∃ y, x = .str y ∧ Sm 1000 y := by
      intro x hx
      simp only [List.cons_append, List.nil_append, List.mem_cons, List.not_mem_nil, or_false] at hx
      rcases hx with rfl | rfl | rfl | rfl | rfl
      · exact ⟨_, rfl, s1.mono (by decide)⟩
      · exact ⟨_, rfl, s2.mono (by decide)⟩
      · exact ⟨_, rfl, (s3.app s4).mono (by decide)⟩
      · exact ⟨_, rfl, Sm.of (by decide +kernel)⟩
      · exact ⟨_, rfl, (s5.app (Sm.of (n := 1) (by decide +kernel))).mono (by decide)⟩
    have lw7 := lw.le l7
    have lM7 := lM'.trans l7
    walk_at "g"
    refine Walk.inv (fun i σ M'' => M'' = M7 ∧ ∃ o4 o5 o7 o8 o9, σ = [some (.fl (ns.map U.int)), some (.str z), some du, some (.ref h), o4, o5, some (.int (mo / 7)), o7, o8, o9]) ⟨rfl, _, _, _, _, _, rfl⟩ ?_ ?_
    · rintro i x σ M'' hx ⟨rfl, o4, o5, o7, o8, o9, rfl⟩
      refine ⟨lst7, ?_⟩
      obtain ⟨y, rfl, sy⟩ := allS x (List.mem_of_getElem? hx)
      walk_at "g"
      refine ⟨y, rfl, sy, ?_⟩
      walk_at "g"
      exact ⟨_, Le.refl _, rfl, _, _, _, _, _, rfl⟩
    · rintro σ M'' ⟨rfl, o4, o5, o7, o8, o9, rfl⟩
      refine ⟨lst7, ?_⟩
      walk_at "g"
      refine ⟨_, rfl, ?_⟩
      walk_at "g"
      obtain ⟨hs, hl, hm, hc⟩ := lw7
      refine ⟨_, hm, ?_⟩
      walk_at "g"
      have fin : ∀ p8, M'' p8 = none → ∀ p9, put M'' p8 (.lst []) p9 = none → Q (.bl true) (put (put M'' p8 (.lst [])) p9 (.lst [])) := fun p8 k8 p9 k9 => cl _ _ _ ((lM7.trans (Le.new k8)).trans (Le.new k9)) q
      rcases hc with ⟨i, a, rfl, rfl⟩ | ⟨d, zs, a, rfl, ndh, hd, hq⟩
      · refine Comp.inv (by decide) (fun i ys σ N => N = M'' ∧ ys = []) ⟨rfl, rfl⟩ (fun i x ys σ N hx => by simp at hx) ?_
        rintro ys σ N ⟨rfl, rfl⟩
        refine ⟨hm, fun p8 k8 => ?_⟩
        walk_at "g"
        intro p9 k9
        walk_at "g"
        refine ⟨_, _, .lst (kpM put_same k9) .nil, .lst put_same .nil, depth0 [], ?_⟩
        rw [eqv_nil]
        exact fin p8 k8 p9 k9
      · have okz := ok_strs sz a
        have okm : ∀ x ∈ zs ++ [("more" : Str)], PyData.strOk x = true := fun x hx => (List.mem_append.mp hx).elim (okz x) fun y => by rw [List.mem_singleton.mp y]; decide +kernel
        refine Comp.inv (by rw [List.length_map]; exact Nat.le_trans hl (by decide)) (fun i ys σ N => N = M'' ∧ ys = [] ∧ ∃ a, σ = [a, some (.ref d)]) ⟨rfl, rfl, _, rfl⟩ ?_ ?_
        · rintro i x ys σ N hx hy ⟨rfl, rfl, v, rfl⟩
          refine ⟨hm, ?_⟩
          rw [List.getElem?_map] at hx
          cases ex : hs[i]? with
          | none => rw [ex] at hx; cases hx
          | some y =>
            rw [ex] at hx; cases hx
            obtain ⟨g1, g2⟩ := hq y (List.mem_of_getElem? ex)
            walk_at "g"
            intro p8 k8
            walk_at "g"
            refine addL_s (kpM hd k8) put_same (by rw [List.length_map]; exact Nat.le_trans (Nat.add_le_add_right (ok_len sz a) _) (by decide)) fun p9 k9 => ?_
            walk_at "g"
            have em : zs.map U.str ++ [.str "more"] = (zs ++ [("more" : Str)]).map U.str := by rw [List.map_append]; rfl
            rw [em]
            refine ⟨_, _, .lst (kpM (kpM g2 k8) k9) (DatAll.strs _ okm), .lst put_same (DatAll.strs _ okm), depth_s2 _ _, ?_⟩
            rw [eqv_strs okm]
            walk_at "g"
            exact ⟨_, (Le.new k8).trans (Le.new k9), rfl, rfl, _, rfl⟩
        · rintro ys σ N ⟨rfl, rfl, v, rfl⟩
          refine ⟨hm, fun p8 k8 => ?_⟩
          walk_at "g"
          intro p9 k9
          walk_at "g"
          refine ⟨_, _, .lst (kpM put_same k9) .nil, .lst put_same .nil, depth0 [], ?_⟩
          rw [eqv_nil]
          exact fin p8 k8 p9 k9
end
set_option maxHeartbeats 1000000
open PySem PySem.Spec PyProof.Rows L2 L3 XC
theorem okI {i : Int} (h : -1000000000 < i ∧ i < 1000000000) : i.natAbs.log2 < 1920 := by
  have : i.natAbs < 2 ^ 1920 := Nat.lt_of_le_of_lt (by omega : i.natAbs ≤ 1000000000) (by decide +kernel)
  by_cases h : i.natAbs = 0
  · rw [h]; decide
  · exact (Nat.log2_lt h).mpr this
theorem joinFit {H : Hp} {acc : Str} {v : V} {t : TJ} {Q : VK} {a : Addr} (ok : OkV v) (ha : acc.length ≤ 1000) (k : ∀ z : Str, z.length ≤ 4000 → t z [some (.ref a), some v] H Q) : tJCons (tFmt (tVar 1)) t acc [some (.ref a), some v] H Q := by
  refine ⟨v, rfl, ?_⟩
  have big : 4000 ≤ sizeLine := by decide
  cases v with
  | int i =>
    have l := int_text_len_1921 (okI ok)
    have e : (acc ++ (toString i : Str)).length ≤ 4000 := by rw [strLen_append]; omega
    exact .inr ⟨i, rfl, okI ok, _, rfl, Nat.le_trans e big, k _ e⟩
  | str y =>
    have hy : y.length ≤ 1000 := ok
    have e : (acc ++ y).length ≤ 4000 := by rw [strLen_append]; omega
    exact .inl ⟨y, rfl, Nat.le_trans (by omega) big, _, rfl, Nat.le_trans e big, k _ e⟩
  | _ => exact ok.elim
theorem rd2 {x : Str} (h : x.length ≤ 1000) : ∀ (a : Addr) (v : V) (H : Hp) (Q : VK), OkV v → (∀ z, Q (.str z) H) → tJCons (tC (.str x)) (tJCons (tFmt (tVar 1)) tJNil) Str.empty [some (.ref a), some v] H Q := fun a v H Q ok q => by
  have big : 4000 ≤ sizeLine := by decide
  have e : (Str.empty ++ x).length ≤ 1000 := by rw [strLen_append]; show 0 + x.length ≤ 1000; omega
  exact ⟨x, rfl, Nat.le_trans e (by decide), joinFit ok e fun z hz => ⟨Nat.le_trans hz big, q z⟩⟩
theorem rd3 {x y : Str} (h : x.length ≤ 1000) (h' : y.length ≤ 1000) : ∀ (a : Addr) (v : V) (H : Hp) (Q : VK), OkV v → (∀ z, Q (.str z) H) → tJCons (tC (.str x)) (tJCons (tFmt (tVar 1)) (tJCons (tC (.str y)) tJNil)) Str.empty [some (.ref a), some v] H Q := fun a v H Q ok q => by
  have big : 5000 ≤ sizeLine := by decide
  have e : (Str.empty ++ x).length ≤ 1000 := by rw [strLen_append]; show 0 + x.length ≤ 1000; omega
  refine ⟨x, rfl, Nat.le_trans e (by decide), joinFit ok e fun z hz => ?_⟩
  have e2 : (z ++ y).length ≤ 5000 := by rw [strLen_append]; omega
  exact ⟨y, rfl, Nat.le_trans e2 big, Nat.le_trans e2 big, q _⟩
section
variable {P : Program} {w : World} {K : Frag} {mg : Str → Option Value} {base : Heap}
noncomputable def st_BadSign_init : Stmt := inClass (top 2) 0
theorem sc_BadSign_init : FnScope ["self", "spot"] ["self", "spot"] (defScope st_BadSign_init) := ⟨rfl, rfl, rfl, by decide +kernel, rfl, by decide +kernel, by decide +kernel⟩
theorem e_BadSign {C D f : Addr} {fd : FuncData} {qual : Str} (T : ThrB K D) (hm : mg "HallError" = some (.ref D)) (Er : ErrK K C f "spot") (F : Fun K "__init__" qual st_BadSign_init f fd) : FnOk P w K mg base CX0 1 f fd ["self", "spot"] (spE C "spot") :=
  init_fn F sc_BadSign_init Er T hm (fun _ _ _ _ _ _ => rfl) (by decide) (by decide) rfl (fun _ _ => ⟨_, rfl⟩) (fun X hN hs => pe_join (pj_cons pe_str (pj_cons (pe_fmt (pv 1 (by rw [hN]; rfl) (by rw [hs]; first | exact Or.inl rfl | exact Or.inr (Or.inl rfl) | exact Or.inr (Or.inr rfl)))) (pj_cons pe_str pj_nil)))) (rd3 (by decide +kernel) (by decide +kernel))
noncomputable def st_BadText_init : Stmt := inClass (top 3) 0
theorem sc_BadText_init : FnScope ["self", "spot"] ["self", "spot"] (defScope st_BadText_init) := ⟨rfl, rfl, rfl, by decide +kernel, rfl, by decide +kernel, by decide +kernel⟩
theorem e_BadText {C D f : Addr} {fd : FuncData} {qual : Str} (T : ThrB K D) (hm : mg "HallError" = some (.ref D)) (Er : ErrK K C f "spot") (F : Fun K "__init__" qual st_BadText_init f fd) : FnOk P w K mg base CX0 1 f fd ["self", "spot"] (spE C "spot") :=
  init_fn F sc_BadText_init Er T hm (fun _ _ _ _ _ _ => rfl) (by decide) (by decide) rfl (fun _ _ => ⟨_, rfl⟩) (fun X hN hs => pe_join (pj_cons pe_str (pj_cons (pe_fmt (pv 1 (by rw [hN]; rfl) (by rw [hs]; first | exact Or.inl rfl | exact Or.inr (Or.inl rfl) | exact Or.inr (Or.inr rfl)))) (pj_cons pe_str pj_nil)))) (rd3 (by decide +kernel) (by decide +kernel))
noncomputable def st_BadName_init : Stmt := inClass (top 4) 0
theorem sc_BadName_init : FnScope ["self", "word"] ["self", "word"] (defScope st_BadName_init) := ⟨rfl, rfl, rfl, by decide +kernel, rfl, by decide +kernel, by decide +kernel⟩
theorem e_BadName {C D f : Addr} {fd : FuncData} {qual : Str} (T : ThrB K D) (hm : mg "HallError" = some (.ref D)) (Er : ErrK K C f "word") (F : Fun K "__init__" qual st_BadName_init f fd) : FnOk P w K mg base CX0 1 f fd ["self", "word"] (spE C "word") :=
  init_fn F sc_BadName_init Er T hm (fun _ _ _ _ _ _ => rfl) (by decide) (by decide) rfl (fun _ _ => ⟨_, rfl⟩) (fun X hN hs => pe_join (pj_cons pe_str (pj_cons (pe_fmt (pv 1 (by rw [hN]; rfl) (by rw [hs]; first | exact Or.inl rfl | exact Or.inr (Or.inl rfl) | exact Or.inr (Or.inr rfl)))) pj_nil))) (rd2 (by decide +kernel))
noncomputable def st_BadNumber_init : Stmt := inClass (top 5) 0
theorem sc_BadNumber_init : FnScope ["self", "word"] ["self", "word"] (defScope st_BadNumber_init) := ⟨rfl, rfl, rfl, by decide +kernel, rfl, by decide +kernel, by decide +kernel⟩
theorem e_BadNumber {C D f : Addr} {fd : FuncData} {qual : Str} (T : ThrB K D) (hm : mg "HallError" = some (.ref D)) (Er : ErrK K C f "word") (F : Fun K "__init__" qual st_BadNumber_init f fd) : FnOk P w K mg base CX0 1 f fd ["self", "word"] (spE C "word") :=
  init_fn F sc_BadNumber_init Er T hm (fun _ _ _ _ _ _ => rfl) (by decide) (by decide) rfl (fun _ _ => ⟨_, rfl⟩) (fun X hN hs => pe_join (pj_cons pe_str (pj_cons (pe_fmt (pv 1 (by rw [hN]; rfl) (by rw [hs]; first | exact Or.inl rfl | exact Or.inr (Or.inl rfl) | exact Or.inr (Or.inr rfl)))) pj_nil))) (rd2 (by decide +kernel))
noncomputable def st_BadRing_init : Stmt := inClass (top 6) 0
theorem sc_BadRing_init : FnScope ["self", "word"] ["self", "word"] (defScope st_BadRing_init) := ⟨rfl, rfl, rfl, by decide +kernel, rfl, by decide +kernel, by decide +kernel⟩
theorem e_BadRing {C D f : Addr} {fd : FuncData} {qual : Str} (T : ThrB K D) (hm : mg "HallError" = some (.ref D)) (Er : ErrK K C f "word") (F : Fun K "__init__" qual st_BadRing_init f fd) : FnOk P w K mg base CX0 1 f fd ["self", "word"] (spE C "word") :=
  init_fn F sc_BadRing_init Er T hm (fun _ _ _ _ _ _ => rfl) (by decide) (by decide) rfl (fun _ _ => ⟨_, rfl⟩) (fun X hN hs => pe_join (pj_cons pe_str (pj_cons (pe_fmt (pv 1 (by rw [hN]; rfl) (by rw [hs]; first | exact Or.inl rfl | exact Or.inr (Or.inl rfl) | exact Or.inr (Or.inr rfl)))) (pj_cons pe_str pj_nil)))) (rd3 (by decide +kernel) (by decide +kernel))
noncomputable def st_BadLoan_init : Stmt := inClass (top 7) 0
theorem sc_BadLoan_init : FnScope ["self", "word"] ["self", "word"] (defScope st_BadLoan_init) := ⟨rfl, rfl, rfl, by decide +kernel, rfl, by decide +kernel, by decide +kernel⟩
theorem e_BadLoan {C D f : Addr} {fd : FuncData} {qual : Str} (T : ThrB K D) (hm : mg "HallError" = some (.ref D)) (Er : ErrK K C f "word") (F : Fun K "__init__" qual st_BadLoan_init f fd) : FnOk P w K mg base CX0 1 f fd ["self", "word"] (spE C "word") :=
  init_fn F sc_BadLoan_init Er T hm (fun _ _ _ _ _ _ => rfl) (by decide) (by decide) rfl (fun _ _ => ⟨_, rfl⟩) (fun X hN hs => pe_join (pj_cons pe_str (pj_cons (pe_fmt (pv 1 (by rw [hN]; rfl) (by rw [hs]; first | exact Or.inl rfl | exact Or.inr (Or.inl rfl) | exact Or.inr (Or.inr rfl)))) pj_nil))) (rd2 (by decide +kernel))
end
open PySem PySem.Spec PyProof.Rows L2 L3 XC
theorem all_mk {l : PySem.W.OpenLaw} {w : World} {K : PySem.W.Frag} {h : Heap} {mg : Str → Option Value} {fa He tT tM f1 f2 f3 f4 f5 f6 f7 f8 f9 f10 f11 f12 f13 f14 f15 f16 f17 f18 f19 f20 f21 f22 g1 N1 g2 N2 g3 N3 g4 N4 g5 N5 g6 N6 B1 B2 B3 B4 B5 B6 B7 B8 B9 B10 : Addr} (X : K.In h) (G : h.Ns mainGlobals mg) (hfa : mg "law" = some (.ref fa))
    {od1 an1 od2 an2 od3 an3 od4 an4 od5 an5 od6 an6 od7 an7 od8 an8 od9 an9 od10 an10 od11 an11 od12 an12 od13 an13 od14 an14 od15 an15 od16 an16 od17 an17 od18 an18 od19 an19 od20 an20 od21 an21 od22 an22 odm1 anm1 odm2 anm2 odm3 anm3 odm4 anm4 odm5 anm5 odm6 anm6 dd0 dT dM : Option Addr} {sl1 sl2 sl3 sl4 sl5 sl6 sl7 sl8 sl9 sl10 sl11 sl12 sl13 sl14 sl15 sl16 sl17 sl18 sl19 sl20 sl21 sl22 slm1 slm2 slm3 slm4 slm5 slm6 sl0 slT slM : Array (Option Value)} {oc1 kV1 dc1 pm1 cd1 ct1 oc2 kV2 dc2 pm2 cd2 ct2 oc3 kV3 dc3 pm3 cd3 ct3 oc4 kV4 dc4 pm4 cd4 ct4 oc5 kV5 dc5 pm5 cd5 ct5 oc6 kV6 dc6 pm6 cd6 ct6 oc7 kV7 dc7 pm7 cd7 ct7 oc8 kV8 dc8 pm8 cd8 ct8 oc9 kV9 dc9 pm9 cd9 ct9 oc10 kV10 dc10 pm10 cd10 ct10 oc11 kV11 dc11 pm11 cd11 ct11 oc12 kV12 dc12 pm12 cd12 ct12 oc13 kV13 dc13 pm13 cd13 ct13 oc14 kV14 dc14 pm14 cd14 ct14 oc15 kV15 dc15 pm15 cd15 ct15 oc16 kV16 dc16 pm16 cd16 ct16 oc17 kV17 dc17 pm17 cd17 ct17 oc18 kV18 dc18 pm18 cd18 ct18 oc19 kV19 dc19 pm19 cd19 ct19 oc20 kV20 dc20 pm20 cd20 ct20 oc21 kV21 dc21 pm21 cd21 ct21 oc22 kV22 dc22 pm22 cd22 ct22 kVm1 dcm1 pmm1 cdm1 ctm1 kVm2 dcm2 pmm2 cdm2 ctm2 kVm3 dcm3 pmm3 cdm3 ctm3 kVm4 dcm4 pmm4 cdm4 ctm4 kVm5 dcm5 pmm5 cdm5 ctm5 kVm6 dcm6 pmm6 cdm6 ctm6 c0 : Value} {cd0 : ClassData} {itsT itsM : Array Value} {nT nM : Nat} {t1 t2 t3 t4 t5 t6 : Tok}
    {en1 eq1 en2 eq2 en3 eq3 en4 eq4 en5 eq5 en6 eq6 : Str} {eb1 es1 eb2 es2 eb3 es3 eb4 es4 eb5 es5 eb6 es6 : List Value} {et1 et2 et3 et4 et5 et6 : List Str} {ea1 ea2 ea3 ea4 ea5 ea6 : Bool} {ec1 ec2 ec3 ec4 ec5 ec6 : Option Bool} {ed1 ed2 ed3 ed4 ed5 ed6 : Option Addr} {eu1 ev1 ew1 ex1 ey1 eu2 ev2 ew2 ex2 ey2 eu3 ev3 ew3 ex3 ey3 eu4 ev4 ew4 ex4 ey4 eu5 ev5 ew5 ex5 ey5 eu6 ev6 ew6 ex6 ey6 : Option Value}
    (a1 : PySem.W.nsIn K mainGlobals "row_end" = some (some (.ref f1)))
    (l1 : K.lookup f1 = some ⟨oc1, od1, .func (PySem.W.fnOf "row_end" "row_end" (defArgs st_row_end) (defBody st_row_end) (defScope st_row_end) .none kV1 dc1 pm1 an1 cd1 ct1), sl1⟩)
    (c1 : PySem.W.codeIn K cd1 "row_end" = true)
    (k1 : PySem.W.keepIn K (.ref f1) = true)
    (a2 : PySem.W.nsIn K mainGlobals "is_row" = some (some (.ref f2)))
    (l2 : K.lookup f2 = some ⟨oc2, od2, .func (PySem.W.fnOf "is_row" "is_row" (defArgs st_is_row) (defBody st_is_row) (defScope st_is_row) .none kV2 dc2 pm2 an2 cd2 ct2), sl2⟩)
    (c2 : PySem.W.codeIn K cd2 "is_row" = true)
    (k2 : PySem.W.keepIn K (.ref f2) = true)
    (a3 : PySem.W.nsIn K mainGlobals "is_number_upto" = some (some (.ref f3)))
    (l3 : K.lookup f3 = some ⟨oc3, od3, .func (PySem.W.fnOf "is_number_upto" "is_number_upto" (defArgs st_is_number_upto) (defBody st_is_number_upto) (defScope st_is_number_upto) .none kV3 dc3 pm3 an3 cd3 ct3), sl3⟩)
    (c3 : PySem.W.codeIn K cd3 "is_number_upto" = true)
    (k3 : PySem.W.keepIn K (.ref f3) = true)
    (a4 : PySem.W.nsIn K mainGlobals "is_number" = some (some (.ref f4)))
    (l4 : K.lookup f4 = some ⟨oc4, od4, .func (PySem.W.fnOf "is_number" "is_number" (defArgs st_is_number) (defBody st_is_number) (defScope st_is_number) .none kV4 dc4 pm4 an4 cd4 ct4), sl4⟩)
    (c4 : PySem.W.codeIn K cd4 "is_number" = true)
    (k4 : PySem.W.keepIn K (.ref f4) = true)
    (a5 : PySem.W.nsIn K mainGlobals "is_name" = some (some (.ref f5)))
    (l5 : K.lookup f5 = some ⟨oc5, od5, .func (PySem.W.fnOf "is_name" "is_name" (defArgs st_is_name) (defBody st_is_name) (defScope st_is_name) .none kV5 dc5 pm5 an5 cd5 ct5), sl5⟩)
    (c5 : PySem.W.codeIn K cd5 "is_name" = true)
    (k5 : PySem.W.keepIn K (.ref f5) = true)
    (a6 : PySem.W.nsIn K mainGlobals "is_word" = some (some (.ref f6)))
    (l6 : K.lookup f6 = some ⟨oc6, od6, .func (PySem.W.fnOf "is_word" "is_word" (defArgs st_is_word) (defBody st_is_word) (defScope st_is_word) .none kV6 dc6 pm6 an6 cd6 ct6), sl6⟩)
    (c6 : PySem.W.codeIn K cd6 "is_word" = true)
    (k6 : PySem.W.keepIn K (.ref f6) = true)
    (a7 : PySem.W.nsIn K mainGlobals "word_end" = some (some (.ref f7)))
    (l7 : K.lookup f7 = some ⟨oc7, od7, .func (PySem.W.fnOf "word_end" "word_end" (defArgs st_word_end) (defBody st_word_end) (defScope st_word_end) .none kV7 dc7 pm7 an7 cd7 ct7), sl7⟩)
    (c7 : PySem.W.codeIn K cd7 "word_end" = true)
    (k7 : PySem.W.keepIn K (.ref f7) = true)
    (a8 : PySem.W.nsIn K mainGlobals "words" = some (some (.ref f8)))
    (l8 : K.lookup f8 = some ⟨oc8, od8, .func (PySem.W.fnOf "words" "words" (defArgs st_words) (defBody st_words) (defScope st_words) .none kV8 dc8 pm8 an8 cd8 ct8), sl8⟩)
    (c8 : PySem.W.codeIn K cd8 "words" = true)
    (k8 : PySem.W.keepIn K (.ref f8) = true)
    (a9 : PySem.W.nsIn K mainGlobals "_law_cell_at" = some (some (.ref f9)))
    (l9 : K.lookup f9 = some ⟨oc9, od9, .func (PySem.W.fnOf "_law_cell_at" "_law_cell_at" (defArgs st_l_cell_at) (defBody st_l_cell_at) (defScope st_l_cell_at) .none kV9 dc9 pm9 an9 cd9 ct9), sl9⟩)
    (c9 : PySem.W.codeIn K cd9 "_law_cell_at" = true)
    (k9 : PySem.W.keepIn K (.ref f9) = true)
    (a10 : PySem.W.nsIn K mainGlobals "_law_mixed" = some (some (.ref f10)))
    (l10 : K.lookup f10 = some ⟨oc10, od10, .func (PySem.W.fnOf "_law_mixed" "_law_mixed" (defArgs st_l_mixed) (defBody st_l_mixed) (defScope st_l_mixed) .none kV10 dc10 pm10 an10 cd10 ct10), sl10⟩)
    (c10 : PySem.W.codeIn K cd10 "_law_mixed" = true)
    (k10 : PySem.W.keepIn K (.ref f10) = true)
    (a11 : PySem.W.nsIn K mainGlobals "_law_told_words" = some (some (.ref f11)))
    (l11 : K.lookup f11 = some ⟨oc11, od11, .func (PySem.W.fnOf "_law_told_words" "_law_told_words" (defArgs st_l_told_words) (defBody st_l_told_words) (defScope st_l_told_words) .none kV11 dc11 pm11 an11 cd11 ct11), sl11⟩)
    (c11 : PySem.W.codeIn K cd11 "_law_told_words" = true)
    (k11 : PySem.W.keepIn K (.ref f11) = true)
    (a12 : PySem.W.nsIn K mainGlobals "_law_piece" = some (some (.ref f12)))
    (l12 : K.lookup f12 = some ⟨oc12, od12, .func (PySem.W.fnOf "_law_piece" "_law_piece" (defArgs st_l_piece) (defBody st_l_piece) (defScope st_l_piece) .none kV12 dc12 pm12 an12 cd12 ct12), sl12⟩)
    (c12 : PySem.W.codeIn K cd12 "_law_piece" = true)
    (k12 : PySem.W.keepIn K (.ref f12) = true)
    (a13 : PySem.W.nsIn K mainGlobals "_law_odd" = some (some (.ref f13)))
    (l13 : K.lookup f13 = some ⟨oc13, od13, .func (PySem.W.fnOf "_law_odd" "_law_odd" (defArgs st_l_odd) (defBody st_l_odd) (defScope st_l_odd) .none kV13 dc13 pm13 an13 cd13 ct13), sl13⟩)
    (c13 : PySem.W.codeIn K cd13 "_law_odd" = true)
    (k13 : PySem.W.keepIn K (.ref f13) = true)
    (a14 : PySem.W.nsIn K mainGlobals "_law_text" = some (some (.ref f14)))
    (l14 : K.lookup f14 = some ⟨oc14, od14, .func (PySem.W.fnOf "_law_text" "_law_text" (defArgs st_l_text) (defBody st_l_text) (defScope st_l_text) .none kV14 dc14 pm14 an14 cd14 ct14), sl14⟩)
    (c14 : PySem.W.codeIn K cd14 "_law_text" = true)
    (k14 : PySem.W.keepIn K (.ref f14) = true)
    (a15 : PySem.W.nsIn K mainGlobals "_law_runs" = some (some (.ref f15)))
    (l15 : K.lookup f15 = some ⟨oc15, od15, .func (PySem.W.fnOf "_law_runs" "_law_runs" (defArgs st_l_runs) (defBody st_l_runs) (defScope st_l_runs) .none kV15 dc15 pm15 an15 cd15 ct15), sl15⟩)
    (c15 : PySem.W.codeIn K cd15 "_law_runs" = true)
    (k15 : PySem.W.keepIn K (.ref f15) = true)
    (a16 : PySem.W.nsIn K mainGlobals "_law_is_word" = some (some (.ref f16)))
    (l16 : K.lookup f16 = some ⟨oc16, od16, .func (PySem.W.fnOf "_law_is_word" "_law_is_word" (defArgs st_l_is_word) (defBody st_l_is_word) (defScope st_l_is_word) .none kV16 dc16 pm16 an16 cd16 ct16), sl16⟩)
    (c16 : PySem.W.codeIn K cd16 "_law_is_word" = true)
    (k16 : PySem.W.keepIn K (.ref f16) = true)
    (a17 : PySem.W.nsIn K mainGlobals "_law_due" = some (some (.ref f17)))
    (l17 : K.lookup f17 = some ⟨oc17, od17, .func (PySem.W.fnOf "_law_due" "_law_due" (defArgs st_l_due) (defBody st_l_due) (defScope st_l_due) .none kV17 dc17 pm17 an17 cd17 ct17), sl17⟩)
    (c17 : PySem.W.codeIn K cd17 "_law_due" = true)
    (k17 : PySem.W.keepIn K (.ref f17) = true)
    (a18 : PySem.W.nsIn K mainGlobals "_law_kinds" = some (some (.ref f18)))
    (l18 : K.lookup f18 = some ⟨oc18, od18, .func (PySem.W.fnOf "_law_kinds" "_law_kinds" (defArgs st_l_kinds) (defBody st_l_kinds) (defScope st_l_kinds) .none kV18 dc18 pm18 an18 cd18 ct18), sl18⟩)
    (c18 : PySem.W.codeIn K cd18 "_law_kinds" = true)
    (k18 : PySem.W.keepIn K (.ref f18) = true)
    (a19 : PySem.W.nsIn K mainGlobals "_law_told" = some (some (.ref f19)))
    (l19 : K.lookup f19 = some ⟨oc19, od19, .func (PySem.W.fnOf "_law_told" "_law_told" (defArgs st_l_told) (defBody st_l_told) (defScope st_l_told) .none kV19 dc19 pm19 an19 cd19 ct19), sl19⟩)
    (c19 : PySem.W.codeIn K cd19 "_law_told" = true)
    (k19 : PySem.W.keepIn K (.ref f19) = true)
    (a20 : PySem.W.nsIn K mainGlobals "_law_by_hand" = some (some (.ref f20)))
    (l20 : K.lookup f20 = some ⟨oc20, od20, .func (PySem.W.fnOf "_law_by_hand" "_law_by_hand" (defArgs st_l_by_hand) (defBody st_l_by_hand) (defScope st_l_by_hand) .none kV20 dc20 pm20 an20 cd20 ct20), sl20⟩)
    (c20 : PySem.W.codeIn K cd20 "_law_by_hand" = true)
    (k20 : PySem.W.keepIn K (.ref f20) = true)
    (a21 : PySem.W.nsIn K mainGlobals "_law_name_right" = some (some (.ref f21)))
    (l21 : K.lookup f21 = some ⟨oc21, od21, .func (PySem.W.fnOf "_law_name_right" "_law_name_right" (defArgs st_l_name_right) (defBody st_l_name_right) (defScope st_l_name_right) .none kV21 dc21 pm21 an21 cd21 ct21), sl21⟩)
    (c21 : PySem.W.codeIn K cd21 "_law_name_right" = true)
    (k21 : PySem.W.keepIn K (.ref f21) = true)
    (a22 : PySem.W.nsIn K mainGlobals "law" = some (some (.ref f22)))
    (l22 : K.lookup f22 = some ⟨oc22, od22, .func (PySem.W.fnOf "law" "law" (defArgs st_law) (defBody st_law) (defScope st_law) .none kV22 dc22 pm22 an22 cd22 ct22), sl22⟩)
    (c22 : PySem.W.codeIn K cd22 "law" = true)
    (k22 : PySem.W.keepIn K (.ref f22) = true)
    (aH : PySem.W.nsIn K mainGlobals "HallError" = some (some (.ref He)))
    (aB1 : PySem.W.nsIn K mainGlobals "BadSign" = some (some (.ref B1)))
    (aB2 : PySem.W.nsIn K mainGlobals "BadText" = some (some (.ref B2)))
    (aB3 : PySem.W.nsIn K mainGlobals "BadName" = some (some (.ref B3)))
    (aB4 : PySem.W.nsIn K mainGlobals "BadNumber" = some (some (.ref B4)))
    (aB5 : PySem.W.nsIn K mainGlobals "BadRing" = some (some (.ref B5)))
    (aB6 : PySem.W.nsIn K mainGlobals "BadLoan" = some (some (.ref B6)))
    (aB7 : PySem.W.nsIn K mainGlobals "TooMany" = some (some (.ref B7)))
    (aB8 : PySem.W.nsIn K mainGlobals "NoDoor" = some (some (.ref B8)))
    (aB9 : PySem.W.nsIn K mainGlobals "BadChange" = some (some (.ref B9)))
    (aB10 : PySem.W.nsIn K mainGlobals "BadKept" = some (some (.ref B10)))
    (am1 : PySem.W.findIn K (.ref B1) "__init__" = some (some (.ref g1)))
    (lm1 : K.lookup g1 = some ⟨.type "function", odm1, .func (PySem.W.fnOf "__init__" "BadSign.__init__" (defArgs st_BadSign_init) (defBody st_BadSign_init) (defScope st_BadSign_init) .none kVm1 dcm1 pmm1 anm1 cdm1 ctm1), slm1⟩)
    (cm1 : PySem.W.codeIn K cdm1 "BadSign.__init__" = true)
    (km1 : PySem.W.keepIn K (.ref g1) = true)
    (lc1 : K.lookup B1 = some (excClassObj en1 eq1 B1 N1 eb1 (.ref He :: veB) true et1 es1 ea1 ec1 ed1 eu1 ev1 ew1 ex1 ey1 "ValueError.__new__"))
    (ni1 : nsB K N1 "__init__" (some (.ref g1)) = true)
    (er1 : errB K B1 "spot" = true)
    (am2 : PySem.W.findIn K (.ref B2) "__init__" = some (some (.ref g2)))
    (lm2 : K.lookup g2 = some ⟨.type "function", odm2, .func (PySem.W.fnOf "__init__" "BadText.__init__" (defArgs st_BadText_init) (defBody st_BadText_init) (defScope st_BadText_init) .none kVm2 dcm2 pmm2 anm2 cdm2 ctm2), slm2⟩)
    (cm2 : PySem.W.codeIn K cdm2 "BadText.__init__" = true)
    (km2 : PySem.W.keepIn K (.ref g2) = true)
    (lc2 : K.lookup B2 = some (excClassObj en2 eq2 B2 N2 eb2 (.ref He :: veB) true et2 es2 ea2 ec2 ed2 eu2 ev2 ew2 ex2 ey2 "ValueError.__new__"))
    (ni2 : nsB K N2 "__init__" (some (.ref g2)) = true)
    (er2 : errB K B2 "spot" = true)
    (am3 : PySem.W.findIn K (.ref B3) "__init__" = some (some (.ref g3)))
    (lm3 : K.lookup g3 = some ⟨.type "function", odm3, .func (PySem.W.fnOf "__init__" "BadName.__init__" (defArgs st_BadName_init) (defBody st_BadName_init) (defScope st_BadName_init) .none kVm3 dcm3 pmm3 anm3 cdm3 ctm3), slm3⟩)
    (cm3 : PySem.W.codeIn K cdm3 "BadName.__init__" = true)
    (km3 : PySem.W.keepIn K (.ref g3) = true)
    (lc3 : K.lookup B3 = some (excClassObj en3 eq3 B3 N3 eb3 (.ref He :: veB) true et3 es3 ea3 ec3 ed3 eu3 ev3 ew3 ex3 ey3 "ValueError.__new__"))
    (ni3 : nsB K N3 "__init__" (some (.ref g3)) = true)
    (er3 : errB K B3 "word" = true)
    (am4 : PySem.W.findIn K (.ref B4) "__init__" = some (some (.ref g4)))
    (lm4 : K.lookup g4 = some ⟨.type "function", odm4, .func (PySem.W.fnOf "__init__" "BadNumber.__init__" (defArgs st_BadNumber_init) (defBody st_BadNumber_init) (defScope st_BadNumber_init) .none kVm4 dcm4 pmm4 anm4 cdm4 ctm4), slm4⟩)
    (cm4 : PySem.W.codeIn K cdm4 "BadNumber.__init__" = true)
    (km4 : PySem.W.keepIn K (.ref g4) = true)
    (lc4 : K.lookup B4 = some (excClassObj en4 eq4 B4 N4 eb4 (.ref He :: veB) true et4 es4 ea4 ec4 ed4 eu4 ev4 ew4 ex4 ey4 "ValueError.__new__"))
    (ni4 : nsB K N4 "__init__" (some (.ref g4)) = true)
    (er4 : errB K B4 "word" = true)
    (am5 : PySem.W.findIn K (.ref B5) "__init__" = some (some (.ref g5)))
    (lm5 : K.lookup g5 = some ⟨.type "function", odm5, .func (PySem.W.fnOf "__init__" "BadRing.__init__" (defArgs st_BadRing_init) (defBody st_BadRing_init) (defScope st_BadRing_init) .none kVm5 dcm5 pmm5 anm5 cdm5 ctm5), slm5⟩)
    (cm5 : PySem.W.codeIn K cdm5 "BadRing.__init__" = true)
    (km5 : PySem.W.keepIn K (.ref g5) = true)
    (lc5 : K.lookup B5 = some (excClassObj en5 eq5 B5 N5 eb5 (.ref He :: veB) true et5 es5 ea5 ec5 ed5 eu5 ev5 ew5 ex5 ey5 "ValueError.__new__"))
    (ni5 : nsB K N5 "__init__" (some (.ref g5)) = true)
    (er5 : errB K B5 "word" = true)
    (am6 : PySem.W.findIn K (.ref B6) "__init__" = some (some (.ref g6)))
    (lm6 : K.lookup g6 = some ⟨.type "function", odm6, .func (PySem.W.fnOf "__init__" "BadLoan.__init__" (defArgs st_BadLoan_init) (defBody st_BadLoan_init) (defScope st_BadLoan_init) .none kVm6 dcm6 pmm6 anm6 cdm6 ctm6), slm6⟩)
    (cm6 : PySem.W.codeIn K cdm6 "BadLoan.__init__" = true)
    (km6 : PySem.W.keepIn K (.ref g6) = true)
    (lc6 : K.lookup B6 = some (excClassObj en6 eq6 B6 N6 eb6 (.ref He :: veB) true et6 es6 ea6 ec6 ed6 eu6 ev6 ew6 ex6 ey6 "ValueError.__new__"))
    (ni6 : nsB K N6 "__init__" (some (.ref g6)) = true)
    (er6 : errB K B6 "word" = true)
    (lD : K.lookup He = some ⟨c0, dd0, .cls cd0, sl0⟩)
    (nD : nsB K cd0.ns "__init__" none = true)
    (tga : PySem.W.specialIn K (.ref He) "__getattribute__" = some (some (.builtin "type.__getattribute__")))
    (trd : PySem.W.readsIn K He (.type "type") = true)
    (tfc : PySem.W.findCls K (.ref He) (.type "type") "__init__" = some (.val (.builtin "ValueError.__init__")))
    (ex0 : PySem.W.exmOne K (.ref B1) (.ref He) = some true)
    (kt1 : PySem.W.kitOne K (.ref B1) (.ref B1) = some true)
    (kt2 : PySem.W.kitOne K (.ref B1) (.ref B2) = some false)
    (kt3 : PySem.W.kitOne K (.ref B1) (.ref B3) = some false)
    (kt4 : PySem.W.kitOne K (.ref B1) (.ref B4) = some false)
    (kt5 : PySem.W.kitOne K (.ref B1) (.ref B5) = some false)
    (kt6 : PySem.W.kitOne K (.ref B1) (.ref B6) = some false)
    (kt7 : PySem.W.kitOne K (.ref B1) (.ref B7) = some false)
    (kt8 : PySem.W.kitOne K (.ref B1) (.ref B8) = some false)
    (kt9 : PySem.W.kitOne K (.ref B1) (.ref B9) = some false)
    (kt10 : PySem.W.kitOne K (.ref B1) (.ref B10) = some false)
    (ktv : PySem.W.kitOne K (.ref B1) (.type "ValueError") = some true)
    (z1 : PySem.W.nsIn K mainGlobals "len" = some none)
    (z2 : PySem.W.nsIn K mainGlobals "range" = some none)
    (z3 : PySem.W.nsIn K mainGlobals "isinstance" = some none)
    (z4 : PySem.W.nsIn K mainGlobals "str" = some none)
    (z5 : PySem.W.nsIn K mainGlobals "enumerate" = some none)
    (z6 : PySem.W.nsIn K mainGlobals "bool" = some none)
    (z7 : PySem.W.nsIn K mainGlobals "list" = some none)
    (z8 : PySem.W.nsIn K mainGlobals "tuple" = some none)
    (z9 : PySem.W.nsIn K mainGlobals "all" = some none)
    (z10 : PySem.W.nsIn K mainGlobals "sorted" = some none)
    (z11 : PySem.W.nsIn K mainGlobals "ValueError" = some none)
    (q1 : PySem.W.nsIn K mainGlobals "LETTERS" = some (some (.str "abcdefghijklmnopqrstuvwxyz" t1)))
    (q2 : PySem.W.nsIn K mainGlobals "FIGURES" = some (some (.str "0123456789" t2)))
    (q3 : PySem.W.nsIn K mainGlobals "PARTING" = some (some (.str " \n" t3)))
    (q4 : PySem.W.nsIn K mainGlobals "MOST_SIGNS" = some (some (.int 6000 t4)))
    (q5 : PySem.W.nsIn K mainGlobals "MOST_LETTERS" = some (some (.int 8 t5)))
    (q6 : PySem.W.nsIn K mainGlobals "MOST_FIGURES" = some (some (.int 4 t6)))
    (aT : PySem.W.nsIn K mainGlobals "TOLD" = some (some (.ref tT)))
    (lT : K.lookup tT = some ⟨.type "tuple", dT, .seq itsT nT, slT⟩)
    (vT : valsB toldS itsT.toList = true)
    (aM : PySem.W.nsIn K mainGlobals "MARKS" = some (some (.ref tM)))
    (lM : K.lookup tM = some ⟨.type "tuple", dM, .seq itsM nM, slM⟩)
    (vM : valsB marksS itsM.toList = true)
    : ∃ fd : FuncData, (∀ (s : Shared) (v : Value), BindsTo s fd ⟨[v], []⟩ [("_law_script", v)]) ∧ ∀ base : Heap, K.In base → base.Ns mainGlobals mg → FnOk l.prog w K mg base CX0 10 fa fd ["_law_script"] (liftSp K spLaw) := by
  have e := hfa.symm.trans (PySem.W.mg_of X G a22)
  cases e
  have T : Bl mg := ⟨PySem.W.mg_none_of X G z1, PySem.W.mg_none_of X G z2, PySem.W.mg_none_of X G z3, PySem.W.mg_none_of X G z4, ⟨_, PySem.W.mg_of X G q1⟩, ⟨_, PySem.W.mg_of X G q2⟩, ⟨_, PySem.W.mg_of X G q3⟩, ⟨_, PySem.W.mg_of X G q4⟩, ⟨_, PySem.W.mg_of X G q5⟩, ⟨_, PySem.W.mg_of X G q6⟩⟩
  have T2 : Bl2 mg := ⟨T, PySem.W.mg_none_of X G z5⟩
  have T3 : Bl3 mg := ⟨T2, PySem.W.mg_none_of X G z6⟩
  have gT : ∃ a, mg "TOLD" = some (.ref a) ∧ ∀ H, SqT K H a (toldS.map V.str) := ⟨_, PySem.W.mg_of X G aT, sqT_of lT vT (by decide)⟩
  have gM : ∃ a, mg "MARKS" = some (.ref a) ∧ ∀ H, SqT K H a (marksS.map V.str) := ⟨_, PySem.W.mg_of X G aM, sqT_of lM vM (by decide)⟩
  have TL : Tl K mg := ⟨T, gT, gM⟩
  have TW : LawT K mg := ⟨T3, PySem.W.mg_none_of X G z7, PySem.W.mg_none_of X G z8, PySem.W.mg_none_of X G z9, PySem.W.mg_none_of X G z10, gT⟩
  have hH := PySem.W.mg_of X G aH
  have TB : ThrB K He := ⟨tga, trd, tfc⟩
  have E1 : ErrK K B1 g1 "spot" := errK_of lc1 ni1 lD nD lm1 er1
  have GF1 := fun_mk (st := st_BadSign_init) lm1 cm1 km1
  have I1 : Binds K (PySem.W.fnOf "__init__" "BadSign.__init__" (defArgs st_BadSign_init) (defBody st_BadSign_init) (defScope st_BadSign_init) .none kVm1 dcm1 pmm1 anm1 cdm1 ctm1) ["self", "spot"] [] := Binds.all (by intro us hl; obtain ⟨a, b, rfl⟩ := len2 hl; rfl)
  have E2 : ErrK K B2 g2 "spot" := errK_of lc2 ni2 lD nD lm2 er2
  have GF2 := fun_mk (st := st_BadText_init) lm2 cm2 km2
  have I2 : Binds K (PySem.W.fnOf "__init__" "BadText.__init__" (defArgs st_BadText_init) (defBody st_BadText_init) (defScope st_BadText_init) .none kVm2 dcm2 pmm2 anm2 cdm2 ctm2) ["self", "spot"] [] := Binds.all (by intro us hl; obtain ⟨a, b, rfl⟩ := len2 hl; rfl)
  have E3 : ErrK K B3 g3 "word" := errK_of lc3 ni3 lD nD lm3 er3
  have GF3 := fun_mk (st := st_BadName_init) lm3 cm3 km3
  have I3 : Binds K (PySem.W.fnOf "__init__" "BadName.__init__" (defArgs st_BadName_init) (defBody st_BadName_init) (defScope st_BadName_init) .none kVm3 dcm3 pmm3 anm3 cdm3 ctm3) ["self", "word"] [] := Binds.all (by intro us hl; obtain ⟨a, b, rfl⟩ := len2 hl; rfl)
  have E4 : ErrK K B4 g4 "word" := errK_of lc4 ni4 lD nD lm4 er4
  have GF4 := fun_mk (st := st_BadNumber_init) lm4 cm4 km4
  have I4 : Binds K (PySem.W.fnOf "__init__" "BadNumber.__init__" (defArgs st_BadNumber_init) (defBody st_BadNumber_init) (defScope st_BadNumber_init) .none kVm4 dcm4 pmm4 anm4 cdm4 ctm4) ["self", "word"] [] := Binds.all (by intro us hl; obtain ⟨a, b, rfl⟩ := len2 hl; rfl)
  have E5 : ErrK K B5 g5 "word" := errK_of lc5 ni5 lD nD lm5 er5
  have GF5 := fun_mk (st := st_BadRing_init) lm5 cm5 km5
  have I5 : Binds K (PySem.W.fnOf "__init__" "BadRing.__init__" (defArgs st_BadRing_init) (defBody st_BadRing_init) (defScope st_BadRing_init) .none kVm5 dcm5 pmm5 anm5 cdm5 ctm5) ["self", "word"] [] := Binds.all (by intro us hl; obtain ⟨a, b, rfl⟩ := len2 hl; rfl)
  have E6 : ErrK K B6 g6 "word" := errK_of lc6 ni6 lD nD lm6 er6
  have GF6 := fun_mk (st := st_BadLoan_init) lm6 cm6 km6
  have I6 : Binds K (PySem.W.fnOf "__init__" "BadLoan.__init__" (defArgs st_BadLoan_init) (defBody st_BadLoan_init) (defScope st_BadLoan_init) .none kVm6 dcm6 pmm6 anm6 cdm6 ctm6) ["self", "word"] [] := Binds.all (by intro us hl; obtain ⟨a, b, rfl⟩ := len2 hl; rfl)
  have TK : KindT K mg B1 B2 B3 B4 B5 B6 B7 B8 B9 B10 := ⟨PySem.W.mg_none_of X G z3, PySem.W.mg_none_of X G z11, PySem.W.mg_of X G aB1, PySem.W.mg_of X G aB2, PySem.W.mg_of X G aB3, PySem.W.mg_of X G aB4, PySem.W.mg_of X G aB5, PySem.W.mg_of X G aB6, PySem.W.mg_of X G aB7, PySem.W.mg_of X G aB8, PySem.W.mg_of X G aB9, PySem.W.mg_of X G aB10, E1.is, kt1, kt2, kt3, kt4, kt5, kt6, kt7, kt8, kt9, kt10, ktv⟩
  have TE := (⟨TL, E1, PySem.W.mg_of X G aB1, I1⟩ : ErrT K mg B1 g1 _)
  have TH := (⟨T, E1, E2, E3, E4, E5, E6, PySem.W.mg_of X G aB1, PySem.W.mg_of X G aB2, PySem.W.mg_of X G aB3, PySem.W.mg_of X G aB4, PySem.W.mg_of X G aB5, PySem.W.mg_of X G aB6, I1, I2, I3, I4, I5, I6⟩ : HandT K mg B1 B2 B3 B4 B5 B6 g1 g2 g3 g4 g5 g6 _ _ _ _ _ _)
  have IW : Binds K (PySem.W.fnOf "words" "words" (defArgs st_words) (defBody st_words) (defScope st_words) .none kV8 dc8 pm8 an8 cd8 ct8) ["text"] [] := Binds.all (by intro us hl; obtain ⟨a, rfl⟩ := len1 hl; rfl)
  have IK : Binds K (PySem.W.fnOf "_law_kinds" "_law_kinds" (defArgs st_l_kinds) (defBody st_l_kinds) (defScope st_l_kinds) .none kV18 dc18 pm18 an18 cd18 ct18) ["_law_e"] [] := Binds.all (by intro us hl; obtain ⟨a, rfl⟩ := len1 hl; rfl)
  have TT := (⟨PySem.W.mg_none_of X G z3, PySem.W.mg_none_of X G z2, PySem.W.mg_none_of X G z6, hH, PySem.W.mg_of X G a8, k8, IW, PySem.W.mg_of X G a18, k18, IK, ex0, E1.rd⟩ : ToldT K mg B1 He f8 f18 _ _)
  refine ⟨PySem.W.fnOf "law" "law" (defArgs st_law) (defBody st_law) (defScope st_law) .none kV22 dc22 pm22 an22 cd22 ct22, fun s v => .of_eq rfl, fun base _ _ => ?_⟩
  have F1 := e_BadSign (P := l.prog) (w := w) (base := base) TB hH E1 GF1
  have F2 := e_BadText (P := l.prog) (w := w) (base := base) TB hH E2 GF2
  have F3 := e_BadName (P := l.prog) (w := w) (base := base) TB hH E3 GF3
  have F4 := e_BadNumber (P := l.prog) (w := w) (base := base) TB hH E4 GF4
  have F5 := e_BadRing (P := l.prog) (w := w) (base := base) TB hH E5 GF5
  have F6 := e_BadLoan (P := l.prog) (w := w) (base := base) TB hH E6 GF6
  have C_row_end := c_row_end (P := l.prog) (w := w) (base := base) T (⟨_, _, fun_mk (st := st_row_end) l1 c1 k1, PySem.W.mg_of X G a1⟩ : FunM K mg "row_end" st_row_end)
  have C_is_row := k_is_row (P := l.prog) (w := w) (base := base) T (C_row_end.mono (by decide)) (⟨_, _, fun_mk (st := st_is_row) l2 c2 k2, PySem.W.mg_of X G a2⟩ : FunM K mg "is_row" st_is_row)
  have C_is_number_upto := k_is_number_upto (P := l.prog) (w := w) (base := base) T (C_is_row.mono (by decide)) (⟨_, _, fun_mk (st := st_is_number_upto) l3 c3 k3, PySem.W.mg_of X G a3⟩ : FunM K mg "is_number_upto" st_is_number_upto)
  have C_is_number := k_is_number (P := l.prog) (w := w) (base := base) TL (C_is_number_upto.mono (by decide)) (⟨_, _, fun_mk (st := st_is_number) l4 c4 k4, PySem.W.mg_of X G a4⟩ : FunM K mg "is_number" st_is_number)
  have C_is_name := k_is_name (P := l.prog) (w := w) (base := base) TL (C_is_row.mono (by decide)) (⟨_, _, fun_mk (st := st_is_name) l5 c5 k5, PySem.W.mg_of X G a5⟩ : FunM K mg "is_name" st_is_name)
  have C_is_word := k_is_word (P := l.prog) (w := w) (base := base) TL (C_is_row.mono (by decide)) (C_is_number.mono (by decide)) (⟨_, _, fun_mk (st := st_is_word) l6 c6 k6, PySem.W.mg_of X G a6⟩ : FunM K mg "is_word" st_is_word)
  have C_word_end := k_word_end (P := l.prog) (w := w) (base := base) TL (C_row_end.mono (by decide)) (⟨_, _, fun_mk (st := st_word_end) l7 c7 k7, PySem.W.mg_of X G a7⟩ : FunM K mg "word_end" st_word_end)
  have FW := f_words (P := l.prog) (w := w) (base := base) TE F1 (C_word_end.mono (by decide)) (C_is_word.mono (by decide)) (fun_mk (st := st_words) l8 c8 k8)
  have C_l_cell_at := c_l_cell_at (P := l.prog) (w := w) (base := base) T (⟨_, _, fun_mk (st := st_l_cell_at) l9 c9 k9, PySem.W.mg_of X G a9⟩ : FunM K mg "_law_cell_at" st_l_cell_at)
  have C_l_mixed := c_l_mixed (P := l.prog) (w := w) (base := base)  (⟨_, _, fun_mk (st := st_l_mixed) l10 c10 k10, PySem.W.mg_of X G a10⟩ : FunM K mg "_law_mixed" st_l_mixed)
  have C_l_told_words := c_l_told_words (P := l.prog) (w := w) (base := base)  (⟨_, _, fun_mk (st := st_l_told_words) l11 c11 k11, PySem.W.mg_of X G a11⟩ : FunM K mg "_law_told_words" st_l_told_words)
  have C_l_piece := c_l_piece (P := l.prog) (w := w) (base := base) T (C_l_told_words.mono (by decide)) (⟨_, _, fun_mk (st := st_l_piece) l12 c12 k12, PySem.W.mg_of X G a12⟩ : FunM K mg "_law_piece" st_l_piece)
  have C_l_odd := c_l_odd (P := l.prog) (w := w) (base := base) T (⟨_, _, fun_mk (st := st_l_odd) l13 c13 k13, PySem.W.mg_of X G a13⟩ : FunM K mg "_law_odd" st_l_odd)
  have C_l_text := c_l_text (P := l.prog) (w := w) (base := base) T2 (C_l_cell_at.mono (by decide)) (C_l_mixed.mono (by decide)) (C_l_piece.mono (by decide)) (C_l_odd.mono (by decide)) (⟨_, _, fun_mk (st := st_l_text) l14 c14 k14, PySem.W.mg_of X G a14⟩ : FunM K mg "_law_text" st_l_text)
  have C_l_runs := c_l_runs (P := l.prog) (w := w) (base := base) T2 (⟨_, _, fun_mk (st := st_l_runs) l15 c15 k15, PySem.W.mg_of X G a15⟩ : FunM K mg "_law_runs" st_l_runs)
  have C_l_is_word := c_l_is_word (P := l.prog) (w := w) (base := base) T (⟨_, _, fun_mk (st := st_l_is_word) l16 c16 k16, PySem.W.mg_of X G a16⟩ : FunM K mg "_law_is_word" st_l_is_word)
  have C_l_due := c_l_due (P := l.prog) (w := w) (base := base) T2 (C_l_runs.mono (by decide)) (C_l_is_word.mono (by decide)) (⟨_, _, fun_mk (st := st_l_due) l17 c17 k17, PySem.W.mg_of X G a17⟩ : FunM K mg "_law_due" st_l_due)
  have C_l_told := c_l_told (P := l.prog) (w := w) (base := base) TT TK (fun_mk (st := st_l_kinds) l18 c18 k18) FW (⟨_, _, fun_mk (st := st_l_told) l19 c19 k19, PySem.W.mg_of X G a19⟩ : FunM K mg "_law_told" st_l_told)
  have C_l_by_hand := c_l_by_hand (P := l.prog) (w := w) (base := base) TH F1 F2 F3 F4 F5 F6 (C_l_piece.mono (by decide)) (⟨_, _, fun_mk (st := st_l_by_hand) l20 c20 k20, PySem.W.mg_of X G a20⟩ : FunM K mg "_law_by_hand" st_l_by_hand)
  have C_l_name_right := c_l_name_right (P := l.prog) (w := w) (base := base) T3 (C_is_name.mono (by decide)) (C_l_told_words.mono (by decide)) (⟨_, _, fun_mk (st := st_l_name_right) l21 c21 k21, PySem.W.mg_of X G a21⟩ : FunM K mg "_law_name_right" st_l_name_right)
  exact ok_law TW (C_l_text.mono (by decide)) (C_l_due.mono (by decide)) (C_l_told.mono (by decide)) (C_l_mixed.mono (by decide)) (C_l_cell_at.mono (by decide)) (C_l_told_words.mono (by decide)) (C_l_piece.mono (by decide)) (C_l_odd.mono (by decide)) (C_l_name_right.mono (by decide)) (C_l_by_hand.mono (by decide)) (fun_mk (st := st_law) l22 c22 k22)
open PySem.W PySem.W.X in
theorem walkZ {q : Program} {loose : List Str} {XP : (Str → Option Value) → Heap → Prop} {r : PySem.W.RowW} {d : DefRec} {kwd : List (Str × Expr)} {run : Value → List Value → Sem Value} {K : Params → PySem.W.Frag} {as : List Addr} {n t : Nat} (e : ∀ P, as = (K P).map (·.1)) (h : WalkO q loose XP (InK K) r d kwd run) : WalkX q loose XP (obsZ as) (valZ K n t) r d kwd run :=
  fun w s₀ s₁ mg mb G y a o pm cd doc dV kV h1 h2 h3 h4 h5 h6 args vals as' L h7 h8 h9 h10 h11 => h w s₀ s₁ mg mb G (InK.keeps w _ _ (z_facts e y).2.1 L.keeps) a o pm cd doc dV kV h1 h2 h3 h4 h5 h6 args vals as' h7 h8 h9 h10 h11
theorem walk {l : PySem.W.OpenLaw} {q : Program} {loose : List Str} {XP : (Str → Option Value) → Heap → Prop} {YP : World → Heap → Prop} {d : DefRec} {K : Params → PySem.W.Frag} (hn : l.most = some 63) (hdf : d.params.defaults = [])
    (hY : ∀ (w : World) (h : Heap), YP w h → (K w.params).In h)
    (F : ∀ (w : World) (mg : Str → Option Value) (fa : Addr) (h : Heap), (K w.params).In h → h.Ns mainGlobals mg → mg d.name = some (.ref fa) →
      ∃ fd : FuncData, (∀ (s : Shared) (u : Value), BindsTo s fd ⟨[u], []⟩ [("_law_script", u)]) ∧ ∀ base : Heap, (K w.params).In base → base.Ns mainGlobals mg → FnOk l.prog w (K w.params) mg base CX0 10 fa fd ["_law_script"] (liftSp (K w.params) spLaw)) :
    PySem.W.WalkO q loose XP YP l.row.toRowW d [] (fun f vs => PySem.call f vs) :=
  L2.walk_of (n := 63) (k := 10) (x := "_law_script") (CX := fun _ => CX0) (sp := fun w => liftSp (K w.params) spLaw) hn (by decide) hdf ⟨rfl, by decide, by decide, rfl⟩ hY F
    (fun _ H a ns hl hO hS => ⟨[.fl (ns.map U.int)], fun _ => none, .cons (.fl (FrL.of hO hS) (RepAll.ints ns)) .nil, fun _ _ z => (by cases z), ns, rfl, hl, fun v H' _ r _ => (by cases r; rfl)⟩) fun _ _ _ _ _ z => z
end K01
open PySem PySem.W PyProof.Rows
set_option maxRecDepth 100000 in
set_option maxHeartbeats 0 in
theorem PySem.Challenge.cw_hallclock_k01_words_holds : PySem.Challenge.rw_hallclock_k01_words.Holds := by
  w_on; o_law; z_head; (case hw => w_witness2)
  k_fill
  refine K01.walkZ (fun _ => by kernel_rfl) ?_
  refine K01.walk (l := PySem.Challenge.rw_hallclock_k01_words) rfl rfl (fun w h Y => Y) ?F
  case F =>
    intro w mg fa h KX G hmg
    refine' K01.all_mk KX G hmg ?a1 ?l1 ?c1 ?k1 ?a2 ?l2 ?c2 ?k2 ?a3 ?l3 ?c3 ?k3 ?a4 ?l4 ?c4 ?k4 ?a5 ?l5 ?c5 ?k5 ?a6 ?l6 ?c6 ?k6 ?a7 ?l7 ?c7 ?k7 ?a8 ?l8 ?c8 ?k8 ?a9 ?l9 ?c9 ?k9 ?a10 ?l10 ?c10 ?k10 ?a11 ?l11 ?c11 ?k11 ?a12 ?l12 ?c12 ?k12 ?a13 ?l13 ?c13 ?k13 ?a14 ?l14 ?c14 ?k14 ?a15 ?l15 ?c15 ?k15 ?a16 ?l16 ?c16 ?k16 ?a17 ?l17 ?c17 ?k17 ?a18 ?l18 ?c18 ?k18 ?a19 ?l19 ?c19 ?k19 ?a20 ?l20 ?c20 ?k20 ?a21 ?l21 ?c21 ?k21 ?a22 ?l22 ?c22 ?k22 ?aH ?aB1 ?aB2 ?aB3 ?aB4 ?aB5 ?aB6 ?aB7 ?aB8 ?aB9 ?aB10 ?am1 ?lm1 ?cm1 ?km1 ?lc1 ?ni1 ?er1 ?am2 ?lm2 ?cm2 ?km2 ?lc2 ?ni2 ?er2 ?am3 ?lm3 ?cm3 ?km3 ?lc3 ?ni3 ?er3 ?am4 ?lm4 ?cm4 ?km4 ?lc4 ?ni4 ?er4 ?am5 ?lm5 ?cm5 ?km5 ?lc5 ?ni5 ?er5 ?am6 ?lm6 ?cm6 ?km6 ?lc6 ?ni6 ?er6 ?lD ?nD ?tga ?trd ?tfc ?ex0 ?kt1 ?kt2 ?kt3 ?kt4 ?kt5 ?kt6 ?kt7 ?kt8 ?kt9 ?kt10 ?ktv ?z1 ?z2 ?z3 ?z4 ?z5 ?z6 ?z7 ?z8 ?z9 ?z10 ?z11 ?q1 ?q2 ?q3 ?q4 ?q5 ?q6 ?aT ?lT ?vT ?aM ?lM ?vM
    (case a1 => k_is)
    (case l1 => k_is)
    (case c1 => k_is)
    (case k1 => k_is)
    (case a2 => k_is)
    (case l2 => k_is)
    (case c2 => k_is)
    (case k2 => k_is)
    (case a3 => k_is)
    (case l3 => k_is)
    (case c3 => k_is)
    (case k3 => k_is)
    (case a4 => k_is)
    (case l4 => k_is)
    (case c4 => k_is)
    (case k4 => k_is)
    (case a5 => k_is)
    (case l5 => k_is)
    (case c5 => k_is)
    (case k5 => k_is)
    (case a6 => k_is)
    (case l6 => k_is)
    (case c6 => k_is)
    (case k6 => k_is)
    (case a7 => k_is)
    (case l7 => k_is)
    (case c7 => k_is)
    (case k7 => k_is)
    (case a8 => k_is)
    (case l8 => k_is)
    (case c8 => k_is)
    (case k8 => k_is)
    (case a9 => k_is)
    (case l9 => k_is)
    (case c9 => k_is)
    (case k9 => k_is)
    (case a10 => k_is)
    (case l10 => k_is)
    (case c10 => k_is)
    (case k10 => k_is)
    (case a11 => k_is)
    (case l11 => k_is)
    (case c11 => k_is)
    (case k11 => k_is)
    (case a12 => k_is)
    (case l12 => k_is)
    (case c12 => k_is)
    (case k12 => k_is)
    (case a13 => k_is)
    (case l13 => k_is)
    (case c13 => k_is)
    (case k13 => k_is)
    (case a14 => k_is)
    (case l14 => k_is)
    (case c14 => k_is)
    (case k14 => k_is)
    (case a15 => k_is)
    (case l15 => k_is)
    (case c15 => k_is)
    (case k15 => k_is)
    (case a16 => k_is)
    (case l16 => k_is)
    (case c16 => k_is)
    (case k16 => k_is)
    (case a17 => k_is)
    (case l17 => k_is)
    (case c17 => k_is)
    (case k17 => k_is)
    (case a18 => k_is)
    (case l18 => k_is)
    (case c18 => k_is)
    (case k18 => k_is)
    (case a19 => k_is)
    (case l19 => k_is)
    (case c19 => k_is)
    (case k19 => k_is)
    (case a20 => k_is)
    (case l20 => k_is)
    (case c20 => k_is)
    (case k20 => k_is)
    (case a21 => k_is)
    (case l21 => k_is)
    (case c21 => k_is)
    (case k21 => k_is)
    (case a22 => k_is)
    (case l22 => k_is)
    (case c22 => k_is)
    (case k22 => k_is)
    (case aH => k_is)
    (case aB1 => k_is)
    (case aB2 => k_is)
    (case aB3 => k_is)
    (case aB4 => k_is)
    (case aB5 => k_is)
    (case aB6 => k_is)
    (case aB7 => k_is)
    (case aB8 => k_is)
    (case aB9 => k_is)
    (case aB10 => k_is)
    (case am1 => k_is)
    (case lm1 => k_is)
    (case cm1 => k_is)
    (case km1 => k_is)
    (case lc1 => k_is)
    (case ni1 => kernel_rfl)
    (case er1 => kernel_rfl)
    (case am2 => k_is)
    (case lm2 => k_is)
    (case cm2 => k_is)
    (case km2 => k_is)
    (case lc2 => k_is)
    (case ni2 => kernel_rfl)
    (case er2 => kernel_rfl)
    (case am3 => k_is)
    (case lm3 => k_is)
    (case cm3 => k_is)
    (case km3 => k_is)
    (case lc3 => k_is)
    (case ni3 => kernel_rfl)
    (case er3 => kernel_rfl)
    (case am4 => k_is)
    (case lm4 => k_is)
    (case cm4 => k_is)
    (case km4 => k_is)
    (case lc4 => k_is)
    (case ni4 => kernel_rfl)
    (case er4 => kernel_rfl)
    (case am5 => k_is)
    (case lm5 => k_is)
    (case cm5 => k_is)
    (case km5 => k_is)
    (case lc5 => k_is)
    (case ni5 => kernel_rfl)
    (case er5 => kernel_rfl)
    (case am6 => k_is)
    (case lm6 => k_is)
    (case cm6 => k_is)
    (case km6 => k_is)
    (case lc6 => k_is)
    (case ni6 => kernel_rfl)
    (case er6 => kernel_rfl)
    (case lD => k_is)
    (case nD => kernel_rfl)
    (case tga => k_is)
    (case trd => k_is)
    (case tfc => k_is)
    (case ex0 => kernel_rfl)
    (case kt1 => kernel_rfl)
    (case kt2 => kernel_rfl)
    (case kt3 => kernel_rfl)
    (case kt4 => kernel_rfl)
    (case kt5 => kernel_rfl)
    (case kt6 => kernel_rfl)
    (case kt7 => kernel_rfl)
    (case kt8 => kernel_rfl)
    (case kt9 => kernel_rfl)
    (case kt10 => kernel_rfl)
    (case ktv => kernel_rfl)
    (case z1 => k_is)
    (case z2 => k_is)
    (case z3 => k_is)
    (case z4 => k_is)
    (case z5 => k_is)
    (case z6 => k_is)
    (case z7 => k_is)
    (case z8 => k_is)
    (case z9 => k_is)
    (case z10 => k_is)
    (case z11 => k_is)
    (case q1 => k_is)
    (case q2 => k_is)
    (case q3 => k_is)
    (case q4 => k_is)
    (case q5 => k_is)
    (case q6 => k_is)
    (case aT => k_is)
    (case lT => k_is)
    (case vT => kernel_rfl)
    (case aM => k_is)
    (case lM => k_is)
    (case vM => kernel_rfl)
