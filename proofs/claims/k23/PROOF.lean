import PyProof.Rows.All
import Wide.All
import OpenK.AllK
import Wide.FinOn
import HandS.ForMost
import HandS.Deep
import HandS.IsInst
import HandS.Walk
import HandS.TupLe
import HandS.Conv
import HandS.SortRule
import HandS.SortInts
import KE.KDictCopyH
import HandS.SetFor
import HandS.Strs
import HandS.NoneIn
import PySem.Challenge.RW_webtimes_k23_far_links
set_option Elab.async false
set_option linter.all false
set_option maxRecDepth 100000
set_option maxHeartbeats 4000000
/-! PL: webs and other plain data told over slots, without the heap -/
namespace PL
open PySem L2

class KF where
  K : PySem.W.Frag
abbrev D := PyData
abbrev Sg := List (Option V)

/-! ### what is stable (S) within what is tracked (H) -/
structure Xt (S H S' H' : Hp) : Prop where
  hh : Same H H'
  ss : Same S S'
  sh : Same S' H'
  nw : ∀ b o, S' b = some o → S b = some o ∨ ∀ u, H b = some u → ∃ xs, u = .tup xs

theorem Xt.refl {S H : Hp} (h : Same S H) : Xt S H S H := ⟨Same.refl H, Same.refl S, h, fun _ _ e => .inl e⟩
theorem Xt.trans {S H S1 H1 S2 H2 : Hp} (a : Xt S H S1 H1) (b : Xt S1 H1 S2 H2) : Xt S H S2 H2 :=
  ⟨a.hh.trans b.hh, a.ss.trans b.ss, b.sh, fun c o e => by
    rcases b.nw c o e with q | q
    · exact a.nw c o q
    · exact .inr fun u hu => q u (a.hh c u hu)⟩
/-- over the stable part alone -/
theorem Xt.self {S S' H' : Hp} (ss : Same S S') (sh : Same S' H') : Xt S S S' H' :=
  ⟨ss.trans sh, ss, sh, fun b o e => by
    cases q : S b with
    | none => exact .inr fun u hu => by cases hu
    | some u =>
      have := ss b u q
      rw [e] at this
      exact .inl this.symm⟩
/-- a new object, not stable -/
theorem Xt.new {S H : Hp} {p : Addr} {o : HO} (h : Same S H) (n : H p = none) : Xt S H S (upd H p o) :=
  ⟨fun b u e => by rw [upd_ne (ne_of_none e n)]; exact e, Same.refl S, fun b u e => by rw [upd_ne (ne_of_none (h b u e) n)]; exact h b u e, fun _ _ e => .inl e⟩
/-- a new object, stable -/
theorem Xt.newS {S H : Hp} {p : Addr} {o : HO} (h : Same S H) (n : H p = none) : Xt S H (upd S p o) (upd H p o) :=
  ⟨fun b u e => by rw [upd_ne (ne_of_none e n)]; exact e, fun b u e => by rw [upd_ne (ne_of_none (h b u e) n)]; exact e, fun b u e => by
    by_cases hb : b = p
    · subst hb; rw [upd_same] at e ⊢; exact e
    · rw [upd_ne hb] at e ⊢; exact h b u e, fun b u e => by
    by_cases hb : b = p
    · subst hb; exact .inr fun u hu => by rw [n] at hu; cases hu
    · rw [upd_ne hb] at e; exact .inl e⟩
/-- what is not of the stable part and no tuple stays out of it -/
theorem Xt.out {S H S' H' : Hp} (x : Xt S H S' H') {a : Addr} {u : HO} (hs : S a = none) (hu : H a = some u) (nt : ∀ xs, u ≠ .tup xs) : S' a = none := by
  cases q : S' a with
  | none => rfl
  | some o =>
    rcases x.nw a o q with e | e
    · rw [hs] at e; cases e
    · obtain ⟨xs, e⟩ := e u hu; exact absurd e (nt xs)
theorem free_of {H H' : Hp} (e : Same H H') {p : Addr} (h : H' p = none) : H p = none := e.free h

/-- list + list, both to be read -/
def rCatR (K : PySem.W.Frag) : R2 := fun x y H Q => ∃ l b xs zs, x = .ref l ∧ y = .ref b ∧ SqL K H l xs ∧ SqL K H b zs ∧ xs.length + zs.length ≤ sizeLine ∧ ∀ p, H p = none → Q (.ref p) (upd H p (.lst (xs ++ zs)))
theorem op_catR {X : Cx} : OpR X (binaryOp .Add) (rCatR X.K) := by
  intro pins s σ H x y v u Q I rx ry h
  obtain ⟨l, b, xs, zs, rfl, rfl, hH, hB, hz, q⟩ := h
  cases rx
  cases ry
  obtain ⟨its, r, ⟨⟨c1, d1, dt1, sl1⟩, n1, g1, k1, m1, t1⟩, z1⟩ := I.list hH
  obtain ⟨its2, r2, ⟨⟨c2, d2, dt2, sl2⟩, n2, g2, k2, m2, t2⟩, z2⟩ := I.list hB
  simp only at k1 m1 t1 k2 m2 t2
  subst k1 m1 t1 k2 m2 t2
  have e1 := r.length
  have e2 := r2.length
  refine concat_meets ⟨_, g1, rfl⟩ ⟨_, g2, rfl⟩ PySem.noFill_list_add PySem.seq_list_add PySem.F.slot_list_add PySem.F.entry_list_add (PySem.F.args_list_add_2 _ _)
    (PyProof.Rows.list_addW l b its.toArray its2.toArray n1 n2 none none sl1 sl2 (by simp; omega)) ⟨g1, g2, ?_⟩
  have ea : its.toArray ++ its2.toArray = (its ++ its2).toArray := by simp
  rw [ea]
  exact ⟨.ref _, _, I.lnew (t' := s.toks) (r.append r2) (by rw [List.length_append]; omega), rfl, q _ I.fresh⟩
variable [kf : KF]
/-! ### data -/
mutual
/-- v is d, all of it tracked -/
inductive Rp (H : Hp) : V → D → Prop
  | non : Rp H .non .none
  | bl (b : Bool) : Rp H (.bl b) (.bool b)
  | int (i : Int) : Rp H (.int i) (.int i)
  | str (x : Str) : Rp H (.str x) (.str x)
  | lst {a : Addr} {xs : List V} {ds : List D} : SqL kf.K H a xs → RpAll H xs ds → Rp H (.ref a) (.list ds)
  | tup {a : Addr} {xs : List V} {ds : List D} : H a = some (.tup xs) → RpAll H xs ds → Rp H (.ref a) (.tuple ds)
inductive RpAll (H : Hp) : List V → List D → Prop
  | nil : RpAll H [] []
  | cons {v : V} {vs : List V} {d : D} {ds : List D} : Rp H v d → RpAll H vs ds → RpAll H (v :: vs) (d :: ds)
end
theorem rd_mono {H H' : Hp} {a : Addr} {u : HO} (e : Same H H') (h : Rd H a u) : Rd H' a u := by
  rcases h with h | ⟨o, h⟩
  · exact .inl (e _ _ h)
  · exact .inr ⟨o, e _ _ h⟩
mutual
theorem dp_mono {H H' : Hp} (e : Same H H') : ∀ (d : D) (v : V), Rp H v d → Rp H' v d
  | .none, _, h => by cases h; exact .non
  | .bool b, _, h => by cases h; exact .bl b
  | .int i, _, h => by cases h; exact .int i
  | .str x, _, h => by cases h; exact .str x
  | .list ds, _, h => by
    cases h with
    | lst hs ha => exact .lst (e.seq hs) (dpa_mono e ds _ ha)
  | .tuple ds, _, h => by
    cases h with
    | tup hs ha => exact .tup (e _ _ hs) (dpa_mono e ds _ ha)
  | .dict _, _, h => by cases h
theorem dpa_mono {H H' : Hp} (e : Same H H') : ∀ (ds : List D) (vs : List V), RpAll H vs ds → RpAll H' vs ds
  | [], _, h => by cases h; exact .nil
  | d :: ds, _, h => by
    cases h with
    | cons h t => exact .cons (dp_mono e d _ h) (dpa_mono e ds _ t)
end
mutual
theorem rp_dp {H : Hp} : ∀ (d : D) (v : V), Rp H v d → Dp kf.K H v d
  | .none, _, h => by cases h; exact .non
  | .bool b, _, h => by cases h; exact .bl b
  | .int i, _, h => by cases h; exact .int i
  | .str x, _, h => by cases h; exact .str x
  | .list ds, _, h => by
    cases h with
    | lst hs ha => exact .lst hs (rpa_dp ds _ ha)
  | .tuple ds, _, h => by
    cases h with
    | tup hs ha => exact .tup (.inl (.inl hs)) (rpa_dp ds _ ha)
  | .dict _, _, h => by cases h
theorem rpa_dp {H : Hp} : ∀ (ds : List D) (vs : List V), RpAll H vs ds → DpAll kf.K H vs ds
  | [], _, h => by cases h; exact .nil
  | d :: ds, _, h => by
    cases h with
    | cons h t => exact .cons (rp_dp d _ h) (rpa_dp ds _ t)
end
theorem dpa_length {H : Hp} : ∀ {vs : List V} {ds : List D}, RpAll H vs ds → vs.length = ds.length
  | _, _, .nil => rfl
  | _, _, .cons _ t => by rw [List.length_cons, List.length_cons, dpa_length t]
theorem dpa_get {H : Hp} : ∀ {vs : List V} {ds : List D} {i : Nat} {d : D}, RpAll H vs ds → ds[i]? = some d → ∃ v, vs[i]? = some v ∧ Rp H v d
  | _, _, _, _, .nil, e => by simp at e
  | _, _, 0, _, .cons h _, e => by simp at e; subst e; exact ⟨_, rfl, h⟩
  | _, _, i + 1, d, .cons _ t, e => by
    obtain ⟨v, h1, h2⟩ := dpa_get (i := i) (d := d) t (by simpa using e)
    exact ⟨v, by simpa using h1, h2⟩
theorem dpa_append {H : Hp} : ∀ {vs ws : List V} {ds es : List D}, RpAll H vs ds → RpAll H ws es → RpAll H (vs ++ ws) (ds ++ es)
  | _, _, _, _, .nil, h => h
  | _, _, _, _, .cons a t, h => .cons a (dpa_append t h)
theorem dpa_set {H : Hp} {v : V} {d : D} (r : Rp H v d) : ∀ {vs : List V} {ds : List D} (i : Nat), RpAll H vs ds → RpAll H (vs.set i v) (ds.set i d)
  | _, _, _, .nil => .nil
  | _, _, 0, .cons _ t => .cons r t
  | _, _, i + 1, .cons q t => .cons q (dpa_set r i t)
theorem dpa_take {H : Hp} : ∀ {vs : List V} {ds : List D} (n : Nat), RpAll H vs ds → RpAll H (vs.take n) (ds.take n)
  | _, _, 0, _ => .nil
  | _, _, _ + 1, .nil => .nil
  | _, _, n + 1, .cons r t => .cons r (dpa_take n t)
theorem dpa_drop {H : Hp} : ∀ {vs : List V} {ds : List D} (n : Nat), RpAll H vs ds → RpAll H (vs.drop n) (ds.drop n)
  | _, _, 0, r => r
  | _, _, _ + 1, .nil => .nil
  | _, _, n + 1, .cons _ t => dpa_drop n t
theorem dpa_erase {H : Hp} : ∀ {vs : List V} {ds : List D} (n : Nat), RpAll H vs ds → RpAll H (vs.eraseIdx n) (ds.eraseIdx n)
  | _, _, _, .nil => .nil
  | _, _, 0, .cons _ t => t
  | _, _, n + 1, .cons r t => .cons r (dpa_erase n t)
theorem dpa_reverse {H : Hp} : ∀ {vs : List V} {ds : List D}, RpAll H vs ds → RpAll H vs.reverse ds.reverse
  | _, _, .nil => .nil
  | _, _, .cons r t => by rw [List.reverse_cons, List.reverse_cons]; exact dpa_append (dpa_reverse t) (.cons r .nil)
theorem dpa_ints {H : Hp} : ∀ {vs : List V} {ns : List Int}, RpAll H vs (ns.map PyData.int) → vs = ns.map V.int
  | _, [], h => by cases h; rfl
  | _, n :: ns, h => by
    cases h with
    | cons a t => cases a; rw [dpa_ints t]; rfl
theorem dpa_of_ints {H : Hp} : ∀ (ns : List Int), RpAll H (ns.map V.int) (ns.map PyData.int)
  | [] => .nil
  | n :: ns => .cons (.int n) (dpa_of_ints ns)
theorem dpa_bools {H : Hp} : ∀ {vs : List V} {ns : List Bool}, RpAll H vs (ns.map PyData.bool) → vs = ns.map V.bl
  | _, [], h => by cases h; rfl
  | _, n :: ns, h => by
    cases h with
    | cons a t => cases a; rw [dpa_bools t]; rfl
theorem atD {H : Hp} {vs : List V} {ds : List D} {i : Int} {d : D} (h : RpAll H vs ds) (e : atI ds i = some d) : ∃ v, atI vs i = some v ∧ Rp H v d := by
  unfold atI at e
  cases q : ixN ds.length i with
  | none => rw [q] at e; cases e
  | some j =>
    rw [q] at e
    obtain ⟨v, h1, h2⟩ := dpa_get h e
    refine ⟨v, ?_, h2⟩
    unfold atI
    rw [dpa_length h, q]
    exact h1

/-- no heap within -/
def flat : D → Bool
  | .none | .bool _ | .int _ | .str _ => true
  | _ => false
theorem dp_flat {H H' : Hp} {v : V} {d : D} (f : flat d = true) (h : Rp H v d) : Rp H' v d := by
  cases h with
  | non => exact .non
  | bl b => exact .bl b
  | int i => exact .int i
  | str x => exact .str x
  | lst _ _ => cases f
  | tup _ _ => cases f
theorem dpa_flat {H H' : Hp} : ∀ {vs : List V} {ds : List D}, (∀ d ∈ ds, PL.flat d = true) → RpAll H vs ds → RpAll H' vs ds
  | _, _, _, .nil => .nil
  | _, _, f, .cons h t => .cons (dp_flat (f _ List.mem_cons_self) h) (dpa_flat (fun d hd => f d (List.mem_cons_of_mem _ hd)) t)
/-- a constant as data -/
def vD : V → Option D
  | .non => some .none
  | .bl b => some (.bool b)
  | .int i => some (.int i)
  | .str x => some (.str x)
  | _ => none
theorem vD_dp {H : Hp} {v : V} {d : D} (h : vD v = some d) : Rp H v d := by
  cases v <;> simp [vD] at h <;> subst h <;> constructor

/-! ### slots -/
inductive Sl where
  | no
  | d (x : D)
  | own (xs : List D)
  | own2 (xss : List (List D))
  | dct (ks : List (Int × Int))
def Sl.toD : Sl → Option D
  | .d x => some x
  | .own xs => some (.list xs)
  | .own2 xss => some (.list (xss.map .list))
  | _ => none
inductive Own2 (S H : Hp) : List Addr → List (List D) → Prop
  | nil : Own2 S H [] []
  | cons {b : Addr} {vs : List V} {xs : List D} {bs : List Addr} {xss : List (List D)} : S b = none → H b = some (.lst vs) → RpAll S vs xs → Own2 S H bs xss → Own2 S H (b :: bs) (xs :: xss)
def keyOf (k : Int × Int) : List Key × V := ([.inl k.1, .inl k.2], .bl true)
inductive SlOk (S H : Hp) : Option V → Sl → List Addr → Prop
  | no {v : Option V} : SlOk S H v .no []
  | d {v : V} {x : D} : Rp S v x → SlOk S H (some v) (.d x) []
  | own {a : Addr} {vs : List V} {xs : List D} : S a = none → H a = some (.lst vs) → RpAll S vs xs → SlOk S H (some (.ref a)) (.own xs) [a]
  | own2 {a : Addr} {bs : List Addr} {xss : List (List D)} : S a = none → H a = some (.lst (bs.map V.ref)) → Own2 S H bs xss → SlOk S H (some (.ref a)) (.own2 xss) (a :: bs)
  | dct {a : Addr} {ks : List (Int × Int)} : S a = none → H a = some (.dT (ks.map keyOf)) → SlOk S H (some (.ref a)) (.dct ks) [a]

section
variable {S H S' H' S0 H0 S1 H1 : Hp}
theorem Own2.keep {bs : List Addr} {xss : List (List D)} (h : Own2 S H bs xss) (ss : Same S S') (k : ∀ a ∈ bs, S' a = none ∧ H' a = H a) : Own2 S' H' bs xss := by
  induction h with
  | nil => exact .nil
  | cons h1 h2 h3 _ ih =>
    obtain ⟨e1, e2⟩ := k _ List.mem_cons_self
    exact .cons e1 (e2.trans h2) (dpa_mono ss _ _ h3) (ih fun a ha => k a (List.mem_cons_of_mem _ ha))
theorem SlOk.keep {v : Option V} {s : Sl} {A : List Addr} (h : SlOk S H v s A) (ss : Same S S') (k : ∀ a ∈ A, S' a = none ∧ H' a = H a) : SlOk S' H' v s A := by
  cases h with
  | no => exact .no
  | d h => exact .d (dp_mono ss _ _ h)
  | own h1 h2 h3 =>
    obtain ⟨e1, e2⟩ := k _ List.mem_cons_self
    exact .own e1 (e2.trans h2) (dpa_mono ss _ _ h3)
  | own2 h1 h2 h3 =>
    obtain ⟨e1, e2⟩ := k _ List.mem_cons_self
    exact .own2 e1 (e2.trans h2) (h3.keep ss fun a ha => k a (List.mem_cons_of_mem _ ha))
  | dct h1 h2 =>
    obtain ⟨e1, e2⟩ := k _ List.mem_cons_self
    exact .dct e1 (e2.trans h2)
theorem Own2.at {bs : List Addr} {xss : List (List D)} (h : Own2 S H bs xss) : ∀ a ∈ bs, S a = none ∧ ∃ u, H a = some u ∧ ∀ xs, u ≠ .tup xs := by
  induction h with
  | nil => intro a ha; cases ha
  | cons h1 h2 h3 _ ih =>
    intro a ha
    rcases List.mem_cons.mp ha with rfl | ha
    · exact ⟨h1, _, h2, fun _ e => by cases e⟩
    · exact ih a ha
theorem SlOk.at {v : Option V} {s : Sl} {A : List Addr} (h : SlOk S H v s A) : ∀ a ∈ A, S a = none ∧ ∃ u, H a = some u ∧ ∀ xs, u ≠ .tup xs := by
  cases h with
  | no => intro a ha; cases ha
  | d h => intro a ha; cases ha
  | own h1 h2 h3 =>
    intro a ha
    have e := List.mem_singleton.mp ha
    subst e
    exact ⟨h1, _, h2, fun _ e => by cases e⟩
  | own2 h1 h2 h3 =>
    intro a ha
    rcases List.mem_cons.mp ha with rfl | ha
    · exact ⟨h1, _, h2, fun _ e => by cases e⟩
    · exact h3.at a ha
  | dct h1 h2 =>
    intro a ha
    have e := List.mem_singleton.mp ha
    subst e
    exact ⟨h1, _, h2, fun _ e => by cases e⟩
theorem SlOk.ext {v : Option V} {s : Sl} {A : List Addr} (h : SlOk S H v s A) (x : Xt S H S' H') : SlOk S' H' v s A :=
  h.keep x.ss fun a ha => by
    obtain ⟨h1, u, h2, h3⟩ := h.at a ha
    exact ⟨x.out h1 h2 h3, by rw [h2]; exact x.hh a u h2⟩

inductive EnvOk (S H : Hp) : List (Option V) → List Sl → List Addr → Prop
  | nil : EnvOk S H [] [] []
  | cons {v : Option V} {s : Sl} {A : List Addr} {σ : List (Option V)} {ρ : List Sl} {B : List Addr} : SlOk S H v s A → EnvOk S H σ ρ B → EnvOk S H (v :: σ) (s :: ρ) (A ++ B)
theorem EnvOk.keep {σ : Sg} {ρ : List Sl} {A : List Addr} (h : EnvOk S H σ ρ A) (ss : Same S S') (k : ∀ a ∈ A, S' a = none ∧ H' a = H a) : EnvOk S' H' σ ρ A := by
  induction h with
  | nil => exact .nil
  | cons h _ ih => exact .cons (h.keep ss fun a ha => k a (List.mem_append_left _ ha)) (ih fun a ha => k a (List.mem_append_right _ ha))
theorem EnvOk.at {σ : Sg} {ρ : List Sl} {A : List Addr} (h : EnvOk S H σ ρ A) : ∀ a ∈ A, S a = none ∧ ∃ u, H a = some u ∧ ∀ xs, u ≠ .tup xs := by
  induction h with
  | nil => intro a ha; cases ha
  | cons h _ ih =>
    intro a ha
    rcases List.mem_append.mp ha with ha | ha
    · exact h.at a ha
    · exact ih a ha
theorem EnvOk.ext {σ : Sg} {ρ : List Sl} {A : List Addr} (h : EnvOk S H σ ρ A) (x : Xt S H S' H') : EnvOk S' H' σ ρ A :=
  h.keep x.ss fun a ha => by
    obtain ⟨h1, u, h2, h3⟩ := h.at a ha
    exact ⟨x.out h1 h2 h3, by rw [h2]; exact x.hh a u h2⟩
theorem EnvOk.len {σ : Sg} {ρ : List Sl} {A : List Addr} (h : EnvOk S H σ ρ A) : σ.length = ρ.length := by
  induction h with
  | nil => rfl
  | cons _ _ ih => rw [List.length_cons, List.length_cons, ih]
/-- one slot taken out of the rest: at i stands v as s over A; with anything in its place the rest stays -/
theorem EnvOk.pick {σ : Sg} {ρ : List Sl} {B : List Addr} (h : EnvOk S H σ ρ B) (nd : B.Nodup) : ∀ {i : Nat} {s : Sl}, ρ[i]? = some s → ∃ v A, σ[i]? = some v ∧ SlOk S H v s A ∧ A.Nodup ∧ (∀ a ∈ A, a ∈ B) ∧
    ∀ {S' H' : Hp} {v' : Option V} {s' : Sl} {A' : List Addr}, Same S S' → (∀ a ∈ B, a ∉ A → S' a = none ∧ H' a = H a) → SlOk S' H' v' s' A' → A'.Nodup → (∀ a ∈ A', a ∈ A ∨ a ∉ B) →
      ∃ B', EnvOk S' H' (σ.set i v') (ρ.set i s') B' ∧ B'.Nodup ∧ ∀ a ∈ B', a ∈ A' ∨ a ∈ B := by
  induction h with
  | nil => intro i s e; simp at e
  | @cons v0 s0 A0 σ ρ B h0 ht ih =>
    have nd1 : A0.Nodup := (List.nodup_append.mp nd).1
    have nd2 : B.Nodup := (List.nodup_append.mp nd).2.1
    have dj : ∀ a ∈ A0, a ∉ B := fun a ha hb => (List.nodup_append.mp nd).2.2 a ha a hb rfl
    intro i s e
    cases i with
    | zero =>
      have e' : s0 = s := by simpa using e
      subst e'
      refine ⟨v0, A0, rfl, h0, nd1, fun a ha => List.mem_append_left _ ha, fun {S' H' v' s' A'} ss k h' n' m' => ?_⟩
      refine ⟨A' ++ B, .cons h' (ht.keep ss fun a ha => k a (List.mem_append_right _ ha) fun z => dj a z ha), ?_, fun a ha => ?_⟩
      · refine List.nodup_append.mpr ⟨n', nd2, fun a ha b hb e => ?_⟩
        subst e
        rcases m' a ha with z | z
        · exact dj a z hb
        · exact z (List.mem_append_right _ hb)
      · rcases List.mem_append.mp ha with z | z
        · exact .inl z
        · exact .inr (List.mem_append_right _ z)
    | succ i =>
      obtain ⟨v, A, e1, e2, e3, e4, e5⟩ := ih nd2 (i := i) (s := s) (by simpa using e)
      refine ⟨v, A, by simpa using e1, e2, e3, fun a ha => List.mem_append_right _ (e4 a ha), fun {S' H' v' s' A'} ss k h' n' m' => ?_⟩
      obtain ⟨B', q1, q2, q3⟩ := e5 (v' := v') ss (fun a ha na => k a (List.mem_append_right _ ha) na) h' n' (fun a ha => by
        rcases m' a ha with z | z
        · exact .inl z
        · exact .inr fun hb => z (List.mem_append_right _ hb))
      refine ⟨A0 ++ B', .cons (h0.keep ss fun a ha => k a (List.mem_append_left _ ha) fun z => dj a ha (e4 a z)) q1, ?_, fun a ha => ?_⟩
      · refine List.nodup_append.mpr ⟨nd1, q2, fun a ha b hb e => ?_⟩
        subst e
        rcases q3 a hb with z | z
        · rcases m' a z with y | y
          · exact dj a ha (e4 a y)
          · exact y (List.mem_append_left _ ha)
        · exact dj a ha z
      · rcases List.mem_append.mp ha with z | z
        · exact .inr (List.mem_append_left _ z)
        · rcases q3 a z with y | y
          · exact .inl y
          · exact .inr (List.mem_append_right _ y)

structure Ok (S0 H0 S H : Hp) (σ : Sg) (ρ : List Sl) : Prop where
  xt : Xt S0 H0 S H
  env : ∃ A, EnvOk S H σ ρ A ∧ A.Nodup ∧ ∀ a ∈ A, H0 a = none
theorem Ok.sh {σ : Sg} {ρ : List Sl} (o : Ok S0 H0 S H σ ρ) : Same S H := o.xt.sh
theorem Ok.ext {σ : Sg} {ρ : List Sl} (o : Ok S0 H0 S H σ ρ) (x : Xt S H S' H') : Ok S0 H0 S' H' σ ρ := by
  obtain ⟨A, h1, h2, h3⟩ := o.env
  exact ⟨o.xt.trans x, A, h1.ext x, h2, h3⟩
theorem Ok.len {σ : Sg} {ρ : List Sl} (o : Ok S0 H0 S H σ ρ) : σ.length = ρ.length := let ⟨_, h, _⟩ := o.env; h.len
/-- a slot stored: what is stored is new to H -/
theorem Ok.set {σ : Sg} {ρ : List Sl} (o : Ok S0 H0 S H σ ρ) (x : Xt S H S' H') {v : Option V} {s : Sl} {A : List Addr} (h : SlOk S' H' v s A) (nd : A.Nodup) (fr : ∀ a ∈ A, H a = none) (i : Nat) : Ok S0 H0 S' H' (σ.set i v) (ρ.set i s) := by
  obtain ⟨B, h1, h2, h3⟩ := o.env
  have h1' := h1.ext x
  by_cases hi : i < ρ.length
  · obtain ⟨v0, A0, e1, e2, e3, e4, e5⟩ := h1'.pick h2 (i := i) (s := ρ[i]) (by simp [hi])
    obtain ⟨B', q1, q2, q3⟩ := e5 (v' := v) (Same.refl S') (fun a ha _ => ⟨(h1'.at a ha).1, rfl⟩) h nd (fun a ha => .inr fun hb => by
      obtain ⟨_, u, hu, _⟩ := h1.at a hb
      rw [fr a ha] at hu; cases hu)
    refine ⟨o.xt.trans x, B', q1, q2, fun a ha => ?_⟩
    rcases q3 a ha with z | z
    · exact o.xt.hh.free (fr a z)
    · exact h3 a z
  · have l := o.len
    rw [List.set_eq_of_length_le (by omega), List.set_eq_of_length_le (by omega)]
    exact ⟨o.xt.trans x, B, h1', h2, h3⟩
end
end PL

namespace PL
open PySem L2
variable [kf : KF]

theorem slRp {S H : Hp} {v : V} {s : Sl} {A : List Addr} {x : D} (sh : Same S H) (h : SlOk S H (some v) s A) (e : s.toD = some x) : Rp H v x := by
  cases h with
  | no => cases e
  | d h => cases e; exact dp_mono sh _ _ h
  | own h1 h2 h3 => cases e; exact .lst (SqL.of h2) (dpa_mono sh _ _ h3)
  | own2 h1 h2 h3 =>
    cases e
    refine .lst (SqL.of h2) ?_
    clear h2
    induction h3 with
    | nil => exact .nil
    | cons a b c _ ih => exact .cons (.lst (SqL.of b) (dpa_mono sh _ _ c)) ih
  | dct _ _ => cases e
/-- the objects at A become stable -/
def fz (S H : Hp) (A : List Addr) : Hp := fun b => if b ∈ A then H b else S b
theorem fz_in {S H : Hp} {A : List Addr} {b : Addr} (h : b ∈ A) : fz S H A b = H b := by unfold fz; rw [if_pos h]
theorem fz_out {S H : Hp} {A : List Addr} {b : Addr} (h : b ∉ A) : fz S H A b = S b := by unfold fz; rw [if_neg h]
theorem fz_same {S H : Hp} {A : List Addr} (sh : Same S H) : Same S (fz S H A) := fun b o e => by
  by_cases h : b ∈ A
  · rw [fz_in h]; exact sh b o e
  · rw [fz_out h]; exact e
theorem fz_sub {S H : Hp} {A : List Addr} (sh : Same S H) : Same (fz S H A) H := fun b o e => by
  by_cases h : b ∈ A
  · rw [fz_in h] at e; exact e
  · rw [fz_out h] at e; exact sh b o e
theorem fz_rp {S H : Hp} {v : V} {s : Sl} {A : List Addr} {x : D} (sh : Same S H) (h : SlOk S H (some v) s A) (e : s.toD = some x) : Rp (fz S H A) v x := by
  cases h with
  | no => cases e
  | d h => cases e; exact dp_mono (fz_same sh) _ _ h
  | own h1 h2 h3 => cases e; exact .lst (SqL.of ((fz_in List.mem_cons_self).trans h2)) (dpa_mono (fz_same sh) _ _ h3)
  | @own2 a bs xss h1 h2 h3 =>
    cases e
    refine .lst (SqL.of ((fz_in List.mem_cons_self).trans h2)) ?_
    have gen : ∀ (bs' : List Addr) (xss' : List (List D)), (∀ b ∈ bs', b ∈ a :: bs) → Own2 S H bs' xss' → RpAll (fz S H (a :: bs)) (bs'.map V.ref) (xss'.map PyData.list) := by
      intro bs' xss' hm h
      induction h with
      | nil => exact .nil
      | cons p q r _ ih => exact .cons (.lst (SqL.of ((fz_in (hm _ List.mem_cons_self)).trans q)) (dpa_mono (fz_same sh) _ _ r)) (ih fun b hb => hm b (List.mem_cons_of_mem _ hb))
    exact gen bs xss (fun b hb => List.mem_cons_of_mem _ hb) h3
  | dct _ _ => cases e
theorem Xt.fz {S H S' H' : Hp} {A : List Addr} (x : Xt S H S' H') (fr : ∀ a ∈ A, H a = none) : Xt S H (PL.fz S' H' A) H' :=
  ⟨x.hh, x.ss.trans (fz_same x.sh), fz_sub x.sh, fun b o e => by
    by_cases h : b ∈ A
    · exact .inr fun u hu => by rw [fr b h] at hu; cases hu
    · rw [fz_out h] at e; exact x.nw b o e⟩

/-! ### judgements -/
def EvP (te : TE) (ρ : List Sl) (P : Sl → Prop) : Prop := ∀ (S0 H0 S H : Hp) (σ : Sg) (Q : VK), Ok S0 H0 S H σ ρ →
  (∀ v S' H' r A, P r → Xt S H S' H' → SlOk S' H' (some v) r A → A.Nodup → (∀ a ∈ A, H a = none) → Q v H') → te σ H Q
def EvO (te : TE) (ρ : List Sl) (r : Sl) : Prop := EvP te ρ (fun r' => r' = r)
def EvT (te : TE) (ρ : List Sl) (d : D) : Prop := ∀ (S0 H0 S H : Hp) (σ : Sg) (Q : VK), Ok S0 H0 S H σ ρ → (∀ v S' H', Xt S H S' H' → Rp H' v d → Q v H') → te σ H Q
/-- a list whose items are stable -/
def EvE (te : TE) (ρ : List Sl) (ds : List D) : Prop := ∀ (S0 H0 S H : Hp) (σ : Sg) (Q : VK), Ok S0 H0 S H σ ρ → (∀ a vs S' H', Xt S H S' H' → SqL kf.K H' a vs → RpAll S' vs ds → Q (.ref a) H') → te σ H Q
def EvB (tt : TT) (ρ : List Sl) (b : Bool) : Prop := ∀ (S0 H0 S H : Hp) (σ : Sg) (Q : Bool → Hp → Prop), Ok S0 H0 S H σ ρ → (∀ S' H', Xt S H S' H' → Q b H') → tt σ H Q
def EvL (ta : TA) (ρ : List Sl) (ds : List D) : Prop := ∀ (S0 H0 S H : Hp) (σ : Sg) (Q : List V → Hp → Prop), Ok S0 H0 S H σ ρ → (∀ vs S' H', Xt S H S' H' → RpAll S' vs ds → Q vs H') → ta σ H Q
def EvLt (ta : TA) (ρ : List Sl) (ds : List D) : Prop := ∀ (S0 H0 S H : Hp) (σ : Sg) (Q : List V → Hp → Prop), Ok S0 H0 S H σ ρ → (∀ vs S' H', Xt S H S' H' → RpAll H' vs ds → Q vs H') → ta σ H Q

section
variable {ρ : List Sl} {ta tb tc te : TE} {t u : TT} {d e x y : D} {r : Sl} {P : Sl → Prop}

theorem evt_of (h : EvO te ρ r) (e : r.toD = some x) : EvT te ρ x := fun S0 H0 S H σ Q o q => h S0 H0 S H σ Q o fun v S' H' r' A e' xt hs _ _ => by
  subst e'
  exact q v S' H' xt (slRp xt.sh hs e)
theorem evp_mono {P' : Sl → Prop} (h : EvP te ρ P) (m : ∀ r, P r → P' r) : EvP te ρ P' := fun S0 H0 S H σ Q o q => h S0 H0 S H σ Q o fun v S' H' r A p => q v S' H' r A (m r p)
theorem evp_of (h : EvO te ρ r) (p : P r) : EvP te ρ P := evp_mono h fun r' e => by rw [e]; exact p
theorem evo_fz (h : EvO te ρ r) (e : r.toD = some x) : EvO te ρ (.d x) := fun S0 H0 S H σ Q o q => h S0 H0 S H σ Q o fun v S' H' r' A e' xt hs _ fr => by
  subst e'
  exact q v (fz S' H' A) H' _ [] rfl (xt.fz fr) (.d (fz_rp xt.sh hs e)) List.nodup_nil (fun a ha => by cases ha)
theorem evo_flat (h : EvT te ρ x) (f : flat x = true) : EvO te ρ (.d x) := fun S0 H0 S H σ Q o q => h S0 H0 S H σ Q o fun v S' H' xt hr =>
  q v S' H' _ [] rfl xt (.d (dp_flat f hr)) List.nodup_nil (fun a ha => by cases ha)
/-- a flat value told -/
theorem fin_flat {S H S' H' : Hp} {Q : VK} {v : V} (q : ∀ v S' H' r' A, r' = r → Xt S H S' H' → SlOk S' H' (some v) r' A → A.Nodup → (∀ a ∈ A, H a = none) → Q v H') (xt : Xt S H S' H') (e : r = .d x) (h : vD v = some x) : Q v H' :=
  q v S' H' r [] rfl xt (by rw [e]; exact .d (vD_dp h)) List.nodup_nil (fun a ha => by cases ha)
theorem evo_is (h : EvO te ρ r) {r' : Sl} (e : r = r') : EvO te ρ r' := e ▸ h
theorem evb_is {b b' : Bool} (h : EvB t ρ b) (e : b = b') : EvB t ρ b' := e ▸ h

theorem Ok.get {S0 H0 S H : Hp} {σ : Sg} {s : Sl} {i : Nat} (o : Ok S0 H0 S H σ ρ) (h : ρ[i]? = some s) : ∃ v A, σ[i]? = some v ∧ SlOk S H v s A := by
  obtain ⟨A, he, hn, _⟩ := o.env
  obtain ⟨v, A', e1, e2, _⟩ := he.pick hn h
  exact ⟨v, A', e1, e2⟩
theorem evo_var {i : Nat} (h : ρ[i]? = some (.d x)) : EvO (tVar i) ρ (.d x) := fun S0 H0 S H σ Q o q => by
  obtain ⟨v, A, e1, e2⟩ := o.get h
  cases e2 with
  | d hd => exact ⟨_, e1, q _ S H _ [] rfl (.refl o.sh) (.d hd) List.nodup_nil (fun a ha => by cases ha)⟩
theorem evt_var {i : Nat} {s : Sl} (h : ρ[i]? = some s) (e : s.toD = some x) : EvT (tVar i) ρ x := fun S0 H0 S H σ Q o q => by
  obtain ⟨v, A, e1, e2⟩ := o.get h
  cases v with
  | none => cases e2; cases e
  | some v => exact ⟨v, e1, q v S H (.refl o.sh) (slRp o.sh e2 e)⟩
theorem eve_var {i : Nat} {ds : List D} (h : ρ[i]? = some (.own ds)) : EvE (tVar i) ρ ds := fun S0 H0 S H σ Q o q => by
  obtain ⟨v, A, e1, e2⟩ := o.get h
  cases e2 with
  | own h1 h2 h3 => exact ⟨_, e1, q _ _ S H (.refl o.sh) (SqL.of h2) h3⟩
theorem eve_of {ds : List D} (h : EvO te ρ (.own ds)) : EvE te ρ ds := fun S0 H0 S H σ Q o q => h S0 H0 S H σ Q o fun v S' H' r' A e' xt hs _ _ => by
  subst e'
  cases hs with
  | own h1 h2 h3 => exact q _ _ S' H' xt (SqL.of h2) h3
theorem eve_d {ds : List D} (h : EvO te ρ (.d (.list ds))) : EvE te ρ ds := fun S0 H0 S H σ Q o q => h S0 H0 S H σ Q o fun v S' H' r' A e' xt hs _ _ => by
  subst e'
  cases hs with
  | d hd =>
    cases hd with
    | lst h1 h2 => exact q _ _ S' H' xt (xt.sh.seq h1) h2
theorem evt_e {ds : List D} (h : EvE te ρ ds) : EvT te ρ (.list ds) := fun S0 H0 S H σ Q o q => h S0 H0 S H σ Q o fun a vs S' H' xt h1 h2 => q _ S' H' xt (.lst h1 (dpa_mono xt.sh _ _ h2))
theorem evo_c {v : V} (h : vD v = some x) : EvO (tC v) ρ (.d x) := fun S0 H0 S H σ Q o q => fin_flat q (.refl o.sh) rfl h

/-! ### operators -/
theorem evo_I0 {g : Int → Int → V} {i j : Int} (ha : EvT ta ρ (.int i)) (hb : EvT tb ρ (.int j)) (hg : vD (g i j) = some x) : EvO (tOp (rI0 g) ta tb) ρ (.d x) := fun S0 H0 S H σ Q o q =>
  ha S0 H0 S H σ _ o fun v S1 H1 x1 h1 => hb S0 H0 S1 H1 σ _ (o.ext x1) fun u S2 H2 x2 h2 => by
    cases h1; cases h2
    exact ⟨i, j, rfl, rfl, fin_flat q (x1.trans x2) rfl hg⟩
theorem evo_I {C : Int → Int → Prop} {g : Int → Int → V} {i j : Int} (ha : EvT ta ρ (.int i)) (hb : EvT tb ρ (.int j)) (hc : C i j) (hg : vD (g i j) = some x) : EvO (tOp (rI C g) ta tb) ρ (.d x) := fun S0 H0 S H σ Q o q =>
  ha S0 H0 S H σ _ o fun v S1 H1 x1 h1 => hb S0 H0 S1 H1 σ _ (o.ext x1) fun u S2 H2 x2 h2 => by
    cases h1; cases h2
    exact ⟨i, j, rfl, rfl, hc, fin_flat q (x1.trans x2) rfl hg⟩
theorem evo_U {g : Int → V} {i : Int} (ha : EvT ta ρ (.int i)) (hg : vD (g i) = some x) : EvO (tUn (rU g) ta) ρ (.d x) := fun S0 H0 S H σ Q o q =>
  ha S0 H0 S H σ _ o fun v S1 H1 x1 h1 => by
    cases h1
    exact ⟨i, rfl, fin_flat q x1 rfl hg⟩
theorem evo_eqI {i j : Int} (ha : EvT ta ρ (.int i)) (hb : EvT tb ρ (.int j)) : EvO (tOp rEq ta tb) ρ (.d (.bool (decide (i = j)))) := fun S0 H0 S H σ Q o q =>
  ha S0 H0 S H σ _ o fun v S1 H1 x1 h1 => hb S0 H0 S1 H1 σ _ (o.ext x1) fun u S2 H2 x2 h2 => by
    cases h1; cases h2
    refine ⟨rfl, ?_⟩
    have e : decide (V.int i = V.int j) = decide (i = j) := by simp
    rw [e]
    exact fin_flat q (x1.trans x2) rfl rfl
theorem evo_neI {i j : Int} (ha : EvT ta ρ (.int i)) (hb : EvT tb ρ (.int j)) : EvO (tOp rNe ta tb) ρ (.d (.bool (!decide (i = j)))) := fun S0 H0 S H σ Q o q =>
  ha S0 H0 S H σ _ o fun v S1 H1 x1 h1 => hb S0 H0 S1 H1 σ _ (o.ext x1) fun u S2 H2 x2 h2 => by
    cases h1; cases h2
    refine ⟨rfl, ?_⟩
    have e : decide (V.int i = V.int j) = decide (i = j) := by simp
    rw [e]
    exact fin_flat q (x1.trans x2) rfl rfl
theorem evo_eqD (ha : EvT ta ρ d) (hb : EvT tb ρ e) (h1 : SeqAt.shaped d = true) (h2 : SeqAt.shaped e = true) : EvO (tOp (rEqD kf.K) ta tb) ρ (.d (.bool (PyData.eqv d e))) := fun S0 H0 S H σ Q o q =>
  ha S0 H0 S H σ _ o fun v S1 H1 x1 r1 => hb S0 H0 S1 H1 σ _ (o.ext x1) fun u S2 H2 x2 r2 =>
    ⟨d, e, rp_dp _ _ (dp_mono x2.hh _ _ r1), rp_dp _ _ r2, h1, h2, fin_flat q (x1.trans x2) rfl rfl⟩
theorem evo_neD (ha : EvT ta ρ d) (hb : EvT tb ρ e) (h1 : SeqAt.shaped d = true) (h2 : SeqAt.shaped e = true) : EvO (tOp (rNeD kf.K) ta tb) ρ (.d (.bool (!PyData.eqv d e))) := fun S0 H0 S H σ Q o q =>
  ha S0 H0 S H σ _ o fun v S1 H1 x1 r1 => hb S0 H0 S1 H1 σ _ (o.ext x1) fun u S2 H2 x2 r2 =>
    ⟨d, e, rp_dp _ _ (dp_mono x2.hh _ _ r1), rp_dp _ _ r2, h1, h2, fin_flat q (x1.trans x2) rfl rfl⟩
theorem evo_inD {ds : List D} (ha : EvT ta ρ d) (hb : EvT tb ρ (.list ds)) (h1 : SeqAt.shaped d = true) (h2 : SeqAt.shaped (.list ds) = true) : EvO (tOp (rInD kf.K) ta tb) ρ (.d (.bool (ds.any fun z => PyData.eqv z d))) := fun S0 H0 S H σ Q o q =>
  ha S0 H0 S H σ _ o fun v S1 H1 x1 r1 => hb S0 H0 S1 H1 σ _ (o.ext x1) fun u S2 H2 x2 r2 =>
    ⟨d, ds, rp_dp _ _ (dp_mono x2.hh _ _ r1), rp_dp _ _ r2, h1, h2, fin_flat q (x1.trans x2) rfl rfl⟩
def isN : D → Bool
  | .none => true
  | _ => false
theorem rp_isN {H : Hp} {v : V} (h : Rp H v d) : decide (v = .non) = isN d := by
  cases h <;> simp [isN]
theorem evo_isN (ha : EvT ta ρ d) : EvO (tOp (fun x y H Q => y = V.non ∧ Q (.bl (decide (x = .non))) H) ta (tC .non)) ρ (.d (.bool (isN d))) := fun S0 H0 S H σ Q o q =>
  ha S0 H0 S H σ _ o fun v S1 H1 x1 r1 => ⟨rfl, by rw [rp_isN r1]; exact fin_flat q x1 rfl rfl⟩
theorem evo_notN (ha : EvT ta ρ d) : EvO (tOp (fun x y H Q => y = V.non ∧ Q (.bl (!decide (x = .non))) H) ta (tC .non)) ρ (.d (.bool (!isN d))) := fun S0 H0 S H σ Q o q =>
  ha S0 H0 S H σ _ o fun v S1 H1 x1 r1 => ⟨rfl, by rw [rp_isN r1]; exact fin_flat q x1 rfl rfl⟩
theorem evo_chainI {g g' : Int → Int → Bool} {i j k : Int} (ha : EvT ta ρ (.int i)) (hb : EvT tb ρ (.int j)) (hc : EvT tc ρ (.int k)) :
    EvO (tChain (rI0 fun i j => .bl (g i j)) (rI0 fun i j => .bl (g' i j)) ta tb tc) ρ (.d (.bool (g i j && g' j k))) := fun S0 H0 S H σ Q o q =>
  ha S0 H0 S H σ _ o fun v S1 H1 x1 h1 => hb S0 H0 S1 H1 σ _ (o.ext x1) fun u S2 H2 x2 h2 => by
    cases h1; cases h2
    refine ⟨i, j, rfl, rfl, g i j, rfl, ?_⟩
    cases hg : g i j with
    | true =>
      refine iteT ?_
      refine hc S0 H0 S2 H2 σ _ (o.ext (x1.trans x2)) fun w S3 H3 x3 h3 => ?_
      cases h3
      refine ⟨j, k, rfl, rfl, ?_⟩
      rw [hg] at q
      exact fin_flat q ((x1.trans x2).trans x3) rfl rfl
    | false =>
      refine iteF ?_
      rw [hg] at q
      exact fin_flat q (x1.trans x2) rfl rfl

/-! ### subscripts, len -/
theorem evt_ixL {ds : List D} {n : Int} (ha : EvT ta ρ (.list ds)) (hb : EvT tb ρ (.int n)) (e : atI ds n = some d) : EvT (tOp (rIxL kf.K) ta tb) ρ d := fun S0 H0 S H σ Q o q =>
  ha S0 H0 S H σ _ o fun v S1 H1 x1 h1 => hb S0 H0 S1 H1 σ _ (o.ext x1) fun u S2 H2 x2 h2 => by
    cases h2
    cases h1 with
    | lst r1 r2 =>
      obtain ⟨v, e1, e2⟩ := atD r2 e
      exact ⟨_, _, n, v, rfl, rfl, x2.hh.seq r1, e1, q v S2 H2 (x1.trans x2) (dp_mono x2.hh _ _ e2)⟩
theorem evt_ixT {ds : List D} {n : Int} (ha : EvT ta ρ (.tuple ds)) (hb : EvT tb ρ (.int n)) (e : atI ds n = some d) : EvT (tOp (rIxT kf.K) ta tb) ρ d := fun S0 H0 S H σ Q o q =>
  ha S0 H0 S H σ _ o fun v S1 H1 x1 h1 => hb S0 H0 S1 H1 σ _ (o.ext x1) fun u S2 H2 x2 h2 => by
    cases h2
    cases h1 with
    | tup r1 r2 =>
      obtain ⟨v, e1, e2⟩ := atD r2 e
      exact ⟨_, _, n, v, rfl, rfl, .inl (.of (x2.hh _ _ r1)), e1, q v S2 H2 (x1.trans x2) (dp_mono x2.hh _ _ e2)⟩
theorem evo_ixE {ds : List D} {n : Int} (ha : EvE ta ρ ds) (hb : EvT tb ρ (.int n)) (e : atI ds n = some d) : EvO (tOp (rIxL kf.K) ta tb) ρ (.d d) := fun S0 H0 S H σ Q o q =>
  ha S0 H0 S H σ _ o fun a vs S1 H1 x1 r1 r2 => hb S0 H0 S1 H1 σ _ (o.ext x1) fun u S2 H2 x2 h2 => by
    cases h2
    obtain ⟨v, e1, e2⟩ := atD r2 e
    exact ⟨_, _, n, v, rfl, rfl, x2.hh.seq r1, e1, q v S2 H2 _ [] rfl (x1.trans x2) (.d (dp_mono x2.ss _ _ e2)) List.nodup_nil (fun a ha => by cases ha)⟩
theorem evo_ixT {ds : List D} {n : Int} (ha : EvO ta ρ (.d (.tuple ds))) (hb : EvT tb ρ (.int n)) (e : atI ds n = some d) : EvO (tOp (rIxT kf.K) ta tb) ρ (.d d) := fun S0 H0 S H σ Q o q =>
  ha S0 H0 S H σ _ o fun v S1 H1 r A er x1 h1 _ _ => hb S0 H0 S1 H1 σ _ (o.ext x1) fun u S2 H2 x2 h2 => by
    subst er
    cases h2
    cases h1 with
    | d h1 =>
      cases h1 with
      | tup r1 r2 =>
        obtain ⟨v, e1, e2⟩ := atD r2 e
        exact ⟨_, _, n, v, rfl, rfl, .inl (.of (x2.hh _ _ (x1.sh _ _ r1))), e1, q v S2 H2 _ [] rfl (x1.trans x2) (.d (dp_mono x2.ss _ _ e2)) List.nodup_nil (fun a ha => by cases ha)⟩
/-- an inner list of a fresh list of lists -/
theorem own2_get {S H : Hp} {bs : List Addr} {xss : List (List D)} (h : Own2 S H bs xss) : ∀ {j : Nat} {xs : List D}, xss[j]? = some xs → ∃ b vs, bs[j]? = some b ∧ S b = none ∧ H b = some (.lst vs) ∧ RpAll S vs xs := by
  induction h with
  | nil => intro j xs e; simp at e
  | @cons b vs xs bs xss h1 h2 h3 _ ih =>
    intro j ys e
    cases j with
    | zero => simp at e; subst e; exact ⟨b, vs, rfl, h1, h2, h3⟩
    | succ j => obtain ⟨b', vs', e1, e2⟩ := ih (j := j) (by simpa using e); exact ⟨b', vs', by simpa using e1, e2⟩
theorem own2_len {S H : Hp} {bs : List Addr} {xss : List (List D)} (h : Own2 S H bs xss) : bs.length = xss.length := by
  induction h with
  | nil => rfl
  | cons _ _ _ _ ih => rw [List.length_cons, List.length_cons, ih]
theorem atI_map {α β : Type} {f : α → β} {xs : List α} {i : Int} {v : α} (h : atI xs i = some v) : atI (xs.map f) i = some (f v) := by
  unfold atI at h ⊢
  rw [List.length_map]
  cases q : ixN xs.length i with
  | none => rw [q] at h; cases h
  | some j =>
    rw [q] at h
    show (xs.map f)[j]? = some (f v)
    rw [List.getElem?_map, show xs[j]? = some v from h]
    rfl
theorem evo_ix2 {xss : List (List D)} {xs : List D} {j : Nat} (ha : EvO ta ρ (.own2 xss)) (hb : EvT tb ρ (.int (j : Int))) (e : xss[j]? = some xs) : EvO (tOp (rIxL kf.K) ta tb) ρ (.own xs) := fun S0 H0 S H σ Q o q =>
  ha S0 H0 S H σ _ o fun v S1 H1 r A er x1 h1 nd fr => hb S0 H0 S1 H1 σ _ (o.ext x1) fun u S2 H2 x2 h2 => by
    subst er
    cases h2
    cases h1 with
    | @own2 a bs _ g1 g2 g3 =>
      obtain ⟨b, vs, e1, e2, e3, e4⟩ := own2_get g3 e
      have e5 : atI (bs.map V.ref) (j : Int) = some (.ref b) := atI_nat (by rw [List.getElem?_map, e1]; rfl)
      refine ⟨_, _, _, _, rfl, rfl, .inl (.of (x2.hh _ _ g2)), e5, q _ S2 H2 _ [b] rfl (x1.trans x2) (.own (x2.out e2 e3 fun _ z => by cases z) (x2.hh _ _ e3) (dpa_mono x2.ss _ _ e4)) (by simp) (fun c hc => ?_)⟩
      rw [List.mem_singleton.mp hc]
      exact fr b (List.mem_cons_of_mem _ (List.mem_of_getElem? e1))
theorem evo_lenL {ds : List D} (ha : EvT ta ρ (.list ds)) : EvO (tCB (fun xs H Q => ∃ p ys, xs = [V.ref p] ∧ (SqL kf.K H p ys ∨ SqT kf.K H p ys) ∧ Q (.int ys.length) H) (tCons ta tNil)) ρ (.d (.int (ds.length : Nat))) := fun S0 H0 S H σ Q o q =>
  ha S0 H0 S H σ _ o fun v S1 H1 x1 h1 => by
    cases h1 with
    | lst r1 r2 => exact ⟨_, _, rfl, .inl r1, by rw [dpa_length r2]; exact fin_flat q x1 rfl rfl⟩
theorem evo_lenT {ds : List D} (ha : EvT ta ρ (.tuple ds)) : EvO (tCB (fun xs H Q => ∃ p ys, xs = [V.ref p] ∧ (SqL kf.K H p ys ∨ SqT kf.K H p ys) ∧ Q (.int ys.length) H) (tCons ta tNil)) ρ (.d (.int (ds.length : Nat))) := fun S0 H0 S H σ Q o q =>
  ha S0 H0 S H σ _ o fun v S1 H1 x1 h1 => by
    cases h1 with
    | tup r1 r2 => exact ⟨_, _, rfl, .inr (.inl (.of r1)), by rw [dpa_length r2]; exact fin_flat q x1 rfl rfl⟩
theorem evo_max2 {i j : Int} (ha : EvT ta ρ (.int i)) (hb : EvT tb ρ (.int j)) : EvO (tCB (fun xs H Q => ∃ i j, xs = [V.int i, .int j] ∧ Q (.int (if j > i then j else i)) H) (tCons ta (tCons tb tNil))) ρ (.d (.int (max i j))) := fun S0 H0 S H σ Q o q =>
  ha S0 H0 S H σ _ o fun v S1 H1 x1 h1 => hb S0 H0 S1 H1 σ _ (o.ext x1) fun u S2 H2 x2 h2 => by
    cases h1; cases h2
    refine ⟨i, j, rfl, ?_⟩
    rw [show (if j > i then j else i) = max i j by split <;> omega]
    exact fin_flat q (x1.trans x2) rfl rfl
theorem evo_min2 {i j : Int} (ha : EvT ta ρ (.int i)) (hb : EvT tb ρ (.int j)) : EvO (tCB (fun xs H Q => ∃ i j, xs = [V.int i, .int j] ∧ Q (.int (if j < i then j else i)) H) (tCons ta (tCons tb tNil))) ρ (.d (.int (min i j))) := fun S0 H0 S H σ Q o q =>
  ha S0 H0 S H σ _ o fun v S1 H1 x1 h1 => hb S0 H0 S1 H1 σ _ (o.ext x1) fun u S2 H2 x2 h2 => by
    cases h1; cases h2
    refine ⟨i, j, rfl, ?_⟩
    rw [show (if j < i then j else i) = min i j by split <;> omega]
    exact fin_flat q (x1.trans x2) rfl rfl
theorem evo_intB {b : Bool} (ha : EvT ta ρ (.bool b)) : EvO (tCB (fun xs H Q => (∃ i, xs = [V.int i] ∧ Q (.int i) H) ∨ ∃ k, xs = [V.bl k] ∧ Q (.int (if k then 1 else 0)) H) (tCons ta tNil)) ρ (.d (.int (if b then 1 else 0))) := fun S0 H0 S H σ Q o q =>
  ha S0 H0 S H σ _ o fun v S1 H1 x1 h1 => by
    cases h1
    exact .inr ⟨b, rfl, fin_flat q x1 rfl rfl⟩

/-! ### kinds -/
def tyN : D → String
  | .none => "NoneType" | .bool _ => "bool" | .int _ => "int" | .str _ => "str" | .list _ => "list" | .tuple _ => "tuple" | .dict _ => "dict"
theorem rp_ty {H : Hp} {v : V} (h : Rp H v d) : TyX kf.K H v (.type (tyN d)) := by
  cases h with
  | non => exact .base .non
  | bl b => exact .base (.bl b)
  | int i => exact .base (.int i)
  | str x => exact .base (.str x)
  | lst r _ =>
    rcases r with (r | ⟨o, r⟩) | ⟨o, its, n, hk, hc, _⟩
    · exact .base (.lst r)
    · exact .base (.frz r)
    · exact .kList hk hc
  | tup r _ => exact .base (.tup r)
theorem evo_isi {T : String} {b : Bool} (ha : EvT ta ρ d) (h : kitB (tyN d) T = some b) : EvO (tCB (rIsi kf.K) (tCons ta (tCons (tC (.ty T)) tNil))) ρ (.d (.bool b)) := fun S0 H0 S H σ Q o q =>
  ha S0 H0 S H σ _ o fun v S1 H1 x1 h1 => ⟨v, .ty T, _, _, b, rfl, .ty T, rp_ty h1, kit_ty h, fin_flat q x1 rfl rfl⟩

/-! ### arguments, displays -/
theorem evl_nil : EvL tNil ρ [] := fun S0 H0 S H σ Q o q => q [] S H (.refl o.sh) .nil
theorem evl_cons {tr : TA} {xs : List D} (ha : EvO ta ρ (.d x)) (hr : EvL tr ρ xs) : EvL (tCons ta tr) ρ (x :: xs) := fun S0 H0 S H σ Q o q =>
  ha S0 H0 S H σ _ o fun v S1 H1 r A er x1 h1 _ _ => hr S0 H0 S1 H1 σ _ (o.ext x1) fun vs S2 H2 x2 h2 => by
    subst er
    cases h1 with
    | d h1 => exact q _ S2 H2 (x1.trans x2) (.cons (dp_mono x2.ss _ _ h1) h2)
theorem evlt_nil : EvLt tNil ρ [] := fun S0 H0 S H σ Q o q => q [] S H (.refl o.sh) .nil
theorem evlt_cons {tr : TA} {xs : List D} (ha : EvT ta ρ x) (hr : EvLt tr ρ xs) : EvLt (tCons ta tr) ρ (x :: xs) := fun S0 H0 S H σ Q o q =>
  ha S0 H0 S H σ _ o fun v S1 H1 x1 h1 => hr S0 H0 S1 H1 σ _ (o.ext x1) fun vs S2 H2 x2 h2 => q _ S2 H2 (x1.trans x2) (.cons (dp_mono x2.hh _ _ h1) h2)
theorem sz_of {n : Nat} (h : n ≤ 1000000) : n ≤ sizeLine := Nat.le_trans h (by decide)
theorem sz_lt {n : Nat} (h : n ≤ 1000000) : n < sizeLine := Nat.lt_of_le_of_lt h (by decide)
theorem evo_tup {tr : TA} {xs : List D} (h : EvL tr ρ xs) (hz : xs.length ≤ sizeLine) : EvO (tTup tr) ρ (.d (.tuple xs)) := fun S0 H0 S H σ Q o q =>
  h S0 H0 S H σ _ o fun vs S1 H1 x1 h1 => ⟨by rw [dpa_length h1]; exact hz, fun p hp =>
    q _ (upd S1 p (.tup vs)) _ _ [] rfl (x1.trans (.newS x1.sh hp)) (.d (.tup upd_same (dpa_mono (Xt.newS x1.sh hp).ss _ _ h1))) List.nodup_nil (fun a ha => by cases ha)⟩
theorem evt_tup {tr : TA} {xs : List D} (h : EvLt tr ρ xs) (hz : xs.length ≤ sizeLine) : EvT (tTup tr) ρ (.tuple xs) := fun S0 H0 S H σ Q o q =>
  h S0 H0 S H σ _ o fun vs S1 H1 x1 h1 => ⟨by rw [dpa_length h1]; exact hz, fun p hp =>
    q _ S1 _ (x1.trans (.new x1.sh hp)) (.tup upd_same (dpa_mono (Xt.new (o := .tup vs) x1.sh hp).hh _ _ h1))⟩
theorem evo_lst {tr : TA} {xs : List D} (h : EvL tr ρ xs) (hz : xs.length ≤ sizeLine) : EvO (tLst tr) ρ (.own xs) := fun S0 H0 S H σ Q o q =>
  h S0 H0 S H σ _ o fun vs S1 H1 x1 h1 => ⟨by rw [dpa_length h1]; exact hz, fun p hp =>
    q _ S1 _ _ [p] rfl (x1.trans (.new x1.sh hp)) (.own (x1.sh.free hp) upd_same h1) (by simp) (fun a ha => by rw [List.mem_singleton.mp ha]; exact x1.hh.free hp)⟩

/-! ### tests -/
theorem evb_test {b : Bool} (h : EvO te ρ (.d (.bool b))) : EvB (tTest te) ρ b := fun S0 H0 S H σ Q o q =>
  h S0 H0 S H σ _ o fun v S1 H1 r A er x1 h1 _ _ => by subst er; cases h1 with | d h1 => cases h1; exact ⟨b, rfl, q S1 H1 x1⟩
theorem evb_B {b : Bool} (h : EvO te ρ (.d (.bool b))) : EvB (tB te) ρ b := fun S0 H0 S H σ Q o q =>
  h S0 H0 S H σ _ o fun v S1 H1 r A er x1 h1 _ _ => by subst er; cases h1 with | d h1 => cases h1; exact ⟨b, rfl, q S1 H1 x1⟩
theorem evb_yes : EvB tYes ρ true := fun S0 H0 S H σ Q o q => q S H (.refl o.sh)
theorem evb_and {a b : Bool} (h1 : EvB t ρ a) (h2 : a = true → EvB u ρ b) : EvB (tAnd t u) ρ (a && b) := fun S0 H0 S H σ Q o q => h1 S0 H0 S H σ _ o fun S1 H1 x1 => by
  cases a with
  | true => exact iteT (h2 rfl S0 H0 S1 H1 σ _ (o.ext x1) fun S2 H2 x2 => q S2 H2 (x1.trans x2))
  | false => exact iteF (q S1 H1 x1)
theorem evb_or {a b : Bool} (h1 : EvB t ρ a) (h2 : a = false → EvB u ρ b) : EvB (tOr t u) ρ (a || b) := fun S0 H0 S H σ Q o q => h1 S0 H0 S H σ _ o fun S1 H1 x1 => by
  cases a with
  | true => exact iteT (q S1 H1 x1)
  | false => exact iteF (h2 rfl S0 H0 S1 H1 σ _ (o.ext x1) fun S2 H2 x2 => q S2 H2 (x1.trans x2))
theorem evb_not {a : Bool} (h1 : EvB t ρ a) : EvB (tNot t) ρ (!a) := fun S0 H0 S H σ Q o q => h1 S0 H0 S H σ _ o fun S1 H1 x1 => q S1 H1 x1
theorem evo_not {a : Bool} (h : EvO te ρ (.d (.bool a))) : EvO (tNotV te) ρ (.d (.bool (!a))) := fun S0 H0 S H σ Q o q =>
  h S0 H0 S H σ _ o fun v S1 H1 r A er x1 h1 _ _ => by subst er; cases h1 with | d h1 => cases h1; exact ⟨a, rfl, fin_flat q x1 rfl rfl⟩
theorem evo_and {a b : Bool} (h1 : EvO ta ρ (.d (.bool a))) (h2 : a = true → EvO tb ρ (.d (.bool b))) : EvO (tAndV ta tb) ρ (.d (.bool (a && b))) := fun S0 H0 S H σ Q o q =>
  h1 S0 H0 S H σ _ o fun v S1 H1 r A er x1 h1 _ _ => by
    subst er
    cases h1 with
    | d h1 =>
      cases h1
      refine ⟨a, rfl, ?_⟩
      cases a with
      | true => exact iteT (h2 rfl S0 H0 S1 H1 σ _ (o.ext x1) fun v S2 H2 r A er x2 h nd fr => q v S2 H2 r A er (x1.trans x2) h nd fun a ha => x1.hh.free (fr a ha))
      | false => exact iteF (fin_flat q x1 rfl rfl)
theorem evo_or {a b : Bool} (h1 : EvO ta ρ (.d (.bool a))) (h2 : a = false → EvO tb ρ (.d (.bool b))) : EvO (tOrV ta tb) ρ (.d (.bool (a || b))) := fun S0 H0 S H σ Q o q =>
  h1 S0 H0 S H σ _ o fun v S1 H1 r A er x1 h1 _ _ => by
    subst er
    cases h1 with
    | d h1 =>
      cases h1
      refine ⟨a, rfl, ?_⟩
      cases a with
      | true => exact iteT (fin_flat q x1 rfl rfl)
      | false => exact iteF (h2 rfl S0 H0 S1 H1 σ _ (o.ext x1) fun v S2 H2 r A er x2 h nd fr => q v S2 H2 r A er (x1.trans x2) h nd fun a ha => x1.hh.free (fr a ha))
theorem evp_if {b : Bool} (h : EvB t ρ b) (h1 : b = true → EvP ta ρ P) (h2 : b = false → EvP tb ρ P) : EvP (tIf t ta tb) ρ P := fun S0 H0 S H σ Q o q => h S0 H0 S H σ _ o fun S1 H1 x1 => by
  cases b with
  | true => exact iteT (h1 rfl S0 H0 S1 H1 σ _ (o.ext x1) fun v S2 H2 r A p x2 h nd fr => q v S2 H2 r A p (x1.trans x2) h nd fun a ha => x1.hh.free (fr a ha))
  | false => exact iteF (h2 rfl S0 H0 S1 H1 σ _ (o.ext x1) fun v S2 H2 r A p x2 h nd fr => q v S2 H2 r A p (x1.trans x2) h nd fun a ha => x1.hh.free (fr a ha))
theorem evb_truL {ds : List D} (ha : EvT ta ρ (.list ds)) : EvB (fun σ H Q => ta σ H fun x H' => ∃ k, TruV kf.K x H' k ∧ Q k H') ρ (!ds.isEmpty) := fun S0 H0 S H σ Q o q =>
  ha S0 H0 S H σ _ o fun v S1 H1 x1 h1 => by
    cases h1 with
    | @lst a xs _ r1 r2 =>
      refine ⟨_, .inl ⟨xs, r1, rfl⟩, ?_⟩
      have e : xs.isEmpty = ds.isEmpty := by
        have l := dpa_length r2
        cases xs <;> cases ds <;> simp at l ⊢
      rw [e]
      exact q S1 H1 x1

/-! ### calls -/
def spF (n : Nat) (pre : List D → Prop) (post : List D → Sl → Prop) : Sp := fun vs H Q _ => ∃ S ds, ds.length = n ∧ Same S H ∧ RpAll S vs ds ∧ pre ds ∧
  ∀ r v H' S' A, post ds r → Xt S H S' H' → SlOk S' H' (some v) r A → A.Nodup → (∀ a ∈ A, H a = none) → Q v H'
theorem spF_len {n : Nat} {pre : List D → Prop} {post : List D → Sl → Prop} {ps : List Str} (e : ps.length = n) : ∀ vs H Q E, spF n pre post vs H Q E → vs.length = ps.length := fun vs H Q E h => by
  obtain ⟨S, ds, h1, _, h2, _⟩ := h
  rw [e, ← h1]
  exact dpa_length h2
theorem evp_call {n : Nat} {pre : List D → Prop} {post : List D → Sl → Prop} {E : XK} {tr : TA} {ds : List D} (h : EvL tr ρ ds) (hn : ds.length = n) (hp : pre ds) : EvP (tCall (spF n pre post) [] E tr) ρ (post ds) := fun S0 H0 S H σ Q o q =>
  h S0 H0 S H σ _ o fun vs S1 H1 x1 h1 => by
    rw [List.append_nil]
    exact ⟨S1, ds, hn, x1.sh, h1, hp, fun r v H' S' A p x2 hs nd fr => q v S' H' r A p (x1.trans x2) hs nd fun a ha => x1.hh.free (fr a ha)⟩
theorem evo_call {n : Nat} {pre : List D → Prop} {post : List D → Sl → Prop} {E : XK} {tr : TA} {ds : List D} (h : EvL tr ρ ds) (hn : ds.length = n) (hp : pre ds) (hr : ∀ r', post ds r' → r' = r) : EvO (tCall (spF n pre post) [] E tr) ρ r :=
  evp_mono (evp_call h hn hp) hr
/-- all leaves flat -/
def Sl.flat : Sl → Prop
  | .no => False
  | .d x => PL.flat x = true
  | .own xs => ∀ x ∈ xs, PL.flat x = true
  | .own2 xss => ∀ xs ∈ xss, ∀ x ∈ xs, PL.flat x = true
  | .dct _ => True
theorem own2_flat {S S' H : Hp} {bs : List Addr} {xss : List (List D)} (h : Own2 S H bs xss) (f : ∀ xs ∈ xss, ∀ x ∈ xs, PL.flat x = true) (hs : ∀ b ∈ bs, S' b = none) : Own2 S' H bs xss := by
  induction h with
  | nil => exact .nil
  | cons h1 h2 h3 _ ih => exact .cons (hs _ List.mem_cons_self) h2 (dpa_flat (f _ List.mem_cons_self) h3) (ih (fun xs hx => f xs (List.mem_cons_of_mem _ hx)) fun b hb => hs b (List.mem_cons_of_mem _ hb))
theorem SlOk.flat {S S' H : Hp} {v : V} {A : List Addr} (h : SlOk S H (some v) r A) (f : r.flat) (hs : ∀ a ∈ A, S' a = none) : SlOk S' H (some v) r A := by
  cases h with
  | no => exact f.elim
  | d h => exact .d (dp_flat f h)
  | own h1 h2 h3 => exact .own (hs _ List.mem_cons_self) h2 (dpa_flat f h3)
  | own2 h1 h2 h3 => exact .own2 (hs _ List.mem_cons_self) h2 (own2_flat h3 f fun b hb => hs b (List.mem_cons_of_mem _ hb))
  | dct h1 h2 => exact .dct (hs _ List.mem_cons_self) h2
theorem evp_callT {n : Nat} {pre : List D → Prop} {post : List D → Sl → Prop} {E : XK} {tr : TA} {ds : List D} (h : EvLt tr ρ ds) (hn : ds.length = n) (hp : pre ds) (hf : ∀ r, post ds r → r.flat) : EvP (tCall (spF n pre post) [] E tr) ρ (post ds) := fun S0 H0 S H σ Q o q =>
  h S0 H0 S H σ _ o fun vs S1 H1 x1 h1 => by
    rw [List.append_nil]
    refine ⟨H1, ds, hn, Same.refl H1, h1, hp, fun r v H' S' A p x2 hs nd fr => q v S1 H' r A p (x1.trans ⟨x2.hh, Same.refl S1, x1.sh.trans x2.hh, fun _ _ e => .inl e⟩) (hs.flat (hf r p) fun a ha => x1.sh.free (fr a ha)) nd fun a ha => x1.hh.free (fr a ha)⟩
theorem evo_callT {n : Nat} {pre : List D → Prop} {post : List D → Sl → Prop} {E : XK} {tr : TA} {ds : List D} (h : EvLt tr ρ ds) (hn : ds.length = n) (hp : pre ds) (hr : ∀ r', post ds r' → r' = r) (hf : r.flat) : EvO (tCall (spF n pre post) [] E tr) ρ r :=
  evp_mono (evp_callT h hn hp fun r' p => by rw [hr r' p]; exact hf) hr
end
end PL

namespace PL
open PySem L2
variable [kf : KF]

/-! ### statements -/
structure DE where
  nx : List Sl → Prop
  rt : Sl → Prop
  bk : List Sl → Prop := fun _ => False
  ct : List Sl → Prop := fun _ => False
def Run (t : TS) (Dn : DE) (ρ : List Sl) : Prop := ∀ (S0 H0 S H : Hp) (σ : Sg) (E : Ends), Ok S0 H0 S H σ ρ →
  (∀ S' H' σ' ρ', Same S S' → Ok S0 H0 S' H' σ' ρ' → Dn.nx ρ' → E.nx σ' H') →
  (∀ v S' H' r A, Xt S0 H0 S' H' → SlOk S' H' (some v) r A → A.Nodup → (∀ a ∈ A, H0 a = none) → Dn.rt r → E.rt v H') →
  (∀ S' H' σ' ρ', Same S S' → Ok S0 H0 S' H' σ' ρ' → Dn.bk ρ' → E.bk σ' H') →
  (∀ S' H' σ' ρ', Same S S' → Ok S0 H0 S' H' σ' ρ' → Dn.ct ρ' → E.ct σ' H') → t E σ H

section
variable {ρ : List Sl} {ta tb tc te : TE} {c : TT} {t u : TS} {d x y : D} {r : Sl} {Dn : DE}

theorem run_seq (h : Run t { Dn with nx := Run u Dn } ρ) : Run (tSeq t u) Dn ρ := fun S0 H0 S H σ E o q1 q2 q3 q4 =>
  h S0 H0 S H σ { E with nx := u E } o (fun S' H' σ' ρ' ss o' n => n S0 H0 S' H' σ' E o' (fun S2 H2 σ2 ρ2 s2 => q1 S2 H2 σ2 ρ2 (ss.trans s2)) q2 (fun S2 H2 σ2 ρ2 s2 => q3 S2 H2 σ2 ρ2 (ss.trans s2)) fun S2 H2 σ2 ρ2 s2 => q4 S2 H2 σ2 ρ2 (ss.trans s2)) q2 q3 q4
theorem run_next (h : Dn.nx ρ) : Run tNext Dn ρ := fun S0 H0 S H σ E o q1 q2 q3 q4 => q1 S H σ ρ (Same.refl S) o h
theorem run_break (h : Dn.bk ρ) : Run tBreak Dn ρ := fun S0 H0 S H σ E o q1 q2 q3 q4 => q3 S H σ ρ (Same.refl S) o h
theorem run_cont (h : Dn.ct ρ) : Run tCont Dn ρ := fun S0 H0 S H σ E o q1 q2 q3 q4 => q4 S H σ ρ (Same.refl S) o h
theorem run_asgP {i : Nat} {P : Sl → Prop} (h : EvP te ρ P) (k : ∀ r, P r → Dn.nx (ρ.set i r)) : Run (tAsg te (gName i)) Dn ρ := fun S0 H0 S H σ E o q1 q2 q3 q4 =>
  h S0 H0 S H σ _ o fun v S' H' r A p xt hs nd fr => q1 S' H' _ _ xt.ss (o.set xt hs nd fr i) (k r p)
theorem run_asg {i : Nat} (h : EvO te ρ r) (k : Dn.nx (ρ.set i r)) : Run (tAsg te (gName i)) Dn ρ := run_asgP h fun r' e => by rw [e]; exact k
theorem run_if {b : Bool} (h : EvB c ρ b) (h1 : b = true → Run t Dn ρ) (h2 : b = false → Run u Dn ρ) : Run (tIfS c t u) Dn ρ := fun S0 H0 S H σ E o q1 q2 q3 q4 =>
  h S0 H0 S H σ _ o fun S1 H1 x1 => by
    cases b with
    | true => exact iteT (h1 rfl S0 H0 S1 H1 σ E (o.ext x1) (fun S2 H2 σ2 ρ2 s2 => q1 S2 H2 σ2 ρ2 (x1.ss.trans s2)) q2 (fun S2 H2 σ2 ρ2 s2 => q3 S2 H2 σ2 ρ2 (x1.ss.trans s2)) fun S2 H2 σ2 ρ2 s2 => q4 S2 H2 σ2 ρ2 (x1.ss.trans s2))
    | false => exact iteF (h2 rfl S0 H0 S1 H1 σ E (o.ext x1) (fun S2 H2 σ2 ρ2 s2 => q1 S2 H2 σ2 ρ2 (x1.ss.trans s2)) q2 (fun S2 H2 σ2 ρ2 s2 => q3 S2 H2 σ2 ρ2 (x1.ss.trans s2)) fun S2 H2 σ2 ρ2 s2 => q4 S2 H2 σ2 ρ2 (x1.ss.trans s2))
theorem run_retP {P : Sl → Prop} (h : EvP te ρ P) (k : ∀ r, P r → Dn.rt r) : Run (tRet te) Dn ρ := fun S0 H0 S H σ E o q1 q2 q3 q4 =>
  h S0 H0 S H σ _ o fun v S' H' r A p xt hs nd fr => q2 v S' H' r A (o.xt.trans xt) hs nd (fun a ha => o.xt.hh.free (fr a ha)) (k r p)
theorem run_ret (h : EvO te ρ r) (k : Dn.rt r) : Run (tRet te) Dn ρ := run_retP h fun r' e => by rw [e]; exact k
theorem run_retV {i : Nat} (h : ρ[i]? = some r) (hn : r ≠ .no) (k : Dn.rt r) : Run (tRet (tVar i)) Dn ρ := fun S0 H0 S H σ E o q1 q2 q3 q4 => by
  obtain ⟨A, he, nd, fr⟩ := o.env
  obtain ⟨v, A', e1, e2, e3, e4, _⟩ := he.pick nd h
  cases v with
  | none => cases e2; exact (hn rfl).elim
  | some v => exact ⟨v, e1, q2 v S H r A' o.xt e2 e3 (fun a ha => fr a (e4 a ha)) k⟩
theorem run_retN (k : Dn.rt (.d .none)) : Run tRetN Dn ρ := fun S0 H0 S H σ E o q1 q2 q3 q4 =>
  q2 .non S H _ [] o.xt (.d .non) List.nodup_nil (fun a ha => by cases ha) k
theorem run_drop {P : Sl → Prop} (h : EvP te ρ P) (k : Dn.nx ρ) : Run (tDrop te) Dn ρ := fun S0 H0 S H σ E o q1 q2 q3 q4 =>
  h S0 H0 S H σ _ o fun v S' H' r A p xt hs nd fr => q1 S' H' σ ρ xt.ss (o.ext xt) k
/-- a ghost step: another reading of the same slots -/
theorem run_ghost {ρ' : List Sl} (h : ∀ S0 H0 S H σ, Ok S0 H0 S H σ ρ → ∃ S', Same S S' ∧ Ok S0 H0 S' H σ ρ') (k : Run t Dn ρ') : Run t Dn ρ := fun S0 H0 S H σ E o q1 q2 q3 q4 => by
  obtain ⟨S', ss, o'⟩ := h S0 H0 S H σ o
  exact k S0 H0 S' H σ E o' (fun S2 H2 σ2 ρ2 s2 => q1 S2 H2 σ2 ρ2 (ss.trans s2)) q2 (fun S2 H2 σ2 ρ2 s2 => q3 S2 H2 σ2 ρ2 (ss.trans s2)) fun S2 H2 σ2 ρ2 s2 => q4 S2 H2 σ2 ρ2 (ss.trans s2)
theorem set_self {α : Type} {xs : List α} {i : Nat} {v : α} (h : xs[i]? = some v) : xs.set i v = xs := by
  apply List.ext_getElem?
  intro j
  by_cases e : i = j
  · subst e
    rw [List.getElem?_set_self (by have := List.getElem?_eq_some_iff.mp h; exact this.1), h]
  · rw [List.getElem?_set_ne e]
/-- an owned list is frozen -/
theorem ok_freeze {i : Nat} (h : ρ[i]? = some r) (e : r.toD = some x) : ∀ S0 H0 S H σ, Ok S0 H0 S H σ ρ → ∃ S', Same S S' ∧ Ok S0 H0 S' H σ (ρ.set i (.d x)) := fun S0 H0 S H σ o => by
  obtain ⟨B, he, nd, fr⟩ := o.env
  obtain ⟨v, A, e1, e2, e3, e4, e5⟩ := he.pick nd h
  cases v with
  | none => cases e2; cases e
  | some v =>
    obtain ⟨B', q1, q2, q3⟩ := e5 (S' := fz S H A) (H' := H) (v' := some v) (s' := .d x) (A' := []) (fz_same o.sh) (fun a ha na => ⟨(fz_out na).trans (he.at a ha).1, rfl⟩) (.d (fz_rp o.sh e2 e)) List.nodup_nil (fun a ha => by cases ha)
    rw [set_self e1] at q1
    refine ⟨fz S H A, fz_same o.sh, ⟨o.xt.hh, o.xt.ss.trans (fz_same o.sh), fz_sub o.sh, fun b u eb => ?_⟩, B', q1, q2, fun a ha => ?_⟩
    · by_cases hb : b ∈ A
      · exact .inr fun w hw => by rw [fr b (e4 b hb)] at hw; cases hw
      · rw [fz_out hb] at eb; exact o.xt.nw b u eb
    · rcases q3 a ha with z | z
      · cases z
      · exact fr a z
theorem run_freeze (i : Nat) (h : ρ[i]? = some r) (e : r.toD = some x) (k : Run t Dn (ρ.set i (.d x))) : Run t Dn ρ := run_ghost (ok_freeze h e) k
/-- a slot changed in place -/
theorem ok_write {i : Nat} {S0 H0 S H S' H' : Hp} {σ : Sg} {s' : Sl} {v : Option V} {B : List Addr} (o : Ok S0 H0 S H σ ρ)
    (x : Xt S0 H0 S' H') (e1 : σ[i]? = some v) (b : EnvOk S' H' (σ.set i v) (ρ.set i s') B) (nd : B.Nodup) (fr : ∀ a ∈ B, H0 a = none) : Ok S0 H0 S' H' σ (ρ.set i s') := by
  rw [set_self e1] at b
  exact ⟨x, B, b, nd, fr⟩
theorem upd_same' {S H : Hp} {a : Addr} {o : HO} (sh : Same S H) (n : S a = none) : Same S (upd H a o) := fun b u e => by
  rw [upd_ne (ne_of_none e n)]; exact sh b u e
/-- an owned list changed: at slot i stands xs; what is written is ys -/
theorem ok_set {i : Nat} {S0 H0 S H : Hp} {σ : Sg} {xs : List D} (o : Ok S0 H0 S H σ ρ) (h : ρ[i]? = some (.own xs)) :
    ∃ a vs, σ[i]? = some (some (.ref a)) ∧ H a = some (.lst vs) ∧ S a = none ∧ RpAll S vs xs ∧ ∀ {S' H' : Hp} {ws : List V} {ys : List D}, Xt S H S' H' → RpAll S' ws ys → Ok S0 H0 S' (upd H' a (.lst ws)) σ (ρ.set i (.own ys)) := by
  obtain ⟨B, he, nd, fr⟩ := o.env
  obtain ⟨v, A, e1, e2, e3, e4, e5⟩ := he.pick nd h
  cases e2 with
  | @own a vs _ h1 h2 h3 =>
    refine ⟨a, vs, e1, h2, h1, h3, fun {S' H' ws ys} xt hr => ?_⟩
    have hb : a ∈ B := e4 a List.mem_cons_self
    have sa : S' a = none := xt.out h1 h2 fun _ z => by cases z
    obtain ⟨B', q1, q2, q3⟩ := e5 (S' := S') (H' := upd H' a (.lst ws)) (v' := some (.ref a)) (s' := .own ys) (A' := [a]) xt.ss (fun b hbB nb => by
      have ne : b ≠ a := fun z => nb (by rw [z]; exact List.mem_cons_self)
      obtain ⟨g1, w, g2, g3⟩ := he.at b hbB
      refine ⟨xt.out g1 g2 g3, ?_⟩
      rw [upd_ne ne, g2]
      exact xt.hh b w g2) (.own sa upd_same hr) (by simp) (fun b hb' => .inl hb')
    have x0 := o.xt.trans xt
    refine ok_write o ⟨fun b u e => ?_, x0.ss, upd_same' x0.sh sa, x0.nw⟩ e1 q1 q2 fun b hb' => ?_
    · rw [upd_ne (ne_of_none e (fr a hb))]; exact x0.hh b u e
    · rcases q3 b hb' with z | z
      · rw [List.mem_singleton.mp z]; exact fr a hb
      · exact fr b z
theorem run_append {i : Nat} {xs : List D} (h : ρ[i]? = some (.own xs)) (he : EvO te ρ (.d x)) (hz : xs.length ≤ 1000000) (k : Dn.nx (ρ.set i (.own (xs ++ [x])))) :
    Run (tDrop (tBM kf.K "list" rAppend (tVar i) (tCons te tNil))) Dn ρ := fun S0 H0 S H σ E o q1 q2 q3 q4 => by
  obtain ⟨a, vs, e1, e2, e3, e4, e5⟩ := ok_set o h
  refine ⟨_, e1, .inl ⟨rfl, _, .inl (.inl e2)⟩, ?_⟩
  refine he S0 H0 S H σ _ o fun v S1 H1 r A er x1 h1 _ _ => ?_
  subst er
  cases h1 with
  | d h1 =>
    refine ⟨a, vs, v, rfl, rfl, x1.hh _ _ e2, sz_lt (by rw [dpa_length e4]; exact hz), ?_⟩
    exact q1 S1 _ σ _ x1.ss (e5 x1 (dpa_append (dpa_mono x1.ss _ _ e4) (.cons h1 .nil))) k
theorem run_setitem {i : Nat} {j : Nat} {xs : List D} (h : ρ[i]? = some (.own xs)) (he : EvO te ρ (.d x)) (hj : EvT tb ρ (.int (j : Int))) (hl : j < xs.length) (k : Dn.nx (ρ.set i (.own (xs.set j x)))) :
    Run (tAsg te (gSub (tVar i) tb rSetL)) Dn ρ := fun S0 H0 S H σ E o q1 q2 q3 q4 => by
  obtain ⟨a, vs, e1, e2, e3, e4, e5⟩ := ok_set o h
  refine he S0 H0 S H σ _ o fun v S1 H1 r A er x1 h1 _ _ => ?_
  subst er
  cases h1 with
  | d h1 =>
    refine ⟨_, e1, hj S0 H0 S1 H1 σ _ (o.ext x1) fun w S2 H2 x2 h2 => ?_⟩
    cases h2
    have hl' : j < vs.length := by rw [dpa_length e4]; exact hl
    have hx : ixN vs.length (j : Int) = some j := by
      unfold ixN
      simp [hl']
    refine ⟨a, vs, (j : Int), j, rfl, rfl, x2.hh _ _ (x1.hh _ _ e2), hx, ?_⟩
    exact q1 S2 _ σ _ (x1.ss.trans x2.ss) (e5 (x1.trans x2) (dpa_set (dp_mono x2.ss _ _ h1) j (dpa_mono (x1.trans x2).ss _ _ e4))) k
/-! ### targets -/
/-- data x stored to the target: the slots become ρ', those not at js are as they were -/
def TgD (g : TG) (x : D) (ρ ρ' : List Sl) (js : List Nat) : Prop := ∀ (S0 H0 S H : Hp) (σ : Sg) (Q : Sg → Hp → Prop) (v : V), Ok S0 H0 S H σ ρ → Rp S v x →
  (∀ σ', Ok S0 H0 S H σ' ρ' → σ'.length = σ.length → (∀ k, k ∉ js → σ'[k]? = σ[k]?) → Q σ' H) → g v σ H Q
theorem tg_name {i : Nat} : TgD (gName i) x ρ (ρ.set i (.d x)) [i] := fun S0 H0 S H σ Q v o hv q =>
  q _ (o.set (.refl o.sh) (.d hv) List.nodup_nil (fun a ha => by cases ha) i) (by rw [List.length_set]) fun k hk => by rw [List.getElem?_set_ne (fun z => hk (by rw [z]; exact List.mem_cons_self))]
def TgDs (g : TGs) (xs : List D) (ρ ρ' : List Sl) (js : List Nat) : Prop := ∀ (S0 H0 S H : Hp) (σ : Sg) (Q : Sg → Hp → Prop) (vs : List V), Ok S0 H0 S H σ ρ → RpAll S vs xs →
  (∀ σ', Ok S0 H0 S H σ' ρ' → σ'.length = σ.length → (∀ k, k ∉ js → σ'[k]? = σ[k]?) → Q σ' H) → g vs σ H Q
theorem tgs_nil : TgDs gNil [] ρ ρ [] := fun S0 H0 S H σ Q vs o hv q => by
  cases hv
  exact ⟨rfl, q σ o rfl fun _ _ => rfl⟩
theorem tgs_cons {g : TG} {gs : TGs} {xs : List D} {ρ1 ρ2 : List Sl} {js ks : List Nat} (h1 : TgD g x ρ ρ1 js) (h2 : TgDs gs xs ρ1 ρ2 ks) : TgDs (gCons g gs) (x :: xs) ρ ρ2 (js ++ ks) := fun S0 H0 S H σ Q vs o hv q => by
  cases hv with
  | cons hv ht =>
    refine ⟨_, _, rfl, h1 S0 H0 S H σ _ _ o hv fun σ1 o1 l1 k1 => h2 S0 H0 S H σ1 _ _ o1 ht fun σ2 o2 l2 k2 => q σ2 o2 (l2.trans l1) fun k hk => ?_⟩
    rw [k2 k (fun z => hk (List.mem_append_right _ z)), k1 k (fun z => hk (List.mem_append_left _ z))]
theorem tg_tup {gs : TGs} {xs : List D} {ρ' : List Sl} {js : List Nat} {n : Nat} (h : TgDs gs xs ρ ρ' js) (hn : xs.length = n) : TgD (gTup kf.K n gs) (.tuple xs) ρ ρ' js := fun S0 H0 S H σ Q v o hv q => by
  cases hv with
  | tup r1 r2 => exact ⟨_, _, rfl, .inl (.of (o.sh _ _ r1)), (dpa_length r2).trans hn, h S0 H0 S H σ Q _ o r2 q⟩
theorem tg_two {i j : Nat} {x y : D} : TgD (gTup kf.K 2 (gCons (gName i) (gCons (gName j) gNil))) (.tuple [x, y]) ρ ((ρ.set i (.d x)).set j (.d y)) ([i] ++ ([j] ++ [])) := tg_tup (tgs_cons tg_name (tgs_cons tg_name tgs_nil)) rfl
/-- a, b = e -/
theorem run_asgT {g : TG} {ρ' : List Sl} {js : List Nat} (h : EvO te ρ (.d x)) (ht : TgD g x ρ ρ' js) (k : Dn.nx ρ') : Run (tAsg te g) Dn ρ := fun S0 H0 S H σ E o q1 q2 q3 q4 =>
  h S0 H0 S H σ _ o fun v S' H' r A er xt hs _ _ => by
    subst er
    cases hs with
    | d hs => exact ht S0 H0 S' H' σ _ v (o.ext xt) hs fun σ' o' _ _ => q1 S' H' σ' ρ' xt.ss o' k

/-! ### what is walked -/
def JD (S : Hp) (J : It) (ds : List D) : Prop := ∀ S1 H1, Same S S1 → Same S1 H1 → J.stop ds.length H1 ∧ ∀ i x, ds[i]? = some x → J.go i H1 ∧ ∀ v H2, J.yld i H1 v H2 → ∃ S2, Xt S1 H1 S2 H2 ∧ Rp S2 v x
def IterD (wi : TI) (ρ : List Sl) (ds : List D) : Prop := ∀ (S0 H0 S H : Hp) (σ : Sg) (R : It → Hp → Prop), Ok S0 H0 S H σ ρ → (∀ J S' H', Xt S H S' H' → JD S' J ds → R J H') → wi σ H R
theorem jd_list {S : Hp} {a : Addr} {vs : List V} {ds : List D} (h : SqL kf.K S a vs) (hr : RpAll S vs ds) : JD S (Itl kf.K a) ds := fun S1 H1 s1 sh => by
  have h1 : SqL kf.K H1 a vs := (s1.trans sh).seq h
  refine ⟨⟨vs, h1, by rw [dpa_length hr]; exact Nat.le_refl _⟩, fun i x e => ?_⟩
  obtain ⟨v, e1, e2⟩ := dpa_get hr e
  refine ⟨⟨vs, v, h1, e1⟩, fun w H2 y => ?_⟩
  obtain ⟨rfl, y⟩ := y
  have : some w = some v := (y vs h1).symm.trans e1
  cases this
  exact ⟨S1, .refl sh, dp_mono s1 _ _ e2⟩
theorem it_list {ds : List D} (h : EvO te ρ (.d (.list ds))) : IterD (iList kf.K te) ρ ds := fun S0 H0 S H σ R o q =>
  h S0 H0 S H σ _ o fun v S' H' r A er xt hs _ _ => by
    subst er
    cases hs with
    | d hs =>
      cases hs with
      | lst r1 r2 => exact ⟨_, rfl, ⟨_, xt.sh.seq r1⟩, q _ S' H' xt (jd_list r1 r2)⟩
theorem jd_range {S : Hp} {lo : Int} {n : Nat} : JD S (Itr lo n) ((List.range n).map fun (i : Nat) => PyData.int (lo + (i : Int))) := fun S1 H1 s1 sh => by
  refine ⟨by show n ≤ _; simp, fun i x e => ?_⟩
  rw [List.getElem?_map] at e
  have hi : i < n := by
    cases q : (List.range n)[i]? with
    | none => rw [q] at e; cases e
    | some j => have := (List.getElem?_eq_some_iff.mp q).1; simpa using this
  rw [List.getElem?_range hi] at e
  cases e
  refine ⟨hi, fun v H2 y => ?_⟩
  obtain ⟨rfl, rfl⟩ := y
  exact ⟨S1, .refl sh, .int _⟩
theorem it_range1 {n : Int} (h : EvT te ρ (.int n)) (hn : n < 2 ^ 62) (hn0 : -(2 ^ 62) ≤ n) : IterD (iRng1 (tCons te tNil)) ρ ((List.range n.toNat).map fun (i : Nat) => PyData.int (0 + (i : Int))) := fun S0 H0 S H σ R o q =>
  h S0 H0 S H σ _ o fun v S' H' xt hs => by
    cases hs
    exact ⟨n, rfl, hn0, hn, q _ S' H' xt jd_range⟩
theorem it_range2 {m n : Int} (h : EvT ta ρ (.int m)) (h' : EvT tb ρ (.int n)) (hb : -(2 ^ 62) ≤ m ∧ m < 2 ^ 62 ∧ -(2 ^ 62) ≤ n ∧ n < 2 ^ 62) : IterD (iRng2 (tCons ta (tCons tb tNil))) ρ ((List.range (n - m).toNat).map fun (i : Nat) => PyData.int (m + (i : Int))) := fun S0 H0 S H σ R o q =>
  h S0 H0 S H σ _ o fun v S1 H1 x1 h1 => h' S0 H0 S1 H1 σ _ (o.ext x1) fun u S2 H2 x2 h2 => by
    cases h1; cases h2
    exact ⟨m, n, rfl, hb, q _ S2 H2 (x1.trans x2) jd_range⟩
theorem it_enum {ds : List D} (h : EvO te ρ (.d (.list ds))) : IterD (iEnum kf.K (tCons te tNil)) ρ (ds.zipIdx.map fun p => PyData.tuple [.int (p.2 : Nat), p.1]) := fun S0 H0 S H σ R o q =>
  h S0 H0 S H σ _ o fun v S' H' r A er xt hs _ _ => by
    subst er
    cases hs with
    | d hs =>
      cases hs with
      | @lst a vs _ r1 r2 =>
        refine ⟨a, vs, rfl, xt.sh.seq r1, q _ S' H' xt fun S1 H1 s1 sh => ?_⟩
        have h1 : SqL kf.K H1 a vs := (s1.trans sh).seq r1
        refine ⟨⟨vs, h1, by rw [dpa_length r2]; simp⟩, fun i x e => ?_⟩
        rw [List.getElem?_map, List.getElem?_zipIdx] at e
        cases qd : ds[i]? with
        | none => rw [qd] at e; cases e
        | some d =>
          rw [qd] at e
          simp at e
          subst e
          obtain ⟨v, e1, e2⟩ := dpa_get r2 qd
          refine ⟨⟨vs, v, h1, e1⟩, fun w H2 y => ?_⟩
          obtain ⟨T, x, rfl, nT, rfl, y⟩ := y
          have : some x = some v := (y vs h1).symm.trans e1
          cases this
          have xn := Xt.newS (o := .tup [.int (i : Nat), v]) sh nT
          exact ⟨_, xn, .tup upd_same (.cons (.int _) (.cons (dp_mono (s1.trans xn.ss) _ _ e2) .nil))⟩
theorem it_zip {ds es : List D} (h : EvO ta ρ (.d (.list ds))) (h' : EvO tb ρ (.d (.list es))) : IterD (iZip kf.K (tCons ta (tCons tb tNil))) ρ ((ds.zip es).map fun p => PyData.tuple [p.1, p.2]) := fun S0 H0 S H σ R o q =>
  h S0 H0 S H σ _ o fun v S1 H1 r A er x1 hs _ _ => h' S0 H0 S1 H1 σ _ (o.ext x1) fun u S2 H2 r' A' er' x2 hs' _ _ => by
    subst er; subst er'
    cases hs with
    | d hs =>
      cases hs' with
      | d hs' =>
        cases hs with
        | @lst a vs _ r1 r2 =>
          cases hs' with
          | @lst b ws _ p1 p2 =>
            refine ⟨a, b, vs, ws, rfl, (x2.ss.trans x2.sh).seq r1, x2.sh.seq p1, q _ S2 H2 (x1.trans x2) fun S3 H3 s3 sh => ?_⟩
            have h1 : SqL kf.K H3 a vs := (x2.ss.trans (s3.trans sh)).seq r1
            have h2 : SqL kf.K H3 b ws := (s3.trans sh).seq p1
            refine ⟨⟨vs, ws, h1, h2, by rw [dpa_length r2, dpa_length p2]; simp; omega⟩, fun i x e => ?_⟩
            rw [List.getElem?_map] at e
            cases qd : (ds.zip es)[i]? with
            | none => rw [qd] at e; cases e
            | some d =>
              rw [qd] at e
              simp at e
              subst e
              rw [List.getElem?_zip_eq_some] at qd
              obtain ⟨v, e1, e2⟩ := dpa_get r2 qd.1
              obtain ⟨w, g1, g2⟩ := dpa_get p2 qd.2
              refine ⟨⟨vs, ws, v, w, h1, h2, e1, g1⟩, fun z H4 y => ?_⟩
              obtain ⟨T, x, x', rfl, nT, rfl, y, y'⟩ := y
              have : some x = some v := (y vs h1).symm.trans e1
              cases this
              have : some x' = some w := (y' ws h2).symm.trans g1
              cases this
              have xn := Xt.newS (o := .tup [v, w]) sh nT
              exact ⟨_, xn, .tup upd_same (.cons (dp_mono (x2.ss.trans (s3.trans xn.ss)) _ _ e2) (.cons (dp_mono (s3.trans xn.ss) _ _ g2) .nil))⟩

/-- .. as long as the heap only grows -/
def JT (S H : Hp) (J : It) (ds : List D) : Prop := ∀ S1 H1, Xt S H S1 H1 → J.stop ds.length H1 ∧ ∀ i x, ds[i]? = some x → J.go i H1 ∧ ∀ v H2, J.yld i H1 v H2 → ∃ S2, Xt S1 H1 S2 H2 ∧ Rp S2 v x
def IterT (wi : TI) (ρ : List Sl) (ds : List D) : Prop := ∀ (S0 H0 S H : Hp) (σ : Sg) (R : It → Hp → Prop), Ok S0 H0 S H σ ρ → (∀ J S' H', Xt S H S' H' → JT S' H' J ds → R J H') → wi σ H R
theorem it_t {wi : TI} {ds : List D} (h : IterD wi ρ ds) : IterT wi ρ ds := fun S0 H0 S H σ R o q => h S0 H0 S H σ R o fun J S' H' xt j => q J S' H' xt fun S1 H1 x1 => j S1 H1 x1.ss x1.sh
theorem it_listE {ds : List D} (h : EvE te ρ ds) : IterT (iList kf.K te) ρ ds := fun S0 H0 S H σ R o q =>
  h S0 H0 S H σ _ o fun a vs S' H' xt r1 r2 => ⟨a, rfl, ⟨vs, r1⟩, q _ S' H' xt fun S1 H1 x1 => by
    have h1 : SqL kf.K H1 a vs := x1.hh.seq r1
    refine ⟨⟨vs, h1, by rw [dpa_length r2]; exact Nat.le_refl _⟩, fun i x e => ?_⟩
    obtain ⟨v, e1, e2⟩ := dpa_get r2 e
    refine ⟨⟨vs, v, h1, e1⟩, fun w H2 y => ?_⟩
    obtain ⟨rfl, y⟩ := y
    have : some w = some v := (y vs h1).symm.trans e1
    cases this
    exact ⟨S1, .refl x1.sh, dp_mono x1.ss _ _ e2⟩⟩
/-! ### loops -/
theorem run_for {wi : TI} {g : TG} {ds : List D} (hi : IterD wi ρ ds) (I : Nat → List Sl → Prop) (h0 : I 0 ρ)
    (hs : ∀ i x ρ', ds[i]? = some x → I i ρ' → ∃ ρ2 js, TgD g x ρ' ρ2 js ∧ Run t { nx := I (i + 1), ct := I (i + 1), bk := Dn.nx, rt := Dn.rt } ρ2) (hd : ∀ ρ', I ds.length ρ' → Dn.nx ρ') : Run (tFor wi g t) Dn ρ := fun S0 H0 S H σ E o q1 q2 q3 q4 =>
  hi S0 H0 S H σ _ o fun J S1 H1 x1 hJ => by
    refine ⟨fun i m σ' H' => m = ds.length - i ∧ i ≤ ds.length ∧ ∃ S' ρ', Same S1 S' ∧ Ok S0 H0 S' H' σ' ρ' ∧ I i ρ', ⟨_, rfl, Nat.zero_le _, S1, ρ, Same.refl _, o.ext x1, h0⟩, ?_⟩
    rintro i m σ' H' ⟨rfl, hi, S', ρ', s1, o', hI⟩
    obtain ⟨st, go⟩ := hJ S' H' s1 o'.sh
    by_cases hl : i < ds.length
    · obtain ⟨g1, g2⟩ := go i ds[i] (List.getElem?_eq_getElem hl)
      obtain ⟨ρ2, js, ht, hb⟩ := hs i ds[i] ρ' (List.getElem?_eq_getElem hl) hI
      refine .inr ⟨g1, fun σ2 H2 => ∃ S2 ρ2, Same S1 S2 ∧ Ok S0 H0 S2 H2 σ2 ρ2 ∧ I (i + 1) ρ2, fun σ2 H2 hN => ?_, fun v H2 hy => ?_⟩
      · exact ⟨_, by omega, rfl, hl, hN⟩
      · obtain ⟨S2, x2, hv⟩ := g2 v H2 hy
        refine ht S0 H0 S2 H2 σ' _ v (o'.ext x2) hv fun σ3 o3 _ _ => ?_
        refine hb S0 H0 S2 H2 σ3 _ o3 (fun S4 H4 σ4 ρ4 s4 o4 n4 => ⟨S4, ρ4, s1.trans (x2.ss.trans s4), o4, n4⟩) q2 (fun S4 H4 σ4 ρ4 s4 o4 n4 => q1 S4 H4 σ4 ρ4 (x1.ss.trans (s1.trans (x2.ss.trans s4))) o4 n4) (fun S4 H4 σ4 ρ4 s4 o4 n4 => ⟨S4, ρ4, s1.trans (x2.ss.trans s4), o4, n4⟩)
    · have e : i = ds.length := by omega
      subst e
      exact .inl ⟨st, q1 S' H' σ' ρ' (x1.ss.trans s1) o' (hd ρ' hI)⟩
theorem run_while (I : List Sl → Prop) (μ : List Sl → Nat) (h0 : I ρ)
    (hs : ∀ ρ', I ρ' → ∃ b, EvB c ρ' b ∧ (b = true → Run t { nx := fun ρ2 => I ρ2 ∧ μ ρ2 < μ ρ', ct := fun ρ2 => I ρ2 ∧ μ ρ2 < μ ρ', bk := Dn.nx, rt := Dn.rt } ρ') ∧ (b = false → Dn.nx ρ')) : Run (tWhile c t) Dn ρ := fun S0 H0 S H σ E o q1 q2 q3 q4 => by
  refine ⟨fun m σ' H' => ∃ S' ρ', m = μ ρ' ∧ Same S S' ∧ Ok S0 H0 S' H' σ' ρ' ∧ I ρ', ⟨_, S, ρ, rfl, Same.refl S, o, h0⟩, ?_⟩
  rintro m σ' H' ⟨S', ρ', rfl, s1, o', hI⟩
  obtain ⟨b, hb, h1, h2⟩ := hs ρ' hI
  refine hb S0 H0 S' H' σ' _ o' fun S2 H2 x2 => ?_
  cases b with
  | true =>
    refine iteT ⟨fun σ3 H3 => ∃ S3 ρ3, Same S S3 ∧ Ok S0 H0 S3 H3 σ3 ρ3 ∧ I ρ3 ∧ μ ρ3 < μ ρ', fun σ3 H3 hN => ?_, ?_⟩
    · obtain ⟨S3, ρ3, a1, a2, a3, a4⟩ := hN
      exact ⟨_, a4, S3, ρ3, rfl, a1, a2, a3⟩
    · refine h1 rfl S0 H0 S2 H2 σ' _ (o'.ext x2) (fun S4 H4 σ4 ρ4 s4 o4 n4 => ⟨S4, ρ4, s1.trans (x2.ss.trans s4), o4, n4⟩) q2 (fun S4 H4 σ4 ρ4 s4 o4 n4 => q1 S4 H4 σ4 ρ4 (s1.trans (x2.ss.trans s4)) o4 n4) (fun S4 H4 σ4 ρ4 s4 o4 n4 => ⟨S4, ρ4, s1.trans (x2.ss.trans s4), o4, n4⟩)
  | false => exact iteF (q1 S2 H2 σ' ρ' (s1.trans x2.ss) (o'.ext x2) (h2 rfl))
end
end PL

namespace PL
open PySem L2
variable [kf : KF]

/-! ### comprehensions -/
def wipeS (ρ : List Sl) : List Nat → List Sl
  | [] => ρ
  | v :: vs => (wipeS ρ vs).set v .no
theorem Ok.wipe {S0 H0 S H : Hp} {σ : Sg} {ρ : List Sl} (o : Ok S0 H0 S H σ ρ) : ∀ vs : List Nat, Ok S0 H0 S H (L2.wipe σ vs) (wipeS ρ vs)
  | [] => o
  | v :: vs => (Ok.wipe o vs).set (.refl o.sh) .no List.nodup_nil (fun a ha => by cases ha) v
theorem wipe_get (σ : Sg) (k : Nat) : ∀ vs : List Nat, (L2.wipe σ vs)[k]? = if k ∈ vs then (if k < σ.length then some none else none) else σ[k]?
  | [] => by simp [L2.wipe]
  | v :: vs => by
    unfold L2.wipe
    have ih := wipe_get σ k vs
    have hl := L2.wipe_length σ vs
    by_cases e : v = k
    · subst e
      rw [if_pos List.mem_cons_self]
      by_cases h : v < σ.length
      · rw [if_pos h, List.getElem?_set_self (by omega)]
      · rw [if_neg h]
        exact List.getElem?_eq_none (by rw [List.length_set]; omega)
    · rw [List.getElem?_set_ne e, ih]
      by_cases h : k ∈ vs
      · rw [if_pos h, if_pos (List.mem_cons_of_mem _ h)]
      · rw [if_neg h, if_neg (fun z => by rcases List.mem_cons.mp z with z | z; exact e z.symm; exact h z)]
theorem wipe_eq {σ σ' : Sg} {vs : List Nat} (hl : σ'.length = (L2.wipe σ vs).length) (h : ∀ k, k ∉ vs → σ'[k]? = (L2.wipe σ vs)[k]?) : L2.wipe σ' vs = L2.wipe σ vs := by
  apply List.ext_getElem?
  intro k
  have l2 := L2.wipe_length σ vs
  rw [wipe_get, wipe_get]
  by_cases hk : k ∈ vs
  · rw [if_pos hk, if_pos hk, show σ'.length = σ.length by omega]
  · rw [if_neg hk, if_neg hk, h k hk, wipe_get, if_neg hk]
/-- the picked ones -/
def pick {α : Type} (n : Nat) (f : Nat → Bool) (v : Nat → α) : List α := ((List.range n).filter f).map v
theorem pick_zero {α : Type} (f : Nat → Bool) (v : Nat → α) : pick 0 f v = [] := rfl
theorem pick_yes {α : Type} {n : Nat} {f : Nat → Bool} {v : Nat → α} (h : f n = true) : pick (n + 1) f v = pick n f v ++ [v n] := by
  unfold pick
  rw [List.range_succ, List.filter_append, List.map_append, List.filter_cons, if_pos h]
  rfl
theorem pick_no {α : Type} {n : Nat} {f : Nat → Bool} {v : Nat → α} (h : f n = false) : pick (n + 1) f v = pick n f v := by
  unfold pick
  rw [List.range_succ, List.filter_append, List.map_append, List.filter_cons, if_neg (by rw [h]; decide)]
  show _ ++ [] = _
  rw [List.append_nil]
theorem pick_len {α : Type} (n : Nat) (f : Nat → Bool) (v : Nat → α) : (pick n f v).length ≤ n := by
  unfold pick
  rw [List.length_map]
  have h := List.length_filter_le f (List.range n)
  rw [List.length_range] at h
  exact h
theorem pick_all {α : Type} (n : Nat) (v : Nat → α) : pick n (fun _ => true) v = (List.range n).map v := by
  unfold pick
  rw [List.filter_eq_self.mpr (fun _ _ => rfl)]

section
variable {ρ : List Sl} {ta tb tc te : TE} {c : TT} {t u : TS} {d x y : D} {r : Sl} {Dn : DE}

/-- [te for g in wi if tt], its items stable -/
theorem evo_lcT {wi : TI} {g : TG} {tt : TT} {vs : List Nat} {ds : List D} (hi : IterT wi ρ ds) (f : Nat → Bool) (v : Nat → D)
    (hs : ∀ i x, ds[i]? = some x → ∃ ρ2 js, (∀ j ∈ js, j ∈ vs) ∧ TgD g x (wipeS ρ vs) ρ2 js ∧ EvB tt ρ2 (f i) ∧ (f i = true → EvO te ρ2 (.d (v i)))) (hz : ds.length ≤ 1000000) :
    EvO (tLc wi g tt te vs) ρ (.own (pick ds.length f v)) := fun S0 H0 S H σ Q o q =>
  hi S0 H0 S H σ _ o fun J S1 H1 x1 hJ Dl hD => by
    have o1 := o.ext x1
    refine ⟨fun i m H' => m = ds.length - i ∧ i ≤ ds.length ∧ ∃ S', Xt S1 H1 S' H' ∧ S' Dl = none ∧ ∃ acc, H' Dl = some (.lst acc) ∧ RpAll S' acc (pick i f v),
      ⟨_, rfl, Nat.zero_le _, S1, .new o1.sh hD, o1.sh.free hD, [], upd_same, .nil⟩, ?_⟩
    rintro i m H' ⟨rfl, hi, S', x2, sD, acc, hA, hR⟩
    obtain ⟨st, go⟩ := hJ S' H' x2
    by_cases hl : i < ds.length
    · obtain ⟨g1, g2⟩ := go i ds[i] (List.getElem?_eq_getElem hl)
      obtain ⟨ρ2, js, hjs, ht, hb, he⟩ := hs i ds[i] (List.getElem?_eq_getElem hl)
      refine .inr ⟨g1, fun H2 => ∃ S2, Xt S1 H1 S2 H2 ∧ S2 Dl = none ∧ ∃ acc, H2 Dl = some (.lst acc) ∧ RpAll S2 acc (pick (i + 1) f v), fun H2 hN => ⟨_, by omega, rfl, hl, hN⟩, fun w H2 hy => ?_⟩
      obtain ⟨S2, x3, hv⟩ := g2 w H2 hy
      have o2 := (o1.wipe vs).ext (x2.trans x3)
      have dK : ∀ {S4 H4 : Hp}, Xt S' H' S4 H4 → S4 Dl = none ∧ H4 Dl = some (.lst acc) := fun x4 => ⟨x4.out sD hA (fun _ z => by cases z), x4.hh _ _ hA⟩
      refine ht S0 H0 S2 H2 (L2.wipe σ vs) _ w o2 hv fun σ3 o3 l3 k3 => ⟨wipe_eq l3 fun k hk => k3 k fun z => hk (hjs k z), ?_⟩
      refine hb S0 H0 S2 H2 σ3 _ o3 fun S3 H3 x4 => ?_
      have xa := x3.trans x4
      cases hf : f i with
      | false =>
        refine iteF ⟨S3, x2.trans xa, (dK xa).1, acc, (dK xa).2, ?_⟩
        rw [pick_no hf]
        exact dpa_mono xa.ss _ _ hR
      | true =>
        refine iteT (he hf S0 H0 S3 H3 σ3 _ (o3.ext x4) fun y S4 H4 r A er x5 h1 _ _ => ?_)
        subst er
        cases h1 with
        | d h1 =>
          have xb := xa.trans x5
          have xc := x2.trans xb
          refine ⟨acc, (dK xb).2, sz_lt (by rw [dpa_length hR]; exact Nat.le_trans (pick_len _ _ _) (by omega)), S4, ⟨fun b u e => ?_, xc.ss, upd_same' xc.sh (dK xb).1, xc.nw⟩, (dK xb).1, _, upd_same, ?_⟩
          · rw [upd_ne (ne_of_none e hD)]; exact xc.hh b u e
          · rw [pick_yes hf]
            exact dpa_append (dpa_mono xb.ss _ _ hR) (.cons h1 .nil)
    · have e : i = ds.length := by omega
      subst e
      exact .inl ⟨st, q _ S' H' _ [Dl] rfl (x1.trans x2) (.own sD hA hR) (by simp) fun a ha => by rw [List.mem_singleton.mp ha]; exact x1.hh.free hD⟩
theorem own2_append {S H : Hp} {bs : List Addr} {xss : List (List D)} {b : Addr} {vs : List V} {xs : List D} (h : Own2 S H bs xss) (h1 : S b = none) (h2 : H b = some (.lst vs)) (h3 : RpAll S vs xs) : Own2 S H (bs ++ [b]) (xss ++ [xs]) := by
  induction h with
  | nil => exact .cons h1 h2 h3 .nil
  | cons a1 a2 a3 _ ih => exact .cons a1 a2 a3 ih
theorem Own2.ext {S H S' H' : Hp} {bs : List Addr} {xss : List (List D)} (h : Own2 S H bs xss) (x : Xt S H S' H') : Own2 S' H' bs xss :=
  h.keep x.ss fun a ha => by
    obtain ⟨h1, u, h2, h3⟩ := h.at a ha
    exact ⟨x.out h1 h2 h3, by rw [h2]; exact x.hh a u h2⟩
/-- .. its items fresh lists -/
theorem evo_lc2T {wi : TI} {g : TG} {tt : TT} {vs : List Nat} {ds : List D} (hi : IterT wi ρ ds) (f : Nat → Bool) (v : Nat → List D)
    (hs : ∀ i x, ds[i]? = some x → ∃ ρ2 js, (∀ j ∈ js, j ∈ vs) ∧ TgD g x (wipeS ρ vs) ρ2 js ∧ EvB tt ρ2 (f i) ∧ (f i = true → EvO te ρ2 (.own (v i)))) (hz : ds.length ≤ 1000000) :
    EvO (tLc wi g tt te vs) ρ (.own2 (pick ds.length f v)) := fun S0 H0 S H σ Q o q =>
  hi S0 H0 S H σ _ o fun J S1 H1 x1 hJ Dl hD => by
    have o1 := o.ext x1
    refine ⟨fun i m H' => m = ds.length - i ∧ i ≤ ds.length ∧ ∃ S', Xt S1 H1 S' H' ∧ S' Dl = none ∧ ∃ bs, H' Dl = some (.lst (bs.map V.ref)) ∧ Own2 S' H' bs (pick i f v) ∧ bs.Nodup ∧ Dl ∉ bs ∧ ∀ b ∈ bs, H1 b = none,
      ⟨_, rfl, Nat.zero_le _, S1, .new o1.sh hD, o1.sh.free hD, [], upd_same, .nil, List.nodup_nil, by simp, by simp⟩, ?_⟩
    rintro i m H' ⟨rfl, hi, S', x2, sD, bs, hA, hR, hN, hDb, hB⟩
    obtain ⟨st, go⟩ := hJ S' H' x2
    by_cases hl : i < ds.length
    · obtain ⟨g1, g2⟩ := go i ds[i] (List.getElem?_eq_getElem hl)
      obtain ⟨ρ2, js, hjs, ht, hb, he⟩ := hs i ds[i] (List.getElem?_eq_getElem hl)
      refine .inr ⟨g1, fun H2 => ∃ S2, Xt S1 H1 S2 H2 ∧ S2 Dl = none ∧ ∃ bs, H2 Dl = some (.lst (bs.map V.ref)) ∧ Own2 S2 H2 bs (pick (i + 1) f v) ∧ bs.Nodup ∧ Dl ∉ bs ∧ ∀ b ∈ bs, H1 b = none, fun H2 hN => ⟨_, by omega, rfl, hl, hN⟩, fun w H2 hy => ?_⟩
      obtain ⟨S2, x3, hv⟩ := g2 w H2 hy
      have o2 := (o1.wipe vs).ext (x2.trans x3)
      have dK : ∀ {S4 H4 : Hp}, Xt S' H' S4 H4 → S4 Dl = none ∧ H4 Dl = some (.lst (bs.map V.ref)) := fun x4 => ⟨x4.out sD hA (fun _ z => by cases z), x4.hh _ _ hA⟩
      refine ht S0 H0 S2 H2 (L2.wipe σ vs) _ w o2 hv fun σ3 o3 l3 k3 => ⟨wipe_eq l3 fun k hk => k3 k fun z => hk (hjs k z), ?_⟩
      refine hb S0 H0 S2 H2 σ3 _ o3 fun S3 H3 x4 => ?_
      have xa := x3.trans x4
      cases hf : f i with
      | false =>
        refine iteF ⟨S3, x2.trans xa, (dK xa).1, bs, (dK xa).2, ?_, hN, hDb, hB⟩
        rw [pick_no hf]
        exact hR.ext xa
      | true =>
        refine iteT (he hf S0 H0 S3 H3 σ3 _ (o3.ext x4) fun y S4 H4 r A er x5 h1 nd fr => ?_)
        subst er
        cases h1 with
        | @own b ws _ p1 p2 p3 =>
          have xb := xa.trans x5
          have xc := x2.trans xb
          have f3 : H3 b = none := fr b List.mem_cons_self
          have bD : b ≠ Dl := fun z => by rw [z, (dK xa).2] at f3; cases f3
          have bN : b ∉ bs := fun z => by
            obtain ⟨_, u, hu, _⟩ := (hR.ext xa).at b z
            rw [f3] at hu; cases hu
          refine ⟨bs.map V.ref, (dK xb).2, sz_lt (by rw [List.length_map, own2_len hR]; exact Nat.le_trans (pick_len _ _ _) (by omega)), S4, ⟨fun b u e => ?_, xc.ss, upd_same' xc.sh (dK xb).1, xc.nw⟩, (dK xb).1, bs ++ [b], ?_, ?_, ?_, ?_, ?_⟩
          · rw [upd_ne (ne_of_none e hD)]; exact xc.hh b u e
          · rw [upd_same, List.map_append]; rfl
          · rw [pick_yes hf]
            refine (own2_append (hR.ext xb) p1 p2 p3).keep (Same.refl _) fun a ha => ⟨((own2_append (hR.ext xb) p1 p2 p3).at a ha).1, upd_ne fun z => ?_⟩
            rcases List.mem_append.mp ha with y | y
            · exact hDb (z ▸ y)
            · exact bD ((List.mem_singleton.mp y).symm.trans z)
          · refine List.nodup_append.mpr ⟨hN, by simp, fun a ha c hc e => ?_⟩
            subst e
            exact bN (List.mem_singleton.mp hc ▸ ha)
          · intro z
            rcases List.mem_append.mp z with y | y
            · exact hDb y
            · exact bD (List.mem_singleton.mp y).symm
          · intro a ha
            rcases List.mem_append.mp ha with y | y
            · exact hB a y
            · rw [List.mem_singleton.mp y]
              exact (x2.trans xa).hh.free f3
    · have e : i = ds.length := by omega
      subst e
      exact .inl ⟨st, q _ S' H' _ (Dl :: bs) rfl (x1.trans x2) (.own2 sD hA hR) (List.nodup_cons.mpr ⟨hDb, hN⟩) fun a ha => by
        rcases List.mem_cons.mp ha with y | y
        · rw [y]; exact x1.hh.free hD
        · exact x1.hh.free (hB a y)⟩

theorem evo_lc {wi : TI} {g : TG} {tt : TT} {vs : List Nat} {ds : List D} (hi : IterD wi ρ ds) (f : Nat → Bool) (v : Nat → D)
    (hs : ∀ i x, ds[i]? = some x → ∃ ρ2 js, (∀ j ∈ js, j ∈ vs) ∧ TgD g x (wipeS ρ vs) ρ2 js ∧ EvB tt ρ2 (f i) ∧ (f i = true → EvO te ρ2 (.d (v i)))) (hz : ds.length ≤ 1000000) :
    EvO (tLc wi g tt te vs) ρ (.own (pick ds.length f v)) := evo_lcT (it_t hi) f v hs hz
theorem evo_lc2 {wi : TI} {g : TG} {tt : TT} {vs : List Nat} {ds : List D} (hi : IterD wi ρ ds) (f : Nat → Bool) (v : Nat → List D)
    (hs : ∀ i x, ds[i]? = some x → ∃ ρ2 js, (∀ j ∈ js, j ∈ vs) ∧ TgD g x (wipeS ρ vs) ρ2 js ∧ EvB tt ρ2 (f i) ∧ (f i = true → EvO te ρ2 (.own (v i)))) (hz : ds.length ≤ 1000000) :
    EvO (tLc wi g tt te vs) ρ (.own2 (pick ds.length f v)) := evo_lc2T (it_t hi) f v hs hz
/-! ### whole lists -/
theorem evo_cat {xs ys : List D} (ha : EvE ta ρ xs) (hb : EvE tb ρ ys) (hz : xs.length + ys.length ≤ 1000000) : EvO (tOp (rCatR kf.K) ta tb) ρ (.own (xs ++ ys)) := fun S0 H0 S H σ Q o q =>
  ha S0 H0 S H σ _ o fun a vs S1 H1 x1 r1 r2 => hb S0 H0 S1 H1 σ _ (o.ext x1) fun b ws S2 H2 x2 p1 p2 =>
    ⟨a, b, vs, ws, rfl, rfl, x2.hh.seq r1, p1, sz_of (by rw [dpa_length r2, dpa_length p2]; exact hz), fun p hp =>
      q _ S2 _ _ [p] rfl ((x1.trans x2).trans (.new x2.sh hp)) (.own (x2.sh.free hp) upd_same (dpa_append (dpa_mono x2.ss _ _ r2) p2)) (by simp) fun c hc => by rw [List.mem_singleton.mp hc]; exact (x1.trans x2).hh.free hp⟩
/-- list * int: rRep wants the list tracked; a written one is -/
theorem dpa_rep {H : Hp} {vs : List V} {ds : List D} (h : RpAll H vs ds) : ∀ n : Nat, RpAll H (List.replicate n vs).flatten (List.replicate n ds).flatten
  | 0 => .nil
  | n + 1 => by
    rw [List.replicate_succ, List.replicate_succ, List.flatten_cons, List.flatten_cons]
    exact dpa_append h (dpa_rep h n)
theorem evo_rep {xs : List D} {k : Int} (ha : EvO ta ρ (.own xs)) (hb : EvT tb ρ (.int k)) (hk : k ≤ 1000) (hk0 : -1000000 ≤ k) (hz : xs.length ≤ 1000) : EvO (tOp rRep ta tb) ρ (.own (List.replicate k.toNat xs).flatten) := fun S0 H0 S H σ Q o q =>
  ha S0 H0 S H σ _ o fun v S1 H1 r A er x1 h1 nd fr => hb S0 H0 S1 H1 σ _ (o.ext x1) fun u S2 H2 x2 h2 => by
    subst er
    cases h2
    cases h1 with
    | @own a vs _ p1 p2 p3 =>
      have hl : vs.length * k.toNat ≤ 1000000 := by
        rw [dpa_length p3]
        have h1 : k.toNat ≤ 1000 := by omega
        calc xs.length * k.toNat ≤ 1000 * 1000 := Nat.mul_le_mul hz h1
          _ = 1000000 := rfl
      refine ⟨a, k, vs, rfl, rfl, x2.hh _ _ p2, by omega, by omega, sz_of hl, fun p hp => ?_⟩
      exact q _ S2 _ _ [p] rfl ((x1.trans x2).trans (.new x2.sh hp)) (.own (x2.sh.free hp) upd_same (dpa_rep (dpa_mono x2.ss _ _ p3) _)) (by simp) fun c hc => by rw [List.mem_singleton.mp hc]; exact (x1.trans x2).hh.free hp
/-- a slice of data -/
def cutD (xs : List D) (lo hi : Option Int) : List D := (xs.drop (HT.sIx xs.length 0 lo)).take (HT.sIx xs.length xs.length hi - HT.sIx xs.length 0 lo)
def EvS (to : TO) (ρ : List Sl) (i : Option Int) : Prop := ∀ (S0 H0 S H : Hp) (σ : Sg) (Q : Option Int → Hp → Prop), Ok S0 H0 S H σ ρ → (∀ S' H', Xt S H S' H' → Q i H') → to σ H Q
theorem evs_none : EvS tNoPart ρ none := fun S0 H0 S H σ Q o q => q S H (.refl o.sh)
theorem evs_some {i : Int} (h : EvT te ρ (.int i)) : EvS (tPart te) ρ (some i) := fun S0 H0 S H σ Q o q => h S0 H0 S H σ _ o fun v S1 H1 x1 h1 => by
  cases h1
  exact ⟨i, rfl, q S1 H1 x1⟩
theorem evo_slice {xs : List D} {tl th : TO} {lo hi : Option Int} (ha : EvE ta ρ xs) (hl : EvS tl ρ lo) (hh : EvS th ρ hi) : EvO (tSl (rSlL kf.K) ta tl th) ρ (.own (cutD xs lo hi)) := fun S0 H0 S H σ Q o q =>
  ha S0 H0 S H σ _ o fun a vs S1 H1 x1 r1 r2 => hl S0 H0 S1 H1 σ _ (o.ext x1) fun S2 H2 x2 => hh S0 H0 S2 H2 σ _ (o.ext (x1.trans x2)) fun S3 H3 x3 => by
    have xa := x2.trans x3
    refine ⟨a, vs, rfl, xa.hh.seq r1, fun p hp => ?_⟩
    have e : RpAll S3 (cutV vs lo hi) (cutD xs lo hi) := by
      unfold cutV cutD
      rw [dpa_length r2]
      exact dpa_take _ (dpa_drop _ (dpa_mono xa.ss _ _ r2))
    exact q _ S3 _ _ [p] rfl ((x1.trans xa).trans (.new x3.sh hp)) (.own (x3.sh.free hp) upd_same e) (by simp) fun c hc => by rw [List.mem_singleton.mp hc]; exact (x1.trans xa).hh.free hp
/-- list(xs) -/
theorem evo_listOf {xs : List D} (ha : EvE ta ρ xs) : EvO (tCB (fun xs H Q => ∃ p ys, xs = [V.ref p] ∧ (SqL kf.K H p ys ∨ SqT kf.K H p ys) ∧ ∀ l, H l = none → Q (.ref l) (upd H l (.lst ys))) (tCons ta tNil)) ρ (.own xs) := fun S0 H0 S H σ Q o q =>
  ha S0 H0 S H σ _ o fun a vs S1 H1 x1 r1 r2 => ⟨a, vs, rfl, .inl r1, fun p hp =>
    q _ S1 _ _ [p] rfl (x1.trans (.new x1.sh hp)) (.own (x1.sh.free hp) upd_same r2) (by simp) fun c hc => by rw [List.mem_singleton.mp hc]; exact x1.hh.free hp⟩
/-- list(range(n)) -/
def intsD (lo : Int) (n : Nat) : List D := (List.range n).map fun (i : Nat) => PyData.int (lo + (i : Int))
theorem dpa_rg {H : Hp} (a b : Int) : RpAll H (rgV a b) (intsD a (b - a).toNat) := by
  have gen : ∀ l : List Nat, RpAll H (l.map fun i => V.int (a + (i : Nat))) (l.map fun (i : Nat) => PyData.int (a + (i : Int))) := by
    intro l
    induction l with
    | nil => exact .nil
    | cons x l ih => exact .cons (.int _) ih
  exact gen _
theorem evo_listRg {n : Int} (ha : EvT ta ρ (.int n)) (h0 : 0 ≤ n) (h1 : n ≤ 1000000) : EvO (tLstRg (tRg1 ta)) ρ (.own (intsD 0 n.toNat)) := fun S0 H0 S H σ Q o q =>
  ha S0 H0 S H σ _ o fun v S1 H1 x1 h => by
    cases h
    refine ⟨n, rfl, RgOk.of_le (by omega) (by omega) (by omega) h0, fun p hp => ?_⟩
    have e := dpa_rg (H := S1) 0 n
    rw [show (n - 0).toNat = n.toNat by rw [Int.sub_zero]] at e
    exact q _ S1 _ _ [p] rfl (x1.trans (.new x1.sh hp)) (.own (x1.sh.free hp) upd_same e) (by simp) fun c hc => by rw [List.mem_singleton.mp hc]; exact x1.hh.free hp
/-- min(xs), all(xs) -/
theorem evo_minE {ns : List Int} {m : Int} (ha : EvT ta ρ (.list (ns.map .int))) (hm : m ∈ ns) (hl : ∀ y ∈ ns, m ≤ y) : EvO (tCB (rMin kf.K) (tCons ta tNil)) ρ (.d (.int m)) := fun S0 H0 S H σ Q o q =>
  ha S0 H0 S H σ _ o fun v S1 H1 x1 h => by
    cases h with
    | lst r1 r2 =>
      have e := dpa_ints r2
      subst e
      refine ⟨_, ns, rfl, r1, List.length_pos_of_mem hm, fun m' h1 h2 => ?_⟩
      have : m' = m := Int.le_antisymm (h2 m hm) (hl m' h1)
      rw [this]
      exact fin_flat q x1 rfl rfl
theorem evo_allE {bs : List Bool} (ha : EvT ta ρ (.list (bs.map .bool))) : EvO (tCB (rAll kf.K) (tCons ta tNil)) ρ (.d (.bool (bs.all id))) := fun S0 H0 S H σ Q o q =>
  ha S0 H0 S H σ _ o fun v S1 H1 x1 h => by
    cases h with
    | lst r1 r2 =>
      have e := dpa_bools r2
      subst e
      exact ⟨_, bs, rfl, r1, fin_flat q x1 rfl rfl⟩
theorem evo_sortI {ns : List Int} (ha : EvT ta ρ (.list (ns.map .int))) : EvP (tCB (rSortedI kf.K) (tCons ta tNil)) ρ (fun r => ∃ ms : List Int, ms.Perm ns ∧ ms.Pairwise (· ≤ ·) ∧ r = .own (ms.map .int)) := fun S0 H0 S H σ Q o q =>
  ha S0 H0 S H σ _ o fun v S1 H1 x1 h => by
    cases h with
    | lst r1 r2 =>
      have e := dpa_ints r2
      subst e
      exact ⟨_, ns, rfl, r1, fun ms p h1 h2 hp => q _ S1 _ _ [p] ⟨ms, h1, h2, rfl⟩ (x1.trans (.new x1.sh hp)) (.own (x1.sh.free hp) upd_same (dpa_of_ints ms)) (by simp) fun c hc => by rw [List.mem_singleton.mp hc]; exact x1.hh.free hp⟩
end
end PL

namespace PL
open PySem L2
variable [kf : KF]
open PyProof.Rows (seqObj)

/-! ### sorted(d), the keys pairs of ints -/
def pairAt (H : Hp) : Value → Int × Int
  | .ref q => match H q with
    | some (.tup [.int i, .int j]) => (i, j)
    | _ => (0, 0)
  | _ => (0, 0)
theorem pairAt_of {H : Hp} {q : Addr} {i j : Int} (e : H q = some (.tup [.int i, .int j])) : pairAt H (.ref q) = (i, j) := by
  simp [pairAt, e]
def addrOf : Value → Addr
  | .ref q => q
  | _ => 0
/-- rising by the first, then by the second -/
def Lex (ps : List (Int × Int)) : Prop := ps.Pairwise fun p q => p.1 < q.1 ∨ (p.1 = q.1 ∧ p.2 ≤ q.2)
def rSortedDT : List V → Hp → VK → Prop := fun vs H Q => ∃ (a : Addr) (ks : List (Int × Int)), vs = [V.ref a] ∧ H a = some (.dT (ks.map keyOf)) ∧
  ∀ (ps : List (Addr × (Int × Int))) (p : Addr), Lex (ps.map (·.2)) → (ps.map (·.2)).Perm ks → (∀ q ∈ ps, H q.1 = some (.tup [.int q.2.1, .int q.2.2])) → H p = none → Q (.ref p) (upd H p (.lst (ps.map fun q => V.ref q.1)))
theorem keys_at {H : Hp} : ∀ {ks : List (Int × Int)} {xs : List (List Key × Addr × Value)}, Paired (fun (p : List Key × V) (q : List Key × Addr × Value) => p.1 = q.1 ∧ H q.2.1 = some (.tup (p.1.map kV)) ∧ RelV p.2 q.2.2) (ks.map keyOf) xs →
    xs.map (fun x => pairAt H (.ref x.2.1)) = ks ∧ ∀ x ∈ xs, ∃ i j, H x.2.1 = some (.tup [.int i, .int j])
  | [], _, h => by
    cases h
    exact ⟨rfl, fun x hx => by cases hx⟩
  | k :: ks, _, h => by
    rw [List.map_cons] at h
    cases h with
    | cons a t =>
      rename_i x xs
      obtain ⟨h1, h2⟩ := keys_at t
      have e : H x.2.1 = some (.tup [.int k.1, .int k.2]) := a.2.1
      refine ⟨?_, fun y hy => ?_⟩
      · rw [List.map_cons, h1]
        rw [pairAt_of e]
      · rcases List.mem_cons.mp hy with rfl | hy
        · exact ⟨_, _, e⟩
        · exact h2 y hy
theorem acc_keys {es : Array DictEntry} {xs : List (List Key × Addr × Value)} {knd : List Key × Addr × Value → DictEntry} (he : es.toList = xs.map knd) (hk : ∀ x, (knd x).key = .ref x.2.1) {acc : Array Value} (hacc : ItemsOf (fun i v => ∃ hi : i < es.size, v = es[i].key) acc es.size) :
    acc.toList = xs.map fun x => Value.ref x.2.1 := by
  obtain ⟨h1, h2⟩ := hacc
  have hl : es.size = xs.length := by rw [← Array.length_toList, he, List.length_map]
  apply List.ext_getElem?
  intro j
  by_cases hj : j < xs.length
  · have hj2 : j < acc.toList.length := by rw [Array.length_toList, h1, hl]; exact hj
    rw [List.getElem?_eq_getElem hj2, List.getElem?_map, List.getElem?_eq_getElem hj]
    obtain ⟨hi, e⟩ := h2 j acc.toList[j] (by rw [← Array.getElem?_toList, List.getElem?_eq_getElem hj2])
    rw [e]
    have e2 : es[j] = knd xs[j] := by
      have e3 : es.toList[j]'(by rw [Array.length_toList]; exact hi) = knd xs[j] := by
        have : es.toList[j]? = some (knd xs[j]) := by rw [he, List.getElem?_map, List.getElem?_eq_getElem hj]; rfl
        rw [List.getElem?_eq_getElem (by rw [Array.length_toList]; exact hi)] at this
        exact Option.some.inj this
      rw [← e3, Array.getElem_toList]
    rw [e2, hk]
    rfl
  · rw [List.getElem?_eq_none (by rw [Array.length_toList, h1, hl]; omega), List.getElem?_eq_none (by rw [List.length_map]; omega)]
theorem cr_sortedDT {X : Cx} (hc : X.calm = true) : CallR X (.builtin "sorted") rSortedDT := by
  intro pins s σ H vs us Q I r h
  obtain ⟨a, ks, rfl, ha, q⟩ := h
  obtain ⟨u, rfl, ru⟩ := vals1 r
  obtain rfl : u = Value.ref a := ru
  obtain ⟨hz, lo, xs, pr, o, es, ep, ho, hx, hdt, he, nd⟩ := I.hok a _ ha
  obtain ⟨k1, k2⟩ := keys_at pr
  have hl : xs.length = es.size := by rw [← Array.length_toList, he, List.length_map]
  have hz' : es.size ≤ sizeLine := by
    have := Paired.length pr
    rw [← hl, ← this]; exact hz
  refine Calls.call_function_entry PyProof.Rows.kind_sorted PyProof.Rows.plain_sorted PyProof.Rows.entry_sorted (PyProof.Rows.args_sorted1 _) ?_
  unfold Builtin.«sorted»
  refine wpAny_bind (m := checkCount "sorted" 1 1 _) (wpAny_pure ?_)
  refine wpAny_bind (PySem.W.kdu_collect (A := X.A.in1) (KdlSrc.rawDict (es := es) (ep := ep) lo) (I.ok.hd hc) ⟨o, ho, hx, hdt⟩ hz' fun h' tk acc hk hacc => ?_)
  have eacc : acc.toList = xs.map fun x => Value.ref x.2.1 := acc_keys he (fun _ => rfl) hacc
  have I1 : Inv X pins σ H { s with heap := h', toks := tk } := I.kept hk
  have hal : acc.toList.length ≤ sizeLine := by rw [eacc, List.length_map, hl]; exact hz'
  refine wpAny_bind (wpAny_newList ?_ hal)
  have hoL : (h'.push (seqObj "list" acc.toList.toArray 0)).get? h'.objs.size = some (seqObj "list" acc.toList.toArray 0) := Heap.get?_push_size _ rfl
  show wpAny _ _ _ _ _ { s with heap := h'.push (seqObj "list" acc.toList.toArray 0), toks := tk }
  have hp : ∀ v ∈ acc.toList, Srt.IsPair (h'.push (seqObj "list" acc.toList.toArray 0)) v (pairAt H v).1 (pairAt H v).2 := fun v hv => by
    rw [eacc] at hv
    obtain ⟨x, hx, rfl⟩ := List.mem_map.mp hv
    obtain ⟨i, j, hq⟩ := k2 x hx
    obtain ⟨_, its2, r2, o2, ho2, hc2, n2, hd2⟩ := I1.hok _ _ hq
    obtain ⟨u1, u2, rfl, ri, rj⟩ := vals2 r2
    obtain ⟨t1, rfl⟩ := ri
    obtain ⟨t2, rfl⟩ := rj
    have e : pairAt H (.ref x.2.1) = (i, j) := pairAt_of hq
    rw [e]
    exact ⟨x.2.1, o2, t1, t2, n2, rfl, Heap.get?_push_of_some _ ho2, hc2, hd2⟩
  refine wpAny_bind (wpAny_holding (wpAny_call_entry PyProof.Rows.slot_list_sort ⟨_, hoL, rfl⟩ PyProof.Rows.entry_list_sort
    (SrtO.list_sort_ord (s := { s with heap := h'.push (seqObj "list" acc.toList.toArray 0), toks := tk }) (SrtO.swo_lex (pairAt H)) hoL hal (fun h2 => SrtO.pairs_sortableO (by omega) hp fun o e => ?_) fun out h1 h2 => ⟨_, rfl, ?_⟩) (PyProof.Rows.args_list_sort _)))
  · have e' : some o = some (seqObj "list" acc.toList.toArray 0) := e.symm.trans hoL
    cases e'
    intro c
    exact absurd (Value.type.inj c) (by decide)
  · obtain ⟨e', he'⟩ := PyProof.Rows.sortedHeap_at (vs := acc.toList) (out := out.toArray) hoL
    have hmem : ∀ v ∈ out, ∃ x ∈ xs, v = .ref x.2.1 := fun v hv => by
      have := h2.perm.mem_iff.mp hv
      rw [eacc] at this
      obtain ⟨x, hx, rfl⟩ := List.mem_map.mp this
      exact ⟨x, hx, rfl⟩
    have hval : Vals (out.map fun v => V.ref (addrOf v)) out := by
      have gen : ∀ l : List Value, (∀ v ∈ l, ∃ x ∈ xs, v = .ref x.2.1) → Vals (l.map fun v => V.ref (addrOf v)) l := by
        intro l
        induction l with
        | nil => intro _; exact .nil
        | cons v l ih =>
          intro hm
          obtain ⟨x, _, rfl⟩ := hm v List.mem_cons_self
          exact .cons rfl (ih fun w hw => hm w (List.mem_cons_of_mem _ hw))
      exact gen out hmem
    have hlo : out.length ≤ sizeLine := by rw [h2.perm.length_eq]; exact hal
    have hps : (out.map fun v => (addrOf v, pairAt H v)).map (fun q => V.ref q.1) = out.map fun v => V.ref (addrOf v) := by rw [List.map_map]; rfl
    have hps2 : (out.map fun v => (addrOf v, pairAt H v)).map (·.2) = out.map (pairAt H) := by rw [List.map_map]; rfl
    have fresh := I1.hok.fresh (Nat.le_refl h'.objs.size)
    have qq := q (out.map fun v => (addrOf v, pairAt H v)) h'.objs.size ?_ ?_ ?_ fresh
    · rw [hps] at qq
      refine wpAny_pure ⟨_, rfl, .ref h'.objs.size, upd H h'.objs.size (.lst (out.map fun v => V.ref (addrOf v))), I1.laid (t' := tk) (fun b u e => ?_) (Nat.le_refl _)
        (show ObjOk X.prog X.w _ _ _ (.lst (out.map fun v => V.ref (addrOf v))) from ⟨by rw [List.length_map]; exact hlo, out, e', hval, he'⟩), rfl, qq⟩
      have hb : b < h'.objs.size := Heap.lt_size e
      rw [PyProof.Rows.sortedHeap_old (Nat.ne_of_lt hb) (by rw [PyProof.Rows.size_push']; exact Nat.lt_succ_of_lt hb)]
      exact Heap.get?_push_of_some _ e
    · rw [hps2]
      refine List.pairwise_map.mpr (List.Pairwise.imp (fun {v u} z => ?_) h1)
      have := SrtO.lexB_no.mp z
      omega
    · rw [hps2]
      refine (h2.perm.map (pairAt H)).trans ?_
      rw [eacc, List.map_map]
      exact List.Perm.of_eq k1
    · intro p hp
      obtain ⟨v, hv, rfl⟩ := List.mem_map.mp hp
      obtain ⟨x, hx, rfl⟩ := hmem v hv
      obtain ⟨i, j, hq⟩ := k2 x hx
      show H x.2.1 = some (.tup [.int (pairAt H (.ref x.2.1)).1, .int (pairAt H (.ref x.2.1)).2])
      have e : pairAt H (.ref x.2.1) = (i, j) := pairAt_of hq
      rw [e, hq]
def pairD (p : Int × Int) : D := .tuple [.int p.1, .int p.2]
section
variable {ρ : List Sl} {ta tb tc te : TE} {c : TT} {t u : TS} {d x y : D} {r : Sl} {Dn : DE}
theorem evp_sortedDT {i : Nat} {ks : List (Int × Int)} (h : ρ[i]? = some (.dct ks)) : EvP (tCB rSortedDT (tCons (tVar i) tNil)) ρ (fun r => ∃ ps : List (Int × Int), Lex ps ∧ ps.Perm ks ∧ r = .own (ps.map pairD)) := fun S0 H0 S H σ Q o q => by
  obtain ⟨v, A, e1, e2⟩ := o.get h
  cases e2 with
  | @dct a _ h1 h2 =>
    refine ⟨_, e1, a, ks, rfl, h2, fun ps p q1 q2 q3 hp => ?_⟩
    let S' : Hp := fun b => if b ∈ ps.map (·.1) then H b else S b
    have tupAt : ∀ b ∈ ps.map (·.1), ∃ i j, H b = some (.tup [.int i, .int j]) := fun b hb => by
      obtain ⟨z, hz, rfl⟩ := List.mem_map.mp hb
      exact ⟨_, _, q3 z hz⟩
    have xt : Xt S H S' H := ⟨Same.refl H, fun b o' e => by
        by_cases hb : b ∈ ps.map (·.1)
        · show (if b ∈ ps.map (·.1) then H b else S b) = some o'
          rw [if_pos hb]; exact o.sh b o' e
        · show (if b ∈ ps.map (·.1) then H b else S b) = some o'
          rw [if_neg hb]; exact e, fun b o' e => by
        by_cases hb : b ∈ ps.map (·.1)
        · have e : (if b ∈ ps.map (·.1) then H b else S b) = some o' := e
          rw [if_pos hb] at e; exact e
        · have e : (if b ∈ ps.map (·.1) then H b else S b) = some o' := e
          rw [if_neg hb] at e; exact o.sh b o' e, fun b o' e => by
        by_cases hb : b ∈ ps.map (·.1)
        · right
          intro u hu
          obtain ⟨i, j, e3⟩ := tupAt b hb
          rw [hu] at e3
          exact ⟨_, Option.some.inj e3⟩
        · have e : (if b ∈ ps.map (·.1) then H b else S b) = some o' := e
          rw [if_neg hb] at e; exact .inl e⟩
    have rp : ∀ l : List (Addr × (Int × Int)), (∀ z ∈ l, z ∈ ps) → RpAll S' (l.map fun q => V.ref q.1) ((l.map (·.2)).map pairD) := by
      intro l
      induction l with
      | nil => intro _; exact .nil
      | cons z l ih =>
        intro hm
        have hz := hm z List.mem_cons_self
        refine .cons (.tup (?_ : S' z.1 = some (.tup [.int z.2.1, .int z.2.2])) (.cons (.int _) (.cons (.int _) .nil))) (ih fun w hw => hm w (List.mem_cons_of_mem _ hw))
        show (if z.1 ∈ ps.map (·.1) then H z.1 else S z.1) = _
        rw [if_pos (List.mem_map.mpr ⟨z, hz, rfl⟩), q3 z hz]
    have hpS : S' p = none := xt.sh.free hp
    exact q _ S' _ _ [p] ⟨_, q1, q2, rfl⟩ (xt.trans (.new xt.sh hp)) (.own hpS upd_same (rp ps fun _ z => z)) (by simp) fun b hb => by rw [List.mem_singleton.mp hb]; exact hp
theorem evo_dct : EvO tDNewT ρ (.dct []) := fun S0 H0 S H σ Q o q => fun p hp => q _ S _ _ [p] rfl (.new o.sh hp) (.dct (o.sh.free hp) upd_same) (by simp) fun b hb => by rw [List.mem_singleton.mp hb]; exact hp
def insK (ks : List (Int × Int)) (k : Int × Int) : List (Int × Int) := if k ∈ ks then ks else ks ++ [k]
theorem keyOf_inj {a b : Int × Int} (h : (keyOf a).1 = (keyOf b).1) : a = b := by
  cases a; cases b
  simp [keyOf] at h
  simp [h]
theorem put_keyOf (ks : List (Int × Int)) (k : Int × Int) : putK (ks.map keyOf) (keyOf k).1 (.bl true) = (insK ks k).map keyOf := by
  unfold putK insK
  by_cases h : k ∈ ks
  · rw [if_pos h, if_pos]
    · rw [List.map_map]
      refine List.map_congr_left fun a _ => ?_
      show (if (keyOf a).1 = (keyOf k).1 then ((keyOf a).1, V.bl true) else keyOf a) = keyOf a
      split
      · rfl
      · rfl
    · rw [List.any_map, List.any_eq_true]
      exact ⟨k, h, by simp⟩
  · rw [if_neg h, if_neg]
    · rw [List.map_append]
      rfl
    · rw [List.any_map, List.any_eq_true]
      rintro ⟨a, ha, e⟩
      have := keyOf_inj (of_decide_eq_true e)
      subst this
      exact h ha
theorem run_dput {i : Nat} {ks : List (Int × Int)} {k : Int × Int} (h : ρ[i]? = some (.dct ks)) (hk : EvO tb ρ (.d (pairD k))) (hz : ks.length ≤ 1000000) (kk : Dn.nx (ρ.set i (.dct (insK ks k)))) :
    Run (sDPut (tVar i) tb (tC (.bl true))) Dn ρ := fun S0 H0 S H σ E o q1 q2 q3 q4 => by
  obtain ⟨B, he, nd, fr⟩ := o.env
  obtain ⟨v, A, e1, e2, e3, e4, e5⟩ := he.pick nd h
  cases e2 with
  | @dct a _ h1 h2 =>
    refine ⟨_, e1, hk S0 H0 S H σ _ o fun w S1 H1 r A1 er x1 g1 _ _ => ?_⟩
    subst er
    cases g1 with
    | d g1 =>
      cases g1 with
      | @tup b us _ g1 g2 =>
        have e : us = [.int k.1, .int k.2] := by
          cases g2 with
          | cons a1 a2 => cases a2 with
            | cons b1 b2 => cases a1; cases b1; cases b2; rfl
        subst e
        have hb : H1 b = some (.tup [.int k.1, .int k.2]) := x1.sh _ _ g1
        · refine ⟨a, _, rfl, DPut.t (k := (keyOf k).1) (x1.hh _ _ h2) hb (sz_lt (by rw [List.length_map]; exact hz)), ?_⟩
          rw [put_keyOf]
          have hbB : a ∈ B := e4 a List.mem_cons_self
          have sa : S1 a = none := x1.out h1 h2 fun _ z => by cases z
          obtain ⟨B', p1, p2, p3⟩ := e5 (S' := S1) (H' := upd H1 a (.dT ((insK ks k).map keyOf))) (v' := some (.ref a)) (s' := .dct (insK ks k)) (A' := [a]) x1.ss (fun c hcB nc => by
            have ne : c ≠ a := fun z => nc (by rw [z]; exact List.mem_cons_self)
            obtain ⟨y1, w, y2, y3⟩ := he.at c hcB
            refine ⟨x1.out y1 y2 y3, ?_⟩
            rw [upd_ne ne, y2]
            exact x1.hh c w y2) (.dct sa upd_same) (by simp) (fun c hc => .inl hc)
          have x0 := o.xt.trans x1
          refine q1 S1 _ σ _ x1.ss (ok_write o ⟨fun c u ec => ?_, x0.ss, upd_same' x0.sh sa, x0.nw⟩ e1 p1 p2 fun c hc => ?_) kk
          · rw [upd_ne (ne_of_none ec (fr a hbB))]; exact x0.hh c u ec
          · rcases p3 c hc with z | z
            · rw [List.mem_singleton.mp z]; exact fr a hbB
            · exact fr c z

/-! ### expressions that change an owned list -/
def EvX (te : TE) (ρ : List Sl) (x : D) (ρ' : List Sl) : Prop := ∀ (S0 H0 S H : Hp) (σ : Sg) (Q : VK), Ok S0 H0 S H σ ρ → (∀ v S' H', Same S S' → Ok S0 H0 S' H' σ ρ' → Rp S' v x → Q v H') → te σ H Q
theorem evx_of (h : EvO te ρ (.d x)) : EvX te ρ x ρ := fun S0 H0 S H σ Q o q => h S0 H0 S H σ _ o fun v S1 H1 r A er x1 h1 _ _ => by
  subst er
  cases h1 with
  | d h1 => exact q v S1 H1 x1.ss (o.ext x1) h1
theorem evx_pop {j k : Nat} {ys : List D} (h : ρ[j]? = some (.own ys)) (he : EvT te ρ (.int (k : Int))) (hy : ys[k]? = some y) (hk : k ≤ 1000000) : EvX (tBM kf.K "list" rPopAt (tVar j) (tCons te tNil)) ρ y (ρ.set j (.own (ys.eraseIdx k))) := fun S0 H0 S H σ Q o q => by
  obtain ⟨a, vs, e1, e2, e3, e4, e5⟩ := ok_set o h
  refine ⟨_, e1, .inl ⟨rfl, _, .inl (.inl e2)⟩, he S0 H0 S H σ _ o fun w S1 H1 x1 h1 => ?_⟩
  cases h1
  obtain ⟨v, g1, g2⟩ := dpa_get e4 hy
  have hl : k < vs.length := (List.getElem?_eq_some_iff.mp g1).1
  have hx : seqIndex? (k : Int) vs.length = some k := by
    unfold seqIndex?
    have h0 : ¬ ((k : Int) < 0) := by omega
    simp [hl, h0]
  refine ⟨a, vs, (k : Int), k, v, rfl, rfl, x1.hh _ _ e2, by omega, by omega, hx, g1, ?_⟩
  exact q v S1 _ x1.ss (e5 x1 (dpa_erase k (dpa_mono x1.ss _ _ e4))) (dp_mono x1.ss _ _ g2)
theorem run_appendX {i : Nat} {xs xs0 : List D} {ρ' : List Sl} (h0 : ρ[i]? = some (.own xs0)) (he : EvX te ρ x ρ') (h : ρ'[i]? = some (.own xs)) (hz : xs.length ≤ 1000000) (k : Dn.nx (ρ'.set i (.own (xs ++ [x])))) :
    Run (tDrop (tBM kf.K "list" rAppend (tVar i) (tCons te tNil))) Dn ρ := fun S0 H0 S H σ E o q1 q2 q3 q4 => by
  obtain ⟨a, vs, e1, e2, e3, e4, e5⟩ := ok_set o h0
  refine ⟨_, e1, .inl ⟨rfl, _, .inl (.inl e2)⟩, ?_⟩
  refine he S0 H0 S H σ _ o fun v S1 H1 ss o1 h1 => ?_
  obtain ⟨a', vs', g1, g2, g3, g4, g5⟩ := ok_set o1 h
  rw [e1] at g1
  cases g1
  refine ⟨a, vs', v, rfl, rfl, g2, sz_lt (by rw [dpa_length g4]; exact hz), ?_⟩
  exact q1 S1 _ σ _ ss (g5 (.refl o1.sh) (dpa_append g4 (.cons h1 .nil))) k
theorem run_asgX {i : Nat} {ρ' : List Sl} (he : EvX te ρ x ρ') (k : Dn.nx (ρ'.set i (.d x))) : Run (tAsg te (gName i)) Dn ρ := fun S0 H0 S H σ E o q1 q2 q3 q4 =>
  he S0 H0 S H σ _ o fun v S1 H1 ss o1 h1 => q1 S1 H1 _ _ ss (o1.set (.refl o1.sh) (.d h1) List.nodup_nil (fun a ha => by cases ha) i) k

/-! ### lists of lists -/
theorem ok_own2 {i : Nat} (h : ρ[i]? = some (.own [])) : ∀ S0 H0 S H σ, Ok S0 H0 S H σ ρ → ∃ S', Same S S' ∧ Ok S0 H0 S' H σ (ρ.set i (.own2 [])) := fun S0 H0 S H σ o => by
  obtain ⟨B, he, nd, fr⟩ := o.env
  obtain ⟨v, A, e1, e2, e3, e4, e5⟩ := he.pick nd h
  cases e2 with
  | @own a vs _ h1 h2 h3 =>
    cases h3
    obtain ⟨B', p1, p2, p3⟩ := e5 (S' := S) (H' := H) (v' := some (.ref a)) (s' := .own2 []) (A' := [a]) (Same.refl S) (fun c hcB nc => ⟨(he.at c hcB).1, rfl⟩) (.own2 h1 h2 .nil) (by simp) (fun c hc => .inl hc)
    refine ⟨S, Same.refl S, ok_write o o.xt e1 p1 p2 fun c hc => ?_⟩
    rcases p3 c hc with z | z
    · rw [List.mem_singleton.mp z]; exact fr a (e4 a List.mem_cons_self)
    · exact fr c z
theorem run_own2 (i : Nat) (h : ρ[i]? = some (.own [])) (k : Run t Dn (ρ.set i (.own2 []))) : Run t Dn ρ := run_ghost (ok_own2 h) k
theorem own2_at {S H : Hp} {bs : List Addr} {xss : List (List D)} (h : Own2 S H bs xss) (nd : bs.Nodup) : ∀ {j : Nat} {xs : List D}, xss[j]? = some xs → ∃ b vs, bs[j]? = some b ∧ S b = none ∧ H b = some (.lst vs) ∧ RpAll S vs xs ∧
    ∀ {S' H' : Hp} {ws : List V} {ys : List D}, Xt S H S' H' → RpAll S' ws ys → Own2 S' (upd H' b (.lst ws)) bs (xss.set j ys) := by
  induction h with
  | nil => intro j xs e; simp at e
  | @cons b vs xs bs xss h1 h2 h3 ht ih =>
    have nb : b ∉ bs := (List.nodup_cons.mp nd).1
    have nd' : bs.Nodup := (List.nodup_cons.mp nd).2
    intro j ys e
    cases j with
    | zero =>
      simp at e; subst e
      refine ⟨b, vs, rfl, h1, h2, h3, fun {S' H' ws ys} x hr => ?_⟩
      refine .cons (x.out h1 h2 fun _ z => by cases z) upd_same hr ((ht.ext x).keep (Same.refl _) fun a ha => ⟨((ht.ext x).at a ha).1, upd_ne fun z => nb (z ▸ ha)⟩)
    | succ j =>
      obtain ⟨b', vs', e1, e2, e3, e4, e5⟩ := ih nd' (j := j) (by simpa using e)
      refine ⟨b', vs', by simpa using e1, e2, e3, e4, fun {S' H' ws ys} x hr => ?_⟩
      have ne : b ≠ b' := fun z => nb (z ▸ List.mem_of_getElem? e1)
      exact .cons (x.out h1 h2 fun _ z => by cases z) ((upd_ne ne).trans (x.hh _ _ h2)) (dpa_mono x.ss _ _ h3) (e5 x hr)
/-- xss[j].append(x) -/
theorem run_append2 {i j : Nat} {xss : List (List D)} {xs : List D} (h : ρ[i]? = some (.own2 xss)) (hj : EvT tb ρ (.int (j : Int))) (hx : xss[j]? = some xs) (he : EvO te ρ (.d x)) (hz : xs.length ≤ 1000000) (k : Dn.nx (ρ.set i (.own2 (xss.set j (xs ++ [x]))))) :
    Run (tDrop (tBM kf.K "list" rAppend (tOp (rIxL kf.K) (tVar i) tb) (tCons te tNil))) Dn ρ := fun S0 H0 S H σ E o q1 q2 q3 q4 => by
  obtain ⟨B, hE, nd, fr⟩ := o.env
  obtain ⟨v, A, e1, e2, e3, e4, e5⟩ := hE.pick nd h
  cases e2 with
  | @own2 a bs _ h1 h2 h3 =>
    have ndb : bs.Nodup := (List.nodup_cons.mp e3).2
    have nab : a ∉ bs := (List.nodup_cons.mp e3).1
    obtain ⟨b, vs, g1, g2, g3, g4, g5⟩ := own2_at h3 ndb hx
    refine ⟨_, e1, hj S0 H0 S H σ _ o fun w S1 H1 x1 z1 => ?_⟩
    cases z1
    refine ⟨a, _, _, .ref b, rfl, rfl, .inl (.of (x1.hh _ _ h2)), atI_nat (by rw [List.getElem?_map, g1]; rfl), .inl ⟨rfl, vs, .inl (.inl (x1.hh _ _ g3))⟩, ?_⟩
    refine he S0 H0 S1 H1 σ _ (o.ext x1) fun v S2 H2 r A2 er x2 z2 _ _ => ?_
    subst er
    cases z2 with
    | d z2 =>
      have x3 := x1.trans x2
      refine ⟨b, vs, v, rfl, rfl, x3.hh _ _ g3, sz_lt (by rw [dpa_length g4]; exact hz), ?_⟩
      have new := g5 x3 (dpa_append (dpa_mono x3.ss _ _ g4) (.cons z2 .nil))
      have ab : a ≠ b := fun z => nab (z ▸ List.mem_of_getElem? g1)
      have bA : b ∈ a :: bs := List.mem_cons_of_mem _ (List.mem_of_getElem? g1)
      obtain ⟨B', p1, p2, p3⟩ := e5 (S' := S2) (H' := upd H2 b (.lst (vs ++ [v]))) (v' := some (.ref a)) (s' := .own2 (xss.set j (xs ++ [x]))) (A' := a :: bs) x3.ss (fun c hcB nc => by
        have ne : c ≠ b := fun z => nc (z ▸ bA)
        obtain ⟨y1, w, y2, y3⟩ := hE.at c hcB
        refine ⟨x3.out y1 y2 y3, ?_⟩
        rw [upd_ne ne, y2]
        exact x3.hh c w y2) (.own2 (x3.out h1 h2 fun _ z => by cases z) ((upd_ne ab).trans (x3.hh _ _ h2)) new) e3 (fun c hc => .inl hc)
      have x0 := o.xt.trans x3
      have sb : S2 b = none := x3.out g2 g3 fun _ z => by cases z
      have hb0 : H0 b = none := fr b (e4 b bA)
      refine q1 S2 _ σ _ x3.ss (ok_write o ⟨fun c u ec => ?_, x0.ss, upd_same' x0.sh sb, x0.nw⟩ e1 p1 p2 fun c hc => ?_) k
      · rw [upd_ne (ne_of_none ec hb0)]; exact x0.hh c u ec
      · rcases p3 c hc with z | z
        · exact fr c (e4 c z)
        · exact fr c z
end

/-! ### a def -/
def startS (N : List Str) (ds : List D) : List Sl := ds.map Sl.d ++ List.replicate (N.length - ds.length) .no
theorem ok_start {S H : Hp} {N : List Str} {vs : List V} {ds : List D} (sh : Same S H) (h : RpAll S vs ds) : Ok S H S H (L2.start N vs) (startS N ds) := by
  refine ⟨.refl sh, [], ?_, List.nodup_nil, fun a ha => by cases ha⟩
  have l := dpa_length h
  unfold L2.start startS
  rw [l]
  have tail : ∀ n : Nat, EnvOk S H (List.replicate n none) (List.replicate n .no) [] := by
    intro n
    induction n with
    | zero => exact .nil
    | succ n ih => exact .cons (A := []) .no ih
  have gen : ∀ {vs : List V} {ds : List D} (n : Nat), RpAll S vs ds → EnvOk S H (vs.map some ++ List.replicate n none) (ds.map Sl.d ++ List.replicate n .no) [] := by
    intro vs ds n h
    induction vs generalizing ds with
    | nil => cases h; exact tail n
    | cons v vs ih =>
      cases h with
      | cons a t => exact .cons (A := []) (.d a) (ih t)
  exact gen _ h
theorem run_def {n : Nat} {pre : List D → Prop} {post : List D → Sl → Prop} {vs : List V} {H : Hp} {Q : VK} {E : XK} {N : List Str} {t : TS} (h : spF n pre post vs H Q E)
    (k : ∀ ds, ds.length = n → pre ds → Run t { nx := fun _ => post ds (.d .none), rt := post ds } (startS N ds)) : t { nx := fun _ H' => Q .non H', rt := Q } (L2.start N vs) H := by
  obtain ⟨S, ds, hn, sh, hr, hp, q⟩ := h
  refine k ds hn hp S H S H _ _ (ok_start sh hr) (fun S' H' σ' ρ' ss o n => ?_) (fun v S' H' r A xt hs nd fr p => q r v H' S' A p xt hs nd fr) (fun _ _ _ _ _ _ z => z.elim) (fun _ _ _ _ _ _ z => z.elim)
  exact q _ .non H' S' [] n o.xt (.d .non) List.nodup_nil fun a ha => by cases ha
end PL

namespace PL
open PySem L2
variable [kf : KF]

theorem hu65 {A : Around} {k : Nat} (hr : Room k A) : A.units + 65 < cLine := by have := hr.un; omega
def isIntB : D → Bool
  | .bool _ => true
  | .int _ => true
  | _ => false
theorem kit_int : ∀ d : D, kitB (tyN d) "int" = some (isIntB d)
  | .none => (by decide +kernel : kitB "NoneType" "int" = some false)
  | .bool _ => (by decide +kernel : kitB "bool" "int" = some true)
  | .int _ => (by decide +kernel : kitB "int" "int" = some true)
  | .str _ => (by decide +kernel : kitB "str" "int" = some false)
  | .list _ => (by decide +kernel : kitB "list" "int" = some false)
  | .tuple _ => (by decide +kernel : kitB "tuple" "int" = some false)
  | .dict _ => (by decide +kernel : kitB "dict" "int" = some false)
def isBoolB : D → Bool
  | .bool _ => true
  | _ => false
theorem kit_bool : ∀ d : D, kitB (tyN d) "bool" = some (isBoolB d)
  | .none => (by decide +kernel : kitB "NoneType" "bool" = some false)
  | .bool _ => (by decide +kernel : kitB "bool" "bool" = some true)
  | .int _ => (by decide +kernel : kitB "int" "bool" = some false)
  | .str _ => (by decide +kernel : kitB "str" "bool" = some false)
  | .list _ => (by decide +kernel : kitB "list" "bool" = some false)
  | .tuple _ => (by decide +kernel : kitB "tuple" "bool" = some false)
  | .dict _ => (by decide +kernel : kitB "dict" "bool" = some false)
def isListB : D → Bool
  | .list _ => true
  | _ => false
theorem kit_list : ∀ d : D, kitB (tyN d) "list" = some (isListB d)
  | .none => (by decide +kernel : kitB "NoneType" "list" = some false)
  | .bool _ => (by decide +kernel : kitB "bool" "list" = some false)
  | .int _ => (by decide +kernel : kitB "int" "list" = some false)
  | .str _ => (by decide +kernel : kitB "str" "list" = some false)
  | .list _ => (by decide +kernel : kitB "list" "list" = some true)
  | .tuple _ => (by decide +kernel : kitB "tuple" "list" = some false)
  | .dict _ => (by decide +kernel : kitB "dict" "list" = some false)
def isTupB : D → Bool
  | .tuple _ => true
  | _ => false
theorem kit_tuple : ∀ d : D, kitB (tyN d) "tuple" = some (isTupB d)
  | .none => (by decide +kernel : kitB "NoneType" "tuple" = some false)
  | .bool _ => (by decide +kernel : kitB "bool" "tuple" = some false)
  | .int _ => (by decide +kernel : kitB "int" "tuple" = some false)
  | .str _ => (by decide +kernel : kitB "str" "tuple" = some false)
  | .list _ => (by decide +kernel : kitB "list" "tuple" = some false)
  | .tuple _ => (by decide +kernel : kitB "tuple" "tuple" = some true)
  | .dict _ => (by decide +kernel : kitB "dict" "tuple" = some false)
def isStrB : D → Bool
  | .str _ => true
  | _ => false
theorem kit_str : ∀ d : D, kitB (tyN d) "str" = some (isStrB d)
  | .none => (by decide +kernel : kitB "NoneType" "str" = some false)
  | .bool _ => (by decide +kernel : kitB "bool" "str" = some false)
  | .int _ => (by decide +kernel : kitB "int" "str" = some false)
  | .str _ => (by decide +kernel : kitB "str" "str" = some true)
  | .list _ => (by decide +kernel : kitB "list" "str" = some false)
  | .tuple _ => (by decide +kernel : kitB "tuple" "str" = some false)
  | .dict _ => (by decide +kernel : kitB "dict" "str" = some false)
/-- a def of the top -/
structure Tp (K : PySem.W.Frag) (mg : Str → Option Value) (x : Str) (st : Stmt) where
  a : Addr
  fd : FuncData
  F : Fun K x x st a fd
  g : mg x = some (.ref a)
/-- .. with what it promises -/
structure Df (P : Program) (w : World) (K : PySem.W.Frag) (mg : Str → Option Value) (base : Heap) (x : Str) (k : Nat) (ps : List Str) (sp : Sp) where
  a : Addr
  fd : FuncData
  kp : PySem.W.keepIn K (.ref a) = true
  g : mg x = some (.ref a)
  G : FnOk P w K mg base CX0 k a fd ps sp
  b : Binds K fd ps []
/-- a promise by a function -/
abbrev spG (n : Nat) (pre : List D → Prop) (f : List D → Sl) : Sp := spF n pre fun ds r => r = f ds
section
variable {ρ : List Sl} {ta tb tc te : TE} {c : TT} {t u : TS} {d x y : D} {r : Sl} {Dn : DE}
theorem evo_callF {n : Nat} {pre : List D → Prop} {f : List D → Sl} {E : XK} {tr : TA} {ds : List D} (h : EvL tr ρ ds) (hn : ds.length = n) (hp : pre ds) (hr : f ds = r) : EvO (tCall (spG n pre f) [] E tr) ρ r :=
  evo_call h hn hp fun r' e => e.trans hr
theorem evo_callFT {n : Nat} {pre : List D → Prop} {f : List D → Sl} {E : XK} {tr : TA} {ds : List D} (h : EvLt tr ρ ds) (hn : ds.length = n) (hp : pre ds) (hr : f ds = r) (hf : r.flat) : EvO (tCall (spG n pre f) [] E tr) ρ r :=
  evo_callT h hn hp (fun r' e => e.trans hr) hf
theorem evb_or1 {tt u' : TT} (h1 : EvB tt ρ true) : EvB (tOr tt u') ρ true := evb_or (b := false) h1 fun z => by cases z
theorem evb_orF {tt u' : TT} {b : Bool} (h1 : EvB tt ρ false) (h2 : EvB u' ρ b) : EvB (tOr tt u') ρ b := evb_or h1 fun _ => h2
theorem evb_andF {tt u' : TT} (h1 : EvB tt ρ false) : EvB (tAnd tt u') ρ false := evb_and (b := false) h1 fun z => by cases z
theorem evb_andT {tt u' : TT} {b : Bool} (h1 : EvB tt ρ true) (h2 : EvB u' ρ b) : EvB (tAnd tt u') ρ b := evb_and h1 fun _ => h2
theorem evo_andF (h1 : EvO ta ρ (.d (.bool false))) : EvO (tAndV ta tb) ρ (.d (.bool false)) := evo_and (b := false) h1 fun z => by cases z
theorem evo_andT {b : Bool} (h1 : EvO ta ρ (.d (.bool true))) (h2 : EvO tb ρ (.d (.bool b))) : EvO (tAndV ta tb) ρ (.d (.bool b)) := evo_and h1 fun _ => h2
def lexLe (p q : Int × Int) : Bool := decide (p.1 < q.1 ∨ (p.1 = q.1 ∧ p.2 ≤ q.2))
theorem rp_pair {H : Hp} {v : V} {p : Int × Int} (h : Rp H v (pairD p)) : ∃ a, v = .ref a ∧ H a = some (.tup ([p.1, p.2].map V.int)) := by
  cases h with
  | @tup a us _ g1 g2 =>
    cases g2 with
    | cons a1 a2 => cases a2 with
      | cons b1 b2 => cases a1; cases b1; cases b2; exact ⟨a, rfl, g1⟩
theorem evo_leT {p q : Int × Int} (ha : EvT ta ρ (pairD p)) (hb : EvT tb ρ (pairD q)) : EvO (tOp (rLeT kf.K) ta tb) ρ (.d (.bool (lexLe p q))) := fun S0 H0 S H σ Q o q' =>
  ha S0 H0 S H σ _ o fun v S1 H1 x1 h1 => hb S0 H0 S1 H1 σ _ (o.ext x1) fun u S2 H2 x2 h2 => by
    obtain ⟨a, rfl, e1⟩ := rp_pair h1
    obtain ⟨b, rfl, e2⟩ := rp_pair h2
    refine ⟨a, b, _, _, rfl, rfl, .inl (.of (x2.hh _ _ e1)), .inl (.of e2), ?_⟩
    refine fin_flat q' (x1.trans x2) rfl ?_
    show some (PyData.bool _) = some (PyData.bool _)
    congr 2
    simp only [List.length_cons, List.length_nil, Nat.min_self, Ob.lexAt_succ, Ob.lexAt_zero, List.getD_cons_zero, List.getD_cons_succ, lexLe, decide_eq_true_eq, Nat.le_refl, decide_true, Nat.zero_add]
    by_cases c1 : p.1 = q.1
    · by_cases c2 : p.2 = q.2
      · simp [c1, c2]
      · simp [c1, c2]
    · have : ¬ p.1 = q.1 := c1
      simp only [c1, if_false, false_and, or_false]
      congr 1
      apply propext
      omega
end
end PL

namespace PL
open PySem L2

/-! ### plain data: None, ints, lists and tuples of such, at most n deep -/
def pl : Nat → D → Bool
  | _, .none => true
  | _, .int _ => true
  | n + 1, .list xs => xs.all (pl n)
  | n + 1, .tuple xs => xs.all (pl n)
  | _, _ => false
theorem pl_all {n : Nat} {xs : List D} (h : xs.all (pl n) = true) : ∀ x ∈ xs, pl n x = true := List.all_eq_true.mp h
theorem lay_all {n : Nat} (ih : ∀ d : D, pl n d = true → d.canLay0 = true ∧ d.depth ≤ n) : ∀ xs : List D, (∀ x ∈ xs, pl n x = true) → PyData.canLayAll0 xs = true ∧ PyData.depthAll xs ≤ n
  | [], _ => ⟨by simp [PyData.canLayAll0], by simp [PyData.depthAll]⟩
  | x :: xs, h => by
    obtain ⟨a, b⟩ := ih x (h x List.mem_cons_self)
    obtain ⟨c, d⟩ := lay_all ih xs fun y hy => h y (List.mem_cons_of_mem _ hy)
    refine ⟨by simp [PyData.canLayAll0, a, c], ?_⟩
    simp only [PyData.depthAll]
    omega
theorem pl_lay : ∀ (n : Nat) (d : D), pl n d = true → d.canLay0 = true ∧ d.depth ≤ n
  | n, .none, _ => ⟨by simp [PyData.canLay0], by simp [PyData.depth]⟩
  | n, .int _, _ => ⟨by simp [PyData.canLay0], by simp [PyData.depth]⟩
  | 0, .list _, h => by simp [pl] at h
  | 0, .tuple _, h => by simp [pl] at h
  | n + 1, .list xs, h => by
    obtain ⟨a, b⟩ := lay_all (pl_lay n) xs (pl_all (by simpa [pl] using h))
    exact ⟨by simp [PyData.canLay0, a], by simp only [PyData.depth]; omega⟩
  | n + 1, .tuple xs, h => by
    obtain ⟨a, b⟩ := lay_all (pl_lay n) xs (pl_all (by simpa [pl] using h))
    exact ⟨by simp [PyData.canLay0, a], by simp only [PyData.depth]; omega⟩
  | 0, .bool _, h => by simp [pl] at h
  | 0, .str _, h => by simp [pl] at h
  | 0, .dict _, h => by simp [pl] at h
  | n + 1, .bool _, h => by simp [pl] at h
  | n + 1, .str _, h => by simp [pl] at h
  | n + 1, .dict _, h => by simp [pl] at h
theorem pl_sh {n : Nat} {d : D} (h : pl n d = true) (hn : n ≤ 64 := by decide) : SeqAt.shaped d = true := by
  obtain ⟨a, b⟩ := pl_lay n d h
  unfold SeqAt.shaped
  rw [a, Bool.true_and, decide_eq_true_eq]
  omega
theorem eqv_all {n : Nat} (ih : ∀ (d e : D) (m : Nat), pl n d = true → pl m e = true → PyData.eqv d e = true → d = e) : ∀ (xs ys : List D) (m : Nat), (∀ x ∈ xs, pl n x = true) → (∀ y ∈ ys, pl m y = true) → PyData.eqvAll xs ys = true → xs = ys
  | [], [], _, _, _, _ => rfl
  | [], _ :: _, _, _, _, h => by simp [PyData.eqvAll] at h
  | _ :: _, [], _, _, _, h => by simp [PyData.eqvAll] at h
  | x :: xs, y :: ys, m, h1, h2, h => by
    simp only [PyData.eqvAll, Bool.and_eq_true] at h
    rw [ih x y m (h1 x List.mem_cons_self) (h2 y List.mem_cons_self) h.1, eqv_all ih xs ys m (fun z hz => h1 z (List.mem_cons_of_mem _ hz)) (fun z hz => h2 z (List.mem_cons_of_mem _ hz)) h.2]
theorem pl_eqv1 : ∀ (n : Nat) (d e : D) (m : Nat), pl n d = true → pl m e = true → PyData.eqv d e = true → d = e
  | n, .none, e, m, h1, h2, h => by cases e <;> simp [PyData.eqv] at h ⊢
  | n, .int i, e, m, h1, h2, h => by
    cases e with
    | int j => simp [PyData.eqv] at h; rw [h]
    | bool b => cases m <;> simp [pl] at h2
    | _ => simp [PyData.eqv] at h
  | 0, .list _, _, _, h1, _, _ => by simp [pl] at h1
  | 0, .tuple _, _, _, h1, _, _ => by simp [pl] at h1
  | n + 1, .list xs, e, m, h1, h2, h => by
    cases e with
    | list ys =>
      cases m with
      | zero => simp [pl] at h2
      | succ m =>
        simp only [PyData.eqv] at h
        rw [eqv_all (pl_eqv1 n) xs ys m (pl_all (by simpa [pl] using h1)) (pl_all (by simpa [pl] using h2)) h]
    | _ => simp [PyData.eqv] at h
  | n + 1, .tuple xs, e, m, h1, h2, h => by
    cases e with
    | tuple ys =>
      cases m with
      | zero => simp [pl] at h2
      | succ m =>
        simp only [PyData.eqv] at h
        rw [eqv_all (pl_eqv1 n) xs ys m (pl_all (by simpa [pl] using h1)) (pl_all (by simpa [pl] using h2)) h]
    | _ => simp [PyData.eqv] at h
  | 0, .bool _, _, _, h1, _, _ => by simp [pl] at h1
  | 0, .str _, _, _, h1, _, _ => by simp [pl] at h1
  | 0, .dict _, _, _, h1, _, _ => by simp [pl] at h1
  | n + 1, .bool _, _, _, h1, _, _ => by simp [pl] at h1
  | n + 1, .str _, _, _, h1, _, _ => by simp [pl] at h1
  | n + 1, .dict _, _, _, h1, _, _ => by simp [pl] at h1
theorem pl_eqv {n m : Nat} {d e : D} (h1 : pl n d = true) (h2 : pl m e = true) : PyData.eqv d e = true ↔ d = e :=
  ⟨pl_eqv1 n d e m h1 h2, fun h => by subst h; exact SeqAt.eqv_refl _ (pl_lay n d h1).1⟩
theorem pl_eqv_self {n : Nat} {d : D} (h1 : pl n d = true) : PyData.eqv d d = true := (pl_eqv h1 h1).mpr rfl
theorem pl_list {n : Nat} {xs : List D} (h : ∀ x ∈ xs, pl n x = true) : pl (n + 1) (.list xs) = true := by
  show xs.all (pl n) = true
  exact List.all_eq_true.mpr h
theorem pl_tup {n : Nat} {xs : List D} (h : ∀ x ∈ xs, pl n x = true) : pl (n + 1) (.tuple xs) = true := by
  show xs.all (pl n) = true
  exact List.all_eq_true.mpr h
theorem pl_int {n : Nat} {i : Int} : pl n (.int i) = true := by cases n <;> rfl
theorem pl_none {n : Nat} : pl n .none = true := by cases n <;> rfl
theorem pl_pair {n : Nat} {p : Int × Int} : pl (n + 1) (pairD p) = true := by
  show [PyData.int p.1, .int p.2].all (pl n) = true
  simp [pl_int]
theorem pl_ints {n : Nat} {ns : List Int} : pl (n + 1) (.list (ns.map .int)) = true := pl_list fun x hx => by
  obtain ⟨i, _, rfl⟩ := List.mem_map.mp hx
  exact pl_int
theorem pl_pairs {n : Nat} {ps : List (Int × Int)} : pl (n + 2) (.list (ps.map pairD)) = true := pl_list fun x hx => by
  obtain ⟨i, _, rfl⟩ := List.mem_map.mp hx
  exact pl_pair
theorem pairD_inj {p q : Int × Int} (h : pairD p = pairD q) : p = q := by
  cases p; cases q
  simp [pairD] at h
  simp [h]
theorem any_pair (ts : List (Int × Int)) (p : Int × Int) : ((ts.map pairD).any fun z => PyData.eqv z (pairD p)) = decide (p ∈ ts) := by
  rw [Bool.eq_iff_iff, List.any_eq_true, decide_eq_true_eq]
  constructor
  · rintro ⟨z, hz, e⟩
    obtain ⟨q, hq, rfl⟩ := List.mem_map.mp hz
    rw [← pairD_inj ((pl_eqv (n := 1) (m := 1) pl_pair pl_pair).mp e)]
    exact hq
  · intro h
    exact ⟨pairD p, List.mem_map.mpr ⟨p, h, rfl⟩, pl_eqv_self (n := 1) pl_pair⟩
/-- told apart as data -/
theorem evo_inP [kf : KF] {ρ : List Sl} {ta tb : TE} {ts : List (Int × Int)} {p : Int × Int} (ha : EvT ta ρ (pairD p)) (hb : EvT tb ρ (.list (ts.map pairD))) : EvO (tOp (rInD kf.K) ta tb) ρ (.d (.bool (decide (p ∈ ts)))) :=
  evo_is (evo_inD ha hb (pl_sh (n := 1) pl_pair) (pl_sh (n := 2) pl_pairs)) (by rw [any_pair])
theorem set_map_range {α : Type} {n a : Nat} {F : Nat → α} {v : α} : ((List.range n).map F).set a v = (List.range n).map fun j => if j = a then v else F j := by
  apply List.ext_getElem?
  intro k
  by_cases e : a = k
  · subst e
    by_cases h : a < n
    · rw [List.getElem?_set_self (by simpa using h), List.getElem?_map, List.getElem?_range h]
      simp
    · rw [List.getElem?_eq_none (by simpa using h), List.getElem?_eq_none (by simpa using h)]
  · rw [List.getElem?_set_ne e, List.getElem?_map, List.getElem?_map]
    cases q : (List.range n)[k]? with
    | none => rfl
    | some j =>
      have : j = k := by
        have hk := (List.getElem?_eq_some_iff.mp q).1
        rw [List.getElem?_range (by simpa using hk)] at q
        exact (Option.some.inj q).symm
      subst this
      simp [show ¬ j = a from fun z => e z.symm]
theorem get_map_range {α : Type} {n a : Nat} {F : Nat → α} (h : a < n) : ((List.range n).map F)[a]? = some (F a) := by
  rw [List.getElem?_map, List.getElem?_range h]
  rfl
end PL

namespace PL
open PySem L2

def g11 {α : Type} : List α → List α → List α
  | [a], [b] => [a, b]
  | _, _ => []
theorem g11_rel : ∀ {vs : List V} {us : List Value} {zs : List V} {ws : List Value}, Vals vs us → Vals zs ws → Vals (g11 vs zs) (g11 us ws)
  | _, _, _, _, .nil, _ => .nil
  | _, _, _, _, .cons a .nil, .nil => .nil
  | _, _, _, _, .cons a .nil, .cons b .nil => .cons a (.cons b .nil)
  | _, _, _, _, .cons a .nil, .cons b (.cons c t) => .nil
  | _, _, _, _, .cons a (.cons b t), _ => .nil
section
variable [kf : KF] {ρ : List Sl} {ta tb tc te : TE} {c : TT} {t u : TS} {d x y : D} {r : Sl} {Dn : DE}
theorem evp_callK11 {n : Nat} {pre : List D → Prop} {post : List D → Sl → Prop} {E : XK} {tr tk : TA} (h : EvL tr ρ [x]) (h' : EvL tk ρ [y]) (hn : [x, y].length = n) (hp : pre [x, y]) : EvP (tCallK (spF n pre post) g11 E tr tk) ρ (post [x, y]) := fun S0 H0 S H σ Q o q =>
  h S0 H0 S H σ _ o fun vs S1 H1 x1 h1 => h' S0 H0 S1 H1 σ _ (o.ext x1) fun zs S2 H2 x2 h2 => by
    cases h1 with
    | cons a1 b1 =>
      cases b1
      cases h2 with
      | cons a2 b2 =>
        cases b2
        exact ⟨S2, [x, y], hn, x2.sh, .cons (dp_mono x2.ss _ _ a1) (.cons a2 .nil), hp, fun r v H' S' A p x3 hs nd fr => q v S' H' r A p ((x1.trans x2).trans x3) hs nd fun a ha => (x1.trans x2).hh.free (fr a ha)⟩
theorem evo_callK11 {n : Nat} {pre : List D → Prop} {post : List D → Sl → Prop} {E : XK} {tr tk : TA} (h : EvL tr ρ [x]) (h' : EvL tk ρ [y]) (hn : [x, y].length = n) (hp : pre [x, y]) (hr : ∀ r', post [x, y] r' → r' = r) : EvO (tCallK (spF n pre post) g11 E tr tk) ρ r :=
  evp_mono (evp_callK11 h h' hn hp) hr
theorem evo_neB {a b : Bool} (ha : EvT ta ρ (.bool a)) (hb : EvT tb ρ (.bool b)) : EvO (tOp rNe ta tb) ρ (.d (.bool (!decide (a = b)))) := fun S0 H0 S H σ Q o q =>
  ha S0 H0 S H σ _ o fun v S1 H1 x1 h1 => hb S0 H0 S1 H1 σ _ (o.ext x1) fun u S2 H2 x2 h2 => by
    cases h1; cases h2
    refine ⟨rfl, ?_⟩
    have e : decide (V.bl a = V.bl b) = decide (a = b) := by simp
    rw [e]
    exact fin_flat q (x1.trans x2) rfl rfl
theorem evo_eqB {a b : Bool} (ha : EvT ta ρ (.bool a)) (hb : EvT tb ρ (.bool b)) : EvO (tOp rEq ta tb) ρ (.d (.bool (decide (a = b)))) := fun S0 H0 S H σ Q o q =>
  ha S0 H0 S H σ _ o fun v S1 H1 x1 h1 => hb S0 H0 S1 H1 σ _ (o.ext x1) fun u S2 H2 x2 h2 => by
    cases h1; cases h2
    refine ⟨rfl, ?_⟩
    have e : decide (V.bl a = V.bl b) = decide (a = b) := by simp
    rw [e]
    exact fin_flat q (x1.trans x2) rfl rfl
/-- equal, unequal plain data -/
theorem evo_eqP {n m : Nat} (ha : EvT ta ρ d) (hb : EvT tb ρ x) (h1 : pl n d = true) (h2 : pl m x = true) {b : Bool} (hb' : (d = x) ↔ b = true) (hn : n ≤ 64 := by decide) (hm : m ≤ 64 := by decide) : EvO (tOp (rEqD kf.K) ta tb) ρ (.d (.bool b)) :=
  evo_is (evo_eqD ha hb (pl_sh h1 hn) (pl_sh h2 hm)) (by
    congr 2
    rw [Bool.eq_iff_iff, pl_eqv h1 h2, hb'])
theorem evo_neP {n m : Nat} (ha : EvT ta ρ d) (hb : EvT tb ρ x) (h1 : pl n d = true) (h2 : pl m x = true) {b : Bool} (hb' : (d = x) ↔ b = false) (hn : n ≤ 64 := by decide) (hm : m ≤ 64 := by decide) : EvO (tOp (rNeD kf.K) ta tb) ρ (.d (.bool b)) :=
  evo_is (evo_neD ha hb (pl_sh h1 hn) (pl_sh h2 hm)) (by
    congr 2
    rw [Bool.eq_iff_iff, Bool.not_eq_true', Bool.eq_false_iff, ne_eq, pl_eqv h1 h2, hb']
    cases b <;> simp)
theorem run_reverse {i : Nat} {xs : List D} (h : ρ[i]? = some (.own xs)) (k : Dn.nx (ρ.set i (.own xs.reverse))) : Run (tDrop (tBM0 kf.K "list" rReverse (tVar i))) Dn ρ := fun S0 H0 S H σ E o q1 q2 q3 q4 => by
  obtain ⟨a, vs, e1, e2, e3, e4, e5⟩ := ok_set o h
  refine ⟨_, e1, .inl ⟨rfl, _, .inl (.inl e2)⟩, a, vs, rfl, rfl, e2, ?_⟩
  exact q1 S _ σ _ (Same.refl S) (e5 (.refl o.sh) (dpa_reverse e4)) k
theorem run_clear {i : Nat} {xs : List D} (h : ρ[i]? = some (.own xs)) (k : Dn.nx (ρ.set i (.own []))) : Run (tDrop (tBM0 kf.K "list" rClear (tVar i))) Dn ρ := fun S0 H0 S H σ E o q1 q2 q3 q4 => by
  obtain ⟨a, vs, e1, e2, e3, e4, e5⟩ := ok_set o h
  refine ⟨_, e1, .inl ⟨rfl, _, .inl (.inl e2)⟩, a, vs, rfl, rfl, e2, ?_⟩
  exact q1 S _ σ _ (Same.refl S) (e5 (.refl o.sh) .nil) k
end
/-- a turn of a range -/
theorem range_at {lo : Int} {n i : Nat} {x : D} (h : ((List.range n).map fun (i : Nat) => PyData.int (lo + (i : Int)))[i]? = some x) : x = .int (lo + (i : Int)) ∧ i < n := by
  rw [List.getElem?_map] at h
  have hi : i < n := by
    cases q : (List.range n)[i]? with
    | none => rw [q] at h; cases h
    | some j => have := (List.getElem?_eq_some_iff.mp q).1; simpa using this
  rw [List.getElem?_range hi] at h
  exact ⟨(Option.some.inj h).symm, hi⟩
theorem map_at {α : Type} {f : α → D} {xs : List α} {i : Nat} {y : D} (h : (xs.map f)[i]? = some y) : ∃ x, xs[i]? = some x ∧ y = f x := by
  rw [List.getElem?_map] at h
  cases q : xs[i]? with
  | none => rw [q] at h; cases h
  | some t => rw [q] at h; exact ⟨t, rfl, (Option.some.inj h).symm⟩
theorem at_map {α : Type} {f : α → D} {xs : List α} {i : Nat} {x : α} (h : xs[i]? = some x) : atI (xs.map f) (i : Int) = some (f x) := atI_nat (by rw [List.getElem?_map, h]; rfl)
end PL

namespace PL
open PySem L2

theorem lex_uniq : ∀ {a b : List (Int × Int)}, Lex a → Lex b → a.Perm b → a = b
  | [], b, _, _, h => h.nil_eq
  | x :: a, [], _, _, h => absurd h.length_eq (by simp)
  | x :: a, y :: b, ha, hb, h => by
    have ha' := List.pairwise_cons.mp ha
    have hb' := List.pairwise_cons.mp hb
    have e : x = y := by
      rcases List.mem_cons.mp (h.mem_iff.mp (List.mem_cons_self (a := x) (l := a))) with e | hx
      · exact e
      · rcases List.mem_cons.mp (h.mem_iff.mpr (List.mem_cons_self (a := y) (l := b))) with e | hy
        · exact e.symm
        · have c1 := hb'.1 x hx
          have c2 := ha'.1 y hy
          have h1 : x.1 = y.1 := by omega
          have h2 : x.2 = y.2 := by omega
          exact Prod.ext h1 h2
    subst e
    rw [lex_uniq ha'.2 hb'.2 h.cons_inv]
def insL (x : Int × Int) : List (Int × Int) → List (Int × Int)
  | [] => [x]
  | y :: ys => if lexLe x y then x :: y :: ys else y :: insL x ys
theorem insL_perm (x : Int × Int) : ∀ ys, (insL x ys).Perm (x :: ys)
  | [] => .refl _
  | y :: ys => by
    unfold insL
    split
    · exact .refl _
    · exact ((insL_perm x ys).cons y).trans (List.Perm.swap x y ys)
theorem insL_lex (x : Int × Int) : ∀ ys, Lex ys → Lex (insL x ys)
  | [], _ => List.pairwise_singleton _ _
  | y :: ys, h => by
    have h' := List.pairwise_cons.mp h
    unfold insL
    split
    · rename_i c
      have c := of_decide_eq_true c
      refine List.pairwise_cons.mpr ⟨fun z hz => ?_, h⟩
      rcases List.mem_cons.mp hz with rfl | hz
      · exact c
      · have := h'.1 z hz
        omega
    · rename_i c
      have c : ¬ (x.1 < y.1 ∨ x.1 = y.1 ∧ x.2 ≤ y.2) := fun z => c (decide_eq_true z)
      refine List.pairwise_cons.mpr ⟨fun z hz => ?_, insL_lex x ys h'.2⟩
      rcases List.mem_cons.mp ((insL_perm x ys).mem_iff.mp hz) with rfl | hz
      · omega
      · exact h'.1 z hz
def srtL : List (Int × Int) → List (Int × Int)
  | [] => []
  | x :: xs => insL x (srtL xs)
theorem srtL_perm : ∀ xs, (srtL xs).Perm xs
  | [] => .refl _
  | x :: xs => (insL_perm x (srtL xs)).trans ((srtL_perm xs).cons x)
theorem srtL_lex : ∀ xs, Lex (srtL xs)
  | [] => .nil
  | x :: xs => insL_lex x _ (srtL_lex xs)
theorem evo_sortedDT [kf : KF] {ρ : List Sl} {i : Nat} {ks : List (Int × Int)} (h : ρ[i]? = some (.dct ks)) : EvO (tCB rSortedDT (tCons (tVar i) tNil)) ρ (.own ((srtL ks).map pairD)) :=
  evp_mono (evp_sortedDT h) fun r p => by
    obtain ⟨ps, h1, h2, rfl⟩ := p
    rw [lex_uniq h1 (srtL_lex ks) (h2.trans (srtL_perm ks).symm)]
theorem insK_nodup {ks : List (Int × Int)} {k : Int × Int} (h : ks.Nodup) : (insK ks k).Nodup := by
  unfold insK
  split
  · exact h
  · rename_i c
    refine List.nodup_append.mpr ⟨h, by simp, fun a ha b hb e => ?_⟩
    subst e
    rw [List.mem_singleton.mp hb] at ha
    exact c ha
theorem insK_len (ks : List (Int × Int)) (k : Int × Int) : (insK ks k).length ≤ ks.length + 1 := by
  unfold insK
  split
  · omega
  · simp
theorem insK_mem {ks : List (Int × Int)} {k q : Int × Int} (h : q ∈ insK ks k) : q ∈ ks ∨ q = k := by
  unfold insK at h
  split at h
  · exact .inl h
  · rcases List.mem_append.mp h with h | h
    · exact .inl h
    · exact .inr (List.mem_singleton.mp h)
theorem lex_strict {ps : List (Int × Int)} (h : Lex ps) (nd : ps.Nodup) : ps.Pairwise fun p q => p.1 < q.1 ∨ (p.1 = q.1 ∧ p.2 < q.2) := by
  refine (h.and nd).imp fun {p q} c => ?_
  have c1 : p.1 < q.1 ∨ (p.1 = q.1 ∧ p.2 ≤ q.2) := c.1
  have c2 : p.1 = q.1 → p.2 = q.2 → False := fun a b => c.2 (Prod.ext a b)
  rcases c1 with c | ⟨c, d⟩
  · exact .inl c
  · have : p.2 ≠ q.2 := fun z => c2 c z
    exact .inr ⟨c, by omega⟩
theorem run_asgTP [kf : KF] {ρ : List Sl} {te : TE} {Dn : DE} {g : TG} {P : Sl → Prop} (h : EvP te ρ P) (k : ∀ r, P r → ∃ x ρ' js, r = .d x ∧ TgD g x ρ ρ' js ∧ Dn.nx ρ') : Run (tAsg te g) Dn ρ := fun S0 H0 S H σ E o q1 q2 q3 q4 =>
  h S0 H0 S H σ _ o fun v S' H' r A p xt hs _ _ => by
    obtain ⟨x, ρ', js, rfl, ht, kk⟩ := k r p
    cases hs with
    | d hs => exact ht S0 H0 S' H' σ _ v (o.ext xt) hs fun σ' o' _ _ => q1 S' H' σ' ρ' xt.ss o' kk
theorem cutD_at {xs : List D} {a b i : Nat} {x : D} (h : (cutD xs (some (a : Int)) (some (b : Int)))[i]? = some x) : xs[a + i]? = some x ∧ i < b - a := by
  unfold cutD at h
  rw [show HT.sIx xs.length 0 (some (a : Int)) = min a xs.length from HT.sIx_nat _ _ _, show HT.sIx xs.length xs.length (some (b : Int)) = min b xs.length from HT.sIx_nat _ _ _] at h
  have hi : i < min b xs.length - min a xs.length := by
    have := (List.getElem?_eq_some_iff.mp h).1
    rw [List.length_take, List.length_drop] at this
    omega
  rw [List.getElem?_take_of_lt hi, List.getElem?_drop] at h
  have : min a xs.length = a := by omega
  rw [this] at h
  exact ⟨h, by omega⟩
theorem cutD_len (xs : List D) (a b : Nat) : (cutD xs (some (a : Int)) (some (b : Int))).length ≤ b - a := by
  unfold cutD
  rw [show HT.sIx xs.length 0 (some (a : Int)) = min a xs.length from HT.sIx_nat _ _ _, show HT.sIx xs.length xs.length (some (b : Int)) = min b xs.length from HT.sIx_nat _ _ _, List.length_take, List.length_drop]
  omega

/-! ### rules with the written part named (within a comprehension's block) -/
section
variable {X : Cx} {K : PySem.W.Frag} (hK : X.K = K)
include hK
theorem ix_listK : IxR X (rIxL K) := by subst hK; exact ix_list
theorem ix_tupK : IxR X (rIxT K) := by subst hK; exact ix_tup
theorem sl_listK : SlR X (rSlL K) := by subst hK; exact sl_list
theorem call_len_seqK : CallR X (.builtin "len") (fun xs H Q => ∃ p ys, xs = [V.ref p] ∧ (SqL K H p ys ∨ SqT K H p ys) ∧ Q (.int ys.length) H) := by subst hK; exact call_len_seq
theorem call_list_ofK : CallR X (.type "list") (fun xs H Q => ∃ p ys, xs = [V.ref p] ∧ (SqL K H p ys ∨ SqT K H p ys) ∧ ∀ l, H l = none → Q (.ref l) (upd H l (.lst ys))) := by subst hK; exact call_list_of
theorem call_isiKK : CallR X (.builtin "isinstance") (rIsi K) := by subst hK; exact call_isi
theorem op_eqDK (hu : X.A.units + 64 < cLine) : OpR X (compareOp .Eq) (rEqD K) := by subst hK; exact op_eqD hu
theorem op_neDK (hu : X.A.units + 64 < cLine) : OpR X (compareOp .NotEq) (rNeD K) := by subst hK; exact op_neD hu
theorem op_inDK (hu : X.A.units + 65 < cLine) : OpR X (compareOp .In) (rInD K) := by subst hK; exact op_inD hu
theorem op_notInDK (hu : X.A.units + 65 < cLine) : OpR X (compareOp .NotIn) (rNotInD K) := by subst hK; exact op_notInD hu
theorem op_catRK : OpR X (binaryOp .Add) (rCatR K) := by subst hK; exact op_catR
theorem op_leTK (hu : X.A.units < cLine) : OpR X (compareOp .LtE) (rLeT K) := by subst hK; exact op_leT hu
theorem cr_allK (hc : X.calm = true) : CallR X (.builtin "all") (rAll K) := by subst hK; exact cr_all hc
theorem cr_minK (hc : X.calm = true) : CallR X (.builtin "min") (rMin K) := by subst hK; exact cr_min hc
theorem cr_sortedIK : CallR X (.builtin "sorted") (rSortedI K) := by subst hK; exact cr_sortedI
theorem pi_listK {tg l : Expr} {tl : TE} (hl : PE X l tl) : PI X tg l (iList K tl) := by subst hK; exact pi_list hl
theorem pg_tupK {pos : Pos} {es : List Expr} {k : Nat} {t : TGs} {n : Nat} (hc : X.calm = true) (h : PGs X es t)
    (hn : (assignEach es X.env).length = n := by rfl) (hst : (assignEach es X.env).findIdx? (·.1) = none := by rfl) : PG X (.Tuple es k pos) (gTup K n t) := by subst hK; exact pg_tup hc h hn hst
end
end PL

namespace PL
open PySem PySem.Spec PyProof.Rows L2

/-! tuples walked, joined, looked through; a list unpacked; set(tuple) and its sorted list -/
section
variable [kf : KF] {ρ : List Sl} {ta tb te : TE} {x : D}
theorem any_ints {ns : List Int} {k : Int} : inV (.int k) (ns.map V.int) = decide (k ∈ ns) := by
  unfold inV
  induction ns with
  | nil => rfl
  | cons n ns ih =>
    rw [List.map_cons, List.any_cons, ih]
    show ((n == k) || decide (k ∈ ns)) = _
    by_cases h : n = k
    · subst h; simp
    · simp [h, show ¬ k = n from fun z => h z.symm]
theorem flat_ints {ns : List Int} : (ns.map V.int).all flatV = true := by
  rw [List.all_eq_true]
  intro v hv
  obtain ⟨i, _, rfl⟩ := List.mem_map.mp hv
  rfl
/-- k in a tuple of ints -/
theorem evo_inT {neg : Bool} {ns : List Int} {k : Int} (ha : EvT ta ρ (.int k)) (hb : EvT tb ρ (.tuple (ns.map .int))) : EvO (tOp (rIn kf.K neg) ta tb) ρ (.d (.bool (if neg then !decide (k ∈ ns) else decide (k ∈ ns)))) := fun S0 H0 S H σ Q o q =>
  ha S0 H0 S H σ _ o fun v S1 H1 x1 r1 => hb S0 H0 S1 H1 σ _ (o.ext x1) fun u S2 H2 x2 r2 => by
    cases r1
    cases r2 with
    | tup h1 h2 =>
      have e := dpa_ints h2
      subst e
      refine ⟨_, _, rfl, .inr (.inl (.of h1)), rfl, flat_ints, ?_⟩
      rw [any_ints]
      cases neg <;> exact fin_flat q (x1.trans x2) rfl rfl
theorem evo_inLi {neg : Bool} {ns : List Int} {k : Int} (ha : EvT ta ρ (.int k)) (hb : EvT tb ρ (.list (ns.map .int))) : EvO (tOp (rIn kf.K neg) ta tb) ρ (.d (.bool (if neg then !decide (k ∈ ns) else decide (k ∈ ns)))) := fun S0 H0 S H σ Q o q =>
  ha S0 H0 S H σ _ o fun v S1 H1 x1 r1 => hb S0 H0 S1 H1 σ _ (o.ext x1) fun u S2 H2 x2 r2 => by
    cases r1
    cases r2 with
    | lst h1 h2 =>
      have e := dpa_ints h2
      subst e
      refine ⟨_, _, rfl, .inl h1, rfl, flat_ints, ?_⟩
      rw [any_ints]
      cases neg <;> exact fin_flat q (x1.trans x2) rfl rfl
theorem jd_tup {S : Hp} {a : Addr} {vs : List V} {ds : List D} (h : S a = some (.tup vs)) (hr : RpAll S vs ds) : JD S (Itt kf.K a) ds := fun S1 H1 s1 sh => by
  have h1 : H1 a = some (.tup vs) := sh _ _ (s1 _ _ h)
  have h2 : SqT kf.K H1 a vs := .inl (.of h1)
  refine ⟨⟨vs, h2, by rw [dpa_length hr]; exact Nat.le_refl _⟩, fun i x e => ?_⟩
  obtain ⟨v, e1, e2⟩ := dpa_get hr e
  refine ⟨⟨vs, v, h2, e1⟩, fun w H2 y => ?_⟩
  obtain ⟨rfl, y⟩ := y
  have : some w = some v := (y vs h2).symm.trans e1
  cases this
  exact ⟨S1, .refl sh, dp_mono s1 _ _ e2⟩
theorem it_tup {ds : List D} (h : EvO te ρ (.d (.tuple ds))) : IterD (iTup kf.K te) ρ ds := fun S0 H0 S H σ R o q =>
  h S0 H0 S H σ _ o fun v S' H' r A er xt hs _ _ => by
    subst er
    cases hs with
    | d hs =>
      cases hs with
      | tup r1 r2 => exact ⟨_, rfl, ⟨_, .inl (.of (xt.sh _ _ r1))⟩, q _ S' H' xt (jd_tup r1 r2)⟩
theorem evo_catT {xs ys : List D} (ha : EvO ta ρ (.d (.tuple xs))) (hb : EvO tb ρ (.d (.tuple ys))) (h1 : xs ≠ []) (h2 : ys ≠ []) (hz : xs.length + ys.length ≤ sizeLine) : EvO (tOp (rCatT kf.K) ta tb) ρ (.d (.tuple (xs ++ ys))) := fun S0 H0 S H σ Q o q =>
  ha S0 H0 S H σ _ o fun v S1 H1 r A er x1 hs _ _ => hb S0 H0 S1 H1 σ _ (o.ext x1) fun u S2 H2 r' A' er' x2 hs' _ _ => by
    subst er er'
    cases hs with
    | d hs =>
      cases hs with
      | @tup a vs _ t1 t2 =>
        cases hs' with
        | d hs' =>
          cases hs' with
          | @tup b us _ u1 u2 =>
            have l1 := dpa_length t2
            have l2 := dpa_length u2
            have n1 : vs ≠ [] := fun z => h1 (List.eq_nil_of_length_eq_zero (by rw [← l1, z]; rfl))
            have n2 : us ≠ [] := fun z => h2 (List.eq_nil_of_length_eq_zero (by rw [← l2, z]; rfl))
            refine ⟨a, b, vs, us, rfl, rfl, .inl (.of (x2.hh _ _ (x1.sh _ _ t1))), .inl (.of (x2.sh _ _ u1)), n1, by rw [l1, l2]; exact hz, fun z => absurd z n2, fun _ p hp => ?_⟩
            exact q _ (upd S2 p (.tup (vs ++ us))) _ _ [] rfl ((x1.trans x2).trans (.newS x2.sh hp)) (.d (.tup upd_same (dpa_mono (Xt.newS x2.sh hp).ss _ _ (dpa_append (dpa_mono x2.ss _ _ t2) u2)))) List.nodup_nil (fun a ha => by cases ha)
theorem tg_unl {gs : TGs} {xs : List D} {ρ' : List Sl} {js : List Nat} {n : Nat} (h : TgDs gs xs ρ ρ' js) (hn : xs.length = n) : TgD (gUnl kf.K n gs) (.list xs) ρ ρ' js := fun S0 H0 S H σ Q v o hv q => by
  cases hv with
  | lst r1 r2 => exact ⟨_, _, rfl, o.sh.seq r1, (dpa_length r2).trans hn, h S0 H0 S H σ Q _ o r2 q⟩
theorem tg_unl2 {i j : Nat} {x y : D} : TgD (gUnl kf.K 2 (gCons (gName i) (gCons (gName j) gNil))) (.list [x, y]) ρ ((ρ.set i (.d x)).set j (.d y)) ([i] ++ ([j] ++ [])) := tg_unl (tgs_cons tg_name (tgs_cons tg_name tgs_nil)) rfl
end
/-- set(a tuple of ints) -/
def rSetTup (K : PySem.W.Frag) (w : World) : List V → Hp → VK → Prop := fun xs H Q => ∃ (l : Addr) (ns : List Int), xs = [.ref l] ∧ SqT K H l (ns.map V.int) ∧ ns.length ≤ 1000 ∧ ∀ (p : Addr) (c : Nat), c ≤ ns.length → H p = none → Q (.ref p) (upd H p (SetO w p (fun j => decide (j ∈ ns)) c))
theorem cr_setTup {X : Cx} (hc : X.calm = true) : CallR X (.type "set") (rSetTup X.K X.w) := by
  intro pins s σ H xs us Q I r h
  obtain ⟨l, ns, rfl, hq, hl, q⟩ := h
  obtain ⟨u, rfl, ru⟩ := vals1 r
  obtain rfl : u = Value.ref l := ru
  obtain ⟨its, rv, pt, hz⟩ := I.tuple hq
  have hi : IntsAre its.toArray.toList ns := ints_of_vals rv
  have hd := I.ok.hd hc
  refine call_set_tupI ns hd (show s.heap.IsTuple l its.toArray from pt) hi (by unfold scanBound; omega) fun h' tk c R1 hcn k => ?_
  exact ⟨.ref _, upd H s.heap.objs.size (SetO X.w s.heap.objs.size (fun j => decide (j ∈ ns)) c), I.laid (t' := tk) k (Nat.le_refl _) (setO_new R1), rfl, q _ c hcn (I.hok.fresh (Nat.le_refl _))⟩
section
variable [kf : KF] {ρ : List Sl} {te : TE}
theorem evp_sortedSet {w : World} {ns : List Int} (ha : EvT te ρ (.tuple (ns.map .int))) (hl : ns.length < 64) :
    EvP (tCB (rSortedSet w) (tCons (tCB (rSetTup kf.K w) (tCons te tNil)) tNil)) ρ (fun r => ∃ ms : List Int, r = .own (ms.map .int) ∧ ms.Pairwise (· < ·) ∧ (∀ k, k ∈ ms ↔ k ∈ ns) ∧ ms.length ≤ ns.length) := fun S0 H0 S H σ Q o q =>
  ha S0 H0 S H σ _ o fun v S1 H1 x1 h => by
    cases h with
    | tup h1 h2 =>
      have e := dpa_ints h2
      subst e
      refine ⟨_, ns, rfl, .inl (.of h1), by omega, fun p c hc hp => ?_⟩
      refine ⟨p, _, c, rfl, upd_same, by omega, fun ms p' h3 h4 h5 hp' => ?_⟩
      have xa : Xt S1 H1 S1 (upd H1 p (SetO w p (fun j => decide (j ∈ ns)) c)) := .new x1.sh hp
      have xb := xa.trans (.new (p := p') (o := .lst (ms.map V.int)) xa.sh hp')
      refine q _ S1 _ _ [p'] ⟨ms, rfl, h3, fun k => by rw [h4]; simp, by omega⟩ (x1.trans xb) (.own (xa.sh.free hp') upd_same (dpa_of_ints ms)) (by simp) fun b hb => ?_
      rw [List.mem_singleton.mp hb]
      exact (x1.trans xa).hh.free hp'
end
section
variable {X : Cx} {K : PySem.W.Frag} (hK : X.K = K)
include hK
theorem op_in_seqK : OpR X (compareOp .In) (rIn K false) := by subst hK; exact op_in_seq
theorem op_notIn_seqK : OpR X (compareOp .NotIn) (rIn K true) := by subst hK; exact op_notIn_seq
theorem op_catTK : OpR X (binaryOp .Add) (rCatT K) := by subst hK; exact op_catT
end
end PL

namespace PL
open PySem PySem.Spec PyProof.Rows L2
section
variable {X : Cx} {a b c d : Expr} {pos : Pos} {ta tb tc td : TE}
/-- a op1 b op2 c op3 d -/
def tCh3 (r r' r'' : R2) (ta tb tc td : TE) : TE := fun σ H Q => ta σ H fun x H1 => tb σ H1 fun y H2 => r x y H2 fun z H3 => ∃ k, z = .bl k ∧
  (if k = true then tc σ H3 fun w H4 => r' y w H4 fun z' H5 => ∃ k', z' = .bl k' ∧ (if k' = true then td σ H5 fun u H6 => r'' w u H6 Q else Q (.bl false) H5) else Q (.bl false) H3)
theorem pe_ch3 {op op' op'' : CmpOp} {r r' r'' : R2} (ho : OpR X (compareOp op) r) (ho' : OpR X (compareOp op') r') (ho'' : OpR X (compareOp op'') r'') (ha : PE X a ta) (hb : PE X b tb) (hc : PE X c tc) (hd : PE X d td)
    (hm : lastMarks [op, op', op''] [b, c, d] = false := by with_unfolding_all rfl) : PE X (.Compare a [op, op', op''] [b, c, d] pos) (tCh3 r r' r'' ta tb tc td) := by
  refine ⟨fun pins s σ H Q I h => ?_⟩
  refine Compare_chain (thn (ha.run pins s σ H _ I h) fun v1 s1 ⟨x, H1, I1, r1, q1⟩ => chain_link (thn (hb.run pins s1 σ H1 _ I1 q1) fun v2 s2 ⟨y, H2, I2, r2, q2⟩ =>
    thn (ho pins s2 σ H2 x y v1 v2 _ I2 r1 r2 q2) fun v3 s3 ⟨z, H3, I3, r3, k, e, q3⟩ => ?_)) hm
  subst e
  cases r3
  refine wpAny_truthy_bool ?_
  cases k with
  | false => exact ite_ff ⟨.bl false, H3, I3, rfl, q3⟩
  | true =>
    refine ite_tt (chain_link (thn (hc.run pins s3 σ H3 _ I3 q3) fun v4 s4 ⟨z4, H4, I4, r4, q4⟩ =>
      thn (ho' pins s4 σ H4 y z4 v2 v4 _ I4 r2 r4 q4) fun v5 s5 ⟨z5, H5, I5, r5, k5, e5, q5⟩ => ?_))
    subst e5
    cases r5
    refine wpAny_truthy_bool ?_
    cases k5 with
    | false => exact ite_ff ⟨.bl false, H5, I5, rfl, q5⟩
    | true => exact ite_tt (chain_last (thn (hd.run pins s5 σ H5 _ I5 q5) fun v6 s6 ⟨z6, H6, I6, r6, q6⟩ => ho'' pins s6 σ H6 z4 z6 v4 v6 Q I6 r4 r6 q6))
end
variable [kf : KF]
section
variable {ta tb tc td : TE} {ρ : List Sl}
theorem evo_ch3I {g g' g'' : Int → Int → Bool} {i j k l : Int} (ha : EvT ta ρ (.int i)) (hb : EvT tb ρ (.int j)) (hc : EvT tc ρ (.int k)) (hd : EvT td ρ (.int l)) :
    EvO (tCh3 (rI0 fun i j => .bl (g i j)) (rI0 fun i j => .bl (g' i j)) (rI0 fun i j => .bl (g'' i j)) ta tb tc td) ρ (.d (.bool (g i j && (g' j k && g'' k l)))) := fun S0 H0 S H σ Q o q =>
  ha S0 H0 S H σ _ o fun v S1 H1 x1 h1 => hb S0 H0 S1 H1 σ _ (o.ext x1) fun u S2 H2 x2 h2 => by
    cases h1; cases h2
    refine ⟨i, j, rfl, rfl, g i j, rfl, ?_⟩
    cases hg : g i j with
    | true =>
      refine iteT ?_
      refine hc S0 H0 S2 H2 σ _ (o.ext (x1.trans x2)) fun w S3 H3 x3 h3 => ?_
      cases h3
      refine ⟨j, k, rfl, rfl, g' j k, rfl, ?_⟩
      cases hg' : g' j k with
      | true =>
        refine iteT ?_
        refine hd S0 H0 S3 H3 σ _ (o.ext ((x1.trans x2).trans x3)) fun w S4 H4 x4 h4 => ?_
        cases h4
        refine ⟨k, l, rfl, rfl, ?_⟩
        rw [hg, hg'] at q
        exact fin_flat q (((x1.trans x2).trans x3).trans x4) rfl rfl
      | false =>
        refine iteF ?_
        rw [hg, hg'] at q
        exact fin_flat q ((x1.trans x2).trans x3) rfl rfl
    | false =>
      refine iteF ?_
      rw [hg] at q
      exact fin_flat q (x1.trans x2) rfl rfl
end
end PL

namespace k23n
open PySem L2 PL
local macro_rules | `(tactic| walk_at "sd") => `(tactic| first | rfl | assumption | omega | decide)
end k23n
namespace k23n
open PySem L2 PL
def topS (i : Nat) : Stmt := PySem.Challenge.pw_webtimes_k23_far_links.main.body.getD i (.Pass ⟨0, 0, 0, 0⟩)
abbrev s_is_whole : Stmt := topS 8
theorem sc_is_whole : FnScope ["thing"] ["thing"] (defScope s_is_whole) := ⟨rfl, rfl, rfl, by decide +kernel, rfl, by decide +kernel, by decide +kernel⟩
abbrev s_joins_places : Stmt := topS 9
theorem sc_joins_places : FnScope ["many", "thing", "one", "other"] ["many", "thing"] (defScope s_joins_places) := ⟨rfl, rfl, rfl, by decide +kernel, rfl, by decide +kernel, by decide +kernel⟩
abbrev s_web_fault : Stmt := topS 10
theorem sc_web_fault : FnScope ["thing", "many", "ties", "at", "tie"] ["thing"] (defScope s_web_fault) := ⟨rfl, rfl, rfl, by decide +kernel, rfl, by decide +kernel, by decide +kernel⟩
abbrev s_look_at_web : Stmt := topS 11
theorem sc_look_at_web : FnScope ["thing", "fault", "part", "number"] ["thing"] (defScope s_look_at_web) := ⟨rfl, rfl, rfl, by decide +kernel, rfl, by decide +kernel, by decide +kernel⟩
abbrev s_is_tie : Stmt := topS 12
theorem sc_is_tie : FnScope ["web", "thing"] ["web", "thing"] (defScope s_is_tie) := ⟨rfl, rfl, rfl, by decide +kernel, rfl, by decide +kernel, by decide +kernel⟩
abbrev s_look_at_tie : Stmt := topS 13
theorem sc_look_at_tie : FnScope ["web", "thing"] ["web", "thing"] (defScope s_look_at_tie) := ⟨rfl, rfl, rfl, by decide +kernel, rfl, by decide +kernel, by decide +kernel⟩
abbrev s_beside_all : Stmt := topS 14
theorem sc_beside_all : FnScope ["web", "many", "ties", "beside", "_", "one", "other"] ["web"] (defScope s_beside_all) := ⟨rfl, rfl, rfl, by decide +kernel, rfl, by decide +kernel, by decide +kernel⟩
abbrev s_far_from : Stmt := topS 16
theorem sc_far_from : FnScope ["beside", "place", "far", "_", "steps", "ring", "next_ring", "here", "there"] ["beside", "place"] (defScope s_far_from) := ⟨rfl, rfl, rfl, by decide +kernel, rfl, by decide +kernel, by decide +kernel⟩
abbrev s_far_table : Stmt := topS 17
theorem sc_far_table : FnScope ["beside", "place"] ["beside"] (defScope s_far_table) := ⟨rfl, rfl, rfl, by decide +kernel, rfl, by decide +kernel, by decide +kernel⟩
abbrev s_hangs : Stmt := topS 18
theorem sc_hangs : FnScope ["web"] ["web"] (defScope s_hangs) := ⟨rfl, rfl, rfl, by decide +kernel, rfl, by decide +kernel, by decide +kernel⟩
abbrev s_refuse_apart : Stmt := topS 19
theorem sc_refuse_apart : FnScope ["webs", "web"] ["webs"] (defScope s_refuse_apart) := ⟨rfl, rfl, rfl, by decide +kernel, rfl, by decide +kernel, by decide +kernel⟩
abbrev s_look_at_hanging : Stmt := topS 20
theorem sc_look_at_hanging : FnScope ["thing"] ["thing"] (defScope s_look_at_hanging) := ⟨rfl, rfl, rfl, by decide +kernel, rfl, by decide +kernel, by decide +kernel⟩
abbrev s_far_linked : Stmt := topS 22
theorem sc_far_linked : FnScope ["far", "tie", "other", "x", "y", "u", "v"] ["far", "tie", "other"] (defScope s_far_linked) := ⟨rfl, rfl, rfl, by decide +kernel, rfl, by decide +kernel, by decide +kernel⟩
abbrev s_is_far : Stmt := topS 23
theorem sc_is_far : FnScope ["web", "tie", "other"] ["web", "tie", "other"] (defScope s_is_far) := ⟨rfl, rfl, rfl, by decide +kernel, rfl, by decide +kernel, by decide +kernel⟩
abbrev s__law_cell_at : Stmt := topS 25
theorem sc__law_cell_at : FnScope ["_law_script", "_law_k"] ["_law_script", "_law_k"] (defScope s__law_cell_at) := ⟨rfl, rfl, rfl, by decide +kernel, rfl, by decide +kernel, by decide +kernel⟩
abbrev s__law_numbers : Stmt := topS 26
theorem sc__law_numbers : FnScope ["_law_cell", "_law_salt", "_law_sizes", "_law_number", "_law_left", "_law_found", "_law_k", "_law_one"] ["_law_cell", "_law_salt", "_law_sizes"] (defScope s__law_numbers) := ⟨rfl, rfl, rfl, by decide +kernel, rfl, by decide +kernel, by decide +kernel⟩
abbrev s__law_web : Stmt := topS 27
theorem sc__law_web : FnScope ["_law_cell", "_law_salt", "_law_most", "_law_more", "_law_many", "_law_sizes", "_law_k", "_law_digits", "_law_names", "_law_order", "_law_pairs", "_law_digit", "_law_ties", "_law_one", "_law_other"] ["_law_cell", "_law_salt", "_law_most", "_law_more"] (defScope s__law_web) := ⟨rfl, rfl, rfl, by decide +kernel, rfl, by decide +kernel, by decide +kernel⟩
abbrev s__law_one_web : Stmt := topS 28
theorem sc__law_one_web : FnScope ["_law_script", "_law_k", "_law_salt", "_law_head", "_law_most", "_law_more"] ["_law_script", "_law_k", "_law_salt"] (defScope s__law_one_web) := ⟨rfl, rfl, rfl, by decide +kernel, rfl, by decide +kernel, by decide +kernel⟩
abbrev s__law_beside : Stmt := topS 29
theorem sc__law_beside : FnScope ["_law_web_here", "_law_found", "_law_place", "_law_one", "_law_other", "_law_places"] ["_law_web_here"] (defScope s__law_beside) := ⟨rfl, rfl, rfl, by decide +kernel, rfl, by decide +kernel, by decide +kernel⟩
abbrev s__law_far : Stmt := topS 30
theorem sc__law_far : FnScope ["_law_beside_here", "_law_place", "_law_found", "_law_row", "_law_at", "_law_other"] ["_law_beside_here", "_law_place"] (defScope s__law_far) := ⟨rfl, rfl, rfl, by decide +kernel, rfl, by decide +kernel, by decide +kernel⟩
abbrev s__law_is_far : Stmt := topS 31
theorem sc__law_is_far : FnScope ["_law_beside_here", "_law_tie", "_law_other", "_law_one", "_law_two"] ["_law_beside_here", "_law_tie", "_law_other"] (defScope s__law_is_far) := ⟨rfl, rfl, rfl, by decide +kernel, rfl, by decide +kernel, by decide +kernel⟩
abbrev s_law : Stmt := topS 32
theorem sc_law : FnScope ["_law_script", "_law_k", "_law_web_here", "_law_handed", "_law_beside_here", "_law_digits", "_law_at", "_law_tie", "_law_other", "_law_due", "_law_found", "_law_square"] ["_law_script"] (defScope s_law) := ⟨rfl, rfl, rfl, by decide +kernel, rfl, by decide +kernel, by decide +kernel⟩
structure Bn (mg : Str → Option Value) : Prop where
  n_bool : mg "bool" = none
  c_MOST_PLACES : ∃ t, mg "MOST_PLACES" = some (.int 40 t)
  c_MOST_TIES : ∃ t, mg "MOST_TIES" = some (.int 120 t)
  n_enumerate : mg "enumerate" = none
  n_int : mg "int" = none
  n_isinstance : mg "isinstance" = none
  n_len : mg "len" = none
  n_list : mg "list" = none
  n_max : mg "max" = none
  n_min : mg "min" = none
  n_range : mg "range" = none
  n_sorted : mg "sorted" = none
  n_tuple : mg "tuple" = none

/-! ### webs: data -/
def isWhole : D → Bool
  | .int _ => true
  | _ => false
def isPlace (m : Int) : D → Bool
  | .int i => decide (0 ≤ i) && decide (i < m)
  | _ => false
def ltB : D → D → Bool
  | .int i, .int j => decide (i < j)
  | _, _ => false
def joinsB (m : Int) : D → Bool
  | .tuple [a, b] => isPlace m a && (isPlace m b && ltB a b)
  | _ => false
theorem isPlace_int {m : Int} {x : D} (h : isPlace m x = true) : ∃ i, x = .int i ∧ 0 ≤ i ∧ i < m := by
  cases x <;> simp [isPlace] at h
  exact ⟨_, rfl, h.1, h.2⟩
theorem joinsB_pair {m : Int} {x : D} (h : joinsB m x = true) : ∃ p : Int × Int, x = pairD p ∧ 0 ≤ p.1 ∧ p.1 < p.2 ∧ p.2 < m := by
  unfold joinsB at h
  split at h
  · simp only [Bool.and_eq_true] at h
    obtain ⟨h1, h2, h3⟩ := h
    obtain ⟨i, rfl, a1, a2⟩ := isPlace_int h1
    obtain ⟨j, rfl, b1, b2⟩ := isPlace_int h2
    exact ⟨(i, j), rfl, a1, of_decide_eq_true h3, b2⟩
  · cases h
def leT : D → D → Bool
  | .tuple [.int a, .int b], .tuple [.int c, .int d] => lexLe (a, b) (c, d)
  | _, _ => false
def badAt (m : Int) (ts : List D) (i : Nat) : Bool := !joinsB m (ts.getD i .none) || (decide (0 < i) && leT (ts.getD i .none) (ts.getD (i - 1) .none))
def inR : D → Bool
  | .int m => decide (1 ≤ m) && decide (m ≤ 40)
  | _ => false
def faultD : D → D
  | .tuple [mm, tt] => if inR mm then match mm, tt with
      | .int m, .list ts => if 120 < ts.length then .tuple [.str "ties", .none] else match (List.range ts.length).find? (badAt m ts) with
        | some i => .tuple [.str "ties", .int (i : Nat)]
        | none => .none
      | _, _ => .tuple [.str "ties", .none]
    else .tuple [.str "places", .none]
  | _ => .tuple [.str "web", .none]
def riseB (m : Int) : D → D → Bool
  | .int i, .int j => decide (0 ≤ i) && (decide (i < j) && decide (j < m))
  | _, _ => false
theorem isWhole_int {x : D} (h : isWhole x = true) : ∃ i, x = .int i := by
  cases x <;> simp [isWhole] at h
  exact ⟨_, rfl⟩
theorem joins_rise {m : Int} {a b : D} : (isWhole a && (isWhole b && riseB m a b)) = joinsB m (.tuple [a, b]) := by
  cases a <;> cases b <;> simp [isWhole, riseB, joinsB, isPlace, ltB]
  rename_i i j
  rw [Bool.eq_iff_iff]
  simp only [Bool.and_eq_true, decide_eq_true_eq]
  omega
section
variable {P : Program} {w : World} [kf : KF] {mg : Str → Option Value} {base : Heap}
abbrev sp_is_whole : Sp := spG 1 (fun _ => True) fun ds => .d (.bool (isWhole (ds.getD 0 .none)))
theorem ok_is_whole (B : Bn mg) (T : Tp kf.K mg "is_whole" s_is_whole) : FnOk P w kf.K mg base CX0 1 T.a T.fd ["thing"] sp_is_whole := by
  refine T.F.ok sc_is_whole (spF_len rfl) fun cdv A outer s H vs Q E hr h => ⟨_, (pss_one (ps_ret (pe_and (pe_callB call_isi (by rfl) B.n_isinstance (by decide +kernel) (pa_cons (pv 0) (pa_cons (pe_bltn (v := .ty "int") (u := .type "int") (by rfl) B.n_int (by decide +kernel) rfl) pa_nil))) (pe_one (pe_not (pe_callB call_isi (by rfl) B.n_isinstance (by decide +kernel) (pa_cons (pv 0) (pa_cons (pe_bltn (v := .ty "bool") (u := .type "bool") (by rfl) B.n_bool (by decide +kernel) rfl) pa_nil)))))))), run_def h fun ds hn hp => ?_⟩
  obtain ⟨x, rfl⟩ : ∃ x, ds = [x] := by
    match ds, hn with
    | [x], _ => exact ⟨x, rfl⟩
  refine run_ret (r := .d (.bool (isWhole x))) ?_ rfl
  refine evo_is (evo_and (evo_isi (evt_var rfl rfl) (kit_int x)) fun _ => evo_not (evo_isi (evt_var rfl rfl) (kit_bool x))) ?_
  cases x <;> rfl
abbrev sp_joins_places : Sp := spG 2 (fun ds => ∃ m x, ds = [.int m, x]) fun ds => match ds with
  | [.int m, x] => .d (.bool (joinsB m x))
  | _ => .no
theorem ok_joins_places (B : Bn mg) (T : Tp kf.K mg "joins_places" s_joins_places) (d_is_whole : Df P w kf.K mg base "is_whole" 1 ["thing"] sp_is_whole) : FnOk P w kf.K mg base CX0 3 T.a T.fd ["many", "thing"] sp_joins_places := by
  refine T.F.ok sc_joins_places (spF_len rfl) fun cdv A outer s H vs Q E hr h => ⟨_, (pss_cons (ps_if (PW.pt (pw_or (pt_not (pt_val (pe_callB call_isi (by rfl) B.n_isinstance (by decide +kernel) (pa_cons (pv 1) (pa_cons (pe_bltn (v := .ty "tuple") (u := .type "tuple") (by rfl) B.n_tuple (by decide +kernel) rfl) pa_nil))))) (pw_or1 (pt_cmpR op_ne (pe_callB call_len_seq (by rfl) B.n_len PySem.boot_len (pa_cons (pv 1) pa_nil)) pe_int (nomark _)))))
 (pss_one (ps_ret pe_bl))
 pss_nil)
 (pss_cons (ps_asg (pv 1) (pg_tup rfl (pgs_cons (pg_name (i := 2) sc_joins_places.nd rfl (Or.inl rfl)) (pgs_cons (pg_name (i := 3) sc_joins_places.nd rfl (Or.inl rfl)) pgs_nil))))
 (pss_one (ps_ret (pe_and (pe_call d_is_whole.G (hr.mono (by decide)) (by rfl) d_is_whole.g d_is_whole.kp d_is_whole.b .nil pass0 (pa_cons (pv 2) pa_nil)) (pe_and (pe_call d_is_whole.G (hr.mono (by decide)) (by rfl) d_is_whole.g d_is_whole.kp d_is_whole.b .nil pass0 (pa_cons (pv 3) pa_nil)) (pe_one (pe_ch3 op_le op_lt op_lt pe_int (pv 2) (pv 3) (pv 0))))))))), run_def h fun ds hn hp => ?_⟩
  obtain ⟨m, x, rfl⟩ := hp
  refine run_seq ?_
  by_cases ht : isTupB x = true
  · cases x with
    | tuple xs =>
      refine run_if (evb_orF (evb_is (evb_not (evb_B (evo_isi (evt_var rfl rfl) (kit_tuple _)))) rfl) (evb_test (evo_neI (evt_of (evo_lenT (evt_var rfl rfl)) rfl) (evt_of (evo_c rfl) rfl)))) (fun hb => ?_) (fun hb => ?_)
      · refine run_ret (evo_c rfl) ?_
        match xs, hb with
        | [], _ => rfl
        | [_], _ => rfl
        | _ :: _ :: _ :: _, _ => rfl
      · match xs, hb with
        | [], hb => simp at hb
        | [_], hb => simp at hb
        | _ :: _ :: _ :: _, hb => simp at hb; omega
        | [a, b], _ =>
          refine run_next (run_seq (run_asgT (evo_var rfl) tg_two (run_ret (r := .d (.bool (joinsB m (.tuple [a, b])))) ?_ rfl)))
          refine evo_is (evo_and (a := isWhole a) (b := isWhole b && riseB m a b) (evo_callF (pre := fun _ => True) (f := fun ds => .d (.bool (isWhole (ds.getD 0 .none)))) (n := 1) (evl_cons (evo_var rfl) evl_nil) rfl trivial rfl) fun h1 => evo_and (a := isWhole b) (b := riseB m a b) (evo_callF (pre := fun _ => True) (f := fun ds => .d (.bool (isWhole (ds.getD 0 .none)))) (n := 1) (evl_cons (evo_var rfl) evl_nil) rfl trivial rfl) fun h2 => ?_) (by rw [joins_rise])
          obtain ⟨i, rfl⟩ := isWhole_int h1
          obtain ⟨j, rfl⟩ := isWhole_int h2
          exact evo_ch3I (evt_of (evo_c rfl) rfl) (evt_var rfl rfl) (evt_var rfl rfl) (evt_var rfl rfl)
    | _ => cases ht
  · have hf : isTupB x = false := by simpa using ht
    refine run_if (b := true) (evb_or1 (evb_is (evb_not (evb_B (evo_isi (evt_var rfl rfl) (kit_tuple _)))) (by rw [hf]; rfl))) (fun _ => run_ret (evo_c rfl) ?_) (fun z => by cases z)
    cases x with
    | tuple xs => cases hf
    | _ => rfl
end

end k23n
namespace k23n
open PySem L2 PL
section
variable {P : Program} {w : World} [kf : KF] {mg : Str → Option Value} {base : Heap}
end
theorem faultD_list {m : Int} {ts : List D} (hw : inR (.int m) = true) : faultD (.tuple [.int m, .list ts]) = if 120 < ts.length then .tuple [.str "ties", .none] else match (List.range ts.length).find? (badAt m ts) with
        | some i => .tuple [.str "ties", .int (i : Nat)]
        | none => .none := by
  show (if inR (.int m) = true then _ else _) = _
  exact (if_pos hw).trans (by rfl)
theorem faultD_places {mm tt : D} (hw : ¬ inR mm = true) : faultD (.tuple [mm, tt]) = .tuple [.str "places", .none] := by
  show (if inR mm = true then _ else _) = _
  rw [if_neg hw]
theorem faultD_ties {m : Int} {tt : D} (hw : inR (.int m) = true) (hf : isListB tt = false) : faultD (.tuple [.int m, tt]) = .tuple [.str "ties", .none] := by
  show (if inR (.int m) = true then _ else _) = _
  rw [if_pos hw]
  cases tt with
  | list ts => cases hf
  | _ => rfl
theorem find_first {f : Nat → Bool} {n i : Nat} (hl : i < n) (h : f i = true) (hn : ∀ j, j < i → f j = false) : (List.range n).find? f = some i := by
  rw [List.find?_range_eq_some]
  exact ⟨h, List.mem_range.mpr hl, fun j hj => by rw [hn j hj]; rfl⟩
section
variable {P : Program} {w : World} [kf : KF] {mg : Str → Option Value} {base : Heap}
abbrev sp_web_fault : Sp := spG 1 (fun _ => True) fun ds => .d (faultD (ds.getD 0 .none))
end
theorem faultD_web {x : D} (h : ∀ a b, x ≠ .tuple [a, b]) : faultD x = .tuple [.str "web", .none] := by
  unfold faultD
  split
  · exact (h _ _ rfl).elim
  · rfl
section
variable {P : Program} {w : World} [kf : KF] {mg : Str → Option Value} {base : Heap}
theorem ok_web_fault (B : Bn mg) (T : Tp kf.K mg "web_fault" s_web_fault) (d_is_whole : Df P w kf.K mg base "is_whole" 1 ["thing"] sp_is_whole) (d_joins_places : Df P w kf.K mg base "joins_places" 3 ["many", "thing"] sp_joins_places) :
    FnOk P w kf.K mg base CX0 4 T.a T.fd ["thing"] sp_web_fault := by
  refine T.F.ok sc_web_fault (spF_len rfl) fun cdv A outer s H vs Q E hr h => ⟨_, (pss_cons (ps_if (PW.pt (pw_or (pt_not (pt_val (pe_callB call_isi (by rfl) B.n_isinstance (by decide +kernel) (pa_cons (pv 0) (pa_cons (pe_bltn (v := .ty "tuple") (u := .type "tuple") (by rfl) B.n_tuple (by decide +kernel) rfl) pa_nil))))) (pw_or1 (pt_cmpR op_ne (pe_callB call_len_seq (by rfl) B.n_len PySem.boot_len (pa_cons (pv 0) pa_nil)) pe_int (nomark _)))))
 (pss_one (ps_ret (pe_tup (pa_cons pe_str (pa_cons pe_non pa_nil)))))
 pss_nil)
 (pss_cons (ps_asg (pv 0) (pg_tup rfl (pgs_cons (pg_name (i := 1) sc_web_fault.nd rfl (Or.inl rfl)) (pgs_cons (pg_name (i := 2) sc_web_fault.nd rfl (Or.inl rfl)) pgs_nil))))
 (pss_cons (ps_if (PW.pt (pw_or (pt_not (pt_val (pe_call d_is_whole.G (hr.mono (by decide)) (by rfl) d_is_whole.g d_is_whole.kp d_is_whole.b .nil pass0 (pa_cons (pv 1) pa_nil)))) (pw_or1 (pt_not (pt_chain op_le op_le pe_int (pv 1) (pe_glob (v := .int 40) rfl B.c_MOST_PLACES.choose_spec ⟨_, rfl⟩))))))
 (pss_one (ps_ret (pe_tup (pa_cons pe_str (pa_cons pe_non pa_nil)))))
 pss_nil)
 (pss_cons (ps_if (PW.pt (pw_or (pt_not (pt_val (pe_callB call_isi (by rfl) B.n_isinstance (by decide +kernel) (pa_cons (pv 2) (pa_cons (pe_bltn (v := .ty "list") (u := .type "list") (by rfl) B.n_list (by decide +kernel) rfl) pa_nil))))) (pw_or1 (pt_cmpR op_gt (pe_callB call_len_seq (by rfl) B.n_len PySem.boot_len (pa_cons (pv 2) pa_nil)) (pe_glob (v := .int 120) rfl B.c_MOST_TIES.choose_spec ⟨_, rfl⟩) (nomark _)))))
 (pss_one (ps_ret (pe_tup (pa_cons pe_str (pa_cons pe_non pa_nil)))))
 pss_nil)
 (pss_cons (ps_for PassesOwn.never rfl (pi_enum (by rfl) B.n_enumerate (pa_cons (pv 2) pa_nil)) (pg_tup rfl (pgs_cons (pg_name (i := 3) sc_web_fault.nd rfl (Or.inl rfl)) (pgs_cons (pg_name (i := 4) sc_web_fault.nd rfl (Or.inl rfl)) pgs_nil)))
 (pss_one (ps_if (PW.pt (pw_or (pt_not (pt_val (pe_call d_joins_places.G (hr.mono (by decide)) (by rfl) d_joins_places.g d_joins_places.kp d_joins_places.b .nil pass0 (pa_cons (pv 1) (pa_cons (pv 4) pa_nil))))) (pw_or1 (PW.pt (pw_and (pt_cmpR op_gt (pv 3) pe_int (nomark _)) (pw_and1 (pt_cmpR (op_leT hr.units0) (pv 4) (pe_ix ix_list (pv 2) (pe_op op_sub (pv 3) pe_int) (fun _ _ => rfl)) (nomark _))))))))
 (pss_one (ps_ret (pe_tup (pa_cons pe_str (pa_cons (pv 3) pa_nil)))))
 pss_nil)))
 (pss_one (ps_ret pe_non))))))), run_def h fun ds hn hp => ?_⟩
  obtain ⟨x, rfl⟩ : ∃ x, ds = [x] := by
    match ds, hn with
    | [x], _ => exact ⟨x, rfl⟩
  refine run_seq ?_
  have two : ∀ {ρ : List Sl} {s : Str} {y : D}, y = .tuple [.str s, .none] → EvO (tTup (tCons (tC (.str s)) (tCons (tC .non) tNil))) ρ (.d y) := fun e => by
    subst e
    exact evo_tup (evl_cons (evo_c rfl) (evl_cons (evo_c rfl) evl_nil)) (sz_of (show 2 ≤ 1000000 by decide))
  by_cases ht : ∃ a b, x = .tuple [a, b]
  · obtain ⟨mm, tt, rfl⟩ := ht
    refine run_if (b := false) (evb_orF (evb_is (evb_not (evb_B (evo_isi (evt_var rfl rfl) (kit_tuple _)))) rfl) (evb_is (evb_test (evo_neI (evt_of (evo_lenT (evt_var rfl rfl)) rfl) (evt_of (evo_c rfl) rfl))) rfl)) (fun z => by cases z) (fun _ => ?_)
    refine run_next (run_seq (run_asgT (evo_var rfl) tg_two (run_seq ?_)))
    by_cases hw : inR mm = true
    · cases mm with
      | int m =>
        have hw' : 1 ≤ m ∧ m ≤ 40 := by simpa [inR] using hw
        refine run_if (b := false) (evb_orF (evb_is (evb_not (evb_B (evo_callF (evl_cons (evo_var rfl) evl_nil) rfl trivial rfl))) rfl) (evb_is (evb_not (evb_test (evo_chainI (evt_of (evo_c rfl) rfl) (evt_var rfl rfl) (evt_of (evo_c rfl) rfl)))) (by simp [hw']))) (fun z => by cases z) (fun _ => ?_)
        refine run_next (run_seq ?_)
        by_cases hl : isListB tt = true
        · cases tt with
          | list ts =>
            refine run_if (evb_orF (evb_is (evb_not (evb_B (evo_isi (evt_var rfl rfl) (kit_list _)))) rfl) (evb_test (evo_I0 (evt_of (evo_lenL (evt_var rfl rfl)) rfl) (evt_of (evo_c rfl) rfl) rfl))) (fun hb => ?_) (fun hb => ?_)
            · have hb := of_decide_eq_true hb
              refine run_ret (two rfl) ?_
              show _ = Sl.d (faultD (.tuple [.int m, .list ts]))
              rw [faultD_list hw, if_pos (by omega)]
            · have hb := of_decide_eq_false hb
              have h120 : ts.length ≤ 120 := by omega
              refine run_next (run_seq (run_for (it_enum (evo_var rfl)) (fun i ρ' => (∃ s3 s4, ρ' = [.d (.tuple [.int m, .list ts]), .d (.int m), .d (.list ts), s3, s4]) ∧ ∀ j, j < i → badAt m ts j = false) ⟨⟨_, _, rfl⟩, fun j hj => absurd hj (Nat.not_lt_zero _)⟩ (fun i y ρ' hy hI => ?_) (fun ρ' hI => ?_)))
              · obtain ⟨⟨s3, s4, rfl⟩, hI⟩ := hI
                obtain ⟨t, ht, rfl⟩ : ∃ t, ts[i]? = some t ∧ y = .tuple [.int (i : Nat), t] := by
                  rw [List.getElem?_map, List.getElem?_zipIdx] at hy
                  cases q : ts[i]? with
                  | none => rw [q] at hy; cases hy
                  | some t =>
                    rw [q] at hy
                    simp at hy
                    exact ⟨t, rfl, hy.symm⟩
                have hl := (List.getElem?_eq_some_iff.mp ht).1
                have hg : ts.getD i .none = t := by rw [List.getD_eq_getElem?_getD, ht]; rfl
                refine ⟨_, _, tg_two, ?_⟩
                have found : badAt m ts i = true → Sl.d (.tuple [.str "ties", .int (i : Nat)]) = Sl.d (faultD (.tuple [.int m, .list ts])) := fun hb2 => by
                  rw [faultD_list hw, if_neg (by omega), find_first hl hb2 hI]
                have pass : badAt m ts i = false → (∃ s3 s4, [Sl.d (.tuple [.int m, .list ts]), .d (.int m), .d (.list ts), .d (.int (i : Nat)), .d t] = [.d (.tuple [.int m, .list ts]), .d (.int m), .d (.list ts), s3, s4]) ∧ ∀ j, j < i + 1 → badAt m ts j = false := fun hb2 => ⟨⟨_, _, rfl⟩, fun j hj => by
                  by_cases e : j = i
                  · subst e; exact hb2
                  · exact hI j (by omega)⟩
                have told : EvO (tTup (tCons (tC (.str "ties")) (tCons (tVar 3) tNil))) [Sl.d (.tuple [.int m, .list ts]), .d (.int m), .d (.list ts), .d (.int (i : Nat)), .d t] (.d (.tuple [.str "ties", .int (i : Nat)])) := evo_tup (evl_cons (evo_c rfl) (evl_cons (evo_var rfl) evl_nil)) (sz_of (show 2 ≤ 1000000 by decide))
                show Run _ _ [Sl.d (.tuple [.int m, .list ts]), .d (.int m), .d (.list ts), .d (.int (i : Nat)), .d t]
                by_cases hj : joinsB m t = true
                · refine run_if (b := badAt m ts i) (evb_orF (evb_is (evb_not (evb_B (evo_callF (evl_cons (evo_var rfl) (evl_cons (evo_var rfl) evl_nil)) rfl ⟨m, t, rfl⟩ rfl))) (by rw [hj]; rfl)) (evb_is (evb_and (b := leT t (ts.getD (i - 1) .none)) (evb_test (evo_I0 (evt_var rfl rfl) (evt_of (evo_c rfl) rfl) rfl)) fun h0 => ?_) ?_)) (fun hb2 => run_ret told (found hb2)) (fun hb2 => run_next (pass hb2))
                  · have h0 := of_decide_eq_true h0
                    have hp : badAt m ts (i - 1) = false := hI (i - 1) (by omega)
                    have hp2 : joinsB m (ts.getD (i - 1) .none) = true := by
                      unfold badAt at hp
                      rw [Bool.or_eq_false_iff] at hp
                      simpa using hp.1
                    obtain ⟨p, rfl, _⟩ := joinsB_pair hj
                    obtain ⟨q, hq, _⟩ := joinsB_pair hp2
                    have hq2 : atI ts ((i : Nat) - 1 : Int) = some (pairD q) := by
                      rw [show ((i : Nat) - 1 : Int) = ((i - 1 : Nat) : Int) by omega]
                      refine atI_nat ?_
                      rw [← hq, List.getD_eq_getElem?_getD, List.getElem?_eq_getElem (show i - 1 < ts.length by omega)]
                      rfl
                    rw [hq]
                    exact evb_test (evo_leT (evt_var rfl rfl) (evt_ixL (evt_var rfl rfl) (evt_of (evo_I0 (evt_var rfl rfl) (evt_of (evo_c rfl) rfl) rfl) rfl) hq2))
                  · unfold badAt
                    rw [hg, hj]
                    simp
                · have hf : joinsB m t = false := by simpa using hj
                  have hb2 : badAt m ts i = true := by unfold badAt; rw [hg, hf]; rfl
                  exact run_if (b := true) (evb_or1 (evb_is (evb_not (evb_B (evo_callF (evl_cons (evo_var rfl) (evl_cons (evo_var rfl) evl_nil)) rfl ⟨m, t, rfl⟩ rfl))) (by rw [hf]; rfl))) (fun _ => run_ret told (found hb2)) (fun z => by cases z)
              · obtain ⟨⟨s3, s4, rfl⟩, hI⟩ := hI
                refine run_ret (evo_c rfl) ?_
                have len : ((ts.zipIdx.map fun p => PyData.tuple [.int (p.2 : Nat), p.1])).length = ts.length := by simp
                rw [len] at hI
                show _ = Sl.d (faultD (.tuple [.int m, .list ts]))
                rw [faultD_list hw, if_neg (by omega), List.find?_eq_none.mpr fun j hj => by rw [hI j (List.mem_range.mp hj)]; decide]
          | _ => cases hl
        · have hf : isListB tt = false := by simpa using hl
          refine run_if (b := true) (evb_or1 (evb_is (evb_not (evb_B (evo_isi (evt_var rfl rfl) (kit_list _)))) (by rw [hf]; rfl))) (fun _ => run_ret (two rfl) ?_) (fun z => by cases z)
          show _ = Sl.d (faultD (.tuple [.int m, tt]))
          rw [faultD_ties hw hf]
      | _ => cases hw
    · have hf : inR mm = false := by simpa using hw
      have fin : Sl.d (.tuple [.str "places", .none]) = Sl.d (faultD (.tuple [mm, tt])) := by
        rw [faultD_places hw]
      by_cases hi : isWhole mm = true
      · cases mm with
        | int m =>
          have hf' : (decide (1 ≤ m) && decide (m ≤ 40)) = false := hf
          exact run_if (b := true) (evb_orF (evb_is (evb_not (evb_B (evo_callF (evl_cons (evo_var rfl) evl_nil) rfl trivial rfl))) rfl) (evb_is (evb_not (evb_test (evo_chainI (evt_of (evo_c rfl) rfl) (evt_var rfl rfl) (evt_of (evo_c rfl) rfl)))) (by rw [hf']; rfl))) (fun _ => run_ret (two rfl) fin) (fun z => by cases z)
        | _ => cases hi
      · have hi : isWhole mm = false := by simpa using hi
        exact run_if (b := true) (evb_or1 (evb_is (evb_not (evb_B (evo_callF (evl_cons (evo_var rfl) evl_nil) rfl trivial rfl))) (by show (!isWhole mm) = true; rw [hi]; rfl))) (fun _ => run_ret (two rfl) fin) (fun z => by cases z)
  · have hx : ∀ a b, x ≠ .tuple [a, b] := fun a b e => ht ⟨a, b, e⟩
    have fin : Sl.d (.tuple [.str "web", .none]) = Sl.d (faultD x) := by rw [faultD_web hx]
    by_cases ht : isTupB x = true
    · cases x with
      | tuple xs =>
        refine run_if (b := true) (evb_orF (evb_is (evb_not (evb_B (evo_isi (evt_var rfl rfl) (kit_tuple _)))) rfl) (evb_is (evb_test (evo_neI (evt_of (evo_lenT (evt_var rfl rfl)) rfl) (evt_of (evo_c rfl) rfl))) ?_)) (fun _ => run_ret (two rfl) fin) (fun z => by cases z)
        match xs, hx with
        | [], _ => rfl
        | [_], _ => rfl
        | [a, b], hx => exact (hx a b rfl).elim
        | _ :: _ :: _ :: xs, _ =>
          simp
          omega
      | _ => cases ht
    · have hf : isTupB x = false := by simpa using ht
      exact run_if (b := true) (evb_or1 (evb_is (evb_not (evb_B (evo_isi (evt_var rfl rfl) (kit_tuple _)))) (by rw [hf]; rfl))) (fun _ => run_ret (two rfl) fin) (fun z => by cases z)
end

end k23n
namespace k23n
open PySem L2 PL
/-! ### webs -/
def webD (m : Int) (ts : List (Int × Int)) : D := .tuple [.int m, .list (ts.map pairD)]
theorem pairs_inj : ∀ {ts us : List (Int × Int)}, ts.map pairD = us.map pairD → ts = us
  | [], [], _ => rfl
  | [], _ :: _, h => by simp at h
  | _ :: _, [], h => by simp at h
  | t :: ts, u :: us, h => by
    rw [List.map_cons, List.map_cons] at h
    rw [pairD_inj (List.cons.inj h).1, pairs_inj (List.cons.inj h).2]
theorem webD_inj {m m' : Int} {ts ts' : List (Int × Int)} (h : webD m ts = webD m' ts') : m = m' ∧ ts = ts' := by
  simp only [webD, PyData.tuple.injEq, List.cons.injEq, PyData.int.injEq, PyData.list.injEq, and_true] at h
  exact ⟨h.1, pairs_inj h.2⟩
structure WOk (m : Int) (ts : List (Int × Int)) : Prop where
  m1 : 1 ≤ m
  m2 : m ≤ 40
  len : ts.length ≤ 120
  rng : ∀ t ∈ ts, 0 ≤ t.1 ∧ t.1 < t.2 ∧ t.2 < m
  ris : ts.Pairwise fun p q => p.1 < q.1 ∨ (p.1 = q.1 ∧ p.2 < q.2)
theorem WOk.fault {m : Int} {ts : List (Int × Int)} (h : WOk m ts) : faultD (webD m ts) = .none := by
  have hw : inR (.int m) = true := by simp [inR, h.m1, h.m2]
  unfold webD
  rw [faultD_list hw, if_neg (by rw [List.length_map]; have := h.len; omega), List.find?_eq_none.mpr ?_]
  intro i hi
  have hi : i < ts.length := by simpa using hi
  have g : ∀ j, j < ts.length → (ts.map pairD).getD j .none = pairD (ts.getD j (0, 0)) := fun j hj => by
    simp [List.getD_eq_getElem?_getD, hj]
  have gm : ∀ j (hj : j < ts.length), ts.getD j (0, 0) = ts[j] := fun j hj => by simp [List.getD_eq_getElem?_getD, hj]
  have jo : joinsB m (pairD ts[i]) = true := by
    obtain ⟨a, b, c⟩ := h.rng ts[i] (List.getElem_mem hi)
    simp only [pairD, joinsB, isPlace, ltB, Bool.and_eq_true, decide_eq_true_eq]
    omega
  have le : 0 < i → leT (pairD ts[i]) (pairD (ts.getD (i - 1) (0, 0))) = false := fun h0 => by
    rw [gm (i - 1) (by omega)]
    have := List.pairwise_iff_getElem.mp h.ris (i - 1) i (by omega) hi (by omega)
    simp only [pairD, leT, lexLe, decide_eq_false_iff_not]
    omega
  unfold badAt
  rw [g i hi, gm i hi, jo]
  by_cases h0 : 0 < i
  · rw [g (i - 1) (by omega), le h0]
    simp
  · simp [h0]
section
variable {P : Program} {w : World} [kf : KF] {mg : Str → Option Value} {base : Heap}
abbrev sp_look_at_web : Sp := spG 1 (fun ds => ∃ x, ds = [x] ∧ faultD x = .none) fun _ => .d .none
theorem ok_look_at_web (B : Bn mg) (T : Tp kf.K mg "look_at_web" s_look_at_web) (d_web_fault : Df P w kf.K mg base "web_fault" 4 ["thing"] sp_web_fault) : FnOk P w kf.K mg base CX0 5 T.a T.fd ["thing"] sp_look_at_web := by
  refine T.F.ok sc_look_at_web (spF_len rfl) fun cdv A outer s H vs Q E hr h => ⟨_, (pss_cons (ps_set (i := 1) sc_look_at_web.nd rfl (Or.inl rfl) (pe_call d_web_fault.G (hr.mono (by decide)) (by rfl) d_web_fault.g d_web_fault.kp d_web_fault.b .nil pass0 (pa_cons (pv 0) pa_nil)))
 (pss_one (ps_if (pt_cmpR op_notN (pv 1) pe_non (nomark _))
 (pss_cons (ps_asg (pv 1) (pg_tup rfl (pgs_cons (pg_name (i := 2) sc_look_at_web.nd rfl (Or.inl rfl)) (pgs_cons (pg_name (i := 3) sc_look_at_web.nd rfl (Or.inl rfl)) pgs_nil))))
 (pss_one ps_never))
 pss_nil))), run_def h fun ds hn hp => ?_⟩
  obtain ⟨x, rfl, hx⟩ := hp
  refine run_seq (run_asg (r := .d .none) (evo_callF (evl_cons (evo_var rfl) evl_nil) rfl trivial (by show Sl.d (faultD x) = _; rw [hx])) ?_)
  exact run_if (b := false) (evb_is (evb_test (evo_notN (evt_var rfl rfl))) rfl) (fun z => by cases z) fun _ => run_next rfl
end
/-- the places tied to j -/
def nbs (ts : List (Int × Int)) (j : Nat) : List Int := ts.flatMap fun t => (if t.1 = (j : Int) then [t.2] else []) ++ if t.2 = (j : Int) then [t.1] else []
def bes (m : Int) (ts : List (Int × Int)) : List (List D) := (List.range m.toNat).map fun j => (nbs ts j).map .int
theorem nbs_snoc (ts : List (Int × Int)) (t : Int × Int) (j : Nat) : nbs (ts ++ [t]) j = (nbs ts j ++ if t.1 = (j : Int) then [t.2] else []) ++ if t.2 = (j : Int) then [t.1] else [] := by
  unfold nbs
  rw [List.flatMap_append, List.append_assoc]
  simp
theorem nbs_len (ts : List (Int × Int)) (j : Nat) : (nbs ts j).length ≤ 2 * ts.length := by
  induction ts with
  | nil => simp [nbs]
  | cons t ts ih =>
    unfold nbs at ih ⊢
    rw [List.flatMap_cons, List.length_append, List.length_append, List.length_cons]
    have a : (if t.1 = (j : Int) then [t.2] else []).length ≤ 1 := by split <;> simp
    have b : (if t.2 = (j : Int) then [t.1] else []).length ≤ 1 := by split <;> simp
    omega
section
variable {P : Program} {w : World} [kf : KF] {mg : Str → Option Value} {base : Heap}
abbrev sp_beside_all : Sp := spF 1 (fun ds => ∃ m ts, ds = [webD m ts] ∧ WOk m ts) fun ds r => ∀ m ts, ds = [webD m ts] → r = .own2 (bes m ts)
theorem ok_beside_all (B : Bn mg) (T : Tp kf.K mg "beside_all" s_beside_all) : FnOk P w kf.K mg base CX0 1 T.a T.fd ["web"] sp_beside_all := by
  refine T.F.ok sc_beside_all (spF_len rfl) fun cdv A outer s H vs Q E hr h => ⟨_, (pss_cons (ps_asg (pv 0) (pg_tup rfl (pgs_cons (pg_name (i := 1) sc_beside_all.nd rfl (Or.inl rfl)) (pgs_cons (pg_name (i := 2) sc_beside_all.nd rfl (Or.inl rfl)) pgs_nil))))
 (pss_cons (ps_setLc (i := 3) (own := [("_", 4)]) rfl sc_beside_all.nd rfl rfl (sw_true rfl rfl rfl (by decide +kernel)) (pi_range1 (by rfl) B.n_range (pa_cons (pv 1) pa_nil)) (blkOk_by (own := [("_", 4)]) (N := ["web", "many", "ties", "beside", "_", "one", "other"]) (sc := defScope s_beside_all) (by decide +kernel)) (fun _ _ _ _ _ => (pg_name (i := 4) sc_beside_all.nd rfl (Or.inl rfl))) (fun _ _ _ _ _ => pts_nil) (fun _ _ _ _ _ => (pe_lst pa_nil)))
 (pss_cons (ps_for PassesOwn.never rfl (pi_list (pv 2)) (pg_tup rfl (pgs_cons (pg_name (i := 5) sc_beside_all.nd rfl (Or.inl rfl)) (pgs_cons (pg_name (i := 6) sc_beside_all.nd rfl (Or.inl rfl)) pgs_nil)))
 (pss_cons (ps_expr (pe_bm PySem.F.plainAttrs_list PySem.F.slot_list_append PySem.F.type_list_append mt_append (pe_ix ix_list (pv 3) (pv 5) (fun _ _ => rfl)) (pa_cons (pv 6) pa_nil)))
 (pss_one (ps_expr (pe_bm PySem.F.plainAttrs_list PySem.F.slot_list_append PySem.F.type_list_append mt_append (pe_ix ix_list (pv 3) (pv 6) (fun _ _ => rfl)) (pa_cons (pv 5) pa_nil))))))
 (pss_one (ps_ret (pv 3)))))), run_def h fun ds hn hp => ?_⟩
  obtain ⟨m, ts, rfl, ok⟩ := hp
  have h1 := ok.m1
  have h2 := ok.m2
  refine run_seq (run_asgT (x := webD m ts) (evo_var rfl) tg_two (run_seq (run_asg (r := .own2 (bes m [])) ?_ (run_seq ?_))))
  · refine evo_is (evo_lc2 (it_range1 (evt_var rfl rfl) (by omega) (by omega)) (fun _ => true) (fun _ => []) (fun i x hx => ⟨_, _, fun j hj => hj, tg_name, evb_yes, fun _ => evo_lst evl_nil (sz_of (by decide))⟩) (by simp; omega)) ?_
    rw [pick_all]
    simp [bes, nbs]
  · refine run_for (it_list (evo_var (x := .list (ts.map pairD)) rfl)) (fun i ρ' => ∃ s4 s5 s6, ρ' = [.d (webD m ts), .d (.int m), .d (.list (ts.map pairD)), .own2 (bes m (ts.take i)), s4, s5, s6]) ⟨_, _, _, rfl⟩ (fun i y ρ' hy hI => ?_) (fun ρ' hI => ?_)
    · obtain ⟨s4, s5, s6, rfl⟩ := hI
      obtain ⟨t, ht, rfl⟩ : ∃ t, ts[i]? = some t ∧ y = pairD t := by
        rw [List.getElem?_map] at hy
        cases q : ts[i]? with
        | none => rw [q] at hy; cases hy
        | some t => rw [q] at hy; exact ⟨t, rfl, (Option.some.inj hy).symm⟩
      obtain ⟨r1, r2, r3⟩ := ok.rng t (List.mem_of_getElem? ht)
      refine ⟨_, _, tg_two, ?_⟩
      show Run _ _ [.d (webD m ts), .d (.int m), .d (.list (ts.map pairD)), .own2 (bes m (ts.take i)), s4, .d (.int t.1), .d (.int t.2)]
      have e1 : ((t.1.toNat : Nat) : Int) = t.1 := by omega
      have e2 : ((t.2.toNat : Nat) : Int) = t.2 := by omega
      have n1 : t.1.toNat < m.toNat := by omega
      have n2 : t.2.toNat < m.toNat := by omega
      have hz : ∀ j, (nbs (ts.take i) j).length ≤ 1000 := fun j => by
        have h := nbs_len (ts.take i) j
        have := ok.len
        rw [List.length_take] at h
        omega
      refine run_seq (run_append2 (j := t.1.toNat) (x := .int t.2) (xs := (nbs (ts.take i) t.1.toNat).map .int) rfl (by rw [e1]; exact evt_var rfl rfl) (get_map_range n1) (evo_var rfl) (by rw [List.length_map]; have := hz t.1.toNat; omega) ?_)
      refine run_append2 (j := t.2.toNat) (x := .int t.1) (xs := (nbs (ts.take i) t.2.toNat).map .int) rfl (by rw [e2]; exact evt_var rfl rfl) ?_ (evo_var rfl) (by rw [List.length_map]; have := hz t.2.toNat; omega) ?_
      · unfold bes
        rw [set_map_range, get_map_range n2, if_neg (by omega)]
      · refine ⟨s4, .d (.int t.1), .d (.int t.2), ?_⟩
        show [Sl.d (webD m ts), .d (.int m), .d (.list (ts.map pairD)), .own2 _, s4, .d (.int t.1), .d (.int t.2)] = _
        congr 4
        unfold bes
        rw [set_map_range, set_map_range]
        refine congrArg Sl.own2 (List.map_congr_left fun j hj => ?_)
        rw [List.take_add_one, ht]
        show _ = (nbs (ts.take i ++ [t]) j).map PyData.int
        rw [nbs_snoc]
        by_cases a : j = t.2.toNat
        · subst a
          rw [if_pos rfl, if_neg (show ¬ t.1 = ((t.2.toNat : Nat) : Int) by omega), if_pos (show t.2 = ((t.2.toNat : Nat) : Int) by omega)]
          simp
        · rw [if_neg a]
          by_cases b : j = t.1.toNat
          · subst b
            rw [if_pos rfl, if_pos (show t.1 = ((t.1.toNat : Nat) : Int) by omega), if_neg (show ¬ t.2 = ((t.1.toNat : Nat) : Int) by omega)]
            simp
          · rw [if_neg b, if_neg (show ¬ t.1 = (j : Int) by omega), if_neg (show ¬ t.2 = (j : Int) by omega)]
            simp
    · obtain ⟨s4, s5, s6, rfl⟩ := hI
      refine run_retV (r := .own2 (bes m ts)) ?_ (by intro z; cases z) (fun m' ts' e => by obtain ⟨rfl, rfl⟩ := webD_inj (List.cons.inj e).1; rfl)
      rw [List.length_map, List.take_length]
      rfl
end
theorem isPlace_of {m i : Int} (h0 : 0 ≤ i) (h1 : i < m) : isPlace m (.int i) = true := by simp [isPlace, h0, h1]

/-! ### ways -/
/-- k ties lead from p to j -/
def rch (nb : Nat → List Nat) (p : Nat) : Nat → Nat → Prop
  | 0, j => j = p
  | k + 1, j => ∃ i, rch nb p k i ∧ j ∈ nb i
/-- at each place what is told of it -/
structure IsFar (nb : Nat → List Nat) (p n : Nat) (far : List (Option Nat)) : Prop where
  len : far.length = n
  snd : ∀ (j d : Nat), far[j]? = some (some d) → rch nb p d j
  cpl : ∀ (k j : Nat), rch nb p k j → ∃ d, d ≤ k ∧ far[j]? = some (some d)
theorem IsFar.uniq {nb : Nat → List Nat} {p n : Nat} {a b : List (Option Nat)} (ha : IsFar nb p n a) (hb : IsFar nb p n b) : a = b := by
  apply List.ext_getElem?
  intro j
  by_cases hj : j < n
  · have ea := List.getElem?_eq_getElem (show j < a.length by have := ha.len; omega)
    have eb := List.getElem?_eq_getElem (show j < b.length by have := hb.len; omega)
    rw [ea, eb]
    cases ca : a[j]'(by have := ha.len; omega) with
    | none =>
      cases cb : b[j]'(by have := hb.len; omega) with
      | none => rfl
      | some d =>
        rw [cb] at eb
        obtain ⟨d', _, h⟩ := ha.cpl d j (hb.snd j d eb)
        rw [ea, ca] at h
        cases h
    | some d =>
      rw [ca] at ea
      obtain ⟨d', h1, h2⟩ := hb.cpl d j (ha.snd j d ea)
      obtain ⟨d'', h3, h4⟩ := ha.cpl d' j (hb.snd j d' h2)
      rw [ea] at h4
      cases h4
      have : d = d' := by omega
      subst this
      rw [h2] at eb
      rw [← Option.some.inj eb]
  · rw [List.getElem?_eq_none (by have := ha.len; omega), List.getElem?_eq_none (by have := hb.len; omega)]
noncomputable def farF (nb : Nat → List Nat) (p n : Nat) : List (Option Nat) := by
  classical exact if h : ∃ far, IsFar nb p n far then h.choose else List.replicate n none
theorem IsFar.eq {nb : Nat → List Nat} {p n : Nat} {a : List (Option Nat)} (ha : IsFar nb p n a) : a = farF nb p n := by
  unfold farF
  rw [dif_pos ⟨a, ha⟩]
  exact ha.uniq (Exists.choose_spec (⟨a, ha⟩ : ∃ far, IsFar nb p n far))
def oD : Option Nat → D
  | none => .none
  | some d => .int (d : Nat)
/-- the layers: all within r are told, what is told lies within r -/
structure Lay (nb : Nat → List Nat) (p n r : Nat) (far : List (Option Nat)) : Prop where
  len : far.length = n
  snd : ∀ (j d : Nat), far[j]? = some (some d) → rch nb p d j ∧ d ≤ r
  cpl : ∀ (k j : Nat), k ≤ r → rch nb p k j → ∃ d, d ≤ k ∧ far[j]? = some (some d)
theorem lay_zero {nb : Nat → List Nat} {p n : Nat} (hp : p < n) : Lay nb p n 0 ((List.replicate n none).set p (some 0)) := by
  refine ⟨by simp, fun j d h => ?_, fun k j hk h => ?_⟩
  · by_cases e : p = j
    · subst e
      rw [List.getElem?_set_self (by simpa using hp)] at h
      cases h
      exact ⟨rfl, Nat.le_refl _⟩
    · rw [List.getElem?_set_ne e] at h
      by_cases hj : j < n
      · rw [List.getElem?_replicate_of_lt hj] at h; cases h
      · rw [List.getElem?_eq_none (by simpa using hj)] at h; cases h
  · have e : k = 0 := by omega
    subst e
    have : j = p := h
    subst this
    exact ⟨0, Nat.le_refl _, List.getElem?_set_self (by simpa using hp)⟩
/-- where no place is told r: nothing further -/
theorem lay_done {nb : Nat → List Nat} {p n r : Nat} {far : List (Option Nat)} (h : Lay nb p n r far) (hr : ∀ (j : Nat), far[j]? ≠ some (some r)) : IsFar nb p n far := by
  refine ⟨h.len, fun j d e => (h.snd j d e).1, fun k => ?_⟩
  induction k with
  | zero => intro j hj; exact h.cpl 0 j (Nat.zero_le _) hj
  | succ k ih =>
    rintro j ⟨i, hi, hj⟩
    obtain ⟨d, hd, e⟩ := ih i hi
    obtain ⟨s1, s2⟩ := h.snd i d e
    have : d ≠ r := fun z => hr i (z ▸ e)
    obtain ⟨d', h1, h2⟩ := h.cpl (d + 1) j (by omega) ⟨i, s1, hj⟩
    exact ⟨d', by omega, h2⟩
/-- in the midst of a layer: what was told stays, what comes anew is r + 1 and in the next ring -/
structure Mid (nb : Nat → List Nat) (p n r : Nat) (far0 far : List (Option Nat)) (nxt : List Nat) : Prop where
  len : far.length = n
  old : ∀ (j d : Nat), far0[j]? = some (some d) → far[j]? = some (some d)
  new : ∀ (j d : Nat), far[j]? = some (some d) → far0[j]? = some (some d) ∨ (d = r + 1 ∧ j ∈ nxt ∧ ∃ i, far0[i]? = some (some r) ∧ j ∈ nb i)
  nx : ∀ (j : Nat), j ∈ nxt → far[j]? = some (some (r + 1)) ∧ far0[j]? = some none
theorem mid_step {nb : Nat → List Nat} {p n r : Nat} {far0 far : List (Option Nat)} {nxt : List Nat} {i j : Nat} (h : Mid nb p n r far0 far nxt) (l0 : far0.length = n) (hi : far0[i]? = some (some r)) (hj : j ∈ nb i) (hn : far[j]? = some none) : Mid nb p n r far0 (far.set j (some (r + 1))) (nxt ++ [j]) := by
  have hl := (List.getElem?_eq_some_iff.mp hn).1
  have f0 : far0[j]? = some none := by
    have hl0 : j < far0.length := by have := h.len; omega
    cases c : far0[j] with
    | none => rw [List.getElem?_eq_getElem hl0, c]
    | some d =>
      have e : far0[j]? = some (some d) := by rw [List.getElem?_eq_getElem hl0, c]
      rw [h.old j d e] at hn
      cases hn
  refine ⟨by rw [List.length_set]; exact h.len, fun q d e => ?_, fun q d e => ?_, fun q hq => ?_⟩
  · have ne : j ≠ q := fun z => by subst z; rw [f0] at e; cases e
    rw [List.getElem?_set_ne ne]
    exact h.old q d e
  · by_cases c : j = q
    · subst c
      rw [List.getElem?_set_self hl] at e
      cases e
      exact .inr ⟨rfl, List.mem_append_right _ (by simp), i, hi, hj⟩
    · rw [List.getElem?_set_ne c] at e
      rcases h.new q d e with a | ⟨a, b, c⟩
      · exact .inl a
      · exact .inr ⟨a, List.mem_append_left _ b, c⟩
  · rcases List.mem_append.mp hq with hq | hq
    · by_cases c : j = q
      · subst c; exact ⟨List.getElem?_set_self hl, f0⟩
      · rw [List.getElem?_set_ne c]; exact h.nx q hq
    · rw [List.mem_singleton.mp hq]
      exact ⟨List.getElem?_set_self hl, f0⟩
/-- a layer done: all that the ring's places are tied to is told -/
theorem mid_done {nb : Nat → List Nat} {p n r : Nat} {far0 far : List (Option Nat)} {nxt : List Nat} (h0 : Lay nb p n r far0) (h : Mid nb p n r far0 far nxt) (hall : ∀ (i j : Nat), far0[i]? = some (some r) → j ∈ nb i → ∃ d, far[j]? = some (some d)) : Lay nb p n (r + 1) far ∧ ∀ (j : Nat), far[j]? = some (some (r + 1)) ↔ j ∈ nxt := by
  refine ⟨⟨h.len, fun j d e => ?_, fun k j hk hj => ?_⟩, fun j => ⟨fun e => ?_, fun hj => (h.nx j hj).1⟩⟩
  · rcases h.new j d e with a | ⟨rfl, _, i, hi, hj⟩
    · have := h0.snd j d a
      exact ⟨this.1, by omega⟩
    · exact ⟨⟨i, (h0.snd i r hi).1, hj⟩, Nat.le_refl _⟩
  · by_cases c : k ≤ r
    · obtain ⟨d, a, b⟩ := h0.cpl k j c hj
      exact ⟨d, a, h.old j d b⟩
    · have e : k = r + 1 := by omega
      subst e
      obtain ⟨i, hi, hj'⟩ := hj
      obtain ⟨d, hd, e⟩ := h0.cpl r i (Nat.le_refl _) hi
      by_cases c2 : d = r
      · subst c2
        obtain ⟨d', e'⟩ := hall i j e hj'
        rcases h.new j d' e' with a | ⟨a, _⟩
        · exact ⟨d', by have := (h0.snd j d' a).2; omega, e'⟩
        · exact ⟨d', by omega, e'⟩
      · obtain ⟨d', a, b⟩ := h0.cpl (d + 1) j (by omega) ⟨i, (h0.snd i d e).1, hj'⟩
        exact ⟨d', by omega, h.old j d' b⟩
  · rcases h.new j (r + 1) e with a | ⟨_, a, _⟩
    · have := (h0.snd j (r + 1) a).2
      omega
    · exact a
/-- how many are not told -/
def nones (far : List (Option Nat)) : Nat := far.countP fun o => o.isNone
theorem nones_set {far : List (Option Nat)} {j d : Nat} (h : far[j]? = some none) : nones (far.set j (some d)) + 1 = nones far := by
  unfold nones
  induction far generalizing j with
  | nil => simp at h
  | cons o far ih =>
    cases j with
    | zero =>
      simp at h
      subst h
      simp
    | succ j =>
      have := ih (j := j) (by simpa using h)
      rw [List.set_cons_succ, List.countP_cons, List.countP_cons]
      omega
/-- what is put in where there was nothing -/
theorem fset {far : List (Option Nat)} {j v q e : Nat} (h : far[j]? = some none) : (far.set j (some v))[q]? = some (some e) ↔ (q = j ∧ e = v) ∨ far[q]? = some (some e) := by
  have hl := (List.getElem?_eq_some_iff.mp h).1
  by_cases c : j = q
  · subst c
    rw [List.getElem?_set_self hl, h]
    constructor
    · intro z; cases z; exact .inl ⟨rfl, rfl⟩
    · rintro (⟨_, rfl⟩ | z)
      · rfl
      · cases z
  · rw [List.getElem?_set_ne c]
    constructor
    · exact .inr
    · rintro (⟨z, _⟩ | z)
      · exact absurd z.symm c
      · exact z
/-- the law's queue -/
structure Que (nb : Nat → List Nat) (p n a : Nat) (far : List (Option Nat)) (row : List Nat) : Prop where
  len : far.length = n
  rowFar : ∀ (k i : Nat), row[k]? = some i → ∃ d : Nat, far[i]? = some (some d)
  inRow : ∀ (j d : Nat), far[j]? = some (some d) → j ∈ row ∧ rch nb p d j
  mono : ∀ (k l i j d e : Nat), k ≤ l → row[k]? = some i → row[l]? = some j → far[i]? = some (some d) → far[j]? = some (some e) → d ≤ e
  zero : far[p]? = some (some 0)
  near : ∀ (i d : Nat), row[a]? = some i → far[i]? = some (some d) → ∀ (j e : Nat), far[j]? = some (some e) → e ≤ d + 1
  done : ∀ (k i d : Nat), k < a → row[k]? = some i → far[i]? = some (some d) → ∀ j ∈ nb i, ∃ e, e ≤ d + 1 ∧ far[j]? = some (some e)
  cnt : row.length + nones far = n
  rng : ∀ i ∈ row, i < n
theorem nones_rep (n : Nat) : nones (List.replicate n none) = n := by
  unfold nones
  rw [List.countP_replicate]
  rfl
theorem rep_get {n j : Nat} (h : j < n) : (List.replicate n (none : Option Nat))[j]? = some none := List.getElem?_replicate_of_lt h
theorem rep_none {n j d : Nat} : (List.replicate n (none : Option Nat))[j]? ≠ some (some d) := fun z => by
  by_cases h : j < n
  · rw [rep_get h] at z; cases z
  · rw [List.getElem?_eq_none (by simpa using h)] at z; cases z
theorem que_start {nb : Nat → List Nat} {p n : Nat} (hp : p < n) : Que nb p n 0 ((List.replicate n none).set p (some 0)) [p] := by
  have f := fun q e => (fset (v := 0) (q := q) (e := e) (rep_get hp))
  have only : ∀ q e, ((List.replicate n none).set p (some 0))[q]? = some (some e) → q = p ∧ e = 0 := fun q e h => by
    rcases (f q e).mp h with a | a
    · exact a
    · exact absurd a rep_none
  refine ⟨by simp, fun k i h => ?_, fun j d h => ?_, fun k l i j d e _ _ _ h1 h2 => ?_, (f p 0).mpr (.inl ⟨rfl, rfl⟩), fun i d _ _ j e h => ?_, fun k i d h => absurd h (Nat.not_lt_zero _), ?_, fun i hi => ?_⟩
  · have := List.mem_singleton.mp (List.mem_of_getElem? h)
    subst this
    exact ⟨0, (f i 0).mpr (.inl ⟨rfl, rfl⟩)⟩
  · obtain ⟨rfl, rfl⟩ := only j d h
    exact ⟨List.mem_singleton.mpr rfl, rfl⟩
  · have := only i d h1
    omega
  · have := only j e h
    omega
  · have := nones_set (d := 0) (rep_get hp)
    rw [nones_rep] at this
    rw [List.length_singleton]
    omega
  · rw [List.mem_singleton.mp hi]; exact hp
theorem que_step {nb : Nat → List Nat} {p n a i j d : Nat} {far : List (Option Nat)} {row : List Nat} (h : Que nb p n a far row) (hi : row[a]? = some i) (hd : far[i]? = some (some d)) (hj : j ∈ nb i) (hn : far[j]? = some none) : Que nb p n a (far.set j (some (d + 1))) (row ++ [j]) := by
  have f := fun q e => (fset (v := d + 1) (q := q) (e := e) hn)
  have hl := (List.getElem?_eq_some_iff.mp hn).1
  have hal := (List.getElem?_eq_some_iff.mp hi).1
  have old : ∀ k q, (row ++ [j])[k]? = some q → row[k]? = some q ∨ (k = row.length ∧ q = j) := fun k q z => by
    by_cases c : k < row.length
    · rw [List.getElem?_append_left c] at z; exact .inl z
    · rw [List.getElem?_append_right (by omega)] at z
      by_cases c2 : k - row.length = 0
      · rw [c2] at z; cases z; exact .inr ⟨by omega, rfl⟩
      · rw [List.getElem?_eq_none (by rw [List.length_singleton]; omega)] at z; cases z
  have notj : ∀ k q, row[k]? = some q → q ≠ j := fun k q z c => by
    obtain ⟨e, he⟩ := h.rowFar k q z
    rw [c, hn] at he
    cases he
  have back : ∀ k q e, row[k]? = some q → (far.set j (some (d + 1)))[q]? = some (some e) → far[q]? = some (some e) := fun k q e z c => by
    rcases (f q e).mp c with a | a
    · exact absurd a.1 (notj k q z)
    · exact a
  have all1 : ∀ q e, (far.set j (some (d + 1)))[q]? = some (some e) → e ≤ d + 1 := fun q e z => by
    rcases (f q e).mp z with b | b
    · omega
    · exact h.near i d hi hd q e b
  refine ⟨by rw [List.length_set]; exact h.len, fun k q z => ?_, fun q e z => ?_, fun k l q r e e' hkl hk hl' h1 h2 => ?_, (f p 0).mpr (.inr h.zero), fun q e hq he r e' hr => ?_, fun k q e hk hq he r hr => ?_, ?_, fun q hq => ?_⟩
  · rcases old k q z with z | ⟨_, rfl⟩
    · obtain ⟨e, he⟩ := h.rowFar k q z
      exact ⟨e, (f q e).mpr (.inr he)⟩
    · exact ⟨d + 1, (f q (d + 1)).mpr (.inl ⟨rfl, rfl⟩)⟩
  · rcases (f q e).mp z with ⟨rfl, rfl⟩ | z
    · exact ⟨List.mem_append_right _ (List.mem_singleton.mpr rfl), i, (h.inRow i d hd).2, hj⟩
    · exact ⟨List.mem_append_left _ (h.inRow q e z).1, (h.inRow q e z).2⟩
  · rcases old l r hl' with c | ⟨c1, rfl⟩
    · have hk' : row[k]? = some q := by
        rcases old k q hk with c' | ⟨c1, _⟩
        · exact c'
        · have := (List.getElem?_eq_some_iff.mp c).1
          omega
      exact h.mono k l q r e e' hkl hk' c (back k q e hk' h1) (back l r e' c h2)
    · have := all1 q e h1
      rcases (f r e').mp h2 with b | b
      · omega
      · rw [hn] at b; cases b
  · have hq' : row[a]? = some q := by rwa [List.getElem?_append_left hal] at hq
    rw [hi] at hq'
    cases hq'
    have := back a i e hi he
    rw [hd] at this
    cases this
    exact all1 r e' hr
  · have hq' : row[k]? = some q := by rwa [List.getElem?_append_left (by omega)] at hq
    obtain ⟨e', h1, h2⟩ := h.done k q e hk hq' (back k q e hq' he) r hr
    exact ⟨e', h1, (f r e').mpr (.inr h2)⟩
  · have := nones_set (d := d + 1) hn
    have := h.cnt
    rw [List.length_append, List.length_singleton]
    omega
  · rcases List.mem_append.mp hq with hq | hq
    · exact h.rng q hq
    · rw [List.mem_singleton.mp hq, ← h.len]; exact hl
theorem que_next {nb : Nat → List Nat} {p n a i : Nat} {far : List (Option Nat)} {row : List Nat} (h : Que nb p n a far row) (hi : row[a]? = some i) (hall : ∀ j ∈ nb i, ∃ e, far[j]? = some (some e)) : Que nb p n (a + 1) far row := by
  obtain ⟨d, hd⟩ := h.rowFar a i hi
  refine ⟨h.len, h.rowFar, h.inRow, h.mono, h.zero, fun q e hq he j e' hj => ?_, fun k q e hk hq he j hj => ?_, h.cnt, h.rng⟩
  · have h1 := h.mono a (a + 1) i q d e (Nat.le_succ _) hi hq hd he
    have := h.near i d hi hd j e' hj
    omega
  · by_cases c : k < a
    · exact h.done k q e c hq he j hj
    · have : k = a := by omega
      subst this
      rw [hi] at hq
      cases hq
      rw [hd] at he
      cases he
      obtain ⟨e', he'⟩ := hall j hj
      exact ⟨e', h.near i d hi hd j e' he', he'⟩
theorem que_done {nb : Nat → List Nat} {p n a : Nat} {far : List (Option Nat)} {row : List Nat} (h : Que nb p n a far row) (ha : row.length ≤ a) : IsFar nb p n far := by
  refine ⟨h.len, fun j d e => (h.inRow j d e).2, fun k => ?_⟩
  induction k with
  | zero =>
    intro j hj
    have hj : j = p := hj
    rw [hj]
    exact ⟨0, Nat.le_refl _, h.zero⟩
  | succ k ih =>
    rintro j ⟨i, hi, hj⟩
    obtain ⟨d, hd, e⟩ := ih i hi
    obtain ⟨q, hq⟩ := List.getElem?_of_mem (h.inRow i d e).1
    obtain ⟨e', h1, h2⟩ := h.done q i d (by have := (List.getElem?_eq_some_iff.mp hq).1; omega) hq e j hj
    exact ⟨e', by omega, h2⟩

/-! ### distances -/
def natD (k : Nat) : D := .int (k : Nat)
def adjD (adj : List (List Nat)) : D := .list (adj.map fun r => .list (r.map natD))
theorem nats_inj : ∀ {a b : List Nat}, a.map natD = b.map natD → a = b
  | [], [], _ => rfl
  | [], _ :: _, h => by simp at h
  | _ :: _, [], h => by simp at h
  | x :: a, y :: b, h => by
    rw [List.map_cons, List.map_cons] at h
    have e : x = y := Int.ofNat.inj (PyData.int.inj (List.cons.inj h).1)
    rw [e, nats_inj (List.cons.inj h).2]
theorem adj_inj0 : ∀ {a b : List (List Nat)}, (a.map fun r => PyData.list (r.map natD)) = b.map (fun r => PyData.list (r.map natD)) → a = b
  | [], [], _ => rfl
  | [], _ :: _, h => by simp at h
  | _ :: _, [], h => by simp at h
  | x :: a, y :: b, h => by
    rw [List.map_cons, List.map_cons] at h
    rw [nats_inj (PyData.list.inj (List.cons.inj h).1), adj_inj0 (List.cons.inj h).2]
theorem adj_inj {a b : List (List Nat)} (h : adjD a = adjD b) : a = b := adj_inj0 (PyData.list.inj h)
structure AOk (adj : List (List Nat)) : Prop where
  len : adj.length ≤ 1000
  rng : ∀ r ∈ adj, ∀ k ∈ r, k < adj.length
def nbA (adj : List (List Nat)) (i : Nat) : List Nat := adj.getD i []
theorem AOk.nb {adj : List (List Nat)} (h : AOk adj) {i k : Nat} (hk : k ∈ nbA adj i) : k < adj.length := by
  unfold nbA at hk
  rw [List.getD_eq_getElem?_getD] at hk
  cases e : adj[i]? with
  | none => rw [e] at hk; cases hk
  | some r =>
    rw [e] at hk
    exact h.rng r (List.mem_of_getElem? e) k hk
theorem nbA_get {adj : List (List Nat)} {i : Nat} (hi : i < adj.length) : adj[i]? = some (nbA adj i) := by
  unfold nbA
  rw [List.getD_eq_getElem?_getD, List.getElem?_eq_getElem hi]
  rfl
noncomputable def farA (adj : List (List Nat)) (p : Nat) : List (Option Nat) := farF (nbA adj) p adj.length
theorem adj_at {adj : List (List Nat)} {i : Nat} (hi : i < adj.length) : atI (adj.map fun r => PyData.list (r.map natD)) (i : Int) = some (.list ((nbA adj i).map natD)) := at_map (f := fun r => PyData.list (r.map natD)) (nbA_get hi)
theorem isN_oD (o : Option Nat) : isN (oD o) = o.isNone := by cases o <;> rfl
theorem far_at {far : List (Option Nat)} {j : Nat} {o : Option Nat} (h : far[j]? = some o) : atI (far.map oD) (j : Int) = some (oD o) := at_map h
/-- a measure of what is left -/
def muA : Option Sl → Nat
  | some (.own xs) => 2 * xs.countP isN
  | _ => 0
def muB : Option Sl → Nat
  | some (.d (.list (_ :: _))) => 1
  | _ => 0
def muF (ρ : List Sl) : Nat := muA ρ[2]? + muB ρ[5]?
theorem cnt_oD (far : List (Option Nat)) : (far.map oD).countP isN = nones far := by
  unfold nones
  rw [List.countP_map]
  congr 1
  funext o
  exact isN_oD o
theorem asg_set {far : List (Option Nat)} {j v q : Nat} (hn : far[j]? = some none) (h : (∃ e : Nat, far[q]? = some (some e)) ∨ q = j) : ∃ e : Nat, (far.set j (some v))[q]? = some (some e) := by
  rcases h with ⟨e, he⟩ | rfl
  · exact ⟨e, (fset hn).mpr (.inr he)⟩
  · exact ⟨v, (fset hn).mpr (.inl ⟨rfl, rfl⟩)⟩
theorem mem_take_succ {α : Type} {xs : List α} {i : Nat} {x y : α} (h : xs[i]? = some x) (hy : y ∈ xs.take (i + 1)) : y ∈ xs.take i ∨ y = x := by
  rw [List.take_add_one, h] at hy
  rcases List.mem_append.mp hy with a | a
  · exact .inl a
  · exact .inr (by simpa using a)
theorem oD_set (far : List (Option Nat)) (j d : Nat) : (far.map oD).set j (.int ((d : Nat) : Int)) = (far.set j (some d)).map oD := by
  rw [List.map_set]
  rfl
section
variable {P : Program} {w : World} [kf : KF] {mg : Str → Option Value} {base : Heap}
abbrev sp_far_from : Sp := spF 2 (fun ds => ∃ adj p, ds = [adjD adj, natD p] ∧ AOk adj ∧ p < adj.length) fun ds r => ∀ adj p, ds = [adjD adj, natD p] → r = .own ((farA adj p).map oD)
theorem ok_far_from (B : Bn mg) (T : Tp kf.K mg "far_from" s_far_from) : FnOk P w kf.K mg base CX0 1 T.a T.fd ["beside", "place"] sp_far_from := by
  refine T.F.ok sc_far_from (spF_len rfl) fun cdv A outer s H vs Q E hr h => ⟨_, (pss_cons (ps_setLc (i := 2) (own := [("_", 3)]) rfl sc_far_from.nd rfl rfl (sw_true rfl rfl rfl (by decide +kernel)) (pi_list (pv 0)) (blkOk_by (own := [("_", 3)]) (N := ["beside", "place", "far", "_", "steps", "ring", "next_ring", "here", "there"]) (sc := defScope s_far_from) (by decide +kernel)) (fun _ _ _ _ _ => (pg_name (i := 3) sc_far_from.nd rfl (Or.inl rfl))) (fun _ _ _ _ _ => pts_nil) (fun _ _ _ _ _ => pe_non))
 (pss_cons (ps_asg pe_int (pg_sub (pv 2) (pv 1) set_list))
 (pss_cons (ps_set (i := 4) sc_far_from.nd rfl (Or.inl rfl) pe_int)
 (pss_cons (ps_set (i := 5) sc_far_from.nd rfl (Or.inl rfl) (pe_lst (pa_cons (pv 1) pa_nil)))
 (pss_cons (ps_while PassesOwn.never (pt_truth (pv 5) (by intro _; rfl))
 (pss_cons (ps_set (i := 4) sc_far_from.nd rfl (Or.inl rfl) (pe_op op_add (pv 4) pe_int))
 (pss_cons (ps_set (i := 6) sc_far_from.nd rfl (Or.inl rfl) (pe_lst pa_nil))
 (pss_cons (ps_for PassesOwn.never rfl (pi_list (pv 5)) (pg_name (i := 7) sc_far_from.nd rfl (Or.inl rfl))
 (pss_one (ps_for PassesOwn.never rfl (pi_list (pe_ix ix_list (pv 0) (pv 7) (fun _ _ => rfl))) (pg_name (i := 8) sc_far_from.nd rfl (Or.inl rfl))
 (pss_one (ps_if (pt_cmpR op_isN (pe_ix ix_list (pv 2) (pv 8) (fun _ _ => rfl)) pe_non (nomark _))
 (pss_cons (ps_asg (pv 4) (pg_sub (pv 2) (pv 8) set_list))
 (pss_one (ps_expr (pe_bm PySem.F.plainAttrs_list PySem.F.slot_list_append PySem.F.type_list_append mt_append (pv 6) (pa_cons (pv 8) pa_nil)))))
 pss_nil)))))
 (pss_one (ps_set (i := 5) sc_far_from.nd rfl (Or.inl rfl) (pv 6)))))))
 (pss_one (ps_ret (pv 2)))))))), run_def h fun ds hn hp => ?_⟩
  obtain ⟨adj, p, rfl, ok, hp⟩ := hp
  have hlen := ok.len
  have hrep : ((List.replicate adj.length (none : Option Nat)).map oD) = List.replicate adj.length PyData.none := by rw [List.map_replicate]; rfl
  refine run_seq (run_asg (r := .own ((List.replicate adj.length none).map oD)) (evo_is (evo_lc (it_list (evo_var (x := adjD adj) rfl)) (fun _ => true) (fun _ => .none) (fun i x hx => ⟨_, _, fun j hj => hj, tg_name, evb_yes, fun _ => evo_c rfl⟩) (by rw [List.length_map]; omega)) (by
    rw [hrep, List.length_map, pick_all]
    refine congrArg Sl.own ?_
    rw [List.map_const', List.length_range])) ?_)
  refine run_seq (run_setitem (i := 2) (j := p) (xs := (List.replicate adj.length none).map oD) (x := .int ((0 : Nat) : Int)) rfl (evo_c rfl) (evt_var rfl rfl) (by simpa using hp) ?_)
  rw [oD_set]
  refine run_seq (run_asg (r := .d (natD 0)) (evo_c rfl) ?_)
  refine run_seq (run_asg (r := .own [natD p]) (evo_lst (evl_cons (evo_var rfl) evl_nil) (sz_of (show 1 ≤ 1000000 by decide))) ?_)
  refine run_freeze 5 (r := .own [natD p]) rfl rfl ?_
  refine run_seq (run_while (fun ρ' => ∃ (r : Nat) (far : List (Option Nat)) (ring : List Nat) (s3 s5 s6 s7 : Sl), ρ' = [.d (adjD adj), .d (natD p), .own (far.map oD), s3, .d (natD r), .d (.list (ring.map natD)), s5, s6, s7] ∧ Lay (nbA adj) p adj.length r far ∧ ∀ j : Nat, far[j]? = some (some r) ↔ j ∈ ring) muF ?_ ?_)
  · refine ⟨0, _, [p], _, _, _, _, rfl, lay_zero hp, fun j => ?_⟩
    rw [fset (rep_get hp)]
    constructor
    · rintro (⟨rfl, _⟩ | z)
      · exact List.mem_singleton.mpr rfl
      · exact absurd z rep_none
    · intro z
      exact .inl ⟨List.mem_singleton.mp z, rfl⟩
  · rintro _ ⟨r, far, ring, s3, s5, s6, s7, rfl, lay, hring⟩
    refine ⟨_, evb_truL (evt_var rfl rfl), fun hb => ?_, fun hb => ?_⟩
    · have hne : ring ≠ [] := fun z => by rw [z] at hb; cases hb
      refine run_seq (run_asg (r := .d (natD (r + 1))) (evo_I0 (i := (r : Nat)) (j := 1) (evt_var rfl rfl) (evt_of (evo_c rfl) rfl) rfl) ?_)
      refine run_seq (run_asg (r := .own []) (evo_lst evl_nil (sz_of (by decide))) ?_)
      refine run_seq (run_for (ds := ring.map natD) (it_list (evo_var (x := .list (ring.map natD)) rfl)) (fun i ρ' => ∃ (f : List (Option Nat)) (nxt : List Nat) (s6 s7 : Sl), ρ' = [.d (adjD adj), .d (natD p), .own (f.map oD), s3, .d (natD (r + 1)), .d (.list (ring.map natD)), .own (nxt.map natD), s6, s7] ∧ Mid (nbA adj) p adj.length r far f nxt ∧ nones f + nxt.length = nones far ∧ ∀ a ∈ ring.take i, ∀ j ∈ nbA adj a, ∃ d : Nat, f[j]? = some (some d)) ?_ (fun i x ρ' hx hI => ?_) (fun ρ' hI => ?_))
      · exact ⟨far, [], _, _, rfl, ⟨lay.len, fun j d e => e, fun j d e => .inl e, fun j hj => by cases hj⟩, by simp, fun a ha => by cases ha⟩
      · obtain ⟨f, nxt, s6, s7, rfl, mid, cnt, hall⟩ := hI
        obtain ⟨h, hh, rfl⟩ := map_at hx
        have far0 := (hring h).mpr (List.mem_of_getElem? hh)
        have hl : h < adj.length := by have := (List.getElem?_eq_some_iff.mp far0).1; have := lay.len; omega
        refine ⟨_, _, tg_name, ?_⟩
        show Run _ _ [.d (adjD adj), .d (natD p), .own (f.map oD), s3, .d (natD (r + 1)), .d (.list (ring.map natD)), .own (nxt.map natD), .d (natD h), s7]
        refine run_for (ds := (nbA adj h).map natD) (it_list (evo_ixE (eve_d (evo_var (x := adjD adj) rfl)) (evt_var (x := natD h) rfl rfl) (adj_at hl))) (fun k ρ' => ∃ (f : List (Option Nat)) (nxt : List Nat) (s7 : Sl), ρ' = [.d (adjD adj), .d (natD p), .own (f.map oD), s3, .d (natD (r + 1)), .d (.list (ring.map natD)), .own (nxt.map natD), .d (natD h), s7] ∧ Mid (nbA adj) p adj.length r far f nxt ∧ nones f + nxt.length = nones far ∧ (∀ a ∈ ring.take i, ∀ j ∈ nbA adj a, ∃ d : Nat, f[j]? = some (some d)) ∧ ∀ j ∈ (nbA adj h).take k, ∃ d : Nat, f[j]? = some (some d)) ?_ (fun k y ρ' hy hI => ?_) (fun ρ' hI => ?_)
        · exact ⟨f, nxt, _, rfl, mid, cnt, hall, fun j hj => by cases hj⟩
        · obtain ⟨f, nxt, s7, rfl, mid, cnt, hall, hhere⟩ := hI
          obtain ⟨t, ht, rfl⟩ := map_at hy
          have htm := List.mem_of_getElem? ht
          have tl : t < f.length := by rw [mid.len]; exact ok.nb htm
          refine ⟨_, _, tg_name, ?_⟩
          show Run _ _ [.d (adjD adj), .d (natD p), .own (f.map oD), s3, .d (natD (r + 1)), .d (.list (ring.map natD)), .own (nxt.map natD), .d (natD h), .d (natD t)]
          have ft : f[t]? = some f[t] := List.getElem?_eq_getElem tl
          refine run_if (evb_test (evo_isN (evt_ixL (evt_var rfl rfl) (evt_var (x := natD t) rfl rfl) (far_at ft)))) (fun hb => ?_) fun hb => ?_
          · rw [isN_oD] at hb
            have fn : f[t]? = some none := by rw [ft]; cases c : f[t] with
              | none => rfl
              | some d => rw [c] at hb; cases hb
            have fh := mid.old h r far0
            refine run_seq (run_setitem (i := 2) (j := t) (xs := f.map oD) (x := .int ((r + 1 : Nat) : Int)) rfl (evo_var (x := natD (r + 1)) rfl) (evt_var rfl rfl) (by rw [List.length_map]; exact tl) ?_)
            rw [oD_set]
            have cn := nones_set (d := r + 1) fn
            refine run_append (i := 6) (xs := nxt.map natD) (x := natD t) rfl (evo_var rfl) ?_ ?_
            · rw [List.length_map]
              have : nones far ≤ far.length := List.countP_le_length
              have := lay.len
              omega
            · refine ⟨f.set t (some (r + 1)), nxt ++ [t], .d (natD t), ?_, mid_step mid lay.len far0 htm fn, ?_, fun a ha j hj => asg_set fn (.inl (hall a ha j hj)), fun j hj => ?_⟩
              · rw [List.map_append]
                rfl
              · rw [List.length_append, List.length_singleton]
                omega
              · rcases mem_take_succ ht hj with a | rfl
                · exact asg_set fn (.inl (hhere j a))
                · exact asg_set fn (.inr rfl)
          · rw [isN_oD] at hb
            refine run_next ⟨f, nxt, _, rfl, mid, cnt, hall, fun j hj => ?_⟩
            rcases mem_take_succ ht hj with a | rfl
            · exact hhere j a
            · cases c : f[j] with
              | none => rw [c] at hb; cases hb
              | some d => exact ⟨d, by rw [ft, c]⟩
        · obtain ⟨f, nxt, s7, rfl, mid, cnt, hall, hhere⟩ := hI
          refine ⟨f, nxt, _, _, rfl, mid, cnt, fun a ha j hj => ?_⟩
          rcases mem_take_succ hh ha with b | rfl
          · exact hall a b j hj
          · rw [List.length_map, List.take_length] at hhere
            exact hhere j hj
      · obtain ⟨f, nxt, s6, s7, rfl, mid, cnt, hall⟩ := hI
        rw [List.length_map, List.take_length] at hall
        obtain ⟨lay', hr'⟩ := mid_done lay mid fun i j hi hj => hall i ((hring i).mp hi) j hj
        refine run_freeze 6 (r := .own (nxt.map natD)) rfl rfl ?_
        refine run_asg (r := .d (.list (nxt.map natD))) (evo_var rfl) ⟨⟨r + 1, f, nxt, _, _, _, _, rfl, lay', hr'⟩, ?_⟩
        show 2 * (f.map oD).countP isN + _ < 2 * (far.map oD).countP isN + _
        rw [cnt_oD, cnt_oD]
        cases ring with
        | nil => exact absurd rfl hne
        | cons a ring =>
          cases nxt with
          | nil =>
            have : nones f = nones far := by simpa using cnt
            show 2 * nones f + 0 < 2 * nones far + 1
            omega
          | cons b nxt =>
            rw [List.length_cons] at cnt
            show 2 * nones f + 1 < 2 * nones far + 1
            omega
    · have hne : ring = [] := by
        cases ring with
        | nil => rfl
        | cons a ring => cases hb
      subst hne
      have far' := (lay_done lay fun j z => by have := (hring j).mp z; cases this).eq
      refine run_retV (r := .own (far.map oD)) rfl (by intro z; cases z) fun adj' p' e => ?_
      simp only [List.cons.injEq, and_true] at e
      obtain ⟨e1, e2⟩ := e
      have e1 := adj_inj e1
      have e2 : p = p' := Int.ofNat.inj (PyData.int.inj e2)
      rw [← e1, ← e2, far']
      rfl
end

end k23n
namespace k23n
open PySem L2 PL
/-! ### neighbours, two ways -/
theorem srt_ext : ∀ {a b : List Int}, a.Pairwise (· < ·) → b.Pairwise (· < ·) → (∀ x, x ∈ a ↔ x ∈ b) → a = b
  | [], [], _, _, _ => rfl
  | [], y :: b, _, _, h => absurd ((h y).mpr List.mem_cons_self) (by simp)
  | x :: a, [], _, _, h => absurd ((h x).mp List.mem_cons_self) (by simp)
  | x :: a, y :: b, ha, hb, h => by
    have ha' := List.pairwise_cons.mp ha
    have hb' := List.pairwise_cons.mp hb
    have e : x = y := by
      rcases List.mem_cons.mp ((h x).mp List.mem_cons_self) with e | hx
      · exact e
      · rcases List.mem_cons.mp ((h y).mpr List.mem_cons_self) with e | hy
        · exact e.symm
        · have := hb'.1 x hx
          have := ha'.1 y hy
          omega
    subst e
    rw [srt_ext ha'.2 hb'.2 fun z => ⟨fun hz => ?_, fun hz => ?_⟩]
    · rcases List.mem_cons.mp ((h z).mp (List.mem_cons_of_mem _ hz)) with e | hz'
      · have := ha'.1 z hz
        omega
      · exact hz'
    · rcases List.mem_cons.mp ((h z).mpr (List.mem_cons_of_mem _ hz)) with e | hz'
      · have := hb'.1 z hz
        omega
      · exact hz'
theorem mem_nbs {ts : List (Int × Int)} {j : Nat} {x : Int} : x ∈ nbs ts j ↔ ((j : Int), x) ∈ ts ∨ (x, (j : Int)) ∈ ts := by
  unfold nbs
  rw [List.mem_flatMap]
  constructor
  · rintro ⟨⟨a, b⟩, ht, hx⟩
    rcases List.mem_append.mp hx with hx | hx
    · by_cases c : a = (j : Int)
      · rw [if_pos c] at hx
        have := List.mem_singleton.mp hx
        subst this c
        exact .inl ht
      · rw [if_neg c] at hx; cases hx
    · by_cases c : b = (j : Int)
      · rw [if_pos c] at hx
        have := List.mem_singleton.mp hx
        subst this c
        exact .inr ht
      · rw [if_neg c] at hx; cases hx
  · rintro (h | h)
    · exact ⟨_, h, List.mem_append_left _ (by simp)⟩
    · exact ⟨_, h, List.mem_append_right _ (by simp)⟩
theorem nbs_sorted {m : Int} {ts : List (Int × Int)} (h : WOk m ts) (j : Nat) : (nbs ts j).Pairwise (· < ·) := by
  have one : ∀ t ∈ ts, ((if t.1 = (j : Int) then [t.2] else []) ++ if t.2 = (j : Int) then [t.1] else []).Pairwise (· < ·) := fun t ht => by
    have := (h.rng t ht).2.1
    by_cases a : t.1 = (j : Int)
    · rw [if_pos a, if_neg (by omega)]
      simp
    · rw [if_neg a]
      split <;> simp
  unfold nbs
  rw [List.pairwise_flatMap]
  refine ⟨one, List.Pairwise.imp_of_mem ?_ h.ris⟩
  intro p q hp hq hr x hx y hy
  have h1 := h.rng p hp
  have h2 := h.rng q hq
  have ex : (p.1 = (j : Int) ∧ x = p.2) ∨ (p.2 = (j : Int) ∧ x = p.1) := by
    rcases List.mem_append.mp hx with hx | hx
    · by_cases c : p.1 = (j : Int)
      · rw [if_pos c] at hx; exact .inl ⟨c, List.mem_singleton.mp hx⟩
      · rw [if_neg c] at hx; cases hx
    · by_cases c : p.2 = (j : Int)
      · rw [if_pos c] at hx; exact .inr ⟨c, List.mem_singleton.mp hx⟩
      · rw [if_neg c] at hx; cases hx
  have ey : (q.1 = (j : Int) ∧ y = q.2) ∨ (q.2 = (j : Int) ∧ y = q.1) := by
    rcases List.mem_append.mp hy with hy | hy
    · by_cases c : q.1 = (j : Int)
      · rw [if_pos c] at hy; exact .inl ⟨c, List.mem_singleton.mp hy⟩
      · rw [if_neg c] at hy; cases hy
    · by_cases c : q.2 = (j : Int)
      · rw [if_pos c] at hy; exact .inr ⟨c, List.mem_singleton.mp hy⟩
      · rw [if_neg c] at hy; cases hy
  omega
theorem pl_web {m : Int} {ts : List (Int × Int)} : pl 3 (webD m ts) = true := pl_tup fun x hx => by
  rcases List.mem_cons.mp hx with rfl | hx
  · exact pl_int
  · rw [List.mem_singleton.mp hx]; exact pl_pairs

def adjW (m : Int) (ts : List (Int × Int)) : List (List Nat) := (List.range m.toNat).map fun j => (nbs ts j).map Int.toNat
theorem nbs_rng {m : Int} {ts : List (Int × Int)} (ok : WOk m ts) {j : Nat} {x : Int} (h : x ∈ nbs ts j) : 0 ≤ x ∧ x < m := by
  rcases mem_nbs.mp h with h | h
  · have := ok.rng _ h
    simp only at this
    omega
  · have := ok.rng _ h
    simp only at this
    omega
theorem nat_of_ints {xs : List Int} (h : ∀ x ∈ xs, 0 ≤ x) : xs.map PyData.int = (xs.map Int.toNat).map natD := by
  rw [List.map_map]
  refine List.map_congr_left fun x hx => ?_
  show PyData.int x = PyData.int ((x.toNat : Nat) : Int)
  rw [show ((x.toNat : Nat) : Int) = x by have := h x hx; omega]
theorem bes_adj {m : Int} {ts : List (Int × Int)} (ok : WOk m ts) : (Sl.own2 (bes m ts)).toD = some (adjD (adjW m ts)) := by
  show some (PyData.list ((bes m ts).map PyData.list)) = some (adjD (adjW m ts))
  unfold bes adjW adjD
  rw [List.map_map, List.map_map]
  refine congrArg some (congrArg PyData.list (List.map_congr_left fun j _ => ?_))
  exact congrArg PyData.list (nat_of_ints fun x hx => (nbs_rng ok hx).1)
theorem adjW_len {m : Int} {ts : List (Int × Int)} : (adjW m ts).length = m.toNat := by simp [adjW]
theorem adjW_ok {m : Int} {ts : List (Int × Int)} (ok : WOk m ts) : AOk (adjW m ts) := by
  refine ⟨by rw [adjW_len]; have := ok.m2; omega, fun r hr k hk => ?_⟩
  obtain ⟨j, hj, rfl⟩ := List.mem_map.mp hr
  obtain ⟨x, hx, rfl⟩ := List.mem_map.mp hk
  have := nbs_rng ok hx
  rw [adjW_len]
  omega
noncomputable def farW (m : Int) (ts : List (Int × Int)) (p : Nat) : List D := (farA (adjW m ts) p).map oD
noncomputable def farsW (m : Int) (ts : List (Int × Int)) : List (List D) := (List.range m.toNat).map (farW m ts)
theorem pl_far {n : Nat} {far : List (Option Nat)} : pl (n + 1) (.list (far.map oD)) = true := pl_list fun x hx => by
  obtain ⟨o, _, rfl⟩ := List.mem_map.mp hx
  cases o with
  | none => exact pl_none
  | some d => exact pl_int

section
variable {P : Program} {w : World} [kf : KF] {mg : Str → Option Value} {base : Heap}
abbrev sp_far_table : Sp := spF 1 (fun ds => ∃ adj, ds = [adjD adj] ∧ AOk adj) fun ds r => ∀ adj, ds = [adjD adj] → r = .own2 ((List.range adj.length).map fun p => (farA adj p).map oD)
theorem ok_far_table (B : Bn mg) (T : Tp kf.K mg "far_table" s_far_table) (d_far_from : Df P w kf.K mg base "far_from" 1 ["beside", "place"] sp_far_from) : FnOk P w kf.K mg base CX0 2 T.a T.fd ["beside"] sp_far_table := by
  refine T.F.ok sc_far_table (spF_len rfl) fun cdv A outer s H vs Q E hr h => ⟨_, (pss_one (ps_ret (pe_lc (own := [("place", 1)]) rfl sc_far_table.nd (pi_range1 (by rfl) B.n_range (pa_cons (pe_callB call_len_seq (by rfl) B.n_len PySem.boot_len (pa_cons (pv 0) pa_nil)) pa_nil)) (blkOk_by (own := [("place", 1)]) (N := ["beside", "place"]) (sc := defScope s_far_table) (by decide +kernel)) (fun _ _ _ _ _ => (pg_name (i := 1) sc_far_table.nd rfl (Or.inl rfl))) (fun _ _ _ _ _ => pts_nil) (fun _ _ _ _ _ => (pe_call d_far_from.G (hr.mono (by decide)) (by rfl) d_far_from.g d_far_from.kp d_far_from.b .nil pass0 (pa_cons (pv 0) (pa_cons (pv 1) pa_nil))))))), run_def h fun ds hn hp => ?_⟩
  obtain ⟨adj, rfl, ok⟩ := hp
  have hlen := ok.len
  refine run_ret (evo_lc2 (it_range1 (n := (adj.length : Nat)) (evt_of (evo_is (r' := .d (.int (adj.length : Nat))) (evo_lenL (evt_var (x := adjD adj) rfl rfl)) (by rw [List.length_map])) rfl) (by omega) (by omega)) (fun _ => true) (fun i => (farA adj i).map oD) (fun i x hx => by
    obtain ⟨rfl, hi⟩ := range_at hx
    rw [Int.zero_add]
    exact ⟨_, _, fun j hj => hj, tg_name, evb_yes, fun _ => evo_call (evl_cons (evo_var rfl) (evl_cons (evo_var rfl) evl_nil)) rfl ⟨adj, i, rfl, ok, by omega⟩ fun r z => z adj i rfl⟩) (by rw [List.length_map, List.length_range]; omega)) ?_
  intro adj' e
  rw [← adj_inj (List.cons.inj e).1, List.length_map, List.length_range, pick_all, Int.toNat_natCast]
end

/-! ### what hangs together -/
def Td (ts : List (Int × Int)) (j k : Nat) : Prop := ((j : Int), (k : Int)) ∈ ts ∨ ((k : Int), (j : Int)) ∈ ts
inductive Conn (ts : List (Int × Int)) : Nat → Nat → Prop
  | refl (i : Nat) : Conn ts i i
  | step {i j k : Nat} : Conn ts i j → Td ts j k → Conn ts i k
theorem Conn.trans {ts : List (Int × Int)} {i j k : Nat} (h : Conn ts i j) (h' : Conn ts j k) : Conn ts i k := by
  induction h' with
  | refl => exact h
  | step _ t ih => exact .step ih t
theorem Conn.symm {ts : List (Int × Int)} {i j : Nat} (h : Conn ts i j) : Conn ts j i := by
  induction h with
  | refl => exact .refl _
  | step _ t ih => exact Conn.trans (.step (.refl _) t.symm) ih
def Cn (m : Int) (ts : List (Int × Int)) : Prop := ∀ i j : Nat, i < m.toNat → j < m.toNat → Conn ts i j
/-- the least of those that do -/
theorem least_of {p : Nat → Prop} (h : ∃ k, p k) : ∃ k, p k ∧ ∀ j, p j → k ≤ j := by
  obtain ⟨k, hk⟩ := h
  induction k using Nat.strongRecOn with
  | _ k ih =>
    by_cases c : ∃ j, j < k ∧ p j
    · obtain ⟨j, hj, pj⟩ := c
      exact ih j hj pj
    · exact ⟨k, hk, fun j pj => by
        by_cases d : k ≤ j
        · exact d
        · exact absurd ⟨j, by omega, pj⟩ c⟩
theorem rch_lt {adj : List (List Nat)} (ok : AOk adj) {p : Nat} (hp : p < adj.length) : ∀ k j, rch (nbA adj) p k j → j < adj.length
  | 0, j, h => by
    have h : j = p := h
    rw [h]; exact hp
  | k + 1, j, h => by
    obtain ⟨i, _, hj⟩ := h
    exact ok.nb hj
theorem far_is {adj : List (List Nat)} (ok : AOk adj) {p : Nat} (hp : p < adj.length) : IsFar (nbA adj) p adj.length (farA adj p) := by
  have ex : ∃ far, IsFar (nbA adj) p adj.length far := by
    classical
    refine ⟨(List.range adj.length).map fun j => if h : ∃ k, rch (nbA adj) p k j then some (least_of h).choose else none, by simp, fun j d e => ?_, fun k j hk => ?_⟩
    · by_cases hj : j < adj.length
      · rw [get_map_range hj] at e
        by_cases h : ∃ k, rch (nbA adj) p k j
        · rw [dif_pos h] at e
          have e : (least_of h).choose = d := by simpa using e
          rw [← e]
          exact (least_of h).choose_spec.1
        · rw [dif_neg h] at e
          simp at e
      · rw [List.getElem?_eq_none (by simpa using hj)] at e
        cases e
    · have hj := rch_lt ok hp k j hk
      have h : ∃ k, rch (nbA adj) p k j := ⟨k, hk⟩
      exact ⟨(least_of h).choose, (least_of h).choose_spec.2 k hk, by rw [get_map_range hj, dif_pos h]⟩
  unfold farA farF
  rw [dif_pos ex]
  exact ex.choose_spec
noncomputable def dA (adj : List (List Nat)) (a b : Nat) : Nat := ((farA adj a)[b]?.getD none).getD 0
def HangA (adj : List (List Nat)) : Prop := ∀ a b, a < adj.length → b < adj.length → ∃ k, rch (nbA adj) a k b
theorem d_at {adj : List (List Nat)} (ok : AOk adj) (hg : HangA adj) {a b : Nat} (ha : a < adj.length) (hb : b < adj.length) : (farA adj a)[b]? = some (some (dA adj a b)) := by
  obtain ⟨k, hk⟩ := hg a b ha hb
  obtain ⟨d, _, e⟩ := (far_is ok ha).cpl k b hk
  unfold dA
  rw [e]
  rfl
theorem d_rch {adj : List (List Nat)} (ok : AOk adj) (hg : HangA adj) {a b : Nat} (ha : a < adj.length) (hb : b < adj.length) : rch (nbA adj) a (dA adj a b) b := (far_is ok ha).snd b _ (d_at ok hg ha hb)
theorem d_le {adj : List (List Nat)} (ok : AOk adj) (hg : HangA adj) {a b k : Nat} (ha : a < adj.length) (hb : b < adj.length) (hk : rch (nbA adj) a k b) : dA adj a b ≤ k := by
  obtain ⟨d, h, e⟩ := (far_is ok ha).cpl k b hk
  rw [d_at ok hg ha hb] at e
  cases e
  exact h
theorem rch_cons {nb : Nat → List Nat} {i j : Nat} (h : j ∈ nb i) : ∀ k q, rch nb j k q → rch nb i (k + 1) q
  | 0, q, hq => by
    have hq : q = j := hq
    rw [hq]
    exact ⟨i, rfl, h⟩
  | k + 1, q, hq => by
    obtain ⟨r, hr, hq⟩ := hq
    exact ⟨r, rch_cons h k r hr, hq⟩
theorem rch_symm {nb : Nat → List Nat} (hs : ∀ i j, j ∈ nb i → i ∈ nb j) {p : Nat} : ∀ k j, rch nb p k j → rch nb j k p
  | 0, j, h => by
    have h : j = p := h
    exact h.symm
  | k + 1, j, h => by
    obtain ⟨i, hi, hj⟩ := h
    exact rch_cons (hs i j hj) k p (rch_symm hs k i hi)
theorem d_symm {adj : List (List Nat)} (ok : AOk adj) (hg : HangA adj) (hs : ∀ i j, j ∈ nbA adj i → i ∈ nbA adj j) {a b : Nat} (ha : a < adj.length) (hb : b < adj.length) : dA adj a b = dA adj b a :=
  Nat.le_antisymm (d_le ok hg ha hb (rch_symm hs _ _ (d_rch ok hg hb ha))) (d_le ok hg hb ha (rch_symm hs _ _ (d_rch ok hg ha hb)))
theorem d_self {adj : List (List Nat)} (ok : AOk adj) (hg : HangA adj) {a : Nat} (ha : a < adj.length) : dA adj a a = 0 := Nat.le_zero.mp (d_le ok hg ha ha (show rch (nbA adj) a 0 a from rfl))
theorem d_tie {adj : List (List Nat)} (ok : AOk adj) (hg : HangA adj) {a b : Nat} (ha : a < adj.length) (hb : b < adj.length) (h : b ∈ nbA adj a) (hne : a ≠ b) : dA adj a b = 1 := by
  have h1 := d_le ok hg ha hb (show rch (nbA adj) a 1 b from ⟨a, rfl, h⟩)
  have h2 : dA adj a b ≠ 0 := fun z => by
    have := d_rch ok hg ha hb
    rw [z] at this
    have this : b = a := this
    exact hne this.symm
  omega
theorem nbA_W {m : Int} {ts : List (Int × Int)} {j : Nat} (hj : j < m.toNat) : nbA (adjW m ts) j = (nbs ts j).map Int.toNat := by
  unfold nbA adjW
  rw [List.getD_eq_getElem?_getD, get_map_range hj]
  rfl
theorem td_lt {m : Int} {ts : List (Int × Int)} (ok : WOk m ts) {j k : Nat} (h : Td ts j k) : j < m.toNat ∧ k < m.toNat ∧ j ≠ k := by
  rcases h with h | h
  · have := ok.rng _ h
    simp only at this
    omega
  · have := ok.rng _ h
    simp only at this
    omega
theorem td_nb {m : Int} {ts : List (Int × Int)} (ok : WOk m ts) {j k : Nat} (h : Td ts j k) : k ∈ nbA (adjW m ts) j := by
  rw [nbA_W (td_lt ok h).1]
  exact List.mem_map.mpr ⟨(k : Int), mem_nbs.mpr h, rfl⟩
theorem nb_td {m : Int} {ts : List (Int × Int)} (ok : WOk m ts) {j k : Nat} (h : k ∈ nbA (adjW m ts) j) : Td ts j k := by
  have hj : j < m.toNat := by
    by_cases c : j < m.toNat
    · exact c
    · unfold nbA at h
      rw [List.getD_eq_getElem?_getD, List.getElem?_eq_none (by rw [adjW_len]; omega)] at h
      cases h
  rw [nbA_W hj] at h
  obtain ⟨x, hx, e⟩ := List.mem_map.mp h
  have r := nbs_rng ok hx
  have : x = (k : Int) := by omega
  subst this
  exact mem_nbs.mp hx
theorem nb_symm {m : Int} {ts : List (Int × Int)} (ok : WOk m ts) : ∀ i j, j ∈ nbA (adjW m ts) i → i ∈ nbA (adjW m ts) j := fun _ _ h => td_nb ok (nb_td ok h).symm
theorem rch_conn {m : Int} {ts : List (Int × Int)} (ok : WOk m ts) {i j : Nat} (h : Conn ts i j) : ∃ k, rch (nbA (adjW m ts)) i k j := by
  induction h with
  | refl => exact ⟨0, rfl⟩
  | step _ t ih =>
    obtain ⟨k, hk⟩ := ih
    exact ⟨k + 1, _, hk, td_nb ok t⟩
theorem hang_of {m : Int} {ts : List (Int × Int)} (ok : WOk m ts) (h : Cn m ts) : HangA (adjW m ts) := fun a b ha hb => by
  rw [adjW_len] at ha hb
  exact rch_conn ok (h a b ha hb)
section
variable {P : Program} {w : World} [kf : KF] {mg : Str → Option Value} {base : Heap}
theorem evo_notInD {ρ : List Sl} {ta tb : TE} {d : D} {ds : List D} (ha : EvT ta ρ d) (hb : EvT tb ρ (.list ds)) (h1 : SeqAt.shaped d = true) (h2 : SeqAt.shaped (.list ds) = true) : EvO (tOp (rNotInD kf.K) ta tb) ρ (.d (.bool (!ds.any fun z => PyData.eqv z d))) := fun S0 H0 S H σ Q o q =>
  ha S0 H0 S H σ _ o fun v S1 H1 x1 r1 => hb S0 H0 S1 H1 σ _ (o.ext x1) fun u S2 H2 x2 r2 =>
    ⟨d, ds, rp_dp _ _ (dp_mono x2.hh _ _ r1), rp_dp _ _ r2, h1, h2, fin_flat q (x1.trans x2) rfl rfl⟩
theorem evo_isnotB {ρ : List Sl} {ta tb : TE} {a b : Bool} (ha : EvT ta ρ (.bool a)) (hb : EvT tb ρ (.bool b)) : EvO (tOp (fun x y H Q => ∃ a b : Bool, x = .bl a ∧ y = .bl b ∧ Q (.bl (!decide (a = b))) H) ta tb) ρ (.d (.bool (!decide (a = b)))) := fun S0 H0 S H σ Q o q =>
  ha S0 H0 S H σ _ o fun v S1 H1 x1 r1 => hb S0 H0 S1 H1 σ _ (o.ext x1) fun u S2 H2 x2 r2 => by
    cases r1; cases r2
    exact ⟨a, b, rfl, rfl, fin_flat q (x1.trans x2) rfl rfl⟩
theorem jd_rangeC {S : Hp} {lo c : Int} {n : Nat} : JD S (Itc lo c n) ((List.range n).map fun (i : Nat) => PyData.int (lo + (i : Int) * c)) := fun S1 H1 s1 sh => by
  refine ⟨by show n ≤ _; simp, fun i x e => ?_⟩
  have hi : i < n := by
    by_cases h : i < n
    · exact h
    · rw [List.getElem?_eq_none (by simpa using h)] at e; cases e
  rw [get_map_range hi] at e
  cases e
  refine ⟨hi, fun v H2 y => ?_⟩
  obtain ⟨rfl, rfl⟩ := y
  exact ⟨S1, .refl sh, .int _⟩
theorem it_range3 {ρ : List Sl} {ta tb tc : TE} {i j c : Int} {n : Nat} (h : EvT ta ρ (.int i)) (h' : EvT tb ρ (.int j)) (h'' : EvT tc ρ (.int c)) (hb : RgC i j c n) : IterD (iRng3 (tCons ta (tCons tb (tCons tc tNil)))) ρ ((List.range n).map fun (k : Nat) => PyData.int (i + (k : Int) * c)) := fun S0 H0 S H σ R o q =>
  h S0 H0 S H σ _ o fun v S1 H1 x1 h1 => h' S0 H0 S1 H1 σ _ (o.ext x1) fun u S2 H2 x2 h2 => h'' S0 H0 S2 H2 σ _ (o.ext (x1.trans x2)) fun u' S3 H3 x3 h3 => by
    cases h1; cases h2; cases h3
    exact ⟨i, j, c, n, rfl, hb, q _ S3 H3 ((x1.trans x2).trans x3) jd_rangeC⟩
end

end k23n
namespace k23n
open PySem L2 PL
theorem eqv_oD_none {o : Option Nat} (h : o ≠ none) : PyData.eqv (oD o) .none = false := by
  cases o with
  | none => exact absurd rfl h
  | some d => simp [oD, PyData.eqv]
/-- the number at two places of a list of lists -/
def iAt : D → Int → Int → Int
  | .list rows, x, u => match rows[x.toNat]? with
    | some (.list r) => match r[u.toNat]? with
      | some (.int i) => i
      | _ => 0
    | _ => 0
  | _, _, _ => 0
def tieD (x y : Nat) : D := .tuple [natD x, natD y]
def linkA (adj : List (List Nat)) (x y u v : Nat) : Prop := ¬ dA adj x u + dA adj y v = dA adj x v + dA adj y u
noncomputable instance (adj : List (List Nat)) (x y u v : Nat) : Decidable (linkA adj x y u v) := by unfold linkA; exact inferInstance
noncomputable def farsA (adj : List (List Nat)) : List (List D) := (List.range adj.length).map fun p => (farA adj p).map oD
theorem iAt_fars {adj : List (List Nat)} (ok : AOk adj) (hg : HangA adj) {x u : Nat} (hx : x < adj.length) (hu : u < adj.length) : iAt (.list ((farsA adj).map .list)) (x : Int) (u : Int) = (dA adj x u : Nat) := by
  unfold iAt farsA
  simp only [Int.toNat_natCast]
  rw [List.getElem?_map, get_map_range hx]
  show (match ((farA adj x).map oD)[u]? with | some (.int i) => i | _ => 0) = _
  rw [List.getElem?_map, d_at ok hg hx hu]
  rfl
theorem fars_at {adj : List (List Nat)} {x : Nat} (hx : x < adj.length) : atI ((farsA adj).map PyData.list) (x : Int) = some (.list ((farA adj x).map oD)) := at_map (f := PyData.list) (get_map_range hx)
theorem far_num {adj : List (List Nat)} (ok : AOk adj) (hg : HangA adj) {x u : Nat} (hx : x < adj.length) (hu : u < adj.length) : atI ((farA adj x).map oD) (u : Int) = some (.int (dA adj x u : Nat)) := far_at (d_at ok hg hx hu)
theorem pair_lt {m : Int} {ts : List (Int × Int)} (ok : WOk m ts) {x y : Nat} (h : ((x : Int), (y : Int)) ∈ ts) : x < m.toNat ∧ y < m.toNat ∧ x < y := by
  have := ok.rng _ h
  simp only at this
  omega
theorem joins_tie {m : Int} {ts : List (Int × Int)} (ok : WOk m ts) {x y : Nat} (h : ((x : Int), (y : Int)) ∈ ts) : joinsB m (tieD x y) = true := by
  have := pair_lt ok h
  have := ok.m1
  simp only [tieD, natD, joinsB, isPlace, ltB, Bool.and_eq_true, decide_eq_true_eq]
  omega
section
variable {P : Program} {w : World} [kf : KF] {mg : Str → Option Value} {base : Heap}
abbrev sp_is_tie : Sp := spG 2 (fun ds => ∃ m ts x y, ds = [webD m ts, tieD x y] ∧ WOk m ts ∧ ((x : Int), (y : Int)) ∈ ts) fun _ => .d (.bool true)
theorem ok_is_tie (B : Bn mg) (T : Tp kf.K mg "is_tie" s_is_tie) (d_joins_places : Df P w kf.K mg base "joins_places" 3 ["many", "thing"] sp_joins_places) : FnOk P w kf.K mg base CX0 4 T.a T.fd ["web", "thing"] sp_is_tie := by
  refine T.F.ok sc_is_tie (spF_len rfl) fun cdv A outer s H vs Q E hr h => ⟨_, (pss_one (ps_ret (pe_and (pe_call d_joins_places.G (hr.mono (by decide)) (by rfl) d_joins_places.g d_joins_places.kp d_joins_places.b .nil pass0 (pa_cons (pe_ix ix_tup (pv 0) pe_int (fun _ _ => rfl)) (pa_cons (pv 1) pa_nil))) (pe_one (pe_cmpR (op_inD (hu65 hr)) (pv 1) (pe_ix ix_tup (pv 0) pe_int (fun _ _ => rfl)) (by rfl)))))), run_def h fun ds hn hp => ?_⟩
  obtain ⟨m, ts, x, y, rfl, ok, ht⟩ := hp
  refine run_ret (evo_and (a := true) (b := true) (evo_callF (evl_cons (evo_ixT (evo_var (x := webD m ts) rfl) (evt_of (evo_c rfl) rfl) (ds := [.int m, .list (ts.map pairD)]) rfl) (evl_cons (evo_var rfl) evl_nil)) rfl ⟨m, tieD x y, rfl⟩ (by show Sl.d (.bool (joinsB m (tieD x y))) = _; rw [joins_tie ok ht])) fun _ => ?_) rfl
  exact evo_is (evo_inP (ts := ts) (p := ((x : Int), (y : Int))) (evt_var rfl rfl) (evt_ixT (evt_var (x := webD m ts) rfl rfl) (evt_of (evo_c rfl) rfl) (ds := [.int m, .list (ts.map pairD)]) rfl)) (by rw [decide_eq_true ht])
abbrev sp_look_at_tie : Sp := spG 2 (fun ds => ∃ m ts x y, ds = [webD m ts, tieD x y] ∧ WOk m ts ∧ ((x : Int), (y : Int)) ∈ ts) fun _ => .d .none
theorem ok_look_at_tie (B : Bn mg) (T : Tp kf.K mg "look_at_tie" s_look_at_tie) (d_is_tie : Df P w kf.K mg base "is_tie" 4 ["web", "thing"] sp_is_tie) : FnOk P w kf.K mg base CX0 5 T.a T.fd ["web", "thing"] sp_look_at_tie := by
  refine T.F.ok sc_look_at_tie (spF_len rfl) fun cdv A outer s H vs Q E hr h => ⟨_, (pss_one (ps_if (pt_not (pt_val (pe_call d_is_tie.G (hr.mono (by decide)) (by rfl) d_is_tie.g d_is_tie.kp d_is_tie.b .nil pass0 (pa_cons (pv 0) (pa_cons (pv 1) pa_nil)))))
 (pss_one ps_never)
 pss_nil)), run_def h fun ds hn hp => ?_⟩
  obtain ⟨m, ts, x, y, rfl, ok, ht⟩ := hp
  exact run_if (b := false) (evb_is (evb_not (evb_B (evo_callF (evl_cons (evo_var rfl) (evl_cons (evo_var rfl) evl_nil)) rfl ⟨m, ts, x, y, rfl, ok, ht⟩ rfl))) rfl) (fun z => by cases z) fun _ => run_next rfl
abbrev sp_hangs : Sp := spG 1 (fun ds => ∃ m ts, ds = [webD m ts] ∧ WOk m ts ∧ HangA (adjW m ts)) fun _ => .d (.bool true)
theorem ok_hangs (B : Bn mg) (T : Tp kf.K mg "hangs" s_hangs) (d_beside_all : Df P w kf.K mg base "beside_all" 1 ["web"] sp_beside_all)
    (d_far_from : Df P w kf.K mg base "far_from" 1 ["beside", "place"] sp_far_from) : FnOk P w kf.K mg base CX0 2 T.a T.fd ["web"] sp_hangs := by
  refine T.F.ok sc_hangs (spF_len rfl) fun cdv A outer s H vs Q E hr h => ⟨_, (pss_one (ps_ret (pe_cmpR (op_notInD (hu65 hr)) pe_non (pe_call d_far_from.G (hr.mono (by decide)) (by rfl) d_far_from.g d_far_from.kp d_far_from.b .nil pass0 (pa_cons (pe_call d_beside_all.G (hr.mono (by decide)) (by rfl) d_beside_all.g d_beside_all.kp d_beside_all.b .nil pass0 (pa_cons (pv 0) pa_nil)) (pa_cons pe_int pa_nil))) (by rfl)))), run_def h fun ds hn hp => ?_⟩
  obtain ⟨m, ts, rfl, ok, hg⟩ := hp
  have m1 := ok.m1
  have z0 : 0 < (adjW m ts).length := by rw [adjW_len]; omega
  refine run_ret (evo_is (evo_notInD (d := .none) (ds := (farA (adjW m ts) 0).map oD) (evt_of (evo_c rfl) rfl) (evt_of (evo_call (r := .own ((farA (adjW m ts) 0).map oD)) (evl_cons (evo_fz (evo_call (evl_cons (evo_var rfl) evl_nil) rfl ⟨m, ts, rfl, ok⟩ fun r z => z m ts rfl) (bes_adj ok)) (evl_cons (evo_c rfl) evl_nil)) rfl ⟨_, 0, rfl, adjW_ok ok, z0⟩ fun r z => z _ 0 rfl) rfl) (pl_sh (n := 0) rfl) (pl_sh (n := 1) pl_far)) ?_) rfl
  refine congrArg (fun b => Sl.d (PyData.bool b)) ?_
  rw [Bool.not_eq_true', List.any_eq_false]
  intro z hz
  obtain ⟨o, ho, rfl⟩ := List.mem_map.mp hz
  obtain ⟨j, hj⟩ := List.getElem?_of_mem ho
  have jl : j < (adjW m ts).length := by
    have := (List.getElem?_eq_some_iff.mp hj).1
    rw [(far_is (adjW_ok ok) z0).len] at this
    exact this
  rw [d_at (adjW_ok ok) hg z0 jl] at hj
  cases hj
  rw [eqv_oD_none (by simp)]
  simp
abbrev sp_refuse_apart : Sp := spG 1 (fun ds => ∃ m ts, ds = [.list [webD m ts]] ∧ WOk m ts ∧ HangA (adjW m ts)) fun _ => .d .none
theorem ok_refuse_apart (B : Bn mg) (T : Tp kf.K mg "refuse_apart" s_refuse_apart) (d_hangs : Df P w kf.K mg base "hangs" 2 ["web"] sp_hangs) : FnOk P w kf.K mg base CX0 3 T.a T.fd ["webs"] sp_refuse_apart := by
  refine T.F.ok sc_refuse_apart (spF_len rfl) fun cdv A outer s H vs Q E hr h => ⟨_, (pss_one (ps_for PassesOwn.never rfl (pi_list (pv 0)) (pg_name (i := 1) sc_refuse_apart.nd rfl (Or.inl rfl))
 (pss_one (ps_if (pt_not (pt_val (pe_call d_hangs.G (hr.mono (by decide)) (by rfl) d_hangs.g d_hangs.kp d_hangs.b .nil pass0 (pa_cons (pv 1) pa_nil))))
 (pss_one ps_never)
 pss_nil)))), run_def h fun ds hn hp => ?_⟩
  obtain ⟨m, ts, rfl, ok, hg⟩ := hp
  refine run_for (ds := [webD m ts]) (it_list (evo_var (x := .list [webD m ts]) rfl)) (fun i ρ' => ∃ s1 : Sl, ρ' = [.d (.list [webD m ts]), s1]) ⟨_, rfl⟩ (fun i y ρ' hy hI => ?_) (fun ρ' hI => rfl)
  obtain ⟨s1, rfl⟩ := hI
  have e : y = webD m ts := by
    have := List.mem_of_getElem? hy
    simpa using this
  subst e
  refine ⟨_, _, tg_name, ?_⟩
  exact run_if (b := false) (evb_is (evb_not (evb_B (evo_callF (evl_cons (evo_var rfl) evl_nil) rfl ⟨m, ts, rfl, ok, hg⟩ rfl))) rfl) (fun z => by cases z) fun _ => run_next ⟨_, rfl⟩
abbrev sp_look_hang : Sp := spG 1 (fun ds => ∃ m ts, ds = [webD m ts] ∧ WOk m ts ∧ HangA (adjW m ts)) fun _ => .d .none
theorem ok_look_hang (B : Bn mg) (T : Tp kf.K mg "look_at_hanging" s_look_at_hanging) (d_look_at_web : Df P w kf.K mg base "look_at_web" 5 ["thing"] sp_look_at_web) (d_refuse_apart : Df P w kf.K mg base "refuse_apart" 3 ["webs"] sp_refuse_apart) : FnOk P w kf.K mg base CX0 7 T.a T.fd ["thing"] sp_look_hang := by
  refine T.F.ok sc_look_at_hanging (spF_len rfl) fun cdv A outer s H vs Q E hr h => ⟨_, (pss_cons (ps_expr (pe_call d_look_at_web.G (hr.mono (by decide)) (by rfl) d_look_at_web.g d_look_at_web.kp d_look_at_web.b .nil pass0 (pa_cons (pv 0) pa_nil)))
 (pss_one (ps_expr (pe_call d_refuse_apart.G (hr.mono (by decide)) (by rfl) d_refuse_apart.g d_refuse_apart.kp d_refuse_apart.b .nil pass0 (pa_cons (pe_lst (pa_cons (pv 0) pa_nil)) pa_nil))))), run_def h fun ds hn hp => ?_⟩
  obtain ⟨m, ts, rfl, ok, hg⟩ := hp
  refine run_seq (run_drop (evo_callF (evl_cons (evo_var rfl) evl_nil) rfl ⟨_, rfl, ok.fault⟩ rfl) ?_)
  refine run_drop (evo_callF (evl_cons (evo_fz (evo_lst (evl_cons (evo_var rfl) evl_nil) (sz_of (show 1 ≤ 1000000 by decide))) (x := .list [webD m ts]) rfl) evl_nil) rfl ⟨m, ts, rfl, ok, hg⟩ rfl) rfl
end

section
variable {P : Program} {w : World} [kf : KF] {mg : Str → Option Value} {base : Heap}
abbrev sp_far_linked : Sp := spF 3 (fun ds => ∃ adj x y u v, ds = [.list ((farsA adj).map .list), tieD x y, tieD u v] ∧ AOk adj ∧ HangA adj ∧ x < adj.length ∧ y < adj.length ∧ u < adj.length ∧ v < adj.length)
  fun ds r => ∀ F x y u v, ds = [F, tieD x y, tieD u v] → r = .d (.bool (decide (¬ iAt F (x : Int) (u : Int) + iAt F (y : Int) (v : Int) = iAt F (x : Int) (v : Int) + iAt F (y : Int) (u : Int))))
theorem ok_far_linked (B : Bn mg) (T : Tp kf.K mg "far_linked" s_far_linked) : FnOk P w kf.K mg base CX0 1 T.a T.fd ["far", "tie", "other"] sp_far_linked := by
  refine T.F.ok sc_far_linked (spF_len rfl) fun cdv A outer s H vs Q E hr h => ⟨_, (pss_cons (ps_asg (pv 1) (pg_tup rfl (pgs_cons (pg_name (i := 3) sc_far_linked.nd rfl (Or.inl rfl)) (pgs_cons (pg_name (i := 4) sc_far_linked.nd rfl (Or.inl rfl)) pgs_nil))))
 (pss_cons (ps_asg (pv 2) (pg_tup rfl (pgs_cons (pg_name (i := 5) sc_far_linked.nd rfl (Or.inl rfl)) (pgs_cons (pg_name (i := 6) sc_far_linked.nd rfl (Or.inl rfl)) pgs_nil))))
 (pss_one (ps_ret (pe_cmpR (op_neD hr.units) (pe_op op_add (pe_ix ix_list (pe_ix ix_list (pv 0) (pv 3) (fun _ _ => rfl)) (pv 5) (fun _ _ => rfl)) (pe_ix ix_list (pe_ix ix_list (pv 0) (pv 4) (fun _ _ => rfl)) (pv 6) (fun _ _ => rfl))) (pe_op op_add (pe_ix ix_list (pe_ix ix_list (pv 0) (pv 3) (fun _ _ => rfl)) (pv 6) (fun _ _ => rfl)) (pe_ix ix_list (pe_ix ix_list (pv 0) (pv 4) (fun _ _ => rfl)) (pv 5) (fun _ _ => rfl))) (nomark _)))))), run_def h fun ds hn hp => ?_⟩
  obtain ⟨adj, x, y, u, v, rfl, ok, hg, hx, hy, hu, hv⟩ := hp
  refine run_seq (run_asgT (x := tieD x y) (evo_var rfl) tg_two (run_seq (run_asgT (x := tieD u v) (evo_var rfl) tg_two ?_)))
  show Run _ _ [.d (.list ((farsA adj).map .list)), .d (tieD x y), .d (tieD u v), .d (natD x), .d (natD y), .d (natD u), .d (natD v)]
  refine run_ret (evo_neP (n := 0) (m := 0) (b := decide (linkA adj x y u v)) (evt_of (evo_I0 (evt_ixL (evt_ixL (evt_var rfl rfl) (evt_var (x := natD x) rfl rfl) (fars_at hx)) (evt_var (x := natD u) rfl rfl) (far_num ok hg hx hu)) (evt_ixL (evt_ixL (evt_var rfl rfl) (evt_var (x := natD y) rfl rfl) (fars_at hy)) (evt_var (x := natD v) rfl rfl) (far_num ok hg hy hv)) rfl) rfl)
    (evt_of (evo_I0 (evt_ixL (evt_ixL (evt_var rfl rfl) (evt_var (x := natD x) rfl rfl) (fars_at hx)) (evt_var (x := natD v) rfl rfl) (far_num ok hg hx hv)) (evt_ixL (evt_ixL (evt_var rfl rfl) (evt_var (x := natD y) rfl rfl) (fars_at hy)) (evt_var (x := natD u) rfl rfl) (far_num ok hg hy hu)) rfl) rfl) pl_int pl_int ?_) ?_
  · rw [PyData.int.injEq, decide_eq_false_iff_not]
    unfold linkA
    omega
  · intro F x' y' u' v' e
    simp only [List.cons.injEq, and_true, tieD, PyData.tuple.injEq] at e
    obtain ⟨rfl, ⟨e1, e2⟩, e3, e4⟩ := e
    have e1 : x = x' := Int.ofNat.inj (PyData.int.inj e1)
    have e2 : y = y' := Int.ofNat.inj (PyData.int.inj e2)
    have e3 : u = u' := Int.ofNat.inj (PyData.int.inj e3)
    have e4 : v = v' := Int.ofNat.inj (PyData.int.inj e4)
    subst e1 e2 e3 e4
    rw [iAt_fars ok hg hx hu, iAt_fars ok hg hy hv, iAt_fars ok hg hx hv, iAt_fars ok hg hy hu]
    refine congrArg (fun b => Sl.d (PyData.bool b)) (decide_eq_decide.mpr ?_)
    unfold linkA
    omega
abbrev sp_is_far : Sp := spF 3 (fun ds => ∃ m ts x y u v, ds = [webD m ts, tieD x y, tieD u v] ∧ WOk m ts ∧ HangA (adjW m ts) ∧ ((x : Int), (y : Int)) ∈ ts ∧ ((u : Int), (v : Int)) ∈ ts)
  fun ds r => ∀ m ts x y u v, ds = [webD m ts, tieD x y, tieD u v] → r = .d (.bool (decide (linkA (adjW m ts) x y u v)))
theorem ok_is_far (B : Bn mg) (T : Tp kf.K mg "is_far" s_is_far) (d_look_at_hanging : Df P w kf.K mg base "look_at_hanging" 7 ["thing"] sp_look_hang) (d_look_at_tie : Df P w kf.K mg base "look_at_tie" 5 ["web", "thing"] sp_look_at_tie)
    (d_beside_all : Df P w kf.K mg base "beside_all" 1 ["web"] sp_beside_all) (d_far_table : Df P w kf.K mg base "far_table" 2 ["beside"] sp_far_table) (d_far_linked : Df P w kf.K mg base "far_linked" 1 ["far", "tie", "other"] sp_far_linked) : FnOk P w kf.K mg base CX0 8 T.a T.fd ["web", "tie", "other"] sp_is_far := by
  refine T.F.ok sc_is_far (spF_len rfl) fun cdv A outer s H vs Q E hr h => ⟨_, (pss_cons (ps_expr (pe_call d_look_at_hanging.G (hr.mono (by decide)) (by rfl) d_look_at_hanging.g d_look_at_hanging.kp d_look_at_hanging.b .nil pass0 (pa_cons (pv 0) pa_nil)))
 (pss_cons (ps_expr (pe_call d_look_at_tie.G (hr.mono (by decide)) (by rfl) d_look_at_tie.g d_look_at_tie.kp d_look_at_tie.b .nil pass0 (pa_cons (pv 0) (pa_cons (pv 1) pa_nil))))
 (pss_cons (ps_expr (pe_call d_look_at_tie.G (hr.mono (by decide)) (by rfl) d_look_at_tie.g d_look_at_tie.kp d_look_at_tie.b .nil pass0 (pa_cons (pv 0) (pa_cons (pv 2) pa_nil))))
 (pss_one (ps_ret (pe_call d_far_linked.G (hr.mono (by decide)) (by rfl) d_far_linked.g d_far_linked.kp d_far_linked.b .nil pass0 (pa_cons (pe_call d_far_table.G (hr.mono (by decide)) (by rfl) d_far_table.g d_far_table.kp d_far_table.b .nil pass0 (pa_cons (pe_call d_beside_all.G (hr.mono (by decide)) (by rfl) d_beside_all.g d_beside_all.kp d_beside_all.b .nil pass0 (pa_cons (pv 0) pa_nil)) pa_nil)) (pa_cons (pv 1) (pa_cons (pv 2) pa_nil))))))))), run_def h fun ds hn hp => ?_⟩
  obtain ⟨m, ts, x, y, u, v, rfl, ok, hg, h1, h2⟩ := hp
  have aok := adjW_ok ok
  obtain ⟨hx, hy, _⟩ := pair_lt ok h1
  obtain ⟨hu, hv, _⟩ := pair_lt ok h2
  rw [← adjW_len (ts := ts)] at hx hy hu hv
  refine run_seq (run_drop (evo_callF (evl_cons (evo_var rfl) evl_nil) rfl ⟨m, ts, rfl, ok, hg⟩ rfl) ?_)
  refine run_seq (run_drop (evo_callF (evl_cons (evo_var rfl) (evl_cons (evo_var rfl) evl_nil)) rfl ⟨m, ts, x, y, rfl, ok, h1⟩ rfl) ?_)
  refine run_seq (run_drop (evo_callF (evl_cons (evo_var rfl) (evl_cons (evo_var rfl) evl_nil)) rfl ⟨m, ts, u, v, rfl, ok, h2⟩ rfl) ?_)
  refine run_ret (evo_call (r := .d (.bool (decide (linkA (adjW m ts) x y u v)))) (evl_cons (evo_fz (evo_call (r := .own2 (farsA (adjW m ts))) (evl_cons (evo_fz (evo_call (evl_cons (evo_var rfl) evl_nil) rfl ⟨m, ts, rfl, ok⟩ fun r z => z m ts rfl) (bes_adj ok)) evl_nil) rfl ⟨_, rfl, aok⟩ fun r z => z _ rfl) (x := .list ((farsA (adjW m ts)).map .list)) rfl) (evl_cons (evo_var rfl) (evl_cons (evo_var rfl) evl_nil))) rfl ⟨adjW m ts, x, y, u, v, rfl, aok, hg, hx, hy, hu, hv⟩ fun r z => ?_) ?_
  · rw [z _ x y u v rfl, iAt_fars aok hg hx hu, iAt_fars aok hg hy hv, iAt_fars aok hg hx hv, iAt_fars aok hg hy hu]
    refine congrArg (fun b => Sl.d (PyData.bool b)) (decide_eq_decide.mpr ?_)
    unfold linkA
    omega
  · intro m' ts' x' y' u' v' e
    simp only [List.cons.injEq, and_true, tieD, PyData.tuple.injEq] at e
    obtain ⟨e0, ⟨e1, e2⟩, e3, e4⟩ := e
    obtain ⟨rfl, rfl⟩ := webD_inj e0
    have e1 : x = x' := Int.ofNat.inj (PyData.int.inj e1)
    have e2 : y = y' := Int.ofNat.inj (PyData.int.inj e2)
    have e3 : u = u' := Int.ofNat.inj (PyData.int.inj e3)
    have e4 : v = v' := Int.ofNat.inj (PyData.int.inj e4)
    subst e1 e2 e3 e4
    rfl
end

end k23n
namespace k23n
open PySem L2 PL
section
variable {P : Program} {w : World} [kf : KF] {mg : Str → Option Value} {base : Heap}
end
/-! ### the law's cells and numbers -/
def cellAt (ns : List Int) (k : Int) : Int := if k < ns.length then ns.getD k.toNat 0 else 0
theorem ints_inj : ∀ {ts us : List Int}, ts.map PyData.int = us.map PyData.int → ts = us
  | [], [], _ => rfl
  | [], _ :: _, h => by simp at h
  | _ :: _, [], h => by simp at h
  | t :: ts, u :: us, h => by
    rw [List.map_cons, List.map_cons] at h
    rw [PyData.int.inj (List.cons.inj h).1, ints_inj (List.cons.inj h).2]
section
variable {P : Program} {w : World} [kf : KF] {mg : Str → Option Value} {base : Heap}
abbrev sp_cell_at : Sp := spF 2 (fun ds => ∃ (ns : List Int) (k : Int), ds = [.list (ns.map .int), .int k] ∧ 0 ≤ k) fun ds r => ∀ (ns : List Int) (k : Int), ds = [.list (ns.map .int), .int k] → r = .d (.int (cellAt ns k))
theorem ok_cell_at (B : Bn mg) (T : Tp kf.K mg "_law_cell_at" s__law_cell_at) : FnOk P w kf.K mg base CX0 1 T.a T.fd ["_law_script", "_law_k"] sp_cell_at := by
  refine T.F.ok sc__law_cell_at (spF_len rfl) fun cdv A outer s H vs Q E hr h => ⟨_, (pss_cons (ps_if (pt_cmpR op_lt (pv 1) (pe_callB call_len_seq (by rfl) B.n_len PySem.boot_len (pa_cons (pv 0) pa_nil)) (nomark _))
 (pss_one (ps_ret (pe_ix ix_list (pv 0) (pv 1) (fun _ _ => rfl))))
 pss_nil)
 (pss_one (ps_ret pe_int))), run_def h fun ds hn hp => ?_⟩
  obtain ⟨ns, k, rfl, k0⟩ := hp
  have done : ∀ r : Sl, r = .d (.int (cellAt ns k)) → ∀ (ns' : List Int) (k' : Int), [PyData.list (ns.map .int), .int k] = [.list (ns'.map .int), .int k'] → r = .d (.int (cellAt ns' k')) := fun r hr ns' k' e => by
    simp only [List.cons.injEq, PyData.int.injEq, PyData.list.injEq, and_true] at e
    rw [← ints_inj e.1, ← e.2]
    exact hr
  refine run_seq (run_if (evb_test (evo_I0 (evt_var rfl rfl) (evt_of (evo_lenL (evt_var rfl rfl)) rfl) rfl)) (fun hb => ?_) (fun hb => run_next (run_ret (evo_c rfl) (done _ ?_))))
  · have hb := of_decide_eq_true hb
    rw [List.length_map] at hb
    obtain ⟨n, hn⟩ : ∃ n, ns[k.toNat]? = some n := ⟨ns[k.toNat]'(by omega), List.getElem?_eq_getElem (by omega)⟩
    have e : atI (ns.map PyData.int) k = some (.int n) := by
      have := at_map (f := PyData.int) hn
      rwa [show ((k.toNat : Nat) : Int) = k by omega] at this
    refine run_ret (evo_flat (evt_ixL (evt_var rfl rfl) (evt_var rfl rfl) e) rfl) (done _ ?_)
    unfold cellAt
    rw [if_pos hb, List.getD_eq_getElem?_getD, hn]
    rfl
  · have hb := of_decide_eq_false hb
    rw [List.length_map] at hb
    unfold cellAt
    rw [if_neg hb]
end
/-- the law's numbers -/
def mix (num sa k : Int) : Int :=
  let o1 := (num + 7919 * sa + 101 * k * k + k) % 2147483647
  let o2 := o1 * 48271 % 2147483647
  o2 * o2 % 2147483629 * 48271 % 2147483647 / 16
def numsGo (num sa : Int) : Int → Nat → List Int → List Int
  | _, _, [] => []
  | l, k, z :: zs => if 10 ^ 18 ≤ num ∧ 0 < l then l % z :: numsGo num sa (l / z) (k + 1) zs else mix num sa (k : Int) % z :: numsGo num sa l (k + 1) zs
def numsF (c sa : Int) (zs : List Int) : List Int := numsGo (max c (-1 - c)) sa (max c (-1 - c)) 0 zs
theorem numsGo_len (num sa : Int) : ∀ (zs : List Int) (l : Int) (k : Nat), (numsGo num sa l k zs).length = zs.length
  | [], _, _ => rfl
  | z :: zs, l, k => by
    unfold numsGo
    split
    · rw [List.length_cons, List.length_cons, numsGo_len num sa zs]
    · rw [List.length_cons, List.length_cons, numsGo_len num sa zs]
theorem numsGo_at (num sa : Int) : ∀ (zs : List Int) (l : Int) (k j : Nat) (z : Int), (∀ z ∈ zs, 0 < z) → zs[j]? = some z → ∃ f, (numsGo num sa l k zs)[j]? = some f ∧ 0 ≤ f ∧ f < z
  | [], _, _, _, _, _, h => by simp at h
  | y :: zs, l, k, j, z, hp, h => by
    have hy := hp y List.mem_cons_self
    cases j with
    | zero =>
      simp at h
      subst h
      unfold numsGo
      split
      · exact ⟨_, rfl, Int.emod_nonneg _ (by omega), Int.emod_lt_of_pos _ hy⟩
      · exact ⟨_, rfl, Int.emod_nonneg _ (by omega), Int.emod_lt_of_pos _ hy⟩
    | succ j =>
      have h' : zs[j]? = some z := by simpa using h
      unfold numsGo
      split
      · obtain ⟨f, e1, e2⟩ := numsGo_at num sa zs (l / y) (k + 1) j z (fun z hz => hp z (List.mem_cons_of_mem _ hz)) h'
        exact ⟨f, by simpa using e1, e2⟩
      · obtain ⟨f, e1, e2⟩ := numsGo_at num sa zs l (k + 1) j z (fun z hz => hp z (List.mem_cons_of_mem _ hz)) h'
        exact ⟨f, by simpa using e1, e2⟩
theorem numsF_len (c sa : Int) (zs : List Int) : (numsF c sa zs).length = zs.length := numsGo_len _ _ _ _ _
theorem numsF_at {c sa : Int} {zs : List Int} {j : Nat} {z : Int} (hp : ∀ z ∈ zs, 0 < z) (h : zs[j]? = some z) : ∃ f, (numsF c sa zs)[j]? = some f ∧ 0 ≤ f ∧ f < z := numsGo_at _ _ _ _ _ _ _ hp h
section
variable {P : Program} {w : World} [kf : KF] {mg : Str → Option Value} {base : Heap}
abbrev sp_numbers : Sp := spF 3 (fun ds => ∃ (c s : Int) (zs : List Int), ds = [.int c, .int s, .list (zs.map .int)] ∧ zs.length ≤ 1000 ∧ ∀ z ∈ zs, 0 < z ∧ z < 1073741824) fun ds r => ∀ (c s : Int) (zs : List Int), ds = [.int c, .int s, .list (zs.map .int)] → r = .own ((numsF c s zs).map .int)
theorem ok_numbers (B : Bn mg) (T : Tp kf.K mg "_law_numbers" s__law_numbers) : FnOk P w kf.K mg base CX0 1 T.a T.fd ["_law_cell", "_law_salt", "_law_sizes"] sp_numbers := by
  refine T.F.ok sc__law_numbers (spF_len rfl) fun cdv A outer s H vs Q E hr h => ⟨_, (pss_cons (ps_set (i := 3) sc__law_numbers.nd rfl (Or.inl rfl) (pe_callB (call_max2 rfl) (by rfl) B.n_max (by decide +kernel) (pa_cons (pv 0) (pa_cons (pe_op op_sub (pe_un un_neg pe_int) (pv 0)) pa_nil))))
 (pss_cons (ps_set (i := 4) sc__law_numbers.nd rfl (Or.inl rfl) (pv 3))
 (pss_cons (ps_set (i := 5) sc__law_numbers.nd rfl (Or.inl rfl) (pe_lst pa_nil))
 (pss_cons (ps_for PassesOwn.never rfl (pi_range1 (by rfl) B.n_range (pa_cons (pe_callB call_len_seq (by rfl) B.n_len PySem.boot_len (pa_cons (pv 2) pa_nil)) pa_nil)) (pg_name (i := 6) sc__law_numbers.nd rfl (Or.inl rfl))
 (pss_one (ps_if (PW.pt (pw_and (pt_cmpR op_ge (pv 3) (pe_op op_pow pe_int pe_int) (nomark _)) (pw_and1 (pt_cmpR op_gt (pv 4) pe_int (nomark _)))))
 (pss_cons (ps_expr (pe_bm PySem.F.plainAttrs_list PySem.F.slot_list_append PySem.F.type_list_append mt_append (pv 5) (pa_cons (pe_op op_mod (pv 4) (pe_ix ix_list (pv 2) (pv 6) (fun _ _ => rfl))) pa_nil)))
 (pss_one (ps_set (i := 4) sc__law_numbers.nd rfl (Or.inl rfl) (pe_op op_fdiv (pv 4) (pe_ix ix_list (pv 2) (pv 6) (fun _ _ => rfl))))))
 (pss_cons (ps_set (i := 7) sc__law_numbers.nd rfl (Or.inl rfl) (pe_op op_mod (pe_op op_add (pe_op op_add (pe_op op_add (pv 3) (pe_op op_mul pe_int (pv 1))) (pe_op op_mul (pe_op op_mul pe_int (pv 6)) (pv 6))) (pv 6)) pe_int))
 (pss_cons (ps_set (i := 7) sc__law_numbers.nd rfl (Or.inl rfl) (pe_op op_mod (pe_op op_mul (pv 7) pe_int) pe_int))
 (pss_cons (ps_set (i := 7) sc__law_numbers.nd rfl (Or.inl rfl) (pe_op op_mod (pe_op op_mul (pe_op op_mod (pe_op op_mul (pv 7) (pv 7)) pe_int) pe_int) pe_int))
 (pss_one (ps_expr (pe_bm PySem.F.plainAttrs_list PySem.F.slot_list_append PySem.F.type_list_append mt_append (pv 5) (pa_cons (pe_op op_mod (pe_op op_fdiv (pv 7) pe_int) (pe_ix ix_list (pv 2) (pv 6) (fun _ _ => rfl))) pa_nil))))))))))
 (pss_one (ps_ret (pv 5))))))), run_def h fun ds hn hp => ?_⟩
  obtain ⟨c, sa, zs, rfl, hzl, hz⟩ := hp
  refine run_seq (run_asg (evo_max2 (evt_var rfl rfl) (evt_of (evo_I0 (evt_of (evo_U (evt_of (evo_c rfl) rfl) rfl) rfl) (evt_var rfl rfl) rfl) rfl)) ?_)
  refine run_seq (run_asg (evo_var rfl) ?_)
  refine run_seq (run_asg (evo_lst evl_nil (sz_of (by decide))) ?_)
  generalize hnum : max c (-1 - c) = num
  refine run_seq (run_for (ds := (List.range zs.length).map fun (i : Nat) => PyData.int (0 + (i : Int))) ?_ (fun i ρ' => ∃ (l : Int) (fs : List Int) (s6 s7 : Sl), ρ' = [.d (.int c), .d (.int sa), .d (.list (zs.map .int)), .d (.int num), .d (.int l), .own (fs.map .int), s6, s7] ∧ fs.length = i ∧ fs ++ numsGo num sa l i (zs.drop i) = numsGo num sa num 0 zs) ?_ (fun i x ρ' hx hI => ?_) (fun ρ' hI => ?_))
  · have := it_range1 (ρ := [.d (.int c), .d (.int sa), .d (.list (zs.map .int)), .d (.int num), .d (.int num), .own [], .no, .no]) (te := tCB (fun xs H Q => ∃ p ys, xs = [V.ref p] ∧ (SqL kf.K H p ys ∨ SqT kf.K H p ys) ∧ Q (.int ys.length) H) (tCons (tVar 2) tNil)) (evt_of (evo_lenL (evt_var rfl rfl)) rfl) (by rw [List.length_map]; omega) (by omega)
    rw [List.length_map, Int.toNat_natCast] at this
    rw [← hnum] at this ⊢
    exact this
  · refine ⟨num, [], .no, .no, ?_, rfl, rfl⟩
    rw [← hnum]
    rfl
  · obtain ⟨l, fs, s6, s7, rfl, hl, hI⟩ := hI
    obtain ⟨rfl, hi⟩ := range_at hx
    rw [Int.zero_add]
    refine ⟨_, _, tg_name, ?_⟩
    show Run _ _ [.d (.int c), .d (.int sa), .d (.list (zs.map .int)), .d (.int num), .d (.int l), .own (fs.map .int), .d (.int (i : Int)), s7]
    obtain ⟨z, hzi⟩ : ∃ z, zs[i]? = some z := ⟨zs[i], List.getElem?_eq_getElem hi⟩
    obtain ⟨z0, z1⟩ := hz z (List.mem_of_getElem? hzi)
    have at_z : atI (zs.map PyData.int) (i : Int) = some (.int z) := at_map hzi
    have fl : (fs.map PyData.int).length ≤ 1000000 := by rw [List.length_map]; omega
    have nx : ∀ (l' : Int) (x : Int) (s7' : Sl), numsGo num sa l i (zs.drop i) = x :: numsGo num sa l' (i + 1) (zs.drop (i + 1)) → ∃ (l : Int) (fs' : List Int) (s6 s7 : Sl), [Sl.d (.int c), .d (.int sa), .d (.list (zs.map .int)), .d (.int num), .d (.int l'), .own (fs.map .int ++ [.int x]), .d (.int (i : Int)), s7'] = [.d (.int c), .d (.int sa), .d (.list (zs.map .int)), .d (.int num), .d (.int l), .own (fs'.map .int), s6, s7] ∧ fs'.length = i + 1 ∧ fs' ++ numsGo num sa l (i + 1) (zs.drop (i + 1)) = numsGo num sa num 0 zs :=
      fun l' x s7' e => ⟨l', fs ++ [x], _, _, by rw [List.map_append]; rfl, by rw [List.length_append, hl]; rfl, by rw [List.append_assoc, ← hI, e]; rfl⟩
    have dr : zs.drop i = z :: zs.drop (i + 1) := by
      obtain ⟨h1, h2⟩ := List.getElem?_eq_some_iff.mp hzi
      rw [List.drop_eq_getElem_cons h1, h2]
    refine run_if (evb_and (evb_test (evo_I0 (evt_var rfl rfl) (evt_of (evo_I (evt_of (evo_c rfl) rfl) (evt_of (evo_c rfl) rfl) (by refine ⟨?_, ?_, ?_⟩ <;> decide) rfl) rfl) rfl)) fun _ => evb_test (evo_I0 (evt_var rfl rfl) (evt_of (evo_c rfl) rfl) rfl)) (fun hb => ?_) (fun hb => ?_)
    · refine run_seq (run_append rfl (evo_I (evt_var rfl rfl) (evt_ixL (evt_var rfl rfl) (evt_var rfl rfl) at_z) z0 rfl) fl ?_)
      refine run_asg (evo_I (evt_var rfl rfl) (evt_ixL (evt_var rfl rfl) (evt_var rfl rfl) at_z) ⟨z0, z1⟩ rfl) ?_
      rw [Bool.and_eq_true] at hb
      have b1 := of_decide_eq_true hb.1
      have b2 := of_decide_eq_true hb.2
      refine nx _ _ _ ?_
      rw [dr]
      show (if 10 ^ 18 ≤ num ∧ 0 < l then _ else _) = _
      rw [if_pos ⟨b1, b2⟩]
    · refine run_seq (run_asgP (P := fun r => ∃ o : Int, r = .d (.int o) ∧ o = (num + 7919 * sa + 101 * (i : Int) * (i : Int) + (i : Int)) % 2147483647 ∧ 0 ≤ o ∧ o < 2147483647) (evp_of (evo_I (evt_of (evo_I0 (evt_of (evo_I0 (evt_of (evo_I0 (evt_var rfl rfl) (evt_of (evo_I (evt_of (evo_c rfl) rfl) (evt_var rfl rfl) (.inl (by decide)) rfl) rfl) rfl) rfl)
        (evt_of (evo_I (evt_of (evo_I (evt_of (evo_c rfl) rfl) (evt_var rfl rfl) (.inl (by decide)) rfl) rfl) (evt_var rfl rfl) (.inr (by omega)) rfl) rfl) rfl) rfl) (evt_var rfl rfl) rfl) rfl) (evt_of (evo_c rfl) rfl) (by decide) rfl) ⟨_, rfl, rfl, Int.emod_nonneg _ (by decide), Int.emod_lt_of_pos _ (by decide)⟩) ?_)
      rintro _ ⟨o1, rfl, eo1, _, _⟩
      refine run_seq (run_asgP (P := fun r => ∃ o : Int, r = .d (.int o) ∧ o = o1 * 48271 % 2147483647 ∧ 0 ≤ o ∧ o < 2147483647) (evp_of (evo_I (evt_of (evo_I (evt_var rfl rfl) (evt_of (evo_c rfl) rfl) (.inr (by decide)) rfl) rfl) (evt_of (evo_c rfl) rfl) (by decide) rfl) ⟨_, rfl, rfl, Int.emod_nonneg _ (by decide), Int.emod_lt_of_pos _ (by decide)⟩) ?_)
      rintro _ ⟨o2, rfl, eo2, _, _⟩
      refine run_seq (run_asgP (P := fun r => ∃ o : Int, r = .d (.int o) ∧ o = o2 * o2 % 2147483629 * 48271 % 2147483647 ∧ 0 ≤ o ∧ o < 2147483647) (evp_of (evo_I (evt_of (evo_I (evt_of (evo_I (evt_of (evo_I (evt_var rfl rfl) (evt_var rfl rfl) (.inl (by omega)) rfl) rfl) (evt_of (evo_c rfl) rfl) (by decide) rfl) rfl) (evt_of (evo_c rfl) rfl) (.inr (by decide)) rfl) rfl) (evt_of (evo_c rfl) rfl) (by decide) rfl) ⟨_, rfl, rfl, Int.emod_nonneg _ (by decide), Int.emod_lt_of_pos _ (by decide)⟩) ?_)
      rintro _ ⟨o3, rfl, eo3, _, _⟩
      refine run_append rfl (evo_I (evt_of (evo_I (evt_var rfl rfl) (evt_of (evo_c rfl) rfl) ⟨by decide, by decide⟩ rfl) rfl) (evt_ixL (evt_var rfl rfl) (evt_var rfl rfl) at_z) z0 rfl) fl ?_
      refine nx _ _ _ ?_
      rw [dr]
      show (if 10 ^ 18 ≤ num ∧ 0 < l then _ else _) = _
      rw [if_neg (by
        rintro ⟨c1, c2⟩
        rw [Bool.and_eq_false_iff] at hb
        rcases hb with hb | hb
        · exact of_decide_eq_false hb c1
        · exact of_decide_eq_false hb c2)]
      rw [eo3, eo2, eo1]
      rfl
  · obtain ⟨l, fs, s6, s7, rfl, hl, hI⟩ := hI
    refine run_retV (r := .own (fs.map .int)) rfl (by intro z; cases z) fun c' s' zs' e => ?_
    simp only [List.cons.injEq, PyData.int.injEq, PyData.list.injEq, and_true] at e
    obtain ⟨rfl, rfl, e⟩ := e
    have e := ints_inj e
    subst e
    have hl : fs.length = zs.length := by simpa using hl
    have hI : fs ++ numsGo num sa l zs.length (zs.drop zs.length) = numsGo num sa num 0 zs := by simpa using hI
    rw [List.drop_length] at hI
    unfold numsF
    rw [hnum, ← hI]
    show _ = Sl.own ((fs ++ []).map _)
    rw [List.append_nil]
end

end k23n
namespace k23n
open PySem L2 PL
theorem insK_old {ks : List (Int × Int)} {k q : Int × Int} (h : q ∈ ks) : q ∈ insK ks k := by
  unfold insK
  split
  · exact h
  · exact List.mem_append_left _ h
theorem insK_self (ks : List (Int × Int)) (k : Int × Int) : k ∈ insK ks k := by
  unfold insK
  split
  · assumption
  · exact List.mem_append_right _ (List.mem_singleton.mpr rfl)
theorem cn_of {n : Nat} {os : List Int} {ts : List (Int × Int)} (hl : n = os.length) (hall : ∀ j : Nat, j < n → (j : Int) ∈ os) (hos : ∀ j, j < n → ∃ v, os[j]? = some v ∧ 0 ≤ v)
    (h : ∀ k, k < n - 1 → ∃ d : Nat, d ≤ k ∧ ∀ v u : Int, os[k + 1]? = some v → os[d]? = some u → (min v u, max v u) ∈ ts) : Cn (n : Int) ts := by
  have key : ∀ k, k < n → ∀ (v u : Nat), os[k]? = some (v : Int) → os[0]? = some (u : Int) → Conn ts v u := by
    intro k
    induction k using Nat.strongRecOn with
    | _ k ih =>
      intro hk v u hv hu
      cases k with
      | zero =>
        rw [hv] at hu
        have : v = u := Int.ofNat.inj (Option.some.inj hu)
        subst this
        exact .refl v
      | succ k =>
        obtain ⟨d, hd, ht⟩ := h k (by omega)
        obtain ⟨x, hx, x0⟩ := hos d (by omega)
        obtain ⟨y, rfl⟩ : ∃ y : Nat, x = y := ⟨x.toNat, by omega⟩
        have c := ih d (by omega) (by omega) y u hx hu
        have t := ht v y hv hx
        refine Conn.trans (.step (.refl v) ?_) c
        unfold Td
        by_cases hc : v ≤ y
        · rw [show min (v : Int) (y : Int) = v by omega, show max (v : Int) (y : Int) = y by omega] at t
          exact .inl t
        · rw [show min (v : Int) (y : Int) = y by omega, show max (v : Int) (y : Int) = v by omega] at t
          exact .inr t
  intro i j hi hj
  have hi : i < n := by omega
  have hj : j < n := by omega
  obtain ⟨z, hz, z0⟩ := hos 0 (by omega)
  obtain ⟨u, rfl⟩ : ∃ y : Nat, z = y := ⟨z.toNat, by omega⟩
  obtain ⟨a, ha⟩ := List.getElem?_of_mem (hall i hi)
  obtain ⟨b, hb⟩ := List.getElem?_of_mem (hall j hj)
  have la := (List.getElem?_eq_some_iff.mp ha).1
  have lb := (List.getElem?_eq_some_iff.mp hb).1
  exact (key a (by omega) i u ha hz).trans (key b (by omega) j u hb hz).symm
section
variable {P : Program} {w : World} [kf : KF] {mg : Str → Option Value} {base : Heap}
end
/-! ### the law's webs -/
def sizesA (most more : Int) (n : Nat) : List Int := ([most, more + 1] ++ (List.range (n - 1)).map fun (k : Nat) => (k : Int) + 1) ++ (List.range n).map fun (k : Nat) => (n : Int) - k
def sizesF (most more : Int) (n : Nat) : List Int := sizesA most more n ++ List.replicate more.toNat ((n : Int) * n)
theorem sizesA_len (most more : Int) {n : Nat} (h : 1 ≤ n) : (sizesA most more n).length = 2 * n + 1 := by
  simp [sizesA]
  omega
theorem sizes_1 (most more : Int) (n : Nat) : (sizesF most more n)[1]? = some (more + 1) := rfl
theorem sizes_2 (most more : Int) {n k : Nat} (h : k < n - 1) : (sizesF most more n)[2 + k]? = some ((k : Int) + 1) := by
  unfold sizesF sizesA
  rw [List.getElem?_append_left (by simp; omega), List.getElem?_append_left (by simp; omega), List.getElem?_append_right (by simp), show 2 + k - [most, more + 1].length = k by simp, List.getElem?_map, List.getElem?_range h]
  rfl
theorem sizes_3 (most more : Int) {n k : Nat} (h : k < n) : (sizesF most more n)[n + 1 + k]? = some ((n : Int) - k) := by
  unfold sizesF sizesA
  rw [List.getElem?_append_left (by simp; omega), List.getElem?_append_right (by simp; omega), show n + 1 + k - ([most, more + 1] ++ (List.range (n - 1)).map fun (k : Nat) => (k : Int) + 1).length = k by simp; omega, List.getElem?_map, List.getElem?_range h]
  rfl
theorem sizes_4 (most more : Int) {n j : Nat} (hn : 1 ≤ n) (h : j < more.toNat) : (sizesF most more n)[2 * n + 1 + j]? = some ((n : Int) * n) := by
  unfold sizesF
  rw [List.getElem?_append_right (by rw [sizesA_len _ _ hn]; omega), sizesA_len _ _ hn, show 2 * n + 1 + j - (2 * n + 1) = j by omega, List.getElem?_replicate_of_lt h]
theorem sizes_pos {most more : Int} {n : Nat} (h1 : 1 ≤ most) (h2 : 0 ≤ more) (h3 : most ≤ 40) (h4 : more ≤ 81) (hn : 1 ≤ n) (hn2 : n ≤ 40) : ∀ z ∈ sizesF most more n, 0 < z ∧ z < 1073741824 := by
  intro z hz
  unfold sizesF sizesA at hz
  rcases List.mem_append.mp hz with hz | hz
  · rcases List.mem_append.mp hz with hz | hz
    · rcases List.mem_append.mp hz with hz | hz
      · simp at hz
        omega
      · obtain ⟨k, hk, rfl⟩ := List.mem_map.mp hz
        have := List.mem_range.mp hk
        omega
    · obtain ⟨k, hk, rfl⟩ := List.mem_map.mp hz
      have := List.mem_range.mp hk
      omega
  · have e := List.eq_of_mem_replicate hz
    subst e
    have a : (1 : Int) ≤ n := by omega
    have b : (n : Int) ≤ 40 := by omega
    have c : (1 : Int) * 1 ≤ (n : Int) * n := Int.mul_le_mul a a (by omega) (by omega)
    have d : (n : Int) * n ≤ 40 * 40 := Int.mul_le_mul b b (by omega) (by omega)
    omega
theorem sizes_len {most more : Int} {n : Nat} (h4 : more ≤ 81) (hn : 1 ≤ n) (hn2 : n ≤ 40) : (sizesF most more n).length ≤ 1000 := by
  unfold sizesF
  rw [List.length_append, sizesA_len _ _ hn, List.length_replicate]
  omega
theorem rep_one {α : Type} (x : α) : ∀ n : Nat, (List.replicate n [x]).flatten = List.replicate n x
  | 0 => rfl
  | n + 1 => by rw [List.replicate_succ, List.flatten_cons, rep_one x n, List.replicate_succ]; rfl
theorem erase_map {α β : Type} (f : α → β) : ∀ (l : List α) (k : Nat), (l.map f).eraseIdx k = (l.eraseIdx k).map f
  | [], _ => rfl
  | _ :: _, 0 => rfl
  | x :: l, k + 1 => by
    show f x :: (l.map f).eraseIdx k = f x :: (l.eraseIdx k).map f
    rw [erase_map f l k]
theorem perm_erase {α : Type} : ∀ {l : List α} {k : Nat} (h : k < l.length), (l[k] :: l.eraseIdx k).Perm l
  | x :: l, 0, _ => .refl _
  | x :: l, k + 1, h => (List.Perm.swap x _ _).trans ((perm_erase (l := l) (k := k) (by simpa using h)).cons x)
def names0 (n : Nat) : List Int := (List.range n).map fun (i : Nat) => (i : Int)
theorem names0_nodup (n : Nat) : (names0 n).Nodup := by
  refine List.pairwise_map.mpr (List.nodup_range.imp fun {a b} h e => h (by omega))
def pairs0 (dgs : List Int) (n : Nat) : List (Int × Int) := (List.range (n - 1)).map fun (k : Nat) => ((k : Int) + 1, dgs.getD (2 + k) 0)
section
variable {P : Program} {w : World} [kf : KF] {mg : Str → Option Value} {base : Heap}
abbrev sp_web : Sp := spF 4 (fun ds => ∃ c s most more : Int, ds = [.int c, .int s, .int most, .int more] ∧ 1 ≤ most ∧ most ≤ 40 ∧ 0 ≤ more ∧ more ≤ 81) fun _ r => ∃ m ts, r = .d (webD m ts) ∧ WOk m ts ∧ Cn m ts
theorem ok_web (B : Bn mg) (T : Tp kf.K mg "_law_web" s__law_web) (d__law_numbers : Df P w kf.K mg base "_law_numbers" 1 ["_law_cell", "_law_salt", "_law_sizes"] sp_numbers) :
    FnOk P w kf.K mg base CX0 2 T.a T.fd ["_law_cell", "_law_salt", "_law_most", "_law_more"] sp_web := by
  refine T.F.ok sc__law_web (spF_len rfl) fun cdv A outer s H vs Q E hr h => ⟨_, (pss_cons (ps_set (i := 4) sc__law_web.nd rfl (Or.inr rfl) (pe_op op_add pe_int (pe_ix ix_list (pe_call d__law_numbers.G (hr.mono (by decide)) (by rfl) d__law_numbers.g d__law_numbers.kp d__law_numbers.b .nil pass0 (pa_cons (pv 0) (pa_cons (pv 1) (pa_cons (pe_lst (pa_cons (pv 2) pa_nil)) pa_nil)))) pe_int (fun _ _ => rfl))))
 (pss_cons (ps_set (i := 5) sc__law_web.nd rfl (Or.inl rfl) (pe_op op_catR (pe_op op_catR (pe_lst (pa_cons (pv 2) (pa_cons (pe_op op_add (pv 3) pe_int) pa_nil))) (pe_lc (own := [("_law_k", 6)]) rfl sc__law_web.nd (pi_range1 (by rfl) B.n_range (pa_cons (pe_op op_sub (pv 4) pe_int) pa_nil)) (blkOk_by (own := [("_law_k", 6)]) (N := ["_law_cell", "_law_salt", "_law_most", "_law_more", "_law_many", "_law_sizes", "_law_k", "_law_digits", "_law_names", "_law_order", "_law_pairs", "_law_digit", "_law_ties", "_law_one", "_law_other"]) (sc := defScope s__law_web) (by decide +kernel)) (fun _ _ _ _ _ => (pg_name (i := 6) sc__law_web.nd rfl (Or.inl rfl))) (fun _ _ _ _ _ => pts_nil) (fun _ _ _ _ _ => (pe_op op_add (pv 6) pe_int)))) (pe_lc (own := [("_law_k", 6)]) rfl sc__law_web.nd (pi_range1 (by rfl) B.n_range (pa_cons (pv 4) pa_nil)) (blkOk_by (own := [("_law_k", 6)]) (N := ["_law_cell", "_law_salt", "_law_most", "_law_more", "_law_many", "_law_sizes", "_law_k", "_law_digits", "_law_names", "_law_order", "_law_pairs", "_law_digit", "_law_ties", "_law_one", "_law_other"]) (sc := defScope s__law_web) (by decide +kernel)) (fun _ _ _ _ _ => (pg_name (i := 6) sc__law_web.nd rfl (Or.inl rfl))) (fun _ _ _ _ _ => pts_nil) (fun _ _ _ _ _ => (pe_op op_sub (pv 4) (pv 6))))))
 (pss_cons (ps_set (i := 7) sc__law_web.nd rfl (Or.inr rfl) (pe_call d__law_numbers.G (hr.mono (by decide)) (by rfl) d__law_numbers.g d__law_numbers.kp d__law_numbers.b .nil pass0 (pa_cons (pv 0) (pa_cons (pv 1) (pa_cons (pe_op op_catR (pv 5) (pe_op op_rep (pe_lst (pa_cons (pe_op op_mul (pv 4) (pv 4)) pa_nil)) (pv 3))) pa_nil)))))
 (pss_cons (ps_set (i := 8) sc__law_web.nd rfl (Or.inl rfl) (pe_listRg rfl (by rfl) B.n_list (prg_1 (by rfl) B.n_range (pv 4))))
 (pss_cons (ps_set (i := 9) sc__law_web.nd rfl (Or.inl rfl) (pe_lst pa_nil))
 (pss_cons (ps_for PassesOwn.never rfl (pi_range1 (by rfl) B.n_range (pa_cons (pv 4) pa_nil)) (pg_name (i := 6) sc__law_web.nd rfl (Or.inl rfl))
 (pss_one (ps_expr (pe_bm PySem.F.plainAttrs_list PySem.F.slot_list_append PySem.F.type_list_append mt_append (pv 9) (pa_cons (pe_bm PySem.F.plainAttrs_list PySem.F.slot_list_pop PySem.F.type_list_pop mt_popAt (pv 8) (pa_cons (pe_ix ix_list (pv 7) (pe_op op_add (pe_op op_add (pv 4) pe_int) (pv 6)) (fun _ _ => rfl)) pa_nil)) pa_nil)))))
 (pss_cons (ps_setLc (i := 10) (own := [("_law_k", 6)]) rfl sc__law_web.nd rfl rfl (sw_true rfl rfl rfl (by decide +kernel)) (pi_range1 (by rfl) B.n_range (pa_cons (pe_op op_sub (pv 4) pe_int) pa_nil)) (blkOk_by (own := [("_law_k", 6)]) (N := ["_law_cell", "_law_salt", "_law_most", "_law_more", "_law_many", "_law_sizes", "_law_k", "_law_digits", "_law_names", "_law_order", "_law_pairs", "_law_digit", "_law_ties", "_law_one", "_law_other"]) (sc := defScope s__law_web) (by decide +kernel)) (fun _ _ _ _ _ => (pg_name (i := 6) sc__law_web.nd rfl (Or.inl rfl))) (fun _ _ _ _ _ => pts_nil) (fun _ _ _ _ _ => (pe_tup (pa_cons (pe_op op_add (pv 6) pe_int) (pa_cons (pe_ix (ix_listK (K := kf.K) rfl) (pv 7) (pe_op op_add pe_int (pv 6)) (fun _ _ => rfl)) pa_nil)))))
 (pss_cons (ps_for PassesOwn.never rfl (pi_list (pe_slice sl_list (pv 7) (po_some (pe_op op_add (pe_op op_mul pe_int (pv 4)) pe_int)) (po_some (pe_op op_add (pe_op op_add (pe_op op_mul pe_int (pv 4)) pe_int) (pe_ix ix_list (pv 7) pe_int (fun _ _ => rfl)))))) (pg_name (i := 11) sc__law_web.nd rfl (Or.inl rfl))
 (pss_one (ps_expr (pe_bm PySem.F.plainAttrs_list PySem.F.slot_list_append PySem.F.type_list_append mt_append (pv 10) (pa_cons (pe_tup (pa_cons (pe_op op_fdiv (pv 11) (pv 4)) (pa_cons (pe_op op_mod (pv 11) (pv 4)) pa_nil))) pa_nil)))))
 (pss_cons (ps_set (i := 12) sc__law_web.nd rfl (Or.inl rfl) pe_dnewT)
 (pss_cons (ps_for PassesOwn.never rfl (pi_list (pv 10)) (pg_tup rfl (pgs_cons (pg_name (i := 13) sc__law_web.nd rfl (Or.inl rfl)) (pgs_cons (pg_name (i := 14) sc__law_web.nd rfl (Or.inl rfl)) pgs_nil)))
 (pss_one (ps_if (pt_cmpR op_ne (pv 13) (pv 14) (nomark _))
 (pss_one (ps_dput (hu_of hr) (pv 12) (pe_tup (pa_cons (pe_callB (call_min2 rfl) (by rfl) B.n_min (by decide +kernel) (pa_cons (pe_ix ix_list (pv 9) (pv 13) (fun _ _ => rfl)) (pa_cons (pe_ix ix_list (pv 9) (pv 14) (fun _ _ => rfl)) pa_nil))) (pa_cons (pe_callB (call_max2 rfl) (by rfl) B.n_max (by decide +kernel) (pa_cons (pe_ix ix_list (pv 9) (pv 13) (fun _ _ => rfl)) (pa_cons (pe_ix ix_list (pv 9) (pv 14) (fun _ _ => rfl)) pa_nil))) pa_nil))) pe_bl rfl))
 pss_nil)))
 (pss_one (ps_ret (pe_tup (pa_cons (pv 4) (pa_cons (pe_callB (cr_sortedDT rfl) (by rfl) B.n_sorted (by decide +kernel) (pa_cons (pv 12) pa_nil)) pa_nil))))))))))))))), run_def h fun ds hn hp => ?_⟩
  obtain ⟨c, sa, most, more, rfl, h1, h2, h3, h4⟩ := hp
  -- many
  obtain ⟨f0, hf0, f00, f01⟩ := numsF_at (c := c) (sa := sa) (zs := [most]) (j := 0) (z := most) (by simp; omega) rfl
  refine run_seq (run_asg (r := .d (.int (1 + f0))) (evo_I0 (evt_of (evo_c rfl) rfl) (evt_ixL (evt_of (evo_call (evl_cons (evo_var rfl) (evl_cons (evo_var rfl) (evl_cons (evo_fz (evo_lst (evl_cons (evo_var rfl) evl_nil) (sz_of (show 1 ≤ 1000000 by decide))) rfl) evl_nil))) rfl ⟨c, sa, [most], rfl, by simp, by simp; omega⟩ fun r p => p c sa [most] rfl) rfl) (evt_of (evo_c rfl) rfl) (at_map hf0)) rfl) ?_)
  obtain ⟨n, en⟩ : ∃ n : Nat, 1 + f0 = (n : Int) := ⟨(1 + f0).toNat, by omega⟩
  rw [en]
  have n1 : 1 ≤ n := by omega
  have n2 : (n : Int) ≤ most := by omega
  clear hf0
  -- sizes
  refine run_seq (run_asg (r := .own ((sizesA most more n).map .int)) ?_ ?_)
  · refine evo_is (evo_cat (eve_of (evo_cat (eve_of (evo_lst (evl_cons (evo_var rfl) (evl_cons (evo_I0 (evt_var rfl rfl) (evt_of (evo_c rfl) rfl) rfl) evl_nil)) (sz_of (show 2 ≤ 1000000 by decide))))
      (eve_of (evo_lc (it_range1 (evt_of (evo_I0 (evt_var rfl rfl) (evt_of (evo_c rfl) rfl) rfl) rfl) (by omega) (by omega)) (fun _ => true) (fun k => .int ((0 + (k : Int)) + 1)) (fun i x hx => by
        obtain ⟨rfl, hi⟩ := range_at hx
        exact ⟨_, _, fun j hj => hj, tg_name, evb_yes, fun _ => evo_I0 (evt_var rfl rfl) (evt_of (evo_c rfl) rfl) rfl⟩) (by simp; omega))) (by rw [pick_all]; simp; omega)))
      (eve_of (evo_lc (it_range1 (evt_var rfl rfl) (by omega) (by omega)) (fun _ => true) (fun k => .int ((n : Int) - (0 + (k : Int)))) (fun i x hx => by
        obtain ⟨rfl, hi⟩ := range_at hx
        exact ⟨_, _, fun j hj => hj, tg_name, evb_yes, fun _ => evo_I0 (evt_var rfl rfl) (evt_var rfl rfl) rfl⟩) (by simp; omega))) (by rw [pick_all, pick_all]; simp; omega)) ?_
    rw [pick_all, pick_all, List.length_map, List.length_range, List.length_map, List.length_range]
    unfold sizesA
    rw [show ((n : Int) - 1).toNat = n - 1 by omega, Int.toNat_natCast]
    simp [Function.comp_def]
  -- digits
  have zpos := sizes_pos h1 h3 h2 h4 n1 (by omega)
  refine run_seq (run_asg (r := .own ((numsF c sa (sizesF most more n)).map .int)) (evo_call (evl_cons (evo_var rfl) (evl_cons (evo_var rfl) (evl_cons (evo_is (evo_fz (evo_cat (eve_var rfl) (eve_of (evo_rep (evo_lst (evl_cons (evo_I (evt_var rfl rfl) (evt_var rfl rfl) (.inl (by omega)) rfl) evl_nil) (sz_of (show 1 ≤ 1000000 by decide))) (evt_var rfl rfl) (by omega) (by omega) (by simp))) ?_) rfl) ?_) evl_nil))) rfl
    ⟨c, sa, sizesF most more n, rfl, sizes_len h4 n1 (by omega), zpos⟩ fun r p => p c sa (sizesF most more n) rfl) ?_)
  · rw [List.length_map, sizesA_len _ _ n1, rep_one, List.length_replicate]
    omega
  · rw [rep_one]
    unfold sizesF
    rw [List.map_append, List.map_replicate]
  have dg : ∀ {j : Nat} {z : Int}, (sizesF most more n)[j]? = some z → ∃ f, (numsF c sa (sizesF most more n))[j]? = some f ∧ 0 ≤ f ∧ f < z := fun h => numsF_at (fun z hz => (zpos z hz).1) h
  generalize hdg : numsF c sa (sizesF most more n) = dgs at dg ⊢
  -- names, order
  refine run_seq (run_asg (evo_listRg (evt_var rfl rfl) (by omega) (by omega)) ?_)
  refine run_seq (run_asg (evo_lst evl_nil (sz_of (by decide))) ?_)
  rw [Int.toNat_natCast]
  have hin : intsD 0 n = (names0 n).map PyData.int := by
    unfold intsD names0
    rw [List.map_map]
    refine List.map_congr_left fun i _ => ?_
    show PyData.int (0 + (i : Int)) = PyData.int (i : Int)
    rw [Int.zero_add]
  rw [hin]
  clear hin
  generalize hzs : sizesF most more n = zs at dg
  have dz1 : zs[1]? = some (more + 1) := by rw [← hzs]; exact sizes_1 most more n
  have dz2 : ∀ k, k < n - 1 → zs[2 + k]? = some ((k : Int) + 1) := fun k hk => by rw [← hzs]; exact sizes_2 most more hk
  have dz3 : ∀ k, k < n → zs[n + 1 + k]? = some ((n : Int) - k) := fun k hk => by rw [← hzs]; exact sizes_3 most more hk
  have dz4 : ∀ j, j < more.toNat → zs[2 * n + 1 + j]? = some ((n : Int) * n) := fun k hk => by rw [← hzs]; exact sizes_4 most more n1 hk
  generalize hsa : (sizesA most more n).map PyData.int = sA
  clear hsa hzs hdg zpos en
  refine run_seq (run_for (it_range1 (evt_var rfl rfl) (by omega) (by omega)) (fun i ρ' => ∃ (os ns : List Int) (s6 : Sl), ρ' = [.d (.int c), .d (.int sa), .d (.int most), .d (.int more), .d (.int n), .own sA, s6, .own (dgs.map .int), .own (ns.map .int), .own (os.map .int), .no, .no, .no, .no, .no] ∧ os.length = i ∧ ns.length = n - i ∧ (os ++ ns).Perm (names0 n)) ?_ (fun i x ρ' hx hI => ?_) (fun ρ' hI => ?_))
  · exact ⟨[], names0 n, .no, rfl, rfl, by simp [names0], .refl _⟩
  · obtain ⟨os, ns, s6, rfl, l1, l2, hp⟩ := hI
    obtain ⟨rfl, hi⟩ := range_at hx
    rw [Int.zero_add]
    rw [Int.toNat_natCast] at hi
    obtain ⟨f, hf, f0', f1'⟩ := dg (dz3 i hi)
    obtain ⟨k, rfl⟩ : ∃ k : Nat, f = k := ⟨f.toNat, by omega⟩
    have hk : k < ns.length := by omega
    have hy : ns[k]? = some ns[k] := List.getElem?_eq_getElem hk
    refine ⟨_, _, tg_name, ?_⟩
    show Run _ _ [.d (.int c), .d (.int sa), .d (.int most), .d (.int more), .d (.int n), .own sA, .d (.int (i : Int)), .own (dgs.map .int), .own (ns.map .int), .own (os.map .int), .no, .no, .no, .no, .no]
    refine run_appendX (i := 9) (xs := os.map .int) (xs0 := os.map .int) rfl (evx_pop (j := 8) (k := k) (ys := ns.map .int) (y := .int ns[k]) rfl (evt_ixL (evt_var rfl rfl) (evt_of (evo_I0 (evt_of (evo_I0 (evt_var rfl rfl) (evt_of (evo_c rfl) rfl) rfl) rfl) (evt_var rfl rfl) rfl) rfl) (at_map (f := PyData.int) hf)) (by rw [List.getElem?_map, hy]; rfl) (by omega)) rfl (by rw [List.length_map]; omega) ?_
    refine ⟨os ++ [ns[k]], ns.eraseIdx k, .d (.int (i : Int)), ?_, by rw [List.length_append, l1]; rfl, by rw [List.length_eraseIdx_of_lt hk]; omega, ?_⟩
    · rw [List.map_append, ← erase_map]
      rfl
    · refine List.Perm.trans ?_ hp
      rw [List.append_assoc]
      exact List.Perm.append_left os (perm_erase hk)
  · obtain ⟨os, ns, s6, rfl, l1, l2, hp⟩ := hI
    rw [List.length_map, List.length_range, Int.toNat_natCast] at l1 l2
    have ns0 : ns = [] := List.eq_nil_of_length_eq_zero (by omega)
    subst ns0
    rw [List.append_nil] at hp
    have hos : ∀ j, j < n → ∃ v, os[j]? = some v ∧ 0 ≤ v ∧ v < n := fun j hj => by
      refine ⟨os[j], List.getElem?_eq_getElem (by omega), ?_⟩
      have := hp.mem_iff.mp (List.getElem_mem (show j < os.length by omega))
      obtain ⟨q, hq, e⟩ := List.mem_map.mp this
      have := List.mem_range.mp hq
      omega
    have hnd : os.Nodup := hp.symm.nodup (names0_nodup n)
    have hall : ∀ j : Nat, j < n → (j : Int) ∈ os := fun j hj => hp.mem_iff.mpr (List.mem_map.mpr ⟨j, List.mem_range.mpr hj, rfl⟩)
    clear hp
    -- pairs
    refine run_seq (run_asg (r := .own ((pairs0 dgs n).map pairD)) ?_ ?_)
    · refine evo_is (evo_lc (it_range1 (evt_of (evo_I0 (evt_var rfl rfl) (evt_of (evo_c rfl) rfl) rfl) rfl) (by omega) (by omega)) (fun _ => true) (fun k => pairD ((0 + (k : Int)) + 1, dgs.getD (2 + k) 0)) (fun i x hx => by
        obtain ⟨rfl, hi⟩ := range_at hx
        obtain ⟨f, hf, _⟩ := dg (dz2 i (by omega))
        have hf' : atI (dgs.map PyData.int) (2 + (0 + (i : Int))) = some (.int (dgs.getD (2 + i) 0)) := by
          rw [List.getD_eq_getElem?_getD, hf, show (2 + (0 + (i : Int))) = ((2 + i : Nat) : Int) by omega]
          exact at_map hf
        exact ⟨_, _, fun j hj => hj, tg_name, evb_yes, fun _ => evo_tup (evl_cons (evo_I0 (evt_var rfl rfl) (evt_of (evo_c rfl) rfl) rfl) (evl_cons (evo_flat (evt_ixL (evt_var rfl rfl) (evt_of (evo_I0 (evt_of (evo_c rfl) rfl) (evt_var rfl rfl) rfl) rfl) hf') rfl) evl_nil)) (sz_of (show 2 ≤ 1000000 by decide))⟩) (by simp; omega)) ?_
      rw [pick_all, List.length_map, List.length_range]
      unfold pairs0
      rw [List.map_map, show ((n : Int) - 1).toNat = n - 1 by omega]
      refine congrArg Sl.own (List.map_congr_left fun k _ => ?_)
      show pairD (0 + (k : Int) + 1, _) = pairD ((k : Int) + 1, _)
      rw [Int.zero_add]
    have hp0 : ∀ p ∈ pairs0 dgs n, 0 ≤ p.1 ∧ p.1 < n ∧ 0 ≤ p.2 ∧ p.2 < n := fun p hp => by
      obtain ⟨k, hk, rfl⟩ := List.mem_map.mp hp
      have hk := List.mem_range.mp hk
      obtain ⟨f, hf, a, b⟩ := dg (dz2 k hk)
      show 0 ≤ (k : Int) + 1 ∧ (k : Int) + 1 < n ∧ 0 ≤ dgs.getD (2 + k) 0 ∧ dgs.getD (2 + k) 0 < n
      rw [List.getD_eq_getElem?_getD, hf]
      show 0 ≤ (k : Int) + 1 ∧ (k : Int) + 1 < n ∧ 0 ≤ f ∧ f < n
      omega
    have hl0 : (pairs0 dgs n).length = n - 1 := by simp [pairs0]
    have hd0 : ∀ k, k < n - 1 → ∃ d : Nat, d ≤ k ∧ (((k + 1 : Nat) : Int), (d : Int)) ∈ pairs0 dgs n := fun k hk => by
      obtain ⟨f, hf, a, b⟩ := dg (dz2 k hk)
      refine ⟨f.toNat, by omega, List.mem_map.mpr ⟨k, List.mem_range.mpr hk, ?_⟩⟩
      show ((k : Int) + 1, dgs.getD (2 + k) 0) = _
      rw [List.getD_eq_getElem?_getD, hf]
      show ((k : Int) + 1, f) = (((k + 1 : Nat) : Int), ((f.toNat : Nat) : Int))
      rw [show ((f.toNat : Nat) : Int) = f by omega]
      rfl
    obtain ⟨e1, he1, e10, e11⟩ := dg dz1
    obtain ⟨ne, rfl⟩ : ∃ k : Nat, e1 = k := ⟨e1.toNat, by omega⟩
    -- the further ones
    have i1 : EvT (tOp (rI0 fun i j => V.int (i + j)) (tOp (rI CMul fun i j => V.int (i * j)) (tC (.int 2)) (tVar 4)) (tC (.int 1))) _ _ := evt_of (ρ := [.d (.int c), .d (.int sa), .d (.int most), .d (.int more), .d (.int n), .own sA, s6, .own (dgs.map .int), .own [], .own (os.map .int), .own ((pairs0 dgs n).map pairD), .no, .no, .no, .no]) (x := .int ((2 * n + 1 : Nat) : Int)) (evo_is (evo_I0 (evt_of (evo_I (evt_of (evo_c rfl) rfl) (evt_var rfl rfl) (.inl (by decide)) rfl) rfl) (evt_of (evo_c rfl) rfl) rfl) (by push_cast; rfl)) rfl
    refine run_seq (run_for (ds := cutD (dgs.map .int) (some ((2 * n + 1 : Nat) : Int)) (some ((2 * n + 1 + ne : Nat) : Int))) ?_ (fun i ρ' => ∃ (ps : List (Int × Int)) (s11 : Sl), ρ' = [.d (.int c), .d (.int sa), .d (.int most), .d (.int more), .d (.int n), .own sA, s6, .own (dgs.map .int), .own [], .own (os.map .int), .own (ps.map pairD), s11, .no, .no, .no] ∧ ps.length = n - 1 + i ∧ (∀ p ∈ pairs0 dgs n, p ∈ ps) ∧ ∀ p ∈ ps, 0 ≤ p.1 ∧ p.1 < n ∧ 0 ≤ p.2 ∧ p.2 < n) ?_ (fun i x ρ' hx hI => ?_) (fun ρ' hI => ?_))
    · exact it_list (evo_fz (evo_slice (eve_var rfl) (evs_some i1) (evs_some (evt_of (x := .int ((2 * n + 1 + ne : Nat) : Int)) (evo_is (evo_I0 i1 (evt_ixL (evt_var rfl rfl) (evt_of (evo_c rfl) rfl) (at_map (f := PyData.int) he1)) rfl) (by push_cast; rfl)) rfl))) rfl)
    · exact ⟨pairs0 dgs n, .no, rfl, by rw [hl0]; rfl, fun p hp => hp, hp0⟩
    · obtain ⟨ps, s11, rfl, lp, hin0, hps⟩ := hI
      obtain ⟨hx1, hx2⟩ := cutD_at hx
      obtain ⟨f, hf, rfl⟩ := map_at hx1
      obtain ⟨f', hf', a, b⟩ := dg (dz4 i (by omega))
      rw [hf] at hf'
      cases hf'
      refine ⟨_, _, tg_name, ?_⟩
      show Run _ _ [.d (.int c), .d (.int sa), .d (.int most), .d (.int more), .d (.int n), .own sA, s6, .own (dgs.map .int), .own [], .own (os.map .int), .own (ps.map pairD), .d (.int f), .no, .no, .no]
      refine run_append rfl (evo_tup (evl_cons (evo_I (evt_var rfl rfl) (evt_var rfl rfl) ⟨by omega, by omega⟩ rfl) (evl_cons (evo_I (evt_var rfl rfl) (evt_var rfl rfl) (by omega : (0 : Int) < n) rfl) evl_nil)) (sz_of (show 2 ≤ 1000000 by decide))) (by rw [List.length_map, lp]; omega) ?_
      refine ⟨ps ++ [(f / (n : Int), f % (n : Int))], .d (.int f), by rw [List.map_append]; rfl, by rw [List.length_append, lp]; rfl, fun p hp => List.mem_append_left _ (hin0 p hp), fun p hp => ?_⟩
      rcases List.mem_append.mp hp with hp | hp
      · exact hps p hp
      · rw [List.mem_singleton.mp hp]
        have np : (0 : Int) < n := by omega
        exact ⟨Int.ediv_nonneg a (by omega), Int.ediv_lt_of_lt_mul np b, Int.emod_nonneg _ (by omega), Int.emod_lt_of_pos _ np⟩
    · obtain ⟨ps, s11, rfl, lp, hin0, hps⟩ := hI
      have lcut := cutD_len (dgs.map PyData.int) (2 * n + 1) (2 * n + 1 + ne)
      have lp2 : ps.length ≤ 120 := by omega
      -- the ties
      refine run_seq (run_asg evo_dct (run_freeze 10 (r := .own (ps.map pairD)) rfl rfl (run_seq (run_for (it_list (evo_var (i := 10) (x := .list (ps.map pairD)) rfl)) (fun i ρ' => ∃ (ks : List (Int × Int)) (s13 s14 : Sl), ρ' = [.d (.int c), .d (.int sa), .d (.int most), .d (.int more), .d (.int n), .own sA, s6, .own (dgs.map .int), .own [], .own (os.map .int), .d (.list (ps.map pairD)), s11, .dct ks, s13, s14] ∧ ks.length ≤ i ∧ ks.Nodup ∧ (∀ k ∈ ks, 0 ≤ k.1 ∧ k.1 < k.2 ∧ k.2 < n) ∧ ∀ p ∈ ps.take i, p.1 ≠ p.2 → ∀ v u : Int, os[p.1.toNat]? = some v → os[p.2.toNat]? = some u → (min v u, max v u) ∈ ks) ?_ (fun i x ρ' hx hI => ?_) (fun ρ' hI => ?_)))))
      · exact ⟨[], .no, .no, rfl, Nat.zero_le _, List.nodup_nil, (fun k hk => by cases hk), fun p hp => by cases hp⟩
      · obtain ⟨ks, s13, s14, rfl, lk, nk, hks, hti⟩ := hI
        obtain ⟨p, hpi, rfl⟩ := map_at hx
        have hil := (List.getElem?_eq_some_iff.mp hpi).1
        obtain ⟨a0, a1, b0, b1⟩ := hps p (List.mem_of_getElem? hpi)
        refine ⟨_, _, tg_two, ?_⟩
        show Run _ _ [.d (.int c), .d (.int sa), .d (.int most), .d (.int more), .d (.int n), .own sA, s6, .own (dgs.map .int), .own [], .own (os.map .int), .d (.list (ps.map pairD)), s11, .dct ks, .d (.int p.1), .d (.int p.2)]
        refine run_if (evb_test (evo_neI (evt_var rfl rfl) (evt_var rfl rfl))) (fun hb => ?_) (fun hb => run_next ⟨ks, _, _, rfl, by omega, nk, hks, fun q hq hne => by
          rcases mem_take_succ hpi hq with hq | rfl
          · exact hti q hq hne
          · exact absurd (by simpa using hb) hne⟩)
        have hne : p.1 ≠ p.2 := by simpa using hb
        obtain ⟨v, hv, v0, v1⟩ := hos p.1.toNat (by omega)
        obtain ⟨u, hu, u0, u1⟩ := hos p.2.toNat (by omega)
        have av : atI (os.map PyData.int) p.1 = some (.int v) := by
          have := at_map (f := PyData.int) hv
          rwa [show ((p.1.toNat : Nat) : Int) = p.1 by omega] at this
        have au : atI (os.map PyData.int) p.2 = some (.int u) := by
          have := at_map (f := PyData.int) hu
          rwa [show ((p.2.toNat : Nat) : Int) = p.2 by omega] at this
        have vu : v ≠ u := fun e => by
          subst e
          have := nd_ix hnd hv hu
          omega
        refine run_dput (k := (min v u, max v u)) rfl (evo_tup (evl_cons (evo_min2 (evt_ixL (evt_var rfl rfl) (evt_var rfl rfl) av) (evt_ixL (evt_var rfl rfl) (evt_var rfl rfl) au)) (evl_cons (evo_max2 (evt_ixL (evt_var rfl rfl) (evt_var rfl rfl) av) (evt_ixL (evt_var rfl rfl) (evt_var rfl rfl) au)) evl_nil)) (sz_of (show 2 ≤ 1000000 by decide))) (by omega) ?_
        refine ⟨insK ks (min v u, max v u), _, _, rfl, Nat.le_trans (insK_len _ _) (by omega), insK_nodup nk, fun q hq => ?_, fun q hq hqn v' u' hv' hu' => ?_⟩
        · rcases insK_mem hq with hq | rfl
          · exact hks q hq
          · show 0 ≤ min v u ∧ min v u < max v u ∧ max v u < n
            omega
        · rcases mem_take_succ hpi hq with hq | rfl
          · exact insK_old (hti q hq hqn v' u' hv' hu')
          · rw [hv] at hv'
            rw [hu] at hu'
            cases hv'
            cases hu'
            exact insK_self _ _
      · obtain ⟨ks, s13, s14, rfl, lk, nk, hks, hti⟩ := hI
        rw [List.length_map] at lk
        rw [List.length_map, List.take_length] at hti
        refine run_ret (evo_tup (evl_cons (evo_var rfl) (evl_cons (evo_fz (evo_sortedDT rfl) rfl) evl_nil)) (sz_of (show 2 ≤ 1000000 by decide))) ⟨n, srtL ks, rfl, ?_⟩
        have pm := srtL_perm ks
        refine ⟨⟨by omega, by omega, by rw [pm.length_eq]; omega, fun t ht => hks t (pm.mem_iff.mp ht), lex_strict (srtL_lex ks) (pm.symm.nodup nk)⟩, ?_⟩
        exact cn_of (n := n) (os := os) (by omega) hall (fun j hj => by
          obtain ⟨v, a, b, _⟩ := hos j hj
          exact ⟨v, a, b⟩) fun k hk => by
          obtain ⟨d, hd, hm⟩ := hd0 k (by omega)
          refine ⟨d, hd, fun v u hv hu => pm.mem_iff.mpr (hti _ (hin0 _ hm) (by show ((k + 1 : Nat) : Int) ≠ (d : Int); omega) v u ?_ ?_)⟩
          · show os[((k + 1 : Nat) : Int).toNat]? = _
            exact hv
          · show os[((d : Nat) : Int).toNat]? = _
            exact hu
end

end k23n
namespace k23n
open PySem L2 PL
theorem cut_tail (xs : List Int) (a : Nat) : cutD (xs.map .int) (some (a : Int)) none = (xs.drop a).map .int := by
  unfold cutD
  rw [show HT.sIx (xs.map PyData.int).length 0 (some (a : Int)) = min a (xs.map PyData.int).length from HT.sIx_nat _ _ _, HT.sIx_none, List.length_map, ← List.map_drop, ← List.map_take]
  congr 1
  by_cases h : a ≤ xs.length
  · rw [Nat.min_eq_left h, List.take_of_length_le (by rw [List.length_drop]; omega)]
  · rw [Nat.min_eq_right (by omega), List.drop_length, List.drop_eq_nil_of_le (by omega), List.take_nil]
section
variable {P : Program} {w : World} [kf : KF] {mg : Str → Option Value} {base : Heap}
abbrev sp_one_web : Sp := spF 3 (fun ds => ∃ (ns : List Int) (k s : Int), ds = [.list (ns.map .int), .int k, .int s] ∧ 0 ≤ k) fun _ r => ∃ m ts, r = .d (webD m ts) ∧ WOk m ts ∧ Cn m ts
theorem ok_one_web (B : Bn mg) (T : Tp kf.K mg "_law_one_web" s__law_one_web) (d__law_cell_at : Df P w kf.K mg base "_law_cell_at" 1 ["_law_script", "_law_k"] sp_cell_at) (d__law_numbers : Df P w kf.K mg base "_law_numbers" 1 ["_law_cell", "_law_salt", "_law_sizes"] sp_numbers)
    (d__law_web : Df P w kf.K mg base "_law_web" 2 ["_law_cell", "_law_salt", "_law_most", "_law_more"] sp_web) : FnOk P w kf.K mg base CX0 3 T.a T.fd ["_law_script", "_law_k", "_law_salt"] sp_one_web := by
  refine T.F.ok sc__law_one_web (spF_len rfl) fun cdv A outer s H vs Q E hr h => ⟨_, (pss_cons (ps_set (i := 3) sc__law_one_web.nd rfl (Or.inl rfl) (pe_call d__law_numbers.G (hr.mono (by decide)) (by rfl) d__law_numbers.g d__law_numbers.kp d__law_numbers.b .nil pass0 (pa_cons (pe_call d__law_cell_at.G (hr.mono (by decide)) (by rfl) d__law_cell_at.g d__law_cell_at.kp d__law_cell_at.b .nil pass0 (pa_cons (pv 0) (pa_cons (pe_op op_add (pe_op op_mul pe_int (pv 1)) pe_int) pa_nil))) (pa_cons (pe_op op_add (pv 2) pe_int) (pa_cons (pe_lst (pa_cons pe_int pa_nil)) pa_nil)))))
 (pss_cons (ps_asg (pe_ix ix_list (pe_lst (pa_cons (pe_tup (pa_cons pe_int (pa_cons pe_int pa_nil))) (pa_cons (pe_tup (pa_cons pe_int (pa_cons pe_int pa_nil))) pa_nil))) (pe_callTy call_int1 (by rfl) B.n_int (by decide +kernel) (pa_cons (pe_and (pe_cmpR op_eq (pe_ix ix_list (pv 3) pe_int (fun _ _ => rfl)) pe_int (nomark _)) (pe_one (pe_cmpR op_eq (pe_op op_mod (pv 1) pe_int) pe_int (nomark _)))) pa_nil)) (fun _ _ => rfl)) (pg_tup rfl (pgs_cons (pg_name (i := 4) sc__law_one_web.nd rfl (Or.inl rfl)) (pgs_cons (pg_name (i := 5) sc__law_one_web.nd rfl (Or.inl rfl)) pgs_nil))))
 (pss_one (ps_ret (pe_call d__law_web.G (hr.mono (by decide)) (by rfl) d__law_web.g d__law_web.kp d__law_web.b .nil pass0 (pa_cons (pe_call d__law_cell_at.G (hr.mono (by decide)) (by rfl) d__law_cell_at.g d__law_cell_at.kp d__law_cell_at.b .nil pass0 (pa_cons (pv 0) (pa_cons (pe_op op_mul pe_int (pv 1)) pa_nil))) (pa_cons (pv 2) (pa_cons (pv 4) (pa_cons (pv 5) pa_nil))))))))), run_def h fun ds hn hp => ?_⟩
  obtain ⟨ns, k, sa, rfl, k0⟩ := hp
  obtain ⟨h0, e0, h00, h01⟩ := numsF_at (c := cellAt ns (2 * k + 1)) (sa := sa + 1) (zs := [8]) (j := 0) (z := 8) (by decide) rfl
  refine run_seq (run_asg (r := .own ((numsF (cellAt ns (2 * k + 1)) (sa + 1) [8]).map .int)) (evo_call (evl_cons (evo_call (evl_cons (evo_var rfl) (evl_cons (evo_I0 (evt_of (evo_I (evt_of (evo_c rfl) rfl) (evt_var rfl rfl) (.inl (by decide)) rfl) rfl) (evt_of (evo_c rfl) rfl) rfl) evl_nil)) rfl ⟨ns, 2 * k + 1, rfl, by omega⟩ fun r p => p ns (2 * k + 1) rfl) (evl_cons (evo_I0 (evt_var rfl rfl) (evt_of (evo_c rfl) rfl) rfl) (evl_cons (evo_fz (evo_lst (evl_cons (evo_c rfl) evl_nil) (sz_of (show 1 ≤ 1000000 by decide))) rfl) evl_nil))) rfl ⟨_, sa + 1, [8], rfl, by decide, by decide⟩ fun r p => p _ (sa + 1) [8] rfl) ?_)
  generalize numsF (cellAt ns (2 * k + 1)) (sa + 1) [8] = hd at e0 ⊢
  obtain ⟨mo, mr, emo, m1, m2, m3, m4⟩ : ∃ mo mr : Int, (if (decide (h0 = 7) && decide (k % 4 = 0)) = true then pairD (40, 81) else pairD (9, 6)) = pairD (mo, mr) ∧ 1 ≤ mo ∧ mo ≤ 40 ∧ 0 ≤ mr ∧ mr ≤ 81 := by
    by_cases c : (decide (h0 = 7) && decide (k % 4 = 0)) = true
    · rw [if_pos c]; exact ⟨40, 81, rfl, by decide, by decide, by decide, by decide⟩
    · rw [if_neg c]; exact ⟨9, 6, rfl, by decide, by decide, by decide, by decide⟩
  refine run_seq (run_asgT (x := pairD (mo, mr)) (evo_ixE (ds := [pairD (9, 6), pairD (40, 81)]) (eve_of (evo_lst (evl_cons (evo_tup (evl_cons (evo_c rfl) (evl_cons (evo_c rfl) evl_nil)) (sz_of (show 2 ≤ 1000000 by decide))) (evl_cons (evo_tup (evl_cons (evo_c rfl) (evl_cons (evo_c rfl) evl_nil)) (sz_of (show 2 ≤ 1000000 by decide))) evl_nil)) (sz_of (show 2 ≤ 1000000 by decide))))
    (evt_of (evo_intB (evt_of (evo_and (evo_eqI (evt_ixL (evt_var rfl rfl) (evt_of (evo_c rfl) rfl) (at_map (f := PyData.int) e0)) (evt_of (evo_c rfl) rfl)) fun _ => evo_eqI (evt_of (evo_I (evt_var rfl rfl) (evt_of (evo_c rfl) rfl) (by decide) rfl) rfl) (evt_of (evo_c rfl) rfl)) rfl)) rfl) ?_) tg_two ?_)
  · rw [← emo]
    cases (decide (h0 = 7) && decide (k % 4 = 0)) <;> rfl
  exact run_retP (evp_call (evl_cons (evo_call (evl_cons (evo_var rfl) (evl_cons (evo_I (evt_of (evo_c rfl) rfl) (evt_var rfl rfl) (.inl (by decide)) rfl) evl_nil)) rfl ⟨ns, 2 * k, rfl, by omega⟩ fun r p => p ns (2 * k) rfl) (evl_cons (evo_var rfl) (evl_cons (evo_var rfl) (evl_cons (evo_var rfl) evl_nil)))) rfl ⟨_, _, mo, mr, rfl, m1, m2, m3, m4⟩) fun r p => p
end

theorem srt_perm {a b : List Int} (h : a.Perm b) (ha : a.Pairwise (· ≤ ·)) (hb : b.Pairwise (· < ·)) : a = b := by
  refine srt_ext ?_ hb fun x => h.mem_iff
  have nd : a.Nodup := (h.nodup_iff).mpr (hb.imp fun {x y} z => by omega)
  exact List.Pairwise.imp₂ (fun x y h1 h2 => by have h2 : x ≠ y := h2; omega) ha nd
theorem pick_no {α : Type} (n : Nat) (v : Nat → α) : pick n (fun _ => false) v = [] := by simp [pick]
def muQ (n : Nat) (ρ : List Sl) : Nat := match ρ[4]? with
  | some (Sl.d (PyData.int i)) => n - i.toNat
  | _ => 0
section
variable {P : Program} {w : World} [kf : KF] {mg : Str → Option Value} {base : Heap}
theorem evt_slice {ρ : List Sl} {ta : TE} {xs : List D} {tl th : TO} {lo hi : Option Int} (ha : EvT ta ρ (.list xs)) (hl : EvS tl ρ lo) (hh : EvS th ρ hi) : EvT (tSl (rSlL kf.K) ta tl th) ρ (.list (cutD xs lo hi)) := fun S0 H0 S H σ Q o q =>
  ha S0 H0 S H σ _ o fun v S1 H1 x1 r => hl S0 H0 S1 H1 σ _ (o.ext x1) fun S2 H2 x2 => hh S0 H0 S2 H2 σ _ (o.ext (x1.trans x2)) fun S3 H3 x3 => by
    have xa := x2.trans x3
    cases r with
    | lst r1 r2 =>
      rename_i a vs
      refine ⟨a, vs, rfl, xa.hh.seq r1, fun p hp => ?_⟩
      have xn : Xt S H S3 (upd H3 p (.lst (cutV vs lo hi))) := (x1.trans xa).trans (.new x3.sh hp)
      have xm : Xt S3 H3 S3 (upd H3 p (.lst (cutV vs lo hi))) := .new x3.sh hp
      have e : RpAll (upd H3 p (.lst (cutV vs lo hi))) (cutV vs lo hi) (cutD xs lo hi) := by
        refine dpa_mono xm.hh _ _ ?_
        unfold cutV cutD
        rw [dpa_length r2]
        exact dpa_take _ (dpa_drop _ (dpa_mono xa.hh _ _ r2))
      exact q _ S3 _ xn (.lst (.inl (.inl upd_same)) e)
abbrev sp_lbeside : Sp := spF 1 (fun ds => ∃ m ts, ds = [webD m ts] ∧ WOk m ts) fun ds r => ∀ m ts, ds = [webD m ts] → r = .own2 (bes m ts)
theorem ok_lbeside (B : Bn mg) (T : Tp kf.K mg "_law_beside" s__law_beside) : FnOk P w kf.K mg base CX0 1 T.a T.fd ["_law_web_here"] sp_lbeside := by
  refine T.F.ok sc__law_beside (spF_len rfl) fun cdv A outer s H vs Q E hr h => ⟨_, (pss_cons (ps_setLc (i := 1) (own := [("_law_place", 2)]) rfl sc__law_beside.nd rfl rfl (sw_true rfl rfl rfl (by decide +kernel)) (pi_range1 (by rfl) B.n_range (pa_cons (pe_ix ix_tup (pv 0) pe_int (fun _ _ => rfl)) pa_nil)) (blkOk_by (own := [("_law_place", 2)]) (N := ["_law_web_here", "_law_found", "_law_place", "_law_one", "_law_other", "_law_places"]) (sc := defScope s__law_beside) (by decide +kernel)) (fun _ _ _ _ _ => (pg_name (i := 2) sc__law_beside.nd rfl (Or.inl rfl))) (fun _ _ _ _ _ => pts_nil) (fun _ _ _ _ _ => (pe_lst pa_nil)))
 (pss_cons (ps_for PassesOwn.never rfl (pi_list (pe_ix ix_tup (pv 0) pe_int (fun _ _ => rfl))) (pg_tup rfl (pgs_cons (pg_name (i := 3) sc__law_beside.nd rfl (Or.inl rfl)) (pgs_cons (pg_name (i := 4) sc__law_beside.nd rfl (Or.inl rfl)) pgs_nil)))
 (pss_cons (ps_expr (pe_bm PySem.F.plainAttrs_list PySem.F.slot_list_append PySem.F.type_list_append mt_append (pe_ix ix_list (pv 1) (pv 3) (fun _ _ => rfl)) (pa_cons (pv 4) pa_nil)))
 (pss_one (ps_expr (pe_bm PySem.F.plainAttrs_list PySem.F.slot_list_append PySem.F.type_list_append mt_append (pe_ix ix_list (pv 1) (pv 4) (fun _ _ => rfl)) (pa_cons (pv 3) pa_nil))))))
 (pss_one (ps_ret (pe_lc (own := [("_law_places", 5)]) rfl sc__law_beside.nd (pi_list (pv 1)) (blkOk_by (own := [("_law_places", 5)]) (N := ["_law_web_here", "_law_found", "_law_place", "_law_one", "_law_other", "_law_places"]) (sc := defScope s__law_beside) (by decide +kernel)) (fun _ _ _ _ _ => (pg_name (i := 5) sc__law_beside.nd rfl (Or.inl rfl))) (fun _ _ _ _ _ => pts_nil) (fun _ _ _ _ _ => (pe_callB (cr_sortedIK (K := kf.K) rfl) (by rfl) B.n_sorted (by decide +kernel) (pa_cons (pv 5) pa_nil)))))))), run_def h fun ds hn hp => ?_⟩
  obtain ⟨m, ts, rfl, ok⟩ := hp
  have h1 := ok.m1
  have h2 := ok.m2
  have w0 : ∀ {ρ : List Sl}, ρ[0]? = some (.d (webD m ts)) → EvO (tOp (rIxT kf.K) (tVar 0) (tC (.int 0))) ρ (.d (.int m)) := fun e => evo_ixT (evo_var e) (evt_of (evo_c rfl) rfl) (ds := [.int m, .list (ts.map pairD)]) rfl
  have w1 : ∀ {ρ : List Sl}, ρ[0]? = some (.d (webD m ts)) → EvO (tOp (rIxT kf.K) (tVar 0) (tC (.int 1))) ρ (.d (.list (ts.map pairD))) := fun e => evo_ixT (evo_var e) (evt_of (evo_c rfl) rfl) (ds := [.int m, .list (ts.map pairD)]) rfl
  refine run_seq (run_asg (r := .own2 (bes m [])) ?_ (run_seq ?_))
  · refine evo_is (evo_lc2 (it_range1 (evt_of (w0 rfl) rfl) (by omega) (by omega)) (fun _ => true) (fun _ => []) (fun i x hx => ⟨_, _, fun j hj => hj, tg_name, evb_yes, fun _ => evo_lst evl_nil (sz_of (by decide))⟩) (by simp; omega)) ?_
    rw [pick_all]
    simp [bes, nbs]
  · refine run_for (it_list (w1 rfl)) (fun i ρ' => ∃ s4 s5 s6 s7, ρ' = [.d (webD m ts), .own2 (bes m (ts.take i)), s4, s5, s6, s7]) ⟨_, _, _, _, rfl⟩ (fun i y ρ' hy hI => ?_) (fun ρ' hI => ?_)
    · obtain ⟨s4, s5, s6, s7, rfl⟩ := hI
      obtain ⟨t, ht, rfl⟩ := map_at hy
      obtain ⟨r1, r2, r3⟩ := ok.rng t (List.mem_of_getElem? ht)
      refine ⟨_, _, tg_two, ?_⟩
      show Run _ _ [.d (webD m ts), .own2 (bes m (ts.take i)), s4, .d (.int t.1), .d (.int t.2), s7]
      have e1 : ((t.1.toNat : Nat) : Int) = t.1 := by omega
      have e2 : ((t.2.toNat : Nat) : Int) = t.2 := by omega
      have n1 : t.1.toNat < m.toNat := by omega
      have n2 : t.2.toNat < m.toNat := by omega
      have hz : ∀ j, (nbs (ts.take i) j).length ≤ 1000 := fun j => by
        have h := nbs_len (ts.take i) j
        have := ok.len
        rw [List.length_take] at h
        omega
      refine run_seq (run_append2 (j := t.1.toNat) (x := .int t.2) (xs := (nbs (ts.take i) t.1.toNat).map .int) rfl (by rw [e1]; exact evt_var rfl rfl) (get_map_range n1) (evo_var rfl) (by rw [List.length_map]; have := hz t.1.toNat; omega) ?_)
      refine run_append2 (j := t.2.toNat) (x := .int t.1) (xs := (nbs (ts.take i) t.2.toNat).map .int) rfl (by rw [e2]; exact evt_var rfl rfl) ?_ (evo_var rfl) (by rw [List.length_map]; have := hz t.2.toNat; omega) ?_
      · unfold bes
        rw [set_map_range, get_map_range n2, if_neg (by omega)]
      · refine ⟨s4, .d (.int t.1), .d (.int t.2), s7, ?_⟩
        show [Sl.d (webD m ts), .own2 _, s4, .d (.int t.1), .d (.int t.2), s7] = _
        congr 2
        unfold bes
        rw [set_map_range, set_map_range]
        refine congrArg Sl.own2 (List.map_congr_left fun j hj => ?_)
        rw [List.take_add_one, ht]
        show _ = (nbs (ts.take i ++ [t]) j).map PyData.int
        rw [nbs_snoc]
        by_cases a : j = t.2.toNat
        · subst a
          rw [if_pos rfl, if_neg (show ¬ t.1 = ((t.2.toNat : Nat) : Int) by omega), if_pos (show t.2 = ((t.2.toNat : Nat) : Int) by omega)]
          simp
        · rw [if_neg a]
          by_cases b : j = t.1.toNat
          · subst b
            rw [if_pos rfl, if_pos (show t.1 = ((t.1.toNat : Nat) : Int) by omega), if_neg (show ¬ t.2 = ((t.1.toNat : Nat) : Int) by omega)]
            simp
          · rw [if_neg b, if_neg (show ¬ t.1 = (j : Int) by omega), if_neg (show ¬ t.2 = (j : Int) by omega)]
            simp
    · obtain ⟨s4, s5, s6, s7, rfl⟩ := hI
      rw [List.length_map, List.take_length]
      refine run_freeze 1 (r := .own2 (bes m ts)) (x := .list ((bes m ts).map PyData.list)) rfl rfl ?_
      refine run_ret (r := .own2 (bes m ts)) (evo_is (evo_lc2 (it_list (evo_var (x := .list ((bes m ts).map PyData.list)) rfl)) (fun _ => true) (fun i => (nbs ts i).map .int) (fun i x hx => ?_) ?_) ?_) (fun m' ts' e => by obtain ⟨rfl, rfl⟩ := webD_inj (List.cons.inj e).1; rfl)
      · obtain ⟨xs, hxs, rfl⟩ := map_at hx
        unfold bes at hxs
        rw [List.getElem?_map] at hxs
        have hi : i < m.toNat := by
          by_cases c : i < m.toNat
          · exact c
          · rw [List.getElem?_eq_none (by rw [List.length_range]; omega)] at hxs; cases hxs
        rw [List.getElem?_range hi] at hxs
        cases hxs
        exact ⟨_, _, fun j hj => hj, tg_name, evb_yes, fun _ => evp_mono (evo_sortI (ns := nbs ts i) (evt_var rfl rfl)) fun r hr => by
          obtain ⟨ms, p1, p2, rfl⟩ := hr
          rw [srt_perm p1 p2 (nbs_sorted ok i)]⟩
      · rw [List.length_map]
        unfold bes
        rw [List.length_map, List.length_range]
        omega
      · rw [pick_all, List.length_map]
        unfold bes
        rw [List.length_map, List.length_range]
end

section
variable {P : Program} {w : World} [kf : KF] {mg : Str → Option Value} {base : Heap}
theorem ok_lfar (B : Bn mg) (T : Tp kf.K mg "_law_far" s__law_far) : FnOk P w kf.K mg base CX0 1 T.a T.fd ["_law_beside_here", "_law_place"] sp_far_from := by
  refine T.F.ok sc__law_far (spF_len rfl) fun cdv A outer s H vs Q E hr h => ⟨_, (pss_cons (ps_set (i := 2) sc__law_far.nd rfl (Or.inl rfl) (pe_op op_rep (pe_lst (pa_cons pe_non pa_nil)) (pe_callB call_len_seq (by rfl) B.n_len PySem.boot_len (pa_cons (pv 0) pa_nil))))
 (pss_cons (ps_asg pe_int (pg_sub (pv 2) (pv 1) set_list))
 (pss_cons (ps_set (i := 3) sc__law_far.nd rfl (Or.inl rfl) (pe_lst (pa_cons (pv 1) pa_nil)))
 (pss_cons (ps_set (i := 4) sc__law_far.nd rfl (Or.inl rfl) pe_int)
 (pss_cons (ps_while PassesOwn.never (pt_cmpR op_lt (pv 4) (pe_callB call_len_seq (by rfl) B.n_len PySem.boot_len (pa_cons (pv 3) pa_nil)) (nomark _))
 (pss_cons (ps_for PassesOwn.never rfl (pi_list (pe_ix ix_list (pv 0) (pe_ix ix_list (pv 3) (pv 4) (fun _ _ => rfl)) (fun _ _ => rfl))) (pg_name (i := 5) sc__law_far.nd rfl (Or.inl rfl))
 (pss_one (ps_if (pt_cmpR op_isN (pe_ix ix_list (pv 2) (pv 5) (fun _ _ => rfl)) pe_non (nomark _))
 (pss_cons (ps_asg (pe_op op_add (pe_ix ix_list (pv 2) (pe_ix ix_list (pv 3) (pv 4) (fun _ _ => rfl)) (fun _ _ => rfl)) pe_int) (pg_sub (pv 2) (pv 5) set_list))
 (pss_one (ps_expr (pe_bm PySem.F.plainAttrs_list PySem.F.slot_list_append PySem.F.type_list_append mt_append (pv 3) (pa_cons (pv 5) pa_nil)))))
 pss_nil)))
 (pss_one (ps_set (i := 4) sc__law_far.nd rfl (Or.inl rfl) (pe_op op_add (pv 4) pe_int)))))
 (pss_one (ps_ret (pv 2)))))))), run_def h fun ds hn hp => ?_⟩
  obtain ⟨adj, p, rfl, ok, hp⟩ := hp
  have hlen := ok.len
  refine run_seq (run_asg (r := .own ((List.replicate adj.length none).map oD)) (evo_is (evo_rep (k := (adj.length : Nat)) (evo_lst (evl_cons (evo_c rfl) evl_nil) (sz_of (show 1 ≤ 1000000 by decide))) (evt_of (evo_is (r' := .d (.int (adj.length : Nat))) (evo_lenL (evt_var (x := adjD adj) rfl rfl)) (by rw [List.length_map])) rfl) (by omega) (by omega) (by simp)) (by
    rw [rep_one, Int.toNat_natCast, List.map_replicate]
    rfl)) ?_)
  refine run_seq (run_setitem (i := 2) (j := p) (xs := (List.replicate adj.length none).map oD) (x := .int ((0 : Nat) : Int)) rfl (evo_c rfl) (evt_var rfl rfl) (by simpa using hp) ?_)
  rw [oD_set]
  refine run_seq (run_asg (r := .own [natD p]) (evo_lst (evl_cons (evo_var rfl) evl_nil) (sz_of (show 1 ≤ 1000000 by decide))) ?_)
  refine run_seq (run_asg (r := .d (natD 0)) (evo_c rfl) ?_)
  refine run_seq (run_while (fun ρ' => ∃ (a : Nat) (far : List (Option Nat)) (row : List Nat) (s5 : Sl), ρ' = [.d (adjD adj), .d (natD p), .own (far.map oD), .own (row.map natD), .d (natD a), s5] ∧ Que (nbA adj) p adj.length a far row) (muQ adj.length) ?_ ?_)
  · exact ⟨0, _, [p], _, rfl, que_start hp⟩
  · rintro _ ⟨a, far, row, s5, rfl, que⟩
    refine ⟨decide (a < row.length), evb_is (evb_test (evo_I0 (i := (a : Nat)) (j := (row.length : Nat)) (evt_var rfl rfl) (evt_of (evo_is (r' := .d (.int (row.length : Nat))) (evo_lenL (evt_var (x := .list (row.map natD)) rfl rfl)) (by rw [List.length_map])) rfl) rfl)) (by simp), fun hb => ?_, fun hb => ?_⟩
    · have ha : a < row.length := of_decide_eq_true hb
      obtain ⟨i, hi⟩ : ∃ i, row[a]? = some i := ⟨row[a], List.getElem?_eq_getElem ha⟩
      have il := que.rng i (List.mem_of_getElem? hi)
      have rl : row.length ≤ adj.length := by have := que.cnt; omega
      refine run_seq (run_for (ds := (nbA adj i).map natD) (it_list (evo_ixE (eve_d (evo_var (x := adjD adj) rfl)) (evt_ixL (evt_var rfl rfl) (evt_var (x := natD a) rfl rfl) (at_map (f := natD) hi)) (adj_at il))) (fun k ρ' => ∃ (f : List (Option Nat)) (row : List Nat) (s5 : Sl), ρ' = [.d (adjD adj), .d (natD p), .own (f.map oD), .own (row.map natD), .d (natD a), s5] ∧ Que (nbA adj) p adj.length a f row ∧ row[a]? = some i ∧ ∀ j ∈ (nbA adj i).take k, ∃ d : Nat, f[j]? = some (some d)) ?_ (fun k y ρ' hy hI => ?_) (fun ρ' hI => ?_))
      · exact ⟨far, row, _, rfl, que, hi, fun j hj => by cases hj⟩
      · obtain ⟨f, row, s5, rfl, que, hi, hhere⟩ := hI
        obtain ⟨t, ht, rfl⟩ := map_at hy
        have htm := List.mem_of_getElem? ht
        have tl : t < f.length := by rw [que.len]; exact ok.nb htm
        refine ⟨_, _, tg_name, ?_⟩
        show Run _ _ [.d (adjD adj), .d (natD p), .own (f.map oD), .own (row.map natD), .d (natD a), .d (natD t)]
        have ft : f[t]? = some f[t] := List.getElem?_eq_getElem tl
        obtain ⟨d, hd⟩ := que.rowFar a i hi
        refine run_if (evb_test (evo_isN (evt_ixL (evt_var rfl rfl) (evt_var (x := natD t) rfl rfl) (far_at ft)))) (fun hb => ?_) fun hb => ?_
        · rw [isN_oD] at hb
          have fn : f[t]? = some none := by rw [ft]; cases c : f[t] with
            | none => rfl
            | some d => rw [c] at hb; cases hb
          refine run_seq (run_setitem (i := 2) (j := t) (xs := f.map oD) (x := .int ((d + 1 : Nat) : Int)) rfl (evo_I0 (i := (d : Nat)) (j := 1) (evt_ixL (evt_var rfl rfl) (evt_ixL (evt_var rfl rfl) (evt_var (x := natD a) rfl rfl) (at_map (f := natD) hi)) (far_at hd)) (evt_of (evo_c rfl) rfl) rfl) (evt_var rfl rfl) (by rw [List.length_map]; exact tl) ?_)
          rw [oD_set]
          refine run_append (i := 3) (xs := row.map natD) (x := natD t) rfl (evo_var rfl) ?_ ?_
          · rw [List.length_map]
            have := que.cnt
            omega
          · refine ⟨f.set t (some (d + 1)), row ++ [t], .d (natD t), ?_, que_step que hi hd htm fn, ?_, fun j hj => ?_⟩
            · rw [List.map_append]
              rfl
            · rw [List.getElem?_append_left (List.getElem?_eq_some_iff.mp hi).1]; exact hi
            · rcases mem_take_succ ht hj with a | rfl
              · exact asg_set fn (.inl (hhere j a))
              · exact asg_set fn (.inr rfl)
        · rw [isN_oD] at hb
          refine run_next ⟨f, row, _, rfl, que, hi, fun j hj => ?_⟩
          rcases mem_take_succ ht hj with a | rfl
          · exact hhere j a
          · cases c : f[j] with
            | none => rw [c] at hb; cases hb
            | some d => exact ⟨d, by rw [ft, c]⟩
      · obtain ⟨f, row', s5, rfl, que', hi', hhere⟩ := hI
        rw [List.length_map, List.take_length] at hhere
        refine run_asg (r := .d (natD (a + 1))) (evo_I0 (i := (a : Nat)) (j := 1) (evt_var rfl rfl) (evt_of (evo_c rfl) rfl) rfl) ⟨⟨a + 1, f, row', _, rfl, que_next que' hi' hhere⟩, ?_⟩
        show adj.length - (((a + 1 : Nat) : Int)).toNat < adj.length - ((a : Nat) : Int).toNat
        omega
    · have ha : ¬ a < row.length := of_decide_eq_false hb
      have far' := (que_done que (by omega)).eq
      refine run_retV (r := .own (far.map oD)) rfl (by intro z; cases z) fun adj' p' e => ?_
      simp only [List.cons.injEq, and_true] at e
      obtain ⟨e1, e2⟩ := e
      have e1 := adj_inj e1
      have e2 : p = p' := Int.ofNat.inj (PyData.int.inj e2)
      rw [← e1, ← e2, far']
      rfl
end

end k23n
namespace k23n
open PySem L2 PL
theorem d_two {m : Int} {ts : List (Int × Int)} (ok : WOk m ts) (hg : HangA (adjW m ts)) {a b c : Nat} (h1 : Td ts a c) (h2 : Td ts c b) (h3 : ¬ Td ts a b) (hne : a ≠ b) : dA (adjW m ts) a b = 2 := by
  have aok := adjW_ok ok
  have ha := (td_lt ok h1).1
  have hb := (td_lt ok h2).2.1
  rw [← adjW_len (ts := ts)] at ha hb
  have le := d_le aok hg ha hb (k := 2) ⟨c, ⟨a, rfl, td_nb ok h1⟩, td_nb ok h2⟩
  have r := d_rch aok hg ha hb
  have n0 : dA (adjW m ts) a b ≠ 0 := fun z => by
    rw [z] at r
    have r : b = a := r
    exact hne r.symm
  have n1 : dA (adjW m ts) a b ≠ 1 := fun z => by
    rw [z] at r
    obtain ⟨i, hi, hj⟩ := r
    have hi : i = a := hi
    rw [hi] at hj
    exact h3 (nb_td ok hj)
  omega
def sqT : List (Int × Int) := [(0, 1), (0, 2), (1, 3), (2, 3)]
instance (ts : List (Int × Int)) (j k : Nat) : Decidable (Td ts j k) := by unfold Td; exact inferInstance
theorem sq_ok : WOk 4 sqT := ⟨by decide, by decide, by decide, by decide, by decide⟩
theorem sq_cn : Cn 4 sqT := by
  have h : ∀ i : Nat, i < (4 : Int).toNat → Conn sqT 0 i := fun i hi => by
    have hi : i < 4 := hi
    match i, hi with
    | 0, _ => exact .refl 0
    | 1, _ => exact .step (.refl 0) (by decide)
    | 2, _ => exact .step (.refl 0) (by decide)
    | 3, _ => exact .step (j := 1) (.step (.refl 0) (by decide)) (by decide)
    | n + 4, h => exact absurd h (by omega)
  exact fun i j hi hj => (h i hi).symm.trans (h j hj)
theorem sq_1 : linkA (adjW 4 sqT) 0 1 2 3 := by
  have hg := hang_of sq_ok sq_cn
  have aok := adjW_ok sq_ok
  unfold linkA
  rw [d_tie aok hg (by decide) (by decide) (td_nb sq_ok (by decide : Td sqT 0 2)) (by decide), d_tie aok hg (by decide) (by decide) (td_nb sq_ok (by decide : Td sqT 1 3)) (by decide),
    d_two sq_ok hg (by decide : Td sqT 0 1) (by decide : Td sqT 1 3) (by decide) (by decide), d_two sq_ok hg (by decide : Td sqT 1 0) (by decide : Td sqT 0 2) (by decide) (by decide)]
  decide
theorem sq_2 : ¬ linkA (adjW 4 sqT) 0 1 0 2 := by
  have hg := hang_of sq_ok sq_cn
  have aok := adjW_ok sq_ok
  unfold linkA
  rw [d_self aok hg (by decide), d_two sq_ok hg (by decide : Td sqT 1 0) (by decide : Td sqT 0 2) (by decide) (by decide),
    d_tie aok hg (by decide) (by decide) (td_nb sq_ok (by decide : Td sqT 0 2)) (by decide), d_tie aok hg (by decide) (by decide) (td_nb sq_ok (by decide : Td sqT 1 0)) (by decide)]
  decide
theorem link_symm {m : Int} {ts : List (Int × Int)} (ok : WOk m ts) (hg : HangA (adjW m ts)) {x y u v : Nat} (hx : x < m.toNat) (hy : y < m.toNat) (hu : u < m.toNat) (hv : v < m.toNat) : linkA (adjW m ts) u v x y ↔ linkA (adjW m ts) x y u v := by
  rw [← adjW_len (ts := ts)] at hx hy hu hv
  have aok := adjW_ok ok
  unfold linkA
  rw [d_symm aok hg (nb_symm ok) hu hx, d_symm aok hg (nb_symm ok) hv hy, d_symm aok hg (nb_symm ok) hu hy, d_symm aok hg (nb_symm ok) hv hx]
  omega
theorem link_self {m : Int} {ts : List (Int × Int)} (ok : WOk m ts) (hg : HangA (adjW m ts)) {x y : Nat} (h : ((x : Int), (y : Int)) ∈ ts) : linkA (adjW m ts) x y x y := by
  have td : Td ts x y := .inl h
  obtain ⟨hx, hy, hne⟩ := td_lt ok td
  rw [← adjW_len (ts := ts)] at hx hy
  have aok := adjW_ok ok
  unfold linkA
  rw [d_self aok hg hx, d_self aok hg hy, d_tie aok hg hx hy (td_nb ok td) hne, d_tie aok hg hy hx (td_nb ok td.symm) (Ne.symm hne)]
  decide
theorem rg_at {n i : Nat} {f : Nat → D} {x : D} (h : ((List.range n).map f)[i]? = some x) : i < n ∧ x = f i := by
  have hi : i < n := by
    by_cases c : i < n
    · exact c
    · rw [List.getElem?_eq_none (by simpa using c)] at h; cases h
  rw [get_map_range hi] at h
  cases h
  exact ⟨hi, rfl⟩
section
variable {P : Program} {w : World} [kf : KF] {mg : Str → Option Value} {base : Heap}
abbrev sp_lis_far : Sp := spF 3 (fun ds => ∃ adj x y u v, ds = [adjD adj, tieD x y, tieD u v] ∧ AOk adj ∧ HangA adj ∧ x < adj.length ∧ y < adj.length ∧ u < adj.length ∧ v < adj.length)
  fun ds r => ∀ adj x y u v, ds = [adjD adj, tieD x y, tieD u v] → r = .d (.bool (decide (linkA adj x y u v)))
theorem ok_lis_far (B : Bn mg) (T : Tp kf.K mg "_law_is_far" s__law_is_far) (d__law_far : Df P w kf.K mg base "_law_far" 1 ["_law_beside_here", "_law_place"] sp_far_from) : FnOk P w kf.K mg base CX0 2 T.a T.fd ["_law_beside_here", "_law_tie", "_law_other"] sp_lis_far := by
  refine T.F.ok sc__law_is_far (spF_len rfl) fun cdv A outer s H vs Q E hr h => ⟨_, (pss_cons (ps_set (i := 3) sc__law_is_far.nd rfl (Or.inl rfl) (pe_call d__law_far.G (hr.mono (by decide)) (by rfl) d__law_far.g d__law_far.kp d__law_far.b .nil pass0 (pa_cons (pv 0) (pa_cons (pe_ix ix_tup (pv 1) pe_int (fun _ _ => rfl)) pa_nil))))
 (pss_cons (ps_set (i := 4) sc__law_is_far.nd rfl (Or.inl rfl) (pe_call d__law_far.G (hr.mono (by decide)) (by rfl) d__law_far.g d__law_far.kp d__law_far.b .nil pass0 (pa_cons (pv 0) (pa_cons (pe_ix ix_tup (pv 1) pe_int (fun _ _ => rfl)) pa_nil))))
 (pss_one (ps_ret (pe_cmpR (op_neD hr.units) (pe_op op_add (pe_ix ix_list (pv 3) (pe_ix ix_tup (pv 2) pe_int (fun _ _ => rfl)) (fun _ _ => rfl)) (pe_ix ix_list (pv 4) (pe_ix ix_tup (pv 2) pe_int (fun _ _ => rfl)) (fun _ _ => rfl))) (pe_op op_add (pe_ix ix_list (pv 3) (pe_ix ix_tup (pv 2) pe_int (fun _ _ => rfl)) (fun _ _ => rfl)) (pe_ix ix_list (pv 4) (pe_ix ix_tup (pv 2) pe_int (fun _ _ => rfl)) (fun _ _ => rfl))) (nomark _)))))), run_def h fun ds hn hp => ?_⟩
  obtain ⟨adj, x, y, u, v, rfl, ok, hg, hx, hy, hu, hv⟩ := hp
  refine run_seq (run_asg (r := .own ((farA adj x).map oD)) (evo_call (evl_cons (evo_var rfl) (evl_cons (evo_ixT (evo_var (x := tieD x y) rfl) (evt_of (evo_c rfl) rfl) (ds := [natD x, natD y]) (d := natD x) rfl) evl_nil)) rfl ⟨adj, x, rfl, ok, hx⟩ fun r z => z adj x rfl) ?_)
  refine run_seq (run_asg (r := .own ((farA adj y).map oD)) (evo_call (evl_cons (evo_var rfl) (evl_cons (evo_ixT (evo_var (x := tieD x y) rfl) (evt_of (evo_c rfl) rfl) (ds := [natD x, natD y]) (d := natD y) rfl) evl_nil)) rfl ⟨adj, y, rfl, ok, hy⟩ fun r z => z adj y rfl) ?_)
  have o0 : ∀ {ρ : List Sl}, ρ[2]? = some (.d (tieD u v)) → EvT (tOp (rIxT kf.K) (tVar 2) (tC (.int 0))) ρ (natD u) := fun e => evt_ixT (evt_var e rfl) (evt_of (evo_c rfl) rfl) (ds := [natD u, natD v]) rfl
  have o1 : ∀ {ρ : List Sl}, ρ[2]? = some (.d (tieD u v)) → EvT (tOp (rIxT kf.K) (tVar 2) (tC (.int 1))) ρ (natD v) := fun e => evt_ixT (evt_var e rfl) (evt_of (evo_c rfl) rfl) (ds := [natD u, natD v]) rfl
  refine run_ret (evo_neP (n := 0) (m := 0) (b := decide (linkA adj x y u v)) (evt_of (evo_I0 (evt_ixL (evt_var rfl rfl) (o0 rfl) (far_num ok hg hx hu)) (evt_ixL (evt_var rfl rfl) (o1 rfl) (far_num ok hg hy hv)) rfl) rfl)
    (evt_of (evo_I0 (evt_ixL (evt_var rfl rfl) (o1 rfl) (far_num ok hg hx hv)) (evt_ixL (evt_var rfl rfl) (o0 rfl) (far_num ok hg hy hu)) rfl) rfl) pl_int pl_int ?_) ?_
  · rw [PyData.int.injEq, decide_eq_false_iff_not]
    unfold linkA
    omega
  · intro adj' x' y' u' v' e
    simp only [List.cons.injEq, and_true, tieD, PyData.tuple.injEq] at e
    obtain ⟨e0, ⟨e1, e2⟩, e3, e4⟩ := e
    have e0 := adj_inj e0
    have e1 : x = x' := Int.ofNat.inj (PyData.int.inj e1)
    have e2 : y = y' := Int.ofNat.inj (PyData.int.inj e2)
    have e3 : u = u' := Int.ofNat.inj (PyData.int.inj e3)
    have e4 : v = v' := Int.ofNat.inj (PyData.int.inj e4)
    subst e0 e1 e2 e3 e4
    rfl
abbrev sp_law : Sp := spF 1 (fun ds => ∃ ns : List Int, ds = [.list (ns.map .int)] ∧ ns.length ≤ 63) fun _ r => r = .d (.bool true)
theorem ok_law (B : Bn mg) (T : Tp kf.K mg "law" s_law) (d__law_one_web : Df P w kf.K mg base "_law_one_web" 3 ["_law_script", "_law_k", "_law_salt"] sp_one_web) (d__law_beside : Df P w kf.K mg base "_law_beside" 1 ["_law_web_here"] sp_lbeside)
    (d__law_numbers : Df P w kf.K mg base "_law_numbers" 1 ["_law_cell", "_law_salt", "_law_sizes"] sp_numbers) (d__law_cell_at : Df P w kf.K mg base "_law_cell_at" 1 ["_law_script", "_law_k"] sp_cell_at)
    (d__law_is_far : Df P w kf.K mg base "_law_is_far" 2 ["_law_beside_here", "_law_tie", "_law_other"] sp_lis_far) (d_is_far : Df P w kf.K mg base "is_far" 8 ["web", "tie", "other"] sp_is_far) : FnOk P w kf.K mg base CX0 9 T.a T.fd ["_law_script"] sp_law := by
  refine T.F.ok sc_law (spF_len rfl) fun cdv A outer s H vs Q E hr h => ⟨_, (pss_cons (ps_for PassesOwn.never rfl (pi_range1 (by rfl) B.n_range (pa_cons (pe_callB (call_max2 rfl) (by rfl) B.n_max (by decide +kernel) (pa_cons pe_int (pa_cons (pe_op op_fdiv (pe_op op_add (pe_callB (call_min2 rfl) (by rfl) B.n_min (by decide +kernel) (pa_cons (pe_callB call_len_seq (by rfl) B.n_len PySem.boot_len (pa_cons (pv 0) pa_nil)) (pa_cons pe_int pa_nil))) pe_int) pe_int) pa_nil))) pa_nil)) (pg_name (i := 1) sc_law.nd rfl (Or.inl rfl))
 (pss_cons (ps_set (i := 2) sc_law.nd rfl (Or.inl rfl) (pe_call d__law_one_web.G (hr.mono (by decide)) (by rfl) d__law_one_web.g d__law_one_web.kp d__law_one_web.b .nil pass0 (pa_cons (pv 0) (pa_cons (pv 1) (pa_cons (pe_op op_add pe_int (pe_op op_mul pe_int (pv 1))) pa_nil)))))
 (pss_cons (ps_set (i := 3) sc_law.nd rfl (Or.inl rfl) (pe_tup (pa_cons (pe_ix ix_tup (pv 2) pe_int (fun _ _ => rfl)) (pa_cons (pe_callTy call_list_of (by rfl) B.n_list (by decide +kernel) (pa_cons (pe_ix ix_tup (pv 2) pe_int (fun _ _ => rfl)) pa_nil)) pa_nil))))
 (pss_cons (ps_set (i := 4) sc_law.nd rfl (Or.inl rfl) (pe_call d__law_beside.G (hr.mono (by decide)) (by rfl) d__law_beside.g d__law_beside.kp d__law_beside.b .nil pass0 (pa_cons (pv 2) pa_nil)))
 (pss_cons (ps_set (i := 5) sc_law.nd rfl (Or.inl rfl) (pe_slice sl_list (pe_call d__law_numbers.G (hr.mono (by decide)) (by rfl) d__law_numbers.g d__law_numbers.kp d__law_numbers.b .nil pass0 (pa_cons (pe_call d__law_cell_at.G (hr.mono (by decide)) (by rfl) d__law_cell_at.g d__law_cell_at.kp d__law_cell_at.b .nil pass0 (pa_cons (pv 0) (pa_cons (pe_op op_add (pe_op op_mul pe_int (pv 1)) pe_int) pa_nil))) (pa_cons (pe_op op_add pe_int (pv 1)) (pa_cons (pe_op op_catR (pe_lst (pa_cons pe_int pa_nil)) (pe_op op_rep (pe_lst (pa_cons pe_int pa_nil)) pe_int)) pa_nil)))) (po_some pe_int) po_none))
 (pss_cons (ps_for PassesOwn.never rfl (pi_range3 (by rfl) B.n_range (pa_cons pe_int (pa_cons (pe_callB (call_min2 rfl) (by rfl) B.n_min (by decide +kernel) (pa_cons pe_int (pa_cons (pe_op op_mul pe_int (pe_callB call_len_seq (by rfl) B.n_len PySem.boot_len (pa_cons (pe_ix ix_tup (pv 2) pe_int (fun _ _ => rfl)) pa_nil))) pa_nil))) (pa_cons pe_int pa_nil)))) (pg_name (i := 6) sc_law.nd rfl (Or.inl rfl))
 (pss_cons (ps_set (i := 7) sc_law.nd rfl (Or.inl rfl) (pe_ix ix_list (pe_ix ix_tup (pv 2) pe_int (fun _ _ => rfl)) (pe_op op_mod (pe_ix ix_list (pv 5) (pv 6) (fun _ _ => rfl)) (pe_callB call_len_seq (by rfl) B.n_len PySem.boot_len (pa_cons (pe_ix ix_tup (pv 2) pe_int (fun _ _ => rfl)) pa_nil))) (fun _ _ => rfl)))
 (pss_cons (ps_set (i := 8) sc_law.nd rfl (Or.inl rfl) (pe_ix ix_list (pe_ix ix_tup (pv 2) pe_int (fun _ _ => rfl)) (pe_op op_mod (pe_ix ix_list (pv 5) (pe_op op_add (pv 6) pe_int) (fun _ _ => rfl)) (pe_callB call_len_seq (by rfl) B.n_len PySem.boot_len (pa_cons (pe_ix ix_tup (pv 2) pe_int (fun _ _ => rfl)) pa_nil))) (fun _ _ => rfl)))
 (pss_cons (ps_set (i := 9) sc_law.nd rfl (Or.inl rfl) (pe_call d__law_is_far.G (hr.mono (by decide)) (by rfl) d__law_is_far.g d__law_is_far.kp d__law_is_far.b .nil pass0 (pa_cons (pv 4) (pa_cons (pv 7) (pa_cons (pv 8) pa_nil)))))
 (pss_cons (ps_for PassesOwn.never rfl (pi_list (pe_lst (pa_cons (pe_call d_is_far.G (hr.mono (by decide)) (by rfl) d_is_far.g d_is_far.kp d_is_far.b .nil pass0 (pa_cons (pv 3) (pa_cons (pv 7) (pa_cons (pv 8) pa_nil)))) (pa_cons (pe_call d_is_far.G (hr.mono (by decide)) (by rfl) d_is_far.g d_is_far.kp d_is_far.b .nil pass0 (pa_cons (pv 3) (pa_cons (pv 8) (pa_cons (pv 7) pa_nil)))) pa_nil)))) (pg_name (i := 10) sc_law.nd rfl (Or.inl rfl))
 (pss_one (ps_if (PW.pt (pw_or (pt_not (pt_val (pe_callB call_isi (by rfl) B.n_isinstance (by decide +kernel) (pa_cons (pv 10) (pa_cons (pe_bltn (v := .ty "bool") (u := .type "bool") (by rfl) B.n_bool (by decide +kernel) rfl) pa_nil))))) (pw_or1 (pt_cmpR op_ne (pv 10) (pv 9) (nomark _)))))
 (pss_one (ps_ret pe_bl))
 pss_nil)))
 (pss_one (ps_if (pt_cmpR op_isnot_bl (pe_call d_is_far.G (hr.mono (by decide)) (by rfl) d_is_far.g d_is_far.kp d_is_far.b .nil pass0 (pa_cons (pv 3) (pa_cons (pv 7) (pa_cons (pv 7) pa_nil)))) pe_bl (nomark _))
 (pss_one (ps_ret pe_bl))
 pss_nil)))))))
 (pss_one (ps_if (pt_cmpR (op_neD hr.units) (pv 3) (pv 2) (nomark _))
 (pss_one (ps_ret pe_bl))
 pss_nil))))))))
 (pss_cons (ps_set (i := 11) sc_law.nd rfl (Or.inl rfl) (pe_tup (pa_cons pe_int (pa_cons (pe_lst (pa_cons (pe_tup (pa_cons pe_int (pa_cons pe_int pa_nil))) (pa_cons (pe_tup (pa_cons pe_int (pa_cons pe_int pa_nil))) (pa_cons (pe_tup (pa_cons pe_int (pa_cons pe_int pa_nil))) (pa_cons (pe_tup (pa_cons pe_int (pa_cons pe_int pa_nil))) pa_nil))))) pa_nil))))
 (pss_one (ps_ret (pe_and (pe_call d_is_far.G (hr.mono (by decide)) (by rfl) d_is_far.g d_is_far.kp d_is_far.b .nil pass0 (pa_cons (pv 11) (pa_cons (pe_tup (pa_cons pe_int (pa_cons pe_int pa_nil))) (pa_cons (pe_tup (pa_cons pe_int (pa_cons pe_int pa_nil))) pa_nil)))) (pe_one (pe_not (pe_call d_is_far.G (hr.mono (by decide)) (by rfl) d_is_far.g d_is_far.kp d_is_far.b .nil pass0 (pa_cons (pv 11) (pa_cons (pe_tup (pa_cons pe_int (pa_cons pe_int pa_nil))) (pa_cons (pe_tup (pa_cons pe_int (pa_cons pe_int pa_nil))) pa_nil))))))))))), run_def h fun ds hn hp => ?_⟩
  obtain ⟨ns, rfl, hl⟩ := hp
  refine run_seq (run_for (it_range1 (n := max 1 ((min (ns.length : Int) 32 + 1) / 2)) (evt_of (evo_max2 (evt_of (evo_c rfl) rfl) (evt_of (evo_I (evt_of (evo_I0 (evt_of (evo_min2 (evt_of (evo_is (r' := .d (.int (ns.length : Nat))) (evo_lenL (evt_var (x := .list (ns.map .int)) rfl rfl)) (by rw [List.length_map])) rfl) (evt_of (evo_c rfl) rfl)) rfl) (evt_of (evo_c rfl) rfl) rfl) rfl) (evt_of (evo_c rfl) rfl) ⟨by decide, by decide⟩ rfl) rfl)) rfl) (by omega) (by omega))
    (fun i ρ' => ∃ s1 s2 s3 s4 s5 s6 s7 s8 s9 s10 : Sl, ρ' = [.d (.list (ns.map .int)), s1, s2, s3, s4, s5, s6, s7, s8, s9, s10, .no]) ⟨_, _, _, _, _, _, _, _, _, _, rfl⟩ (fun i x ρ' hx hI => ?_) (fun ρ' hI => ?_))
  · obtain ⟨s1, s2, s3, s4, s5, s6, s7, s8, s9, s10, rfl⟩ := hI
    obtain ⟨rfl, hi⟩ := range_at hx
    rw [Int.zero_add]
    refine ⟨_, _, tg_name, ?_⟩
    show Run _ _ [.d (.list (ns.map .int)), .d (.int (i : Int)), s2, s3, s4, s5, s6, s7, s8, s9, s10, .no]
    refine run_seq (run_asgP (evp_call (evl_cons (evo_var rfl) (evl_cons (evo_var rfl) (evl_cons (evo_I0 (evt_of (evo_c rfl) rfl) (evt_of (evo_I (evt_of (evo_c rfl) rfl) (evt_var rfl rfl) (.inl (by decide)) rfl) rfl) rfl) evl_nil))) rfl ⟨ns, (i : Int), _, rfl, by omega⟩) ?_)
    rintro _ ⟨m, ts, rfl, ok, cn⟩
    have m1 := ok.m1
    have m2 := ok.m2
    have hg := hang_of ok cn
    have aok := adjW_ok ok
    have w0 : ∀ {ρ : List Sl}, ρ[2]? = some (.d (webD m ts)) → EvO (tOp (rIxT kf.K) (tVar 2) (tC (.int 0))) ρ (.d (.int m)) := fun e => evo_ixT (evo_var e) (evt_of (evo_c rfl) rfl) (ds := [.int m, .list (ts.map pairD)]) rfl
    have w1 : ∀ {ρ : List Sl}, ρ[2]? = some (.d (webD m ts)) → EvO (tOp (rIxT kf.K) (tVar 2) (tC (.int 1))) ρ (.d (.list (ts.map pairD))) := fun e => evo_ixT (evo_var e) (evt_of (evo_c rfl) rfl) (ds := [.int m, .list (ts.map pairD)]) rfl
    have wl : ∀ {ρ : List Sl}, ρ[2]? = some (.d (webD m ts)) → EvT (tCB (fun xs H Q => ∃ p ys, xs = [V.ref p] ∧ (SqL kf.K H p ys ∨ SqT kf.K H p ys) ∧ Q (.int ys.length) H) (tCons (tOp (rIxT kf.K) (tVar 2) (tC (.int 1))) tNil)) ρ (.int (ts.length : Nat)) := fun e => evt_of (evo_is (evo_lenL (evt_of (w1 e) rfl)) (by rw [List.length_map])) rfl
    refine run_seq (run_asg (r := .d (webD m ts)) (evo_tup (evl_cons (w0 rfl) (evl_cons (evo_fz (evo_listOf (eve_d (w1 rfl))) rfl) evl_nil)) (sz_of (show 2 ≤ 1000000 by decide))) ?_)
    refine run_seq (run_asg (r := .own2 (bes m ts)) (evo_call (evl_cons (evo_var rfl) evl_nil) rfl ⟨m, ts, rfl, ok⟩ fun r z => z m ts rfl) ?_)
    refine run_freeze 4 (r := .own2 (bes m ts)) rfl (bes_adj ok) ?_
    have hz : ∀ z ∈ [8] ++ List.replicate 20 (120 : Int), 0 < z ∧ z < 1073741824 := by decide
    generalize hdr : numsF (cellAt ns (2 * (i : Int) + 1)) (2400 + (i : Int)) ([8] ++ List.replicate 20 120) = dr
    have ldr : dr.length = 21 := by rw [← hdr, numsF_len]; rfl
    refine run_seq (run_asg (r := .own ((dr.drop 1).map .int)) (evo_is (evo_slice (xs := dr.map .int) (eve_of (evo_call (evl_cons (evo_call (evl_cons (evo_var rfl) (evl_cons (evo_I0 (evt_of (evo_I (evt_of (evo_c rfl) rfl) (evt_var rfl rfl) (.inl (by decide)) rfl) rfl) (evt_of (evo_c rfl) rfl) rfl) evl_nil)) rfl ⟨ns, 2 * (i : Int) + 1, rfl, by omega⟩ fun r z => z ns (2 * (i : Int) + 1) rfl) (evl_cons (evo_I0 (evt_of (evo_c rfl) rfl) (evt_var rfl rfl) rfl) (evl_cons (evo_is (r' := .d (.list (([8] ++ List.replicate 20 120 : List Int).map .int))) (evo_fz (evo_cat (eve_of (evo_lst (evl_cons (evo_c rfl) evl_nil) (sz_of (show 1 ≤ 1000000 by decide)))) (eve_of (evo_rep (evo_lst (evl_cons (evo_c rfl) evl_nil) (sz_of (show 1 ≤ 1000000 by decide))) (evt_of (evo_c rfl) rfl) (by omega) (by omega) (by simp))) ?_) rfl) ?_) evl_nil))) rfl
      ⟨_, _, _, rfl, by simp, hz⟩ fun r z => by rw [← hdr]; exact z _ _ _ rfl)) (evs_some (evt_of (evo_c rfl) rfl)) evs_none) (congrArg Sl.own (cut_tail dr 1))) ?_)
    · rw [rep_one, List.length_replicate]
      decide
    · rw [rep_one]
      rfl
    obtain ⟨n, hn1, hn2⟩ : ∃ n : Nat, RgC 0 (min 20 (20 * ((ts.length : Nat) : Int))) 2 n ∧ (n = 0 ∨ (n = 10 ∧ 0 < ts.length)) := by
      by_cases c : ts.length = 0
      · refine ⟨0, ?_, .inl rfl⟩
        rw [c]
        exact ⟨by decide, by decide, by decide, by decide⟩
      · refine ⟨10, ?_, .inr ⟨rfl, by omega⟩⟩
        rw [show min 20 (20 * ((ts.length : Nat) : Int)) = 20 by omega]
        exact ⟨by decide, by decide, by decide, by decide⟩
    have digit : ∀ j, j < 20 → ∃ f : Nat, (dr.drop 1)[j]? = some (f : Int) := fun j hj => by
      obtain ⟨e0, e⟩ : ∃ e0, (dr.drop 1)[j]? = some e0 := ⟨_, List.getElem?_eq_getElem (by rw [List.length_drop]; omega)⟩
      have e2 : dr[1 + j]? = some e0 := by rw [← List.getElem?_drop]; exact e
      obtain ⟨f, h1, h2, _⟩ := numsF_at (c := cellAt ns (2 * (i : Int) + 1)) (sa := 2400 + (i : Int)) (zs := [8] ++ List.replicate 20 (120 : Int)) (j := 1 + j) (z := 120) (fun z hz' => (hz z hz').1) (by
        rw [List.getElem?_append_right (by show 1 ≤ 1 + j; omega), List.getElem?_replicate_of_lt (by show 1 + j - 1 < 20; omega)])
      rw [hdr, e2] at h1
      cases h1
      exact ⟨e0.toNat, by rw [e]; exact congrArg some (by omega)⟩
    refine run_seq (run_for (it_range3 (evt_of (evo_c rfl) rfl) (evt_of (evo_min2 (evt_of (evo_c rfl) rfl) (evt_of (evo_I (evt_of (evo_c rfl) rfl) (wl rfl) (.inl (by decide)) rfl) rfl)) rfl) (evt_of (evo_c rfl) rfl) hn1) (fun k ρ' => ∃ s6 s7 s8 s9 s10 : Sl, ρ' = [.d (.list (ns.map .int)), .d (.int (i : Int)), .d (webD m ts), .d (webD m ts), .d (adjD (adjW m ts)), .own ((dr.drop 1).map .int), s6, s7, s8, s9, s10, .no]) ⟨_, _, _, _, _, rfl⟩ (fun k y ρ' hy hI => ?_) (fun ρ' hI => ?_))
    · obtain ⟨s6, s7, s8, s9, s10, rfl⟩ := hI
      obtain ⟨hk, rfl⟩ := rg_at hy
      obtain ⟨hk, tl⟩ : k < 10 ∧ 0 < ts.length := by omega
      refine ⟨_, _, tg_name, ?_⟩
      rw [show 0 + (k : Int) * 2 = ((2 * k : Nat) : Int) by omega]
      show Run _ _ [.d (.list (ns.map .int)), .d (.int (i : Int)), .d (webD m ts), .d (webD m ts), .d (adjD (adjW m ts)), .own ((dr.drop 1).map .int), .d (natD (2 * k)), s7, s8, s9, s10, .no]
      obtain ⟨f, hf⟩ := digit (2 * k) (by omega)
      obtain ⟨g, hgd⟩ := digit (2 * k + 1) (by omega)
      have tie : ∀ q : Nat, ∃ x y : Nat, ts[q % ts.length]? = some ((x : Int), (y : Int)) := fun q => by
        obtain ⟨t, e⟩ : ∃ t, ts[q % ts.length]? = some t := ⟨_, List.getElem?_eq_getElem (Nat.mod_lt q tl)⟩
        obtain ⟨r1, r2, r3⟩ := ok.rng _ (List.mem_of_getElem? e)
        exact ⟨t.1.toNat, t.2.toNat, by rw [e]; exact congrArg some (Prod.ext (by show _ = ((_ : Nat) : Int); omega) (by show _ = ((_ : Nat) : Int); omega))⟩
      obtain ⟨x, y, h1⟩ := tie f
      obtain ⟨u, v, h2⟩ := tie g
      have mem1 := List.mem_of_getElem? h1
      have mem2 := List.mem_of_getElem? h2
      obtain ⟨hx, hyl, _⟩ := pair_lt ok mem1
      obtain ⟨hu, hv, _⟩ := pair_lt ok mem2
      have at1 : atI (ts.map pairD) ((f : Int) % ((ts.length : Nat) : Int)) = some (tieD x y) := at_map (f := pairD) h1
      have at2 : atI (ts.map pairD) ((g : Int) % ((ts.length : Nat) : Int)) = some (tieD u v) := at_map (f := pairD) h2
      refine run_seq (run_asg (r := .d (tieD x y)) (evo_ixE (eve_d (w1 rfl)) (evt_of (evo_I (evt_ixL (evt_var rfl rfl) (evt_var (x := natD (2 * k)) rfl rfl) (at_map (f := PyData.int) hf)) (wl rfl) (by omega) rfl) rfl) at1) ?_)
      refine run_seq (run_asg (r := .d (tieD u v)) (evo_ixE (eve_d (w1 rfl)) (evt_of (evo_I (evt_ixL (evt_var rfl rfl) (evt_of (x := natD (2 * k + 1)) (evo_I0 (i := ((2 * k : Nat) : Int)) (j := 1) (evt_var rfl rfl) (evt_of (evo_c rfl) rfl) rfl) rfl) (at_map (f := PyData.int) hgd)) (wl rfl) (by omega) rfl) rfl) at2) ?_)
      generalize hb : decide (linkA (adjW m ts) x y u v) = b
      refine run_seq (run_asg (r := .d (.bool b)) (evo_call (evl_cons (evo_var rfl) (evl_cons (evo_var rfl) (evl_cons (evo_var rfl) evl_nil))) rfl ⟨adjW m ts, x, y, u, v, rfl, aok, hg, by rw [adjW_len]; exact hx, by rw [adjW_len]; exact hyl, by rw [adjW_len]; exact hu, by rw [adjW_len]; exact hv⟩ fun r z => by rw [z _ x y u v rfl, hb]) ?_)
      refine run_seq (run_for (ds := [.bool b, .bool b]) (it_list (evo_fz (evo_lst (evl_cons (evo_call (evl_cons (evo_var rfl) (evl_cons (evo_var rfl) (evl_cons (evo_var rfl) evl_nil))) rfl ⟨m, ts, x, y, u, v, rfl, ok, hg, mem1, mem2⟩ fun r z => by rw [z m ts x y u v rfl, hb]) (evl_cons (evo_call (evl_cons (evo_var rfl) (evl_cons (evo_var rfl) (evl_cons (evo_var rfl) evl_nil))) rfl ⟨m, ts, u, v, x, y, rfl, ok, hg, mem2, mem1⟩ fun r z => by rw [z m ts u v x y rfl, decide_eq_decide.mpr (link_symm ok hg hx hyl hu hv), hb]) evl_nil)) (sz_of (show 2 ≤ 1000000 by decide))) rfl)) (fun q ρ' => ∃ s10 : Sl, ρ' = [.d (.list (ns.map .int)), .d (.int (i : Int)), .d (webD m ts), .d (webD m ts), .d (adjD (adjW m ts)), .own ((dr.drop 1).map .int), .d (natD (2 * k)), .d (tieD x y), .d (tieD u v), .d (.bool b), s10, .no]) ⟨_, rfl⟩ (fun q z ρ' hz2 hI => ?_) (fun ρ' hI => ?_))
      · obtain ⟨s10, rfl⟩ := hI
        obtain rfl : z = .bool b := by
          have := List.mem_of_getElem? hz2
          simpa using this
        refine ⟨_, _, tg_name, ?_⟩
        show Run _ _ [.d (.list (ns.map .int)), .d (.int (i : Int)), .d (webD m ts), .d (webD m ts), .d (adjD (adjW m ts)), .own ((dr.drop 1).map .int), .d (natD (2 * k)), .d (tieD x y), .d (tieD u v), .d (.bool b), .d (.bool b), .no]
        exact run_if (b := false) (evb_orF (evb_is (evb_not (evb_B (evo_isi (evt_var rfl rfl) (kit_bool _)))) rfl) (evb_is (evb_test (evo_neB (evt_var rfl rfl) (evt_var rfl rfl))) (by simp))) (fun z => by cases z) fun _ => run_next ⟨_, rfl⟩
      · obtain ⟨s10, rfl⟩ := hI
        exact run_if (b := false) (evb_is (evb_test (evo_isnotB (a := true) (b := true) (evt_of (evo_call (r := .d (.bool true)) (evl_cons (evo_var rfl) (evl_cons (evo_var rfl) (evl_cons (evo_var rfl) evl_nil))) rfl ⟨m, ts, x, y, x, y, rfl, ok, hg, mem1, mem1⟩ fun r z => by rw [z m ts x y x y rfl, decide_eq_true (link_self ok hg mem1)]) rfl) (evt_of (evo_c rfl) rfl))) rfl) (fun z => by cases z) fun _ => run_next ⟨_, _, _, _, _, rfl⟩
    · obtain ⟨s6, s7, s8, s9, s10, rfl⟩ := hI
      exact run_if (b := false) (evb_test (evo_neP (n := 3) (m := 3) (evt_var rfl rfl) (evt_var rfl rfl) pl_web pl_web (by simp))) (fun z => by cases z) fun _ => run_next ⟨_, _, _, _, _, _, _, _, _, _, rfl⟩
  · obtain ⟨s1, s2, s3, s4, s5, s6, s7, s8, s9, s10, rfl⟩ := hI
    have hg := hang_of sq_ok sq_cn
    have pr : ∀ {a b : Int} {x y : Nat} {ρ : List Sl}, a = x → b = y → EvO (tTup (tCons (tC (.int a)) (tCons (tC (.int b)) tNil))) ρ (.d (tieD x y)) := fun e1 e2 => evo_tup (evl_cons (evo_c (by rw [e1]; rfl)) (evl_cons (evo_c (by rw [e2]; rfl)) evl_nil)) (sz_of (show 2 ≤ 1000000 by decide))
    refine run_seq (run_asg (r := .d (webD 4 sqT)) (evo_tup (evl_cons (evo_c rfl) (evl_cons (evo_fz (evo_lst (evl_cons (pr (x := 0) (y := 1) rfl rfl) (evl_cons (pr (x := 0) (y := 2) rfl rfl) (evl_cons (pr (x := 1) (y := 3) rfl rfl) (evl_cons (pr (x := 2) (y := 3) rfl rfl) evl_nil)))) (sz_of (show 4 ≤ 1000000 by decide))) rfl) evl_nil)) (sz_of (show 2 ≤ 1000000 by decide))) ?_)
    exact run_ret (evo_and (a := true) (b := true) (evo_call (r := .d (.bool true)) (evl_cons (evo_var rfl) (evl_cons (pr (x := 0) (y := 1) rfl rfl) (evl_cons (pr (x := 2) (y := 3) rfl rfl) evl_nil))) rfl ⟨4, sqT, 0, 1, 2, 3, rfl, sq_ok, hg, by decide, by decide⟩ fun r z => by rw [z 4 sqT 0 1 2 3 rfl, decide_eq_true sq_1]) fun _ => evo_not (a := false) (evo_call (r := .d (.bool false)) (evl_cons (evo_var rfl) (evl_cons (pr (x := 0) (y := 1) rfl rfl) (evl_cons (pr (x := 0) (y := 2) rfl rfl) evl_nil))) rfl ⟨4, sqT, 0, 1, 0, 2, rfl, sq_ok, hg, by decide, by decide⟩ fun r z => by rw [z 4 sqT 0 1 0 2 rfl, decide_eq_false sq_2])) rfl
end

section
theorem all_mk {l : PySem.W.OpenLaw} {w : World} {K : PySem.W.Frag} {h : Heap} {mg : Str → Option Value} {fa : Addr} {f0 : Addr} {od0 an0 : Option Addr} {sl0 : Array (Option Value)} {oc0 kV0 dc0 pm0 cd0 ct0 : Value} {f1 : Addr} {od1 an1 : Option Addr} {sl1 : Array (Option Value)} {oc1 kV1 dc1 pm1 cd1 ct1 : Value} {f2 : Addr} {od2 an2 : Option Addr} {sl2 : Array (Option Value)} {oc2 kV2 dc2 pm2 cd2 ct2 : Value} {f3 : Addr} {od3 an3 : Option Addr} {sl3 : Array (Option Value)} {oc3 kV3 dc3 pm3 cd3 ct3 : Value} {f4 : Addr} {od4 an4 : Option Addr} {sl4 : Array (Option Value)} {oc4 kV4 dc4 pm4 cd4 ct4 : Value} {f5 : Addr} {od5 an5 : Option Addr} {sl5 : Array (Option Value)} {oc5 kV5 dc5 pm5 cd5 ct5 : Value} {f6 : Addr} {od6 an6 : Option Addr} {sl6 : Array (Option Value)} {oc6 kV6 dc6 pm6 cd6 ct6 : Value} {f7 : Addr} {od7 an7 : Option Addr} {sl7 : Array (Option Value)} {oc7 kV7 dc7 pm7 cd7 ct7 : Value} {f8 : Addr} {od8 an8 : Option Addr} {sl8 : Array (Option Value)} {oc8 kV8 dc8 pm8 cd8 ct8 : Value} {f9 : Addr} {od9 an9 : Option Addr} {sl9 : Array (Option Value)} {oc9 kV9 dc9 pm9 cd9 ct9 : Value} {f10 : Addr} {od10 an10 : Option Addr} {sl10 : Array (Option Value)} {oc10 kV10 dc10 pm10 cd10 ct10 : Value} {f11 : Addr} {od11 an11 : Option Addr} {sl11 : Array (Option Value)} {oc11 kV11 dc11 pm11 cd11 ct11 : Value} {f12 : Addr} {od12 an12 : Option Addr} {sl12 : Array (Option Value)} {oc12 kV12 dc12 pm12 cd12 ct12 : Value} {f13 : Addr} {od13 an13 : Option Addr} {sl13 : Array (Option Value)} {oc13 kV13 dc13 pm13 cd13 ct13 : Value} {f14 : Addr} {od14 an14 : Option Addr} {sl14 : Array (Option Value)} {oc14 kV14 dc14 pm14 cd14 ct14 : Value} {f15 : Addr} {od15 an15 : Option Addr} {sl15 : Array (Option Value)} {oc15 kV15 dc15 pm15 cd15 ct15 : Value} {f16 : Addr} {od16 an16 : Option Addr} {sl16 : Array (Option Value)} {oc16 kV16 dc16 pm16 cd16 ct16 : Value} {f17 : Addr} {od17 an17 : Option Addr} {sl17 : Array (Option Value)} {oc17 kV17 dc17 pm17 cd17 ct17 : Value} {f18 : Addr} {od18 an18 : Option Addr} {sl18 : Array (Option Value)} {oc18 kV18 dc18 pm18 cd18 ct18 : Value} {f19 : Addr} {od19 an19 : Option Addr} {sl19 : Array (Option Value)} {oc19 kV19 dc19 pm19 cd19 ct19 : Value} {f20 : Addr} {od20 an20 : Option Addr} {sl20 : Array (Option Value)} {oc20 kV20 dc20 pm20 cd20 ct20 : Value} {f21 : Addr} {od21 an21 : Option Addr} {sl21 : Array (Option Value)} {oc21 kV21 dc21 pm21 cd21 ct21 : Value} {tk1 : Tok} {tk2 : Tok}
  (X : K.In h) (G : h.Ns mainGlobals mg) (hfa : mg "law" = some (.ref fa))
  (a0 : PySem.W.nsIn K mainGlobals "is_whole" = some (some (.ref f0))) (l0 : K.lookup f0 = some ⟨oc0, od0, .func (PySem.W.fnOf "is_whole" "is_whole" (defArgs s_is_whole) (defBody s_is_whole) (defScope s_is_whole) .none kV0 dc0 pm0 an0 cd0 ct0), sl0⟩) (c0 : PySem.W.codeIn K cd0 "is_whole" = true) (k0 : PySem.W.keepIn K (.ref f0) = true)
  (a1 : PySem.W.nsIn K mainGlobals "joins_places" = some (some (.ref f1))) (l1 : K.lookup f1 = some ⟨oc1, od1, .func (PySem.W.fnOf "joins_places" "joins_places" (defArgs s_joins_places) (defBody s_joins_places) (defScope s_joins_places) .none kV1 dc1 pm1 an1 cd1 ct1), sl1⟩) (c1 : PySem.W.codeIn K cd1 "joins_places" = true) (k1 : PySem.W.keepIn K (.ref f1) = true)
  (a2 : PySem.W.nsIn K mainGlobals "web_fault" = some (some (.ref f2))) (l2 : K.lookup f2 = some ⟨oc2, od2, .func (PySem.W.fnOf "web_fault" "web_fault" (defArgs s_web_fault) (defBody s_web_fault) (defScope s_web_fault) .none kV2 dc2 pm2 an2 cd2 ct2), sl2⟩) (c2 : PySem.W.codeIn K cd2 "web_fault" = true) (k2 : PySem.W.keepIn K (.ref f2) = true)
  (a3 : PySem.W.nsIn K mainGlobals "look_at_web" = some (some (.ref f3))) (l3 : K.lookup f3 = some ⟨oc3, od3, .func (PySem.W.fnOf "look_at_web" "look_at_web" (defArgs s_look_at_web) (defBody s_look_at_web) (defScope s_look_at_web) .none kV3 dc3 pm3 an3 cd3 ct3), sl3⟩) (c3 : PySem.W.codeIn K cd3 "look_at_web" = true) (k3 : PySem.W.keepIn K (.ref f3) = true)
  (a4 : PySem.W.nsIn K mainGlobals "is_tie" = some (some (.ref f4))) (l4 : K.lookup f4 = some ⟨oc4, od4, .func (PySem.W.fnOf "is_tie" "is_tie" (defArgs s_is_tie) (defBody s_is_tie) (defScope s_is_tie) .none kV4 dc4 pm4 an4 cd4 ct4), sl4⟩) (c4 : PySem.W.codeIn K cd4 "is_tie" = true) (k4 : PySem.W.keepIn K (.ref f4) = true)
  (a5 : PySem.W.nsIn K mainGlobals "look_at_tie" = some (some (.ref f5))) (l5 : K.lookup f5 = some ⟨oc5, od5, .func (PySem.W.fnOf "look_at_tie" "look_at_tie" (defArgs s_look_at_tie) (defBody s_look_at_tie) (defScope s_look_at_tie) .none kV5 dc5 pm5 an5 cd5 ct5), sl5⟩) (c5 : PySem.W.codeIn K cd5 "look_at_tie" = true) (k5 : PySem.W.keepIn K (.ref f5) = true)
  (a6 : PySem.W.nsIn K mainGlobals "beside_all" = some (some (.ref f6))) (l6 : K.lookup f6 = some ⟨oc6, od6, .func (PySem.W.fnOf "beside_all" "beside_all" (defArgs s_beside_all) (defBody s_beside_all) (defScope s_beside_all) .none kV6 dc6 pm6 an6 cd6 ct6), sl6⟩) (c6 : PySem.W.codeIn K cd6 "beside_all" = true) (k6 : PySem.W.keepIn K (.ref f6) = true)
  (a7 : PySem.W.nsIn K mainGlobals "far_from" = some (some (.ref f7))) (l7 : K.lookup f7 = some ⟨oc7, od7, .func (PySem.W.fnOf "far_from" "far_from" (defArgs s_far_from) (defBody s_far_from) (defScope s_far_from) .none kV7 dc7 pm7 an7 cd7 ct7), sl7⟩) (c7 : PySem.W.codeIn K cd7 "far_from" = true) (k7 : PySem.W.keepIn K (.ref f7) = true)
  (a8 : PySem.W.nsIn K mainGlobals "far_table" = some (some (.ref f8))) (l8 : K.lookup f8 = some ⟨oc8, od8, .func (PySem.W.fnOf "far_table" "far_table" (defArgs s_far_table) (defBody s_far_table) (defScope s_far_table) .none kV8 dc8 pm8 an8 cd8 ct8), sl8⟩) (c8 : PySem.W.codeIn K cd8 "far_table" = true) (k8 : PySem.W.keepIn K (.ref f8) = true)
  (a9 : PySem.W.nsIn K mainGlobals "hangs" = some (some (.ref f9))) (l9 : K.lookup f9 = some ⟨oc9, od9, .func (PySem.W.fnOf "hangs" "hangs" (defArgs s_hangs) (defBody s_hangs) (defScope s_hangs) .none kV9 dc9 pm9 an9 cd9 ct9), sl9⟩) (c9 : PySem.W.codeIn K cd9 "hangs" = true) (k9 : PySem.W.keepIn K (.ref f9) = true)
  (a10 : PySem.W.nsIn K mainGlobals "refuse_apart" = some (some (.ref f10))) (l10 : K.lookup f10 = some ⟨oc10, od10, .func (PySem.W.fnOf "refuse_apart" "refuse_apart" (defArgs s_refuse_apart) (defBody s_refuse_apart) (defScope s_refuse_apart) .none kV10 dc10 pm10 an10 cd10 ct10), sl10⟩) (c10 : PySem.W.codeIn K cd10 "refuse_apart" = true) (k10 : PySem.W.keepIn K (.ref f10) = true)
  (a11 : PySem.W.nsIn K mainGlobals "look_at_hanging" = some (some (.ref f11))) (l11 : K.lookup f11 = some ⟨oc11, od11, .func (PySem.W.fnOf "look_at_hanging" "look_at_hanging" (defArgs s_look_at_hanging) (defBody s_look_at_hanging) (defScope s_look_at_hanging) .none kV11 dc11 pm11 an11 cd11 ct11), sl11⟩) (c11 : PySem.W.codeIn K cd11 "look_at_hanging" = true) (k11 : PySem.W.keepIn K (.ref f11) = true)
  (a12 : PySem.W.nsIn K mainGlobals "far_linked" = some (some (.ref f12))) (l12 : K.lookup f12 = some ⟨oc12, od12, .func (PySem.W.fnOf "far_linked" "far_linked" (defArgs s_far_linked) (defBody s_far_linked) (defScope s_far_linked) .none kV12 dc12 pm12 an12 cd12 ct12), sl12⟩) (c12 : PySem.W.codeIn K cd12 "far_linked" = true) (k12 : PySem.W.keepIn K (.ref f12) = true)
  (a13 : PySem.W.nsIn K mainGlobals "is_far" = some (some (.ref f13))) (l13 : K.lookup f13 = some ⟨oc13, od13, .func (PySem.W.fnOf "is_far" "is_far" (defArgs s_is_far) (defBody s_is_far) (defScope s_is_far) .none kV13 dc13 pm13 an13 cd13 ct13), sl13⟩) (c13 : PySem.W.codeIn K cd13 "is_far" = true) (k13 : PySem.W.keepIn K (.ref f13) = true)
  (a14 : PySem.W.nsIn K mainGlobals "_law_cell_at" = some (some (.ref f14))) (l14 : K.lookup f14 = some ⟨oc14, od14, .func (PySem.W.fnOf "_law_cell_at" "_law_cell_at" (defArgs s__law_cell_at) (defBody s__law_cell_at) (defScope s__law_cell_at) .none kV14 dc14 pm14 an14 cd14 ct14), sl14⟩) (c14 : PySem.W.codeIn K cd14 "_law_cell_at" = true) (k14 : PySem.W.keepIn K (.ref f14) = true)
  (a15 : PySem.W.nsIn K mainGlobals "_law_numbers" = some (some (.ref f15))) (l15 : K.lookup f15 = some ⟨oc15, od15, .func (PySem.W.fnOf "_law_numbers" "_law_numbers" (defArgs s__law_numbers) (defBody s__law_numbers) (defScope s__law_numbers) .none kV15 dc15 pm15 an15 cd15 ct15), sl15⟩) (c15 : PySem.W.codeIn K cd15 "_law_numbers" = true) (k15 : PySem.W.keepIn K (.ref f15) = true)
  (a16 : PySem.W.nsIn K mainGlobals "_law_web" = some (some (.ref f16))) (l16 : K.lookup f16 = some ⟨oc16, od16, .func (PySem.W.fnOf "_law_web" "_law_web" (defArgs s__law_web) (defBody s__law_web) (defScope s__law_web) .none kV16 dc16 pm16 an16 cd16 ct16), sl16⟩) (c16 : PySem.W.codeIn K cd16 "_law_web" = true) (k16 : PySem.W.keepIn K (.ref f16) = true)
  (a17 : PySem.W.nsIn K mainGlobals "_law_one_web" = some (some (.ref f17))) (l17 : K.lookup f17 = some ⟨oc17, od17, .func (PySem.W.fnOf "_law_one_web" "_law_one_web" (defArgs s__law_one_web) (defBody s__law_one_web) (defScope s__law_one_web) .none kV17 dc17 pm17 an17 cd17 ct17), sl17⟩) (c17 : PySem.W.codeIn K cd17 "_law_one_web" = true) (k17 : PySem.W.keepIn K (.ref f17) = true)
  (a18 : PySem.W.nsIn K mainGlobals "_law_beside" = some (some (.ref f18))) (l18 : K.lookup f18 = some ⟨oc18, od18, .func (PySem.W.fnOf "_law_beside" "_law_beside" (defArgs s__law_beside) (defBody s__law_beside) (defScope s__law_beside) .none kV18 dc18 pm18 an18 cd18 ct18), sl18⟩) (c18 : PySem.W.codeIn K cd18 "_law_beside" = true) (k18 : PySem.W.keepIn K (.ref f18) = true)
  (a19 : PySem.W.nsIn K mainGlobals "_law_far" = some (some (.ref f19))) (l19 : K.lookup f19 = some ⟨oc19, od19, .func (PySem.W.fnOf "_law_far" "_law_far" (defArgs s__law_far) (defBody s__law_far) (defScope s__law_far) .none kV19 dc19 pm19 an19 cd19 ct19), sl19⟩) (c19 : PySem.W.codeIn K cd19 "_law_far" = true) (k19 : PySem.W.keepIn K (.ref f19) = true)
  (a20 : PySem.W.nsIn K mainGlobals "_law_is_far" = some (some (.ref f20))) (l20 : K.lookup f20 = some ⟨oc20, od20, .func (PySem.W.fnOf "_law_is_far" "_law_is_far" (defArgs s__law_is_far) (defBody s__law_is_far) (defScope s__law_is_far) .none kV20 dc20 pm20 an20 cd20 ct20), sl20⟩) (c20 : PySem.W.codeIn K cd20 "_law_is_far" = true) (k20 : PySem.W.keepIn K (.ref f20) = true)
  (a21 : PySem.W.nsIn K mainGlobals "law" = some (some (.ref f21))) (l21 : K.lookup f21 = some ⟨oc21, od21, .func (PySem.W.fnOf "law" "law" (defArgs s_law) (defBody s_law) (defScope s_law) .none kV21 dc21 pm21 an21 cd21 ct21), sl21⟩) (c21 : PySem.W.codeIn K cd21 "law" = true) (k21 : PySem.W.keepIn K (.ref f21) = true)
  (z0 : PySem.W.nsIn K mainGlobals "bool" = some none)
  (z1 : PySem.W.nsIn K mainGlobals "MOST_PLACES" = some (some (.int 40 tk1)))
  (z2 : PySem.W.nsIn K mainGlobals "MOST_TIES" = some (some (.int 120 tk2)))
  (z3 : PySem.W.nsIn K mainGlobals "enumerate" = some none)
  (z4 : PySem.W.nsIn K mainGlobals "int" = some none)
  (z5 : PySem.W.nsIn K mainGlobals "isinstance" = some none)
  (z6 : PySem.W.nsIn K mainGlobals "len" = some none)
  (z7 : PySem.W.nsIn K mainGlobals "list" = some none)
  (z8 : PySem.W.nsIn K mainGlobals "max" = some none)
  (z9 : PySem.W.nsIn K mainGlobals "min" = some none)
  (z10 : PySem.W.nsIn K mainGlobals "range" = some none)
  (z11 : PySem.W.nsIn K mainGlobals "sorted" = some none)
  (z12 : PySem.W.nsIn K mainGlobals "tuple" = some none) :
  ∃ fd : FuncData, (∀ (s : Shared) (v : Value), BindsTo s fd ⟨[v], []⟩ [("_law_script", v)]) ∧ ∀ base : Heap, K.In base → base.Ns mainGlobals mg → FnOk l.prog w K mg base CX0 9 fa fd ["_law_script"] (@sp_law ⟨K⟩) := by
  have e := hfa.symm.trans (PySem.W.mg_of X G a21)
  cases e
  letI kf : KF := ⟨K⟩
  have B : Bn mg := ⟨PySem.W.mg_none_of X G z0, ⟨_, PySem.W.mg_of X G z1⟩, ⟨_, PySem.W.mg_of X G z2⟩, PySem.W.mg_none_of X G z3, PySem.W.mg_none_of X G z4, PySem.W.mg_none_of X G z5, PySem.W.mg_none_of X G z6, PySem.W.mg_none_of X G z7, PySem.W.mg_none_of X G z8, PySem.W.mg_none_of X G z9, PySem.W.mg_none_of X G z10, PySem.W.mg_none_of X G z11, PySem.W.mg_none_of X G z12⟩
  let T_is_whole : Tp kf.K mg "is_whole" s_is_whole := ⟨_, _, fun_mk (st := s_is_whole) l0 c0 k0, PySem.W.mg_of X G a0⟩
  let T_joins_places : Tp kf.K mg "joins_places" s_joins_places := ⟨_, _, fun_mk (st := s_joins_places) l1 c1 k1, PySem.W.mg_of X G a1⟩
  let T_web_fault : Tp kf.K mg "web_fault" s_web_fault := ⟨_, _, fun_mk (st := s_web_fault) l2 c2 k2, PySem.W.mg_of X G a2⟩
  let T_look_at_web : Tp kf.K mg "look_at_web" s_look_at_web := ⟨_, _, fun_mk (st := s_look_at_web) l3 c3 k3, PySem.W.mg_of X G a3⟩
  let T_is_tie : Tp kf.K mg "is_tie" s_is_tie := ⟨_, _, fun_mk (st := s_is_tie) l4 c4 k4, PySem.W.mg_of X G a4⟩
  let T_look_at_tie : Tp kf.K mg "look_at_tie" s_look_at_tie := ⟨_, _, fun_mk (st := s_look_at_tie) l5 c5 k5, PySem.W.mg_of X G a5⟩
  let T_beside_all : Tp kf.K mg "beside_all" s_beside_all := ⟨_, _, fun_mk (st := s_beside_all) l6 c6 k6, PySem.W.mg_of X G a6⟩
  let T_far_from : Tp kf.K mg "far_from" s_far_from := ⟨_, _, fun_mk (st := s_far_from) l7 c7 k7, PySem.W.mg_of X G a7⟩
  let T_far_table : Tp kf.K mg "far_table" s_far_table := ⟨_, _, fun_mk (st := s_far_table) l8 c8 k8, PySem.W.mg_of X G a8⟩
  let T_hangs : Tp kf.K mg "hangs" s_hangs := ⟨_, _, fun_mk (st := s_hangs) l9 c9 k9, PySem.W.mg_of X G a9⟩
  let T_refuse_apart : Tp kf.K mg "refuse_apart" s_refuse_apart := ⟨_, _, fun_mk (st := s_refuse_apart) l10 c10 k10, PySem.W.mg_of X G a10⟩
  let T_look_at_hanging : Tp kf.K mg "look_at_hanging" s_look_at_hanging := ⟨_, _, fun_mk (st := s_look_at_hanging) l11 c11 k11, PySem.W.mg_of X G a11⟩
  let T_far_linked : Tp kf.K mg "far_linked" s_far_linked := ⟨_, _, fun_mk (st := s_far_linked) l12 c12 k12, PySem.W.mg_of X G a12⟩
  let T_is_far : Tp kf.K mg "is_far" s_is_far := ⟨_, _, fun_mk (st := s_is_far) l13 c13 k13, PySem.W.mg_of X G a13⟩
  let T__law_cell_at : Tp kf.K mg "_law_cell_at" s__law_cell_at := ⟨_, _, fun_mk (st := s__law_cell_at) l14 c14 k14, PySem.W.mg_of X G a14⟩
  let T__law_numbers : Tp kf.K mg "_law_numbers" s__law_numbers := ⟨_, _, fun_mk (st := s__law_numbers) l15 c15 k15, PySem.W.mg_of X G a15⟩
  let T__law_web : Tp kf.K mg "_law_web" s__law_web := ⟨_, _, fun_mk (st := s__law_web) l16 c16 k16, PySem.W.mg_of X G a16⟩
  let T__law_one_web : Tp kf.K mg "_law_one_web" s__law_one_web := ⟨_, _, fun_mk (st := s__law_one_web) l17 c17 k17, PySem.W.mg_of X G a17⟩
  let T__law_beside : Tp kf.K mg "_law_beside" s__law_beside := ⟨_, _, fun_mk (st := s__law_beside) l18 c18 k18, PySem.W.mg_of X G a18⟩
  let T__law_far : Tp kf.K mg "_law_far" s__law_far := ⟨_, _, fun_mk (st := s__law_far) l19 c19 k19, PySem.W.mg_of X G a19⟩
  let T__law_is_far : Tp kf.K mg "_law_is_far" s__law_is_far := ⟨_, _, fun_mk (st := s__law_is_far) l20 c20 k20, PySem.W.mg_of X G a20⟩
  let T_law : Tp kf.K mg "law" s_law := ⟨_, _, fun_mk (st := s_law) l21 c21 k21, PySem.W.mg_of X G a21⟩
  refine ⟨T_law.fd, fun s v => .of_eq rfl, fun base _ _ => ?_⟩
  let d__law_cell_at : Df l.prog w kf.K mg base "_law_cell_at" 1 ["_law_script", "_law_k"] sp_cell_at := ⟨T__law_cell_at.a, T__law_cell_at.fd, T__law_cell_at.F.kp, T__law_cell_at.g, ok_cell_at B T__law_cell_at , T__law_cell_at.F.binds (ps := ["_law_script", "_law_k"]) fun _ _ _ _ _ _ us hl => match us, hl with | [_, _], _ => rfl⟩
  let d__law_numbers : Df l.prog w kf.K mg base "_law_numbers" 1 ["_law_cell", "_law_salt", "_law_sizes"] sp_numbers := ⟨T__law_numbers.a, T__law_numbers.fd, T__law_numbers.F.kp, T__law_numbers.g, ok_numbers B T__law_numbers , T__law_numbers.F.binds (ps := ["_law_cell", "_law_salt", "_law_sizes"]) fun _ _ _ _ _ _ us hl => match us, hl with | [_, _, _], _ => rfl⟩
  let d__law_web : Df l.prog w kf.K mg base "_law_web" 2 ["_law_cell", "_law_salt", "_law_most", "_law_more"] sp_web := ⟨T__law_web.a, T__law_web.fd, T__law_web.F.kp, T__law_web.g, ok_web B T__law_web d__law_numbers, T__law_web.F.binds (ps := ["_law_cell", "_law_salt", "_law_most", "_law_more"]) fun _ _ _ _ _ _ us hl => match us, hl with | [_, _, _, _], _ => rfl⟩
  let d__law_one_web : Df l.prog w kf.K mg base "_law_one_web" 3 ["_law_script", "_law_k", "_law_salt"] sp_one_web := ⟨T__law_one_web.a, T__law_one_web.fd, T__law_one_web.F.kp, T__law_one_web.g, ok_one_web B T__law_one_web d__law_cell_at d__law_numbers d__law_web, T__law_one_web.F.binds (ps := ["_law_script", "_law_k", "_law_salt"]) fun _ _ _ _ _ _ us hl => match us, hl with | [_, _, _], _ => rfl⟩
  let d__law_beside : Df l.prog w kf.K mg base "_law_beside" 1 ["_law_web_here"] sp_lbeside := ⟨T__law_beside.a, T__law_beside.fd, T__law_beside.F.kp, T__law_beside.g, ok_lbeside B T__law_beside , T__law_beside.F.binds (ps := ["_law_web_here"]) fun _ _ _ _ _ _ us hl => match us, hl with | [_], _ => rfl⟩
  let d__law_far : Df l.prog w kf.K mg base "_law_far" 1 ["_law_beside_here", "_law_place"] sp_far_from := ⟨T__law_far.a, T__law_far.fd, T__law_far.F.kp, T__law_far.g, ok_lfar B T__law_far , T__law_far.F.binds (ps := ["_law_beside_here", "_law_place"]) fun _ _ _ _ _ _ us hl => match us, hl with | [_, _], _ => rfl⟩
  let d__law_is_far : Df l.prog w kf.K mg base "_law_is_far" 2 ["_law_beside_here", "_law_tie", "_law_other"] sp_lis_far := ⟨T__law_is_far.a, T__law_is_far.fd, T__law_is_far.F.kp, T__law_is_far.g, ok_lis_far B T__law_is_far d__law_far, T__law_is_far.F.binds (ps := ["_law_beside_here", "_law_tie", "_law_other"]) fun _ _ _ _ _ _ us hl => match us, hl with | [_, _, _], _ => rfl⟩
  let d_is_whole : Df l.prog w kf.K mg base "is_whole" 1 ["thing"] sp_is_whole := ⟨T_is_whole.a, T_is_whole.fd, T_is_whole.F.kp, T_is_whole.g, ok_is_whole B T_is_whole , T_is_whole.F.binds (ps := ["thing"]) fun _ _ _ _ _ _ us hl => match us, hl with | [_], _ => rfl⟩
  let d_joins_places : Df l.prog w kf.K mg base "joins_places" 3 ["many", "thing"] sp_joins_places := ⟨T_joins_places.a, T_joins_places.fd, T_joins_places.F.kp, T_joins_places.g, ok_joins_places B T_joins_places d_is_whole, T_joins_places.F.binds (ps := ["many", "thing"]) fun _ _ _ _ _ _ us hl => match us, hl with | [_, _], _ => rfl⟩
  let d_web_fault : Df l.prog w kf.K mg base "web_fault" 4 ["thing"] sp_web_fault := ⟨T_web_fault.a, T_web_fault.fd, T_web_fault.F.kp, T_web_fault.g, ok_web_fault B T_web_fault d_is_whole d_joins_places, T_web_fault.F.binds (ps := ["thing"]) fun _ _ _ _ _ _ us hl => match us, hl with | [_], _ => rfl⟩
  let d_look_at_web : Df l.prog w kf.K mg base "look_at_web" 5 ["thing"] sp_look_at_web := ⟨T_look_at_web.a, T_look_at_web.fd, T_look_at_web.F.kp, T_look_at_web.g, ok_look_at_web B T_look_at_web d_web_fault, T_look_at_web.F.binds (ps := ["thing"]) fun _ _ _ _ _ _ us hl => match us, hl with | [_], _ => rfl⟩
  let d_beside_all : Df l.prog w kf.K mg base "beside_all" 1 ["web"] sp_beside_all := ⟨T_beside_all.a, T_beside_all.fd, T_beside_all.F.kp, T_beside_all.g, ok_beside_all B T_beside_all , T_beside_all.F.binds (ps := ["web"]) fun _ _ _ _ _ _ us hl => match us, hl with | [_], _ => rfl⟩
  let d_far_from : Df l.prog w kf.K mg base "far_from" 1 ["beside", "place"] sp_far_from := ⟨T_far_from.a, T_far_from.fd, T_far_from.F.kp, T_far_from.g, ok_far_from B T_far_from , T_far_from.F.binds (ps := ["beside", "place"]) fun _ _ _ _ _ _ us hl => match us, hl with | [_, _], _ => rfl⟩
  let d_hangs : Df l.prog w kf.K mg base "hangs" 2 ["web"] sp_hangs := ⟨T_hangs.a, T_hangs.fd, T_hangs.F.kp, T_hangs.g, ok_hangs B T_hangs d_beside_all d_far_from, T_hangs.F.binds (ps := ["web"]) fun _ _ _ _ _ _ us hl => match us, hl with | [_], _ => rfl⟩
  let d_refuse_apart : Df l.prog w kf.K mg base "refuse_apart" 3 ["webs"] sp_refuse_apart := ⟨T_refuse_apart.a, T_refuse_apart.fd, T_refuse_apart.F.kp, T_refuse_apart.g, ok_refuse_apart B T_refuse_apart d_hangs, T_refuse_apart.F.binds (ps := ["webs"]) fun _ _ _ _ _ _ us hl => match us, hl with | [_], _ => rfl⟩
  let d_look_at_hanging : Df l.prog w kf.K mg base "look_at_hanging" 7 ["thing"] sp_look_hang := ⟨T_look_at_hanging.a, T_look_at_hanging.fd, T_look_at_hanging.F.kp, T_look_at_hanging.g, ok_look_hang B T_look_at_hanging d_look_at_web d_refuse_apart, T_look_at_hanging.F.binds (ps := ["thing"]) fun _ _ _ _ _ _ us hl => match us, hl with | [_], _ => rfl⟩
  let d_is_tie : Df l.prog w kf.K mg base "is_tie" 4 ["web", "thing"] sp_is_tie := ⟨T_is_tie.a, T_is_tie.fd, T_is_tie.F.kp, T_is_tie.g, ok_is_tie B T_is_tie d_joins_places, T_is_tie.F.binds (ps := ["web", "thing"]) fun _ _ _ _ _ _ us hl => match us, hl with | [_, _], _ => rfl⟩
  let d_look_at_tie : Df l.prog w kf.K mg base "look_at_tie" 5 ["web", "thing"] sp_look_at_tie := ⟨T_look_at_tie.a, T_look_at_tie.fd, T_look_at_tie.F.kp, T_look_at_tie.g, ok_look_at_tie B T_look_at_tie d_is_tie, T_look_at_tie.F.binds (ps := ["web", "thing"]) fun _ _ _ _ _ _ us hl => match us, hl with | [_, _], _ => rfl⟩
  let d_far_table : Df l.prog w kf.K mg base "far_table" 2 ["beside"] sp_far_table := ⟨T_far_table.a, T_far_table.fd, T_far_table.F.kp, T_far_table.g, ok_far_table B T_far_table d_far_from, T_far_table.F.binds (ps := ["beside"]) fun _ _ _ _ _ _ us hl => match us, hl with | [_], _ => rfl⟩
  let d_far_linked : Df l.prog w kf.K mg base "far_linked" 1 ["far", "tie", "other"] sp_far_linked := ⟨T_far_linked.a, T_far_linked.fd, T_far_linked.F.kp, T_far_linked.g, ok_far_linked B T_far_linked , T_far_linked.F.binds (ps := ["far", "tie", "other"]) fun _ _ _ _ _ _ us hl => match us, hl with | [_, _, _], _ => rfl⟩
  let d_is_far : Df l.prog w kf.K mg base "is_far" 8 ["web", "tie", "other"] sp_is_far := ⟨T_is_far.a, T_is_far.fd, T_is_far.F.kp, T_is_far.g, ok_is_far B T_is_far d_look_at_hanging d_look_at_tie d_beside_all d_far_table d_far_linked, T_is_far.F.binds (ps := ["web", "tie", "other"]) fun _ _ _ _ _ _ us hl => match us, hl with | [_, _, _], _ => rfl⟩
  exact ok_law (P := l.prog) (w := w) (base := base) B T_law d__law_one_web d__law_beside d__law_numbers d__law_cell_at d__law_is_far d_is_far
end
theorem law_sp {K : PySem.W.Frag} {H : Hp} {a : Addr} {ns : List Int} (hl : ns.length ≤ 63) (hS : SqL K H a (ns.map V.int)) : (@sp_law ⟨K⟩) [.ref a] H (fun v _ => v = .bl true) fun _ _ _ => False := by
  letI kf : KF := ⟨K⟩
  refine ⟨H, [.list (ns.map .int)], rfl, Same.refl H, .cons (.lst hS (dpa_of_ints ns)) .nil, ⟨ns, rfl, hl⟩, fun r v H' S' A p x hs _ _ => ?_⟩
  have p : r = .d (.bool true) := p
  subst p
  cases hs with
  | d h => cases h; rfl


end k23n
open PySem PySem.W PyProof.Rows in
set_option maxHeartbeats 0 in
theorem PySem.Challenge.cw_webtimes_k23_far_links_holds : PySem.Challenge.rw_webtimes_k23_far_links.Holds := by
  w_on; o_law; k_head; (case hw => w_witness2)
  k_fill
  refine L2.walk_of (l := PySem.Challenge.rw_webtimes_k23_far_links) (n := 63) (k := 9) (x := "_law_script") (CX := fun _ => L2.CX0) (sp := fun w => @k23n.sp_law ⟨_⟩) rfl (by decide) rfl ⟨rfl, by decide, by decide⟩ (fun w h Y => PySem.W.kIn_of Y) ?F (fun w H a ns hl hO hS => k23n.law_sp hl hS) (fun _ _ _ _ _ h => h)
  case F =>
    intro w mg fa h KX G hmg
    refine' k23n.all_mk KX G hmg ?a0 ?l0 ?c0 ?k0 ?a1 ?l1 ?c1 ?k1 ?a2 ?l2 ?c2 ?k2 ?a3 ?l3 ?c3 ?k3 ?a4 ?l4 ?c4 ?k4 ?a5 ?l5 ?c5 ?k5 ?a6 ?l6 ?c6 ?k6 ?a7 ?l7 ?c7 ?k7 ?a8 ?l8 ?c8 ?k8 ?a9 ?l9 ?c9 ?k9 ?a10 ?l10 ?c10 ?k10 ?a11 ?l11 ?c11 ?k11 ?a12 ?l12 ?c12 ?k12 ?a13 ?l13 ?c13 ?k13 ?a14 ?l14 ?c14 ?k14 ?a15 ?l15 ?c15 ?k15 ?a16 ?l16 ?c16 ?k16 ?a17 ?l17 ?c17 ?k17 ?a18 ?l18 ?c18 ?k18 ?a19 ?l19 ?c19 ?k19 ?a20 ?l20 ?c20 ?k20 ?a21 ?l21 ?c21 ?k21 ?z0 ?z1 ?z2 ?z3 ?z4 ?z5 ?z6 ?z7 ?z8 ?z9 ?z10 ?z11 ?z12
    (case a0 => k_is)
    (case l0 => k_is)
    (case c0 => k_is)
    (case k0 => k_is)
    (case a1 => k_is)
    (case l1 => k_is)
    (case c1 => k_is)
    (case k1 => k_is)
    (case a2 => k_is)
    (case l2 => k_is)
    (case c2 => k_is)
    (case k2 => k_is)
    (case a3 => k_is)
    (case l3 => k_is)
    (case c3 => k_is)
    (case k3 => k_is)
    (case a4 => k_is)
    (case l4 => k_is)
    (case c4 => k_is)
    (case k4 => k_is)
    (case a5 => k_is)
    (case l5 => k_is)
    (case c5 => k_is)
    (case k5 => k_is)
    (case a6 => k_is)
    (case l6 => k_is)
    (case c6 => k_is)
    (case k6 => k_is)
    (case a7 => k_is)
    (case l7 => k_is)
    (case c7 => k_is)
    (case k7 => k_is)
    (case a8 => k_is)
    (case l8 => k_is)
    (case c8 => k_is)
    (case k8 => k_is)
    (case a9 => k_is)
    (case l9 => k_is)
    (case c9 => k_is)
    (case k9 => k_is)
    (case a10 => k_is)
    (case l10 => k_is)
    (case c10 => k_is)
    (case k10 => k_is)
    (case a11 => k_is)
    (case l11 => k_is)
    (case c11 => k_is)
    (case k11 => k_is)
    (case a12 => k_is)
    (case l12 => k_is)
    (case c12 => k_is)
    (case k12 => k_is)
    (case a13 => k_is)
    (case l13 => k_is)
    (case c13 => k_is)
    (case k13 => k_is)
    (case a14 => k_is)
    (case l14 => k_is)
    (case c14 => k_is)
    (case k14 => k_is)
    (case a15 => k_is)
    (case l15 => k_is)
    (case c15 => k_is)
    (case k15 => k_is)
    (case a16 => k_is)
    (case l16 => k_is)
    (case c16 => k_is)
    (case k16 => k_is)
    (case a17 => k_is)
    (case l17 => k_is)
    (case c17 => k_is)
    (case k17 => k_is)
    (case a18 => k_is)
    (case l18 => k_is)
    (case c18 => k_is)
    (case k18 => k_is)
    (case a19 => k_is)
    (case l19 => k_is)
    (case c19 => k_is)
    (case k19 => k_is)
    (case a20 => k_is)
    (case l20 => k_is)
    (case c20 => k_is)
    (case k20 => k_is)
    (case a21 => k_is)
    (case l21 => k_is)
    (case c21 => k_is)
    (case k21 => k_is)
    (case z0 => k_is)
    (case z1 => k_is)
    (case z2 => k_is)
    (case z3 => k_is)
    (case z4 => k_is)
    (case z5 => k_is)
    (case z6 => k_is)
    (case z7 => k_is)
    (case z8 => k_is)
    (case z9 => k_is)
    (case z10 => k_is)
    (case z11 => k_is)
    (case z12 => k_is)
