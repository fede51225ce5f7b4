import PyProof.Rows.All
import Wide.All
import OpenK.AllK
import Wide.FinOn
import HandS.ForMost
import HandS.Deep
import HandS.IsInst
import HandS.Walk
import HandS.TupLe
import HandS.Conv
import HandS.SortRule
import HandS.SortInts
import KE.KDictCopyH
import HandS.SetFor
import HandS.Strs
import HandS.NoneIn
import HandS.Defaults
import HandS.TupSets
import PyProof.ReprRoads
import KE.SortData
import KE.DataCmp
import HandS.DictComp
import HandS.Style
import PySem.Challenge.RW_webtimes_k14_whole_groups_of_webs
set_option Elab.async false
set_option linter.all false
set_option maxRecDepth 100000
set_option maxHeartbeats 4000000
/-! PL: webs and other plain data told over slots, without the heap -/
namespace PL
open PySem L2

class KF where
  K : PySem.W.Frag
abbrev D := PyData
abbrev Sg := List (Option V)

/-! ### what is stable (S) within what is tracked (H) -/
structure Xt (S H S' H' : Hp) : Prop where
  hh : Same H H'
  ss : Same S S'
  sh : Same S' H'
  nw : ∀ b o, S' b = some o → S b = some o ∨ ∀ u, H b = some u → ∃ xs, u = .tup xs

theorem Xt.refl {S H : Hp} (h : Same S H) : Xt S H S H := ⟨Same.refl H, Same.refl S, h, fun _ _ e => .inl e⟩
theorem Xt.trans {S H S1 H1 S2 H2 : Hp} (a : Xt S H S1 H1) (b : Xt S1 H1 S2 H2) : Xt S H S2 H2 :=
  ⟨a.hh.trans b.hh, a.ss.trans b.ss, b.sh, fun c o e => by
    rcases b.nw c o e with q | q
    · exact a.nw c o q
    · exact .inr fun u hu => q u (a.hh c u hu)⟩
/-- over the stable part alone -/
theorem Xt.self {S S' H' : Hp} (ss : Same S S') (sh : Same S' H') : Xt S S S' H' :=
  ⟨ss.trans sh, ss, sh, fun b o e => by
    cases q : S b with
    | none => exact .inr fun u hu => by cases hu
    | some u =>
      have := ss b u q
      rw [e] at this
      exact .inl this.symm⟩
/-- a new object, not stable -/
theorem Xt.new {S H : Hp} {p : Addr} {o : HO} (h : Same S H) (n : H p = none) : Xt S H S (upd H p o) :=
  ⟨fun b u e => by rw [upd_ne (ne_of_none e n)]; exact e, Same.refl S, fun b u e => by rw [upd_ne (ne_of_none (h b u e) n)]; exact h b u e, fun _ _ e => .inl e⟩
/-- a new object, stable -/
theorem Xt.newS {S H : Hp} {p : Addr} {o : HO} (h : Same S H) (n : H p = none) : Xt S H (upd S p o) (upd H p o) :=
  ⟨fun b u e => by rw [upd_ne (ne_of_none e n)]; exact e, fun b u e => by rw [upd_ne (ne_of_none (h b u e) n)]; exact e, fun b u e => by
    by_cases hb : b = p
    · subst hb; rw [upd_same] at e ⊢; exact e
    · rw [upd_ne hb] at e ⊢; exact h b u e, fun b u e => by
    by_cases hb : b = p
    · subst hb; exact .inr fun u hu => by rw [n] at hu; cases hu
    · rw [upd_ne hb] at e; exact .inl e⟩
/-- what is not of the stable part and no tuple stays out of it -/
theorem Xt.out {S H S' H' : Hp} (x : Xt S H S' H') {a : Addr} {u : HO} (hs : S a = none) (hu : H a = some u) (nt : ∀ xs, u ≠ .tup xs) : S' a = none := by
  cases q : S' a with
  | none => rfl
  | some o =>
    rcases x.nw a o q with e | e
    · rw [hs] at e; cases e
    · obtain ⟨xs, e⟩ := e u hu; exact absurd e (nt xs)
theorem free_of {H H' : Hp} (e : Same H H') {p : Addr} (h : H' p = none) : H p = none := e.free h

/-- list + list, both to be read -/
def rCatR (K : PySem.W.Frag) : R2 := fun x y H Q => ∃ l b xs zs, x = .ref l ∧ y = .ref b ∧ SqL K H l xs ∧ SqL K H b zs ∧ xs.length + zs.length ≤ sizeLine ∧ ∀ p, H p = none → Q (.ref p) (upd H p (.lst (xs ++ zs)))
theorem op_catR {X : Cx} : OpR X (binaryOp .Add) (rCatR X.K) := by
  intro pins s σ H x y v u Q I rx ry h
  obtain ⟨l, b, xs, zs, rfl, rfl, hH, hB, hz, q⟩ := h
  cases rx
  cases ry
  obtain ⟨its, r, ⟨⟨c1, d1, dt1, sl1⟩, n1, g1, k1, m1, t1⟩, z1⟩ := I.list hH
  obtain ⟨its2, r2, ⟨⟨c2, d2, dt2, sl2⟩, n2, g2, k2, m2, t2⟩, z2⟩ := I.list hB
  simp only at k1 m1 t1 k2 m2 t2
  subst k1 m1 t1 k2 m2 t2
  have e1 := r.length
  have e2 := r2.length
  refine concat_meets ⟨_, g1, rfl⟩ ⟨_, g2, rfl⟩ PySem.noFill_list_add PySem.seq_list_add PySem.F.slot_list_add PySem.F.entry_list_add (PySem.F.args_list_add_2 _ _)
    (PyProof.Rows.list_addW l b its.toArray its2.toArray n1 n2 none none sl1 sl2 (by simp; omega)) ⟨g1, g2, ?_⟩
  have ea : its.toArray ++ its2.toArray = (its ++ its2).toArray := by simp
  rw [ea]
  exact ⟨.ref _, _, I.lnew (t' := s.toks) (r.append r2) (by rw [List.length_append]; omega), rfl, q _ I.fresh⟩
/-- a constant as data -/
def vD : V → Option D
  | .non => some .none
  | .bl b => some (.bool b)
  | .int i => some (.int i)
  | .str x => some (.str x)
  | _ => none
/-- keys as data; a dict of flat values -/
def keyD : Key → D
  | .inl i => .int i
  | .inr s => .str s
def keyTD (k : List Key) : D := .tuple (k.map keyD)
def dctD {κ : Type} (f : κ → D) : List (κ × V) → Option (List (D × D))
  | [] => some []
  | (k, v) :: r => (vD v).bind fun x => (dctD f r).map fun xs => (f k, x) :: xs
mutual
/-- no dict within -/
def noDc : D → Bool
  | .none => true
  | .bool _ => true
  | .int _ => true
  | .str _ => true
  | .list xs => noDcs xs
  | .tuple xs => noDcs xs
  | .dict _ => false
def noDcs : List D → Bool
  | [] => true
  | x :: xs => noDc x && noDcs xs
end
mutual
theorem noDc_lay : ∀ d : D, d.canLay0 = true → noDc d = true
  | .none, _ => by simp [noDc]
  | .bool _, _ => by simp [noDc]
  | .int _, _ => by simp [noDc]
  | .str _, _ => by simp [noDc]
  | .list xs, h => by
    simp only [noDc]
    exact noDcs_lay xs (by simpa only [PyData.canLay0] using h)
  | .tuple xs, h => by
    simp only [noDc]
    exact noDcs_lay xs (by simpa only [PyData.canLay0] using h)
  | .dict _, h => by simp [PyData.canLay0] at h
theorem noDcs_lay : ∀ ds : List D, PyData.canLayAll0 ds = true → noDcs ds = true
  | [], _ => by simp [noDcs]
  | x :: xs, h => by
    have h' : x.canLay0 = true ∧ PyData.canLayAll0 xs = true := by simpa only [PyData.canLayAll0, Bool.and_eq_true] using h
    simp only [noDcs, noDc_lay x h'.1, noDcs_lay xs h'.2, Bool.and_self]
end
variable [kf : KF]
/-! ### data -/
mutual
/-- v is d, all of it tracked -/
inductive Rp (H : Hp) : V → D → Prop
  | non : Rp H .non .none
  | bl (b : Bool) : Rp H (.bl b) (.bool b)
  | int (i : Int) : Rp H (.int i) (.int i)
  | str (x : Str) : Rp H (.str x) (.str x)
  | lst {a : Addr} {xs : List V} {ds : List D} : SqL kf.K H a xs → RpAll H xs ds → Rp H (.ref a) (.list ds)
  | tup {a : Addr} {xs : List V} {ds : List D} : H a = some (.tup xs) → RpAll H xs ds → Rp H (.ref a) (.tuple ds)
  | dcT {a : Addr} {kvs : List (List Key × V)} {ds : List (D × D)} : H a = some (.dT kvs) → dctD keyTD kvs = some ds → Rp H (.ref a) (.dict ds)
  | dcK {a : Addr} {kvs : List (Key × V)} {ds : List (D × D)} : H a = some (.dK kvs) → dctD keyD kvs = some ds → Rp H (.ref a) (.dict ds)
inductive RpAll (H : Hp) : List V → List D → Prop
  | nil : RpAll H [] []
  | cons {v : V} {vs : List V} {d : D} {ds : List D} : Rp H v d → RpAll H vs ds → RpAll H (v :: vs) (d :: ds)
end
theorem rd_mono {H H' : Hp} {a : Addr} {u : HO} (e : Same H H') (h : Rd H a u) : Rd H' a u := by
  rcases h with h | ⟨o, h⟩
  · exact .inl (e _ _ h)
  · exact .inr ⟨o, e _ _ h⟩
mutual
theorem dp_mono {H H' : Hp} (e : Same H H') : ∀ (d : D) (v : V), Rp H v d → Rp H' v d
  | .none, _, h => by cases h; exact .non
  | .bool b, _, h => by cases h; exact .bl b
  | .int i, _, h => by cases h; exact .int i
  | .str x, _, h => by cases h; exact .str x
  | .list ds, _, h => by
    cases h with
    | lst hs ha => exact .lst (e.seq hs) (dpa_mono e ds _ ha)
  | .tuple ds, _, h => by
    cases h with
    | tup hs ha => exact .tup (e _ _ hs) (dpa_mono e ds _ ha)
  | .dict _, _, h => by
    cases h with
    | dcT hs ha => exact .dcT (e _ _ hs) ha
    | dcK hs ha => exact .dcK (e _ _ hs) ha
theorem dpa_mono {H H' : Hp} (e : Same H H') : ∀ (ds : List D) (vs : List V), RpAll H vs ds → RpAll H' vs ds
  | [], _, h => by cases h; exact .nil
  | d :: ds, _, h => by
    cases h with
    | cons h t => exact .cons (dp_mono e d _ h) (dpa_mono e ds _ t)
end
mutual
theorem rp_dp {H : Hp} : ∀ (d : D) (v : V), noDc d = true → Rp H v d → Dp kf.K H v d
  | .none, _, _, h => by cases h; exact .non
  | .bool b, _, _, h => by cases h; exact .bl b
  | .int i, _, _, h => by cases h; exact .int i
  | .str x, _, _, h => by cases h; exact .str x
  | .list ds, _, c, h => by
    cases h with
    | lst hs ha => exact .lst hs (rpa_dp ds _ (by simpa only [noDc] using c) ha)
  | .tuple ds, _, c, h => by
    cases h with
    | tup hs ha => exact .tup (.inl (.inl hs)) (rpa_dp ds _ (by simpa only [noDc] using c) ha)
  | .dict _, _, c, h => by simp [noDc] at c
theorem rpa_dp {H : Hp} : ∀ (ds : List D) (vs : List V), noDcs ds = true → RpAll H vs ds → DpAll kf.K H vs ds
  | [], _, _, h => by cases h; exact .nil
  | d :: ds, _, c, h => by
    have c' : noDc d = true ∧ noDcs ds = true := by simpa only [noDcs, Bool.and_eq_true] using c
    cases h with
    | cons h t => exact .cons (rp_dp d _ c'.1 h) (rpa_dp ds _ c'.2 t)
end
theorem dpa_length {H : Hp} : ∀ {vs : List V} {ds : List D}, RpAll H vs ds → vs.length = ds.length
  | _, _, .nil => rfl
  | _, _, .cons _ t => by rw [List.length_cons, List.length_cons, dpa_length t]
theorem dpa_get {H : Hp} : ∀ {vs : List V} {ds : List D} {i : Nat} {d : D}, RpAll H vs ds → ds[i]? = some d → ∃ v, vs[i]? = some v ∧ Rp H v d
  | _, _, _, _, .nil, e => by simp at e
  | _, _, 0, _, .cons h _, e => by simp at e; subst e; exact ⟨_, rfl, h⟩
  | _, _, i + 1, d, .cons _ t, e => by
    obtain ⟨v, h1, h2⟩ := dpa_get (i := i) (d := d) t (by simpa using e)
    exact ⟨v, by simpa using h1, h2⟩
theorem dpa_append {H : Hp} : ∀ {vs ws : List V} {ds es : List D}, RpAll H vs ds → RpAll H ws es → RpAll H (vs ++ ws) (ds ++ es)
  | _, _, _, _, .nil, h => h
  | _, _, _, _, .cons a t, h => .cons a (dpa_append t h)
theorem dpa_set {H : Hp} {v : V} {d : D} (r : Rp H v d) : ∀ {vs : List V} {ds : List D} (i : Nat), RpAll H vs ds → RpAll H (vs.set i v) (ds.set i d)
  | _, _, _, .nil => .nil
  | _, _, 0, .cons _ t => .cons r t
  | _, _, i + 1, .cons q t => .cons q (dpa_set r i t)
theorem dpa_take {H : Hp} : ∀ {vs : List V} {ds : List D} (n : Nat), RpAll H vs ds → RpAll H (vs.take n) (ds.take n)
  | _, _, 0, _ => .nil
  | _, _, _ + 1, .nil => .nil
  | _, _, n + 1, .cons r t => .cons r (dpa_take n t)
theorem dpa_drop {H : Hp} : ∀ {vs : List V} {ds : List D} (n : Nat), RpAll H vs ds → RpAll H (vs.drop n) (ds.drop n)
  | _, _, 0, r => r
  | _, _, _ + 1, .nil => .nil
  | _, _, n + 1, .cons _ t => dpa_drop n t
theorem dpa_erase {H : Hp} : ∀ {vs : List V} {ds : List D} (n : Nat), RpAll H vs ds → RpAll H (vs.eraseIdx n) (ds.eraseIdx n)
  | _, _, _, .nil => .nil
  | _, _, 0, .cons _ t => t
  | _, _, n + 1, .cons r t => .cons r (dpa_erase n t)
theorem dpa_reverse {H : Hp} : ∀ {vs : List V} {ds : List D}, RpAll H vs ds → RpAll H vs.reverse ds.reverse
  | _, _, .nil => .nil
  | _, _, .cons r t => by rw [List.reverse_cons, List.reverse_cons]; exact dpa_append (dpa_reverse t) (.cons r .nil)
theorem dpa_ints {H : Hp} : ∀ {vs : List V} {ns : List Int}, RpAll H vs (ns.map PyData.int) → vs = ns.map V.int
  | _, [], h => by cases h; rfl
  | _, n :: ns, h => by
    cases h with
    | cons a t => cases a; rw [dpa_ints t]; rfl
theorem dpa_of_ints {H : Hp} : ∀ (ns : List Int), RpAll H (ns.map V.int) (ns.map PyData.int)
  | [] => .nil
  | n :: ns => .cons (.int n) (dpa_of_ints ns)
theorem dpa_bools {H : Hp} : ∀ {vs : List V} {ns : List Bool}, RpAll H vs (ns.map PyData.bool) → vs = ns.map V.bl
  | _, [], h => by cases h; rfl
  | _, n :: ns, h => by
    cases h with
    | cons a t => cases a; rw [dpa_bools t]; rfl
theorem atD {H : Hp} {vs : List V} {ds : List D} {i : Int} {d : D} (h : RpAll H vs ds) (e : atI ds i = some d) : ∃ v, atI vs i = some v ∧ Rp H v d := by
  unfold atI at e
  cases q : ixN ds.length i with
  | none => rw [q] at e; cases e
  | some j =>
    rw [q] at e
    obtain ⟨v, h1, h2⟩ := dpa_get h e
    refine ⟨v, ?_, h2⟩
    unfold atI
    rw [dpa_length h, q]
    exact h1

/-- no heap within -/
def flat : D → Bool
  | .none | .bool _ | .int _ | .str _ => true
  | _ => false
theorem dp_flat {H H' : Hp} {v : V} {d : D} (f : flat d = true) (h : Rp H v d) : Rp H' v d := by
  cases h with
  | non => exact .non
  | bl b => exact .bl b
  | int i => exact .int i
  | str x => exact .str x
  | lst _ _ => cases f
  | tup _ _ => cases f
  | dcT _ _ => cases f
  | dcK _ _ => cases f
theorem dpa_flat {H H' : Hp} : ∀ {vs : List V} {ds : List D}, (∀ d ∈ ds, PL.flat d = true) → RpAll H vs ds → RpAll H' vs ds
  | _, _, _, .nil => .nil
  | _, _, f, .cons h t => .cons (dp_flat (f _ List.mem_cons_self) h) (dpa_flat (fun d hd => f d (List.mem_cons_of_mem _ hd)) t)
theorem vD_dp {H : Hp} {v : V} {d : D} (h : vD v = some d) : Rp H v d := by
  cases v <;> simp [vD] at h <;> subst h <;> constructor

/-! ### slots -/
inductive Sl where
  | no
  | d (x : D)
  | own (xs : List D)
  | own2 (xss : List (List D))
  | dct (ks : List (Int × Int))
def Sl.toD : Sl → Option D
  | .d x => some x
  | .own xs => some (.list xs)
  | .own2 xss => some (.list (xss.map .list))
  | _ => none
inductive Own2 (S H : Hp) : List Addr → List (List D) → Prop
  | nil : Own2 S H [] []
  | cons {b : Addr} {vs : List V} {xs : List D} {bs : List Addr} {xss : List (List D)} : S b = none → H b = some (.lst vs) → RpAll S vs xs → Own2 S H bs xss → Own2 S H (b :: bs) (xs :: xss)
def keyOf (k : Int × Int) : List Key × V := ([.inl k.1, .inl k.2], .bl true)
inductive SlOk (S H : Hp) : Option V → Sl → List Addr → Prop
  | no {v : Option V} : SlOk S H v .no []
  | d {v : V} {x : D} : Rp S v x → SlOk S H (some v) (.d x) []
  | own {a : Addr} {vs : List V} {xs : List D} : S a = none → H a = some (.lst vs) → RpAll S vs xs → SlOk S H (some (.ref a)) (.own xs) [a]
  | own2 {a : Addr} {bs : List Addr} {xss : List (List D)} : S a = none → H a = some (.lst (bs.map V.ref)) → Own2 S H bs xss → SlOk S H (some (.ref a)) (.own2 xss) (a :: bs)
  | dct {a : Addr} {ks : List (Int × Int)} : S a = none → H a = some (.dT (ks.map keyOf)) → SlOk S H (some (.ref a)) (.dct ks) [a]

section
variable {S H S' H' S0 H0 S1 H1 : Hp}
theorem Own2.keep {bs : List Addr} {xss : List (List D)} (h : Own2 S H bs xss) (ss : Same S S') (k : ∀ a ∈ bs, S' a = none ∧ H' a = H a) : Own2 S' H' bs xss := by
  induction h with
  | nil => exact .nil
  | cons h1 h2 h3 _ ih =>
    obtain ⟨e1, e2⟩ := k _ List.mem_cons_self
    exact .cons e1 (e2.trans h2) (dpa_mono ss _ _ h3) (ih fun a ha => k a (List.mem_cons_of_mem _ ha))
theorem SlOk.keep {v : Option V} {s : Sl} {A : List Addr} (h : SlOk S H v s A) (ss : Same S S') (k : ∀ a ∈ A, S' a = none ∧ H' a = H a) : SlOk S' H' v s A := by
  cases h with
  | no => exact .no
  | d h => exact .d (dp_mono ss _ _ h)
  | own h1 h2 h3 =>
    obtain ⟨e1, e2⟩ := k _ List.mem_cons_self
    exact .own e1 (e2.trans h2) (dpa_mono ss _ _ h3)
  | own2 h1 h2 h3 =>
    obtain ⟨e1, e2⟩ := k _ List.mem_cons_self
    exact .own2 e1 (e2.trans h2) (h3.keep ss fun a ha => k a (List.mem_cons_of_mem _ ha))
  | dct h1 h2 =>
    obtain ⟨e1, e2⟩ := k _ List.mem_cons_self
    exact .dct e1 (e2.trans h2)
theorem Own2.at {bs : List Addr} {xss : List (List D)} (h : Own2 S H bs xss) : ∀ a ∈ bs, S a = none ∧ ∃ u, H a = some u ∧ ∀ xs, u ≠ .tup xs := by
  induction h with
  | nil => intro a ha; cases ha
  | cons h1 h2 h3 _ ih =>
    intro a ha
    rcases List.mem_cons.mp ha with rfl | ha
    · exact ⟨h1, _, h2, fun _ e => by cases e⟩
    · exact ih a ha
theorem SlOk.at {v : Option V} {s : Sl} {A : List Addr} (h : SlOk S H v s A) : ∀ a ∈ A, S a = none ∧ ∃ u, H a = some u ∧ ∀ xs, u ≠ .tup xs := by
  cases h with
  | no => intro a ha; cases ha
  | d h => intro a ha; cases ha
  | own h1 h2 h3 =>
    intro a ha
    have e := List.mem_singleton.mp ha
    subst e
    exact ⟨h1, _, h2, fun _ e => by cases e⟩
  | own2 h1 h2 h3 =>
    intro a ha
    rcases List.mem_cons.mp ha with rfl | ha
    · exact ⟨h1, _, h2, fun _ e => by cases e⟩
    · exact h3.at a ha
  | dct h1 h2 =>
    intro a ha
    have e := List.mem_singleton.mp ha
    subst e
    exact ⟨h1, _, h2, fun _ e => by cases e⟩
theorem SlOk.ext {v : Option V} {s : Sl} {A : List Addr} (h : SlOk S H v s A) (x : Xt S H S' H') : SlOk S' H' v s A :=
  h.keep x.ss fun a ha => by
    obtain ⟨h1, u, h2, h3⟩ := h.at a ha
    exact ⟨x.out h1 h2 h3, by rw [h2]; exact x.hh a u h2⟩

inductive EnvOk (S H : Hp) : List (Option V) → List Sl → List Addr → Prop
  | nil : EnvOk S H [] [] []
  | cons {v : Option V} {s : Sl} {A : List Addr} {σ : List (Option V)} {ρ : List Sl} {B : List Addr} : SlOk S H v s A → EnvOk S H σ ρ B → EnvOk S H (v :: σ) (s :: ρ) (A ++ B)
theorem EnvOk.keep {σ : Sg} {ρ : List Sl} {A : List Addr} (h : EnvOk S H σ ρ A) (ss : Same S S') (k : ∀ a ∈ A, S' a = none ∧ H' a = H a) : EnvOk S' H' σ ρ A := by
  induction h with
  | nil => exact .nil
  | cons h _ ih => exact .cons (h.keep ss fun a ha => k a (List.mem_append_left _ ha)) (ih fun a ha => k a (List.mem_append_right _ ha))
theorem EnvOk.at {σ : Sg} {ρ : List Sl} {A : List Addr} (h : EnvOk S H σ ρ A) : ∀ a ∈ A, S a = none ∧ ∃ u, H a = some u ∧ ∀ xs, u ≠ .tup xs := by
  induction h with
  | nil => intro a ha; cases ha
  | cons h _ ih =>
    intro a ha
    rcases List.mem_append.mp ha with ha | ha
    · exact h.at a ha
    · exact ih a ha
theorem EnvOk.ext {σ : Sg} {ρ : List Sl} {A : List Addr} (h : EnvOk S H σ ρ A) (x : Xt S H S' H') : EnvOk S' H' σ ρ A :=
  h.keep x.ss fun a ha => by
    obtain ⟨h1, u, h2, h3⟩ := h.at a ha
    exact ⟨x.out h1 h2 h3, by rw [h2]; exact x.hh a u h2⟩
theorem EnvOk.len {σ : Sg} {ρ : List Sl} {A : List Addr} (h : EnvOk S H σ ρ A) : σ.length = ρ.length := by
  induction h with
  | nil => rfl
  | cons _ _ ih => rw [List.length_cons, List.length_cons, ih]
/-- one slot taken out of the rest: at i stands v as s over A; with anything in its place the rest stays -/
theorem EnvOk.pick {σ : Sg} {ρ : List Sl} {B : List Addr} (h : EnvOk S H σ ρ B) (nd : B.Nodup) : ∀ {i : Nat} {s : Sl}, ρ[i]? = some s → ∃ v A, σ[i]? = some v ∧ SlOk S H v s A ∧ A.Nodup ∧ (∀ a ∈ A, a ∈ B) ∧
    ∀ {S' H' : Hp} {v' : Option V} {s' : Sl} {A' : List Addr}, Same S S' → (∀ a ∈ B, a ∉ A → S' a = none ∧ H' a = H a) → SlOk S' H' v' s' A' → A'.Nodup → (∀ a ∈ A', a ∈ A ∨ a ∉ B) →
      ∃ B', EnvOk S' H' (σ.set i v') (ρ.set i s') B' ∧ B'.Nodup ∧ ∀ a ∈ B', a ∈ A' ∨ a ∈ B := by
  induction h with
  | nil => intro i s e; simp at e
  | @cons v0 s0 A0 σ ρ B h0 ht ih =>
    have nd1 : A0.Nodup := (List.nodup_append.mp nd).1
    have nd2 : B.Nodup := (List.nodup_append.mp nd).2.1
    have dj : ∀ a ∈ A0, a ∉ B := fun a ha hb => (List.nodup_append.mp nd).2.2 a ha a hb rfl
    intro i s e
    cases i with
    | zero =>
      have e' : s0 = s := by simpa using e
      subst e'
      refine ⟨v0, A0, rfl, h0, nd1, fun a ha => List.mem_append_left _ ha, fun {S' H' v' s' A'} ss k h' n' m' => ?_⟩
      refine ⟨A' ++ B, .cons h' (ht.keep ss fun a ha => k a (List.mem_append_right _ ha) fun z => dj a z ha), ?_, fun a ha => ?_⟩
      · refine List.nodup_append.mpr ⟨n', nd2, fun a ha b hb e => ?_⟩
        subst e
        rcases m' a ha with z | z
        · exact dj a z hb
        · exact z (List.mem_append_right _ hb)
      · rcases List.mem_append.mp ha with z | z
        · exact .inl z
        · exact .inr (List.mem_append_right _ z)
    | succ i =>
      obtain ⟨v, A, e1, e2, e3, e4, e5⟩ := ih nd2 (i := i) (s := s) (by simpa using e)
      refine ⟨v, A, by simpa using e1, e2, e3, fun a ha => List.mem_append_right _ (e4 a ha), fun {S' H' v' s' A'} ss k h' n' m' => ?_⟩
      obtain ⟨B', q1, q2, q3⟩ := e5 (v' := v') ss (fun a ha na => k a (List.mem_append_right _ ha) na) h' n' (fun a ha => by
        rcases m' a ha with z | z
        · exact .inl z
        · exact .inr fun hb => z (List.mem_append_right _ hb))
      refine ⟨A0 ++ B', .cons (h0.keep ss fun a ha => k a (List.mem_append_left _ ha) fun z => dj a ha (e4 a z)) q1, ?_, fun a ha => ?_⟩
      · refine List.nodup_append.mpr ⟨nd1, q2, fun a ha b hb e => ?_⟩
        subst e
        rcases q3 a hb with z | z
        · rcases m' a z with y | y
          · exact dj a ha (e4 a y)
          · exact y (List.mem_append_left _ ha)
        · exact dj a ha z
      · rcases List.mem_append.mp ha with z | z
        · exact .inr (List.mem_append_left _ z)
        · rcases q3 a z with y | y
          · exact .inl y
          · exact .inr (List.mem_append_right _ y)

structure Ok (S0 H0 S H : Hp) (σ : Sg) (ρ : List Sl) : Prop where
  xt : Xt S0 H0 S H
  env : ∃ A, EnvOk S H σ ρ A ∧ A.Nodup ∧ ∀ a ∈ A, H0 a = none
theorem Ok.sh {σ : Sg} {ρ : List Sl} (o : Ok S0 H0 S H σ ρ) : Same S H := o.xt.sh
theorem Ok.ext {σ : Sg} {ρ : List Sl} (o : Ok S0 H0 S H σ ρ) (x : Xt S H S' H') : Ok S0 H0 S' H' σ ρ := by
  obtain ⟨A, h1, h2, h3⟩ := o.env
  exact ⟨o.xt.trans x, A, h1.ext x, h2, h3⟩
theorem Ok.len {σ : Sg} {ρ : List Sl} (o : Ok S0 H0 S H σ ρ) : σ.length = ρ.length := let ⟨_, h, _⟩ := o.env; h.len
/-- a slot stored: what is stored is new to H -/
theorem Ok.set {σ : Sg} {ρ : List Sl} (o : Ok S0 H0 S H σ ρ) (x : Xt S H S' H') {v : Option V} {s : Sl} {A : List Addr} (h : SlOk S' H' v s A) (nd : A.Nodup) (fr : ∀ a ∈ A, H a = none) (i : Nat) : Ok S0 H0 S' H' (σ.set i v) (ρ.set i s) := by
  obtain ⟨B, h1, h2, h3⟩ := o.env
  have h1' := h1.ext x
  by_cases hi : i < ρ.length
  · obtain ⟨v0, A0, e1, e2, e3, e4, e5⟩ := h1'.pick h2 (i := i) (s := ρ[i]) (by simp [hi])
    obtain ⟨B', q1, q2, q3⟩ := e5 (v' := v) (Same.refl S') (fun a ha _ => ⟨(h1'.at a ha).1, rfl⟩) h nd (fun a ha => .inr fun hb => by
      obtain ⟨_, u, hu, _⟩ := h1.at a hb
      rw [fr a ha] at hu; cases hu)
    refine ⟨o.xt.trans x, B', q1, q2, fun a ha => ?_⟩
    rcases q3 a ha with z | z
    · exact o.xt.hh.free (fr a z)
    · exact h3 a z
  · have l := o.len
    rw [List.set_eq_of_length_le (by omega), List.set_eq_of_length_le (by omega)]
    exact ⟨o.xt.trans x, B, h1', h2, h3⟩
end
end PL

namespace PL
open PySem L2
variable [kf : KF]

theorem slRp {S H : Hp} {v : V} {s : Sl} {A : List Addr} {x : D} (sh : Same S H) (h : SlOk S H (some v) s A) (e : s.toD = some x) : Rp H v x := by
  cases h with
  | no => cases e
  | d h => cases e; exact dp_mono sh _ _ h
  | own h1 h2 h3 => cases e; exact .lst (SqL.of h2) (dpa_mono sh _ _ h3)
  | own2 h1 h2 h3 =>
    cases e
    refine .lst (SqL.of h2) ?_
    clear h2
    induction h3 with
    | nil => exact .nil
    | cons a b c _ ih => exact .cons (.lst (SqL.of b) (dpa_mono sh _ _ c)) ih
  | dct _ _ => cases e
/-- the objects at A become stable -/
def fz (S H : Hp) (A : List Addr) : Hp := fun b => if b ∈ A then H b else S b
theorem fz_in {S H : Hp} {A : List Addr} {b : Addr} (h : b ∈ A) : fz S H A b = H b := by unfold fz; rw [if_pos h]
theorem fz_out {S H : Hp} {A : List Addr} {b : Addr} (h : b ∉ A) : fz S H A b = S b := by unfold fz; rw [if_neg h]
theorem fz_same {S H : Hp} {A : List Addr} (sh : Same S H) : Same S (fz S H A) := fun b o e => by
  by_cases h : b ∈ A
  · rw [fz_in h]; exact sh b o e
  · rw [fz_out h]; exact e
theorem fz_sub {S H : Hp} {A : List Addr} (sh : Same S H) : Same (fz S H A) H := fun b o e => by
  by_cases h : b ∈ A
  · rw [fz_in h] at e; exact e
  · rw [fz_out h] at e; exact sh b o e
theorem fz_rp {S H : Hp} {v : V} {s : Sl} {A : List Addr} {x : D} (sh : Same S H) (h : SlOk S H (some v) s A) (e : s.toD = some x) : Rp (fz S H A) v x := by
  cases h with
  | no => cases e
  | d h => cases e; exact dp_mono (fz_same sh) _ _ h
  | own h1 h2 h3 => cases e; exact .lst (SqL.of ((fz_in List.mem_cons_self).trans h2)) (dpa_mono (fz_same sh) _ _ h3)
  | @own2 a bs xss h1 h2 h3 =>
    cases e
    refine .lst (SqL.of ((fz_in List.mem_cons_self).trans h2)) ?_
    have gen : ∀ (bs' : List Addr) (xss' : List (List D)), (∀ b ∈ bs', b ∈ a :: bs) → Own2 S H bs' xss' → RpAll (fz S H (a :: bs)) (bs'.map V.ref) (xss'.map PyData.list) := by
      intro bs' xss' hm h
      induction h with
      | nil => exact .nil
      | cons p q r _ ih => exact .cons (.lst (SqL.of ((fz_in (hm _ List.mem_cons_self)).trans q)) (dpa_mono (fz_same sh) _ _ r)) (ih fun b hb => hm b (List.mem_cons_of_mem _ hb))
    exact gen bs xss (fun b hb => List.mem_cons_of_mem _ hb) h3
  | dct _ _ => cases e
theorem Xt.fz {S H S' H' : Hp} {A : List Addr} (x : Xt S H S' H') (fr : ∀ a ∈ A, H a = none) : Xt S H (PL.fz S' H' A) H' :=
  ⟨x.hh, x.ss.trans (fz_same x.sh), fz_sub x.sh, fun b o e => by
    by_cases h : b ∈ A
    · exact .inr fun u hu => by rw [fr b h] at hu; cases hu
    · rw [fz_out h] at e; exact x.nw b o e⟩

/-! ### judgements -/
def EvP (te : TE) (ρ : List Sl) (P : Sl → Prop) : Prop := ∀ (S0 H0 S H : Hp) (σ : Sg) (Q : VK), Ok S0 H0 S H σ ρ →
  (∀ v S' H' r A, P r → Xt S H S' H' → SlOk S' H' (some v) r A → A.Nodup → (∀ a ∈ A, H a = none) → Q v H') → te σ H Q
def EvO (te : TE) (ρ : List Sl) (r : Sl) : Prop := EvP te ρ (fun r' => r' = r)
def EvT (te : TE) (ρ : List Sl) (d : D) : Prop := ∀ (S0 H0 S H : Hp) (σ : Sg) (Q : VK), Ok S0 H0 S H σ ρ → (∀ v S' H', Xt S H S' H' → Rp H' v d → Q v H') → te σ H Q
/-- a list whose items are stable -/
def EvE (te : TE) (ρ : List Sl) (ds : List D) : Prop := ∀ (S0 H0 S H : Hp) (σ : Sg) (Q : VK), Ok S0 H0 S H σ ρ → (∀ a vs S' H', Xt S H S' H' → SqL kf.K H' a vs → RpAll S' vs ds → Q (.ref a) H') → te σ H Q
def EvB (tt : TT) (ρ : List Sl) (b : Bool) : Prop := ∀ (S0 H0 S H : Hp) (σ : Sg) (Q : Bool → Hp → Prop), Ok S0 H0 S H σ ρ → (∀ S' H', Xt S H S' H' → Q b H') → tt σ H Q
def EvL (ta : TA) (ρ : List Sl) (ds : List D) : Prop := ∀ (S0 H0 S H : Hp) (σ : Sg) (Q : List V → Hp → Prop), Ok S0 H0 S H σ ρ → (∀ vs S' H', Xt S H S' H' → RpAll S' vs ds → Q vs H') → ta σ H Q
def EvLt (ta : TA) (ρ : List Sl) (ds : List D) : Prop := ∀ (S0 H0 S H : Hp) (σ : Sg) (Q : List V → Hp → Prop), Ok S0 H0 S H σ ρ → (∀ vs S' H', Xt S H S' H' → RpAll H' vs ds → Q vs H') → ta σ H Q

section
variable {ρ : List Sl} {ta tb tc te : TE} {t u : TT} {d e x y : D} {r : Sl} {P : Sl → Prop}

theorem evt_of (h : EvO te ρ r) (e : r.toD = some x) : EvT te ρ x := fun S0 H0 S H σ Q o q => h S0 H0 S H σ Q o fun v S' H' r' A e' xt hs _ _ => by
  subst e'
  exact q v S' H' xt (slRp xt.sh hs e)
theorem evp_mono {P' : Sl → Prop} (h : EvP te ρ P) (m : ∀ r, P r → P' r) : EvP te ρ P' := fun S0 H0 S H σ Q o q => h S0 H0 S H σ Q o fun v S' H' r A p => q v S' H' r A (m r p)
theorem evp_of (h : EvO te ρ r) (p : P r) : EvP te ρ P := evp_mono h fun r' e => by rw [e]; exact p
theorem evo_fz (h : EvO te ρ r) (e : r.toD = some x) : EvO te ρ (.d x) := fun S0 H0 S H σ Q o q => h S0 H0 S H σ Q o fun v S' H' r' A e' xt hs _ fr => by
  subst e'
  exact q v (fz S' H' A) H' _ [] rfl (xt.fz fr) (.d (fz_rp xt.sh hs e)) List.nodup_nil (fun a ha => by cases ha)
theorem evo_flat (h : EvT te ρ x) (f : flat x = true) : EvO te ρ (.d x) := fun S0 H0 S H σ Q o q => h S0 H0 S H σ Q o fun v S' H' xt hr =>
  q v S' H' _ [] rfl xt (.d (dp_flat f hr)) List.nodup_nil (fun a ha => by cases ha)
/-- a flat value told -/
theorem fin_flat {S H S' H' : Hp} {Q : VK} {v : V} (q : ∀ v S' H' r' A, r' = r → Xt S H S' H' → SlOk S' H' (some v) r' A → A.Nodup → (∀ a ∈ A, H a = none) → Q v H') (xt : Xt S H S' H') (e : r = .d x) (h : vD v = some x) : Q v H' :=
  q v S' H' r [] rfl xt (by rw [e]; exact .d (vD_dp h)) List.nodup_nil (fun a ha => by cases ha)
theorem evo_is (h : EvO te ρ r) {r' : Sl} (e : r = r') : EvO te ρ r' := e ▸ h
theorem evb_is {b b' : Bool} (h : EvB t ρ b) (e : b = b') : EvB t ρ b' := e ▸ h

theorem Ok.get {S0 H0 S H : Hp} {σ : Sg} {s : Sl} {i : Nat} (o : Ok S0 H0 S H σ ρ) (h : ρ[i]? = some s) : ∃ v A, σ[i]? = some v ∧ SlOk S H v s A := by
  obtain ⟨A, he, hn, _⟩ := o.env
  obtain ⟨v, A', e1, e2, _⟩ := he.pick hn h
  exact ⟨v, A', e1, e2⟩
theorem evo_var {i : Nat} (h : ρ[i]? = some (.d x)) : EvO (tVar i) ρ (.d x) := fun S0 H0 S H σ Q o q => by
  obtain ⟨v, A, e1, e2⟩ := o.get h
  cases e2 with
  | d hd => exact ⟨_, e1, q _ S H _ [] rfl (.refl o.sh) (.d hd) List.nodup_nil (fun a ha => by cases ha)⟩
theorem evt_var {i : Nat} {s : Sl} (h : ρ[i]? = some s) (e : s.toD = some x) : EvT (tVar i) ρ x := fun S0 H0 S H σ Q o q => by
  obtain ⟨v, A, e1, e2⟩ := o.get h
  cases v with
  | none => cases e2; cases e
  | some v => exact ⟨v, e1, q v S H (.refl o.sh) (slRp o.sh e2 e)⟩
theorem eve_var {i : Nat} {ds : List D} (h : ρ[i]? = some (.own ds)) : EvE (tVar i) ρ ds := fun S0 H0 S H σ Q o q => by
  obtain ⟨v, A, e1, e2⟩ := o.get h
  cases e2 with
  | own h1 h2 h3 => exact ⟨_, e1, q _ _ S H (.refl o.sh) (SqL.of h2) h3⟩
theorem eve_of {ds : List D} (h : EvO te ρ (.own ds)) : EvE te ρ ds := fun S0 H0 S H σ Q o q => h S0 H0 S H σ Q o fun v S' H' r' A e' xt hs _ _ => by
  subst e'
  cases hs with
  | own h1 h2 h3 => exact q _ _ S' H' xt (SqL.of h2) h3
theorem eve_d {ds : List D} (h : EvO te ρ (.d (.list ds))) : EvE te ρ ds := fun S0 H0 S H σ Q o q => h S0 H0 S H σ Q o fun v S' H' r' A e' xt hs _ _ => by
  subst e'
  cases hs with
  | d hd =>
    cases hd with
    | lst h1 h2 => exact q _ _ S' H' xt (xt.sh.seq h1) h2
theorem evt_e {ds : List D} (h : EvE te ρ ds) : EvT te ρ (.list ds) := fun S0 H0 S H σ Q o q => h S0 H0 S H σ Q o fun a vs S' H' xt h1 h2 => q _ S' H' xt (.lst h1 (dpa_mono xt.sh _ _ h2))
theorem evo_c {v : V} (h : vD v = some x) : EvO (tC v) ρ (.d x) := fun S0 H0 S H σ Q o q => fin_flat q (.refl o.sh) rfl h

/-! ### operators -/
theorem evo_I0 {g : Int → Int → V} {i j : Int} (ha : EvT ta ρ (.int i)) (hb : EvT tb ρ (.int j)) (hg : vD (g i j) = some x) : EvO (tOp (rI0 g) ta tb) ρ (.d x) := fun S0 H0 S H σ Q o q =>
  ha S0 H0 S H σ _ o fun v S1 H1 x1 h1 => hb S0 H0 S1 H1 σ _ (o.ext x1) fun u S2 H2 x2 h2 => by
    cases h1; cases h2
    exact ⟨i, j, rfl, rfl, fin_flat q (x1.trans x2) rfl hg⟩
theorem evo_I {C : Int → Int → Prop} {g : Int → Int → V} {i j : Int} (ha : EvT ta ρ (.int i)) (hb : EvT tb ρ (.int j)) (hc : C i j) (hg : vD (g i j) = some x) : EvO (tOp (rI C g) ta tb) ρ (.d x) := fun S0 H0 S H σ Q o q =>
  ha S0 H0 S H σ _ o fun v S1 H1 x1 h1 => hb S0 H0 S1 H1 σ _ (o.ext x1) fun u S2 H2 x2 h2 => by
    cases h1; cases h2
    exact ⟨i, j, rfl, rfl, hc, fin_flat q (x1.trans x2) rfl hg⟩
theorem evo_U {g : Int → V} {i : Int} (ha : EvT ta ρ (.int i)) (hg : vD (g i) = some x) : EvO (tUn (rU g) ta) ρ (.d x) := fun S0 H0 S H σ Q o q =>
  ha S0 H0 S H σ _ o fun v S1 H1 x1 h1 => by
    cases h1
    exact ⟨i, rfl, fin_flat q x1 rfl hg⟩
theorem evo_eqI {i j : Int} (ha : EvT ta ρ (.int i)) (hb : EvT tb ρ (.int j)) : EvO (tOp rEq ta tb) ρ (.d (.bool (decide (i = j)))) := fun S0 H0 S H σ Q o q =>
  ha S0 H0 S H σ _ o fun v S1 H1 x1 h1 => hb S0 H0 S1 H1 σ _ (o.ext x1) fun u S2 H2 x2 h2 => by
    cases h1; cases h2
    refine ⟨rfl, ?_⟩
    have e : decide (V.int i = V.int j) = decide (i = j) := by simp
    rw [e]
    exact fin_flat q (x1.trans x2) rfl rfl
theorem evo_neI {i j : Int} (ha : EvT ta ρ (.int i)) (hb : EvT tb ρ (.int j)) : EvO (tOp rNe ta tb) ρ (.d (.bool (!decide (i = j)))) := fun S0 H0 S H σ Q o q =>
  ha S0 H0 S H σ _ o fun v S1 H1 x1 h1 => hb S0 H0 S1 H1 σ _ (o.ext x1) fun u S2 H2 x2 h2 => by
    cases h1; cases h2
    refine ⟨rfl, ?_⟩
    have e : decide (V.int i = V.int j) = decide (i = j) := by simp
    rw [e]
    exact fin_flat q (x1.trans x2) rfl rfl
theorem evo_eqD (ha : EvT ta ρ d) (hb : EvT tb ρ e) (h1 : SeqAt.shaped d = true) (h2 : SeqAt.shaped e = true) : EvO (tOp (rEqD kf.K) ta tb) ρ (.d (.bool (PyData.eqv d e))) := fun S0 H0 S H σ Q o q =>
  ha S0 H0 S H σ _ o fun v S1 H1 x1 r1 => hb S0 H0 S1 H1 σ _ (o.ext x1) fun u S2 H2 x2 r2 =>
    ⟨d, e, rp_dp _ _ (noDc_lay _ (SeqAt.canLay_of_shaped h1)) (dp_mono x2.hh _ _ r1), rp_dp _ _ (noDc_lay _ (SeqAt.canLay_of_shaped h2)) r2, h1, h2, fin_flat q (x1.trans x2) rfl rfl⟩
theorem evo_neD (ha : EvT ta ρ d) (hb : EvT tb ρ e) (h1 : SeqAt.shaped d = true) (h2 : SeqAt.shaped e = true) : EvO (tOp (rNeD kf.K) ta tb) ρ (.d (.bool (!PyData.eqv d e))) := fun S0 H0 S H σ Q o q =>
  ha S0 H0 S H σ _ o fun v S1 H1 x1 r1 => hb S0 H0 S1 H1 σ _ (o.ext x1) fun u S2 H2 x2 r2 =>
    ⟨d, e, rp_dp _ _ (noDc_lay _ (SeqAt.canLay_of_shaped h1)) (dp_mono x2.hh _ _ r1), rp_dp _ _ (noDc_lay _ (SeqAt.canLay_of_shaped h2)) r2, h1, h2, fin_flat q (x1.trans x2) rfl rfl⟩
theorem evo_inD {ds : List D} (ha : EvT ta ρ d) (hb : EvT tb ρ (.list ds)) (h1 : SeqAt.shaped d = true) (h2 : SeqAt.shaped (.list ds) = true) : EvO (tOp (rInD kf.K) ta tb) ρ (.d (.bool (ds.any fun z => PyData.eqv z d))) := fun S0 H0 S H σ Q o q =>
  ha S0 H0 S H σ _ o fun v S1 H1 x1 r1 => hb S0 H0 S1 H1 σ _ (o.ext x1) fun u S2 H2 x2 r2 =>
    ⟨d, ds, rp_dp _ _ (noDc_lay _ (SeqAt.canLay_of_shaped h1)) (dp_mono x2.hh _ _ r1), rp_dp _ _ (noDc_lay _ (SeqAt.canLay_of_shaped h2)) r2, h1, h2, fin_flat q (x1.trans x2) rfl rfl⟩
def isN : D → Bool
  | .none => true
  | _ => false
theorem rp_isN {H : Hp} {v : V} (h : Rp H v d) : decide (v = .non) = isN d := by
  cases h <;> simp [isN]
theorem evo_isN (ha : EvT ta ρ d) : EvO (tOp (fun x y H Q => y = V.non ∧ Q (.bl (decide (x = .non))) H) ta (tC .non)) ρ (.d (.bool (isN d))) := fun S0 H0 S H σ Q o q =>
  ha S0 H0 S H σ _ o fun v S1 H1 x1 r1 => ⟨rfl, by rw [rp_isN r1]; exact fin_flat q x1 rfl rfl⟩
theorem evo_notN (ha : EvT ta ρ d) : EvO (tOp (fun x y H Q => y = V.non ∧ Q (.bl (!decide (x = .non))) H) ta (tC .non)) ρ (.d (.bool (!isN d))) := fun S0 H0 S H σ Q o q =>
  ha S0 H0 S H σ _ o fun v S1 H1 x1 r1 => ⟨rfl, by rw [rp_isN r1]; exact fin_flat q x1 rfl rfl⟩
theorem evo_chainI {g g' : Int → Int → Bool} {i j k : Int} (ha : EvT ta ρ (.int i)) (hb : EvT tb ρ (.int j)) (hc : EvT tc ρ (.int k)) :
    EvO (tChain (rI0 fun i j => .bl (g i j)) (rI0 fun i j => .bl (g' i j)) ta tb tc) ρ (.d (.bool (g i j && g' j k))) := fun S0 H0 S H σ Q o q =>
  ha S0 H0 S H σ _ o fun v S1 H1 x1 h1 => hb S0 H0 S1 H1 σ _ (o.ext x1) fun u S2 H2 x2 h2 => by
    cases h1; cases h2
    refine ⟨i, j, rfl, rfl, g i j, rfl, ?_⟩
    cases hg : g i j with
    | true =>
      refine iteT ?_
      refine hc S0 H0 S2 H2 σ _ (o.ext (x1.trans x2)) fun w S3 H3 x3 h3 => ?_
      cases h3
      refine ⟨j, k, rfl, rfl, ?_⟩
      rw [hg] at q
      exact fin_flat q ((x1.trans x2).trans x3) rfl rfl
    | false =>
      refine iteF ?_
      rw [hg] at q
      exact fin_flat q (x1.trans x2) rfl rfl

/-! ### subscripts, len -/
theorem evt_ixL {ds : List D} {n : Int} (ha : EvT ta ρ (.list ds)) (hb : EvT tb ρ (.int n)) (e : atI ds n = some d) : EvT (tOp (rIxL kf.K) ta tb) ρ d := fun S0 H0 S H σ Q o q =>
  ha S0 H0 S H σ _ o fun v S1 H1 x1 h1 => hb S0 H0 S1 H1 σ _ (o.ext x1) fun u S2 H2 x2 h2 => by
    cases h2
    cases h1 with
    | lst r1 r2 =>
      obtain ⟨v, e1, e2⟩ := atD r2 e
      exact ⟨_, _, n, v, rfl, rfl, x2.hh.seq r1, e1, q v S2 H2 (x1.trans x2) (dp_mono x2.hh _ _ e2)⟩
theorem evt_ixT {ds : List D} {n : Int} (ha : EvT ta ρ (.tuple ds)) (hb : EvT tb ρ (.int n)) (e : atI ds n = some d) : EvT (tOp (rIxT kf.K) ta tb) ρ d := fun S0 H0 S H σ Q o q =>
  ha S0 H0 S H σ _ o fun v S1 H1 x1 h1 => hb S0 H0 S1 H1 σ _ (o.ext x1) fun u S2 H2 x2 h2 => by
    cases h2
    cases h1 with
    | tup r1 r2 =>
      obtain ⟨v, e1, e2⟩ := atD r2 e
      exact ⟨_, _, n, v, rfl, rfl, .inl (.of (x2.hh _ _ r1)), e1, q v S2 H2 (x1.trans x2) (dp_mono x2.hh _ _ e2)⟩
theorem evo_ixE {ds : List D} {n : Int} (ha : EvE ta ρ ds) (hb : EvT tb ρ (.int n)) (e : atI ds n = some d) : EvO (tOp (rIxL kf.K) ta tb) ρ (.d d) := fun S0 H0 S H σ Q o q =>
  ha S0 H0 S H σ _ o fun a vs S1 H1 x1 r1 r2 => hb S0 H0 S1 H1 σ _ (o.ext x1) fun u S2 H2 x2 h2 => by
    cases h2
    obtain ⟨v, e1, e2⟩ := atD r2 e
    exact ⟨_, _, n, v, rfl, rfl, x2.hh.seq r1, e1, q v S2 H2 _ [] rfl (x1.trans x2) (.d (dp_mono x2.ss _ _ e2)) List.nodup_nil (fun a ha => by cases ha)⟩
theorem evo_ixT {ds : List D} {n : Int} (ha : EvO ta ρ (.d (.tuple ds))) (hb : EvT tb ρ (.int n)) (e : atI ds n = some d) : EvO (tOp (rIxT kf.K) ta tb) ρ (.d d) := fun S0 H0 S H σ Q o q =>
  ha S0 H0 S H σ _ o fun v S1 H1 r A er x1 h1 _ _ => hb S0 H0 S1 H1 σ _ (o.ext x1) fun u S2 H2 x2 h2 => by
    subst er
    cases h2
    cases h1 with
    | d h1 =>
      cases h1 with
      | tup r1 r2 =>
        obtain ⟨v, e1, e2⟩ := atD r2 e
        exact ⟨_, _, n, v, rfl, rfl, .inl (.of (x2.hh _ _ (x1.sh _ _ r1))), e1, q v S2 H2 _ [] rfl (x1.trans x2) (.d (dp_mono x2.ss _ _ e2)) List.nodup_nil (fun a ha => by cases ha)⟩
/-- an inner list of a fresh list of lists -/
theorem own2_get {S H : Hp} {bs : List Addr} {xss : List (List D)} (h : Own2 S H bs xss) : ∀ {j : Nat} {xs : List D}, xss[j]? = some xs → ∃ b vs, bs[j]? = some b ∧ S b = none ∧ H b = some (.lst vs) ∧ RpAll S vs xs := by
  induction h with
  | nil => intro j xs e; simp at e
  | @cons b vs xs bs xss h1 h2 h3 _ ih =>
    intro j ys e
    cases j with
    | zero => simp at e; subst e; exact ⟨b, vs, rfl, h1, h2, h3⟩
    | succ j => obtain ⟨b', vs', e1, e2⟩ := ih (j := j) (by simpa using e); exact ⟨b', vs', by simpa using e1, e2⟩
theorem own2_len {S H : Hp} {bs : List Addr} {xss : List (List D)} (h : Own2 S H bs xss) : bs.length = xss.length := by
  induction h with
  | nil => rfl
  | cons _ _ _ _ ih => rw [List.length_cons, List.length_cons, ih]
theorem atI_map {α β : Type} {f : α → β} {xs : List α} {i : Int} {v : α} (h : atI xs i = some v) : atI (xs.map f) i = some (f v) := by
  unfold atI at h ⊢
  rw [List.length_map]
  cases q : ixN xs.length i with
  | none => rw [q] at h; cases h
  | some j =>
    rw [q] at h
    show (xs.map f)[j]? = some (f v)
    rw [List.getElem?_map, show xs[j]? = some v from h]
    rfl
theorem evo_ix2 {xss : List (List D)} {xs : List D} {j : Nat} (ha : EvO ta ρ (.own2 xss)) (hb : EvT tb ρ (.int (j : Int))) (e : xss[j]? = some xs) : EvO (tOp (rIxL kf.K) ta tb) ρ (.own xs) := fun S0 H0 S H σ Q o q =>
  ha S0 H0 S H σ _ o fun v S1 H1 r A er x1 h1 nd fr => hb S0 H0 S1 H1 σ _ (o.ext x1) fun u S2 H2 x2 h2 => by
    subst er
    cases h2
    cases h1 with
    | @own2 a bs _ g1 g2 g3 =>
      obtain ⟨b, vs, e1, e2, e3, e4⟩ := own2_get g3 e
      have e5 : atI (bs.map V.ref) (j : Int) = some (.ref b) := atI_nat (by rw [List.getElem?_map, e1]; rfl)
      refine ⟨_, _, _, _, rfl, rfl, .inl (.of (x2.hh _ _ g2)), e5, q _ S2 H2 _ [b] rfl (x1.trans x2) (.own (x2.out e2 e3 fun _ z => by cases z) (x2.hh _ _ e3) (dpa_mono x2.ss _ _ e4)) (by simp) (fun c hc => ?_)⟩
      rw [List.mem_singleton.mp hc]
      exact fr b (List.mem_cons_of_mem _ (List.mem_of_getElem? e1))
theorem evo_lenL {ds : List D} (ha : EvT ta ρ (.list ds)) : EvO (tCB (fun xs H Q => ∃ p ys, xs = [V.ref p] ∧ (SqL kf.K H p ys ∨ SqT kf.K H p ys) ∧ Q (.int ys.length) H) (tCons ta tNil)) ρ (.d (.int (ds.length : Nat))) := fun S0 H0 S H σ Q o q =>
  ha S0 H0 S H σ _ o fun v S1 H1 x1 h1 => by
    cases h1 with
    | lst r1 r2 => exact ⟨_, _, rfl, .inl r1, by rw [dpa_length r2]; exact fin_flat q x1 rfl rfl⟩
theorem evo_lenT {ds : List D} (ha : EvT ta ρ (.tuple ds)) : EvO (tCB (fun xs H Q => ∃ p ys, xs = [V.ref p] ∧ (SqL kf.K H p ys ∨ SqT kf.K H p ys) ∧ Q (.int ys.length) H) (tCons ta tNil)) ρ (.d (.int (ds.length : Nat))) := fun S0 H0 S H σ Q o q =>
  ha S0 H0 S H σ _ o fun v S1 H1 x1 h1 => by
    cases h1 with
    | tup r1 r2 => exact ⟨_, _, rfl, .inr (.inl (.of r1)), by rw [dpa_length r2]; exact fin_flat q x1 rfl rfl⟩
theorem evo_max2 {i j : Int} (ha : EvT ta ρ (.int i)) (hb : EvT tb ρ (.int j)) : EvO (tCB (fun xs H Q => ∃ i j, xs = [V.int i, .int j] ∧ Q (.int (if j > i then j else i)) H) (tCons ta (tCons tb tNil))) ρ (.d (.int (max i j))) := fun S0 H0 S H σ Q o q =>
  ha S0 H0 S H σ _ o fun v S1 H1 x1 h1 => hb S0 H0 S1 H1 σ _ (o.ext x1) fun u S2 H2 x2 h2 => by
    cases h1; cases h2
    refine ⟨i, j, rfl, ?_⟩
    rw [show (if j > i then j else i) = max i j by split <;> omega]
    exact fin_flat q (x1.trans x2) rfl rfl
theorem evo_min2 {i j : Int} (ha : EvT ta ρ (.int i)) (hb : EvT tb ρ (.int j)) : EvO (tCB (fun xs H Q => ∃ i j, xs = [V.int i, .int j] ∧ Q (.int (if j < i then j else i)) H) (tCons ta (tCons tb tNil))) ρ (.d (.int (min i j))) := fun S0 H0 S H σ Q o q =>
  ha S0 H0 S H σ _ o fun v S1 H1 x1 h1 => hb S0 H0 S1 H1 σ _ (o.ext x1) fun u S2 H2 x2 h2 => by
    cases h1; cases h2
    refine ⟨i, j, rfl, ?_⟩
    rw [show (if j < i then j else i) = min i j by split <;> omega]
    exact fin_flat q (x1.trans x2) rfl rfl
theorem evo_intB {b : Bool} (ha : EvT ta ρ (.bool b)) : EvO (tCB (fun xs H Q => (∃ i, xs = [V.int i] ∧ Q (.int i) H) ∨ ∃ k, xs = [V.bl k] ∧ Q (.int (if k then 1 else 0)) H) (tCons ta tNil)) ρ (.d (.int (if b then 1 else 0))) := fun S0 H0 S H σ Q o q =>
  ha S0 H0 S H σ _ o fun v S1 H1 x1 h1 => by
    cases h1
    exact .inr ⟨b, rfl, fin_flat q x1 rfl rfl⟩

/-! ### kinds -/
def tyN : D → String
  | .none => "NoneType" | .bool _ => "bool" | .int _ => "int" | .str _ => "str" | .list _ => "list" | .tuple _ => "tuple" | .dict _ => "dict"
theorem rp_ty {H : Hp} {v : V} (h : Rp H v d) : TyX kf.K H v (.type (tyN d)) := by
  cases h with
  | non => exact .base .non
  | bl b => exact .base (.bl b)
  | int i => exact .base (.int i)
  | str x => exact .base (.str x)
  | lst r _ =>
    rcases r with (r | ⟨o, r⟩) | ⟨o, its, n, hk, hc, _⟩
    · exact .base (.lst r)
    · exact .base (.frz r)
    · exact .kList hk hc
  | tup r _ => exact .base (.tup r)
  | dcT r _ => exact .base (.dT r)
  | dcK r _ => exact .base (.dK r)
theorem evo_isi {T : String} {b : Bool} (ha : EvT ta ρ d) (h : kitB (tyN d) T = some b) : EvO (tCB (rIsi kf.K) (tCons ta (tCons (tC (.ty T)) tNil))) ρ (.d (.bool b)) := fun S0 H0 S H σ Q o q =>
  ha S0 H0 S H σ _ o fun v S1 H1 x1 h1 => ⟨v, .ty T, _, _, b, rfl, .ty T, rp_ty h1, kit_ty h, fin_flat q x1 rfl rfl⟩

/-! ### arguments, displays -/
theorem evl_nil : EvL tNil ρ [] := fun S0 H0 S H σ Q o q => q [] S H (.refl o.sh) .nil
theorem evl_cons {tr : TA} {xs : List D} (ha : EvO ta ρ (.d x)) (hr : EvL tr ρ xs) : EvL (tCons ta tr) ρ (x :: xs) := fun S0 H0 S H σ Q o q =>
  ha S0 H0 S H σ _ o fun v S1 H1 r A er x1 h1 _ _ => hr S0 H0 S1 H1 σ _ (o.ext x1) fun vs S2 H2 x2 h2 => by
    subst er
    cases h1 with
    | d h1 => exact q _ S2 H2 (x1.trans x2) (.cons (dp_mono x2.ss _ _ h1) h2)
theorem evlt_nil : EvLt tNil ρ [] := fun S0 H0 S H σ Q o q => q [] S H (.refl o.sh) .nil
theorem evlt_cons {tr : TA} {xs : List D} (ha : EvT ta ρ x) (hr : EvLt tr ρ xs) : EvLt (tCons ta tr) ρ (x :: xs) := fun S0 H0 S H σ Q o q =>
  ha S0 H0 S H σ _ o fun v S1 H1 x1 h1 => hr S0 H0 S1 H1 σ _ (o.ext x1) fun vs S2 H2 x2 h2 => q _ S2 H2 (x1.trans x2) (.cons (dp_mono x2.hh _ _ h1) h2)
theorem sz_of {n : Nat} (h : n ≤ 1000000) : n ≤ sizeLine := Nat.le_trans h (by decide)
theorem sz_lt {n : Nat} (h : n ≤ 1000000) : n < sizeLine := Nat.lt_of_le_of_lt h (by decide)
theorem evo_tup {tr : TA} {xs : List D} (h : EvL tr ρ xs) (hz : xs.length ≤ sizeLine) : EvO (tTup tr) ρ (.d (.tuple xs)) := fun S0 H0 S H σ Q o q =>
  h S0 H0 S H σ _ o fun vs S1 H1 x1 h1 => ⟨by rw [dpa_length h1]; exact hz, fun p hp =>
    q _ (upd S1 p (.tup vs)) _ _ [] rfl (x1.trans (.newS x1.sh hp)) (.d (.tup upd_same (dpa_mono (Xt.newS x1.sh hp).ss _ _ h1))) List.nodup_nil (fun a ha => by cases ha)⟩
theorem evt_tup {tr : TA} {xs : List D} (h : EvLt tr ρ xs) (hz : xs.length ≤ sizeLine) : EvT (tTup tr) ρ (.tuple xs) := fun S0 H0 S H σ Q o q =>
  h S0 H0 S H σ _ o fun vs S1 H1 x1 h1 => ⟨by rw [dpa_length h1]; exact hz, fun p hp =>
    q _ S1 _ (x1.trans (.new x1.sh hp)) (.tup upd_same (dpa_mono (Xt.new (o := .tup vs) x1.sh hp).hh _ _ h1))⟩
theorem evo_lst {tr : TA} {xs : List D} (h : EvL tr ρ xs) (hz : xs.length ≤ sizeLine) : EvO (tLst tr) ρ (.own xs) := fun S0 H0 S H σ Q o q =>
  h S0 H0 S H σ _ o fun vs S1 H1 x1 h1 => ⟨by rw [dpa_length h1]; exact hz, fun p hp =>
    q _ S1 _ _ [p] rfl (x1.trans (.new x1.sh hp)) (.own (x1.sh.free hp) upd_same h1) (by simp) (fun a ha => by rw [List.mem_singleton.mp ha]; exact x1.hh.free hp)⟩

/-! ### tests -/
theorem evb_test {b : Bool} (h : EvO te ρ (.d (.bool b))) : EvB (tTest te) ρ b := fun S0 H0 S H σ Q o q =>
  h S0 H0 S H σ _ o fun v S1 H1 r A er x1 h1 _ _ => by subst er; cases h1 with | d h1 => cases h1; exact ⟨b, rfl, q S1 H1 x1⟩
theorem evb_B {b : Bool} (h : EvO te ρ (.d (.bool b))) : EvB (tB te) ρ b := fun S0 H0 S H σ Q o q =>
  h S0 H0 S H σ _ o fun v S1 H1 r A er x1 h1 _ _ => by subst er; cases h1 with | d h1 => cases h1; exact ⟨b, rfl, q S1 H1 x1⟩
theorem evb_yes : EvB tYes ρ true := fun S0 H0 S H σ Q o q => q S H (.refl o.sh)
theorem evb_and {a b : Bool} (h1 : EvB t ρ a) (h2 : a = true → EvB u ρ b) : EvB (tAnd t u) ρ (a && b) := fun S0 H0 S H σ Q o q => h1 S0 H0 S H σ _ o fun S1 H1 x1 => by
  cases a with
  | true => exact iteT (h2 rfl S0 H0 S1 H1 σ _ (o.ext x1) fun S2 H2 x2 => q S2 H2 (x1.trans x2))
  | false => exact iteF (q S1 H1 x1)
theorem evb_or {a b : Bool} (h1 : EvB t ρ a) (h2 : a = false → EvB u ρ b) : EvB (tOr t u) ρ (a || b) := fun S0 H0 S H σ Q o q => h1 S0 H0 S H σ _ o fun S1 H1 x1 => by
  cases a with
  | true => exact iteT (q S1 H1 x1)
  | false => exact iteF (h2 rfl S0 H0 S1 H1 σ _ (o.ext x1) fun S2 H2 x2 => q S2 H2 (x1.trans x2))
theorem evb_not {a : Bool} (h1 : EvB t ρ a) : EvB (tNot t) ρ (!a) := fun S0 H0 S H σ Q o q => h1 S0 H0 S H σ _ o fun S1 H1 x1 => q S1 H1 x1
theorem evo_not {a : Bool} (h : EvO te ρ (.d (.bool a))) : EvO (tNotV te) ρ (.d (.bool (!a))) := fun S0 H0 S H σ Q o q =>
  h S0 H0 S H σ _ o fun v S1 H1 r A er x1 h1 _ _ => by subst er; cases h1 with | d h1 => cases h1; exact ⟨a, rfl, fin_flat q x1 rfl rfl⟩
theorem evo_and {a b : Bool} (h1 : EvO ta ρ (.d (.bool a))) (h2 : a = true → EvO tb ρ (.d (.bool b))) : EvO (tAndV ta tb) ρ (.d (.bool (a && b))) := fun S0 H0 S H σ Q o q =>
  h1 S0 H0 S H σ _ o fun v S1 H1 r A er x1 h1 _ _ => by
    subst er
    cases h1 with
    | d h1 =>
      cases h1
      refine ⟨a, rfl, ?_⟩
      cases a with
      | true => exact iteT (h2 rfl S0 H0 S1 H1 σ _ (o.ext x1) fun v S2 H2 r A er x2 h nd fr => q v S2 H2 r A er (x1.trans x2) h nd fun a ha => x1.hh.free (fr a ha))
      | false => exact iteF (fin_flat q x1 rfl rfl)
theorem evo_or {a b : Bool} (h1 : EvO ta ρ (.d (.bool a))) (h2 : a = false → EvO tb ρ (.d (.bool b))) : EvO (tOrV ta tb) ρ (.d (.bool (a || b))) := fun S0 H0 S H σ Q o q =>
  h1 S0 H0 S H σ _ o fun v S1 H1 r A er x1 h1 _ _ => by
    subst er
    cases h1 with
    | d h1 =>
      cases h1
      refine ⟨a, rfl, ?_⟩
      cases a with
      | true => exact iteT (fin_flat q x1 rfl rfl)
      | false => exact iteF (h2 rfl S0 H0 S1 H1 σ _ (o.ext x1) fun v S2 H2 r A er x2 h nd fr => q v S2 H2 r A er (x1.trans x2) h nd fun a ha => x1.hh.free (fr a ha))
theorem evp_if {b : Bool} (h : EvB t ρ b) (h1 : b = true → EvP ta ρ P) (h2 : b = false → EvP tb ρ P) : EvP (tIf t ta tb) ρ P := fun S0 H0 S H σ Q o q => h S0 H0 S H σ _ o fun S1 H1 x1 => by
  cases b with
  | true => exact iteT (h1 rfl S0 H0 S1 H1 σ _ (o.ext x1) fun v S2 H2 r A p x2 h nd fr => q v S2 H2 r A p (x1.trans x2) h nd fun a ha => x1.hh.free (fr a ha))
  | false => exact iteF (h2 rfl S0 H0 S1 H1 σ _ (o.ext x1) fun v S2 H2 r A p x2 h nd fr => q v S2 H2 r A p (x1.trans x2) h nd fun a ha => x1.hh.free (fr a ha))
theorem evb_truL {ds : List D} (ha : EvT ta ρ (.list ds)) : EvB (fun σ H Q => ta σ H fun x H' => ∃ k, TruV kf.K x H' k ∧ Q k H') ρ (!ds.isEmpty) := fun S0 H0 S H σ Q o q =>
  ha S0 H0 S H σ _ o fun v S1 H1 x1 h1 => by
    cases h1 with
    | @lst a xs _ r1 r2 =>
      refine ⟨_, .inl ⟨xs, r1, rfl⟩, ?_⟩
      have e : xs.isEmpty = ds.isEmpty := by
        have l := dpa_length r2
        cases xs <;> cases ds <;> simp at l ⊢
      rw [e]
      exact q S1 H1 x1

/-! ### calls -/
def spF (n : Nat) (pre : List D → Prop) (post : List D → Sl → Prop) : Sp := fun vs H Q _ => ∃ S ds, ds.length = n ∧ Same S H ∧ RpAll S vs ds ∧ pre ds ∧
  ∀ r v H' S' A, post ds r → Xt S H S' H' → SlOk S' H' (some v) r A → A.Nodup → (∀ a ∈ A, H a = none) → Q v H'
theorem spF_len {n : Nat} {pre : List D → Prop} {post : List D → Sl → Prop} {ps : List Str} (e : ps.length = n) : ∀ vs H Q E, spF n pre post vs H Q E → vs.length = ps.length := fun vs H Q E h => by
  obtain ⟨S, ds, h1, _, h2, _⟩ := h
  rw [e, ← h1]
  exact dpa_length h2
theorem evp_call {n : Nat} {pre : List D → Prop} {post : List D → Sl → Prop} {E : XK} {tr : TA} {ds : List D} (h : EvL tr ρ ds) (hn : ds.length = n) (hp : pre ds) : EvP (tCall (spF n pre post) [] E tr) ρ (post ds) := fun S0 H0 S H σ Q o q =>
  h S0 H0 S H σ _ o fun vs S1 H1 x1 h1 => by
    rw [List.append_nil]
    exact ⟨S1, ds, hn, x1.sh, h1, hp, fun r v H' S' A p x2 hs nd fr => q v S' H' r A p (x1.trans x2) hs nd fun a ha => x1.hh.free (fr a ha)⟩
theorem evo_call {n : Nat} {pre : List D → Prop} {post : List D → Sl → Prop} {E : XK} {tr : TA} {ds : List D} (h : EvL tr ρ ds) (hn : ds.length = n) (hp : pre ds) (hr : ∀ r', post ds r' → r' = r) : EvO (tCall (spF n pre post) [] E tr) ρ r :=
  evp_mono (evp_call h hn hp) hr
/-- all leaves flat -/
def Sl.flat : Sl → Prop
  | .no => False
  | .d x => PL.flat x = true
  | .own xs => ∀ x ∈ xs, PL.flat x = true
  | .own2 xss => ∀ xs ∈ xss, ∀ x ∈ xs, PL.flat x = true
  | .dct _ => True
theorem own2_flat {S S' H : Hp} {bs : List Addr} {xss : List (List D)} (h : Own2 S H bs xss) (f : ∀ xs ∈ xss, ∀ x ∈ xs, PL.flat x = true) (hs : ∀ b ∈ bs, S' b = none) : Own2 S' H bs xss := by
  induction h with
  | nil => exact .nil
  | cons h1 h2 h3 _ ih => exact .cons (hs _ List.mem_cons_self) h2 (dpa_flat (f _ List.mem_cons_self) h3) (ih (fun xs hx => f xs (List.mem_cons_of_mem _ hx)) fun b hb => hs b (List.mem_cons_of_mem _ hb))
theorem SlOk.flat {S S' H : Hp} {v : V} {A : List Addr} (h : SlOk S H (some v) r A) (f : r.flat) (hs : ∀ a ∈ A, S' a = none) : SlOk S' H (some v) r A := by
  cases h with
  | no => exact f.elim
  | d h => exact .d (dp_flat f h)
  | own h1 h2 h3 => exact .own (hs _ List.mem_cons_self) h2 (dpa_flat f h3)
  | own2 h1 h2 h3 => exact .own2 (hs _ List.mem_cons_self) h2 (own2_flat h3 f fun b hb => hs b (List.mem_cons_of_mem _ hb))
  | dct h1 h2 => exact .dct (hs _ List.mem_cons_self) h2
theorem evp_callT {n : Nat} {pre : List D → Prop} {post : List D → Sl → Prop} {E : XK} {tr : TA} {ds : List D} (h : EvLt tr ρ ds) (hn : ds.length = n) (hp : pre ds) (hf : ∀ r, post ds r → r.flat) : EvP (tCall (spF n pre post) [] E tr) ρ (post ds) := fun S0 H0 S H σ Q o q =>
  h S0 H0 S H σ _ o fun vs S1 H1 x1 h1 => by
    rw [List.append_nil]
    refine ⟨H1, ds, hn, Same.refl H1, h1, hp, fun r v H' S' A p x2 hs nd fr => q v S1 H' r A p (x1.trans ⟨x2.hh, Same.refl S1, x1.sh.trans x2.hh, fun _ _ e => .inl e⟩) (hs.flat (hf r p) fun a ha => x1.sh.free (fr a ha)) nd fun a ha => x1.hh.free (fr a ha)⟩
theorem evo_callT {n : Nat} {pre : List D → Prop} {post : List D → Sl → Prop} {E : XK} {tr : TA} {ds : List D} (h : EvLt tr ρ ds) (hn : ds.length = n) (hp : pre ds) (hr : ∀ r', post ds r' → r' = r) (hf : r.flat) : EvO (tCall (spF n pre post) [] E tr) ρ r :=
  evp_mono (evp_callT h hn hp fun r' p => by rw [hr r' p]; exact hf) hr
end
end PL

namespace PL
open PySem L2
variable [kf : KF]

/-! ### statements -/
structure DE where
  nx : List Sl → Prop
  rt : Sl → Prop
  bk : List Sl → Prop := fun _ => False
  ct : List Sl → Prop := fun _ => False
def Run (t : TS) (Dn : DE) (ρ : List Sl) : Prop := ∀ (S0 H0 S H : Hp) (σ : Sg) (E : Ends), Ok S0 H0 S H σ ρ →
  (∀ S' H' σ' ρ', Same S S' → Ok S0 H0 S' H' σ' ρ' → Dn.nx ρ' → E.nx σ' H') →
  (∀ v S' H' r A, Xt S0 H0 S' H' → SlOk S' H' (some v) r A → A.Nodup → (∀ a ∈ A, H0 a = none) → Dn.rt r → E.rt v H') →
  (∀ S' H' σ' ρ', Same S S' → Ok S0 H0 S' H' σ' ρ' → Dn.bk ρ' → E.bk σ' H') →
  (∀ S' H' σ' ρ', Same S S' → Ok S0 H0 S' H' σ' ρ' → Dn.ct ρ' → E.ct σ' H') → t E σ H

section
variable {ρ : List Sl} {ta tb tc te : TE} {c : TT} {t u : TS} {d x y : D} {r : Sl} {Dn : DE}

theorem run_seq (h : Run t { Dn with nx := Run u Dn } ρ) : Run (tSeq t u) Dn ρ := fun S0 H0 S H σ E o q1 q2 q3 q4 =>
  h S0 H0 S H σ { E with nx := u E } o (fun S' H' σ' ρ' ss o' n => n S0 H0 S' H' σ' E o' (fun S2 H2 σ2 ρ2 s2 => q1 S2 H2 σ2 ρ2 (ss.trans s2)) q2 (fun S2 H2 σ2 ρ2 s2 => q3 S2 H2 σ2 ρ2 (ss.trans s2)) fun S2 H2 σ2 ρ2 s2 => q4 S2 H2 σ2 ρ2 (ss.trans s2)) q2 q3 q4
theorem run_next (h : Dn.nx ρ) : Run tNext Dn ρ := fun S0 H0 S H σ E o q1 q2 q3 q4 => q1 S H σ ρ (Same.refl S) o h
theorem run_break (h : Dn.bk ρ) : Run tBreak Dn ρ := fun S0 H0 S H σ E o q1 q2 q3 q4 => q3 S H σ ρ (Same.refl S) o h
theorem run_cont (h : Dn.ct ρ) : Run tCont Dn ρ := fun S0 H0 S H σ E o q1 q2 q3 q4 => q4 S H σ ρ (Same.refl S) o h
theorem run_asgP {i : Nat} {P : Sl → Prop} (h : EvP te ρ P) (k : ∀ r, P r → Dn.nx (ρ.set i r)) : Run (tAsg te (gName i)) Dn ρ := fun S0 H0 S H σ E o q1 q2 q3 q4 =>
  h S0 H0 S H σ _ o fun v S' H' r A p xt hs nd fr => q1 S' H' _ _ xt.ss (o.set xt hs nd fr i) (k r p)
theorem run_asg {i : Nat} (h : EvO te ρ r) (k : Dn.nx (ρ.set i r)) : Run (tAsg te (gName i)) Dn ρ := run_asgP h fun r' e => by rw [e]; exact k
theorem run_if {b : Bool} (h : EvB c ρ b) (h1 : b = true → Run t Dn ρ) (h2 : b = false → Run u Dn ρ) : Run (tIfS c t u) Dn ρ := fun S0 H0 S H σ E o q1 q2 q3 q4 =>
  h S0 H0 S H σ _ o fun S1 H1 x1 => by
    cases b with
    | true => exact iteT (h1 rfl S0 H0 S1 H1 σ E (o.ext x1) (fun S2 H2 σ2 ρ2 s2 => q1 S2 H2 σ2 ρ2 (x1.ss.trans s2)) q2 (fun S2 H2 σ2 ρ2 s2 => q3 S2 H2 σ2 ρ2 (x1.ss.trans s2)) fun S2 H2 σ2 ρ2 s2 => q4 S2 H2 σ2 ρ2 (x1.ss.trans s2))
    | false => exact iteF (h2 rfl S0 H0 S1 H1 σ E (o.ext x1) (fun S2 H2 σ2 ρ2 s2 => q1 S2 H2 σ2 ρ2 (x1.ss.trans s2)) q2 (fun S2 H2 σ2 ρ2 s2 => q3 S2 H2 σ2 ρ2 (x1.ss.trans s2)) fun S2 H2 σ2 ρ2 s2 => q4 S2 H2 σ2 ρ2 (x1.ss.trans s2))
theorem run_retP {P : Sl → Prop} (h : EvP te ρ P) (k : ∀ r, P r → Dn.rt r) : Run (tRet te) Dn ρ := fun S0 H0 S H σ E o q1 q2 q3 q4 =>
  h S0 H0 S H σ _ o fun v S' H' r A p xt hs nd fr => q2 v S' H' r A (o.xt.trans xt) hs nd (fun a ha => o.xt.hh.free (fr a ha)) (k r p)
theorem run_ret (h : EvO te ρ r) (k : Dn.rt r) : Run (tRet te) Dn ρ := run_retP h fun r' e => by rw [e]; exact k
theorem run_retV {i : Nat} (h : ρ[i]? = some r) (hn : r ≠ .no) (k : Dn.rt r) : Run (tRet (tVar i)) Dn ρ := fun S0 H0 S H σ E o q1 q2 q3 q4 => by
  obtain ⟨A, he, nd, fr⟩ := o.env
  obtain ⟨v, A', e1, e2, e3, e4, _⟩ := he.pick nd h
  cases v with
  | none => cases e2; exact (hn rfl).elim
  | some v => exact ⟨v, e1, q2 v S H r A' o.xt e2 e3 (fun a ha => fr a (e4 a ha)) k⟩
theorem run_retN (k : Dn.rt (.d .none)) : Run tRetN Dn ρ := fun S0 H0 S H σ E o q1 q2 q3 q4 =>
  q2 .non S H _ [] o.xt (.d .non) List.nodup_nil (fun a ha => by cases ha) k
theorem run_drop {P : Sl → Prop} (h : EvP te ρ P) (k : Dn.nx ρ) : Run (tDrop te) Dn ρ := fun S0 H0 S H σ E o q1 q2 q3 q4 =>
  h S0 H0 S H σ _ o fun v S' H' r A p xt hs nd fr => q1 S' H' σ ρ xt.ss (o.ext xt) k
/-- a ghost step: another reading of the same slots -/
theorem run_ghost {ρ' : List Sl} (h : ∀ S0 H0 S H σ, Ok S0 H0 S H σ ρ → ∃ S', Same S S' ∧ Ok S0 H0 S' H σ ρ') (k : Run t Dn ρ') : Run t Dn ρ := fun S0 H0 S H σ E o q1 q2 q3 q4 => by
  obtain ⟨S', ss, o'⟩ := h S0 H0 S H σ o
  exact k S0 H0 S' H σ E o' (fun S2 H2 σ2 ρ2 s2 => q1 S2 H2 σ2 ρ2 (ss.trans s2)) q2 (fun S2 H2 σ2 ρ2 s2 => q3 S2 H2 σ2 ρ2 (ss.trans s2)) fun S2 H2 σ2 ρ2 s2 => q4 S2 H2 σ2 ρ2 (ss.trans s2)
theorem set_self {α : Type} {xs : List α} {i : Nat} {v : α} (h : xs[i]? = some v) : xs.set i v = xs := by
  apply List.ext_getElem?
  intro j
  by_cases e : i = j
  · subst e
    rw [List.getElem?_set_self (by have := List.getElem?_eq_some_iff.mp h; exact this.1), h]
  · rw [List.getElem?_set_ne e]
/-- an owned list is frozen -/
theorem ok_freeze {i : Nat} (h : ρ[i]? = some r) (e : r.toD = some x) : ∀ S0 H0 S H σ, Ok S0 H0 S H σ ρ → ∃ S', Same S S' ∧ Ok S0 H0 S' H σ (ρ.set i (.d x)) := fun S0 H0 S H σ o => by
  obtain ⟨B, he, nd, fr⟩ := o.env
  obtain ⟨v, A, e1, e2, e3, e4, e5⟩ := he.pick nd h
  cases v with
  | none => cases e2; cases e
  | some v =>
    obtain ⟨B', q1, q2, q3⟩ := e5 (S' := fz S H A) (H' := H) (v' := some v) (s' := .d x) (A' := []) (fz_same o.sh) (fun a ha na => ⟨(fz_out na).trans (he.at a ha).1, rfl⟩) (.d (fz_rp o.sh e2 e)) List.nodup_nil (fun a ha => by cases ha)
    rw [set_self e1] at q1
    refine ⟨fz S H A, fz_same o.sh, ⟨o.xt.hh, o.xt.ss.trans (fz_same o.sh), fz_sub o.sh, fun b u eb => ?_⟩, B', q1, q2, fun a ha => ?_⟩
    · by_cases hb : b ∈ A
      · exact .inr fun w hw => by rw [fr b (e4 b hb)] at hw; cases hw
      · rw [fz_out hb] at eb; exact o.xt.nw b u eb
    · rcases q3 a ha with z | z
      · cases z
      · exact fr a z
theorem run_freeze (i : Nat) (h : ρ[i]? = some r) (e : r.toD = some x) (k : Run t Dn (ρ.set i (.d x))) : Run t Dn ρ := run_ghost (ok_freeze h e) k
/-- a slot changed in place -/
theorem ok_write {i : Nat} {S0 H0 S H S' H' : Hp} {σ : Sg} {s' : Sl} {v : Option V} {B : List Addr} (o : Ok S0 H0 S H σ ρ)
    (x : Xt S0 H0 S' H') (e1 : σ[i]? = some v) (b : EnvOk S' H' (σ.set i v) (ρ.set i s') B) (nd : B.Nodup) (fr : ∀ a ∈ B, H0 a = none) : Ok S0 H0 S' H' σ (ρ.set i s') := by
  rw [set_self e1] at b
  exact ⟨x, B, b, nd, fr⟩
theorem upd_same' {S H : Hp} {a : Addr} {o : HO} (sh : Same S H) (n : S a = none) : Same S (upd H a o) := fun b u e => by
  rw [upd_ne (ne_of_none e n)]; exact sh b u e
/-- an owned list changed: at slot i stands xs; what is written is ys -/
theorem ok_set {i : Nat} {S0 H0 S H : Hp} {σ : Sg} {xs : List D} (o : Ok S0 H0 S H σ ρ) (h : ρ[i]? = some (.own xs)) :
    ∃ a vs, σ[i]? = some (some (.ref a)) ∧ H a = some (.lst vs) ∧ S a = none ∧ RpAll S vs xs ∧ ∀ {S' H' : Hp} {ws : List V} {ys : List D}, Xt S H S' H' → RpAll S' ws ys → Ok S0 H0 S' (upd H' a (.lst ws)) σ (ρ.set i (.own ys)) := by
  obtain ⟨B, he, nd, fr⟩ := o.env
  obtain ⟨v, A, e1, e2, e3, e4, e5⟩ := he.pick nd h
  cases e2 with
  | @own a vs _ h1 h2 h3 =>
    refine ⟨a, vs, e1, h2, h1, h3, fun {S' H' ws ys} xt hr => ?_⟩
    have hb : a ∈ B := e4 a List.mem_cons_self
    have sa : S' a = none := xt.out h1 h2 fun _ z => by cases z
    obtain ⟨B', q1, q2, q3⟩ := e5 (S' := S') (H' := upd H' a (.lst ws)) (v' := some (.ref a)) (s' := .own ys) (A' := [a]) xt.ss (fun b hbB nb => by
      have ne : b ≠ a := fun z => nb (by rw [z]; exact List.mem_cons_self)
      obtain ⟨g1, w, g2, g3⟩ := he.at b hbB
      refine ⟨xt.out g1 g2 g3, ?_⟩
      rw [upd_ne ne, g2]
      exact xt.hh b w g2) (.own sa upd_same hr) (by simp) (fun b hb' => .inl hb')
    have x0 := o.xt.trans xt
    refine ok_write o ⟨fun b u e => ?_, x0.ss, upd_same' x0.sh sa, x0.nw⟩ e1 q1 q2 fun b hb' => ?_
    · rw [upd_ne (ne_of_none e (fr a hb))]; exact x0.hh b u e
    · rcases q3 b hb' with z | z
      · rw [List.mem_singleton.mp z]; exact fr a hb
      · exact fr b z
theorem run_append {i : Nat} {xs : List D} (h : ρ[i]? = some (.own xs)) (he : EvO te ρ (.d x)) (hz : xs.length ≤ 1000000) (k : Dn.nx (ρ.set i (.own (xs ++ [x])))) :
    Run (tDrop (tBM kf.K "list" rAppend (tVar i) (tCons te tNil))) Dn ρ := fun S0 H0 S H σ E o q1 q2 q3 q4 => by
  obtain ⟨a, vs, e1, e2, e3, e4, e5⟩ := ok_set o h
  refine ⟨_, e1, .inl ⟨rfl, _, .inl (.inl e2)⟩, ?_⟩
  refine he S0 H0 S H σ _ o fun v S1 H1 r A er x1 h1 _ _ => ?_
  subst er
  cases h1 with
  | d h1 =>
    refine ⟨a, vs, v, rfl, rfl, x1.hh _ _ e2, sz_lt (by rw [dpa_length e4]; exact hz), ?_⟩
    exact q1 S1 _ σ _ x1.ss (e5 x1 (dpa_append (dpa_mono x1.ss _ _ e4) (.cons h1 .nil))) k
theorem run_setitem {i : Nat} {j : Nat} {xs : List D} (h : ρ[i]? = some (.own xs)) (he : EvO te ρ (.d x)) (hj : EvT tb ρ (.int (j : Int))) (hl : j < xs.length) (k : Dn.nx (ρ.set i (.own (xs.set j x)))) :
    Run (tAsg te (gSub (tVar i) tb rSetL)) Dn ρ := fun S0 H0 S H σ E o q1 q2 q3 q4 => by
  obtain ⟨a, vs, e1, e2, e3, e4, e5⟩ := ok_set o h
  refine he S0 H0 S H σ _ o fun v S1 H1 r A er x1 h1 _ _ => ?_
  subst er
  cases h1 with
  | d h1 =>
    refine ⟨_, e1, hj S0 H0 S1 H1 σ _ (o.ext x1) fun w S2 H2 x2 h2 => ?_⟩
    cases h2
    have hl' : j < vs.length := by rw [dpa_length e4]; exact hl
    have hx : ixN vs.length (j : Int) = some j := by
      unfold ixN
      simp [hl']
    refine ⟨a, vs, (j : Int), j, rfl, rfl, x2.hh _ _ (x1.hh _ _ e2), hx, ?_⟩
    exact q1 S2 _ σ _ (x1.ss.trans x2.ss) (e5 (x1.trans x2) (dpa_set (dp_mono x2.ss _ _ h1) j (dpa_mono (x1.trans x2).ss _ _ e4))) k
/-! ### targets -/
/-- data x stored to the target: the slots become ρ', those not at js are as they were -/
def TgD (g : TG) (x : D) (ρ ρ' : List Sl) (js : List Nat) : Prop := ∀ (S0 H0 S H : Hp) (σ : Sg) (Q : Sg → Hp → Prop) (v : V), Ok S0 H0 S H σ ρ → Rp S v x →
  (∀ σ', Ok S0 H0 S H σ' ρ' → σ'.length = σ.length → (∀ k, k ∉ js → σ'[k]? = σ[k]?) → Q σ' H) → g v σ H Q
theorem tg_name {i : Nat} : TgD (gName i) x ρ (ρ.set i (.d x)) [i] := fun S0 H0 S H σ Q v o hv q =>
  q _ (o.set (.refl o.sh) (.d hv) List.nodup_nil (fun a ha => by cases ha) i) (by rw [List.length_set]) fun k hk => by rw [List.getElem?_set_ne (fun z => hk (by rw [z]; exact List.mem_cons_self))]
def TgDs (g : TGs) (xs : List D) (ρ ρ' : List Sl) (js : List Nat) : Prop := ∀ (S0 H0 S H : Hp) (σ : Sg) (Q : Sg → Hp → Prop) (vs : List V), Ok S0 H0 S H σ ρ → RpAll S vs xs →
  (∀ σ', Ok S0 H0 S H σ' ρ' → σ'.length = σ.length → (∀ k, k ∉ js → σ'[k]? = σ[k]?) → Q σ' H) → g vs σ H Q
theorem tgs_nil : TgDs gNil [] ρ ρ [] := fun S0 H0 S H σ Q vs o hv q => by
  cases hv
  exact ⟨rfl, q σ o rfl fun _ _ => rfl⟩
theorem tgs_cons {g : TG} {gs : TGs} {xs : List D} {ρ1 ρ2 : List Sl} {js ks : List Nat} (h1 : TgD g x ρ ρ1 js) (h2 : TgDs gs xs ρ1 ρ2 ks) : TgDs (gCons g gs) (x :: xs) ρ ρ2 (js ++ ks) := fun S0 H0 S H σ Q vs o hv q => by
  cases hv with
  | cons hv ht =>
    refine ⟨_, _, rfl, h1 S0 H0 S H σ _ _ o hv fun σ1 o1 l1 k1 => h2 S0 H0 S H σ1 _ _ o1 ht fun σ2 o2 l2 k2 => q σ2 o2 (l2.trans l1) fun k hk => ?_⟩
    rw [k2 k (fun z => hk (List.mem_append_right _ z)), k1 k (fun z => hk (List.mem_append_left _ z))]
theorem tg_tup {gs : TGs} {xs : List D} {ρ' : List Sl} {js : List Nat} {n : Nat} (h : TgDs gs xs ρ ρ' js) (hn : xs.length = n) : TgD (gTup kf.K n gs) (.tuple xs) ρ ρ' js := fun S0 H0 S H σ Q v o hv q => by
  cases hv with
  | tup r1 r2 => exact ⟨_, _, rfl, .inl (.of (o.sh _ _ r1)), (dpa_length r2).trans hn, h S0 H0 S H σ Q _ o r2 q⟩
theorem tg_two {i j : Nat} {x y : D} : TgD (gTup kf.K 2 (gCons (gName i) (gCons (gName j) gNil))) (.tuple [x, y]) ρ ((ρ.set i (.d x)).set j (.d y)) ([i] ++ ([j] ++ [])) := tg_tup (tgs_cons tg_name (tgs_cons tg_name tgs_nil)) rfl
/-- a, b = e -/
theorem run_asgT {g : TG} {ρ' : List Sl} {js : List Nat} (h : EvO te ρ (.d x)) (ht : TgD g x ρ ρ' js) (k : Dn.nx ρ') : Run (tAsg te g) Dn ρ := fun S0 H0 S H σ E o q1 q2 q3 q4 =>
  h S0 H0 S H σ _ o fun v S' H' r A er xt hs _ _ => by
    subst er
    cases hs with
    | d hs => exact ht S0 H0 S' H' σ _ v (o.ext xt) hs fun σ' o' _ _ => q1 S' H' σ' ρ' xt.ss o' k

/-! ### what is walked -/
def JD (S : Hp) (J : It) (ds : List D) : Prop := ∀ S1 H1, Same S S1 → Same S1 H1 → J.stop ds.length H1 ∧ ∀ i x, ds[i]? = some x → J.go i H1 ∧ ∀ v H2, J.yld i H1 v H2 → ∃ S2, Xt S1 H1 S2 H2 ∧ Rp S2 v x
def IterD (wi : TI) (ρ : List Sl) (ds : List D) : Prop := ∀ (S0 H0 S H : Hp) (σ : Sg) (R : It → Hp → Prop), Ok S0 H0 S H σ ρ → (∀ J S' H', Xt S H S' H' → JD S' J ds → R J H') → wi σ H R
theorem jd_list {S : Hp} {a : Addr} {vs : List V} {ds : List D} (h : SqL kf.K S a vs) (hr : RpAll S vs ds) : JD S (Itl kf.K a) ds := fun S1 H1 s1 sh => by
  have h1 : SqL kf.K H1 a vs := (s1.trans sh).seq h
  refine ⟨⟨vs, h1, by rw [dpa_length hr]; exact Nat.le_refl _⟩, fun i x e => ?_⟩
  obtain ⟨v, e1, e2⟩ := dpa_get hr e
  refine ⟨⟨vs, v, h1, e1⟩, fun w H2 y => ?_⟩
  obtain ⟨rfl, y⟩ := y
  have : some w = some v := (y vs h1).symm.trans e1
  cases this
  exact ⟨S1, .refl sh, dp_mono s1 _ _ e2⟩
theorem it_list {ds : List D} (h : EvO te ρ (.d (.list ds))) : IterD (iList kf.K te) ρ ds := fun S0 H0 S H σ R o q =>
  h S0 H0 S H σ _ o fun v S' H' r A er xt hs _ _ => by
    subst er
    cases hs with
    | d hs =>
      cases hs with
      | lst r1 r2 => exact ⟨_, rfl, ⟨_, xt.sh.seq r1⟩, q _ S' H' xt (jd_list r1 r2)⟩
theorem jd_range {S : Hp} {lo : Int} {n : Nat} : JD S (Itr lo n) ((List.range n).map fun (i : Nat) => PyData.int (lo + (i : Int))) := fun S1 H1 s1 sh => by
  refine ⟨by show n ≤ _; simp, fun i x e => ?_⟩
  rw [List.getElem?_map] at e
  have hi : i < n := by
    cases q : (List.range n)[i]? with
    | none => rw [q] at e; cases e
    | some j => have := (List.getElem?_eq_some_iff.mp q).1; simpa using this
  rw [List.getElem?_range hi] at e
  cases e
  refine ⟨hi, fun v H2 y => ?_⟩
  obtain ⟨rfl, rfl⟩ := y
  exact ⟨S1, .refl sh, .int _⟩
theorem it_range1 {n : Int} (h : EvT te ρ (.int n)) (hn : n < 2 ^ 62) (hn0 : -(2 ^ 62) ≤ n) : IterD (iRng1 (tCons te tNil)) ρ ((List.range n.toNat).map fun (i : Nat) => PyData.int (0 + (i : Int))) := fun S0 H0 S H σ R o q =>
  h S0 H0 S H σ _ o fun v S' H' xt hs => by
    cases hs
    exact ⟨n, rfl, hn0, hn, q _ S' H' xt jd_range⟩
theorem it_range2 {m n : Int} (h : EvT ta ρ (.int m)) (h' : EvT tb ρ (.int n)) (hb : -(2 ^ 62) ≤ m ∧ m < 2 ^ 62 ∧ -(2 ^ 62) ≤ n ∧ n < 2 ^ 62) : IterD (iRng2 (tCons ta (tCons tb tNil))) ρ ((List.range (n - m).toNat).map fun (i : Nat) => PyData.int (m + (i : Int))) := fun S0 H0 S H σ R o q =>
  h S0 H0 S H σ _ o fun v S1 H1 x1 h1 => h' S0 H0 S1 H1 σ _ (o.ext x1) fun u S2 H2 x2 h2 => by
    cases h1; cases h2
    exact ⟨m, n, rfl, hb, q _ S2 H2 (x1.trans x2) jd_range⟩
theorem it_enum {ds : List D} (h : EvO te ρ (.d (.list ds))) : IterD (iEnum kf.K (tCons te tNil)) ρ (ds.zipIdx.map fun p => PyData.tuple [.int (p.2 : Nat), p.1]) := fun S0 H0 S H σ R o q =>
  h S0 H0 S H σ _ o fun v S' H' r A er xt hs _ _ => by
    subst er
    cases hs with
    | d hs =>
      cases hs with
      | @lst a vs _ r1 r2 =>
        refine ⟨a, vs, rfl, xt.sh.seq r1, q _ S' H' xt fun S1 H1 s1 sh => ?_⟩
        have h1 : SqL kf.K H1 a vs := (s1.trans sh).seq r1
        refine ⟨⟨vs, h1, by rw [dpa_length r2]; simp⟩, fun i x e => ?_⟩
        rw [List.getElem?_map, List.getElem?_zipIdx] at e
        cases qd : ds[i]? with
        | none => rw [qd] at e; cases e
        | some d =>
          rw [qd] at e
          simp at e
          subst e
          obtain ⟨v, e1, e2⟩ := dpa_get r2 qd
          refine ⟨⟨vs, v, h1, e1⟩, fun w H2 y => ?_⟩
          obtain ⟨T, x, rfl, nT, rfl, y⟩ := y
          have : some x = some v := (y vs h1).symm.trans e1
          cases this
          have xn := Xt.newS (o := .tup [.int (i : Nat), v]) sh nT
          exact ⟨_, xn, .tup upd_same (.cons (.int _) (.cons (dp_mono (s1.trans xn.ss) _ _ e2) .nil))⟩
theorem it_zip {ds es : List D} (h : EvO ta ρ (.d (.list ds))) (h' : EvO tb ρ (.d (.list es))) : IterD (iZip kf.K (tCons ta (tCons tb tNil))) ρ ((ds.zip es).map fun p => PyData.tuple [p.1, p.2]) := fun S0 H0 S H σ R o q =>
  h S0 H0 S H σ _ o fun v S1 H1 r A er x1 hs _ _ => h' S0 H0 S1 H1 σ _ (o.ext x1) fun u S2 H2 r' A' er' x2 hs' _ _ => by
    subst er; subst er'
    cases hs with
    | d hs =>
      cases hs' with
      | d hs' =>
        cases hs with
        | @lst a vs _ r1 r2 =>
          cases hs' with
          | @lst b ws _ p1 p2 =>
            refine ⟨a, b, vs, ws, rfl, (x2.ss.trans x2.sh).seq r1, x2.sh.seq p1, q _ S2 H2 (x1.trans x2) fun S3 H3 s3 sh => ?_⟩
            have h1 : SqL kf.K H3 a vs := (x2.ss.trans (s3.trans sh)).seq r1
            have h2 : SqL kf.K H3 b ws := (s3.trans sh).seq p1
            refine ⟨⟨vs, ws, h1, h2, by rw [dpa_length r2, dpa_length p2]; simp; omega⟩, fun i x e => ?_⟩
            rw [List.getElem?_map] at e
            cases qd : (ds.zip es)[i]? with
            | none => rw [qd] at e; cases e
            | some d =>
              rw [qd] at e
              simp at e
              subst e
              rw [List.getElem?_zip_eq_some] at qd
              obtain ⟨v, e1, e2⟩ := dpa_get r2 qd.1
              obtain ⟨w, g1, g2⟩ := dpa_get p2 qd.2
              refine ⟨⟨vs, ws, v, w, h1, h2, e1, g1⟩, fun z H4 y => ?_⟩
              obtain ⟨T, x, x', rfl, nT, rfl, y, y'⟩ := y
              have : some x = some v := (y vs h1).symm.trans e1
              cases this
              have : some x' = some w := (y' ws h2).symm.trans g1
              cases this
              have xn := Xt.newS (o := .tup [v, w]) sh nT
              exact ⟨_, xn, .tup upd_same (.cons (dp_mono (x2.ss.trans (s3.trans xn.ss)) _ _ e2) (.cons (dp_mono (s3.trans xn.ss) _ _ g2) .nil))⟩

/-- .. as long as the heap only grows -/
def JT (S H : Hp) (J : It) (ds : List D) : Prop := ∀ S1 H1, Xt S H S1 H1 → J.stop ds.length H1 ∧ ∀ i x, ds[i]? = some x → J.go i H1 ∧ ∀ v H2, J.yld i H1 v H2 → ∃ S2, Xt S1 H1 S2 H2 ∧ Rp S2 v x
def IterT (wi : TI) (ρ : List Sl) (ds : List D) : Prop := ∀ (S0 H0 S H : Hp) (σ : Sg) (R : It → Hp → Prop), Ok S0 H0 S H σ ρ → (∀ J S' H', Xt S H S' H' → JT S' H' J ds → R J H') → wi σ H R
theorem it_t {wi : TI} {ds : List D} (h : IterD wi ρ ds) : IterT wi ρ ds := fun S0 H0 S H σ R o q => h S0 H0 S H σ R o fun J S' H' xt j => q J S' H' xt fun S1 H1 x1 => j S1 H1 x1.ss x1.sh
theorem it_listE {ds : List D} (h : EvE te ρ ds) : IterT (iList kf.K te) ρ ds := fun S0 H0 S H σ R o q =>
  h S0 H0 S H σ _ o fun a vs S' H' xt r1 r2 => ⟨a, rfl, ⟨vs, r1⟩, q _ S' H' xt fun S1 H1 x1 => by
    have h1 : SqL kf.K H1 a vs := x1.hh.seq r1
    refine ⟨⟨vs, h1, by rw [dpa_length r2]; exact Nat.le_refl _⟩, fun i x e => ?_⟩
    obtain ⟨v, e1, e2⟩ := dpa_get r2 e
    refine ⟨⟨vs, v, h1, e1⟩, fun w H2 y => ?_⟩
    obtain ⟨rfl, y⟩ := y
    have : some w = some v := (y vs h1).symm.trans e1
    cases this
    exact ⟨S1, .refl x1.sh, dp_mono x1.ss _ _ e2⟩⟩
/-! ### loops -/
theorem run_for {wi : TI} {g : TG} {ds : List D} (hi : IterD wi ρ ds) (I : Nat → List Sl → Prop) (h0 : I 0 ρ)
    (hs : ∀ i x ρ', ds[i]? = some x → I i ρ' → ∃ ρ2 js, TgD g x ρ' ρ2 js ∧ Run t { nx := I (i + 1), ct := I (i + 1), bk := Dn.nx, rt := Dn.rt } ρ2) (hd : ∀ ρ', I ds.length ρ' → Dn.nx ρ') : Run (tFor wi g t) Dn ρ := fun S0 H0 S H σ E o q1 q2 q3 q4 =>
  hi S0 H0 S H σ _ o fun J S1 H1 x1 hJ => by
    refine ⟨fun i m σ' H' => m = ds.length - i ∧ i ≤ ds.length ∧ ∃ S' ρ', Same S1 S' ∧ Ok S0 H0 S' H' σ' ρ' ∧ I i ρ', ⟨_, rfl, Nat.zero_le _, S1, ρ, Same.refl _, o.ext x1, h0⟩, ?_⟩
    rintro i m σ' H' ⟨rfl, hi, S', ρ', s1, o', hI⟩
    obtain ⟨st, go⟩ := hJ S' H' s1 o'.sh
    by_cases hl : i < ds.length
    · obtain ⟨g1, g2⟩ := go i ds[i] (List.getElem?_eq_getElem hl)
      obtain ⟨ρ2, js, ht, hb⟩ := hs i ds[i] ρ' (List.getElem?_eq_getElem hl) hI
      refine .inr ⟨g1, fun σ2 H2 => ∃ S2 ρ2, Same S1 S2 ∧ Ok S0 H0 S2 H2 σ2 ρ2 ∧ I (i + 1) ρ2, fun σ2 H2 hN => ?_, fun v H2 hy => ?_⟩
      · exact ⟨_, by omega, rfl, hl, hN⟩
      · obtain ⟨S2, x2, hv⟩ := g2 v H2 hy
        refine ht S0 H0 S2 H2 σ' _ v (o'.ext x2) hv fun σ3 o3 _ _ => ?_
        refine hb S0 H0 S2 H2 σ3 _ o3 (fun S4 H4 σ4 ρ4 s4 o4 n4 => ⟨S4, ρ4, s1.trans (x2.ss.trans s4), o4, n4⟩) q2 (fun S4 H4 σ4 ρ4 s4 o4 n4 => q1 S4 H4 σ4 ρ4 (x1.ss.trans (s1.trans (x2.ss.trans s4))) o4 n4) (fun S4 H4 σ4 ρ4 s4 o4 n4 => ⟨S4, ρ4, s1.trans (x2.ss.trans s4), o4, n4⟩)
    · have e : i = ds.length := by omega
      subst e
      exact .inl ⟨st, q1 S' H' σ' ρ' (x1.ss.trans s1) o' (hd ρ' hI)⟩
theorem run_while (I : List Sl → Prop) (μ : List Sl → Nat) (h0 : I ρ)
    (hs : ∀ ρ', I ρ' → ∃ b, EvB c ρ' b ∧ (b = true → Run t { nx := fun ρ2 => I ρ2 ∧ μ ρ2 < μ ρ', ct := fun ρ2 => I ρ2 ∧ μ ρ2 < μ ρ', bk := Dn.nx, rt := Dn.rt } ρ') ∧ (b = false → Dn.nx ρ')) : Run (tWhile c t) Dn ρ := fun S0 H0 S H σ E o q1 q2 q3 q4 => by
  refine ⟨fun m σ' H' => ∃ S' ρ', m = μ ρ' ∧ Same S S' ∧ Ok S0 H0 S' H' σ' ρ' ∧ I ρ', ⟨_, S, ρ, rfl, Same.refl S, o, h0⟩, ?_⟩
  rintro m σ' H' ⟨S', ρ', rfl, s1, o', hI⟩
  obtain ⟨b, hb, h1, h2⟩ := hs ρ' hI
  refine hb S0 H0 S' H' σ' _ o' fun S2 H2 x2 => ?_
  cases b with
  | true =>
    refine iteT ⟨fun σ3 H3 => ∃ S3 ρ3, Same S S3 ∧ Ok S0 H0 S3 H3 σ3 ρ3 ∧ I ρ3 ∧ μ ρ3 < μ ρ', fun σ3 H3 hN => ?_, ?_⟩
    · obtain ⟨S3, ρ3, a1, a2, a3, a4⟩ := hN
      exact ⟨_, a4, S3, ρ3, rfl, a1, a2, a3⟩
    · refine h1 rfl S0 H0 S2 H2 σ' _ (o'.ext x2) (fun S4 H4 σ4 ρ4 s4 o4 n4 => ⟨S4, ρ4, s1.trans (x2.ss.trans s4), o4, n4⟩) q2 (fun S4 H4 σ4 ρ4 s4 o4 n4 => q1 S4 H4 σ4 ρ4 (s1.trans (x2.ss.trans s4)) o4 n4) (fun S4 H4 σ4 ρ4 s4 o4 n4 => ⟨S4, ρ4, s1.trans (x2.ss.trans s4), o4, n4⟩)
  | false => exact iteF (q1 S2 H2 σ' ρ' (s1.trans x2.ss) (o'.ext x2) (h2 rfl))
end
end PL

namespace PL
open PySem L2
variable [kf : KF]

/-! ### comprehensions -/
def wipeS (ρ : List Sl) : List Nat → List Sl
  | [] => ρ
  | v :: vs => (wipeS ρ vs).set v .no
theorem Ok.wipe {S0 H0 S H : Hp} {σ : Sg} {ρ : List Sl} (o : Ok S0 H0 S H σ ρ) : ∀ vs : List Nat, Ok S0 H0 S H (L2.wipe σ vs) (wipeS ρ vs)
  | [] => o
  | v :: vs => (Ok.wipe o vs).set (.refl o.sh) .no List.nodup_nil (fun a ha => by cases ha) v
theorem wipe_get (σ : Sg) (k : Nat) : ∀ vs : List Nat, (L2.wipe σ vs)[k]? = if k ∈ vs then (if k < σ.length then some none else none) else σ[k]?
  | [] => by simp [L2.wipe]
  | v :: vs => by
    unfold L2.wipe
    have ih := wipe_get σ k vs
    have hl := L2.wipe_length σ vs
    by_cases e : v = k
    · subst e
      rw [if_pos List.mem_cons_self]
      by_cases h : v < σ.length
      · rw [if_pos h, List.getElem?_set_self (by omega)]
      · rw [if_neg h]
        exact List.getElem?_eq_none (by rw [List.length_set]; omega)
    · rw [List.getElem?_set_ne e, ih]
      by_cases h : k ∈ vs
      · rw [if_pos h, if_pos (List.mem_cons_of_mem _ h)]
      · rw [if_neg h, if_neg (fun z => by rcases List.mem_cons.mp z with z | z; exact e z.symm; exact h z)]
theorem wipe_eq {σ σ' : Sg} {vs : List Nat} (hl : σ'.length = (L2.wipe σ vs).length) (h : ∀ k, k ∉ vs → σ'[k]? = (L2.wipe σ vs)[k]?) : L2.wipe σ' vs = L2.wipe σ vs := by
  apply List.ext_getElem?
  intro k
  have l2 := L2.wipe_length σ vs
  rw [wipe_get, wipe_get]
  by_cases hk : k ∈ vs
  · rw [if_pos hk, if_pos hk, show σ'.length = σ.length by omega]
  · rw [if_neg hk, if_neg hk, h k hk, wipe_get, if_neg hk]
/-- the picked ones -/
def pick {α : Type} (n : Nat) (f : Nat → Bool) (v : Nat → α) : List α := ((List.range n).filter f).map v
theorem pick_zero {α : Type} (f : Nat → Bool) (v : Nat → α) : pick 0 f v = [] := rfl
theorem pick_yes {α : Type} {n : Nat} {f : Nat → Bool} {v : Nat → α} (h : f n = true) : pick (n + 1) f v = pick n f v ++ [v n] := by
  unfold pick
  rw [List.range_succ, List.filter_append, List.map_append, List.filter_cons, if_pos h]
  rfl
theorem pick_no {α : Type} {n : Nat} {f : Nat → Bool} {v : Nat → α} (h : f n = false) : pick (n + 1) f v = pick n f v := by
  unfold pick
  rw [List.range_succ, List.filter_append, List.map_append, List.filter_cons, if_neg (by rw [h]; decide)]
  show _ ++ [] = _
  rw [List.append_nil]
theorem pick_len {α : Type} (n : Nat) (f : Nat → Bool) (v : Nat → α) : (pick n f v).length ≤ n := by
  unfold pick
  rw [List.length_map]
  have h := List.length_filter_le f (List.range n)
  rw [List.length_range] at h
  exact h
theorem pick_all {α : Type} (n : Nat) (v : Nat → α) : pick n (fun _ => true) v = (List.range n).map v := by
  unfold pick
  rw [List.filter_eq_self.mpr (fun _ _ => rfl)]

section
variable {ρ : List Sl} {ta tb tc te : TE} {c : TT} {t u : TS} {d x y : D} {r : Sl} {Dn : DE}

/-- [te for g in wi if tt], its items stable -/
theorem evo_lcT {wi : TI} {g : TG} {tt : TT} {vs : List Nat} {ds : List D} (hi : IterT wi ρ ds) (f : Nat → Bool) (v : Nat → D)
    (hs : ∀ i x, ds[i]? = some x → ∃ ρ2 js, (∀ j ∈ js, j ∈ vs) ∧ TgD g x (wipeS ρ vs) ρ2 js ∧ EvB tt ρ2 (f i) ∧ (f i = true → EvO te ρ2 (.d (v i)))) (hz : ds.length ≤ 1000000) :
    EvO (tLc wi g tt te vs) ρ (.own (pick ds.length f v)) := fun S0 H0 S H σ Q o q =>
  hi S0 H0 S H σ _ o fun J S1 H1 x1 hJ Dl hD => by
    have o1 := o.ext x1
    refine ⟨fun i m H' => m = ds.length - i ∧ i ≤ ds.length ∧ ∃ S', Xt S1 H1 S' H' ∧ S' Dl = none ∧ ∃ acc, H' Dl = some (.lst acc) ∧ RpAll S' acc (pick i f v),
      ⟨_, rfl, Nat.zero_le _, S1, .new o1.sh hD, o1.sh.free hD, [], upd_same, .nil⟩, ?_⟩
    rintro i m H' ⟨rfl, hi, S', x2, sD, acc, hA, hR⟩
    obtain ⟨st, go⟩ := hJ S' H' x2
    by_cases hl : i < ds.length
    · obtain ⟨g1, g2⟩ := go i ds[i] (List.getElem?_eq_getElem hl)
      obtain ⟨ρ2, js, hjs, ht, hb, he⟩ := hs i ds[i] (List.getElem?_eq_getElem hl)
      refine .inr ⟨g1, fun H2 => ∃ S2, Xt S1 H1 S2 H2 ∧ S2 Dl = none ∧ ∃ acc, H2 Dl = some (.lst acc) ∧ RpAll S2 acc (pick (i + 1) f v), fun H2 hN => ⟨_, by omega, rfl, hl, hN⟩, fun w H2 hy => ?_⟩
      obtain ⟨S2, x3, hv⟩ := g2 w H2 hy
      have o2 := (o1.wipe vs).ext (x2.trans x3)
      have dK : ∀ {S4 H4 : Hp}, Xt S' H' S4 H4 → S4 Dl = none ∧ H4 Dl = some (.lst acc) := fun x4 => ⟨x4.out sD hA (fun _ z => by cases z), x4.hh _ _ hA⟩
      refine ht S0 H0 S2 H2 (L2.wipe σ vs) _ w o2 hv fun σ3 o3 l3 k3 => ⟨wipe_eq l3 fun k hk => k3 k fun z => hk (hjs k z), ?_⟩
      refine hb S0 H0 S2 H2 σ3 _ o3 fun S3 H3 x4 => ?_
      have xa := x3.trans x4
      cases hf : f i with
      | false =>
        refine iteF ⟨S3, x2.trans xa, (dK xa).1, acc, (dK xa).2, ?_⟩
        rw [pick_no hf]
        exact dpa_mono xa.ss _ _ hR
      | true =>
        refine iteT (he hf S0 H0 S3 H3 σ3 _ (o3.ext x4) fun y S4 H4 r A er x5 h1 _ _ => ?_)
        subst er
        cases h1 with
        | d h1 =>
          have xb := xa.trans x5
          have xc := x2.trans xb
          refine ⟨acc, (dK xb).2, sz_lt (by rw [dpa_length hR]; exact Nat.le_trans (pick_len _ _ _) (by omega)), S4, ⟨fun b u e => ?_, xc.ss, upd_same' xc.sh (dK xb).1, xc.nw⟩, (dK xb).1, _, upd_same, ?_⟩
          · rw [upd_ne (ne_of_none e hD)]; exact xc.hh b u e
          · rw [pick_yes hf]
            exact dpa_append (dpa_mono xb.ss _ _ hR) (.cons h1 .nil)
    · have e : i = ds.length := by omega
      subst e
      exact .inl ⟨st, q _ S' H' _ [Dl] rfl (x1.trans x2) (.own sD hA hR) (by simp) fun a ha => by rw [List.mem_singleton.mp ha]; exact x1.hh.free hD⟩
theorem own2_append {S H : Hp} {bs : List Addr} {xss : List (List D)} {b : Addr} {vs : List V} {xs : List D} (h : Own2 S H bs xss) (h1 : S b = none) (h2 : H b = some (.lst vs)) (h3 : RpAll S vs xs) : Own2 S H (bs ++ [b]) (xss ++ [xs]) := by
  induction h with
  | nil => exact .cons h1 h2 h3 .nil
  | cons a1 a2 a3 _ ih => exact .cons a1 a2 a3 ih
theorem Own2.ext {S H S' H' : Hp} {bs : List Addr} {xss : List (List D)} (h : Own2 S H bs xss) (x : Xt S H S' H') : Own2 S' H' bs xss :=
  h.keep x.ss fun a ha => by
    obtain ⟨h1, u, h2, h3⟩ := h.at a ha
    exact ⟨x.out h1 h2 h3, by rw [h2]; exact x.hh a u h2⟩
/-- .. its items fresh lists -/
theorem evo_lc2T {wi : TI} {g : TG} {tt : TT} {vs : List Nat} {ds : List D} (hi : IterT wi ρ ds) (f : Nat → Bool) (v : Nat → List D)
    (hs : ∀ i x, ds[i]? = some x → ∃ ρ2 js, (∀ j ∈ js, j ∈ vs) ∧ TgD g x (wipeS ρ vs) ρ2 js ∧ EvB tt ρ2 (f i) ∧ (f i = true → EvO te ρ2 (.own (v i)))) (hz : ds.length ≤ 1000000) :
    EvO (tLc wi g tt te vs) ρ (.own2 (pick ds.length f v)) := fun S0 H0 S H σ Q o q =>
  hi S0 H0 S H σ _ o fun J S1 H1 x1 hJ Dl hD => by
    have o1 := o.ext x1
    refine ⟨fun i m H' => m = ds.length - i ∧ i ≤ ds.length ∧ ∃ S', Xt S1 H1 S' H' ∧ S' Dl = none ∧ ∃ bs, H' Dl = some (.lst (bs.map V.ref)) ∧ Own2 S' H' bs (pick i f v) ∧ bs.Nodup ∧ Dl ∉ bs ∧ ∀ b ∈ bs, H1 b = none,
      ⟨_, rfl, Nat.zero_le _, S1, .new o1.sh hD, o1.sh.free hD, [], upd_same, .nil, List.nodup_nil, by simp, by simp⟩, ?_⟩
    rintro i m H' ⟨rfl, hi, S', x2, sD, bs, hA, hR, hN, hDb, hB⟩
    obtain ⟨st, go⟩ := hJ S' H' x2
    by_cases hl : i < ds.length
    · obtain ⟨g1, g2⟩ := go i ds[i] (List.getElem?_eq_getElem hl)
      obtain ⟨ρ2, js, hjs, ht, hb, he⟩ := hs i ds[i] (List.getElem?_eq_getElem hl)
      refine .inr ⟨g1, fun H2 => ∃ S2, Xt S1 H1 S2 H2 ∧ S2 Dl = none ∧ ∃ bs, H2 Dl = some (.lst (bs.map V.ref)) ∧ Own2 S2 H2 bs (pick (i + 1) f v) ∧ bs.Nodup ∧ Dl ∉ bs ∧ ∀ b ∈ bs, H1 b = none, fun H2 hN => ⟨_, by omega, rfl, hl, hN⟩, fun w H2 hy => ?_⟩
      obtain ⟨S2, x3, hv⟩ := g2 w H2 hy
      have o2 := (o1.wipe vs).ext (x2.trans x3)
      have dK : ∀ {S4 H4 : Hp}, Xt S' H' S4 H4 → S4 Dl = none ∧ H4 Dl = some (.lst (bs.map V.ref)) := fun x4 => ⟨x4.out sD hA (fun _ z => by cases z), x4.hh _ _ hA⟩
      refine ht S0 H0 S2 H2 (L2.wipe σ vs) _ w o2 hv fun σ3 o3 l3 k3 => ⟨wipe_eq l3 fun k hk => k3 k fun z => hk (hjs k z), ?_⟩
      refine hb S0 H0 S2 H2 σ3 _ o3 fun S3 H3 x4 => ?_
      have xa := x3.trans x4
      cases hf : f i with
      | false =>
        refine iteF ⟨S3, x2.trans xa, (dK xa).1, bs, (dK xa).2, ?_, hN, hDb, hB⟩
        rw [pick_no hf]
        exact hR.ext xa
      | true =>
        refine iteT (he hf S0 H0 S3 H3 σ3 _ (o3.ext x4) fun y S4 H4 r A er x5 h1 nd fr => ?_)
        subst er
        cases h1 with
        | @own b ws _ p1 p2 p3 =>
          have xb := xa.trans x5
          have xc := x2.trans xb
          have f3 : H3 b = none := fr b List.mem_cons_self
          have bD : b ≠ Dl := fun z => by rw [z, (dK xa).2] at f3; cases f3
          have bN : b ∉ bs := fun z => by
            obtain ⟨_, u, hu, _⟩ := (hR.ext xa).at b z
            rw [f3] at hu; cases hu
          refine ⟨bs.map V.ref, (dK xb).2, sz_lt (by rw [List.length_map, own2_len hR]; exact Nat.le_trans (pick_len _ _ _) (by omega)), S4, ⟨fun b u e => ?_, xc.ss, upd_same' xc.sh (dK xb).1, xc.nw⟩, (dK xb).1, bs ++ [b], ?_, ?_, ?_, ?_, ?_⟩
          · rw [upd_ne (ne_of_none e hD)]; exact xc.hh b u e
          · rw [upd_same, List.map_append]; rfl
          · rw [pick_yes hf]
            refine (own2_append (hR.ext xb) p1 p2 p3).keep (Same.refl _) fun a ha => ⟨((own2_append (hR.ext xb) p1 p2 p3).at a ha).1, upd_ne fun z => ?_⟩
            rcases List.mem_append.mp ha with y | y
            · exact hDb (z ▸ y)
            · exact bD ((List.mem_singleton.mp y).symm.trans z)
          · refine List.nodup_append.mpr ⟨hN, by simp, fun a ha c hc e => ?_⟩
            subst e
            exact bN (List.mem_singleton.mp hc ▸ ha)
          · intro z
            rcases List.mem_append.mp z with y | y
            · exact hDb y
            · exact bD (List.mem_singleton.mp y).symm
          · intro a ha
            rcases List.mem_append.mp ha with y | y
            · exact hB a y
            · rw [List.mem_singleton.mp y]
              exact (x2.trans xa).hh.free f3
    · have e : i = ds.length := by omega
      subst e
      exact .inl ⟨st, q _ S' H' _ (Dl :: bs) rfl (x1.trans x2) (.own2 sD hA hR) (List.nodup_cons.mpr ⟨hDb, hN⟩) fun a ha => by
        rcases List.mem_cons.mp ha with y | y
        · rw [y]; exact x1.hh.free hD
        · exact x1.hh.free (hB a y)⟩

theorem evo_lc {wi : TI} {g : TG} {tt : TT} {vs : List Nat} {ds : List D} (hi : IterD wi ρ ds) (f : Nat → Bool) (v : Nat → D)
    (hs : ∀ i x, ds[i]? = some x → ∃ ρ2 js, (∀ j ∈ js, j ∈ vs) ∧ TgD g x (wipeS ρ vs) ρ2 js ∧ EvB tt ρ2 (f i) ∧ (f i = true → EvO te ρ2 (.d (v i)))) (hz : ds.length ≤ 1000000) :
    EvO (tLc wi g tt te vs) ρ (.own (pick ds.length f v)) := evo_lcT (it_t hi) f v hs hz
theorem evo_lc2 {wi : TI} {g : TG} {tt : TT} {vs : List Nat} {ds : List D} (hi : IterD wi ρ ds) (f : Nat → Bool) (v : Nat → List D)
    (hs : ∀ i x, ds[i]? = some x → ∃ ρ2 js, (∀ j ∈ js, j ∈ vs) ∧ TgD g x (wipeS ρ vs) ρ2 js ∧ EvB tt ρ2 (f i) ∧ (f i = true → EvO te ρ2 (.own (v i)))) (hz : ds.length ≤ 1000000) :
    EvO (tLc wi g tt te vs) ρ (.own2 (pick ds.length f v)) := evo_lc2T (it_t hi) f v hs hz
/-! ### whole lists -/
theorem evo_cat {xs ys : List D} (ha : EvE ta ρ xs) (hb : EvE tb ρ ys) (hz : xs.length + ys.length ≤ 1000000) : EvO (tOp (rCatR kf.K) ta tb) ρ (.own (xs ++ ys)) := fun S0 H0 S H σ Q o q =>
  ha S0 H0 S H σ _ o fun a vs S1 H1 x1 r1 r2 => hb S0 H0 S1 H1 σ _ (o.ext x1) fun b ws S2 H2 x2 p1 p2 =>
    ⟨a, b, vs, ws, rfl, rfl, x2.hh.seq r1, p1, sz_of (by rw [dpa_length r2, dpa_length p2]; exact hz), fun p hp =>
      q _ S2 _ _ [p] rfl ((x1.trans x2).trans (.new x2.sh hp)) (.own (x2.sh.free hp) upd_same (dpa_append (dpa_mono x2.ss _ _ r2) p2)) (by simp) fun c hc => by rw [List.mem_singleton.mp hc]; exact (x1.trans x2).hh.free hp⟩
/-- list * int: rRep wants the list tracked; a written one is -/
theorem dpa_rep {H : Hp} {vs : List V} {ds : List D} (h : RpAll H vs ds) : ∀ n : Nat, RpAll H (List.replicate n vs).flatten (List.replicate n ds).flatten
  | 0 => .nil
  | n + 1 => by
    rw [List.replicate_succ, List.replicate_succ, List.flatten_cons, List.flatten_cons]
    exact dpa_append h (dpa_rep h n)
theorem evo_rep {xs : List D} {k : Int} (ha : EvO ta ρ (.own xs)) (hb : EvT tb ρ (.int k)) (hk : k ≤ 1000) (hk0 : -1000000 ≤ k) (hz : xs.length ≤ 1000) : EvO (tOp rRep ta tb) ρ (.own (List.replicate k.toNat xs).flatten) := fun S0 H0 S H σ Q o q =>
  ha S0 H0 S H σ _ o fun v S1 H1 r A er x1 h1 nd fr => hb S0 H0 S1 H1 σ _ (o.ext x1) fun u S2 H2 x2 h2 => by
    subst er
    cases h2
    cases h1 with
    | @own a vs _ p1 p2 p3 =>
      have hl : vs.length * k.toNat ≤ 1000000 := by
        rw [dpa_length p3]
        have h1 : k.toNat ≤ 1000 := by omega
        calc xs.length * k.toNat ≤ 1000 * 1000 := Nat.mul_le_mul hz h1
          _ = 1000000 := rfl
      refine ⟨a, k, vs, rfl, rfl, x2.hh _ _ p2, by omega, by omega, sz_of hl, fun p hp => ?_⟩
      exact q _ S2 _ _ [p] rfl ((x1.trans x2).trans (.new x2.sh hp)) (.own (x2.sh.free hp) upd_same (dpa_rep (dpa_mono x2.ss _ _ p3) _)) (by simp) fun c hc => by rw [List.mem_singleton.mp hc]; exact (x1.trans x2).hh.free hp
/-- a slice of data -/
def cutD (xs : List D) (lo hi : Option Int) : List D := (xs.drop (HT.sIx xs.length 0 lo)).take (HT.sIx xs.length xs.length hi - HT.sIx xs.length 0 lo)
def EvS (to : TO) (ρ : List Sl) (i : Option Int) : Prop := ∀ (S0 H0 S H : Hp) (σ : Sg) (Q : Option Int → Hp → Prop), Ok S0 H0 S H σ ρ → (∀ S' H', Xt S H S' H' → Q i H') → to σ H Q
theorem evs_none : EvS tNoPart ρ none := fun S0 H0 S H σ Q o q => q S H (.refl o.sh)
theorem evs_some {i : Int} (h : EvT te ρ (.int i)) : EvS (tPart te) ρ (some i) := fun S0 H0 S H σ Q o q => h S0 H0 S H σ _ o fun v S1 H1 x1 h1 => by
  cases h1
  exact ⟨i, rfl, q S1 H1 x1⟩
theorem evo_slice {xs : List D} {tl th : TO} {lo hi : Option Int} (ha : EvE ta ρ xs) (hl : EvS tl ρ lo) (hh : EvS th ρ hi) : EvO (tSl (rSlL kf.K) ta tl th) ρ (.own (cutD xs lo hi)) := fun S0 H0 S H σ Q o q =>
  ha S0 H0 S H σ _ o fun a vs S1 H1 x1 r1 r2 => hl S0 H0 S1 H1 σ _ (o.ext x1) fun S2 H2 x2 => hh S0 H0 S2 H2 σ _ (o.ext (x1.trans x2)) fun S3 H3 x3 => by
    have xa := x2.trans x3
    refine ⟨a, vs, rfl, xa.hh.seq r1, fun p hp => ?_⟩
    have e : RpAll S3 (cutV vs lo hi) (cutD xs lo hi) := by
      unfold cutV cutD
      rw [dpa_length r2]
      exact dpa_take _ (dpa_drop _ (dpa_mono xa.ss _ _ r2))
    exact q _ S3 _ _ [p] rfl ((x1.trans xa).trans (.new x3.sh hp)) (.own (x3.sh.free hp) upd_same e) (by simp) fun c hc => by rw [List.mem_singleton.mp hc]; exact (x1.trans xa).hh.free hp
/-- list(xs) -/
theorem evo_listOf {xs : List D} (ha : EvE ta ρ xs) : EvO (tCB (fun xs H Q => ∃ p ys, xs = [V.ref p] ∧ (SqL kf.K H p ys ∨ SqT kf.K H p ys) ∧ ∀ l, H l = none → Q (.ref l) (upd H l (.lst ys))) (tCons ta tNil)) ρ (.own xs) := fun S0 H0 S H σ Q o q =>
  ha S0 H0 S H σ _ o fun a vs S1 H1 x1 r1 r2 => ⟨a, vs, rfl, .inl r1, fun p hp =>
    q _ S1 _ _ [p] rfl (x1.trans (.new x1.sh hp)) (.own (x1.sh.free hp) upd_same r2) (by simp) fun c hc => by rw [List.mem_singleton.mp hc]; exact x1.hh.free hp⟩
/-- list(range(n)) -/
def intsD (lo : Int) (n : Nat) : List D := (List.range n).map fun (i : Nat) => PyData.int (lo + (i : Int))
theorem dpa_rg {H : Hp} (a b : Int) : RpAll H (rgV a b) (intsD a (b - a).toNat) := by
  have gen : ∀ l : List Nat, RpAll H (l.map fun i => V.int (a + (i : Nat))) (l.map fun (i : Nat) => PyData.int (a + (i : Int))) := by
    intro l
    induction l with
    | nil => exact .nil
    | cons x l ih => exact .cons (.int _) ih
  exact gen _
theorem evo_listRg {n : Int} (ha : EvT ta ρ (.int n)) (h0 : 0 ≤ n) (h1 : n ≤ 1000000) : EvO (tLstRg (tRg1 ta)) ρ (.own (intsD 0 n.toNat)) := fun S0 H0 S H σ Q o q =>
  ha S0 H0 S H σ _ o fun v S1 H1 x1 h => by
    cases h
    refine ⟨n, rfl, RgOk.of_le (by omega) (by omega) (by omega) h0, fun p hp => ?_⟩
    have e := dpa_rg (H := S1) 0 n
    rw [show (n - 0).toNat = n.toNat by rw [Int.sub_zero]] at e
    exact q _ S1 _ _ [p] rfl (x1.trans (.new x1.sh hp)) (.own (x1.sh.free hp) upd_same e) (by simp) fun c hc => by rw [List.mem_singleton.mp hc]; exact x1.hh.free hp
/-- min(xs), all(xs) -/
theorem evo_minE {ns : List Int} {m : Int} (ha : EvT ta ρ (.list (ns.map .int))) (hm : m ∈ ns) (hl : ∀ y ∈ ns, m ≤ y) : EvO (tCB (rMin kf.K) (tCons ta tNil)) ρ (.d (.int m)) := fun S0 H0 S H σ Q o q =>
  ha S0 H0 S H σ _ o fun v S1 H1 x1 h => by
    cases h with
    | lst r1 r2 =>
      have e := dpa_ints r2
      subst e
      refine ⟨_, ns, rfl, r1, List.length_pos_of_mem hm, fun m' h1 h2 => ?_⟩
      have : m' = m := Int.le_antisymm (h2 m hm) (hl m' h1)
      rw [this]
      exact fin_flat q x1 rfl rfl
theorem evo_allE {bs : List Bool} (ha : EvT ta ρ (.list (bs.map .bool))) : EvO (tCB (rAll kf.K) (tCons ta tNil)) ρ (.d (.bool (bs.all id))) := fun S0 H0 S H σ Q o q =>
  ha S0 H0 S H σ _ o fun v S1 H1 x1 h => by
    cases h with
    | lst r1 r2 =>
      have e := dpa_bools r2
      subst e
      exact ⟨_, bs, rfl, r1, fin_flat q x1 rfl rfl⟩
theorem evo_sortI {ns : List Int} (ha : EvT ta ρ (.list (ns.map .int))) : EvP (tCB (rSortedI kf.K) (tCons ta tNil)) ρ (fun r => ∃ ms : List Int, ms.Perm ns ∧ ms.Pairwise (· ≤ ·) ∧ r = .own (ms.map .int)) := fun S0 H0 S H σ Q o q =>
  ha S0 H0 S H σ _ o fun v S1 H1 x1 h => by
    cases h with
    | lst r1 r2 =>
      have e := dpa_ints r2
      subst e
      exact ⟨_, ns, rfl, r1, fun ms p h1 h2 hp => q _ S1 _ _ [p] ⟨ms, h1, h2, rfl⟩ (x1.trans (.new x1.sh hp)) (.own (x1.sh.free hp) upd_same (dpa_of_ints ms)) (by simp) fun c hc => by rw [List.mem_singleton.mp hc]; exact x1.hh.free hp⟩
end
end PL

namespace PL
open PySem L2
variable [kf : KF]
open PyProof.Rows (seqObj)

/-! ### sorted(d), the keys pairs of ints -/
def pairAt (H : Hp) : Value → Int × Int
  | .ref q => match H q with
    | some (.tup [.int i, .int j]) => (i, j)
    | _ => (0, 0)
  | _ => (0, 0)
theorem pairAt_of {H : Hp} {q : Addr} {i j : Int} (e : H q = some (.tup [.int i, .int j])) : pairAt H (.ref q) = (i, j) := by
  simp [pairAt, e]
def addrOf : Value → Addr
  | .ref q => q
  | _ => 0
/-- rising by the first, then by the second -/
def Lex (ps : List (Int × Int)) : Prop := ps.Pairwise fun p q => p.1 < q.1 ∨ (p.1 = q.1 ∧ p.2 ≤ q.2)
def rSortedDT : List V → Hp → VK → Prop := fun vs H Q => ∃ (a : Addr) (ks : List (Int × Int)), vs = [V.ref a] ∧ H a = some (.dT (ks.map keyOf)) ∧
  ∀ (ps : List (Addr × (Int × Int))) (p : Addr), Lex (ps.map (·.2)) → (ps.map (·.2)).Perm ks → (∀ q ∈ ps, H q.1 = some (.tup [.int q.2.1, .int q.2.2])) → H p = none → Q (.ref p) (upd H p (.lst (ps.map fun q => V.ref q.1)))
theorem keys_at {H : Hp} : ∀ {ks : List (Int × Int)} {xs : List (List Key × Addr × Value)}, Paired (fun (p : List Key × V) (q : List Key × Addr × Value) => p.1 = q.1 ∧ H q.2.1 = some (.tup (p.1.map kV)) ∧ RelV p.2 q.2.2) (ks.map keyOf) xs →
    xs.map (fun x => pairAt H (.ref x.2.1)) = ks ∧ ∀ x ∈ xs, ∃ i j, H x.2.1 = some (.tup [.int i, .int j])
  | [], _, h => by
    cases h
    exact ⟨rfl, fun x hx => by cases hx⟩
  | k :: ks, _, h => by
    rw [List.map_cons] at h
    cases h with
    | cons a t =>
      rename_i x xs
      obtain ⟨h1, h2⟩ := keys_at t
      have e : H x.2.1 = some (.tup [.int k.1, .int k.2]) := a.2.1
      refine ⟨?_, fun y hy => ?_⟩
      · rw [List.map_cons, h1]
        rw [pairAt_of e]
      · rcases List.mem_cons.mp hy with rfl | hy
        · exact ⟨_, _, e⟩
        · exact h2 y hy
theorem acc_keys {es : Array DictEntry} {xs : List (List Key × Addr × Value)} {knd : List Key × Addr × Value → DictEntry} (he : es.toList = xs.map knd) (hk : ∀ x, (knd x).key = .ref x.2.1) {acc : Array Value} (hacc : ItemsOf (fun i v => ∃ hi : i < es.size, v = es[i].key) acc es.size) :
    acc.toList = xs.map fun x => Value.ref x.2.1 := by
  obtain ⟨h1, h2⟩ := hacc
  have hl : es.size = xs.length := by rw [← Array.length_toList, he, List.length_map]
  apply List.ext_getElem?
  intro j
  by_cases hj : j < xs.length
  · have hj2 : j < acc.toList.length := by rw [Array.length_toList, h1, hl]; exact hj
    rw [List.getElem?_eq_getElem hj2, List.getElem?_map, List.getElem?_eq_getElem hj]
    obtain ⟨hi, e⟩ := h2 j acc.toList[j] (by rw [← Array.getElem?_toList, List.getElem?_eq_getElem hj2])
    rw [e]
    have e2 : es[j] = knd xs[j] := by
      have e3 : es.toList[j]'(by rw [Array.length_toList]; exact hi) = knd xs[j] := by
        have : es.toList[j]? = some (knd xs[j]) := by rw [he, List.getElem?_map, List.getElem?_eq_getElem hj]; rfl
        rw [List.getElem?_eq_getElem (by rw [Array.length_toList]; exact hi)] at this
        exact Option.some.inj this
      rw [← e3, Array.getElem_toList]
    rw [e2, hk]
    rfl
  · rw [List.getElem?_eq_none (by rw [Array.length_toList, h1, hl]; omega), List.getElem?_eq_none (by rw [List.length_map]; omega)]
theorem cr_sortedDT {X : Cx} (hc : X.calm = true) : CallR X (.builtin "sorted") rSortedDT := by
  intro pins s σ H vs us Q I r h
  obtain ⟨a, ks, rfl, ha, q⟩ := h
  obtain ⟨u, rfl, ru⟩ := vals1 r
  obtain rfl : u = Value.ref a := ru
  obtain ⟨hz, lo, xs, pr, o, es, ep, ho, hx, hdt, he, nd⟩ := I.hok a _ ha
  obtain ⟨k1, k2⟩ := keys_at pr
  have hl : xs.length = es.size := by rw [← Array.length_toList, he, List.length_map]
  have hz' : es.size ≤ sizeLine := by
    have := Paired.length pr
    rw [← hl, ← this]; exact hz
  refine Calls.call_function_entry PyProof.Rows.kind_sorted PyProof.Rows.plain_sorted PyProof.Rows.entry_sorted (PyProof.Rows.args_sorted1 _) ?_
  unfold Builtin.«sorted»
  refine wpAny_bind (m := checkCount "sorted" 1 1 _) (wpAny_pure ?_)
  refine wpAny_bind (PySem.W.kdu_collect (A := X.A.in1) (KdlSrc.rawDict (es := es) (ep := ep) lo) (I.ok.hd hc) ⟨o, ho, hx, hdt⟩ hz' fun h' tk acc hk hacc => ?_)
  have eacc : acc.toList = xs.map fun x => Value.ref x.2.1 := acc_keys he (fun _ => rfl) hacc
  have I1 : Inv X pins σ H { s with heap := h', toks := tk } := I.kept hk
  have hal : acc.toList.length ≤ sizeLine := by rw [eacc, List.length_map, hl]; exact hz'
  refine wpAny_bind (wpAny_newList ?_ hal)
  have hoL : (h'.push (seqObj "list" acc.toList.toArray 0)).get? h'.objs.size = some (seqObj "list" acc.toList.toArray 0) := Heap.get?_push_size _ rfl
  show wpAny _ _ _ _ _ { s with heap := h'.push (seqObj "list" acc.toList.toArray 0), toks := tk }
  have hp : ∀ v ∈ acc.toList, Srt.IsPair (h'.push (seqObj "list" acc.toList.toArray 0)) v (pairAt H v).1 (pairAt H v).2 := fun v hv => by
    rw [eacc] at hv
    obtain ⟨x, hx, rfl⟩ := List.mem_map.mp hv
    obtain ⟨i, j, hq⟩ := k2 x hx
    obtain ⟨_, its2, r2, o2, ho2, hc2, n2, hd2⟩ := I1.hok _ _ hq
    obtain ⟨u1, u2, rfl, ri, rj⟩ := vals2 r2
    obtain ⟨t1, rfl⟩ := ri
    obtain ⟨t2, rfl⟩ := rj
    have e : pairAt H (.ref x.2.1) = (i, j) := pairAt_of hq
    rw [e]
    exact ⟨x.2.1, o2, t1, t2, n2, rfl, Heap.get?_push_of_some _ ho2, hc2, hd2⟩
  refine wpAny_bind (wpAny_holding (wpAny_call_entry PyProof.Rows.slot_list_sort ⟨_, hoL, rfl⟩ PyProof.Rows.entry_list_sort
    (SrtO.list_sort_ord (s := { s with heap := h'.push (seqObj "list" acc.toList.toArray 0), toks := tk }) (SrtO.swo_lex (pairAt H)) hoL hal (fun h2 => SrtO.pairs_sortableO (by omega) hp fun o e => ?_) fun out h1 h2 => ⟨_, rfl, ?_⟩) (PyProof.Rows.args_list_sort _)))
  · have e' : some o = some (seqObj "list" acc.toList.toArray 0) := e.symm.trans hoL
    cases e'
    intro c
    exact absurd (Value.type.inj c) (by decide)
  · obtain ⟨e', he'⟩ := PyProof.Rows.sortedHeap_at (vs := acc.toList) (out := out.toArray) hoL
    have hmem : ∀ v ∈ out, ∃ x ∈ xs, v = .ref x.2.1 := fun v hv => by
      have := h2.perm.mem_iff.mp hv
      rw [eacc] at this
      obtain ⟨x, hx, rfl⟩ := List.mem_map.mp this
      exact ⟨x, hx, rfl⟩
    have hval : Vals (out.map fun v => V.ref (addrOf v)) out := by
      have gen : ∀ l : List Value, (∀ v ∈ l, ∃ x ∈ xs, v = .ref x.2.1) → Vals (l.map fun v => V.ref (addrOf v)) l := by
        intro l
        induction l with
        | nil => intro _; exact .nil
        | cons v l ih =>
          intro hm
          obtain ⟨x, _, rfl⟩ := hm v List.mem_cons_self
          exact .cons rfl (ih fun w hw => hm w (List.mem_cons_of_mem _ hw))
      exact gen out hmem
    have hlo : out.length ≤ sizeLine := by rw [h2.perm.length_eq]; exact hal
    have hps : (out.map fun v => (addrOf v, pairAt H v)).map (fun q => V.ref q.1) = out.map fun v => V.ref (addrOf v) := by rw [List.map_map]; rfl
    have hps2 : (out.map fun v => (addrOf v, pairAt H v)).map (·.2) = out.map (pairAt H) := by rw [List.map_map]; rfl
    have fresh := I1.hok.fresh (Nat.le_refl h'.objs.size)
    have qq := q (out.map fun v => (addrOf v, pairAt H v)) h'.objs.size ?_ ?_ ?_ fresh
    · rw [hps] at qq
      refine wpAny_pure ⟨_, rfl, .ref h'.objs.size, upd H h'.objs.size (.lst (out.map fun v => V.ref (addrOf v))), I1.laid (t' := tk) (fun b u e => ?_) (Nat.le_refl _)
        (show ObjOk X.prog X.w _ _ _ (.lst (out.map fun v => V.ref (addrOf v))) from ⟨by rw [List.length_map]; exact hlo, out, e', hval, he'⟩), rfl, qq⟩
      have hb : b < h'.objs.size := Heap.lt_size e
      rw [PyProof.Rows.sortedHeap_old (Nat.ne_of_lt hb) (by rw [PyProof.Rows.size_push']; exact Nat.lt_succ_of_lt hb)]
      exact Heap.get?_push_of_some _ e
    · rw [hps2]
      refine List.pairwise_map.mpr (List.Pairwise.imp (fun {v u} z => ?_) h1)
      have := SrtO.lexB_no.mp z
      omega
    · rw [hps2]
      refine (h2.perm.map (pairAt H)).trans ?_
      rw [eacc, List.map_map]
      exact List.Perm.of_eq k1
    · intro p hp
      obtain ⟨v, hv, rfl⟩ := List.mem_map.mp hp
      obtain ⟨x, hx, rfl⟩ := hmem v hv
      obtain ⟨i, j, hq⟩ := k2 x hx
      show H x.2.1 = some (.tup [.int (pairAt H (.ref x.2.1)).1, .int (pairAt H (.ref x.2.1)).2])
      have e : pairAt H (.ref x.2.1) = (i, j) := pairAt_of hq
      rw [e, hq]
def pairD (p : Int × Int) : D := .tuple [.int p.1, .int p.2]
section
variable {ρ : List Sl} {ta tb tc te : TE} {c : TT} {t u : TS} {d x y : D} {r : Sl} {Dn : DE}
theorem evp_sortedDT {i : Nat} {ks : List (Int × Int)} (h : ρ[i]? = some (.dct ks)) : EvP (tCB rSortedDT (tCons (tVar i) tNil)) ρ (fun r => ∃ ps : List (Int × Int), Lex ps ∧ ps.Perm ks ∧ r = .own (ps.map pairD)) := fun S0 H0 S H σ Q o q => by
  obtain ⟨v, A, e1, e2⟩ := o.get h
  cases e2 with
  | @dct a _ h1 h2 =>
    refine ⟨_, e1, a, ks, rfl, h2, fun ps p q1 q2 q3 hp => ?_⟩
    let S' : Hp := fun b => if b ∈ ps.map (·.1) then H b else S b
    have tupAt : ∀ b ∈ ps.map (·.1), ∃ i j, H b = some (.tup [.int i, .int j]) := fun b hb => by
      obtain ⟨z, hz, rfl⟩ := List.mem_map.mp hb
      exact ⟨_, _, q3 z hz⟩
    have xt : Xt S H S' H := ⟨Same.refl H, fun b o' e => by
        by_cases hb : b ∈ ps.map (·.1)
        · show (if b ∈ ps.map (·.1) then H b else S b) = some o'
          rw [if_pos hb]; exact o.sh b o' e
        · show (if b ∈ ps.map (·.1) then H b else S b) = some o'
          rw [if_neg hb]; exact e, fun b o' e => by
        by_cases hb : b ∈ ps.map (·.1)
        · have e : (if b ∈ ps.map (·.1) then H b else S b) = some o' := e
          rw [if_pos hb] at e; exact e
        · have e : (if b ∈ ps.map (·.1) then H b else S b) = some o' := e
          rw [if_neg hb] at e; exact o.sh b o' e, fun b o' e => by
        by_cases hb : b ∈ ps.map (·.1)
        · right
          intro u hu
          obtain ⟨i, j, e3⟩ := tupAt b hb
          rw [hu] at e3
          exact ⟨_, Option.some.inj e3⟩
        · have e : (if b ∈ ps.map (·.1) then H b else S b) = some o' := e
          rw [if_neg hb] at e; exact .inl e⟩
    have rp : ∀ l : List (Addr × (Int × Int)), (∀ z ∈ l, z ∈ ps) → RpAll S' (l.map fun q => V.ref q.1) ((l.map (·.2)).map pairD) := by
      intro l
      induction l with
      | nil => intro _; exact .nil
      | cons z l ih =>
        intro hm
        have hz := hm z List.mem_cons_self
        refine .cons (.tup (?_ : S' z.1 = some (.tup [.int z.2.1, .int z.2.2])) (.cons (.int _) (.cons (.int _) .nil))) (ih fun w hw => hm w (List.mem_cons_of_mem _ hw))
        show (if z.1 ∈ ps.map (·.1) then H z.1 else S z.1) = _
        rw [if_pos (List.mem_map.mpr ⟨z, hz, rfl⟩), q3 z hz]
    have hpS : S' p = none := xt.sh.free hp
    exact q _ S' _ _ [p] ⟨_, q1, q2, rfl⟩ (xt.trans (.new xt.sh hp)) (.own hpS upd_same (rp ps fun _ z => z)) (by simp) fun b hb => by rw [List.mem_singleton.mp hb]; exact hp
theorem evo_dct : EvO tDNewT ρ (.dct []) := fun S0 H0 S H σ Q o q => fun p hp => q _ S _ _ [p] rfl (.new o.sh hp) (.dct (o.sh.free hp) upd_same) (by simp) fun b hb => by rw [List.mem_singleton.mp hb]; exact hp
def insK (ks : List (Int × Int)) (k : Int × Int) : List (Int × Int) := if k ∈ ks then ks else ks ++ [k]
theorem keyOf_inj {a b : Int × Int} (h : (keyOf a).1 = (keyOf b).1) : a = b := by
  cases a; cases b
  simp [keyOf] at h
  simp [h]
theorem put_keyOf (ks : List (Int × Int)) (k : Int × Int) : putK (ks.map keyOf) (keyOf k).1 (.bl true) = (insK ks k).map keyOf := by
  unfold putK insK
  by_cases h : k ∈ ks
  · rw [if_pos h, if_pos]
    · rw [List.map_map]
      refine List.map_congr_left fun a _ => ?_
      show (if (keyOf a).1 = (keyOf k).1 then ((keyOf a).1, V.bl true) else keyOf a) = keyOf a
      split
      · rfl
      · rfl
    · rw [List.any_map, List.any_eq_true]
      exact ⟨k, h, by simp⟩
  · rw [if_neg h, if_neg]
    · rw [List.map_append]
      rfl
    · rw [List.any_map, List.any_eq_true]
      rintro ⟨a, ha, e⟩
      have := keyOf_inj (of_decide_eq_true e)
      subst this
      exact h ha
theorem run_dput {i : Nat} {ks : List (Int × Int)} {k : Int × Int} (h : ρ[i]? = some (.dct ks)) (hk : EvO tb ρ (.d (pairD k))) (hz : ks.length ≤ 1000000) (kk : Dn.nx (ρ.set i (.dct (insK ks k)))) :
    Run (sDPut (tVar i) tb (tC (.bl true))) Dn ρ := fun S0 H0 S H σ E o q1 q2 q3 q4 => by
  obtain ⟨B, he, nd, fr⟩ := o.env
  obtain ⟨v, A, e1, e2, e3, e4, e5⟩ := he.pick nd h
  cases e2 with
  | @dct a _ h1 h2 =>
    refine ⟨_, e1, hk S0 H0 S H σ _ o fun w S1 H1 r A1 er x1 g1 _ _ => ?_⟩
    subst er
    cases g1 with
    | d g1 =>
      cases g1 with
      | @tup b us _ g1 g2 =>
        have e : us = [.int k.1, .int k.2] := by
          cases g2 with
          | cons a1 a2 => cases a2 with
            | cons b1 b2 => cases a1; cases b1; cases b2; rfl
        subst e
        have hb : H1 b = some (.tup [.int k.1, .int k.2]) := x1.sh _ _ g1
        · refine ⟨a, _, rfl, DPut.t (k := (keyOf k).1) (x1.hh _ _ h2) hb (sz_lt (by rw [List.length_map]; exact hz)), ?_⟩
          rw [put_keyOf]
          have hbB : a ∈ B := e4 a List.mem_cons_self
          have sa : S1 a = none := x1.out h1 h2 fun _ z => by cases z
          obtain ⟨B', p1, p2, p3⟩ := e5 (S' := S1) (H' := upd H1 a (.dT ((insK ks k).map keyOf))) (v' := some (.ref a)) (s' := .dct (insK ks k)) (A' := [a]) x1.ss (fun c hcB nc => by
            have ne : c ≠ a := fun z => nc (by rw [z]; exact List.mem_cons_self)
            obtain ⟨y1, w, y2, y3⟩ := he.at c hcB
            refine ⟨x1.out y1 y2 y3, ?_⟩
            rw [upd_ne ne, y2]
            exact x1.hh c w y2) (.dct sa upd_same) (by simp) (fun c hc => .inl hc)
          have x0 := o.xt.trans x1
          refine q1 S1 _ σ _ x1.ss (ok_write o ⟨fun c u ec => ?_, x0.ss, upd_same' x0.sh sa, x0.nw⟩ e1 p1 p2 fun c hc => ?_) kk
          · rw [upd_ne (ne_of_none ec (fr a hbB))]; exact x0.hh c u ec
          · rcases p3 c hc with z | z
            · rw [List.mem_singleton.mp z]; exact fr a hbB
            · exact fr c z

/-! ### expressions that change an owned list -/
def EvX (te : TE) (ρ : List Sl) (x : D) (ρ' : List Sl) : Prop := ∀ (S0 H0 S H : Hp) (σ : Sg) (Q : VK), Ok S0 H0 S H σ ρ → (∀ v S' H', Same S S' → Ok S0 H0 S' H' σ ρ' → Rp S' v x → Q v H') → te σ H Q
theorem evx_of (h : EvO te ρ (.d x)) : EvX te ρ x ρ := fun S0 H0 S H σ Q o q => h S0 H0 S H σ _ o fun v S1 H1 r A er x1 h1 _ _ => by
  subst er
  cases h1 with
  | d h1 => exact q v S1 H1 x1.ss (o.ext x1) h1
theorem evx_pop {j k : Nat} {ys : List D} (h : ρ[j]? = some (.own ys)) (he : EvT te ρ (.int (k : Int))) (hy : ys[k]? = some y) (hk : k ≤ 1000000) : EvX (tBM kf.K "list" rPopAt (tVar j) (tCons te tNil)) ρ y (ρ.set j (.own (ys.eraseIdx k))) := fun S0 H0 S H σ Q o q => by
  obtain ⟨a, vs, e1, e2, e3, e4, e5⟩ := ok_set o h
  refine ⟨_, e1, .inl ⟨rfl, _, .inl (.inl e2)⟩, he S0 H0 S H σ _ o fun w S1 H1 x1 h1 => ?_⟩
  cases h1
  obtain ⟨v, g1, g2⟩ := dpa_get e4 hy
  have hl : k < vs.length := (List.getElem?_eq_some_iff.mp g1).1
  have hx : seqIndex? (k : Int) vs.length = some k := by
    unfold seqIndex?
    have h0 : ¬ ((k : Int) < 0) := by omega
    simp [hl, h0]
  refine ⟨a, vs, (k : Int), k, v, rfl, rfl, x1.hh _ _ e2, by omega, by omega, hx, g1, ?_⟩
  exact q v S1 _ x1.ss (e5 x1 (dpa_erase k (dpa_mono x1.ss _ _ e4))) (dp_mono x1.ss _ _ g2)
theorem run_appendX {i : Nat} {xs xs0 : List D} {ρ' : List Sl} (h0 : ρ[i]? = some (.own xs0)) (he : EvX te ρ x ρ') (h : ρ'[i]? = some (.own xs)) (hz : xs.length ≤ 1000000) (k : Dn.nx (ρ'.set i (.own (xs ++ [x])))) :
    Run (tDrop (tBM kf.K "list" rAppend (tVar i) (tCons te tNil))) Dn ρ := fun S0 H0 S H σ E o q1 q2 q3 q4 => by
  obtain ⟨a, vs, e1, e2, e3, e4, e5⟩ := ok_set o h0
  refine ⟨_, e1, .inl ⟨rfl, _, .inl (.inl e2)⟩, ?_⟩
  refine he S0 H0 S H σ _ o fun v S1 H1 ss o1 h1 => ?_
  obtain ⟨a', vs', g1, g2, g3, g4, g5⟩ := ok_set o1 h
  rw [e1] at g1
  cases g1
  refine ⟨a, vs', v, rfl, rfl, g2, sz_lt (by rw [dpa_length g4]; exact hz), ?_⟩
  exact q1 S1 _ σ _ ss (g5 (.refl o1.sh) (dpa_append g4 (.cons h1 .nil))) k
theorem run_asgX {i : Nat} {ρ' : List Sl} (he : EvX te ρ x ρ') (k : Dn.nx (ρ'.set i (.d x))) : Run (tAsg te (gName i)) Dn ρ := fun S0 H0 S H σ E o q1 q2 q3 q4 =>
  he S0 H0 S H σ _ o fun v S1 H1 ss o1 h1 => q1 S1 H1 _ _ ss (o1.set (.refl o1.sh) (.d h1) List.nodup_nil (fun a ha => by cases ha) i) k

/-! ### lists of lists -/
theorem ok_own2 {i : Nat} (h : ρ[i]? = some (.own [])) : ∀ S0 H0 S H σ, Ok S0 H0 S H σ ρ → ∃ S', Same S S' ∧ Ok S0 H0 S' H σ (ρ.set i (.own2 [])) := fun S0 H0 S H σ o => by
  obtain ⟨B, he, nd, fr⟩ := o.env
  obtain ⟨v, A, e1, e2, e3, e4, e5⟩ := he.pick nd h
  cases e2 with
  | @own a vs _ h1 h2 h3 =>
    cases h3
    obtain ⟨B', p1, p2, p3⟩ := e5 (S' := S) (H' := H) (v' := some (.ref a)) (s' := .own2 []) (A' := [a]) (Same.refl S) (fun c hcB nc => ⟨(he.at c hcB).1, rfl⟩) (.own2 h1 h2 .nil) (by simp) (fun c hc => .inl hc)
    refine ⟨S, Same.refl S, ok_write o o.xt e1 p1 p2 fun c hc => ?_⟩
    rcases p3 c hc with z | z
    · rw [List.mem_singleton.mp z]; exact fr a (e4 a List.mem_cons_self)
    · exact fr c z
theorem run_own2 (i : Nat) (h : ρ[i]? = some (.own [])) (k : Run t Dn (ρ.set i (.own2 []))) : Run t Dn ρ := run_ghost (ok_own2 h) k
theorem own2_at {S H : Hp} {bs : List Addr} {xss : List (List D)} (h : Own2 S H bs xss) (nd : bs.Nodup) : ∀ {j : Nat} {xs : List D}, xss[j]? = some xs → ∃ b vs, bs[j]? = some b ∧ S b = none ∧ H b = some (.lst vs) ∧ RpAll S vs xs ∧
    ∀ {S' H' : Hp} {ws : List V} {ys : List D}, Xt S H S' H' → RpAll S' ws ys → Own2 S' (upd H' b (.lst ws)) bs (xss.set j ys) := by
  induction h with
  | nil => intro j xs e; simp at e
  | @cons b vs xs bs xss h1 h2 h3 ht ih =>
    have nb : b ∉ bs := (List.nodup_cons.mp nd).1
    have nd' : bs.Nodup := (List.nodup_cons.mp nd).2
    intro j ys e
    cases j with
    | zero =>
      simp at e; subst e
      refine ⟨b, vs, rfl, h1, h2, h3, fun {S' H' ws ys} x hr => ?_⟩
      refine .cons (x.out h1 h2 fun _ z => by cases z) upd_same hr ((ht.ext x).keep (Same.refl _) fun a ha => ⟨((ht.ext x).at a ha).1, upd_ne fun z => nb (z ▸ ha)⟩)
    | succ j =>
      obtain ⟨b', vs', e1, e2, e3, e4, e5⟩ := ih nd' (j := j) (by simpa using e)
      refine ⟨b', vs', by simpa using e1, e2, e3, e4, fun {S' H' ws ys} x hr => ?_⟩
      have ne : b ≠ b' := fun z => nb (z ▸ List.mem_of_getElem? e1)
      exact .cons (x.out h1 h2 fun _ z => by cases z) ((upd_ne ne).trans (x.hh _ _ h2)) (dpa_mono x.ss _ _ h3) (e5 x hr)
/-- xss[j].append(x) -/
theorem run_append2 {i j : Nat} {xss : List (List D)} {xs : List D} (h : ρ[i]? = some (.own2 xss)) (hj : EvT tb ρ (.int (j : Int))) (hx : xss[j]? = some xs) (he : EvO te ρ (.d x)) (hz : xs.length ≤ 1000000) (k : Dn.nx (ρ.set i (.own2 (xss.set j (xs ++ [x]))))) :
    Run (tDrop (tBM kf.K "list" rAppend (tOp (rIxL kf.K) (tVar i) tb) (tCons te tNil))) Dn ρ := fun S0 H0 S H σ E o q1 q2 q3 q4 => by
  obtain ⟨B, hE, nd, fr⟩ := o.env
  obtain ⟨v, A, e1, e2, e3, e4, e5⟩ := hE.pick nd h
  cases e2 with
  | @own2 a bs _ h1 h2 h3 =>
    have ndb : bs.Nodup := (List.nodup_cons.mp e3).2
    have nab : a ∉ bs := (List.nodup_cons.mp e3).1
    obtain ⟨b, vs, g1, g2, g3, g4, g5⟩ := own2_at h3 ndb hx
    refine ⟨_, e1, hj S0 H0 S H σ _ o fun w S1 H1 x1 z1 => ?_⟩
    cases z1
    refine ⟨a, _, _, .ref b, rfl, rfl, .inl (.of (x1.hh _ _ h2)), atI_nat (by rw [List.getElem?_map, g1]; rfl), .inl ⟨rfl, vs, .inl (.inl (x1.hh _ _ g3))⟩, ?_⟩
    refine he S0 H0 S1 H1 σ _ (o.ext x1) fun v S2 H2 r A2 er x2 z2 _ _ => ?_
    subst er
    cases z2 with
    | d z2 =>
      have x3 := x1.trans x2
      refine ⟨b, vs, v, rfl, rfl, x3.hh _ _ g3, sz_lt (by rw [dpa_length g4]; exact hz), ?_⟩
      have new := g5 x3 (dpa_append (dpa_mono x3.ss _ _ g4) (.cons z2 .nil))
      have ab : a ≠ b := fun z => nab (z ▸ List.mem_of_getElem? g1)
      have bA : b ∈ a :: bs := List.mem_cons_of_mem _ (List.mem_of_getElem? g1)
      obtain ⟨B', p1, p2, p3⟩ := e5 (S' := S2) (H' := upd H2 b (.lst (vs ++ [v]))) (v' := some (.ref a)) (s' := .own2 (xss.set j (xs ++ [x]))) (A' := a :: bs) x3.ss (fun c hcB nc => by
        have ne : c ≠ b := fun z => nc (z ▸ bA)
        obtain ⟨y1, w, y2, y3⟩ := hE.at c hcB
        refine ⟨x3.out y1 y2 y3, ?_⟩
        rw [upd_ne ne, y2]
        exact x3.hh c w y2) (.own2 (x3.out h1 h2 fun _ z => by cases z) ((upd_ne ab).trans (x3.hh _ _ h2)) new) e3 (fun c hc => .inl hc)
      have x0 := o.xt.trans x3
      have sb : S2 b = none := x3.out g2 g3 fun _ z => by cases z
      have hb0 : H0 b = none := fr b (e4 b bA)
      refine q1 S2 _ σ _ x3.ss (ok_write o ⟨fun c u ec => ?_, x0.ss, upd_same' x0.sh sb, x0.nw⟩ e1 p1 p2 fun c hc => ?_) k
      · rw [upd_ne (ne_of_none ec hb0)]; exact x0.hh c u ec
      · rcases p3 c hc with z | z
        · exact fr c (e4 c z)
        · exact fr c z
end

/-! ### a def -/
def startS (N : List Str) (ds : List D) : List Sl := ds.map Sl.d ++ List.replicate (N.length - ds.length) .no
theorem ok_start {S H : Hp} {N : List Str} {vs : List V} {ds : List D} (sh : Same S H) (h : RpAll S vs ds) : Ok S H S H (L2.start N vs) (startS N ds) := by
  refine ⟨.refl sh, [], ?_, List.nodup_nil, fun a ha => by cases ha⟩
  have l := dpa_length h
  unfold L2.start startS
  rw [l]
  have tail : ∀ n : Nat, EnvOk S H (List.replicate n none) (List.replicate n .no) [] := by
    intro n
    induction n with
    | zero => exact .nil
    | succ n ih => exact .cons (A := []) .no ih
  have gen : ∀ {vs : List V} {ds : List D} (n : Nat), RpAll S vs ds → EnvOk S H (vs.map some ++ List.replicate n none) (ds.map Sl.d ++ List.replicate n .no) [] := by
    intro vs ds n h
    induction vs generalizing ds with
    | nil => cases h; exact tail n
    | cons v vs ih =>
      cases h with
      | cons a t => exact .cons (A := []) (.d a) (ih t)
  exact gen _ h
theorem run_def {n : Nat} {pre : List D → Prop} {post : List D → Sl → Prop} {vs : List V} {H : Hp} {Q : VK} {E : XK} {N : List Str} {t : TS} (h : spF n pre post vs H Q E)
    (k : ∀ ds, ds.length = n → pre ds → Run t { nx := fun _ => post ds (.d .none), rt := post ds } (startS N ds)) : t { nx := fun _ H' => Q .non H', rt := Q } (L2.start N vs) H := by
  obtain ⟨S, ds, hn, sh, hr, hp, q⟩ := h
  refine k ds hn hp S H S H _ _ (ok_start sh hr) (fun S' H' σ' ρ' ss o n => ?_) (fun v S' H' r A xt hs nd fr p => q r v H' S' A p xt hs nd fr) (fun _ _ _ _ _ _ z => z.elim) (fun _ _ _ _ _ _ z => z.elim)
  exact q _ .non H' S' [] n o.xt (.d .non) List.nodup_nil fun a ha => by cases ha
end PL

namespace PL
open PySem L2
variable [kf : KF]

theorem hu65 {A : Around} {k : Nat} (hr : Room k A) : A.units + 65 < cLine := by have := hr.un; omega
def isIntB : D → Bool
  | .bool _ => true
  | .int _ => true
  | _ => false
theorem kit_int : ∀ d : D, kitB (tyN d) "int" = some (isIntB d)
  | .none => (by decide +kernel : kitB "NoneType" "int" = some false)
  | .bool _ => (by decide +kernel : kitB "bool" "int" = some true)
  | .int _ => (by decide +kernel : kitB "int" "int" = some true)
  | .str _ => (by decide +kernel : kitB "str" "int" = some false)
  | .list _ => (by decide +kernel : kitB "list" "int" = some false)
  | .tuple _ => (by decide +kernel : kitB "tuple" "int" = some false)
  | .dict _ => (by decide +kernel : kitB "dict" "int" = some false)
def isBoolB : D → Bool
  | .bool _ => true
  | _ => false
theorem kit_bool : ∀ d : D, kitB (tyN d) "bool" = some (isBoolB d)
  | .none => (by decide +kernel : kitB "NoneType" "bool" = some false)
  | .bool _ => (by decide +kernel : kitB "bool" "bool" = some true)
  | .int _ => (by decide +kernel : kitB "int" "bool" = some false)
  | .str _ => (by decide +kernel : kitB "str" "bool" = some false)
  | .list _ => (by decide +kernel : kitB "list" "bool" = some false)
  | .tuple _ => (by decide +kernel : kitB "tuple" "bool" = some false)
  | .dict _ => (by decide +kernel : kitB "dict" "bool" = some false)
def isListB : D → Bool
  | .list _ => true
  | _ => false
theorem kit_list : ∀ d : D, kitB (tyN d) "list" = some (isListB d)
  | .none => (by decide +kernel : kitB "NoneType" "list" = some false)
  | .bool _ => (by decide +kernel : kitB "bool" "list" = some false)
  | .int _ => (by decide +kernel : kitB "int" "list" = some false)
  | .str _ => (by decide +kernel : kitB "str" "list" = some false)
  | .list _ => (by decide +kernel : kitB "list" "list" = some true)
  | .tuple _ => (by decide +kernel : kitB "tuple" "list" = some false)
  | .dict _ => (by decide +kernel : kitB "dict" "list" = some false)
def isTupB : D → Bool
  | .tuple _ => true
  | _ => false
theorem kit_tuple : ∀ d : D, kitB (tyN d) "tuple" = some (isTupB d)
  | .none => (by decide +kernel : kitB "NoneType" "tuple" = some false)
  | .bool _ => (by decide +kernel : kitB "bool" "tuple" = some false)
  | .int _ => (by decide +kernel : kitB "int" "tuple" = some false)
  | .str _ => (by decide +kernel : kitB "str" "tuple" = some false)
  | .list _ => (by decide +kernel : kitB "list" "tuple" = some false)
  | .tuple _ => (by decide +kernel : kitB "tuple" "tuple" = some true)
  | .dict _ => (by decide +kernel : kitB "dict" "tuple" = some false)
def isStrB : D → Bool
  | .str _ => true
  | _ => false
theorem kit_str : ∀ d : D, kitB (tyN d) "str" = some (isStrB d)
  | .none => (by decide +kernel : kitB "NoneType" "str" = some false)
  | .bool _ => (by decide +kernel : kitB "bool" "str" = some false)
  | .int _ => (by decide +kernel : kitB "int" "str" = some false)
  | .str _ => (by decide +kernel : kitB "str" "str" = some true)
  | .list _ => (by decide +kernel : kitB "list" "str" = some false)
  | .tuple _ => (by decide +kernel : kitB "tuple" "str" = some false)
  | .dict _ => (by decide +kernel : kitB "dict" "str" = some false)
/-- a def of the top -/
structure Tp (K : PySem.W.Frag) (mg : Str → Option Value) (x : Str) (st : Stmt) where
  a : Addr
  fd : FuncData
  F : Fun K x x st a fd
  g : mg x = some (.ref a)
/-- .. with what it promises -/
structure Df (P : Program) (w : World) (K : PySem.W.Frag) (mg : Str → Option Value) (base : Heap) (x : Str) (k : Nat) (ps : List Str) (sp : Sp) where
  a : Addr
  fd : FuncData
  kp : PySem.W.keepIn K (.ref a) = true
  g : mg x = some (.ref a)
  G : FnOk P w K mg base CX0 k a fd ps sp
  b : Binds K fd ps []
/-- a promise by a function -/
abbrev spG (n : Nat) (pre : List D → Prop) (f : List D → Sl) : Sp := spF n pre fun ds r => r = f ds
section
variable {ρ : List Sl} {ta tb tc te : TE} {c : TT} {t u : TS} {d x y : D} {r : Sl} {Dn : DE}
theorem evo_callF {n : Nat} {pre : List D → Prop} {f : List D → Sl} {E : XK} {tr : TA} {ds : List D} (h : EvL tr ρ ds) (hn : ds.length = n) (hp : pre ds) (hr : f ds = r) : EvO (tCall (spG n pre f) [] E tr) ρ r :=
  evo_call h hn hp fun r' e => e.trans hr
theorem evo_callFT {n : Nat} {pre : List D → Prop} {f : List D → Sl} {E : XK} {tr : TA} {ds : List D} (h : EvLt tr ρ ds) (hn : ds.length = n) (hp : pre ds) (hr : f ds = r) (hf : r.flat) : EvO (tCall (spG n pre f) [] E tr) ρ r :=
  evo_callT h hn hp (fun r' e => e.trans hr) hf
theorem evb_or1 {tt u' : TT} (h1 : EvB tt ρ true) : EvB (tOr tt u') ρ true := evb_or (b := false) h1 fun z => by cases z
theorem evb_orF {tt u' : TT} {b : Bool} (h1 : EvB tt ρ false) (h2 : EvB u' ρ b) : EvB (tOr tt u') ρ b := evb_or h1 fun _ => h2
theorem evb_andF {tt u' : TT} (h1 : EvB tt ρ false) : EvB (tAnd tt u') ρ false := evb_and (b := false) h1 fun z => by cases z
theorem evb_andT {tt u' : TT} {b : Bool} (h1 : EvB tt ρ true) (h2 : EvB u' ρ b) : EvB (tAnd tt u') ρ b := evb_and h1 fun _ => h2
theorem evo_andF (h1 : EvO ta ρ (.d (.bool false))) : EvO (tAndV ta tb) ρ (.d (.bool false)) := evo_and (b := false) h1 fun z => by cases z
theorem evo_andT {b : Bool} (h1 : EvO ta ρ (.d (.bool true))) (h2 : EvO tb ρ (.d (.bool b))) : EvO (tAndV ta tb) ρ (.d (.bool b)) := evo_and h1 fun _ => h2
def lexLe (p q : Int × Int) : Bool := decide (p.1 < q.1 ∨ (p.1 = q.1 ∧ p.2 ≤ q.2))
theorem rp_pair {H : Hp} {v : V} {p : Int × Int} (h : Rp H v (pairD p)) : ∃ a, v = .ref a ∧ H a = some (.tup ([p.1, p.2].map V.int)) := by
  cases h with
  | @tup a us _ g1 g2 =>
    cases g2 with
    | cons a1 a2 => cases a2 with
      | cons b1 b2 => cases a1; cases b1; cases b2; exact ⟨a, rfl, g1⟩
theorem evo_leT {p q : Int × Int} (ha : EvT ta ρ (pairD p)) (hb : EvT tb ρ (pairD q)) : EvO (tOp (rLeT kf.K) ta tb) ρ (.d (.bool (lexLe p q))) := fun S0 H0 S H σ Q o q' =>
  ha S0 H0 S H σ _ o fun v S1 H1 x1 h1 => hb S0 H0 S1 H1 σ _ (o.ext x1) fun u S2 H2 x2 h2 => by
    obtain ⟨a, rfl, e1⟩ := rp_pair h1
    obtain ⟨b, rfl, e2⟩ := rp_pair h2
    refine ⟨a, b, _, _, rfl, rfl, .inl (.of (x2.hh _ _ e1)), .inl (.of e2), ?_⟩
    refine fin_flat q' (x1.trans x2) rfl ?_
    show some (PyData.bool _) = some (PyData.bool _)
    congr 2
    simp only [List.length_cons, List.length_nil, Nat.min_self, Ob.lexAt_succ, Ob.lexAt_zero, List.getD_cons_zero, List.getD_cons_succ, lexLe, decide_eq_true_eq, Nat.le_refl, decide_true, Nat.zero_add]
    by_cases c1 : p.1 = q.1
    · by_cases c2 : p.2 = q.2
      · simp [c1, c2]
      · simp [c1, c2]
    · have : ¬ p.1 = q.1 := c1
      simp only [c1, if_false, false_and, or_false]
      congr 1
      apply propext
      omega
end
end PL

namespace PL
open PySem L2

/-! ### plain data: None, ints, lists and tuples of such, at most n deep -/
def pl : Nat → D → Bool
  | _, .none => true
  | _, .int _ => true
  | n + 1, .list xs => xs.all (pl n)
  | n + 1, .tuple xs => xs.all (pl n)
  | _, _ => false
theorem pl_all {n : Nat} {xs : List D} (h : xs.all (pl n) = true) : ∀ x ∈ xs, pl n x = true := List.all_eq_true.mp h
theorem lay_all {n : Nat} (ih : ∀ d : D, pl n d = true → d.canLay0 = true ∧ d.depth ≤ n) : ∀ xs : List D, (∀ x ∈ xs, pl n x = true) → PyData.canLayAll0 xs = true ∧ PyData.depthAll xs ≤ n
  | [], _ => ⟨by simp [PyData.canLayAll0], by simp [PyData.depthAll]⟩
  | x :: xs, h => by
    obtain ⟨a, b⟩ := ih x (h x List.mem_cons_self)
    obtain ⟨c, d⟩ := lay_all ih xs fun y hy => h y (List.mem_cons_of_mem _ hy)
    refine ⟨by simp [PyData.canLayAll0, a, c], ?_⟩
    simp only [PyData.depthAll]
    omega
theorem pl_lay : ∀ (n : Nat) (d : D), pl n d = true → d.canLay0 = true ∧ d.depth ≤ n
  | n, .none, _ => ⟨by simp [PyData.canLay0], by simp [PyData.depth]⟩
  | n, .int _, _ => ⟨by simp [PyData.canLay0], by simp [PyData.depth]⟩
  | 0, .list _, h => by simp [pl] at h
  | 0, .tuple _, h => by simp [pl] at h
  | n + 1, .list xs, h => by
    obtain ⟨a, b⟩ := lay_all (pl_lay n) xs (pl_all (by simpa [pl] using h))
    exact ⟨by simp [PyData.canLay0, a], by simp only [PyData.depth]; omega⟩
  | n + 1, .tuple xs, h => by
    obtain ⟨a, b⟩ := lay_all (pl_lay n) xs (pl_all (by simpa [pl] using h))
    exact ⟨by simp [PyData.canLay0, a], by simp only [PyData.depth]; omega⟩
  | 0, .bool _, h => by simp [pl] at h
  | 0, .str _, h => by simp [pl] at h
  | 0, .dict _, h => by simp [pl] at h
  | n + 1, .bool _, h => by simp [pl] at h
  | n + 1, .str _, h => by simp [pl] at h
  | n + 1, .dict _, h => by simp [pl] at h
theorem pl_sh {n : Nat} {d : D} (h : pl n d = true) (hn : n ≤ 64 := by decide) : SeqAt.shaped d = true := by
  obtain ⟨a, b⟩ := pl_lay n d h
  unfold SeqAt.shaped
  rw [a, Bool.true_and, decide_eq_true_eq]
  omega
theorem eqv_all {n : Nat} (ih : ∀ (d e : D) (m : Nat), pl n d = true → pl m e = true → PyData.eqv d e = true → d = e) : ∀ (xs ys : List D) (m : Nat), (∀ x ∈ xs, pl n x = true) → (∀ y ∈ ys, pl m y = true) → PyData.eqvAll xs ys = true → xs = ys
  | [], [], _, _, _, _ => rfl
  | [], _ :: _, _, _, _, h => by simp [PyData.eqvAll] at h
  | _ :: _, [], _, _, _, h => by simp [PyData.eqvAll] at h
  | x :: xs, y :: ys, m, h1, h2, h => by
    simp only [PyData.eqvAll, Bool.and_eq_true] at h
    rw [ih x y m (h1 x List.mem_cons_self) (h2 y List.mem_cons_self) h.1, eqv_all ih xs ys m (fun z hz => h1 z (List.mem_cons_of_mem _ hz)) (fun z hz => h2 z (List.mem_cons_of_mem _ hz)) h.2]
theorem pl_eqv1 : ∀ (n : Nat) (d e : D) (m : Nat), pl n d = true → pl m e = true → PyData.eqv d e = true → d = e
  | n, .none, e, m, h1, h2, h => by cases e <;> simp [PyData.eqv] at h ⊢
  | n, .int i, e, m, h1, h2, h => by
    cases e with
    | int j => simp [PyData.eqv] at h; rw [h]
    | bool b => cases m <;> simp [pl] at h2
    | _ => simp [PyData.eqv] at h
  | 0, .list _, _, _, h1, _, _ => by simp [pl] at h1
  | 0, .tuple _, _, _, h1, _, _ => by simp [pl] at h1
  | n + 1, .list xs, e, m, h1, h2, h => by
    cases e with
    | list ys =>
      cases m with
      | zero => simp [pl] at h2
      | succ m =>
        simp only [PyData.eqv] at h
        rw [eqv_all (pl_eqv1 n) xs ys m (pl_all (by simpa [pl] using h1)) (pl_all (by simpa [pl] using h2)) h]
    | _ => simp [PyData.eqv] at h
  | n + 1, .tuple xs, e, m, h1, h2, h => by
    cases e with
    | tuple ys =>
      cases m with
      | zero => simp [pl] at h2
      | succ m =>
        simp only [PyData.eqv] at h
        rw [eqv_all (pl_eqv1 n) xs ys m (pl_all (by simpa [pl] using h1)) (pl_all (by simpa [pl] using h2)) h]
    | _ => simp [PyData.eqv] at h
  | 0, .bool _, _, _, h1, _, _ => by simp [pl] at h1
  | 0, .str _, _, _, h1, _, _ => by simp [pl] at h1
  | 0, .dict _, _, _, h1, _, _ => by simp [pl] at h1
  | n + 1, .bool _, _, _, h1, _, _ => by simp [pl] at h1
  | n + 1, .str _, _, _, h1, _, _ => by simp [pl] at h1
  | n + 1, .dict _, _, _, h1, _, _ => by simp [pl] at h1
theorem pl_eqv {n m : Nat} {d e : D} (h1 : pl n d = true) (h2 : pl m e = true) : PyData.eqv d e = true ↔ d = e :=
  ⟨pl_eqv1 n d e m h1 h2, fun h => by subst h; exact SeqAt.eqv_refl _ (pl_lay n d h1).1⟩
theorem pl_eqv_self {n : Nat} {d : D} (h1 : pl n d = true) : PyData.eqv d d = true := (pl_eqv h1 h1).mpr rfl
theorem pl_list {n : Nat} {xs : List D} (h : ∀ x ∈ xs, pl n x = true) : pl (n + 1) (.list xs) = true := by
  show xs.all (pl n) = true
  exact List.all_eq_true.mpr h
theorem pl_tup {n : Nat} {xs : List D} (h : ∀ x ∈ xs, pl n x = true) : pl (n + 1) (.tuple xs) = true := by
  show xs.all (pl n) = true
  exact List.all_eq_true.mpr h
theorem pl_int {n : Nat} {i : Int} : pl n (.int i) = true := by cases n <;> rfl
theorem pl_none {n : Nat} : pl n .none = true := by cases n <;> rfl
theorem pl_pair {n : Nat} {p : Int × Int} : pl (n + 1) (pairD p) = true := by
  show [PyData.int p.1, .int p.2].all (pl n) = true
  simp [pl_int]
theorem pl_ints {n : Nat} {ns : List Int} : pl (n + 1) (.list (ns.map .int)) = true := pl_list fun x hx => by
  obtain ⟨i, _, rfl⟩ := List.mem_map.mp hx
  exact pl_int
theorem pl_pairs {n : Nat} {ps : List (Int × Int)} : pl (n + 2) (.list (ps.map pairD)) = true := pl_list fun x hx => by
  obtain ⟨i, _, rfl⟩ := List.mem_map.mp hx
  exact pl_pair
theorem pairD_inj {p q : Int × Int} (h : pairD p = pairD q) : p = q := by
  cases p; cases q
  simp [pairD] at h
  simp [h]
theorem any_pair (ts : List (Int × Int)) (p : Int × Int) : ((ts.map pairD).any fun z => PyData.eqv z (pairD p)) = decide (p ∈ ts) := by
  rw [Bool.eq_iff_iff, List.any_eq_true, decide_eq_true_eq]
  constructor
  · rintro ⟨z, hz, e⟩
    obtain ⟨q, hq, rfl⟩ := List.mem_map.mp hz
    rw [← pairD_inj ((pl_eqv (n := 1) (m := 1) pl_pair pl_pair).mp e)]
    exact hq
  · intro h
    exact ⟨pairD p, List.mem_map.mpr ⟨p, h, rfl⟩, pl_eqv_self (n := 1) pl_pair⟩
/-- told apart as data -/
theorem evo_inP [kf : KF] {ρ : List Sl} {ta tb : TE} {ts : List (Int × Int)} {p : Int × Int} (ha : EvT ta ρ (pairD p)) (hb : EvT tb ρ (.list (ts.map pairD))) : EvO (tOp (rInD kf.K) ta tb) ρ (.d (.bool (decide (p ∈ ts)))) :=
  evo_is (evo_inD ha hb (pl_sh (n := 1) pl_pair) (pl_sh (n := 2) pl_pairs)) (by rw [any_pair])
theorem set_map_range {α : Type} {n a : Nat} {F : Nat → α} {v : α} : ((List.range n).map F).set a v = (List.range n).map fun j => if j = a then v else F j := by
  apply List.ext_getElem?
  intro k
  by_cases e : a = k
  · subst e
    by_cases h : a < n
    · rw [List.getElem?_set_self (by simpa using h), List.getElem?_map, List.getElem?_range h]
      simp
    · rw [List.getElem?_eq_none (by simpa using h), List.getElem?_eq_none (by simpa using h)]
  · rw [List.getElem?_set_ne e, List.getElem?_map, List.getElem?_map]
    cases q : (List.range n)[k]? with
    | none => rfl
    | some j =>
      have : j = k := by
        have hk := (List.getElem?_eq_some_iff.mp q).1
        rw [List.getElem?_range (by simpa using hk)] at q
        exact (Option.some.inj q).symm
      subst this
      simp [show ¬ j = a from fun z => e z.symm]
theorem get_map_range {α : Type} {n a : Nat} {F : Nat → α} (h : a < n) : ((List.range n).map F)[a]? = some (F a) := by
  rw [List.getElem?_map, List.getElem?_range h]
  rfl
end PL

namespace PL
open PySem L2

def g11 {α : Type} : List α → List α → List α
  | [a], [b] => [a, b]
  | _, _ => []
theorem g11_rel : ∀ {vs : List V} {us : List Value} {zs : List V} {ws : List Value}, Vals vs us → Vals zs ws → Vals (g11 vs zs) (g11 us ws)
  | _, _, _, _, .nil, _ => .nil
  | _, _, _, _, .cons a .nil, .nil => .nil
  | _, _, _, _, .cons a .nil, .cons b .nil => .cons a (.cons b .nil)
  | _, _, _, _, .cons a .nil, .cons b (.cons c t) => .nil
  | _, _, _, _, .cons a (.cons b t), _ => .nil
section
variable [kf : KF] {ρ : List Sl} {ta tb tc te : TE} {c : TT} {t u : TS} {d x y : D} {r : Sl} {Dn : DE}
theorem evp_callK11 {n : Nat} {pre : List D → Prop} {post : List D → Sl → Prop} {E : XK} {tr tk : TA} (h : EvL tr ρ [x]) (h' : EvL tk ρ [y]) (hn : [x, y].length = n) (hp : pre [x, y]) : EvP (tCallK (spF n pre post) g11 E tr tk) ρ (post [x, y]) := fun S0 H0 S H σ Q o q =>
  h S0 H0 S H σ _ o fun vs S1 H1 x1 h1 => h' S0 H0 S1 H1 σ _ (o.ext x1) fun zs S2 H2 x2 h2 => by
    cases h1 with
    | cons a1 b1 =>
      cases b1
      cases h2 with
      | cons a2 b2 =>
        cases b2
        exact ⟨S2, [x, y], hn, x2.sh, .cons (dp_mono x2.ss _ _ a1) (.cons a2 .nil), hp, fun r v H' S' A p x3 hs nd fr => q v S' H' r A p ((x1.trans x2).trans x3) hs nd fun a ha => (x1.trans x2).hh.free (fr a ha)⟩
theorem evo_callK11 {n : Nat} {pre : List D → Prop} {post : List D → Sl → Prop} {E : XK} {tr tk : TA} (h : EvL tr ρ [x]) (h' : EvL tk ρ [y]) (hn : [x, y].length = n) (hp : pre [x, y]) (hr : ∀ r', post [x, y] r' → r' = r) : EvO (tCallK (spF n pre post) g11 E tr tk) ρ r :=
  evp_mono (evp_callK11 h h' hn hp) hr
theorem evo_neB {a b : Bool} (ha : EvT ta ρ (.bool a)) (hb : EvT tb ρ (.bool b)) : EvO (tOp rNe ta tb) ρ (.d (.bool (!decide (a = b)))) := fun S0 H0 S H σ Q o q =>
  ha S0 H0 S H σ _ o fun v S1 H1 x1 h1 => hb S0 H0 S1 H1 σ _ (o.ext x1) fun u S2 H2 x2 h2 => by
    cases h1; cases h2
    refine ⟨rfl, ?_⟩
    have e : decide (V.bl a = V.bl b) = decide (a = b) := by simp
    rw [e]
    exact fin_flat q (x1.trans x2) rfl rfl
theorem evo_eqB {a b : Bool} (ha : EvT ta ρ (.bool a)) (hb : EvT tb ρ (.bool b)) : EvO (tOp rEq ta tb) ρ (.d (.bool (decide (a = b)))) := fun S0 H0 S H σ Q o q =>
  ha S0 H0 S H σ _ o fun v S1 H1 x1 h1 => hb S0 H0 S1 H1 σ _ (o.ext x1) fun u S2 H2 x2 h2 => by
    cases h1; cases h2
    refine ⟨rfl, ?_⟩
    have e : decide (V.bl a = V.bl b) = decide (a = b) := by simp
    rw [e]
    exact fin_flat q (x1.trans x2) rfl rfl
/-- equal, unequal plain data -/
theorem evo_eqP {n m : Nat} (ha : EvT ta ρ d) (hb : EvT tb ρ x) (h1 : pl n d = true) (h2 : pl m x = true) {b : Bool} (hb' : (d = x) ↔ b = true) (hn : n ≤ 64 := by decide) (hm : m ≤ 64 := by decide) : EvO (tOp (rEqD kf.K) ta tb) ρ (.d (.bool b)) :=
  evo_is (evo_eqD ha hb (pl_sh h1 hn) (pl_sh h2 hm)) (by
    congr 2
    rw [Bool.eq_iff_iff, pl_eqv h1 h2, hb'])
theorem evo_neP {n m : Nat} (ha : EvT ta ρ d) (hb : EvT tb ρ x) (h1 : pl n d = true) (h2 : pl m x = true) {b : Bool} (hb' : (d = x) ↔ b = false) (hn : n ≤ 64 := by decide) (hm : m ≤ 64 := by decide) : EvO (tOp (rNeD kf.K) ta tb) ρ (.d (.bool b)) :=
  evo_is (evo_neD ha hb (pl_sh h1 hn) (pl_sh h2 hm)) (by
    congr 2
    rw [Bool.eq_iff_iff, Bool.not_eq_true', Bool.eq_false_iff, ne_eq, pl_eqv h1 h2, hb']
    cases b <;> simp)
theorem run_reverse {i : Nat} {xs : List D} (h : ρ[i]? = some (.own xs)) (k : Dn.nx (ρ.set i (.own xs.reverse))) : Run (tDrop (tBM0 kf.K "list" rReverse (tVar i))) Dn ρ := fun S0 H0 S H σ E o q1 q2 q3 q4 => by
  obtain ⟨a, vs, e1, e2, e3, e4, e5⟩ := ok_set o h
  refine ⟨_, e1, .inl ⟨rfl, _, .inl (.inl e2)⟩, a, vs, rfl, rfl, e2, ?_⟩
  exact q1 S _ σ _ (Same.refl S) (e5 (.refl o.sh) (dpa_reverse e4)) k
theorem run_clear {i : Nat} {xs : List D} (h : ρ[i]? = some (.own xs)) (k : Dn.nx (ρ.set i (.own []))) : Run (tDrop (tBM0 kf.K "list" rClear (tVar i))) Dn ρ := fun S0 H0 S H σ E o q1 q2 q3 q4 => by
  obtain ⟨a, vs, e1, e2, e3, e4, e5⟩ := ok_set o h
  refine ⟨_, e1, .inl ⟨rfl, _, .inl (.inl e2)⟩, a, vs, rfl, rfl, e2, ?_⟩
  exact q1 S _ σ _ (Same.refl S) (e5 (.refl o.sh) .nil) k
end
/-- a turn of a range -/
theorem range_at {lo : Int} {n i : Nat} {x : D} (h : ((List.range n).map fun (i : Nat) => PyData.int (lo + (i : Int)))[i]? = some x) : x = .int (lo + (i : Int)) ∧ i < n := by
  rw [List.getElem?_map] at h
  have hi : i < n := by
    cases q : (List.range n)[i]? with
    | none => rw [q] at h; cases h
    | some j => have := (List.getElem?_eq_some_iff.mp q).1; simpa using this
  rw [List.getElem?_range hi] at h
  exact ⟨(Option.some.inj h).symm, hi⟩
theorem map_at {α : Type} {f : α → D} {xs : List α} {i : Nat} {y : D} (h : (xs.map f)[i]? = some y) : ∃ x, xs[i]? = some x ∧ y = f x := by
  rw [List.getElem?_map] at h
  cases q : xs[i]? with
  | none => rw [q] at h; cases h
  | some t => rw [q] at h; exact ⟨t, rfl, (Option.some.inj h).symm⟩
theorem at_map {α : Type} {f : α → D} {xs : List α} {i : Nat} {x : α} (h : xs[i]? = some x) : atI (xs.map f) (i : Int) = some (f x) := atI_nat (by rw [List.getElem?_map, h]; rfl)
end PL

namespace PL
open PySem L2

theorem lex_uniq : ∀ {a b : List (Int × Int)}, Lex a → Lex b → a.Perm b → a = b
  | [], b, _, _, h => h.nil_eq
  | x :: a, [], _, _, h => absurd h.length_eq (by simp)
  | x :: a, y :: b, ha, hb, h => by
    have ha' := List.pairwise_cons.mp ha
    have hb' := List.pairwise_cons.mp hb
    have e : x = y := by
      rcases List.mem_cons.mp (h.mem_iff.mp (List.mem_cons_self (a := x) (l := a))) with e | hx
      · exact e
      · rcases List.mem_cons.mp (h.mem_iff.mpr (List.mem_cons_self (a := y) (l := b))) with e | hy
        · exact e.symm
        · have c1 := hb'.1 x hx
          have c2 := ha'.1 y hy
          have h1 : x.1 = y.1 := by omega
          have h2 : x.2 = y.2 := by omega
          exact Prod.ext h1 h2
    subst e
    rw [lex_uniq ha'.2 hb'.2 h.cons_inv]
def insL (x : Int × Int) : List (Int × Int) → List (Int × Int)
  | [] => [x]
  | y :: ys => if lexLe x y then x :: y :: ys else y :: insL x ys
theorem insL_perm (x : Int × Int) : ∀ ys, (insL x ys).Perm (x :: ys)
  | [] => .refl _
  | y :: ys => by
    unfold insL
    split
    · exact .refl _
    · exact ((insL_perm x ys).cons y).trans (List.Perm.swap x y ys)
theorem insL_lex (x : Int × Int) : ∀ ys, Lex ys → Lex (insL x ys)
  | [], _ => List.pairwise_singleton _ _
  | y :: ys, h => by
    have h' := List.pairwise_cons.mp h
    unfold insL
    split
    · rename_i c
      have c := of_decide_eq_true c
      refine List.pairwise_cons.mpr ⟨fun z hz => ?_, h⟩
      rcases List.mem_cons.mp hz with rfl | hz
      · exact c
      · have := h'.1 z hz
        omega
    · rename_i c
      have c : ¬ (x.1 < y.1 ∨ x.1 = y.1 ∧ x.2 ≤ y.2) := fun z => c (decide_eq_true z)
      refine List.pairwise_cons.mpr ⟨fun z hz => ?_, insL_lex x ys h'.2⟩
      rcases List.mem_cons.mp ((insL_perm x ys).mem_iff.mp hz) with rfl | hz
      · omega
      · exact h'.1 z hz
def srtL : List (Int × Int) → List (Int × Int)
  | [] => []
  | x :: xs => insL x (srtL xs)
theorem srtL_perm : ∀ xs, (srtL xs).Perm xs
  | [] => .refl _
  | x :: xs => (insL_perm x (srtL xs)).trans ((srtL_perm xs).cons x)
theorem srtL_lex : ∀ xs, Lex (srtL xs)
  | [] => .nil
  | x :: xs => insL_lex x _ (srtL_lex xs)
theorem evo_sortedDT [kf : KF] {ρ : List Sl} {i : Nat} {ks : List (Int × Int)} (h : ρ[i]? = some (.dct ks)) : EvO (tCB rSortedDT (tCons (tVar i) tNil)) ρ (.own ((srtL ks).map pairD)) :=
  evp_mono (evp_sortedDT h) fun r p => by
    obtain ⟨ps, h1, h2, rfl⟩ := p
    rw [lex_uniq h1 (srtL_lex ks) (h2.trans (srtL_perm ks).symm)]
theorem insK_nodup {ks : List (Int × Int)} {k : Int × Int} (h : ks.Nodup) : (insK ks k).Nodup := by
  unfold insK
  split
  · exact h
  · rename_i c
    refine List.nodup_append.mpr ⟨h, by simp, fun a ha b hb e => ?_⟩
    subst e
    rw [List.mem_singleton.mp hb] at ha
    exact c ha
theorem insK_len (ks : List (Int × Int)) (k : Int × Int) : (insK ks k).length ≤ ks.length + 1 := by
  unfold insK
  split
  · omega
  · simp
theorem insK_mem {ks : List (Int × Int)} {k q : Int × Int} (h : q ∈ insK ks k) : q ∈ ks ∨ q = k := by
  unfold insK at h
  split at h
  · exact .inl h
  · rcases List.mem_append.mp h with h | h
    · exact .inl h
    · exact .inr (List.mem_singleton.mp h)
theorem lex_strict {ps : List (Int × Int)} (h : Lex ps) (nd : ps.Nodup) : ps.Pairwise fun p q => p.1 < q.1 ∨ (p.1 = q.1 ∧ p.2 < q.2) := by
  refine (h.and nd).imp fun {p q} c => ?_
  have c1 : p.1 < q.1 ∨ (p.1 = q.1 ∧ p.2 ≤ q.2) := c.1
  have c2 : p.1 = q.1 → p.2 = q.2 → False := fun a b => c.2 (Prod.ext a b)
  rcases c1 with c | ⟨c, d⟩
  · exact .inl c
  · have : p.2 ≠ q.2 := fun z => c2 c z
    exact .inr ⟨c, by omega⟩
theorem run_asgTP [kf : KF] {ρ : List Sl} {te : TE} {Dn : DE} {g : TG} {P : Sl → Prop} (h : EvP te ρ P) (k : ∀ r, P r → ∃ x ρ' js, r = .d x ∧ TgD g x ρ ρ' js ∧ Dn.nx ρ') : Run (tAsg te g) Dn ρ := fun S0 H0 S H σ E o q1 q2 q3 q4 =>
  h S0 H0 S H σ _ o fun v S' H' r A p xt hs _ _ => by
    obtain ⟨x, ρ', js, rfl, ht, kk⟩ := k r p
    cases hs with
    | d hs => exact ht S0 H0 S' H' σ _ v (o.ext xt) hs fun σ' o' _ _ => q1 S' H' σ' ρ' xt.ss o' kk
theorem cutD_at {xs : List D} {a b i : Nat} {x : D} (h : (cutD xs (some (a : Int)) (some (b : Int)))[i]? = some x) : xs[a + i]? = some x ∧ i < b - a := by
  unfold cutD at h
  rw [show HT.sIx xs.length 0 (some (a : Int)) = min a xs.length from HT.sIx_nat _ _ _, show HT.sIx xs.length xs.length (some (b : Int)) = min b xs.length from HT.sIx_nat _ _ _] at h
  have hi : i < min b xs.length - min a xs.length := by
    have := (List.getElem?_eq_some_iff.mp h).1
    rw [List.length_take, List.length_drop] at this
    omega
  rw [List.getElem?_take_of_lt hi, List.getElem?_drop] at h
  have : min a xs.length = a := by omega
  rw [this] at h
  exact ⟨h, by omega⟩
theorem cutD_len (xs : List D) (a b : Nat) : (cutD xs (some (a : Int)) (some (b : Int))).length ≤ b - a := by
  unfold cutD
  rw [show HT.sIx xs.length 0 (some (a : Int)) = min a xs.length from HT.sIx_nat _ _ _, show HT.sIx xs.length xs.length (some (b : Int)) = min b xs.length from HT.sIx_nat _ _ _, List.length_take, List.length_drop]
  omega

/-! ### rules with the written part named (within a comprehension's block) -/
section
variable {X : Cx} {K : PySem.W.Frag} (hK : X.K = K)
include hK
theorem ix_listK : IxR X (rIxL K) := by subst hK; exact ix_list
theorem ix_tupK : IxR X (rIxT K) := by subst hK; exact ix_tup
theorem sl_listK : SlR X (rSlL K) := by subst hK; exact sl_list
theorem call_len_seqK : CallR X (.builtin "len") (fun xs H Q => ∃ p ys, xs = [V.ref p] ∧ (SqL K H p ys ∨ SqT K H p ys) ∧ Q (.int ys.length) H) := by subst hK; exact call_len_seq
theorem call_list_ofK : CallR X (.type "list") (fun xs H Q => ∃ p ys, xs = [V.ref p] ∧ (SqL K H p ys ∨ SqT K H p ys) ∧ ∀ l, H l = none → Q (.ref l) (upd H l (.lst ys))) := by subst hK; exact call_list_of
theorem call_isiKK : CallR X (.builtin "isinstance") (rIsi K) := by subst hK; exact call_isi
theorem op_eqDK (hu : X.A.units + 64 < cLine) : OpR X (compareOp .Eq) (rEqD K) := by subst hK; exact op_eqD hu
theorem op_neDK (hu : X.A.units + 64 < cLine) : OpR X (compareOp .NotEq) (rNeD K) := by subst hK; exact op_neD hu
theorem op_inDK (hu : X.A.units + 65 < cLine) : OpR X (compareOp .In) (rInD K) := by subst hK; exact op_inD hu
theorem op_notInDK (hu : X.A.units + 65 < cLine) : OpR X (compareOp .NotIn) (rNotInD K) := by subst hK; exact op_notInD hu
theorem op_catRK : OpR X (binaryOp .Add) (rCatR K) := by subst hK; exact op_catR
theorem op_leTK (hu : X.A.units < cLine) : OpR X (compareOp .LtE) (rLeT K) := by subst hK; exact op_leT hu
theorem cr_allK (hc : X.calm = true) : CallR X (.builtin "all") (rAll K) := by subst hK; exact cr_all hc
theorem cr_minK (hc : X.calm = true) : CallR X (.builtin "min") (rMin K) := by subst hK; exact cr_min hc
theorem cr_sortedIK : CallR X (.builtin "sorted") (rSortedI K) := by subst hK; exact cr_sortedI
theorem pi_listK {tg l : Expr} {tl : TE} (hl : PE X l tl) : PI X tg l (iList K tl) := by subst hK; exact pi_list hl
theorem pg_tupK {pos : Pos} {es : List Expr} {k : Nat} {t : TGs} {n : Nat} (hc : X.calm = true) (h : PGs X es t)
    (hn : (assignEach es X.env).length = n := by rfl) (hst : (assignEach es X.env).findIdx? (·.1) = none := by rfl) : PG X (.Tuple es k pos) (gTup K n t) := by subst hK; exact pg_tup hc h hn hst
end
end PL

namespace PL
open PySem PySem.Spec PyProof.Rows L2

/-! tuples walked, joined, looked through; a list unpacked; set(tuple) and its sorted list -/
section
variable [kf : KF] {ρ : List Sl} {ta tb te : TE} {x : D}
theorem any_ints {ns : List Int} {k : Int} : inV (.int k) (ns.map V.int) = decide (k ∈ ns) := by
  unfold inV
  induction ns with
  | nil => rfl
  | cons n ns ih =>
    rw [List.map_cons, List.any_cons, ih]
    show ((n == k) || decide (k ∈ ns)) = _
    by_cases h : n = k
    · subst h; simp
    · simp [h, show ¬ k = n from fun z => h z.symm]
theorem flat_ints {ns : List Int} : (ns.map V.int).all flatV = true := by
  rw [List.all_eq_true]
  intro v hv
  obtain ⟨i, _, rfl⟩ := List.mem_map.mp hv
  rfl
/-- k in a tuple of ints -/
theorem evo_inT {neg : Bool} {ns : List Int} {k : Int} (ha : EvT ta ρ (.int k)) (hb : EvT tb ρ (.tuple (ns.map .int))) : EvO (tOp (rIn kf.K neg) ta tb) ρ (.d (.bool (if neg then !decide (k ∈ ns) else decide (k ∈ ns)))) := fun S0 H0 S H σ Q o q =>
  ha S0 H0 S H σ _ o fun v S1 H1 x1 r1 => hb S0 H0 S1 H1 σ _ (o.ext x1) fun u S2 H2 x2 r2 => by
    cases r1
    cases r2 with
    | tup h1 h2 =>
      have e := dpa_ints h2
      subst e
      refine ⟨_, _, rfl, .inr (.inl (.of h1)), rfl, flat_ints, ?_⟩
      rw [any_ints]
      cases neg <;> exact fin_flat q (x1.trans x2) rfl rfl
theorem evo_inLi {neg : Bool} {ns : List Int} {k : Int} (ha : EvT ta ρ (.int k)) (hb : EvT tb ρ (.list (ns.map .int))) : EvO (tOp (rIn kf.K neg) ta tb) ρ (.d (.bool (if neg then !decide (k ∈ ns) else decide (k ∈ ns)))) := fun S0 H0 S H σ Q o q =>
  ha S0 H0 S H σ _ o fun v S1 H1 x1 r1 => hb S0 H0 S1 H1 σ _ (o.ext x1) fun u S2 H2 x2 r2 => by
    cases r1
    cases r2 with
    | lst h1 h2 =>
      have e := dpa_ints h2
      subst e
      refine ⟨_, _, rfl, .inl h1, rfl, flat_ints, ?_⟩
      rw [any_ints]
      cases neg <;> exact fin_flat q (x1.trans x2) rfl rfl
theorem jd_tup {S : Hp} {a : Addr} {vs : List V} {ds : List D} (h : S a = some (.tup vs)) (hr : RpAll S vs ds) : JD S (Itt kf.K a) ds := fun S1 H1 s1 sh => by
  have h1 : H1 a = some (.tup vs) := sh _ _ (s1 _ _ h)
  have h2 : SqT kf.K H1 a vs := .inl (.of h1)
  refine ⟨⟨vs, h2, by rw [dpa_length hr]; exact Nat.le_refl _⟩, fun i x e => ?_⟩
  obtain ⟨v, e1, e2⟩ := dpa_get hr e
  refine ⟨⟨vs, v, h2, e1⟩, fun w H2 y => ?_⟩
  obtain ⟨rfl, y⟩ := y
  have : some w = some v := (y vs h2).symm.trans e1
  cases this
  exact ⟨S1, .refl sh, dp_mono s1 _ _ e2⟩
theorem it_tup {ds : List D} (h : EvO te ρ (.d (.tuple ds))) : IterD (iTup kf.K te) ρ ds := fun S0 H0 S H σ R o q =>
  h S0 H0 S H σ _ o fun v S' H' r A er xt hs _ _ => by
    subst er
    cases hs with
    | d hs =>
      cases hs with
      | tup r1 r2 => exact ⟨_, rfl, ⟨_, .inl (.of (xt.sh _ _ r1))⟩, q _ S' H' xt (jd_tup r1 r2)⟩
theorem evo_catT {xs ys : List D} (ha : EvO ta ρ (.d (.tuple xs))) (hb : EvO tb ρ (.d (.tuple ys))) (h1 : xs ≠ []) (h2 : ys ≠ []) (hz : xs.length + ys.length ≤ sizeLine) : EvO (tOp (rCatT kf.K) ta tb) ρ (.d (.tuple (xs ++ ys))) := fun S0 H0 S H σ Q o q =>
  ha S0 H0 S H σ _ o fun v S1 H1 r A er x1 hs _ _ => hb S0 H0 S1 H1 σ _ (o.ext x1) fun u S2 H2 r' A' er' x2 hs' _ _ => by
    subst er er'
    cases hs with
    | d hs =>
      cases hs with
      | @tup a vs _ t1 t2 =>
        cases hs' with
        | d hs' =>
          cases hs' with
          | @tup b us _ u1 u2 =>
            have l1 := dpa_length t2
            have l2 := dpa_length u2
            have n1 : vs ≠ [] := fun z => h1 (List.eq_nil_of_length_eq_zero (by rw [← l1, z]; rfl))
            have n2 : us ≠ [] := fun z => h2 (List.eq_nil_of_length_eq_zero (by rw [← l2, z]; rfl))
            refine ⟨a, b, vs, us, rfl, rfl, .inl (.of (x2.hh _ _ (x1.sh _ _ t1))), .inl (.of (x2.sh _ _ u1)), n1, by rw [l1, l2]; exact hz, fun z => absurd z n2, fun _ p hp => ?_⟩
            exact q _ (upd S2 p (.tup (vs ++ us))) _ _ [] rfl ((x1.trans x2).trans (.newS x2.sh hp)) (.d (.tup upd_same (dpa_mono (Xt.newS x2.sh hp).ss _ _ (dpa_append (dpa_mono x2.ss _ _ t2) u2)))) List.nodup_nil (fun a ha => by cases ha)
theorem tg_unl {gs : TGs} {xs : List D} {ρ' : List Sl} {js : List Nat} {n : Nat} (h : TgDs gs xs ρ ρ' js) (hn : xs.length = n) : TgD (gUnl kf.K n gs) (.list xs) ρ ρ' js := fun S0 H0 S H σ Q v o hv q => by
  cases hv with
  | lst r1 r2 => exact ⟨_, _, rfl, o.sh.seq r1, (dpa_length r2).trans hn, h S0 H0 S H σ Q _ o r2 q⟩
theorem tg_unl2 {i j : Nat} {x y : D} : TgD (gUnl kf.K 2 (gCons (gName i) (gCons (gName j) gNil))) (.list [x, y]) ρ ((ρ.set i (.d x)).set j (.d y)) ([i] ++ ([j] ++ [])) := tg_unl (tgs_cons tg_name (tgs_cons tg_name tgs_nil)) rfl
end
/-- set(a tuple of ints) -/
def rSetTup (K : PySem.W.Frag) (w : World) : List V → Hp → VK → Prop := fun xs H Q => ∃ (l : Addr) (ns : List Int), xs = [.ref l] ∧ SqT K H l (ns.map V.int) ∧ ns.length ≤ 1000 ∧ ∀ (p : Addr) (c : Nat), c ≤ ns.length → H p = none → Q (.ref p) (upd H p (SetO w p (fun j => decide (j ∈ ns)) c))
theorem cr_setTup {X : Cx} (hc : X.calm = true) : CallR X (.type "set") (rSetTup X.K X.w) := by
  intro pins s σ H xs us Q I r h
  obtain ⟨l, ns, rfl, hq, hl, q⟩ := h
  obtain ⟨u, rfl, ru⟩ := vals1 r
  obtain rfl : u = Value.ref l := ru
  obtain ⟨its, rv, pt, hz⟩ := I.tuple hq
  have hi : IntsAre its.toArray.toList ns := ints_of_vals rv
  have hd := I.ok.hd hc
  refine call_set_tupI ns hd (show s.heap.IsTuple l its.toArray from pt) hi (by unfold scanBound; omega) fun h' tk c R1 hcn k => ?_
  exact ⟨.ref _, upd H s.heap.objs.size (SetO X.w s.heap.objs.size (fun j => decide (j ∈ ns)) c), I.laid (t' := tk) k (Nat.le_refl _) (setO_new R1), rfl, q _ c hcn (I.hok.fresh (Nat.le_refl _))⟩
section
variable [kf : KF] {ρ : List Sl} {te : TE}
theorem evp_sortedSet {w : World} {ns : List Int} (ha : EvT te ρ (.tuple (ns.map .int))) (hl : ns.length < 64) :
    EvP (tCB (rSortedSet w) (tCons (tCB (rSetTup kf.K w) (tCons te tNil)) tNil)) ρ (fun r => ∃ ms : List Int, r = .own (ms.map .int) ∧ ms.Pairwise (· < ·) ∧ (∀ k, k ∈ ms ↔ k ∈ ns) ∧ ms.length ≤ ns.length) := fun S0 H0 S H σ Q o q =>
  ha S0 H0 S H σ _ o fun v S1 H1 x1 h => by
    cases h with
    | tup h1 h2 =>
      have e := dpa_ints h2
      subst e
      refine ⟨_, ns, rfl, .inl (.of h1), by omega, fun p c hc hp => ?_⟩
      refine ⟨p, _, c, rfl, upd_same, by omega, fun ms p' h3 h4 h5 hp' => ?_⟩
      have xa : Xt S1 H1 S1 (upd H1 p (SetO w p (fun j => decide (j ∈ ns)) c)) := .new x1.sh hp
      have xb := xa.trans (.new (p := p') (o := .lst (ms.map V.int)) xa.sh hp')
      refine q _ S1 _ _ [p'] ⟨ms, rfl, h3, fun k => by rw [h4]; simp, by omega⟩ (x1.trans xb) (.own (xa.sh.free hp') upd_same (dpa_of_ints ms)) (by simp) fun b hb => ?_
      rw [List.mem_singleton.mp hb]
      exact (x1.trans xa).hh.free hp'
end
section
variable {X : Cx} {K : PySem.W.Frag} (hK : X.K = K)
include hK
theorem op_in_seqK : OpR X (compareOp .In) (rIn K false) := by subst hK; exact op_in_seq
theorem op_notIn_seqK : OpR X (compareOp .NotIn) (rIn K true) := by subst hK; exact op_notIn_seq
theorem op_catTK : OpR X (binaryOp .Add) (rCatT K) := by subst hK; exact op_catT
end
end PL

namespace PL
open PySem PySem.Spec PyProof.Rows L2
section
variable {X : Cx} {a b c d : Expr} {pos : Pos} {ta tb tc td : TE}
/-- a op1 b op2 c op3 d -/
def tCh3 (r r' r'' : R2) (ta tb tc td : TE) : TE := fun σ H Q => ta σ H fun x H1 => tb σ H1 fun y H2 => r x y H2 fun z H3 => ∃ k, z = .bl k ∧
  (if k = true then tc σ H3 fun w H4 => r' y w H4 fun z' H5 => ∃ k', z' = .bl k' ∧ (if k' = true then td σ H5 fun u H6 => r'' w u H6 Q else Q (.bl false) H5) else Q (.bl false) H3)
theorem pe_ch3 {op op' op'' : CmpOp} {r r' r'' : R2} (ho : OpR X (compareOp op) r) (ho' : OpR X (compareOp op') r') (ho'' : OpR X (compareOp op'') r'') (ha : PE X a ta) (hb : PE X b tb) (hc : PE X c tc) (hd : PE X d td)
    (hm : lastMarks [op, op', op''] [b, c, d] = false := by with_unfolding_all rfl) : PE X (.Compare a [op, op', op''] [b, c, d] pos) (tCh3 r r' r'' ta tb tc td) := by
  refine ⟨fun pins s σ H Q I h => ?_⟩
  refine Compare_chain (thn (ha.run pins s σ H _ I h) fun v1 s1 ⟨x, H1, I1, r1, q1⟩ => chain_link (thn (hb.run pins s1 σ H1 _ I1 q1) fun v2 s2 ⟨y, H2, I2, r2, q2⟩ =>
    thn (ho pins s2 σ H2 x y v1 v2 _ I2 r1 r2 q2) fun v3 s3 ⟨z, H3, I3, r3, k, e, q3⟩ => ?_)) hm
  subst e
  cases r3
  refine wpAny_truthy_bool ?_
  cases k with
  | false => exact ite_ff ⟨.bl false, H3, I3, rfl, q3⟩
  | true =>
    refine ite_tt (chain_link (thn (hc.run pins s3 σ H3 _ I3 q3) fun v4 s4 ⟨z4, H4, I4, r4, q4⟩ =>
      thn (ho' pins s4 σ H4 y z4 v2 v4 _ I4 r2 r4 q4) fun v5 s5 ⟨z5, H5, I5, r5, k5, e5, q5⟩ => ?_))
    subst e5
    cases r5
    refine wpAny_truthy_bool ?_
    cases k5 with
    | false => exact ite_ff ⟨.bl false, H5, I5, rfl, q5⟩
    | true => exact ite_tt (chain_last (thn (hd.run pins s5 σ H5 _ I5 q5) fun v6 s6 ⟨z6, H6, I6, r6, q6⟩ => ho'' pins s6 σ H6 z4 z6 v4 v6 Q I6 r4 r6 q6))
end
variable [kf : KF]
section
variable {ta tb tc td : TE} {ρ : List Sl}
theorem evo_ch3I {g g' g'' : Int → Int → Bool} {i j k l : Int} (ha : EvT ta ρ (.int i)) (hb : EvT tb ρ (.int j)) (hc : EvT tc ρ (.int k)) (hd : EvT td ρ (.int l)) :
    EvO (tCh3 (rI0 fun i j => .bl (g i j)) (rI0 fun i j => .bl (g' i j)) (rI0 fun i j => .bl (g'' i j)) ta tb tc td) ρ (.d (.bool (g i j && (g' j k && g'' k l)))) := fun S0 H0 S H σ Q o q =>
  ha S0 H0 S H σ _ o fun v S1 H1 x1 h1 => hb S0 H0 S1 H1 σ _ (o.ext x1) fun u S2 H2 x2 h2 => by
    cases h1; cases h2
    refine ⟨i, j, rfl, rfl, g i j, rfl, ?_⟩
    cases hg : g i j with
    | true =>
      refine iteT ?_
      refine hc S0 H0 S2 H2 σ _ (o.ext (x1.trans x2)) fun w S3 H3 x3 h3 => ?_
      cases h3
      refine ⟨j, k, rfl, rfl, g' j k, rfl, ?_⟩
      cases hg' : g' j k with
      | true =>
        refine iteT ?_
        refine hd S0 H0 S3 H3 σ _ (o.ext ((x1.trans x2).trans x3)) fun w S4 H4 x4 h4 => ?_
        cases h4
        refine ⟨k, l, rfl, rfl, ?_⟩
        rw [hg, hg'] at q
        exact fin_flat q (((x1.trans x2).trans x3).trans x4) rfl rfl
      | false =>
        refine iteF ?_
        rw [hg, hg'] at q
        exact fin_flat q ((x1.trans x2).trans x3) rfl rfl
    | false =>
      refine iteF ?_
      rw [hg] at q
      exact fin_flat q (x1.trans x2) rfl rfl
end
end PL

/-! MR: owned trees over the heap; slots and what is held ahead of them in one list of apart footprints -/
namespace MR
open PySem L2 PL

inductive Kd where
  | lst | tup | dK (ks : List Key) | dT (ks : List (List Key))
def shape : Kd → List V → HO
  | .lst, vs => .lst vs
  | .tup, vs => .tup vs
  | .dK ks, vs => .dK (ks.zip vs)
  | .dT ks, vs => .dT (ks.zip vs)
def Kd.fits : Kd → Nat → Prop
  | .lst, _ => True
  | .tup, _ => True
  | .dK ks, n => ks.length = n
  | .dT ks, n => ks.length = n
def Kd.isTup : Kd → Bool
  | .tup => true
  | _ => false
/-- what a slot holds: nothing known, frozen data, a node of one's own -/
inductive OT where
  | no
  | d (x : D)
  | nd (k : Kd) (ts : List OT)
  /-- a list that stays as it is, its items one's own -/
  | fl (ts : List OT)

def flatDs : List OT → Option (List D)
  | [] => some []
  | .d x :: ts => if flat x then (flatDs ts).map fun xs => x :: xs else Option.none
  | _ => Option.none
mutual
def OT.toD : OT → Option D
  | .no => Option.none
  | .d x => some x
  | .nd .lst ts => (OT.toDs ts).map .list
  | .nd .tup ts => (OT.toDs ts).map .tuple
  | .fl ts => (OT.toDs ts).map .list
  | .nd (.dK ks) ts => if ks.length = ts.length then (flatDs ts).map fun xs => .dict ((ks.map keyD).zip xs) else Option.none
  | .nd (.dT ks) ts => if ks.length = ts.length then (flatDs ts).map fun xs => .dict ((ks.map keyTD).zip xs) else Option.none
def OT.toDs : List OT → Option (List D)
  | [] => some []
  | t :: ts => match OT.toD t, OT.toDs ts with
    | some x, some xs => some (x :: xs)
    | _, _ => Option.none
end
theorem shape_tup {k : Kd} {vs : List V} (h : k.isTup = false) : ∀ xs, shape k vs ≠ .tup xs := by
  intro xs e
  cases k <;> simp [shape, Kd.isTup] at e h

/-! ### what changes: only at A -/
structure Xa (A : List Addr) (S H S' H' : Hp) : Prop where
  hh : ∀ b o, b ∉ A → H b = some o → H' b = some o
  dm : ∀ b, H' b = none → H b = none
  tp : ∀ b xs, H b = some (.tup xs) → H' b = some (.tup xs)
  ss : Same S S'
  sh : Same S' H'
  nw : ∀ b o, S' b = some o → S b = some o ∨ b ∈ A ∨ ∀ u, H b = some u → ∃ xs, u = .tup xs
section
variable {S H S' H' S1 H1 S2 H2 S0 H0 : Hp} {A A0 : List Addr}
theorem Xa.of (x : Xt S H S' H') : Xa A S H S' H' :=
  ⟨fun b o _ e => x.hh b o e, fun b e => x.hh.free e, fun b xs e => x.hh b _ e, x.ss, x.sh, fun b o e => by
    rcases x.nw b o e with q | q
    · exact .inl q
    · exact .inr (.inr q)⟩
theorem Xa.refl (h : Same S H) : Xa A S H S H := .of (.refl h)
theorem Xa.trans (x : Xa A S H S1 H1) (y : Xa A S1 H1 S2 H2) : Xa A S H S2 H2 :=
  ⟨fun b o n e => y.hh b o n (x.hh b o n e), fun b e => x.dm b (y.dm b e), fun b xs e => y.tp b xs (x.tp b xs e), x.ss.trans y.ss, y.sh, fun b o e => by
    rcases y.nw b o e with q | q | q
    · exact x.nw b o q
    · exact .inr (.inl q)
    · by_cases hb : b ∈ A
      · exact .inr (.inl hb)
      · exact .inr (.inr fun u hu => q u (x.hh b u hb hu))⟩
theorem Xa.xt (x : Xa [] S H S' H') : Xt S H S' H' :=
  ⟨fun b o e => x.hh b o (by simp) e, x.ss, x.sh, fun b o e => by
    rcases x.nw b o e with q | q | q
    · exact .inl q
    · cases q
    · exact .inr q⟩
/-- all tuples, and A, become stable -/
noncomputable def frz (S H : Hp) (A : List Addr) : Hp := by
  classical exact fun b => if b ∈ A ∨ ∃ xs, H b = some (.tup xs) then H b else S b
theorem frz_in {b : Addr} (h : b ∈ A) : frz S H A b = H b := by unfold frz; exact if_pos (.inl h)
theorem frz_tup {b : Addr} {xs : List V} (h : H b = some (.tup xs)) : frz S H A b = some (.tup xs) := by unfold frz; exact (if_pos (.inr ⟨xs, h⟩)).trans h
theorem frz_out {b : Addr} (h : b ∉ A) (ht : ∀ xs, H b ≠ some (.tup xs)) : frz S H A b = S b := by
  unfold frz; exact if_neg (fun z => by rcases z with z | ⟨xs, z⟩; exact h z; exact ht xs z)
theorem frz_same (sh : Same S H) : Same S (frz S H A) := fun b o e => by
  by_cases h : b ∈ A
  · rw [frz_in h]; exact sh b o e
  · by_cases ht : ∃ xs, H b = some (.tup xs)
    · obtain ⟨xs, ht⟩ := ht
      rw [frz_tup ht, ← ht]; exact sh b o e
    · rw [frz_out h fun xs z => ht ⟨xs, z⟩]; exact e
theorem frz_sub (sh : Same S H) : Same (frz S H A) H := fun b o e => by
  by_cases h : b ∈ A
  · rw [frz_in h] at e; exact e
  · by_cases ht : ∃ xs, H b = some (.tup xs)
    · obtain ⟨xs, ht⟩ := ht
      rw [frz_tup ht] at e; rw [ht]; exact e
    · rw [frz_out h fun xs z => ht ⟨xs, z⟩] at e; exact sh b o e
theorem frz_nw {b : Addr} {o : HO} (e : frz S H A b = some o) : S b = some o ∨ b ∈ A ∨ ∃ xs, H b = some (.tup xs) := by
  by_cases h : b ∈ A
  · exact .inr (.inl h)
  · by_cases ht : ∃ xs, H b = some (.tup xs)
    · exact .inr (.inr ht)
    · rw [frz_out h fun xs z => ht ⟨xs, z⟩] at e; exact .inl e
end

variable [kf : KF]
mutual
inductive OOk (S H : Hp) : V → OT → List Addr → Prop
  | no {v : V} : OOk S H v .no []
  | d {v : V} {x : D} : Rp S v x → OOk S H v (.d x) []
  | tup {a : Addr} {vs : List V} {ts : List OT} {B : List Addr} : H a = some (.tup vs) → OAll S H vs ts B → OOk S H (.ref a) (.nd .tup ts) B
  | nd {a : Addr} {k : Kd} {vs : List V} {ts : List OT} {B : List Addr} : k.isTup = false → k.fits ts.length → S a = none → H a = some (shape k vs) → OAll S H vs ts B → OOk S H (.ref a) (.nd k ts) (a :: B)
  | fl {a : Addr} {vs : List V} {ts : List OT} {B : List Addr} : S a = some (.lst vs) → OAll S H vs ts B → OOk S H (.ref a) (.fl ts) B
inductive OAll (S H : Hp) : List V → List OT → List Addr → Prop
  | nil : OAll S H [] [] []
  | cons {v : V} {vs : List V} {t : OT} {ts : List OT} {A B : List Addr} : OOk S H v t A → OAll S H vs ts B → OAll S H (v :: vs) (t :: ts) (A ++ B)
end
section
variable {S H S' H' S0 H0 S1 H1 : Hp}
theorem OAll.len {vs : List V} : ∀ {ts : List OT} {A : List Addr}, OAll S H vs ts A → vs.length = ts.length := by
  intro ts
  induction ts generalizing vs with
  | nil => intro A h; cases h; rfl
  | cons t ts ih => intro A h; cases h with | cons _ h => rw [List.length_cons, List.length_cons, ih h]
mutual
theorem ook_keep (ss : Same S S') (tp : ∀ b xs, H b = some (.tup xs) → H' b = some (.tup xs)) : ∀ (t : OT) (v : V) (A : List Addr), OOk S H v t A → (∀ a ∈ A, S' a = none ∧ H' a = H a) → OOk S' H' v t A
  | .no, _, _, h, _ => by cases h; exact .no
  | .d x, _, _, h, _ => by cases h with | d h => exact .d (dp_mono ss _ _ h)
  | .nd k ts, _, _, h, hk => by
    cases h with
    | tup h1 h2 => exact .tup (tp _ _ h1) (oall_keep ss tp ts _ _ h2 hk)
    | nd h0 h1 h2 h3 h4 =>
      obtain ⟨e1, e2⟩ := hk _ List.mem_cons_self
      exact .nd h0 h1 e1 (e2.trans h3) (oall_keep ss tp ts _ _ h4 fun a ha => hk a (List.mem_cons_of_mem _ ha))
  | .fl ts, _, _, h, hk => by cases h with | fl h1 h2 => exact .fl (ss _ _ h1) (oall_keep ss tp ts _ _ h2 hk)
theorem oall_keep (ss : Same S S') (tp : ∀ b xs, H b = some (.tup xs) → H' b = some (.tup xs)) : ∀ (ts : List OT) (vs : List V) (A : List Addr), OAll S H vs ts A → (∀ a ∈ A, S' a = none ∧ H' a = H a) → OAll S' H' vs ts A
  | [], _, _, h, _ => by cases h; exact .nil
  | t :: ts, _, _, h, hk => by
    cases h with
    | cons h1 h2 => exact .cons (ook_keep ss tp t _ _ h1 fun a ha => hk a (List.mem_append_left _ ha)) (oall_keep ss tp ts _ _ h2 fun a ha => hk a (List.mem_append_right _ ha))
end
mutual
theorem ook_at : ∀ (t : OT) (v : V) (A : List Addr), OOk S H v t A → ∀ a ∈ A, S a = none ∧ ∃ u, H a = some u ∧ ∀ xs, u ≠ .tup xs
  | .no, _, _, h => by cases h; intro a ha; cases ha
  | .d x, _, _, h => by cases h with | d h => intro a ha; cases ha
  | .nd k ts, _, _, h => by
    cases h with
    | tup h1 h2 => exact oall_at ts _ _ h2
    | nd h0 h1 h2 h3 h4 =>
      intro a ha
      rcases List.mem_cons.mp ha with rfl | ha
      · exact ⟨h2, _, h3, shape_tup h0⟩
      · exact oall_at ts _ _ h4 a ha
  | .fl ts, _, _, h => by cases h with | fl h1 h2 => exact oall_at ts _ _ h2
theorem oall_at : ∀ (ts : List OT) (vs : List V) (A : List Addr), OAll S H vs ts A → ∀ a ∈ A, S a = none ∧ ∃ u, H a = some u ∧ ∀ xs, u ≠ .tup xs
  | [], _, _, h => by cases h; intro a ha; cases ha
  | t :: ts, _, _, h => by
    cases h with
    | cons h1 h2 =>
      intro a ha
      rcases List.mem_append.mp ha with ha | ha
      · exact ook_at t _ _ h1 a ha
      · exact oall_at ts _ _ h2 a ha
end
theorem vDf {v : V} {x : D} (f : flat x = true) (h : Rp S v x) : vD v = some x := by
  cases h with
  | non => rfl
  | bl b => rfl
  | int i => rfl
  | str x => rfl
  | lst _ _ => cases f
  | tup _ _ => cases f
  | dcT _ _ => cases f
  | dcK _ _ => cases f
theorem dct_flat {κ : Type} (f : κ → D) : ∀ {ks : List κ} {ts : List OT} {vs : List V} {A : List Addr} {xs : List D}, ks.length = ts.length → OAll S H vs ts A → flatDs ts = some xs → dctD f (ks.zip vs) = some ((ks.map f).zip xs)
  | [], [], _, _, xs, _, h, e => by cases h; simp [flatDs] at e; subst e; rfl
  | k :: ks, .d x :: ts, _, _, xs, hl, h, e => by
    cases h with
    | cons a b =>
      simp only [flatDs] at e
      split at e
      · rename_i hf
        simp only [Option.map_eq_some_iff] at e
        obtain ⟨ys, e, rfl⟩ := e
        cases a with
        | d a => simp [dctD, vDf hf a, dct_flat f (by simpa using hl) b e]
      · cases e
  | k :: ks, .no :: ts, _, _, xs, _, h, e => by simp [flatDs] at e
  | k :: ks, .nd _ _ :: ts, _, _, xs, _, h, e => by simp [flatDs] at e
  | k :: ks, .fl _ :: ts, _, _, xs, _, h, e => by simp [flatDs] at e
mutual
/-- read as data -/
theorem ook_rp (sh : Same S H) : ∀ (t : OT) (v : V) (A : List Addr) (x : D), OOk S H v t A → t.toD = some x → Rp H v x
  | .no, _, _, _, h, e => by simp [OT.toD] at e
  | .d y, _, _, x, h, e => by
    cases h with
    | d h => simp only [OT.toD, Option.some.injEq] at e; subst e; exact dp_mono sh _ _ h
  | .nd k ts, _, _, x, h, e => by
    cases h with
    | tup h1 h2 =>
      simp only [OT.toD, Option.map_eq_some_iff] at e
      obtain ⟨xs, e, rfl⟩ := e
      exact .tup h1 (oall_rp sh ts _ _ xs h2 e)
    | nd h0 h1 h2 h3 h4 =>
      cases k with
      | lst =>
        simp only [OT.toD, Option.map_eq_some_iff] at e
        obtain ⟨xs, e, rfl⟩ := e
        exact .lst (SqL.of h3) (oall_rp sh ts _ _ xs h4 e)
      | tup => simp [Kd.isTup] at h0
      | dK ks =>
        simp only [OT.toD] at e
        split at e
        · rename_i hl
          simp only [Option.map_eq_some_iff] at e
          obtain ⟨xs, e, rfl⟩ := e
          exact .dcK h3 (dct_flat keyD hl h4 e)
        · cases e
      | dT ks =>
        simp only [OT.toD] at e
        split at e
        · rename_i hl
          simp only [Option.map_eq_some_iff] at e
          obtain ⟨xs, e, rfl⟩ := e
          exact .dcT h3 (dct_flat keyTD hl h4 e)
        · cases e
  | .fl ts, _, _, x, h, e => by
    cases h with
    | fl h1 h2 =>
      simp only [OT.toD, Option.map_eq_some_iff] at e
      obtain ⟨xs, e, rfl⟩ := e
      exact .lst (SqL.of (sh _ _ h1)) (oall_rp sh ts _ _ xs h2 e)
theorem oall_rp (sh : Same S H) : ∀ (ts : List OT) (vs : List V) (A : List Addr) (xs : List D), OAll S H vs ts A → OT.toDs ts = some xs → RpAll H vs xs
  | [], _, _, _, h, e => by cases h; simp only [OT.toDs, Option.some.injEq] at e; subst e; exact .nil
  | t :: ts, _, _, xs, h, e => by
    cases h with
    | cons h1 h2 =>
      cases e1 : t.toD with
      | none => simp [OT.toDs, e1] at e
      | some y =>
        cases e2 : OT.toDs ts with
        | none => simp [OT.toDs, e1, e2] at e
        | some ys =>
          simp only [OT.toDs, e1, e2, Option.some.injEq] at e
          subst e
          exact .cons (ook_rp sh t _ _ y h1 e1) (oall_rp sh ts _ _ ys h2 e2)
end
mutual
/-- frozen -/
theorem ook_frz (sh : Same S H) {C : List Addr} : ∀ (t : OT) (v : V) (A : List Addr) (x : D), OOk S H v t A → (∀ a ∈ A, a ∈ C) → t.toD = some x → Rp (frz S H C) v x
  | .no, _, _, _, h, _, e => by simp [OT.toD] at e
  | .d y, _, _, x, h, _, e => by
    cases h with
    | d h => simp only [OT.toD, Option.some.injEq] at e; subst e; exact dp_mono (frz_same sh) _ _ h
  | .nd k ts, _, _, x, h, hc, e => by
    cases h with
    | tup h1 h2 =>
      simp only [OT.toD, Option.map_eq_some_iff] at e
      obtain ⟨xs, e, rfl⟩ := e
      exact .tup (frz_tup h1) (oall_frz sh ts _ _ xs h2 hc e)
    | nd h0 h1 h2 h3 h4 =>
      cases k with
      | lst =>
        simp only [OT.toD, Option.map_eq_some_iff] at e
        obtain ⟨xs, e, rfl⟩ := e
        exact .lst (SqL.of ((frz_in (hc _ List.mem_cons_self)).trans h3)) (oall_frz sh ts _ _ xs h4 (fun a ha => hc a (List.mem_cons_of_mem _ ha)) e)
      | tup => simp [Kd.isTup] at h0
      | dK ks =>
        simp only [OT.toD] at e
        split at e
        · rename_i hl
          simp only [Option.map_eq_some_iff] at e
          obtain ⟨xs, e, rfl⟩ := e
          exact .dcK ((frz_in (hc _ List.mem_cons_self)).trans h3) (dct_flat keyD hl h4 e)
        · cases e
      | dT ks =>
        simp only [OT.toD] at e
        split at e
        · rename_i hl
          simp only [Option.map_eq_some_iff] at e
          obtain ⟨xs, e, rfl⟩ := e
          exact .dcT ((frz_in (hc _ List.mem_cons_self)).trans h3) (dct_flat keyTD hl h4 e)
        · cases e
  | .fl ts, _, _, x, h, hc, e => by
    cases h with
    | fl h1 h2 =>
      simp only [OT.toD, Option.map_eq_some_iff] at e
      obtain ⟨xs, e, rfl⟩ := e
      exact .lst (SqL.of (frz_same sh _ _ h1)) (oall_frz sh ts _ _ xs h2 hc e)
theorem oall_frz (sh : Same S H) {C : List Addr} : ∀ (ts : List OT) (vs : List V) (A : List Addr) (xs : List D), OAll S H vs ts A → (∀ a ∈ A, a ∈ C) → OT.toDs ts = some xs → RpAll (frz S H C) vs xs
  | [], _, _, _, h, _, e => by cases h; simp only [OT.toDs, Option.some.injEq] at e; subst e; exact .nil
  | t :: ts, _, _, xs, h, hc, e => by
    cases h with
    | cons h1 h2 =>
      cases e1 : t.toD with
      | none => simp [OT.toDs, e1] at e
      | some y =>
        cases e2 : OT.toDs ts with
        | none => simp [OT.toDs, e1, e2] at e
        | some ys =>
          simp only [OT.toDs, e1, e2, Option.some.injEq] at e
          subst e
          exact .cons (ook_frz sh t _ _ y h1 (fun a ha => hc a (List.mem_append_left _ ha)) e1) (oall_frz sh ts _ _ ys h2 (fun a ha => hc a (List.mem_append_right _ ha)) e2)
end
/-- no list within -/
def tfl : D → Bool
  | .none => true
  | .bool _ => true
  | .int _ => true
  | .str _ => true
  | .tuple xs => xs.attach.all fun ⟨x, _⟩ => tfl x
  | .list _ => false
  | .dict _ => false
theorem tfl_tup {xs : List D} (h : tfl (.tuple xs) = true) : ∀ x ∈ xs, tfl x = true := by
  unfold tfl at h
  rw [List.all_eq_true] at h
  exact fun x hx => h ⟨x, hx⟩ (List.mem_attach _ _)
theorem tfl_of {xs : List D} (h : ∀ x ∈ xs, tfl x = true) : tfl (.tuple xs) = true := by
  unfold tfl
  rw [List.all_eq_true]
  exact fun ⟨x, hx⟩ _ => h x hx
mutual
theorem rp_tfl (C : List Addr) : ∀ (x : D) (v : V), tfl x = true → Rp H v x → Rp (frz S H C) v x
  | .none, _, _, h => by cases h; exact .non
  | .bool b, _, _, h => by cases h; exact .bl b
  | .int i, _, _, h => by cases h; exact .int i
  | .str x, _, _, h => by cases h; exact .str x
  | .list ds, _, f, _ => by simp [tfl] at f
  | .tuple ds, _, f, h => by
    cases h with
    | tup hs ha => exact .tup (frz_tup hs) (rpa_tfl C ds _ (tfl_tup f) ha)
  | .dict _, _, f, _ => by simp [tfl] at f
theorem rpa_tfl (C : List Addr) : ∀ (xs : List D) (vs : List V), (∀ x ∈ xs, tfl x = true) → RpAll H vs xs → RpAll (frz S H C) vs xs
  | [], _, _, h => by cases h; exact .nil
  | x :: xs, _, f, h => by
    cases h with
    | cons a b => exact .cons (rp_tfl C x _ (f x List.mem_cons_self) a) (rpa_tfl C xs _ (fun y hy => f y (List.mem_cons_of_mem _ hy)) b)
end
theorem xt_frz (sh : Same S H) : Xt S H (frz S H []) H :=
  ⟨Same.refl H, frz_same sh, frz_sub sh, fun b o e => by
    rcases frz_nw e with z | z | ⟨xs, z⟩
    · exact .inl z
    · cases z
    · exact .inr fun u hu => ⟨xs, by rw [z] at hu; exact (Option.some.inj hu).symm⟩⟩
theorem oall_of_rp {vs : List V} {ds : List D} (h : RpAll S vs ds) : OAll S H vs (ds.map .d) [] := by
  induction ds generalizing vs with
  | nil => cases h; exact .nil
  | cons x ds ih => cases h with | cons a t => exact (OAll.cons (.d a) (ih t) : OAll S H _ _ ([] ++ []))

/-! ### slots -/
inductive OSl (S H : Hp) : Option V → OT → List Addr → Prop
  | no {v : Option V} : OSl S H v .no []
  | is {v : V} {t : OT} {A : List Addr} : OOk S H v t A → OSl S H (some v) t A
theorem OSl.keep {v : Option V} {t : OT} {A : List Addr} (h : OSl S H v t A) (ss : Same S S') (tp : ∀ b xs, H b = some (.tup xs) → H' b = some (.tup xs)) (k : ∀ a ∈ A, S' a = none ∧ H' a = H a) : OSl S' H' v t A := by
  cases h with
  | no => exact .no
  | is h => exact .is (ook_keep ss tp _ _ _ h k)
theorem OSl.at {v : Option V} {t : OT} {A : List Addr} (h : OSl S H v t A) : ∀ a ∈ A, S a = none ∧ ∃ u, H a = some u ∧ ∀ xs, u ≠ .tup xs := by
  cases h with
  | no => intro a ha; cases ha
  | is h => exact ook_at _ _ _ h
inductive EOk (S H : Hp) : List (Option V) → List OT → List Addr → Prop
  | nil : EOk S H [] [] []
  | cons {v : Option V} {s : OT} {A : List Addr} {σ : List (Option V)} {ρ : List OT} {B : List Addr} : OSl S H v s A → EOk S H σ ρ B → EOk S H (v :: σ) (s :: ρ) (A ++ B)
theorem EOk.keep {σ : List (Option V)} {ρ : List OT} {A : List Addr} (h : EOk S H σ ρ A) (ss : Same S S') (tp : ∀ b xs, H b = some (.tup xs) → H' b = some (.tup xs)) (k : ∀ a ∈ A, S' a = none ∧ H' a = H a) : EOk S' H' σ ρ A := by
  induction h with
  | nil => exact .nil
  | cons h _ ih => exact .cons (h.keep ss tp fun a ha => k a (List.mem_append_left _ ha)) (ih fun a ha => k a (List.mem_append_right _ ha))
theorem EOk.at {σ : List (Option V)} {ρ : List OT} {A : List Addr} (h : EOk S H σ ρ A) : ∀ a ∈ A, S a = none ∧ ∃ u, H a = some u ∧ ∀ xs, u ≠ .tup xs := by
  induction h with
  | nil => intro a ha; cases ha
  | cons h _ ih =>
    intro a ha
    rcases List.mem_append.mp ha with ha | ha
    · exact h.at a ha
    · exact ih a ha
theorem EOk.ext {σ : List (Option V)} {ρ : List OT} {A : List Addr} (h : EOk S H σ ρ A) (x : Xt S H S' H') : EOk S' H' σ ρ A :=
  h.keep x.ss (fun b xs e => x.hh b _ e) fun a ha => by
    obtain ⟨h1, u, h2, h3⟩ := h.at a ha
    exact ⟨x.out h1 h2 h3, by rw [h2]; exact x.hh a u h2⟩
theorem EOk.len {σ : List (Option V)} {ρ : List OT} {A : List Addr} (h : EOk S H σ ρ A) : σ.length = ρ.length := by
  induction h with
  | nil => rfl
  | cons _ _ ih => rw [List.length_cons, List.length_cons, ih]
/-- one slot taken out of the rest; with anything in its place the rest stays -/
theorem EOk.pick {σ : List (Option V)} {ρ : List OT} {B : List Addr} (h : EOk S H σ ρ B) (nd : B.Nodup) : ∀ {i : Nat} {s : OT}, ρ[i]? = some s → ∃ v A, σ[i]? = some v ∧ OSl S H v s A ∧ A.Nodup ∧ (∀ a ∈ A, a ∈ B) ∧
    ∀ {S' H' : Hp} {v' : Option V} {s' : OT} {A' : List Addr}, Same S S' → (∀ b xs, H b = some (.tup xs) → H' b = some (.tup xs)) → (∀ a ∈ B, a ∉ A → S' a = none ∧ H' a = H a) → OSl S' H' v' s' A' → A'.Nodup → (∀ a ∈ A', a ∈ A ∨ a ∉ B) →
      ∃ B', EOk S' H' (σ.set i v') (ρ.set i s') B' ∧ B'.Nodup ∧ ∀ a ∈ B', a ∈ A' ∨ (a ∈ B ∧ a ∉ A) := by
  induction h with
  | nil => intro i s e; simp at e
  | @cons v0 s0 A0 σ ρ B h0 ht ih =>
    have nd1 : A0.Nodup := (List.nodup_append.mp nd).1
    have nd2 : B.Nodup := (List.nodup_append.mp nd).2.1
    have dj : ∀ a ∈ A0, a ∉ B := fun a ha hb => (List.nodup_append.mp nd).2.2 a ha a hb rfl
    intro i s e
    cases i with
    | zero =>
      have e' : s0 = s := by simpa using e
      subst e'
      refine ⟨v0, A0, rfl, h0, nd1, fun a ha => List.mem_append_left _ ha, fun {S' H' v' s' A'} ss tp k h' n' m' => ?_⟩
      refine ⟨A' ++ B, .cons h' (ht.keep ss tp fun a ha => k a (List.mem_append_right _ ha) fun z => dj a z ha), ?_, fun a ha => ?_⟩
      · refine List.nodup_append.mpr ⟨n', nd2, fun a ha b hb e => ?_⟩
        subst e
        rcases m' a ha with z | z
        · exact dj a z hb
        · exact z (List.mem_append_right _ hb)
      · rcases List.mem_append.mp ha with z | z
        · exact .inl z
        · exact .inr ⟨List.mem_append_right _ z, fun y => dj a y z⟩
    | succ i =>
      obtain ⟨v, A, e1, e2, e3, e4, e5⟩ := ih nd2 (i := i) (s := s) (by simpa using e)
      refine ⟨v, A, by simpa using e1, e2, e3, fun a ha => List.mem_append_right _ (e4 a ha), fun {S' H' v' s' A'} ss tp k h' n' m' => ?_⟩
      obtain ⟨B', q1, q2, q3⟩ := e5 (v' := v') ss tp (fun a ha na => k a (List.mem_append_right _ ha) na) h' n' (fun a ha => by
        rcases m' a ha with z | z
        · exact .inl z
        · exact .inr fun hb => z (List.mem_append_right _ hb))
      refine ⟨A0 ++ B', .cons (h0.keep ss tp fun a ha => k a (List.mem_append_left _ ha) fun z => dj a ha (e4 a z)) q1, ?_, fun a ha => ?_⟩
      · refine List.nodup_append.mpr ⟨nd1, q2, fun a ha b hb e => ?_⟩
        subst e
        rcases q3 a hb with z | z
        · rcases m' a z with y | y
          · exact dj a ha (e4 a y)
          · exact y (List.mem_append_left _ ha)
        · exact dj a ha z.1
      · rcases List.mem_append.mp ha with z | z
        · exact .inr ⟨List.mem_append_left _ z, fun y => dj a z (e4 a y)⟩
        · rcases q3 a z with y | y
          · exact .inl y
          · exact .inr ⟨List.mem_append_right _ y.1, y.2⟩
theorem set_same {α : Type} {xs : List α} {i : Nat} {v : α} (h : xs[i]? = some v) : xs.set i v = xs := set_self h

structure Ok (S0 H0 : Hp) (A0 : List Addr) (S H : Hp) (σ : List (Option V)) (ρ : List OT) : Prop where
  xt : Xa A0 S0 H0 S H
  env : ∃ A, EOk S H σ ρ A ∧ A.Nodup ∧ ∀ a ∈ A, a ∈ A0 ∨ H0 a = none
variable {A0 : List Addr} {σ : List (Option V)} {ρ : List OT}
theorem Ok.sh (o : Ok S0 H0 A0 S H σ ρ) : Same S H := o.xt.sh
theorem Ok.ext (o : Ok S0 H0 A0 S H σ ρ) (x : Xt S H S' H') : Ok S0 H0 A0 S' H' σ ρ := by
  obtain ⟨A, h1, h2, h3⟩ := o.env
  exact ⟨o.xt.trans (.of x), A, h1.ext x, h2, h3⟩
theorem Ok.len (o : Ok S0 H0 A0 S H σ ρ) : σ.length = ρ.length := let ⟨_, h, _⟩ := o.env; h.len
/-- something new is held on top -/
theorem Ok.push (o : Ok S0 H0 A0 S H σ ρ) (x : Xt S H S' H') {v : V} {t : OT} {A : List Addr} (h : OOk S' H' v t A) (nd : A.Nodup) (fr : ∀ a ∈ A, H a = none) : Ok S0 H0 A0 S' H' (some v :: σ) (t :: ρ) := by
  obtain ⟨B, h1, h2, h3⟩ := o.env
  refine ⟨o.xt.trans (.of x), A ++ B, .cons (.is h) (h1.ext x), List.nodup_append.mpr ⟨nd, h2, fun a ha b hb e => ?_⟩, fun a ha => ?_⟩
  · subst e
    obtain ⟨_, u, hu, _⟩ := h1.at a hb
    rw [fr a ha] at hu; cases hu
  · rcases List.mem_append.mp ha with z | z
    · exact .inr (o.xt.dm a (fr a z))
    · exact h3 a z
theorem Ok.pushD (o : Ok S0 H0 A0 S H σ ρ) {v : V} {x : D} (h : Rp S v x) : Ok S0 H0 A0 S H (some v :: σ) (.d x :: ρ) := o.push (.refl o.sh) (.d h) List.nodup_nil (fun a ha => by cases ha)
/-- what is on top is let go -/
theorem Ok.drop {v : Option V} {t : OT} (o : Ok S0 H0 A0 S H (v :: σ) (t :: ρ)) : Ok S0 H0 A0 S H σ ρ := by
  obtain ⟨A, h1, h2, h3⟩ := o.env
  cases h1 with
  | cons h ht => exact ⟨o.xt, _, ht, (List.nodup_append.mp h2).2.1, fun a ha => h3 a (List.mem_append_right _ ha)⟩
/-- the top put into slot i of what is below it -/
theorem Ok.store {v : Option V} {t : OT} (o : Ok S0 H0 A0 S H (v :: σ) (t :: ρ)) (i : Nat) : Ok S0 H0 A0 S H (σ.set i v) (ρ.set i t) := by
  obtain ⟨A, h1, h2, h3⟩ := o.env
  cases h1 with
  | @cons _ _ A1 _ _ B h ht =>
    have nd := List.nodup_append.mp h2
    by_cases hi : i < ρ.length
    · obtain ⟨v0, C, e1, e2, e3, e4, e5⟩ := ht.pick nd.2.1 (i := i) (s := ρ[i]) (by simp [hi])
      obtain ⟨B', q1, q2, q3⟩ := e5 (v' := v) (Same.refl S) (fun _ _ z => z) (fun a ha _ => ⟨(ht.at a ha).1, rfl⟩) h nd.1 (fun a ha => .inr fun hb => nd.2.2 a ha a hb rfl)
      refine ⟨o.xt, B', q1, q2, fun a ha => ?_⟩
      rcases q3 a ha with z | z
      · exact h3 a (List.mem_append_left _ z)
      · exact h3 a (List.mem_append_right _ z.1)
    · have l := ht.len
      rw [List.set_eq_of_length_le (by omega), List.set_eq_of_length_le (by omega)]
      exact o.drop
/-- a slot's reading -/
theorem Ok.get (o : Ok S0 H0 A0 S H σ ρ) {i : Nat} {t : OT} (h : ρ[i]? = some t) : ∃ v A, σ[i]? = some v ∧ OSl S H v t A := by
  obtain ⟨A, he, hn, _⟩ := o.env
  obtain ⟨v, A', e1, e2, _⟩ := he.pick hn h
  exact ⟨v, A', e1, e2⟩
/-- slot i frozen -/
theorem Ok.freeze (o : Ok S0 H0 A0 S H σ ρ) {i : Nat} {t : OT} {x : D} (h : ρ[i]? = some t) (e : t.toD = some x) : ∃ S', Same S S' ∧ Ok S0 H0 A0 S' H σ (ρ.set i (.d x)) := by
  obtain ⟨B, he, nd, fr⟩ := o.env
  obtain ⟨v, A, e1, e2, e3, e4, e5⟩ := he.pick nd h
  cases e2 with
  | no => simp [OT.toD] at e
  | @is v _ _ h2 =>
    obtain ⟨B', q1, q2, q3⟩ := e5 (S' := frz S H A) (H' := H) (v' := some v) (s' := .d x) (A' := []) (frz_same o.sh) (fun _ _ z => z) (fun a ha na => ⟨by
      obtain ⟨z1, u, z2, z3⟩ := he.at a ha
      rw [frz_out na fun xs z => by rw [z2] at z; exact z3 xs (Option.some.inj z)]
      exact z1, rfl⟩) (.is (.d (ook_frz o.sh _ _ _ _ h2 (fun _ z => z) e))) List.nodup_nil (fun a ha => by cases ha)
    rw [set_same e1] at q1
    refine ⟨frz S H A, frz_same o.sh, ⟨o.xt.hh, o.xt.dm, o.xt.tp, o.xt.ss.trans (frz_same o.sh), frz_sub o.sh, fun b u eb => ?_⟩, B', q1, q2, fun a ha => ?_⟩
    · rcases frz_nw eb with z | z | ⟨xs, z⟩
      · exact o.xt.nw b u z
      · rcases fr b (e4 b z) with y | y
        · exact .inr (.inl y)
        · exact .inr (.inr fun w hw => by rw [y] at hw; cases hw)
      · by_cases hb : b ∈ A0
        · exact .inr (.inl hb)
        · exact .inr (.inr fun w hw => by
            have := o.xt.hh b w hb hw
            rw [z] at this
            exact ⟨xs, (Option.some.inj this).symm⟩)
    · rcases q3 a ha with z | z
      · cases z
      · exact fr a z.1
end
end MR

namespace MR
open PySem L2 PL
abbrev Env := List OT
variable [kf : KF]

/-! ### judgements: te run at the slots ρ -/
/-- a result of its own, held on top; the slots are ρ' then -/
def EvY (te : TE) (ρ : Env) (r : OT) (ρ' : Env) : Prop := ∀ (S0 H0 : Hp) (A0 : List Addr) (S H : Hp) (τσ : List (Option V)) (τρ : List OT) (σ : St) (Q : VK), τσ.length = τρ.length → Ok S0 H0 A0 S H (τσ ++ σ) (τρ ++ ρ) →
  (∀ v S' H', Same S S' → Ok S0 H0 A0 S' H' (some v :: (τσ ++ σ)) (r :: (τρ ++ ρ')) → Q v H') → te σ H Q
/-- a frozen result -/
def EvD (te : TE) (ρ : Env) (x : D) (ρ' : Env) : Prop := ∀ (S0 H0 : Hp) (A0 : List Addr) (S H : Hp) (τσ : List (Option V)) (τρ : List OT) (σ : St) (Q : VK), τσ.length = τρ.length → Ok S0 H0 A0 S H (τσ ++ σ) (τρ ++ ρ) →
  (∀ v S' H', Same S S' → Ok S0 H0 A0 S' H' (τσ ++ σ) (τρ ++ ρ') → Rp S' v x → Q v H') → te σ H Q
/-- read: nothing changes -/
def RdE (te : TE) (ρ : Env) (x : D) : Prop := ∀ (S0 H0 : Hp) (A0 : List Addr) (S H : Hp) (τσ : List (Option V)) (τρ : List OT) (σ : St) (Q : VK), τσ.length = τρ.length → Ok S0 H0 A0 S H (τσ ++ σ) (τρ ++ ρ) →
  (∀ v S' H', Xt S H S' H' → Rp H' v x → Q v H') → te σ H Q
/-- read as a list whose items are frozen -/
def RdI (te : TE) (ρ : Env) (xs : List D) : Prop := ∀ (S0 H0 : Hp) (A0 : List Addr) (S H : Hp) (τσ : List (Option V)) (τρ : List OT) (σ : St) (Q : VK), τσ.length = τρ.length → Ok S0 H0 A0 S H (τσ ++ σ) (τρ ++ ρ) →
  (∀ a vs S' H', Xt S H S' H' → SqL kf.K H' a vs → RpAll S' vs xs → Q (.ref a) H') → te σ H Q
def RdB (tt : TT) (ρ : Env) (b : Bool) : Prop := ∀ (S0 H0 : Hp) (A0 : List Addr) (S H : Hp) (τσ : List (Option V)) (τρ : List OT) (σ : St) (Q : Bool → Hp → Prop), τσ.length = τρ.length → Ok S0 H0 A0 S H (τσ ++ σ) (τρ ++ ρ) →
  (∀ S' H', Xt S H S' H' → Q b H') → tt σ H Q
def EvT (tt : TT) (ρ : Env) (b : Bool) (ρ' : Env) : Prop := ∀ (S0 H0 : Hp) (A0 : List Addr) (S H : Hp) (τσ : List (Option V)) (τρ : List OT) (σ : St) (Q : Bool → Hp → Prop), τσ.length = τρ.length → Ok S0 H0 A0 S H (τσ ++ σ) (τρ ++ ρ) →
  (∀ S' H', Same S S' → Ok S0 H0 A0 S' H' (τσ ++ σ) (τρ ++ ρ') → Q b H') → tt σ H Q
/-- arguments, frozen -/
def EvL (ta : TA) (ρ : Env) (xs : List D) (ρ' : Env) : Prop := ∀ (S0 H0 : Hp) (A0 : List Addr) (S H : Hp) (τσ : List (Option V)) (τρ : List OT) (σ : St) (Q : List V → Hp → Prop), τσ.length = τρ.length → Ok S0 H0 A0 S H (τσ ++ σ) (τρ ++ ρ) →
  (∀ vs S' H', Same S S' → Ok S0 H0 A0 S' H' (τσ ++ σ) (τρ ++ ρ') → RpAll S' vs xs → Q vs H') → ta σ H Q
def RdL (ta : TA) (ρ : Env) (xs : List D) : Prop := ∀ (S0 H0 : Hp) (A0 : List Addr) (S H : Hp) (τσ : List (Option V)) (τρ : List OT) (σ : St) (Q : List V → Hp → Prop), τσ.length = τρ.length → Ok S0 H0 A0 S H (τσ ++ σ) (τρ ++ ρ) →
  (∀ vs S' H', Xt S H S' H' → RpAll H' vs xs → Q vs H') → ta σ H Q
/-- items of one's own, the last on top -/
def EvYs (ta : TA) (ρ : Env) (rs : List OT) (ρ' : Env) : Prop := ∀ (S0 H0 : Hp) (A0 : List Addr) (S H : Hp) (τσ : List (Option V)) (τρ : List OT) (σ : St) (Q : List V → Hp → Prop), τσ.length = τρ.length → Ok S0 H0 A0 S H (τσ ++ σ) (τρ ++ ρ) →
  (∀ vs S' H', Same S S' → vs.length = rs.length → Ok S0 H0 A0 S' H' ((vs.map some).reverse ++ (τσ ++ σ)) (rs.reverse ++ (τρ ++ ρ')) → Q vs H') → ta σ H Q

section
variable {ρ ρ1 ρ2 ρ' : Env} {ta tb tc te : TE} {t u : TT} {d e x y : D} {r s : OT} {S H S' H' S0 H0 : Hp} {A0 : List Addr} {σ τσ : St} {τρ : List OT}
theorem Ok.same1 {v : V} (o : Ok S0 H0 A0 S H (some v :: σ) (.d x :: ρ)) : Rp S v x := by
  obtain ⟨A, h1, _, _⟩ := o.env
  cases h1 with
  | cons h _ => cases h with | is h => cases h with | d h => exact h
/-- frozen on top -/
theorem evy_of (h : EvD te ρ x ρ') : EvY te ρ (.d x) ρ' := fun S0 H0 A0 S H τσ τρ σ Q l o q => h S0 H0 A0 S H τσ τρ σ Q l o fun v S' H' ss o' hr => q v S' H' ss (o'.pushD hr)
theorem evd_of (h : EvY te ρ r ρ') (e : r.toD = some x) : EvD te ρ x ρ' := fun S0 H0 A0 S H τσ τρ σ Q l o q => h S0 H0 A0 S H τσ τρ σ Q l o fun v S' H' ss o' => by
  obtain ⟨S2, s2, o2⟩ := o'.freeze (i := 0) rfl e
  exact q v S2 H' (ss.trans s2) o2.drop o2.same1
theorem evd_flat (h : RdE te ρ x) (f : tfl x = true) : EvD te ρ x ρ := fun S0 H0 A0 S H τσ τρ σ Q l o q => h S0 H0 A0 S H τσ τρ σ Q l o fun v S' H' xt hr =>
  q v _ H' (xt.trans (xt_frz xt.sh)).ss (o.ext (xt.trans (xt_frz xt.sh))) (rp_tfl [] x v f hr)
theorem get_app {α β : Type} {xs ys : List α} {as : List β} {i : Nat} (l : xs.length = as.length) : (xs ++ ys)[as.length + i]? = ys[i]? := by
  rw [List.getElem?_append_right (by omega)]; congr 1; omega
theorem set_app {α β : Type} {xs ys : List α} {as : List β} {i : Nat} {v : α} (l : xs.length = as.length) : (xs ++ ys).set (as.length + i) v = xs ++ ys.set i v := by
  rw [List.set_append_right _ _ (by omega)]; congr 2; omega
/-- slot i as it stands -/
theorem Ok.slot (l : τσ.length = τρ.length) (o : Ok S0 H0 A0 S H (τσ ++ σ) (τρ ++ ρ)) {i : Nat} (h : ρ[i]? = some r) (hn : r ≠ .no) : ∃ v A, σ[i]? = some (some v) ∧ OOk S H v r A := by
  obtain ⟨v, A, e1, e2⟩ := o.get (i := τρ.length + i) (t := r) (by rw [get_app rfl]; exact h)
  rw [get_app l] at e1
  cases e2 with
  | no => exact (hn rfl).elim
  | is e2 => exact ⟨_, A, e1, e2⟩
theorem toD_no (e : r.toD = some x) : r ≠ .no := by rintro rfl; simp [OT.toD] at e
theorem rd_var {i : Nat} (h : ρ[i]? = some r) (e : r.toD = some x) : RdE (tVar i) ρ x := fun S0 H0 A0 S H τσ τρ σ Q l o q => by
  obtain ⟨v, A, e1, e2⟩ := o.slot l h (toD_no e)
  exact ⟨v, e1, q v S H (.refl o.sh) (ook_rp o.sh _ _ _ _ e2 e)⟩
/-- a slot handed on: frozen -/
theorem evd_var {i : Nat} (h : ρ[i]? = some r) (e : r.toD = some x) : EvD (tVar i) ρ x (ρ.set i (.d x)) := fun S0 H0 A0 S H τσ τρ σ Q l o q => by
  obtain ⟨S', ss, o'⟩ := o.freeze (i := τρ.length + i) (t := r) (by rw [get_app rfl]; exact h) e
  rw [set_app rfl] at o'
  have hi : i < ρ.length := (List.getElem?_eq_some_iff.mp h).1
  obtain ⟨v, A, e1, e2⟩ := o'.slot l (i := i) (r := .d x) (by rw [List.getElem?_set_self hi]) (by intro z; cases z)
  cases e2 with
  | d e2 => exact ⟨v, e1, q v S' H ss o' e2⟩
theorem evd_varD {i : Nat} (h : ρ[i]? = some (.d x)) : EvD (tVar i) ρ x ρ := fun S0 H0 A0 S H τσ τρ σ Q l o q => by
  obtain ⟨v, A, e1, e2⟩ := o.slot l (i := i) (r := .d x) h (by intro z; cases z)
  cases e2 with
  | d e2 => exact ⟨v, e1, q v S H (Same.refl S) o e2⟩
/-- a slot moved out -/
theorem Ok.move (o : Ok S0 H0 A0 S H σ ρ) {i : Nat} {v : V} (h : ρ[i]? = some r) (hv : σ[i]? = some (some v)) (hn : r ≠ .no) : Ok S0 H0 A0 S H (some v :: σ) (r :: ρ.set i .no) := by
  obtain ⟨B, he, nd, fr⟩ := o.env
  obtain ⟨v', A, e1, e2, e3, e4, e5⟩ := he.pick nd h
  rw [hv] at e1
  cases e1
  have key : ∀ {σ : St} {ρ : Env} {B : List Addr}, EOk S H σ ρ B → B.Nodup → ∀ {i : Nat}, ρ[i]? = some r → σ[i]? = some (some v) → ∃ A C, OOk S H v r A ∧ EOk S H σ (ρ.set i .no) C ∧ (A ++ C).Nodup ∧ ∀ a ∈ A ++ C, a ∈ B := by
    intro σ ρ B h
    induction h with
    | nil => intro _ i e; simp at e
    | @cons v0 s0 A0 σ ρ B h0 ht ih =>
      intro nd i e e'
      have nd' := List.nodup_append.mp nd
      cases i with
      | zero =>
        have e : s0 = r := by simpa using e
        have e' : v0 = some v := by simpa using e'
        subst e e'
        cases h0 with
        | no => exact (hn rfl).elim
        | is h0 => exact ⟨A0, [] ++ B, h0, .cons .no ht, nd, fun a ha => ha⟩
      | succ i =>
        obtain ⟨A, C, q1, q2, q3, q4⟩ := ih nd'.2.1 (i := i) (by simpa using e) (by simpa using e')
        refine ⟨A, A0 ++ C, q1, .cons h0 q2, ?_, ?_⟩
        · have q3' := List.nodup_append.mp q3
          refine List.nodup_append.mpr ⟨q3'.1, List.nodup_append.mpr ⟨nd'.1, q3'.2.1, fun a ha b hb => nd'.2.2 a ha b (q4 b (List.mem_append_right _ hb))⟩, fun a ha b hb z => ?_⟩
          subst z
          rcases List.mem_append.mp hb with hb | hb
          · exact nd'.2.2 a hb a (q4 a (List.mem_append_left _ ha)) rfl
          · exact q3'.2.2 a ha a hb rfl
        · intro a ha
          rcases List.mem_append.mp ha with z | z
          · exact List.mem_append_right _ (q4 a (List.mem_append_left _ z))
          · rcases List.mem_append.mp z with z | z
            · exact List.mem_append_left _ z
            · exact List.mem_append_right _ (q4 a (List.mem_append_right _ z))
  obtain ⟨A, C, q1, q2, q3, q4⟩ := key he nd h hv
  exact ⟨o.xt, A ++ C, .cons (.is q1) q2, q3, fun a ha => fr a (q4 a ha)⟩
theorem evy_mov {i : Nat} (h : ρ[i]? = some r) (hn : r ≠ .no) : EvY (tVar i) ρ r (ρ.set i .no) := fun S0 H0 A0 S H τσ τρ σ Q l o q => by
  obtain ⟨v, A, e1, e2⟩ := o.slot l h hn
  have o' := o.move (i := τρ.length + i) (r := r) (v := v) (by rw [get_app rfl]; exact h) (by rw [get_app l]; exact e1) hn
  rw [set_app rfl] at o'
  exact ⟨v, e1, q v S H (Same.refl S) o'⟩
theorem toDs_map : ∀ xs : List D, OT.toDs (xs.map .d) = some xs
  | [] => by simp [OT.toDs]
  | x :: xs => by simp [OT.toDs, OT.toD, toDs_map xs]
theorem oall_rpS : ∀ (ts : List D) (vs : List V) (A : List Addr), OAll S H vs (ts.map .d) A → RpAll S vs ts
  | [], _, _, h => by cases h; exact .nil
  | t :: ts, _, _, h => by cases h with | cons a b => cases a with | d a => exact .cons a (oall_rpS ts _ _ b)
theorem rdi_own {i : Nat} {xs : List D} (h : ρ[i]? = some (.nd .lst (xs.map .d))) : RdI (tVar i) ρ xs := fun S0 H0 A0 S H τσ τρ σ Q l o q => by
  obtain ⟨v, A, e1, e2⟩ := o.slot l h (by intro z; cases z)
  cases e2 with
  | nd h0 h1 h2 h3 h4 => exact ⟨_, e1, q _ _ S H (.refl o.sh) (SqL.of h3) (oall_rpS _ _ _ h4)⟩
theorem rdi_varD {i : Nat} {xs : List D} (h : ρ[i]? = some (.d (.list xs))) : RdI (tVar i) ρ xs := fun S0 H0 A0 S H τσ τρ σ Q l o q => by
  obtain ⟨v, A, e1, e2⟩ := o.slot l h (by intro z; cases z)
  cases e2 with
  | d e2 => cases e2 with | lst h1 h2 => exact ⟨_, e1, q _ _ S H (.refl o.sh) (o.sh.seq h1) h2⟩
theorem rd_c {v : V} (h : vD v = some x) : RdE (tC v) ρ x := fun S0 H0 A0 S H τσ τρ σ Q l o q => q v S H (.refl o.sh) (vD_dp h)

/-! ### operators: of read operands -/
/-- R tells r of its own -/
def OpS (R : R2) (d e : D) (r : OT) : Prop := ∀ (S H : Hp) (v u : V) (Q : VK), Same S H → Rp H v d → Rp H u e → (∀ v' S' H' A, Xt S H S' H' → OOk S' H' v' r A → A.Nodup → (∀ a ∈ A, H a = none) → Q v' H') → R v u H Q
/-- R tells x, flat -/
def OpF (R : R2) (d e x : D) : Prop := ∀ (H : Hp) (v u : V) (Q : VK), Rp H v d → Rp H u e → (∀ w, vD w = some x → Q w H) → R v u H Q
theorem vD_flat {v : V} (h : vD v = some x) : flat x = true := by cases v <;> simp [vD] at h <;> subst h <;> rfl
theorem rd_op {R : R2} (ha : RdE ta ρ d) (hb : RdE tb ρ e) (hR : OpF R d e x) : RdE (tOp R ta tb) ρ x := fun S0 H0 A0 S H τσ τρ σ Q l o q =>
  ha S0 H0 A0 S H τσ τρ σ _ l o fun v S1 H1 x1 h1 => hb S0 H0 A0 S1 H1 τσ τρ σ _ l (o.ext x1) fun u S2 H2 x2 h2 => hR H2 v u Q (dp_mono x2.hh _ _ h1) h2 fun w hw => q w S2 H2 (x1.trans x2) (vD_dp hw)
theorem evd_op {R : R2} (ha : EvD ta ρ d ρ1) (hb : EvD tb ρ1 e ρ2) (hR : OpF R d e x) : EvD (tOp R ta tb) ρ x ρ2 := fun S0 H0 A0 S H τσ τρ σ Q l o q =>
  ha S0 H0 A0 S H τσ τρ σ _ l o fun v S1 H1 s1 o1 h1 => hb S0 H0 A0 S1 H1 τσ τρ σ _ l o1 fun u S2 H2 s2 o2 h2 => hR H2 v u Q (dp_mono (s2.trans o2.sh) _ _ h1) (dp_mono o2.sh _ _ h2) fun w hw => q w S2 H2 (s1.trans s2) o2 (vD_dp hw)
theorem evd_opR {R : R2} (ha : EvD ta ρ d ρ1) (hb : RdE tb ρ1 e) (hR : OpF R d e x) : EvD (tOp R ta tb) ρ x ρ1 := fun S0 H0 A0 S H τσ τρ σ Q l o q =>
  ha S0 H0 A0 S H τσ τρ σ _ l o fun v S1 H1 s1 o1 h1 => hb S0 H0 A0 S1 H1 τσ τρ σ _ l o1 fun u S2 H2 x2 h2 => hR H2 v u Q (dp_mono (o1.sh.trans x2.hh) _ _ h1) h2 fun w hw => q w S2 H2 (s1.trans x2.ss) (o1.ext x2) (vD_dp hw)
theorem rd_un {R : V → Hp → VK → Prop} (ha : RdE ta ρ d) (hR : ∀ (H : Hp) (v : V) (Q : VK), Rp H v d → (∀ w, vD w = some x → Q w H) → R v H Q) : RdE (tUn R ta) ρ x := fun S0 H0 A0 S H τσ τρ σ Q l o q =>
  ha S0 H0 A0 S H τσ τρ σ _ l o fun v S1 H1 x1 h1 => hR H1 v Q h1 fun w hw => q w S1 H1 x1 (vD_dp hw)

/-! ### data under a subscript -/
/-- the item of read data -/
def IxS (R : R2) (d e x : D) : Prop := ∀ (H : Hp) (v u : V) (Q : VK), Rp H v d → Rp H u e → (∀ w, Rp H w x → Q w H) → R v u H Q
/-- the item of frozen data -/
def IxZ (R : R2) (d e x : D) : Prop := ∀ (S H : Hp) (v u : V) (Q : VK), Same S H → Rp S v d → Rp H u e → (∀ w, Rp S w x → Q w H) → R v u H Q
theorem rd_ix {R : R2} (ha : RdE ta ρ d) (hb : RdE tb ρ e) (hR : IxS R d e x) : RdE (tOp R ta tb) ρ x := fun S0 H0 A0 S H τσ τρ σ Q l o q =>
  ha S0 H0 A0 S H τσ τρ σ _ l o fun v S1 H1 x1 h1 => hb S0 H0 A0 S1 H1 τσ τρ σ _ l (o.ext x1) fun u S2 H2 x2 h2 => hR H2 v u Q (dp_mono x2.hh _ _ h1) h2 fun w hw => q w S2 H2 (x1.trans x2) hw
theorem evd_ixR {R : R2} (ha : EvD ta ρ d ρ1) (hb : RdE tb ρ1 e) (hR : IxZ R d e x) : EvD (tOp R ta tb) ρ x ρ1 := fun S0 H0 A0 S H τσ τρ σ Q l o q =>
  ha S0 H0 A0 S H τσ τρ σ _ l o fun v S1 H1 s1 o1 h1 => hb S0 H0 A0 S1 H1 τσ τρ σ _ l o1 fun u S2 H2 x2 h2 => hR S2 H2 v u Q x2.sh (dp_mono x2.ss _ _ h1) h2 fun w hw => q w S2 H2 (s1.trans x2.ss) (o1.ext x2) hw
theorem evd_ix {R : R2} (ha : EvD ta ρ d ρ1) (hb : EvD tb ρ1 e ρ2) (hR : IxZ R d e x) : EvD (tOp R ta tb) ρ x ρ2 := fun S0 H0 A0 S H τσ τρ σ Q l o q =>
  ha S0 H0 A0 S H τσ τρ σ _ l o fun v S1 H1 s1 o1 h1 => hb S0 H0 A0 S1 H1 τσ τρ σ _ l o1 fun u S2 H2 s2 o2 h2 => hR S2 H2 v u Q o2.sh (dp_mono s2 _ _ h1) (dp_mono o2.sh _ _ h2) fun w hw => q w S2 H2 (s1.trans s2) o2 hw
theorem ixz_list {ds : List D} {n : Int} (e : atI ds n = some x) : IxZ (rIxL kf.K) (.list ds) (.int n) x := fun S H v u Q sh h1 h2 q => by
  cases h2
  cases h1 with
  | lst r1 r2 =>
    obtain ⟨w, e1, e2⟩ := atD r2 e
    exact ⟨_, _, n, w, rfl, rfl, sh.seq r1, e1, q w e2⟩
theorem ixz_tup {ds : List D} {n : Int} (e : atI ds n = some x) : IxZ (rIxT kf.K) (.tuple ds) (.int n) x := fun S H v u Q sh h1 h2 q => by
  cases h2
  cases h1 with
  | tup r1 r2 =>
    obtain ⟨w, e1, e2⟩ := atD r2 e
    exact ⟨_, _, n, w, rfl, rfl, .inl (.of (sh _ _ r1)), e1, q w e2⟩
theorem ixs_of {R : R2} (h : IxZ R d e x) : IxS R d e x := fun H v u Q h1 h2 q => h H H v u Q (Same.refl H) h1 h2 q

/-! ### built-in calls on read arguments -/
def CbF (R : List V → Hp → VK → Prop) (ds : List D) (x : D) : Prop := ∀ (H : Hp) (vs : List V) (Q : VK), RpAll H vs ds → (∀ w, vD w = some x → Q w H) → R vs H Q
def CbS (R : List V → Hp → VK → Prop) (ds : List D) (r : OT) : Prop := ∀ (S H : Hp) (vs : List V) (Q : VK), Same S H → RpAll H vs ds → (∀ v' S' H' A, Xt S H S' H' → OOk S' H' v' r A → A.Nodup → (∀ a ∈ A, H a = none) → Q v' H') → R vs H Q
theorem rd_cb {R : List V → Hp → VK → Prop} {tr : TA} {ds : List D} (h : RdL tr ρ ds) (hR : CbF R ds x) : RdE (tCB R tr) ρ x := fun S0 H0 A0 S H τσ τρ σ Q l o q =>
  h S0 H0 A0 S H τσ τρ σ _ l o fun vs S1 H1 x1 h1 => hR H1 vs Q h1 fun w hw => q w S1 H1 x1 (vD_dp hw)
theorem evd_cb {R : List V → Hp → VK → Prop} {tr : TA} {ds : List D} (h : EvL tr ρ ds ρ1) (hR : CbF R ds x) : EvD (tCB R tr) ρ x ρ1 := fun S0 H0 A0 S H τσ τρ σ Q l o q =>
  h S0 H0 A0 S H τσ τρ σ _ l o fun vs S1 H1 s1 o1 h1 => hR H1 vs Q (dpa_mono o1.sh _ _ h1) fun w hw => q w S1 H1 s1 o1 (vD_dp hw)
theorem evy_cbR {R : List V → Hp → VK → Prop} {tr : TA} {ds : List D} (h : RdL tr ρ ds) (hR : CbS R ds r) : EvY (tCB R tr) ρ r ρ := fun S0 H0 A0 S H τσ τρ σ Q l o q =>
  h S0 H0 A0 S H τσ τρ σ _ l o fun vs S1 H1 x1 h1 => hR S1 H1 vs Q x1.sh h1 fun v' S' H' A xt h2 nd fr => q v' S' H' (x1.ss.trans xt.ss) ((o.ext x1).push xt h2 nd fr)
theorem evy_cb {R : List V → Hp → VK → Prop} {tr : TA} {ds : List D} (h : EvL tr ρ ds ρ1) (hR : CbS R ds r) : EvY (tCB R tr) ρ r ρ1 := fun S0 H0 A0 S H τσ τρ σ Q l o q =>
  h S0 H0 A0 S H τσ τρ σ _ l o fun vs S1 H1 s1 o1 h1 => hR S1 H1 vs Q o1.sh (dpa_mono o1.sh _ _ h1) fun v' S' H' A xt h2 nd fr => q v' S' H' (s1.trans xt.ss) (o1.push xt h2 nd fr)

/-! ### argument lists -/
theorem rdl_nil : RdL tNil ρ [] := fun S0 H0 A0 S H τσ τρ σ Q l o q => q [] S H (.refl o.sh) .nil
theorem rdl_cons {tr : TA} {xs : List D} (ha : RdE ta ρ x) (hr : RdL tr ρ xs) : RdL (tCons ta tr) ρ (x :: xs) := fun S0 H0 A0 S H τσ τρ σ Q l o q =>
  ha S0 H0 A0 S H τσ τρ σ _ l o fun v S1 H1 x1 h1 => hr S0 H0 A0 S1 H1 τσ τρ σ _ l (o.ext x1) fun vs S2 H2 x2 h2 => q _ S2 H2 (x1.trans x2) (.cons (dp_mono x2.hh _ _ h1) h2)
theorem evl_nil : EvL tNil ρ [] ρ := fun S0 H0 A0 S H τσ τρ σ Q l o q => q [] S H (Same.refl S) o .nil
theorem evl_cons {tr : TA} {xs : List D} (ha : EvD ta ρ x ρ1) (hr : EvL tr ρ1 xs ρ2) : EvL (tCons ta tr) ρ (x :: xs) ρ2 := fun S0 H0 A0 S H τσ τρ σ Q l o q =>
  ha S0 H0 A0 S H τσ τρ σ _ l o fun v S1 H1 s1 o1 h1 => hr S0 H0 A0 S1 H1 τσ τρ σ _ l o1 fun vs S2 H2 s2 o2 h2 => q _ S2 H2 (s1.trans s2) o2 (.cons (dp_mono s2 _ _ h1) h2)
theorem evys_nil : EvYs tNil ρ [] ρ := fun S0 H0 A0 S H τσ τρ σ Q l o q => q [] S H (Same.refl S) rfl o
theorem evys_cons {tr : TA} {rs : List OT} (ha : EvY ta ρ r ρ1) (hr : EvYs tr ρ1 rs ρ2) : EvYs (tCons ta tr) ρ (r :: rs) ρ2 := fun S0 H0 A0 S H τσ τρ σ Q l o q =>
  ha S0 H0 A0 S H τσ τρ σ _ l o fun v S1 H1 s1 o1 => hr S0 H0 A0 S1 H1 (some v :: τσ) (r :: τρ) σ _ (by simp [l]) o1 fun vs S2 H2 s2 l2 o2 => q _ S2 H2 (s1.trans s2) (by simp [l2]) (by
    simpa [List.map_cons, List.reverse_cons, List.append_assoc] using o2)
/-- what is held on top taken as items -/
theorem Ok.items : ∀ {vs : List V} {rs : List OT} {σ : St} {ρ : Env}, vs.length = rs.length → Ok S0 H0 A0 S H ((vs.map some).reverse ++ σ) (rs.reverse ++ ρ) → (∀ r ∈ rs, r ≠ .no) →
    ∃ A B, OAll S H vs rs A ∧ EOk S H σ ρ B ∧ (A ++ B).Nodup ∧ ∀ a ∈ A ++ B, a ∈ A0 ∨ H0 a = none
  | [], [], σ, ρ, _, o, _ => by
    obtain ⟨B, h1, h2, h3⟩ := o.env
    exact ⟨[], B, .nil, h1, h2, h3⟩
  | v :: vs, r :: rs, σ, ρ, l, o, hn => by
    have o' : Ok S0 H0 A0 S H ((vs.map some).reverse ++ (some v :: σ)) (rs.reverse ++ (r :: ρ)) := by
      simpa [List.map_cons, List.reverse_cons, List.append_assoc] using o
    obtain ⟨A, B, h1, h2, h3, h4⟩ := Ok.items (by simpa using l) o' fun r' hr => hn r' (List.mem_cons_of_mem _ hr)
    cases h2 with
    | @cons _ _ A1 _ _ B1 p1 p2 =>
      cases p1 with
      | no => exact (hn .no List.mem_cons_self rfl).elim
      | is p1 =>
        refine ⟨A1 ++ A, B1, .cons p1 h1, p2, ?_, ?_⟩
        · have h3' := List.nodup_append.mp h3
          have h5 := List.nodup_append.mp h3'.2.1
          refine List.nodup_append.mpr ⟨List.nodup_append.mpr ⟨h5.1, h3'.1, fun a ha b hb e => h3'.2.2 b hb a (List.mem_append_left _ ha) e.symm⟩, h5.2.1, fun a ha b hb e => ?_⟩
          rcases List.mem_append.mp ha with z | z
          · exact h5.2.2 a z b hb e
          · exact h3'.2.2 a z b (List.mem_append_right _ hb) e
        · intro a ha
          apply h4
          rcases List.mem_append.mp ha with z | z
          · rcases List.mem_append.mp z with z | z
            · exact List.mem_append_right _ (List.mem_append_left _ z)
            · exact List.mem_append_left _ z
          · exact List.mem_append_right _ (List.mem_append_right _ z)
theorem len_le {n : Nat} (h : n ≤ 1000000) : n ≤ sizeLine := sz_of h
/-- a new object over items that are held -/
theorem Ok.node {k : Kd} {vs : List V} {rs : List OT} {B C : List Addr} {p : Addr} (xt : Xa A0 S0 H0 S H) (h1 : OAll S H vs rs B) (h2 : EOk S H σ ρ C) (nd : (B ++ C).Nodup) (fr : ∀ a ∈ B ++ C, a ∈ A0 ∨ H0 a = none) (hp : H p = none) (hf : k.fits rs.length) :
    Ok S0 H0 A0 S (upd H p (shape k vs)) (some (.ref p) :: σ) (.nd k rs :: ρ) := by
  have x : Xt S H S (upd H p (shape k vs)) := .new xt.sh hp
  have at1 := oall_at _ _ _ h1
  have at2 := h2.at
  have keep : ∀ a, (∃ u, H a = some u) → upd H p (shape k vs) a = H a := fun a ⟨u, hu⟩ => upd_ne (ne_of_none hu hp)
  have h1' : OAll S (upd H p (shape k vs)) vs rs B := oall_keep (Same.refl S) (fun b xs e => x.hh b _ e) _ _ _ h1 fun a ha => by
    obtain ⟨z1, u, z2, _⟩ := at1 a ha
    exact ⟨z1, keep a ⟨u, z2⟩⟩
  have h2' : EOk S (upd H p (shape k vs)) σ ρ C := h2.keep (Same.refl S) (fun b xs e => x.hh b _ e) fun a ha => by
    obtain ⟨z1, u, z2, _⟩ := at2 a ha
    exact ⟨z1, keep a ⟨u, z2⟩⟩
  have pB : p ∉ B ++ C := fun z => by
    rcases List.mem_append.mp z with z | z
    · obtain ⟨_, u, z2, _⟩ := at1 p z; rw [hp] at z2; cases z2
    · obtain ⟨_, u, z2, _⟩ := at2 p z; rw [hp] at z2; cases z2
  by_cases hk : k.isTup = true
  · cases k with
    | tup => exact ⟨xt.trans (.of x), B ++ C, .cons (.is (.tup upd_same h1')) h2', nd, fr⟩
    | lst => cases hk
    | dK ks => cases hk
    | dT ks => cases hk
  · have hk : k.isTup = false := by simpa using hk
    refine ⟨xt.trans (.of x), (p :: B) ++ C, .cons (.is (.nd hk hf (xt.sh.free hp) upd_same h1')) h2', by rw [List.cons_append]; exact List.nodup_cons.mpr ⟨pB, nd⟩, fun a ha => ?_⟩
    rw [List.cons_append] at ha
    rcases List.mem_cons.mp ha with z | z
    · rw [z]; exact .inr (xt.dm p hp)
    · exact fr a z
theorem evy_lst {tr : TA} {rs : List OT} (h : EvYs tr ρ rs ρ1) (hn : ∀ r ∈ rs, r ≠ .no) (hz : rs.length ≤ 1000000) : EvY (tLst tr) ρ (.nd .lst rs) ρ1 := fun S0 H0 A0 S H τσ τρ σ Q l o q =>
  h S0 H0 A0 S H τσ τρ σ _ l o fun vs S1 H1 s1 l1 o1 => ⟨by rw [l1]; exact sz_of hz, fun p hp => by
    obtain ⟨A, B, h1, h2, h3, h4⟩ := o1.items l1 hn
    exact q _ S1 _ s1 (Ok.node (k := .lst) o1.xt h1 h2 h3 h4 hp trivial)⟩
theorem evy_tup {tr : TA} {rs : List OT} (h : EvYs tr ρ rs ρ1) (hn : ∀ r ∈ rs, r ≠ .no) (hz : rs.length ≤ 1000000) : EvY (tTup tr) ρ (.nd .tup rs) ρ1 := fun S0 H0 A0 S H τσ τρ σ Q l o q =>
  h S0 H0 A0 S H τσ τρ σ _ l o fun vs S1 H1 s1 l1 o1 => ⟨by rw [l1]; exact sz_of hz, fun p hp => by
    obtain ⟨A, B, h1, h2, h3, h4⟩ := o1.items l1 hn
    exact q _ S1 _ s1 (Ok.node (k := .tup) o1.xt h1 h2 h3 h4 hp trivial)⟩
/-- read displays -/
theorem rd_tup {tr : TA} {xs : List D} (h : RdL tr ρ xs) (hz : xs.length ≤ 1000000) : RdE (tTup tr) ρ (.tuple xs) := fun S0 H0 A0 S H τσ τρ σ Q l o q =>
  h S0 H0 A0 S H τσ τρ σ _ l o fun vs S1 H1 x1 h1 => ⟨by rw [dpa_length h1]; exact sz_of hz, fun p hp =>
    q _ S1 _ (x1.trans (.new x1.sh hp)) (.tup upd_same (dpa_mono (Xt.new (o := .tup vs) x1.sh hp).hh _ _ h1))⟩
theorem rd_lst {tr : TA} {xs : List D} (h : RdL tr ρ xs) (hz : xs.length ≤ 1000000) : RdE (tLst tr) ρ (.list xs) := fun S0 H0 A0 S H τσ τρ σ Q l o q =>
  h S0 H0 A0 S H τσ τρ σ _ l o fun vs S1 H1 x1 h1 => ⟨by rw [dpa_length h1]; exact sz_of hz, fun p hp =>
    q _ S1 _ (x1.trans (.new x1.sh hp)) (.lst (SqL.of upd_same) (dpa_mono (Xt.new (o := .lst vs) x1.sh hp).hh _ _ h1))⟩
end
end MR

namespace MR
open PySem L2 PL
variable [kf : KF]

/-! ### statements -/
inductive Fl where
  | nx | bk | ct | rt (r : OT)
/-- these slots hold these values -/
def Fx (F : List (Nat × V)) (σ : St) : Prop := ∀ p ∈ F, σ[p.1]? = some (some p.2)
def Kont (F : List (Nat × V)) (S S0 H0 : Hp) (A0 : List Addr) (E : Ends) : Fl → Env → Prop
  | .nx, ρ' => ∀ S' H' σ', Same S S' → Fx F σ' → Ok S0 H0 A0 S' H' σ' ρ' → E.nx σ' H'
  | .bk, ρ' => ∀ S' H' σ', Same S S' → Fx F σ' → Ok S0 H0 A0 S' H' σ' ρ' → E.bk σ' H'
  | .ct, ρ' => ∀ S' H' σ', Same S S' → Fx F σ' → Ok S0 H0 A0 S' H' σ' ρ' → E.ct σ' H'
  | .rt r, ρ' => ∀ v S' H' σ', Same S S' → Fx F σ' → Ok S0 H0 A0 S' H' (some v :: σ') (r :: ρ') → E.rt v H'
theorem Kont.mono {F : List (Nat × V)} {S S1 S0 H0 : Hp} {A0 : List Addr} {E : Ends} {fl : Fl} {ρ' : Env} (k : Kont F S S0 H0 A0 E fl ρ') (s : Same S S1) : Kont F S1 S0 H0 A0 E fl ρ' := by
  cases fl with
  | nx => exact fun S' H' σ' ss => k S' H' σ' (s.trans ss)
  | bk => exact fun S' H' σ' ss => k S' H' σ' (s.trans ss)
  | ct => exact fun S' H' σ' ss => k S' H' σ' (s.trans ss)
  | rt r => exact fun v S' H' σ' ss => k v S' H' σ' (s.trans ss)
def RunS (js : List Nat) (t : TS) (ρ : Env) (fl : Fl) (ρ' : Env) : Prop := ∀ (S0 H0 : Hp) (A0 : List Addr) (S H : Hp) (σ : St) (F : List (Nat × V)) (E : Ends), F.map (·.1) = js → Fx F σ → Ok S0 H0 A0 S H σ ρ → Kont F S S0 H0 A0 E fl ρ' → t E σ H

section
variable {ρ ρ1 ρ2 ρ' : Env} {ta tb tc te : TE} {c : TT} {t u : TS} {d e x y : D} {r s : OT} {S H S' H' S0 H0 : Hp} {A0 : List Addr} {σ : St} {js : List Nat} {fl : Fl}
theorem Fx.set {F : List (Nat × V)} {i : Nat} {v : Option V} (h : Fx F σ) (hi : i ∉ F.map (·.1)) : Fx F (σ.set i v) := fun p hp => by
  rw [List.getElem?_set_ne (fun z => hi (List.mem_map.mpr ⟨p, hp, z.symm⟩))]
  exact h p hp
theorem run_seq (h : RunS js t ρ .nx ρ1) (h2 : RunS js u ρ1 fl ρ') : RunS js (tSeq t u) ρ fl ρ' := fun S0 H0 A0 S H σ F E hF hx o k =>
  h S0 H0 A0 S H σ F { E with nx := u E } hF hx o fun S' H' σ' ss hx' o' => h2 S0 H0 A0 S' H' σ' F E hF hx' o' (k.mono ss)
theorem run_seqB (h : RunS js t ρ .bk ρ') : RunS js (tSeq t u) ρ .bk ρ' := fun S0 H0 A0 S H σ F E hF hx o k => h S0 H0 A0 S H σ F { E with nx := u E } hF hx o k
theorem run_seqC (h : RunS js t ρ .ct ρ') : RunS js (tSeq t u) ρ .ct ρ' := fun S0 H0 A0 S H σ F E hF hx o k => h S0 H0 A0 S H σ F { E with nx := u E } hF hx o k
theorem run_seqR (h : RunS js t ρ (.rt r) ρ') : RunS js (tSeq t u) ρ (.rt r) ρ' := fun S0 H0 A0 S H σ F E hF hx o k => h S0 H0 A0 S H σ F { E with nx := u E } hF hx o k
theorem run_next : RunS js tNext ρ .nx ρ := fun S0 H0 A0 S H σ F E hF hx o k => k S H σ (Same.refl S) hx o
theorem run_break : RunS js tBreak ρ .bk ρ := fun S0 H0 A0 S H σ F E hF hx o k => k S H σ (Same.refl S) hx o
theorem run_cont : RunS js tCont ρ .ct ρ := fun S0 H0 A0 S H σ F E hF hx o k => k S H σ (Same.refl S) hx o
theorem run_ret (h : EvY te ρ r ρ1) : RunS js (tRet te) ρ (.rt r) ρ1 := fun S0 H0 A0 S H σ F E hF hx o k =>
  h S0 H0 A0 S H [] [] σ _ rfl o fun v S' H' ss o' => k v S' H' σ ss hx o'
theorem run_retN : RunS js tRetN ρ (.rt (.d .none)) ρ := fun S0 H0 A0 S H σ F E hF hx o k => k .non S H σ (Same.refl S) hx (o.pushD .non)
theorem run_drop (h : EvY te ρ r ρ1) : RunS js (tDrop te) ρ .nx ρ1 := fun S0 H0 A0 S H σ F E hF hx o k =>
  h S0 H0 A0 S H [] [] σ _ rfl o fun v S' H' ss o' => k S' H' σ ss hx o'.drop
theorem run_if {b : Bool} (h : EvT c ρ b ρ1) (h1 : b = true → RunS js t ρ1 fl ρ') (h2 : b = false → RunS js u ρ1 fl ρ') : RunS js (tIfS c t u) ρ fl ρ' := fun S0 H0 A0 S H σ F E hF hx o k =>
  h S0 H0 A0 S H [] [] σ _ rfl o fun S1 H1 s1 o1 => by
    cases b with
    | true => exact iteT (h1 rfl S0 H0 A0 S1 H1 σ F E hF hx o1 (k.mono s1))
    | false => exact iteF (h2 rfl S0 H0 A0 S1 H1 σ F E hF hx o1 (k.mono s1))
theorem run_asg {i : Nat} (h : EvY te ρ r ρ1) (hi : i ∉ js) : RunS js (tAsg te (gName i)) ρ .nx (ρ1.set i r) := fun S0 H0 A0 S H σ F E hF hx o k =>
  h S0 H0 A0 S H [] [] σ _ rfl o fun v S' H' ss o' => k S' H' _ ss (hx.set (by rw [hF]; exact hi)) (o'.store i)
theorem run_freeze {i : Nat} (h : ρ[i]? = some r) (e : r.toD = some x) (k : RunS js t (ρ.set i (.d x)) fl ρ') : RunS js t ρ fl ρ' := fun S0 H0 A0 S H σ F E hF hx o kk => by
  obtain ⟨S', ss, o'⟩ := o.freeze h e
  exact k S0 H0 A0 S' H σ F E hF hx o' (kk.mono ss)

/-! ### targets -/
def TgM (g : TG) (x : D) (ρ ρ' : Env) (is : List Nat) : Prop := ∀ (S0 H0 : Hp) (A0 : List Addr) (S H : Hp) (τσ : List (Option V)) (τρ : List OT) (σ : St) (Q : St → Hp → Prop) (v : V), τσ.length = τρ.length → Ok S0 H0 A0 S H (τσ ++ σ) (τρ ++ ρ) → Rp S v x →
  (∀ σ', Ok S0 H0 A0 S H (τσ ++ σ') (τρ ++ ρ') → σ'.length = σ.length → (∀ k, k ∉ is → σ'[k]? = σ[k]?) → Q σ' H) → g v σ H Q
def TgMs (g : TGs) (xs : List D) (ρ ρ' : Env) (is : List Nat) : Prop := ∀ (S0 H0 : Hp) (A0 : List Addr) (S H : Hp) (τσ : List (Option V)) (τρ : List OT) (σ : St) (Q : St → Hp → Prop) (vs : List V), τσ.length = τρ.length → Ok S0 H0 A0 S H (τσ ++ σ) (τρ ++ ρ) → RpAll S vs xs →
  (∀ σ', Ok S0 H0 A0 S H (τσ ++ σ') (τρ ++ ρ') → σ'.length = σ.length → (∀ k, k ∉ is → σ'[k]? = σ[k]?) → Q σ' H) → g vs σ H Q
theorem tg_name {i : Nat} : TgM (gName i) x ρ (ρ.set i (.d x)) [i] := fun S0 H0 A0 S H τσ τρ σ Q v l o hv q => by
  have o' := (o.pushD hv).store (τρ.length + i)
  rw [set_app l, set_app rfl] at o'
  exact q _ o' (by rw [List.length_set]) fun k hk => by rw [List.getElem?_set_ne (fun z => hk (by rw [z]; exact List.mem_cons_self))]
theorem tgs_nil : TgMs gNil [] ρ ρ [] := fun S0 H0 A0 S H τσ τρ σ Q vs l o hv q => by
  cases hv
  exact ⟨rfl, q σ o rfl fun _ _ => rfl⟩
theorem tgs_cons {g : TG} {gs : TGs} {xs : List D} {is ks : List Nat} (h1 : TgM g x ρ ρ1 is) (h2 : TgMs gs xs ρ1 ρ2 ks) : TgMs (gCons g gs) (x :: xs) ρ ρ2 (is ++ ks) := fun S0 H0 A0 S H τσ τρ σ Q vs l o hv q => by
  cases hv with
  | cons hv ht =>
    refine ⟨_, _, rfl, h1 S0 H0 A0 S H τσ τρ σ _ _ l o hv fun σ1 o1 l1 k1 => h2 S0 H0 A0 S H τσ τρ σ1 _ _ l o1 ht fun σ2 o2 l2 k2 => q σ2 o2 (l2.trans l1) fun k hk => ?_⟩
    rw [k2 k (fun z => hk (List.mem_append_right _ z)), k1 k (fun z => hk (List.mem_append_left _ z))]
theorem tg_tup {gs : TGs} {xs : List D} {is : List Nat} {n : Nat} (h : TgMs gs xs ρ ρ' is) (hn : xs.length = n) : TgM (gTup kf.K n gs) (.tuple xs) ρ ρ' is := fun S0 H0 A0 S H τσ τρ σ Q v l o hv q => by
  cases hv with
  | tup r1 r2 => exact ⟨_, _, rfl, .inl (.of (o.sh _ _ r1)), (dpa_length r2).trans hn, h S0 H0 A0 S H τσ τρ σ Q _ l o r2 q⟩
theorem tg_unl {gs : TGs} {xs : List D} {is : List Nat} {n : Nat} (h : TgMs gs xs ρ ρ' is) (hn : xs.length = n) : TgM (gUnl kf.K n gs) (.list xs) ρ ρ' is := fun S0 H0 A0 S H τσ τρ σ Q v l o hv q => by
  cases hv with
  | lst r1 r2 => exact ⟨_, _, rfl, o.sh.seq r1, (dpa_length r2).trans hn, h S0 H0 A0 S H τσ τρ σ Q _ l o r2 q⟩
theorem run_asgT {g : TG} {is : List Nat} (h : EvD te ρ x ρ1) (ht : TgM g x ρ1 ρ2 is) (hi : ∀ j ∈ js, j ∉ is) : RunS js (tAsg te g) ρ .nx ρ2 := fun S0 H0 A0 S H σ F E hF hx o k =>
  h S0 H0 A0 S H [] [] σ _ rfl o fun v S' H' ss o' hv => ht S0 H0 A0 S' H' [] [] σ _ v rfl o' hv fun σ' o2 l2 k2 => k S' H' σ' ss (fun p hp => by
    rw [k2 p.1 (hi p.1 (by rw [← hF]; exact List.mem_map_of_mem hp))]; exact hx p hp) o2

/-! ### what is walked -/
def IterM (wi : TI) (ρ : Env) (ds : List D) (ρ' : Env) : Prop := ∀ (S0 H0 : Hp) (A0 : List Addr) (S H : Hp) (τσ : List (Option V)) (τρ : List OT) (σ : St) (R : It → Hp → Prop), τσ.length = τρ.length → Ok S0 H0 A0 S H (τσ ++ σ) (τρ ++ ρ) →
  (∀ J S' H', Same S S' → Ok S0 H0 A0 S' H' (τσ ++ σ) (τρ ++ ρ') → JD S' J ds → R J H') → wi σ H R
theorem it_list {ds : List D} (h : EvD te ρ (.list ds) ρ1) : IterM (iList kf.K te) ρ ds ρ1 := fun S0 H0 A0 S H τσ τρ σ R l o q =>
  h S0 H0 A0 S H τσ τρ σ _ l o fun v S' H' ss o' hs => by
    cases hs with
    | lst r1 r2 => exact ⟨_, rfl, ⟨_, o'.sh.seq r1⟩, q _ S' H' ss o' (jd_list r1 r2)⟩
theorem it_tupM {ds : List D} (h : EvD te ρ (.tuple ds) ρ1) : IterM (iTup kf.K te) ρ ds ρ1 := fun S0 H0 A0 S H τσ τρ σ R l o q =>
  h S0 H0 A0 S H τσ τρ σ _ l o fun v S' H' ss o' hs => by
    cases hs with
    | tup r1 r2 => exact ⟨_, rfl, ⟨_, .inl (.of (o'.sh _ _ r1))⟩, q _ S' H' ss o' (jd_tup r1 r2)⟩
def rgD (lo : Int) (n : Nat) : List D := (List.range n).map fun (i : Nat) => PyData.int (lo + (i : Int))
theorem it_range1 {n : Int} (h : EvL ta' ρ [.int n] ρ1) (hn : n < 2 ^ 62) (hn0 : -(2 ^ 62) ≤ n) : IterM (iRng1 ta') ρ (rgD 0 n.toNat) ρ1 := fun S0 H0 A0 S H τσ τρ σ R l o q =>
  h S0 H0 A0 S H τσ τρ σ _ l o fun v S' H' ss o' hs => by
    cases hs with | cons a b => cases a; cases b; exact ⟨n, rfl, hn0, hn, q _ S' H' ss o' jd_range⟩
theorem it_range2 {m n : Int} (h : EvL ta' ρ [.int m, .int n] ρ1) (hb : -(2 ^ 62) ≤ m ∧ m < 2 ^ 62 ∧ -(2 ^ 62) ≤ n ∧ n < 2 ^ 62) : IterM (iRng2 ta') ρ (rgD m (n - m).toNat) ρ1 := fun S0 H0 A0 S H τσ τρ σ R l o q =>
  h S0 H0 A0 S H τσ τρ σ _ l o fun v S' H' ss o' hs => by
    cases hs with | cons a b => cases b with | cons b c => cases a; cases b; cases c; exact ⟨m, n, rfl, hb, q _ S' H' ss o' jd_range⟩
end
end MR

namespace MR
open PySem L2 PL
variable [kf : KF]

theorem jd_enum {S : Hp} {a : Addr} {vs : List V} {ds : List D} (r1 : SqL kf.K S a vs) (r2 : RpAll S vs ds) : JD S (Ite kf.K a) (ds.zipIdx.map fun p => PyData.tuple [.int (p.2 : Nat), p.1]) := fun S1 H1 s1 sh => by
  have h1 : SqL kf.K H1 a vs := (s1.trans sh).seq r1
  refine ⟨⟨vs, h1, by rw [dpa_length r2]; simp⟩, fun i x e => ?_⟩
  rw [List.getElem?_map, List.getElem?_zipIdx] at e
  cases qd : ds[i]? with
  | none => rw [qd] at e; cases e
  | some d =>
    rw [qd] at e
    simp at e
    subst e
    obtain ⟨v, e1, e2⟩ := dpa_get r2 qd
    refine ⟨⟨vs, v, h1, e1⟩, fun w H2 y => ?_⟩
    obtain ⟨T, x, rfl, nT, rfl, y⟩ := y
    have : some x = some v := (y vs h1).symm.trans e1
    cases this
    have xn := Xt.newS (o := .tup [.int (i : Nat), v]) sh nT
    exact ⟨_, xn, .tup upd_same (.cons (.int _) (.cons (dp_mono (s1.trans xn.ss) _ _ e2) .nil))⟩
theorem jd_zip {S : Hp} {a b : Addr} {vs ws : List V} {ds es : List D} (r1 : SqL kf.K S a vs) (r2 : RpAll S vs ds) (p1 : SqL kf.K S b ws) (p2 : RpAll S ws es) : JD S (Itz kf.K a b) ((ds.zip es).map fun p => PyData.tuple [p.1, p.2]) := fun S3 H3 s3 sh => by
  have h1 : SqL kf.K H3 a vs := (s3.trans sh).seq r1
  have h2 : SqL kf.K H3 b ws := (s3.trans sh).seq p1
  refine ⟨⟨vs, ws, h1, h2, by rw [dpa_length r2, dpa_length p2]; simp; omega⟩, fun i x e => ?_⟩
  rw [List.getElem?_map] at e
  cases qd : (ds.zip es)[i]? with
  | none => rw [qd] at e; cases e
  | some d =>
    rw [qd] at e
    simp at e
    subst e
    rw [List.getElem?_zip_eq_some] at qd
    obtain ⟨v, e1, e2⟩ := dpa_get r2 qd.1
    obtain ⟨w, g1, g2⟩ := dpa_get p2 qd.2
    refine ⟨⟨vs, ws, v, w, h1, h2, e1, g1⟩, fun z H4 y => ?_⟩
    obtain ⟨T, x, x', rfl, nT, rfl, y, y'⟩ := y
    have : some x = some v := (y vs h1).symm.trans e1
    cases this
    have : some x' = some w := (y' ws h2).symm.trans g1
    cases this
    have xn := Xt.newS (o := .tup [v, w]) sh nT
    exact ⟨_, xn, .tup upd_same (.cons (dp_mono (s3.trans xn.ss) _ _ e2) (.cons (dp_mono (s3.trans xn.ss) _ _ g2) .nil))⟩
theorem jd_rev {S : Hp} {a : Addr} {vs : List V} {ds : List D} (r1 : SqL kf.K S a vs) (r2 : RpAll S vs ds) : JD S (Itv kf.K a vs.length) ds.reverse := fun S1 H1 s1 sh => by
  have h1 : SqL kf.K H1 a vs := (s1.trans sh).seq r1
  have l := dpa_length r2
  refine ⟨by show vs.length ≤ _; rw [List.length_reverse, l]; exact Nat.le_refl _, fun i x e => ?_⟩
  have hi : i < ds.length := by have := (List.getElem?_eq_some_iff.mp e).1; simpa using this
  rw [List.getElem?_reverse hi] at e
  obtain ⟨v, e1, e2⟩ := dpa_get r2 e
  rw [← l] at e1
  refine ⟨⟨by omega, vs, v, h1, e1⟩, fun w H2 y => ?_⟩
  obtain ⟨rfl, y⟩ := y
  have : some w = some v := (y vs h1).symm.trans e1
  cases this
  exact ⟨S1, .refl sh, dp_mono s1 _ _ e2⟩
def enumD (ds : List D) : List D := ds.zipIdx.map fun p => PyData.tuple [.int (p.2 : Nat), p.1]
def zipD (ds es : List D) : List D := (ds.zip es).map fun p => PyData.tuple [p.1, p.2]
section
variable {ρ ρ1 ρ2 ρ' : Env} {ta tb tc te : TE} {tl : TA} {c : TT} {t u : TS} {d e x y : D} {r s : OT} {S H S' H' S0 H0 : Hp} {A0 : List Addr} {σ : St} {js : List Nat} {fl : Fl}
theorem it_enum {ds : List D} (h : EvL tl ρ [.list ds] ρ1) : IterM (iEnum kf.K tl) ρ (enumD ds) ρ1 := fun S0 H0 A0 S H τσ τρ σ R l o q =>
  h S0 H0 A0 S H τσ τρ σ _ l o fun vs S' H' ss o' hs => by
    cases hs with
    | cons a b =>
      cases b
      cases a with
      | lst r1 r2 => exact ⟨_, _, rfl, o'.sh.seq r1, q _ S' H' ss o' (jd_enum r1 r2)⟩
theorem it_rev {ds : List D} (h : EvL tl ρ [.list ds] ρ1) : IterM (iRev kf.K tl) ρ ds.reverse ρ1 := fun S0 H0 A0 S H τσ τρ σ R l o q =>
  h S0 H0 A0 S H τσ τρ σ _ l o fun vs S' H' ss o' hs => by
    cases hs with
    | cons a b =>
      cases b
      cases a with
      | lst r1 r2 => exact ⟨_, _, rfl, o'.sh.seq r1, q _ S' H' ss o' (jd_rev r1 r2)⟩
theorem it_zip {ds es : List D} (h : EvL tl ρ [.list ds, .list es] ρ1) : IterM (iZip kf.K tl) ρ (zipD ds es) ρ1 := fun S0 H0 A0 S H τσ τρ σ R l o q =>
  h S0 H0 A0 S H τσ τρ σ _ l o fun vs S' H' ss o' hs => by
    cases hs with
    | cons a b =>
      cases b with
      | cons b c =>
        cases c
        cases a with
        | lst r1 r2 =>
          cases b with
          | lst p1 p2 => exact ⟨_, _, _, _, rfl, o'.sh.seq r1, o'.sh.seq p1, q _ S' H' ss o' (jd_zip r1 r2 p1 p2)⟩

/-! ### loops -/
def mFor (step : D → Env → Option (Fl × Env)) : List D → Env → Option (Fl × Env)
  | [], ρ => some (.nx, ρ)
  | x :: xs, ρ => match step x ρ with
    | some (.nx, ρ') => mFor step xs ρ'
    | some (.ct, ρ') => mFor step xs ρ'
    | some (.bk, ρ') => some (.nx, ρ')
    | some (.rt r, ρ') => some (.rt r, ρ')
    | Option.none => Option.none
theorem run_for {wi : TI} {g : TG} {ds : List D} {step : D → Env → Option (Fl × Env)} (hi : IterM wi ρ ds ρ1)
    (hs : ∀ x ρa fl ρb, step x ρa = some (fl, ρb) → ∃ ρm is, TgM g x ρa ρm is ∧ (∀ j ∈ js, j ∉ is) ∧ RunS js t ρm fl ρb) (hf : mFor step ds ρ1 = some (fl, ρ')) : RunS js (tFor wi g t) ρ fl ρ' := fun S0 H0 A0 S H σ F E hF hx o k =>
  hi S0 H0 A0 S H [] [] σ _ rfl o fun J S1 H1 ss1 o1 hJ => by
    refine ⟨fun i m σ' H' => m = ds.length - i ∧ i ≤ ds.length ∧ ∃ S' ρi, Same S1 S' ∧ Fx F σ' ∧ Ok S0 H0 A0 S' H' σ' ρi ∧ mFor step (ds.drop i) ρi = some (fl, ρ'), ⟨_, rfl, Nat.zero_le _, S1, ρ1, Same.refl _, hx, o1, hf⟩, ?_⟩
    rintro i m σ' H' ⟨rfl, hi, S', ρi, s1, hx', o', hf'⟩
    obtain ⟨st, go⟩ := hJ S' H' s1 o'.sh
    by_cases hl : i < ds.length
    · obtain ⟨g1, g2⟩ := go i ds[i] (List.getElem?_eq_getElem hl)
      rw [List.drop_eq_getElem_cons hl] at hf'
      unfold mFor at hf'
      cases hst : step ds[i] ρi with
      | none => rw [hst] at hf'; cases hf'
      | some p =>
        obtain ⟨fl1, ρb⟩ := p
        rw [hst] at hf'
        obtain ⟨ρm, is, ht, hjs, hb⟩ := hs _ _ _ _ hst
        refine .inr ⟨g1, fun σ2 H2 => ∃ S2, Same S1 S2 ∧ Fx F σ2 ∧ Ok S0 H0 A0 S2 H2 σ2 ρb ∧ mFor step (ds.drop (i + 1)) ρb = some (fl, ρ'), fun σ2 H2 ⟨S2, b1, b2, b3, b4⟩ => ⟨_, by omega, rfl, hl, S2, ρb, b1, b2, b3, b4⟩, fun v H2 hy => ?_⟩
        obtain ⟨S2, x2, hv⟩ := g2 v H2 hy
        refine ht S0 H0 A0 S2 H2 [] [] σ' _ v rfl (o'.ext x2) hv fun σ3 o3 l3 k3 => ?_
        have hx3 : Fx F σ3 := fun p hp => by rw [k3 p.1 (hjs p.1 (by rw [← hF]; exact List.mem_map_of_mem hp))]; exact hx' p hp
        refine hb S0 H0 A0 S2 H2 σ3 F _ hF hx3 o3 ?_
        have sa : Same S S2 := ss1.trans (s1.trans x2.ss)
        cases fl1 with
        | nx => exact fun S4 H4 σ4 s4 hx4 o4 => ⟨S4, s1.trans (x2.ss.trans s4), hx4, o4, hf'⟩
        | ct => exact fun S4 H4 σ4 s4 hx4 o4 => ⟨S4, s1.trans (x2.ss.trans s4), hx4, o4, hf'⟩
        | bk =>
          simp only [Option.some.injEq, Prod.mk.injEq] at hf'
          obtain ⟨rfl, rfl⟩ := hf'
          exact fun S4 H4 σ4 s4 hx4 o4 => k S4 H4 σ4 (sa.trans s4) hx4 o4
        | rt r =>
          simp only [Option.some.injEq, Prod.mk.injEq] at hf'
          obtain ⟨rfl, rfl⟩ := hf'
          exact fun v4 S4 H4 σ4 s4 hx4 o4 => k v4 S4 H4 σ4 (sa.trans s4) hx4 o4
    · have e : i = ds.length := by omega
      subst e
      rw [List.drop_length] at hf'
      simp only [mFor, Option.some.injEq, Prod.mk.injEq] at hf'
      obtain ⟨rfl, rfl⟩ := hf'
      exact .inl ⟨st, k S' H' σ' (ss1.trans s1) hx' o'⟩
def mWhileN (c : Env → Option (Bool × Env)) (b : Env → Option (Fl × Env)) : Nat → Env → Option (Fl × Env)
  | 0, _ => Option.none
  | n + 1, ρ => match c ρ with
    | some (false, ρ1) => some (.nx, ρ1)
    | some (true, ρ1) => match b ρ1 with
      | some (.nx, ρ2) => mWhileN c b n ρ2
      | some (.ct, ρ2) => mWhileN c b n ρ2
      | some (.bk, ρ2) => some (.nx, ρ2)
      | some (.rt r, ρ2) => some (.rt r, ρ2)
      | Option.none => Option.none
    | Option.none => Option.none
theorem run_whileN {mc : Env → Option (Bool × Env)} {mb : Env → Option (Fl × Env)} {n : Nat} (hc : ∀ ρa b ρb, mc ρa = some (b, ρb) → EvT c ρa b ρb) (hb : ∀ ρa fl ρb, mb ρa = some (fl, ρb) → RunS js t ρa fl ρb) (hf : mWhileN mc mb n ρ = some (fl, ρ')) : RunS js (tWhile c t) ρ fl ρ' := fun S0 H0 A0 S H σ F E hF hx o k => by
  refine ⟨fun m σ' H' => ∃ S' ρi, Same S S' ∧ Fx F σ' ∧ Ok S0 H0 A0 S' H' σ' ρi ∧ mWhileN mc mb m ρi = some (fl, ρ'), ⟨n, S, ρ, Same.refl _, hx, o, hf⟩, ?_⟩
  rintro m σ' H' ⟨S', ρi, s1, hx', o', hf'⟩
  cases m with
  | zero => simp [mWhileN] at hf'
  | succ m =>
    unfold mWhileN at hf'
    cases hcc : mc ρi with
    | none => rw [hcc] at hf'; cases hf'
    | some p =>
      obtain ⟨b, ρb⟩ := p
      rw [hcc] at hf'
      refine hc _ _ _ hcc S0 H0 A0 S' H' [] [] σ' _ rfl o' fun S2 H2 s2 o2 => ?_
      cases b with
      | false =>
        simp only [Option.some.injEq, Prod.mk.injEq] at hf'
        obtain ⟨rfl, rfl⟩ := hf'
        exact iteF (k S2 H2 σ' (s1.trans s2) hx' o2)
      | true =>
        simp only at hf'
        cases hbb : mb ρb with
        | none => rw [hbb] at hf'; cases hf'
        | some p =>
          obtain ⟨fl1, ρd⟩ := p
          rw [hbb] at hf'
          refine iteT ⟨fun σ3 H3 => ∃ S3, Same S S3 ∧ Fx F σ3 ∧ Ok S0 H0 A0 S3 H3 σ3 ρd ∧ mWhileN mc mb m ρd = some (fl, ρ'), fun σ3 H3 ⟨S3, b1, b2, b3, b4⟩ => ⟨m, by omega, S3, ρd, b1, b2, b3, b4⟩, ?_⟩
          refine hb _ _ _ hbb S0 H0 A0 S2 H2 σ' F _ hF hx' o2 ?_
          have sa := s1.trans s2
          cases fl1 with
          | nx => exact fun S4 H4 σ4 s4 hx4 o4 => ⟨S4, sa.trans s4, hx4, o4, hf'⟩
          | ct => exact fun S4 H4 σ4 s4 hx4 o4 => ⟨S4, sa.trans s4, hx4, o4, hf'⟩
          | bk =>
            simp only [Option.some.injEq, Prod.mk.injEq] at hf'
            obtain ⟨rfl, rfl⟩ := hf'
            exact fun S4 H4 σ4 s4 hx4 o4 => k S4 H4 σ4 (sa.trans s4) hx4 o4
          | rt r =>
            simp only [Option.some.injEq, Prod.mk.injEq] at hf'
            obtain ⟨rfl, rfl⟩ := hf'
            exact fun v4 S4 H4 σ4 s4 hx4 o4 => k v4 S4 H4 σ4 (sa.trans s4) hx4 o4
omit kf in
theorem whileN_mono {c : Env → Option (Bool × Env)} {b : Env → Option (Fl × Env)} : ∀ {n m : Nat} {ρ : Env} {o : Fl × Env}, n ≤ m → mWhileN c b n ρ = some o → mWhileN c b m ρ = some o
  | 0, _, _, _, _, h => by simp [mWhileN] at h
  | n + 1, 0, _, _, hl, _ => by omega
  | n + 1, m + 1, ρ, o, hl, h => by
    unfold mWhileN at h ⊢
    cases hc : c ρ with
    | none => rw [hc] at h; cases h
    | some p =>
      obtain ⟨bb, ρ1⟩ := p
      rw [hc] at h
      cases bb with
      | false => exact h
      | true =>
        simp only at h ⊢
        cases hb : b ρ1 with
        | none => rw [hb] at h; cases h
        | some p =>
          obtain ⟨fl, ρ2⟩ := p
          rw [hb] at h
          cases fl with
          | nx => exact whileN_mono (by omega) h
          | ct => exact whileN_mono (by omega) h
          | bk => exact h
          | rt r => exact h
open Classical in
noncomputable def mWhile (c : Env → Option (Bool × Env)) (b : Env → Option (Fl × Env)) (ρ : Env) : Option (Fl × Env) := if h : ∃ o n, mWhileN c b n ρ = some o then some h.choose else Option.none
omit kf in
theorem mWhile_of {c : Env → Option (Bool × Env)} {b : Env → Option (Fl × Env)} {n : Nat} {o : Fl × Env} (h : mWhileN c b n ρ = some o) : mWhile c b ρ = some o := by
  have hh : ∃ o n, mWhileN c b n ρ = some o := ⟨o, n, h⟩
  unfold mWhile
  rw [dif_pos hh]
  obtain ⟨m, hm⟩ := hh.choose_spec
  have h1 := whileN_mono (Nat.le_max_left n m) h
  have h2 := whileN_mono (Nat.le_max_right n m) hm
  rw [h1] at h2
  exact h2.symm
theorem run_while {mc : Env → Option (Bool × Env)} {mb : Env → Option (Fl × Env)} (hc : ∀ ρa b ρb, mc ρa = some (b, ρb) → EvT c ρa b ρb) (hb : ∀ ρa fl ρb, mb ρa = some (fl, ρb) → RunS js t ρa fl ρb) (hf : mWhile mc mb ρ = some (fl, ρ')) : RunS js (tWhile c t) ρ fl ρ' := by
  unfold mWhile at hf
  split at hf
  · rename_i hh
    have e := Option.some.inj hf
    obtain ⟨m, hm⟩ := hh.choose_spec
    rw [e] at hm
    exact run_whileN hc hb hm
  · cases hf
end
end MR

namespace MR
open PySem L2 PL
variable [kf : KF]

/-! ### comprehensions -/
def wipeE (ρ : Env) : List Nat → Env
  | [] => ρ
  | v :: vs => (wipeE ρ vs).set v .no
def rst {α : Type} (xs orig : List α) : List Nat → List α
  | [] => xs
  | v :: vs => match orig[v]? with
    | some a => (rst xs orig vs).set v a
    | Option.none => rst xs orig vs
theorem rst_some {α : Type} {xs orig : List α} {v : Nat} {vs : List Nat} {a : α} (h : orig[v]? = some a) : rst xs orig (v :: vs) = (rst xs orig vs).set v a := by simp only [rst, h]
theorem rst_none {α : Type} {xs orig : List α} {v : Nat} {vs : List Nat} (h : orig[v]? = Option.none) : rst xs orig (v :: vs) = rst xs orig vs := by simp only [rst, h]
def calmAt (ρ : Env) (vs : List Nat) : Bool := vs.all fun v => match ρ[v]? with
  | some (.nd _ _) => false
  | some (.fl _) => false
  | _ => true
def mLc (vs : List Nat) (step : D → Env → Option (Option OT × Env)) : List D → List OT → Env → Option (List OT × Env)
  | [], acc, ρ => some (acc, ρ)
  | x :: xs, acc, ρ => match step x ρ with
    | some (some r, ρ') => mLc vs step xs (acc ++ [r]) (wipeE ρ' vs)
    | some (Option.none, ρ') => mLc vs step xs acc (wipeE ρ' vs)
    | Option.none => Option.none
section
variable {ρ ρ1 ρ2 ρ' : Env} {ta tb tc te : TE} {tl : TA} {c : TT} {t u : TS} {d e x y : D} {r s : OT} {S H S' H' S0 H0 : Hp} {A0 : List Addr} {σ τσ : St} {τρ : List OT} {js : List Nat} {fl : Fl}
/-- slot i written, with nothing owned -/
theorem Ok.put (o : Ok S0 H0 A0 S H σ ρ) (i : Nat) {v : Option V} {t : OT} (h : OSl S H v t []) : Ok S0 H0 A0 S H (σ.set i v) (ρ.set i t) := by
  obtain ⟨B, h1, h2, h3⟩ := o.env
  exact Ok.store (v := v) (t := t) ⟨o.xt, [] ++ B, .cons h h1, by simpa using h2, by simpa using h3⟩ i
theorem Ok.wipe (l : τσ.length = τρ.length) (o : Ok S0 H0 A0 S H (τσ ++ σ) (τρ ++ ρ)) : ∀ vs : List Nat, Ok S0 H0 A0 S H (τσ ++ L2.wipe σ vs) (τρ ++ wipeE ρ vs)
  | [] => o
  | v :: vs => by
    have o' := (Ok.wipe l o vs).put (τρ.length + v) (.no (v := Option.none))
    rw [set_app l, set_app rfl] at o'
    exact o'
theorem rst_wipe (σ : St) (vs : List Nat) : rst (L2.wipe σ vs) σ vs = σ := by
  have gen : ∀ (us : List Nat) (xs : St), xs.length = σ.length → (∀ k, k ∉ us → xs[k]? = σ[k]?) → rst xs σ us = σ := by
    intro us
    induction us with
    | nil =>
      intro xs hl h
      exact List.ext_getElem? fun k => h k (by simp)
    | cons v us ih =>
      intro xs hl h
      have len : ∀ (us : List Nat) (xs : St), (rst xs σ us).length = xs.length := by
        intro us
        induction us with
        | nil => intro xs; rfl
        | cons w us ih2 =>
          intro xs
          cases q : σ[w]? with
          | some a => rw [rst_some q, List.length_set]; exact ih2 xs
          | none => rw [rst_none q]; exact ih2 xs
      have out : ∀ (us : List Nat) (xs : St) (k : Nat), xs.length = σ.length → (k ∈ us ∨ xs[k]? = σ[k]?) → (rst xs σ us)[k]? = σ[k]? := by
        intro us
        induction us with
        | nil =>
          intro xs k _ hk
          rcases hk with hk | hk
          · cases hk
          · exact hk
        | cons w us ih2 =>
          intro xs k hl hk
          have l2 := len us xs
          by_cases e : w = k
          · subst e
            cases q : σ[w]? with
            | some a =>
              rw [rst_some q]
              have := (List.getElem?_eq_some_iff.mp q).1
              rw [List.getElem?_set_self (by omega)]
            | none =>
              rw [rst_none q]
              have := List.getElem?_eq_none_iff.mp q
              exact List.getElem?_eq_none (by omega)
          · have hk' : k ∈ us ∨ xs[k]? = σ[k]? := by
              rcases hk with hk | hk
              · rcases List.mem_cons.mp hk with z | z
                · exact absurd z.symm e
                · exact .inl z
              · exact .inr hk
            cases q : σ[w]? with
            | some a => rw [rst_some q, List.getElem?_set_ne e]; exact ih2 xs k hl hk'
            | none => rw [rst_none q]; exact ih2 xs k hl hk'
      apply List.ext_getElem?
      intro k
      have := out (v :: us) xs k hl (by
        by_cases hk : k ∈ v :: us
        · exact .inl hk
        · exact .inr (h k hk))
      exact this
  exact gen vs _ (L2.wipe_length σ vs) fun k hk => by rw [wipe_get, if_neg hk]
theorem Ok.restore {S1 H1 : Hp} (l : τσ.length = τρ.length) {σ0 τσ0 : St} {ρ0 τρ0 : Env} {ρe : Env} (l0 : τσ0.length = τρ0.length) (o0 : Ok S0 H0 A0 S1 H1 (τσ0 ++ σ0) (τρ0 ++ ρ0)) (ss : Same S1 S) : ∀ (vs : List Nat) (σe : St), calmAt ρ0 vs = true → Ok S0 H0 A0 S H (τσ ++ σe) (τρ ++ ρe) → σ0.length = ρ0.length →
    Ok S0 H0 A0 S H (τσ ++ rst σe σ0 vs) (τρ ++ rst ρe ρ0 vs)
  | [], σe, _, o, _ => o
  | v :: vs, σe, hc, o, hl => by
    unfold calmAt at hc
    rw [List.all_cons, Bool.and_eq_true] at hc
    have ih := Ok.restore l l0 o0 ss vs σe hc.2 o hl
    by_cases hv : v < σ0.length
    · obtain ⟨val, hval⟩ : ∃ val, σ0[v]? = some val := ⟨_, List.getElem?_eq_getElem hv⟩
      obtain ⟨t, ht⟩ : ∃ t, ρ0[v]? = some t := ⟨_, List.getElem?_eq_getElem (by omega)⟩
      rw [rst_some hval, rst_some ht]
      obtain ⟨w, A, e1, e2⟩ := o0.get (i := τρ0.length + v) (t := t) (by rw [get_app rfl]; exact ht)
      rw [get_app l0, hval] at e1
      cases e1
      have hs : OSl S H val t [] := by
        cases t with
        | no => exact .no
        | d x =>
          cases e2 with
          | is e2 => cases e2 with | d e2 => exact .is (.d (dp_mono ss _ _ e2))
        | nd k ts => rw [ht] at hc; simp at hc
        | fl ts => rw [ht] at hc; simp at hc
      have o' := ih.put (τρ.length + v) hs
      rw [set_app l, set_app rfl] at o'
      exact o'
    · rw [rst_none (List.getElem?_eq_none (by omega)), rst_none (List.getElem?_eq_none (by omega))]
      exact ih
/-- y, on top of a list, becomes its last item -/
theorem Ok.append {y : V} {p : Addr} {ts : List OT} (o : Ok S0 H0 A0 S H (some y :: some (.ref p) :: σ) (r :: .nd .lst ts :: ρ)) (hn : r ≠ .no) :
    ∃ acc, H p = some (.lst acc) ∧ acc.length = ts.length ∧ Ok S0 H0 A0 S (upd H p (.lst (acc ++ [y]))) (some (.ref p) :: σ) (.nd .lst (ts ++ [r]) :: ρ) := by
  obtain ⟨B, h1, h2, h3⟩ := o.env
  cases h1 with
  | @cons _ _ A1 _ _ B1 p1 p2 =>
    cases p2 with
    | @cons _ _ A2 _ _ B2 q1 q2 =>
      cases q1 with
      | is q1 =>
        cases p1 with
        | no => exact (hn rfl).elim
        | is p1 =>
          cases q1 with
          | @nd _ _ vs _ C k1 k2 k3 k4 k5 =>
            have nd := List.nodup_append.mp h2
            have nd2 := List.nodup_append.mp nd.2.1
            have nd3 := List.nodup_cons.mp nd2.1
            have pA1 : p ∉ A1 := fun z => nd.2.2 p z p (List.mem_append_left _ List.mem_cons_self) rfl
            have pB2 : p ∉ B2 := fun z => nd2.2.2 p List.mem_cons_self p z rfl
            have pH : p ∈ A0 ∨ H0 p = none := h3 p (List.mem_append_right _ (List.mem_append_left _ List.mem_cons_self))
            have tp : ∀ b xs, H b = some (.tup xs) → upd H p (.lst (vs ++ [y])) b = some (.tup xs) := fun b xs e => by
              rw [upd_ne]; exact e
              intro z; subst z; rw [k4] at e; cases e
            have g1 := ook_keep (H' := upd H p (.lst (vs ++ [y]))) (Same.refl S) tp _ _ _ p1 fun a ha => ⟨(ook_at _ _ _ p1 a ha).1, upd_ne fun z => pA1 (z ▸ ha)⟩
            have g2 := oall_keep (H' := upd H p (.lst (vs ++ [y]))) (Same.refl S) tp _ _ _ k5 fun a ha => ⟨(oall_at _ _ _ k5 a ha).1, upd_ne fun z => nd3.1 (z ▸ ha)⟩
            have g3 := q2.keep (H' := upd H p (.lst (vs ++ [y]))) (Same.refl S) tp fun a ha => ⟨(q2.at a ha).1, upd_ne fun z => pB2 (z ▸ ha)⟩
            have app : ∀ {vs : List V} {ts : List OT} {C : List Addr} {H : Hp}, OAll S H vs ts C → OOk S H y r A1 → OAll S H (vs ++ [y]) (ts ++ [r]) (C ++ A1) := by
              intro vs ts C H h
              induction ts generalizing vs C with
              | nil => intro h2; cases h; have := OAll.cons h2 .nil; simpa using this
              | cons t ts ih => intro h2; cases h with | cons a b => have := OAll.cons a (ih b h2); simpa [List.append_assoc] using this
            refine ⟨vs, k4, k5.len, ⟨⟨fun b o' hb e => ?_, fun b e => ?_, fun b xs e => tp b xs (o.xt.tp b xs e), o.xt.ss, fun b o' e => ?_, o.xt.nw⟩, _, .cons (.is (.nd rfl trivial k3 upd_same (app g2 g1))) g3, ?_, ?_⟩⟩
            · have e1 := o.xt.hh b o' hb e
              rw [upd_ne]; exact e1
              intro z; subst z
              rcases pH with z | z
              · exact hb z
              · rw [z] at e; cases e
            · by_cases z : b = p
              · subst z; rw [upd_same] at e; cases e
              · rw [upd_ne z] at e; exact o.xt.dm b e
            · rw [upd_ne]; exact o.sh b o' e
              intro z; subst z; rw [k3] at e; cases e
            · refine List.nodup_append.mpr ⟨?_, nd2.2.1, ?_⟩
              · refine List.nodup_cons.mpr ⟨fun z => ?_, List.nodup_append.mpr ⟨nd3.2, nd.1, fun a ha b hb e => ?_⟩⟩
                · rcases List.mem_append.mp z with z | z
                  · exact nd3.1 z
                  · exact pA1 z
                · subst e
                  exact nd.2.2 a hb a (List.mem_append_left _ (List.mem_cons_of_mem _ ha)) rfl
              · intro a ha b hb e
                subst e
                rcases List.mem_cons.mp ha with z | z
                · subst z; exact pB2 hb
                · rcases List.mem_append.mp z with z | z
                  · exact nd2.2.2 a (List.mem_cons_of_mem _ z) a hb rfl
                  · exact nd.2.2 a z a (List.mem_append_right _ hb) rfl
            · intro a ha
              apply h3
              rcases List.mem_append.mp ha with z | z
              · rcases List.mem_cons.mp z with z | z
                · exact List.mem_append_right _ (List.mem_append_left _ (z ▸ List.mem_cons_self))
                · rcases List.mem_append.mp z with z | z
                  · exact List.mem_append_right _ (List.mem_append_left _ (List.mem_cons_of_mem _ z))
                  · exact List.mem_append_left _ z
              · exact List.mem_append_right _ (List.mem_append_right _ z)
theorem mLc_len {vs : List Nat} {step : D → Env → Option (Option OT × Env)} : ∀ {ds : List D} {acc rs : List OT} {ρ ρ' : Env}, mLc vs step ds acc ρ = some (rs, ρ') → acc.length ≤ rs.length ∧ rs.length ≤ acc.length + ds.length
  | [], acc, rs, ρ, ρ', h => by simp [mLc] at h; obtain ⟨rfl, rfl⟩ := h; simp
  | x :: xs, acc, rs, ρ, ρ', h => by
    unfold mLc at h
    split at h
    · have := mLc_len h; simp at this ⊢; omega
    · have := mLc_len h; simp at this ⊢; omega
    · cases h
theorem evy_lc {wi : TI} {g : TG} {tt : TT} {vs : List Nat} {ds : List D} {step : D → Env → Option (Option OT × Env)} {rs : List OT} (hi : IterM wi ρ ds ρ1)
    (hs : ∀ x ρa o ρb, step x ρa = some (o, ρb) → ∃ ρm is b ρt, TgM g x ρa ρm is ∧ (∀ j ∈ is, j ∈ vs) ∧ EvT tt ρm b ρt ∧ (match o with
      | some r => b = true ∧ r ≠ .no ∧ EvY te ρt r ρb
      | Option.none => b = false ∧ ρb = ρt))
    (hf : mLc vs step ds [] (wipeE ρ1 vs) = some (rs, ρ2)) (hc : calmAt ρ1 vs = true) (hz : ds.length ≤ 1000000) : EvY (tLc wi g tt te vs) ρ (.nd .lst rs) (rst ρ2 ρ1 vs) := fun S0 H0 A0 S H τσ τρ σ Q l o q =>
  hi S0 H0 A0 S H τσ τρ σ _ l o fun J S1 H1 ss1 o1 hJ Dl hD => by
    have lσ : σ.length = ρ1.length := by have := o1.len; simp at this; omega
    have start : Ok S0 H0 A0 S1 (upd H1 Dl (.lst [])) (some (.ref Dl) :: (τσ ++ L2.wipe σ vs)) (.nd .lst [] :: (τρ ++ wipeE ρ1 vs)) := by
      obtain ⟨B, h1, h2, h3⟩ := (o1.wipe l vs).env
      exact Ok.node (k := .lst) (vs := []) (rs := []) (B := []) o1.xt .nil h1 (by simpa using h2) (by simpa using h3) hD trivial
    refine ⟨fun i m H' => m = ds.length - i ∧ i ≤ ds.length ∧ ∃ S' acc ρi, Same S1 S' ∧ Ok S0 H0 A0 S' H' (some (.ref Dl) :: (τσ ++ L2.wipe σ vs)) (.nd .lst acc :: (τρ ++ ρi)) ∧ mLc vs step (ds.drop i) acc ρi = some (rs, ρ2) ∧ acc.length ≤ i,
      ⟨_, rfl, Nat.zero_le _, S1, [], _, Same.refl _, start, hf, Nat.le_refl _⟩, ?_⟩
    rintro i m H' ⟨rfl, hi, S', acc, ρi, s1, o', hf', hacc⟩
    obtain ⟨st, go⟩ := hJ S' H' s1 o'.sh
    by_cases hl : i < ds.length
    · obtain ⟨g1, g2⟩ := go i ds[i] (List.getElem?_eq_getElem hl)
      rw [List.drop_eq_getElem_cons hl] at hf'
      unfold mLc at hf'
      cases hst : step ds[i] ρi with
      | none => rw [hst] at hf'; cases hf'
      | some p =>
        obtain ⟨oo, ρb⟩ := p
        rw [hst] at hf'
        obtain ⟨ρm, is, b, ρt, ht, hjs, hb, he⟩ := hs _ _ _ _ hst
        refine .inr ⟨g1, fun H2 => ∃ S2 acc2, Same S1 S2 ∧ Ok S0 H0 A0 S2 H2 (some (.ref Dl) :: (τσ ++ L2.wipe σ vs)) (.nd .lst acc2 :: (τρ ++ wipeE ρb vs)) ∧ mLc vs step (ds.drop (i + 1)) acc2 (wipeE ρb vs) = some (rs, ρ2) ∧ acc2.length ≤ i + 1,
          fun H2 ⟨S2, acc2, b1, b2, b3, b4⟩ => ⟨_, by omega, rfl, hl, S2, acc2, _, b1, b2, b3, b4⟩, fun w H2 hy => ?_⟩
        obtain ⟨S2, x2, hv⟩ := g2 w H2 hy
        have o2 := o'.ext x2
        refine ht S0 H0 A0 S2 H2 (some (.ref Dl) :: τσ) (.nd .lst acc :: τρ) (L2.wipe σ vs) _ w (by simp [l]) o2 hv fun σ3 o3 l3 k3 => ?_
        have we : L2.wipe σ3 vs = L2.wipe σ vs := wipe_eq l3 fun k hk => k3 k fun z => hk (hjs k z)
        refine ⟨we, ?_⟩
        refine hb S0 H0 A0 S2 H2 (some (.ref Dl) :: τσ) (.nd .lst acc :: τρ) σ3 _ (by simp [l]) o3 fun S3 H3 s3 o4 => ?_
        have sa : Same S1 S3 := s1.trans (x2.ss.trans s3)
        cases oo with
        | none =>
          obtain ⟨rfl, rfl⟩ := he
          have o5 := Ok.wipe (τσ := some (.ref Dl) :: τσ) (τρ := .nd .lst acc :: τρ) (by simp [l]) o4 vs
          rw [we] at o5
          exact iteF ⟨S3, acc, sa, o5, hf', by omega⟩
        | some r =>
          obtain ⟨rfl, hn, he⟩ := he
          refine iteT (he S0 H0 A0 S3 H3 (some (.ref Dl) :: τσ) (.nd .lst acc :: τρ) σ3 _ (by simp [l]) o4 fun y S4 H4 s4 o5 => ?_)
          obtain ⟨ac, e1, e2, o6⟩ := Ok.append o5 hn
          have o7 := Ok.wipe (τσ := some (.ref Dl) :: τσ) (τρ := .nd .lst (acc ++ [r]) :: τρ) (by simp [l]) o6 vs
          rw [we] at o7
          exact ⟨ac, e1, sz_lt (by omega), S4, acc ++ [r], sa.trans s4, o7, hf', by simp; omega⟩
    · have e : i = ds.length := by omega
      subst e
      rw [List.drop_length] at hf'
      simp only [mLc, Option.some.injEq, Prod.mk.injEq] at hf'
      obtain ⟨rfl, rfl⟩ := hf'
      refine .inl ⟨st, q _ S' H' (ss1.trans s1) ?_⟩
      have := Ok.restore (τσ := some (.ref Dl) :: τσ) (τρ := .nd .lst acc :: τρ) (σ0 := σ) (ρ0 := ρ1) (ρe := ρi) (by simp [l]) l o1 s1 vs (L2.wipe σ vs) hc o' lσ
      rw [rst_wipe] at this
      exact this
end
end MR

namespace MR
open PySem PySem.Spec PyProof.Rows L2 PL

/-! ### a def's promise, where no guard stands on the stack -/
structure FnQ (P : Program) (w : World) (K : PySem.W.Frag) (mg : Str → Option Value) (base : Heap) (CX : CXT) (k : Nat) (f : Addr) (fd : FuncData) (ps : List Str) (sp : Sp) : Prop where
  ln : ∀ xs G Z W, sp xs G Z W → xs.length = ps.length
  go : ∀ (B : Around) (out : List PySem.Env) (st : Shared) (G : Hp) (ar : Args) (us : List Value) (xs : List V) (Z : VK) (W : XK), Room k B → B.guards = some [] → Env0 P w K mg base B out st G →
    BindsTo st fd ar (ps.zip us) → Vals xs us → sp xs G Z W → codeAny (model P w) B (.call (.ref f) ar) (CR CX out P w G st Z W) st
section
variable {P : Program} {w : World} {K : PySem.W.Frag} {mg : Str → Option Value} {base : Heap} {CX : CXT}
theorem FnQ.up {j k : Nat} {f : Addr} {fd : FuncData} {ps : List Str} {sp : Sp} (F : FnQ P w K mg base CX j f fd ps sp) (h : j ≤ k) : FnQ P w K mg base CX k f fd ps sp :=
  ⟨F.ln, fun B out st G ar us xs Z W r => F.go B out st G ar us xs Z W (r.mono h)⟩
/-- a def of the text, its defaults whatever they are -/
structure FunV (K : PySem.W.Frag) (x : Str) (st : Stmt) (f : Addr) (fd : FuncData) : Prop where
  ex : ∃ (oc : Value) (od : Option Addr) (dV kV doc pm : Value) (an : Option Addr) (cdv ct : Value) (osl : Array (Option Value)),
    fd = PySem.W.fnOf x x (defArgs st) (defBody st) (defScope st) dV kV doc pm an cdv ct ∧ K.lookup f = some ⟨oc, od, .func fd, osl⟩ ∧ PySem.W.codeIn K cdv x = true
  kp : PySem.W.keepIn K (.ref f) = true
theorem funV_of {x : Str} {st : Stmt} {f : Addr} {fd : FuncData} (F : Fun K x x st f fd) : FunV K x st f fd := by
  obtain ⟨oc, od, kV, doc, pm, an, cv, ct, sl, e, lk, cd⟩ := F.ex
  exact ⟨⟨oc, od, .none, kV, doc, pm, an, cv, ct, sl, e, lk, cd⟩, F.kp⟩
/-- one with m defaults -/
structure FunD1 (K : PySem.W.Frag) (x : Str) (st : Stmt) (m : Nat) (f : Addr) (fd : FuncData) : Prop where
  ex : ∃ (oc : Value) (od : Option Addr) (T : Addr) (kV doc pm : Value) (an : Option Addr) (cdv ct : Value) (osl : Array (Option Value)) (o : Obj) (its : List Value) (n : Nat),
    fd = PySem.W.fnOf x x (defArgs st) (defBody st) (defScope st) (.ref T) kV doc pm an cdv ct ∧ K.lookup f = some ⟨oc, od, .func fd, osl⟩ ∧ PySem.W.codeIn K cdv x = true ∧ K.lookup T = some o ∧ o.data = .seq its.toArray n ∧ its.length = m
  kp : PySem.W.keepIn K (.ref f) = true
theorem funD1_mk {x : Str} {st : Stmt} {m : Nat} {f T : Addr} {oc : Value} {od an : Option Addr} {osl : Array (Option Value)} {kV doc pm cdv ct : Value} {o : Obj} {its : List Value} {n : Nat} (l : K.lookup f = some ⟨oc, od, .func (PySem.W.fnOf x x (defArgs st) (defBody st) (defScope st) (.ref T) kV doc pm an cdv ct), osl⟩)
    (c : PySem.W.codeIn K cdv x = true) (k : PySem.W.keepIn K (.ref f) = true) (u : K.lookup T = some o) (v : o.data = .seq its.toArray n) (e : its.length = m) : FunD1 K x st m f (PySem.W.fnOf x x (defArgs st) (defBody st) (defScope st) (.ref T) kV doc pm an cdv ct) :=
  ⟨⟨oc, od, T, kV, doc, pm, an, cdv, ct, osl, o, its, n, rfl, l, c, u, v, e⟩, k⟩
theorem FunD1.toV {x : Str} {st : Stmt} {m : Nat} {f : Addr} {fd : FuncData} (F : FunD1 K x st m f fd) : FunV K x st f fd := by
  obtain ⟨oc, od, T, kV, doc, pm, an, cv, ct, sl, o, its, n, e, lk, cd, _⟩ := F.ex
  exact ⟨⟨oc, od, _, kV, doc, pm, an, cv, ct, sl, e, lk, cd⟩, F.kp⟩
theorem FunD1.binds {x : Str} {st : Stmt} {m : Nat} {f : Addr} {fd : FuncData} {ps : List Str} (F : FunD1 K x st m f fd)
    (h : ∀ (T : Addr) (kV doc pm : Value) (an : Option Addr) (cdv ct : Value) (us its : List Value), us.length = ps.length → its.length = m →
      ∃ k, bindArgs (PySem.W.fnOf x x (defArgs st) (defBody st) (defScope st) (.ref T) kV doc pm an cdv ct) ⟨us, []⟩ = seqItems? (.ref T) >>= k ∧ k (some its.toArray) = pure (ps.zip us)) : Binds K fd ps [] := fun s us X hl => by
  obtain ⟨oc, od, T, kV, doc, pm, an, cdv, ct, osl, o, its, n, rfl, lk, cd, lT, oT, hm⟩ := F.ex
  rw [List.append_nil] at hl ⊢
  obtain ⟨k, e1, e2⟩ := h T kV doc pm an cdv ct us its hl hm
  refine L2.BindsTo.of_looks fun M => ?_
  rw [e1]
  exact L2.looks_items X lT oT (.of_pure e2)
theorem FunD1.kbinds {x : Str} {st : Stmt} {m : Nat} {f : Addr} {fd : FuncData} {ps ks : List Str} {g : List Value → List Value → List Value} {gV : List V → List V → List V} (F : FunD1 K x st m f fd)
    (h : ∀ (T : Addr) (kV doc pm : Value) (an : Option Addr) (cdv ct : Value) (us ws its : List Value), (g us ws).length = ps.length → its.length = m →
      ∃ k, bindArgs (PySem.W.fnOf x x (defArgs st) (defBody st) (defScope st) (.ref T) kV doc pm an cdv ct) ⟨us, ks.zip ws⟩ = seqItems? (.ref T) >>= k ∧ k (some its.toArray) = pure (ps.zip (g us ws)))
    (rel : ∀ {vs : List V} {us : List Value} {zs : List V} {ws : List Value}, Vals vs us → Vals zs ws → Vals (gV vs zs) (g us ws)) : KBinds K fd ps ks g gV := by
  refine ⟨fun s us ws X hl => ?_, rel⟩
  obtain ⟨oc, od, T, kV, doc, pm, an, cdv, ct, osl, o, its, n, rfl, lk, cd, lT, oT, hm⟩ := F.ex
  obtain ⟨k, e1, e2⟩ := h T kV doc pm an cdv ct us ws its hl hm
  refine L2.BindsTo.of_looks fun M => ?_
  rw [e1]
  exact L2.looks_items X lT oT (.of_pure e2)
structure TpD (K : PySem.W.Frag) (mg : Str → Option Value) (x : Str) (st : Stmt) (m : Nat) where
  a : Addr
  fd : FuncData
  F : FunD1 K x st m a fd
  g : mg x = some (.ref a)
/-- by its body -/
theorem fnq_ofV {x : Str} {st : Stmt} {f : Addr} {fd : FuncData} {N ps : List Str} {k : Nat} {sp : Sp} (F : FunV K x st f fd) (S : FnScope N ps (defScope st)) (ln : ∀ xs G Z W, sp xs G Z W → xs.length = ps.length)
    (body : ∀ (cv : Value) (B : Around) (out : List PySem.Env) (s0 : Shared) (G : Hp) (xs : List V) (Z : VK) (W : XK), Room k (B.deeper (envOfC x (defScope st) s0.heap.objs.size f cv)) → B.guards = some [] → sp xs G Z W →
      ∃ t, PSs (cxOf CX P w K mg base N x (defScope st) f cv B out s0 G W) (defBody st) t ∧ t { nx := fun _ G' => Z .non G', rt := Z } (start N xs) G) : FnQ P w K mg base CX (k + 1) f fd ps sp := by
  obtain ⟨oc, od, dV, kV, doc, pm, an, cv, ct, sl, rfl, lk, cd⟩ := F.ex
  refine ⟨ln, fun B out s0 G ar us xs Z W rm gd e0 bd vs hs => ?_⟩
  have same := ln _ _ _ _ hs
  have up : ∀ b o, base.get? b = some o → s0.heap.get? b = some o := fun b o e => (e0.bs b o e).1
  have kin : K.In s0.heap := e0.mod.kin.keeps up
  have nol : s0.heap.NoLimit := e0.mod.nolimit.keeps up
  have kinds : ∀ y ∈ ps.zip us, (defScope st).names.lookup y.1 = some .local ∨ ((defScope st).names.lookup y.1 = some .cell ∧ ((cellsFrom (s0.heap.objs.size + 1) (defScope st).names []).lookup y.1).isSome = true) := by
    intro y hy
    obtain ⟨n, v⟩ := y
    have hn := (List.of_mem_zip hy).1
    cases S.par n hn with
    | inl q => exact .inl q
    | inr q => exact .inr ⟨q, PySem.W.cellsFrom_some _ _ _ (.inl q)⟩
  refine codeAny_call_function rm.depth (kin _ _ lk) rfl S.co S.gen rfl (PySem.W.codeRec_of kin cd) (bd _ _ _ _ (wpAny_newFunctionEnv_cells S.kind kinds fun env ee s1 xx => ?_))
  subst ee
  obtain ⟨t, pt, tq⟩ := body cv B out s0 G xs Z W (rm.deeper _) gd hs
  have inv := inv_start (CX := CX) (E := W) S rm.hd e0 same vs xx
  refine ⟨nol.keeps xx.toInCall.keep, codeAny_func (wpAny_mono (pt.run [] s1 (start N xs) G _ inv tq) (fun fl s2 h2 => ?_) fun e s2 h2 => h2)⟩
  have stop : ∀ {τ : L2.St} {G' : Hp} {v : V} {u : Value}, Inv (cxOf CX P w K mg base N x (defScope st) f cv B out s0 G W) [] τ G' s2 → RelV v u → Z v G' → CE out P w G s0 Z u s2 := by
    intro τ G' v u J rv q
    exact ⟨v, G', J.os, J.bare, J.base, J.hok, rv, q⟩
  match fl, h2 with
  | .ret u, h2 => obtain ⟨v, τ, G', J, rv, q⟩ := h2; exact stop J rv q
  | .next, h2 => obtain ⟨τ, G', J, q⟩ := h2; exact stop (v := V.non) (u := Value.none) J rfl q
  | .brk, h2 => obtain ⟨_, _, _, q⟩ := h2; cases q
  | .cont, h2 => obtain ⟨_, _, _, q⟩ := h2; cases q
/-- by its body -/
theorem fnq_of {x : Str} {st : Stmt} {f : Addr} {fd : FuncData} {N ps : List Str} {k : Nat} {sp : Sp} (F : Fun K x x st f fd) (S : FnScope N ps (defScope st)) (ln : ∀ xs G Z W, sp xs G Z W → xs.length = ps.length)
    (body : ∀ (cv : Value) (B : Around) (out : List PySem.Env) (s0 : Shared) (G : Hp) (xs : List V) (Z : VK) (W : XK), Room k (B.deeper (envOfC x (defScope st) s0.heap.objs.size f cv)) → B.guards = some [] → sp xs G Z W →
      ∃ t, PSs (cxOf CX P w K mg base N x (defScope st) f cv B out s0 G W) (defBody st) t ∧ t { nx := fun _ G' => Z .non G', rt := Z } (start N xs) G) : FnQ P w K mg base CX (k + 1) f fd ps sp := fnq_ofV (funV_of F) S ln body
end
section
variable {X : Cx} {CX : CXT} {k : Nat} {f : Addr} {fd : FuncData} {ps : List Str} {sp : Sp} {E : XK} {x : Str} {p pos : Pos} {e : Expr} {es : List Expr} {t : TA}
theorem go_fn {pins : List (Addr × Obj)} {σ : L2.St} {H : Hp} {s : Shared} {Q : VK} {us : List Value} {vs : List V} (F : FnQ X.prog X.w X.K X.mg X.base CX k f fd ps sp) (hr : Room k X.A) (hg : X.A.guards = some []) (hb : Binds X.K fd ps [])
    (hx : Passes CX X E) (I : Inv X pins σ H s) (r : Vals vs us) (h : sp vs H Q E) : wpAny (model X.prog X.w) X.A (call (.ref f) us) (EP X pins σ Q) X.xe s := by
  have hl : us.length = ps.length := by rw [← r.length]; exact F.ln _ _ _ _ h
  have bd := hb s us I.kIn (by simpa using hl)
  rw [List.append_nil] at bd
  refine wpAny_call (codeAny_mono (F.go X.A X.stack s H ⟨us, []⟩ us vs Q E hr hg I.env0 bd r h) fun rr s' hq => ?_)
  match rr, hq with
  | .error e, hq => exact hx pins σ H s e s' I hq
  | .ok (.ret u), hq => exact I.after hq
  | .ok .next, hq => cases hq
  | .ok .brk, hq => cases hq
  | .ok .cont, hq => cases hq
theorem pe_callQ (F : FnQ X.prog X.w X.K X.mg X.base CX k f fd ps sp) (hr : Room k X.A) (gd : X.A.guards = some []) (hg : Gl X x) (hm : X.mg x = some (.ref f)) (hk : PySem.W.keepIn X.K (.ref f) = true) (hb : Binds X.K fd ps [])
    (hx : Passes CX X E) (ha : PA X (e :: es) t) (hdb : (x == ("__debug__" : Str)) = false := by decide) (he : starEach (e :: es) X.env = (false, eval e X.env) :: starEach es X.env := by rfl)
    (hpl : (backTo pos (starEach es X.env)).any (·.1) = false := by rfl) : PE X (.Call (.Name x p) (e :: es) [] pos) (tCall sp [] E t) := by
  refine ⟨fun pins s σ H Q I h => wpAny_Call_Name_kw (ld_glob I hg hm ?_ hdb)⟩
  refine PySem.W.callWith_K (h₀ := X.base) I.ok.mod.kin hk (thn (ha.run pos pins s σ H _ I h) ?_) he hpl
  rintro us s1 ⟨vs, H1, I1, r, q⟩
  rw [List.append_nil] at q
  exact ⟨I1.kIn, go_fn F hr gd hb hx I1 r q⟩
theorem pe_callQ0 (F : FnQ X.prog X.w X.K X.mg X.base CX k f fd ps sp) (hr : Room k X.A) (gd : X.A.guards = some []) (hg : Gl X x) (hm : X.mg x = some (.ref f)) (hk : PySem.W.keepIn X.K (.ref f) = true) (hb : Binds X.K fd ps [])
    (hx : Passes CX X E) (hdb : (x == ("__debug__" : Str)) = false := by decide) : PE X (.Call (.Name x p) [] [] pos) (tCall sp [] E tNil) := by
  refine ⟨fun pins s σ H Q I h => wpAny_Call_Name_kw (ld_glob I hg hm ?_ hdb)⟩
  have h : sp [] H Q E := h
  exact PySem.W.callWith_K0 I.kIn hk (go_fn (us := []) F hr gd hb hx I .nil h)
end

/-! ### the law's call -/
theorem law_goes {P : Program} {w : World} {K : PySem.W.Frag} {mg mb : Str → Option Value} {CX : CXT} {k : Nat} {fa a : Addr} {fd : FuncData} {x : Str} {sp : Sp} {st : Shared} {us : List Value} {ns : List Int}
    (kin : K.In st.heap) (nsm : st.heap.Ns mainGlobals mg) (nsb : st.heap.Ns builtinsNs mb) (boot : ∀ y : Str, y ≠ "__name__" → mb y = bootBuiltins y) (nol : st.heap.NoLimit) (gens : st.gens = #[])
    (obj : st.heap.get? a = some { cls := .type "list", data := .seq us.toArray }) (hin : IntsAre us ns) (most : ns.length ≤ sizeLine) (rm : Room k callerA)
    (F : ∀ base : Heap, K.In base → base.Ns mainGlobals mg → FnQ P w K mg base CX k fa fd [x] sp) (bd : ∀ (s : Shared) (u : Value), BindsTo s fd ⟨[u], []⟩ [(x, u)])
    (hsp : ∀ G : Hp, SqL K G a (ns.map V.int) → sp [.ref a] G (fun v _ => v = .bl true) fun _ _ _ => False) (noX : ∀ G e s', CX [] G st (fun _ _ _ => False) e s' → False) :
    codeAny (model P w) callerA (.call (.ref fa) ⟨[.ref a], []⟩) (fun r s' => r = .ok (.ret (.bool true)) ∧ OldK st.heap s'.heap ∧ s'.os = st.os ∧ AllBare s'.gens) st := by
  -- G: either nothing is tracked, or the script alone, frozen
  suffices main : ∀ G : Hp, (∀ b u, G b = some u → b = a ∧ K.lookup a = none ∧ ∃ o zs, u = .frz o (.lst zs)) → SqL K G a (ns.map V.int) → HOk P w G st.heap →
      codeAny (model P w) callerA (.call (.ref fa) ⟨[.ref a], []⟩) (fun r s' => r = .ok (.ret (.bool true)) ∧ OldK st.heap s'.heap ∧ s'.os = st.os ∧ AllBare s'.gens) st by
    cases hk : K.lookup a with
    | some o =>
      have e := kin a o hk
      rw [obj] at e
      cases e
      refine main (fun _ => none) (fun b u z => by cases z) (.inr ⟨_, us.toArray, _, hk, rfl, rfl, rfl, ?_, ?_⟩) (fun b u z => by cases z)
      · rw [List.size_toArray, hin.length]; exact most
      · simpa using vals_ints hin
    | none =>
      let G : Hp := fun b => if b = a then some (.frz { cls := .type "list", data := .seq us.toArray } (.lst (ns.map V.int))) else none
      have Ga : G a = some (.frz { cls := .type "list", data := .seq us.toArray } (.lst (ns.map V.int))) := if_pos rfl
      have Gn : ∀ b u, G b = some u → b = a := fun b u z => by
        by_cases hb : b = a
        · exact hb
        · have : G b = none := if_neg hb
          rw [this] at z; cases z
      refine main G (fun b u z => ?_) (.inl (.inr ⟨_, Ga⟩)) (fun b u z => ?_)
      · have hb := Gn b u z
        subst hb
        rw [Ga] at z
        exact ⟨rfl, hk, _, _, (Option.some.inj z).symm⟩
      · have hb := Gn b u z
        subst hb
        rw [Ga] at z
        cases z
        exact ⟨obj, by rw [List.length_map]; exact most, us, _, vals_ints hin, obj⟩
  intro G hG sq hok
  have there : ∀ {b : Addr} {o : Obj}, st.heap.get? b = some o → G b = none → (hidT st.heap G).get? b = some o := fun e n => hidT_get e n
  have notd : ∀ {b : Addr} {o : Obj} {es : Array DictEntry} {n : Nat}, st.heap.get? b = some o → o.data = .dict es n → G b = none := by
    intro b o es n e dd
    cases q : G b with
    | none => rfl
    | some u =>
      obtain ⟨rfl, _, _⟩ := hG b u q
      rw [obj] at e
      cases e
      cases (dd : Data.seq us.toArray _ = Data.dict es n)
  have nsAt : ∀ {b : Addr} {m : Str → Option Value}, st.heap.Ns b m → (hidT st.heap G).Ns b m := by
    rintro b m ⟨o, es, ep, e, dd, r⟩
    exact ⟨o, es, ep, there e (notd e dd), dd, r⟩
  have kinT : K.In (hidT st.heap G) := by
    intro b o e
    refine there (kin b o e) ?_
    cases q : G b with
    | none => rfl
    | some u =>
      obtain ⟨rfl, hn, _⟩ := hG b u q
      rw [hn] at e; cases e
  have md : Mod K mg (hidT st.heap G) := by
    obtain ⟨mc, n1, n2⟩ := nol
    exact ⟨kinT, nsAt nsm, ⟨mb, nsAt nsb, boot⟩, ⟨mc, nsAt n1, n2⟩⟩
  have env0 : Env0 P w K mg (hidT st.heap G) callerA [] st G :=
    ⟨rfl, md, fun b o e => of_hidT e, Nat.le_of_eq (hidT_size _ _), trivial, fun b hb => (List.not_mem_nil hb).elim, hok, .of_eq gens⟩
  refine codeAny_mono ((F _ kinT (nsAt nsm)).go callerA [] st G ⟨[.ref a], []⟩ [.ref a] [.ref a] _ _ rm rfl env0 (bd st (.ref a)) (.cons rfl .nil) (hsp G sq)) fun r s' h => ?_
  match r, h with
  | .error e, h => exact (noX G e s' h).elim
  | .ok .next, h => cases h
  | .ok .brk, h => cases h
  | .ok .cont, h => cases h
  | .ok (.ret u), h =>
    obtain ⟨v, G', os, bare, un, hok', rv, q⟩ := h
    have q : v = .bl true := q
    subst q
    obtain rfl : u = Value.bool true := rv
    refine ⟨rfl, OldK.of_keep fun b o e => ?_, os, bare⟩
    cases q : G b with
    | none => exact un.keep b o e q (by intro z; cases (show b ∈ ([] : List Addr) from z)) (by simp)
    | some u =>
      obtain ⟨rfl, _, ob, zs, rfl⟩ := hG b u q
      obtain ⟨e1, _⟩ := hok _ _ q
      obtain ⟨e2, _⟩ := hok' _ _ (un.frzs _ ob _ q)
      rw [e] at e1
      cases e1
      exact e2
theorem walkQ {l : PySem.W.OpenLaw} {n k : Nat} {q : Program} {loose : List Str} {XP : (Str → Option Value) → Heap → Prop} {YP : World → Heap → Prop} {d : DefRec} {K : Params → PySem.W.Frag} {CX : World → CXT} {sp : World → Sp} {x : Str}
    (hmo : l.most = some n) (le : n ≤ sizeLine) (dflt : d.params.defaults = []) (rm : Room k callerA) (kin : ∀ (w : World) (h : Heap), YP w h → (K w.params).In h)
    (F : ∀ (w : World) (mg : Str → Option Value) (fa : Addr) (h : Heap), (K w.params).In h → h.Ns mainGlobals mg → mg d.name = some (.ref fa) →
      ∃ fd : FuncData, (∀ (s : Shared) (u : Value), BindsTo s fd ⟨[u], []⟩ [(x, u)]) ∧ ∀ base : Heap, (K w.params).In base → base.Ns mainGlobals mg → FnQ l.prog w (K w.params) mg base (CX w) k fa fd [x] (sp w))
    (hsp : ∀ (w : World) (G : Hp) (a : Addr) (ns : List Int), ns.length ≤ n → SqL (K w.params) G a (ns.map V.int) → sp w [.ref a] G (fun v _ => v = .bl true) fun _ _ _ => False)
    (noX : ∀ (w : World) (G : Hp) (s : Shared) (e : Value) (s' : Shared), CX w [] G s (fun _ _ _ => False) e s' → False) : PySem.W.WalkO q loose XP YP l.row.toRowW d [] (fun f vs => PySem.call f vs) := by
  refine Att.attach_call hmo dflt ?_
  intro w s0 s1 mg mb fa o pm cd doc a us ns G Y hobj hdat hcd hmg hlist hints hlen hgens
  obtain ⟨fd, bd, FF⟩ := F w mg fa _ (kin w _ Y) G.T.g hmg
  exact law_goes (kin w _ Y) G.T.g G.T.b G.T.builtins G.T.nolimit hgens hlist hints (Nat.le_trans hlen le) rm FF bd (fun H hS => hsp w H a ns hlen hS) fun H e s' => noX w H s1 e s'
end MR

namespace MR
open PySem L2 PL
variable [kf : KF]

/-! ### promises by functions -/
/-- frozen arguments; f tells the result -/
def spP (n : Nat) (f : List D → Option OT) : Sp := fun vs H Q _ => ∃ S ds r, ds.length = n ∧ Same S H ∧ RpAll S vs ds ∧ f ds = some r ∧
  ∀ v S' H' B, Xt S H S' H' → OOk S' H' v r B → B.Nodup → (∀ a ∈ B, H a = none) → Q v H'
/-- the first argument is changed in place -/
def spI (n : Nat) (f : OT → List D → Option (OT × OT)) : Sp := fun vs H Q _ => ∃ v0 us S A t ds r t', vs = v0 :: us ∧ ds.length + 1 = n ∧ Same S H ∧ OOk S H v0 t A ∧ A.Nodup ∧ RpAll S us ds ∧ f t ds = some (r, t') ∧
  ∀ v S' H' B, Xa A S H S' H' → EOk S' H' [some v, some v0] [r, t'] B → B.Nodup → (∀ a ∈ B, a ∈ A ∨ H a = none) → Q v H'
theorem spP_len {n : Nat} {f : List D → Option OT} {ps : List Str} (e : ps.length = n) : ∀ vs H Q E, spP n f vs H Q E → vs.length = ps.length := fun vs H Q E h => by
  obtain ⟨S, ds, r, h1, _, h2, _⟩ := h
  rw [e, ← h1]; exact dpa_length h2
theorem spI_len {n : Nat} {f : OT → List D → Option (OT × OT)} {ps : List Str} (e : ps.length = n) : ∀ vs H Q E, spI n f vs H Q E → vs.length = ps.length := fun vs H Q E h => by
  obtain ⟨v0, us, S, A, t, ds, r, t', rfl, h1, _, _, _, h2, _⟩ := h
  rw [e, List.length_cons, dpa_length h2]; omega
def fin : Option (Fl × Env) → Option OT
  | some (.rt .no, _) => Option.none
  | some (.rt r, _) => some r
  | some (.nx, _) => some (.d .none)
  | _ => Option.none
def finI : Option (Fl × Env) → Option (OT × OT)
  | some (.rt .no, _) => Option.none
  | some (.rt r, t :: _) => some (r, t)
  | some (.nx, t :: _) => some (.d .none, t)
  | _ => Option.none
section
variable {S H S' H' S0 H0 : Hp}
theorem eok_start {vs : List V} {ds : List D} (h : RpAll S vs ds) (k : Nat) : EOk S H (vs.map some ++ List.replicate k Option.none) (ds.map .d ++ List.replicate k .no) [] := by
  have nos : ∀ k, EOk S H (List.replicate k Option.none) (List.replicate k .no) [] := by
    intro k
    induction k with
    | zero => exact .nil
    | succ k ih => exact (EOk.cons .no ih : EOk S H _ _ ([] ++ []))
  induction ds generalizing vs with
  | nil => cases h; exact nos k
  | cons x ds ih => cases h with | cons a t => exact (EOk.cons (.is (.d a)) (ih t) : EOk S H _ _ ([] ++ []))
theorem def_plain {n : Nat} {f : List D → Option OT} {vs : List V} {H : Hp} {Q : VK} {E : XK} {N : List Str} {t : TS} (h : spP n f vs H Q E)
    (hb : ∀ ds r, ds.length = n → f ds = some r → ∃ o, fin o = some r ∧ ∀ fl ρ', o = some (fl, ρ') → RunS [] t (ds.map .d ++ List.replicate (N.length - n) .no) fl ρ') :
    t { nx := fun _ H' => Q .non H', rt := Q } (L2.start N vs) H := by
  obtain ⟨S, ds, r, hn, sh, hr, hf, q⟩ := h
  obtain ⟨o, ho, hR⟩ := hb ds r hn hf
  have hl : vs.length = n := by rw [dpa_length hr, hn]
  have ok0 : Ok S H [] S H (L2.start N vs) (ds.map .d ++ List.replicate (N.length - n) .no) := by
    refine ⟨Xa.refl sh, [], ?_, List.nodup_nil, fun a ha => by cases ha⟩
    show EOk S H (vs.map some ++ List.replicate (N.length - vs.length) Option.none) _ _
    rw [hl]; exact eok_start hr _
  cases o with
  | none => cases ho
  | some p =>
    obtain ⟨fl, ρ'⟩ := p
    refine hR fl ρ' rfl S H [] S H _ [] _ rfl (fun p hp => by cases hp) ok0 ?_
    cases fl with
    | nx =>
      cases ho
      exact fun S' H' σ' ss _ o' => q .non S' H' [] o'.xt.xt (.d .non) List.nodup_nil fun a ha => by cases ha
    | bk => cases ho
    | ct => cases ho
    | rt r' =>
      have hr' : r' = r ∧ r ≠ .no := by
        cases r' with
        | no => cases ho
        | d x => cases ho; exact ⟨rfl, by intro z; cases z⟩
        | nd k ts => cases ho; exact ⟨rfl, by intro z; cases z⟩
        | fl ts => cases ho; exact ⟨rfl, by intro z; cases z⟩
      obtain ⟨rfl, hn'⟩ := hr'
      intro v S' H' σ' ss _ o'
      obtain ⟨B, h1, h2, h3⟩ := o'.env
      cases h1 with
      | @cons _ _ A1 _ _ B1 p1 p2 =>
        cases p1 with
        | no => exact (hn' rfl).elim
        | is p1 =>
          refine q v S' H' A1 o'.xt.xt p1 (List.nodup_append.mp h2).1 fun a ha => ?_
          rcases h3 a (List.mem_append_left _ ha) with z | z
          · cases z
          · exact z
theorem def_io {n : Nat} {f : OT → List D → Option (OT × OT)} {vs : List V} {H : Hp} {Q : VK} {E : XK} {N : List Str} {t : TS} (h : spI n f vs H Q E)
    (hb : ∀ t0 ds r t', ds.length + 1 = n → f t0 ds = some (r, t') → ∃ o, finI o = some (r, t') ∧ ∀ fl ρ', o = some (fl, ρ') → RunS [0] t (t0 :: (ds.map .d ++ List.replicate (N.length - n) .no)) fl ρ') :
    t { nx := fun _ H' => Q .non H', rt := Q } (L2.start N vs) H := by
  obtain ⟨v0, us, S, A, t0, ds, r, t', rfl, hn, sh, h0, hA, hr, hf, q⟩ := h
  obtain ⟨o, ho, hR⟩ := hb t0 ds r t' hn hf
  have hl : us.length + 1 = n := by rw [dpa_length hr, hn]
  have ok0 : Ok S H A S H (L2.start N (v0 :: us)) (t0 :: (ds.map .d ++ List.replicate (N.length - n) .no)) := by
    refine ⟨Xa.refl sh, A ++ [], ?_, by simpa using hA, fun a ha => .inl (by simpa using ha)⟩
    show EOk S H (some v0 :: (us.map some ++ List.replicate (N.length - (us.length + 1)) Option.none)) _ _
    rw [hl]
    exact .cons (.is h0) (eok_start hr _)
  have fx0 : Fx [(0, v0)] (L2.start N (v0 :: us)) := fun p hp => by
    rw [List.mem_singleton.mp hp]; rfl
  cases o with
  | none => cases ho
  | some p =>
    obtain ⟨fl, ρ'⟩ := p
    refine hR fl ρ' rfl S H A S H _ [(0, v0)] _ rfl fx0 ok0 ?_
    cases fl with
    | bk => cases ho
    | ct => cases ho
    | nx =>
      intro S' H' σ' ss fx o'
      cases ρ' with
      | nil => cases ho
      | cons t1 ρ' =>
        cases ho
        have fx := fx _ List.mem_cons_self
        obtain ⟨B, h1, h2, h3⟩ := o'.env
        cases h1 with
        | @cons w _ A1 σ1 _ B1 p1 p2 =>
          have e : w = some v0 := by simpa using fx
          subst e
          refine q .non S' H' ([] ++ (A1 ++ [])) o'.xt (.cons (.is (.d .non)) (.cons p1 .nil)) (by simpa using (List.nodup_append.mp h2).1) fun a ha => ?_
          exact h3 a (List.mem_append_left _ (by simpa using ha))
    | rt r' =>
      have hr' : r' = r ∧ ∃ ρ1, ρ' = t' :: ρ1 := by
        cases r' with
        | no => cases ho
        | d x => cases ρ' with
          | nil => cases ho
          | cons a b => cases ho; exact ⟨rfl, _, rfl⟩
        | nd k ts => cases ρ' with
          | nil => cases ho
          | cons a b => cases ho; exact ⟨rfl, _, rfl⟩
        | fl ts => cases ρ' with
          | nil => cases ho
          | cons a b => cases ho; exact ⟨rfl, _, rfl⟩
      obtain ⟨rfl, ρ1, rfl⟩ := hr'
      intro v S' H' σ' ss fx o'
      have fx := fx _ List.mem_cons_self
      obtain ⟨B, h1, h2, h3⟩ := o'.env
      cases h1 with
      | @cons _ _ A1 _ _ B1 p1 p2 =>
        cases p2 with
        | @cons w _ A2 σ1 _ B2 q1 q2 =>
          have e : w = some v0 := by simpa using fx
          subst e
          have nd := List.nodup_append.mp h2
          have nd2 := List.nodup_append.mp nd.2.1
          refine q v S' H' (A1 ++ (A2 ++ [])) o'.xt (.cons p1 (.cons q1 .nil)) ?_ fun a ha => ?_
          · rw [List.append_nil]
            exact List.nodup_append.mpr ⟨nd.1, nd2.1, fun a ha b hb => nd.2.2 a ha b (List.mem_append_left _ hb)⟩
          · rw [List.append_nil] at ha
            rcases List.mem_append.mp ha with z | z
            · exact h3 a (List.mem_append_left _ z)
            · exact h3 a (List.mem_append_right _ (List.mem_append_left _ z))
end

/-! ### calls -/
mutual
def OT.lf : OT → Bool
  | .no => false
  | .d x => tfl x
  | .nd _ ts => OT.lfs ts
  | .fl _ => false
def OT.lfs : List OT → Bool
  | [] => true
  | t :: ts => OT.lf t && OT.lfs ts
end
section
variable {S S1 H : Hp}
theorem frz_none {a : Addr} {u : HO} (h : S1 a = none) (hu : H a = some u) (nt : ∀ xs, u ≠ .tup xs) : frz S1 H [] a = none := by
  rw [frz_out (by simp) fun xs z => nt xs (by rw [hu] at z; exact Option.some.inj z)]; exact h
mutual
theorem ook_lf (sh : Same S H) : ∀ (t : OT) (v : V) (A : List Addr), OOk S H v t A → t.lf = true → (∀ a ∈ A, S1 a = none) → OOk (frz S1 H []) H v t A
  | .no, _, _, h, _, _ => by cases h; exact .no
  | .d x, _, _, h, f, _ => by
    simp only [OT.lf] at f
    cases h with | d h => exact .d (rp_tfl [] x _ f (dp_mono sh _ _ h))
  | .nd k ts, _, _, h, f, hs => by
    simp only [OT.lf] at f
    cases h with
    | tup h1 h2 => exact .tup h1 (oall_lf sh ts _ _ h2 f hs)
    | nd h0 h1 h2 h3 h4 => exact .nd h0 h1 (frz_none (hs _ List.mem_cons_self) h3 (shape_tup h0)) h3 (oall_lf sh ts _ _ h4 f fun a ha => hs a (List.mem_cons_of_mem _ ha))
  | .fl ts, _, _, h, f, hs => by simp [OT.lf] at f
theorem oall_lf (sh : Same S H) : ∀ (ts : List OT) (vs : List V) (A : List Addr), OAll S H vs ts A → OT.lfs ts = true → (∀ a ∈ A, S1 a = none) → OAll (frz S1 H []) H vs ts A
  | [], _, _, h, _, _ => by cases h; exact .nil
  | t :: ts, _, _, h, f, hs => by
    simp only [OT.lfs, Bool.and_eq_true] at f
    cases h with
    | cons h1 h2 => exact .cons (ook_lf sh t _ _ h1 f.1 fun a ha => hs a (List.mem_append_left _ ha)) (oall_lf sh ts _ _ h2 f.2 fun a ha => hs a (List.mem_append_right _ ha))
end
/-- with everything stable ahead of it; then with what was stable, and the tuples -/
theorem xt_low {S1 H1 S' H' : Hp} (sh : Same S1 H1) (xt : Xt H1 H1 S' H') : Xt S1 H1 (frz S1 H' []) H' :=
  Xt.trans ⟨xt.hh, Same.refl S1, sh.trans xt.hh, fun _ _ e => .inl e⟩ (xt_frz (sh.trans xt.hh))
end
section
variable {ρ ρ1 ρ2 ρ' : Env} {ta tb tc te : TE} {tl : TA} {d e x y : D} {r s t : OT} {S H S' H' S0 H0 : Hp} {A0 : List Addr} {n : Nat} {f : List D → Option OT} {ds : List D} {E : XK}
theorem evy_call (h : EvL tl ρ ds ρ1) (hn : ds.length = n) (hf : f ds = some r) : EvY (tCall (spP n f) [] E tl) ρ r ρ1 := fun S0 H0 A0 S H τσ τρ σ Q l o q =>
  h S0 H0 A0 S H τσ τρ σ _ l o fun vs S1 H1 s1 o1 h1 => by
    rw [List.append_nil]
    exact ⟨S1, ds, r, hn, o1.sh, h1, hf, fun v S' H' B xt hr nd fr => q v S' H' (s1.trans xt.ss) (o1.push xt hr nd fr)⟩
theorem rd_call (h : RdL tl ρ ds) (hn : ds.length = n) (hf : f ds = some r) (hx : r.toD = some x) : RdE (tCall (spP n f) [] E tl) ρ x := fun S0 H0 A0 S H τσ τρ σ Q l o q =>
  h S0 H0 A0 S H τσ τρ σ _ l o fun vs S1 H1 x1 h1 => by
    rw [List.append_nil]
    refine ⟨H1, ds, r, hn, Same.refl H1, h1, hf, fun v S' H' B xt hr nd fr => ?_⟩
    exact q v S1 H' (x1.trans ⟨xt.hh, Same.refl S1, x1.sh.trans xt.hh, fun _ _ e => .inl e⟩) (ook_rp xt.sh _ _ _ _ hr hx)
theorem evy_callR (h : RdL tl ρ ds) (hn : ds.length = n) (hf : f ds = some r) (hx : r.lf = true) : EvY (tCall (spP n f) [] E tl) ρ r ρ := fun S0 H0 A0 S H τσ τρ σ Q l o q =>
  h S0 H0 A0 S H τσ τρ σ _ l o fun vs S1 H1 x1 h1 => by
    rw [List.append_nil]
    refine ⟨H1, ds, r, hn, Same.refl H1, h1, hf, fun v S' H' B xt hr nd fr => ?_⟩
    have x2 := xt_low x1.sh xt
    exact q v _ H' (x1.ss.trans x2.ss) ((o.ext x1).push x2 (ook_lf xt.sh _ _ _ hr hx fun a ha => x1.sh.free (fr a ha)) nd fr)
theorem xa_sub {A : List Addr} {S1 H1 : Hp} (x : Xa A0 S0 H0 S1 H1) (y : Xa A S1 H1 S' H') (h : ∀ a ∈ A, a ∈ A0 ∨ H0 a = none) : Xa A0 S0 H0 S' H' :=
  ⟨fun b o n e => y.hh b o (fun z => by
      rcases h b z with w | w
      · exact n w
      · rw [w] at e; cases e) (x.hh b o n e), fun b e => x.dm b (y.dm b e), fun b xs e => y.tp b xs (x.tp b xs e), x.ss.trans y.ss, y.sh, fun b o e => by
    rcases y.nw b o e with q | q | q
    · exact x.nw b o q
    · rcases h b q with w | w
      · exact .inr (.inl w)
      · exact .inr (.inr fun u hu => by rw [w] at hu; cases hu)
    · by_cases hb : b ∈ A0
      · exact .inr (.inl hb)
      · exact .inr (.inr fun u hu => q u (x.hh b u hb hu))⟩
/-- f(x, ..), x's slot changed in place -/
theorem evy_callI {i : Nat} {g : OT → List D → Option (OT × OT)} {t0 t' : OT} (h0 : ρ[i]? = some t0) (hn0 : t0 ≠ .no) (h : EvL tl ρ ds ρ1) (ht : ρ1[i]? = some t) (hnt : t ≠ .no) (hn : ds.length + 1 = n) (hf : g t ds = some (r, t')) :
    EvY (tCall (spI n g) [] E (tCons (tVar i) tl)) ρ r (ρ1.set i t') := fun S0 H0 A0 S H τσ τρ σ Q l o q => by
  obtain ⟨v0, _, e1, _⟩ := o.slot l h0 hn0
  refine ⟨v0, e1, h S0 H0 A0 S H τσ τρ σ _ l o fun us S1 H1 s1 o1 h1 => ?_⟩
  show spI n g ((v0 :: us) ++ []) H1 Q E
  rw [List.append_nil]
  obtain ⟨B, he, nd, fr⟩ := o1.env
  obtain ⟨w, A, p1, p2, p3, p4, p5⟩ := he.pick nd (i := τρ.length + i) (s := t) (by rw [get_app rfl]; exact ht)
  rw [get_app l, e1] at p1
  cases p1
  cases p2 with
  | no => exact (hnt rfl).elim
  | is p2 =>
    refine ⟨v0, us, S1, A, t, ds, r, t', rfl, hn, o1.sh, p2, p3, h1, hf, fun v S' H' C xa ec ndC frC => ?_⟩
    cases ec with
    | @cons _ _ C1 _ _ C2' c1 c2 =>
      cases c2 with
      | @cons _ _ C2 _ _ C3 c2 c3 =>
        cases c3
        rw [List.append_nil] at ndC frC
        have ndC' := List.nodup_append.mp ndC
        have inB : ∀ a, a ∈ B → ∃ u, H1 a = some u ∧ ∀ xs, u ≠ .tup xs := fun a ha => (he.at a ha).2
        have dis : ∀ a, (a ∈ A ∨ H1 a = none) → a ∈ B → a ∈ A := fun a h hb => by
          rcases h with z | z
          · exact z
          · obtain ⟨u, hu, _⟩ := inB a hb
            rw [z] at hu; cases hu
        obtain ⟨B', q1, q2, q3⟩ := p5 (S' := S') (H' := H') (v' := some v0) (s' := t') (A' := C2) xa.ss xa.tp (fun a ha na => by
          obtain ⟨z1, u, z2, z3⟩ := he.at a ha
          refine ⟨?_, by rw [z2]; exact xa.hh a u na z2⟩
          cases qq : S' a with
          | none => rfl
          | some o' =>
            rcases xa.nw a o' qq with y | y | y
            · rw [z1] at y; cases y
            · exact (na y).elim
            · obtain ⟨xs, y⟩ := y u z2; exact (z3 xs y).elim) c2 ndC'.2.1 (fun a ha => by
          by_cases hb : a ∈ B
          · exact .inl (dis a (frC a (List.mem_append_right _ ha)) hb)
          · exact .inr hb)
        rw [set_app l, set_app rfl, set_same e1] at q1
        refine q v S' H' (s1.trans xa.ss) ⟨xa_sub o1.xt xa fun a ha => fr a (p4 a ha), C1 ++ B', .cons c1 q1, ?_, fun a ha => ?_⟩
        · refine List.nodup_append.mpr ⟨ndC'.1, q2, fun a ha b hb e => ?_⟩
          subst e
          rcases q3 a hb with z | ⟨z1, z2⟩
          · exact ndC'.2.2 a ha a z rfl
          · exact z2 (dis a (frC a (List.mem_append_left _ ha)) z1)
        · have sub : ∀ a, a ∈ A ∨ H1 a = none → a ∈ A0 ∨ H0 a = none := fun a h => by
            rcases h with z | z
            · exact fr a (p4 a z)
            · exact .inr (o1.xt.dm a z)
          rcases List.mem_append.mp ha with z | z
          · exact sub a (frC a (List.mem_append_left _ z))
          · rcases q3 a z with y | y
            · exact sub a (frC a (List.mem_append_right _ y))
            · exact fr a y.1
end
end MR

namespace MR
open PySem L2 PL
variable [kf : KF]

/-! ### paths into owned trees -/
def OT.at : OT → List Nat → Option OT
  | t, [] => some t
  | .nd _ ts, i :: p => match ts[i]? with
    | some t => OT.at t p
    | Option.none => Option.none
  | _, _ :: _ => Option.none
def OT.put : OT → List Nat → OT → OT
  | _, [], s => s
  | .nd k ts, i :: p, s => match ts[i]? with
    | some t => .nd k (ts.set i (OT.put t p s))
    | Option.none => .nd k ts
  | t, _ :: _, _ => t
def kids : Option HO → List V
  | some (.lst vs) => vs
  | some (.tup vs) => vs
  | some (.dK kvs) => kvs.map (·.2)
  | some (.dT kvs) => kvs.map (·.2)
  | _ => []
/-- where a path leads, in the heap -/
def follow (H : Hp) : V → List Nat → Option V
  | v, [] => some v
  | .ref a, i :: p => match (kids (H a))[i]? with
    | some v => follow H v p
    | Option.none => Option.none
  | _, _ :: _ => Option.none
section
variable {S H S' H' S0 H0 : Hp}
theorem kids_shape {k : Kd} {vs : List V} {n : Nat} (h : k.fits n) (hn : vs.length = n) : kids (some (shape k vs)) = vs := by
  cases k with
  | lst => rfl
  | tup => rfl
  | dK ks =>
    show (ks.zip vs).map (·.2) = vs
    rw [List.map_snd_zip]; have h : ks.length = n := h; omega
  | dT ks =>
    show (ks.zip vs).map (·.2) = vs
    rw [List.map_snd_zip]; have h : ks.length = n := h; omega
theorem OAll.pick : ∀ {ts : List OT} {vs : List V} {B : List Addr}, OAll S H vs ts B → B.Nodup → ∀ {i : Nat} {s : OT}, ts[i]? = some s → ∃ v A, vs[i]? = some v ∧ OOk S H v s A ∧ A.Nodup ∧ (∀ a ∈ A, a ∈ B) ∧
    ∀ {S' H' : Hp} {s' : OT} {A' : List Addr}, Same S S' → (∀ b xs, H b = some (.tup xs) → H' b = some (.tup xs)) → (∀ a ∈ B, a ∉ A → S' a = none ∧ H' a = H a) → OOk S' H' v s' A' → A'.Nodup → (∀ a ∈ A', a ∈ A ∨ a ∉ B) →
      ∃ B', OAll S' H' vs (ts.set i s') B' ∧ B'.Nodup ∧ ∀ a ∈ B', a ∈ A' ∨ (a ∈ B ∧ a ∉ A)
  | [], _, _, h, _, i, s, e => by simp at e
  | t :: ts, _, _, h, nd, i, s, e => by
    cases h with
    | @cons v vs _ _ A0 B h0 ht =>
      have nd1 : A0.Nodup := (List.nodup_append.mp nd).1
      have nd2 : B.Nodup := (List.nodup_append.mp nd).2.1
      have dj : ∀ a ∈ A0, a ∉ B := fun a ha hb => (List.nodup_append.mp nd).2.2 a ha a hb rfl
      cases i with
      | zero =>
        have e' : t = s := by simpa using e
        subst e'
        refine ⟨v, A0, rfl, h0, nd1, fun a ha => List.mem_append_left _ ha, fun {S' H' s' A'} ss tp k h' n' m' => ?_⟩
        refine ⟨A' ++ B, .cons h' (oall_keep ss tp _ _ _ ht fun a ha => k a (List.mem_append_right _ ha) fun z => dj a z ha), ?_, fun a ha => ?_⟩
        · refine List.nodup_append.mpr ⟨n', nd2, fun a ha b hb e => ?_⟩
          subst e
          rcases m' a ha with z | z
          · exact dj a z hb
          · exact z (List.mem_append_right _ hb)
        · rcases List.mem_append.mp ha with z | z
          · exact .inl z
          · exact .inr ⟨List.mem_append_right _ z, fun y => dj a y z⟩
      | succ i =>
        obtain ⟨w, A, e1, e2, e3, e4, e5⟩ := OAll.pick ht nd2 (i := i) (s := s) (by simpa using e)
        refine ⟨w, A, by simpa using e1, e2, e3, fun a ha => List.mem_append_right _ (e4 a ha), fun {S' H' s' A'} ss tp k h' n' m' => ?_⟩
        obtain ⟨B', q1, q2, q3⟩ := e5 ss tp (fun a ha na => k a (List.mem_append_right _ ha) na) h' n' (fun a ha => by
          rcases m' a ha with z | z
          · exact .inl z
          · exact .inr fun hb => z (List.mem_append_right _ hb))
        refine ⟨A0 ++ B', .cons (ook_keep ss tp _ _ _ h0 fun a ha => k a (List.mem_append_left _ ha) fun z => dj a ha (e4 a z)) q1, ?_, fun a ha => ?_⟩
        · refine List.nodup_append.mpr ⟨nd1, q2, fun a ha b hb e => ?_⟩
          subst e
          rcases q3 a hb with z | z
          · rcases m' a z with y | y
            · exact dj a ha (e4 a y)
            · exact y (List.mem_append_left _ ha)
          · exact dj a ha z.1
        · rcases List.mem_append.mp ha with z | z
          · exact .inr ⟨List.mem_append_left _ z, fun y => dj a z (e4 a y)⟩
          · rcases q3 a z with y | y
            · exact .inl y
            · exact .inr ⟨List.mem_append_right _ y.1, y.2⟩
/-- a subtree taken, and put back changed in place -/
theorem ook_path : ∀ (p : List Nat) {t s : OT} {v : V} {A : List Addr}, OOk S H v t A → A.Nodup → t.at p = some s → ∃ w A1, follow H v p = some w ∧ OOk S H w s A1 ∧ A1.Nodup ∧ (∀ a ∈ A1, a ∈ A) ∧
    ∀ {S' H' : Hp} {s' : OT} {A' : List Addr}, Same S S' → (∀ b xs, H b = some (.tup xs) → H' b = some (.tup xs)) → (∀ a ∈ A, a ∉ A1 → S' a = none ∧ H' a = H a) → OOk S' H' w s' A' → A'.Nodup → (∀ a ∈ A', a ∈ A1 ∨ a ∉ A) →
      ∃ B', OOk S' H' v (t.put p s') B' ∧ B'.Nodup ∧ ∀ a ∈ B', a ∈ A' ∨ (a ∈ A ∧ a ∉ A1)
  | [], t, s, v, A, h, nd, e => by
    simp only [OT.at, Option.some.injEq] at e
    subst e
    exact ⟨v, A, rfl, h, nd, fun _ z => z, fun {S' H' s' A'} ss tp k h' n' m' => ⟨A', h', n', fun a ha => .inl ha⟩⟩
  | i :: p, .no, s, v, A, h, nd, e => by simp [OT.at] at e
  | i :: p, .d x, s, v, A, h, nd, e => by simp [OT.at] at e
  | i :: p, .fl ts, s, v, A, h, nd, e => by simp [OT.at] at e
  | i :: p, .nd k ts, s, v, A, h, nd, e => by
    cases ht : ts[i]? with
    | none => simp [OT.at, ht] at e
    | some t =>
      simp only [OT.at, ht] at e
      cases h with
      | @tup a vs _ _ g1 g2 =>
        obtain ⟨u, A2, e1, e2, e3, e4, e5⟩ := g2.pick nd ht
        obtain ⟨w, A1, f1, f2, f3, f4, f5⟩ := ook_path p e2 e3 e
        refine ⟨w, A1, ?_, f2, f3, fun a ha => e4 a (f4 a ha), fun {S' H' s' A'} ss tp kk h' n' m' => ?_⟩
        · show (match (kids (H a))[i]? with | some v => follow H v p | Option.none => Option.none) = _
          rw [g1]; show (match vs[i]? with | some v => follow H v p | Option.none => Option.none) = _
          rw [e1]; exact f1
        · obtain ⟨B1, q1, q2, q3⟩ := f5 ss tp (fun a ha na => kk a (e4 a ha) na) h' n' (fun a ha => by
            rcases m' a ha with z | z
            · exact .inl z
            · exact .inr fun y => z (e4 a y))
          obtain ⟨B2, r1, r2, r3⟩ := e5 ss tp (fun a ha na => kk a ha fun z => na (f4 a z)) q1 q2 (fun a ha => by
            rcases q3 a ha with z | z
            · rcases m' a z with y | y
              · exact .inl (f4 a y)
              · exact .inr y
            · exact .inl z.1)
          refine ⟨B2, by simp only [OT.put, ht]; exact .tup (tp _ _ g1) r1, r2, fun a ha => ?_⟩
          rcases r3 a ha with z | z
          · rcases q3 a z with y | y
            · exact .inl y
            · exact .inr ⟨e4 a y.1, y.2⟩
          · exact .inr ⟨z.1, fun y => z.2 (f4 a y)⟩
      | @nd a _ vs _ B g0 g1 g2 g3 g4 =>
        have ndc := List.nodup_cons.mp nd
        obtain ⟨u, A2, e1, e2, e3, e4, e5⟩ := g4.pick ndc.2 ht
        obtain ⟨w, A1, f1, f2, f3, f4, f5⟩ := ook_path p e2 e3 e
        have aA1 : a ∉ A1 := fun z => ndc.1 (e4 a (f4 a z))
        refine ⟨w, A1, ?_, f2, f3, fun b hb => List.mem_cons_of_mem _ (e4 b (f4 b hb)), fun {S' H' s' A'} ss tp kk h' n' m' => ?_⟩
        · show (match (kids (H a))[i]? with | some v => follow H v p | Option.none => Option.none) = _
          rw [g3, kids_shape g1 g4.len, e1]; exact f1
        · obtain ⟨B1, q1, q2, q3⟩ := f5 ss tp (fun b hb na => kk b (List.mem_cons_of_mem _ (e4 b hb)) na) h' n' (fun b hb => by
            rcases m' b hb with z | z
            · exact .inl z
            · exact .inr fun y => z (List.mem_cons_of_mem _ (e4 b y)))
          obtain ⟨B2, r1, r2, r3⟩ := e5 ss tp (fun b hb na => kk b (List.mem_cons_of_mem _ hb) fun z => na (f4 b z)) q1 q2 (fun b hb => by
            rcases q3 b hb with z | z
            · rcases m' b z with y | y
              · exact .inl (f4 b y)
              · exact .inr fun x => y (List.mem_cons_of_mem _ x)
            · exact .inl z.1)
          obtain ⟨k1, k2⟩ := kk a List.mem_cons_self aA1
          have aB2 : a ∉ B2 := fun z => by
            rcases r3 a z with y | y
            · rcases q3 a y with x | x
              · rcases m' a x with w | w
                · exact aA1 w
                · exact w List.mem_cons_self
              · exact ndc.1 (e4 a x.1)
            · exact ndc.1 y.1
          refine ⟨a :: B2, by simp only [OT.put, ht]; exact .nd g0 (by rw [List.length_set]; exact g1) k1 (k2.trans g3) r1, List.nodup_cons.mpr ⟨aB2, r2⟩, fun b hb => ?_⟩
          rcases List.mem_cons.mp hb with z | hb
          · subst z; exact .inr ⟨List.mem_cons_self, aA1⟩
          · rcases r3 b hb with z | z
            · rcases q3 b z with y | y
              · exact .inl y
              · exact .inr ⟨List.mem_cons_of_mem _ (e4 b y.1), y.2⟩
            · exact .inr ⟨List.mem_cons_of_mem _ z.1, fun y => z.2 (f4 b y)⟩
end

/-! ### what stands at a path of a slot -/
def PtE (te : TE) (ρ : Env) (i : Nat) (p : List Nat) : Prop := ∀ (S0 H0 : Hp) (A0 : List Addr) (S H : Hp) (τσ : List (Option V)) (τρ : List OT) (σ : St) (Q : VK), τσ.length = τρ.length → Ok S0 H0 A0 S H (τσ ++ σ) (τρ ++ ρ) →
  (∀ v0 v S' H', Xt S H S' H' → σ[i]? = some (some v0) → follow H' v0 p = some v → Q v H') → te σ H Q
section
variable {ρ ρ1 ρ2 ρ' : Env} {ta tb tc te : TE} {tl : TA} {d e x y : D} {r s t t0 : OT} {S H S' H' S0 H0 : Hp} {A0 : List Addr} {σ τσ : St} {τρ : List OT} {ts : List OT} {js : List Nat} {i : Nat} {p : List Nat}
theorem pt_var (h : ρ[i]? = some t) (hn : t ≠ .no) : PtE (tVar i) ρ i [] := fun S0 H0 A0 S H τσ τρ σ Q l o q => by
  obtain ⟨v, A, e1, e2⟩ := o.slot l h hn
  exact ⟨v, e1, q v v S H (.refl o.sh) e1 rfl⟩
/-- the slot's tree by its place in the heap -/
theorem Ok.tree (l : τσ.length = τρ.length) (o : Ok S0 H0 A0 S H (τσ ++ σ) (τρ ++ ρ)) (h : ρ[i]? = some t) (hn : t ≠ .no) : ∃ v0 A, σ[i]? = some (some v0) ∧ OOk S H v0 t A ∧ A.Nodup ∧ (∀ a ∈ A, a ∈ A0 ∨ H0 a = none) ∧
    ∀ {S' H' : Hp} {t' : OT} {A' : List Addr}, Xa A0 S0 H0 S' H' → Same S S' → (∀ b xs, H b = some (.tup xs) → H' b = some (.tup xs)) → (∀ a, (∃ u, H a = some u) → a ∉ A → S a = none → S' a = none ∧ H' a = H a) → OOk S' H' v0 t' A' → A'.Nodup → (∀ a ∈ A', a ∈ A ∨ H a = none) →
      Ok S0 H0 A0 S' H' (τσ ++ σ) (τρ ++ ρ.set i t') := by
  obtain ⟨B, he, nd, fr⟩ := o.env
  obtain ⟨w, A, p1, p2, p3, p4, p5⟩ := he.pick nd (i := τρ.length + i) (s := t) (by rw [get_app rfl]; exact h)
  rw [get_app l] at p1
  cases p2 with
  | no => exact (hn rfl).elim
  | @is v0 _ _ p2 =>
    refine ⟨v0, A, p1, p2, p3, fun a ha => fr a (p4 a ha), fun {S' H' t' A'} xa ss tp kk h' n' m' => ?_⟩
    obtain ⟨B', q1, q2, q3⟩ := p5 (S' := S') (H' := H') (v' := some v0) (s' := t') (A' := A') ss tp (fun a ha na => by
      obtain ⟨z1, u, z2, _⟩ := he.at a ha
      exact kk a ⟨u, z2⟩ na z1) (.is h') n' (fun a ha => by
      rcases m' a ha with z | z
      · exact .inl z
      · exact .inr fun hb => by
          obtain ⟨_, u, hu, _⟩ := he.at a hb
          rw [z] at hu; cases hu)
    rw [set_app l, set_app rfl, set_same p1] at q1
    refine ⟨xa, B', q1, q2, fun a ha => ?_⟩
    rcases q3 a ha with z | z
    · rcases m' a z with y | y
      · exact fr a (p4 a y)
      · exact .inr (o.xt.dm a y)
    · exact fr a z.1
theorem pt_ix {n : Int} {j : Nat} {k : Kd} (hp : PtE ta ρ i p) (ht : ρ[i]? = some t) (hs : t.at p = some (.nd .lst ts)) (hb : RdE tb ρ (.int n)) (hj : ixN ts.length n = some j) : PtE (tOp (rIxL kf.K) ta tb) ρ i (p ++ [j]) := fun S0 H0 A0 S H τσ τρ σ Q l o q =>
  hp S0 H0 A0 S H τσ τρ σ _ l o fun v0 v S1 H1 x1 e1 f1 => hb S0 H0 A0 S1 H1 τσ τρ σ _ l (o.ext x1) fun u S2 H2 x2 h2 => by
    cases h2
    have o2 := (o.ext x1).ext x2
    have hn : t ≠ .no := by rintro rfl; cases p <;> simp [OT.at] at hs
    obtain ⟨v0', A, g1, g2, g3, _⟩ := o2.tree l ht hn
    rw [e1] at g1
    cases g1
    obtain ⟨w, A1, f2, f3, _⟩ := ook_path p g2 g3 hs
    have o1 := o.ext x1
    obtain ⟨v0'', A', g1', g2', g3', _⟩ := o1.tree l ht hn
    rw [e1] at g1'
    cases g1'
    obtain ⟨w', A1', f2', f3', _⟩ := ook_path p g2' g3' hs
    rw [f1] at f2'
    cases f2'
    have same : follow H2 v0 p = follow H1 v0 p := by
      have gen : ∀ (p : List Nat) (v w : V), follow H1 v p = some w → follow H2 v p = some w := by
        intro p
        induction p with
        | nil => intro v w h; exact h
        | cons i p ih =>
          intro v w h
          cases v with
          | ref a =>
            simp only [follow] at h ⊢
            cases hk : (kids (H1 a))[i]? with
            | none => rw [hk] at h; cases h
            | some u =>
              rw [hk] at h
              have : kids (H2 a) = kids (H1 a) := by
                cases hh : H1 a with
                | none => rw [hh] at hk; simp [kids] at hk
                | some o' => rw [x2.hh a o' hh]
              rw [this, hk]
              exact ih u w h
          | _ => simp [follow] at h
      rw [f1]
      exact gen p v0 v f1
    rw [f2, f1] at same
    cases same
    cases f3 with
    | @nd a _ vs _ B y0 y1 y2 y3 y4 =>
      have y3 : H2 a = some (.lst vs) := y3
      have len := y4.len
      have hlt : j < vs.length := by
        have := (ixN_seq hj).2.1
        omega
      refine ⟨a, vs, n, vs[j], rfl, rfl, .inl (.of y3), ?_, q v0 vs[j] S2 H2 (x1.trans x2) e1 ?_⟩
      · unfold atI
        rw [len, hj]
        exact List.getElem?_eq_getElem hlt
      · have app : ∀ (p : List Nat) (v : V), follow H2 v p = some (.ref a) → follow H2 v (p ++ [j]) = some vs[j] := by
          intro p
          induction p with
          | nil =>
            intro v h
            simp only [follow, Option.some.injEq] at h
            subst h
            simp only [List.nil_append, follow, y3, kids]
            rw [List.getElem?_eq_getElem hlt]
          | cons i p ih =>
            intro v h
            cases v with
            | ref b =>
              simp only [List.cons_append, follow] at h ⊢
              cases hk : (kids (H2 b))[i]? with
              | none => rw [hk] at h; cases h
              | some u => rw [hk] at h; exact ih u h
            | _ => simp [follow] at h
        exact app p v0 f2
end
end MR

namespace MR
open PySem L2 PL
variable [kf : KF]

section
variable {ρ ρ1 ρ2 ρ' : Env} {ta tb tc te : TE} {tl : TA} {d e x : D} {r s t t0 : OT} {S H S' H' S0 H0 : Hp} {A0 : List Addr} {σ τσ : St} {τρ : List OT} {ts : List OT} {js : List Nat} {i : Nat} {p : List Nat} {k : Kd}
theorem OOk.inv_nd {v : V} {A : List Addr} (h : OOk S H v (.nd k ts) A) (hk : k.isTup = false) : ∃ a vs B, v = .ref a ∧ A = a :: B ∧ k.fits ts.length ∧ S a = none ∧ H a = some (shape k vs) ∧ OAll S H vs ts B := by
  cases h with
  | tup h1 h2 => cases hk
  | nd h0 h1 h2 h3 h4 => exact ⟨_, _, _, rfl, rfl, h1, h2, h3, h4⟩
/-- a node of slot i is written anew, with what was held on top -/
theorem Ok.rewrite {y : Option V} (l : τσ.length = τρ.length) (o : Ok S0 H0 A0 S H (y :: (τσ ++ σ)) (r :: (τρ ++ ρ))) (ht : ρ[i]? = some t) (hs : t.at p = some (.nd k ts)) (hk : k.isTup = false) :
    ∃ v0 a vs B C, σ[i]? = some (some v0) ∧ follow H v0 p = some (.ref a) ∧ S a = none ∧ H a = some (shape k vs) ∧ k.fits ts.length ∧ OAll S H vs ts B ∧ OSl S H y r C ∧ (B ++ C).Nodup ∧
      ∀ {k' : Kd} {vs' : List V} {ts' : List OT} {B' : List Addr} {y' : Option V} {r' : OT} {C' : List Addr}, k'.isTup = false → k'.fits ts'.length → OAll S H vs' ts' B' → OSl S H y' r' C' → (B' ++ C').Nodup → (∀ b ∈ B' ++ C', b ∈ B ++ C) →
        Ok S0 H0 A0 S (upd H a (shape k' vs')) (y' :: (τσ ++ σ)) (r' :: (τρ ++ ρ.set i (t.put p (.nd k' ts')))) := by
  obtain ⟨A, he, nd, fr⟩ := o.env
  cases he with
  | @cons _ _ C _ _ D pC pD =>
    have ndA := List.nodup_append.mp nd
    have hn : t ≠ .no := by rintro rfl; cases p <;> simp [OT.at] at hs
    obtain ⟨w, Ai, p1, p2, p3, p4, p5⟩ := pD.pick ndA.2.1 (i := τρ.length + i) (s := t) (by rw [get_app rfl]; exact ht)
    rw [get_app l] at p1
    cases p2 with
    | no => exact (hn rfl).elim
    | @is v0 _ _ p2 =>
      obtain ⟨w, A1, f1, f2, f3, f4, f5⟩ := ook_path p p2 p3 hs
      obtain ⟨a, vs, B, rfl, rfl, g1, g2, g3, g4⟩ := f2.inv_nd hk
      have aB : a ∉ B := (List.nodup_cons.mp f3).1
      have ndB : B.Nodup := (List.nodup_cons.mp f3).2
      have aAi : a ∈ Ai := f4 a List.mem_cons_self
      have aD : a ∈ D := p4 a aAi
      have CD : ∀ b, b ∈ C → b ∉ D := fun b hb hd => ndA.2.2 b hb b hd rfl
      have BAi : ∀ b ∈ B, b ∈ Ai := fun b hb => f4 b (List.mem_cons_of_mem _ hb)
      have ndBC : (B ++ C).Nodup := List.nodup_append.mpr ⟨ndB, ndA.1, fun b hb c hc e => by subst e; exact CD b hc (p4 b (BAi b hb))⟩
      refine ⟨v0, a, vs, B, C, p1, f1, g2, g3, g1, g4, pC, ndBC, fun {k' vs' ts' B' y' r' C'} hk' hf' hB' hC' nd' sub => ?_⟩
      have ne : ∀ b ∈ B ++ C, b ≠ a := fun b hb e => by
        subst e
        rcases List.mem_append.mp hb with z | z
        · exact aB z
        · exact CD b z aD
      have nda' := List.nodup_append.mp nd'
      have tp : ∀ b xs, H b = some (.tup xs) → upd H a (shape k' vs') b = some (.tup xs) := fun b xs e => by
        rw [upd_ne]; exact e
        intro z; subst z; rw [g3] at e; exact shape_tup hk xs (Option.some.inj e)
      have n1 : OOk S (upd H a (shape k' vs')) (.ref a) (.nd k' ts') (a :: B') :=
        .nd hk' hf' g2 upd_same (oall_keep (Same.refl S) tp _ _ _ hB' fun b hb => ⟨(oall_at _ _ _ hB' b hb).1, upd_ne (ne b (sub b (List.mem_append_left _ hb)))⟩)
      have ndaB' : (a :: B').Nodup := List.nodup_cons.mpr ⟨fun z => ne a (sub a (List.mem_append_left _ z)) rfl, nda'.1⟩
      have up : ∀ b, b ≠ a → S b = none → S b = none ∧ upd H a (shape k' vs') b = H b := fun b hb hs => ⟨hs, upd_ne hb⟩
      obtain ⟨B2, q1, q2, q3⟩ := f5 (S' := S) (H' := upd H a (shape k' vs')) (s' := .nd k' ts') (A' := a :: B') (Same.refl S) tp (fun b hb na => up b (fun z => na (z ▸ List.mem_cons_self)) (ook_at _ _ _ p2 b hb).1) n1 ndaB' (fun b hb => by
        rcases List.mem_cons.mp hb with z | z
        · subst z; exact .inl List.mem_cons_self
        · rcases List.mem_append.mp (sub b (List.mem_append_left _ z)) with w | w
          · exact .inl (List.mem_cons_of_mem _ w)
          · exact .inr fun hd => CD b w (p4 b hd))
      obtain ⟨B3, r1, r2, r3⟩ := p5 (S' := S) (H' := upd H a (shape k' vs')) (v' := some v0) (s' := t.put p (.nd k' ts')) (A' := B2) (Same.refl S) tp (fun b hb na => up b (fun z => na (z ▸ aAi)) (pD.at b hb).1) (.is q1) q2 (fun b hb => by
        rcases q3 b hb with z | z
        · rcases List.mem_cons.mp z with z | z
          · subst z; exact .inl aAi
          · rcases List.mem_append.mp (sub b (List.mem_append_left _ z)) with w | w
            · exact .inl (BAi b w)
            · exact .inr (CD b w)
        · exact .inl z.1)
      rw [set_app l, set_app rfl, set_same p1] at r1
      have aF : a ∈ A0 ∨ H0 a = none := fr a (List.mem_append_right _ aD)
      refine ⟨⟨fun b o' hb e => ?_, fun b e => ?_, fun b xs e => tp b xs (o.xt.tp b xs e), o.xt.ss, fun b o' e => ?_, o.xt.nw⟩, C' ++ B3, .cons (hC'.keep (Same.refl S) tp fun b hb => ⟨(hC'.at b hb).1, upd_ne (ne b (sub b (List.mem_append_right _ hb)))⟩) r1, ?_, fun b hb => ?_⟩
      · rw [upd_ne]; exact o.xt.hh b o' hb e
        intro z; subst z
        rcases aF with z | z
        · exact hb z
        · rw [z] at e; cases e
      · by_cases z : b = a
        · subst z; rw [upd_same] at e; cases e
        · rw [upd_ne z] at e; exact o.xt.dm b e
      · rw [upd_ne]; exact o.sh b o' e
        intro z; subst z; rw [g2] at e; cases e
      · refine List.nodup_append.mpr ⟨nda'.2.1, r2, fun b hb c hc e => ?_⟩
        subst e
        have inBC := sub b (List.mem_append_right _ hb)
        rcases r3 b hc with z | z
        · rcases q3 b z with w | w
          · rcases List.mem_cons.mp w with v | v
            · exact ne b inBC v
            · exact nda'.2.2 b v b hb rfl
          · rcases List.mem_append.mp inBC with v | v
            · exact w.2 (List.mem_cons_of_mem _ v)
            · exact CD b v (p4 b w.1)
        · rcases List.mem_append.mp inBC with v | v
          · exact z.2 (BAi b v)
          · exact CD b v z.1
      · have fromBC : ∀ b, b ∈ B ++ C → b ∈ A0 ∨ H0 b = none := fun b hb => by
          rcases List.mem_append.mp hb with z | z
          · exact fr b (List.mem_append_right _ (p4 b (BAi b z)))
          · exact fr b (List.mem_append_left _ z)
        rcases List.mem_append.mp hb with z | z
        · exact fromBC b (sub b (List.mem_append_right _ z))
        · rcases r3 b z with w | w
          · rcases q3 b w with v | v
            · rcases List.mem_cons.mp v with u | u
              · subst u; exact aF
              · exact fromBC b (sub b (List.mem_append_left _ u))
            · exact fr b (List.mem_append_right _ (p4 b v.1))
          · exact fr b (List.mem_append_right _ w.1)
theorem OAll.app : ∀ {ts us : List OT} {vs ws : List V} {A B : List Addr}, OAll S H vs ts A → OAll S H ws us B → OAll S H (vs ++ ws) (ts ++ us) (A ++ B)
  | [], us, _, ws, _, B, h, h' => by cases h; exact h'
  | t :: ts, us, _, ws, _, B, h, h' => by cases h with | cons a b => have := OAll.cons a (b.app h'); simpa [List.append_assoc] using this
theorem OAll.one {v : V} {A : List Addr} (h : OOk S H v t A) : OAll S H [v] [t] A := by have := OAll.cons h .nil; simpa using this
theorem OAll.put {y : V} : ∀ {ts : List OT} {vs : List V} {B C : List Addr} {j : Nat}, OAll S H vs ts B → OOk S H y r C → (B ++ C).Nodup → ∃ B', OAll S H (vs.set j y) (ts.set j r) B' ∧ B'.Nodup ∧ ∀ b ∈ B', b ∈ B ++ C
  | [], _, _, C, j, h, h', nd => by
    cases h; exact ⟨[], .nil, List.nodup_nil, fun b hb => by cases hb⟩
  | t :: ts, _, _, C, 0, h, h', nd => by
    cases h with
    | @cons v vs _ _ A B a b =>
      have nd1 := List.nodup_append.mp nd
      have nd2 := List.nodup_append.mp nd1.1
      refine ⟨C ++ B, .cons h' b, List.nodup_append.mpr ⟨nd1.2.1, nd2.2.1, fun x hx y hy e => ?_⟩, fun x hx => ?_⟩
      · subst e; exact nd1.2.2 x (List.mem_append_right _ hy) x hx rfl
      · rcases List.mem_append.mp hx with z | z
        · exact List.mem_append_right _ z
        · exact List.mem_append_left _ (List.mem_append_right _ z)
  | t :: ts, _, _, C, j + 1, h, h', nd => by
    cases h with
    | @cons v vs _ _ A B a b =>
      have nd1 := List.nodup_append.mp nd
      have nd2 := List.nodup_append.mp nd1.1
      obtain ⟨B', q1, q2, q3⟩ := b.put (j := j) h' (List.nodup_append.mpr ⟨nd2.2.1, nd1.2.1, fun x hx y hy => nd1.2.2 x (List.mem_append_right _ hx) y hy⟩)
      refine ⟨A ++ B', .cons a q1, List.nodup_append.mpr ⟨nd2.1, q2, fun x hx y hy e => ?_⟩, fun x hx => ?_⟩
      · subst e
        rcases List.mem_append.mp (q3 x hy) with z | z
        · exact nd2.2.2 x hx x z rfl
        · exact nd1.2.2 x (List.mem_append_left _ hx) x z rfl
      · rcases List.mem_append.mp hx with z | z
        · exact List.mem_append_left _ (List.mem_append_left _ z)
        · rcases List.mem_append.mp (q3 x z) with w | w
          · exact List.mem_append_left _ (List.mem_append_right _ w)
          · exact List.mem_append_right _ w
theorem OAll.out : ∀ {ts : List OT} {vs : List V} {B : List Addr} {j : Nat}, OAll S H vs ts B → B.Nodup → ts[j]? = some s → ∃ v B' C', vs[j]? = some v ∧ OAll S H (vs.eraseIdx j) (ts.eraseIdx j) B' ∧ OOk S H v s C' ∧ (B' ++ C').Nodup ∧ ∀ b ∈ B' ++ C', b ∈ B
  | [], _, _, j, h, nd, e => by simp at e
  | t :: ts, _, _, 0, h, nd, e => by
    have e : t = s := by simpa using e
    subst e
    cases h with
    | @cons v vs _ _ A B a b =>
      have nd1 := List.nodup_append.mp nd
      exact ⟨v, B, A, rfl, b, a, List.nodup_append.mpr ⟨nd1.2.1, nd1.1, fun x hx y hy e => nd1.2.2 y hy x hx e.symm⟩, fun x hx => by
        rcases List.mem_append.mp hx with z | z
        · exact List.mem_append_right _ z
        · exact List.mem_append_left _ z⟩
  | t :: ts, _, _, j + 1, h, nd, e => by
    cases h with
    | @cons v vs _ _ A B a b =>
      have nd1 := List.nodup_append.mp nd
      obtain ⟨w, B', C', q0, q1, q2, q3, q4⟩ := b.out (j := j) nd1.2.1 (by simpa using e)
      have nd3 := List.nodup_append.mp q3
      refine ⟨w, A ++ B', C', by simpa using q0, .cons a q1, q2, List.nodup_append.mpr ⟨List.nodup_append.mpr ⟨nd1.1, nd3.1, fun x hx y hy e => by subst e; exact nd1.2.2 x hx x (q4 x (List.mem_append_left _ hy)) rfl⟩, nd3.2.1, fun x hx y hy e => ?_⟩, fun x hx => ?_⟩
      · subst e
        rcases List.mem_append.mp hx with z | z
        · exact nd1.2.2 x z x (q4 x (List.mem_append_right _ hy)) rfl
        · exact nd3.2.2 x z x hy rfl
      · rcases List.mem_append.mp hx with z | z
        · rcases List.mem_append.mp z with z | z
          · exact List.mem_append_left _ z
          · exact List.mem_append_right _ (q4 x (List.mem_append_left _ z))
        · exact List.mem_append_right _ (q4 x (List.mem_append_right _ z))
theorem OAll.rev : ∀ {ts : List OT} {vs : List V} {B : List Addr}, OAll S H vs ts B → B.Nodup → ∃ B', OAll S H vs.reverse ts.reverse B' ∧ B'.Nodup ∧ ∀ b ∈ B', b ∈ B
  | [], _, _, h, nd => by cases h; exact ⟨[], .nil, List.nodup_nil, fun b hb => hb⟩
  | t :: ts, _, _, h, nd => by
    cases h with
    | @cons v vs _ _ A B a b =>
      have nd1 := List.nodup_append.mp nd
      obtain ⟨B', q1, q2, q3⟩ := b.rev nd1.2.1
      rw [List.reverse_cons, List.reverse_cons]
      refine ⟨B' ++ A, q1.app (.one a), List.nodup_append.mpr ⟨q2, nd1.1, fun x hx y hy e => by subst e; exact nd1.2.2 x hy x (q3 x hx) rfl⟩, fun x hx => ?_⟩
      rcases List.mem_append.mp hx with z | z
      · exact List.mem_append_right _ (q3 x z)
      · exact List.mem_append_left _ z
theorem Ok.dummy (o : Ok S0 H0 A0 S H σ ρ) : Ok S0 H0 A0 S H (Option.none :: σ) (.no :: ρ) := by
  obtain ⟨A, h1, h2, h3⟩ := o.env
  exact ⟨o.xt, [] ++ A, .cons .no h1, by simpa using h2, by simpa using h3⟩
/-- the pointer stays where it is as long as the heap only grows -/
theorem follow_mono (x : Xt S H S' H') : ∀ (p : List Nat) (v w : V), follow H v p = some w → follow H' v p = some w := by
  intro p
  induction p with
  | nil => intro v w h; exact h
  | cons i p ih =>
    intro v w h
    cases v with
    | ref a =>
      simp only [follow] at h ⊢
      cases hk : (kids (H a))[i]? with
      | none => rw [hk] at h; cases h
      | some u =>
        rw [hk] at h
        have e : kids (H' a) = kids (H a) := by
          cases hh : H a with
          | none => rw [hh] at hk; simp [kids] at hk
          | some o' => rw [x.hh a o' hh]
        rw [e, hk]
        exact ih u w h
    | _ => simp [follow] at h
/-- a fresh result; nothing changes -/
def EvF (te : TE) (ρ : Env) (r : OT) : Prop := ∀ (S0 H0 : Hp) (A0 : List Addr) (S H : Hp) (τσ : List (Option V)) (τρ : List OT) (σ : St) (Q : VK), τσ.length = τρ.length → Ok S0 H0 A0 S H (τσ ++ σ) (τρ ++ ρ) →
  (∀ v S' H' A, Xt S H S' H' → OOk S' H' v r A → A.Nodup → (∀ a ∈ A, H a = none) → Q v H') → te σ H Q
theorem evy_F (h : EvF te ρ r) : EvY te ρ r ρ := fun S0 H0 A0 S H τσ τρ σ Q l o q => h S0 H0 A0 S H τσ τρ σ _ l o fun v S' H' A xt hr nd fr => q v S' H' xt.ss (o.push xt hr nd fr)
theorem evf_flat (h : RdE te ρ x) (f : tfl x = true) : EvF te ρ (.d x) := fun S0 H0 A0 S H τσ τρ σ Q l o q => h S0 H0 A0 S H τσ τρ σ Q l o fun v S' H' xt hr => q v _ H' [] (xt.trans (xt_frz xt.sh)) (.d (rp_tfl [] x v f hr)) List.nodup_nil (fun a ha => by cases ha)
theorem evf_varD {i : Nat} (h : ρ[i]? = some (.d x)) : EvF (tVar i) ρ (.d x) := fun S0 H0 A0 S H τσ τρ σ Q l o q => by
  obtain ⟨v, A, e1, e2⟩ := o.slot l (i := i) (r := .d x) h (by intro z; cases z)
  cases e2 with
  | d e2 => exact ⟨v, e1, q v S H [] (.refl o.sh) (.d e2) List.nodup_nil (fun a ha => by cases ha)⟩
/-- xs.append(e), xs a path -/
theorem run_append {tp : TE} {t : OT} (hp : PtE tp ρ i p) (ht : ρ[i]? = some t) (hs : t.at p = some (.nd .lst ts)) (he : EvF te ρ r) (hn : r ≠ .no) (hz : ts.length ≤ 1000000) :
    RunS js (tDrop (tBM kf.K "list" rAppend tp (tCons te tNil))) ρ .nx (ρ.set i (t.put p (.nd .lst (ts ++ [r])))) := fun S0 H0 A0 S H σ F E hF hx o kk =>
  hp S0 H0 A0 S H [] [] σ _ rfl o fun v0 v S1 H1 x1 e1 f1 => by
    have o1 := o.ext x1
    obtain ⟨w0, a, vs, B, C, g1, g2, _, g3, _⟩ := Ok.rewrite (τσ := []) (τρ := []) rfl o1.dummy ht hs rfl
    rw [e1] at g1; cases g1
    rw [f1] at g2; cases g2
    refine ⟨.inl ⟨rfl, vs, .inl (.inl g3)⟩, he S0 H0 A0 S1 H1 [] [] σ _ rfl o1 fun y S2 H2 A xt hr nd fr => ?_⟩
    have o2 := o1.push xt hr nd fr
    obtain ⟨w0', a', vs', B', C', g1', g2', g5, g3', g6, g7, g8, g9, g10⟩ := Ok.rewrite (τσ := []) (τρ := []) rfl o2 ht hs rfl
    rw [e1] at g1'; cases g1'
    rw [follow_mono xt p _ _ f1] at g2'
    cases g2'
    have : vs' = vs := by rw [xt.hh _ _ g3] at g3'; simp [shape] at g3'; exact g3'.symm
    subst this
    refine ⟨a, vs', y, rfl, rfl, xt.hh _ _ g3, sz_lt (by rw [g7.len]; exact hz), ?_⟩
    cases g8 with
    | no => exact (hn rfl).elim
    | is g8 =>
      have := g10 (k' := .lst) (y' := Option.none) (r' := .no) (C' := []) rfl trivial (g7.app (.one g8)) .no (by simpa using g9) (by simp)
      exact kk S2 _ σ (x1.ss.trans xt.ss) hx this.drop
/-- .. of a slot, whatever e does -/
theorem run_appendY (h0 : ρ[i]? = some t0) (h0n : ∃ us, t0 = .nd .lst us) (he : EvY te ρ r ρ1) (ht : ρ1[i]? = some (.nd .lst ts)) (hn : r ≠ .no) (hz : ts.length ≤ 1000000) :
    RunS js (tDrop (tBM kf.K "list" rAppend (tVar i) (tCons te tNil))) ρ .nx (ρ1.set i (.nd .lst (ts ++ [r]))) := fun S0 H0 A0 S H σ F E hF hx o kk => by
  obtain ⟨us, rfl⟩ := h0n
  obtain ⟨w0, a, vs, B, C, g1, g2, _, g3, _⟩ := Ok.rewrite (τσ := []) (τρ := []) (p := []) rfl o.dummy h0 rfl rfl
  simp only [follow, Option.some.injEq] at g2
  subst g2
  refine ⟨_, g1, .inl ⟨rfl, vs, .inl (.inl g3)⟩, he S0 H0 A0 S H [] [] σ _ rfl o fun y S2 H2 s2 o2 => ?_⟩
  obtain ⟨w0', a', vs', B', C', g1', g2', g5, g3', g6, g7, g8, g9, g10⟩ := Ok.rewrite (τσ := []) (τρ := []) (p := []) rfl o2 ht rfl rfl
  rw [g1] at g1'; cases g1'
  simp only [follow, Option.some.injEq] at g2'
  cases g2'
  refine ⟨a, vs', y, rfl, rfl, g3', sz_lt (by rw [g7.len]; exact hz), ?_⟩
  cases g8 with
  | no => exact (hn rfl).elim
  | is g8 =>
    have := g10 (k' := .lst) (y' := Option.none) (r' := .no) (C' := []) rfl trivial (g7.app (.one g8)) .no (by simpa using g9) (by simp)
    exact kk S2 _ σ s2 hx this.drop
/-- xs[j] = e -/
theorem run_setitem {tp : TE} {t : OT} {n : Int} {j : Nat} (he : EvY te ρ r ρ1) (hp : PtE tp ρ1 i p) (ht : ρ1[i]? = some t) (hs : t.at p = some (.nd .lst ts)) (hi : RdE tb ρ1 (.int n)) (hj : ixN ts.length n = some j) (hn : r ≠ .no) :
    RunS js (tAsg te (gSub tp tb rSetL)) ρ .nx (ρ1.set i (t.put p (.nd .lst (ts.set j r)))) := fun S0 H0 A0 S H σ F E hF hx o kk =>
  he S0 H0 A0 S H [] [] σ _ rfl o fun y S1 H1 s1 o1 => hp S0 H0 A0 S1 H1 [some y] [r] σ _ rfl o1 fun v0 v S2 H2 x2 e1 f1 => hi S0 H0 A0 S2 H2 [some y] [r] σ _ rfl (o1.ext x2) fun u S3 H3 x3 h3 => by
    cases h3
    have o3 := (o1.ext x2).ext x3
    obtain ⟨w0', a', vs', B', C', g1', g2', g5, g3', g6, g7, g8, g9, g10⟩ := Ok.rewrite (τσ := []) (τρ := []) rfl o3 ht hs rfl
    rw [e1] at g1'; cases g1'
    rw [follow_mono x3 p _ _ f1] at g2'
    cases g2'
    cases g8 with
    | no => exact (hn rfl).elim
    | is g8 =>
      obtain ⟨B2, q1, q2, q3⟩ := g7.put (j := j) g8 g9
      refine ⟨a', vs', n, j, rfl, rfl, g3', by rw [g7.len]; exact hj, ?_⟩
      have := g10 (k' := .lst) (y' := Option.none) (r' := .no) (C' := []) rfl trivial q1 .no (by simpa using q2) (by simpa using q3)
      exact kk S3 _ σ (s1.trans (x2.ss.trans x3.ss)) hx this.drop
/-- xs.pop(e) of a slot -/
theorem evy_pop {n : Int} {j : Nat} (h0 : ρ[i]? = some t0) (h0n : ∃ us, t0 = .nd .lst us) (he : EvD te ρ (.int n) ρ1) (ht : ρ1[i]? = some (.nd .lst ts)) (hj : seqIndex? n ts.length = some j) (hs : ts[j]? = some s) (hb : -(2 ^ 63) ≤ n ∧ n < 2 ^ 63) :
    EvY (tBM kf.K "list" rPopAt (tVar i) (tCons te tNil)) ρ s (ρ1.set i (.nd .lst (ts.eraseIdx j))) := fun S0 H0 A0 S H τσ τρ σ Q l o q => by
  obtain ⟨us, rfl⟩ := h0n
  obtain ⟨w0, a, vs, B, C, g1, g2, _, g3, _⟩ := Ok.rewrite (p := []) l o.dummy h0 rfl rfl
  simp only [follow, Option.some.injEq] at g2
  subst g2
  refine ⟨_, g1, .inl ⟨rfl, vs, .inl (.inl g3)⟩, he S0 H0 A0 S H τσ τρ σ _ l o fun y S2 H2 s2 o2 hy => ?_⟩
  cases hy
  obtain ⟨w0', a', vs', B', C', g1', g2', g5, g3', g6, g7, g8, g9, g10⟩ := Ok.rewrite (p := []) l o2.dummy ht rfl rfl
  rw [g1] at g1'; cases g1'
  simp only [follow, Option.some.injEq] at g2'
  cases g2'
  obtain ⟨v, B2, C2, q0, q1, q2, q3, q4⟩ := g7.out (j := j) (List.nodup_append.mp g9).1 hs
  refine ⟨a, vs', n, j, v, rfl, rfl, g3', hb.1, hb.2, by rw [g7.len]; exact hj, q0, ?_⟩
  have := g10 (k' := .lst) (y' := some v) (r' := s) (C' := C2) rfl trivial q1 (.is q2) q3 (fun b hb => List.mem_append_left _ (q4 b hb))
  exact q v S2 _ s2 this
theorem run_reverse {tp : TE} {t : OT} (hp : PtE tp ρ i p) (ht : ρ[i]? = some t) (hs : t.at p = some (.nd .lst ts)) :
    RunS js (tDrop (tBM0 kf.K "list" rReverse tp)) ρ .nx (ρ.set i (t.put p (.nd .lst ts.reverse))) := fun S0 H0 A0 S H σ F E hF hx o kk =>
  hp S0 H0 A0 S H [] [] σ _ rfl o fun v0 v S1 H1 x1 e1 f1 => by
    have o1 := o.ext x1
    obtain ⟨w0, a, vs, B, C, g1, g2, g5, g3, g6, g7, g8, g9, g10⟩ := Ok.rewrite (τσ := []) (τρ := []) rfl o1.dummy ht hs rfl
    rw [e1] at g1; cases g1
    rw [f1] at g2; cases g2
    obtain ⟨B2, q1, q2, q3⟩ := g7.rev (List.nodup_append.mp g9).1
    refine ⟨.inl ⟨rfl, vs, .inl (.inl g3)⟩, a, vs, rfl, rfl, g3, ?_⟩
    have := g10 (k' := .lst) (y' := Option.none) (r' := .no) (C' := []) rfl trivial q1 .no (by simpa using q2) (fun b hb => List.mem_append_left _ (q3 b (by simpa using hb)))
    exact kk S1 _ σ x1.ss hx this.drop
theorem run_clear {tp : TE} {t : OT} (hp : PtE tp ρ i p) (ht : ρ[i]? = some t) (hs : t.at p = some (.nd .lst ts)) :
    RunS js (tDrop (tBM0 kf.K "list" rClear tp)) ρ .nx (ρ.set i (t.put p (.nd .lst []))) := fun S0 H0 A0 S H σ F E hF hx o kk =>
  hp S0 H0 A0 S H [] [] σ _ rfl o fun v0 v S1 H1 x1 e1 f1 => by
    have o1 := o.ext x1
    obtain ⟨w0, a, vs, B, C, g1, g2, g5, g3, g6, g7, g8, g9, g10⟩ := Ok.rewrite (τσ := []) (τρ := []) rfl o1.dummy ht hs rfl
    rw [e1] at g1; cases g1
    rw [f1] at g2; cases g2
    refine ⟨.inl ⟨rfl, vs, .inl (.inl g3)⟩, a, vs, rfl, rfl, g3, ?_⟩
    have := g10 (k' := .lst) (vs' := []) (ts' := []) (B' := []) (y' := Option.none) (r' := .no) (C' := []) rfl trivial .nil .no List.nodup_nil (fun b hb => by simp at hb)
    exact kk S1 _ σ x1.ss hx this.drop
end
end MR

/-! MR: the mirror: pure functions over slots, told by the terms -/
namespace MR
open PySem L2 PL
abbrev Rm := Env → Option D
abbrev Ym := Env → Option (OT × Env)
abbrev Dm := Env → Option (D × Env)
abbrev Bm := Env → Option Bool
abbrev Tm := Env → Option (Bool × Env)
abbrev Lm := Env → Option (List D × Env)
abbrev Qm := Env → Option (List D)
abbrev Om := Env → Option (List OT × Env)
abbrev Sm := Env → Option (Fl × Env)
abbrev Gm := D → Env → Option Env
abbrev Gms := List D → Env → Option Env
variable [kf : KF]
def CR (te : TE) (m : Rm) : Prop := ∀ ρ x, m ρ = some x → RdE te ρ x
def CY (te : TE) (m : Ym) : Prop := ∀ ρ r ρ', m ρ = some (r, ρ') → EvY te ρ r ρ'
def CD (te : TE) (m : Dm) : Prop := ∀ ρ x ρ', m ρ = some (x, ρ') → EvD te ρ x ρ'
def CB (tt : TT) (m : Bm) : Prop := ∀ ρ b, m ρ = some b → RdB tt ρ b
def CT (tt : TT) (m : Tm) : Prop := ∀ ρ b ρ', m ρ = some (b, ρ') → EvT tt ρ b ρ'
def CL (ta : TA) (m : Lm) : Prop := ∀ ρ xs ρ', m ρ = some (xs, ρ') → EvL ta ρ xs ρ'
def CQ (ta : TA) (m : Qm) : Prop := ∀ ρ xs, m ρ = some xs → RdL ta ρ xs
def CO (ta : TA) (m : Om) : Prop := ∀ ρ rs ρ', m ρ = some (rs, ρ') → EvYs ta ρ rs ρ' ∧ ∀ r ∈ rs, r ≠ .no
def CI (wi : TI) (m : Lm) : Prop := ∀ ρ xs ρ', m ρ = some (xs, ρ') → IterM wi ρ xs ρ'
def CS (js : List Nat) (t : TS) (m : Sm) : Prop := ∀ ρ fl ρ', m ρ = some (fl, ρ') → RunS js t ρ fl ρ'
def CG (g : TG) (m : Gm) (is : List Nat) : Prop := ∀ ρ x ρ', m x ρ = some ρ' → TgM g x ρ ρ' is
def CGs (g : TGs) (m : Gms) (is : List Nat) : Prop := ∀ ρ xs ρ', m xs ρ = some ρ' → TgMs g xs ρ ρ' is
/-- at the slot i the path that is told, and what stands there -/
abbrev Pm := Env → Option (List Nat × OT)
def CP (te : TE) (i : Nat) (m : Pm) : Prop := ∀ ρ p s, m ρ = some (p, s) → PtE te ρ i p ∧ ∃ t, ρ[i]? = some t ∧ t.at p = some s

/-! ### reading -/
def rVar (i : Nat) : Rm := fun ρ => (ρ[i]?).bind OT.toD
def rC (x : D) : Rm := fun _ => some x
def rOp (g : D → D → Option D) (a b : Rm) : Rm := fun ρ => (a ρ).bind fun d => (b ρ).bind fun e => g d e
def rUn (g : D → Option D) (a : Rm) : Rm := fun ρ => (a ρ).bind g
def rCb (g : List D → Option D) (a : Qm) : Rm := fun ρ => (a ρ).bind g
def rCall (f : List D → Option OT) (n : Nat) (a : Qm) : Rm := fun ρ => (a ρ).bind fun ds => if ds.length = n then (f ds).bind OT.toD else Option.none
def asB : D → Option Bool
  | .bool b => some b
  | _ => Option.none
def rAnd (a b : Rm) : Rm := fun ρ => ((a ρ).bind asB).bind fun c => if c then ((b ρ).bind asB).map .bool else some (.bool false)
def rOr (a b : Rm) : Rm := fun ρ => ((a ρ).bind asB).bind fun c => if c then some (.bool true) else ((b ρ).bind asB).map .bool
def rNot (a : Rm) : Rm := fun ρ => ((a ρ).bind asB).map fun b => .bool (!b)
def rIf (t : Bm) (a b : Rm) : Rm := fun ρ => (t ρ).bind fun c => if c then a ρ else b ρ
def small (xs : List D) : Option (List D) := if xs.length ≤ 1000000 then some xs else Option.none
def rTup (a : Qm) : Rm := fun ρ => ((a ρ).bind small).map .tuple
def rLst (a : Qm) : Rm := fun ρ => ((a ρ).bind small).map .list
def qNil : Qm := fun _ => some []
def qCons (a : Rm) (b : Qm) : Qm := fun ρ => (a ρ).bind fun x => (b ρ).map fun xs => x :: xs
def bR (a : Rm) : Bm := fun ρ => (a ρ).bind asB
def bAnd (a b : Bm) : Bm := fun ρ => (a ρ).bind fun c => if c then b ρ else some false
def bOr (a b : Bm) : Bm := fun ρ => (a ρ).bind fun c => if c then some true else b ρ
def bNot (a : Bm) : Bm := fun ρ => (a ρ).map not
def bList (a : Rm) : Bm := fun ρ => (a ρ).bind fun d => match d with
  | .list ds => some (!ds.isEmpty)
  | _ => Option.none
section
variable {ta tb tc te : TE} {tl tr : TA} {t u : TT} {a b c : Rm} {q p : Qm} {m k : Bm} {R : R2} {E : XK}
theorem c_var (i : Nat) : CR (tVar i) (rVar i) := fun ρ x h => by
  simp only [rVar, Option.bind_eq_some_iff] at h
  obtain ⟨t, h1, h2⟩ := h
  exact rd_var h1 h2
theorem c_c {v : V} {x : D} (h : vD v = some x) : CR (tC v) (rC x) := fun ρ y e => by cases e; exact rd_c h
/-- an operator that tells flat data -/
def OpM (R : R2) (g : D → D → Option D) : Prop := ∀ d e x, g d e = some x → OpF R d e x
theorem c_op {g : D → D → Option D} (hR : OpM R g) (ha : CR ta a) (hb : CR tb b) : CR (tOp R ta tb) (rOp g a b) := fun ρ x h => by
  simp only [rOp, Option.bind_eq_some_iff] at h
  obtain ⟨d, h1, e, h2, h3⟩ := h
  exact rd_op (ha _ _ h1) (hb _ _ h2) (hR _ _ _ h3)
def IxM (R : R2) (g : D → D → Option D) : Prop := ∀ d e x, g d e = some x → IxZ R d e x
theorem c_ix {g : D → D → Option D} (hR : IxM R g) (ha : CR ta a) (hb : CR tb b) : CR (tOp R ta tb) (rOp g a b) := fun ρ x h => by
  simp only [rOp, Option.bind_eq_some_iff] at h
  obtain ⟨d, h1, e, h2, h3⟩ := h
  exact rd_ix (ha _ _ h1) (hb _ _ h2) (ixs_of (hR _ _ _ h3))
def UnM (R : V → Hp → VK → Prop) (g : D → Option D) : Prop := ∀ d x, g d = some x → ∀ (H : Hp) (v : V) (Q : VK), Rp H v d → (∀ w, vD w = some x → Q w H) → R v H Q
theorem c_un {R : V → Hp → VK → Prop} {g : D → Option D} (hR : UnM R g) (ha : CR ta a) : CR (tUn R ta) (rUn g a) := fun ρ x h => by
  simp only [rUn, Option.bind_eq_some_iff] at h
  obtain ⟨d, h1, h2⟩ := h
  exact rd_un (ha _ _ h1) (hR _ _ h2)
def CbM (R : List V → Hp → VK → Prop) (g : List D → Option D) : Prop := ∀ ds x, g ds = some x → CbF R ds x
theorem c_cb {R : List V → Hp → VK → Prop} {g : List D → Option D} (hR : CbM R g) (ha : CQ tl q) : CR (tCB R tl) (rCb g q) := fun ρ x h => by
  simp only [rCb, Option.bind_eq_some_iff] at h
  obtain ⟨d, h1, h2⟩ := h
  exact rd_cb (ha _ _ h1) (hR _ _ h2)
theorem c_call {f : List D → Option OT} {n : Nat} (ha : CQ tl q) : CR (tCall (spP n f) [] E tl) (rCall f n q) := fun ρ x h => by
  simp only [rCall, Option.bind_eq_some_iff] at h
  obtain ⟨d, h1, h2⟩ := h
  split at h2
  · rename_i hn
    simp only [Option.bind_eq_some_iff] at h2
    obtain ⟨r, h3, h4⟩ := h2
    exact rd_call (ha _ _ h1) hn h3 h4
  · cases h2
theorem asB_some {x : D} {b : Bool} (h : asB x = some b) : x = .bool b := by cases x <;> simp [asB] at h; rw [h]
theorem c_and (ha : CR ta a) (hb : CR tb b) : CR (tAndV ta tb) (rAnd a b) := fun ρ x h => by
  simp only [rAnd, Option.bind_eq_some_iff] at h
  obtain ⟨cc, ⟨d, h1, h2⟩, h3⟩ := h
  have e := asB_some h2
  subst e
  refine fun S0 H0 A0 S H τσ τρ σ Q l o q => ha _ _ h1 S0 H0 A0 S H τσ τρ σ _ l o fun v S1 H1 x1 r1 => ?_
  cases r1
  refine ⟨cc, rfl, ?_⟩
  cases cc with
  | true =>
    simp only [if_true, Option.map_eq_some_iff, Option.bind_eq_some_iff] at h3
    obtain ⟨b', ⟨d', g1, g2⟩, rfl⟩ := h3
    have e := asB_some g2
    subst e
    exact iteT (hb _ _ g1 S0 H0 A0 S1 H1 τσ τρ σ _ l (o.ext x1) fun v S2 H2 x2 r2 => q v S2 H2 (x1.trans x2) r2)
  | false =>
    simp at h3
    subst h3
    exact iteF (q _ S1 H1 x1 (.bl false))
theorem c_or (ha : CR ta a) (hb : CR tb b) : CR (tOrV ta tb) (rOr a b) := fun ρ x h => by
  simp only [rOr, Option.bind_eq_some_iff] at h
  obtain ⟨cc, ⟨d, h1, h2⟩, h3⟩ := h
  have e := asB_some h2
  subst e
  refine fun S0 H0 A0 S H τσ τρ σ Q l o q => ha _ _ h1 S0 H0 A0 S H τσ τρ σ _ l o fun v S1 H1 x1 r1 => ?_
  cases r1
  refine ⟨cc, rfl, ?_⟩
  cases cc with
  | false =>
    simp only [Bool.false_eq_true, if_false, Option.map_eq_some_iff, Option.bind_eq_some_iff] at h3
    obtain ⟨b', ⟨d', g1, g2⟩, rfl⟩ := h3
    have e := asB_some g2
    subst e
    exact iteF (hb _ _ g1 S0 H0 A0 S1 H1 τσ τρ σ _ l (o.ext x1) fun v S2 H2 x2 r2 => q v S2 H2 (x1.trans x2) r2)
  | true =>
    simp at h3
    subst h3
    exact iteT (q _ S1 H1 x1 (.bl true))
theorem c_not (ha : CR ta a) : CR (tNotV ta) (rNot a) := fun ρ x h => by
  simp only [rNot, Option.map_eq_some_iff, Option.bind_eq_some_iff] at h
  obtain ⟨cc, ⟨d, h1, h2⟩, rfl⟩ := h
  have e := asB_some h2
  subst e
  refine fun S0 H0 A0 S H τσ τρ σ Q l o q => ha _ _ h1 S0 H0 A0 S H τσ τρ σ _ l o fun v S1 H1 x1 r1 => ?_
  cases r1
  exact ⟨cc, rfl, q _ S1 H1 x1 (.bl _)⟩
theorem c_if (ht : CB t m) (ha : CR ta a) (hb : CR tb b) : CR (tIf t ta tb) (rIf m a b) := fun ρ x h => by
  simp only [rIf, Option.bind_eq_some_iff] at h
  obtain ⟨cc, h1, h2⟩ := h
  refine fun S0 H0 A0 S H τσ τρ σ Q l o q => ht _ _ h1 S0 H0 A0 S H τσ τρ σ _ l o fun S1 H1 x1 => ?_
  cases cc with
  | true => exact iteT (ha _ _ h2 S0 H0 A0 S1 H1 τσ τρ σ _ l (o.ext x1) fun v S2 H2 x2 r2 => q v S2 H2 (x1.trans x2) r2)
  | false => exact iteF (hb _ _ h2 S0 H0 A0 S1 H1 τσ τρ σ _ l (o.ext x1) fun v S2 H2 x2 r2 => q v S2 H2 (x1.trans x2) r2)
theorem small_some {xs ys : List D} (h : small xs = some ys) : xs = ys ∧ ys.length ≤ 1000000 := by
  unfold small at h
  split at h
  · cases h; exact ⟨rfl, by assumption⟩
  · cases h
theorem c_tup (ha : CQ tl q) : CR (tTup tl) (rTup q) := fun ρ x h => by
  simp only [rTup, Option.map_eq_some_iff, Option.bind_eq_some_iff] at h
  obtain ⟨xs, ⟨ys, h1, h2⟩, rfl⟩ := h
  obtain ⟨rfl, h3⟩ := small_some h2
  exact rd_tup (ha _ _ h1) h3
theorem c_lst (ha : CQ tl q) : CR (tLst tl) (rLst q) := fun ρ x h => by
  simp only [rLst, Option.map_eq_some_iff, Option.bind_eq_some_iff] at h
  obtain ⟨xs, ⟨ys, h1, h2⟩, rfl⟩ := h
  obtain ⟨rfl, h3⟩ := small_some h2
  exact rd_lst (ha _ _ h1) h3
theorem c_qnil : CQ tNil qNil := fun ρ x h => by cases h; exact rdl_nil
theorem c_qcons (ha : CR ta a) (hb : CQ tr q) : CQ (tCons ta tr) (qCons a q) := fun ρ x h => by
  simp only [qCons, Option.bind_eq_some_iff, Option.map_eq_some_iff] at h
  obtain ⟨d, h1, xs, h2, rfl⟩ := h
  exact rdl_cons (ha _ _ h1) (hb _ _ h2)
/-! tests -/
theorem c_bR (ha : CR ta a) : CB (tTest ta) (bR a) := fun ρ b h => by
  simp only [bR, Option.bind_eq_some_iff] at h
  obtain ⟨d, h1, h2⟩ := h
  have e := asB_some h2
  subst e
  refine fun S0 H0 A0 S H τσ τρ σ Q l o q => ha _ _ h1 S0 H0 A0 S H τσ τρ σ _ l o fun v S1 H1 x1 r1 => ?_
  cases r1
  exact ⟨b, rfl, q S1 H1 x1⟩
theorem c_bB (ha : CR ta a) : CB (tB ta) (bR a) := fun ρ b h => by
  simp only [bR, Option.bind_eq_some_iff] at h
  obtain ⟨d, h1, h2⟩ := h
  have e := asB_some h2
  subst e
  refine fun S0 H0 A0 S H τσ τρ σ Q l o q => ha _ _ h1 S0 H0 A0 S H τσ τρ σ _ l o fun v S1 H1 x1 r1 => ?_
  cases r1
  exact ⟨b, rfl, q S1 H1 x1⟩
theorem c_bAnd (ha : CB t m) (hb : CB u k) : CB (tAnd t u) (bAnd m k) := fun ρ b h => by
  simp only [bAnd, Option.bind_eq_some_iff] at h
  obtain ⟨cc, h1, h2⟩ := h
  refine fun S0 H0 A0 S H τσ τρ σ Q l o q => ha _ _ h1 S0 H0 A0 S H τσ τρ σ _ l o fun S1 H1 x1 => ?_
  cases cc with
  | true => exact iteT (hb _ _ h2 S0 H0 A0 S1 H1 τσ τρ σ _ l (o.ext x1) fun S2 H2 x2 => q S2 H2 (x1.trans x2))
  | false => simp at h2; subst h2; exact iteF (q S1 H1 x1)
theorem c_bOr (ha : CB t m) (hb : CB u k) : CB (tOr t u) (bOr m k) := fun ρ b h => by
  simp only [bOr, Option.bind_eq_some_iff] at h
  obtain ⟨cc, h1, h2⟩ := h
  refine fun S0 H0 A0 S H τσ τρ σ Q l o q => ha _ _ h1 S0 H0 A0 S H τσ τρ σ _ l o fun S1 H1 x1 => ?_
  cases cc with
  | false => exact iteF (hb _ _ h2 S0 H0 A0 S1 H1 τσ τρ σ _ l (o.ext x1) fun S2 H2 x2 => q S2 H2 (x1.trans x2))
  | true => simp at h2; subst h2; exact iteT (q S1 H1 x1)
theorem c_bNot (ha : CB t m) : CB (tNot t) (bNot m) := fun ρ b h => by
  simp only [bNot, Option.map_eq_some_iff] at h
  obtain ⟨cc, h1, rfl⟩ := h
  exact fun S0 H0 A0 S H τσ τρ σ Q l o q => ha _ _ h1 S0 H0 A0 S H τσ τρ σ _ l o fun S1 H1 x1 => q S1 H1 x1
theorem c_bList (ha : CR ta a) : CB (fun σ H Q => ta σ H fun x H' => ∃ k, TruV kf.K x H' k ∧ Q k H') (bList a) := fun ρ b h => by
  simp only [bList, Option.bind_eq_some_iff] at h
  obtain ⟨d, h1, h2⟩ := h
  refine fun S0 H0 A0 S H τσ τρ σ Q l o q => ha _ _ h1 S0 H0 A0 S H τσ τρ σ _ l o fun v S1 H1 x1 r1 => ?_
  cases d with
  | list ds =>
    simp only [Option.some.injEq] at h2
    subst h2
    cases r1 with
    | @lst a xs _ r1 r2 =>
      refine ⟨_, .inl ⟨xs, r1, rfl⟩, ?_⟩
      have e : xs.isEmpty = ds.isEmpty := by
        have l := dpa_length r2
        cases xs <;> cases ds <;> simp at l ⊢
      rw [e]
      exact q S1 H1 x1
  | _ => cases h2
end

/-! ### whatever is told -/
def yVar (i : Nat) : Ym := fun ρ => match ρ[i]? with
  | some (.d x) => some (.d x, ρ)
  | some t => (OT.toD t).map fun x => (.d x, ρ.set i (.d x))
  | Option.none => Option.none
def yMov (i : Nat) : Ym := fun ρ => match ρ[i]? with
  | some .no => Option.none
  | some t => some (t, ρ.set i .no)
  | Option.none => Option.none
/-- read, where it is flat -/
def yR (a : Rm) : Ym := fun ρ => (a ρ).bind fun x => if tfl x then some (.d x, ρ) else Option.none
/-- read, where it is flat; else by the other way -/
def yAuto (a : Rm) (y : Ym) : Ym := fun ρ => match a ρ with
  | some x => if tfl x then some (.d x, ρ) else y ρ
  | Option.none => y ρ
/-- frozen -/
def dY (y : Ym) : Dm := fun ρ => (y ρ).bind fun p => (OT.toD p.1).map fun x => (x, p.2)
def yD (y : Dm) : Ym := fun ρ => (y ρ).map fun p => (.d p.1, p.2)
def dR (a : Rm) : Dm := fun ρ => (a ρ).bind fun x => if tfl x then some (x, ρ) else Option.none
def dOp (g : D → D → Option D) (a b : Dm) : Dm := fun ρ => (a ρ).bind fun p => (b p.2).bind fun q => (g p.1 q.1).map fun x => (x, q.2)
def dOpR (g : D → D → Option D) (a : Dm) (b : Rm) : Dm := fun ρ => (a ρ).bind fun p => (b p.2).bind fun e => (g p.1 e).map fun x => (x, p.2)
def dCb (g : List D → Option D) (a : Lm) : Dm := fun ρ => (a ρ).bind fun p => (g p.1).map fun x => (x, p.2)
def yCall (f : List D → Option OT) (n : Nat) (a : Lm) : Ym := fun ρ => (a ρ).bind fun p => if p.1.length = n then (f p.1).map fun r => (r, p.2) else Option.none
def lfO : Option OT → Option OT
  | some r => if r.lf then some r else Option.none
  | Option.none => Option.none
/-- with read arguments, where what is told is flat within; else with frozen ones -/
def yCallA (f : List D → Option OT) (n : Nat) (q : Qm) (a : Lm) : Ym := fun ρ => match (q ρ).bind fun ds => if ds.length = n then lfO (f ds) else Option.none with
  | some r => some (r, ρ)
  | Option.none => yCall f n a ρ
def yCallI (f : OT → List D → Option (OT × OT)) (n i : Nat) (a : Lm) : Ym := fun ρ => match ρ[i]? with
  | some .no => Option.none
  | some _ => (a ρ).bind fun p => match p.2[i]? with
    | some .no => Option.none
    | some t => if p.1.length + 1 = n then (f t p.1).map fun q => (q.1, p.2.set i q.2) else Option.none
    | Option.none => Option.none
  | Option.none => Option.none
def yCb (G : List D → Option OT) (a : Lm) : Ym := fun ρ => (a ρ).bind fun p => (G p.1).map fun r => (r, p.2)
def yCbA (G : List D → Option OT) (q : Qm) (a : Lm) : Ym := fun ρ => match (q ρ).bind fun ds => lfO (G ds) with
  | some r => some (r, ρ)
  | Option.none => yCb G a ρ
def yOp (G : D → D → Option OT) (a b : Dm) : Ym := fun ρ => (a ρ).bind fun p => (b p.2).bind fun q => (G p.1 q.1).map fun r => (r, q.2)
def yOpA (G : D → D → Option OT) (ra rb : Rm) (a b : Dm) : Ym := fun ρ => match (ra ρ).bind fun d => (rb ρ).bind fun e => lfO (G d e) with
  | some r => some (r, ρ)
  | Option.none => yOp G a b ρ
def lNil : Lm := fun ρ => some ([], ρ)
def lCons (a : Dm) (b : Lm) : Lm := fun ρ => (a ρ).bind fun p => (b p.2).map fun q => (p.1 :: q.1, q.2)
def oNil : Om := fun ρ => some ([], ρ)
def isNo : OT → Bool
  | .no => true
  | _ => false
def oCons (a : Ym) (b : Om) : Om := fun ρ => (a ρ).bind fun p => if isNo p.1 then Option.none else (b p.2).map fun q => (p.1 :: q.1, q.2)
def yTup (a : Om) : Ym := fun ρ => (a ρ).bind fun p => if p.1.length ≤ 1000000 then some (.nd .tup p.1, p.2) else Option.none
def yLst (a : Om) : Ym := fun ρ => (a ρ).bind fun p => if p.1.length ≤ 1000000 then some (.nd .lst p.1, p.2) else Option.none
def tR (a : Bm) : Tm := fun ρ => (a ρ).map fun b => (b, ρ)
def tD (a : Dm) : Tm := fun ρ => (a ρ).bind fun p => (asB p.1).map fun b => (b, p.2)
def tmAnd (a b : Tm) : Tm := fun ρ => (a ρ).bind fun p => if p.1 then b p.2 else some (false, p.2)
def tmOr (a b : Tm) : Tm := fun ρ => (a ρ).bind fun p => if p.1 then some (true, p.2) else b p.2
def tmNot (a : Tm) : Tm := fun ρ => (a ρ).map fun p => (!p.1, p.2)
def yIf (t : Tm) (a b : Ym) : Ym := fun ρ => (t ρ).bind fun p => if p.1 then a p.2 else b p.2
def dAnd (a b : Dm) : Dm := fun ρ => (a ρ).bind fun p => (asB p.1).bind fun c => if c then (b p.2).bind fun q => (asB q.1).map fun e => (.bool e, q.2) else some (.bool false, p.2)
def dOr (a b : Dm) : Dm := fun ρ => (a ρ).bind fun p => (asB p.1).bind fun c => if c then some (.bool true, p.2) else (b p.2).bind fun q => (asB q.1).map fun e => (.bool e, q.2)
def dNot (a : Dm) : Dm := fun ρ => (a ρ).bind fun p => (asB p.1).map fun c => (.bool (!c), p.2)
def rsts (vs : List Nat) (ρ1 : Env) : Option (List OT × Env) → Option (OT × Env)
  | some (rs, ρ2) => some (.nd .lst rs, rst ρ2 ρ1 vs)
  | Option.none => Option.none
def lcStep (g : Gm) (t : Tm) (e : Ym) : D → Env → Option (Option OT × Env) := fun x ρ => (g x ρ).bind fun ρm => (t ρm).bind fun p => if p.1 then (e p.2).bind fun q => if isNo q.1 then Option.none else some (some q.1, q.2) else some (Option.none, p.2)
def yLc (vs : List Nat) (it : Lm) (g : Gm) (t : Tm) (e : Ym) : Ym := fun ρ => (it ρ).bind fun p => if calmAt p.2 vs && decide (p.1.length ≤ 1000000) then rsts vs p.2 (mLc vs (lcStep g t e) p.1 [] (wipeE p.2 vs)) else Option.none
section
variable {ta tb tc te : TE} {tl tr : TA} {t u : TT} {a b c : Rm} {q p : Qm} {m k : Bm} {R : R2} {E : XK} {y z : Ym} {dm dn : Dm} {lm ln : Lm} {om on : Om} {tm tn : Tm}
theorem c_yvar (i : Nat) : CY (tVar i) (yVar i) := fun ρ r ρ' h => by
  unfold yVar at h
  split at h
  · cases h; exact evy_of (evd_varD (by assumption))
  · simp only [Option.map_eq_some_iff] at h
    obtain ⟨x, h1, h2⟩ := h
    cases h2
    exact evy_of (evd_var (by assumption) h1)
  · cases h
theorem c_ymov (i : Nat) : CY (tVar i) (yMov i) := fun ρ r ρ' h => by
  unfold yMov at h
  split at h
  · cases h
  · rename_i t hn ht
    cases h
    exact evy_mov ht hn
  · cases h
theorem c_yR (ha : CR ta a) : CY ta (yR a) := fun ρ r ρ' h => by
  simp only [yR, Option.bind_eq_some_iff] at h
  obtain ⟨x, h1, h2⟩ := h
  split at h2
  · cases h2; exact evy_of (evd_flat (ha _ _ h1) (by assumption))
  · cases h2
theorem c_yauto (ha : CR ta a) (hy : CY ta y) : CY ta (yAuto a y) := fun ρ r ρ' h => by
  unfold yAuto at h
  split at h
  · rename_i x hx
    split at h
    · cases h; exact evy_of (evd_flat (ha _ _ hx) (by assumption))
    · exact hy _ _ _ h
  · exact hy _ _ _ h
theorem c_dY (hy : CY ta y) : CD ta (dY y) := fun ρ r ρ' h => by
  simp only [dY, Option.bind_eq_some_iff, Option.map_eq_some_iff] at h
  obtain ⟨⟨s, ρ1⟩, h1, x, h2, h3⟩ := h
  cases h3
  exact evd_of (hy _ _ _ h1) h2
theorem c_yD (hy : CD ta dm) : CY ta (yD dm) := fun ρ r ρ' h => by
  simp only [yD, Option.map_eq_some_iff] at h
  obtain ⟨⟨x, ρ1⟩, h1, h3⟩ := h
  cases h3
  exact evy_of (hy _ _ _ h1)
theorem c_dR (ha : CR ta a) : CD ta (dR a) := fun ρ r ρ' h => by
  simp only [dR, Option.bind_eq_some_iff] at h
  obtain ⟨x, h1, h2⟩ := h
  split at h2
  · cases h2; exact evd_flat (ha _ _ h1) (by assumption)
  · cases h2
theorem c_dop {g : D → D → Option D} (hR : OpM R g) (ha : CD ta dm) (hb : CD tb dn) : CD (tOp R ta tb) (dOp g dm dn) := fun ρ r ρ' h => by
  simp only [dOp, Option.bind_eq_some_iff, Option.map_eq_some_iff] at h
  obtain ⟨⟨d, ρ1⟩, h1, ⟨e, ρ2⟩, h2, x, h3, h4⟩ := h
  cases h4
  exact evd_op (ha _ _ _ h1) (hb _ _ _ h2) (hR _ _ _ h3)
theorem c_dopR {g : D → D → Option D} (hR : OpM R g) (ha : CD ta dm) (hb : CR tb b) : CD (tOp R ta tb) (dOpR g dm b) := fun ρ r ρ' h => by
  simp only [dOpR, Option.bind_eq_some_iff, Option.map_eq_some_iff] at h
  obtain ⟨⟨d, ρ1⟩, h1, e, h2, x, h3, h4⟩ := h
  cases h4
  exact evd_opR (ha _ _ _ h1) (hb _ _ h2) (hR _ _ _ h3)
theorem c_dix {g : D → D → Option D} (hR : IxM R g) (ha : CD ta dm) (hb : CD tb dn) : CD (tOp R ta tb) (dOp g dm dn) := fun ρ r ρ' h => by
  simp only [dOp, Option.bind_eq_some_iff, Option.map_eq_some_iff] at h
  obtain ⟨⟨d, ρ1⟩, h1, ⟨e, ρ2⟩, h2, x, h3, h4⟩ := h
  cases h4
  exact evd_ix (ha _ _ _ h1) (hb _ _ _ h2) (hR _ _ _ h3)
theorem c_dixR {g : D → D → Option D} (hR : IxM R g) (ha : CD ta dm) (hb : CR tb b) : CD (tOp R ta tb) (dOpR g dm b) := fun ρ r ρ' h => by
  simp only [dOpR, Option.bind_eq_some_iff, Option.map_eq_some_iff] at h
  obtain ⟨⟨d, ρ1⟩, h1, e, h2, x, h3, h4⟩ := h
  cases h4
  exact evd_ixR (ha _ _ _ h1) (hb _ _ h2) (hR _ _ _ h3)
theorem c_dcb {R : List V → Hp → VK → Prop} {g : List D → Option D} (hR : CbM R g) (ha : CL tl lm) : CD (tCB R tl) (dCb g lm) := fun ρ r ρ' h => by
  simp only [dCb, Option.bind_eq_some_iff, Option.map_eq_some_iff] at h
  obtain ⟨⟨d, ρ1⟩, h1, x, h3, h4⟩ := h
  cases h4
  exact evd_cb (ha _ _ _ h1) (hR _ _ h3)
theorem c_ycall {f : List D → Option OT} {n : Nat} (ha : CL tl lm) : CY (tCall (spP n f) [] E tl) (yCall f n lm) := fun ρ r ρ' h => by
  simp only [yCall, Option.bind_eq_some_iff] at h
  obtain ⟨⟨ds, ρ1⟩, h1, h2⟩ := h
  split at h2
  · rename_i hn
    simp only [Option.map_eq_some_iff] at h2
    obtain ⟨r', h3, h4⟩ := h2
    cases h4
    exact evy_call (ha _ _ _ h1) hn h3
  · cases h2
theorem lfO_some {o : Option OT} {r : OT} (h : lfO o = some r) : o = some r ∧ r.lf = true := by
  cases o with
  | none => cases h
  | some t =>
    simp only [lfO] at h
    split at h
    · cases h; exact ⟨rfl, by assumption⟩
    · cases h
theorem c_ycallA {f : List D → Option OT} {n : Nat} (hq : CQ tl q) (ha : CL tl lm) : CY (tCall (spP n f) [] E tl) (yCallA f n q lm) := fun ρ r ρ' h => by
  unfold yCallA at h
  split at h
  · rename_i r' hr
    cases h
    simp only [Option.bind_eq_some_iff] at hr
    obtain ⟨ds, h1, h2⟩ := hr
    split at h2
    · rename_i hn
      obtain ⟨h3, h4⟩ := lfO_some h2
      exact evy_callR (hq _ _ h1) hn h3 h4
    · cases h2
  · exact c_ycall ha _ _ _ h
theorem c_ycallI {f : OT → List D → Option (OT × OT)} {n i : Nat} (ha : CL tl lm) : CY (tCall (spI n f) [] E (tCons (tVar i) tl)) (yCallI f n i lm) := fun ρ r ρ' h => by
  unfold yCallI at h
  split at h
  · cases h
  · rename_i t0 hn0 h0
    simp only [Option.bind_eq_some_iff] at h
    obtain ⟨⟨ds, ρ1⟩, h1, h2⟩ := h
    split at h2
    · cases h2
    · rename_i t hn ht
      split at h2
      · rename_i hl
        simp only [Option.map_eq_some_iff] at h2
        obtain ⟨⟨r', t'⟩, h3, h4⟩ := h2
        cases h4
        exact evy_callI h0 hn0 (ha _ _ _ h1) ht hn hl h3
      · cases h2
    · cases h2
  · cases h
/-- a built-in that tells something of its own, of frozen arguments -/
def CbZ (R : List V → Hp → VK → Prop) (G : List D → Option OT) : Prop := ∀ ds r, G ds = some r → ∀ (S H : Hp) (vs : List V) (Q : VK), Same S H → RpAll S vs ds → (∀ v' S' H' A, Xt S H S' H' → OOk S' H' v' r A → A.Nodup → (∀ a ∈ A, H a = none) → Q v' H') → R vs H Q
theorem c_ycb {R : List V → Hp → VK → Prop} {G : List D → Option OT} (hR : CbZ R G) (ha : CL tl lm) : CY (tCB R tl) (yCb G lm) := fun ρ r ρ' h => by
  simp only [yCb, Option.bind_eq_some_iff, Option.map_eq_some_iff] at h
  obtain ⟨⟨ds, ρ1⟩, h1, r', h2, h3⟩ := h
  cases h3
  exact fun S0 H0 A0 S H τσ τρ σ Q l o q => ha _ _ _ h1 S0 H0 A0 S H τσ τρ σ _ l o fun vs S1 H1 s1 o1 g1 => hR _ _ h2 S1 H1 vs Q o1.sh g1 fun v' S' H' A xt g2 nd fr => q v' S' H' (s1.trans xt.ss) (o1.push xt g2 nd fr)
theorem c_ycbA {R : List V → Hp → VK → Prop} {G : List D → Option OT} (hR : CbZ R G) (hq : CQ tl q) (ha : CL tl lm) : CY (tCB R tl) (yCbA G q lm) := fun ρ r ρ' h => by
  unfold yCbA at h
  split at h
  · rename_i r' hr
    cases h
    simp only [Option.bind_eq_some_iff] at hr
    obtain ⟨ds, h1, h2⟩ := hr
    obtain ⟨h3, h4⟩ := lfO_some h2
    exact fun S0 H0 A0 S H τσ τρ σ Q l o q => hq _ _ h1 S0 H0 A0 S H τσ τρ σ _ l o fun vs S1 H1 x1 g1 => hR _ _ h3 H1 H1 vs Q (Same.refl H1) g1 fun v' S' H' A xt g2 nd fr =>
      q v' _ H' (x1.trans (xt_low x1.sh xt)).ss ((o.ext x1).push (xt_low x1.sh xt) (ook_lf xt.sh _ _ _ g2 h4 fun a ha => x1.sh.free (fr a ha)) nd fr)
  · exact c_ycb hR ha _ _ _ h
def OpZ (R : R2) (G : D → D → Option OT) : Prop := ∀ d e r, G d e = some r → ∀ (S H : Hp) (v u : V) (Q : VK), Same S H → Rp S v d → Rp S u e → (∀ v' S' H' A, Xt S H S' H' → OOk S' H' v' r A → A.Nodup → (∀ a ∈ A, H a = none) → Q v' H') → R v u H Q
theorem c_yop {G : D → D → Option OT} (hR : OpZ R G) (ha : CD ta dm) (hb : CD tb dn) : CY (tOp R ta tb) (yOp G dm dn) := fun ρ r ρ' h => by
  simp only [yOp, Option.bind_eq_some_iff, Option.map_eq_some_iff] at h
  obtain ⟨⟨d, ρ1⟩, h1, ⟨e, ρ2⟩, h2, r', h3, h4⟩ := h
  cases h4
  exact fun S0 H0 A0 S H τσ τρ σ Q l o q => ha _ _ _ h1 S0 H0 A0 S H τσ τρ σ _ l o fun v S1 H1 s1 o1 g1 => hb _ _ _ h2 S0 H0 A0 S1 H1 τσ τρ σ _ l o1 fun u S2 H2 s2 o2 g2 =>
    hR _ _ _ h3 S2 H2 v u Q o2.sh (dp_mono s2 _ _ g1) g2 fun v' S' H' A xt g3 nd fr => q v' S' H' ((s1.trans s2).trans xt.ss) (o2.push xt g3 nd fr)
theorem c_yopA {G : D → D → Option OT} (hR : OpZ R G) (hra : CR ta a) (hrb : CR tb b) (ha : CD ta dm) (hb : CD tb dn) : CY (tOp R ta tb) (yOpA G a b dm dn) := fun ρ r ρ' h => by
  unfold yOpA at h
  split at h
  · rename_i r' hr
    cases h
    simp only [Option.bind_eq_some_iff] at hr
    obtain ⟨d, h1, e, h2, h3⟩ := hr
    obtain ⟨h3, h4⟩ := lfO_some h3
    exact fun S0 H0 A0 S H τσ τρ σ Q l o q => hra _ _ h1 S0 H0 A0 S H τσ τρ σ _ l o fun v S1 H1 x1 g1 => hrb _ _ h2 S0 H0 A0 S1 H1 τσ τρ σ _ l (o.ext x1) fun u S2 H2 x2 g2 =>
      hR _ _ _ h3 H2 H2 v u Q (Same.refl H2) (dp_mono x2.hh _ _ g1) g2 fun v' S' H' A xt g3 nd fr =>
        q v' _ H' ((x1.trans x2).trans (xt_low x2.sh xt)).ss (((o.ext x1).ext x2).push (xt_low x2.sh xt) (ook_lf xt.sh _ _ _ g3 h4 fun a ha => x2.sh.free (fr a ha)) nd fr)
  · exact c_yop hR ha hb _ _ _ h
theorem c_lnil : CL tNil lNil := fun ρ x ρ' h => by cases h; exact evl_nil
theorem c_lcons (ha : CD ta dm) (hb : CL tr lm) : CL (tCons ta tr) (lCons dm lm) := fun ρ x ρ' h => by
  simp only [lCons, Option.bind_eq_some_iff, Option.map_eq_some_iff] at h
  obtain ⟨⟨d, ρ1⟩, h1, ⟨xs, ρ2⟩, h2, h3⟩ := h
  cases h3
  exact evl_cons (ha _ _ _ h1) (hb _ _ _ h2)
theorem c_onil : CO tNil oNil := fun ρ x ρ' h => by cases h; exact ⟨evys_nil, by simp⟩
theorem isNo_false {r : OT} (h : ¬ isNo r = true) : r ≠ .no := by rintro rfl; exact h rfl
theorem c_ocons (ha : CY ta y) (hb : CO tr om) : CO (tCons ta tr) (oCons y om) := fun ρ x ρ' h => by
  simp only [oCons, Option.bind_eq_some_iff] at h
  obtain ⟨⟨r, ρ1⟩, h1, h2⟩ := h
  split at h2
  · cases h2
  · rename_i hn
    simp only [Option.map_eq_some_iff] at h2
    obtain ⟨⟨rs, ρ2⟩, h3, h4⟩ := h2
    cases h4
    obtain ⟨g1, g2⟩ := hb _ _ _ h3
    exact ⟨evys_cons (ha _ _ _ h1) g1, fun r' hr => by
      rcases List.mem_cons.mp hr with z | z
      · rw [z]; exact isNo_false hn
      · exact g2 r' z⟩
theorem c_ytup (ha : CO tl om) : CY (tTup tl) (yTup om) := fun ρ r ρ' h => by
  simp only [yTup, Option.bind_eq_some_iff] at h
  obtain ⟨⟨rs, ρ1⟩, h1, h2⟩ := h
  split at h2
  · cases h2; exact evy_tup (ha _ _ _ h1).1 (ha _ _ _ h1).2 (by assumption)
  · cases h2
theorem c_ylst (ha : CO tl om) : CY (tLst tl) (yLst om) := fun ρ r ρ' h => by
  simp only [yLst, Option.bind_eq_some_iff] at h
  obtain ⟨⟨rs, ρ1⟩, h1, h2⟩ := h
  split at h2
  · cases h2; exact evy_lst (ha _ _ _ h1).1 (ha _ _ _ h1).2 (by assumption)
  · cases h2
theorem c_tR (ha : CB t m) : CT t (tR m) := fun ρ b ρ' h => by
  simp only [tR, Option.map_eq_some_iff] at h
  obtain ⟨c, h1, h2⟩ := h
  cases h2
  exact fun S0 H0 A0 S H τσ τρ σ Q l o q => ha _ _ h1 S0 H0 A0 S H τσ τρ σ _ l o fun S1 H1 x1 => q S1 H1 x1.ss (o.ext x1)
theorem c_tD (ha : CD ta dm) : CT (tTest ta) (tD dm) := fun ρ b ρ' h => by
  simp only [tD, Option.bind_eq_some_iff, Option.map_eq_some_iff] at h
  obtain ⟨⟨d, ρ1⟩, h1, c, h2, h3⟩ := h
  cases h3
  have e := asB_some h2
  simp only at e
  subst e
  exact fun S0 H0 A0 S H τσ τρ σ Q l o q => ha _ _ _ h1 S0 H0 A0 S H τσ τρ σ _ l o fun v S1 H1 s1 o1 r1 => by cases r1; exact ⟨b, rfl, q S1 H1 s1 o1⟩
theorem c_tDB (ha : CD ta dm) : CT (tB ta) (tD dm) := fun ρ b ρ' h => by
  simp only [tD, Option.bind_eq_some_iff, Option.map_eq_some_iff] at h
  obtain ⟨⟨d, ρ1⟩, h1, c, h2, h3⟩ := h
  cases h3
  have e := asB_some h2
  simp only at e
  subst e
  exact fun S0 H0 A0 S H τσ τρ σ Q l o q => ha _ _ _ h1 S0 H0 A0 S H τσ τρ σ _ l o fun v S1 H1 s1 o1 r1 => by cases r1; exact ⟨b, rfl, q S1 H1 s1 o1⟩
theorem c_tand (ha : CT t tm) (hb : CT u tn) : CT (tAnd t u) (tmAnd tm tn) := fun ρ b ρ' h => by
  simp only [tmAnd, Option.bind_eq_some_iff] at h
  obtain ⟨⟨c, ρ1⟩, h1, h2⟩ := h
  refine fun S0 H0 A0 S H τσ τρ σ Q l o q => ha _ _ _ h1 S0 H0 A0 S H τσ τρ σ _ l o fun S1 H1 s1 o1 => ?_
  cases c with
  | true => exact iteT (hb _ _ _ h2 S0 H0 A0 S1 H1 τσ τρ σ _ l o1 fun S2 H2 s2 o2 => q S2 H2 (s1.trans s2) o2)
  | false => simp at h2; obtain ⟨rfl, rfl⟩ := h2; exact iteF (q S1 H1 s1 o1)
theorem c_tor (ha : CT t tm) (hb : CT u tn) : CT (tOr t u) (tmOr tm tn) := fun ρ b ρ' h => by
  simp only [tmOr, Option.bind_eq_some_iff] at h
  obtain ⟨⟨c, ρ1⟩, h1, h2⟩ := h
  refine fun S0 H0 A0 S H τσ τρ σ Q l o q => ha _ _ _ h1 S0 H0 A0 S H τσ τρ σ _ l o fun S1 H1 s1 o1 => ?_
  cases c with
  | false => exact iteF (hb _ _ _ h2 S0 H0 A0 S1 H1 τσ τρ σ _ l o1 fun S2 H2 s2 o2 => q S2 H2 (s1.trans s2) o2)
  | true => simp at h2; obtain ⟨rfl, rfl⟩ := h2; exact iteT (q S1 H1 s1 o1)
theorem c_tnot (ha : CT t tm) : CT (tNot t) (tmNot tm) := fun ρ b ρ' h => by
  simp only [tmNot, Option.map_eq_some_iff] at h
  obtain ⟨⟨c, ρ1⟩, h1, h2⟩ := h
  cases h2
  exact fun S0 H0 A0 S H τσ τρ σ Q l o q => ha _ _ _ h1 S0 H0 A0 S H τσ τρ σ _ l o fun S1 H1 s1 o1 => q S1 H1 s1 o1
theorem c_tyes : CT tYes (fun ρ => some (true, ρ)) := fun ρ b ρ' h => by
  cases h
  exact fun S0 H0 A0 S H τσ τρ σ Q l o q => q S H (Same.refl S) o
theorem c_yif (ht : CT t tm) (ha : CY ta y) (hb : CY tb z) : CY (tIf t ta tb) (yIf tm y z) := fun ρ r ρ' h => by
  simp only [yIf, Option.bind_eq_some_iff] at h
  obtain ⟨⟨c, ρ1⟩, h1, h2⟩ := h
  refine fun S0 H0 A0 S H τσ τρ σ Q l o q => ht _ _ _ h1 S0 H0 A0 S H τσ τρ σ _ l o fun S1 H1 s1 o1 => ?_
  cases c with
  | true => exact iteT (ha _ _ _ h2 S0 H0 A0 S1 H1 τσ τρ σ _ l o1 fun v S2 H2 s2 o2 => q v S2 H2 (s1.trans s2) o2)
  | false => exact iteF (hb _ _ _ h2 S0 H0 A0 S1 H1 τσ τρ σ _ l o1 fun v S2 H2 s2 o2 => q v S2 H2 (s1.trans s2) o2)
theorem c_dand (ha : CD ta dm) (hb : CD tb dn) : CD (tAndV ta tb) (dAnd dm dn) := fun ρ x ρ' h => by
  simp only [dAnd, Option.bind_eq_some_iff] at h
  obtain ⟨⟨d, ρ1⟩, h1, c, h2, h3⟩ := h
  have e := asB_some h2
  simp only at e
  subst e
  refine fun S0 H0 A0 S H τσ τρ σ Q l o q => ha _ _ _ h1 S0 H0 A0 S H τσ τρ σ _ l o fun v S1 H1 s1 o1 r1 => ?_
  cases r1
  refine ⟨c, rfl, ?_⟩
  cases c with
  | true =>
    simp only [if_true, Option.bind_eq_some_iff, Option.map_eq_some_iff] at h3
    obtain ⟨⟨d2, ρ2⟩, g1, b', g2, g3⟩ := h3
    cases g3
    have e := asB_some g2
    simp only at e
    subst e
    exact iteT (hb _ _ _ g1 S0 H0 A0 S1 H1 τσ τρ σ _ l o1 fun v S2 H2 s2 o2 r2 => q v S2 H2 (s1.trans s2) o2 r2)
  | false =>
    simp at h3
    obtain ⟨rfl, rfl⟩ := h3
    exact iteF (q _ S1 H1 s1 o1 (.bl false))
theorem c_dor (ha : CD ta dm) (hb : CD tb dn) : CD (tOrV ta tb) (dOr dm dn) := fun ρ x ρ' h => by
  simp only [dOr, Option.bind_eq_some_iff] at h
  obtain ⟨⟨d, ρ1⟩, h1, c, h2, h3⟩ := h
  have e := asB_some h2
  simp only at e
  subst e
  refine fun S0 H0 A0 S H τσ τρ σ Q l o q => ha _ _ _ h1 S0 H0 A0 S H τσ τρ σ _ l o fun v S1 H1 s1 o1 r1 => ?_
  cases r1
  refine ⟨c, rfl, ?_⟩
  cases c with
  | false =>
    simp only [Bool.false_eq_true, if_false, Option.bind_eq_some_iff, Option.map_eq_some_iff] at h3
    obtain ⟨⟨d2, ρ2⟩, g1, b', g2, g3⟩ := h3
    cases g3
    have e := asB_some g2
    simp only at e
    subst e
    exact iteF (hb _ _ _ g1 S0 H0 A0 S1 H1 τσ τρ σ _ l o1 fun v S2 H2 s2 o2 r2 => q v S2 H2 (s1.trans s2) o2 r2)
  | true =>
    simp at h3
    obtain ⟨rfl, rfl⟩ := h3
    exact iteT (q _ S1 H1 s1 o1 (.bl true))
theorem c_dnot (ha : CD ta dm) : CD (tNotV ta) (dNot dm) := fun ρ x ρ' h => by
  simp only [dNot, Option.bind_eq_some_iff, Option.map_eq_some_iff] at h
  obtain ⟨⟨d, ρ1⟩, h1, c, h2, h3⟩ := h
  cases h3
  have e := asB_some h2
  simp only at e
  subst e
  exact fun S0 H0 A0 S H τσ τρ σ Q l o q => ha _ _ _ h1 S0 H0 A0 S H τσ τρ σ _ l o fun v S1 H1 s1 o1 r1 => by cases r1; exact ⟨c, rfl, q _ S1 H1 s1 o1 (.bl _)⟩
theorem c_ylc {wi : TI} {g : TG} {gm : Gm} {is vs : List Nat} (hi : CI wi lm) (hg : CG g gm is) (hs : ∀ j ∈ is, j ∈ vs) (ht : CT t tm) (he : CY te y) : CY (tLc wi g t te vs) (yLc vs lm gm tm y) := fun ρ r ρ' h => by
  simp only [yLc, Option.bind_eq_some_iff] at h
  obtain ⟨⟨ds, ρ1⟩, h1, h2⟩ := h
  split at h2
  · rename_i hc
    simp only [Bool.and_eq_true, decide_eq_true_eq] at hc
    cases hm : mLc vs (lcStep gm tm y) ds [] (wipeE ρ1 vs) with
    | none => simp only at h2; rw [hm] at h2; cases h2
    | some p =>
      obtain ⟨rs, ρ2⟩ := p
      simp only at h2
      rw [hm] at h2
      cases h2
      refine evy_lc (hi _ _ _ h1) (fun x ρa o ρb hst => ?_) hm hc.1 hc.2
      simp only [lcStep, Option.bind_eq_some_iff] at hst
      obtain ⟨ρm, g1, ⟨b, ρt⟩, g2, g3⟩ := hst
      refine ⟨ρm, is, b, ρt, hg _ _ _ g1, hs, ht _ _ _ g2, ?_⟩
      cases b with
      | false => simp at g3; obtain ⟨rfl, rfl⟩ := g3; exact ⟨rfl, rfl⟩
      | true =>
        simp only [if_true, Option.bind_eq_some_iff] at g3
        obtain ⟨⟨s, ρs⟩, g4, g5⟩ := g3
        split at g5
        · cases g5
        · rename_i hn
          cases g5
          exact ⟨rfl, isNo_false hn, he _ _ _ g4⟩
  · cases h2
end

/-! ### targets -/
def gmName (i : Nat) : Gm := fun x ρ => some (ρ.set i (.d x))
def gmTup (g : Gms) : Gm := fun x ρ => match x with
  | .tuple xs => g xs ρ
  | _ => Option.none
def gmLst (g : Gms) : Gm := fun x ρ => match x with
  | .list xs => g xs ρ
  | _ => Option.none
def gsNil : Gms := fun xs ρ => match xs with
  | [] => some ρ
  | _ => Option.none
def gsCons (g : Gm) (h : Gms) : Gms := fun xs ρ => match xs with
  | x :: xs => (g x ρ).bind fun ρ1 => h xs ρ1
  | _ => Option.none
section
variable {g : TG} {gs : TGs} {gm : Gm} {gms : Gms} {is ks : List Nat}
theorem c_gname (i : Nat) : CG (gName i) (gmName i) [i] := fun ρ x ρ' h => by cases h; exact tg_name
/-- as many as the length says -/
def CGn (n : Nat) (g : TGs) (m : Gms) (is : List Nat) : Prop := CGs g m is ∧ ∀ ρ xs ρ', m xs ρ = some ρ' → xs.length = n
theorem c_gsnil : CGn 0 gNil gsNil [] := by
  refine ⟨fun ρ xs ρ' h => ?_, fun ρ xs ρ' h => ?_⟩
  · cases xs with
    | nil => cases h; exact tgs_nil
    | cons => cases h
  · cases xs with
    | nil => rfl
    | cons => cases h
theorem c_gscons {n : Nat} (h1 : CG g gm is) (h2 : CGn n gs gms ks) : CGn (n + 1) (gCons g gs) (gsCons gm gms) (is ++ ks) := by
  refine ⟨fun ρ xs ρ' h => ?_, fun ρ xs ρ' h => ?_⟩
  · cases xs with
    | nil => cases h
    | cons x xs =>
      simp only [gsCons, Option.bind_eq_some_iff] at h
      obtain ⟨ρ1, g1, g2⟩ := h
      exact tgs_cons (h1 _ _ _ g1) (h2.1 _ _ _ g2)
  · cases xs with
    | nil => cases h
    | cons x xs =>
      simp only [gsCons, Option.bind_eq_some_iff] at h
      obtain ⟨ρ1, g1, g2⟩ := h
      rw [List.length_cons, h2.2 _ _ _ g2]
theorem c_gtup {n : Nat} (h : CGn n gs gms is) : CG (gTup kf.K n gs) (gmTup gms) is := fun ρ x ρ' e => by
  cases x with
  | tuple xs => exact tg_tup (h.1 _ _ _ e) (h.2 _ _ _ e)
  | _ => cases e
theorem c_glst {n : Nat} (h : CGn n gs gms is) : CG (gUnl kf.K n gs) (gmLst gms) is := fun ρ x ρ' e => by
  cases x with
  | list xs => exact tg_unl (h.1 _ _ _ e) (h.2 _ _ _ e)
  | _ => cases e
end
end MR

namespace MR
open PySem L2 PL
/-! ### statements -/
def sSeq (a b : Sm) : Sm := fun ρ => match a ρ with
  | some (.nx, ρ1) => b ρ1
  | o => o
def sNext : Sm := fun ρ => some (.nx, ρ)
def sBreak : Sm := fun ρ => some (.bk, ρ)
def sCont : Sm := fun ρ => some (.ct, ρ)
def sAsg (i : Nat) (y : Ym) : Sm := fun ρ => (y ρ).map fun p => (.nx, p.2.set i p.1)
def sAsgG (g : Gm) (y : Dm) : Sm := fun ρ => (y ρ).bind fun p => (g p.1 p.2).map fun ρ' => (.nx, ρ')
def sRet (y : Ym) : Sm := fun ρ => (y ρ).map fun p => (.rt p.1, p.2)
def sRetN : Sm := fun ρ => some (.rt (.d .none), ρ)
def sDrop (y : Ym) : Sm := fun ρ => (y ρ).map fun p => (.nx, p.2)
def sIf (t : Tm) (a b : Sm) : Sm := fun ρ => (t ρ).bind fun p => if p.1 then a p.2 else b p.2
def sFor (it : Lm) (g : Gm) (b : Sm) : Sm := fun ρ => (it ρ).bind fun p => mFor (fun x ρ => (g x ρ).bind b) p.1 p.2
noncomputable def sWhile (t : Tm) (b : Sm) : Sm := fun ρ => mWhile t b ρ
def sNever : Sm := fun _ => Option.none
/-- x.append(e), whatever e does -/
def sApp (i : Nat) (y : Ym) : Sm := fun ρ => match ρ[i]? with
  | some (.nd .lst _) => (y ρ).bind fun p => if isNo p.1 then Option.none else match p.2[i]? with
    | some (.nd .lst ts) => if ts.length ≤ 1000000 then some (.nx, p.2.set i (.nd .lst (ts ++ [p.1]))) else Option.none
    | _ => Option.none
  | _ => Option.none
/-- .. at a path, e read alone -/
abbrev Fm := Env → Option OT
def fR (a : Rm) : Fm := fun ρ => (a ρ).bind fun x => if tfl x then some (.d x) else Option.none
def fVarD (i : Nat) : Fm := fun ρ => match ρ[i]? with
  | some (.d x) => some (.d x)
  | _ => Option.none
def putAt (i : Nat) (p : List Nat) (s : OT) (ρ : Env) : Env := match ρ[i]? with
  | some t => ρ.set i (t.put p s)
  | Option.none => ρ
def sAppP (i : Nat) (pm : Pm) (f : Fm) : Sm := fun ρ => (pm ρ).bind fun q => match q.2 with
  | .nd .lst ts => (f ρ).bind fun r => if isNo r then Option.none else if ts.length ≤ 1000000 then some (.nx, putAt i q.1 (.nd .lst (ts ++ [r])) ρ) else Option.none
  | _ => Option.none
def sSetP (i : Nat) (pm : Pm) (ix : Rm) (y : Ym) : Sm := fun ρ => (y ρ).bind fun p => if isNo p.1 then Option.none else (pm p.2).bind fun q => match q.2 with
  | .nd .lst ts => (ix p.2).bind fun d => match d with
    | .int n => (ixN ts.length n).map fun j => (.nx, putAt i q.1 (.nd .lst (ts.set j p.1)) p.2)
    | _ => Option.none
  | _ => Option.none
def sRevP (i : Nat) (pm : Pm) : Sm := fun ρ => (pm ρ).bind fun q => match q.2 with
  | .nd .lst ts => some (.nx, putAt i q.1 (.nd .lst ts.reverse) ρ)
  | _ => Option.none
def sClrP (i : Nat) (pm : Pm) : Sm := fun ρ => (pm ρ).bind fun q => match q.2 with
  | .nd .lst _ => some (.nx, putAt i q.1 (.nd .lst []) ρ)
  | _ => Option.none
def yPop (i : Nat) (dm : Dm) : Ym := fun ρ => match ρ[i]? with
  | some (.nd .lst _) => (dm ρ).bind fun p => match p.1 with
    | .int n => match p.2[i]? with
      | some (.nd .lst ts) => if -(2 ^ 63) ≤ n ∧ n < 2 ^ 63 then (seqIndex? n ts.length).bind fun j => (ts[j]?).map fun s => (s, p.2.set i (.nd .lst (ts.eraseIdx j))) else Option.none
      | _ => Option.none
    | _ => Option.none
  | _ => Option.none
def pmVar (i : Nat) : Pm := fun ρ => match ρ[i]? with
  | some (.nd k ts) => some ([], .nd k ts)
  | _ => Option.none
def pmIx (pm : Pm) (ix : Rm) : Pm := fun ρ => (pm ρ).bind fun q => match q.2 with
  | .nd .lst ts => (ix ρ).bind fun d => match d with
    | .int n => (ixN ts.length n).bind fun j => (ts[j]?).map fun s => (q.1 ++ [j], s)
    | _ => Option.none
  | _ => Option.none
variable [kf : KF]
section
variable {ta tb tc te tp : TE} {tl tr : TA} {t u : TT} {ts us : TS} {a b c : Rm} {q p : Qm} {m k : Bm} {R : R2} {E : XK} {y z : Ym} {dm dn : Dm} {lm ln : Lm} {om on : Om} {tm tn : Tm} {s1 s2 : Sm} {js : List Nat} {i : Nat} {pm : Pm} {fm : Fm}
theorem c_seq (h1 : CS js ts s1) (h2 : CS js us s2) : CS js (tSeq ts us) (sSeq s1 s2) := fun ρ fl ρ' h => by
  unfold sSeq at h
  cases e : s1 ρ with
  | none => rw [e] at h; cases h
  | some p =>
    obtain ⟨f, ρ1⟩ := p
    rw [e] at h
    cases f with
    | nx => exact run_seq (h1 _ _ _ e) (h2 _ _ _ h)
    | bk => cases h; exact run_seqB (h1 _ _ _ e)
    | ct => cases h; exact run_seqC (h1 _ _ _ e)
    | rt r => cases h; exact run_seqR (h1 _ _ _ e)
theorem c_next : CS js tNext sNext := fun ρ fl ρ' h => by cases h; exact run_next
theorem c_break : CS js tBreak sBreak := fun ρ fl ρ' h => by cases h; exact run_break
theorem c_cont : CS js tCont sCont := fun ρ fl ρ' h => by cases h; exact run_cont
theorem c_never (t : TS) : CS js t sNever := fun ρ fl ρ' h => by cases h
theorem c_asg (h : CY te y) (hi : i ∉ js := by decide) : CS js (tAsg te (gName i)) (sAsg i y) := fun ρ fl ρ' e => by
  simp only [sAsg, Option.map_eq_some_iff] at e
  obtain ⟨⟨r, ρ1⟩, e1, e2⟩ := e
  cases e2
  exact run_asg (h _ _ _ e1) hi
theorem c_asgG {g : TG} {gm : Gm} {is : List Nat} (h : CD te dm) (hg : CG g gm is) (hi : ∀ j ∈ js, j ∉ is := by decide) : CS js (tAsg te g) (sAsgG gm dm) := fun ρ fl ρ' e => by
  simp only [sAsgG, Option.bind_eq_some_iff, Option.map_eq_some_iff] at e
  obtain ⟨⟨x, ρ1⟩, e1, ρ2, e2, e3⟩ := e
  cases e3
  exact run_asgT (h _ _ _ e1) (hg _ _ _ e2) hi
theorem c_ret (h : CY te y) : CS js (tRet te) (sRet y) := fun ρ fl ρ' e => by
  simp only [sRet, Option.map_eq_some_iff] at e
  obtain ⟨⟨r, ρ1⟩, e1, e2⟩ := e
  cases e2
  exact run_ret (h _ _ _ e1)
theorem c_retN : CS js tRetN sRetN := fun ρ fl ρ' e => by cases e; exact run_retN
theorem c_drop (h : CY te y) : CS js (tDrop te) (sDrop y) := fun ρ fl ρ' e => by
  simp only [sDrop, Option.map_eq_some_iff] at e
  obtain ⟨⟨r, ρ1⟩, e1, e2⟩ := e
  cases e2
  exact run_drop (h _ _ _ e1)
theorem c_sif (ht : CT t tm) (h1 : CS js ts s1) (h2 : CS js us s2) : CS js (tIfS t ts us) (sIf tm s1 s2) := fun ρ fl ρ' e => by
  simp only [sIf, Option.bind_eq_some_iff] at e
  obtain ⟨⟨b, ρ1⟩, e1, e2⟩ := e
  refine run_if (ht _ _ _ e1) (fun hb => ?_) (fun hb => ?_)
  · subst hb; exact h1 _ _ _ e2
  · subst hb; exact h2 _ _ _ e2
theorem c_for {wi : TI} {g : TG} {gm : Gm} {is : List Nat} (hi : CI wi lm) (hg : CG g gm is) (hb : CS js ts s1) (hj : ∀ j ∈ js, j ∉ is := by decide) : CS js (tFor wi g ts) (sFor lm gm s1) := fun ρ fl ρ' e => by
  simp only [sFor, Option.bind_eq_some_iff] at e
  obtain ⟨⟨ds, ρ1⟩, e1, e2⟩ := e
  refine run_for (hi _ _ _ e1) (fun x ρa fl ρb h => ?_) e2
  simp only [Option.bind_eq_some_iff] at h
  obtain ⟨ρm, h1, h2⟩ := h
  exact ⟨ρm, is, hg _ _ _ h1, hj, hb _ _ _ h2⟩
theorem c_while (ht : CT t tm) (hb : CS js ts s1) : CS js (tWhile t ts) (sWhile tm s1) := fun ρ fl ρ' e => run_while ht hb e
theorem c_app (he : CY te y) : CS js (tDrop (tBM kf.K "list" rAppend (tVar i) (tCons te tNil))) (sApp i y) := fun ρ fl ρ' e => by
  unfold sApp at e
  split at e
  · rename_i us h0
    simp only [Option.bind_eq_some_iff] at e
    obtain ⟨⟨r, ρ1⟩, e1, e2⟩ := e
    split at e2
    · cases e2
    · rename_i hn
      split at e2
      · rename_i vs h1
        split at e2
        · cases e2
          exact run_appendY h0 ⟨_, rfl⟩ (he _ _ _ e1) h1 (isNo_false hn) (by assumption)
        · cases e2
      · cases e2
  · cases e
def CF (te : TE) (f : Fm) : Prop := ∀ ρ r, f ρ = some r → EvF te ρ r
theorem c_fR (ha : CR te a) : CF te (fR a) := fun ρ r h => by
  simp only [fR, Option.bind_eq_some_iff] at h
  obtain ⟨x, h1, h2⟩ := h
  split at h2
  · cases h2; exact evf_flat (ha _ _ h1) (by assumption)
  · cases h2
theorem c_fvarD (i : Nat) : CF (tVar i) (fVarD i) := fun ρ r h => by
  unfold fVarD at h
  split at h
  · cases h; exact evf_varD (by assumption)
  · cases h
theorem c_pvar (i : Nat) : CP (tVar i) i (pmVar i) := fun ρ p s h => by
  unfold pmVar at h
  split at h
  · rename_i k ts ht
    cases h
    exact ⟨pt_var ht (by intro z; cases z), _, ht, rfl⟩
  · cases h
theorem at_app : ∀ (p : List Nat) (t : OT) (k : Kd) (ts : List OT) (j : Nat), t.at p = some (.nd k ts) → t.at (p ++ [j]) = ts[j]?
  | [], t, k, ts, j, h => by
    simp only [OT.at, Option.some.injEq] at h
    subst h
    simp only [List.nil_append, OT.at]
    cases ts[j]? <;> rfl
  | i :: p, .no, k, ts, j, h => by simp [OT.at] at h
  | i :: p, .d x, k, ts, j, h => by simp [OT.at] at h
  | i :: p, .nd k' us, k, ts, j, h => by
    simp only [List.cons_append, OT.at] at h ⊢
    cases hu : us[i]? with
    | none => rw [hu] at h; cases h
    | some t => rw [hu] at h; exact at_app p t k ts j h
theorem c_pix (hp : CP tp i pm) (hb : CR tb b) : CP (tOp (rIxL kf.K) tp tb) i (pmIx pm b) := fun ρ p s h => by
  simp only [pmIx, Option.bind_eq_some_iff] at h
  obtain ⟨⟨p0, s0⟩, h1, h2⟩ := h
  obtain ⟨g1, t, g2, g3⟩ := hp _ _ _ h1
  simp only at h2
  split at h2
  · rename_i us
    simp only [Option.bind_eq_some_iff] at h2
    obtain ⟨d, h3, h4⟩ := h2
    split at h4
    · simp only [Option.bind_eq_some_iff, Option.map_eq_some_iff] at h4
      obtain ⟨j, h5, s', h6, h7⟩ := h4
      cases h7
      exact ⟨pt_ix (k := .lst) g1 g2 g3 (hb _ _ h3) h5, t, g2, (at_app p0 t .lst us j g3).trans h6⟩
    · cases h4
  · cases h2
theorem c_appP (hp : CP tp i pm) (he : CF te fm) : CS js (tDrop (tBM kf.K "list" rAppend tp (tCons te tNil))) (sAppP i pm fm) := fun ρ fl ρ' e => by
  simp only [sAppP, Option.bind_eq_some_iff] at e
  obtain ⟨⟨p0, s0⟩, h1, h2⟩ := e
  obtain ⟨g1, t, g2, g3⟩ := hp _ _ _ h1
  simp only at h2
  split at h2
  · simp only [Option.bind_eq_some_iff] at h2
    obtain ⟨r, h3, h4⟩ := h2
    split at h4
    · cases h4
    · rename_i hn
      split at h4
      · cases h4
        have := run_append (js := js) g1 g2 g3 (he _ _ h3) (isNo_false hn) (by assumption)
        unfold putAt
        rw [g2]
        exact this
      · cases h4
  · cases h2
theorem c_setP (hp : CP tp i pm) (hx : CR tb b) (he : CY te y) : CS js (tAsg te (gSub tp tb rSetL)) (sSetP i pm b y) := fun ρ fl ρ' e => by
  simp only [sSetP, Option.bind_eq_some_iff] at e
  obtain ⟨⟨r, ρ1⟩, h0, e⟩ := e
  split at e
  · cases e
  · rename_i hn
    simp only [Option.bind_eq_some_iff] at e
    obtain ⟨⟨p0, s0⟩, h1, h2⟩ := e
    obtain ⟨g1, t, g2, g3⟩ := hp _ _ _ h1
    simp only at h2
    split at h2
    · simp only [Option.bind_eq_some_iff] at h2
      obtain ⟨d, h3, h4⟩ := h2
      split at h4
      · simp only [Option.map_eq_some_iff] at h4
        obtain ⟨j, h5, h6⟩ := h4
        cases h6
        have := run_setitem (js := js) (he _ _ _ h0) g1 g2 g3 (hx _ _ h3) h5 (isNo_false hn)
        unfold putAt
        rw [g2]
        exact this
      · cases h4
    · cases h2
theorem c_revP (hp : CP tp i pm) : CS js (tDrop (tBM0 kf.K "list" rReverse tp)) (sRevP i pm) := fun ρ fl ρ' e => by
  simp only [sRevP, Option.bind_eq_some_iff] at e
  obtain ⟨⟨p0, s0⟩, h1, h2⟩ := e
  obtain ⟨g1, t, g2, g3⟩ := hp _ _ _ h1
  simp only at h2
  split at h2
  · cases h2
    have := run_reverse (js := js) g1 g2 g3
    unfold putAt
    rw [g2]
    exact this
  · cases h2
theorem c_clrP (hp : CP tp i pm) : CS js (tDrop (tBM0 kf.K "list" rClear tp)) (sClrP i pm) := fun ρ fl ρ' e => by
  simp only [sClrP, Option.bind_eq_some_iff] at e
  obtain ⟨⟨p0, s0⟩, h1, h2⟩ := e
  obtain ⟨g1, t, g2, g3⟩ := hp _ _ _ h1
  simp only at h2
  split at h2
  · cases h2
    have := run_clear (js := js) g1 g2 g3
    unfold putAt
    rw [g2]
    exact this
  · cases h2
theorem c_pop (he : CD te dm) : CY (tBM kf.K "list" rPopAt (tVar i) (tCons te tNil)) (yPop i dm) := fun ρ r ρ' e => by
  unfold yPop at e
  split at e
  · rename_i us h0
    simp only [Option.bind_eq_some_iff] at e
    obtain ⟨⟨x, ρ1⟩, e1, e2⟩ := e
    simp only at e2
    split at e2
    · split at e2
      · rename_i vs h1
        split at e2
        · simp only [Option.bind_eq_some_iff, Option.map_eq_some_iff] at e2
          obtain ⟨j, e3, s, e4, e5⟩ := e2
          cases e5
          exact evy_pop h0 ⟨_, rfl⟩ (he _ _ _ e1) h1 e3 e4 (by assumption)
        · cases e2
      · cases e2
    · cases e2
  · cases e
end

/-! ### what is walked -/
def asL : D → Option (List D)
  | .list xs => some xs
  | _ => Option.none
def asT : D → Option (List D)
  | .tuple xs => some xs
  | _ => Option.none
def iL (a : Dm) : Lm := fun ρ => (a ρ).bind fun p => (asL p.1).map fun xs => (xs, p.2)
def iT (a : Dm) : Lm := fun ρ => (a ρ).bind fun p => (asT p.1).map fun xs => (xs, p.2)
def iR1 (a : Lm) : Lm := fun ρ => (a ρ).bind fun p => match p.1 with
  | [.int n] => if -(2 ^ 62) ≤ n ∧ n < 2 ^ 62 then some (rgD 0 n.toNat, p.2) else Option.none
  | _ => Option.none
def iR2 (a : Lm) : Lm := fun ρ => (a ρ).bind fun p => match p.1 with
  | [.int m, .int n] => if -(2 ^ 62) ≤ m ∧ m < 2 ^ 62 ∧ -(2 ^ 62) ≤ n ∧ n < 2 ^ 62 then some (rgD m (n - m).toNat, p.2) else Option.none
  | _ => Option.none
def iE (a : Lm) : Lm := fun ρ => (a ρ).bind fun p => match p.1 with
  | [.list ds] => some (enumD ds, p.2)
  | _ => Option.none
def iZ (a : Lm) : Lm := fun ρ => (a ρ).bind fun p => match p.1 with
  | [.list ds, .list es] => some (zipD ds es, p.2)
  | _ => Option.none
def iV (a : Lm) : Lm := fun ρ => (a ρ).bind fun p => match p.1 with
  | [.list ds] => some (ds.reverse, p.2)
  | _ => Option.none
section
variable {te : TE} {tl : TA} {dm : Dm} {lm : Lm}
theorem c_iL (h : CD te dm) : CI (iList kf.K te) (iL dm) := fun ρ xs ρ' e => by
  simp only [iL, Option.bind_eq_some_iff, Option.map_eq_some_iff] at e
  obtain ⟨⟨d, ρ1⟩, e1, ys, e2, e3⟩ := e
  cases e3
  cases d with
  | list zs => cases e2; exact it_list (h _ _ _ e1)
  | _ => cases e2
theorem c_iT (h : CD te dm) : CI (iTup kf.K te) (iT dm) := fun ρ xs ρ' e => by
  simp only [iT, Option.bind_eq_some_iff, Option.map_eq_some_iff] at e
  obtain ⟨⟨d, ρ1⟩, e1, ys, e2, e3⟩ := e
  cases e3
  cases d with
  | tuple zs => cases e2; exact it_tupM (h _ _ _ e1)
  | _ => cases e2
theorem c_iR1 (h : CL tl lm) : CI (iRng1 tl) (iR1 lm) := fun ρ xs ρ' e => by
  simp only [iR1, Option.bind_eq_some_iff] at e
  obtain ⟨⟨d, ρ1⟩, e1, e2⟩ := e
  simp only at e2
  split at e2
  · split at e2
    · rename_i hh
      cases e2; exact it_range1 (h _ _ _ e1) hh.2 hh.1
    · cases e2
  · cases e2
theorem c_iR2 (h : CL tl lm) : CI (iRng2 tl) (iR2 lm) := fun ρ xs ρ' e => by
  simp only [iR2, Option.bind_eq_some_iff] at e
  obtain ⟨⟨d, ρ1⟩, e1, e2⟩ := e
  simp only at e2
  split at e2
  · split at e2
    · cases e2; exact it_range2 (h _ _ _ e1) (by assumption)
    · cases e2
  · cases e2
theorem c_iE (h : CL tl lm) : CI (iEnum kf.K tl) (iE lm) := fun ρ xs ρ' e => by
  simp only [iE, Option.bind_eq_some_iff] at e
  obtain ⟨⟨d, ρ1⟩, e1, e2⟩ := e
  simp only at e2
  split at e2
  · cases e2; exact it_enum (h _ _ _ e1)
  · cases e2
theorem c_iZ (h : CL tl lm) : CI (iZip kf.K tl) (iZ lm) := fun ρ xs ρ' e => by
  simp only [iZ, Option.bind_eq_some_iff] at e
  obtain ⟨⟨d, ρ1⟩, e1, e2⟩ := e
  simp only at e2
  split at e2
  · cases e2; exact it_zip (h _ _ _ e1)
  · cases e2
theorem c_iV (h : CL tl lm) : CI (iRev kf.K tl) (iV lm) := fun ρ xs ρ' e => by
  simp only [iV, Option.bind_eq_some_iff] at e
  obtain ⟨⟨d, ρ1⟩, e1, e2⟩ := e
  simp only at e2
  split at e2
  · cases e2; exact it_rev (h _ _ _ e1)
  · cases e2
end
end MR

namespace MR
open PySem L2 PL
/-! ### operators on data -/
def gI (f : Int → Int → D) : D → D → Option D
  | .int i, .int j => some (f i j)
  | _, _ => Option.none
def gAdd := gI fun i j => .int (i + j)
def gSub := gI fun i j => .int (i - j)
def gLt := gI fun i j => .bool (decide (i < j))
def gLe := gI fun i j => .bool (decide (i ≤ j))
def gGt := gI fun i j => .bool (decide (j < i))
def gGe := gI fun i j => .bool (decide (j ≤ i))
def gMulF : D → D → Option D
  | .int i, .int j => if (-(2 ^ 64) < i ∧ i < 2 ^ 64) ∨ (-(2 ^ 64) < j ∧ j < 2 ^ 64) then some (.int (i * j)) else Option.none
  | _, _ => Option.none
def gModF : D → D → Option D
  | .int i, .int j => if 0 < j then some (.int (i % j)) else Option.none
  | _, _ => Option.none
def gDivF : D → D → Option D
  | .int i, .int j => if 0 < j ∧ j < 1073741824 then some (.int (i / j)) else Option.none
  | _, _ => Option.none
def gPowF : D → D → Option D
  | .int i, .int j => if 0 ≤ j ∧ j ≤ 1000000 ∧ i.natAbs < 2 ^ 64 then some (.int (i ^ j.toNat)) else Option.none
  | _, _ => Option.none
theorem gMul_ex : ∃ f : D → D → Option D, f = gMulF := ⟨_, rfl⟩
noncomputable def gMul : D → D → Option D := gMul_ex.choose
theorem gMul_F : gMul = gMulF := gMul_ex.choose_spec
theorem gMod_ex : ∃ f : D → D → Option D, f = gModF := ⟨_, rfl⟩
noncomputable def gMod : D → D → Option D := gMod_ex.choose
theorem gMod_F : gMod = gModF := gMod_ex.choose_spec
theorem gDiv_ex : ∃ f : D → D → Option D, f = gDivF := ⟨_, rfl⟩
noncomputable def gDiv : D → D → Option D := gDiv_ex.choose
theorem gDiv_F : gDiv = gDivF := gDiv_ex.choose_spec
theorem gPow_ex : ∃ f : D → D → Option D, f = gPowF := ⟨_, rfl⟩
noncomputable def gPow : D → D → Option D := gPow_ex.choose
theorem gPow_F : gPow = gPowF := gPow_ex.choose_spec
theorem gMul_l {i j : Int} (h1 : -(2 ^ 64) < i) (h2 : i < 2 ^ 64) : gMul (.int i) (.int j) = some (.int (i * j)) := by
  rw [gMul_F]
  unfold gMulF
  simp only []
  rw [if_pos (.inl ⟨h1, h2⟩)]
theorem gMul_r {i j : Int} (h1 : -(2 ^ 64) < j) (h2 : j < 2 ^ 64) : gMul (.int i) (.int j) = some (.int (i * j)) := by
  rw [gMul_F]
  unfold gMulF
  simp only []
  rw [if_pos (.inr ⟨h1, h2⟩)]
theorem gMod_i {i j : Int} (h : 0 < j) : gMod (.int i) (.int j) = some (.int (i % j)) := by
  rw [gMod_F]
  unfold gModF
  simp only []
  rw [if_pos h]
theorem gDiv_i {i j : Int} (h1 : 0 < j) (h2 : j < 1073741824) : gDiv (.int i) (.int j) = some (.int (i / j)) := by
  rw [gDiv_F]
  unfold gDivF
  simp only []
  rw [if_pos ⟨h1, h2⟩]
theorem gPow_i {i j : Int} (h1 : 0 ≤ j) (h2 : j ≤ 1000000) (h3 : i.natAbs < 2 ^ 64) : gPow (.int i) (.int j) = some (.int (i ^ j.toNat)) := by
  rw [gPow_F]
  unfold gPowF
  simp only []
  rw [if_pos ⟨h1, h2, h3⟩]
def gNeg : D → Option D
  | .int i => some (.int (-i))
  | _ => Option.none
def gEqD (d e : D) : Option D := if SeqAt.shaped d && SeqAt.shaped e then some (.bool (PyData.eqv d e)) else Option.none
def gNeD (d e : D) : Option D := if SeqAt.shaped d && SeqAt.shaped e then some (.bool (!PyData.eqv d e)) else Option.none
/-- of texts -/
def gEqS : D → D → Option D
  | .str x, .str y => some (.bool (decide (x = y)))
  | _, _ => Option.none
def gNeS : D → D → Option D
  | .str x, .str y => some (.bool (!decide (x = y)))
  | _, _ => Option.none
/-- of ints, of truths -/
def gEqI : D → D → Option D
  | .int x, .int y => some (.bool (decide (x = y)))
  | .bool x, .bool y => some (.bool (decide (x = y)))
  | _, _ => Option.none
def gNeI : D → D → Option D
  | .int x, .int y => some (.bool (!decide (x = y)))
  | .bool x, .bool y => some (.bool (!decide (x = y)))
  | _, _ => Option.none
def gIsN : D → D → Option D
  | d, .none => some (.bool (isN d))
  | _, _ => Option.none
def gNotN : D → D → Option D
  | d, .none => some (.bool (!isN d))
  | _, _ => Option.none
def gIsB : D → D → Option D
  | .bool a, .bool b => some (.bool (decide (a = b)))
  | _, _ => Option.none
def gNotB : D → D → Option D
  | .bool a, .bool b => some (.bool (!decide (a = b)))
  | _, _ => Option.none
def gInD : D → D → Option D
  | d, .list ds => if SeqAt.shaped d && SeqAt.shaped (.list ds) then some (.bool (ds.any fun z => PyData.eqv z d)) else Option.none
  | _, _ => Option.none
def gNotInD : D → D → Option D
  | d, .list ds => if SeqAt.shaped d && SeqAt.shaped (.list ds) then some (.bool (!ds.any fun z => PyData.eqv z d)) else Option.none
  | _, _ => Option.none
def asInt : D → Option Int
  | .int i => some i
  | _ => Option.none
def asInts : List D → Option (List Int)
  | [] => some []
  | x :: xs => (asInt x).bind fun i => (asInts xs).map fun is => i :: is
def asBools : List D → Option (List Bool)
  | [] => some []
  | x :: xs => (asB x).bind fun i => (asBools xs).map fun is => i :: is
def asPair : D → Option (Int × Int)
  | .tuple [.int i, .int j] => some (i, j)
  | _ => Option.none
def asPairs : List D → Option (List (Int × Int))
  | [] => some []
  | x :: xs => (asPair x).bind fun i => (asPairs xs).map fun is => i :: is
def seqItems : D → Option (List D)
  | .list xs => some xs
  | .tuple xs => some xs
  | _ => Option.none
/-- k in ints -/
def gInI (neg : Bool) : D → D → Option D
  | .int k, e => ((seqItems e).bind asInts).map fun ns => .bool (if neg then !decide (k ∈ ns) else decide (k ∈ ns))
  | _, _ => Option.none
def gIxL : D → D → Option D
  | .list ds, .int n => atI ds n
  | _, _ => Option.none
def gIxT : D → D → Option D
  | .tuple ds, .int n => atI ds n
  | _, _ => Option.none
def gLeT : D → D → Option D
  | .tuple [.int a, .int b], .tuple [.int c, .int d] => some (.bool (lexLe (a, b) (c, d)))
  | _, _ => Option.none
theorem asInts_some : ∀ {xs : List D} {ns : List Int}, asInts xs = some ns → xs = ns.map .int
  | [], ns, h => by cases h; rfl
  | x :: xs, ns, h => by
    simp only [asInts, Option.bind_eq_some_iff, Option.map_eq_some_iff] at h
    obtain ⟨i, h1, is, h2, rfl⟩ := h
    rw [List.map_cons, ← asInts_some h2]
    cases x <;> simp [asInt] at h1
    rw [h1]
theorem asInts_map (ns : List Int) : asInts (ns.map .int) = some ns := by
  induction ns with
  | nil => rfl
  | cons n ns ih => simp [asInts, asInt, ih]
theorem asB_is {x : D} {b : Bool} (h : asB x = some b) : x = .bool b := by cases x <;> simp [asB] at h; rw [h]
theorem asBools_some : ∀ {xs : List D} {ns : List Bool}, asBools xs = some ns → xs = ns.map .bool
  | [], ns, h => by cases h; rfl
  | x :: xs, ns, h => by
    simp only [asBools, Option.bind_eq_some_iff, Option.map_eq_some_iff] at h
    obtain ⟨i, h1, is, h2, rfl⟩ := h
    rw [List.map_cons, ← asBools_some h2, asB_is h1]
theorem asBools_map (ns : List Bool) : asBools (ns.map .bool) = some ns := by
  induction ns with
  | nil => rfl
  | cons n ns ih => simp [asBools, asB, ih]
theorem asPair_some {x : D} {p : Int × Int} (h : asPair x = some p) : x = pairD p := by
  unfold asPair at h
  split at h
  · cases h; rfl
  · cases h
theorem asPairs_some : ∀ {xs : List D} {ns : List (Int × Int)}, asPairs xs = some ns → xs = ns.map pairD
  | [], ns, h => by cases h; rfl
  | x :: xs, ns, h => by
    simp only [asPairs, Option.bind_eq_some_iff, Option.map_eq_some_iff] at h
    obtain ⟨i, h1, is, h2, rfl⟩ := h
    rw [List.map_cons, ← asPairs_some h2, asPair_some h1]
theorem asPairs_map (ns : List (Int × Int)) : asPairs (ns.map pairD) = some ns := by
  induction ns with
  | nil => rfl
  | cons n ns ih => simp [asPairs, asPair, pairD, ih]
variable [kf : KF]
theorem gI_some {f : Int → Int → D} {d e x : D} (h : gI f d e = some x) : ∃ i j, d = .int i ∧ e = .int j ∧ x = f i j := by
  unfold gI at h
  split at h
  · cases h; exact ⟨_, _, rfl, rfl, rfl⟩
  · cases h
theorem o_I0 {g : Int → Int → V} {f : Int → Int → D} (hg : ∀ i j, vD (g i j) = some (f i j)) : OpM (rI0 g) (gI f) := fun d e x h => by
  obtain ⟨i, j, rfl, rfl, rfl⟩ := gI_some h
  exact fun H v u Q h1 h2 q => by cases h1; cases h2; exact ⟨i, j, rfl, rfl, q _ (hg i j)⟩
theorem o_add : OpM (rI0 fun i j => .int (i + j)) gAdd := o_I0 fun _ _ => rfl
theorem o_sub : OpM (rI0 fun i j => .int (i - j)) gSub := o_I0 fun _ _ => rfl
theorem o_lt : OpM (rI0 fun i j => .bl (decide (i < j))) gLt := o_I0 fun _ _ => rfl
theorem o_le : OpM (rI0 fun i j => .bl (decide (i ≤ j))) gLe := o_I0 fun _ _ => rfl
theorem o_gt : OpM (rI0 fun i j => .bl (decide (j < i))) gGt := o_I0 fun _ _ => rfl
theorem o_ge : OpM (rI0 fun i j => .bl (decide (j ≤ i))) gGe := o_I0 fun _ _ => rfl
theorem o_mul : OpM (rI CMul fun i j => .int (i * j)) gMul := fun d e x h => by
  rw [gMul_F] at h
  unfold gMulF at h
  split at h
  · split at h
    · rename_i hc
      cases h
      exact fun H v u Q h1 h2 q => by cases h1; cases h2; exact ⟨_, _, rfl, rfl, hc, q _ rfl⟩
    · cases h
  · cases h
theorem o_mod : OpM (rI (fun _ j => 0 < j) fun i j => .int (i % j)) gMod := fun d e x h => by
  rw [gMod_F] at h
  unfold gModF at h
  split at h
  · split at h
    · rename_i hc
      cases h
      exact fun H v u Q h1 h2 q => by cases h1; cases h2; exact ⟨_, _, rfl, rfl, hc, q _ rfl⟩
    · cases h
  · cases h
theorem o_div : OpM (rI CDiv fun i j => .int (i / j)) gDiv := fun d e x h => by
  rw [gDiv_F] at h
  unfold gDivF at h
  split at h
  · split at h
    · rename_i hc
      cases h
      exact fun H v u Q h1 h2 q => by cases h1; cases h2; exact ⟨_, _, rfl, rfl, hc, q _ rfl⟩
    · cases h
  · cases h
theorem o_pow : OpM (rI CPow fun i j => .int (i ^ j.toNat)) gPow := fun d e x h => by
  rw [gPow_F] at h
  unfold gPowF at h
  split at h
  · split at h
    · rename_i hc
      cases h
      exact fun H v u Q h1 h2 q => by cases h1; cases h2; exact ⟨_, _, rfl, rfl, hc, q _ rfl⟩
    · cases h
  · cases h
theorem o_neg : UnM (rU fun i => .int (-i)) gNeg := fun d x h => by
  unfold gNeg at h
  split at h
  · cases h
    exact fun H v Q h1 q => by cases h1; exact ⟨_, rfl, q _ rfl⟩
  · cases h
theorem o_eqD : OpM (rEqD kf.K) gEqD := fun d e x h => by
  unfold gEqD at h
  split at h
  · rename_i hc
    simp only [Bool.and_eq_true] at hc
    cases h
    exact fun H v u Q h1 h2 q => ⟨d, e, rp_dp _ _ (noDc_lay _ (SeqAt.canLay_of_shaped hc.1)) h1, rp_dp _ _ (noDc_lay _ (SeqAt.canLay_of_shaped hc.2)) h2, hc.1, hc.2, q _ rfl⟩
  · cases h
theorem o_neD : OpM (rNeD kf.K) gNeD := fun d e x h => by
  unfold gNeD at h
  split at h
  · rename_i hc
    simp only [Bool.and_eq_true] at hc
    cases h
    exact fun H v u Q h1 h2 q => ⟨d, e, rp_dp _ _ (noDc_lay _ (SeqAt.canLay_of_shaped hc.1)) h1, rp_dp _ _ (noDc_lay _ (SeqAt.canLay_of_shaped hc.2)) h2, hc.1, hc.2, q _ rfl⟩
  · cases h
theorem o_eqS : OpM rEq gEqS := fun d e x h => by
  unfold gEqS at h
  split at h
  · cases h
    exact fun H v u Q h1 h2 q => by
      cases h1; cases h2
      exact ⟨rfl, q _ (by simp [vD])⟩
  · cases h
theorem o_neS : OpM rNe gNeS := fun d e x h => by
  unfold gNeS at h
  split at h
  · cases h
    exact fun H v u Q h1 h2 q => by
      cases h1; cases h2
      exact ⟨rfl, q _ (by simp [vD])⟩
  · cases h
theorem o_eqI : OpM rEq gEqI := fun d e x h => by
  unfold gEqI at h
  split at h
  · cases h
    exact fun H v u Q h1 h2 q => by cases h1; cases h2; exact ⟨rfl, q _ (by simp [vD])⟩
  · cases h
    exact fun H v u Q h1 h2 q => by cases h1; cases h2; exact ⟨rfl, q _ (by simp [vD])⟩
  · cases h
theorem o_neI : OpM rNe gNeI := fun d e x h => by
  unfold gNeI at h
  split at h
  · cases h
    exact fun H v u Q h1 h2 q => by cases h1; cases h2; exact ⟨rfl, q _ (by simp [vD])⟩
  · cases h
    exact fun H v u Q h1 h2 q => by cases h1; cases h2; exact ⟨rfl, q _ (by simp [vD])⟩
  · cases h
theorem o_isN : OpM (fun x y H Q => y = V.non ∧ Q (.bl (decide (x = .non))) H) gIsN := fun d e x h => by
  unfold gIsN at h
  split at h
  · cases h
    exact fun H v u Q h1 h2 q => by cases h2; exact ⟨rfl, by rw [rp_isN h1]; exact q _ rfl⟩
  · cases h
theorem o_notN : OpM (fun x y H Q => y = V.non ∧ Q (.bl (!decide (x = .non))) H) gNotN := fun d e x h => by
  unfold gNotN at h
  split at h
  · cases h
    exact fun H v u Q h1 h2 q => by cases h2; exact ⟨rfl, by rw [rp_isN h1]; exact q _ rfl⟩
  · cases h
theorem o_isB : OpM (fun x y H Q => ∃ a b, x = V.bl a ∧ y = .bl b ∧ Q (.bl (decide (a = b))) H) gIsB := fun d e x h => by
  unfold gIsB at h
  split at h
  · cases h
    exact fun H v u Q h1 h2 q => by cases h1; cases h2; exact ⟨_, _, rfl, rfl, q _ rfl⟩
  · cases h
theorem o_notB : OpM (fun x y H Q => ∃ a b, x = V.bl a ∧ y = .bl b ∧ Q (.bl (!decide (a = b))) H) gNotB := fun d e x h => by
  unfold gNotB at h
  split at h
  · cases h
    exact fun H v u Q h1 h2 q => by cases h1; cases h2; exact ⟨_, _, rfl, rfl, q _ rfl⟩
  · cases h
theorem o_inD : OpM (rInD kf.K) gInD := fun d e x h => by
  unfold gInD at h
  split at h
  · split at h
    · rename_i hc
      simp only [Bool.and_eq_true] at hc
      cases h
      exact fun H v u Q h1 h2 q => ⟨_, _, rp_dp _ _ (noDc_lay _ (SeqAt.canLay_of_shaped hc.1)) h1, rp_dp _ _ (noDc_lay _ (SeqAt.canLay_of_shaped hc.2)) h2, hc.1, hc.2, q _ rfl⟩
    · cases h
  · cases h
theorem o_notInD : OpM (rNotInD kf.K) gNotInD := fun d e x h => by
  unfold gNotInD at h
  split at h
  · split at h
    · rename_i hc
      simp only [Bool.and_eq_true] at hc
      cases h
      exact fun H v u Q h1 h2 q => ⟨_, _, rp_dp _ _ (noDc_lay _ (SeqAt.canLay_of_shaped hc.1)) h1, rp_dp _ _ (noDc_lay _ (SeqAt.canLay_of_shaped hc.2)) h2, hc.1, hc.2, q _ rfl⟩
    · cases h
  · cases h
theorem o_inI (neg : Bool) : OpM (rIn kf.K neg) (gInI neg) := fun d e x h => by
  unfold gInI at h
  split at h
  · rename_i dd ee k
    simp only [Option.map_eq_some_iff, Option.bind_eq_some_iff] at h
    obtain ⟨ns, ⟨xs, h1, h2⟩, rfl⟩ := h
    have e2 := asInts_some h2
    subst e2
    intro H v u Q r1 r2 q
    cases r1
    cases e with
    | list ys =>
      cases h1
      cases r2 with
      | lst p1 p2 =>
        have e := dpa_ints p2
        subst e
        refine ⟨_, _, rfl, .inl p1, rfl, flat_ints, ?_⟩
        rw [PL.any_ints]
        cases neg <;> exact q _ rfl
    | tuple ys =>
      cases h1
      cases r2 with
      | tup p1 p2 =>
        have e := dpa_ints p2
        subst e
        refine ⟨_, _, rfl, .inr (.inl (.of p1)), rfl, flat_ints, ?_⟩
        rw [PL.any_ints]
        cases neg <;> exact q _ rfl
    | _ => cases h1
  · cases h
theorem x_list : IxM (rIxL kf.K) gIxL := fun d e x h => by
  unfold gIxL at h
  split at h
  · exact ixz_list h
  · cases h
theorem x_tup : IxM (rIxT kf.K) gIxT := fun d e x h => by
  unfold gIxT at h
  split at h
  · exact ixz_tup h
  · cases h
theorem o_leT : OpM (rLeT kf.K) gLeT := fun d e x h => by
  unfold gLeT at h
  split at h
  · rename_i a b c d'
    cases h
    intro H v u Q r1 r2 q'
    obtain ⟨p, rfl, e1⟩ := rp_pair (p := (a, b)) r1
    obtain ⟨q, rfl, e2⟩ := rp_pair (p := (c, d')) r2
    refine ⟨p, q, _, _, rfl, rfl, .inl (.of e1), .inl (.of e2), ?_⟩
    refine q' _ ?_
    show some (PyData.bool _) = some (PyData.bool _)
    congr 2
    simp only [List.length_cons, List.length_nil, Nat.min_self, Ob.lexAt_succ, Ob.lexAt_zero, List.getD_cons_zero, List.getD_cons_succ, lexLe, decide_eq_true_eq, Nat.le_refl, decide_true, Nat.zero_add]
    by_cases c1 : a = c
    · by_cases c2 : b = d'
      · simp [c1, c2]
      · simp [c1, c2]
    · simp only [c1, if_false, false_and, or_false]
      congr 1
      apply propext
      omega
  · cases h

/-! ### built-ins that tell flat data -/
def gLen : List D → Option D
  | [.list ds] => some (.int (ds.length : Nat))
  | [.tuple ds] => some (.int (ds.length : Nat))
  | _ => Option.none
def gMax2 : List D → Option D
  | [.int i, .int j] => some (.int (max i j))
  | _ => Option.none
def gMin2 : List D → Option D
  | [.int i, .int j] => some (.int (min i j))
  | _ => Option.none
def gAbs : List D → Option D
  | [.int i] => some (.int (if i < 0 then -i else i))
  | _ => Option.none
def gInt : List D → Option D
  | [.int i] => some (.int i)
  | [.bool b] => some (.int (if b then 1 else 0))
  | _ => Option.none
def gSum : List D → Option D
  | [.list ds] => (asInts ds).map fun ns => .int ns.sum
  | _ => Option.none
def gAll : List D → Option D
  | [.list ds] => (asBools ds).map fun bs => .bool (bs.all id)
  | _ => Option.none
def gMinL : List D → Option D
  | [.list ds] => (asInts ds).bind fun ns => ns.min?.map fun m => .int m
  | _ => Option.none
theorem b_len : CbM (fun xs H Q => ∃ p ys, xs = [V.ref p] ∧ (SqL kf.K H p ys ∨ SqT kf.K H p ys) ∧ Q (.int ys.length) H) gLen := fun ds x h => by
  unfold gLen at h
  split at h
  · cases h
    intro H vs Q r q
    cases r with | cons a b => cases b; cases a with | lst r1 r2 => exact ⟨_, _, rfl, .inl r1, q _ (by rw [dpa_length r2]; rfl)⟩
  · cases h
    intro H vs Q r q
    cases r with | cons a b => cases b; cases a with | tup r1 r2 => exact ⟨_, _, rfl, .inr (.inl (.of r1)), q _ (by rw [dpa_length r2]; rfl)⟩
  · cases h
theorem b_max2 : CbM (fun xs H Q => ∃ i j, xs = [V.int i, .int j] ∧ Q (.int (if j > i then j else i)) H) gMax2 := fun ds x h => by
  unfold gMax2 at h
  split at h
  · cases h
    intro H vs Q r q
    cases r with | cons a b => cases b with | cons b c => cases c; cases a; cases b; exact ⟨_, _, rfl, q _ (by show some (PyData.int _) = _; congr 2; split <;> omega)⟩
  · cases h
theorem b_min2 : CbM (fun xs H Q => ∃ i j, xs = [V.int i, .int j] ∧ Q (.int (if j < i then j else i)) H) gMin2 := fun ds x h => by
  unfold gMin2 at h
  split at h
  · cases h
    intro H vs Q r q
    cases r with | cons a b => cases b with | cons b c => cases c; cases a; cases b; exact ⟨_, _, rfl, q _ (by show some (PyData.int _) = _; congr 2; split <;> omega)⟩
  · cases h
theorem b_abs : CbM (fun xs H Q => ∃ i, xs = [V.int i] ∧ Q (.int (if i < 0 then -i else i)) H) gAbs := fun ds x h => by
  unfold gAbs at h
  split at h
  · cases h
    intro H vs Q r q
    cases r with | cons a b => cases b; cases a; exact ⟨_, rfl, q _ rfl⟩
  · cases h
theorem b_int : CbM (fun xs H Q => (∃ i, xs = [V.int i] ∧ Q (.int i) H) ∨ ∃ k, xs = [V.bl k] ∧ Q (.int (if k then 1 else 0)) H) gInt := fun ds x h => by
  unfold gInt at h
  split at h
  · cases h
    intro H vs Q r q
    cases r with | cons a b => cases b; cases a; exact .inl ⟨_, rfl, q _ rfl⟩
  · cases h
    intro H vs Q r q
    cases r with | cons a b => cases b; cases a; exact .inr ⟨_, rfl, q _ rfl⟩
  · cases h
theorem b_sum : CbM (rSum kf.K) gSum := fun ds x h => by
  unfold gSum at h
  split at h
  · simp only [Option.map_eq_some_iff] at h
    obtain ⟨ns, h1, rfl⟩ := h
    have e := asInts_some h1
    subst e
    intro H vs Q r q
    cases r with
    | cons a b =>
      cases b
      cases a with
      | lst r1 r2 =>
        have e := dpa_ints r2
        subst e
        exact ⟨_, ns, rfl, r1, q _ rfl⟩
  · cases h
theorem b_all : CbM (rAll kf.K) gAll := fun ds x h => by
  unfold gAll at h
  split at h
  · simp only [Option.map_eq_some_iff] at h
    obtain ⟨ns, h1, rfl⟩ := h
    have e := asBools_some h1
    subst e
    intro H vs Q r q
    cases r with
    | cons a b =>
      cases b
      cases a with
      | lst r1 r2 =>
        have e := dpa_bools r2
        subst e
        exact ⟨_, ns, rfl, r1, q _ rfl⟩
  · cases h
theorem b_minL : CbM (rMin kf.K) gMinL := fun ds x h => by
  unfold gMinL at h
  split at h
  · simp only [Option.bind_eq_some_iff, Option.map_eq_some_iff] at h
    obtain ⟨ns, h1, m, h2, rfl⟩ := h
    have e := asInts_some h1
    subst e
    obtain ⟨hm, hl⟩ := List.min?_eq_some_iff.mp h2
    intro H vs Q r q
    cases r with
    | cons a b =>
      cases b
      cases a with
      | lst r1 r2 =>
        have e := dpa_ints r2
        subst e
        refine ⟨_, ns, rfl, r1, List.length_pos_of_mem hm, fun m' g1 g2 => ?_⟩
        have : m' = m := Int.le_antisymm (g2 m hm) (hl m' g1)
        rw [this]
        exact q _ rfl
  · cases h
/-- isinstance(e, T), T written -/
def rIs (T : String) (a : Rm) : Rm := fun ρ => (a ρ).bind fun d => (kitB (tyN d) T).map .bool
theorem c_is {te : TE} {a : Rm} {T : String} (ha : CR te a) : CR (tCB (rIsi kf.K) (tCons te (tCons (tC (.ty T)) tNil))) (rIs T a) := fun ρ x h => by
  simp only [rIs, Option.bind_eq_some_iff, Option.map_eq_some_iff] at h
  obtain ⟨d, h1, b, h2, rfl⟩ := h
  exact fun S0 H0 A0 S H τσ τρ σ Q l o q => ha _ _ h1 S0 H0 A0 S H τσ τρ σ _ l o fun v S1 H1 x1 r1 => ⟨v, .ty T, _, _, b, rfl, .ty T, rp_ty r1, kit_ty h2, q _ S1 H1 x1 (.bl b)⟩
/-- a <= b < c, ints -/
def rCh (f g : Int → Int → Bool) (a b c : Rm) : Rm := fun ρ => (a ρ).bind fun x => (b ρ).bind fun y => match x, y with
  | .int i, .int j => if f i j then (c ρ).bind fun z => match z with
    | .int k => some (.bool (g j k))
    | _ => Option.none
    else some (.bool false)
  | _, _ => Option.none
theorem c_ch {ta tb tc : TE} {a b c : Rm} {f g : Int → Int → Bool} (ha : CR ta a) (hb : CR tb b) (hc : CR tc c) : CR (tChain (rI0 fun i j => .bl (f i j)) (rI0 fun i j => .bl (g i j)) ta tb tc) (rCh f g a b c) := fun ρ x h => by
  simp only [rCh, Option.bind_eq_some_iff] at h
  obtain ⟨d, h1, e, h2, h3⟩ := h
  split at h3
  · rename_i i j
    refine fun S0 H0 A0 S H τσ τρ σ Q l o q => ha _ _ h1 S0 H0 A0 S H τσ τρ σ _ l o fun v S1 H1 x1 r1 => hb _ _ h2 S0 H0 A0 S1 H1 τσ τρ σ _ l (o.ext x1) fun u S2 H2 x2 r2 => ?_
    cases r1; cases r2
    refine ⟨i, j, rfl, rfl, f i j, rfl, ?_⟩
    split at h3
    · rename_i hf
      simp only [Option.bind_eq_some_iff] at h3
      obtain ⟨z, h4, h5⟩ := h3
      split at h5
      · cases h5
        rw [hf]
        refine iteT (hc _ _ h4 S0 H0 A0 S2 H2 τσ τρ σ _ l ((o.ext x1).ext x2) fun w S3 H3 x3 r3 => ?_)
        cases r3
        exact ⟨j, _, rfl, rfl, q _ S3 H3 ((x1.trans x2).trans x3) (.bl _)⟩
      · cases h5
    · rename_i hf
      cases h3
      rw [show f i j = false by simpa using hf]
      exact iteF (q _ S2 H2 (x1.trans x2) (.bl false))
  · cases h3

/-! ### built-ins that tell something of their own -/
def sortI (ns : List Int) : List Int := ns.mergeSort (fun a b => decide (a ≤ b))
theorem sortI_sorted (ns : List Int) : (sortI ns).Pairwise (· ≤ ·) := by
  have := List.pairwise_mergeSort (le := fun a b : Int => decide (a ≤ b)) (by intro a b c; simp; omega) (by intro a b; simp; omega) ns
  exact this.imp (by intro a b h; simpa using h)
theorem sortI_perm (ns : List Int) : (sortI ns).Perm ns := List.mergeSort_perm _ _
theorem sortI_uniq {ms ns : List Int} (h : ms.Perm ns) (s : ms.Pairwise (· ≤ ·)) : ms = sortI ns :=
  (h.trans (sortI_perm ns).symm).eq_of_pairwise (le := (· ≤ ·)) (fun a b _ _ h1 h2 => Int.le_antisymm h1 h2) s (sortI_sorted ns)
def lstO (ds : List D) : OT := .nd .lst (ds.map .d)
def GList : List D → Option OT
  | [.list ds] => some (lstO ds)
  | [.tuple ds] => some (lstO ds)
  | _ => Option.none
def GTuple : List D → Option OT
  | [.list ds] => some (.nd .tup (ds.map .d))
  | [.tuple ds] => some (.d (.tuple ds))
  | _ => Option.none
def GSortI : List D → Option OT
  | [.list ds] => (asInts ds).map fun ns => lstO ((sortI ns).map .int)
  | _ => Option.none
def GSortP : List D → Option OT
  | [.list ds] => (asPairs ds).bind fun ps => if ps.length < 64 ∧ ∀ p ∈ ps, 0 ≤ p.1 ∧ p.1 < 64 ∧ 0 ≤ p.2 ∧ p.2 < 64 then some (lstO ((srtL ps).map pairD)) else Option.none
  | _ => Option.none
theorem own_lst {S H : Hp} {p : Addr} {vs : List V} {ds : List D} {Q : VK} (sh : Same S H) (hp : H p = none) (h : RpAll S vs ds) (q : ∀ v' S' H' A, Xt S H S' H' → OOk S' H' v' (lstO ds) A → A.Nodup → (∀ a ∈ A, H a = none) → Q v' H') : Q (.ref p) (upd H p (.lst vs)) :=
  q _ S _ [p] (.new sh hp) (.nd (k := .lst) rfl trivial (sh.free hp) upd_same (oall_of_rp h)) (by simp) fun a ha => by rw [List.mem_singleton.mp ha]; exact hp
theorem z_list : CbZ (fun xs H Q => ∃ p ys, xs = [V.ref p] ∧ (SqL kf.K H p ys ∨ SqT kf.K H p ys) ∧ ∀ l, H l = none → Q (.ref l) (upd H l (.lst ys))) GList := fun ds r h => by
  unfold GList at h
  split at h
  · cases h
    intro S H vs Q sh hr q
    cases hr with | cons a b => cases b; cases a with | lst r1 r2 => exact ⟨_, _, rfl, .inl (sh.seq r1), fun p hp => own_lst sh hp r2 q⟩
  · cases h
    intro S H vs Q sh hr q
    cases hr with | cons a b => cases b; cases a with | tup r1 r2 => exact ⟨_, _, rfl, .inr (.inl (.of (sh _ _ r1))), fun p hp => own_lst sh hp r2 q⟩
  · cases h
theorem z_tuple : CbZ (fun xs H Q => ∃ p ys, xs = [V.ref p] ∧ ((SqL kf.K H p ys ∧ ∀ l, H l = none → Q (.ref l) (upd H l (.tup ys))) ∨ (SqT kf.K H p ys ∧ Q (.ref p) H))) GTuple := fun ds r h => by
  unfold GTuple at h
  split at h
  · cases h
    intro S H vs Q sh hr q
    cases hr with
    | cons a b =>
      cases b
      cases a with
      | lst r1 r2 => exact ⟨_, _, rfl, .inl ⟨sh.seq r1, fun p hp => q _ S _ [] (.new sh hp) (.tup upd_same (oall_of_rp r2)) List.nodup_nil fun a ha => by cases ha⟩⟩
  · cases h
    intro S H vs Q sh hr q
    cases hr with
    | cons a b =>
      cases b
      cases a with
      | tup r1 r2 => exact ⟨_, _, rfl, .inr ⟨.inl (.of (sh _ _ r1)), q _ S H [] (.refl sh) (.d (.tup r1 r2)) List.nodup_nil fun a ha => by cases ha⟩⟩
  · cases h
theorem z_sortI : CbZ (rSortedI kf.K) GSortI := fun ds r h => by
  unfold GSortI at h
  split at h
  · simp only [Option.map_eq_some_iff] at h
    obtain ⟨ns, h1, rfl⟩ := h
    have e := asInts_some h1
    subst e
    intro S H vs Q sh hr q
    cases hr with
    | cons a b =>
      cases b
      cases a with
      | lst r1 r2 =>
        have e := dpa_ints r2
        subst e
        refine ⟨_, ns, rfl, sh.seq r1, fun ms p g1 g2 hp => ?_⟩
        have e := sortI_uniq g1 g2
        subst e
        exact own_lst sh hp (dpa_of_ints _) q
  · cases h
theorem z_sortP : CbZ (rSortU kf.K 2 64) GSortP := fun ds r h => by
  unfold GSortP at h
  split at h
  · simp only [Option.bind_eq_some_iff] at h
    obtain ⟨ps, h1, h2⟩ := h
    split at h2
    · rename_i hc
      cases h2
      have e := asPairs_some h1
      subst e
      intro S H vs Q sh hr q
      cases hr with
      | cons a b =>
        cases b
        cases a with
        | @lst a xs _ r1 r2 =>
          have len := dpa_length r2
          rw [List.length_map] at len
          have pairAt : ∀ x ∈ xs, ∃ p, p ∈ ps ∧ Rp S x (pairD p) := by
            have gen : ∀ (ps : List (Int × Int)) (xs : List V), RpAll S xs (ps.map pairD) → ∀ x ∈ xs, ∃ p, p ∈ ps ∧ Rp S x (pairD p) := by
              intro ps
              induction ps with
              | nil => intro xs h x hx; cases h; cases hx
              | cons p ps ih =>
                intro xs h x hx
                cases h with
                | cons a b =>
                  rcases List.mem_cons.mp hx with rfl | hx
                  · exact ⟨p, List.mem_cons_self, a⟩
                  · obtain ⟨p', h1, h2⟩ := ih _ b x hx
                    exact ⟨p', List.mem_cons_of_mem _ h1, h2⟩
            exact gen ps xs r2
          have tupI : ∀ x p, Rp S x (pairD p) → TupI kf.K H x [p.1, p.2] := fun x p hx => by
            obtain ⟨a, rfl, e⟩ := rp_pair hx
            exact ⟨a, rfl, .inl (.of (sh _ _ e))⟩
          refine ⟨a, xs, rfl, sh.seq r1, by omega, fun x hx => ?_, fun ys p g1 g2 hp => ?_⟩
          · obtain ⟨pp, h1, h2⟩ := pairAt x hx
            refine ⟨_, tupI x pp h2, rfl, fun m hm => ?_⟩
            have := hc.2 pp h1
            simp only [List.mem_cons, List.not_mem_nil, or_false] at hm
            rcases hm with rfl | rfl
            · exact ⟨this.1, this.2.1⟩
            · exact ⟨this.2.2.1, this.2.2.2⟩
          · -- the items in their new order
            have gen : ∀ (ys : List V), (∀ y ∈ ys, y ∈ xs) → ∃ qs : List (Int × Int), RpAll S ys (qs.map pairD) ∧ (∀ p ∈ qs, p ∈ ps) := by
              intro ys
              induction ys with
              | nil => intro _; exact ⟨[], .nil, by simp⟩
              | cons y ys ih =>
                intro hm
                obtain ⟨qs, h1, h2⟩ := ih fun z hz => hm z (List.mem_cons_of_mem _ hz)
                obtain ⟨pp, h3, h4⟩ := pairAt y (hm y List.mem_cons_self)
                exact ⟨pp :: qs, .cons h4 h1, fun p hp => by
                  rcases List.mem_cons.mp hp with rfl | hp
                  · exact h3
                  · exact h2 p hp⟩
            obtain ⟨qs, q1, q2⟩ := gen ys fun y hy => g1.mem_iff.mp hy
            have perm : qs.Perm ps := by
              have key : ∀ {xs ys : List V}, ys.Perm xs → ∀ {ps qs : List (Int × Int)}, RpAll S xs (ps.map pairD) → RpAll S ys (qs.map pairD) → qs.Perm ps := by
                intro xs ys h
                have det : ∀ {x : V} {p q : Int × Int}, Rp S x (pairD p) → Rp S x (pairD q) → p = q := fun {x p q} h1 h2 => by
                  obtain ⟨a, rfl, e1⟩ := rp_pair h1
                  obtain ⟨b, e, e2⟩ := rp_pair h2
                  cases e
                  rw [e1] at e2
                  simp at e2
                  exact Prod.ext e2.1 e2.2
                induction h with
                | nil => intro ps qs h1 h2; cases ps with
                  | nil => cases qs with
                    | nil => exact .refl _
                    | cons => cases h2
                  | cons => cases h1
                | cons x _ ih => intro ps qs h1 h2; cases ps with
                  | nil => cases h1
                  | cons p ps => cases qs with
                    | nil => cases h2
                    | cons q qs =>
                      cases h1 with | cons a b => cases h2 with | cons a' b' =>
                        have := det a a'
                        subst this
                        exact (ih b b').cons _
                | swap x y l =>
                  intro ps qs h1 h2
                  match ps, qs, h1, h2 with
                  | p1 :: p2 :: ps, q1 :: q2 :: qs, .cons a1 (.cons a2 a3), .cons b1 (.cons b2 b3) =>
                    have e1 := det a1 b2
                    have e2 := det a2 b1
                    subst e1 e2
                    have e3 : qs = ps := by
                      have : ∀ {l : List V} {ps qs : List (Int × Int)}, RpAll S l (ps.map pairD) → RpAll S l (qs.map pairD) → qs = ps := by
                        intro l
                        induction l with
                        | nil => intro ps qs h1 h2; cases ps with
                          | nil => cases qs with
                            | nil => rfl
                            | cons => cases h2
                          | cons => cases h1
                        | cons x l ih => intro ps qs h1 h2; cases ps with
                          | nil => cases h1
                          | cons p ps => cases qs with
                            | nil => cases h2
                            | cons q qs => cases h1 with | cons a b => cases h2 with | cons a' b' => rw [det a a', ih b b']
                      exact this a3 b3
                    subst e3
                    exact .swap _ _ _
                | trans _ _ ih1 ih2 =>
                  rename_i l1 l2 l3 hp1 hp2
                  intro ps qs h1 h2
                  obtain ⟨rs, r1', _⟩ : ∃ rs : List (Int × Int), RpAll S l2 (rs.map pairD) ∧ True := by
                    have mm : ∀ y ∈ l2, ∃ p, Rp S y (pairD p) := fun y hy => by
                      have hy' := hp2.mem_iff.mp hy
                      have gen2 : ∀ (ps : List (Int × Int)) (l : List V), RpAll S l (ps.map pairD) → ∀ x ∈ l, ∃ p, Rp S x (pairD p) := by
                        intro ps
                        induction ps with
                        | nil => intro xs h x hx; cases h; cases hx
                        | cons p ps ih =>
                          intro xs h x hx
                          cases h with
                          | cons a b =>
                            rcases List.mem_cons.mp hx with rfl | hx
                            · exact ⟨p, a⟩
                            · exact ih _ b x hx
                      exact gen2 ps l3 h1 y hy'
                    have build : ∀ l : List V, (∀ y ∈ l, ∃ p, Rp S y (pairD p)) → ∃ rs : List (Int × Int), RpAll S l (rs.map pairD) := by
                      intro l
                      induction l with
                      | nil => intro _; exact ⟨[], .nil⟩
                      | cons y l ih =>
                        intro hm
                        obtain ⟨rs, h⟩ := ih fun z hz => hm z (List.mem_cons_of_mem _ hz)
                        obtain ⟨p, hp⟩ := hm y List.mem_cons_self
                        exact ⟨p :: rs, .cons hp h⟩
                    obtain ⟨rs, h⟩ := build l2 mm
                    exact ⟨rs, h, trivial⟩
                  exact (ih1 r1' h2).trans (ih2 h1 r1')
              exact key g1 r2 q1
            have lex : Lex qs := by
              have gen3 : ∀ (ys : List V) (qs : List (Int × Int)), RpAll S ys (qs.map pairD) → (∀ p ∈ qs, p ∈ ps) → ys.Pairwise (fun x y => ∀ n m, TupI kf.K H x n → TupI kf.K H y m → TS.code 64 n ≤ TS.code 64 m) → Lex qs := by
                intro ys
                induction ys with
                | nil => intro qs h _ _; cases qs with
                  | nil => exact List.Pairwise.nil
                  | cons => cases h
                | cons y ys ih =>
                  intro qs h hq hp
                  cases qs with
                  | nil => exact List.Pairwise.nil
                  | cons q qs =>
                    cases h with
                    | cons a b =>
                      have hp' := List.pairwise_cons.mp hp
                      refine List.pairwise_cons.mpr ⟨fun q' hq' => ?_, ih qs b (fun p hp => hq p (List.mem_cons_of_mem _ hp)) hp'.2⟩
                      obtain ⟨y', hy', ry'⟩ : ∃ y' ∈ ys, Rp S y' (pairD q') := by
                        have gen4 : ∀ (ys : List V) (qs : List (Int × Int)), RpAll S ys (qs.map pairD) → q' ∈ qs → ∃ y' ∈ ys, Rp S y' (pairD q') := by
                          intro ys
                          induction ys with
                          | nil => intro qs h hm; cases qs with
                            | nil => cases hm
                            | cons => cases h
                          | cons z zs ih =>
                            intro qs h hm
                            cases qs with
                            | nil => cases hm
                            | cons r rs =>
                              cases h with
                              | cons a b =>
                                rcases List.mem_cons.mp hm with rfl | hm
                                · exact ⟨z, List.mem_cons_self, a⟩
                                · obtain ⟨y', h1, h2⟩ := ih rs b hm
                                  exact ⟨y', List.mem_cons_of_mem _ h1, h2⟩
                        exact gen4 ys qs b hq'
                      have := hp'.1 y' hy' _ _ (tupI y q a) (tupI y' q' ry')
                      rw [code_pair, code_pair] at this
                      have b1 := hc.2 q (hq q List.mem_cons_self)
                      have b2 := hc.2 q' (hq q' (List.mem_cons_of_mem _ hq'))
                      omega
              exact gen3 ys qs q1 q2 g2
            have e := lex_uniq lex (srtL_lex ps) (perm.trans (srtL_perm ps).symm)
            subst e
            exact own_lst sh hp q1 q
    · cases h2
  · cases h
end MR

namespace MR
open PySem L2 PL
/-! ### fresh things read -/
def rOpZ (G : D → D → Option OT) (a b : Rm) : Rm := fun ρ => (a ρ).bind fun d => (b ρ).bind fun e => (G d e).bind OT.toD
def rCbZ (G : List D → Option OT) (q : Qm) : Rm := fun ρ => (q ρ).bind fun ds => (G ds).bind OT.toD
/-- a list and a list -/
def GCat : D → D → Option OT
  | .list a, .list b => if a.length + b.length ≤ 1000000 then some (lstO (a ++ b)) else Option.none
  | _, _ => Option.none
def GCatT : D → D → Option OT
  | .tuple a, .tuple b => if !a.isEmpty && !b.isEmpty && decide (a.length + b.length ≤ 1000000) then some (.nd .tup ((a ++ b).map .d)) else Option.none
  | _, _ => Option.none
/-- slices -/
abbrev Cm := Env → Option (Option Int)
def cNone : Cm := fun _ => some Option.none
def cSome (a : Rm) : Cm := fun ρ => (a ρ).bind fun d => (asInt d).map some
def rSl (a : Rm) (lo hi : Cm) : Rm := fun ρ => (a ρ).bind fun d => (asL d).bind fun xs => (lo ρ).bind fun l => (hi ρ).map fun h => .list (cutD xs l h)
def ySl (a : Dm) (lo hi : Cm) : Ym := fun ρ => (a ρ).bind fun p => (asL p.1).bind fun xs => (lo p.2).bind fun l => (hi p.2).map fun h => (lstO (cutD xs l h), p.2)
def ySlA (ra : Rm) (a : Dm) (lo hi : Cm) : Ym := fun ρ => match (ra ρ).bind fun d => (asL d).bind fun xs => (lo ρ).bind fun l => (hi ρ).bind fun h => lfO (some (lstO (cutD xs l h))) with
  | some r => some (r, ρ)
  | Option.none => ySl a lo hi ρ
/-- [..] * n, of a fresh list of flat items -/
def allD : List OT → Option (List D)
  | [] => some []
  | .d x :: ts => (allD ts).map fun xs => x :: xs
  | _ => Option.none
def yRep (y : Ym) (n : Rm) : Ym := fun ρ => (y ρ).bind fun p => match p.1 with
  | .nd .lst ts => (allD ts).bind fun xs => (n p.2).bind fun d => match d with
    | .int k => if -(2 ^ 63) ≤ k ∧ k < 2 ^ 63 ∧ xs.length * k.toNat ≤ 1000000 then some (lstO (List.replicate k.toNat xs).flatten, p.2) else Option.none
    | _ => Option.none
  | _ => Option.none
def yRng1 (n : Dm) : Ym := fun ρ => (n ρ).bind fun p => match p.1 with
  | .int k => if 0 ≤ k ∧ k ≤ 1000000 then some (lstO (rgD 0 k.toNat), p.2) else Option.none
  | _ => Option.none
def gRepr (d : D) : Option D := if d.canLay0 && decide (d.depth ≤ 60) && d.showable && decide (d.shown.length ≤ sizeLine) then some (.str d.shown) else Option.none
def rRepr (a : Rm) : Rm := fun ρ => (a ρ).bind gRepr
def dRepr (a : Dm) : Dm := fun ρ => (a ρ).bind fun p => (gRepr p.1).map fun x => (x, p.2)
def firstAt : List Int → Int → Nat → Option Nat
  | [], _, _ => Option.none
  | n :: ns, k, j => if n = k then some j else firstAt ns k (j + 1)
def gIndex : D → D → Option D
  | .list ds, .int k => (asInts ds).bind fun ns => (firstAt ns k 0).map fun j => .int (j : Nat)
  | _, _ => Option.none
def rIdx (a b : Rm) : Rm := fun ρ => (a ρ).bind fun d => (b ρ).bind fun e => gIndex d e
def rLenSet (a : Rm) : Rm := fun ρ => (a ρ).bind fun d => (asL d).bind fun xs => (asInts xs).bind fun ns => if ns.length < 64 ∧ ns.Nodup then some (.int (ns.length : Nat)) else Option.none
/-- dicts by pairs -/
def keyP : D → Option (List Key)
  | .tuple [.int i, .int j] => some [.inl i, .inl j]
  | _ => Option.none
def yDNew : Ym := fun ρ => some (.nd (.dT []) [], ρ)
def putO (ks : List (List Key)) (ts : List OT) (k : List Key) (v : OT) : Kd × List OT :=
  if (ks.any fun x => decide (x = k)) = true then (.dT ks, (ks.zip ts).map fun p => if p.1 = k then v else p.2) else (.dT (ks ++ [k]), ts ++ [v])
def sDPutM (i : Nat) (key val : Rm) : Sm := fun ρ => (val ρ).bind fun v => if !flat v then Option.none else (key ρ).bind fun d => (keyP d).bind fun k => match ρ[i]? with
  | some (.nd (.dT ks) ts) => if ks.length = ts.length ∧ ks.length ≤ 1000000 then some (.nx, ρ.set i (.nd (putO ks ts k (.d v)).1 (putO ks ts k (.d v)).2)) else Option.none
  | _ => Option.none
def asKeyP : List Key → Option (Int × Int)
  | [.inl i, .inl j] => some (i, j)
  | _ => Option.none
def asKeyPs : List (List Key) → Option (List (Int × Int))
  | [] => some []
  | k :: ks => (asKeyP k).bind fun p => (asKeyPs ks).map fun ps => p :: ps
def isTrueO : OT → Bool
  | .d (.bool true) => true
  | _ => false
def ySortD (i : Nat) : Ym := fun ρ => match ρ[i]? with
  | some (.nd (.dT ks) ts) => if ts.all isTrueO && decide (ks.length = ts.length) then (asKeyPs ks).map fun ps => (lstO ((srtL ps).map pairD), ρ) else Option.none
  | _ => Option.none
variable [kf : KF]
section
variable {ta tb tc te : TE} {tl tr : TA} {t u : TT} {a b c : Rm} {q p : Qm} {R : R2} {y z : Ym} {dm dn : Dm} {lm ln : Lm} {tol toh : TO} {lo hi : Cm} {js : List Nat} {i : Nat}
theorem c_rOpZ {G : D → D → Option OT} (hR : OpZ R G) (ha : CR ta a) (hb : CR tb b) : CR (tOp R ta tb) (rOpZ G a b) := fun ρ x h => by
  simp only [rOpZ, Option.bind_eq_some_iff] at h
  obtain ⟨d, h1, e, h2, r, h3, h4⟩ := h
  exact fun S0 H0 A0 S H τσ τρ σ Q l o q => ha _ _ h1 S0 H0 A0 S H τσ τρ σ _ l o fun v S1 H1 x1 g1 => hb _ _ h2 S0 H0 A0 S1 H1 τσ τρ σ _ l (o.ext x1) fun u S2 H2 x2 g2 =>
    hR _ _ _ h3 H2 H2 v u Q (Same.refl H2) (dp_mono x2.hh _ _ g1) g2 fun v' S' H' A xt g3 nd fr => q v' _ H' ((x1.trans x2).trans (xt_low x2.sh xt)) (ook_rp xt.sh _ _ _ _ g3 h4)
theorem c_rCbZ {R : List V → Hp → VK → Prop} {G : List D → Option OT} (hR : CbZ R G) (hq : CQ tl q) : CR (tCB R tl) (rCbZ G q) := fun ρ x h => by
  simp only [rCbZ, Option.bind_eq_some_iff] at h
  obtain ⟨ds, h1, r, h3, h4⟩ := h
  exact fun S0 H0 A0 S H τσ τρ σ Q l o q => hq _ _ h1 S0 H0 A0 S H τσ τρ σ _ l o fun vs S1 H1 x1 g1 => hR _ _ h3 H1 H1 vs Q (Same.refl H1) g1 fun v' S' H' A xt g2 nd fr =>
    q v' _ H' (x1.trans (xt_low x1.sh xt)) (ook_rp xt.sh _ _ _ _ g2 h4)
theorem z_cat : OpZ (rCatR kf.K) GCat := fun d e r h => by
  unfold GCat at h
  split at h
  · split at h
    · rename_i hl
      cases h
      intro S H v u Q sh h1 h2 q
      cases h1 with
      | lst r1 r2 =>
        cases h2 with
        | lst p1 p2 => exact ⟨_, _, _, _, rfl, rfl, sh.seq r1, sh.seq p1, sz_of (by rw [dpa_length r2, dpa_length p2]; exact hl), fun p hp => own_lst sh hp (dpa_append r2 p2) q⟩
    · cases h
  · cases h
theorem z_catT : OpZ (rCatT kf.K) GCatT := fun d e r h => by
  unfold GCatT at h
  split at h
  · rename_i xs ys
    split at h
    · rename_i hl
      simp only [Bool.and_eq_true, Bool.not_eq_true', decide_eq_true_eq, List.isEmpty_eq_false_iff] at hl
      cases h
      intro S H v u Q sh h1 h2 q
      cases h1 with
      | @tup a vs _ r1 r2 =>
        cases h2 with
        | @tup b us _ p1 p2 =>
          have l1 := dpa_length r2
          have l2 := dpa_length p2
          have n1 : vs ≠ [] := fun z => hl.1.1 (List.eq_nil_of_length_eq_zero (by rw [← l1, z]; rfl))
          have n2 : us ≠ [] := fun z => hl.1.2 (List.eq_nil_of_length_eq_zero (by rw [← l2, z]; rfl))
          refine ⟨a, b, vs, us, rfl, rfl, .inl (.of (sh _ _ r1)), .inl (.of (sh _ _ p1)), n1, sz_of (by rw [l1, l2]; exact hl.2), fun z => absurd z n2, fun _ p hp => ?_⟩
          exact q _ S _ [] (.new sh hp) (.tup upd_same (oall_of_rp (dpa_append r2 p2))) List.nodup_nil fun a ha => by cases ha
    · cases h
  · cases h
/-! slices -/
def CC (to : TO) (m : Cm) : Prop := ∀ ρ i, m ρ = some i → ∀ (S0 H0 : Hp) (A0 : List Addr) (S H : Hp) (τσ : List (Option V)) (τρ : List OT) (σ : St) (Q : Option Int → Hp → Prop), τσ.length = τρ.length → Ok S0 H0 A0 S H (τσ ++ σ) (τρ ++ ρ) → (∀ S' H', Xt S H S' H' → Q i H') → to σ H Q
theorem c_cnone : CC tNoPart cNone := fun ρ i h => by cases h; exact fun S0 H0 A0 S H τσ τρ σ Q l o q => q S H (.refl o.sh)
theorem c_csome (ha : CR ta a) : CC (tPart ta) (cSome a) := fun ρ i h => by
  simp only [cSome, Option.bind_eq_some_iff, Option.map_eq_some_iff] at h
  obtain ⟨d, h1, n, h2, rfl⟩ := h
  cases d <;> simp [asInt] at h2
  subst h2
  exact fun S0 H0 A0 S H τσ τρ σ Q l o q => ha _ _ h1 S0 H0 A0 S H τσ τρ σ _ l o fun v S1 H1 x1 r1 => by cases r1; exact ⟨_, rfl, q S1 H1 x1⟩
theorem asL_some {d : D} {xs : List D} (h : asL d = some xs) : d = .list xs := by cases d <;> simp [asL] at h; rw [h]
theorem cut_rp {S : Hp} {vs : List V} {xs : List D} (r2 : RpAll S vs xs) (lo hi : Option Int) : RpAll S (cutV vs lo hi) (cutD xs lo hi) := by
  unfold cutV cutD
  rw [dpa_length r2]
  exact dpa_take _ (dpa_drop _ r2)
theorem c_rsl (ha : CR ta a) (hl : CC tol lo) (hh : CC toh hi) : CR (tSl (rSlL kf.K) ta tol toh) (rSl a lo hi) := fun ρ x h => by
  simp only [rSl, Option.bind_eq_some_iff, Option.map_eq_some_iff] at h
  obtain ⟨d, h1, xs, h2, i, h3, j, h4, rfl⟩ := h
  have e := asL_some h2
  subst e
  refine fun S0 H0 A0 S H τσ τρ σ Q l o q => ha _ _ h1 S0 H0 A0 S H τσ τρ σ _ l o fun v S1 H1 x1 r1 => hl _ _ h3 S0 H0 A0 S1 H1 τσ τρ σ _ l (o.ext x1) fun S2 H2 x2 => hh _ _ h4 S0 H0 A0 S2 H2 τσ τρ σ _ l ((o.ext x1).ext x2) fun S3 H3 x3 => ?_
  cases r1 with
  | lst r1 r2 =>
    have xa := x2.trans x3
    have r3 := cut_rp (dpa_mono xa.hh _ _ r2) i j
    refine ⟨_, _, rfl, xa.hh.seq r1, fun p hp => ?_⟩
    exact q _ S3 _ ((x1.trans xa).trans (.new x3.sh hp)) (.lst (SqL.of upd_same) (dpa_mono (Xt.new (o := .lst _) x3.sh hp).hh _ _ r3))
theorem c_ysl (ha : CD ta dm) (hl : CC tol lo) (hh : CC toh hi) : CY (tSl (rSlL kf.K) ta tol toh) (ySl dm lo hi) := fun ρ r ρ' h => by
  simp only [ySl, Option.bind_eq_some_iff, Option.map_eq_some_iff] at h
  obtain ⟨⟨d, ρ1⟩, h1, xs, h2, i, h3, j, h4, h5⟩ := h
  cases h5
  have e := asL_some h2
  simp only at e
  subst e
  refine fun S0 H0 A0 S H τσ τρ σ Q l o q => ha _ _ _ h1 S0 H0 A0 S H τσ τρ σ _ l o fun v S1 H1 s1 o1 r1 => hl _ _ h3 S0 H0 A0 S1 H1 τσ τρ σ _ l o1 fun S2 H2 x2 => hh _ _ h4 S0 H0 A0 S2 H2 τσ τρ σ _ l (o1.ext x2) fun S3 H3 x3 => ?_
  cases r1 with
  | lst r1 r2 =>
    have xa := x2.trans x3
    exact ⟨_, _, rfl, (o1.sh.trans xa.hh).seq r1, fun p hp => own_lst x3.sh hp (cut_rp (dpa_mono xa.ss _ _ r2) i j) fun v' S' H' A xt g nd fr => q v' S' H' (s1.trans (xa.ss.trans xt.ss)) (((o1.ext x2).ext x3).push xt g nd fr)⟩
theorem c_yslA (hra : CR ta a) (ha : CD ta dm) (hl : CC tol lo) (hh : CC toh hi) : CY (tSl (rSlL kf.K) ta tol toh) (ySlA a dm lo hi) := fun ρ r ρ' h => by
  unfold ySlA at h
  split at h
  · rename_i r' hr
    cases h
    simp only [Option.bind_eq_some_iff] at hr
    obtain ⟨d, h1, xs, h2, i, h3, j, h4, h5⟩ := hr
    obtain ⟨h6, h7⟩ := lfO_some h5
    cases h6
    have e := asL_some h2
    subst e
    refine fun S0 H0 A0 S H τσ τρ σ Q l o q => hra _ _ h1 S0 H0 A0 S H τσ τρ σ _ l o fun v S1 H1 x1 r1 => hl _ _ h3 S0 H0 A0 S1 H1 τσ τρ σ _ l (o.ext x1) fun S2 H2 x2 => hh _ _ h4 S0 H0 A0 S2 H2 τσ τρ σ _ l ((o.ext x1).ext x2) fun S3 H3 x3 => ?_
    cases r1 with
    | lst r1 r2 =>
      have xa := x2.trans x3
      refine ⟨_, _, rfl, xa.hh.seq r1, fun p hp => own_lst (Same.refl H3) hp (cut_rp (dpa_mono xa.hh _ _ r2) i j) fun v' S' H' A xt g nd fr => ?_⟩
      exact q v' _ H' ((x1.trans xa).trans (xt_low x3.sh xt)).ss ((((o.ext x1).ext x2).ext x3).push (xt_low x3.sh xt) (ook_lf xt.sh _ _ _ g h7 fun a ha => x3.sh.free (fr a ha)) nd fr)
  · exact c_ysl ha hl hh _ _ _ h
theorem allD_some : ∀ {ts : List OT} {xs : List D}, allD ts = some xs → ts = xs.map .d
  | [], xs, h => by cases h; rfl
  | .d x :: ts, xs, h => by
    simp only [allD, Option.map_eq_some_iff] at h
    obtain ⟨ys, h1, rfl⟩ := h
    rw [List.map_cons, ← allD_some h1]
  | .no :: ts, xs, h => by simp [allD] at h
  | .nd _ _ :: ts, xs, h => by simp [allD] at h
theorem c_yrep (hy : CY ta y) (hn : CR tb b) : CY (tOp rRep ta tb) (yRep y b) := fun ρ r ρ' h => by
  simp only [yRep, Option.bind_eq_some_iff] at h
  obtain ⟨⟨s, ρ1⟩, h1, h2⟩ := h
  simp only at h2
  split at h2
  · simp only [Option.bind_eq_some_iff] at h2
    obtain ⟨xs, h3, d, h4, h5⟩ := h2
    split at h5
    · split at h5
      · rename_i ts _ k hk
        cases h5
        have e := allD_some h3
        subst e
        refine fun S0 H0 A0 S H τσ τρ σ Q l o q => hy _ _ _ h1 S0 H0 A0 S H τσ τρ σ _ l o fun v S1 H1 s1 o1 => hn _ _ h4 S0 H0 A0 S1 H1 (some v :: τσ) (.nd .lst (xs.map .d) :: τρ) σ _ (by simp [l]) o1 fun u S2 H2 x2 r2 => ?_
        cases r2
        have o2 := o1.ext x2
        obtain ⟨B, e1, e2, e3⟩ := o2.env
        cases e1 with
        | cons p1 p2 =>
          cases p1 with
          | is p1 =>
            obtain ⟨a, vs, C, rfl, rfl, g1, g2, g3, g4⟩ := p1.inv_nd rfl
            have g5 := oall_rpS _ _ _ g4
            have len := dpa_length g5
            refine ⟨a, k, vs, rfl, rfl, g3, hk.1, hk.2.1, sz_of (by rw [len]; exact hk.2.2), fun p hp => ?_⟩
            exact own_lst x2.sh hp (dpa_rep g5 _) fun v' S' H' A xt g nd fr => q v' S' H' (s1.trans (x2.ss.trans xt.ss)) (o2.drop.push xt g nd fr)
      · cases h5
    · cases h5
  · cases h2
theorem c_yrng (hn : CD ta dm) : CY (tLstRg (tRg1 ta)) (yRng1 dm) := fun ρ r ρ' h => by
  simp only [yRng1, Option.bind_eq_some_iff] at h
  obtain ⟨⟨d, ρ1⟩, h1, h2⟩ := h
  simp only at h2
  split at h2
  · split at h2
    · rename_i n hk
      cases h2
      refine fun S0 H0 A0 S H τσ τρ σ Q l o q => hn _ _ _ h1 S0 H0 A0 S H τσ τρ σ _ l o fun v S1 H1 s1 o1 r1 => ?_
      cases r1
      refine ⟨_, rfl, RgOk.of_le (by omega) (by omega) (by omega) hk.1, fun p hp => ?_⟩
      have e := dpa_rg (H := S1) 0 n
      rw [show (n - 0).toNat = n.toNat by rw [Int.sub_zero]] at e
      exact own_lst o1.sh hp e fun v' S' H' A xt g nd fr => q v' S' H' (s1.trans xt.ss) (o1.push xt g nd fr)
    · cases h2
  · cases h2
/-! repr -/
def rReprV (K : PySem.W.Frag) : List V → Hp → VK → Prop := fun xs H Q => ∃ x d, xs = [x] ∧ Dp K H x d ∧ d.canLay0 = true ∧ d.depth ≤ 60 ∧ d.showable = true ∧ d.shown.length ≤ sizeLine ∧ Q (.str d.shown) H
end
theorem cr_repr {X : Cx} (hg : X.A.guards = some []) (hu : X.A.units + 64 < cLine) : CallR X (.builtin "repr") (rReprV X.K) := by
  intro pins s σ H xs us Q I r h
  obtain ⟨x, d, rfl, hd, hl, hdep, hs, hz, q⟩ := h
  obtain ⟨u, rfl, ru⟩ := vals1 r
  obtain ⟨as, hr⟩ := Dp.reads I d x u hd ru
  have fin : ∀ h' tk tk', (∀ b o, s.heap.get? b = some o → h'.get? b = some o) → EP X pins σ Q (.str d.shown tk') { s with heap := h', toks := tk } := fun h' tk tk' k => ⟨.str d.shown, H, I.kept k, ⟨tk', rfl⟩, q⟩
  have fin0 : ∀ tk', EP X pins σ Q (.str d.shown tk') { s with toks := s.toks + 1 } := fun tk' => ⟨.str d.shown, H, I.tok _, ⟨tk', rfl⟩, q⟩
  have fin1 : ∀ tk', EP X pins σ Q (.str d.shown tk') s := fun tk' => ⟨.str d.shown, H, I, ⟨tk', rfl⟩, q⟩
  cases hr with
  | none =>
    refine PySem.P.repr_of_none ?_
    simpa [PyData.shown_none] using fin0 s.toks
  | bool b =>
    refine PySem.P.repr_of_bool ?_
    simpa [PyData.shown_bool] using fin0 s.toks
  | int i t =>
    refine PySem.P.repr_of_int (by simpa [PyData.showable] using hs) ?_
    simpa [PyData.shown_int] using fin0 s.toks
  | str x t =>
    refine PySem.P.repr_of_str ?_ ?_
    · simpa [PyData.shown_str] using fin0 s.toks
    · simpa [PyData.shown_str] using hz
  | list h1 h2 h3 h4 =>
    exact PySem.repr_of_reads' (.list h1 h2 h3 h4) hs (PyData.noDict_hsm (PyData.hasDict_of_canLay _ hl)) hg (by omega) (fun _ _ e => e) (fun h' u tk k => fin h' tk u k) hz
  | tuple h1 h2 h3 h4 =>
    exact PySem.repr_of_reads' (.tuple h1 h2 h3 h4) hs (PyData.noDict_hsm (PyData.hasDict_of_canLay _ hl)) hg (by omega) (fun _ _ e => e) (fun h' u tk k => fin h' tk u k) hz
  | dict => simp [PyData.canLay0] at hl
theorem cr_reprK {X : Cx} {K : PySem.W.Frag} (hK : X.K = K) (hg : X.A.guards = some []) (hu : X.A.units + 64 < cLine) : CallR X (.builtin "repr") (rReprV K) := by subst hK; exact cr_repr hg hu
end MR

namespace MR
open PySem L2 PL
variable [kf : KF]
section
variable {ta tb tc te : TE} {tl tr tk : TA} {t u : TT} {a b c : Rm} {q p : Qm} {R : R2} {y z : Ym} {dm dn : Dm} {lm ln : Lm} {js : List Nat} {i : Nat} {E : XK}
theorem c_repr (ha : CR ta a) : CR (tCB (rReprV kf.K) (tCons ta tNil)) (rRepr a) := fun ρ x h => by
  simp only [rRepr, Option.bind_eq_some_iff] at h
  obtain ⟨d, h1, h2⟩ := h
  unfold gRepr at h2
  split at h2
  · rename_i hc
    simp only [Bool.and_eq_true, decide_eq_true_eq] at hc
    cases h2
    exact fun S0 H0 A0 S H τσ τρ σ Q l o q => ha _ _ h1 S0 H0 A0 S H τσ τρ σ _ l o fun v S1 H1 x1 r1 => ⟨v, d, rfl, rp_dp _ _ (noDc_lay _ hc.1.1.1) r1, hc.1.1.1, hc.1.1.2, hc.1.2, hc.2, q _ S1 H1 x1 (.str _)⟩
  · cases h2
theorem c_drepr (ha : CD ta dm) : CD (tCB (rReprV kf.K) (tCons ta tNil)) (dRepr dm) := fun ρ x ρ' h => by
  simp only [dRepr, Option.bind_eq_some_iff, Option.map_eq_some_iff] at h
  obtain ⟨⟨d, ρ1⟩, h1, y, h2, h3⟩ := h
  cases h3
  unfold gRepr at h2
  split at h2
  · rename_i hc
    simp only [Bool.and_eq_true, decide_eq_true_eq] at hc
    cases h2
    exact fun S0 H0 A0 S H τσ τρ σ Q l o q => ha _ _ _ h1 S0 H0 A0 S H τσ τρ σ _ l o fun v S1 H1 s1 o1 r1 => ⟨v, d, rfl, rp_dp _ _ (noDc_lay _ hc.1.1.1) (dp_mono o1.sh _ _ r1), hc.1.1.1, hc.1.1.2, hc.1.2, hc.2, q _ S1 H1 s1 o1 (.str _)⟩
  · cases h2
theorem firstAt_some : ∀ {ns : List Int} {k : Int} {j m : Nat}, firstAt ns k j = some m → j ≤ m ∧ ns[m - j]? = some k ∧ ∀ i, i < m - j → ns[i]? ≠ some k
  | [], k, j, m, h => by cases h
  | n :: ns, k, j, m, h => by
    unfold firstAt at h
    split at h
    · cases h
      rename_i e
      subst e
      exact ⟨Nat.le_refl _, by rw [Nat.sub_self]; rfl, fun i hi => by omega⟩
    · rename_i e
      obtain ⟨h1, h2, h3⟩ := firstAt_some h
      have e2 : m - j = (m - (j + 1)) + 1 := by omega
      refine ⟨by omega, by rw [e2]; exact h2, fun i hi => ?_⟩
      cases i with
      | zero => intro z; simp at z; exact e z
      | succ i => intro z; exact h3 i (by omega) (by simpa using z)
theorem c_ridx (ha : CR ta a) (hb : CR tb b) : CR (tBM kf.K "list" (rIndex kf.K) ta (tCons tb tNil)) (rIdx a b) := fun ρ x h => by
  simp only [rIdx, Option.bind_eq_some_iff] at h
  obtain ⟨d, h1, e, h2, h3⟩ := h
  unfold gIndex at h3
  split at h3
  · rename_i _ _ ds0 k
    simp only [Option.bind_eq_some_iff, Option.map_eq_some_iff] at h3
    obtain ⟨ns, h4, j, h5, rfl⟩ := h3
    have e := asInts_some h4
    subst e
    obtain ⟨_, g1, g2⟩ := firstAt_some h5
    rw [Nat.sub_zero] at g1 g2
    refine fun S0 H0 A0 S H τσ τρ σ Q l o q => ha _ _ h1 S0 H0 A0 S H τσ τρ σ _ l o fun v S1 H1 x1 r1 => ?_
    cases r1 with
    | @lst a vs _ r1 r2 =>
      have e := dpa_ints r2
      subst e
      refine ⟨?_, hb _ _ h2 S0 H0 A0 S1 H1 τσ τρ σ _ l (o.ext x1) fun u S2 H2 x2 p1 => ?_⟩
      · rcases r1 with r1 | ⟨ob, its, n, k1, k2, k3, k4, k5, k6⟩
        · rcases r1 with r1 | ⟨ob, r1⟩
          · exact .inl ⟨rfl, _, .inl (.inl r1)⟩
          · exact .inl ⟨rfl, _, .inl (.inr ⟨ob, r1⟩)⟩
        · exact .inl ⟨rfl, _, .inr ⟨ob, its, n, k1, k2, k3, k4, k5, k6⟩⟩
      · cases p1
        refine ⟨a, ns.map V.int, .int k, j, .int k, rfl, rfl, x2.hh.seq r1, rfl, flat_ints, by rw [List.getElem?_map, g1]; rfl, by simp [eqV], fun m z' hm hz => ?_, q _ S2 H2 (x1.trans x2) (.int _)⟩
        rw [List.getElem?_map] at hz
        cases hh : ns[m]? with
        | none => rw [hh] at hz; cases hz
        | some w =>
          rw [hh] at hz
          cases hz
          have : w ≠ k := fun z => g2 m hm (by rw [hh, z])
          simp [eqV, this]
  · cases h3
theorem c_lenset (ha : CR ta a) : CR (tLenSetI kf.K ta) (rLenSet a) := fun ρ x h => by
  simp only [rLenSet, Option.bind_eq_some_iff] at h
  obtain ⟨d, h1, xs, h2, ns, h3, h4⟩ := h
  have e := asL_some h2
  subst e
  have e := asInts_some h3
  subst e
  split at h4
  · rename_i hc
    cases h4
    refine fun S0 H0 A0 S H τσ τρ σ Q l o q => ha _ _ h1 S0 H0 A0 S H τσ τρ σ _ l o fun v S1 H1 x1 r1 => ?_
    cases r1 with
    | lst r1 r2 =>
      have e := dpa_ints r2
      subst e
      exact ⟨_, ns, rfl, r1, hc.1, hc.2, q _ S1 H1 x1 (.int _)⟩
  · cases h4
theorem c_dnew : CY tDNewT yDNew := fun ρ r ρ' h => by
  cases h
  exact fun S0 H0 A0 S H τσ τρ σ Q l o q p hp => q _ S _ (Same.refl S) (o.push (.new o.sh hp) (.nd (k := .dT []) (vs := []) (B := []) rfl rfl (o.sh.free hp) upd_same .nil) (by simp) fun a ha => by rw [List.mem_singleton.mp ha]; exact hp)
theorem putK_zip {ks : List (List Key)} {vs : List V} {k : List Key} {v : V} (hl : ks.length = vs.length) :
    putK (ks.zip vs) k v = if (ks.any fun x => decide (x = k)) = true then ks.zip ((ks.zip vs).map fun p => if p.1 = k then v else p.2) else (ks ++ [k]).zip (vs ++ [v]) := by
  have e : ((ks.zip vs).any fun kv => decide (kv.1 = k)) = ks.any fun x => decide (x = k) := by
    have h1 : (ks.zip vs).map (·.1) = ks := List.map_fst_zip (by omega)
    have h2 : ((ks.zip vs).map (·.1)).any (fun x => decide (x = k)) = (ks.zip vs).any fun kv => decide (kv.1 = k) := by rw [List.any_map]; rfl
    rw [h1] at h2
    exact h2.symm
  unfold putK
  rw [e]
  split
  · have gen : ∀ (ks : List (List Key)) (vs : List V), ks.length = vs.length → (ks.zip vs).map (fun kv => if kv.1 = k then (kv.1, v) else kv) = ks.zip ((ks.zip vs).map fun p => if p.1 = k then v else p.2) := by
      intro ks
      induction ks with
      | nil => intro vs _; rfl
      | cons x ks ih =>
        intro vs hl
        cases vs with
        | nil => simp at hl
        | cons w vs =>
          simp only [List.zip_cons_cons, List.map_cons]
          rw [ih vs (by simpa using hl)]
          split <;> rfl
    exact gen ks vs hl
  · rw [List.zip_append hl]; rfl
theorem c_dput (hk : CR tb b) (hv : CR tc c) : CS js (sDPut (tVar i) tb tc) (sDPutM i b c) := fun ρ fl ρ' h => by
  simp only [sDPutM, Option.bind_eq_some_iff] at h
  obtain ⟨v, h1, h2⟩ := h
  split at h2
  · cases h2
  · rename_i hfl
    have hfl : flat v = true := by simpa using hfl
    simp only [Option.bind_eq_some_iff] at h2
    obtain ⟨d, h3, k, h4, h5⟩ := h2
    split at h5
    · rename_i ks ts ht
      split at h5
      · rename_i hc
        cases h5
        refine fun S0 H0 A0 S H σ F E hF hx o kk => hv _ _ h1 S0 H0 A0 S H [] [] σ _ rfl o fun w S1 H1 x1 r1 => ?_
        have o1 := o.ext x1
        obtain ⟨w0, a, vs, B, C, g1, g2, g5, g3, g6, g7, g8, g9, g10⟩ := Ok.rewrite (τσ := []) (τρ := []) (p := []) rfl o1.dummy ht rfl rfl
        simp only [follow, Option.some.injEq] at g2
        subst g2
        refine ⟨_, g1, hk _ _ h3 S0 H0 A0 S1 H1 [] [] σ _ rfl o1 fun u S2 H2 x2 r2 => ?_⟩
        have o2 := o1.ext x2
        obtain ⟨w0', a', vs', B', C', g1', g2', g5', g3', g6', g7', g8', g9', g10'⟩ := Ok.rewrite (τσ := []) (τρ := []) (p := []) rfl o2.dummy ht rfl rfl
        rw [g1] at g1'; cases g1'
        simp only [follow, Option.some.injEq] at g2'
        cases g2'
        unfold keyP at h4
        split at h4
        · rename_i i1 j1
          cases h4
          obtain ⟨ka, rfl, ke⟩ := rp_pair (p := (i1, j1)) r2
          have len := g7'.len
          refine ⟨a, _, rfl, DPut.t (k := [.inl i1, .inl j1]) g3' ke (sz_lt (by rw [List.length_zip]; omega)), ?_⟩
          rw [putK_zip (by omega)]
          have vw : OOk S2 H2 w (.d v) [] := .d (dp_flat hfl r1)
          have fin : ∀ {k' : Kd} {us : List V} {ts' : List OT} {B2 : List Addr}, k'.isTup = false → k'.fits ts'.length → OAll S2 H2 us ts' B2 → B2.Nodup → (∀ b ∈ B2, b ∈ B') → E.nx σ (upd H2 a (shape k' us)) → True := fun _ _ _ _ _ _ => trivial
          have done : ∀ {k' : Kd} {us : List V} {ts' : List OT} {B2 : List Addr}, k'.isTup = false → k'.fits ts'.length → OAll S2 H2 us ts' B2 → B2.Nodup → (∀ b ∈ B2, b ∈ B') → (.nd k' ts' = OT.nd (putO ks ts [.inl i1, .inl j1] (.d v)).1 (putO ks ts [.inl i1, .inl j1] (.d v)).2) → E.nx σ (upd H2 a (shape k' us)) := by
            intro k' us ts' B2 z1 z2 z3 z4 z5 z6
            have := g10' (k' := k') (y' := Option.none) (r' := .no) (C' := []) z1 z2 z3 .no (by simpa using z4) (fun b hb => List.mem_append_left _ (z5 b (by simpa using hb)))
            have := this.drop
            simp only [OT.put] at this
            rw [z6] at this
            exact kk S2 _ σ (x1.ss.trans x2.ss) hx this
          have ndB := (List.nodup_append.mp g9').1
          split
          · rename_i hany
            -- the values under that key are the new one
            have gen : ∀ (ks : List (List Key)) (vs : List V) (ts : List OT) (B : List Addr), ks.length = ts.length → OAll S2 H2 vs ts B → B.Nodup → ∃ B2, OAll S2 H2 ((ks.zip vs).map fun p => if p.1 = [Sum.inl i1, Sum.inl j1] then w else p.2) ((ks.zip ts).map fun p => if p.1 = [Sum.inl i1, Sum.inl j1] then OT.d v else p.2) B2 ∧ B2.Nodup ∧ ∀ b ∈ B2, b ∈ B := by
              intro ks
              induction ks with
              | nil => intro vs ts B hl h nd; exact ⟨[], .nil, List.nodup_nil, fun b hb => by cases hb⟩
              | cons x ks ih =>
                intro vs ts B hl h nd
                cases ts with
                | nil => simp at hl
                | cons t ts =>
                  cases h with
                  | @cons v0 vs _ _ A B h1 h2 =>
                    have nd' := List.nodup_append.mp nd
                    obtain ⟨B2, q1, q2, q3⟩ := ih vs ts B (by simpa using hl) h2 nd'.2.1
                    simp only [List.zip_cons_cons, List.map_cons]
                    by_cases e : x = [Sum.inl i1, Sum.inl j1]
                    · rw [if_pos e, if_pos e]
                      exact ⟨[] ++ B2, .cons vw q1, by simpa using q2, fun b hb => List.mem_append_right _ (q3 b (by simpa using hb))⟩
                    · rw [if_neg e, if_neg e]
                      refine ⟨A ++ B2, .cons h1 q1, List.nodup_append.mpr ⟨nd'.1, q2, fun a ha b hb => nd'.2.2 a ha b (q3 b hb)⟩, fun b hb => ?_⟩
                      rcases List.mem_append.mp hb with z | z
                      · exact List.mem_append_left _ z
                      · exact List.mem_append_right _ (q3 b z)
            obtain ⟨B2, q1, q2, q3⟩ := gen ks vs' ts B' hc.1 g7' ndB
            refine done (k' := .dT ks) rfl ?_ q1 q2 q3 ?_
            · show ks.length = _
              rw [List.length_map, List.length_zip]; omega
            · unfold putO; rw [if_pos hany]
          · rename_i hany
            refine done (k' := .dT (ks ++ [[.inl i1, .inl j1]])) rfl ?_ (g7'.app (.one vw)) (by simpa using ndB) (fun b hb => by simpa using hb) ?_
            · show (ks ++ [[Sum.inl i1, Sum.inl j1]]).length = (ts ++ [OT.d v]).length
              simp [hc.1]
            · unfold putO; rw [if_neg hany]
        · cases h4
      · cases h5
    · cases h5
theorem asKeyPs_some : ∀ {ks : List (List Key)} {ps : List (Int × Int)}, asKeyPs ks = some ps → ks = ps.map fun p => (PL.keyOf p).1
  | [], ps, h => by cases h; rfl
  | k :: ks, ps, h => by
    simp only [asKeyPs, Option.bind_eq_some_iff, Option.map_eq_some_iff] at h
    obtain ⟨p, h1, qs, h2, rfl⟩ := h
    rw [List.map_cons, ← asKeyPs_some h2]
    unfold asKeyP at h1
    split at h1
    · cases h1; rfl
    · cases h1
theorem c_sortD : CY (tCB rSortedDT (tCons (tVar i) tNil)) (ySortD i) := fun ρ r ρ' h => by
  unfold ySortD at h
  split at h
  · rename_i ks ts ht
    split at h
    · rename_i hc
      simp only [Bool.and_eq_true, decide_eq_true_eq] at hc
      simp only [Option.map_eq_some_iff] at h
      obtain ⟨ps, h1, h2⟩ := h
      cases h2
      have e := asKeyPs_some h1
      refine fun S0 H0 A0 S H τσ τρ σ Q l o q => ?_
      obtain ⟨v, A, e1, e2⟩ := o.slot l ht (by intro z; cases z)
      obtain ⟨a, vs, B, rfl, rfl, g1, g2, g3, g4⟩ := e2.inv_nd rfl
      have trues : ∀ (ts : List OT) (vs : List V) (B : List Addr), OAll S H vs ts B → ts.all isTrueO = true → ∀ ps : List (Int × Int), ps.length = ts.length → (ps.map fun p => (PL.keyOf p).1).zip vs = ps.map PL.keyOf := by
        intro ts
        induction ts with
        | nil => intro vs B h _ ps hl; cases h; cases ps with
          | nil => rfl
          | cons => simp at hl
        | cons t ts ih =>
          intro vs B h hall ps hl
          rw [List.all_cons, Bool.and_eq_true] at hall
          cases h with
          | cons h1 h2 =>
            cases ps with
            | nil => simp at hl
            | cons p ps =>
              have et : t = .d (.bool true) := by
                have := hall.1
                unfold isTrueO at this
                split at this
                · rfl
                · cases this
              subst et
              cases h1 with
              | d h1 =>
                cases h1
                simp only [List.map_cons, List.zip_cons_cons]
                rw [ih _ _ h2 hall.2 ps (by simpa using hl)]
                rfl
      have g3' : H a = some (.dT (ps.map PL.keyOf)) := by
        rw [g3]
        show some (HO.dT (ks.zip vs)) = _
        rw [e, trues ts vs B g4 hc.1 ps (by rw [← hc.2, e, List.length_map])]
      refine ⟨_, e1, a, ps, rfl, g3', fun qs p q1 q2 q3 hp => ?_⟩
      have eq : srtL ps = qs.map (·.2) := lex_uniq (srtL_lex ps) q1 ((srtL_perm ps).trans q2.symm)
      have rp : ∀ l : List (Addr × (Int × Int)), (∀ z ∈ l, z ∈ qs) → RpAll (frz S H []) (l.map fun q => V.ref q.1) ((l.map (·.2)).map pairD) := by
        intro l
        induction l with
        | nil => intro _; exact .nil
        | cons z l ih =>
          intro hm
          exact .cons (.tup (frz_tup (q3 z (hm z List.mem_cons_self))) (.cons (.int _) (.cons (.int _) .nil))) (ih fun w hw => hm w (List.mem_cons_of_mem _ hw))
      rw [eq] at q
      have xf := xt_frz (S := S) (H := H) o.sh
      exact own_lst xf.sh hp (rp qs fun _ z => z) fun v' S' H' A xt g nd fr => q v' S' H' (xf.ss.trans xt.ss) ((o.ext xf).push xt g nd fr)
    · cases h
  · cases h

/-! ### keywords in the parameters' order -/
def gApp {α : Type} (m k : Nat) : List α → List α → List α := fun a b => if a.length = m ∧ b.length = k then a ++ b else []
omit kf in
theorem gApp_rel {m k : Nat} {vs : List V} {us : List Value} {zs : List V} {ws : List Value} (h : Vals vs us) (h' : Vals zs ws) : Vals (gApp m k vs zs) (gApp m k us ws) := by
  unfold gApp
  rw [h.length, h'.length]
  split
  · exact h.append h'
  · exact .nil
omit kf in
theorem gApp_len {α : Type} {m k n : Nat} {a b : List α} (h : (gApp m k a b).length = n + 1) : a.length = m ∧ b.length = k := by
  unfold gApp at h
  split at h
  · assumption
  · cases h
def lApp (m k : Nat) (a b : Lm) : Lm := fun ρ => (a ρ).bind fun p => (b p.2).bind fun q => if p.1.length = m ∧ q.1.length = k then some (p.1 ++ q.1, q.2) else Option.none
def qApp (m k : Nat) (a b : Qm) : Qm := fun ρ => (a ρ).bind fun p => (b ρ).bind fun q => if p.length = m ∧ q.length = k then some (p ++ q) else Option.none
theorem gApp_rp {S : Hp} {m k : Nat} {vs us : List V} {xs ys : List D} (g1 : RpAll S vs xs) (g2 : RpAll S us ys) (h : xs.length = m ∧ ys.length = k) : RpAll S (gApp m k vs us) (xs ++ ys) := by
  unfold gApp
  rw [if_pos ⟨by rw [dpa_length g1]; exact h.1, by rw [dpa_length g2]; exact h.2⟩]
  exact dpa_append g1 g2
theorem c_lapp {m k : Nat} {ρ ρ' : Env} {ds : List D} (h : lApp m k lm ln ρ = some (ds, ρ')) : ∃ xs ys ρ1, lm ρ = some (xs, ρ1) ∧ ln ρ1 = some (ys, ρ') ∧ ds = xs ++ ys ∧ xs.length = m ∧ ys.length = k := by
  simp only [lApp, Option.bind_eq_some_iff] at h
  obtain ⟨⟨xs, ρ1⟩, h1, ⟨ys, ρ2⟩, h2, h3⟩ := h
  split at h3
  · rename_i hh; cases h3; exact ⟨xs, ys, ρ1, h1, h2, rfl, hh.1, hh.2⟩
  · cases h3
theorem c_qapp {m k : Nat} {ρ : Env} {ds : List D} (h : qApp m k q p ρ = some ds) : ∃ xs ys, q ρ = some xs ∧ p ρ = some ys ∧ ds = xs ++ ys ∧ xs.length = m ∧ ys.length = k := by
  simp only [qApp, Option.bind_eq_some_iff] at h
  obtain ⟨xs, h1, ys, h2, h3⟩ := h
  split at h3
  · rename_i hh; cases h3; exact ⟨xs, ys, h1, h2, rfl, hh.1, hh.2⟩
  · cases h3
theorem c_ycallK {f : List D → Option OT} {n m k : Nat} (ha : CL tl lm) (hb : CL tk ln) : CY (tCallK (spP n f) (gApp m k) E tl tk) (yCall f n (lApp m k lm ln)) := fun ρ r ρ' h => by
  simp only [yCall, Option.bind_eq_some_iff] at h
  obtain ⟨⟨ds, ρ1⟩, h0, h4⟩ := h
  obtain ⟨xs, ys, ρa, h1, h2, e, hh⟩ := c_lapp h0
  simp only at h4 e
  subst e
  split at h4
  · rename_i hn
    simp only [Option.map_eq_some_iff] at h4
    obtain ⟨r', h5, h6⟩ := h4
    cases h6
    exact fun S0 H0 A0 S H τσ τρ σ Q l o q => ha _ _ _ h1 S0 H0 A0 S H τσ τρ σ _ l o fun vs S1 H1 s1 o1 g1 => hb _ _ _ h2 S0 H0 A0 S1 H1 τσ τρ σ _ l o1 fun us S2 H2 s2 o2 g2 =>
      ⟨S2, xs ++ ys, _, hn, o2.sh, gApp_rp (dpa_mono s2 _ _ g1) g2 hh, h5, fun v S' H' B xt hr nd fr => q v S' H' ((s1.trans s2).trans xt.ss) (o2.push xt hr nd fr)⟩
  · cases h4
theorem c_callK {f : List D → Option OT} {n m k : Nat} (ha : CQ tl q) (hb : CQ tk p) : CR (tCallK (spP n f) (gApp m k) E tl tk) (rCall f n (qApp m k q p)) := fun ρ x h => by
  simp only [rCall, Option.bind_eq_some_iff] at h
  obtain ⟨ds, h0, h4⟩ := h
  obtain ⟨xs, ys, h1, h2, e, hh⟩ := c_qapp h0
  subst e
  split at h4
  · rename_i hn
    simp only [Option.bind_eq_some_iff] at h4
    obtain ⟨r, h5, h6⟩ := h4
    exact fun S0 H0 A0 S H τσ τρ σ Q l o q => ha _ _ h1 S0 H0 A0 S H τσ τρ σ _ l o fun vs S1 H1 x1 g1 => hb _ _ h2 S0 H0 A0 S1 H1 τσ τρ σ _ l (o.ext x1) fun us S2 H2 x2 g2 =>
      ⟨H2, xs ++ ys, r, hn, Same.refl H2, gApp_rp (dpa_mono x2.hh _ _ g1) g2 hh, h5, fun v S' H' B xt hr nd fr => q v _ H' ((x1.trans x2).trans (xt_low x2.sh xt)) (ook_rp xt.sh _ _ _ _ hr h6)⟩
  · cases h4
theorem c_ycallKA {f : List D → Option OT} {n m k : Nat} (hq : CQ tl q) (hp : CQ tk p) (ha : CL tl lm) (hb : CL tk ln) : CY (tCallK (spP n f) (gApp m k) E tl tk) (yCallA f n (qApp m k q p) (lApp m k lm ln)) := fun ρ r ρ' h => by
  unfold yCallA at h
  split at h
  · rename_i r' hr
    cases h
    simp only [Option.bind_eq_some_iff] at hr
    obtain ⟨ds, h0, h4⟩ := hr
    obtain ⟨xs, ys, h1, h2, e, hh⟩ := c_qapp h0
    subst e
    split at h4
    · rename_i hn
      obtain ⟨h5, h6⟩ := lfO_some h4
      exact fun S0 H0 A0 S H τσ τρ σ Q l o q => hq _ _ h1 S0 H0 A0 S H τσ τρ σ _ l o fun vs S1 H1 x1 g1 => hp _ _ h2 S0 H0 A0 S1 H1 τσ τρ σ _ l (o.ext x1) fun us S2 H2 x2 g2 =>
        ⟨H2, xs ++ ys, _, hn, Same.refl H2, gApp_rp (dpa_mono x2.hh _ _ g1) g2 hh, h5, fun v S' H' B xt hr nd fr =>
          q v _ H' ((x1.trans x2).trans (xt_low x2.sh xt)).ss (((o.ext x1).ext x2).push (xt_low x2.sh xt) (ook_lf xt.sh _ _ _ hr h6 fun a ha => x2.sh.free (fr a ha)) nd fr)⟩
    · cases h4
  · exact c_ycallK ha hb _ _ _ h
end
/-- a def with what it promises -/
structure Dq (P : Program) (w : World) (K : PySem.W.Frag) (mg : Str → Option Value) (base : Heap) (x : Str) (k : Nat) (ps : List Str) (sp : Sp) where
  a : Addr
  fd : FuncData
  kp : PySem.W.keepIn K (.ref a) = true
  g : mg x = some (.ref a)
  G : FnQ P w K mg base CX0 k a fd ps sp
  b : Binds K fd ps []
section
variable {X : Cx} {CX : CXT} {k : Nat} {f : Addr} {fd : FuncData} {ps ks : List Str} {sp : Sp} {E : XK} {x : Str} {p pos : Pos} {e : Expr} {es : List Expr} {kws : List Keyword} {t tk : TA}
  {g : List Value → List Value → List Value} {gV : List V → List V → List V}
theorem pe_callQK (F : FnQ X.prog X.w X.K X.mg X.base CX k f fd ps sp) (hr : Room k X.A) (gd : X.A.guards = some []) (hg : Gl X x) (hm : X.mg x = some (.ref f)) (hk : PySem.W.keepIn X.K (.ref f) = true) (hb : KBinds X.K fd ps ks g gV) (hx : Passes CX X E)
    (ha : PA X (e :: es) t) (hkw : PK X kws tk) (hall : (backToKw pos (keywordEach kws X.env)).all (·.1.isSome) = true := by rfl) (hks : (backToKw pos (keywordEach kws X.env)).filterMap (·.1) = ks := by rfl)
    (hdb : (x == ("__debug__" : Str)) = false := by decide) (he : starEach (e :: es) X.env = (false, eval e X.env) :: starEach es X.env := by rfl)
    (hpl : ((backTo pos (starEach (e :: es) X.env)).any (·.1) || (backToKw pos (keywordEach kws X.env)).any (·.1.isNone)) = false := by rfl) :
    PE X (.Call (.Name x p) (e :: es) kws pos) (tCallK sp gV E t tk) := by
  refine ⟨fun pins s σ H Q I h => wpAny_Call_Name_kw (ld_glob I hg hm ?_ hdb)⟩
  refine PySem.W.callWith_KW (h₀ := X.base) I.ok.mod.kin hk hall (thn (ha.run pos pins s σ H _ I h) ?_) hpl he
  rintro us s1 ⟨vs, H1, I1, r, q⟩
  refine thn (hkw.run pos pins s1 σ H1 _ I1 q) ?_
  rintro ws s2 ⟨zs, H2, I2, rz, q2⟩
  refine ⟨I2.kIn, ?_⟩
  rw [hks]
  have rr := hb.rel r rz
  have hl : (g us ws).length = ps.length := by rw [← rr.length]; exact F.ln _ _ _ _ q2
  refine wpAny_call (codeAny_mono (F.go X.A X.stack s2 H2 ⟨us, ks.zip ws⟩ (g us ws) (gV vs zs) Q E hr gd I2.env0 (hb.to s2 us ws I2.kIn hl) rr q2) fun res s' hq => ?_)
  match res, hq with
  | .error e, hq => exact hx pins σ H2 s2 e s' I2 hq
  | .ok (.ret u), hq => exact I2.after hq
  | .ok .next, hq => cases hq
  | .ok .brk, hq => cases hq
  | .ok .cont, hq => cases hq
end
section
variable {X : Cx} {K : PySem.W.Frag} (hK : X.K = K)
include hK
theorem mt_indexK : MtR X "list.index" (rIndex K) := by subst hK; exact mt_index
theorem call_tuple_ofK : CallR X (.type "tuple") (fun xs H Q => ∃ p ys, xs = [.ref p] ∧ ((SqL K H p ys ∧ ∀ l, H l = none → Q (.ref l) (upd H l (.tup ys))) ∨ (SqT K H p ys ∧ Q (.ref p) H))) := by subst hK; exact call_tuple_of
theorem cr_sumK (hc : X.calm = true) : CallR X (.builtin "sum") (rSum K) := by subst hK; exact cr_sum hc
theorem cr_sortTK : CallR X (.builtin "sorted") (rSortU K 2 64) := by subst hK; exact cr_sortT (by decide)
theorem pe_lenSetIK {a : Expr} {ta : TE} {p p2 q pos : Pos} (hc : X.calm = true) (hg : Gl X "len") (hm : X.mg "len" = none) (hg2 : Gl X "set") (hm2 : X.mg "set" = none) (ha : PE X a ta)
    (na : starEach [a] X.env = (false, eval a X.env) :: starEach [] X.env := by rfl) : PE X (.Call (.Name "len" p) [.Call (.Name "set" p2) [a] [] q] [] pos) (tLenSetI K ta) := by subst hK; exact pe_lenSetI hc hg hm hg2 hm2 ha na
end
end MR

namespace MR
open PySem L2 PL
/-- f(x, ..), x made anew and let go -/
def yCallIT (f : OT → List D → Option (OT × OT)) (n : Nat) (y : Ym) (a : Lm) : Ym := fun ρ => (y ρ).bind fun p => if isNo p.1 then Option.none else (a p.2).bind fun q => if q.1.length + 1 = n then (f p.1 q.1).map fun s => (s.1, q.2) else Option.none
variable [kf : KF]
theorem c_ycallIT {f : OT → List D → Option (OT × OT)} {n : Nat} {ta : TE} {tl : TA} {y : Ym} {lm : Lm} {E : XK} (hy : CY ta y) (ha : CL tl lm) : CY (tCall (spI n f) [] E (tCons ta tl)) (yCallIT f n y lm) := fun ρ r ρ' h => by
  simp only [yCallIT, Option.bind_eq_some_iff] at h
  obtain ⟨⟨t, ρ1⟩, h1, h2⟩ := h
  split at h2
  · cases h2
  · rename_i hn
    simp only [Option.bind_eq_some_iff] at h2
    obtain ⟨⟨ds, ρ2⟩, h3, h4⟩ := h2
    split at h4
    · rename_i hl
      simp only [Option.map_eq_some_iff] at h4
      obtain ⟨⟨r', t'⟩, h5, h6⟩ := h4
      cases h6
      refine fun S0 H0 A0 S H τσ τρ σ Q l o q => hy _ _ _ h1 S0 H0 A0 S H τσ τρ σ _ l o fun v0 S1 H1 s1 o1 => ha _ _ _ h3 S0 H0 A0 S1 H1 (some v0 :: τσ) (t :: τρ) σ _ (by simp [l]) o1 fun us S2 H2 s2 o2 g2 => ?_
      show spI n f ((v0 :: us) ++ []) H2 Q E
      rw [List.append_nil]
      obtain ⟨B, he, nd, fr⟩ := o2.env
      cases he with
      | @cons _ _ A _ _ B p1 p2 =>
        cases p1 with
        | no => exact (isNo_false hn rfl).elim
        | is p1 =>
          have ndp := List.nodup_append.mp nd
          refine ⟨v0, us, S2, A, t, ds, _, _, rfl, hl, o2.sh, p1, ndp.1, g2, h5, fun v S' H' C xa ec ndC frC => ?_⟩
          cases ec with
          | @cons _ _ C1 _ _ C2' c1 c2 =>
            have ndC' := List.nodup_append.mp ndC
            have keepB := p2.keep (S' := S') (H' := H') xa.ss xa.tp fun a ha => by
              obtain ⟨z1, u, z2, z3⟩ := p2.at a ha
              have na : a ∉ A := fun z => ndp.2.2 a z a ha rfl
              refine ⟨?_, by rw [z2]; exact xa.hh a u na z2⟩
              cases qq : S' a with
              | none => rfl
              | some o' =>
                rcases xa.nw a o' qq with w | w | w
                · rw [z1] at w; cases w
                · exact (na w).elim
                · obtain ⟨xs, w⟩ := w u z2; exact (z3 xs w).elim
            refine q v S' H' (s1.trans (s2.trans xa.ss)) ⟨xa_sub o2.xt xa fun a ha => fr a (List.mem_append_left _ ha), C1 ++ B, .cons c1 keepB, List.nodup_append.mpr ⟨ndC'.1, ndp.2.1, fun a ha b hb e => ?_⟩, fun a ha => ?_⟩
            · subst e
              rcases frC a (List.mem_append_left _ ha) with z | z
              · exact ndp.2.2 a z a hb rfl
              · obtain ⟨_, u, hu, _⟩ := p2.at a hb
                rw [z] at hu; cases hu
            · rcases List.mem_append.mp ha with z | z
              · rcases frC a (List.mem_append_left _ z) with w | w
                · exact fr a (List.mem_append_left _ w)
                · exact .inr (o2.xt.dm a w)
              · exact fr a (List.mem_append_right _ z)
    · cases h4
end MR
namespace MR
open PySem L2 PL
def ini (ds : List D) (k : Nat) : Env := ds.map OT.d ++ List.replicate k OT.no
variable [kf : KF]
theorem tie_plain {n k : Nat} {B : Sm} {vs : List V} {H : Hp} {Q : VK} {E : XK} {N : List Str} {t : TS} (hk : N.length - n = k) (hc : CS [] t B) (h : spP n (fun ds => fin (B (ini ds k))) vs H Q E) : t { nx := fun _ H' => Q .non H', rt := Q } (L2.start N vs) H := by
  subst hk
  exact def_plain h fun ds r hn hf => ⟨B (ini ds _), hf, fun fl ρ' e => hc _ _ _ e⟩
theorem tie_io {n k : Nat} {B : Sm} {vs : List V} {H : Hp} {Q : VK} {E : XK} {N : List Str} {t : TS} (hk : N.length - n = k) (hc : CS [0] t B) (h : spI n (fun t ds => finI (B (t :: ini ds k))) vs H Q E) : t { nx := fun _ H' => Q .non H', rt := Q } (L2.start N vs) H := by
  subst hk
  exact def_io h fun t0 ds r t1 hn hf => ⟨B (t0 :: ini ds _), hf, fun fl ρ' e => hc _ _ _ e⟩
end MR
namespace MR
open PySem L2 PL
variable [kf : KF]
section
variable {ρ ρ1 ρ2 ρ' : Env} {ta tb tc te : TE} {tl : TA} {d e x y : D} {r s t t0 : OT} {S H S' H' S0 H0 : Hp} {A0 : List Addr} {σ τσ : St} {τρ : List OT} {ts : List OT} {js : List Nat} {i : Nat} {p : List Nat}
theorem pt_ixT {n : Int} {j : Nat} {k : Kd} (hp : PtE ta ρ i p) (ht : ρ[i]? = some t) (hs : t.at p = some (.nd .tup ts)) (hb : RdE tb ρ (.int n)) (hj : ixN ts.length n = some j) : PtE (tOp (rIxT kf.K) ta tb) ρ i (p ++ [j]) := fun S0 H0 A0 S H τσ τρ σ Q l o q =>
  hp S0 H0 A0 S H τσ τρ σ _ l o fun v0 v S1 H1 x1 e1 f1 => hb S0 H0 A0 S1 H1 τσ τρ σ _ l (o.ext x1) fun u S2 H2 x2 h2 => by
    cases h2
    have o2 := (o.ext x1).ext x2
    have hn : t ≠ .no := by rintro rfl; cases p <;> simp [OT.at] at hs
    obtain ⟨v0', A, g1, g2, g3, _⟩ := o2.tree l ht hn
    rw [e1] at g1
    cases g1
    obtain ⟨w, A1, f2, f3, _⟩ := ook_path p g2 g3 hs
    have o1 := o.ext x1
    obtain ⟨v0'', A', g1', g2', g3', _⟩ := o1.tree l ht hn
    rw [e1] at g1'
    cases g1'
    obtain ⟨w', A1', f2', f3', _⟩ := ook_path p g2' g3' hs
    rw [f1] at f2'
    cases f2'
    have same : follow H2 v0 p = follow H1 v0 p := by
      have gen : ∀ (p : List Nat) (v w : V), follow H1 v p = some w → follow H2 v p = some w := by
        intro p
        induction p with
        | nil => intro v w h; exact h
        | cons i p ih =>
          intro v w h
          cases v with
          | ref a =>
            simp only [follow] at h ⊢
            cases hk : (kids (H1 a))[i]? with
            | none => rw [hk] at h; cases h
            | some u =>
              rw [hk] at h
              have : kids (H2 a) = kids (H1 a) := by
                cases hh : H1 a with
                | none => rw [hh] at hk; simp [kids] at hk
                | some o' => rw [x2.hh a o' hh]
              rw [this, hk]
              exact ih u w h
          | _ => simp [follow] at h
      rw [f1]
      exact gen p v0 v f1
    rw [f2, f1] at same
    cases same
    cases f3 with
    | nd y0 => cases y0
    | @tup a vs _ _ y3 y4 =>
      have len := y4.len
      have hlt : j < vs.length := by
        have := (ixN_seq hj).2.1
        omega
      refine ⟨a, vs, n, vs[j], rfl, rfl, .inl (.of y3), ?_, q v0 vs[j] S2 H2 (x1.trans x2) e1 ?_⟩
      · unfold atI
        rw [len, hj]
        exact List.getElem?_eq_getElem hlt
      · have app : ∀ (p : List Nat) (v : V), follow H2 v p = some (.ref a) → follow H2 v (p ++ [j]) = some vs[j] := by
          intro p
          induction p with
          | nil =>
            intro v h
            simp only [follow, Option.some.injEq] at h
            subst h
            simp only [List.nil_append, follow, y3, kids]
            rw [List.getElem?_eq_getElem hlt]
          | cons i p ih =>
            intro v h
            cases v with
            | ref b =>
              simp only [List.cons_append, follow] at h ⊢
              cases hk : (kids (H2 b))[i]? with
              | none => rw [hk] at h; cases h
              | some u => rw [hk] at h; exact ih u h
            | _ => simp [follow] at h
        exact app p v0 f2
end
def pmIxT (pm : Pm) (ix : Rm) : Pm := fun ρ => (pm ρ).bind fun q => match q.2 with
  | .nd .tup ts => (ix ρ).bind fun d => match d with
    | .int n => (ixN ts.length n).bind fun j => (ts[j]?).map fun s => (q.1 ++ [j], s)
    | _ => Option.none
  | _ => Option.none
theorem c_pixT {tp tb : TE} {i : Nat} {pm : Pm} {b : Rm} (hp : CP tp i pm) (hb : CR tb b) : CP (tOp (rIxT kf.K) tp tb) i (pmIxT pm b) := fun ρ p s h => by
  simp only [pmIxT, Option.bind_eq_some_iff] at h
  obtain ⟨⟨p0, s0⟩, h1, h2⟩ := h
  obtain ⟨g1, t, g2, g3⟩ := hp _ _ _ h1
  simp only at h2
  split at h2
  · rename_i us
    simp only [Option.bind_eq_some_iff] at h2
    obtain ⟨d, h3, h4⟩ := h2
    split at h4
    · simp only [Option.bind_eq_some_iff, Option.map_eq_some_iff] at h4
      obtain ⟨j, h5, s', h6, h7⟩ := h4
      cases h7
      exact ⟨pt_ixT (k := .tup) g1 g2 g3 (hb _ _ h3) h5, t, g2, (at_app p0 t .tup us j g3).trans h6⟩
    · cases h4
  · cases h2
end MR
namespace MR
open PySem L2 PL
section
variable {X : Cx} {K : PySem.W.Frag} (hK : X.K = K) {T : String} {name : Str} {id : String} {r : V → List V → Hp → VK → Prop} {o e : Expr} {es : List Expr} {to : TE} {t : TA} {apos cpos : Pos}
include hK
theorem pe_bmK (pa : PlainAttrs T) (slot : Slot T name id) (hty : typeOf (.builtin id) = pure (.type "method_descriptor")) (hm : MtR X id r) (ho : PE X o to) (ha : PA X (e :: es) t)
    (hbase : attributeBase o name X.env (eval o X.env) = eval o X.env := by rfl)
    (hfew : ((backTo cpos (starEach (e :: es) X.env)).all (fun x => !x.1) && (backToKw cpos (keywordEach [] X.env)).all (fun x => x.1.isSome) && decide ((e :: es).length + ([] : List Keyword).length + (if ([] : List Keyword).isEmpty then 0 else 1) < 30)) = true := by rfl)
    (hline : (apos.endLine == cpos.line) = true := by rfl) (hs : starEach (e :: es) X.env = (false, eval e X.env) :: starEach es X.env := by rfl) (hp : (backTo cpos (starEach es X.env)).any (·.1) = false := by rfl) :
    PE X (.Call (.Attribute o name apos) (e :: es) [] cpos) (tBM K T r to t) := by
  subst hK
  exact pe_bm pa slot hty hm ho ha hbase hfew hline hs hp
theorem pe_bm0K' (pa : PlainAttrs T) (slot : Slot T name id) (hty : typeOf (.builtin id) = pure (.type "method_descriptor")) (hm : MtR X id r) (ho : PE X o to)
    (hbase : attributeBase o name X.env (eval o X.env) = eval o X.env := by rfl) (hline : (apos.endLine == cpos.line) = true := by rfl) : PE X (.Call (.Attribute o name apos) [] [] cpos) (tBM0 K T r to) := by
  subst hK
  exact pe_bm0 pa slot hty hm ho hbase hline
end
end MR

namespace MR
open PySem L2 PL
/-- a <= b < c < d, ints -/
def rCh3 (f g h : Int → Int → Bool) (a b c d : Rm) : Rm := fun ρ => (a ρ).bind fun x => (b ρ).bind fun y => match x, y with
  | .int i, .int j => if f i j then (c ρ).bind fun z => match z with
    | .int k => if g j k then (d ρ).bind fun u => match u with
      | .int l => some (.bool (h k l))
      | _ => Option.none
      else some (.bool false)
    | _ => Option.none
    else some (.bool false)
  | _, _ => Option.none
variable [kf : KF]
theorem c_ch3 {ta tb tc td : TE} {a b c d : Rm} {f g h : Int → Int → Bool} (ha : CR ta a) (hb : CR tb b) (hc : CR tc c) (hd : CR td d) :
    CR (tCh3 (rI0 fun i j => .bl (f i j)) (rI0 fun i j => .bl (g i j)) (rI0 fun i j => .bl (h i j)) ta tb tc td) (rCh3 f g h a b c d) := fun ρ x hh => by
  simp only [rCh3, Option.bind_eq_some_iff] at hh
  obtain ⟨d1, h1, e1, h2, h3⟩ := hh
  split at h3
  · rename_i i j
    refine fun S0 H0 A0 S H τσ τρ σ Q l o q => ha _ _ h1 S0 H0 A0 S H τσ τρ σ _ l o fun v S1 H1 x1 r1 => hb _ _ h2 S0 H0 A0 S1 H1 τσ τρ σ _ l (o.ext x1) fun u S2 H2 x2 r2 => ?_
    cases r1; cases r2
    refine ⟨i, j, rfl, rfl, f i j, rfl, ?_⟩
    split at h3
    · rename_i hf
      simp only [Option.bind_eq_some_iff] at h3
      obtain ⟨z, h4, h5⟩ := h3
      split at h5
      · rename_i k
        rw [hf]
        refine iteT (hc _ _ h4 S0 H0 A0 S2 H2 τσ τρ σ _ l ((o.ext x1).ext x2) fun w S3 H3 x3 r3 => ?_)
        cases r3
        refine ⟨j, k, rfl, rfl, g j k, rfl, ?_⟩
        split at h5
        · rename_i hg
          simp only [Option.bind_eq_some_iff] at h5
          obtain ⟨u, h6, h7⟩ := h5
          split at h7
          · cases h7
            rw [hg]
            refine iteT (hd _ _ h6 S0 H0 A0 S3 H3 τσ τρ σ _ l (((o.ext x1).ext x2).ext x3) fun w S4 H4 x4 r4 => ?_)
            cases r4
            exact ⟨k, _, rfl, rfl, q _ S4 H4 (((x1.trans x2).trans x3).trans x4) (.bl _)⟩
          · cases h7
        · rename_i hg
          cases h5
          rw [show g j k = false by simpa using hg]
          exact iteF (q _ S3 H3 ((x1.trans x2).trans x3) (.bl false))
      · cases h5
    · rename_i hf
      cases h3
      rw [show f i j = false by simpa using hf]
      exact iteF (q _ S2 H2 (x1.trans x2) (.bl false))
  · cases h3
end MR

namespace MR
open PySem PySem.Spec PyProof.Rows L2 PL
/-! ### sorted and < over data of any depth -/
def fitsB (d : D) : Bool := PySem.W.alike d d && decide (d.depth ≤ 8)
def isTup1 : D → Bool
  | .tuple (_ :: _) => true
  | _ => false
def isPl : D → Bool
  | .none => false
  | .tuple _ => false
  | _ => true
def sortOk (ds : List D) : Bool := (ds.all fun d => ds.all fun e => PySem.W.alike d e) && (ds.all isTup1 || ds.all isPl) && ds.all fun d => decide (d.depth ≤ 8)
def dLe (d e : D) : Bool := !PySem.W.dataLt e d
def dsort (ds : List D) : List D := ds.mergeSort dLe
def rLtA (K : PySem.W.Frag) : R2 := fun x y H Q => ∃ d e, Dp K H x d ∧ Dp K H y e ∧ PySem.W.alike d e = true ∧ d ≠ .none ∧ d.depth ≤ 8 ∧ Q (.bl (PySem.W.dataLt d e)) H
section
variable {X : Cx} {K : PySem.W.Frag}
theorem op_ltA (hK : X.K = K) (hu : X.A.units + 65 < cLine) : OpR X (compareOp .Lt) (rLtA K) := by
  subst hK
  intro pins s σ H x y v u Q I rx ry h
  obtain ⟨d, e, hd, he, ha, hn, hz, q⟩ := h
  obtain ⟨as, r1⟩ := Dp.reads I d x v hd rx
  obtain ⟨bs, r2⟩ := Dp.reads I e y u he ry
  refine PySem.W.lt_data r1 r2 ha hn ?_ ⟨.bl _, H, I, rfl, q⟩
  have : min d.depth e.depth ≤ d.depth := Nat.min_le_left _ _
  omega
def rSortA (K : PySem.W.Frag) : List V → Hp → VK → Prop := fun vs H Q => ∃ (a : Addr) (bs : List (V × D)), vs = [V.ref a] ∧ SqL K H a (bs.map (·.1)) ∧ (∀ b ∈ bs, Dp K H b.1 b.2) ∧
  PySem.W.AllAlike (bs.map (·.2)) ∧ PySem.W.Sortable (bs.map (·.2)) ∧ (∀ b ∈ bs, b.2.depth ≤ 8) ∧ ∀ p, H p = none → Q (.ref p) (upd H p (.lst ((bs.mergeSort (PySem.W.dataLe false (·.2))).map (·.1))))
theorem each_vals {bs : List (V × D)} : ∀ {us : List Value}, Vals (bs.map (·.1)) us → PySem.W.EachIs (fun v (b : V × D) => RelV b.1 v ∧ b ∈ bs) us bs := by
  have gen : ∀ (cs : List (V × D)) (us : List Value), (∀ c ∈ cs, c ∈ bs) → Vals (cs.map (·.1)) us → PySem.W.EachIs (fun v (b : V × D) => RelV b.1 v ∧ b ∈ bs) us cs := by
    intro cs
    induction cs with
    | nil => intro us _ h; cases h; exact .nil
    | cons c cs ih =>
      intro us hm h
      cases h with
      | cons a b => exact .cons ⟨a, hm c List.mem_cons_self⟩ (ih _ (fun c hc => hm c (List.mem_cons_of_mem _ hc)) b)
  intro us h
  exact gen bs us (fun _ h => h) h
theorem vals_each {bs : List (V × D)} {P : V × D → Prop} : ∀ {us : List Value}, PySem.W.EachIs (fun v (b : V × D) => RelV b.1 v ∧ P b) us bs → Vals (bs.map (·.1)) us := by
  induction bs with
  | nil => intro us h; cases h; exact .nil
  | cons b bs ih => intro us h; cases h with | cons a b => exact .cons a.1 (ih b)
theorem cr_sortA (hK : X.K = K) (hu : X.A.units + 65 < cLine) : CallR X (.builtin "sorted") (rSortA K) := by
  subst hK
  intro pins s σ H vs us Q I r h
  obtain ⟨a, bs, rfl, hs, hd, hal, hso, hz, q⟩ := h
  obtain ⟨its, rv, hl, hz2⟩ := I.list hs
  rw [Vals.ref1 r]
  have e := each_vals rv
  have hlen : bs.length ≤ sizeLine := by rw [List.length_map] at hz2; exact hz2
  refine PySem.W.sorted_data (R := fun v (b : V × D) => RelV b.1 v ∧ b ∈ bs) (enc := fun b => b.2) (bs := bs) hl.isList e (e.mono fun v b hb => Dp.reads I b.2 b.1 v (hd b hb.2) hb.1) hal hso hlen (fun b hb => ?_) fun out ho hR => ?_
  · have := hz b hb; omega
  · obtain ⟨ep, he'⟩ := PyProof.Rows.sortedAll_at s.heap its out.toArray
    have hlen2 : ((bs.mergeSort (PySem.W.dataLe false fun b => b.2)).map (·.1)).length ≤ sizeLine := by
      rw [List.length_map, List.length_mergeSort]; exact hlen
    exact ⟨.ref _, upd H (s.heap.objs.size + 1) (.lst ((bs.mergeSort (PySem.W.dataLe false fun b => b.2)).map (·.1))), I.laid (t' := s.toks) (fun _ _ => PyProof.Rows.sortedAll_old) (Nat.le_succ _) ⟨hlen2, out, ep, vals_each hR, he'⟩, rfl, q _ (I.hok.fresh (Nat.le_succ _))⟩
end
def gLtA (d e : D) : Option D := if fitsB d && fitsB e && PySem.W.alike d e && !isN d then some (.bool (PySem.W.dataLt d e)) else Option.none
def GSortA : List D → Option OT
  | [.list ds] => if sortOk ds then some (lstO (dsort ds)) else Option.none
  | _ => Option.none
mutual
theorem noDc_alike : ∀ d : D, PySem.W.alike d d = true → noDc d = true
  | .none, _ => by simp [noDc]
  | .bool _, _ => by simp [noDc]
  | .int _, _ => by simp [noDc]
  | .str _, _ => by simp [noDc]
  | .list xs, h => by
    simp only [noDc]
    exact noDcs_alike xs (by simpa only [PySem.W.alike] using h)
  | .tuple xs, h => by
    simp only [noDc]
    exact noDcs_alike xs (by simpa only [PySem.W.alike] using h)
  | .dict _, h => by simp [PySem.W.alike] at h
theorem noDcs_alike : ∀ ds : List D, PySem.W.alikeAll ds ds = true → noDcs ds = true
  | [], _ => by simp [noDcs]
  | x :: xs, h => by
    have h' := PySem.W.alike_all_cons h
    simp only [noDcs, noDc_alike x h'.1, noDcs_alike xs h'.2, Bool.and_self]
end
variable [kf : KF]
theorem o_ltA : OpM (rLtA kf.K) gLtA := fun d e x h => by
  unfold gLtA at h
  split at h
  · rename_i hc
    cases h
    simp only [Bool.and_eq_true, fitsB, decide_eq_true_eq] at hc
    obtain ⟨⟨⟨⟨h0, h1⟩, h4, _⟩, h2⟩, h3⟩ := hc
    intro H v u Q r1 r2 q
    exact ⟨d, e, rp_dp _ _ (noDc_alike _ h0) r1, rp_dp _ _ (noDc_alike _ h4) r2, h2, fun z => by subst z; simp [isN] at h3, h1, q _ rfl⟩
  · cases h
theorem zip_all {S : Hp} : ∀ {vs : List V} {ds : List D}, RpAll S vs ds → ∀ b ∈ vs.zip ds, Rp S b.1 b.2
  | _, _, .nil, b, hb => by simp at hb
  | _, _, .cons a t, b, hb => by
    rw [List.zip_cons_cons] at hb
    rcases List.mem_cons.mp hb with rfl | hb
    · exact a
    · exact zip_all t b hb
theorem dpa_of_zip {S : Hp} : ∀ {bs : List (V × D)}, (∀ b ∈ bs, Rp S b.1 b.2) → RpAll S (bs.map (·.1)) (bs.map (·.2))
  | [], _ => .nil
  | b :: bs, h => .cons (h b List.mem_cons_self) (dpa_of_zip fun c hc => h c (List.mem_cons_of_mem _ hc))
theorem z_sortA : CbZ (rSortA kf.K) GSortA := fun ds r h => by
  unfold GSortA at h
  split at h
  · rename_i ds
    split at h
    · rename_i hc
      cases h
      simp only [sortOk, Bool.and_eq_true, List.all_eq_true, Bool.or_eq_true, decide_eq_true_eq] at hc
      obtain ⟨⟨h1, h2⟩, h3⟩ := hc
      intro S H vs Q sh hr q
      cases hr with
      | cons a b =>
        cases b
        cases a with
        | @lst a xs _ r1 r2 =>
          have len := dpa_length r2
          have e1 : (xs.zip ds).map (·.1) = xs := by rw [List.map_fst_zip]; omega
          have e2 : (xs.zip ds).map (·.2) = ds := by rw [List.map_snd_zip]; omega
          have za := zip_all r2
          have dsm : ∀ b ∈ xs.zip ds, b.2 ∈ ds := fun b hb => by rw [← e2]; exact List.mem_map_of_mem hb
          refine ⟨a, xs.zip ds, rfl, by rw [e1]; exact sh.seq r1, fun b hb => rp_dp _ _ (noDc_alike _ (h1 b.2 (dsm b hb) b.2 (dsm b hb))) (dp_mono sh _ _ (za b hb)), by rw [e2]; exact fun d hd e he => h1 d hd e he, ?_, fun b hb => h3 b.2 (dsm b hb), fun p hp => ?_⟩
          · rw [e2]
            rcases h2 with h2 | h2
            · refine .inl fun d hd => ?_
              have := h2 d hd
              match d, this with
              | .tuple (x :: r), _ => exact ⟨x, r, rfl⟩
            · refine .inr fun d hd => ?_
              have := h2 d hd
              exact ⟨fun z => by subst z; simp [isPl] at this, fun xs z => by subst z; simp [isPl] at this⟩
          · have e3 : ((xs.zip ds).mergeSort (PySem.W.dataLe false fun b => b.2)).map (·.2) = dsort ds := by
              have := PySem.W.sort_maps (r := PySem.W.dataLe false fun (b : V × D) => b.2) (s := dLe) (fun b : V × D => b.2) (l := xs.zip ds) (fun a _ b _ => rfl)
              rw [this]
              unfold dsort
              rw [e2]
            have ra := dpa_of_zip (S := S) (bs := (xs.zip ds).mergeSort (PySem.W.dataLe false fun b => b.2)) fun b hb => za b ((List.mergeSort_perm _ _).mem_iff.mp hb)
            rw [e3] at ra
            exact own_lst sh hp ra q
    · cases h
  · cases h
end MR

namespace MR
open PySem PySem.Spec PyProof.Rows L2 PL
/-! ### {k: v for .. in ..}, the keys tuples -/
section
variable {X : Cx} {pins : List (Addr × Obj)} {σ : L2.St} {H H' : Hp} {s : Shared} {E : Value → Shared → Prop}
theorem d_dset {D : Addr} {y z : V} {u r : Value} {Q : Unit → Shared → Prop} (hu : X.A.units + 1 < cLine) (I : Inv X pins σ H s) (g : DPut H D y z H') (ry : RelV y u) (rz : RelV z r)
    (h : ∀ s', Inv X pins σ H' s' → Q () s') : wpAny (model X.prog X.w) X.A (dictSet D u r) Q E s := by
  rcases g with ⟨kvs, k, e, rfl, l, rfl⟩ | ⟨kvs, k, b, e, rfl, eb, l, rfl⟩
  · exact d_dictSet I e l ry rz h
  · cases (show u = Value.ref b from ry)
    obtain ⟨_, hD, xs, rel, dd⟩ := dt_of I.hok e
    have l1 := length_putK kvs k z
    have l2 := Paired.length rel
    refine wpAny_dictSet_heap (hsz := by omega) (show X.A.units < cLine by omega) (key_of I.hok eb) dd fun h' ⟨q, es, ep, p1, p2, p3, p4, _, p5⟩ sb => h _ ?_
    exact d_write I (by rw [e]; trivial) sb ⟨q, p1⟩ ⟨by omega, hD, _, (rel.put k eb rz).keeps (fun c ys ec => by
      have nc : c ≠ D := ne_of ec e fun w => nomatch w
      rw [upd_ne nc]; exact ec), q, es, ep, p1, p2, p3, p4, p5⟩
end
variable {X : Cx}
/-- what is asked of one turn -/
def dcTurn (J : It) (W : Nat → Nat → Hp → Prop) (g : TG) (tk tv : TE) (vs : List Nat) (σ : L2.St) (D i m : Nat) (H : Hp) : Prop :=
  J.go i H ∧ ∃ Nx : Hp → Prop, (∀ H', Nx H' → ∃ m', m' < m ∧ W (i + 1) m' H') ∧
    ∀ x H', J.yld i H x H' → g x (wipe σ vs) H' fun σ2 H2 => wipe σ2 vs = wipe σ vs ∧
      tk σ2 H2 fun y H3 => tv σ2 H3 fun z H4 => ∃ H5, DPut H4 D y z H5 ∧ Nx H5
def tDcT (wi : TI) (g : TG) (tk tv : TE) (vs : List Nat) : TE := fun σ H Q => wi σ H fun J H1 => ∀ D, H1 D = none →
  ∃ W : Nat → Nat → Hp → Prop, (∃ m, W 0 m (upd H1 D (.dT []))) ∧ ∀ i m H, W i m H → (J.stop i H ∧ Q (.ref D) H) ∨ dcTurn J W g tk tv vs σ D i m H
theorem pe_dcT {kx vx tg iter : Expr} {scope : Scope} {own : List (Str × Nat)} {pos : Pos} {wi : TI} {g : TG} {tk tv : TE} (hu : X.A.units + 1 < cLine) (hc : X.calm = true) (nd : X.N.Nodup) (pi : PI X tg iter wi) (ok : BlkOk X.N X.env.scope scope own)
    (pg : ∀ s H C cl fp, PG (X.blk s H scope (compEnvC scope cl C X.env) fp) tg g)
    (pk : ∀ s H C cl fp, PE (X.blk s H scope (compEnvC scope cl C X.env) fp) kx tk)
    (pv : ∀ s H C cl fp, PE (X.blk s H scope (compEnvC scope cl C X.env) fp) vx tv)
    (fold : ∀ x, foldedSetIterable iter X.env x = pure x := by intro _; rfl) : PE X (.DictComp kx vx [⟨tg, iter, [], 0⟩] scope pos) (tDcT wi g tk tv (own.map (·.2))) := by
  constructor
  intro pins s σ H Q I h
  rw [arm_eval_DictComp]
  have fr : ∀ y ∈ scope.names, y.2 = .free → ∃ c, X.env.cells.lookup y.1 = some c := fun y hy e =>
    (ok.free y hy e).elim (fun k => I.ok.has _ (.inl k)) fun k => I.ok.has _ (.inr k)
  refine wpAny_comprehension_free (use := none) rfl fold (closure_ok fr) ok.kind (fun y hy e => by rw [ok.uniq y hy, e]) ?_
  refine thn (pi.run pins s σ H _ I h) fun xv sa ha => thn ha fun itv sb hb => ?_
  obtain ⟨it, fp, tn, J, Hb, rfl, Ib, T, stb, fb, turns⟩ := hb
  refine wpAny_newObj_type (newEnv_comp ?_)
  -- the dict's address, the heap with it
  obtain ⟨D, hD⟩ : ∃ D, sb.heap.objs.size = D := ⟨_, rfl⟩
  obtain ⟨W, ⟨m0, w0⟩, turn⟩ := turns D (Ib.hok.fresh (by omega))
  obtain ⟨sc, hsc⟩ : ∃ sc : Shared, ({ sb with heap := sb.heap.push { cls := .type "dict", data := .dict #[] } } : Shared) = sc := ⟨_, rfl⟩
  have heapc : sc.heap = sb.heap.push { cls := .type "dict", data := .dict #[] } := by rw [← hsc]
  have old : ∀ b o, sb.heap.get? b = some o → sc.heap.get? b = some o := fun b o e => by
    rw [heapc]; exact Heap.get?_push_of_some _ e
  obtain ⟨Hc, hHc⟩ : ∃ Hc, upd Hb D (.dT []) = Hc := ⟨_, rfl⟩
  have Ic : Inv X pins σ Hc sc := by
    rw [← hHc, ← hsc, ← hD]
    exact Ib.laid (t' := sb.toks) (fun b o e => Heap.get?_push_of_some _ e) (Nat.le_refl _) (dt_empty sb.heap Ib.big)
  have fc : ∀ b ∈ fp, FpOk X pins Hc b ∧ b < sc.heap.objs.size := fun b hb => by
    obtain ⟨o, e, _⟩ := T.obj _ _ stb b hb
    have lt := Heap.lt_size e
    refine ⟨⟨?_, (fb b hb).2⟩, Heap.lt_size (old b o e)⟩
    rw [← hHc, upd_ne (fun w => Nat.lt_irrefl D (by rw [← w]; rw [← w] at hD; rw [hD] at lt; exact lt))]
    exact (fb b hb).1
  have nc : ∀ b ∈ fp, Hc b = none := fun b hb => (fc b hb).1.1
  have stc : tn 0 sc.heap := T.keep _ _ _ stb fun b _ o e => old b o e
  -- the block
  have Id := block_start Ic ok nd fc
  have G := pg sc Hc sc.heap.objs.size (cellsFrom (sc.heap.objs.size + 1) scope.names (cloFrom X.env.cells scope.names [])) fp
  have Kx := pk sc Hc sc.heap.objs.size (cellsFrom (sc.heap.objs.size + 1) scope.names (cloFrom X.env.cells scope.names [])) fp
  have Vx := pv sc Hc sc.heap.objs.size (cellsFrom (sc.heap.objs.size + 1) scope.names (cloFrom X.env.cells scope.names [])) fp
  rw [hD, hsc]
  show codeAny (model X.prog X.w) X.A (.compStart (.DictComp kx vx [⟨tg, iter, [], 0⟩] scope pos) 0 (.ref it) (.ref D)
      (compEnvC scope (cellsFrom (sc.heap.objs.size + 1) scope.names (cloFrom X.env.cells scope.names [])) sc.heap.objs.size X.env))
    (compPost (model X.prog X.w) X.A X.xe none (EP X pins σ Q) (.ref D) sc.heap.objs.size)
    { sc with heap := pushCells (sc.heap.push { cls := .type "dict", data := .dict #[] }) scope.names }
  obtain ⟨ce, hce⟩ : ∃ ce, compEnvC scope (cellsFrom (sc.heap.objs.size + 1) scope.names (cloFrom X.env.cells scope.names [])) sc.heap.objs.size X.env = ce := ⟨_, rfl⟩
  have loc : ce.locals = sc.heap.objs.size := by rw [← hce]; rfl
  rw [hce] at Id G Kx Vx ⊢
  obtain ⟨sd, hsd⟩ : ∃ sd : Shared, ({ sc with heap := pushCells (sc.heap.push { cls := .type "dict", data := .dict #[] }) scope.names } : Shared) = sd := ⟨_, rfl⟩
  rw [hsd] at Id ⊢
  have std : tn 0 sd.heap := T.keep _ _ _ stc fun b _ o e => by
    rw [← hsd]; exact pushCells_keeps _ _ _ _ (Heap.get?_push_of_some _ e)
  -- what doesn't move
  have fix : ∀ {σ' : L2.St} {H' : Hp} {s' : Shared}, Inv (X.blk sc Hc scope ce fp) [] σ' H' s' → (∀ b ∈ fp, H' b = none) → ∀ b ∈ fp, FpOk (X.blk sc Hc scope ce fp) [] H' b := by
    intro σ' H' s' I' n b hb
    have e := I'.ok.exf b hb
    exact ⟨n b hb, e.1, I'.ok.exfs b hb, .inl hb, fun x c q => e.2 x c q, fun p hp => by cases (show p ∈ ([] : List (Addr × Obj)) from by simpa using hp)⟩
  suffices loop : codeAny (model X.prog X.w) X.A (.compLoop (.DictComp kx vx [⟨tg, iter, [], 0⟩] scope pos) 0 (.ref it) (.ref D) ce)
      (compPost (model X.prog X.w) X.A X.xe none (EP X pins σ Q) (.ref D) sc.heap.objs.size) sd from codeAny_compStart_dict loop (T.self X.A 0 _ _ _ std loop)
  refine compLoop_anyD (fun n s' => ∃ i H', Inv (X.blk sc Hc scope ce fp) [] (wipe σ (own.map (·.2))) H' s' ∧ tn i s'.heap ∧ (∀ b ∈ fp, H' b = none) ∧ W i n H') ?_ m0 ⟨0, Hc, Id, std, nc, hHc ▸ w0⟩
  intro n s5 ⟨i, H5, I5, st5, n5, w5⟩
  rcases turn i n H5 w5 with ⟨stop, qe⟩ | ⟨go, Nx, hN, step⟩
  · -- the end
    refine thnF (T.done (X.blk sc Hc scope ce fp) rfl rfl rfl hc i [] s5 _ H5 (fun _ _ => False) I5 (fix I5 n5) st5 stop) fun r s6 hr => ?_
    obtain ⟨rfl, I6⟩ := hr
    have back : Inv X pins σ H5 s6 := Ic.call' (ch := fp) I6.os I6.base I6.hok I6.bare fun b hb => by
      obtain ⟨_, z1, z2, z3, z4, z5⟩ := (fc b hb).1
      exact ⟨z3, z1, z4, z5⟩
    have nloc : H5 sc.heap.objs.size = none := by rw [← loc]; exact I6.free
    obtain ⟨m, hm, _⟩ := I6.loc
    have hm : s6.heap.Ns sc.heap.objs.size m := by rw [← loc]; exact hm
    refine ⟨m, hm, fun h'' sb' => ?_⟩
    obtain ⟨f0, f1, f2, f3, f4, f5⟩ := Ic.fpOk (Nat.le_refl _) nloc
    exact ⟨.ref D, H5, back.turned (t' := s6.toks) (fun b o hb e => (sb'.2 b hb).trans e) f0 f1 f3 f4 f5, rfl, qe⟩
  · -- a turn
    refine thnF (T.item (X.blk sc Hc scope ce fp) rfl rfl rfl hc i [] s5 _ H5 (fun _ _ => False) I5 (fix I5 n5) st5 go) fun r s6 hr => ?_
    obtain ⟨u, rfl, h6⟩ := hr
    refine thnF h6 fun _ s7 ⟨x, H7, I7, r7, y7, st7, n7⟩ => ?_
    have I7' := I7.pinned (fix I7 n7) (T.obj _ _ st7)
    refine thnF (G.run _ s7 _ H7 x u _ I7' r7 (step x H7 y7)) fun _ s8 ⟨σ8, H8, I8, wp8, q8⟩ => ?_
    refine thnF ((pts_nil (X := X.blk sc Hc scope ce fp)).run _ s8 σ8 H8 (fun b H' => b = true ∧ tk σ8 H' fun y H3 => tv σ8 H3 fun z H4 => ∃ H5, DPut H4 D y z H5 ∧ Nx H5) I8 ⟨rfl, q8⟩) fun b s9 ⟨H9, I9, e9, q9⟩ => ?_
    subst e9
    rw [if_pos rfl]
    refine thnF (Kx.run _ s9 σ8 H9 _ I9 q9) fun ku s10 ⟨y, Ha, Ia, ry, qa⟩ => ?_
    refine thnF (Vx.run _ s10 σ8 Ha _ Ia qa) fun vu s11 ⟨z, Hz, Iz, rz, He, dp, nx⟩ => ?_
    refine d_dset (X := X.blk sc Hc scope ce fp) hu Iz dp ry rz fun s12 I12 => ?_
    obtain ⟨m', lt, w'⟩ := hN He nx
    have pinned : ∀ b ∈ fp, ∀ o, s7.heap.get? b = some o → s12.heap.get? b = some o ∧ He b = none := fun b hb o e => by
      have q := I12.pin (b, o) (List.mem_append_right _ (List.mem_append_right _ (mem_pinsAt hb e)))
      exact ⟨q.1, q.2.1⟩
    have len : (wipe σ (own.map (·.2))).length = σ8.length := by rw [← wp8, wipe_length]
    refine ⟨m', lt, i + 1, He, (I12.unpinned (pins := [])).weak len (fun j v e => ?_), T.keep _ _ _ st7 fun b hb o e => (pinned b hb o e).1, fun b hb => ?_, w'⟩
    · rw [← wp8] at e
      exact (wipe_some e).1
    · obtain ⟨o, e, _⟩ := T.obj _ _ st7 b hb
      exact (pinned b hb o e).2
end MR

namespace MR
open PySem L2 PL
variable [kf : KF]
/-- a pair put into an owned dict -/
theorem Ok.dput {S0 H0 S2 H2 : Hp} {A0 : List Addr} {σ : List (Option V)} {ρ : List OT} {i : Nat} {ks : List (List Key)} {ts : List OT} {k : List Key} {d v : D} {u w : V} (o2 : Ok S0 H0 A0 S2 H2 σ ρ) (ht : ρ[i]? = some (.nd (.dT ks) ts)) (hc1 : ks.length = ts.length) (hc2 : ks.length ≤ 1000000)
    (h4 : keyP d = some k) (r2 : Rp H2 u d) (hfl : flat v = true) (r1 : Rp H2 w v) :
    ∃ a, σ[i]? = some (some (.ref a)) ∧ ∃ H3, DPut H2 a u w H3 ∧ Ok S0 H0 A0 S2 H3 σ (ρ.set i (.nd (putO ks ts k (.d v)).1 (putO ks ts k (.d v)).2)) := by
  obtain ⟨w0', a', vs', B', C', g1', g2', g5', g3', g6', g7', g8', g9', g10'⟩ := Ok.rewrite (τσ := []) (τρ := []) (p := []) rfl o2.dummy ht rfl rfl
  simp only [follow, Option.some.injEq] at g2'
  cases g2'
  unfold keyP at h4
  split at h4
  · rename_i i1 j1
    cases h4
    obtain ⟨ka, rfl, ke⟩ := rp_pair (p := (i1, j1)) r2
    have len := g7'.len
    refine ⟨a', g1', _, DPut.t (k := [.inl i1, .inl j1]) g3' ke (sz_lt (by rw [List.length_zip]; omega)), ?_⟩
    rw [putK_zip (by omega)]
    have vw : OOk S2 H2 w (.d v) [] := .d (dp_flat hfl r1)
    have done : ∀ {k' : Kd} {us : List V} {ts' : List OT} {B2 : List Addr}, k'.isTup = false → k'.fits ts'.length → OAll S2 H2 us ts' B2 → B2.Nodup → (∀ b ∈ B2, b ∈ B') → (.nd k' ts' = OT.nd (putO ks ts [.inl i1, .inl j1] (.d v)).1 (putO ks ts [.inl i1, .inl j1] (.d v)).2) →
        Ok S0 H0 A0 S2 (upd H2 a' (shape k' us)) σ (ρ.set i (.nd (putO ks ts [.inl i1, .inl j1] (.d v)).1 (putO ks ts [.inl i1, .inl j1] (.d v)).2)) := by
      intro k' us ts' B2 z1 z2 z3 z4 z5 z6
      have := g10' (k' := k') (y' := Option.none) (r' := .no) (C' := []) z1 z2 z3 .no (by simpa using z4) (fun b hb => List.mem_append_left _ (z5 b (by simpa using hb)))
      have := this.drop
      simp only [OT.put] at this
      rw [z6] at this
      exact this
    have ndB := (List.nodup_append.mp g9').1
    split
    · rename_i hany
      have gen : ∀ (ks : List (List Key)) (vs : List V) (ts : List OT) (B : List Addr), ks.length = ts.length → OAll S2 H2 vs ts B → B.Nodup → ∃ B2, OAll S2 H2 ((ks.zip vs).map fun p => if p.1 = [Sum.inl i1, Sum.inl j1] then w else p.2) ((ks.zip ts).map fun p => if p.1 = [Sum.inl i1, Sum.inl j1] then OT.d v else p.2) B2 ∧ B2.Nodup ∧ ∀ b ∈ B2, b ∈ B := by
        intro ks
        induction ks with
        | nil => intro vs ts B hl h nd; exact ⟨[], .nil, List.nodup_nil, fun b hb => by cases hb⟩
        | cons x ks ih =>
          intro vs ts B hl h nd
          cases ts with
          | nil => simp at hl
          | cons t ts =>
            cases h with
            | @cons v0 vs _ _ A B h1 h2 =>
              have nd' := List.nodup_append.mp nd
              obtain ⟨B2, q1, q2, q3⟩ := ih vs ts B (by simpa using hl) h2 nd'.2.1
              simp only [List.zip_cons_cons, List.map_cons]
              by_cases e : x = [Sum.inl i1, Sum.inl j1]
              · rw [if_pos e, if_pos e]
                exact ⟨[] ++ B2, .cons vw q1, by simpa using q2, fun b hb => List.mem_append_right _ (q3 b (by simpa using hb))⟩
              · rw [if_neg e, if_neg e]
                refine ⟨A ++ B2, .cons h1 q1, List.nodup_append.mpr ⟨nd'.1, q2, fun a ha b hb => nd'.2.2 a ha b (q3 b hb)⟩, fun b hb => ?_⟩
                rcases List.mem_append.mp hb with z | z
                · exact List.mem_append_left _ z
                · exact List.mem_append_right _ (q3 b z)
      obtain ⟨B2, q1, q2, q3⟩ := gen ks vs' ts B' hc1 g7' ndB
      refine done (k' := .dT ks) rfl ?_ q1 q2 q3 ?_
      · show ks.length = _
        rw [List.length_map, List.length_zip]; omega
      · unfold putO; rw [if_pos hany]
    · rename_i hany
      refine done (k' := .dT (ks ++ [[.inl i1, .inl j1]])) rfl ?_ (g7'.app (.one vw)) (by simpa using ndB) (fun b hb => by simpa using hb) ?_
      · show (ks ++ [[Sum.inl i1, Sum.inl j1]]).length = (ts ++ [OT.d v]).length
        simp [hc1]
      · unfold putO; rw [if_neg hany]
  · cases h4
/-- {k: v for ..}: keys pairs, values flat -/
def dcPut (p : List (List Key) × List OT) (k : List Key) (v : D) : List (List Key) × List OT := match putO p.1 p.2 k (.d v) with
  | (.dT ks, ts) => (ks, ts)
  | _ => p
omit kf in
theorem dcPut_eq (p : List (List Key) × List OT) (k : List Key) (v : D) : putO p.1 p.2 k (.d v) = (.dT (dcPut p k v).1, (dcPut p k v).2) := by
  unfold dcPut putO
  split <;> rfl
omit kf in
theorem dcPut_len {p : List (List Key) × List OT} {k : List Key} {v : D} (h : p.1.length = p.2.length) : (dcPut p k v).1.length = (dcPut p k v).2.length ∧ (dcPut p k v).1.length ≤ p.1.length + 1 := by
  have e := dcPut_eq p k v
  unfold putO at e
  split at e
  · injection e with e1 e2
    injection e1 with e1
    rw [← e1, ← e2]
    simp; omega
  · injection e with e1 e2
    injection e1 with e1
    rw [← e1, ← e2]
    simp; omega
def mDc (vs : List Nat) (step : D → Env → Option (D × D × Env)) : List D → List (List Key) × List OT → Env → Option ((List (List Key) × List OT) × Env)
  | [], acc, ρ => some (acc, ρ)
  | x :: xs, acc, ρ => match step x ρ with
    | some (d, v, ρ') => match keyP d with
      | some k => if flat v then mDc vs step xs (dcPut acc k v) (wipeE ρ' vs) else Option.none
      | Option.none => Option.none
    | Option.none => Option.none
def dcStep (g : Gm) (k v : Rm) : D → Env → Option (D × D × Env) := fun x ρ => (g x ρ).bind fun ρm => (k ρm).bind fun d => (v ρm).map fun e => (d, e, ρm)
def yDc (vs : List Nat) (it : Lm) (g : Gm) (k v : Rm) : Ym := fun ρ => (it ρ).bind fun p => if calmAt p.2 vs && decide (p.1.length ≤ 1000000) then
  match mDc vs (dcStep g k v) p.1 ([], []) (wipeE p.2 vs) with
  | some (a, ρ2) => some (.nd (.dT a.1) a.2, rst ρ2 p.2 vs)
  | Option.none => Option.none
  else Option.none
theorem c_ydc {wi : TI} {lm : Lm} {g : TG} {gm : Gm} {is vs : List Nat} {tk tv : TE} {k v : Rm} (hi : CI wi lm) (hg : CG g gm is) (hjs : ∀ j ∈ is, j ∈ vs) (hk : CR tk k) (hv : CR tv v) : CY (tDcT wi g tk tv vs) (yDc vs lm gm k v) := fun ρ r ρ' h => by
  simp only [yDc, Option.bind_eq_some_iff] at h
  obtain ⟨⟨ds, ρ1⟩, h1, h2⟩ := h
  split at h2
  · rename_i hcz
    simp only [Bool.and_eq_true, decide_eq_true_eq] at hcz
    obtain ⟨hc, hz⟩ := hcz
    split at h2
    · rename_i acc ρ2 hf
      cases h2
      refine fun S0 H0 A0 S H τσ τρ σ Q l o q => hi _ _ _ h1 S0 H0 A0 S H τσ τρ σ _ l o fun J S1 H1 ss1 o1 hJ Dl hD => ?_
      have lσ : σ.length = ρ1.length := by have := o1.len; simp at this; omega
      have start : Ok S0 H0 A0 S1 (upd H1 Dl (.dT [])) (some (.ref Dl) :: (τσ ++ L2.wipe σ vs)) (.nd (.dT []) [] :: (τρ ++ wipeE ρ1 vs)) := by
        obtain ⟨B, h1, h2, h3⟩ := (o1.wipe l vs).env
        exact Ok.node (k := .dT []) (vs := []) (rs := []) (B := []) o1.xt .nil h1 (by simpa using h2) (by simpa using h3) hD rfl
      refine ⟨fun i m H' => m = ds.length - i ∧ i ≤ ds.length ∧ ∃ S' acc' ρi, Same S1 S' ∧ Ok S0 H0 A0 S' H' (some (.ref Dl) :: (τσ ++ L2.wipe σ vs)) (.nd (.dT acc'.1) acc'.2 :: (τρ ++ ρi)) ∧ mDc vs (dcStep gm k v) (ds.drop i) acc' ρi = some (acc, ρ2) ∧ acc'.1.length = acc'.2.length ∧ acc'.1.length ≤ i,
        ⟨_, rfl, Nat.zero_le _, S1, ([], []), _, Same.refl _, start, hf, rfl, Nat.le_refl _⟩, ?_⟩
      rintro i m H' ⟨rfl, hi, S', acc', ρi, s1, o', hf', hl1, hl2⟩
      obtain ⟨st, go⟩ := hJ S' H' s1 o'.sh
      by_cases hl : i < ds.length
      · obtain ⟨g1, g2⟩ := go i ds[i] (List.getElem?_eq_getElem hl)
        rw [List.drop_eq_getElem_cons hl] at hf'
        unfold mDc at hf'
        cases hst : dcStep gm k v ds[i] ρi with
        | none => rw [hst] at hf'; cases hf'
        | some p =>
          obtain ⟨d, e, ρm⟩ := p
          rw [hst] at hf'
          simp only [] at hf'
          cases hkey : keyP d with
          | none => rw [hkey] at hf'; cases hf'
          | some key =>
            rw [hkey] at hf'
            simp only [] at hf'
            split at hf'
            · rename_i hfl
              simp only [dcStep, Option.bind_eq_some_iff, Option.map_eq_some_iff] at hst
              obtain ⟨ρm', k1, d', k2, e', k3, k4⟩ := hst
              cases k4
              refine .inr ⟨g1, fun H2 => ∃ S2, Same S1 S2 ∧ Ok S0 H0 A0 S2 H2 (some (.ref Dl) :: (τσ ++ L2.wipe σ vs)) (.nd (.dT (dcPut acc' key e).1) (dcPut acc' key e).2 :: (τρ ++ wipeE ρm vs)),
                fun H2 ⟨S2, b1, b2⟩ => ⟨_, by omega, rfl, hl, S2, dcPut acc' key e, _, b1, b2, hf', (dcPut_len hl1).1, by have := (dcPut_len (k := key) (v := e) hl1).2; omega⟩, fun w H2 hy => ?_⟩
              obtain ⟨S2, x2, hv2⟩ := g2 w H2 hy
              have o2 := o'.ext x2
              refine hg _ _ _ k1 S0 H0 A0 S2 H2 (some (.ref Dl) :: τσ) (.nd (.dT acc'.1) acc'.2 :: τρ) (L2.wipe σ vs) _ w (by simp [l]) o2 hv2 fun σ3 o3 l3 k3' => ?_
              have we : L2.wipe σ3 vs = L2.wipe σ vs := wipe_eq l3 fun k hk => k3' k fun z => hk (hjs k z)
              refine ⟨we, hk _ _ k2 S0 H0 A0 S2 H2 (some (.ref Dl) :: τσ) (.nd (.dT acc'.1) acc'.2 :: τρ) σ3 _ (by simp [l]) o3 fun y S3 H3 x3 r3 => ?_⟩
              have o4 := o3.ext x3
              refine hv _ _ k3 S0 H0 A0 S3 H3 (some (.ref Dl) :: τσ) (.nd (.dT acc'.1) acc'.2 :: τρ) σ3 _ (by simp [l]) o4 fun z S4 H4 x4 r4 => ?_
              have o5 := o4.ext x4
              obtain ⟨a, ea, H5, dp, o6⟩ := Ok.dput (i := 0) o5 rfl hl1 (by omega) hkey (dp_mono x4.hh _ _ r3) hfl r4
              cases ea
              rw [dcPut_eq] at o6
              have o7 := Ok.wipe (τσ := some (.ref Dl) :: τσ) (τρ := .nd (.dT (dcPut acc' key e).1) (dcPut acc' key e).2 :: τρ) (by simp [l]) o6 vs
              rw [we] at o7
              exact ⟨H5, dp, S4, s1.trans (x2.ss.trans (x3.ss.trans x4.ss)), o7⟩
            · cases hf'
      · have e : i = ds.length := by omega
        subst e
        rw [List.drop_length] at hf'
        simp only [mDc, Option.some.injEq, Prod.mk.injEq] at hf'
        obtain ⟨rfl, rfl⟩ := hf'
        refine .inl ⟨st, q _ S' H' (ss1.trans s1) ?_⟩
        have := Ok.restore (τσ := some (.ref Dl) :: τσ) (τρ := .nd (.dT acc'.1) acc'.2 :: τρ) (σ0 := σ) (ρ0 := ρ1) (ρe := ρi) (by simp [l]) l o1 s1 vs (L2.wipe σ vs) hc o' lσ
        rw [rst_wipe] at this
        exact this
    · cases h2
  · cases h2
/-- t in d, d an owned dict by pairs -/
def rInDct (neg : Bool) (a : Rm) (i : Nat) : Rm := fun ρ => (a ρ).bind fun d => (keyP d).bind fun k => match ρ[i]? with
  | some (.nd (.dT ks) ts) => if ks.length = ts.length then some (.bool (if neg then !(ks.any fun x => decide (x = k)) else ks.any fun x => decide (x = k))) else Option.none
  | _ => Option.none
theorem any_zip {α β : Type} (f : α → Bool) : ∀ {ks : List α} {vs : List β}, ks.length = vs.length → ((ks.zip vs).any fun p => f p.1) = ks.any f
  | [], [], _ => rfl
  | k :: ks, v :: vs, h => by rw [List.zip_cons_cons, List.any_cons, List.any_cons, any_zip f (by simpa using h)]
theorem inDct_get {S0 H0 S H : Hp} {A0 : List Addr} {τσ σ : List (Option V)} {τρ ρ : List OT} {i : Nat} {ks : List (List Key)} {ts : List OT} {k : List Key} {d : D} {u : V} (l : τσ.length = τρ.length) (o : Ok S0 H0 A0 S H (τσ ++ σ) (τρ ++ ρ)) (ht : ρ[i]? = some (.nd (.dT ks) ts)) (hl : ks.length = ts.length)
    (hk : keyP d = some k) (r : Rp H u d) : ∃ a r', σ[i]? = some (some (.ref a)) ∧ DGet H a u r' ∧ r'.isSome = ks.any fun x => decide (x = k) := by
  obtain ⟨v, A, e1, e2⟩ := o.slot l ht (by intro z; cases z)
  obtain ⟨a, vs, B, rfl, rfl, g1, g2, g3, g4⟩ := e2.inv_nd rfl
  unfold keyP at hk
  split at hk
  · rename_i i1 j1
    cases hk
    obtain ⟨ka, rfl, ke⟩ := rp_pair (p := (i1, j1)) r
    have g3' : H a = some (.dT (ks.zip vs)) := g3
    refine ⟨a, _, e1, DGet.t (k := [.inl i1, .inl j1]) g3' ke, ?_⟩
    rw [← valV_any]
    exact any_zip (fun x => decide (x = [Sum.inl i1, Sum.inl j1])) (by rw [g4.len]; exact hl)
  · cases hk
theorem c_inDct {ta : TE} {a : Rm} {i : Nat} (ha : CR ta a) : CR (tDIn ta (tVar i)) (rInDct false a i) := fun ρ x h => by
  simp only [rInDct, Option.bind_eq_some_iff] at h
  obtain ⟨d, h1, k, h2, h3⟩ := h
  split at h3
  · rename_i ks ts ht
    split at h3
    · rename_i hl
      cases h3
      refine fun S0 H0 A0 S H τσ τρ σ Q l o q => ha _ _ h1 S0 H0 A0 S H τσ τρ σ _ l o fun u S1 H1 x1 r1 => ?_
      obtain ⟨ad, r', e1, g1, g2⟩ := inDct_get l (o.ext x1) ht hl h2 r1
      exact ⟨_, e1, ad, r', rfl, g1, by rw [g2]; exact q _ S1 H1 x1 (.bl _)⟩
    · cases h3
  · cases h3
theorem c_notInDct {ta : TE} {a : Rm} {i : Nat} (ha : CR ta a) : CR (tDNotIn ta (tVar i)) (rInDct true a i) := fun ρ x h => by
  simp only [rInDct, Option.bind_eq_some_iff] at h
  obtain ⟨d, h1, k, h2, h3⟩ := h
  split at h3
  · rename_i ks ts ht
    split at h3
    · rename_i hl
      cases h3
      refine fun S0 H0 A0 S H τσ τρ σ Q l o q => ha _ _ h1 S0 H0 A0 S H τσ τρ σ _ l o fun u S1 H1 x1 r1 => ?_
      obtain ⟨ad, r', e1, g1, g2⟩ := inDct_get l (o.ext x1) ht hl h2 r1
      exact ⟨_, e1, ad, r', rfl, g1, by rw [g2]; exact q _ S1 H1 x1 (.bl _)⟩
    · cases h3
  · cases h3
end MR

/-! MR: further constructs -/
namespace MR
open PySem L2 PL
/-! ### xs[::-1] -/
def rRevL (a : Rm) : Rm := fun ρ => (a ρ).bind fun d => (asL d).map fun xs => .list xs.reverse
def yRevL (a : Dm) : Ym := fun ρ => (a ρ).bind fun p => (asL p.1).map fun xs => (lstO xs.reverse, p.2)
def yRevLA (ra : Rm) (a : Dm) : Ym := fun ρ => match (ra ρ).bind fun d => (asL d).bind fun xs => lfO (some (lstO xs.reverse)) with
  | some r => some (r, ρ)
  | Option.none => yRevL a ρ
theorem pe_revLK {K : PySem.W.Frag} {X : Cx} (hK : X.K = K) {e : Expr} {te : TE} {k : Nat} {p1 p2 p3 pos : Pos} (he : PE X e te) : PE X (.Subscript e (.Slice none none (some (.UnaryOp .USub (.Constant (.int 1) k p1) p2)) p3) pos) (tRevL K te) := by subst hK; exact pe_revL he
theorem dpa_rev {S : Hp} [kf : KF] : ∀ {vs : List V} {xs : List D}, RpAll S vs xs → RpAll S vs.reverse xs.reverse
  | [], _, h => by cases h; exact .nil
  | v :: vs, _, h => by
    cases h with
    | cons a b => rw [List.reverse_cons, List.reverse_cons]; exact dpa_append (dpa_rev b) (.cons a .nil)
variable [kf : KF]
variable {ta : TE} {a : Rm} {dm : Dm}
theorem c_rRevL (ha : CR ta a) : CR (tRevL kf.K ta) (rRevL a) := fun ρ x h => by
  simp only [rRevL, Option.bind_eq_some_iff, Option.map_eq_some_iff] at h
  obtain ⟨d, h1, xs, h2, rfl⟩ := h
  have e := asL_some h2
  subst e
  refine fun S0 H0 A0 S H τσ τρ σ Q l o q => ha _ _ h1 S0 H0 A0 S H τσ τρ σ _ l o fun v S1 H1 x1 r1 => ?_
  cases r1 with
  | lst r1 r2 =>
    have r3 := dpa_rev r2
    refine ⟨_, _, rfl, r1, fun p hp => ?_⟩
    exact q _ S1 _ (x1.trans (.new x1.sh hp)) (.lst (SqL.of upd_same) (dpa_mono (Xt.new (o := .lst _) x1.sh hp).hh _ _ r3))
theorem c_yRevL (ha : CD ta dm) : CY (tRevL kf.K ta) (yRevL dm) := fun ρ r ρ' h => by
  simp only [yRevL, Option.bind_eq_some_iff, Option.map_eq_some_iff] at h
  obtain ⟨⟨d, ρ1⟩, h1, xs, h2, h5⟩ := h
  cases h5
  have e := asL_some h2
  simp only at e
  subst e
  refine fun S0 H0 A0 S H τσ τρ σ Q l o q => ha _ _ _ h1 S0 H0 A0 S H τσ τρ σ _ l o fun v S1 H1 s1 o1 r1 => ?_
  cases r1 with
  | lst r1 r2 =>
    exact ⟨_, _, rfl, (o1.sh).seq r1, fun p hp => own_lst o1.sh hp (dpa_rev r2) fun v' S' H' A xt g nd fr => q v' S' H' (s1.trans xt.ss) (o1.push xt g nd fr)⟩
theorem c_yRevLA (hra : CR ta a) (ha : CD ta dm) : CY (tRevL kf.K ta) (yRevLA a dm) := fun ρ r ρ' h => by
  unfold yRevLA at h
  split at h
  · rename_i r' hr
    cases h
    simp only [Option.bind_eq_some_iff] at hr
    obtain ⟨d, h1, xs, h2, h5⟩ := hr
    obtain ⟨h6, h7⟩ := lfO_some h5
    cases h6
    have e := asL_some h2
    subst e
    refine fun S0 H0 A0 S H τσ τρ σ Q l o q => hra _ _ h1 S0 H0 A0 S H τσ τρ σ _ l o fun v S1 H1 x1 r1 => ?_
    cases r1 with
    | lst r1 r2 =>
      refine ⟨_, _, rfl, r1, fun p hp => own_lst (Same.refl H1) hp (dpa_rev r2) fun v' S' H' A xt g nd fr => ?_⟩
      exact q v' _ H' (x1.trans (xt_low x1.sh xt)).ss ((o.ext x1).push (xt_low x1.sh xt) (ook_lf xt.sh _ _ _ g h7 fun a ha => x1.sh.free (fr a ha)) nd fr)
  · exact c_yRevL ha _ _ _ h

/-! ### comprehensions with two fors -/
omit kf in
def mLc2 (vs vs1 : List Nat) (g : Gm) (t : Tm) (it1 : Lm) (step1 : D → Env → Option (Option OT × Env)) : List D → List OT → Env → Option (List OT × Env)
  | [], acc, ρ => some (acc, ρ)
  | x :: xs, acc, ρ => match (g x ρ).bind t with
    | some (true, ρt) => match it1 ρt with
      | some (ds1, ρ3) => if ds1.length ≤ 1000000 then match mLc vs1 step1 ds1 acc (wipeE ρ3 vs1) with
        | some (acc', ρ4) => mLc2 vs vs1 g t it1 step1 xs acc' (wipeE ρ4 vs)
        | Option.none => Option.none
        else Option.none
      | Option.none => Option.none
    | some (false, ρt) => mLc2 vs vs1 g t it1 step1 xs acc (wipeE ρt vs)
    | Option.none => Option.none
theorem mLc2_len {vs vs1 : List Nat} {g : Gm} {t : Tm} {it1 : Lm} {step1 : D → Env → Option (Option OT × Env)} : ∀ {ds : List D} {acc rs : List OT} {ρ ρ' : Env}, mLc2 vs vs1 g t it1 step1 ds acc ρ = some (rs, ρ') → acc.length ≤ rs.length
  | [], acc, rs, ρ, ρ', h => by simp [mLc2] at h; obtain ⟨rfl, rfl⟩ := h; simp
  | x :: xs, acc, rs, ρ, ρ', h => by
    unfold mLc2 at h
    split at h
    · split at h
      · split at h
        · split at h
          · rename_i e
            have := mLc2_len h
            have := mLc_len e
            omega
          · cases h
        · cases h
      · cases h
    · exact mLc2_len h
    · cases h
theorem wipe_in {σ : St} {vs vs1 : List Nat} (h : ∀ i ∈ vs1, i ∈ vs) : L2.wipe (L2.wipe σ vs1) vs = L2.wipe σ vs := by
  apply List.ext_getElem?
  intro k
  rw [wipe_get, wipe_get, wipe_get, L2.wipe_length]
  by_cases hk : k ∈ vs
  · rw [if_pos hk, if_pos hk]
  · rw [if_neg hk, if_neg hk, if_neg fun z => hk (h k z)]
section
variable {ρ ρ1 ρ2 ρ' : Env} {te : TE}
theorem evy_lc2 {wi wi1 : TI} {g g1 : TG} {gm : Gm} {tt tt1 : TT} {tm : Tm} {it1 : Lm} {vs vs1 is : List Nat} {ds : List D} {step1 : D → Env → Option (Option OT × Env)} {rs : List OT} (hv : ∀ i ∈ vs1, i ∈ vs) (hi : IterM wi ρ ds ρ1)
    (hg : CG g gm is) (hj : ∀ j ∈ is, j ∈ vs) (ht : CT tt tm) (hi1 : CI wi1 it1)
    (hs : ∀ x ρa o ρb, step1 x ρa = some (o, ρb) → ∃ ρm is b ρt, TgM g1 x ρa ρm is ∧ (∀ j ∈ is, j ∈ vs1) ∧ EvT tt1 ρm b ρt ∧ (match o with
      | some r => b = true ∧ r ≠ .no ∧ EvY te ρt r ρb
      | Option.none => b = false ∧ ρb = ρt))
    (hf : mLc2 vs vs1 gm tm it1 step1 ds [] (wipeE ρ1 vs) = some (rs, ρ2)) (hc : calmAt ρ1 vs = true) (hz : rs.length ≤ 1000000) : EvY (tLc2 wi g tt wi1 g1 tt1 te vs vs1) ρ (.nd .lst rs) (rst ρ2 ρ1 vs) := fun S0 H0 A0 S H τσ τρ σ Q l o q =>
  hi S0 H0 A0 S H τσ τρ σ _ l o fun J S1 H1 ss1 o1 hJ Dl hD => by
    have lσ : σ.length = ρ1.length := by have := o1.len; simp at this; omega
    have start : Ok S0 H0 A0 S1 (upd H1 Dl (.lst [])) (some (.ref Dl) :: (τσ ++ L2.wipe σ vs)) (.nd .lst [] :: (τρ ++ wipeE ρ1 vs)) := by
      obtain ⟨B, h1, h2, h3⟩ := (o1.wipe l vs).env
      exact Ok.node (k := .lst) (vs := []) (rs := []) (B := []) o1.xt .nil h1 (by simpa using h2) (by simpa using h3) hD trivial
    refine ⟨fun i m H' => m = ds.length - i ∧ i ≤ ds.length ∧ ∃ S' acc ρi, Same S1 S' ∧ Ok S0 H0 A0 S' H' (some (.ref Dl) :: (τσ ++ L2.wipe σ vs)) (.nd .lst acc :: (τρ ++ ρi)) ∧ mLc2 vs vs1 gm tm it1 step1 (ds.drop i) acc ρi = some (rs, ρ2),
      ⟨_, rfl, Nat.zero_le _, S1, [], _, Same.refl _, start, hf⟩, ?_⟩
    rintro i m H' ⟨rfl, hil, S', acc, ρi, s1, o', hf'⟩
    obtain ⟨st, go⟩ := hJ S' H' s1 o'.sh
    by_cases hl : i < ds.length
    · obtain ⟨g1', g2⟩ := go i ds[i] (List.getElem?_eq_getElem hl)
      rw [List.drop_eq_getElem_cons hl] at hf'
      unfold mLc2 at hf'
      refine .inr ⟨g1', fun H2 => ∃ S2 acc2 ρn, Same S1 S2 ∧ Ok S0 H0 A0 S2 H2 (some (.ref Dl) :: (τσ ++ L2.wipe σ vs)) (.nd .lst acc2 :: (τρ ++ ρn)) ∧ mLc2 vs vs1 gm tm it1 step1 (ds.drop (i + 1)) acc2 ρn = some (rs, ρ2),
          fun H2 ⟨S2, acc2, ρn, b1, b2, b3⟩ => ⟨_, by omega, rfl, hl, S2, acc2, ρn, b1, b2, b3⟩, fun w H2 hy => ?_⟩
      obtain ⟨S2, x2, hv2⟩ := g2 w H2 hy
      have o2 := o'.ext x2
      cases hgm : gm ds[i] ρi with
      | none => rw [hgm] at hf'; cases hf'
      | some ρm =>
        rw [hgm, Option.bind_some] at hf'
        refine hg _ _ _ hgm S0 H0 A0 S2 H2 (some (.ref Dl) :: τσ) (.nd .lst acc :: τρ) (L2.wipe σ vs) _ w (by simp [l]) o2 hv2 fun σ3 o3 l3 k3 => ?_
        have we : L2.wipe σ3 vs = L2.wipe σ vs := wipe_eq l3 fun k hk => k3 k fun z => hk (hj k z)
        refine ⟨we, ?_⟩
        cases htm : tm ρm with
        | none => rw [htm] at hf'; cases hf'
        | some p =>
          obtain ⟨b, ρt⟩ := p
          rw [htm] at hf'
          refine ht _ _ _ htm S0 H0 A0 S2 H2 (some (.ref Dl) :: τσ) (.nd .lst acc :: τρ) σ3 _ (by simp [l]) o3 fun S3 H3 s3 o4 => ?_
          have sa : Same S1 S3 := s1.trans (x2.ss.trans s3)
          cases b with
          | false =>
            simp only at hf'
            have o5 := Ok.wipe (τσ := some (.ref Dl) :: τσ) (τρ := .nd .lst acc :: τρ) (by simp [l]) o4 vs
            rw [we] at o5
            exact iteF ⟨S3, acc, _, sa, o5, hf'⟩
          | true =>
            simp only at hf'
            cases hit : it1 ρt with
            | none => rw [hit] at hf'; cases hf'
            | some p1 =>
              obtain ⟨ds1, ρ3⟩ := p1
              rw [hit] at hf'
              simp only at hf'
              split at hf'
              · rename_i hz1
                cases hm1 : mLc vs1 step1 ds1 acc (wipeE ρ3 vs1) with
                | none => rw [hm1] at hf'; cases hf'
                | some p2 =>
                  obtain ⟨acc', ρ4⟩ := p2
                  rw [hm1] at hf'
                  simp only at hf'
                  have hzz : acc'.length ≤ 1000000 := Nat.le_trans (mLc2_len hf') hz
                  refine iteT (hi1 _ _ _ hit S0 H0 A0 S3 H3 (some (.ref Dl) :: τσ) (.nd .lst acc :: τρ) σ3 _ (by simp [l]) o4 fun J1 S5 H5 s5 o5 hJ1 => ?_)
                  have o5w := Ok.wipe (τσ := some (.ref Dl) :: τσ) (τρ := .nd .lst acc :: τρ) (by simp [l]) o5 vs1
                  refine ⟨fun j k H' => k = ds1.length - j ∧ j ≤ ds1.length ∧ ∃ S' ac ρj, Same S5 S' ∧ Ok S0 H0 A0 S' H' (some (.ref Dl) :: (τσ ++ L2.wipe σ3 vs1)) (.nd .lst ac :: (τρ ++ ρj)) ∧ mLc vs1 step1 (ds1.drop j) ac ρj = some (acc', ρ4),
                    ⟨_, rfl, Nat.zero_le _, S5, acc, _, Same.refl _, o5w, hm1⟩, ?_⟩
                  rintro j k H6 ⟨rfl, hjl, S6, ac, ρj, s6, o6, hm6⟩
                  obtain ⟨st1, go1⟩ := hJ1 S6 H6 s6 o6.sh
                  by_cases hl1 : j < ds1.length
                  · obtain ⟨g3, g4⟩ := go1 j ds1[j] (List.getElem?_eq_getElem hl1)
                    rw [List.drop_eq_getElem_cons hl1] at hm6
                    have hlen := mLc_len hm6
                    unfold mLc at hm6
                    cases hst : step1 ds1[j] ρj with
                    | none => rw [hst] at hm6; cases hm6
                    | some p3 =>
                      obtain ⟨oo, ρb⟩ := p3
                      rw [hst] at hm6
                      obtain ⟨ρm1, is1, b1, ρt1, ht1, hjs1, hb1, he1⟩ := hs _ _ _ _ hst
                      refine .inr ⟨g3, fun H2 => ∃ S2 acc2, Same S5 S2 ∧ Ok S0 H0 A0 S2 H2 (some (.ref Dl) :: (τσ ++ L2.wipe σ3 vs1)) (.nd .lst acc2 :: (τρ ++ wipeE ρb vs1)) ∧ mLc vs1 step1 (ds1.drop (j + 1)) acc2 (wipeE ρb vs1) = some (acc', ρ4),
                        fun H2 ⟨S2, acc2, b1, b2, b3⟩ => ⟨_, by omega, rfl, hl1, S2, acc2, _, b1, b2, b3⟩, fun w1 H7 hy1 => ?_⟩
                      obtain ⟨S7, x7, hv7⟩ := g4 w1 H7 hy1
                      have o7 := o6.ext x7
                      refine ht1 S0 H0 A0 S7 H7 (some (.ref Dl) :: τσ) (.nd .lst ac :: τρ) (L2.wipe σ3 vs1) _ w1 (by simp [l]) o7 hv7 fun σ8 o8 l8 k8 => ?_
                      have we1 : L2.wipe σ8 vs1 = L2.wipe σ3 vs1 := wipe_eq l8 fun k hk => k8 k fun z => hk (hjs1 k z)
                      refine ⟨we1, ?_⟩
                      refine hb1 S0 H0 A0 S7 H7 (some (.ref Dl) :: τσ) (.nd .lst ac :: τρ) σ8 _ (by simp [l]) o8 fun S9 H9 s9 o9 => ?_
                      have sb : Same S5 S9 := s6.trans (x7.ss.trans s9)
                      cases oo with
                      | none =>
                        obtain ⟨rfl, rfl⟩ := he1
                        have o10 := Ok.wipe (τσ := some (.ref Dl) :: τσ) (τρ := .nd .lst ac :: τρ) (by simp [l]) o9 vs1
                        rw [we1] at o10
                        exact iteF ⟨S9, ac, sb, o10, hm6⟩
                      | some r =>
                        obtain ⟨rfl, hn, he1⟩ := he1
                        refine iteT (he1 S0 H0 A0 S9 H9 (some (.ref Dl) :: τσ) (.nd .lst ac :: τρ) σ8 _ (by simp [l]) o9 fun y S10 H10 s10 o10 => ?_)
                        obtain ⟨a0, e1, e2, o11⟩ := Ok.append o10 hn
                        have o12 := Ok.wipe (τσ := some (.ref Dl) :: τσ) (τρ := .nd .lst (ac ++ [r]) :: τρ) (by simp [l]) o11 vs1
                        rw [we1] at o12
                        have hb : (ac ++ [r]).length ≤ acc'.length := (mLc_len hm6).1
                        simp only [List.length_append, List.length_cons, List.length_nil] at hb
                        exact ⟨a0, e1, sz_lt (by omega), S10, ac ++ [r], sb.trans s10, o12, hm6⟩
                  · have e : j = ds1.length := by omega
                    subst e
                    rw [List.drop_length] at hm6
                    simp only [mLc, Option.some.injEq, Prod.mk.injEq] at hm6
                    obtain ⟨rfl, rfl⟩ := hm6
                    have o7 := Ok.wipe (τσ := some (.ref Dl) :: τσ) (τρ := .nd .lst ac :: τρ) (by simp [l]) o6 vs
                    rw [wipe_in hv, we] at o7
                    exact .inl ⟨st1, S6, ac, _, sa.trans (s5.trans s6), o7, hf'⟩
              · cases hf'
    · have e : i = ds.length := by omega
      subst e
      rw [List.drop_length] at hf'
      simp only [mLc2, Option.some.injEq, Prod.mk.injEq] at hf'
      obtain ⟨rfl, rfl⟩ := hf'
      refine .inl ⟨st, q _ S' H' (ss1.trans s1) ?_⟩
      have := Ok.restore (τσ := some (.ref Dl) :: τσ) (τρ := .nd .lst acc :: τρ) (σ0 := σ) (ρ0 := ρ1) (ρe := ρi) (by simp [l]) l o1 s1 vs (L2.wipe σ vs) hc o' lσ
      rw [rst_wipe] at this
      exact this
end
omit kf in
def yLc2 (vs vs1 : List Nat) (it : Lm) (g : Gm) (t : Tm) (it1 : Lm) (g1 : Gm) (t1 : Tm) (e : Ym) : Ym := fun ρ => (it ρ).bind fun p => if calmAt p.2 vs then
  match mLc2 vs vs1 g t it1 (lcStep g1 t1 e) p.1 [] (wipeE p.2 vs) with
  | some (rs, ρ2) => if rs.length ≤ 1000000 then some (.nd .lst rs, rst ρ2 p.2 vs) else Option.none
  | Option.none => Option.none
  else Option.none

theorem c_ylc2 {wi wi1 : TI} {g g1 : TG} {gm gm1 : Gm} {tt tt1 : TT} {tm tm1 : Tm} {te : TE} {y : Ym} {lm lm1 : Lm} {is is1 vs vs1 : List Nat} (hi : CI wi lm) (hg : CG g gm is) (hs : ∀ j ∈ is, j ∈ vs) (ht : CT tt tm) (hi1 : CI wi1 lm1) (hg1 : CG g1 gm1 is1) (hs1 : ∀ j ∈ is1, j ∈ vs1) (hv : ∀ j ∈ vs1, j ∈ vs) (ht1 : CT tt1 tm1) (he : CY te y) : CY (tLc2 wi g tt wi1 g1 tt1 te vs vs1) (yLc2 vs vs1 lm gm tm lm1 gm1 tm1 y) := fun ρ r ρ' h => by
  simp only [yLc2, Option.bind_eq_some_iff] at h
  obtain ⟨⟨ds, ρ1⟩, h1, h2⟩ := h
  split at h2
  · rename_i hc
    cases hm : mLc2 vs vs1 gm tm lm1 (lcStep gm1 tm1 y) ds [] (wipeE ρ1 vs) with
    | none => simp only at h2; rw [hm] at h2; cases h2
    | some p =>
      obtain ⟨rs, ρ2⟩ := p
      simp only at h2
      rw [hm] at h2
      simp only at h2
      split at h2
      · rename_i hz
        cases h2
        refine evy_lc2 hv (hi _ _ _ h1) hg hs ht hi1 (fun x ρa o ρb hst => ?_) hm hc hz
        simp only [lcStep, Option.bind_eq_some_iff] at hst
        obtain ⟨ρm, g1, ⟨b, ρt⟩, g2, g3⟩ := hst
        refine ⟨ρm, is1, b, ρt, hg1 _ _ _ g1, hs1, ht1 _ _ _ g2, ?_⟩
        cases b with
        | false => simp at g3; obtain ⟨rfl, rfl⟩ := g3; exact ⟨rfl, rfl⟩
        | true =>
          simp only [if_true, Option.bind_eq_some_iff] at g3
          obtain ⟨⟨s, ρs⟩, g4, g5⟩ := g3
          split at g5
          · cases g5
          · rename_i hn
            cases g5
            exact ⟨rfl, isNo_false hn, he _ _ _ g4⟩
      · cases h2
  · cases h2

/-! ### range downwards -/
omit kf in
def rgDn (hi : Int) (n : Nat) : List D := (List.range n).map fun (k : Nat) => PyData.int (hi - (k : Int))
theorem jd_down {S : Hp} {lo : Int} {n : Nat} : JD S (Itc lo (-1) n) (rgDn lo n) := fun S1 H1 s1 sh => by
  refine ⟨by show n ≤ _; simp [rgDn], fun i x e => ?_⟩
  unfold rgDn at e
  rw [List.getElem?_map] at e
  by_cases hi : i < n
  · rw [List.getElem?_range hi] at e
    simp at e
    subst e
    refine ⟨hi, fun w H2 y => ?_⟩
    obtain ⟨rfl, rfl⟩ := y
    have e : lo + (i : Int) * (-1) = lo - (i : Int) := by omega
    rw [e]
    exact ⟨S1, .refl sh, .int _⟩
  · rw [List.getElem?_eq_none (by simpa using hi)] at e
    cases e
omit kf in
def iR3 (a : Lm) : Lm := fun ρ => (a ρ).bind fun p => match p.1 with
  | [.int m, .int n, .int (-1)] => if -(2 ^ 62) ≤ m ∧ m < 2 ^ 62 ∧ -(2 ^ 62) ≤ n ∧ n < 2 ^ 62 then some (rgDn m (m - n).toNat, p.2) else Option.none
  | _ => Option.none
theorem c_iR3 {tl : TA} {lm : Lm} (h : CL tl lm) : CI (iRng3 tl) (iR3 lm) := fun ρ xs ρ' e => by
  simp only [iR3, Option.bind_eq_some_iff] at e
  obtain ⟨⟨d, ρ1⟩, e1, e2⟩ := e
  simp only at e2
  split at e2
  · rename_i m n
    split at e2
    · rename_i hb
      cases e2
      exact fun S0 H0 A0 S H τσ τρ σ R l o q => h _ _ _ e1 S0 H0 A0 S H τσ τρ σ _ l o fun v S' H' ss o' hs => by
        cases hs with | cons a b => cases b with | cons b c => cases c with | cons c f => cases a; cases b; cases c; cases f; exact ⟨m, n, -1, _, rfl, RgC.neg hb.1 hb.2.1 hb.2.2.1 hb.2.2.2, q _ S' H' ss o' jd_down⟩
    · cases e2
  · cases e2
/-! ### x += e -/
theorem c_aug {te : TE} {a : Rm} {R : R2} {g : D → D → Option D} {js : List Nat} {i : Nat} (hR : OpM R g) (ha : CR te a) (hi : i ∉ js := by decide) : CS js (tAug i te R) (sAsg i (yR (rOp g (rVar i) a))) :=
  c_asg (te := tOp R (tVar i) te) (c_yR (c_op hR (c_var i) ha)) hi
/-! ### xs.extend(ys), ys fresh; xs.pop() -/
section
variable {ρ ρ1 : Env} {t0 : OT} {ts us : List OT} {js : List Nat} {i : Nat} {te : TE} {s : OT}
theorem run_extendY (h0 : ρ[i]? = some t0) (h0n : ∃ us, t0 = .nd .lst us) (he : EvY te ρ (.nd .lst us) ρ1) (ht : ρ1[i]? = some (.nd .lst ts)) (hz : ts.length + us.length ≤ 1000000) :
    RunS js (tDrop (tBM kf.K "list" rExtend (tVar i) (tCons te tNil))) ρ .nx (ρ1.set i (.nd .lst (ts ++ us))) := fun S0 H0 A0 S H σ F E hF hx o kk => by
  obtain ⟨us0, rfl⟩ := h0n
  obtain ⟨w0, a, vs, B, C, g1, g2, _, g3, _⟩ := Ok.rewrite (τσ := []) (τρ := []) (p := []) rfl o.dummy h0 rfl rfl
  simp only [follow, Option.some.injEq] at g2
  subst g2
  refine ⟨_, g1, .inl ⟨rfl, vs, .inl (.inl g3)⟩, he S0 H0 A0 S H [] [] σ _ rfl o fun y S2 H2 s2 o2 => ?_⟩
  obtain ⟨w0', a', vs', B', C', g1', g2', g5, g3', g6, g7, g8, g9, g10⟩ := Ok.rewrite (τσ := []) (τρ := []) (p := []) rfl o2 ht rfl rfl
  rw [g1] at g1'; cases g1'
  simp only [follow, Option.some.injEq] at g2'
  cases g2'
  cases g8 with
  | is g8 =>
    obtain ⟨b, ws, D, rfl, rfl, k1, k2, k3, k4⟩ := g8.inv_nd rfl
    refine ⟨a, b, vs', ws, rfl, rfl, g3', k3, sz_of (by rw [g7.len, k4.len]; exact hz), ?_⟩
    have nd := List.nodup_append.mp g9
    have nd2 := List.nodup_cons.mp nd.2.1
    have := g10 (k' := .lst) (y' := Option.none) (r' := .no) (C' := []) rfl trivial (g7.app k4) .no (by
      rw [List.append_nil]
      exact List.nodup_append.mpr ⟨nd.1, nd2.2, fun x hx y hy e => nd.2.2 x hx y (List.mem_cons_of_mem _ hy) e⟩) (fun x hx => by
      rw [List.append_nil] at hx
      rcases List.mem_append.mp hx with z | z
      · exact List.mem_append_left _ z
      · exact List.mem_append_right _ (List.mem_cons_of_mem _ z))
    exact kk S2 _ σ s2 hx this.drop
theorem evy_pop0 (h0 : ρ[i]? = some (.nd .lst ts)) (hs : ts[ts.length - 1]? = some s) :
    EvY (tBM0 kf.K "list" rPop (tVar i)) ρ s (ρ.set i (.nd .lst (ts.eraseIdx (ts.length - 1)))) := fun S0 H0 A0 S H τσ τρ σ Q l o q => by
  obtain ⟨w0', a', vs', B', C', g1', g2', g5, g3', g6, g7, g8, g9, g10⟩ := Ok.rewrite (p := []) l o.dummy h0 rfl rfl
  simp only [follow, Option.some.injEq] at g2'
  subst g2'
  obtain ⟨v, B2, C2, q0, q1, q2, q3, q4⟩ := g7.out (j := ts.length - 1) (List.nodup_append.mp g9).1 hs
  have e : vs'.dropLast = vs'.eraseIdx (ts.length - 1) := by rw [← g7.len, List.eraseIdx_length_sub_one]
  refine ⟨_, g1', .inl ⟨rfl, vs', .inl (.inl g3')⟩, a', vs', v, rfl, rfl, g3', by rw [g7.len]; exact q0, ?_⟩
  rw [e]
  have := g10 (k' := .lst) (y' := some v) (r' := s) (C' := C2) rfl trivial q1 (.is q2) q3 (fun b hb => List.mem_append_left _ (q4 b hb))
  exact q v S _ (Same.refl S) this
end
omit kf in
def sExt (i : Nat) (y : Ym) : Sm := fun ρ => match ρ[i]? with
  | some (.nd .lst _) => (y ρ).bind fun p => match p.1 with
    | .nd .lst us => match p.2[i]? with
      | some (.nd .lst ts) => if ts.length + us.length ≤ 1000000 then some (.nx, p.2.set i (.nd .lst (ts ++ us))) else Option.none
      | _ => Option.none
    | _ => Option.none
  | _ => Option.none
theorem c_ext {te : TE} {y : Ym} {js : List Nat} {i : Nat} (he : CY te y) : CS js (tDrop (tBM kf.K "list" rExtend (tVar i) (tCons te tNil))) (sExt i y) := fun ρ fl ρ' e => by
  unfold sExt at e
  split at e
  · rename_i us0 h0
    simp only [Option.bind_eq_some_iff] at e
    obtain ⟨⟨r, ρ1⟩, e1, e2⟩ := e
    simp only at e2
    split at e2
    · split at e2
      · rename_i ts h1
        split at e2
        · cases e2
          exact run_extendY h0 ⟨_, rfl⟩ (he _ _ _ e1) h1 (by assumption)
        · cases e2
      · cases e2
    · cases e2
  · cases e
omit kf in
def yPop0 (i : Nat) : Ym := fun ρ => match ρ[i]? with
  | some (.nd .lst ts) => (ts[ts.length - 1]?).map fun s => (s, ρ.set i (.nd .lst (ts.eraseIdx (ts.length - 1))))
  | _ => Option.none
theorem c_pop0 (i : Nat) : CY (tBM0 kf.K "list" rPop (tVar i)) (yPop0 i) := fun ρ r ρ' e => by
  unfold yPop0 at e
  split at e
  · rename_i ts h0
    simp only [Option.map_eq_some_iff] at e
    obtain ⟨s, e1, e2⟩ := e
    cases e2
    exact evy_pop0 h0 e1
  · cases e
/-! ### str of an int -/
omit kf in
def gStrI : List D → Option D
  | [.int i] => if i.natAbs.log2 < 1920 then some (.str (toString i)) else Option.none
  | _ => Option.none
theorem b_strI : CbM (fun xs H Q => ∃ i : Int, xs = [V.int i] ∧ i.natAbs.log2 < 1920 ∧ Q (.str (toString i)) H) gStrI := fun ds x h => by
  unfold gStrI at h
  split at h
  · rename_i i
    split at h
    · rename_i hi
      cases h
      intro H vs Q hr q
      cases hr with | cons a b => cases a; cases b; exact ⟨i, rfl, hi, q _ rfl⟩
    · cases h
  · cases h
end MR

/-! MR: for x in xs, the items one's own and put back -/
namespace MR
open PySem L2 PL
def mForO (i x : Nat) (body : Sm) : Nat → Nat → Env → Option (Fl × Env)
  | _, 0, ρ => some (.nx, ρ)
  | k, m + 1, ρ => if ρ.length ≤ x then Option.none else match ρ[i]? with
    | some (.fl ts) => match ts[k]? with
      | some t => match body ((ρ.set i (.fl (ts.set k .no))).set x t) with
        | some (.nx, ρ') => match ρ'[i]?, ρ'[x]? with
          | some (.fl ts'), some t' => if ts'.length = ts.length then mForO i x body (k + 1) m ((ρ'.set x .no).set i (.fl (ts'.set k t'))) else Option.none
          | _, _ => Option.none
        | some (.ct, ρ') => match ρ'[i]?, ρ'[x]? with
          | some (.fl ts'), some t' => if ts'.length = ts.length then mForO i x body (k + 1) m ((ρ'.set x .no).set i (.fl (ts'.set k t'))) else Option.none
          | _, _ => Option.none
        | some (.bk, ρ') => some (.nx, ρ')
        | some (.rt r, ρ') => some (.rt r, ρ')
        | Option.none => Option.none
      | Option.none => Option.none
    | _ => Option.none
def sForO (i x : Nat) (b : Sm) : Sm := fun ρ => match ρ[i]? with
  | some (.nd .lst ts) => mForO i x b 0 ts.length (ρ.set i (.fl ts))
  | _ => Option.none
variable [kf : KF]
section
variable {S H S' H' S0 H0 : Hp} {A0 : List Addr} {σ τσ : St} {ρ τρ : Env}
theorem OAll.hole {s : OT} : ∀ {ts : List OT} {vs : List V} {B : List Addr} {j : Nat}, OAll S H vs ts B → B.Nodup → ts[j]? = some s → ∃ v B' C', vs[j]? = some v ∧ OAll S H vs (ts.set j .no) B' ∧ OOk S H v s C' ∧ (C' ++ B').Nodup ∧ ∀ b ∈ C' ++ B', b ∈ B
  | [], _, _, j, h, _, e => by simp at e
  | t :: ts, _, _, j, h, nd, e => by
    cases h with
    | @cons v vs _ _ A B h0 ht =>
      cases j with
      | zero =>
        have e' : t = s := by simpa using e
        subst e'
        exact ⟨v, _, A, rfl, .cons .no ht, h0, nd, fun b hb => hb⟩
      | succ j =>
        have nd' := List.nodup_append.mp nd
        obtain ⟨w, B', C', e1, e2, e3, e4, e5⟩ := OAll.hole (j := j) ht nd'.2.1 (by simpa using e)
        have nd4 := List.nodup_append.mp e4
        refine ⟨w, A ++ B', C', by simpa using e1, .cons h0 e2, e3, ?_, fun b hb => ?_⟩
        · refine List.nodup_append.mpr ⟨nd4.1, List.nodup_append.mpr ⟨nd'.1, nd4.2.1, fun a ha b hb e => ?_⟩, fun a ha b hb e => ?_⟩
          · subst e; exact nd'.2.2 a ha a (e5 a (List.mem_append_right _ hb)) rfl
          · subst e
            rcases List.mem_append.mp hb with z | z
            · exact nd'.2.2 a z a (e5 a (List.mem_append_left _ ha)) rfl
            · exact nd4.2.2 a ha a z rfl
        · rcases List.mem_append.mp hb with z | z
          · exact List.mem_append_right _ (e5 b (List.mem_append_left _ z))
          · rcases List.mem_append.mp z with z | z
            · exact List.mem_append_left _ z
            · exact List.mem_append_right _ (e5 b (List.mem_append_right _ z))
/-- what is in slot i is lifted onto the top -/
theorem Ok.lift {i : Nat} {t : OT} (o : Ok S0 H0 A0 S H σ ρ) (h : ρ[i]? = some t) : ∃ v, σ[i]? = some v ∧ Ok S0 H0 A0 S H (v :: σ) (t :: ρ.set i .no) := by
  obtain ⟨B, he, nd, fr⟩ := o.env
  obtain ⟨v, A, e1, e2, e3, e4, e5⟩ := he.pick nd h
  obtain ⟨B', q1, q2, q3⟩ := e5 (v' := v) (s' := .no) (A' := []) (Same.refl S) (fun _ _ z => z) (fun a ha _ => ⟨(he.at a ha).1, rfl⟩) .no List.nodup_nil (fun a ha => by cases ha)
  rw [set_same e1] at q1
  refine ⟨v, e1, o.xt, A ++ B', .cons e2 q1, List.nodup_append.mpr ⟨e3, q2, fun a ha b hb e => ?_⟩, fun a ha => ?_⟩
  · subst e
    rcases q3 a hb with z | z
    · cases z
    · exact z.2 ha
  · rcases List.mem_append.mp ha with z | z
    · exact fr a (e4 a z)
    · rcases q3 a z with y | y
      · cases y
      · exact fr a y.1
/-- the top's list stays as it is from now on -/
theorem Ok.fix {v : Option V} {ts : List OT} (o : Ok S0 H0 A0 S H (v :: σ) (.nd .lst ts :: ρ)) : ∃ S' a vs, Same S S' ∧ v = some (.ref a) ∧ S' a = some (.lst vs) ∧ vs.length = ts.length ∧ Ok S0 H0 A0 S' H (v :: σ) (.fl ts :: ρ) := by
  obtain ⟨A, he, nd, fr⟩ := o.env
  cases he with
  | @cons _ _ A1 _ _ B1 p1 p2 =>
    cases p1 with
    | is p1 =>
      obtain ⟨a, vs, B, rfl, rfl, k1, k2, k3, k4⟩ := p1.inv_nd rfl
      have nda := List.nodup_append.mp nd
      have ndc := List.nodup_cons.mp nda.1
      have ss := frz_same o.sh (A := [a])
      have keep : ∀ b, b ≠ a → (∃ u, H b = some u ∧ ∀ xs, u ≠ .tup xs) → S b = none → frz S H [a] b = none := fun b hb hu hs => by
        obtain ⟨u, hu, hn⟩ := hu
        rw [frz_out (by simpa using hb) fun xs z => by rw [hu] at z; exact hn xs (Option.some.inj z)]
        exact hs
      refine ⟨frz S H [a], a, vs, ss, rfl, (frz_in (List.mem_singleton.mpr rfl)).trans k3, k4.len, ⟨o.xt.hh, o.xt.dm, o.xt.tp, o.xt.ss.trans ss, frz_sub o.sh, fun b u eb => ?_⟩, B ++ B1, .cons (.is (.fl ((frz_in (List.mem_singleton.mpr rfl)).trans k3) (oall_keep ss (fun _ _ z => z) _ _ _ k4 fun b hb => ⟨?_, rfl⟩))) (p2.keep ss (fun _ _ z => z) fun b hb => ⟨?_, rfl⟩), ?_, fun b hb => ?_⟩
      · rcases frz_nw eb with z | z | ⟨xs, z⟩
        · exact o.xt.nw b u z
        · rw [List.mem_singleton.mp z]
          rcases fr a (List.mem_append_left _ List.mem_cons_self) with y | y
          · exact .inr (.inl y)
          · exact .inr (.inr fun w hw => by rw [y] at hw; cases hw)
        · by_cases hb : b ∈ A0
          · exact .inr (.inl hb)
          · exact .inr (.inr fun w hw => by
              have := o.xt.hh b w hb hw
              rw [z] at this
              exact ⟨xs, (Option.some.inj this).symm⟩)
      · obtain ⟨z1, z2⟩ := oall_at _ _ _ k4 b hb
        exact keep b (fun z => ndc.1 (z ▸ hb)) z2 z1
      · obtain ⟨z1, z2⟩ := p2.at b hb
        exact keep b (fun z => nda.2.2 a List.mem_cons_self b hb z.symm) z2 z1
      · exact List.nodup_append.mpr ⟨ndc.2, nda.2.1, fun x hx y hy => nda.2.2 x (List.mem_cons_of_mem _ hx) y hy⟩
      · rcases List.mem_append.mp hb with z | z
        · exact fr b (List.mem_append_left _ (List.mem_cons_of_mem _ z))
        · exact fr b (List.mem_append_right _ z)
/-- an item of the top's list is lifted above it -/
theorem Ok.hole {v : Option V} {ts : List OT} {k : Nat} {t : OT} (o : Ok S0 H0 A0 S H (v :: σ) (.fl ts :: ρ)) (h : ts[k]? = some t) : ∃ a vs w, v = some (.ref a) ∧ S a = some (.lst vs) ∧ vs[k]? = some w ∧ vs.length = ts.length ∧ Ok S0 H0 A0 S H (some w :: v :: σ) (t :: .fl (ts.set k .no) :: ρ) := by
  obtain ⟨A, he, nd, fr⟩ := o.env
  cases he with
  | @cons _ _ A1 _ _ B1 p1 p2 =>
    cases p1 with
    | is p1 =>
      cases p1 with
      | @fl a vs _ _ k1 k2 =>
        have nda := List.nodup_append.mp nd
        obtain ⟨w, B', C', e1, e2, e3, e4, e5⟩ := k2.hole nda.1 h
        have nd4 := List.nodup_append.mp e4
        refine ⟨a, vs, w, rfl, k1, e1, k2.len, o.xt, C' ++ (B' ++ B1), .cons (.is e3) (.cons (.is (.fl k1 e2)) p2), ?_, fun b hb => ?_⟩
        · rw [← List.append_assoc]
          exact List.nodup_append.mpr ⟨e4, nda.2.1, fun x hx y hy => nda.2.2 x (e5 x hx) y hy⟩
        · rw [← List.append_assoc] at hb
          rcases List.mem_append.mp hb with z | z
          · exact fr b (List.mem_append_left _ (e5 b z))
          · exact fr b (List.mem_append_right _ z)
/-- and put back -/
theorem Ok.back {v : Option V} {ts : List OT} {k : Nat} {t : OT} {a : Addr} {vs : List V} {w : V} (o : Ok S0 H0 A0 S H (some w :: v :: σ) (t :: .fl ts :: ρ)) (hv : v = some (.ref a)) (hs : S a = some (.lst vs)) (hw : vs[k]? = some w) : Ok S0 H0 A0 S H (v :: σ) (.fl (ts.set k t) :: ρ) := by
  obtain ⟨A, he, nd, fr⟩ := o.env
  subst hv
  cases he with
  | @cons _ _ A1 _ _ B1 p1 p2 =>
    cases p2 with
    | @cons _ _ A2 _ _ B2 q1 q2 =>
      cases q1 with
      | is q1 =>
        cases q1 with
        | @fl _ vs' _ _ k1 k2 =>
          have e : vs' = vs := by rw [hs] at k1; exact (HO.lst.inj (Option.some.inj k1)).symm
          subst e
          have nda := List.nodup_append.mp nd
          have ndb := List.nodup_append.mp nda.2.1
          have h1 : OOk S H w t A1 := by
            cases p1 with
            | no => exact .no
            | is p1 => exact p1
          obtain ⟨B', r1, r2, r3⟩ := k2.put (j := k) h1 (List.nodup_append.mpr ⟨ndb.1, nda.1, fun x hx y hy e => nda.2.2 y hy x (List.mem_append_left _ hx) e.symm⟩)
          rw [set_same hw] at r1
          refine ⟨o.xt, B' ++ B2, .cons (.is (.fl k1 r1)) q2, List.nodup_append.mpr ⟨r2, ndb.2.1, fun x hx y hy e => ?_⟩, fun b hb => ?_⟩
          · subst e
            rcases List.mem_append.mp (r3 x hx) with z | z
            · exact ndb.2.2 x z x hy rfl
            · exact nda.2.2 x z x (List.mem_append_right _ hy) rfl
          · rcases List.mem_append.mp hb with z | z
            · rcases List.mem_append.mp (r3 b z) with y | y
              · exact fr b (List.mem_append_right _ (List.mem_append_left _ y))
              · exact fr b (List.mem_append_left _ y)
            · exact fr b (List.mem_append_right _ (List.mem_append_right _ z))
end

/-- a slot's list is from now on as it stands -/
theorem Ok.fixAt {S H S0 H0 : Hp} {A0 : List Addr} {σ : St} {ρ : Env} {i : Nat} {ts : List OT} (o : Ok S0 H0 A0 S H σ ρ) (h : ρ[i]? = some (.nd .lst ts)) : ∃ S' a vs, Same S S' ∧ σ[i]? = some (some (.ref a)) ∧ S' a = some (.lst vs) ∧ vs.length = ts.length ∧ Ok S0 H0 A0 S' H σ (ρ.set i (.fl ts)) := by
  obtain ⟨v, e1, o1⟩ := o.lift h
  obtain ⟨S', a, vs, ss, rfl, e2, e3, o2⟩ := o1.fix
  have o3 := o2.store i
  rw [set_same e1, List.set_set] at o3
  exact ⟨S', a, vs, ss, e1, e2, e3, o3⟩
/-- its item k goes to the slot x -/
theorem Ok.holeTo {S H S0 H0 : Hp} {A0 : List Addr} {σ : St} {ρ : Env} {i x k : Nat} {ts : List OT} {t : OT} (hix : i ≠ x) (o : Ok S0 H0 A0 S H σ ρ) (h : ρ[i]? = some (.fl ts)) (ht : ts[k]? = some t) : ∃ a vs w, σ[i]? = some (some (.ref a)) ∧ S a = some (.lst vs) ∧ vs[k]? = some w ∧ vs.length = ts.length ∧ Ok S0 H0 A0 S H (σ.set x (some w)) ((ρ.set i (.fl (ts.set k .no))).set x t) := by
  obtain ⟨v, e1, o1⟩ := o.lift h
  obtain ⟨a, vs, w, rfl, e2, e3, e4, o2⟩ := o1.hole ht
  have o3 := o2.store (1 + x)
  rw [Nat.add_comm 1 x, List.set_cons_succ, List.set_cons_succ] at o3
  have o4 := o3.store i
  have e5 : (σ.set x (some w))[i]? = some (some (.ref a)) := by rw [List.getElem?_set_ne (fun z => hix z.symm)]; exact e1
  rw [set_same e5] at o4
  have e6 : (((ρ.set i .no).set x t).set i (.fl (ts.set k .no))) = (ρ.set i (.fl (ts.set k .no))).set x t := by
    rw [List.set_comm OT.no t hix, List.set_set, List.set_comm t _ (fun z => hix z.symm)]
  rw [e6] at o4
  exact ⟨a, vs, w, e1, e2, e3, e4, o4⟩
theorem Ok.backFrom {S H S0 H0 : Hp} {A0 : List Addr} {σ : St} {ρ : Env} {i x k : Nat} {ts : List OT} {t : OT} {a : Addr} {vs : List V} {w : V} (hix : i ≠ x) (o : Ok S0 H0 A0 S H σ ρ) (h : ρ[i]? = some (.fl ts)) (ht : ρ[x]? = some t) (e1 : σ[i]? = some (some (.ref a))) (e2 : σ[x]? = some (some w)) (hs : S a = some (.lst vs)) (hw : vs[k]? = some w) :
    Ok S0 H0 A0 S H σ ((ρ.set x .no).set i (.fl (ts.set k t))) := by
  obtain ⟨v, f1, o1⟩ := o.lift h
  rw [e1] at f1
  cases f1
  obtain ⟨v, f2, o2⟩ := o1.lift (i := x + 1) (t := t) (by rw [List.getElem?_cons_succ, List.getElem?_set_ne hix]; exact ht)
  rw [List.getElem?_cons_succ, e2] at f2
  cases f2
  rw [List.set_cons_succ] at o2
  have o3 := (o2.back rfl hs hw).store i
  rw [set_same e1] at o3
  have e6 : (((ρ.set i .no).set x .no).set i (.fl (ts.set k t))) = (ρ.set x .no).set i (.fl (ts.set k t)) := by
    rw [List.set_comm OT.no OT.no hix, List.set_set]
  rw [e6] at o3
  exact o3
theorem run_forO {js : List Nat} {t : TS} {i x : Nat} {body : Sm} {ρ ρ' : Env} {fl : Fl} (hix : i ≠ x) (hx : x ∉ js) (hb : CS (i :: x :: js) t body) (hf : sForO i x body ρ = some (fl, ρ')) : RunS js (tFor (iList kf.K (tVar i)) (gName x) t) ρ fl ρ' := fun S0 H0 A0 S H σ F E hF hxF o kk => by
  unfold sForO at hf
  split at hf
  · rename_i ts h0
    obtain ⟨S1, a, vs, ss1, e1, e2, e3, o1⟩ := o.fixAt h0
    have ha : H a = some (.lst vs) := o1.sh _ _ e2
    refine ⟨_, e1, a, rfl, ⟨vs, .of ha⟩, fun k m σ' H' => m = ts.length - k ∧ k ≤ ts.length ∧ ∃ S' ρk, Same S1 S' ∧ Fx F σ' ∧ σ'[i]? = some (some (.ref a)) ∧ Ok S0 H0 A0 S' H' σ' ρk ∧ mForO i x body k (ts.length - k) ρk = some (fl, ρ'), ⟨_, rfl, Nat.zero_le _, S1, _, Same.refl _, hxF, e1, o1, hf⟩, ?_⟩
    rintro k m σ' H' ⟨rfl, hk, S', ρk, s1, hxF', ei, o', hf'⟩
    have es : S' a = some (.lst vs) := s1 _ _ e2
    have eh : H' a = some (.lst vs) := o'.sh _ _ es
    by_cases hl : k < ts.length
    · obtain ⟨n, hn⟩ : ∃ n, ts.length - k = n + 1 := ⟨ts.length - k - 1, by omega⟩
      rw [hn] at hf'
      unfold mForO at hf'
      split at hf'
      · cases hf'
      · rename_i hlen
        split at hf'
        · rename_i us hu
          split at hf'
          · rename_i t0 ht0
            obtain ⟨a', vs', w, f1, f2, f3, f4, o2⟩ := o'.holeTo hix hu ht0
            rw [ei] at f1
            cases f1
            rw [es] at f2
            cases f2
            refine .inr ⟨⟨vs, w, .of eh, f3⟩, fun σ2 H2 => ∃ S2 ρ2, Same S1 S2 ∧ Fx F σ2 ∧ σ2[i]? = some (some (.ref a)) ∧ Ok S0 H0 A0 S2 H2 σ2 ρ2 ∧ mForO i x body (k + 1) n ρ2 = some (fl, ρ'), fun σ2 H2 ⟨S2, ρ2, b1, b2, b3, b4, b5⟩ => ⟨ts.length - (k + 1), by omega, rfl, by omega, S2, ρ2, b1, b2, b3, b4, by rw [show ts.length - (k + 1) = n by omega]; exact b5⟩, ?_⟩
            rintro w' H2 ⟨rfl, hw⟩
            have := hw vs (.of eh)
            rw [f3] at this
            cases this
            have hF2 : ((i, V.ref a) :: (x, w) :: F).map (·.1) = i :: x :: js := by simp [hF]
            have lx : x < σ'.length := by rw [o'.len]; omega
            have hxF2 : Fx ((i, V.ref a) :: (x, w) :: F) (σ'.set x (some w)) := fun p hp => by
              rcases List.mem_cons.mp hp with rfl | hp
              · rw [List.getElem?_set_ne (fun z => hix z.symm)]; exact ei
              · rcases List.mem_cons.mp hp with rfl | hp
                · rw [List.getElem?_set_self lx]
                · exact hxF'.set (by rw [hF]; exact hx) p hp
            show t _ (σ'.set x (some w)) H2
            have go : ∀ {ρb : Env} {S4 H4 : Hp} {σ4 : St}, Same S' S4 → Fx ((i, V.ref a) :: (x, w) :: F) σ4 → Ok S0 H0 A0 S4 H4 σ4 ρb → (match ρb[i]?, ρb[x]? with
                | some (.fl ts'), some t' => if ts'.length = us.length then mForO i x body (k + 1) n ((ρb.set x .no).set i (.fl (ts'.set k t'))) else Option.none
                | _, _ => Option.none) = some (fl, ρ') → ∃ S2 ρ2, Same S1 S2 ∧ Fx F σ4 ∧ σ4[i]? = some (some (.ref a)) ∧ Ok S0 H0 A0 S2 H4 σ4 ρ2 ∧ mForO i x body (k + 1) n ρ2 = some (fl, ρ') := by
              intro ρb S4 H4 σ4 s4 fx4 o4 hm
              split at hm
              · rename_i ts' t' g1 g2
                split at hm
                · have a1 := fx4 _ List.mem_cons_self
                  have a2 := fx4 _ (List.mem_cons_of_mem _ List.mem_cons_self)
                  refine ⟨S4, _, s1.trans s4, fun p hp => fx4 p (List.mem_cons_of_mem _ (List.mem_cons_of_mem _ hp)), a1, Ok.backFrom hix o4 g1 g2 a1 a2 (s4 _ _ es) f3, hm⟩
                · cases hm
              · cases hm
            split at hf'
            · rename_i ρb hbo
              exact hb _ _ _ hbo S0 H0 A0 S' H2 _ _ _ hF2 hxF2 o2 fun S4 H4 σ4 s4 fx4 o4 => go s4 fx4 o4 hf'
            · rename_i ρb hbo
              exact hb _ _ _ hbo S0 H0 A0 S' H2 _ _ _ hF2 hxF2 o2 fun S4 H4 σ4 s4 fx4 o4 => go s4 fx4 o4 hf'
            · rename_i ρb hbo
              cases hf'
              exact hb _ _ _ hbo S0 H0 A0 S' H2 _ _ _ hF2 hxF2 o2 fun S4 H4 σ4 s4 fx4 o4 => kk S4 H4 σ4 (ss1.trans (s1.trans s4)) (fun p hp => fx4 p (List.mem_cons_of_mem _ (List.mem_cons_of_mem _ hp))) o4
            · rename_i r ρb hbo
              cases hf'
              exact hb _ _ _ hbo S0 H0 A0 S' H2 _ _ _ hF2 hxF2 o2 fun v S4 H4 σ4 s4 fx4 o4 => kk v S4 H4 σ4 (ss1.trans (s1.trans s4)) (fun p hp => fx4 p (List.mem_cons_of_mem _ (List.mem_cons_of_mem _ hp))) o4
            · cases hf'
          · cases hf'
        · cases hf'
    · have e : k = ts.length := by omega
      subst e
      rw [Nat.sub_self] at hf'
      simp only [mForO, Option.some.injEq, Prod.mk.injEq] at hf'
      obtain ⟨rfl, rfl⟩ := hf'
      exact .inl ⟨⟨vs, .of eh, by omega⟩, kk S' H' σ' (ss1.trans s1) hxF' o'⟩
  · cases hf
theorem c_forO {js : List Nat} {t : TS} {i x : Nat} {body : Sm} (hb : CS (i :: x :: js) t body) (hix : i ≠ x := by decide) (hx : x ∉ js := by decide) : CS js (tFor (iList kf.K (tVar i)) (gName x) t) (sForO i x body) := fun ρ fl ρ' e => run_forO hix hx hb e
end MR

/-! MR: slots frozen for one statement alone -/
namespace MR
open PySem L2 PL
def bSet (P : Nat → Bool) : Nat → Env → Option Env
  | _, [] => some []
  | n, t :: ρ => (bSet P (n + 1) ρ).bind fun r => if P n then (OT.toD t).map fun x => .d x :: r else some (t :: r)
def dOnly : OT → OT
  | .d x => .d x
  | _ => .no
def bBack (P K : Nat → Bool) : Nat → Env → Env → Env
  | n, t :: ρ, t' :: ρ' => (if P n then t else if t'.lf then t' else if K n then dOnly t else .no) :: bBack P K (n + 1) ρ ρ'
  | _, _, _ => []
def inN (is : List Nat) (n : Nat) : Bool := is.contains n
def hasAt (ρ : Env) (i : Nat) : Bool := match ρ[i]? with
  | some .no => false
  | some _ => true
  | Option.none => false
def sBorrow (is ks : List Nat) (b : Sm) : Sm := fun ρ => if (is ++ ks).all (hasAt ρ) = false then Option.none else (bSet (inN is) 0 ρ).bind fun ρ1 => match b ρ1 with
  | some (.nx, ρ') => if ρ'.length = ρ.length then some (.nx, bBack (inN is) (inN ks) 0 ρ ρ') else Option.none
  | some (.rt r, ρ') => if ρ'.length = ρ.length ∧ r.lf = true then some (.rt r, bBack (inN is) (inN ks) 0 ρ ρ') else Option.none
  | _ => Option.none
variable [kf : KF]
section
variable {S H S' H' S0 H0 : Hp} {A0 : List Addr} {P K : Nat → Bool}
theorem OSl.frzk {C : List Addr} {v : Option V} {t : OT} {A : List Addr} (sh : Same S H) (h : OSl S H v t A) (d : ∀ a ∈ A, a ∉ C) : OSl (frz S H C) H v t A :=
  h.keep (frz_same sh) (fun _ _ z => z) fun a ha => by
    obtain ⟨h1, u, h2, h3⟩ := h.at a ha
    exact ⟨by rw [frz_out (d a ha) fun xs z => by rw [h2] at z; exact h3 xs (Option.some.inj z)]; exact h1, rfl⟩
/-- the start: what is borrowed lies in C; and the end -/
theorem bor (sh : Same S H) : ∀ {ρ : Env} {σ : St} {B : List Addr} {n : Nat} {ρ1 : Env}, EOk S H σ ρ B → B.Nodup → bSet P n ρ = some ρ1 → ∃ C B1 : List Addr, (∀ a ∈ C, a ∈ B) ∧ (∀ a ∈ B1, a ∈ B ∧ a ∉ C) ∧ B1.Nodup ∧
    (∀ C' : List Addr, (∀ a ∈ C, a ∈ C') → (∀ a ∈ B1, a ∉ C') → EOk (frz S H C') H σ ρ1 B1) ∧
    ∀ {S' H' : Hp} {σ' : St} {ρ' : Env} {B2 : List Addr}, Same S S' → Same S' H' → (∀ b xs, H b = some (.tup xs) → H' b = some (.tup xs)) → (∀ a ∈ C, S' a = H a) → EOk S' H' σ' ρ' B2 → B2.Nodup → ρ'.length = ρ.length → (∀ k, (P (n + k) = true ∨ K (n + k) = true) → σ'[k]? = σ[k]?) →
      ∃ B3, EOk (frz S H' []) H' σ' (bBack P K n ρ ρ') B3 ∧ B3.Nodup ∧ ∀ a ∈ B3, a ∈ C ∨ a ∈ B2
  | [], _, _, n, ρ1, h, _, e => by
    cases h
    simp [bSet] at e
    subst e
    refine ⟨[], [], by simp, by simp, List.nodup_nil, fun C' _ _ => .nil, fun {S' H' σ' ρ' B2} s1 sh' tp hc h2 nd2 hl hf => ?_⟩
    have e : ρ' = [] := List.eq_nil_of_length_eq_zero (by simpa using hl)
    subst e
    cases h2
    exact ⟨[], .nil, List.nodup_nil, by simp⟩
  | t :: ρ, _, _, n, ρ1, h, nd, e => by
    cases h with
    | @cons v _ A σ _ B h0 ht =>
      have nda := List.nodup_append.mp nd
      unfold bSet at e
      simp only [Option.bind_eq_some_iff] at e
      obtain ⟨r, e1, e2⟩ := e
      obtain ⟨C, B1, c1, c2, c3, c4, c5⟩ := bor sh ht nda.2.1 e1
      have fin : ∀ {S' H' : Hp} {σ' : St} {ρ' : Env} {B2 : List Addr} (C0 : List Addr), (∀ a ∈ C, a ∈ C0) → (P n = true → ∀ a ∈ A, a ∈ C0) → (∀ a ∈ C0, a ∈ A ∨ a ∈ C) → Same S S' → Same S' H' → (∀ b xs, H b = some (.tup xs) → H' b = some (.tup xs)) → (∀ a ∈ C0, S' a = H a) → EOk S' H' σ' ρ' B2 → B2.Nodup → ρ'.length = (t :: ρ).length → (∀ k, (P (n + k) = true ∨ K (n + k) = true) → σ'[k]? = (v :: σ)[k]?) →
          ∃ B3, EOk (frz S H' []) H' σ' (bBack P K n (t :: ρ) ρ') B3 ∧ B3.Nodup ∧ ∀ a ∈ B3, a ∈ C0 ∨ a ∈ B2 := by
        intro S' H' σ' ρ' B2 C0 cc0 cA cb s1 sh' tp hc h2 nd2 hl hf
        cases h2 with
        | nil => simp at hl
        | @cons v' t' A' σ' ρ' B2 p0 pt =>
          have nd2a := List.nodup_append.mp nd2
          have hf0 := hf 0
          have sf : Same S (frz S H' []) := frz_same (s1.trans sh')
          obtain ⟨B3, d1, d2, d3⟩ := c5 s1 sh' tp (fun a ha => hc a (cc0 a ha)) pt nd2a.2.1 (by simpa using hl) (fun k hk => by
            have := hf (k + 1) (by rw [show n + (k + 1) = n + 1 + k by omega]; exact hk)
            simpa using this)
          have hS : ∀ a ∈ A ++ B, ∃ u, H a = some u ∧ (∀ xs, u ≠ .tup xs) ∧ S a = none := fun a ha => by
            rcases List.mem_append.mp ha with z | z
            · obtain ⟨y1, u, y2, y3⟩ := h0.at a z
              exact ⟨u, y2, y3, y1⟩
            · obtain ⟨y1, u, y2, y3⟩ := ht.at a z
              exact ⟨u, y2, y3, y1⟩
          have dis : ∀ a ∈ C0, ∀ b, S' b = none → a ≠ b := fun a ha b hb e => by
            subst e
            have : a ∈ A ++ B := by
              rcases cb a ha with z | z
              · exact List.mem_append_left _ z
              · exact List.mem_append_right _ (c1 a z)
            obtain ⟨u, y1, _⟩ := hS a this
            rw [hc a ha, y1] at hb
            cases hb
          show ∃ B3, EOk (frz S H' []) H' (v' :: σ') ((if P n then t else if t'.lf then t' else if K n then dOnly t else .no) :: bBack P K (n + 1) ρ ρ') B3 ∧ _ ∧ _
          by_cases hP : P n = true
          · rw [if_pos hP]
            have ev : v' = v := by simpa using hf0 (.inl hP)
            subst ev
            refine ⟨A ++ B3, .cons (h0.keep sf tp fun a ha => ?_) d1, List.nodup_append.mpr ⟨nda.1, d2, fun a ha b hb e => ?_⟩, fun a ha => ?_⟩
            · obtain ⟨u, y1, y2, y3⟩ := hS a (List.mem_append_left _ ha)
              have e1 : H' a = H a := by
                have := hc a (cA hP a ha)
                rw [y1] at this
                rw [y1]
                exact sh' _ _ this
              refine ⟨?_, e1⟩
              rw [frz_out (by simp) fun xs z => by rw [e1, y1] at z; exact y2 xs (Option.some.inj z)]
              exact y3
            · subst e
              rcases d3 a hb with z | z
              · exact nda.2.2 a ha a (c1 a z) rfl
              · exact dis a (cA hP a ha) a (pt.at a z).1 rfl
            · rcases List.mem_append.mp ha with z | z
              · exact .inl (cA hP a z)
              · rcases d3 a z with y | y
                · exact .inl (cc0 a y)
                · exact .inr (List.mem_append_right _ y)
          · rw [if_neg hP]
            by_cases hL : t'.lf = true
            · rw [if_pos hL]
              refine ⟨A' ++ B3, .cons ?_ d1, List.nodup_append.mpr ⟨nd2a.1, d2, fun a ha b hb e => ?_⟩, fun a ha => ?_⟩
              · cases p0 with
                | no => exact .no
                | is p0 =>
                  refine .is (ook_lf sh' _ _ _ p0 hL fun a ha => ?_)
                  cases q : S a with
                  | none => rfl
                  | some u =>
                    have := (ook_at _ _ _ p0 a ha).1
                    rw [s1 _ _ q] at this
                    cases this
              · subst e
                rcases d3 a hb with z | z
                · exact dis a (cc0 a z) a (p0.at a ha).1 rfl
                · exact nd2a.2.2 a ha a z rfl
              · rcases List.mem_append.mp ha with z | z
                · exact .inr (List.mem_append_left _ z)
                · rcases d3 a z with y | y
                  · exact .inl (cc0 a y)
                  · exact .inr (List.mem_append_right _ y)
            · rw [if_neg hL]
              have last : ∀ s : OT, OSl (frz S H' []) H' v' s [] → ∃ B3, EOk (frz S H' []) H' (v' :: σ') (s :: bBack P K (n + 1) ρ ρ') B3 ∧ B3.Nodup ∧ ∀ a ∈ B3, a ∈ C0 ∨ a ∈ A' ++ B2 := fun s hs =>
                ⟨[] ++ B3, .cons hs d1, d2, fun a ha => by
                  rcases d3 a ha with y | y
                  · exact .inl (cc0 a y)
                  · exact .inr (List.mem_append_right _ y)⟩
              by_cases hK : K n = true
              · rw [if_pos hK]
                have ev : v' = v := by simpa using hf0 (.inr hK)
                subst ev
                cases t with
                | no => exact last _ .no
                | nd k ts => exact last _ .no
                | fl ts => exact last _ .no
                | d x =>
                  cases h0 with
                  | is h0 => cases h0 with | d h0 => exact last _ (.is (.d (dp_mono sf _ _ h0)))
              · rw [if_neg hK]
                exact last _ .no
      split at e2
      · rename_i hP
        simp only [Option.map_eq_some_iff] at e2
        obtain ⟨x, e3, rfl⟩ := e2
        refine ⟨A ++ C, B1, fun a ha => ?_, fun a ha => ⟨List.mem_append_right _ (c2 a ha).1, fun z => ?_⟩, c3, fun C' s1 s2 => ?_, fun {S' H' σ' ρ' B2} => fin (A ++ C) (fun a ha => List.mem_append_right _ ha) (fun _ a ha => List.mem_append_left _ ha) (fun a ha => List.mem_append.mp ha)⟩
        · rcases List.mem_append.mp ha with z | z
          · exact List.mem_append_left _ z
          · exact List.mem_append_right _ (c1 a z)
        · rcases List.mem_append.mp z with z | z
          · exact nda.2.2 a z a (c2 a ha).1 rfl
          · exact (c2 a ha).2 z
        · have := c4 C' (fun a ha => s1 a (List.mem_append_right _ ha)) s2
          cases h0 with
          | no => simp [OT.toD] at e3
          | is h0 => exact (EOk.cons (.is (.d (ook_frz sh _ _ _ _ h0 (fun a ha => s1 a (List.mem_append_left _ ha)) e3))) this : EOk _ _ _ _ ([] ++ B1))
      · rename_i hP
        cases e2
        refine ⟨C, A ++ B1, fun a ha => List.mem_append_right _ (c1 a ha), fun a ha => ?_, ?_, fun C' s1 s2 => ?_, fun {S' H' σ' ρ' B2} => fin C (fun a ha => ha) (fun z => absurd z hP) (fun a ha => .inr ha)⟩
        · rcases List.mem_append.mp ha with z | z
          · exact ⟨List.mem_append_left _ z, fun y => nda.2.2 a z a (c1 a y) rfl⟩
          · exact ⟨List.mem_append_right _ (c2 a z).1, (c2 a z).2⟩
        · exact List.nodup_append.mpr ⟨nda.1, c3, fun a ha b hb => nda.2.2 a ha b (c2 b hb).1⟩
        · exact .cons (h0.frzk sh fun a ha => s2 a (List.mem_append_left _ ha)) (c4 C' s1 fun a ha => s2 a (List.mem_append_right _ ha))
theorem fx_of {σ : St} : ∀ (is : List Nat), (∀ i ∈ is, ∃ v, σ[i]? = some (some v)) → ∃ F : List (Nat × V), F.map (·.1) = is ∧ Fx F σ
  | [], _ => ⟨[], rfl, fun p hp => by cases hp⟩
  | i :: is, h => by
    obtain ⟨v, hv⟩ := h i List.mem_cons_self
    obtain ⟨F, h1, h2⟩ := fx_of is fun j hj => h j (List.mem_cons_of_mem _ hj)
    exact ⟨(i, v) :: F, by simp [h1], fun p hp => by
      rcases List.mem_cons.mp hp with rfl | hp
      · exact hv
      · exact h2 p hp⟩
theorem hasAt_val {σ : St} {ρ : Env} {i : Nat} (o : Ok S0 H0 A0 S H σ ρ) (h : hasAt ρ i = true) : ∃ v, σ[i]? = some (some v) := by
  unfold hasAt at h
  cases q : ρ[i]? with
  | none => rw [q] at h; cases h
  | some t =>
    obtain ⟨v, A, e1, e2⟩ := o.get q
    cases e2 with
    | no => rw [q] at h; cases h
    | is e2 => exact ⟨_, e1⟩
theorem run_borrow {js is ks : List Nat} {t : TS} {b : Sm} {ρ ρ' : Env} {fl : Fl} (hb : CS ((is ++ ks) ++ js) t b) (hf : sBorrow is ks b ρ = some (fl, ρ')) : RunS js t ρ fl ρ' := fun S0 H0 A0 S H σ F E hF hx o kk => by
  unfold sBorrow at hf
  split at hf
  · cases hf
  · rename_i hall
    simp only [Bool.not_eq_false, List.all_eq_true] at hall
    simp only [Option.bind_eq_some_iff] at hf
    obtain ⟨ρ1, e1, hf⟩ := hf
    obtain ⟨B, he, nd, fr⟩ := o.env
    obtain ⟨C, B1, c1, c2, c3, c4, c5⟩ := bor (K := inN ks) o.sh he nd e1
    have ss := frz_same o.sh (A := C)
    have o1 : Ok S0 H0 A0 (frz S H C) H σ ρ1 := ⟨⟨o.xt.hh, o.xt.dm, o.xt.tp, o.xt.ss.trans ss, frz_sub o.sh, fun b u eb => by
      rcases frz_nw eb with z | z | ⟨xs, z⟩
      · exact o.xt.nw b u z
      · rcases fr b (c1 b z) with y | y
        · exact .inr (.inl y)
        · exact .inr (.inr fun w hw => by rw [y] at hw; cases hw)
      · by_cases hb : b ∈ A0
        · exact .inr (.inl hb)
        · exact .inr (.inr fun w hw => by
            have := o.xt.hh b w hb hw
            rw [z] at this
            exact ⟨xs, (Option.some.inj this).symm⟩)⟩, B1, c4 C (fun _ z => z) (fun a ha => (c2 a ha).2), c3, fun a ha => fr a (c2 a ha).1⟩
    obtain ⟨F1, g1, g2⟩ := fx_of (σ := σ) (is ++ ks) fun i hi => hasAt_val o (hall i hi)
    have hF2 : (F1 ++ F).map (·.1) = (is ++ ks) ++ js := by rw [List.map_append, g1, hF]
    have hxF2 : Fx (F1 ++ F) σ := fun p hp => by
      rcases List.mem_append.mp hp with z | z
      · exact g2 p z
      · exact hx p z
    have fixd : ∀ {σ' : St}, Fx (F1 ++ F) σ' → ∀ k, (inN is (0 + k) = true ∨ inN ks (0 + k) = true) → σ'[k]? = σ[k]? := by
      intro σ' fx k hk
      have : k ∈ is ++ ks := by
        rw [Nat.zero_add] at hk
        rcases hk with z | z
        · exact List.mem_append_left _ (by simpa [inN] using z)
        · exact List.mem_append_right _ (by simpa [inN] using z)
      rw [← g1] at this
      obtain ⟨p, hp, rfl⟩ := List.mem_map.mp this
      rw [fx p (List.mem_append_left _ hp), g2 p hp]
    have tpp : ∀ {S' H' : Hp}, Same (frz S H C) S' → Same S' H' → ∀ b xs, H b = some (.tup xs) → H' b = some (.tup xs) := fun s s' b xs e => s' _ _ (s _ _ (frz_tup e))
    have cc : ∀ {S' : Hp}, Same (frz S H C) S' → ∀ a ∈ C, S' a = H a := fun s a ha => by
      obtain ⟨_, u, y, _⟩ := he.at a (c1 a ha)
      rw [y]
      exact s _ _ ((frz_in ha).trans y)
    have xtt : ∀ {S' H' : Hp}, Same (frz S H C) S' → Xa A0 S0 H0 S' H' → Xa A0 S0 H0 (frz S H' []) H' := fun s x =>
      ⟨x.hh, x.dm, x.tp, o.xt.ss.trans (frz_same ((ss.trans s).trans x.sh)), frz_sub ((ss.trans s).trans x.sh), fun b u eb => by
        rcases frz_nw eb with z | z | ⟨xs, z⟩
        · exact o.xt.nw b u z
        · cases z
        · by_cases hb : b ∈ A0
          · exact .inr (.inl hb)
          · exact .inr (.inr fun w hw => by
              have := x.hh b w hb hw
              rw [z] at this
              exact ⟨xs, (Option.some.inj this).symm⟩)⟩
    split at hf
    · rename_i ρ2 hbo
      split at hf
      · rename_i hlen
        cases hf
        refine hb _ _ _ hbo S0 H0 A0 _ H σ (F1 ++ F) E hF2 hxF2 o1 fun S' H' σ' s fx o' => ?_
        obtain ⟨B2, h2, nd2, fr2⟩ := o'.env
        obtain ⟨B3, d1, d2, d3⟩ := c5 (ss.trans s) o'.sh (tpp s o'.sh) (cc s) h2 nd2 hlen (fixd fx)
        refine kk _ H' σ' (frz_same ((ss.trans s).trans o'.sh)) (fun p hp => fx p (List.mem_append_right _ hp)) ⟨xtt s o'.xt, B3, d1, d2, fun a ha => ?_⟩
        rcases d3 a ha with z | z
        · exact fr a (c1 a z)
        · exact fr2 a z
      · cases hf
    · rename_i r ρ2 hbo
      split at hf
      · rename_i hlen
        cases hf
        refine hb _ _ _ hbo S0 H0 A0 _ H σ (F1 ++ F) E hF2 hxF2 o1 fun v S' H' σ' s fx o' => ?_
        obtain ⟨B2, h2, nd2, fr2⟩ := o'.env
        cases h2 with
        | @cons _ _ A' _ _ B2 p0 pt =>
          have nd2a := List.nodup_append.mp nd2
          obtain ⟨B3, d1, d2, d3⟩ := c5 (ss.trans s) o'.sh (tpp s o'.sh) (cc s) pt nd2a.2.1 hlen.1 (fixd fx)
          have nn : ∀ a, S' a = none → S a = none := fun a ha => by
            cases q : S a with
            | none => rfl
            | some u => rw [ss.trans s _ _ q] at ha; cases ha
          have h0 : OSl (frz S H' []) H' (some v) r A' := by
            cases p0 with
            | no => exact .no
            | is p0 => exact .is (ook_lf o'.sh _ _ _ p0 hlen.2 fun a ha => nn a (ook_at _ _ _ p0 a ha).1)
          refine kk v _ H' σ' (frz_same ((ss.trans s).trans o'.sh)) (fun p hp => fx p (List.mem_append_right _ hp)) ⟨xtt s o'.xt, A' ++ B3, .cons h0 d1, List.nodup_append.mpr ⟨nd2a.1, d2, fun a ha b hb e => ?_⟩, fun a ha => ?_⟩
          · subst e
            rcases d3 a hb with z | z
            · obtain ⟨_, u, y, _⟩ := he.at a (c1 a z)
              have := (p0.at a ha).1
              rw [cc s a z, y] at this
              cases this
            · exact nd2a.2.2 a ha a z rfl
          · rcases List.mem_append.mp ha with z | z
            · exact fr2 a (List.mem_append_left _ z)
            · rcases d3 a z with y | y
              · exact fr a (c1 a y)
              · exact fr2 a (List.mem_append_right _ y)
      · cases hf
    · cases hf
theorem c_borrow {js : List Nat} {t : TS} {b : Sm} (is ks : List Nat) (hb : CS ((is ++ ks) ++ js) t b) : CS js t (sBorrow is ks b) := fun ρ fl ρ' e => run_borrow hb e
end
end MR

/-! MR: sorted of a slot whose items go on being one's own -/
namespace MR
open PySem L2 PL
def sortT (ts : List OT) (ds : List D) : List OT := ((ts.zip ds).mergeSort fun a b => dLe a.2 b.2).map (·.1)
def ySortM (i : Nat) : Ym := fun ρ => match ρ[i]? with
  | some (.nd .lst ts) => (OT.toDs ts).bind fun ds => if sortOk ds then some (.nd .lst (sortT ts ds), ρ.set i .no) else Option.none
  | _ => Option.none
variable [kf : KF]
section
variable {S H S' H' S0 H0 : Hp} {A0 : List Addr}
theorem oall_perm : ∀ {zs zs' : List (V × OT)}, zs.Perm zs' → ∀ {B : List Addr}, OAll S H (zs.map (·.1)) (zs.map (·.2)) B → ∃ B', B.Perm B' ∧ OAll S H (zs'.map (·.1)) (zs'.map (·.2)) B' := by
  intro zs zs' h
  induction h with
  | nil => intro B h; exact ⟨B, .refl _, h⟩
  | @cons x l1 l2 p ih =>
    intro B h
    cases h with
    | @cons _ _ _ _ A B h1 h2 =>
      obtain ⟨B', p1, h3⟩ := ih h2
      exact ⟨A ++ B', p1.append_left A, .cons h1 h3⟩
  | @swap x y l =>
    intro B h
    cases h with
    | @cons _ _ _ _ A B h1 h2 =>
      cases h2 with
      | @cons _ _ _ _ A' B' h2 h3 =>
        refine ⟨A' ++ (A ++ B'), ?_, .cons h2 (.cons h1 h3)⟩
        rw [← List.append_assoc, ← List.append_assoc]
        exact (List.perm_append_comm).append_right B'
  | @trans l1 l2 l3 p1 p2 ih1 ih2 =>
    intro B h
    obtain ⟨B1, q1, h1⟩ := ih1 h
    obtain ⟨B2, q2, h2⟩ := ih2 h1
    exact ⟨B2, q1.trans q2, h2⟩
theorem toDs_len : ∀ {ts : List OT} {ds : List D}, OT.toDs ts = some ds → ts.length = ds.length
  | [], ds, h => by simp [OT.toDs] at h; subst h; rfl
  | t :: ts, ds, h => by
    unfold OT.toDs at h
    split at h
    · rename_i x xs h1 h2
      cases h
      rw [List.length_cons, List.length_cons, toDs_len h2]
    · cases h
theorem oall_rps (sh : Same S H) : ∀ {ts : List OT} {vs : List V} {ds : List D} {B : List Addr}, OAll S H vs ts B → OT.toDs ts = some ds → RpAll H vs ds
  | [], vs, ds, B, h, e => by cases h; simp [OT.toDs] at e; subst e; exact .nil
  | t :: ts, vs, ds, B, h, e => by
    cases h with
    | cons h1 h2 =>
      unfold OT.toDs at e
      split at e
      · rename_i x xs e1 e2
        cases e
        exact .cons (ook_rp sh _ _ _ _ h1 e1) (oall_rps sh h2 e2)
      · cases e
end
theorem c_ysortM (i : Nat) : CY (tCB (rSortA kf.K) (tCons (tVar i) tNil)) (ySortM i) := fun ρ r ρ' h => by
  unfold ySortM at h
  split at h
  · rename_i ts h0
    simp only [Option.bind_eq_some_iff] at h
    obtain ⟨ds, e1, h⟩ := h
    split at h
    · rename_i hc
      cases h
      simp only [sortOk, Bool.and_eq_true, List.all_eq_true, Bool.or_eq_true, decide_eq_true_eq] at hc
      obtain ⟨⟨h1, h2⟩, h3⟩ := hc
      refine fun S0 H0 A0 S H τσ τρ σ Q l o q => ?_
      obtain ⟨v, A, g1, g2⟩ := o.slot l h0 (by intro z; cases z)
      have o' := o.move (i := τρ.length + i) (r := .nd .lst ts) (v := v) (by rw [get_app rfl]; exact h0) (by rw [get_app l]; exact g1) (by intro z; cases z)
      rw [set_app rfl] at o'
      obtain ⟨B, he, nd, fr⟩ := o'.env
      cases he with
      | @cons _ _ A' _ _ B' p0 pt =>
        cases p0 with
        | is p0 =>
          obtain ⟨a, vs, DD, rfl, rfl, _, k2, k3, k4⟩ := p0.inv_nd rfl
          have len := toDs_len e1
          have len2 := k4.len
          have r2 := oall_rps o.sh k4 e1
          have f1 : (vs.zip ds).map (·.1) = vs := by rw [List.map_fst_zip]; omega
          have f2 : (vs.zip ds).map (·.2) = ds := by rw [List.map_snd_zip]; omega
          have za := zip_all r2
          have dsm : ∀ b ∈ vs.zip ds, b.2 ∈ ds := fun b hb => by rw [← f2]; exact List.mem_map_of_mem hb
          refine ⟨_, g1, a, vs.zip ds, rfl, by rw [f1]; exact SqL.of k3, fun b hb => rp_dp _ _ (noDc_alike _ (h1 b.2 (dsm b hb) b.2 (dsm b hb))) (za b hb), by rw [f2]; exact fun d hd e he => h1 d hd e he, ?_, fun b hb => h3 b.2 (dsm b hb), fun p hp => ?_⟩
          · rw [f2]
            rcases h2 with h2 | h2
            · refine .inl fun d hd => ?_
              have := h2 d hd
              match d, this with
              | .tuple (x :: r), _ => exact ⟨x, r, rfl⟩
            · refine .inr fun d hd => ?_
              have := h2 d hd
              exact ⟨fun z => by subst z; simp [isPl] at this, fun xs z => by subst z; simp [isPl] at this⟩
          · let zs : List (V × OT × D) := vs.zip (ts.zip ds)
            have w1 : zs.map (fun z => (z.1, z.2.2)) = vs.zip ds := by
              apply List.ext_getElem
              · simp [zs]; omega
              · intro n a b
                simp [zs]
            have w2 : zs.map (fun z => z.2) = ts.zip ds := by rw [List.map_snd_zip]; simp; omega
            have w3 : (zs.map fun z => (z.1, z.2.1)).map (·.1) = vs := by
              rw [List.map_map]
              show zs.map (fun z => z.1) = vs
              rw [List.map_fst_zip]; simp; omega
            have w4 : (zs.map fun z => (z.1, z.2.1)).map (·.2) = ts := by
              apply List.ext_getElem
              · simp [zs]; omega
              · intro n a b
                simp [zs]
            let zt := zs.mergeSort fun x y => dLe x.2.2 y.2.2
            have s1 : zt.map (fun z => (z.1, z.2.2)) = (vs.zip ds).mergeSort (PySem.W.dataLe false fun b => b.2) := by
              have := PySem.W.sort_maps (r := fun (x y : V × OT × D) => dLe x.2.2 y.2.2) (s := PySem.W.dataLe false fun (b : V × D) => b.2) (fun z : V × OT × D => (z.1, z.2.2)) (l := zs) (fun a _ b _ => rfl)
              rw [w1] at this
              exact this
            have s2 : zt.map (fun z => z.2) = (ts.zip ds).mergeSort fun a b => dLe a.2 b.2 := by
              have := PySem.W.sort_maps (r := fun (x y : V × OT × D) => dLe x.2.2 y.2.2) (s := fun (a b : OT × D) => dLe a.2 b.2) (fun z : V × OT × D => z.2) (l := zs) (fun a _ b _ => rfl)
              rw [w2] at this
              exact this
            have pz : (zs.map fun z => (z.1, z.2.1)).Perm (zt.map fun z => (z.1, z.2.1)) := ((List.mergeSort_perm _ _).symm).map _
            have k4' := k4
            obtain ⟨B2, pB, k5⟩ := oall_perm (S := S) (H := H) pz (B := DD) (by rw [w3, w4]; exact k4)
            have t1 : (zt.map fun z => (z.1, z.2.1)).map (·.1) = ((vs.zip ds).mergeSort (PySem.W.dataLe false fun b => b.2)).map (·.1) := by
              rw [← s1, List.map_map, List.map_map]; rfl
            have t2 : (zt.map fun z => (z.1, z.2.1)).map (·.2) = sortT ts ds := by
              unfold sortT
              rw [← s2, List.map_map, List.map_map]; rfl
            rw [t1, t2] at k5
            have nd' := List.nodup_append.mp nd
            have nd2 := List.nodup_cons.mp nd'.1
            exact q _ S _ (Same.refl S) (Ok.node (k := .lst) o.xt k5 pt (List.nodup_append.mpr ⟨(pB.nodup_iff).mp nd2.2, nd'.2.1, fun x hx y hy e => nd'.2.2 x (List.mem_cons_of_mem _ (pB.mem_iff.mpr hx)) y hy e⟩) (fun x hx => by
              rcases List.mem_append.mp hx with z | z
              · exact fr x (List.mem_append_left _ (List.mem_cons_of_mem _ (pB.mem_iff.mpr z)))
              · exact fr x (List.mem_append_right _ z)) hp trivial)
    · cases h
  · cases h
end MR

namespace MR
open PySem L2 PL
/-! ### pure: what the mirror's functions tell -/
def isInt : D → Bool
  | .int _ => true
  | _ => false
theorem kp_int : ∀ d : D, kitB (tyN d) "int" = some (isIntB d)
  | .none => (by decide +kernel : kitB "NoneType" "int" = some false)
  | .bool _ => (by decide +kernel : kitB "bool" "int" = some true)
  | .int _ => (by decide +kernel : kitB "int" "int" = some true)
  | .str _ => (by decide +kernel : kitB "str" "int" = some false)
  | .list _ => (by decide +kernel : kitB "list" "int" = some false)
  | .tuple _ => (by decide +kernel : kitB "tuple" "int" = some false)
  | .dict _ => (by decide +kernel : kitB "dict" "int" = some false)
theorem kp_bool : ∀ d : D, kitB (tyN d) "bool" = some (isBoolB d)
  | .none => (by decide +kernel : kitB "NoneType" "bool" = some false)
  | .bool _ => (by decide +kernel : kitB "bool" "bool" = some true)
  | .int _ => (by decide +kernel : kitB "int" "bool" = some false)
  | .str _ => (by decide +kernel : kitB "str" "bool" = some false)
  | .list _ => (by decide +kernel : kitB "list" "bool" = some false)
  | .tuple _ => (by decide +kernel : kitB "tuple" "bool" = some false)
  | .dict _ => (by decide +kernel : kitB "dict" "bool" = some false)
theorem kp_list : ∀ d : D, kitB (tyN d) "list" = some (isListB d)
  | .none => (by decide +kernel : kitB "NoneType" "list" = some false)
  | .bool _ => (by decide +kernel : kitB "bool" "list" = some false)
  | .int _ => (by decide +kernel : kitB "int" "list" = some false)
  | .str _ => (by decide +kernel : kitB "str" "list" = some false)
  | .list _ => (by decide +kernel : kitB "list" "list" = some true)
  | .tuple _ => (by decide +kernel : kitB "tuple" "list" = some false)
  | .dict _ => (by decide +kernel : kitB "dict" "list" = some false)
theorem kp_tuple : ∀ d : D, kitB (tyN d) "tuple" = some (isTupB d)
  | .none => (by decide +kernel : kitB "NoneType" "tuple" = some false)
  | .bool _ => (by decide +kernel : kitB "bool" "tuple" = some false)
  | .int _ => (by decide +kernel : kitB "int" "tuple" = some false)
  | .str _ => (by decide +kernel : kitB "str" "tuple" = some false)
  | .list _ => (by decide +kernel : kitB "list" "tuple" = some false)
  | .tuple _ => (by decide +kernel : kitB "tuple" "tuple" = some true)
  | .dict _ => (by decide +kernel : kitB "dict" "tuple" = some false)
theorem kp_str : ∀ d : D, kitB (tyN d) "str" = some (isStrB d)
  | .none => (by decide +kernel : kitB "NoneType" "str" = some false)
  | .bool _ => (by decide +kernel : kitB "bool" "str" = some false)
  | .int _ => (by decide +kernel : kitB "int" "str" = some false)
  | .str _ => (by decide +kernel : kitB "str" "str" = some true)
  | .list _ => (by decide +kernel : kitB "list" "str" = some false)
  | .tuple _ => (by decide +kernel : kitB "tuple" "str" = some false)
  | .dict _ => (by decide +kernel : kitB "dict" "str" = some false)
theorem toD_d (x : D) : OT.toD (.d x) = some x := by simp [OT.toD]
theorem toD_lst (ts : List OT) : OT.toD (.nd .lst ts) = (OT.toDs ts).map .list := by simp [OT.toD]
theorem toD_tup (ts : List OT) : OT.toD (.nd .tup ts) = (OT.toDs ts).map .tuple := by simp [OT.toD]
theorem toDs_nil : OT.toDs [] = some [] := by simp [OT.toDs]
theorem toDs_cons (t : OT) (ts : List OT) : OT.toDs (t :: ts) = (OT.toD t).bind fun x => (OT.toDs ts).map fun xs => x :: xs := by
  cases h : OT.toD t <;> cases h2 : OT.toDs ts <;> simp [OT.toDs, h, h2]
theorem toDs_mapd (xs : List D) : OT.toDs (xs.map .d) = some xs := by
  induction xs with
  | nil => simp [toDs_nil]
  | cons x xs ih => simp [toDs_cons, toD_d, ih]
theorem toD_lstO (xs : List D) : OT.toD (lstO xs) = some (.list xs) := by simp [lstO, toD_lst, toDs_mapd]
theorem lfs_mapd {xs : List D} (h : ∀ x ∈ xs, tfl x = true) : OT.lfs (xs.map .d) = true := by
  induction xs with
  | nil => simp [OT.lfs]
  | cons x xs ih => simp [OT.lfs, OT.lf, h x List.mem_cons_self, ih fun y hy => h y (List.mem_cons_of_mem _ hy)]
theorem lf_lstO {xs : List D} (h : ∀ x ∈ xs, tfl x = true) : (lstO xs).lf = true := by simp [lstO, OT.lf, lfs_mapd h]
@[simp] theorem tfl_int (i : Int) : tfl (.int i) = true := by simp [tfl]
@[simp] theorem tfl_bool (b : Bool) : tfl (.bool b) = true := by simp [tfl]
@[simp] theorem tfl_none : tfl .none = true := by simp [tfl]
@[simp] theorem tfl_str (s : Str) : tfl (.str s) = true := by simp [tfl]
theorem tfl_pair (p : Int × Int) : tfl (pairD p) = true := by simp [tfl, pairD]
@[simp] theorem tfl_list (xs : List D) : tfl (.list xs) = false := by simp [tfl]
/-- loops -/
theorem mFor_inv {step : D → Env → Option (Fl × Env)} : ∀ (ds : List D) (ρ : Env) (I : Nat → Env → Prop), I 0 ρ → (∀ i x ρ, ds[i]? = some x → I i ρ → ∃ ρ', (step x ρ = some (.nx, ρ') ∨ step x ρ = some (.ct, ρ')) ∧ I (i + 1) ρ') → ∃ ρ', mFor step ds ρ = some (.nx, ρ') ∧ I ds.length ρ'
  | [], ρ, I, h0, _ => ⟨ρ, rfl, h0⟩
  | x :: xs, ρ, I, h0, hs => by
    obtain ⟨ρ1, h1, h2⟩ := hs 0 x ρ rfl h0
    obtain ⟨ρ2, h3, h4⟩ := mFor_inv xs ρ1 (fun i => I (i + 1)) h2 fun i y ρ e h => hs (i + 1) y ρ (by simpa using e) h
    refine ⟨ρ2, ?_, h4⟩
    unfold mFor
    rcases h1 with h1 | h1 <;> rw [h1] <;> exact h3
theorem mLc_inv {vs : List Nat} {step : D → Env → Option (Option OT × Env)} : ∀ (ds : List D) (acc : List OT) (ρ : Env) (I : Nat → List OT → Env → Prop), I 0 acc ρ → (∀ i x acc ρ, ds[i]? = some x → I i acc ρ → ∃ o ρ', step x ρ = some (o, ρ') ∧ I (i + 1) (acc ++ o.toList) (wipeE ρ' vs)) → ∃ rs ρ', mLc vs step ds acc ρ = some (rs, ρ') ∧ I ds.length rs ρ'
  | [], acc, ρ, I, h0, _ => ⟨acc, ρ, rfl, h0⟩
  | x :: xs, acc, ρ, I, h0, hs => by
    obtain ⟨o, ρ1, h1, h2⟩ := hs 0 x acc ρ rfl h0
    obtain ⟨rs, ρ2, h3, h4⟩ := mLc_inv xs (acc ++ o.toList) (wipeE ρ1 vs) (fun i => I (i + 1)) h2 fun i y acc ρ e h => hs (i + 1) y acc ρ (by simpa using e) h
    refine ⟨rs, ρ2, ?_, h4⟩
    unfold mLc
    rw [h1]
    cases o with
    | none => simpa using h3
    | some r => simpa using h3
/-- a comprehension that changes nothing -/
theorem mLc_map {vs : List Nat} {step : D → Env → Option (Option OT × Env)} {ds : List D} {ρ : Env} (f : D → OT) (h : ∀ x ∈ ds, ∃ ρ', step x ρ = some (some (f x), ρ') ∧ wipeE ρ' vs = ρ) : mLc vs step ds [] ρ = some (ds.map f, ρ) := by
  have gen : ∀ (ds : List D) (acc : List OT), (∀ x ∈ ds, ∃ ρ', step x ρ = some (some (f x), ρ') ∧ wipeE ρ' vs = ρ) → mLc vs step ds acc ρ = some (acc ++ ds.map f, ρ) := by
    intro ds
    induction ds with
    | nil => intro acc _; simp [mLc]
    | cons x ds ih =>
      intro acc h
      obtain ⟨ρ', h1, h2⟩ := h x List.mem_cons_self
      unfold mLc
      rw [h1]
      simp only []
      rw [h2, ih (acc ++ [f x]) fun y hy => h y (List.mem_cons_of_mem _ hy)]
      simp
  simpa using gen ds [] h
theorem rgD_len (lo : Int) (n : Nat) : (rgD lo n).length = n := by simp [rgD]
theorem rgD_at {lo : Int} {n i : Nat} {x : D} (h : (rgD lo n)[i]? = some x) : i < n ∧ x = .int (lo + (i : Int)) := by
  unfold rgD at h
  rw [List.getElem?_map] at h
  by_cases hi : i < n
  · rw [List.getElem?_range hi] at h
    exact ⟨hi, by simpa using h.symm⟩
  · rw [List.getElem?_eq_none (by simpa using hi)] at h
    cases h
theorem atI_at {α : Type} {xs : List α} {i : Nat} {x : α} (h : xs[i]? = some x) : atI xs (i : Int) = some x := atI_nat h
theorem ixN_nat {n i : Nat} (h : i < n) : ixN n (i : Int) = some i := by unfold ixN; simp [h]
theorem seqIx_nat {n i : Nat} (h : i < n) : seqIndex? (i : Int) n = some i := by
  unfold seqIndex?
  have h0 : ¬ ((i : Int) < 0) := by omega
  simp [h, h0]
end MR
namespace MR
open PySem L2 PL
theorem atI_0 {α : Type} (x : α) (xs : List α) : atI (x :: xs) 0 = some x := by simpa using atI_at (i := 0) (xs := x :: xs) (x := x) rfl
theorem atI_1 {α : Type} (x y : α) (xs : List α) : atI (x :: y :: xs) 1 = some y := by simpa using atI_at (i := 1) (xs := x :: y :: xs) (x := y) rfl
theorem atI_2 {α : Type} (x y z : α) (xs : List α) : atI (x :: y :: z :: xs) 2 = some z := by simpa using atI_at (i := 2) (xs := x :: y :: z :: xs) (x := z) rfl
theorem ixN_0 (n : Nat) : ixN (n + 1) 0 = some 0 := by simpa using ixN_nat (n := n + 1) (i := 0) (by omega)
theorem ixN_1 (n : Nat) : ixN (n + 1 + 1) 1 = some 1 := by simpa using ixN_nat (n := n + 1 + 1) (i := 1) (by omega)
theorem yAuto_flat {a : Rm} {y : Ym} {ρ : Env} {x : D} (h : a ρ = some x) (f : tfl x = true) : yAuto a y ρ = some (.d x, ρ) := by unfold yAuto; rw [h]; simp [f]
theorem yCallA_lf {f : List D → Option OT} {n : Nat} {q : Qm} {l : Lm} {ρ : Env} {ds : List D} {r : OT} (h : q ρ = some ds) (hn : ds.length = n) (hf : f ds = some r) (hl : r.lf = true) : yCallA f n q l ρ = some (r, ρ) := by
  unfold yCallA; rw [h]; simp [hn, hf, lfO, hl]
end MR

namespace MR
open PySem L2 PL
/-! ### pure: lists of ints, of pairs; statement by statement -/
theorem seq_nx {a b : Sm} {ρ ρ1 : Env} {o : Option (Fl × Env)} (h : a ρ = some (.nx, ρ1)) (h2 : b ρ1 = o) : sSeq a b ρ = o := by unfold sSeq; rw [h]; exact h2
theorem seq_rt {a b : Sm} {ρ ρ1 : Env} {r : OT} (h : a ρ = some (.rt r, ρ1)) : sSeq a b ρ = some (.rt r, ρ1) := by unfold sSeq; rw [h]
def intsO (ns : List Int) : List OT := ns.map fun i => .d (.int i)
def prsO (ps : List (Int × Int)) : List OT := ps.map fun p => .nd .tup [.d (.int p.1), .d (.int p.2)]
def fprO (ps : List (Int × Int)) : List OT := ps.map fun p => .d (pairD p)
def rng (n : Nat) : List Int := (List.range n).map fun (i : Nat) => (i : Int)
theorem lstO_ints (ns : List Int) : lstO (ns.map .int) = .nd .lst (intsO ns) := by simp [lstO, intsO, Function.comp_def]
theorem lstO_prs (ps : List (Int × Int)) : lstO (ps.map pairD) = .nd .lst (fprO ps) := by simp [lstO, fprO, Function.comp_def]
theorem rgD_rng (n : Nat) : rgD 0 n = (rng n).map .int := by simp [rgD, rng, Function.comp_def]
theorem lstO_rg (n : Nat) : lstO (rgD 0 n) = .nd .lst (intsO (rng n)) := by rw [rgD_rng, lstO_ints]
theorem rng_len (n : Nat) : (rng n).length = n := by simp [rng]
theorem rng_at {n i : Nat} (h : i < n) : (rng n)[i]? = some (i : Int) := by simp [rng, h]
theorem rng_mem {n : Nat} {k : Int} : k ∈ rng n ↔ 0 ≤ k ∧ k < (n : Int) := by
  unfold rng
  rw [List.mem_map]
  constructor
  · rintro ⟨a, h, rfl⟩
    have := List.mem_range.mp h
    omega
  · intro h
    exact ⟨k.toNat, List.mem_range.mpr (by omega), by omega⟩
theorem rng_nodup (n : Nat) : (rng n).Nodup := List.nodup_range.map (f := fun (i : Nat) => (i : Int)) fun a b h => by omega
theorem intsO_len (ns : List Int) : (intsO ns).length = ns.length := by simp [intsO]
theorem fprO_len (ns : List (Int × Int)) : (fprO ns).length = ns.length := by simp [fprO]
theorem prsO_len (ns : List (Int × Int)) : (prsO ns).length = ns.length := by simp [prsO]
theorem intsO_nil : intsO [] = [] := rfl
theorem intsO_snoc (ns : List Int) (k : Int) : intsO ns ++ [OT.d (.int k)] = intsO (ns ++ [k]) := by simp [intsO]
theorem prsO_snoc (ns : List (Int × Int)) (a b : Int) : prsO ns ++ [OT.nd .tup [.d (.int a), .d (.int b)]] = prsO (ns ++ [(a, b)]) := by simp [prsO]
theorem toDs_ints (ns : List Int) : OT.toDs (intsO ns) = some (ns.map .int) := by
  have : intsO ns = (ns.map PyData.int).map OT.d := by simp [intsO, Function.comp_def]
  rw [this, toDs_mapd]
theorem toDs_fpr (ns : List (Int × Int)) : OT.toDs (fprO ns) = some (ns.map pairD) := by
  have : fprO ns = (ns.map pairD).map OT.d := by simp [fprO, Function.comp_def]
  rw [this, toDs_mapd]
theorem toDs_prs (ns : List (Int × Int)) : OT.toDs (prsO ns) = some (ns.map pairD) := by
  induction ns with
  | nil => simp [prsO, toDs_nil]
  | cons p ns ih =>
    have : prsO (p :: ns) = .nd .tup [.d (.int p.1), .d (.int p.2)] :: prsO ns := rfl
    rw [this, toDs_cons, ih]
    simp [toD_tup, toDs_cons, toDs_nil, toD_d, pairD]
theorem lfs_ints (ns : List Int) : OT.lfs (intsO ns) = true := by
  have : intsO ns = (ns.map PyData.int).map OT.d := by simp [intsO, Function.comp_def]
  rw [this]
  exact lfs_mapd fun x hx => by obtain ⟨i, _, rfl⟩ := List.mem_map.mp hx; simp
theorem lfs_fpr (ns : List (Int × Int)) : OT.lfs (fprO ns) = true := by
  have : fprO ns = (ns.map pairD).map OT.d := by simp [fprO, Function.comp_def]
  rw [this]
  exact lfs_mapd fun x hx => by obtain ⟨i, _, rfl⟩ := List.mem_map.mp hx; exact tfl_pair i
theorem ers_map {α β : Type} (f : α → β) : ∀ (xs : List α) (j : Nat), (xs.map f).eraseIdx j = (xs.eraseIdx j).map f
  | [], _ => rfl
  | x :: xs, 0 => rfl
  | x :: xs, j + 1 => by simp [ers_map f xs j]
theorem pop_ints {xs : List Int} {j : Nat} (h : j < xs.length) : ∃ k xs', (intsO xs)[j]? = some (.d (.int k)) ∧ (intsO xs).eraseIdx j = intsO xs' ∧ (k :: xs').Perm xs ∧ xs'.length + 1 = xs.length := by
  refine ⟨xs[j], xs.eraseIdx j, by simp [intsO, h], by rw [intsO, intsO, ers_map], ?_, ?_⟩
  · induction xs generalizing j with
    | nil => simp at h
    | cons x xs ih =>
      cases j with
      | zero => simp
      | succ j =>
        have := ih (j := j) (by simpa using h)
        simp only [List.getElem_cons_succ, List.eraseIdx_cons_succ]
        exact (List.Perm.swap _ _ _).trans (this.cons x)
  · rw [List.length_eraseIdx]; simp [h]; omega
theorem atI_int {xs : List Int} {i : Nat} {k : Int} (h : xs[i]? = some k) : atI (xs.map PyData.int) (i : Int) = some (.int k) := atI_at (by rw [List.getElem?_map, h]; rfl)
/-- dicts by pairs, all True -/
def kO (p : Int × Int) : List Key := [.inl p.1, .inl p.2]
def trues (n : Nat) : List OT := List.replicate n (.d (.bool true))
theorem kO_inj {p q : Int × Int} : kO p = kO q ↔ p = q := by
  obtain ⟨a, b⟩ := p; obtain ⟨c, d⟩ := q
  simp [kO]
theorem putO_true (ks : List (Int × Int)) (p : Int × Int) : putO (ks.map kO) (trues ks.length) (kO p) (.d (.bool true)) = (.dT ((insK ks p).map kO), trues (insK ks p).length) := by
  have e : ((ks.map kO).any fun x => decide (x = kO p)) = decide (p ∈ ks) := by
    rw [List.any_map, Bool.eq_iff_iff]
    simp only [List.any_eq_true, Function.comp, decide_eq_true_eq, kO_inj]
    exact ⟨fun ⟨x, h, e⟩ => e ▸ h, fun h => ⟨p, h, rfl⟩⟩
  unfold putO insK
  rw [e]
  by_cases h : p ∈ ks
  · simp only [h, decide_true, if_true]
    congr 1
    have gen : ∀ (l : List (List Key)) (n : Nat), l.length = n → (l.zip (trues n)).map (fun q => if q.1 = kO p then OT.d (.bool true) else q.2) = trues n := by
      intro l
      induction l with
      | nil => intro n hn; subst hn; rfl
      | cons x l ih =>
        intro n hn
        cases n with
        | zero => simp at hn
        | succ n =>
          have := ih n (by simpa using hn)
          simp only [trues, List.replicate_succ, List.zip_cons_cons, List.map_cons] at this ⊢
          rw [this]
          split <;> rfl
    exact gen _ _ (by simp)
  · simp [h, trues, List.replicate_succ']
theorem keyP_pair (p : Int × Int) : keyP (pairD p) = some (kO p) := rfl
theorem asKeyPs_map (ks : List (Int × Int)) : asKeyPs (ks.map kO) = some ks := by
  induction ks with
  | nil => rfl
  | cons k ks ih => simp [asKeyPs, ih, kO, asKeyP]
theorem trues_all (n : Nat) : (trues n).all isTrueO = true := by
  unfold trues
  rw [List.all_eq_true]
  intro x hx
  rw [(List.mem_replicate.mp hx).2]
  rfl
theorem trues_len (n : Nat) : (trues n).length = n := by simp [trues]
theorem srtL_len (ks : List (Int × Int)) : (srtL ks).length = ks.length := (srtL_perm ks).length_eq
theorem srtL_mem {ks : List (Int × Int)} {p : Int × Int} : p ∈ srtL ks ↔ p ∈ ks := (srtL_perm ks).mem_iff
theorem srtL_nodup {ks : List (Int × Int)} (h : ks.Nodup) : (srtL ks).Nodup := (srtL_perm ks).nodup_iff.mpr h
theorem lcmk {f : Option (Option OT × Env)} {o : Option OT} {ρ' : Env} {P : Option OT → Env → Prop} (h : f = some (o, ρ')) (h2 : P o ρ') : ∃ o ρ', f = some (o, ρ') ∧ P o ρ' := ⟨o, ρ', h, h2⟩
theorem fmk {f : Option (Fl × Env)} {ρ' : Env} {P : Env → Prop} (h : f = some (.nx, ρ')) (h2 : P ρ') : ∃ ρ', (f = some (.nx, ρ') ∨ f = some (.ct, ρ')) ∧ P ρ' := ⟨ρ', .inl h, h2⟩
theorem finI_rt {o : Option (Fl × Env)} {k : Kd} {ts : List OT} {t : OT} {ρ : Env} (h : o = some (.rt (.nd k ts), t :: ρ)) : finI o = some (.nd k ts, t) := by rw [h]; rfl
theorem finI_rtd {o : Option (Fl × Env)} {x : D} {t : OT} {ρ : Env} (h : o = some (.rt (.d x), t :: ρ)) : finI o = some (.d x, t) := by rw [h]; rfl
theorem fin_rt {o : Option (Fl × Env)} {k : Kd} {ts : List OT} {ρ : Env} (h : o = some (.rt (.nd k ts), ρ)) : fin o = some (.nd k ts) := by rw [h]; rfl
theorem fin_rtd {o : Option (Fl × Env)} {x : D} {ρ : Env} (h : o = some (.rt (.d x), ρ)) : fin o = some (.d x) := by rw [h]; rfl
/-- great bounds are kept from the kernel's eyes -/
def rg0F (z : Int) : Option (List D) := if 0 ≤ z ∧ z ≤ 1000000 then some (rgD 0 z.toNat) else Option.none
def rg1F : List D → Option (List D)
  | [.int n] => if -(2 ^ 62) ≤ n ∧ n < 2 ^ 62 then some (rgD 0 n.toNat) else Option.none
  | _ => Option.none
def rg2F : List D → Option (List D)
  | [.int m, .int n] => if -(2 ^ 62) ≤ m ∧ m < 2 ^ 62 ∧ -(2 ^ 62) ≤ n ∧ n < 2 ^ 62 then some (rgD m (n - m).toNat) else Option.none
  | _ => Option.none
def pop1F (z : Int) (n : Nat) : Option Nat := if -(2 ^ 63) ≤ z ∧ z < 2 ^ 63 then seqIndex? z n else Option.none
theorem rg0_ex : ∃ f : Int → Option (List D), f = rg0F := ⟨rg0F, rfl⟩
theorem rg1_ex : ∃ f : List D → Option (List D), f = rg1F := ⟨rg1F, rfl⟩
theorem rg2_ex : ∃ f : List D → Option (List D), f = rg2F := ⟨rg2F, rfl⟩
theorem pop1_ex : ∃ f : Int → Nat → Option Nat, f = pop1F := ⟨pop1F, rfl⟩
noncomputable def rg0 : Int → Option (List D) := rg0_ex.choose
noncomputable def rg1 : List D → Option (List D) := rg1_ex.choose
noncomputable def rg2 : List D → Option (List D) := rg2_ex.choose
noncomputable def pop1 : Int → Nat → Option Nat := pop1_ex.choose
theorem rg0_F : rg0 = rg0F := rg0_ex.choose_spec
theorem rg1_F : rg1 = rg1F := rg1_ex.choose_spec
theorem rg2_F : rg2 = rg2F := rg2_ex.choose_spec
theorem pop1_F : pop1 = pop1F := pop1_ex.choose_spec
theorem rg0_z {z : Int} (a : 0 ≤ z) (b : z ≤ 1000000) : rg0 z = some (rgD 0 z.toNat) := by rw [rg0_F]; exact if_pos ⟨a, b⟩
theorem rg1_z {z : Int} (a : 0 ≤ z) (b : z ≤ 1000000) : rg1 [.int z] = some (rgD 0 z.toNat) := by
  have b2 : -(2 ^ 62) ≤ z ∧ z < 2 ^ 62 := ⟨by omega, by omega⟩
  rw [rg1_F]
  unfold rg1F
  simp only []
  rw [if_pos b2]
theorem rg2_z {y z : Int} (a : 0 ≤ y) (b : y ≤ 1000000) (c : 0 ≤ z) (d : z ≤ 1000000) : rg2 [.int y, .int z] = some (rgD y (z - y).toNat) := by
  have b2 : -(2 ^ 62) ≤ y ∧ y < 2 ^ 62 ∧ -(2 ^ 62) ≤ z ∧ z < 2 ^ 62 := ⟨by omega, by omega, by omega, by omega⟩
  rw [rg2_F]
  unfold rg2F
  simp only []
  rw [if_pos b2]
theorem pop1_z {z : Int} {n : Nat} (a : 0 ≤ z) (b : z ≤ 1000000) : pop1 z n = seqIndex? z n := by
  have b2 : -(2 ^ 63) ≤ z ∧ z < 2 ^ 63 := ⟨by omega, by omega⟩
  rw [pop1_F]
  unfold pop1F
  rw [if_pos b2]
theorem rg0_n {n : Nat} (b : n ≤ 1000000) : rg0 (n : Int) = some (rgD 0 n) := by
  have h := rg0_z (z := (n : Int)) (by omega) (by omega)
  rwa [Int.toNat_natCast] at h
theorem rg1_n {n : Nat} (b : n ≤ 1000000) : rg1 [.int (n : Int)] = some (rgD 0 n) := by
  have h := rg1_z (z := (n : Int)) (by omega) (by omega)
  rwa [Int.toNat_natCast] at h
theorem rg2_1n {n : Nat} (b : n ≤ 1000000) : rg2 [.int 1, .int (n : Int)] = some (rgD 1 (n - 1)) := by
  have b' : (n : Int) ≤ 1000000 := by omega
  have b0 : (0 : Int) ≤ n := by omega
  have e : ((n : Int) - 1).toNat = n - 1 := by omega
  generalize (n : Int) = z at *
  rw [rg2_z (y := 1) (z := z) (by decide) (by decide) b0 b', e]
theorem pop1_n {i n : Nat} (h : i < n) (b : n ≤ 1000000) : pop1 (i : Int) n = some i := by
  rw [pop1_z (z := (i : Int)) (by omega) (by omega)]
  exact seqIx_nat h
theorem yRng1_eq (n : Dm) (ρ : Env) : yRng1 n ρ = (n ρ).bind fun p => match p.1 with
    | .int k => (rg0 k).map fun xs => (lstO xs, p.2)
    | _ => Option.none := by
  rw [rg0_F]
  unfold yRng1
  congr 1
  funext p
  obtain ⟨d, ρ1⟩ := p
  cases d <;> try rfl
  rename_i k
  simp only [rg0F]
  split <;> rfl
theorem iR1_eq (a : Lm) (ρ : Env) : iR1 a ρ = (a ρ).bind fun p => (rg1 p.1).map fun xs => (xs, p.2) := by
  rw [rg1_F]
  unfold iR1
  congr 1
  funext p
  obtain ⟨d, ρ1⟩ := p
  rcases d with _ | ⟨x, _ | ⟨y, d⟩⟩
  · rfl
  · cases x <;> try rfl
    simp only [rg1F]
    split <;> rfl
  · cases x <;> rfl
theorem iR2_eq (a : Lm) (ρ : Env) : iR2 a ρ = (a ρ).bind fun p => (rg2 p.1).map fun xs => (xs, p.2) := by
  rw [rg2_F]
  unfold iR2
  congr 1
  funext p
  obtain ⟨d, ρ1⟩ := p
  rcases d with _ | ⟨x, _ | ⟨y, _ | ⟨z, d⟩⟩⟩
  · rfl
  · cases x <;> rfl
  · cases x <;> try rfl
    cases y <;> try rfl
    simp only [rg2F]
    split <;> rfl
  · cases x <;> try rfl
    cases y <;> rfl
theorem yPop_eq (i : Nat) (dm : Dm) (ρ : Env) : yPop i dm ρ = match ρ[i]? with
    | some (.nd .lst _) => (dm ρ).bind fun p => match p.1 with
      | .int n => match p.2[i]? with
        | some (.nd .lst ts) => (pop1 n ts.length).bind fun j => (ts[j]?).map fun s => (s, p.2.set i (.nd .lst (ts.eraseIdx j)))
        | _ => Option.none
      | _ => Option.none
    | _ => Option.none := by
  rw [pop1_F]
  unfold yPop
  generalize ρ[i]? = o
  rcases o with _ | (_ | x | ⟨k, ts⟩) <;> try rfl
  cases k <;> try rfl
  simp only []
  congr 1
  funext p
  obtain ⟨d, ρ1⟩ := p
  cases d <;> try rfl
  rename_i z
  simp only []
  generalize ρ1[i]? = o2
  rcases o2 with _ | (_ | x | ⟨k, ts⟩) <;> try rfl
  cases k <;> try rfl
  simp only []
  unfold pop1F
  split <;> rfl
theorem sFor_ok {it : Lm} {g : Gm} {b : Sm} {ρ ρ1 ρ2 : Env} {xs : List D} (h : it ρ = some (xs, ρ1)) (h2 : mFor (fun x ρ => (g x ρ).bind b) xs ρ1 = some (.nx, ρ2)) : sFor it g b ρ = some (.nx, ρ2) := by unfold sFor; rw [h]; exact h2
theorem gAdd_i (i j : Int) : MR.gAdd (.int i) (.int j) = some (.int (i + j)) := rfl
theorem gSub_i (i j : Int) : MR.gSub (.int i) (.int j) = some (.int (i - j)) := rfl
theorem gLt_i (i j : Int) : gLt (.int i) (.int j) = some (.bool (decide (i < j))) := rfl
theorem gLe_i (i j : Int) : gLe (.int i) (.int j) = some (.bool (decide (i ≤ j))) := rfl
theorem gGt_i (i j : Int) : gGt (.int i) (.int j) = some (.bool (decide (j < i))) := rfl
theorem gGe_i (i j : Int) : gGe (.int i) (.int j) = some (.bool (decide (j ≤ i))) := rfl
theorem enumD_at {ds : List D} {i : Nat} {x : D} (h : (enumD ds)[i]? = some x) : ∃ d, ds[i]? = some d ∧ x = .tuple [.int (i : Nat), d] := by
  unfold enumD at h
  rw [List.getElem?_map, List.getElem?_zipIdx] at h
  cases hd : ds[i]? with
  | none => rw [hd] at h; cases h
  | some d =>
    rw [hd] at h
    simp at h
    exact ⟨d, rfl, h.symm⟩
theorem enumD_len (ds : List D) : (enumD ds).length = ds.length := by simp [enumD]
theorem lenset_ok {a : Rm} {ρ : Env} {ns : List Int} (h : a ρ = some (.list (ns.map .int))) (h1 : ns.length < 64) (h2 : ns.Nodup) : rLenSet a ρ = some (.int (ns.length : Nat)) := by
  unfold rLenSet
  rw [h]
  simp [asL, asInts_map, h1, h2]
/-- the number at a place -/
def at' (os : List Int) (a : Int) : Int := os.getD a.toNat 0
theorem atI_os {os : List Int} {a : Int} (h : 0 ≤ a) (h2 : a < (os.length : Int)) : atI (os.map PyData.int) a = some (.int (at' os a)) := by
  obtain ⟨n, rfl⟩ : ∃ n : Nat, a = (n : Int) := ⟨a.toNat, by omega⟩
  have : n < os.length := by omega
  rw [atI_int (k := os[n]) (by simp [this])]
  simp [at', this]
theorem at'_mem {os : List Int} {a : Int} (h : 0 ≤ a) (h2 : a < (os.length : Int)) : at' os a ∈ os := by
  have : a.toNat < os.length := by omega
  simp [at', this]
theorem at'_inj {os : List Int} (hn : os.Nodup) {a b : Int} (h : 0 ≤ a) (h2 : a < (os.length : Int)) (h3 : 0 ≤ b) (h4 : b < (os.length : Int)) (e : at' os a = at' os b) : a = b := by
  have la : a.toNat < os.length := by omega
  have lb : b.toNat < os.length := by omega
  simp only [at', List.getD_eq_getElem?_getD, List.getElem?_eq_getElem la, List.getElem?_eq_getElem lb, Option.getD_some] at e
  have := (List.getElem_inj hn).mp e
  omega
/-- a tie led by numbers -/
def ren (os : List Int) (p : Int × Int) : Int × Int := (min (at' os p.1) (at' os p.2), max (at' os p.1) (at' os p.2))
def WD (n : Nat) (ts : List (Int × Int)) : D := .tuple [.int (n : Nat), .list (ts.map pairD)]
theorem sortP_ok {ps : List (Int × Int)} (h : ps.length < 64) (h2 : ∀ p ∈ ps, 0 ≤ p.1 ∧ p.1 < 64 ∧ 0 ≤ p.2 ∧ p.2 < 64) : GSortP [.list (ps.map pairD)] = some (.nd .lst (fprO (srtL ps))) := by
  unfold GSortP
  simp only []
  rw [asPairs_map, Option.bind_some, if_pos ⟨h, h2⟩, lstO_prs]
/-- a proper web's ties -/
structure WOk (n : Nat) (ts : List (Int × Int)) : Prop where
  in' : ∀ p ∈ ts, 0 ≤ p.1 ∧ p.1 < p.2 ∧ p.2 < (n : Int)
  lex : Lex ts
  nodup : ts.Nodup
theorem lexLe_prev {n : Nat} {ts : List (Int × Int)} (w : WOk n ts) {i : Nat} {y z : Int × Int} (h1 : ts[i]? = some y) (h2 : ts[i + 1]? = some z) : lexLe z y = false := by
  obtain ⟨l1, e1⟩ := List.getElem?_eq_some_iff.mp h1
  obtain ⟨l2, e2⟩ := List.getElem?_eq_some_iff.mp h2
  have a := List.pairwise_iff_getElem.mp w.lex i (i + 1) l1 l2 (by omega)
  have b : ts[i] ≠ ts[i + 1] := fun e => by have := (List.getElem_inj w.nodup).mp e; omega
  rw [e1, e2] at a b
  unfold lexLe
  rw [decide_eq_false_iff_not]
  intro c
  apply b
  obtain ⟨y1, y2⟩ := y
  obtain ⟨z1, z2⟩ := z
  simp only [Prod.mk.injEq] at a b c ⊢
  omega
end MR

namespace MR
open PySem L2 PL
/-! ### walking a def from above: what holds behind it -/
def W {α : Type} (m : Env → Option (α × Env)) (ρ : Env) (Q : α → Env → Prop) : Prop := ∃ r ρ', m ρ = some (r, ρ') ∧ Q r ρ'
theorem W.of {α : Type} {m : Env → Option (α × Env)} {ρ ρ' : Env} {r : α} {Q : α → Env → Prop} (h : m ρ = some (r, ρ')) (q : Q r ρ') : W m ρ Q := ⟨r, ρ', h, q⟩
theorem W.mono {α : Type} {m : Env → Option (α × Env)} {ρ : Env} {Q Q' : α → Env → Prop} (h : W m ρ Q) (f : ∀ r ρ', Q r ρ' → Q' r ρ') : W m ρ Q' := by
  obtain ⟨r, ρ', e, q⟩ := h
  exact ⟨r, ρ', e, f _ _ q⟩
def sqK (b : Sm) (Q : Fl → Env → Prop) : Fl → Env → Prop
  | .nx, ρ => W b ρ Q
  | .bk, ρ => Q .bk ρ
  | .ct, ρ => Q .ct ρ
  | .rt r, ρ => Q (.rt r) ρ
theorem w_seq {a b : Sm} {ρ : Env} {Q : Fl → Env → Prop} (h : W a ρ (sqK b Q)) : W (sSeq a b) ρ Q := by
  obtain ⟨fl, ρ1, e, q⟩ := h
  unfold W sSeq
  rw [e]
  cases fl with
  | nx => exact q
  | bk => exact ⟨_, _, rfl, q⟩
  | ct => exact ⟨_, _, rfl, q⟩
  | rt r => exact ⟨_, _, rfl, q⟩
/-- one row that goes on, reckoned -/
theorem w_st {a b : Sm} {ρ ρ1 : Env} {Q : Fl → Env → Prop} (h : a ρ = some (.nx, ρ1)) (q : W b ρ1 Q) : W (sSeq a b) ρ Q := w_seq (.of h q)
theorem w_asg {i : Nat} {y : Ym} {ρ : Env} {Q : Fl → Env → Prop} (h : W y ρ fun r ρ' => Q .nx (ρ'.set i r)) : W (sAsg i y) ρ Q := by
  obtain ⟨r, ρ1, e, q⟩ := h
  exact ⟨_, _, by unfold sAsg; rw [e]; rfl, q⟩
theorem w_ret {y : Ym} {ρ : Env} {Q : Fl → Env → Prop} (h : W y ρ fun r ρ' => Q (.rt r) ρ') : W (sRet y) ρ Q := by
  obtain ⟨r, ρ1, e, q⟩ := h
  exact ⟨_, _, by unfold sRet; rw [e]; rfl, q⟩
theorem w_drop {y : Ym} {ρ : Env} {Q : Fl → Env → Prop} (h : W y ρ fun _ ρ' => Q .nx ρ') : W (sDrop y) ρ Q := by
  obtain ⟨r, ρ1, e, q⟩ := h
  exact ⟨_, _, by unfold sDrop; rw [e]; rfl, q⟩
theorem w_next {ρ : Env} {Q : Fl → Env → Prop} (q : Q .nx ρ) : W sNext ρ Q := ⟨_, _, rfl, q⟩
theorem w_if {t : Tm} {a b : Sm} {ρ ρ1 : Env} {c : Bool} {Q : Fl → Env → Prop} (h : t ρ = some (c, ρ1)) (q1 : c = true → W a ρ1 Q) (q2 : c = false → W b ρ1 Q) : W (sIf t a b) ρ Q := by
  have e : sIf t a b ρ = if c then a ρ1 else b ρ1 := by unfold sIf; rw [h]; rfl
  unfold W
  rw [e]
  cases c with
  | true => exact q1 rfl
  | false => exact q2 rfl
/-- a loop by what holds ahead of each turn -/
def lpK (n : Env → Prop) (Q : Fl → Env → Prop) : Fl → Env → Prop
  | .nx, ρ => n ρ
  | .ct, ρ => n ρ
  | .bk, ρ => Q .nx ρ
  | .rt r, ρ => Q (.rt r) ρ
theorem mFor_w {step : D → Env → Option (Fl × Env)} {Q : Fl → Env → Prop} : ∀ (ds : List D) (ρ : Env) (I : Nat → Env → Prop), I 0 ρ → (∀ i x ρ, ds[i]? = some x → I i ρ → W (step x) ρ (lpK (I (i + 1)) Q)) → (∀ ρ, I ds.length ρ → Q .nx ρ) → W (mFor step ds) ρ Q
  | [], ρ, I, h0, _, hq => ⟨_, _, rfl, hq ρ h0⟩
  | x :: xs, ρ, I, h0, hs, hq => by
    obtain ⟨fl, ρ1, e, q⟩ := hs 0 x ρ rfl h0
    have next : I 1 ρ1 → W (mFor step xs) ρ1 Q := fun q => mFor_w xs ρ1 (fun i => I (i + 1)) q (fun i y ρ e h => hs (i + 1) y ρ (by simpa using e) h) hq
    unfold W mFor
    rw [e]
    cases fl with
    | nx => exact next q
    | ct => exact next q
    | bk => exact ⟨_, _, rfl, q⟩
    | rt r => exact ⟨_, _, rfl, q⟩
theorem w_for (I : Nat → Env → Prop) {it : Lm} {g : Gm} {b : Sm} {ρ ρ1 : Env} {xs : List D} {Q : Fl → Env → Prop} (h : it ρ = some (xs, ρ1)) (h0 : I 0 ρ1)
    (hs : ∀ i x ρ2, xs[i]? = some x → I i ρ2 → ∃ ρ3, g x ρ2 = some ρ3 ∧ W b ρ3 (lpK (I (i + 1)) Q)) (hq : ∀ ρ2, I xs.length ρ2 → Q .nx ρ2) : W (sFor it g b) ρ Q := by
  have e : sFor it g b ρ = mFor (fun x ρ => (g x ρ).bind b) xs ρ1 := by unfold sFor; rw [h]; rfl
  unfold W
  rw [e]
  refine mFor_w xs ρ1 I h0 (fun i x ρ2 hx hi => ?_) hq
  obtain ⟨ρ3, e1, q⟩ := hs i x ρ2 hx hi
  obtain ⟨r, ρ4, e2, q2⟩ := q
  exact ⟨r, ρ4, by simp only [e1, Option.bind_some]; exact e2, q2⟩
/-- a while by a measure -/
theorem w_while (I : Nat → Env → Prop) {t : Tm} {b : Sm} {n : Nat} {ρ : Env} {Q : Fl → Env → Prop} (h0 : I n ρ)
    (hs : ∀ n ρ2, I n ρ2 → ∃ c ρ3, t ρ2 = some (c, ρ3) ∧ (c = true → W b ρ3 (lpK (fun ρ4 => ∃ m, m < n ∧ I m ρ4) Q)) ∧ (c = false → Q .nx ρ3)) : W (sWhile t b) ρ Q := by
  have gen : ∀ n ρ, I n ρ → ∃ k fl ρ', mWhileN t b k ρ = some (fl, ρ') ∧ Q fl ρ' := by
    intro n
    induction n using Nat.strongRecOn with
    | ind n ih =>
      intro ρ hi
      obtain ⟨c, ρ3, e, q1, q2⟩ := hs n ρ hi
      cases c with
      | false => exact ⟨1, .nx, ρ3, by simp only [mWhileN, e], q2 rfl⟩
      | true =>
        obtain ⟨fl, ρ4, e2, q⟩ := q1 rfl
        cases fl with
        | nx =>
          obtain ⟨m, hm, hi'⟩ := q
          obtain ⟨k, fl, ρ', e3, q3⟩ := ih m hm ρ4 hi'
          exact ⟨k + 1, fl, ρ', by simp only [mWhileN, e, e2]; exact e3, q3⟩
        | ct =>
          obtain ⟨m, hm, hi'⟩ := q
          obtain ⟨k, fl, ρ', e3, q3⟩ := ih m hm ρ4 hi'
          exact ⟨k + 1, fl, ρ', by simp only [mWhileN, e, e2]; exact e3, q3⟩
        | bk => exact ⟨1, .nx, ρ4, by simp only [mWhileN, e, e2], q⟩
        | rt r => exact ⟨1, .rt r, ρ4, by simp only [mWhileN, e, e2], q⟩
  obtain ⟨k, fl, ρ', e, q⟩ := gen n ρ h0
  exact ⟨fl, ρ', mWhile_of e, q⟩
/-- a comprehension by what holds ahead of each turn -/
theorem w_lc (I : Nat → List OT → Env → Prop) {vs : List Nat} {it : Lm} {g : Gm} {t : Tm} {e : Ym} {ρ ρ1 : Env} {xs : List D} {Q : OT → Env → Prop} (h : it ρ = some (xs, ρ1)) (hc : calmAt ρ1 vs = true) (hl : xs.length ≤ 1000000) (h0 : I 0 [] (wipeE ρ1 vs))
    (hs : ∀ i x acc ρ2, xs[i]? = some x → I i acc ρ2 → W (lcStep g t e x) ρ2 fun o ρ3 => I (i + 1) (acc ++ o.toList) (wipeE ρ3 vs)) (hq : ∀ acc ρ2, I xs.length acc ρ2 → Q (.nd .lst acc) (rst ρ2 ρ1 vs)) : W (yLc vs it g t e) ρ Q := by
  obtain ⟨rs, ρ2, e1, q⟩ := mLc_inv xs [] (wipeE ρ1 vs) I h0 fun i x acc ρ2 hx hi => hs i x acc ρ2 hx hi
  refine ⟨_, _, ?_, hq _ _ q⟩
  unfold yLc
  rw [h]
  simp [hc, hl, e1, rsts]
/-- one that changes nothing: each item is told, or left out -/
theorem w_lcf (f : D → Option OT) {vs : List Nat} {it : Lm} {g : Gm} {t : Tm} {e : Ym} {ρ ρ1 : Env} {xs : List D} {Q : OT → Env → Prop} (h : it ρ = some (xs, ρ1)) (hc : calmAt ρ1 vs = true) (hl : xs.length ≤ 1000000)
    (hs : ∀ x ∈ xs, W (lcStep g t e x) (wipeE ρ1 vs) fun o ρ3 => o = f x ∧ wipeE ρ3 vs = wipeE ρ1 vs) (hq : Q (.nd .lst (xs.filterMap f)) (rst (wipeE ρ1 vs) ρ1 vs)) : W (yLc vs it g t e) ρ Q := by
  refine w_lc (fun i acc ρ2 => acc = (xs.take i).filterMap f ∧ ρ2 = wipeE ρ1 vs) h hc hl ⟨by simp, rfl⟩ (fun i x acc ρ2 hx hi => ?_) fun acc ρ2 hi => ?_
  · obtain ⟨rfl, rfl⟩ := hi
    refine (hs x (List.mem_of_getElem? hx)).mono fun o ρ3 q => ?_
    obtain ⟨rfl, q⟩ := q
    refine ⟨?_, q⟩
    rw [List.take_add_one, hx, List.filterMap_append]
    refine congrArg _ ?_
    show (f x).toList = [x].filterMap f
    cases c : f x <;> simp [c]
  · obtain ⟨rfl, rfl⟩ := hi
    rw [List.take_length]
    exact hq
/-- what a def hands back -/
def endK (P : OT → Prop) : Fl → Env → Prop
  | .rt .no, _ => False
  | .rt (.d x), _ => P (.d x)
  | .rt (.nd k ts), _ => P (.nd k ts)
  | .rt (.fl ts), _ => P (.fl ts)
  | .nx, _ => P (.d .none)
  | .bk, _ => False
  | .ct, _ => False
theorem fin_w {B : Sm} {ρ : Env} {P : OT → Prop} (h : W B ρ (endK P)) : ∃ r, fin (B ρ) = some r ∧ P r := by
  obtain ⟨fl, ρ', e, q⟩ := h
  rw [e]
  cases fl with
  | nx => exact ⟨_, rfl, q⟩
  | bk => exact q.elim
  | ct => exact q.elim
  | rt r =>
    cases r with
    | no => exact q.elim
    | d x => exact ⟨_, rfl, q⟩
    | nd k ts => exact ⟨_, rfl, q⟩
    | fl ts => exact ⟨_, rfl, q⟩
def endIK (P : OT → OT → Prop) : Fl → Env → Prop
  | .rt .no, _ => False
  | .rt (.d x), t :: _ => P (.d x) t
  | .rt (.nd k ts), t :: _ => P (.nd k ts) t
  | .rt (.fl ts), t :: _ => P (.fl ts) t
  | .nx, t :: _ => P (.d .none) t
  | _, _ => False
theorem finI_w {B : Sm} {ρ : Env} {P : OT → OT → Prop} (h : W B ρ (endIK P)) : ∃ r t, finI (B ρ) = some (r, t) ∧ P r t := by
  obtain ⟨fl, ρ', e, q⟩ := h
  rw [e]
  cases fl with
  | nx => cases ρ' with
    | nil => exact q.elim
    | cons t ρ' => exact ⟨_, _, rfl, q⟩
  | bk => cases ρ' <;> exact q.elim
  | ct => cases ρ' <;> exact q.elim
  | rt r =>
    cases r with
    | no => cases ρ' <;> exact q.elim
    | d x => cases ρ' with
      | nil => exact q.elim
      | cons t ρ' => exact ⟨_, _, rfl, q⟩
    | nd k ts => cases ρ' with
      | nil => exact q.elim
      | cons t ρ' => exact ⟨_, _, rfl, q⟩
    | fl ts => cases ρ' with
      | nil => exact q.elim
      | cons t ρ' => exact ⟨_, _, rfl, q⟩
end MR

namespace SH
open PySem L2 PL MR 
/-- _law_take: 0 _law_pool_here 1 _law_many 2 _law_found -/
noncomputable def B__law_take : Sm :=
 (sSeq (sIf (tR (bR (rOp gGt (rOp gIxL (rVar 0) (rC (.int 0))) (rC (.int 0)))))
 (sSeq (sAsg 2 (yR (rOp gMod (rOp gIxL (rVar 0) (rC (.int 0))) (rVar 1))))
 (sSeq (sSetP 0 (pmVar 0) (rC (.int 0)) (yR (rOp gDiv (rOp gIxL (rVar 0) (rC (.int 0))) (rVar 1))))
 (sRet (yMov 2))))
 sNext)
 (sSeq (sSetP 0 (pmVar 0) (rC (.int 1)) (yR (rOp gMod (rOp gAdd (rOp gMul (rOp gIxL (rVar 0) (rC (.int 1))) (rC (.int 48271))) (rC (.int 11))) (rC (.int 2147483647)))))
 (sRet (yR (rOp gMod (rOp gDiv (rOp gMod (rOp gMul (rOp gIxL (rVar 0) (rC (.int 1))) (rOp gIxL (rVar 0) (rC (.int 1)))) (rC (.int 2147483629))) (rC (.int 16))) (rVar 1))))))
noncomputable def m__law_take : OT → List D → Option (OT × OT) := fun t ds => finI (B__law_take (t :: ini ds 1))
/-- _law_row: 0 _law_pool_here 1 _law_webs 2 _law_many 3 _law_ties -/
noncomputable def B__law_row : Sm :=
 (sRet (yLc [2, 3] (iL (dY (yVar 1))) (gmTup (gsCons (gmName 2) (gsCons (gmName 3) gsNil))) (fun ρ => some (true, ρ)) (yCallI m__law_take 2 0 (lCons (dY (yVar 2)) lNil))))
noncomputable def m__law_row : OT → List D → Option (OT × OT) := fun t ds => finI (B__law_row (t :: ini ds 2))
/-- _law_number: 0 _law_webs 1 _law_row_here 2 _law_found 3 _law_place 4 _law_web_here -/
noncomputable def B__law_number : Sm :=
 (sSeq (sAsg 2 (yR (rC (.int 0))))
 (sSeq (sFor (iZ (lCons (dY (yVar 1)) (lCons (dY (yVar 0)) lNil))) (gmTup (gsCons (gmName 3) (gsCons (gmName 4) gsNil)))
 (sAsg 2 (yR (rOp gAdd (rOp gMul (rVar 2) (rOp gIxT (rVar 4) (rC (.int 0)))) (rVar 3)))))
 (sRet (yMov 2))))
noncomputable def m__law_number : List D → Option OT := fun ds => fin (B__law_number (ini ds 3))
/-- is_whole: 0 thing -/
noncomputable def B_is_whole : Sm :=
 (sRet (yR (rAnd (rIs "int" (rVar 0)) (rNot (rIs "bool" (rVar 0))))))
noncomputable def m_is_whole : List D → Option OT := fun ds => fin (B_is_whole (ini ds 0))
/-- joins_places: 0 many 1 thing 2 one 3 other -/
noncomputable def B_joins_places : Sm :=
 (sSeq (sIf (tR (bOr (bNot (bR (rIs "tuple" (rVar 1)))) (bR (rOp gNeI (rCb gLen (qCons (rVar 1) qNil)) (rC (.int 2))))))
 (sRet (yR (rC (.bool false))))
 sNext)
 (sSeq (sAsgG (gmTup (gsCons (gmName 2) (gsCons (gmName 3) gsNil))) (dY (yVar 1)))
 (sRet (yR (rAnd (rCall m_is_whole 1 (qCons (rVar 2) qNil)) (rAnd (rCall m_is_whole 1 (qCons (rVar 3) qNil)) (rCh3 (fun i j => decide (i ≤ j)) (fun i j => decide (i < j)) (fun i j => decide (i < j)) (rC (.int 0)) (rVar 2) (rVar 3) (rVar 0))))))))
noncomputable def m_joins_places : List D → Option OT := fun ds => fin (B_joins_places (ini ds 2))
/-- web_fault: 0 thing 1 many 2 ties 3 at 4 tie -/
noncomputable def B_web_fault : Sm :=
 (sSeq (sIf (tR (bOr (bNot (bR (rIs "tuple" (rVar 0)))) (bR (rOp gNeI (rCb gLen (qCons (rVar 0) qNil)) (rC (.int 2))))))
 (sRet (yTup (oCons (yR (rC (.str "web"))) (oCons (yR (rC .none)) oNil))))
 sNext)
 (sSeq (sAsgG (gmTup (gsCons (gmName 1) (gsCons (gmName 2) gsNil))) (dY (yVar 0)))
 (sSeq (sIf (tR (bOr (bNot (bR (rCall m_is_whole 1 (qCons (rVar 1) qNil)))) (bNot (bR (rCh (fun i j => decide (i ≤ j)) (fun i j => decide (i ≤ j)) (rC (.int 1)) (rVar 1) (rC (.int 40)))))))
 (sRet (yTup (oCons (yR (rC (.str "places"))) (oCons (yR (rC .none)) oNil))))
 sNext)
 (sSeq (sIf (tR (bOr (bNot (bR (rIs "list" (rVar 2)))) (bR (rOp gGt (rCb gLen (qCons (rVar 2) qNil)) (rC (.int 120))))))
 (sRet (yTup (oCons (yR (rC (.str "ties"))) (oCons (yR (rC .none)) oNil))))
 sNext)
 (sSeq (sFor (iE (lCons (dY (yVar 2)) lNil)) (gmTup (gsCons (gmName 3) (gsCons (gmName 4) gsNil)))
 (sIf (tR (bOr (bNot (bR (rCall m_joins_places 2 (qCons (rVar 1) (qCons (rVar 4) qNil))))) (bAnd (bR (rOp gGt (rVar 3) (rC (.int 0)))) (bR (rOp gLeT (rVar 4) (rOp gIxL (rVar 2) (rOp gSub (rVar 3) (rC (.int 1)))))))))
 (sRet (yTup (oCons (yR (rC (.str "ties"))) (oCons (yMov 3) oNil))))
 sNext))
 (sRet (yR (rC .none))))))))
noncomputable def m_web_fault : List D → Option OT := fun ds => fin (B_web_fault (ini ds 4))
/-- look_at_webs: 0 thing 1 at 2 web -/
noncomputable def B_look_at_webs : Sm :=
 (sSeq (sIf (tR (bOr (bNot (bR (rIs "list" (rVar 0)))) (bR (rOp gGt (rCb gLen (qCons (rVar 0) qNil)) (rC (.int 12))))))
 sNever
 sNext)
 (sFor (iE (lCons (dY (yVar 0)) lNil)) (gmTup (gsCons (gmName 1) (gsCons (gmName 2) gsNil)))
 (sIf (tR (bR (rOp gNotN (rCall m_web_fault 1 (qCons (rVar 2) qNil)) (rC .none))))
 sNever
 sNext)))
noncomputable def m_look_at_webs : List D → Option OT := fun ds => fin (B_look_at_webs (ini ds 2))
/-- is_place: 0 many 1 thing -/
noncomputable def B_is_place : Sm :=
 (sRet (yR (rAnd (rCall m_is_whole 1 (qCons (rVar 1) qNil)) (rCh (fun i j => decide (i ≤ j)) (fun i j => decide (i < j)) (rC (.int 0)) (rVar 1) (rVar 0)))))
noncomputable def m_is_place : List D → Option OT := fun ds => fin (B_is_place (ini ds 0))
/-- count_rows: 0 webs 1 many 2 web -/
noncomputable def B_count_rows : Sm :=
 (sSeq (sAsg 1 (yR (rC (.int 1))))
 (sSeq (sFor (iL (dY (yVar 0))) (gmName 2)
 (sAsg 1 (yR (rOp gMul (rVar 1) (rOp gIxT (rVar 2) (rC (.int 0)))))))
 (sRet (yMov 1))))
noncomputable def m_count_rows : List D → Option OT := fun ds => fin (B_count_rows (ini ds 2))
/-- numbered_row: 0 webs 1 number 2 row 3 web -/
noncomputable def B_numbered_row : Sm :=
 (sSeq (sAsg 2 (yLst oNil))
 (sSeq (sFor (iV (lCons (dY (yVar 0)) lNil)) (gmName 3)
 (sSeq (sApp 2 (yR (rOp gMod (rVar 1) (rOp gIxT (rVar 3) (rC (.int 0))))))
 (sAsg 1 (yR (rOp gDiv (rVar 1) (rOp gIxT (rVar 3) (rC (.int 0))))))))
 (sRet (yRevLA (rVar 2) (dY (yVar 2))))))
noncomputable def m_numbered_row : List D → Option OT := fun ds => fin (B_numbered_row (ini ds 2))
/-- row_of: 0 webs 1 number -/
noncomputable def B_row_of : Sm :=
 (sSeq (sDrop (yCallA m_look_at_webs 1 (qCons (rVar 0) qNil) (lCons (dY (yVar 0)) lNil)))
 (sSeq (sIf (tR (bNot (bR (rCall m_is_place 2 (qCons (rCall m_count_rows 1 (qCons (rVar 0) qNil)) (qCons (rVar 1) qNil))))))
 sNever
 sNext)
 (sRet (yCallA m_numbered_row 2 (qCons (rVar 0) (qCons (rVar 1) qNil)) (lCons (dY (yVar 0)) (lCons (dY (yVar 1)) lNil))))))
noncomputable def m_row_of : List D → Option OT := fun ds => fin (B_row_of (ini ds 0))
/-- makes_row: 0 webs 1 thing 2 web 3 place -/
noncomputable def B_makes_row : Sm :=
 (sSeq (sIf (tR (bOr (bNot (bR (rIs "list" (rVar 1)))) (bR (rOp gNeI (rCb gLen (qCons (rVar 1) qNil)) (rCb gLen (qCons (rVar 0) qNil))))))
 (sRet (yR (rC (.bool false))))
 sNext)
 (sRet (yD (dCb gAll (lCons (dY (yLc [2, 3] (iZ (lCons (dY (yVar 0)) (lCons (dY (yVar 1)) lNil))) (gmTup (gsCons (gmName 2) (gsCons (gmName 3) gsNil))) (fun ρ => some (true, ρ)) (yCallA m_is_place 2 (qCons (rOp gIxT (rVar 2) (rC (.int 0))) (qCons (rVar 3) qNil)) (lCons (dY (yAuto (rOp gIxT (rVar 2) (rC (.int 0))) (yD (dOpR gIxT (dY (yVar 2)) (rC (.int 0)))))) (lCons (dY (yVar 3)) lNil))))) lNil)))))
noncomputable def m_makes_row : List D → Option OT := fun ds => fin (B_makes_row (ini ds 2))
/-- look_at_row: 0 webs 1 thing -/
noncomputable def B_look_at_row : Sm :=
 (sIf (tR (bNot (bR (rCall m_makes_row 2 (qCons (rVar 0) (qCons (rVar 1) qNil))))))
 sNever
 sNext)
noncomputable def m_look_at_row : List D → Option OT := fun ds => fin (B_look_at_row (ini ds 0))
/-- row_number: 0 webs 1 row 2 number 3 web 4 place -/
noncomputable def B_row_number : Sm :=
 (sSeq (sAsg 2 (yR (rC (.int 0))))
 (sSeq (sFor (iZ (lCons (dY (yVar 0)) (lCons (dY (yVar 1)) lNil))) (gmTup (gsCons (gmName 3) (gsCons (gmName 4) gsNil)))
 (sAsg 2 (yR (rOp gAdd (rOp gMul (rVar 2) (rOp gIxT (rVar 3) (rC (.int 0)))) (rVar 4)))))
 (sRet (yMov 2))))
noncomputable def m_row_number : List D → Option OT := fun ds => fin (B_row_number (ini ds 3))
/-- number_of: 0 webs 1 row -/
noncomputable def B_number_of : Sm :=
 (sSeq (sDrop (yCallA m_look_at_webs 1 (qCons (rVar 0) qNil) (lCons (dY (yVar 0)) lNil)))
 (sSeq (sDrop (yCallA m_look_at_row 2 (qCons (rVar 0) (qCons (rVar 1) qNil)) (lCons (dY (yVar 0)) (lCons (dY (yVar 1)) lNil))))
 (sRet (yCallA m_row_number 2 (qCons (rVar 0) (qCons (rVar 1) qNil)) (lCons (dY (yVar 0)) (lCons (dY (yVar 1)) lNil))))))
noncomputable def m_number_of : List D → Option OT := fun ds => fin (B_number_of (ini ds 0))
/-- places_of: 0 webs -/
noncomputable def B_places_of : Sm :=
 (sSeq (sDrop (yCallA m_look_at_webs 1 (qCons (rVar 0) qNil) (lCons (dY (yVar 0)) lNil)))
 (sRet (yCallA m_count_rows 1 (qCons (rVar 0) qNil) (lCons (dY (yVar 0)) lNil))))
noncomputable def m_places_of : List D → Option OT := fun ds => fin (B_places_of (ini ds 0))
/-- _law_pool: 0 _law_script 1 _law_k 2 _law_cell 3 _law_number_here 4 _law_great -/
noncomputable def B__law_pool : Sm :=
 (sSeq (sAsg 2 (yR (rC (.int 0))))
 (sSeq (sIf (tR (bR (rOp gLt (rVar 1) (rCb gLen (qCons (rVar 0) qNil)))))
 (sAsg 2 (yAuto (rOp gIxL (rVar 0) (rVar 1)) (yD (dOpR gIxL (dY (yVar 0)) (rVar 1)))))
 sNext)
 (sSeq (sAsg 3 (yR (rOp gMod (rOp gAdd (rOp gAdd (rOp gAdd (rCb gMax2 (qCons (rVar 2) (qCons (rOp gSub (rUn gNeg (rC (.int 1))) (rVar 2)) qNil))) (rOp gMul (rOp gMul (rC (.int 7919)) (rVar 1)) (rVar 1))) (rOp gMul (rC (.int 104729)) (rVar 1))) (rC (.int 17))) (rC (.int 2147483629)))))
 (sSeq (sAsg 4 (yR (rC (.int 0))))
 (sSeq (sIf (tR (bR (rOp gGe (rVar 2) (rOp gPow (rC (.int 10)) (rC (.int 18))))))
 (sAsg 4 (yVar 2))
 sNext)
 (sRet (yLst (oCons (yMov 4) (oCons (yR (rOp gMod (rOp gMul (rVar 3) (rC (.int 48271))) (rC (.int 2147483647)))) oNil)))))))))
noncomputable def m__law_pool : List D → Option OT := fun ds => fin (B__law_pool (ini ds 3))
/-- _law_web: 0 _law_pool_here 1 _law_most 2 _law_more 3 _law_many 4 _law_names 5 _law_order 6 _law_k 7 _law_pairs 8 _law_ties 9 _law_one 10 _law_other -/
noncomputable def B__law_web : Sm :=
 (sSeq (sAsg 3 (yD (dOp gAdd (dR (rC (.int 1))) (dY (yCallI m__law_take 2 0 (lCons (dY (yVar 1)) lNil))))))
 (sSeq (sAsg 4 (yRng1 (dY (yVar 3))))
 (sSeq (sAsg 5 (yLc [6] (iR1 (lCons (dY (yVar 3)) lNil)) (gmName 6) (fun ρ => some (true, ρ)) (yPop 4 (dY (yCallI m__law_take 2 0 (lCons (dR (rCb gLen (qCons (rVar 4) qNil))) lNil))))))
 (sSeq (sAsg 7 (yLc [6] (iR2 (lCons (dR (rC (.int 1))) (lCons (dY (yVar 3)) lNil))) (gmName 6) (fun ρ => some (true, ρ)) (yTup (oCons (yVar 6) (oCons (yCallI m__law_take 2 0 (lCons (dY (yVar 6)) lNil)) oNil)))))
 (sSeq (sFor (iR1 (lCons (dY (yCallI m__law_take 2 0 (lCons (dR (rOp gAdd (rVar 2) (rC (.int 1)))) lNil))) lNil)) (gmName 6)
 (sApp 7 (yTup (oCons (yCallI m__law_take 2 0 (lCons (dY (yVar 3)) lNil)) (oCons (yCallI m__law_take 2 0 (lCons (dY (yVar 3)) lNil)) oNil)))))
 (sSeq (sAsg 8 yDNew)
 (sSeq (sFor (iL (dY (yVar 7))) (gmTup (gsCons (gmName 9) (gsCons (gmName 10) gsNil)))
 (sIf (tR (bR (rOp gNeI (rVar 9) (rVar 10))))
 (sDPutM 8 (rTup (qCons (rCb gMin2 (qCons (rOp gIxL (rVar 5) (rVar 9)) (qCons (rOp gIxL (rVar 5) (rVar 10)) qNil))) (qCons (rCb gMax2 (qCons (rOp gIxL (rVar 5) (rVar 9)) (qCons (rOp gIxL (rVar 5) (rVar 10)) qNil))) qNil))) (rC (.bool true)))
 sNext))
 (sRet (yTup (oCons (yMov 3) (oCons (ySortD 8) oNil)))))))))))
noncomputable def m__law_web : OT → List D → Option (OT × OT) := fun t ds => finI (B__law_web (t :: ini ds 8))
/-- _law_loose: 0 _law_pool_here 1 _law_most 2 _law_more 3 _law_many 4 _law_ties 5 _law_tie -/
noncomputable def B__law_loose : Sm :=
 (sSeq (sAsgG (gmTup (gsCons (gmName 3) (gsCons (gmName 4) gsNil))) (dY (yCallI m__law_web 3 0 (lCons (dY (yVar 1)) (lCons (dY (yVar 2)) lNil)))))
 (sSeq (sIf (tD (dOpR gEqI (dY (yCallI m__law_take 2 0 (lCons (dR (rC (.int 4))) lNil))) (rC (.int 0))))
 (sAsg 4 (yLc [5] (iL (dY (yVar 4))) (gmName 5) (tD (dOpR gGt (dY (yCallI m__law_take 2 0 (lCons (dR (rC (.int 3))) lNil))) (rC (.int 0)))) (yVar 5)))
 sNext)
 (sRet (yTup (oCons (yMov 3) (oCons (yMov 4) oNil))))))
noncomputable def m__law_loose : OT → List D → Option (OT × OT) := fun t ds => finI (B__law_loose (t :: ini ds 3))
/-- _law_some_webs: 0 _law_pool_here 1 _law_found 2 _law_turn 3 _law_most -/
noncomputable def B__law_some_webs : Sm :=
 (sSeq (sAsg 1 (yLst oNil))
 (sSeq (sFor (iR1 (lCons (dY (yCallI m__law_take 2 0 (lCons (dR (rC (.int 13))) lNil))) lNil)) (gmName 2)
 (sSeq (sAsg 3 (yD (dOp gIxL (dY (yLst (oCons (yR (rC (.int 1))) (oCons (yR (rC (.int 2))) (oCons (yR (rC (.int 3))) (oCons (yR (rC (.int 5))) oNil)))))) (dY (yCallI m__law_take 2 0 (lCons (dR (rC (.int 4))) lNil))))))
 (sSeq (sIf (tR (bR (rOp gEqI (rVar 2) (rC (.int 0)))))
 (sAsg 3 (yD (dOp gIxL (dY (yLst (oCons (yVar 3) (oCons (yR (rC (.int 40))) oNil)))) (dY (yCallI m__law_take 2 0 (lCons (dR (rC (.int 2))) lNil))))))
 sNext)
 (sApp 1 (yCallI m__law_loose 3 0 (lCons (dY (yVar 3)) (lCons (dR (rC (.int 3))) lNil)))))))
 (sRet (yMov 1))))
noncomputable def m__law_some_webs : OT → List D → Option (OT × OT) := fun t ds => finI (B__law_some_webs (t :: ini ds 3))
/-- _law_copied: 0 _law_webs 1 _law_many 2 _law_ties -/
noncomputable def B__law_copied : Sm :=
 (sRet (yLc [1, 2] (iL (dY (yVar 0))) (gmTup (gsCons (gmName 1) (gsCons (gmName 2) gsNil))) (fun ρ => some (true, ρ)) (yTup (oCons (yVar 1) (oCons (yCbA GList (qCons (rVar 2) qNil) (lCons (dY (yVar 2)) lNil)) oNil)))))
noncomputable def m__law_copied : List D → Option OT := fun ds => fin (B__law_copied (ini ds 2))
/-- is_row: 0 webs 1 thing -/
noncomputable def B_is_row : Sm :=
 (sSeq (sDrop (yCallA m_look_at_webs 1 (qCons (rVar 0) qNil) (lCons (dY (yVar 0)) lNil)))
 (sRet (yCallA m_makes_row 2 (qCons (rVar 0) (qCons (rVar 1) qNil)) (lCons (dY (yVar 0)) (lCons (dY (yVar 1)) lNil)))))
noncomputable def m_is_row : List D → Option OT := fun ds => fin (B_is_row (ini ds 0))
/-- beside_all: 0 web 1 many 2 ties 3 beside 4 _ 5 one 6 other -/
noncomputable def B_beside_all : Sm :=
 (sSeq (sAsgG (gmTup (gsCons (gmName 1) (gsCons (gmName 2) gsNil))) (dY (yVar 0)))
 (sSeq (sAsg 3 (yLc [4] (iR1 (lCons (dY (yVar 1)) lNil)) (gmName 4) (fun ρ => some (true, ρ)) (yLst oNil)))
 (sSeq (sFor (iL (dY (yVar 2))) (gmTup (gsCons (gmName 5) (gsCons (gmName 6) gsNil)))
 (sSeq (sAppP 3 (pmIx (pmVar 3) (rVar 5)) (fR (rVar 6)))
 (sAppP 3 (pmIx (pmVar 3) (rVar 6)) (fR (rVar 5)))))
 (sRet (yMov 3)))))
noncomputable def m_beside_all : List D → Option OT := fun ds => fin (B_beside_all (ini ds 6))
/-- tied_rows: 0 webs 1 row 2 found 3 at 4 web 5 place -/
noncomputable def B_tied_rows : Sm :=
 (sSeq (sAsg 2 (yLst oNil))
 (sSeq (sFor (iE (lCons (dY (yVar 0)) lNil)) (gmTup (gsCons (gmName 3) (gsCons (gmName 4) gsNil)))
 (sFor (iL (dY (yAuto (rOp gIxL (rCall m_beside_all 1 (qCons (rVar 4) qNil)) (rOp gIxL (rVar 1) (rVar 3))) (yD (dOpR gIxL (dY (yCallA m_beside_all 1 (qCons (rVar 4) qNil) (lCons (dY (yVar 4)) lNil))) (rOp gIxL (rVar 1) (rVar 3))))))) (gmName 5)
 (sApp 2 (yOpA GCat (rOpZ GCat (rSl (rVar 1) cNone (cSome (rVar 3))) (rLst (qCons (rVar 5) qNil))) (rSl (rVar 1) (cSome (rOp gAdd (rVar 3) (rC (.int 1)))) cNone) (dY (yOpA GCat (rSl (rVar 1) cNone (cSome (rVar 3))) (rLst (qCons (rVar 5) qNil)) (dY (ySlA (rVar 1) (dY (yVar 1)) cNone (cSome (rVar 3)))) (dY (yLst (oCons (yVar 5) oNil))))) (dY (ySlA (rVar 1) (dY (yVar 1)) (cSome (rOp gAdd (rVar 3) (rC (.int 1)))) cNone))))))
 (sRet (ySortM 2))))
noncomputable def m_tied_rows : List D → Option OT := fun ds => fin (B_tied_rows (ini ds 4))
/-- rows_beside: 0 webs 1 row -/
noncomputable def B_rows_beside : Sm :=
 (sSeq (sDrop (yCallA m_look_at_webs 1 (qCons (rVar 0) qNil) (lCons (dY (yVar 0)) lNil)))
 (sSeq (sDrop (yCallA m_look_at_row 2 (qCons (rVar 0) (qCons (rVar 1) qNil)) (lCons (dY (yVar 0)) (lCons (dY (yVar 1)) lNil))))
 (sRet (yCallA m_tied_rows 2 (qCons (rVar 0) (qCons (rVar 1) qNil)) (lCons (dY (yVar 0)) (lCons (dY (yVar 1)) lNil))))))
noncomputable def m_rows_beside : List D → Option OT := fun ds => fin (B_rows_beside (ini ds 0))
/-- count_ties: 0 webs 1 rows 2 ties 3 many 4 here -/
noncomputable def B_count_ties : Sm :=
 (sSeq (sAsg 1 (yR (rC (.int 1))))
 (sSeq (sAsg 2 (yR (rC (.int 0))))
 (sSeq (sFor (iL (dY (yVar 0))) (gmTup (gsCons (gmName 3) (gsCons (gmName 4) gsNil)))
 (sSeq (sAsg 2 (yR (rOp gAdd (rOp gMul (rVar 2) (rVar 3)) (rOp gMul (rVar 1) (rCb gLen (qCons (rVar 4) qNil))))))
 (sAsg 1 (yR (rOp gMul (rVar 1) (rVar 3))))))
 (sRet (yMov 2)))))
noncomputable def m_count_ties : List D → Option OT := fun ds => fin (B_count_ties (ini ds 4))
/-- ties_of: 0 webs -/
noncomputable def B_ties_of : Sm :=
 (sSeq (sDrop (yCallA m_look_at_webs 1 (qCons (rVar 0) qNil) (lCons (dY (yVar 0)) lNil)))
 (sRet (yCallA m_count_ties 1 (qCons (rVar 0) qNil) (lCons (dY (yVar 0)) lNil))))
noncomputable def m_ties_of : List D → Option OT := fun ds => fin (B_ties_of (ini ds 0))
/-- as_tie: 0 one 1 other -/
noncomputable def B_as_tie : Sm :=
 (sRet (yTup (oCons (yR (rCb gMin2 (qCons (rVar 0) (qCons (rVar 1) qNil)))) (oCons (yR (rCb gMax2 (qCons (rVar 0) (qCons (rVar 1) qNil)))) oNil))))
noncomputable def m_as_tie : List D → Option OT := fun ds => fin (B_as_tie (ini ds 0))
/-- are_tied: 0 webs 1 one 2 other 3 unlike 4 at -/
noncomputable def B_are_tied : Sm :=
 (sSeq (sAsg 3 (yLc [4] (iR1 (lCons (dR (rCb gLen (qCons (rVar 0) qNil))) lNil)) (gmName 4) (tR (bR (rOp gNeI (rOp gIxL (rVar 1) (rVar 4)) (rOp gIxL (rVar 2) (rVar 4))))) (yVar 4)))
 (sSeq (sIf (tR (bR (rOp gNeI (rCb gLen (qCons (rVar 3) qNil)) (rC (.int 1)))))
 (sRet (yR (rC (.bool false))))
 sNext)
 (sSeq (sAsg 4 (yAuto (rOp gIxL (rVar 3) (rC (.int 0))) (yD (dOpR gIxL (dY (yVar 3)) (rC (.int 0))))))
 (sRet (yR (rOp gInD (rCall m_as_tie 2 (qCons (rOp gIxL (rVar 1) (rVar 4)) (qCons (rOp gIxL (rVar 2) (rVar 4)) qNil))) (rOp gIxT (rOp gIxL (rVar 0) (rVar 4)) (rC (.int 1)))))))))
noncomputable def m_are_tied : List D → Option OT := fun ds => fin (B_are_tied (ini ds 2))
/-- rows_tied: 0 webs 1 one 2 other -/
noncomputable def B_rows_tied : Sm :=
 (sSeq (sDrop (yCallA m_look_at_webs 1 (qCons (rVar 0) qNil) (lCons (dY (yVar 0)) lNil)))
 (sSeq (sDrop (yCallA m_look_at_row 2 (qCons (rVar 0) (qCons (rVar 1) qNil)) (lCons (dY (yVar 0)) (lCons (dY (yVar 1)) lNil))))
 (sSeq (sDrop (yCallA m_look_at_row 2 (qCons (rVar 0) (qCons (rVar 2) qNil)) (lCons (dY (yVar 0)) (lCons (dY (yVar 2)) lNil))))
 (sRet (yCallA m_are_tied 3 (qCons (rVar 0) (qCons (rVar 1) (qCons (rVar 2) qNil))) (lCons (dY (yVar 0)) (lCons (dY (yVar 1)) (lCons (dY (yVar 2)) lNil))))))))
noncomputable def m_rows_tied : List D → Option OT := fun ds => fin (B_rows_tied (ini ds 0))
/-- look_at_web: 0 thing 1 fault 2 part 3 number -/
noncomputable def B_look_at_web : Sm :=
 (sSeq (sAsg 1 (yCallA m_web_fault 1 (qCons (rVar 0) qNil) (lCons (dY (yVar 0)) lNil)))
 (sIf (tR (bR (rOp gNotN (rVar 1) (rC .none))))
 (sSeq (sAsgG (gmTup (gsCons (gmName 2) (gsCons (gmName 3) gsNil))) (dY (yVar 1)))
 sNever)
 sNext))
noncomputable def m_look_at_web : List D → Option OT := fun ds => fin (B_look_at_web (ini ds 3))
/-- look_at_size: 0 webs -/
noncomputable def B_look_at_size : Sm :=
 (sIf (tR (bOr (bR (rOp gGt (rCall m_count_rows 1 (qCons (rVar 0) qNil)) (rC (.int 40)))) (bR (rOp gGt (rCall m_count_ties 1 (qCons (rVar 0) qNil)) (rC (.int 120))))))
 sNever
 sNext)
noncomputable def m_look_at_size : List D → Option OT := fun ds => fin (B_look_at_size (ini ds 0))
/-- multiplied: 0 webs 1 many 2 ties 3 own_many 4 own_ties 5 across 6 one 7 other 8 at 9 along -/
noncomputable def B_multiplied : Sm :=
 (sSeq (sDrop (yCallA m_look_at_size 1 (qCons (rVar 0) qNil) (lCons (dY (yVar 0)) lNil)))
 (sSeq (sAsg 1 (yR (rC (.int 1))))
 (sSeq (sAsg 2 (yLst oNil))
 (sSeq (sFor (iL (dY (yVar 0))) (gmTup (gsCons (gmName 3) (gsCons (gmName 4) gsNil)))
 (sSeq (sAsg 5 (yLc2 [6, 7, 8] [8] (iL (dY (yVar 2))) (gmTup (gsCons (gmName 6) (gsCons (gmName 7) gsNil))) (fun ρ => some (true, ρ)) (iR1 (lCons (dY (yVar 3)) lNil)) (gmName 8) (fun ρ => some (true, ρ)) (yTup (oCons (yR (rOp gAdd (rOp gMul (rVar 6) (rVar 3)) (rVar 8))) (oCons (yR (rOp gAdd (rOp gMul (rVar 7) (rVar 3)) (rVar 8))) oNil)))))
 (sSeq (sAsg 9 (yLc2 [8, 6, 7] [6, 7] (iR1 (lCons (dY (yVar 1)) lNil)) (gmName 8) (fun ρ => some (true, ρ)) (iL (dY (yVar 4))) (gmTup (gsCons (gmName 6) (gsCons (gmName 7) gsNil))) (fun ρ => some (true, ρ)) (yTup (oCons (yR (rOp gAdd (rOp gMul (rVar 8) (rVar 3)) (rVar 6))) (oCons (yR (rOp gAdd (rOp gMul (rVar 8) (rVar 3)) (rVar 7))) oNil)))))
 (sSeq (sAsg 1 (yR (rOp gMul (rVar 1) (rVar 3))))
 (sAsg 2 (yCbA GSortA (qCons (rOpZ GCat (rVar 5) (rVar 9)) qNil) (lCons (dY (yOpA GCat (rVar 5) (rVar 9) (dY (yVar 5)) (dY (yVar 9)))) lNil)))))))
 (sRet (yTup (oCons (yMov 1) (oCons (yMov 2) oNil))))))))
noncomputable def m_multiplied : List D → Option OT := fun ds => fin (B_multiplied (ini ds 9))
/-- power: 0 web 1 times 2 _ -/
noncomputable def B_power : Sm :=
 (sSeq (sDrop (yCallA m_look_at_web 1 (qCons (rVar 0) qNil) (lCons (dY (yVar 0)) lNil)))
 (sRet (yCall m_multiplied 1 (lCons (dY (yLc [2] (iR1 (lCons (dY (yVar 1)) lNil)) (gmName 2) (fun ρ => some (true, ρ)) (yVar 0))) lNil))))
noncomputable def m_power : List D → Option OT := fun ds => fin (B_power (ini ds 1))
/-- product: 0 webs -/
noncomputable def B_product : Sm :=
 (sSeq (sDrop (yCallA m_look_at_webs 1 (qCons (rVar 0) qNil) (lCons (dY (yVar 0)) lNil)))
 (sRet (yCallA m_multiplied 1 (qCons (rVar 0) qNil) (lCons (dY (yVar 0)) lNil))))
noncomputable def m_product : List D → Option OT := fun ds => fin (B_product (ini ds 0))
/-- _law_shuffled: 0 _law_pool_here 1 _law_many 2 _law_names 3 _law_k -/
noncomputable def B__law_shuffled : Sm :=
 (sSeq (sAsg 2 (yRng1 (dY (yVar 1))))
 (sRet (yLc [3] (iR1 (lCons (dY (yVar 1)) lNil)) (gmName 3) (fun ρ => some (true, ρ)) (yPop 2 (dY (yCallI m__law_take 2 0 (lCons (dR (rCb gLen (qCons (rVar 2) qNil))) lNil)))))))
noncomputable def m__law_shuffled : OT → List D → Option (OT × OT) := fun t ds => finI (B__law_shuffled (t :: ini ds 2))
/-- has_each_place: 0 many 1 thing 2 place -/
noncomputable def B_has_each_place : Sm :=
 (sSeq (sIf (tR (bOr (bNot (bR (rIs "list" (rVar 1)))) (bR (rOp gNeI (rCb gLen (qCons (rVar 1) qNil)) (rVar 0)))))
 (sRet (yR (rC (.bool false))))
 sNext)
 (sRet (yD (dAnd (dCb gAll (lCons (dY (yLc [2] (iL (dY (yVar 1))) (gmName 2) (fun ρ => some (true, ρ)) (yCallA m_is_place 2 (qCons (rVar 0) (qCons (rVar 2) qNil)) (lCons (dY (yVar 0)) (lCons (dY (yVar 2)) lNil))))) lNil)) (dR (rOp gEqI (rLenSet (rVar 1)) (rVar 0)))))))
noncomputable def m_has_each_place : List D → Option OT := fun ds => fin (B_has_each_place (ini ds 1))
/-- renumbered: 0 web 1 numbers 2 one 3 other -/
noncomputable def B_renumbered : Sm :=
 (sSeq (sDrop (yCallA m_look_at_web 1 (qCons (rVar 0) qNil) (lCons (dY (yVar 0)) lNil)))
 (sSeq (sIf (tR (bNot (bR (rCall m_has_each_place 2 (qCons (rOp gIxT (rVar 0) (rC (.int 0))) (qCons (rVar 1) qNil))))))
 sNever
 sNext)
 (sRet (yTup (oCons (yAuto (rOp gIxT (rVar 0) (rC (.int 0))) (yD (dOpR gIxT (dY (yVar 0)) (rC (.int 0))))) (oCons (yCb GSortA (lCons (dY (yLc [2, 3] (iL (dY (yAuto (rOp gIxT (rVar 0) (rC (.int 1))) (yD (dOpR gIxT (dY (yVar 0)) (rC (.int 1))))))) (gmTup (gsCons (gmName 2) (gsCons (gmName 3) gsNil))) (fun ρ => some (true, ρ)) (yCallA m_as_tie 2 (qCons (rOp gIxL (rVar 1) (rVar 2)) (qCons (rOp gIxL (rVar 1) (rVar 3)) qNil)) (lCons (dY (yAuto (rOp gIxL (rVar 1) (rVar 2)) (yD (dOpR gIxL (dY (yVar 1)) (rVar 2))))) (lCons (dY (yAuto (rOp gIxL (rVar 1) (rVar 3)) (yD (dOpR gIxL (dY (yVar 1)) (rVar 3))))) lNil))))) lNil)) oNil))))))
noncomputable def m_renumbered : List D → Option OT := fun ds => fin (B_renumbered (ini ds 2))
/-- makes_naming: 0 one 1 other 2 thing 3 many 4 ties 5 known 6 tie 7 here 8 there -/
noncomputable def B_makes_naming : Sm :=
 (sSeq (sAsgG (gmTup (gsCons (gmName 3) (gsCons (gmName 4) gsNil))) (dY (yVar 0)))
 (sSeq (sIf (tR (bOr (bR (rOp gNeI (rOp gIxT (rVar 1) (rC (.int 0))) (rVar 3))) (bOr (bR (rOp gNeI (rCb gLen (qCons (rOp gIxT (rVar 1) (rC (.int 1))) qNil)) (rCb gLen (qCons (rVar 4) qNil)))) (bNot (bR (rCall m_has_each_place 2 (qCons (rVar 3) (qCons (rVar 2) qNil))))))))
 (sRet (yR (rC (.bool false))))
 sNext)
 (sSeq (sAsg 5 (yDc [6] (iL (dY (yAuto (rOp gIxT (rVar 1) (rC (.int 1))) (yD (dOpR gIxT (dY (yVar 1)) (rC (.int 1))))))) (gmName 6) (rVar 6) (rC (.bool true))))
 (sRet (yD (dCb gAll (lCons (dY (yLc [7, 8] (iL (dY (yVar 4))) (gmTup (gsCons (gmName 7) (gsCons (gmName 8) gsNil))) (fun ρ => some (true, ρ)) (yR (rInDct false (rCall m_as_tie 2 (qCons (rOp gIxL (rVar 2) (rVar 7)) (qCons (rOp gIxL (rVar 2) (rVar 8)) qNil))) 5)))) lNil)))))))
noncomputable def m_makes_naming : List D → Option OT := fun ds => fin (B_makes_naming (ini ds 6))
/-- lets_naming: 0 one 1 other 2 thing -/
noncomputable def B_lets_naming : Sm :=
 (sSeq (sDrop (yCallA m_look_at_web 1 (qCons (rVar 0) qNil) (lCons (dY (yVar 0)) lNil)))
 (sSeq (sDrop (yCallA m_look_at_web 1 (qCons (rVar 1) qNil) (lCons (dY (yVar 1)) lNil)))
 (sRet (yCallA m_makes_naming 3 (qCons (rVar 0) (qCons (rVar 1) (qCons (rVar 2) qNil))) (lCons (dY (yVar 0)) (lCons (dY (yVar 1)) (lCons (dY (yVar 2)) lNil)))))))
noncomputable def m_lets_naming : List D → Option OT := fun ds => fin (B_lets_naming (ini ds 0))
/-- turned_back: 0 naming 1 back 2 _ 3 place 4 led -/
noncomputable def B_turned_back : Sm :=
 (sSeq (sAsg 1 (yLc [2] (iL (dY (yVar 0))) (gmName 2) (fun ρ => some (true, ρ)) (yR (rC (.int 0)))))
 (sSeq (sFor (iE (lCons (dY (yVar 0)) lNil)) (gmTup (gsCons (gmName 3) (gsCons (gmName 4) gsNil)))
 (sSetP 1 (pmVar 1) (rVar 4) (yVar 3)))
 (sRet (yMov 1))))
noncomputable def m_turned_back : List D → Option OT := fun ds => fin (B_turned_back (ini ds 4))
/-- behind: 0 first 1 second 2 place -/
noncomputable def B_behind : Sm :=
 (sRet (yLc [2] (iL (dY (yVar 0))) (gmName 2) (fun ρ => some (true, ρ)) (yAuto (rOp gIxL (rVar 1) (rVar 2)) (yD (dOpR gIxL (dY (yVar 1)) (rVar 2))))))
noncomputable def m_behind : List D → Option OT := fun ds => fin (B_behind (ini ds 1))
/-- look_at_places: 0 web 1 thing 2 place -/
noncomputable def B_look_at_places : Sm :=
 (sIf (tmOr (tR (bNot (bR (rIs "list" (rVar 1))))) (tmNot (tD (dCb gAll (lCons (dY (yLc [2] (iL (dY (yVar 1))) (gmName 2) (fun ρ => some (true, ρ)) (yCallA m_is_place 2 (qCons (rOp gIxT (rVar 0) (rC (.int 0))) (qCons (rVar 2) qNil)) (lCons (dY (yAuto (rOp gIxT (rVar 0) (rC (.int 0))) (yD (dOpR gIxT (dY (yVar 0)) (rC (.int 0)))))) (lCons (dY (yVar 2)) lNil))))) lNil)))))
 sNever
 sNext)
noncomputable def m_look_at_places : List D → Option OT := fun ds => fin (B_look_at_places (ini ds 1))
/-- lies_between: 0 far 1 place 2 one 3 others 4 steps 5 other -/
noncomputable def B_lies_between : Sm :=
 (sSeq (sAsg 4 (yAuto (rOp gIxL (rOp gIxL (rVar 0) (rVar 2)) (rVar 1)) (yD (dOpR gIxL (dY (yAuto (rOp gIxL (rVar 0) (rVar 2)) (yD (dOpR gIxL (dY (yVar 0)) (rVar 2))))) (rVar 1)))))
 (sSeq (sIf (tR (bR (rOp gIsN (rVar 4) (rC .none))))
 (sRet (yR (rC (.bool false))))
 sNext)
 (sSeq (sFor (iL (dY (yVar 3))) (gmName 5)
 (sIf (tR (bAnd (bR (rOp gNotN (rOp gIxL (rOp gIxL (rVar 0) (rVar 1)) (rVar 5)) (rC .none))) (bR (rOp gEqI (rOp gAdd (rVar 4) (rOp gIxL (rOp gIxL (rVar 0) (rVar 1)) (rVar 5))) (rOp gIxL (rOp gIxL (rVar 0) (rVar 2)) (rVar 5))))))
 (sRet (yR (rC (.bool true))))
 sNext))
 (sRet (yR (rC (.bool false)))))))
noncomputable def m_lies_between : List D → Option OT := fun ds => fin (B_lies_between (ini ds 2))
/-- hull_by: 0 far 1 places 2 waiting 3 place 4 left 5 inside 6 here 7 found -/
noncomputable def B_hull_by : Sm :=
 (sSeq (sAsg 2 (yLc [3] (iR1 (lCons (dR (rCb gLen (qCons (rVar 0) qNil))) lNil)) (gmName 3) (tR (bR (rOp (gInI false) (rVar 3) (rVar 1)))) (yVar 3)))
 (sSeq (sAsg 4 (yLc [3] (iR1 (lCons (dR (rCb gLen (qCons (rVar 0) qNil))) lNil)) (gmName 3) (tR (bR (rOp (gInI true) (rVar 3) (rVar 1)))) (yVar 3)))
 (sSeq (sAsg 5 (yLst oNil))
 (sSeq (sWhile (tR (bList (rVar 2)))
 (sSeq (sAsg 6 (yPop0 2))
 (sSeq (sAsg 7 (yLc [3] (iL (dY (yVar 4))) (gmName 3) (tR (bR (rCall m_lies_between 4 (qCons (rVar 0) (qCons (rVar 3) (qCons (rVar 6) (qCons (rVar 5) qNil))))))) (yVar 3)))
 (sSeq (sAsg 4 (yLc [3] (iL (dY (yVar 4))) (gmName 3) (tR (bR (rOp (gInI true) (rVar 3) (rVar 7)))) (yVar 3)))
 (sSeq (sExt 2 (yVar 7))
 (sApp 5 (yVar 6)))))))
 (sRet (yCbA GSortI (qCons (rVar 5) qNil) (lCons (dY (yVar 5)) lNil)))))))
noncomputable def m_hull_by : List D → Option OT := fun ds => fin (B_hull_by (ini ds 6))
/-- far_from: 0 beside 1 place 2 far 3 _ 4 steps 5 ring 6 next_ring 7 here 8 there -/
noncomputable def B_far_from : Sm :=
 (sSeq (sAsg 2 (yLc [3] (iL (dY (yVar 0))) (gmName 3) (fun ρ => some (true, ρ)) (yR (rC .none))))
 (sSeq (sSetP 2 (pmVar 2) (rVar 1) (yR (rC (.int 0))))
 (sSeq (sAsg 4 (yR (rC (.int 0))))
 (sSeq (sAsg 5 (yLst (oCons (yVar 1) oNil)))
 (sSeq (sWhile (tR (bList (rVar 5)))
 (sSeq (sAsg 4 (yR (rOp gAdd (rVar 4) (rC (.int 1)))))
 (sSeq (sAsg 6 (yLst oNil))
 (sSeq (sFor (iL (dY (yVar 5))) (gmName 7)
 (sFor (iL (dY (yAuto (rOp gIxL (rVar 0) (rVar 7)) (yD (dOpR gIxL (dY (yVar 0)) (rVar 7)))))) (gmName 8)
 (sIf (tR (bR (rOp gIsN (rOp gIxL (rVar 2) (rVar 8)) (rC .none))))
 (sSeq (sSetP 2 (pmVar 2) (rVar 8) (yVar 4))
 (sApp 6 (yVar 8)))
 sNext)))
 (sAsg 5 (yVar 6))))))
 (sRet (yMov 2)))))))
noncomputable def m_far_from : List D → Option OT := fun ds => fin (B_far_from (ini ds 7))
/-- far_table: 0 beside 1 place -/
noncomputable def B_far_table : Sm :=
 (sRet (yLc [1] (iR1 (lCons (dR (rCb gLen (qCons (rVar 0) qNil))) lNil)) (gmName 1) (fun ρ => some (true, ρ)) (yCallA m_far_from 2 (qCons (rVar 0) (qCons (rVar 1) qNil)) (lCons (dY (yVar 0)) (lCons (dY (yVar 1)) lNil)))))
noncomputable def m_far_table : List D → Option OT := fun ds => fin (B_far_table (ini ds 1))
/-- hull: 0 web 1 places -/
noncomputable def B_hull : Sm :=
 (sSeq (sDrop (yCallA m_look_at_web 1 (qCons (rVar 0) qNil) (lCons (dY (yVar 0)) lNil)))
 (sSeq (sDrop (yCallA m_look_at_places 2 (qCons (rVar 0) (qCons (rVar 1) qNil)) (lCons (dY (yVar 0)) (lCons (dY (yVar 1)) lNil))))
 (sRet (yCallA m_hull_by 2 (qCons (rCall m_far_table 1 (qCons (rCall m_beside_all 1 (qCons (rVar 0) qNil)) qNil)) (qCons (rVar 1) qNil)) (lCons (dY (yCallA m_far_table 1 (qCons (rCall m_beside_all 1 (qCons (rVar 0) qNil)) qNil) (lCons (dY (yCallA m_beside_all 1 (qCons (rVar 0) qNil) (lCons (dY (yVar 0)) lNil))) lNil))) (lCons (dY (yVar 1)) lNil))))))
noncomputable def m_hull : List D → Option OT := fun ds => fin (B_hull (ini ds 0))
/-- hangs: 0 web -/
noncomputable def B_hangs : Sm :=
 (sRet (yR (rOp gNotInD (rC .none) (rCall m_far_from 2 (qCons (rCall m_beside_all 1 (qCons (rVar 0) qNil)) (qCons (rC (.int 0)) qNil))))))
noncomputable def m_hangs : List D → Option OT := fun ds => fin (B_hangs (ini ds 0))
/-- refuse_apart: 0 webs 1 web -/
noncomputable def B_refuse_apart : Sm :=
 (sFor (iL (dY (yVar 0))) (gmName 1)
 (sIf (tR (bNot (bR (rCall m_hangs 1 (qCons (rVar 1) qNil)))))
 sNever
 sNext))
noncomputable def m_refuse_apart : List D → Option OT := fun ds => fin (B_refuse_apart (ini ds 1))
/-- look_at_rows: 0 webs 1 thing 2 row -/
noncomputable def B_look_at_rows : Sm :=
 (sIf (tmOr (tR (bNot (bR (rIs "list" (rVar 1))))) (tmOr (tR (bNot (bList (rVar 1)))) (tmNot (tD (dCb gAll (lCons (dY (yLc [2] (iL (dY (yVar 1))) (gmName 2) (fun ρ => some (true, ρ)) (yCallA m_makes_row 2 (qCons (rVar 0) (qCons (rVar 2) qNil)) (lCons (dY (yVar 0)) (lCons (dY (yVar 2)) lNil))))) lNil))))))
 sNever
 sNext)
noncomputable def m_look_at_rows : List D → Option OT := fun ds => fin (B_look_at_rows (ini ds 1))
/-- hull_sides: 0 webs 1 rows 2 row 3 at 4 web -/
noncomputable def B_hull_sides : Sm :=
 (sSeq (sDrop (yCallA m_look_at_webs 1 (qCons (rVar 0) qNil) (lCons (dY (yVar 0)) lNil)))
 (sSeq (sDrop (yCallA m_refuse_apart 1 (qCons (rVar 0) qNil) (lCons (dY (yVar 0)) lNil)))
 (sSeq (sDrop (yCallA m_look_at_rows 2 (qCons (rVar 0) (qCons (rVar 1) qNil)) (lCons (dY (yVar 0)) (lCons (dY (yVar 1)) lNil))))
 (sRet (yLc [3, 4] (iE (lCons (dY (yVar 0)) lNil)) (gmTup (gsCons (gmName 3) (gsCons (gmName 4) gsNil))) (fun ρ => some (true, ρ)) (yCall m_hull_by 2 (lCons (dY (yCallA m_far_table 1 (qCons (rCall m_beside_all 1 (qCons (rVar 4) qNil)) qNil) (lCons (dY (yCallA m_beside_all 1 (qCons (rVar 4) qNil) (lCons (dY (yVar 4)) lNil))) lNil))) (lCons (dY (yLc [2] (iL (dY (yVar 1))) (gmName 2) (fun ρ => some (true, ρ)) (yAuto (rOp gIxL (rVar 2) (rVar 3)) (yD (dOpR gIxL (dY (yVar 2)) (rVar 3)))))) lNil))))))))
noncomputable def m_hull_sides : List D → Option OT := fun ds => fin (B_hull_sides (ini ds 3))
end SH

namespace SH
open PySem L2 PL MR
local macro_rules | `(tactic| walk_at "ev") => `(tactic| simp (config := {decide := true}) only [ini, fin, finI, sSeq, sNext, sAsg, sAsgG, sRet, sRetN, sDrop, sIf, sNever, sSetP, pmVar, MR.putAt, OT.put, gmName, gmTup, gmLst, gsNil, gsCons, rVar, rC, rOp, rUn, rCb, rCall, rAnd, rOr, rNot, rIf, rIs, rCh, rCh3, rTup, rLst, small, qNil, qCons, bR, bAnd, bOr, bNot, tR, tD, tmAnd, tmOr, tmNot, yVar, yMov, yR, yAuto, dY, yD, dR, dOp, dOpR, dCb, yCall, yCallA, lfO, yTup, yLst, oNil, oCons, isNo, lNil, lCons, asB, asInt, toD_d, toD_tup, toD_lst, toDs_nil, toDs_cons, kp_int, kp_bool, kp_tuple, kp_list, isIntB, isBoolB, isTupB, isListB, gAdd_i, gSub_i, gLt_i, gLe_i, gGt_i, gGe_i, gMul_r, gMul_l, gMod_i, gDiv_i, gPow_i, gNeg, gEqI, gNeI, gIsN, gNotN, gIsB, gNotB, gIxL, gIxT, gLen, gMax2, gMin2, isN, OT.lf, OT.lfs, atI_0, atI_1, ixN_0, ixN_1, Option.bind_some, Option.bind_none, Option.map_some, Option.map_none, List.getElem?_cons_zero, List.getElem?_cons_succ, List.set_cons_zero, List.set_cons_succ, List.map_cons, List.map_nil, List.replicate, List.nil_append, List.cons_append, List.length_cons, List.length_nil, if_true, if_false, reduceIte, tfl_int, tfl_bool, tfl_none, tfl_str, tfl_list, Bool.true_and, Bool.and_true, Bool.false_and, Bool.and_false, Bool.not_true, Bool.not_false, Bool.false_eq_true, decide_true, decide_false, true_and, and_true, false_and, and_false, or_true, true_or, *])
theorem is_whole_int (i : Int) : m_is_whole [.int i] = some (.d (.bool true)) := by unfold m_is_whole B_is_whole; walk_at "ev"
theorem is_place_int (m i : Int) : m_is_place [.int m, .int i] = some (.d (.bool (decide (0 ≤ i ∧ i < m)))) := by
  unfold m_is_place B_is_place
  have := is_whole_int i
  walk_at "ev"
  by_cases h : 0 ≤ i <;> walk_at "ev"
theorem as_tie_spec (a b : Int) : m_as_tie [.int a, .int b] = some (.nd .tup [.d (.int (min a b)), .d (.int (max a b))]) := by
  unfold m_as_tie B_as_tie; walk_at "ev"
theorem joins_spec {m a b : Int} (h1 : 0 ≤ a ∧ a < m) (h2 : 0 ≤ b ∧ b < m) (h3 : a < b) : m_joins_places [.int m, .tuple [.int a, .int b]] = some (.d (.bool true)) := by
  have e1 := is_whole_int a
  have e2 := is_whole_int b
  obtain ⟨h1a, h1b⟩ := h1
  obtain ⟨h2a, h2b⟩ := h2
  unfold m_joins_places B_joins_places; walk_at "ev"
def POk (ps : List OT) : Prop := ∃ g s : Int, ps = [.d (.int g), .d (.int s)] ∧ 0 ≤ s ∧ s < 2147483647
theorem take_ok {ps : List OT} (h : POk ps) (m : Int) (hm : 0 < m) (hm2 : m < 1073741824) : ∃ r ps', m__law_take (.nd .lst ps) [.int m] = some (.d (.int r), .nd .lst ps') ∧ POk ps' ∧ 0 ≤ r ∧ r < m := by
  obtain ⟨g, s, rfl, hs, hs2⟩ := h
  by_cases hg : 0 < g
  · refine ⟨g % m, [.d (.int (g / m)), .d (.int s)], ?_, ⟨_, _, rfl, hs, hs2⟩, Int.emod_nonneg _ (by omega), Int.emod_lt_of_pos _ hm⟩
    unfold m__law_take B__law_take
    walk_at "ev"
  · have e0 : (0 : Int) < 2147483647 := by decide
    generalize hs' : (s * 48271 + 11) % 2147483647 = s'
    have b1 : 0 ≤ s' := by rw [← hs']; exact Int.emod_nonneg _ (by decide)
    have b2 : s' < 2147483647 := by rw [← hs']; exact Int.emod_lt_of_pos _ e0
    refine ⟨s' * s' % 2147483629 / 16 % m, [.d (.int g), .d (.int s')], ?_, ⟨_, _, rfl, b1, b2⟩, Int.emod_nonneg _ (by omega), Int.emod_lt_of_pos _ hm⟩
    unfold m__law_take B__law_take
    have c1 : -(2 ^ 64) < s ∧ s < 2 ^ 64 := by omega
    have c2 : -(2 ^ 64) < s' ∧ s' < 2 ^ 64 := by omega
    walk_at "ev"
local macro_rules | `(tactic| walk_at "w") => `(tactic| simp (config := {decide := true}) only [ini, fin, finI, sSeq, sNext, sAsg, sAsgG, sRet, sRetN, sDrop, sIf, sNever, sFor, pmVar, gmName, gmTup, gmLst, gsNil, gsCons, rVar, rC, rOp, rUn, rCb, rCall, rTup, rLst, qNil, qCons, bR, bAnd, bOr, bNot, tR, tD, yVar, yMov, yR, yAuto, dY, yD, dR, dOp, dOpR, dCb, yCall, yCallA, yCallI, lfO, yTup, yLst, oNil, oCons, isNo, lNil, lCons, asB, asInt, toD_d, toD_tup, toD_lst, toDs_nil, toDs_cons, gAdd_i, gSub_i, gLt_i, gLe_i, gGt_i, gGe_i, gEqI, gNeI, gLen, gMax2, gMin2, isN, yRng1_eq, iR1_eq, iR2_eq, iL, iE, asL, yLc, calmAt, wipeE, rst, rsts, sApp, yPop_eq, sDPutM, ySortD, yDNew, lcStep, lstO_rg, lstO_prs, lstO_ints, toDs_ints, toDs_fpr, toDs_prs, lfs_ints, lfs_fpr, intsO_len, prsO_len, fprO_len, rng_len, intsO_snoc, prsO_snoc, Int.toNat_natCast, List.length_map, trues_len, eq_self, gIxL, small, flat, rgD_len, List.all_cons, List.all_nil, Option.bind_some, Option.bind_none, Option.map_some, Option.map_none, List.getElem?_cons_zero, List.getElem?_cons_succ, List.set_cons_zero, List.set_cons_succ, List.map_cons, List.map_nil, List.replicate, List.nil_append, List.cons_append, List.length_cons, List.length_nil, if_true, if_false, reduceIte, tfl_int, tfl_bool, tfl_none, tfl_str, tfl_list, Bool.true_and, Bool.and_true, Bool.false_and, Bool.and_false, Bool.not_true, Bool.not_false, Bool.false_eq_true, decide_true, decide_false, true_and, and_true, or_true, true_or, false_and, and_false, *])
local macro_rules | `(tactic| walk_at "st") => `(tactic| (apply seq_nx; (walk_at "w"; exact rfl)))
theorem web_names {p1 : List OT} (q1 : POk p1) (most more : Int) (n : Nat) (c3 : n ≤ 1000000) : ∃ p2 os X, mLc [6] (lcStep (gmName 6) (fun ρ => some (true, ρ)) (yPop 4 (dY (yCallI m__law_take 2 0 (lCons (dR (rCb gLen (qCons (rVar 4) qNil))) lNil))))) (rgD 0 n) [] [.nd .lst p1, .d (.int most), .d (.int more), .d (.int n), .nd .lst (intsO (rng n)), .no, .no, .no, .no, .no, .no] = some (intsO os, [.nd .lst p2, .d (.int most), .d (.int more), .d (.int n), X, .no, .no, .no, .no, .no, .no]) ∧ POk p2 ∧ os.Perm (rng n) := by
  have := mLc_inv (vs := [6]) (step := lcStep (gmName 6) (fun ρ => some (true, ρ)) (yPop 4 (dY (yCallI m__law_take 2 0 (lCons (dR (rCb gLen (qCons (rVar 4) qNil))) lNil))))) (rgD 0 n) [] [.nd .lst p1, .d (.int most), .d (.int more), .d (.int n), .nd .lst (intsO (rng n)), .no, .no, .no, .no, .no, .no]
    (fun i acc ρ => ∃ p xs ks, POk p ∧ ρ = [.nd .lst p, .d (.int most), .d (.int more), .d (.int n), .nd .lst (intsO xs), .no, .no, .no, .no, .no, .no] ∧ acc = intsO ks ∧ xs.length + i = n ∧ (ks ++ xs).Perm (rng n))
    ⟨p1, rng n, [], q1, rfl, rfl, by simp [rng_len], by simp⟩
    (by
      rintro i x acc ρ hx ⟨p, xs, ks, hp, rfl, rfl, hl, hq⟩
      obtain ⟨hi, rfl⟩ := rgD_at hx
      obtain ⟨r, p', e, q, l, u⟩ := take_ok hp (xs.length : Nat) (by omega) (by omega)
      obtain ⟨j, rfl⟩ : ∃ j : Nat, r = (j : Int) := ⟨r.toNat, by omega⟩
      have g1 := pop1_n (n := xs.length) (i := j) (by omega) (by omega)
      obtain ⟨k, xs', g2, g3, g4, g5⟩ := pop_ints (xs := xs) (j := j) (by omega)
      apply lcmk
      · walk_at "w"
        exact rfl
      refine ⟨p', xs', ks ++ [k], q, ?_, ?_, ?_, ?_⟩
      · rfl
      · simp [intsO_snoc]
      · omega
      · have := g4.append_left ks
        simpa using this.trans hq)
  obtain ⟨rs, ρ', k1, p, xs, ks, k2, rfl, rfl, k3, k4⟩ := this
  rw [rgD_len] at k3
  have : xs = [] := List.length_eq_zero_iff.mp (by omega)
  subst this
  exact ⟨p, ks, _, k1, k2, by simpa using k4⟩
theorem web_tree {p2 : List OT} (q2 : POk p2) (most more : Int) (n : Nat) (c3 : n ≤ 1000000) (c0 : 1 ≤ n) (X : OT) (os : List Int) : ∃ p3 qs, mLc [6] (lcStep (gmName 6) (fun ρ => some (true, ρ)) (yTup (oCons (yVar 6) (oCons (yCallI m__law_take 2 0 (lCons (dY (yVar 6)) lNil)) oNil)))) (rgD 1 (n - 1)) [] [.nd .lst p2, .d (.int most), .d (.int more), .d (.int n), X, .nd .lst (intsO os), .no, .no, .no, .no, .no] = some (prsO qs, [.nd .lst p3, .d (.int most), .d (.int more), .d (.int n), X, .nd .lst (intsO os), .no, .no, .no, .no, .no]) ∧ POk p3 ∧ qs.length = n - 1 ∧ ∀ p ∈ qs, 0 ≤ p.1 ∧ p.1 < (n : Int) ∧ 0 ≤ p.2 ∧ p.2 < (n : Int) := by
  have := mLc_inv (vs := [6]) (step := lcStep (gmName 6) (fun ρ => some (true, ρ)) (yTup (oCons (yVar 6) (oCons (yCallI m__law_take 2 0 (lCons (dY (yVar 6)) lNil)) oNil)))) (rgD 1 (n - 1)) [] [.nd .lst p2, .d (.int most), .d (.int more), .d (.int n), X, .nd .lst (intsO os), .no, .no, .no, .no, .no]
    (fun i acc ρ => ∃ p qs, POk p ∧ ρ = [.nd .lst p, .d (.int most), .d (.int more), .d (.int n), X, .nd .lst (intsO os), .no, .no, .no, .no, .no] ∧ acc = prsO qs ∧ qs.length = i ∧ ∀ p ∈ qs, 0 ≤ p.1 ∧ p.1 < (n : Int) ∧ 0 ≤ p.2 ∧ p.2 < (n : Int))
    ⟨p2, [], q2, rfl, rfl, rfl, by simp⟩
    (by
      rintro i x acc ρ hx ⟨p, qs, hp, rfl, rfl, hl, hq⟩
      obtain ⟨hi, rfl⟩ := rgD_at hx
      obtain ⟨r, p', e, q, l, u⟩ := take_ok hp (1 + (i : Int)) (by omega) (by omega)
      apply lcmk
      · walk_at "w"
        exact rfl
      refine ⟨p', qs ++ [(1 + (i : Int), r)], q, rfl, ?_, by simp [hl], ?_⟩
      · simp [prsO_snoc]
      · intro z hz
        rcases List.mem_append.mp hz with hz | hz
        · exact hq z hz
        · rw [List.mem_singleton.mp hz]
          exact ⟨by omega, by simp only []; omega, l, by simp only []; omega⟩)
  obtain ⟨rs, ρ', k1, p, qs, k2, rfl, rfl, k3, k4⟩ := this
  rw [rgD_len] at k3
  exact ⟨p, qs, k1, k2, by omega, k4⟩
theorem web_more {p4 : List OT} (q4 : POk p4) (most more : Int) (n m : Nat) (c0 : 1 ≤ n) (c1 : n ≤ 1000) (c3 : m ≤ 1000) (X : OT) (os : List Int) (qs : List (Int × Int)) (hl : qs.length ≤ 1000) (hq : ∀ p ∈ qs, 0 ≤ p.1 ∧ p.1 < (n : Int) ∧ 0 ≤ p.2 ∧ p.2 < (n : Int)) : ∃ p5 qs' Y, mFor (fun x ρ => (gmName 6 x ρ).bind (sApp 7 (yTup (oCons (yCallI m__law_take 2 0 (lCons (dY (yVar 3)) lNil)) (oCons (yCallI m__law_take 2 0 (lCons (dY (yVar 3)) lNil)) oNil))))) (rgD 0 m) [.nd .lst p4, .d (.int most), .d (.int more), .d (.int n), X, .nd .lst (intsO os), .no, .nd .lst (prsO qs), .no, .no, .no] = some (.nx, [.nd .lst p5, .d (.int most), .d (.int more), .d (.int n), X, .nd .lst (intsO os), Y, .nd .lst (prsO qs'), .no, .no, .no]) ∧ POk p5 ∧ qs'.length = qs.length + m ∧ ∀ p ∈ qs', 0 ≤ p.1 ∧ p.1 < (n : Int) ∧ 0 ≤ p.2 ∧ p.2 < (n : Int) := by
  have := mFor_inv (step := fun x ρ => (gmName 6 x ρ).bind (sApp 7 (yTup (oCons (yCallI m__law_take 2 0 (lCons (dY (yVar 3)) lNil)) (oCons (yCallI m__law_take 2 0 (lCons (dY (yVar 3)) lNil)) oNil))))) (rgD 0 m) [.nd .lst p4, .d (.int most), .d (.int more), .d (.int n), X, .nd .lst (intsO os), .no, .nd .lst (prsO qs), .no, .no, .no]
    (fun i ρ => ∃ p qs' Y, POk p ∧ ρ = [.nd .lst p, .d (.int most), .d (.int more), .d (.int n), X, .nd .lst (intsO os), Y, .nd .lst (prsO qs'), .no, .no, .no] ∧ qs'.length = qs.length + i ∧ ∀ p ∈ qs', 0 ≤ p.1 ∧ p.1 < (n : Int) ∧ 0 ≤ p.2 ∧ p.2 < (n : Int))
    ⟨p4, qs, .no, q4, rfl, rfl, hq⟩
    (by
      rintro i x ρ hx ⟨p, qs', Y, hp, rfl, hl', hq'⟩
      obtain ⟨hi, rfl⟩ := rgD_at hx
      obtain ⟨r, p', e, q, l, u⟩ := take_ok hp (n : Int) (by omega) (by omega)
      obtain ⟨r', p'', e', q', l', u'⟩ := take_ok q (n : Int) (by omega) (by omega)
      have g : qs.length + i ≤ 1000000 := by omega
      apply fmk
      · walk_at "w"
        exact rfl
      refine ⟨p'', qs' ++ [(r, r')], _, q', rfl, by simp [hl']; omega, ?_⟩
      intro z hz
      rcases List.mem_append.mp hz with hz | hz
      · exact hq' z hz
      · rw [List.mem_singleton.mp hz]
        exact ⟨l, u, l', u'⟩)
  obtain ⟨ρ', k1, p, qs', Y, k2, rfl, k3, k4⟩ := this
  rw [rgD_len] at k3
  exact ⟨p, qs', Y, k1, k2, k3, k4⟩
theorem web_ties {p5 : List OT} (q5 : POk p5) (most more : Int) (n : Nat) (X Y : OT) (os : List Int) (ho : os.Perm (rng n)) (qs : List (Int × Int)) (hl : qs.length ≤ 1000) (hq : ∀ p ∈ qs, 0 ≤ p.1 ∧ p.1 < (n : Int) ∧ 0 ≤ p.2 ∧ p.2 < (n : Int)) : ∃ (ks : List (Int × Int)) (Z W : OT), mFor (fun x ρ => (gmTup (gsCons (gmName 9) (gsCons (gmName 10) gsNil)) x ρ).bind (sIf (tR (bR (rOp gNeI (rVar 9) (rVar 10)))) (sDPutM 8 (rTup (qCons (rCb gMin2 (qCons (rOp gIxL (rVar 5) (rVar 9)) (qCons (rOp gIxL (rVar 5) (rVar 10)) qNil))) (qCons (rCb gMax2 (qCons (rOp gIxL (rVar 5) (rVar 9)) (qCons (rOp gIxL (rVar 5) (rVar 10)) qNil))) qNil))) (rC (.bool true))) sNext)) (qs.map pairD) [.nd .lst p5, .d (.int most), .d (.int more), .d (.int n), X, .nd .lst (intsO os), Y, .d (.list (qs.map pairD)), .nd (.dT []) [], .no, .no] = some (.nx, [.nd .lst p5, .d (.int most), .d (.int more), .d (.int n), X, .nd .lst (intsO os), Y, .d (.list (qs.map pairD)), .nd (.dT (ks.map kO)) (trues ks.length), Z, W]) ∧ ks.Nodup ∧ ks.length ≤ qs.length ∧ ∀ p ∈ ks, 0 ≤ p.1 ∧ p.1 < p.2 ∧ p.2 < (n : Int) := by
  have hlen : os.length = n := by rw [ho.length_eq, rng_len]
  have hnd : os.Nodup := ho.nodup_iff.mpr (rng_nodup n)
  have := mFor_inv (step := fun x ρ => (gmTup (gsCons (gmName 9) (gsCons (gmName 10) gsNil)) x ρ).bind (sIf (tR (bR (rOp gNeI (rVar 9) (rVar 10)))) (sDPutM 8 (rTup (qCons (rCb gMin2 (qCons (rOp gIxL (rVar 5) (rVar 9)) (qCons (rOp gIxL (rVar 5) (rVar 10)) qNil))) (qCons (rCb gMax2 (qCons (rOp gIxL (rVar 5) (rVar 9)) (qCons (rOp gIxL (rVar 5) (rVar 10)) qNil))) qNil))) (rC (.bool true))) sNext)) (qs.map pairD) [.nd .lst p5, .d (.int most), .d (.int more), .d (.int n), X, .nd .lst (intsO os), Y, .d (.list (qs.map pairD)), .nd (.dT []) [], .no, .no]
    (fun i ρ => ∃ (ks : List (Int × Int)) (Z W : OT), ρ = [.nd .lst p5, .d (.int most), .d (.int more), .d (.int n), X, .nd .lst (intsO os), Y, .d (.list (qs.map pairD)), .nd (.dT (ks.map kO)) (trues ks.length), Z, W] ∧ ks.Nodup ∧ ks.length ≤ i ∧ ∀ p ∈ ks, 0 ≤ p.1 ∧ p.1 < p.2 ∧ p.2 < (n : Int))
    ⟨[], .no, .no, rfl, by simp, by simp, by simp⟩
    (by
      rintro i x ρ hx ⟨ks, Z, W, rfl, h1, h2, h3⟩
      rw [List.getElem?_map] at hx
      obtain ⟨⟨a, b⟩, hab, rfl⟩ := Option.map_eq_some_iff.mp hx
      obtain ⟨a0, a1, b0, b1⟩ := hq _ (List.mem_of_getElem? hab)
      simp only [] at a0 a1 b0 b1
      have hi : i < qs.length := (List.getElem?_eq_some_iff.mp hab).1
      by_cases hne : a = b
      · have hf : decide (a = b) = true := by simp [hne]
        apply fmk
        · simp only [pairD]
          walk_at "w"
          exact rfl
        exact ⟨ks, _, _, rfl, h1, by omega, h3⟩
      · have hf : decide (a = b) = false := by simp [hne]
        obtain ⟨a', rfl⟩ : ∃ a' : Nat, a = (a' : Int) := ⟨a.toNat, by omega⟩
        obtain ⟨b', rfl⟩ : ∃ b' : Nat, b = (b' : Int) := ⟨b.toNat, by omega⟩
        have la : a' < os.length := by omega
        have lb : b' < os.length := by omega
        have ea := atI_int (xs := os) (i := a') (k := os[a']) (by simp [la])
        have eb := atI_int (xs := os) (i := b') (k := os[b']) (by simp [lb])
        have ma := rng_mem.mp (ho.mem_iff.mp (List.getElem_mem la))
        have mb := rng_mem.mp (ho.mem_iff.mp (List.getElem_mem lb))
        have hne2 : os[a'] ≠ os[b'] := fun z => hne (by rw [(List.getElem_inj hnd).mp z])
        generalize os[a'] = u at *
        generalize os[b'] = v at *
        have hp := putO_true ks (min u v, max u v)
        have hk : keyP (.tuple [.int (min u v), .int (max u v)]) = some (kO (min u v, max u v)) := rfl
        have g : ks.length ≤ 1000000 := by omega
        have g2 : (ks.map kO).length = (trues ks.length).length := by simp [trues]
        apply fmk
        · simp only [pairD]
          walk_at "w"
          exact rfl
        refine ⟨insK ks (min u v, max u v), _, _, rfl, insK_nodup h1, Nat.le_trans (insK_len _ _) (by omega), ?_⟩
        intro z hz
        rcases insK_mem hz with hz | rfl
        · exact h3 z hz
        · simp only []
          omega)
  obtain ⟨ρ', k1, ks, Z, W, rfl, k2, k3, k4⟩ := this
  rw [List.length_map] at k3
  exact ⟨ks, Z, W, k1, k2, k3, k4⟩
theorem web_spec {ps : List OT} (h : POk ps) (most more : Int) (h1 : 1 ≤ most) (h2 : most ≤ 40) (h3 : 0 ≤ more) (h4 : more ≤ 20) : ∃ (n : Nat) (ts : List (Int × Int)) (ps' : List OT), m__law_web (.nd .lst ps) [.int most, .int more] = some (.nd .tup [.d (.int (n : Nat)), .nd .lst (fprO ts)], .nd .lst ps') ∧ POk ps' ∧ 1 ≤ n ∧ (n : Int) ≤ most ∧ WOk n ts ∧ (ts.length : Int) ≤ n - 1 + more := by
  obtain ⟨r1, p1, e1, q1, l1, u1⟩ := take_ok h most (by omega) (by omega)
  obtain ⟨n, hn⟩ : ∃ n : Nat, 1 + r1 = (n : Int) := ⟨(1 + r1).toNat, by omega⟩
  have c1 := rg0_n (n := n) (by omega)
  have c2 := rg1_n (n := n) (by omega)
  have c3 : n ≤ 1000000 := by omega
  obtain ⟨p2, os, X, e2, q2, s2⟩ := web_names q1 most more n c3
  obtain ⟨p3, qs, e3, q3, s3, i3⟩ := web_tree q2 most more n c3 (by omega) X os
  obtain ⟨r2, p4, e4, q4, l4, u4⟩ := take_ok q3 (more + 1) (by omega) (by omega)
  have c4 := rg2_1n (n := n) (by omega)
  obtain ⟨n2, rfl⟩ : ∃ n2 : Nat, r2 = (n2 : Int) := ⟨r2.toNat, by omega⟩
  have c5 := rg1_n (n := n2) (by omega)
  have c6 : n - 1 ≤ 1000000 := by omega
  obtain ⟨p5, qs', Y, e5, q5, s5, i5⟩ := web_more q4 most more n n2 (by omega) (by omega) (by omega) X os qs (by omega) i3
  obtain ⟨ks, Z, W, e6, s6, l6, i6⟩ := web_ties q5 most more n X Y os s2 qs' (by omega) i5
  have g1 := trues_all ks.length
  have g2 := asKeyPs_map ks
  have g3 : (ks.map kO).length = (trues ks.length).length := by simp [trues]
  refine ⟨n, srtL ks, p5, ?_, q5, by omega, by omega, ⟨fun p hp => i6 p (srtL_mem.mp hp), srtL_lex ks, srtL_nodup s6⟩, by rw [srtL_len]; omega⟩
  · unfold m__law_web B__law_web
    apply finI_rt
    walk_at "st"
    walk_at "st"
    walk_at "st"
    walk_at "st"
    apply seq_nx
    · refine sFor_ok ?_ e5
      walk_at "w"
    walk_at "st"
    apply seq_nx
    · refine sFor_ok ?_ e6
      walk_at "w"
    walk_at "w"
    exact rfl
end SH

namespace SH
open PySem L2 PL MR
local macro_rules | `(tactic| walk_at "ev") => `(tactic| simp (config := {decide := true}) only [ini, fin, finI, sSeq, sNext, sAsg, sAsgG, sRet, sRetN, sDrop, sIf, sNever, sSetP, pmVar, MR.putAt, OT.put, gmName, gmTup, gmLst, gsNil, gsCons, rVar, rC, rOp, rUn, rCb, rCall, rAnd, rOr, rNot, rIf, rIs, rCh, rCh3, rTup, rLst, small, qNil, qCons, bR, bAnd, bOr, bNot, tR, tD, tmAnd, tmOr, tmNot, yVar, yMov, yR, yAuto, dY, yD, dR, dOp, dOpR, dCb, yCall, yCallA, lfO, yTup, yLst, oNil, oCons, isNo, lNil, lCons, asB, asInt, toD_d, toD_tup, toD_lst, toDs_nil, toDs_cons, kp_int, kp_bool, kp_tuple, kp_list, isIntB, isBoolB, isTupB, isListB, gAdd_i, gSub_i, gLt_i, gLe_i, gGt_i, gGe_i, gMul_r, gMul_l, gMod_i, gDiv_i, gPow_i, gNeg, gEqI, gNeI, gIsN, gNotN, gIsB, gNotB, gIxL, gIxT, gLen, gMax2, gMin2, isN, OT.lf, OT.lfs, atI_0, atI_1, ixN_0, ixN_1, Option.bind_some, Option.bind_none, Option.map_some, Option.map_none, List.getElem?_cons_zero, List.getElem?_cons_succ, List.set_cons_zero, List.set_cons_succ, List.map_cons, List.map_nil, List.replicate, List.nil_append, List.cons_append, List.length_cons, List.length_nil, if_true, if_false, reduceIte, tfl_int, tfl_bool, tfl_none, tfl_str, tfl_list, Bool.true_and, Bool.and_true, Bool.false_and, Bool.and_false, Bool.not_true, Bool.not_false, Bool.false_eq_true, decide_true, decide_false, true_and, and_true, false_and, and_false, or_true, true_or, *])
local macro_rules | `(tactic| walk_at "w") => `(tactic| simp (config := {decide := true}) only [ini, fin, finI, sSeq, sNext, sAsg, sAsgG, sRet, sRetN, sDrop, sIf, sNever, sFor, pmVar, gmName, gmTup, gmLst, gsNil, gsCons, rVar, rC, rOp, rUn, rCb, rCall, rTup, rLst, qNil, qCons, bR, bAnd, bOr, bNot, tR, tD, yVar, yMov, yR, yAuto, dY, yD, dR, dOp, dOpR, dCb, yCall, yCallA, yCallI, lfO, yTup, yLst, oNil, oCons, isNo, lNil, lCons, asB, asInt, toD_d, toD_tup, toD_lst, toDs_nil, toDs_cons, gAdd_i, gSub_i, gLt_i, gLe_i, gGt_i, gGe_i, gEqI, gNeI, gLen, gMax2, gMin2, isN, yRng1_eq, iR1_eq, iR2_eq, iL, iE, asL, yLc, calmAt, wipeE, rst, rsts, sApp, yPop_eq, sDPutM, ySortD, yDNew, lcStep, lstO_rg, lstO_prs, lstO_ints, toDs_ints, toDs_fpr, toDs_prs, lfs_ints, lfs_fpr, intsO_len, prsO_len, fprO_len, rng_len, intsO_snoc, prsO_snoc, Int.toNat_natCast, List.length_map, trues_len, eq_self, gIxL, small, flat, rgD_len, List.all_cons, List.all_nil, Option.bind_some, Option.bind_none, Option.map_some, Option.map_none, List.getElem?_cons_zero, List.getElem?_cons_succ, List.set_cons_zero, List.set_cons_succ, List.map_cons, List.map_nil, List.replicate, List.nil_append, List.cons_append, List.length_cons, List.length_nil, if_true, if_false, reduceIte, tfl_int, tfl_bool, tfl_none, tfl_str, tfl_list, Bool.true_and, Bool.and_true, Bool.false_and, Bool.and_false, Bool.not_true, Bool.not_false, Bool.false_eq_true, decide_true, decide_false, true_and, and_true, or_true, true_or, false_and, and_false, *])
local macro_rules | `(tactic| walk_at "st") => `(tactic| (apply seq_nx; (walk_at "w"; exact rfl)))
theorem loose_spec {ps : List OT} (h : POk ps) (most more : Int) (h1 : 1 ≤ most) (h2 : most ≤ 40) (h3 : 0 ≤ more) (h4 : more ≤ 20) : ∃ (n : Nat) (ts : List (Int × Int)) (t : OT) (ps' : List OT), m__law_loose (.nd .lst ps) [.int most, .int more] = some (.nd .tup [.d (.int (n : Nat)), t], .nd .lst ps') ∧ POk ps' ∧ 1 ≤ n ∧ (n : Int) ≤ most ∧ WOk n ts ∧ (ts.length : Int) ≤ n - 1 + more ∧ t.toD = some (.list (ts.map pairD)) := by
  obtain ⟨n, ts, p1, e1, q1, a1, a2, w1, l1⟩ := web_spec h most more h1 h2 h3 h4
  obtain ⟨r, p2, e2, q2, b1, b2⟩ := take_ok q1 4 (by omega) (by omega)
  by_cases hr : r = 0
  · subst hr
    have L : ∃ p3 us, mLc [5] (lcStep (gmName 5) (tD (dOpR gGt (dY (yCallI m__law_take 2 0 (lCons (dR (rC (.int 3))) lNil))) (rC (.int 0)))) (yVar 5)) (ts.map pairD) [] [.nd .lst p2, .d (.int most), .d (.int more), .d (.int n), .d (.list (ts.map pairD)), .no] = some (fprO us, [.nd .lst p3, .d (.int most), .d (.int more), .d (.int n), .d (.list (ts.map pairD)), .no]) ∧ POk p3 ∧ us.Sublist ts := by
      have := mLc_inv (vs := [5]) (step := lcStep (gmName 5) (tD (dOpR gGt (dY (yCallI m__law_take 2 0 (lCons (dR (rC (.int 3))) lNil))) (rC (.int 0)))) (yVar 5)) (ts.map pairD) [] [.nd .lst p2, .d (.int most), .d (.int more), .d (.int n), .d (.list (ts.map pairD)), .no]
        (fun i acc ρ => ∃ p us, POk p ∧ ρ = [.nd .lst p, .d (.int most), .d (.int more), .d (.int n), .d (.list (ts.map pairD)), .no] ∧ acc = fprO us ∧ us.Sublist (ts.take i))
        ⟨p2, [], q2, rfl, rfl, by simp⟩
        (by
          rintro i x acc ρ hx ⟨p, us, hp, rfl, rfl, hs⟩
          rw [List.getElem?_map] at hx
          obtain ⟨z, hz, rfl⟩ := Option.map_eq_some_iff.mp hx
          have ht : ts.take (i + 1) = ts.take i ++ [z] := by rw [List.take_add_one, hz]; rfl
          obtain ⟨r', p', e, q, l, u⟩ := take_ok hp 3 (by omega) (by omega)
          by_cases hc : 0 < r'
          · apply lcmk
            · walk_at "w"
              exact rfl
            refine ⟨p', us ++ [z], q, rfl, by simp [fprO], ?_⟩
            rw [ht]
            exact hs.append (List.Sublist.refl _)
          · apply lcmk
            · walk_at "w"
              exact rfl
            refine ⟨p', us, q, rfl, by simp, ?_⟩
            rw [ht]
            exact hs.trans (List.sublist_append_left _ _))
      obtain ⟨rs, ρ', k1, p, us, k2, rfl, rfl, k3⟩ := this
      rw [List.length_map, List.take_length] at k3
      exact ⟨p, us, k1, k2, k3⟩
    obtain ⟨p3, us, e3, q3, s3⟩ := L
    have g : ts.length ≤ 1000000 := by omega
    refine ⟨n, us, .nd .lst (fprO us), p3, ?_, q3, a1, a2, ⟨fun p hp => w1.in' p (s3.subset hp), List.Pairwise.sublist s3 w1.lex, s3.nodup w1.nodup⟩, ?_, ?_⟩
    · unfold m__law_loose B__law_loose
      apply finI_rt
      walk_at "st"
      walk_at "st"
      walk_at "w"
      exact rfl
    · have := s3.length_le
      omega
    · rw [toD_lst, toDs_fpr]; rfl
  · have g : ts.length ≤ 1000000 := by omega
    refine ⟨n, ts, .d (.list (ts.map pairD)), p2, ?_, q2, a1, a2, w1, l1, toD_d _⟩
    unfold m__law_loose B__law_loose
    apply finI_rt
    walk_at "st"
    walk_at "st"
    walk_at "w"
    exact rfl
theorem shuffled_spec {p1 : List OT} (q1 : POk p1) (n : Nat) (c3 : n ≤ 1000) : ∃ (os : List Int) (p2 : List OT), m__law_shuffled (.nd .lst p1) [.int n] = some (.nd .lst (intsO os), .nd .lst p2) ∧ POk p2 ∧ os.Perm (rng n) := by
  have L1 : ∃ p2 os X, mLc [3] (lcStep (gmName 3) (fun ρ => some (true, ρ)) (yPop 2 (dY (yCallI m__law_take 2 0 (lCons (dR (rCb gLen (qCons (rVar 2) qNil))) lNil))))) (rgD 0 n) [] [.nd .lst p1, .d (.int n), .nd .lst (intsO (rng n)), .no] = some (intsO os, [.nd .lst p2, .d (.int n), X, .no]) ∧ POk p2 ∧ os.Perm (rng n) := by
    have := mLc_inv (vs := [3]) (step := lcStep (gmName 3) (fun ρ => some (true, ρ)) (yPop 2 (dY (yCallI m__law_take 2 0 (lCons (dR (rCb gLen (qCons (rVar 2) qNil))) lNil))))) (rgD 0 n) [] [.nd .lst p1, .d (.int n), .nd .lst (intsO (rng n)), .no]
      (fun i acc ρ => ∃ p xs ks, POk p ∧ ρ = [.nd .lst p, .d (.int n), .nd .lst (intsO xs), .no] ∧ acc = intsO ks ∧ xs.length + i = n ∧ (ks ++ xs).Perm (rng n))
      ⟨p1, rng n, [], q1, rfl, rfl, by simp [rng_len], by simp⟩
      (by
        rintro i x acc ρ hx ⟨p, xs, ks, hp, rfl, rfl, hl, hq⟩
        obtain ⟨hi, rfl⟩ := rgD_at hx
        obtain ⟨r, p', e, q, l, u⟩ := take_ok hp (xs.length : Nat) (by omega) (by omega)
        obtain ⟨j, rfl⟩ : ∃ j : Nat, r = (j : Int) := ⟨r.toNat, by omega⟩
        have g1 := pop1_n (n := xs.length) (i := j) (by omega) (by omega)
        obtain ⟨k, xs', g2, g3, g4, g5⟩ := pop_ints (xs := xs) (j := j) (by omega)
        apply lcmk
        · walk_at "w"
          exact rfl
        refine ⟨p', xs', ks ++ [k], q, ?_, ?_, ?_, ?_⟩
        · rfl
        · simp [intsO_snoc]
        · omega
        · have := g4.append_left ks
          simpa using this.trans hq)
    obtain ⟨rs, ρ', k1, p, xs, ks, k2, rfl, rfl, k3, k4⟩ := this
    rw [rgD_len] at k3
    have : xs = [] := List.length_eq_zero_iff.mp (by omega)
    subst this
    exact ⟨p, ks, _, k1, k2, by simpa using k4⟩
  obtain ⟨p2, os, X, e2, q2, s2⟩ := L1
  have c1 := rg0_n (n := n) (by omega)
  have c2 := rg1_n (n := n) (by omega)
  have c4 : n ≤ 1000000 := by omega
  refine ⟨os, p2, ?_, q2, s2⟩
  unfold m__law_shuffled B__law_shuffled
  apply finI_rt
  walk_at "st"
  walk_at "w"
  exact rfl
end SH

namespace SH
open PySem L2 PL MR
local macro_rules | `(tactic| walk_at "w") => `(tactic| simp (config := {decide := true}) only [ini, fin, finI, sSeq, sNext, sAsg, sAsgG, sRet, sRetN, sDrop, sIf, sNever, sFor, pmVar, gmName, gmTup, gmLst, gsNil, gsCons, rVar, rC, rOp, rUn, rCb, rCall, rTup, rLst, qNil, qCons, bR, bAnd, bOr, bNot, tR, tD, yVar, yMov, yR, yAuto, dY, yD, dR, dOp, dOpR, dCb, yCall, yCallA, yCallI, lfO, yTup, yLst, oNil, oCons, isNo, lNil, lCons, asB, asInt, toD_d, toD_tup, toD_lst, toDs_nil, toDs_cons, gAdd_i, gSub_i, gLt_i, gLe_i, gGt_i, gGe_i, gEqI, gNeI, gLen, gMax2, gMin2, isN, yRng1_eq, iR1_eq, iR2_eq, iL, iE, asL, yLc, calmAt, wipeE, rst, rsts, sApp, yPop_eq, sDPutM, ySortD, yDNew, lcStep, lstO_rg, lstO_prs, lstO_ints, toDs_ints, toDs_fpr, toDs_prs, lfs_ints, lfs_fpr, intsO_len, prsO_len, fprO_len, rng_len, intsO_snoc, prsO_snoc, Int.toNat_natCast, List.length_map, trues_len, eq_self, gIxL, small, kp_int, kp_bool, kp_tuple, kp_list, isIntB, isBoolB, isTupB, isListB, rIs, rCh, rCh3, rAnd, rOr, rNot, rIf, gIxT, gNotN, gIsN, atI_0, atI_1, dAnd, dOr, dNot, tmAnd, tmOr, tmNot, gAll, asBools_map, gLeT, enumD_len, OT.lf, OT.lfs,  flat, rgD_len, List.all_cons, List.all_nil, Option.bind_some, Option.bind_none, Option.map_some, Option.map_none, List.getElem?_cons_zero, List.getElem?_cons_succ, List.set_cons_zero, List.set_cons_succ, List.map_cons, List.map_nil, List.replicate, List.nil_append, List.cons_append, List.length_cons, List.length_nil, if_true, if_false, reduceIte, tfl_int, tfl_bool, tfl_none, tfl_str, tfl_list, Bool.true_and, Bool.and_true, Bool.false_and, Bool.and_false, Bool.not_true, Bool.not_false, Bool.false_eq_true, decide_true, decide_false, true_and, and_true, or_true, true_or, false_and, and_false, *])
local macro_rules | `(tactic| walk_at "st") => `(tactic| (apply seq_nx; (walk_at "w"; exact rfl)))
theorem fault_ok {n : Nat} {ts : List (Int × Int)} (w : WOk n ts) (h1 : 1 ≤ n) (h2 : n ≤ 40) (h3 : ts.length ≤ 120) : m_web_fault [WD n ts] = some (.d .none) := by
  have f0 := is_whole_int (n : Int)
  have f1 : 1 ≤ (n : Int) := by omega
  have f2 : (n : Int) ≤ 40 := by omega
  have f3 : decide (120 < (ts.length : Int)) = false := by simp; omega
  have L : ∃ Z W, mFor (fun x ρ => (gmTup (gsCons (gmName 3) (gsCons (gmName 4) gsNil)) x ρ).bind (sIf (tR (bOr (bNot (bR (rCall m_joins_places 2 (qCons (rVar 1) (qCons (rVar 4) qNil))))) (bAnd (bR (rOp gGt (rVar 3) (rC (.int 0)))) (bR (rOp gLeT (rVar 4) (rOp gIxL (rVar 2) (rOp gSub (rVar 3) (rC (.int 1)))))))))
 (sRet (yTup (oCons (yR (rC (.str "ties"))) (oCons (yMov 3) oNil))))
 sNext)) (enumD (ts.map pairD)) [.d (.tuple [.int n, .list (ts.map pairD)]), .d (.int n), .d (.list (ts.map pairD)), .no, .no] = some (.nx, [.d (.tuple [.int n, .list (ts.map pairD)]), .d (.int n), .d (.list (ts.map pairD)), Z, W]) := by
    have := mFor_inv (step := fun x ρ => (gmTup (gsCons (gmName 3) (gsCons (gmName 4) gsNil)) x ρ).bind (sIf (tR (bOr (bNot (bR (rCall m_joins_places 2 (qCons (rVar 1) (qCons (rVar 4) qNil))))) (bAnd (bR (rOp gGt (rVar 3) (rC (.int 0)))) (bR (rOp gLeT (rVar 4) (rOp gIxL (rVar 2) (rOp gSub (rVar 3) (rC (.int 1)))))))))
 (sRet (yTup (oCons (yR (rC (.str "ties"))) (oCons (yMov 3) oNil))))
 sNext)) (enumD (ts.map pairD)) [.d (.tuple [.int n, .list (ts.map pairD)]), .d (.int n), .d (.list (ts.map pairD)), .no, .no]
      (fun i ρ => ∃ Z W, ρ = [.d (.tuple [.int n, .list (ts.map pairD)]), .d (.int n), .d (.list (ts.map pairD)), Z, W])
      ⟨.no, .no, rfl⟩
      (by
        rintro i x ρ hx ⟨Z, W, rfl⟩
        obtain ⟨d, hd, rfl⟩ := enumD_at hx
        rw [List.getElem?_map] at hd
        obtain ⟨z, hz, rfl⟩ := Option.map_eq_some_iff.mp hd
        obtain ⟨a1, a2, a3⟩ := w.in' z (List.mem_of_getElem? hz)
        have hj := joins_spec (m := (n : Int)) (a := z.1) (b := z.2) ⟨a1, by omega⟩ ⟨by omega, a3⟩ a2
        cases i with
        | zero =>
          have e0 : decide (0 < ((0 : Nat) : Int)) = false := rfl
          apply fmk
          · simp only [pairD]
            walk_at "w"
            exact rfl
          exact ⟨_, _, rfl⟩
        | succ k =>
          have e0 : decide (0 < ((k + 1 : Nat) : Int)) = true := by simp
          have e1 : ((k + 1 : Nat) : Int) - 1 = (k : Int) := by omega
          have hk : k < ts.length := by have := (List.getElem?_eq_some_iff.mp hz).1; omega
          have hy : ts[k]? = some ts[k] := by simp [hk]
          have e2 : atI (ts.map pairD) (k : Int) = some (pairD ts[k]) := atI_at (by rw [List.getElem?_map, hy]; rfl)
          have e3 := lexLe_prev w hy hz
          generalize ts[k] = y at *
          simp only [pairD] at e2
          apply fmk
          · simp only [pairD] at e2 ⊢
            walk_at "w"
            exact rfl
          exact ⟨_, _, rfl⟩)
    obtain ⟨ρ', k1, Z, W, rfl⟩ := this
    exact ⟨Z, W, k1⟩
  obtain ⟨Z, W, eL⟩ := L
  unfold m_web_fault B_web_fault WD
  apply fin_rtd
  walk_at "st"
  walk_at "st"
  walk_at "st"
  walk_at "st"
  apply seq_nx
  · refine sFor_ok ?_ eL
    walk_at "w"
  walk_at "w"
  exact rfl
theorem look_ok {n : Nat} {ts : List (Int × Int)} (w : WOk n ts) (h1 : 1 ≤ n) (h2 : n ≤ 40) (h3 : ts.length ≤ 120) : m_look_at_web [WD n ts] = some (.d .none) := by
  have f := fault_ok w h1 h2 h3
  unfold m_look_at_web B_look_at_web
  generalize WD n ts = x at *
  walk_at "w"
theorem each_ok {n : Nat} {os : List Int} (ho : os.Perm (rng n)) (h : n < 64) : m_has_each_place [.int n, .list (os.map .int)] = some (.d (.bool true)) := by
  have hl : os.length = n := by rw [ho.length_eq, rng_len]
  have hm : mLc [2] (lcStep (gmName 2) (fun ρ => some (true, ρ)) (yCallA m_is_place 2 (qCons (rVar 0) (qCons (rVar 2) qNil)) (lCons (dY (yVar 0)) (lCons (dY (yVar 2)) lNil)))) (os.map .int) [] [.d (.int n), .d (.list (os.map .int)), .no] = some ((os.map PyData.int).map fun _ => .d (.bool true), [.d (.int n), .d (.list (os.map .int)), .no]) := by
    refine mLc_map (fun _ => .d (.bool true)) fun x hx => ?_
    obtain ⟨k, hk, rfl⟩ := List.mem_map.mp hx
    have hb := rng_mem.mp (ho.mem_iff.mp hk)
    have e := is_place_int (n : Int) k
    rw [decide_eq_true hb] at e
    refine ⟨[.d (.int n), .d (.list (os.map .int)), .d (.int k)], ?_, rfl⟩
    walk_at "w"
  have hs := lenset_ok (a := rVar 1) (ρ := [.d (.int n), .d (.list (os.map .int)), .no]) (ns := os) rfl (by omega) (ho.nodup_iff.mpr (rng_nodup n))
  have hc : OT.toDs ((os.map PyData.int).map fun _ => OT.d (.bool true)) = some ((os.map fun _ => true).map PyData.bool) := by
    have : ((os.map PyData.int).map fun _ => OT.d (.bool true)) = ((os.map fun _ => true).map PyData.bool).map OT.d := by simp [Function.comp_def]
    rw [this, toDs_mapd]
  have ha : (os.map fun _ => true).all id = true := by simp
  have g : os.length ≤ 1000000 := by omega
  have g2 : n ≤ 1000000 := by omega
  unfold m_has_each_place B_has_each_place
  apply fin_rtd
  walk_at "st"
  walk_at "w"
  exact rfl
end SH

namespace MR
open PySem L2 PL
/-! ### pure: sorted -/
theorem dLe_pr (p q : Int × Int) : dLe (pairD p) (pairD q) = lexLe p q := by
  have := congrFun (congrFun (PySem.W.dataLe_ii (β := Int × Int) (·.1) (·.2)) p) q
  unfold lexLe
  rw [← this]
  rfl
theorem dsort_prs (ps : List (Int × Int)) : dsort (ps.map pairD) = (srtL ps).map pairD := by
  have e := PySem.W.sort_maps (r := lexLe) (s := dLe) pairD (l := ps) (fun a _ b _ => (dLe_pr a b).symm)
  unfold dsort
  rw [← e]
  congr 1
  refine lex_uniq ?_ ?_ ?_
  · have tr : ∀ a b c : Int × Int, lexLe a b = true → lexLe b c = true → lexLe a c = true := by
      intro a b c h1 h2
      simp only [lexLe, decide_eq_true_eq] at *
      omega
    have tot : ∀ a b : Int × Int, (lexLe a b || lexLe b a) = true := by
      intro a b
      simp only [lexLe, Bool.or_eq_true, decide_eq_true_eq]
      omega
    have := List.pairwise_mergeSort (le := lexLe) tr tot ps
    exact this.imp (by intro a b h; simpa [lexLe] using h)
  · exact srtL_lex ps
  · exact (List.mergeSort_perm _ _).trans (srtL_perm ps).symm
theorem fits_pr (p q : Int × Int) : PySem.W.alike (pairD p) (pairD q) = true := by
  simp [pairD, PySem.W.alike, PySem.W.alikeAll]
theorem sortOk_of {α : Type} {f : α → D} {xs : List α} (h1 : ∀ a b, PySem.W.alike (f a) (f b) = true) (h2 : (∀ a, isTup1 (f a) = true) ∨ ∀ a, isPl (f a) = true) (h3 : ∀ a, (f a).depth ≤ 8) : sortOk (xs.map f) = true := by
  unfold sortOk
  simp only [Bool.and_eq_true, List.all_map, List.all_eq_true, Function.comp, Bool.or_eq_true, decide_eq_true_eq]
  refine ⟨⟨fun a _ b _ => h1 a b, ?_⟩, fun a _ => h3 a⟩
  rcases h2 with h | h
  · exact .inl fun a _ => h a
  · exact .inr fun a _ => h a
theorem depth_pr (p : Int × Int) : (pairD p).depth ≤ 8 := by
  simp [pairD, PyData.depth, PyData.depthAll]
theorem sortA_prs (ps : List (Int × Int)) : GSortA [.list (ps.map pairD)] = some (.nd .lst (fprO (srtL ps))) := by
  unfold GSortA
  simp only []
  rw [if_pos (sortOk_of fits_pr (.inl fun _ => rfl) depth_pr), dsort_prs, lstO_prs]
/-- lists of ints -/
def rowD (r : List Int) : D := .list (r.map .int)
def rowLe (a b : List Int) : Bool := !decide (b < a)
theorem dLt_row (a b : List Int) : PySem.W.dataLt (rowD a) (rowD b) = decide (a < b) := by
  unfold rowD
  rw [PySem.W.dataLt_list]
  exact PySem.W.dataLt_ints a b
theorem dLe_row (a b : List Int) : dLe (rowD a) (rowD b) = rowLe a b := by
  unfold dLe rowLe
  rw [dLt_row]
theorem dsort_rows (rs : List (List Int)) : dsort (rs.map rowD) = (rs.mergeSort rowLe).map rowD := by
  unfold dsort
  exact (PySem.W.sort_maps (r := rowLe) (s := dLe) rowD (l := rs) (fun a _ b _ => (dLe_row a b).symm)).symm
theorem sortA_rows (rs : List (List Int)) : GSortA [.list (rs.map rowD)] = some (lstO ((rs.mergeSort rowLe).map rowD)) := by
  unfold GSortA
  simp only []
  rw [if_pos (sortOk_of (fun a b => by simp [rowD, PySem.W.alike, PySem.W.alike_ints]) (.inr fun _ => rfl) fun a => by simp [rowD, PyData.depth, PySem.W.depth_ints]), dsort_rows]
theorem ltA_row (a b : List Int) : gLtA (rowD a) (rowD b) = some (.bool (decide (a < b))) := by
  unfold gLtA fitsB
  rw [dLt_row]
  have h1 : PySem.W.alike (rowD a) (rowD a) = true := by simp [rowD, PySem.W.alike, PySem.W.alike_ints]
  have h2 : PySem.W.alike (rowD a) (rowD b) = true := by simp [rowD, PySem.W.alike, PySem.W.alike_ints]
  have h3 : decide ((rowD a).depth ≤ 8) = true := by simp [rowD, PyData.depth, PySem.W.depth_ints]
  have h4 : PySem.W.alike (rowD b) (rowD b) = true := by simp [rowD, PySem.W.alike, PySem.W.alike_ints]
  have h5 : decide ((rowD b).depth ≤ 8) = true := by simp [rowD, PyData.depth, PySem.W.depth_ints]
  rw [h1, h2, h3, h4, h5]
  rfl
end MR

namespace MR
open PySem L2 PL
/-! ### pure: repr of data without texts, its numbers of at most twelve figures -/
mutual
def smallD : D → Bool
  | .none => true
  | .bool _ => true
  | .int i => decide (i.natAbs < 10 ^ 60)
  | .str _ => false
  | .list xs => smallAll xs
  | .tuple xs => smallAll xs
  | .dict _ => false
def smallAll : List D → Bool
  | [] => true
  | x :: xs => smallD x && smallAll xs
end
theorem int_showable {i : Int} (h : i.natAbs < 10 ^ 60) : i.natAbs.log2 < 1920 := by
  by_cases z : i.natAbs = 0
  · rw [z]; decide
  · rw [Nat.log2_lt z]
    have h1 : i.natAbs < 2 ^ 200 := Nat.lt_of_lt_of_le h (by decide)
    exact Nat.lt_of_lt_of_le h1 (Nat.pow_le_pow_right (by decide) (by decide))
theorem shown_int60 {i : Int} (h : i.natAbs < 10 ^ 60) : (PyData.shown (.int i)).length ≤ 61 := by
  have e := int_text_length_le10 (k := 60) (by decide) h
  show (Str.ofString (toString i)).length ≤ 61
  rw [ofString_length]; exact e
mutual
theorem small_ok : ∀ d : D, smallD d = true → d.canLay0 = true ∧ d.showable = true ∧ d.leavesShort 61 = true
  | .none, _ => by simp [PyData.canLay0, PyData.showable, PyData.leavesShort]
  | .bool _, _ => by simp [PyData.canLay0, PyData.showable, PyData.leavesShort]
  | .int i, h => by
    have h : i.natAbs < 10 ^ 60 := by simpa only [smallD, decide_eq_true_eq] using h
    have e := int_showable h
    have e2 := shown_int60 h
    simp only [PyData.canLay0, PyData.showable, PyData.leavesShort, decide_eq_true_eq]
    exact ⟨trivial, e, e2⟩
  | .str _, h => by simp [smallD] at h
  | .list xs, h => by
    have := smallAll_ok xs (by simpa [smallD] using h)
    simpa [PyData.canLay0, PyData.showable, PyData.leavesShort] using this
  | .tuple xs, h => by
    have := smallAll_ok xs (by simpa [smallD] using h)
    simpa [PyData.canLay0, PyData.showable, PyData.leavesShort] using this
  | .dict _, h => by simp [smallD] at h
theorem smallAll_ok : ∀ xs : List D, smallAll xs = true → PyData.canLayAll0 xs = true ∧ PyData.showableAll xs = true ∧ PyData.leavesShortAll 61 xs = true
  | [], _ => by simp [PyData.canLayAll0, PyData.showableAll, PyData.leavesShortAll]
  | x :: xs, h => by
    have h' : smallD x = true ∧ smallAll xs = true := by simpa [smallAll] using h
    have h1 := small_ok x h'.1
    have h2 := smallAll_ok xs h'.2
    simp [PyData.canLayAll0, PyData.showableAll, PyData.leavesShortAll, h1, h2]
end
theorem repr_ok {d : D} (h1 : smallD d = true) (h2 : d.depth ≤ 60) (h3 : d.bulk ≤ 200000) : gRepr d = some (.str d.shown) := by
  obtain ⟨a, b, c⟩ := small_ok d h1
  have e : d.shown.length ≤ sizeLine := by
    have := PyData.shown_le_bulk 61 (by omega) d c
    unfold sizeLine
    omega
  unfold gRepr
  simp [a, b, e, h2]
theorem smallAll_map {α : Type} {f : α → D} {xs : List α} (h : ∀ x ∈ xs, smallD (f x) = true) : smallAll (xs.map f) = true := by
  induction xs with
  | nil => simp [smallAll]
  | cons x xs ih => simp [smallAll, h x List.mem_cons_self, ih fun y hy => h y (List.mem_cons_of_mem _ hy)]
theorem depthAll_map {α : Type} {f : α → D} {k : Nat} {xs : List α} (h : ∀ x ∈ xs, (f x).depth ≤ k) : PyData.depthAll (xs.map f) ≤ k := by
  induction xs with
  | nil => simp [PyData.depthAll]
  | cons x xs ih =>
    have a := h x List.mem_cons_self
    have b := ih fun y hy => h y (List.mem_cons_of_mem _ hy)
    simp only [List.map_cons, PyData.depthAll]
    omega
theorem bulkAll_map {α : Type} {f : α → D} {k : Nat} {xs : List α} (h : ∀ x ∈ xs, (f x).bulk ≤ k) : PyData.bulkAll (xs.map f) ≤ xs.length * (k + 1) := by
  induction xs with
  | nil => simp [PyData.bulkAll]
  | cons x xs ih =>
    have a := h x List.mem_cons_self
    have b := ih fun y hy => h y (List.mem_cons_of_mem _ hy)
    simp only [List.map_cons, PyData.bulkAll, List.length_cons, Nat.add_mul, Nat.one_mul]
    omega
/-- data that repr shows: how deep, how much -/
structure Nice (d : D) (k b : Nat) : Prop where
  sm : smallD d = true
  dp : d.depth ≤ k
  bk : d.bulk ≤ b
theorem Nice.repr {d : D} {k b : Nat} (h : Nice d k b) (h1 : k ≤ 60) (h2 : b ≤ 200000) : gRepr d = some (.str d.shown) := repr_ok h.sm (Nat.le_trans h.dp h1) (Nat.le_trans h.bk h2)
theorem nice_int60 {i : Int} (h : i.natAbs < 10 ^ 60) : Nice (.int i) 0 0 := ⟨by simpa only [smallD, decide_eq_true_eq] using h, by simp [PyData.depth], by simp [PyData.bulk]⟩
theorem lt60 {n : Nat} (h : n < 10 ^ 13) : n < 10 ^ 60 := Nat.lt_of_lt_of_le h (Nat.pow_le_pow_right (by decide) (by decide))
theorem nice_int {i : Int} (h : -999999999999 ≤ i ∧ i ≤ 999999999999) : Nice (.int i) 0 0 := nice_int60 (lt60 (by omega))
theorem nice_list {α : Type} {f : α → D} {k b n : Nat} {xs : List α} (h : ∀ x ∈ xs, Nice (f x) k b) (hn : xs.length ≤ n) : Nice (.list (xs.map f)) (k + 1) (n * (b + 1)) := by
  refine ⟨by simpa [smallD] using smallAll_map fun x hx => (h x hx).sm, ?_, ?_⟩
  · have := depthAll_map fun x hx => (h x hx).dp
    simp only [PyData.depth]
    omega
  · have := bulkAll_map fun x hx => (h x hx).bk
    simp only [PyData.bulk]
    exact Nat.le_trans this (Nat.mul_le_mul_right _ hn)
theorem nice_pr {p : Int × Int} (h : -999999999999 ≤ p.1 ∧ p.1 ≤ 999999999999 ∧ -999999999999 ≤ p.2 ∧ p.2 ≤ 999999999999) : Nice (pairD p) 1 2 :=
  ⟨by simp only [pairD, smallD, smallAll, Bool.and_true, Bool.and_eq_true, decide_eq_true_eq]; exact ⟨lt60 (by omega), lt60 (by omega)⟩, by simp [pairD, PyData.depth, PyData.depthAll], by simp [pairD, PyData.bulk, PyData.bulkAll]⟩
theorem nice_tup2 {d e : D} {k b c : Nat} (h1 : Nice d k b) (h2 : Nice e k c) : Nice (.tuple [d, e]) (k + 1) (b + c + 2) := by
  obtain ⟨a1, a2, a3⟩ := h1
  obtain ⟨b1, b2, b3⟩ := h2
  refine ⟨by simp [smallD, smallAll, a1, b1], ?_, ?_⟩
  · simp only [PyData.depth, PyData.depthAll]; omega
  · simp only [PyData.bulk, PyData.bulkAll]; omega
theorem nice_lst2 {d e : D} {k b c : Nat} (h1 : Nice d k b) (h2 : Nice e k c) : Nice (.list [d, e]) (k + 1) (b + c + 2) := by
  obtain ⟨a1, a2, a3⟩ := h1
  obtain ⟨b1, b2, b3⟩ := h2
  refine ⟨by simp [smallD, smallAll, a1, b1], ?_, ?_⟩
  · simp only [PyData.depth, PyData.depthAll]; omega
  · simp only [PyData.bulk, PyData.bulkAll]; omega
theorem nice_lst3 {d e f : D} {k a b c : Nat} (h1 : Nice d k a) (h2 : Nice e k b) (h3 : Nice f k c) : Nice (.list [d, e, f]) (k + 1) (a + b + c + 3) := by
  obtain ⟨a1, a2, a3⟩ := h1
  obtain ⟨b1, b2, b3⟩ := h2
  obtain ⟨c1, c2, c3⟩ := h3
  refine ⟨by simp [smallD, smallAll, a1, b1, c1], ?_, ?_⟩
  · simp only [PyData.depth, PyData.depthAll]; omega
  · simp only [PyData.bulk, PyData.bulkAll]; omega
theorem Nice.up {d : D} {k b l c : Nat} (h : Nice d k b) (h1 : k ≤ l) (h2 : b ≤ c) : Nice d l c := ⟨h.sm, Nat.le_trans h.dp h1, Nat.le_trans h.bk h2⟩
theorem eqv_self {d : D} (h : smallD d = true) : PyData.eqv d d = true := by
  exact SeqAt.eqv_refl d (small_ok d h).1
theorem Nice.shaped {d : D} {k b : Nat} (h : Nice d k b) (h1 : k ≤ 60) : SeqAt.shaped d = true := by
  have := h.dp
  simp only [SeqAt.shaped, (small_ok d h.sm).1, Bool.true_and, decide_eq_true_eq]
  omega
theorem Nice.eqv {d : D} {k b : Nat} (h : Nice d k b) : PyData.eqv d d = true := eqv_self h.sm
theorem Nice.eqD {d : D} {k b : Nat} (h : Nice d k b) (h1 : k ≤ 60) : gEqD d d = some (.bool true) := by
  unfold gEqD
  rw [h.shaped h1, h.eqv]
  rfl
theorem Nice.neD {d : D} {k b : Nat} (h : Nice d k b) (h1 : k ≤ 60) : gNeD d d = some (.bool false) := by
  unfold gNeD
  rw [h.shaped h1, h.eqv]
  rfl
end MR

namespace SH
open PySem L2 PL MR
local macro_rules | `(tactic| walk_at "w") => `(tactic| simp (config := {decide := true}) only [ini, fin, finI, sSeq, sNext, sAsg, sAsgG, sRet, sRetN, sDrop, sIf, sNever, sFor, pmVar, gmName, gmTup, gmLst, gsNil, gsCons, rVar, rC, rOp, rUn, rCb, rCall, rTup, rLst, qNil, qCons, bR, bAnd, bOr, bNot, tR, tD, yVar, yMov, yR, yAuto, dY, yD, dR, dOp, dOpR, dCb, yCall, yCallA, yCallI, lfO, yTup, yLst, oNil, oCons, isNo, lNil, lCons, asB, asInt, toD_d, toD_tup, toD_lst, toDs_nil, toDs_cons, gAdd_i, gSub_i, gLt_i, gLe_i, gGt_i, gGe_i, gEqI, gNeI, gLen, gMax2, gMin2, isN, yRng1_eq, iR1_eq, iR2_eq, iL, iE, asL, yLc, calmAt, wipeE, rst, rsts, sApp, yPop_eq, sDPutM, ySortD, yDNew, lcStep, lstO_rg, lstO_prs, lstO_ints, toDs_ints, toDs_fpr, toDs_prs, lfs_ints, lfs_fpr, intsO_len, prsO_len, fprO_len, rng_len, intsO_snoc, prsO_snoc, Int.toNat_natCast, List.length_map, trues_len, eq_self, gIxL, small, yCb, yCbA, kp_int, kp_bool, kp_tuple, kp_list, isIntB, isBoolB, isTupB, isListB, rIs, rCh, rCh3, rAnd, rOr, rNot, rIf, gIxT, gNotN, gIsN, atI_0, atI_1, dAnd, dOr, dNot, tmAnd, tmOr, tmNot, gAll, asBools_map, gLeT, enumD_len, OT.lf, OT.lfs,  flat, rgD_len, List.all_cons, List.all_nil, Option.bind_some, Option.bind_none, Option.map_some, Option.map_none, List.getElem?_cons_zero, List.getElem?_cons_succ, List.set_cons_zero, List.set_cons_succ, List.map_cons, List.map_nil, List.replicate, List.nil_append, List.cons_append, List.length_cons, List.length_nil, if_true, if_false, reduceIte, tfl_int, tfl_bool, tfl_none, tfl_str, tfl_list, Bool.true_and, Bool.and_true, Bool.false_and, Bool.and_false, Bool.not_true, Bool.not_false, Bool.false_eq_true, decide_true, decide_false, true_and, and_true, or_true, true_or, false_and, and_false, *])
local macro_rules | `(tactic| walk_at "st") => `(tactic| (apply seq_nx; (walk_at "w"; exact rfl)))
theorem ren_in {n : Nat} {os : List Int} (ho : os.Perm (rng n)) {p : Int × Int} (hp : 0 ≤ p.1 ∧ p.1 < p.2 ∧ p.2 < (n : Int)) : 0 ≤ (ren os p).1 ∧ (ren os p).1 < (ren os p).2 ∧ (ren os p).2 < (n : Int) := by
  have hl : os.length = n := by rw [ho.length_eq, rng_len]
  have m1 := rng_mem.mp (ho.mem_iff.mp (at'_mem (os := os) (a := p.1) (by omega) (by omega)))
  have m2 := rng_mem.mp (ho.mem_iff.mp (at'_mem (os := os) (a := p.2) (by omega) (by omega)))
  have ne : at' os p.1 ≠ at' os p.2 := fun e => by
    have := at'_inj (ho.nodup_iff.mpr (rng_nodup n)) (by omega) (by omega) (by omega) (by omega) e
    omega
  simp only [ren]
  omega
theorem renum_ok {n : Nat} {ts : List (Int × Int)} (w : WOk n ts) (h1 : 1 ≤ n) (h2 : n ≤ 40) (h3 : ts.length < 64) {os : List Int} (ho : os.Perm (rng n)) : m_renumbered [WD n ts, .list (os.map .int)] = some (.nd .tup [.d (.int n), .nd .lst (fprO (srtL (ts.map (ren os))))]) := by
  have f1 := look_ok w h1 h2 (by omega)
  have f2 := each_ok ho (by omega)
  have hl : os.length = n := by rw [ho.length_eq, rng_len]
  have hm : mLc [2, 3] (lcStep (gmTup (gsCons (gmName 2) (gsCons (gmName 3) gsNil))) (fun ρ => some (true, ρ)) (yCallA m_as_tie 2 (qCons (rOp gIxL (rVar 1) (rVar 2)) (qCons (rOp gIxL (rVar 1) (rVar 3)) qNil)) (lCons (dY (yAuto (rOp gIxL (rVar 1) (rVar 2)) (yD (dOpR gIxL (dY (yVar 1)) (rVar 2))))) (lCons (dY (yAuto (rOp gIxL (rVar 1) (rVar 3)) (yD (dOpR gIxL (dY (yVar 1)) (rVar 3))))) lNil)))) (ts.map pairD) [] [.d (.tuple [.int n, .list (ts.map pairD)]), .d (.list (os.map .int)), .no, .no] = some (prsO (ts.map (ren os)), [.d (.tuple [.int n, .list (ts.map pairD)]), .d (.list (os.map .int)), .no, .no]) := by
    have := mLc_map (vs := [2, 3]) (step := lcStep (gmTup (gsCons (gmName 2) (gsCons (gmName 3) gsNil))) (fun ρ => some (true, ρ)) (yCallA m_as_tie 2 (qCons (rOp gIxL (rVar 1) (rVar 2)) (qCons (rOp gIxL (rVar 1) (rVar 3)) qNil)) (lCons (dY (yAuto (rOp gIxL (rVar 1) (rVar 2)) (yD (dOpR gIxL (dY (yVar 1)) (rVar 2))))) (lCons (dY (yAuto (rOp gIxL (rVar 1) (rVar 3)) (yD (dOpR gIxL (dY (yVar 1)) (rVar 3))))) lNil)))) (ds := ts.map pairD) (ρ := [.d (.tuple [.int n, .list (ts.map pairD)]), .d (.list (os.map .int)), .no, .no])
      (fun d => match asPair d with
        | some p => .nd .tup [.d (.int (ren os p).1), .d (.int (ren os p).2)]
        | Option.none => .no) (by
        intro x hx
        obtain ⟨z, hz, rfl⟩ := List.mem_map.mp hx
        obtain ⟨a1, a2, a3⟩ := w.in' z hz
        have e1 := atI_os (os := os) (a := z.1) (by omega) (by omega)
        have e2 := atI_os (os := os) (a := z.2) (by omega) (by omega)
        have e3 := as_tie_spec (at' os z.1) (at' os z.2)
        refine ⟨[.d (.tuple [.int n, .list (ts.map pairD)]), .d (.list (os.map .int)), .d (.int z.1), .d (.int z.2)], ?_, rfl⟩
        simp only [pairD, asPair, ren]
        walk_at "w")
    rw [this]
    simp [prsO, Function.comp_def, asPair, pairD]
  have hs := sortA_prs (ts.map (ren os))
  have g : ts.length ≤ 1000000 := by omega
  have e1 : ∀ x y : D, m_look_at_web [x] = some (.d .none) → sDrop (yCallA m_look_at_web 1 (qCons (rVar 0) qNil) (lCons (dY (yVar 0)) lNil)) (ini [x, y] 2) = some (.nx, [.d x, .d y, .no, .no]) := by
    intro x y hx
    walk_at "w"
  unfold m_renumbered B_renumbered
  apply fin_rt
  apply seq_nx
  · exact e1 _ _ f1
  show sSeq _ _ [.d (.tuple [.int n, .list (ts.map pairD)]), .d (.list (os.map .int)), .no, .no] = _
  walk_at "st"
  walk_at "w"
  exact rfl
end SH

namespace MR
open PySem L2 PL
/-! ### walking: what stands within a row -/
section
variable {α : Type} {ρ : Env} {a b d dm : Dm} {y : Ym} {l : Lm} {o : Om} {t u : Tm}
theorem w_yD {Q : OT → Env → Prop} (h : W d ρ fun x ρ' => Q (.d x) ρ') : W (yD d) ρ Q := by
  obtain ⟨x, ρ1, e, q⟩ := h
  exact ⟨_, _, by unfold yD; rw [e]; rfl, q⟩
theorem w_dY {Q : D → Env → Prop} (h : W y ρ fun r ρ' => ∃ x, OT.toD r = some x ∧ Q x ρ') : W (dY y) ρ Q := by
  obtain ⟨r, ρ1, e, x, e2, q⟩ := h
  exact ⟨_, _, by unfold dY; rw [e]; simp only [Option.bind_some, e2]; rfl, q⟩
theorem w_dCb {g : List D → Option D} {Q : D → Env → Prop} (h : W l ρ fun xs ρ' => ∃ x, g xs = some x ∧ Q x ρ') : W (dCb g l) ρ Q := by
  obtain ⟨r, ρ1, e, x, e2, q⟩ := h
  exact ⟨_, _, by unfold dCb; rw [e]; simp only [Option.bind_some, e2]; rfl, q⟩
theorem w_lNil {Q : List D → Env → Prop} (q : Q [] ρ) : W lNil ρ Q := ⟨_, _, rfl, q⟩
theorem w_lCons {Q : List D → Env → Prop} (h : W a ρ fun x ρ1 => W l ρ1 fun xs ρ2 => Q (x :: xs) ρ2) : W (lCons a l) ρ Q := by
  obtain ⟨x, ρ1, e, xs, ρ2, e2, q⟩ := h
  exact ⟨_, _, by unfold lCons; rw [e]; simp only [Option.bind_some, e2]; rfl, q⟩
theorem w_oNil {Q : List OT → Env → Prop} (q : Q [] ρ) : W oNil ρ Q := ⟨_, _, rfl, q⟩
theorem w_oCons {Q : List OT → Env → Prop} (h : W y ρ fun r ρ1 => isNo r = false ∧ W o ρ1 fun rs ρ2 => Q (r :: rs) ρ2) : W (oCons y o) ρ Q := by
  obtain ⟨x, ρ1, e, n, xs, ρ2, e2, q⟩ := h
  exact ⟨_, _, by unfold oCons; rw [e]; simp only [Option.bind_some, e2, n]; rfl, q⟩
theorem w_yTup {Q : OT → Env → Prop} (h : W o ρ fun ts ρ' => ts.length ≤ 1000000 ∧ Q (.nd .tup ts) ρ') : W (yTup o) ρ Q := by
  obtain ⟨x, ρ1, e, n, q⟩ := h
  exact ⟨_, _, by unfold yTup; rw [e]; simp only [Option.bind_some, n, if_true], q⟩
theorem w_yLst {Q : OT → Env → Prop} (h : W o ρ fun ts ρ' => ts.length ≤ 1000000 ∧ Q (.nd .lst ts) ρ') : W (yLst o) ρ Q := by
  obtain ⟨x, ρ1, e, n, q⟩ := h
  exact ⟨_, _, by unfold yLst; rw [e]; simp only [Option.bind_some, n, if_true], q⟩
theorem w_yCall {f : List D → Option OT} {n : Nat} {Q : OT → Env → Prop} (h : W l ρ fun xs ρ' => xs.length = n ∧ ∃ r, f xs = some r ∧ Q r ρ') : W (yCall f n l) ρ Q := by
  obtain ⟨xs, ρ1, e, n, r, e2, q⟩ := h
  exact ⟨_, _, by unfold yCall; rw [e]; simp only [Option.bind_some, e2, n, if_true]; rfl, q⟩
theorem w_tD {Q : Bool → Env → Prop} (h : W d ρ fun x ρ' => ∃ c, x = .bool c ∧ Q c ρ') : W (tD d) ρ Q := by
  obtain ⟨x, ρ1, e, c, rfl, q⟩ := h
  exact ⟨_, _, by unfold tD; rw [e]; rfl, q⟩
theorem w_tR {m : Bm} {c : Bool} {Q : Bool → Env → Prop} (h : m ρ = some c) (q : Q c ρ) : W (tR m) ρ Q := ⟨_, _, by unfold tR; rw [h]; rfl, q⟩
theorem w_tOr {Q : Bool → Env → Prop} (h : W t ρ fun c ρ1 => (c = true → Q true ρ1) ∧ (c = false → W u ρ1 Q)) : W (tmOr t u) ρ Q := by
  obtain ⟨c, ρ1, e, q1, q2⟩ := h
  cases c with
  | true => exact ⟨_, _, by unfold tmOr; rw [e]; rfl, q1 rfl⟩
  | false =>
    obtain ⟨c, ρ2, e2, q⟩ := q2 rfl
    exact ⟨_, _, by unfold tmOr; rw [e]; simp only [Option.bind_some, Bool.false_eq_true, if_false]; exact e2, q⟩
theorem w_tAnd {Q : Bool → Env → Prop} (h : W t ρ fun c ρ1 => (c = false → Q false ρ1) ∧ (c = true → W u ρ1 Q)) : W (tmAnd t u) ρ Q := by
  obtain ⟨c, ρ1, e, q1, q2⟩ := h
  cases c with
  | false => exact ⟨_, _, by unfold tmAnd; rw [e]; rfl, q1 rfl⟩
  | true =>
    obtain ⟨c, ρ2, e2, q⟩ := q2 rfl
    exact ⟨_, _, by unfold tmAnd; rw [e]; simp only [Option.bind_some, if_true]; exact e2, q⟩
theorem w_tNot {Q : Bool → Env → Prop} (h : W t ρ fun c ρ1 => Q (!c) ρ1) : W (tmNot t) ρ Q := by
  obtain ⟨c, ρ1, e, q⟩ := h
  exact ⟨_, _, by unfold tmNot; rw [e]; rfl, q⟩
theorem w_dOp {g : D → D → Option D} {Q : D → Env → Prop} (h : W a ρ fun x ρ1 => W b ρ1 fun y ρ2 => ∃ z, g x y = some z ∧ Q z ρ2) : W (dOp g a b) ρ Q := by
  obtain ⟨x, ρ1, e, y, ρ2, e2, z, e3, q⟩ := h
  exact ⟨_, _, by unfold dOp; rw [e]; simp only [Option.bind_some, e2, e3]; rfl, q⟩
theorem w_dOpR {g : D → D → Option D} {r : Rm} {Q : D → Env → Prop} (h : W a ρ fun x ρ1 => ∃ y z, r ρ1 = some y ∧ g x y = some z ∧ Q z ρ1) : W (dOpR g a r) ρ Q := by
  obtain ⟨x, ρ1, e, y, z, e2, e3, q⟩ := h
  exact ⟨_, _, by unfold dOpR; rw [e]; simp only [Option.bind_some, e2, e3]; rfl, q⟩
theorem w_dRepr {Q : D → Env → Prop} (h : W a ρ fun x ρ1 => ∃ z, gRepr x = some z ∧ Q z ρ1) : W (dRepr a) ρ Q := by
  obtain ⟨x, ρ1, e, z, e2, q⟩ := h
  exact ⟨_, _, by unfold dRepr; rw [e]; simp only [Option.bind_some, e2]; rfl, q⟩
theorem w_dR {r : Rm} {x : D} {Q : D → Env → Prop} (h : r ρ = some x) (f : tfl x = true) (q : Q x ρ) : W (dR r) ρ Q := ⟨_, _, by unfold dR; rw [h]; simp [f], q⟩
theorem w_sif {s s' : Sm} {Q : Fl → Env → Prop} (h : W t ρ fun c ρ1 => (c = true → W s ρ1 Q) ∧ (c = false → W s' ρ1 Q)) : W (sIf t s s') ρ Q := by
  obtain ⟨c, ρ1, e, q1, q2⟩ := h
  exact w_if e q1 q2
end
/-! ### {k: True for ..} by pairs -/
theorem dcPut_true (ks : List (Int × Int)) (p : Int × Int) : dcPut (ks.map kO, trues ks.length) (kO p) (.bool true) = ((insK ks p).map kO, trues (insK ks p).length) := by
  have e := dcPut_eq (ks.map kO, trues ks.length) (kO p) (.bool true)
  simp only [putO_true] at e
  injection e with e1 e2
  injection e1 with e1
  exact Prod.ext e1.symm e2.symm
def insAll (us : List (Int × Int)) : List (Int × Int) := us.foldl insK []
theorem mem_insK {ks : List (Int × Int)} {p q : Int × Int} : q ∈ insK ks p ↔ q ∈ ks ∨ q = p := by
  unfold insK
  split
  · rename_i h
    constructor
    · exact .inl
    · rintro (a | rfl)
      · exact a
      · exact h
  · simp
theorem mem_foldl_insK : ∀ {us ks : List (Int × Int)} {q : Int × Int}, q ∈ us.foldl insK ks ↔ q ∈ ks ∨ q ∈ us
  | [], ks, q => by simp
  | u :: us, ks, q => by
    rw [List.foldl_cons, mem_foldl_insK, mem_insK, List.mem_cons, or_assoc]
theorem mem_insAll {us : List (Int × Int)} {q : Int × Int} : q ∈ insAll us ↔ q ∈ us := by
  unfold insAll
  rw [mem_foldl_insK]
  simp
theorem mDc_true {vs : List Nat} {step : D → Env → Option (D × D × Env)} {ρ : Env} : ∀ (us ks : List (Int × Int)), (∀ p ∈ us, ∃ ρ', step (pairD p) ρ = some (pairD p, .bool true, ρ') ∧ wipeE ρ' vs = ρ) →
    mDc vs step (us.map pairD) (ks.map kO, trues ks.length) ρ = some (((us.foldl insK ks).map kO, trues (us.foldl insK ks).length), ρ)
  | [], ks, _ => rfl
  | u :: us, ks, h => by
    obtain ⟨ρ', e, w⟩ := h u List.mem_cons_self
    rw [List.map_cons]
    unfold mDc
    rw [e]
    simp only [keyP_pair]
    rw [dcPut_true, w]
    exact mDc_true us (insK ks u) fun p hp => h p (List.mem_cons_of_mem _ hp)
theorem w_dcTrue {vs : List Nat} {it : Lm} {g : Gm} {k v : Rm} {ρ ρ1 : Env} {us : List (Int × Int)} {Q : OT → Env → Prop} (h : it ρ = some (us.map pairD, ρ1)) (hc : calmAt ρ1 vs = true) (hl : us.length ≤ 1000000)
    (hs : ∀ p ∈ us, ∃ ρ', dcStep g k v (pairD p) (wipeE ρ1 vs) = some (pairD p, .bool true, ρ') ∧ wipeE ρ' vs = wipeE ρ1 vs) (hq : Q (.nd (.dT ((insAll us).map kO)) (trues (insAll us).length)) (rst (wipeE ρ1 vs) ρ1 vs)) : W (yDc vs it g k v) ρ Q := by
  have e := mDc_true (vs := vs) (step := dcStep g k v) (ρ := wipeE ρ1 vs) us [] hs
  refine ⟨_, _, ?_, hq⟩
  unfold yDc
  rw [h]
  have e' : mDc vs (dcStep g k v) (us.map pairD) ([], []) (wipeE ρ1 vs) = some (((insAll us).map kO, trues (insAll us).length), wipeE ρ1 vs) := e
  simp [hc, hl, e']
theorem any_kO (ks : List (Int × Int)) (p : Int × Int) : ((ks.map kO).any fun x => decide (x = kO p)) = decide (p ∈ ks) := by
  rw [List.any_map, Bool.eq_iff_iff]
  simp only [List.any_eq_true, Function.comp, decide_eq_true_eq, kO_inj]
  exact ⟨fun ⟨x, h, e⟩ => e ▸ h, fun h => ⟨p, h, rfl⟩⟩
/-- a comprehension that changes nothing and leaves nothing out -/
theorem w_lcm (f : D → OT) {vs : List Nat} {it : Lm} {g : Gm} {t : Tm} {e : Ym} {ρ ρ1 : Env} {xs : List D} {Q : OT → Env → Prop} (h : it ρ = some (xs, ρ1)) (hc : calmAt ρ1 vs = true) (hl : xs.length ≤ 1000000)
    (hs : ∀ x ∈ xs, ∃ ρ', lcStep g t e x (wipeE ρ1 vs) = some (some (f x), ρ') ∧ wipeE ρ' vs = wipeE ρ1 vs) (hq : Q (.nd .lst (xs.map f)) (rst (wipeE ρ1 vs) ρ1 vs)) : W (yLc vs it g t e) ρ Q := by
  have e1 := mLc_map (vs := vs) (step := lcStep g t e) (ρ := wipeE ρ1 vs) f hs
  refine ⟨_, _, ?_, hq⟩
  unfold yLc
  rw [h]
  simp [hc, hl, e1, rsts]
/-- of ints, of pairs, told one by one -/
def mapI (f : Int → Int) : D → OT
  | .int j => .d (.int (f j))
  | _ => .no
theorem mapI_int (f : Int → Int) (j : Int) : mapI f (.int j) = .d (.int (f j)) := rfl
theorem mapI_ints (f : Int → Int) (os : List Int) : (os.map PyData.int).map (mapI f) = intsO (os.map f) := by
  simp [intsO, Function.comp_def, mapI]
def mapP {α : Type} (f : Int × Int → α) (z : α) : D → α
  | .tuple [.int a, .int b] => f (a, b)
  | _ => z
theorem mapP_pr {α : Type} (f : Int × Int → α) (z : α) (p : Int × Int) : mapP f z (pairD p) = f p := rfl
theorem mapP_prs {α : Type} (f : Int × Int → α) (z : α) (ps : List (Int × Int)) : (ps.map pairD).map (mapP f z) = ps.map f := by
  simp [Function.comp_def, mapP_pr]
theorem exw {α : Type} {p q : α → Prop} {a : α} (h : p a) (h2 : q a) : ∃ a, p a ∧ q a := ⟨a, h, h2⟩
theorem w_nx {b : Sm} {ρ ρ' : Env} {n : Env → Prop} {Q : Fl → Env → Prop} (h : b ρ = some (.nx, ρ')) (q : n ρ') : W b ρ (lpK n Q) := ⟨.nx, ρ', h, q⟩
theorem w_end {y : Ym} {ρ ρ' : Env} {r : OT} {P : OT → Prop} (h : y ρ = some (r, ρ')) (hn : isNo r = false) (q : P r) : W (sRet y) ρ (endK P) := by
  refine w_ret (.of h ?_)
  cases r with
  | no => cases hn
  | d x => exact q
  | nd k ts => exact q
  | fl ts => exact q
end MR

namespace MR
open PySem L2 PL
/-! ### pure: lists that have each number once; turned back, behind one another -/
def bkF (os : List Int) : Nat → List Int
  | 0 => List.replicate os.length 0
  | i + 1 => (bkF os i).set (at' os (i : Nat)).toNat (i : Nat)
theorem bkF_len (os : List Int) : ∀ i, (bkF os i).length = os.length
  | 0 => by simp [bkF]
  | i + 1 => by simp [bkF, bkF_len os i]
def invL (os : List Int) : List Int := bkF os os.length
theorem invL_len (os : List Int) : (invL os).length = os.length := bkF_len os _
theorem at'_nat {os : List Int} {k : Nat} (h : k < os.length) : at' os (k : Nat) = os[k] := by
  simp [at', h]
theorem getD_at' {os : List Int} {a : Int} (h : 0 ≤ a) (h2 : a < (os.length : Int)) : os[a.toNat]? = some (at' os a) := by
  have : a.toNat < os.length := by omega
  simp [at', this]
section
variable {n : Nat} {os : List Int} (ho : os.Perm (rng n))
include ho
theorem pm_len : os.length = n := by rw [ho.length_eq, rng_len]
theorem pm_nodup : os.Nodup := ho.nodup_iff.mpr (rng_nodup n)
theorem pm_in {a : Int} (h : 0 ≤ a) (h2 : a < (n : Int)) : 0 ≤ at' os a ∧ at' os a < (n : Int) := by
  have := pm_len ho
  exact rng_mem.mp (ho.mem_iff.mp (at'_mem h (by omega)))
theorem pm_inj {a b : Int} (h : 0 ≤ a) (h2 : a < (n : Int)) (h3 : 0 ≤ b) (h4 : b < (n : Int)) (e : at' os a = at' os b) : a = b := by
  have := pm_len ho
  exact at'_inj (pm_nodup ho) h (by omega) h3 (by omega) e
theorem pm_sur {j : Int} (h : 0 ≤ j) (h2 : j < (n : Int)) : ∃ k : Nat, k < n ∧ at' os (k : Nat) = j := by
  have hm : j ∈ os := ho.mem_iff.mpr (rng_mem.mpr ⟨h, h2⟩)
  obtain ⟨k, hk, e⟩ := List.getElem_of_mem hm
  have := pm_len ho
  exact ⟨k, by omega, by rw [at'_nat hk, e]⟩
theorem bkF_at : ∀ (i k : Nat), k < i → i ≤ n → (bkF os i)[(at' os (k : Nat)).toNat]? = some (k : Int)
  | 0, k, h, _ => by omega
  | i + 1, k, h, hi => by
    have hl := pm_len ho
    have r1 := pm_in ho (a := (k : Nat)) (by omega) (by omega)
    have r2 := pm_in ho (a := (i : Nat)) (by omega) (by omega)
    unfold bkF
    by_cases e : k = i
    · subst e
      rw [List.getElem?_set_self (by rw [bkF_len]; omega)]
    · rw [List.getElem?_set_ne]
      · exact bkF_at i k (by omega) (by omega)
      · intro z
        have z2 : at' os (i : Nat) = at' os (k : Nat) := by omega
        have := pm_inj ho (by omega) (by omega) (by omega) (by omega) z2
        omega
theorem inv_at {a : Int} (h : 0 ≤ a) (h2 : a < (n : Int)) : at' (invL os) (at' os a) = a := by
  obtain ⟨k, rfl⟩ : ∃ k : Nat, a = (k : Nat) := ⟨a.toNat, by omega⟩
  have hl := pm_len ho
  have e := bkF_at ho os.length k (by omega) (by omega)
  unfold invL
  simp only [at'] at e ⊢
  rw [List.getD_eq_getElem?_getD, e]
  rfl
theorem inv_back {j : Int} (h : 0 ≤ j) (h2 : j < (n : Int)) : 0 ≤ at' (invL os) j ∧ at' (invL os) j < (n : Int) ∧ at' os (at' (invL os) j) = j := by
  obtain ⟨k, hk, rfl⟩ := pm_sur ho h h2
  rw [inv_at ho (by omega) (by omega)]
  exact ⟨by omega, by omega, rfl⟩
theorem inv_perm : (invL os).Perm (rng n) := by
  have hl := pm_len ho
  have hl2 := invL_len os
  have at2 : ∀ {k : Nat} (hk : k < (invL os).length), (invL os)[k] = at' (invL os) (k : Nat) := fun hk => (at'_nat hk).symm
  refine (List.perm_ext_iff_of_nodup ?_ (rng_nodup n)).mpr fun a => ⟨fun h => ?_, fun h => ?_⟩
  · rw [List.nodup_iff_pairwise_ne, List.pairwise_iff_getElem]
    intro i j hi hj lt e
    rw [at2, at2] at e
    have b1 := inv_back ho (j := (i : Nat)) (by omega) (by omega)
    have b2 := inv_back ho (j := (j : Nat)) (by omega) (by omega)
    rw [e] at b1
    omega
  · obtain ⟨k, hk, e⟩ := List.getElem_of_mem h
    rw [at2] at e
    have b := inv_back ho (j := (k : Nat)) (by omega) (by omega)
    rw [← e]
    exact rng_mem.mpr ⟨b.1, b.2.1⟩
  · have h := rng_mem.mp h
    have r := pm_in ho h.1 h.2
    have e := inv_at ho h.1 h.2
    rw [← e]
    exact at'_mem r.1 (by omega)
end
theorem ext_at' {xs ys : List Int} {n : Nat} (h1 : xs.length = n) (h2 : ys.length = n) (h : ∀ k : Nat, k < n → at' xs (k : Nat) = at' ys (k : Nat)) : xs = ys := by
  apply List.ext_getElem (by omega)
  intro k a b
  have := h k (by omega)
  rwa [at'_nat a, at'_nat b] at this
theorem at'_rng {n : Nat} {a : Int} (h : 0 ≤ a) (h2 : a < (n : Int)) : at' (rng n) a = a := by
  obtain ⟨k, rfl⟩ : ∃ k : Nat, a = (k : Nat) := ⟨a.toNat, by omega⟩
  rw [at'_nat (by rw [rng_len]; omega)]
  simp [rng]
theorem inv_inv {n : Nat} {os : List Int} (ho : os.Perm (rng n)) : invL (invL os) = os := by
  have hi := inv_perm ho
  have hl := pm_len ho
  refine ext_at' (n := n) (by rw [invL_len, invL_len]; exact hl) hl fun k hk => ?_
  have b := inv_back hi (j := (k : Nat)) (by omega) (by omega)
  have c := inv_back ho (j := at' (invL (invL os)) (k : Nat)) b.1 b.2.1
  rw [b.2.2] at c
  exact c.2.2.symm
/-- one behind another -/
def cmpL (os ss : List Int) : List Int := os.map (at' ss)
theorem cmp_len (os ss : List Int) : (cmpL os ss).length = os.length := by simp [cmpL]
theorem cmp_at {os ss : List Int} {a : Int} (h : 0 ≤ a) (h2 : a < (os.length : Int)) : at' (cmpL os ss) a = at' ss (at' os a) := by
  obtain ⟨k, rfl⟩ : ∃ k : Nat, a = (k : Nat) := ⟨a.toNat, by omega⟩
  rw [at'_nat (by rw [cmp_len]; omega), at'_nat (by omega)]
  simp [cmpL]
theorem cmp_perm {n : Nat} {os ss : List Int} (ho : os.Perm (rng n)) (hs : ss.Perm (rng n)) : (cmpL os ss).Perm (rng n) := by
  refine (ho.map (at' ss)).trans ?_
  have e : (rng n).map (at' ss) = ss := by
    refine ext_at' (n := n) (by rw [List.length_map, rng_len]) (pm_len hs) fun k hk => ?_
    rw [at'_nat (by rw [List.length_map, rng_len]; exact hk)]
    simp [rng]
  rw [e]
  exact hs
theorem cmp_inv {n : Nat} {os : List Int} (ho : os.Perm (rng n)) : cmpL os (invL os) = rng n := by
  have hl := pm_len ho
  refine ext_at' (n := n) (by rw [cmp_len]; exact hl) (rng_len n) fun k hk => ?_
  rw [cmp_at (by omega) (by omega), inv_at ho (by omega) (by omega), at'_rng (by omega) (by omega)]
theorem ren_inv {n : Nat} {os : List Int} (ho : os.Perm (rng n)) {p : Int × Int} (hp : 0 ≤ p.1 ∧ p.1 < p.2 ∧ p.2 < (n : Int)) : ren (invL os) (ren os p) = p := by
  have e1 := inv_at ho (a := p.1) (by omega) (by omega)
  have e2 := inv_at ho (a := p.2) (by omega) (by omega)
  obtain ⟨a, b⟩ := p
  simp only [ren] at *
  rcases Int.le_total (at' os a) (at' os b) with h | h
  · rw [Int.min_eq_left h, Int.max_eq_right h, e1, e2]
    simp only [Prod.mk.injEq]; omega
  · rw [Int.min_eq_right h, Int.max_eq_left h, e1, e2]
    simp only [Prod.mk.injEq]; omega
theorem ren_cmp {n : Nat} {os ss : List Int} (ho : os.Perm (rng n)) {p : Int × Int} (hp : 0 ≤ p.1 ∧ p.1 < p.2 ∧ p.2 < (n : Int)) : ren ss (ren os p) = ren (cmpL os ss) p := by
  have hl := pm_len ho
  have e1 := cmp_at (os := os) (ss := ss) (a := p.1) (by omega) (by omega)
  have e2 := cmp_at (os := os) (ss := ss) (a := p.2) (by omega) (by omega)
  obtain ⟨a, b⟩ := p
  simp only [ren] at *
  rw [e1, e2]
  rcases Int.le_total (at' os a) (at' os b) with h | h
  · rw [Int.min_eq_left h, Int.max_eq_right h]
  · rw [Int.min_eq_right h, Int.max_eq_left h, Int.min_comm, Int.max_comm]
theorem srt_eq {a b : List (Int × Int)} (h : a.Perm b) : srtL a = srtL b := lex_uniq (srtL_lex a) (srtL_lex b) ((srtL_perm a).trans (h.trans (srtL_perm b).symm))
theorem srt_id {a : List (Int × Int)} (h : Lex a) : srtL a = a := lex_uniq (srtL_lex a) h (srtL_perm a)
theorem map_eq_id {α : Type} {f : α → α} : ∀ {xs : List α}, (∀ x ∈ xs, f x = x) → xs.map f = xs
  | [], _ => rfl
  | x :: xs, h => by rw [List.map_cons, h x List.mem_cons_self, map_eq_id fun y hy => h y (List.mem_cons_of_mem _ hy)]
theorem back_ties {n : Nat} {ts : List (Int × Int)} (w : WOk n ts) {os : List Int} (ho : os.Perm (rng n)) : srtL ((srtL (ts.map (ren os))).map (ren (invL os))) = ts := by
  rw [srt_eq (((srtL_perm _).map (ren (invL os)))), List.map_map, map_eq_id (f := ren (invL os) ∘ ren os) fun p hp => ren_inv ho (w.in' p hp), srt_id w.lex]
theorem both_ties {n : Nat} {ts : List (Int × Int)} (w : WOk n ts) {os ss : List Int} (ho : os.Perm (rng n)) : srtL ((srtL (ts.map (ren os))).map (ren ss)) = srtL (ts.map (ren (cmpL os ss))) := by
  rw [srt_eq (((srtL_perm _).map (ren ss))), List.map_map]
  congr 1
  exact List.map_congr_left fun p hp => ren_cmp ho (w.in' p hp)
theorem firstAt_of : ∀ {os : List Int} {k j : Nat} {x : Int}, os.Nodup → os[k]? = some x → firstAt os x j = some (j + k)
  | [], k, j, x, _, h => by simp at h
  | y :: os, 0, j, x, hn, h => by
    simp at h
    simp [firstAt, h]
  | y :: os, k + 1, j, x, hn, h => by
    have hn' := List.nodup_cons.mp hn
    have h' : os[k]? = some x := by simpa using h
    have ne : y ≠ x := fun e => hn'.1 (e ▸ List.mem_of_getElem? h')
    unfold firstAt
    rw [if_neg ne, firstAt_of hn'.2 h']
    congr 1
    omega
theorem index_at {n : Nat} {os : List Int} (ho : os.Perm (rng n)) {j : Int} (h : 0 ≤ j) (h2 : j < (n : Int)) : gIndex (.list (os.map .int)) (.int j) = some (.int (at' (invL os) j)) := by
  obtain ⟨b1, b2, b3⟩ := inv_back ho h h2
  have hl := pm_len ho
  have e := getD_at' (os := os) (a := at' (invL os) j) b1 (by omega)
  rw [b3] at e
  have f := firstAt_of (j := 0) (pm_nodup ho) e
  unfold gIndex
  simp only [asInts_map, Option.bind_some, f, Option.map_some]
  congr 2
  omega
theorem inv_map {n : Nat} {os : List Int} (ho : os.Perm (rng n)) : (rng n).map (at' (invL os)) = invL os := by
  refine ext_at' (n := n) (by rw [List.length_map, rng_len]) (by rw [invL_len]; exact pm_len ho) fun k hk => ?_
  rw [at'_nat (by rw [List.length_map, rng_len]; exact hk)]
  simp [rng]
theorem wok_ren {n : Nat} {ts : List (Int × Int)} (w : WOk n ts) {os : List Int} (ho : os.Perm (rng n)) : WOk n (srtL (ts.map (ren os))) := by
  refine ⟨fun p hp => ?_, srtL_lex _, srtL_nodup ?_⟩
  · obtain ⟨q, hq, rfl⟩ := List.mem_map.mp (srtL_mem.mp hp)
    have i := w.in' q hq
    have a := pm_in ho (a := q.1) (by omega) (by omega)
    have b := pm_in ho (a := q.2) (by omega) (by omega)
    have ne : at' os q.1 ≠ at' os q.2 := fun e => by
      have := pm_inj ho (by omega) (by omega) (by omega) (by omega) e
      omega
    simp only [ren]
    omega
  · refine List.Pairwise.map _ (fun p q h => h) ?_
    refine List.Pairwise.imp_of_mem ?_ w.nodup
    intro p q hp hq ne e
    have := congrArg (ren (invL os)) e
    rw [ren_inv ho (w.in' p hp), ren_inv ho (w.in' q hq)] at this
    exact ne this
theorem fin_eq {B : Sm} {ρ : Env} {r : OT} (h : W B ρ (endK fun x => x = r)) : fin (B ρ) = some r := by
  obtain ⟨x, e, rfl⟩ := fin_w h
  exact e
theorem intsO_set (b : List Int) (j : Nat) (i : Int) : (intsO b).set j (.d (.int i)) = intsO (b.set j i) := by
  simp [intsO, List.map_set]
theorem ixN_z {n : Nat} {k : Int} (h : 0 ≤ k) (h2 : k < (n : Int)) : ixN n k = some k.toNat := by
  obtain ⟨j, rfl⟩ : ∃ j : Nat, k = (j : Nat) := ⟨k.toNat, by omega⟩
  rw [ixN_nat (by omega)]
  simp
end MR

namespace MR
open PySem L2 PL
/-! ### pure: walking with typed items -/
theorem set_id : ∀ {α : Type} {xs : List α} {i : Nat} {v : α}, xs[i]? = some v → xs.set i v = xs
  | _, [], _, _, _ => rfl
  | _, x :: xs, 0, v, h => by simp at h; rw [h]; rfl
  | _, x :: xs, i + 1, v, h => by rw [List.set_cons_succ, set_id (by simpa using h)]
theorem yVar_eq (i : Nat) (ρ : Env) : yVar i ρ = (ρ[i]?).bind fun t => (OT.toD t).map fun x => (.d x, ρ.set i (.d x)) := by
  unfold yVar
  rcases h : ρ[i]? with _ | (_ | x | ⟨k, ts⟩ | ts)
  · rfl
  · rfl
  · simp only [Option.bind_some, toD_d, Option.map_some, Option.some.injEq, Prod.mk.injEq, true_and]
    exact (set_id h).symm
  · rfl
  · rfl
theorem w_forT {α : Type} (I : Nat → Env → Prop) {enc : α → D} {it : Lm} {g : Gm} {b : Sm} {ρ ρ1 : Env} {as : List α} {Q : Fl → Env → Prop} (h : it ρ = some (as.map enc, ρ1)) (h0 : I 0 ρ1)
    (hs : ∀ i a ρ2, as[i]? = some a → I i ρ2 → ∃ ρ3, g (enc a) ρ2 = some ρ3 ∧ W b ρ3 (lpK (I (i + 1)) Q)) (hq : ∀ ρ2, I as.length ρ2 → Q .nx ρ2) : W (sFor it g b) ρ Q := by
  refine w_for I h h0 (fun i x ρ2 hx hi => ?_) (fun ρ2 hi => hq ρ2 (by rwa [List.length_map] at hi))
  rw [List.getElem?_map] at hx
  obtain ⟨a, ha, rfl⟩ := Option.map_eq_some_iff.mp hx
  exact hs i a ρ2 ha hi
/-- by a state that is folded -/
theorem w_foldT {α σ : Type} (S : σ → Env → Prop) (f : σ → α → σ) (s0 : σ) {enc : α → D} {it : Lm} {g : Gm} {b : Sm} {ρ ρ1 : Env} {as : List α} {Q : Fl → Env → Prop} (h : it ρ = some (as.map enc, ρ1)) (h0 : S s0 ρ1)
    (hs : ∀ a ∈ as, ∀ s ρ2, S s ρ2 → ∃ ρ3, g (enc a) ρ2 = some ρ3 ∧ W b ρ3 (lpK (S (f s a)) Q)) (hq : ∀ ρ2, S (as.foldl f s0) ρ2 → Q .nx ρ2) : W (sFor it g b) ρ Q := by
  refine w_forT (fun i ρ2 => S ((as.take i).foldl f s0) ρ2) h (by simpa using h0) (fun i a ρ2 ha hi => ?_) (fun ρ2 hi => hq ρ2 (by simpa using hi))
  have e : (as.take (i + 1)).foldl f s0 = f ((as.take i).foldl f s0) a := by rw [List.take_add_one, ha]; simp
  rw [e]
  exact hs a (List.mem_of_getElem? ha) _ ρ2 hi
theorem w_lcmT {α : Type} (f : α → OT) {enc : α → D} {vs : List Nat} {it : Lm} {g : Gm} {t : Tm} {e : Ym} {ρ ρ1 : Env} {as : List α} {Q : OT → Env → Prop} (h : it ρ = some (as.map enc, ρ1)) (hc : calmAt ρ1 vs = true) (hl : as.length ≤ 1000000)
    (hs : ∀ a ∈ as, W (lcStep g t e (enc a)) (wipeE ρ1 vs) fun o ρ3 => o = some (f a) ∧ wipeE ρ3 vs = wipeE ρ1 vs) (hq : Q (.nd .lst (as.map f)) (rst (wipeE ρ1 vs) ρ1 vs)) : W (yLc vs it g t e) ρ Q := by
  refine w_lc (fun i acc ρ2 => acc = (as.take i).map f ∧ ρ2 = wipeE ρ1 vs) h hc (by rw [List.length_map]; exact hl) ⟨by simp, rfl⟩ (fun i x acc ρ2 hx hi => ?_) fun acc ρ2 hi => ?_
  · obtain ⟨rfl, rfl⟩ := hi
    rw [List.getElem?_map] at hx
    obtain ⟨a, ha, rfl⟩ := Option.map_eq_some_iff.mp hx
    refine (hs a (List.mem_of_getElem? ha)).mono fun o ρ3 q => ?_
    obtain ⟨rfl, q⟩ := q
    refine ⟨?_, q⟩
    rw [List.take_add_one, ha]
    simp
  · obtain ⟨rfl, rfl⟩ := hi
    rw [List.length_map, List.take_length]
    exact hq
theorem w_lcfT {α : Type} (f : α → Option OT) {enc : α → D} {vs : List Nat} {it : Lm} {g : Gm} {t : Tm} {e : Ym} {ρ ρ1 : Env} {as : List α} {Q : OT → Env → Prop} (h : it ρ = some (as.map enc, ρ1)) (hc : calmAt ρ1 vs = true) (hl : as.length ≤ 1000000)
    (hs : ∀ a ∈ as, W (lcStep g t e (enc a)) (wipeE ρ1 vs) fun o ρ3 => o = f a ∧ wipeE ρ3 vs = wipeE ρ1 vs) (hq : Q (.nd .lst (as.filterMap f)) (rst (wipeE ρ1 vs) ρ1 vs)) : W (yLc vs it g t e) ρ Q := by
  refine w_lc (fun i acc ρ2 => acc = (as.take i).filterMap f ∧ ρ2 = wipeE ρ1 vs) h hc (by rw [List.length_map]; exact hl) ⟨by simp, rfl⟩ (fun i x acc ρ2 hx hi => ?_) fun acc ρ2 hi => ?_
  · obtain ⟨rfl, rfl⟩ := hi
    rw [List.getElem?_map] at hx
    obtain ⟨a, ha, rfl⟩ := Option.map_eq_some_iff.mp hx
    refine (hs a (List.mem_of_getElem? ha)).mono fun o ρ3 q => ?_
    obtain ⟨rfl, q⟩ := q
    refine ⟨?_, q⟩
    rw [List.take_add_one, ha, List.filterMap_append]
    refine congrArg _ ?_
    show (f a).toList = [a].filterMap f
    cases c : f a <;> simp [c]
  · obtain ⟨rfl, rfl⟩ := hi
    rw [List.length_map, List.take_length]
    exact hq
/-- one that changes what is around: by what holds ahead of each turn -/
theorem w_lcT {α : Type} (I : Nat → List OT → Env → Prop) {enc : α → D} {vs : List Nat} {it : Lm} {g : Gm} {t : Tm} {e : Ym} {ρ ρ1 : Env} {as : List α} {Q : OT → Env → Prop} (h : it ρ = some (as.map enc, ρ1)) (hc : calmAt ρ1 vs = true) (hl : as.length ≤ 1000000) (h0 : I 0 [] (wipeE ρ1 vs))
    (hs : ∀ i a acc ρ2, as[i]? = some a → I i acc ρ2 → W (lcStep g t e (enc a)) ρ2 fun o ρ3 => I (i + 1) (acc ++ o.toList) (wipeE ρ3 vs)) (hq : ∀ acc ρ2, I as.length acc ρ2 → Q (.nd .lst acc) (rst ρ2 ρ1 vs)) : W (yLc vs it g t e) ρ Q := by
  refine w_lc I h hc (by rw [List.length_map]; exact hl) h0 (fun i x acc ρ2 hx hi => ?_) (fun acc ρ2 hi => hq acc ρ2 (by rwa [List.length_map] at hi))
  rw [List.getElem?_map] at hx
  obtain ⟨a, ha, rfl⟩ := Option.map_eq_some_iff.mp hx
  exact hs i a acc ρ2 ha hi
theorem zipD_map {α β : Type} (e1 : α → D) (e2 : β → D) (as : List α) (bs : List β) : zipD (as.map e1) (bs.map e2) = (as.zip bs).map fun p => PyData.tuple [e1 p.1, e2 p.2] := by
  unfold zipD
  induction as generalizing bs with
  | nil => simp
  | cons a as ih =>
    cases bs with
    | nil => simp
    | cons b bs => simp only [List.map_cons, List.zip_cons_cons, ih bs]
theorem enumD_map {α : Type} (e : α → D) (as : List α) : enumD (as.map e) = as.zipIdx.map fun p => PyData.tuple [.int (p.2 : Nat), e p.1] := by
  unfold enumD
  rw [List.zipIdx_map]
  simp [Function.comp_def]
end MR

namespace MR
open PySem L2 PL
/-! ### pure: == of data; slices, sums of lists -/
theorem eqv_ints : ∀ as bs : List Int, PyData.eqvAll (as.map .int) (bs.map .int) = decide (as = bs)
  | [], [] => by simp [PyData.eqvAll]
  | a :: as, [] => by simp [PyData.eqvAll]
  | [], b :: bs => by simp [PyData.eqvAll]
  | a :: as, b :: bs => by
    simp only [List.map_cons, PyData.eqvAll, PyData.eqv, eqv_ints as bs]
    by_cases h : a = b <;> by_cases h2 : as = bs <;> simp [h, h2]
theorem canLay_ints : ∀ as : List Int, PyData.canLayAll0 (as.map .int) = true
  | [] => by simp [PyData.canLayAll0]
  | a :: as => by simp [PyData.canLayAll0, PyData.canLay0, canLay_ints as]
theorem depth_ints : ∀ as : List Int, PyData.depthAll (as.map .int) = 0
  | [] => by simp [PyData.depthAll]
  | a :: as => by simp [PyData.depthAll, PyData.depth, depth_ints as]
theorem shaped_ints (as : List Int) : SeqAt.shaped (.list (as.map .int)) = true := by
  simp [SeqAt.shaped, PyData.canLay0, canLay_ints, PyData.depth, depth_ints]
theorem shaped_nil : SeqAt.shaped (.list []) = true := shaped_ints []
theorem eqD_ints (as bs : List Int) : gEqD (.list (as.map .int)) (.list (bs.map .int)) = some (.bool (decide (as = bs))) := by
  unfold gEqD
  rw [shaped_ints, shaped_ints]
  simp [PyData.eqv, eqv_ints]
theorem neD_ints (as bs : List Int) : gNeD (.list (as.map .int)) (.list (bs.map .int)) = some (.bool (!decide (as = bs))) := by
  unfold gNeD
  rw [shaped_ints, shaped_ints]
  simp [PyData.eqv, eqv_ints]
theorem eqD_bools (a b : Bool) : gEqD (.bool a) (.bool b) = some (.bool (a == b)) := by
  unfold gEqD
  simp [SeqAt.shaped, PyData.canLay0, PyData.depth, PyData.eqv]
theorem neD_bools (a b : Bool) : gNeD (.bool a) (.bool b) = some (.bool (!(a == b))) := by
  unfold gNeD
  simp [SeqAt.shaped, PyData.canLay0, PyData.depth, PyData.eqv]
theorem GCat_ok {a b : List D} (h : a.length + b.length ≤ 1000000) : GCat (.list a) (.list b) = some (lstO (a ++ b)) := by
  simp only [GCat]
  rw [if_pos h]
theorem cut_mem {xs : List D} {lo hi : Option Int} {x : D} (h : x ∈ cutD xs lo hi) : x ∈ xs := by
  unfold cutD at h
  exact List.mem_of_mem_drop (List.mem_of_mem_take h)
theorem cut_len (xs : List D) (lo hi : Option Int) : (cutD xs lo hi).length ≤ xs.length := by
  unfold cutD
  rw [List.length_take, List.length_drop]
  omega
theorem toDs_snoc : ∀ {ts : List OT} {xs : List D} {t : OT} {x : D}, OT.toDs ts = some xs → OT.toD t = some x → OT.toDs (ts ++ [t]) = some (xs ++ [x])
  | [], xs, t, x, h1, h2 => by simp [toDs_nil] at h1; subst h1; simp [toDs_cons, toDs_nil, h2]
  | a :: ts, xs, t, x, h1, h2 => by
    rw [toDs_cons] at h1
    cases ha : OT.toD a with
    | none => rw [ha] at h1; cases h1
    | some y =>
      cases hb : OT.toDs ts with
      | none => rw [ha, hb] at h1; cases h1
      | some ys =>
        rw [ha, hb] at h1
        simp at h1
        subst h1
        rw [List.cons_append, toDs_cons, ha, toDs_snoc hb h2]
        simp
theorem toD_dnew : OT.toD (.nd (.dT []) []) = some (.dict []) := by simp [OT.toD, flatDs]
theorem isNo_lstO (xs : List D) : isNo (lstO xs) = false := rfl
def cl : OT → Bool
  | .nd _ _ => false
  | .fl _ => false
  | _ => true
theorem calm_one {ρ : Env} {i : Nat} {X : OT} (h : ρ[i]? = some X) (c : cl X = true) : calmAt ρ [i] = true := by
  unfold calmAt
  cases X with
  | nd k ts => cases c
  | fl ts => cases c
  | no => simp [h]
  | d x => simp [h]
theorem rgD0 (n : Nat) : rgD 0 n = (List.range n).map fun (k : Nat) => PyData.int (k : Int) := by simp [rgD]
theorem neS_self (s : Str) : gNeS (.str s) (.str s) = some (.bool false) := by simp [gNeS]
theorem eqS_self (s : Str) : gEqS (.str s) (.str s) = some (.bool true) := by simp [gEqS]
theorem rep_one (k : Nat) (x : D) : (List.replicate k [x]).flatten = List.replicate k x := by
  induction k with
  | zero => rfl
  | succ k ih => simp [List.replicate_succ, ih]
theorem yRep_z {y : Ym} {n : Rm} {ρ ρ' : Env} {x : D} {z : Int} (h : y ρ = some (.nd .lst [.d x], ρ')) (hn : n ρ' = some (.int z)) (h0 : 0 ≤ z) (h1 : z ≤ 1000000) : yRep y n ρ = some (lstO (List.replicate z.toNat x), ρ') := by
  have b : -(2 ^ 63) ≤ z ∧ z < 2 ^ 63 ∧ [x].length * z.toNat ≤ 1000000 := ⟨by omega, by omega, by simp; omega⟩
  unfold yRep
  rw [h]
  simp only [Option.bind_some, allD, Option.map_some, hn]
  rw [if_pos b, rep_one]
theorem yRep_one {y : Ym} {n : Rm} {ρ ρ' : Env} {x : D} {k : Nat} (h : y ρ = some (.nd .lst [.d x], ρ')) (hn : n ρ' = some (.int (k : Nat))) (h1 : k ≤ 1000000) : yRep y n ρ = some (lstO (List.replicate k x), ρ') := by
  have := yRep_z h hn (by omega) (by omega)
  rwa [Int.toNat_natCast] at this
/-- a loop whose items are one's own -/
theorem w_forO (I : Nat → Env → Prop) {i x : Nat} {b : Sm} {ρ : Env} {ts : List OT} {Q : Fl → Env → Prop} (h : ρ[i]? = some (.nd .lst ts)) (h0 : I 0 (ρ.set i (.fl ts)))
    (hs : ∀ k ρ2, k < ts.length → I k ρ2 → x < ρ2.length ∧ ∃ us t, ρ2[i]? = some (.fl us) ∧ us[k]? = some t ∧ W b ((ρ2.set i (.fl (us.set k .no))).set x t) (lpK (fun ρ3 => ∃ ts' t', ρ3[i]? = some (.fl ts') ∧ ρ3[x]? = some t' ∧ ts'.length = us.length ∧ I (k + 1) ((ρ3.set x .no).set i (.fl (ts'.set k t')))) Q))
    (hq : ∀ ρ2, I ts.length ρ2 → Q .nx ρ2) : W (sForO i x b) ρ Q := by
  have gen : ∀ (m k : Nat) (ρ2 : Env), k + m = ts.length → I k ρ2 → ∃ fl ρ', mForO i x b k m ρ2 = some (fl, ρ') ∧ Q fl ρ' := by
    intro m
    induction m with
    | zero => intro k ρ2 hk hi; exact ⟨.nx, ρ2, rfl, hq ρ2 (by rw [← hk]; exact hi)⟩
    | succ m ih =>
      intro k ρ2 hk hi
      obtain ⟨hl, us, t, e1, e2, fl, ρ3, e3, q⟩ := hs k ρ2 (by omega) hi
      unfold mForO
      rw [if_neg (by omega), e1]
      simp only []
      rw [e2]
      simp only []
      rw [e3]
      cases fl with
      | nx =>
        obtain ⟨ts', t', g1, g2, g3, g4⟩ := q
        simp only [g1, g2, g3, if_true]
        exact ih (k + 1) _ (by omega) g4
      | ct =>
        obtain ⟨ts', t', g1, g2, g3, g4⟩ := q
        simp only [g1, g2, g3, if_true]
        exact ih (k + 1) _ (by omega) g4
      | bk => exact ⟨.nx, ρ3, rfl, q⟩
      | rt r => exact ⟨.rt r, ρ3, rfl, q⟩
  obtain ⟨fl, ρ', e, q⟩ := gen ts.length 0 _ (by omega) h0
  refine ⟨fl, ρ', ?_, q⟩
  unfold sForO
  rw [h]
  exact e
def bwK (is ks : List Nat) (ρ : Env) (Q : Fl → Env → Prop) : Fl → Env → Prop
  | .nx, ρ' => ρ'.length = ρ.length ∧ Q .nx (bBack (inN is) (inN ks) 0 ρ ρ')
  | .rt r, ρ' => ρ'.length = ρ.length ∧ r.lf = true ∧ Q (.rt r) (bBack (inN is) (inN ks) 0 ρ ρ')
  | _, _ => False
theorem w_borrow {is ks : List Nat} {b : Sm} {ρ ρ1 : Env} {Q : Fl → Env → Prop} (ha : (is ++ ks).all (hasAt ρ) = true) (h1 : bSet (inN is) 0 ρ = some ρ1) (h : W b ρ1 (bwK is ks ρ Q)) : W (sBorrow is ks b) ρ Q := by
  obtain ⟨fl, ρ', e, q⟩ := h
  unfold W sBorrow
  rw [if_neg (by rw [ha]; simp), h1, Option.bind_some, e]
  cases fl with
  | nx => exact ⟨_, _, if_pos q.1, q.2⟩
  | rt r => exact ⟨_, _, if_pos ⟨q.1, q.2.1⟩, q.2.2⟩
  | bk => exact q.elim
  | ct => exact q.elim
theorem lf_ofD {ds : List D} (h : ∀ x ∈ ds, tfl x = true) : (lstO ds).lf = true := lf_lstO h
end MR

namespace SH
open PySem L2 PL MR
local macro_rules | `(tactic| walk_at "ev") => `(tactic| simp (config := {decide := true}) only [ini, fin, finI, sSeq, sNext, sAsg, sAsgG, sRet, sRetN, sDrop, sIf, sNever, sSetP, sAppP, sClrP, sRevP, fR, pmVar, pmIx, pmIxT, MR.putAt, OT.put, OT.at, gmName, gmTup, gmLst, gsNil, gsCons, rVar, rC, rOp, rUn, rCb, rCbZ, rOpZ, rCall, rAnd, rOr, rNot, rIf, rIs, rCh, rCh3, rTup, rLst, rSl, cNone, cSome, rRepr, dRepr, rInDct, rIdx, small, qNil, qCons, qApp, lApp, bR, bAnd, bOr, bNot, tR, tD, tmAnd, tmOr, tmNot, yVar_eq, yMov, yR, yAuto, dY, yD, dR, dOp, dOpR, dCb, dAnd, dOr, dNot, yCall, yCallA, yCallI, yCallIT, yCb, yCbA, yOp, yOpA, lfO, yTup, yLst, oNil, oCons, isNo, lNil, lCons, asB, asInt, asL, asT, iL, iT, iE, iZ, iV, yRng1_eq, iR1_eq, iR2_eq, lcStep, calmAt, wipeE, rst, sApp, yPop_eq, sDPutM, ySortD, yDNew, gmName, toD_d, toD_tup, toD_lst, toDs_nil, toDs_cons, toDs_ints, toDs_fpr, toDs_prs, lfs_ints, lfs_fpr, intsO_len, prsO_len, fprO_len, rng_len, intsO_snoc, prsO_snoc, lstO_rg, rOpZ, rCbZ, isNo_lstO, toD_dnew, ySl, ySlA, neS_self, eqS_self,  rRevL, yRevL, yRevLA, yPop0, sExt, gStrI,  lstO_prs, lstO_ints, toD_lstO, kp_int, kp_bool, kp_tuple, kp_list, kp_str, isIntB, isBoolB, isTupB, isListB, isStrB, gAdd_i, gSub_i, gLt_i, gLe_i, gGt_i, gGe_i, gMul_r, gMul_l, gMod_i, gDiv_i, gPow_i, gNeg, gEqI, gNeI, gEqS, gNeS, gIsN, gNotN, gIsB, gNotB, gIxL, gIxT, gLen, gMax2, gMin2, gInt, gAll, asBools_map, isN, OT.lf, OT.lfs, flat, atI_0, atI_1, ixN_0, ixN_1, rgD_len, enumD_len, trues_len, Int.toNat_natCast, List.length_map, eq_self, Option.bind_some, Option.bind_none, Option.map_some, Option.map_none, List.getElem?_cons_zero, List.getElem?_cons_succ, List.set_cons_zero, List.set_cons_succ, List.map_cons, List.map_nil, List.replicate, List.nil_append, List.cons_append, List.length_cons, List.length_nil, List.all_cons, List.all_nil, if_true, if_false, reduceIte, tfl_int, tfl_bool, tfl_none, tfl_str, tfl_list, Bool.true_and, Bool.and_true, Bool.false_and, Bool.and_false, Bool.true_or, Bool.or_true, Bool.false_or, Bool.or_false, Bool.not_true, Bool.not_false, Bool.false_eq_true, decide_true, decide_false, true_and, and_true, false_and, and_false, or_true, true_or, *])

/-! ### lists of webs, rows -/
abbrev Wb := Nat × List (Int × Int)
def wbD (w : Wb) : D := WD w.1 w.2
structure WbOk (w : Wb) : Prop where
  ok : WOk w.1 w.2
  lo : 1 ≤ w.1
  hi : w.1 ≤ 40
  len : w.2.length ≤ 120
theorem wbD_eq (w : Wb) : wbD w = .tuple [.int (w.1 : Nat), .list (w.2.map pairD)] := rfl
theorem look_webs_ok {ws : List Wb} (h : ∀ w ∈ ws, WbOk w) (hl : ws.length ≤ 12) : m_look_at_webs [.list (ws.map wbD)] = some (.d .none) := by
  have g : decide ((12 : Int) < (ws.length : Int)) = false := by simp; omega
  unfold m_look_at_webs B_look_at_webs
  refine fin_eq ?_
  refine w_st (by walk_at "ev" <;> exact rfl) ?_
  refine w_for (fun i ρ => ∃ X Y, ρ = [.d (.list (ws.map wbD)), X, Y]) (xs := enumD (ws.map wbD)) (by walk_at "ev" <;> exact rfl) ⟨_, _, rfl⟩ ?_ ?_
  · rintro i x ρ2 hx ⟨X, Y, rfl⟩
    rw [enumD_map, List.getElem?_map] at hx
    obtain ⟨⟨w, j⟩, hw, rfl⟩ := Option.map_eq_some_iff.mp hx
    have hm : w ∈ ws := by
      rw [List.getElem?_zipIdx] at hw
      obtain ⟨w', hw', e⟩ := Option.map_eq_some_iff.mp hw
      simp at e
      exact e.1 ▸ List.mem_of_getElem? hw'
    have k := h w hm
    have f : m_web_fault [wbD w] = some (.d .none) := fault_ok k.ok k.lo k.hi k.len
    generalize wbD w = d at *
    apply exw
    · walk_at "ev" <;> exact rfl
    apply w_nx
    · walk_at "ev" <;> exact rfl
    exact ⟨_, _, rfl⟩
  · rintro ρ2 ⟨X, Y, rfl⟩
    rfl
/-- one of so many places -/
def plB (m : Int) : D → Bool
  | .int i => decide (0 ≤ i ∧ i < m)
  | _ => false
theorem is_place_any (m : Int) (d : D) : m_is_place [.int m, d] = some (.d (.bool (plB m d))) := by
  have hw : m_is_whole [d] = some (.d (.bool (isIntB d && !isBoolB d))) := by
    unfold m_is_whole B_is_whole
    cases d <;> walk_at "ev"
  cases d with
  | int i =>
    exact is_place_int m i
  | _ => unfold m_is_place B_is_place; walk_at "ev"; rfl
def rowB : List Wb → List D → Bool
  | w :: ws, d :: ds => plB w.1 d && rowB ws ds
  | _, _ => true
def isRowB (ws : List Wb) : D → Bool
  | .list ds => decide (ds.length = ws.length) && rowB ws ds
  | _ => false
theorem rowB_zip : ∀ (ws : List Wb) (ds : List D), rowB ws ds = (ws.zip ds).all fun p => plB p.1.1 p.2
  | [], ds => by simp [rowB]
  | w :: ws, [] => by simp [rowB]
  | w :: ws, d :: ds => by simp [rowB, rowB_zip ws ds]
theorem gAll_bools (bs : List Bool) : gAll [.list (bs.map PyData.bool)] = some (.bool (bs.all id)) := by
  simp only [gAll, asBools_map, Option.map_some]
theorem toD_bools {α : Type} (f : α → Bool) (xs : List α) : OT.toD (.nd .lst (xs.map fun a => OT.d (.bool (f a)))) = some (.list ((xs.map f).map PyData.bool)) := by
  have : (xs.map fun a => OT.d (.bool (f a))) = ((xs.map f).map PyData.bool).map OT.d := by simp [Function.comp_def]
  rw [toD_lst, this, toDs_mapd]; rfl
theorem makes_row_any {ws : List Wb} (hl : ws.length ≤ 1000) (d : D) : m_makes_row [.list (ws.map wbD), d] = some (.d (.bool (isRowB ws d))) := by
  unfold m_makes_row B_makes_row
  refine fin_eq ?_
  cases d with
  | list ds =>
    by_cases e : ds.length = ws.length
    · have e' : decide ((ds.length : Int) = (ws.length : Int)) = true := by simp [e]
      refine w_st (by walk_at "ev" <;> exact rfl) ?_
      have hz := zipD_map (fun w => wbD w) (fun d : D => d) ws ds
      rw [List.map_id'] at hz
      refine w_ret (w_yD (w_dCb (w_lCons (w_dY (w_lcmT (fun p : Wb × D => .d (.bool (plB p.1.1 p.2))) (as := ws.zip ds) (enc := fun p => .tuple [wbD p.1, p.2]) (by rw [← hz]; walk_at "ev" <;> exact rfl) rfl (by rw [List.length_zip]; omega) (fun p hp => ?_) ?_)))))
      · have f := is_place_any p.1.1 p.2
        simp only [wbD, WD]
        refine W.of (by walk_at "ev" <;> exact rfl) ?_
        exact ⟨rfl, rfl⟩
      · refine ⟨_, toD_bools _ _, w_lNil ⟨_, gAll_bools _, ?_⟩⟩
        show OT.d _ = _
        simp only [isRowB, e, decide_true, Bool.true_and, rowB_zip, List.all_map, Function.comp_def, id]
    · have e' : decide ((ds.length : Int) = (ws.length : Int)) = false := by simp; omega
      have e2 : decide (ds.length = ws.length) = false := by simp [e]
      refine w_seq (.of (by walk_at "ev" <;> exact rfl) ?_)
      show OT.d _ = _
      simp only [isRowB, e2, Bool.false_and]
  | _ =>
    refine w_seq (.of (by walk_at "ev" <;> exact rfl) ?_)
    rfl
/-! numbers of rows -/
def rowsN (ws : List Wb) : Int := ws.foldl (fun m w => m * (w.1 : Int)) 1
theorem count_rows_ok {ws : List Wb} (h : ∀ w ∈ ws, WbOk w) : m_count_rows [.list (ws.map wbD)] = some (.d (.int (rowsN ws))) := by
  unfold m_count_rows B_count_rows
  refine fin_eq ?_
  refine w_st (by walk_at "ev" <;> exact rfl) ?_
  refine w_seq (w_foldT (fun (m : Int) ρ => ∃ X, ρ = [.d (.list (ws.map wbD)), .d (.int m), X]) (fun m (w : Wb) => m * (w.1 : Int)) 1 (by walk_at "ev" <;> exact rfl) ⟨_, rfl⟩ (fun w hw s ρ2 hs => ?_) ?_)
  · obtain ⟨X, rfl⟩ := hs
    have k := h w hw
    have c : -(2 ^ 64) < (w.1 : Int) ∧ (w.1 : Int) < 2 ^ 64 := by have := k.hi; omega
    simp only [wbD, WD]
    apply exw
    · walk_at "ev" <;> exact rfl
    apply w_nx
    · walk_at "ev" <;> exact rfl
    exact ⟨_, rfl⟩
  · rintro ρ2 ⟨X, rfl⟩
    refine w_end (by walk_at "ev" <;> exact rfl) rfl rfl
def numA (ws : List Wb) (r : List Int) : Int := (ws.zip r).foldl (fun n p => n * (p.1.1 : Int) + p.2) 0
theorem row_number_ok {ws : List Wb} (h : ∀ w ∈ ws, WbOk w) (r : List Int) : m_row_number [.list (ws.map wbD), .list (r.map .int)] = some (.d (.int (numA ws r))) := by
  unfold m_row_number B_row_number
  refine fin_eq ?_
  refine w_st (by walk_at "ev" <;> exact rfl) ?_
  have hz := zipD_map (fun w => wbD w) PyData.int ws r
  refine w_seq (w_foldT (fun (m : Int) ρ => ∃ X Y, ρ = [.d (.list (ws.map wbD)), .d (.list (r.map .int)), .d (.int m), X, Y]) (fun n (p : Wb × Int) => n * (p.1.1 : Int) + p.2) 0 (as := ws.zip r) (enc := fun p => .tuple [wbD p.1, .int p.2]) (by rw [← hz]; walk_at "ev" <;> exact rfl) ⟨_, _, rfl⟩ (fun p hp s ρ2 hs => ?_) ?_)
  · obtain ⟨X, Y, rfl⟩ := hs
    have k := h p.1 (List.of_mem_zip hp).1
    have c : -(2 ^ 64) < (p.1.1 : Int) ∧ (p.1.1 : Int) < 2 ^ 64 := by have := k.hi; omega
    simp only [wbD, WD]
    apply exw
    · walk_at "ev" <;> exact rfl
    apply w_nx
    · walk_at "ev" <;> exact rfl
    exact ⟨_, _, rfl⟩
  · rintro ρ2 ⟨X, Y, rfl⟩
    refine w_end (by walk_at "ev" <;> exact rfl) rfl rfl
end SH

namespace SH
open PySem L2 PL MR
local macro_rules | `(tactic| walk_at "ev") => `(tactic| simp (config := {decide := true}) only [ini, fin, finI, sSeq, sNext, sAsg, sAsgG, sRet, sRetN, sDrop, sIf, sNever, sSetP, sAppP, sClrP, sRevP, fR, pmVar, pmIx, pmIxT, MR.putAt, OT.put, OT.at, gmName, gmTup, gmLst, gsNil, gsCons, rVar, rC, rOp, rUn, rCb, rCbZ, rOpZ, rCall, rAnd, rOr, rNot, rIf, rIs, rCh, rCh3, rTup, rLst, rSl, cNone, cSome, rRepr, dRepr, rInDct, rIdx, small, qNil, qCons, qApp, lApp, bR, bAnd, bOr, bNot, tR, tD, tmAnd, tmOr, tmNot, yVar_eq, yMov, yR, yAuto, dY, yD, dR, dOp, dOpR, dCb, dAnd, dOr, dNot, yCall, yCallA, yCallI, yCallIT, yCb, yCbA, yOp, yOpA, lfO, yTup, yLst, oNil, oCons, isNo, lNil, lCons, asB, asInt, asL, asT, iL, iT, iE, iZ, iV, yRng1_eq, iR1_eq, iR2_eq, lcStep, calmAt, wipeE, rst, sApp, yPop_eq, sDPutM, ySortD, yDNew, gmName, toD_d, toD_tup, toD_lst, toDs_nil, toDs_cons, toDs_ints, toDs_fpr, toDs_prs, lfs_ints, lfs_fpr, intsO_len, prsO_len, fprO_len, rng_len, intsO_snoc, prsO_snoc, lstO_rg, rOpZ, rCbZ, isNo_lstO, toD_dnew, ySl, ySlA, neS_self, eqS_self,  rRevL, yRevL, yRevLA, yPop0, sExt, gStrI,  lstO_prs, lstO_ints, toD_lstO, kp_int, kp_bool, kp_tuple, kp_list, kp_str, isIntB, isBoolB, isTupB, isListB, isStrB, gAdd_i, gSub_i, gLt_i, gLe_i, gGt_i, gGe_i, gMul_r, gMul_l, gMod_i, gDiv_i, gPow_i, gNeg, gEqI, gNeI, gEqS, gNeS, gIsN, gNotN, gIsB, gNotB, gIxL, gIxT, gLen, gMax2, gMin2, gInt, gAll, asBools_map, isN, OT.lf, OT.lfs, flat, atI_0, atI_1, ixN_0, ixN_1, rgD_len, enumD_len, trues_len, Int.toNat_natCast, List.length_map, eq_self, Option.bind_some, Option.bind_none, Option.map_some, Option.map_none, List.getElem?_cons_zero, List.getElem?_cons_succ, List.set_cons_zero, List.set_cons_succ, List.map_cons, List.map_nil, List.replicate, List.nil_append, List.cons_append, List.length_cons, List.length_nil, List.all_cons, List.all_nil, if_true, if_false, reduceIte, tfl_int, tfl_bool, tfl_none, tfl_str, tfl_list, Bool.true_and, Bool.and_true, Bool.false_and, Bool.and_false, Bool.true_or, Bool.or_true, Bool.false_or, Bool.or_false, Bool.not_true, Bool.not_false, Bool.false_eq_true, decide_true, decide_false, true_and, and_true, false_and, and_false, or_true, true_or, *])

def RowOk : List Wb → List Int → Prop
  | [], [] => True
  | w :: ws, p :: ps => (0 ≤ p ∧ p < (w.1 : Int)) ∧ RowOk ws ps
  | _, _ => False
theorem RowOk.len : ∀ {ws : List Wb} {r : List Int}, RowOk ws r → r.length = ws.length
  | [], [], _ => rfl
  | w :: ws, p :: ps, h => by simp [RowOk.len h.2]
theorem rowB_ints : ∀ {ws : List Wb} {r : List Int}, r.length = ws.length → (rowB ws (r.map .int) = true ↔ RowOk ws r)
  | [], [], _ => by simp [rowB, RowOk]
  | w :: ws, p :: ps, h => by
    have ih := rowB_ints (ws := ws) (r := ps) (by simpa using h)
    simp [rowB, RowOk, plB, ih]
theorem isRowB_ints {ws : List Wb} {r : List Int} (h : RowOk ws r) : isRowB ws (.list (r.map .int)) = true := by
  have := h.len
  simp [isRowB, this, (rowB_ints this).mpr h]
theorem rowsN_cons (w : Wb) (ws : List Wb) : rowsN (w :: ws) = w.1 * rowsN ws := by
  have acc : ∀ (ws : List Wb) (a : Int), ws.foldl (fun m (w : Wb) => m * (w.1 : Int)) a = a * rowsN ws := by
    intro ws
    induction ws with
    | nil => intro a; simp [rowsN]
    | cons v ws ih =>
      intro a
      have e1 := ih (a * (v.1 : Int))
      have e2 := ih (1 * (v.1 : Int))
      unfold rowsN
      rw [List.foldl_cons, List.foldl_cons, e1, e2]
      simp [Int.mul_assoc]
  have := acc ws (1 * (w.1 : Int))
  unfold rowsN at *
  rw [List.foldl_cons, this]
  simp
theorem rowsN_pos : ∀ {ws : List Wb}, (∀ w ∈ ws, WbOk w) → 1 ≤ rowsN ws
  | [], _ => by simp [rowsN]
  | w :: ws, h => by
    have a := (h w List.mem_cons_self).lo
    have b := rowsN_pos fun v hv => h v (List.mem_cons_of_mem _ hv)
    rw [rowsN_cons]
    exact Int.le_trans (by omega : (1 : Int) ≤ 1 * 1) (Int.mul_le_mul (by omega) b (by omega) (by omega))
theorem numA_cons (w : Wb) (ws : List Wb) (p : Int) (r : List Int) (h : r.length = ws.length) : numA (w :: ws) (p :: r) = p * rowsN ws + numA ws r := by
  have acc : ∀ (ws : List Wb) (r : List Int) (a : Int), r.length = ws.length → (ws.zip r).foldl (fun n (p : Wb × Int) => n * (p.1.1 : Int) + p.2) a = a * rowsN ws + numA ws r := by
    intro ws
    induction ws with
    | nil => intro r a _; simp [rowsN, numA]
    | cons v ws ih =>
      intro r a hr
      cases r with
      | nil => simp at hr
      | cons q r =>
        have hr' : r.length = ws.length := by simpa using hr
        have e1 := ih r (a * (v.1 : Int) + q) hr'
        have e2 := ih r (0 * (v.1 : Int) + q) hr'
        rw [rowsN_cons]
        unfold numA
        rw [List.zip_cons_cons, List.foldl_cons, List.foldl_cons]
        simp only []
        rw [e1, e2]
        simp [Int.add_mul, Int.mul_assoc, Int.add_assoc]
  have := acc ws r (0 * (w.1 : Int) + p) h
  unfold numA at *
  rw [List.zip_cons_cons, List.foldl_cons]
  simp only []
  rw [this]
  simp
theorem numA_bd : ∀ {ws : List Wb} {r : List Int}, (∀ w ∈ ws, WbOk w) → RowOk ws r → 0 ≤ numA ws r ∧ numA ws r < rowsN ws
  | [], [], _, _ => by simp [numA, rowsN]
  | w :: ws, p :: ps, h, k => by
    have ih := numA_bd (fun v hv => h v (List.mem_cons_of_mem _ hv)) k.2
    have a := rowsN_pos fun v hv => h v (List.mem_cons_of_mem _ hv)
    rw [numA_cons w ws p ps k.2.len, rowsN_cons]
    obtain ⟨⟨k1, k2⟩, _⟩ := k
    have m1 : 0 ≤ p * rowsN ws := Int.mul_nonneg k1 (by omega)
    have m2 : p * rowsN ws + rowsN ws ≤ w.1 * rowsN ws := by
      have : (p + 1) * rowsN ws ≤ w.1 * rowsN ws := Int.mul_le_mul_of_nonneg_right (by omega) (by omega)
      rwa [Int.add_mul, Int.one_mul] at this
    omega
theorem row_lt : ∀ {ws : List Wb} {a b : List Int}, (∀ w ∈ ws, WbOk w) → RowOk ws a → RowOk ws b → (a < b ↔ numA ws a < numA ws b)
  | [], [], [], _, _, _ => by simp [numA]
  | w :: ws, p :: a, q :: b, h, k1, k2 => by
    have h' : ∀ v ∈ ws, WbOk v := fun v hv => h v (List.mem_cons_of_mem _ hv)
    have ih := row_lt h' k1.2 k2.2
    have b1 := numA_bd h' k1.2
    have b2 := numA_bd h' k2.2
    rw [List.cons_lt_cons_iff, numA_cons w ws p a k1.2.len, numA_cons w ws q b k2.2.len, ih]
    constructor
    · rintro (c | ⟨rfl, c⟩)
      · have : (p + 1) * rowsN ws ≤ q * rowsN ws := Int.mul_le_mul_of_nonneg_right (by omega) (by omega)
        rw [Int.add_mul, Int.one_mul] at this
        omega
      · omega
    · intro c
      rcases Int.lt_trichotomy p q with d | d | d
      · exact .inl d
      · subst d; exact .inr ⟨rfl, by omega⟩
      · have : (q + 1) * rowsN ws ≤ p * rowsN ws := Int.mul_le_mul_of_nonneg_right (by omega) (by omega)
        rw [Int.add_mul, Int.one_mul] at this
        omega
theorem row_inj : ∀ {ws : List Wb} {a b : List Int}, (∀ w ∈ ws, WbOk w) → RowOk ws a → RowOk ws b → numA ws a = numA ws b → a = b
  | [], [], [], _, _, _, _ => rfl
  | w :: ws, p :: a, q :: b, h, k1, k2, e => by
    have h' : ∀ v ∈ ws, WbOk v := fun v hv => h v (List.mem_cons_of_mem _ hv)
    have b1 := numA_bd h' k1.2
    have b2 := numA_bd h' k2.2
    rw [numA_cons w ws p a k1.2.len, numA_cons w ws q b k2.2.len] at e
    rcases Int.lt_trichotomy p q with d | d | d
    · have : (p + 1) * rowsN ws ≤ q * rowsN ws := Int.mul_le_mul_of_nonneg_right (by omega) (by omega)
      rw [Int.add_mul, Int.one_mul] at this
      omega
    · subst d
      rw [row_inj h' k1.2 k2.2 (by omega)]
    · have : (q + 1) * rowsN ws ≤ p * rowsN ws := Int.mul_le_mul_of_nonneg_right (by omega) (by omega)
      rw [Int.add_mul, Int.one_mul] at this
      omega
/-! the row of a number -/
def digs : List Wb → Int → List Int
  | [], _ => []
  | w :: ws, n => n % (w.1 : Int) :: digs ws (n / (w.1 : Int))
def rowOf (ws : List Wb) (n : Int) : List Int := (digs ws.reverse n).reverse
theorem digs_len : ∀ (ws : List Wb) (n : Int), (digs ws n).length = ws.length
  | [], _ => rfl
  | w :: ws, n => by simp [digs, digs_len ws]
theorem numbered_row_ok {ws : List Wb} (h : ∀ w ∈ ws, WbOk w) (hl : ws.length ≤ 1000) (n : Int) : m_numbered_row [.list (ws.map wbD), .int n] = some (.nd .lst (intsO (rowOf ws n))) := by
  have fold : ∀ (ws : List Wb) (acc : List Int) (n : Int), (ws.foldl (fun (s : List Int × Int) (w : Wb) => (s.1 ++ [s.2 % (w.1 : Int)], s.2 / (w.1 : Int))) (acc, n)).1 = acc ++ digs ws n := by
    intro ws
    induction ws with
    | nil => intro acc n; simp [digs]
    | cons w ws ih => intro acc n; rw [List.foldl_cons, ih]; simp [digs]
  unfold m_numbered_row B_numbered_row
  refine fin_eq ?_
  refine w_st (by walk_at "ev" <;> exact rfl) ?_
  refine w_seq (w_forT (fun i ρ => ∃ X m rs, rs.length = i ∧ ((ws.reverse.take i).foldl (fun (s : List Int × Int) (w : Wb) => (s.1 ++ [s.2 % (w.1 : Int)], s.2 / (w.1 : Int))) ([], n)) = (rs, m) ∧ ρ = [.d (.list (ws.map wbD)), .d (.int m), .nd .lst (intsO rs), X]) (as := ws.reverse) (enc := wbD) (by rw [List.map_reverse]; simp only [iV]; walk_at "ev" <;> exact rfl) ⟨_, _, [], rfl, rfl, rfl⟩ (fun i w ρ2 hw hs => ?_) ?_)
  · obtain ⟨X, m, rs, hr, hf, rfl⟩ := hs
    have hm : w ∈ ws := List.mem_reverse.mp (List.mem_of_getElem? hw)
    have hi : i < ws.length := by have := (List.getElem?_eq_some_iff.mp hw).1; simpa using this
    have k := h w hm
    have c1 : (0 : Int) < (w.1 : Int) := by have := k.lo; omega
    have c2 : (w.1 : Int) < 1073741824 := by have := k.hi; omega
    have c3 : i ≤ 1000000 := by omega
    simp only [wbD, WD]
    apply exw
    · walk_at "ev" <;> exact rfl
    apply w_nx
    · walk_at "ev" <;> exact rfl
    refine ⟨_, _, rs ++ [m % (w.1 : Int)], by simp [hr], ?_, rfl⟩
    rw [List.take_add_one, hw]
    simp [hf]
  · rintro ρ2 ⟨X, m, rs, hr, hf, rfl⟩
    rw [List.take_length] at hf
    have e : rs = digs ws.reverse n := by
      have := fold ws.reverse [] n
      rw [hf] at this
      simpa using this
    subst e
    unfold rowOf
    generalize digs ws.reverse n = rs at *
    have lf : (OT.nd .lst (intsO rs.reverse)).lf = true := by simp [OT.lf, lfs_ints]
    have er : lstO (rs.map PyData.int).reverse = .nd .lst (intsO rs.reverse) := by rw [← List.map_reverse, lstO_ints]
    exact w_end (by walk_at "ev" <;> exact rfl) rfl rfl
theorem numA_snoc {ws : List Wb} {r : List Int} (w : Wb) (p : Int) (h : r.length = ws.length) : numA (ws ++ [w]) (r ++ [p]) = numA ws r * w.1 + p := by
  unfold numA
  rw [List.zip_append h.symm, List.foldl_append]
  simp
theorem RowOk.snoc : ∀ {ws : List Wb} {r : List Int} {w : Wb} {p : Int}, RowOk (ws ++ [w]) (r ++ [p]) → r.length = ws.length → RowOk ws r ∧ 0 ≤ p ∧ p < (w.1 : Int)
  | [], [], w, p, h, _ => ⟨trivial, h.1⟩
  | v :: ws, q :: r, w, p, h, e => by
    have := RowOk.snoc h.2 (by simpa using e)
    exact ⟨⟨h.1, this.1⟩, this.2⟩
theorem rowOf_num {ws : List Wb} {r : List Int} (h : ∀ w ∈ ws, WbOk w) (k : RowOk ws r) : rowOf ws (numA ws r) = r := by
  have gen : ∀ (n : Nat) (ws : List Wb) (r : List Int), ws.length = n → (∀ w ∈ ws, WbOk w) → RowOk ws r → rowOf ws (numA ws r) = r := by
    intro n
    induction n with
    | zero =>
      intro ws r hn h k
      have e := List.eq_nil_of_length_eq_zero hn
      subst e
      have := k.len
      have e := List.eq_nil_of_length_eq_zero this
      subst e
      rfl
    | succ n ih =>
      intro ws r hn h k
      have hl := k.len
      obtain ⟨ws', w, rfl⟩ : ∃ a b, ws = a ++ [b] := ⟨ws.dropLast, ws.getLast (by intro z; subst z; simp at hn), (List.dropLast_concat_getLast _).symm⟩
      obtain ⟨r', p, rfl⟩ : ∃ a b, r = a ++ [b] := ⟨r.dropLast, r.getLast (by intro z; subst z; simp at hl), (List.dropLast_concat_getLast _).symm⟩
      have hl' : r'.length = ws'.length := by simpa using hl
      have hn' : ws'.length = n := by simpa using hn
      obtain ⟨k1, k2, k3⟩ := k.snoc hl'
      have := ih ws' r' hn' (fun v hv => h v (List.mem_append_left _ hv)) k1
      have e1 : (numA ws' r' * (w.1 : Int) + p) % (w.1 : Int) = p := by
        rw [Int.add_comm, Int.add_mul_emod_self_right]
        exact Int.emod_eq_of_lt k2 k3
      have e2 : (numA ws' r' * (w.1 : Int) + p) / (w.1 : Int) = numA ws' r' := by
        rw [Int.add_comm, Int.add_mul_ediv_right _ _ (by omega)]
        rw [Int.ediv_eq_zero_of_lt k2 k3]
        simp
      unfold rowOf at *
      rw [List.reverse_append, numA_snoc w p hl']
      simp only [List.reverse_cons, List.reverse_nil, List.nil_append, List.cons_append, digs, e1, e2]
      rw [this]
  exact gen _ ws r rfl h k
/-! the same where no web is empty -/
theorem rowsN_pos' : ∀ {ws : List Wb}, (∀ w ∈ ws, 1 ≤ w.1) → 1 ≤ rowsN ws
  | [], _ => by simp [rowsN]
  | w :: ws, h => by
    have a := h w List.mem_cons_self
    have b := rowsN_pos' fun v hv => h v (List.mem_cons_of_mem _ hv)
    rw [rowsN_cons]
    exact Int.le_trans (by omega : (1 : Int) ≤ 1 * 1) (Int.mul_le_mul (by omega) b (by omega) (by omega))
theorem numA_bd' : ∀ {ws : List Wb} {r : List Int}, (∀ w ∈ ws, 1 ≤ w.1) → RowOk ws r → 0 ≤ numA ws r ∧ numA ws r < rowsN ws
  | [], [], _, _ => by simp [numA, rowsN]
  | w :: ws, p :: ps, h, k => by
    have ih := numA_bd' (fun v hv => h v (List.mem_cons_of_mem _ hv)) k.2
    have a := rowsN_pos' fun v hv => h v (List.mem_cons_of_mem _ hv)
    rw [numA_cons w ws p ps k.2.len, rowsN_cons]
    obtain ⟨⟨k1, k2⟩, _⟩ := k
    have m1 : 0 ≤ p * rowsN ws := Int.mul_nonneg k1 (by omega)
    have m2 : p * rowsN ws + rowsN ws ≤ w.1 * rowsN ws := by
      have : (p + 1) * rowsN ws ≤ w.1 * rowsN ws := Int.mul_le_mul_of_nonneg_right (by omega) (by omega)
      rwa [Int.add_mul, Int.one_mul] at this
    omega
theorem row_lt' : ∀ {ws : List Wb} {a b : List Int}, (∀ w ∈ ws, 1 ≤ w.1) → RowOk ws a → RowOk ws b → (a < b ↔ numA ws a < numA ws b)
  | [], [], [], _, _, _ => by simp [numA]
  | w :: ws, p :: a, q :: b, h, k1, k2 => by
    have h' : ∀ v ∈ ws, 1 ≤ v.1 := fun v hv => h v (List.mem_cons_of_mem _ hv)
    have ih := row_lt' h' k1.2 k2.2
    have b1 := numA_bd' h' k1.2
    have b2 := numA_bd' h' k2.2
    rw [List.cons_lt_cons_iff, numA_cons w ws p a k1.2.len, numA_cons w ws q b k2.2.len, ih]
    constructor
    · rintro (c | ⟨rfl, c⟩)
      · have : (p + 1) * rowsN ws ≤ q * rowsN ws := Int.mul_le_mul_of_nonneg_right (by omega) (by omega)
        rw [Int.add_mul, Int.one_mul] at this
        omega
      · omega
    · intro c
      rcases Int.lt_trichotomy p q with d | d | d
      · exact .inl d
      · subst d; exact .inr ⟨rfl, by omega⟩
      · have : (q + 1) * rowsN ws ≤ p * rowsN ws := Int.mul_le_mul_of_nonneg_right (by omega) (by omega)
        rw [Int.add_mul, Int.one_mul] at this
        omega
theorem row_inj' : ∀ {ws : List Wb} {a b : List Int}, (∀ w ∈ ws, 1 ≤ w.1) → RowOk ws a → RowOk ws b → numA ws a = numA ws b → a = b
  | [], [], [], _, _, _, _ => rfl
  | w :: ws, p :: a, q :: b, h, k1, k2, e => by
    have h' : ∀ v ∈ ws, 1 ≤ v.1 := fun v hv => h v (List.mem_cons_of_mem _ hv)
    have b1 := numA_bd' h' k1.2
    have b2 := numA_bd' h' k2.2
    rw [numA_cons w ws p a k1.2.len, numA_cons w ws q b k2.2.len] at e
    rcases Int.lt_trichotomy p q with d | d | d
    · have : (p + 1) * rowsN ws ≤ q * rowsN ws := Int.mul_le_mul_of_nonneg_right (by omega) (by omega)
      rw [Int.add_mul, Int.one_mul] at this
      omega
    · subst d
      rw [row_inj' h' k1.2 k2.2 (by omega)]
    · have : (q + 1) * rowsN ws ≤ p * rowsN ws := Int.mul_le_mul_of_nonneg_right (by omega) (by omega)
      rw [Int.add_mul, Int.one_mul] at this
      omega
theorem rowOf_num' {ws : List Wb} {r : List Int} (h : ∀ w ∈ ws, 1 ≤ w.1) (k : RowOk ws r) : rowOf ws (numA ws r) = r := by
  have gen : ∀ (n : Nat) (ws : List Wb) (r : List Int), ws.length = n → (∀ w ∈ ws, 1 ≤ w.1) → RowOk ws r → rowOf ws (numA ws r) = r := by
    intro n
    induction n with
    | zero =>
      intro ws r hn h k
      have e := List.eq_nil_of_length_eq_zero hn
      subst e
      have := k.len
      have e := List.eq_nil_of_length_eq_zero this
      subst e
      rfl
    | succ n ih =>
      intro ws r hn h k
      have hl := k.len
      obtain ⟨ws', w, rfl⟩ : ∃ a b, ws = a ++ [b] := ⟨ws.dropLast, ws.getLast (by intro z; subst z; simp at hn), (List.dropLast_concat_getLast _).symm⟩
      obtain ⟨r', p, rfl⟩ : ∃ a b, r = a ++ [b] := ⟨r.dropLast, r.getLast (by intro z; subst z; simp at hl), (List.dropLast_concat_getLast _).symm⟩
      have hl' : r'.length = ws'.length := by simpa using hl
      have hn' : ws'.length = n := by simpa using hn
      obtain ⟨k1, k2, k3⟩ := k.snoc hl'
      have := ih ws' r' hn' (fun v hv => h v (List.mem_append_left _ hv)) k1
      have e1 : (numA ws' r' * (w.1 : Int) + p) % (w.1 : Int) = p := by
        rw [Int.add_comm, Int.add_mul_emod_self_right]
        exact Int.emod_eq_of_lt k2 k3
      have e2 : (numA ws' r' * (w.1 : Int) + p) / (w.1 : Int) = numA ws' r' := by
        rw [Int.add_comm, Int.add_mul_ediv_right _ _ (by omega)]
        rw [Int.ediv_eq_zero_of_lt k2 k3]
        simp
      unfold rowOf at *
      rw [List.reverse_append, numA_snoc w p hl']
      simp only [List.reverse_cons, List.reverse_nil, List.nil_append, List.cons_append, digs, e1, e2]
      rw [this]
  exact gen _ ws r rfl h k
end SH

namespace SH
open PySem L2 PL MR
local macro_rules | `(tactic| walk_at "ev") => `(tactic| simp (config := {decide := true}) only [ini, fin, finI, sSeq, sNext, sAsg, sAsgG, sRet, sRetN, sDrop, sIf, sNever, sSetP, sAppP, sClrP, sRevP, fR, pmVar, pmIx, pmIxT, MR.putAt, OT.put, OT.at, gmName, gmTup, gmLst, gsNil, gsCons, rVar, rC, rOp, rUn, rCb, rCbZ, rOpZ, rCall, rAnd, rOr, rNot, rIf, rIs, rCh, rCh3, rTup, rLst, rSl, cNone, cSome, rRepr, dRepr, rInDct, rIdx, small, qNil, qCons, qApp, lApp, bR, bAnd, bOr, bNot, tR, tD, tmAnd, tmOr, tmNot, yVar_eq, yMov, yR, yAuto, dY, yD, dR, dOp, dOpR, dCb, dAnd, dOr, dNot, yCall, yCallA, yCallI, yCallIT, yCb, yCbA, yOp, yOpA, lfO, yTup, yLst, oNil, oCons, isNo, lNil, lCons, asB, asInt, asL, asT, iL, iT, iE, iZ, iV, yRng1_eq, iR1_eq, iR2_eq, lcStep, calmAt, wipeE, rst, sApp, yPop_eq, sDPutM, ySortD, yDNew, gmName, toD_d, toD_tup, toD_lst, toDs_nil, toDs_cons, toDs_ints, toDs_fpr, toDs_prs, lfs_ints, lfs_fpr, intsO_len, prsO_len, fprO_len, rng_len, intsO_snoc, prsO_snoc, lstO_rg, rOpZ, rCbZ, isNo_lstO, toD_dnew, ySl, ySlA, neS_self, eqS_self,  rRevL, yRevL, yRevLA, yPop0, sExt, gStrI,  lstO_prs, lstO_ints, toD_lstO, kp_int, kp_bool, kp_tuple, kp_list, kp_str, isIntB, isBoolB, isTupB, isListB, isStrB, gAdd_i, gSub_i, gLt_i, gLe_i, gGt_i, gGe_i, gMul_r, gMul_l, gMod_i, gDiv_i, gPow_i, gNeg, gEqI, gNeI, gEqS, gNeS, gIsN, gNotN, gIsB, gNotB, gIxL, gIxT, gLen, gMax2, gMin2, gInt, gAll, asBools_map, isN, OT.lf, OT.lfs, flat, atI_0, atI_1, ixN_0, ixN_1, rgD_len, enumD_len, trues_len, Int.toNat_natCast, List.length_map, eq_self, Option.bind_some, Option.bind_none, Option.map_some, Option.map_none, List.getElem?_cons_zero, List.getElem?_cons_succ, List.set_cons_zero, List.set_cons_succ, List.map_cons, List.map_nil, List.replicate, List.nil_append, List.cons_append, List.length_cons, List.length_nil, List.all_cons, List.all_nil, if_true, if_false, reduceIte, tfl_int, tfl_bool, tfl_none, tfl_str, tfl_list, Bool.true_and, Bool.and_true, Bool.false_and, Bool.and_false, Bool.true_or, Bool.or_true, Bool.false_or, Bool.or_false, Bool.not_true, Bool.not_false, Bool.false_eq_true, decide_true, decide_false, true_and, and_true, false_and, and_false, or_true, true_or, *])

theorem look_row_ok {ws : List Wb} (hl : ws.length ≤ 12) {d : D} (k : isRowB ws d = true) : m_look_at_row [.list (ws.map wbD), d] = some (.d .none) := by
  have f := makes_row_any (ws := ws) (by omega) d
  rw [k] at f
  unfold m_look_at_row B_look_at_row
  refine fin_eq ?_
  refine .of (by walk_at "ev" <;> exact rfl) ?_
  rfl
theorem is_row_ok {ws : List Wb} (h : ∀ w ∈ ws, WbOk w) (hl : ws.length ≤ 12) (d : D) : m_is_row [.list (ws.map wbD), d] = some (.d (.bool (isRowB ws d))) := by
  have f1 := look_webs_ok h hl
  have f2 := makes_row_any (ws := ws) (by omega) d
  unfold m_is_row B_is_row
  refine fin_eq ?_
  refine w_st (by walk_at "ev" <;> exact rfl) ?_
  exact w_end (by walk_at "ev" <;> exact rfl) rfl rfl
theorem places_of_ok {ws : List Wb} (h : ∀ w ∈ ws, WbOk w) (hl : ws.length ≤ 12) : m_places_of [.list (ws.map wbD)] = some (.d (.int (rowsN ws))) := by
  have f1 := look_webs_ok h hl
  have f2 := count_rows_ok h
  unfold m_places_of B_places_of
  refine fin_eq ?_
  refine w_st (by walk_at "ev" <;> exact rfl) ?_
  exact w_end (by walk_at "ev" <;> exact rfl) rfl rfl
theorem number_of_ok {ws : List Wb} (h : ∀ w ∈ ws, WbOk w) (hl : ws.length ≤ 12) {r : List Int} (k : RowOk ws r) : m_number_of [.list (ws.map wbD), .list (r.map .int)] = some (.d (.int (numA ws r))) := by
  have f1 := look_webs_ok h hl
  have f2 := look_row_ok hl (isRowB_ints k)
  have f3 := row_number_ok h r
  unfold m_number_of B_number_of
  refine fin_eq ?_
  refine w_st (by walk_at "ev" <;> exact rfl) ?_
  refine w_st (by walk_at "ev" <;> exact rfl) ?_
  exact w_end (by walk_at "ev" <;> exact rfl) rfl rfl
theorem lf_ints (r : List Int) : (OT.nd .lst (intsO r)).lf = true := by simp [OT.lf, lfs_ints]
theorem toD_ints (r : List Int) : OT.toD (.nd .lst (intsO r)) = some (.list (r.map .int)) := by rw [toD_lst, toDs_ints]; rfl
theorem row_of_ok {ws : List Wb} (h : ∀ w ∈ ws, WbOk w) (hl : ws.length ≤ 12) {n : Int} (h0 : 0 ≤ n) (hn : n < rowsN ws) : m_row_of [.list (ws.map wbD), .int n] = some (.nd .lst (intsO (rowOf ws n))) := by
  have f1 := look_webs_ok h hl
  have f2 := count_rows_ok h
  have f3 := is_place_int (rowsN ws) n
  rw [decide_eq_true (And.intro h0 hn)] at f3
  have f4 := numbered_row_ok h (by omega) n
  have f5 := lf_ints (rowOf ws n)
  unfold m_row_of B_row_of
  refine fin_eq ?_
  refine w_st (by walk_at "ev" <;> exact rfl) ?_
  refine w_st (by walk_at "ev" <;> exact rfl) ?_
  exact w_end (by walk_at "ev" <;> exact rfl) rfl rfl
/-! the law's own drawing -/
theorem RowOk.push : ∀ {ws : List Wb} {r : List Int} {w : Wb} {p : Int}, RowOk ws r → 0 ≤ p → p < (w.1 : Int) → RowOk (ws ++ [w]) (r ++ [p])
  | [], [], w, p, _, h1, h2 => ⟨⟨h1, h2⟩, trivial⟩
  | v :: ws, q :: r, w, p, h, h1, h2 => ⟨h.1, h.2.push h1 h2⟩
theorem lrow_ok {ps : List OT} (hp : POk ps) {ws : List Wb} (h : ∀ w ∈ ws, WbOk w) (hl : ws.length ≤ 1000) : ∃ r ps', m__law_row (.nd .lst ps) [.list (ws.map wbD)] = some (.nd .lst (intsO r), .nd .lst ps') ∧ POk ps' ∧ RowOk ws r := by
  obtain ⟨r, t, e, rs, ps', rfl, rfl, h1, h2⟩ := finI_w (P := fun x t => ∃ r ps', x = .nd .lst (intsO r) ∧ t = .nd .lst ps' ∧ POk ps' ∧ RowOk ws r) (B := B__law_row) (ρ := .nd .lst ps :: ini [.list (ws.map wbD)] 2) (by
    unfold B__law_row
    refine w_ret (w_lcT (fun i acc ρ => ∃ p ks, POk p ∧ ρ = [.nd .lst p, .d (.list (ws.map wbD)), .no, .no] ∧ acc = intsO ks ∧ RowOk (ws.take i) ks) (as := ws) (enc := wbD) (by walk_at "ev" <;> exact rfl) rfl (by omega) ⟨ps, [], hp, rfl, rfl, trivial⟩ (fun i w acc ρ2 hw hi => ?_) ?_)
    · obtain ⟨p, ks, hp, rfl, rfl, hk⟩ := hi
      have k := h w (List.mem_of_getElem? hw)
      have c1 := k.lo
      have c2 := k.hi
      obtain ⟨q, p', e, hp', q0, q1⟩ := take_ok hp (w.1 : Int) (by omega) (by omega)
      simp only [wbD, WD]
      refine W.of (by walk_at "ev" <;> exact rfl) ?_
      refine ⟨p', ks ++ [q], hp', rfl, by simp [intsO], ?_⟩
      rw [List.take_add_one, hw]
      exact hk.push q0 q1
    · rintro acc ρ2 ⟨p, ks, hp, rfl, rfl, hk⟩
      rw [List.take_length] at hk
      exact ⟨ks, p, rfl, rfl, hp, hk⟩)
  exact ⟨rs, ps', e, h1, h2⟩
def wbO (w : Wb) : OT := .nd .tup [.d (.int (w.1 : Nat)), .nd .lst (fprO w.2)]
theorem toD_wbO (w : Wb) : OT.toD (wbO w) = some (wbD w) := by
  simp [wbO, wbD, WD, toD_tup, toDs_cons, toDs_nil, toD_d, toD_lst, toDs_fpr]
theorem toDs_wbs (ws : List Wb) : OT.toDs (ws.map wbO) = some (ws.map wbD) := by
  induction ws with
  | nil => simp [toDs_nil]
  | cons w ws ih => simp [toDs_cons, toD_wbO, ih]
theorem lf_wbs (ws : List Wb) : OT.lfs (ws.map wbO) = true := by
  induction ws with
  | nil => simp [OT.lfs]
  | cons w ws ih => simp [OT.lfs, wbO, OT.lf, lfs_fpr] at ih ⊢; exact ih
theorem copied_ok {ws : List Wb} (hl : ws.length ≤ 1000) (h : ∀ w ∈ ws, WbOk w) : m__law_copied [.list (ws.map wbD)] = some (.nd .lst (ws.map wbO)) := by
  unfold m__law_copied B__law_copied
  refine fin_eq ?_
  refine w_ret (w_lcmT wbO (as := ws) (enc := wbD) (by walk_at "ev" <;> exact rfl) rfl (by omega) (fun w hw => ?_) rfl)
  have k := (h w hw).len
  have g : w.2.length ≤ 1000000 := by omega
  have lf : (lstO (w.2.map pairD)).lf = true := by rw [lstO_prs]; simp [OT.lf, lfs_fpr]
  have e : GList [.list (w.2.map pairD)] = some (lstO (w.2.map pairD)) := rfl
  simp only [wbD, WD, wbO]
  refine W.of (by walk_at "ev" <;> exact rfl) ?_
  exact ⟨rfl, rfl⟩
theorem some_webs_ok {ps : List OT} (hp : POk ps) : ∃ (ts : List OT) (ws : List Wb) (ps' : List OT), m__law_some_webs (.nd .lst ps) [] = some (.nd .lst ts, .nd .lst ps') ∧ POk ps' ∧ OT.toDs ts = some (ws.map wbD) ∧ ws.length ≤ 12 ∧ (∀ w ∈ ws, WbOk w) := by
  have toDs_snoc : ∀ {ts : List OT} {xs : List D} {t : OT} {x : D}, OT.toDs ts = some xs → OT.toD t = some x → OT.toDs (ts ++ [t]) = some (xs ++ [x]) := by
    intro ts
    induction ts with
    | nil => intro xs t x h1 h2; simp [toDs_nil] at h1; subst h1; simp [toDs_cons, toDs_nil, h2]
    | cons a ts ih =>
      intro xs t x h1 h2
      rw [toDs_cons] at h1
      cases ha : OT.toD a with
      | none => rw [ha] at h1; cases h1
      | some y =>
        cases hb : OT.toDs ts with
        | none => rw [ha, hb] at h1; cases h1
        | some ys =>
          rw [ha, hb] at h1
          simp at h1
          subst h1
          rw [List.cons_append, toDs_cons, ha, ih hb h2]
          simp
  obtain ⟨r, t, e, ts, ws, ps', rfl, rfl, h1, h2, h3, h4⟩ := finI_w (P := fun x t => ∃ (ts : List OT) (ws : List Wb) (ps' : List OT), x = .nd .lst ts ∧ t = .nd .lst ps' ∧ POk ps' ∧ OT.toDs ts = some (ws.map wbD) ∧ ws.length ≤ 12 ∧ (∀ w ∈ ws, WbOk w)) (B := B__law_some_webs) (ρ := .nd .lst ps :: ini [] 3) (by
    obtain ⟨n, p1, e1, q1, a1, b1⟩ := take_ok hp 13 (by omega) (by omega)
    obtain ⟨n, rfl⟩ : ∃ m : Nat, n = (m : Int) := ⟨n.toNat, by omega⟩
    have c1 := rg1_n (n := n) (by omega)
    unfold B__law_some_webs
    refine w_st (by walk_at "ev" <;> exact rfl) ?_
    refine w_seq (w_for (fun i ρ => ∃ (p ts : List OT) (ws : List Wb) (X Y : OT), POk p ∧ ρ = [.nd .lst p, .nd .lst ts, X, Y] ∧ OT.toDs ts = some (ws.map wbD) ∧ ws.length = i ∧ ts.length = i ∧ (∀ w ∈ ws, WbOk w)) (xs := rgD 0 n) (by walk_at "ev" <;> exact rfl) ⟨p1, [], [], _, _, q1, rfl, rfl, rfl, rfl, by simp⟩ ?_ ?_)
    · rintro i x ρ2 hx ⟨p, ts, ws, X, Y, hp, rfl, ht, hw, htl, hok⟩
      obtain ⟨hi, rfl⟩ := rgD_at hx
      rw [Int.zero_add]
      obtain ⟨k, p2, e2, q2, a2, b2⟩ := take_ok hp 4 (by omega) (by omega)
      obtain ⟨m, em, m1, m2⟩ : ∃ m : Int, atI [PyData.int 1, .int 2, .int 3, .int 5] k = some (.int m) ∧ 1 ≤ m ∧ m ≤ 5 := by
        have : k = 0 ∨ k = 1 ∨ k = 2 ∨ k = 3 := by omega
        rcases this with rfl | rfl | rfl | rfl
        · exact ⟨1, rfl, by omega, by omega⟩
        · exact ⟨2, rfl, by omega, by omega⟩
        · exact ⟨3, rfl, by omega, by omega⟩
        · exact ⟨5, rfl, by omega, by omega⟩
      have fin1 : ∀ (p3 : List OT) (m : Int), POk p3 → 1 ≤ m → m ≤ 40 → W (sApp 1 (yCallI m__law_loose 3 0 (lCons (dY (yVar 3)) (lCons (dR (rC (.int 3))) lNil)))) [.nd .lst p3, .nd .lst ts, .d (.int i), .d (.int m)] (lpK (fun ρ => ∃ (p ts : List OT) (ws : List Wb) (X Y : OT), POk p ∧ ρ = [.nd .lst p, .nd .lst ts, X, Y] ∧ OT.toDs ts = some (ws.map wbD) ∧ ws.length = i + 1 ∧ ts.length = i + 1 ∧ (∀ w ∈ ws, WbOk w)) (sqK (sRet (yMov 1)) (endIK fun x t => ∃ (ts : List OT) (ws : List Wb) (ps' : List OT), x = .nd .lst ts ∧ t = .nd .lst ps' ∧ POk ps' ∧ OT.toDs ts = some (ws.map wbD) ∧ ws.length ≤ 12 ∧ (∀ w ∈ ws, WbOk w)))) := by
        intro p3 m q3 m1 m2
        obtain ⟨n', us, t, p4, e4, q4, n1, n2, w, l, ht'⟩ := loose_spec q3 m 3 m1 m2 (by omega) (by omega)
        have g : i ≤ 1000000 := by omega
        apply w_nx
        · walk_at "ev" <;> exact rfl
        refine ⟨p4, ts ++ [.nd .tup [.d (.int (n' : Nat)), t]], ws ++ [(n', us)], _, _, q4, rfl, ?_, by simp [hw], by simp [htl], ?_⟩
        · rw [List.map_append]
          exact toDs_snoc ht (by simp [toD_tup, toDs_cons, toDs_nil, toD_d, ht', wbD, WD])
        · intro v hv
          rcases List.mem_append.mp hv with z | z
          · exact hok v z
          · rw [List.mem_singleton.mp z]
            exact ⟨w, n1, by show n' ≤ 40; omega, by show us.length ≤ 120; omega⟩
      apply exw
      · walk_at "ev" <;> exact rfl
      refine w_st (by walk_at "ev" <;> exact rfl) ?_
      by_cases h0 : i = 0
      · subst h0
        obtain ⟨k2, p3, e3, q3, a3, b3⟩ := take_ok q2 2 (by omega) (by omega)
        obtain ⟨m', em', m1', m2'⟩ : ∃ m' : Int, atI [PyData.int m, .int 40] k2 = some (.int m') ∧ 1 ≤ m' ∧ m' ≤ 40 := by
          have : k2 = 0 ∨ k2 = 1 := by omega
          rcases this with rfl | rfl
          · exact ⟨m, rfl, by omega, by omega⟩
          · exact ⟨40, rfl, by omega, by omega⟩
        refine w_st (by walk_at "ev" <;> exact rfl) ?_
        exact fin1 p3 m' q3 m1' m2'
      · have e0 : decide ((i : Int) = 0) = false := by simp; omega
        refine w_st (by walk_at "ev" <;> exact rfl) ?_
        exact fin1 p2 m q2 (by omega) (by omega)
    · rintro ρ2 ⟨p, ts, ws, X, Y, hp, rfl, ht, hw, htl, hok⟩
      rw [rgD_len] at hw
      refine w_ret (.of (by walk_at "ev" <;> exact rfl) ?_)
      exact ⟨ts, ws, p, rfl, rfl, hp, ht, by omega, hok⟩)
  exact ⟨ts, ws, ps', e, h1, h2, h3, h4⟩
end SH

namespace MR
open PySem L2 PL
/-! ### pure: rows, tables of lists, membership of pairs -/
theorem cut_to (r : List Int) {i : Nat} (h : i ≤ r.length) : cutD (r.map PyData.int) none (some (i : Int)) = (r.take i).map .int := by
  unfold cutD
  have e : HT.sIx (r.map PyData.int).length (r.map PyData.int).length (some (i : Int)) = i := by
    simp only [HT.sIx, List.length_map]; split <;> omega
  have e0 : HT.sIx (r.map PyData.int).length 0 none = 0 := by simp [HT.sIx]
  rw [e, e0]
  simp
theorem cut_from (r : List Int) {i : Nat} (h : i ≤ r.length) : cutD (r.map PyData.int) (some (i : Int)) none = (r.drop i).map .int := by
  unfold cutD
  have e : HT.sIx (r.map PyData.int).length 0 (some (i : Int)) = i := by
    simp only [HT.sIx, List.length_map]; split <;> omega
  have e0 : HT.sIx (r.map PyData.int).length (r.map PyData.int).length none = (r.map PyData.int).length := by simp [HT.sIx]
  rw [e, e0]
  rw [← List.map_drop, List.take_of_length_le (by simp)]
theorem cut_from1 (r : List Int) {i : Nat} (h : i < r.length) : cutD (r.map PyData.int) (some ((i : Int) + 1)) none = (r.drop (i + 1)).map .int := by
  rw [show ((i : Int) + 1) = ((i + 1 : Nat) : Int) by omega]
  exact cut_from r (by omega)
theorem GCat_ints {a b : List Int} (h : a.length + b.length ≤ 1000000) : GCat (.list (a.map .int)) (.list (b.map .int)) = some (.nd .lst (intsO (a ++ b))) := by
  rw [GCat_ok (by simpa using h), ← List.map_append, lstO_ints]
theorem GCat_ints1 {a : List Int} {q : Int} (h : a.length + 1 ≤ 1000000) : GCat (.list (a.map .int)) (.list [.int q]) = some (.nd .lst (intsO (a ++ [q]))) :=
  GCat_ints (b := [q]) (by simpa using h)
theorem set_cut {r : List Int} {i : Nat} (q : Int) (h : i < r.length) : (r.take i ++ [q]) ++ r.drop (i + 1) = r.set i q := by
  rw [List.set_eq_take_append_cons_drop, if_pos h]
  simp
theorem sAppP_tab {i m : Nat} {ix : Rm} {f : Fm} {ρ : Env} {g : Nat → List OT} {p : Int} {r : OT} (h : ρ[i]? = some (.nd .lst ((List.range m).map fun k => .nd .lst (g k)))) (hx : ix ρ = some (.int p)) (h0 : 0 ≤ p) (h1 : p < (m : Int)) (hf : f ρ = some r) (hr : isNo r = false) (hl : (g p.toNat).length ≤ 1000000) :
    sAppP i (pmIx (pmVar i) ix) f ρ = some (.nx, ρ.set i (.nd .lst ((List.range m).map fun (k : Nat) => .nd .lst (if (k : Int) = p then g k ++ [r] else g k)))) := by
  obtain ⟨n, rfl⟩ : ∃ n : Nat, p = (n : Int) := ⟨p.toNat, by omega⟩
  have hn : n < m := by omega
  have e : ((List.range m).map fun k => OT.nd .lst (g k))[n]? = some (.nd .lst (g n)) := by
    rw [List.getElem?_map, List.getElem?_range hn]; rfl
  unfold sAppP pmIx
  simp only [pmVar, h, Option.map_some, Option.bind_some, hx, List.length_map, List.length_range, ixN_nat hn, e, hf, hr, List.nil_append]
  rw [if_neg (by simp), if_pos (by simpa using hl)]
  simp only [putAt, h, OT.put, e, Option.some.injEq, Prod.mk.injEq, true_and]
  congr 2
  apply List.ext_getElem?
  intro k
  rw [List.getElem?_set]
  by_cases hk : k < m
  · rw [List.getElem?_map, List.getElem?_map, List.getElem?_range hk]
    by_cases z : n = k
    · subst z; simp [hn]
    · have z' : ¬ ((k : Int) = (n : Int)) := by omega
      simp [z, z']
  · simp [hk]
    intro z
    omega
/-! sorting -/
theorem sortT_map {α : Type} {f : α → OT} {g : α → D} {le : α → α → Bool} (hle : ∀ a b, dLe (g a) (g b) = le a b) (xs : List α) : sortT (xs.map f) (xs.map g) = (xs.mergeSort le).map f := by
  have e : (xs.map f).zip (xs.map g) = xs.map fun a => (f a, g a) := by
    rw [List.zip_map']
  unfold sortT
  rw [e]
  have := PySem.W.sort_maps (r := le) (s := fun (a b : OT × D) => dLe a.2 b.2) (fun a : α => (f a, g a)) (l := xs) (fun a _ b _ => (hle a b).symm)
  rw [← this, List.map_map]
  rfl
theorem toDs_map' {α : Type} {f : α → OT} {g : α → D} (h : ∀ a, OT.toD (f a) = some (g a)) : ∀ xs : List α, OT.toDs (xs.map f) = some (xs.map g)
  | [] => by simp [toDs_nil]
  | x :: xs => by simp [toDs_cons, h x, toDs_map' h xs]
def rowO (r : List Int) : OT := .nd .lst (intsO r)
theorem toD_rowO (r : List Int) : OT.toD (rowO r) = some (rowD r) := by
  unfold rowO rowD
  rw [toD_lst, toDs_ints]; rfl
theorem toDs_rowsO (rs : List (List Int)) : OT.toDs (rs.map rowO) = some (rs.map rowD) := toDs_map' toD_rowO rs
theorem sortOk_rows (rs : List (List Int)) : sortOk (rs.map rowD) = true := by
  have := sortA_rows rs
  unfold GSortA at this
  simp only at this
  split at this
  · assumption
  · cases this
theorem ySortM_rows {i : Nat} {ρ : Env} {rs : List (List Int)} (h : ρ[i]? = some (.nd .lst (rs.map rowO))) : ySortM i ρ = some (.nd .lst ((rs.mergeSort rowLe).map rowO), ρ.set i .no) := by
  unfold ySortM
  rw [h]
  simp only [toDs_rowsO, Option.bind_some, sortOk_rows, if_true]
  rw [sortT_map dLe_row]
/-! membership of pairs -/
theorem shaped_prs (ts : List (Int × Int)) : SeqAt.shaped (.list (ts.map pairD)) = true := by
  have c : ∀ ts : List (Int × Int), PyData.canLayAll0 (ts.map pairD) = true := by
    intro ts
    induction ts with
    | nil => simp [PyData.canLayAll0]
    | cons t ts ih => simp [PyData.canLayAll0, PyData.canLay0, pairD, ih]
  have d : ∀ ts : List (Int × Int), PyData.depthAll (ts.map pairD) ≤ 1 := by
    intro ts
    induction ts with
    | nil => simp [PyData.depthAll]
    | cons t ts ih => simp [PyData.depthAll, PyData.depth, pairD] at ih ⊢; omega
  have := d ts
  simp [SeqAt.shaped, PyData.canLay0, c, PyData.depth]
  omega
theorem eqv_pr (p q : Int × Int) : PyData.eqv (pairD p) (pairD q) = decide (p = q) := by
  obtain ⟨a, b⟩ := p
  obtain ⟨c, d⟩ := q
  simp only [pairD, PyData.eqv, PyData.eqvAll, Prod.mk.injEq]
  by_cases h : a = c <;> by_cases h2 : b = d <;> simp [h, h2]
theorem inD_pr (a b : Int) (ts : List (Int × Int)) : gInD (.tuple [.int a, .int b]) (.list (ts.map pairD)) = some (.bool (decide ((a, b) ∈ ts))) := by
  have e : SeqAt.shaped (.tuple [.int a, .int b]) = true := by
    simp [SeqAt.shaped, PyData.canLay0, PyData.canLayAll0, PyData.depth, PyData.depthAll]
  unfold gInD
  simp only [e, shaped_prs, Bool.and_true, if_true, Option.some.injEq, PyData.bool.injEq]
  rw [List.any_map]
  have f : (fun z => PyData.eqv z (.tuple [.int a, .int b])) ∘ pairD = fun p => decide (p = (a, b)) := by
    funext p
    exact eqv_pr p (a, b)
  rw [f]
  induction ts with
  | nil => simp
  | cons t ts ih =>
    rw [List.any_cons, ih]
    by_cases h : t = (a, b)
    · simp [h]
    · have h' : ¬ ((a, b) = t) := fun z => h z.symm
      simp [h, h']
theorem dY_of {y : Ym} {ρ ρ' : Env} {r : OT} {x : D} (h : y ρ = some (r, ρ')) (h2 : OT.toD r = some x) : dY y ρ = some (x, ρ') := by
  unfold dY
  rw [h, Option.bind_some, h2]
  rfl
theorem yOp_of {G : D → D → Option OT} {a b : Dm} {ρ ρ1 ρ2 : Env} {x y : D} {r : OT} (h1 : a ρ = some (x, ρ1)) (h2 : b ρ1 = some (y, ρ2)) (h3 : G x y = some r) : yOp G a b ρ = some (r, ρ2) := by
  unfold yOp
  rw [h1, Option.bind_some, h2, Option.bind_some, h3]
  rfl
theorem iL_of {d : Dm} {ρ ρ' : Env} {xs : List D} (h : d ρ = some (.list xs, ρ')) : iL d ρ = some (xs, ρ') := by
  unfold iL
  rw [h]
  rfl
theorem yOpA_both {G : D → D → Option OT} {ra rb : Rm} {a b : Dm} {ρ : Env} {x y : D} {r : OT} (h1 : ra ρ = some x) (h2 : rb ρ = some y) (h3 : G x y = some r) (h4 : yOp G a b ρ = some (r, ρ)) : yOpA G ra rb a b ρ = some (r, ρ) := by
  unfold yOpA
  rw [h1, h2, Option.bind_some, Option.bind_some, h3, h4]
  unfold lfO
  split <;> rename_i h
  · simp only [] at h
    split at h
    · cases h; rfl
    · cases h
  · rfl
theorem ySlA_both {ra : Rm} {a : Dm} {lo hi : Cm} {ρ : Env} {xs : List D} {l h : Option Int} (h1 : ra ρ = some (.list xs)) (h2 : a ρ = some (.list xs, ρ)) (h3 : lo ρ = some l) (h4 : hi ρ = some h) : ySlA ra a lo hi ρ = some (lstO (cutD xs l h), ρ) := by
  have e : ySl a lo hi ρ = some (lstO (cutD xs l h), ρ) := by
    unfold ySl
    rw [h2]
    simp [asL, h3, h4]
  unfold ySlA
  rw [h1, e]
  simp only [Option.bind_some, asL, h3, h4]
  unfold lfO
  split <;> rename_i h
  · simp only [] at h
    split at h
    · cases h; rfl
    · cases h
  · rfl
/-! comprehensions with two fors -/
theorem mLc_all {β : Type} {enc : β → D} {f : β → OT} {step : D → MR.Env → Option (Option OT × MR.Env)} {vs : List Nat} {ρ : MR.Env} : ∀ {bs : List β} {acc : List OT}, (∀ b ∈ bs, W (step (enc b)) ρ fun o ρ4 => o = some (f b) ∧ wipeE ρ4 vs = ρ) → mLc vs step (bs.map enc) acc ρ = some (acc ++ bs.map f, ρ)
  | [], acc, _ => by simp [mLc]
  | b :: bs, acc, h => by
    obtain ⟨o, ρ4, e, rfl, e2⟩ := h b List.mem_cons_self
    rw [List.map_cons]
    unfold mLc
    rw [e]
    simp only [e2]
    rw [mLc_all fun b hb => h b (List.mem_cons_of_mem _ hb)]
    simp
theorem w_lc2T {α β : Type} (bs : α → List β) (f : α → β → OT) {enc : α → D} {enc2 : α → β → D} {vs vs1 : List Nat} {it it1 : Lm} {g g1 : Gm} {t t1 : Tm} {e : Ym} {ρ ρ1 : MR.Env} {as : List α} {Q : OT → MR.Env → Prop} (h : it ρ = some (as.map enc, ρ1)) (hc : calmAt ρ1 vs = true)
    (hs : ∀ a ∈ as, ∃ ρm ρt ρ3, g (enc a) (wipeE ρ1 vs) = some ρm ∧ t ρm = some (true, ρt) ∧ it1 ρt = some ((bs a).map (enc2 a), ρ3) ∧ (bs a).length ≤ 1000000 ∧ wipeE (wipeE ρ3 vs1) vs = wipeE ρ1 vs ∧
      ∀ b ∈ bs a, W (lcStep g1 t1 e (enc2 a b)) (wipeE ρ3 vs1) fun o ρ4 => o = some (f a b) ∧ wipeE ρ4 vs1 = wipeE ρ3 vs1)
    (hz : (as.flatMap fun a => (bs a).map (f a)).length ≤ 1000000) (hq : Q (.nd .lst (as.flatMap fun a => (bs a).map (f a))) (rst (wipeE ρ1 vs) ρ1 vs)) : W (yLc2 vs vs1 it g t it1 g1 t1 e) ρ Q := by
  have gen : ∀ (xs : List α) (acc : List OT), (∀ a ∈ xs, a ∈ as) → mLc2 vs vs1 g t it1 (lcStep g1 t1 e) (xs.map enc) acc (wipeE ρ1 vs) = some (acc ++ xs.flatMap (fun a => (bs a).map (f a)), wipeE ρ1 vs) := by
    intro xs
    induction xs with
    | nil => intro acc _; simp [mLc2]
    | cons a xs ih =>
      intro acc hm
      obtain ⟨ρm, ρt, ρ3, g1, g2, g3, g4, g5, g6⟩ := hs a (hm a List.mem_cons_self)
      rw [List.map_cons]
      unfold mLc2
      rw [g1, Option.bind_some, g2]
      simp only [g3]
      rw [if_pos (by rw [List.length_map]; exact g4), mLc_all g6]
      simp only [g5]
      rw [ih _ fun b hb => hm b (List.mem_cons_of_mem _ hb)]
      simp
  refine ⟨_, _, ?_, hq⟩
  unfold yLc2
  rw [h, Option.bind_some, if_pos hc]
  rw [gen as [] fun _ h => h]
  simp only [List.nil_append]
  rw [if_pos hz]
end MR

namespace SH
open PySem L2 PL MR
local macro_rules | `(tactic| walk_at "ev") => `(tactic| simp (config := {decide := true}) only [ini, fin, finI, sSeq, sNext, sAsg, sAsgG, sRet, sRetN, sDrop, sIf, sNever, sSetP, sAppP, sClrP, sRevP, fR, pmVar, pmIx, pmIxT, MR.putAt, OT.put, OT.at, gmName, gmTup, gmLst, gsNil, gsCons, rVar, rC, rOp, rUn, rCb, rCbZ, rOpZ, rCall, rAnd, rOr, rNot, rIf, rIs, rCh, rCh3, rTup, rLst, rSl, cNone, cSome, rRepr, dRepr, rInDct, rIdx, small, qNil, qCons, qApp, lApp, bR, bAnd, bOr, bNot, tR, tD, tmAnd, tmOr, tmNot, yVar_eq, yMov, yR, yAuto, dY, yD, dR, dOp, dOpR, dCb, dAnd, dOr, dNot, yCall, yCallA, yCallI, yCallIT, yCb, yCbA, yOp, yOpA, lfO, yTup, yLst, oNil, oCons, isNo, lNil, lCons, asB, asInt, asL, asT, iL, iT, iE, iZ, iV, yRng1_eq, iR1_eq, iR2_eq, lcStep, calmAt, wipeE, rst, sApp, yPop_eq, sDPutM, ySortD, yDNew, gmName, toD_d, toD_tup, toD_lst, toDs_nil, toDs_cons, toDs_ints, toDs_fpr, toDs_prs, lfs_ints, lfs_fpr, intsO_len, prsO_len, fprO_len, rng_len, intsO_snoc, prsO_snoc, lstO_rg, rOpZ, rCbZ, isNo_lstO, toD_dnew, ySl, ySlA, neS_self, eqS_self,  rRevL, yRevL, yRevLA, yPop0, sExt, gStrI,  lstO_prs, lstO_ints, toD_lstO, kp_int, kp_bool, kp_tuple, kp_list, kp_str, isIntB, isBoolB, isTupB, isListB, isStrB, gAdd_i, gSub_i, gLt_i, gLe_i, gGt_i, gGe_i, gMul_r, gMul_l, gMod_i, gDiv_i, gPow_i, gNeg, gEqI, gNeI, gEqS, gNeS, gIsN, gNotN, gIsB, gNotB, gIxL, gIxT, gLen, gMax2, gMin2, gInt, gAll, asBools_map, isN, OT.lf, OT.lfs, flat, atI_0, atI_1, ixN_0, ixN_1, rgD_len, enumD_len, trues_len, Int.toNat_natCast, List.length_map, eq_self, Option.bind_some, Option.bind_none, Option.map_some, Option.map_none, List.getElem?_cons_zero, List.getElem?_cons_succ, List.set_cons_zero, List.set_cons_succ, List.map_cons, List.map_nil, List.replicate, List.nil_append, List.cons_append, List.length_cons, List.length_nil, List.all_cons, List.all_nil, if_true, if_false, reduceIte, tfl_int, tfl_bool, tfl_none, tfl_str, tfl_list, Bool.true_and, Bool.and_true, Bool.false_and, Bool.and_false, Bool.true_or, Bool.or_true, Bool.false_or, Bool.or_false, Bool.not_true, Bool.not_false, Bool.false_eq_true, decide_true, decide_false, true_and, and_true, false_and, and_false, or_true, true_or, *])

/-! ### who is beside whom -/
/-- those tied to p, in the order of the ties -/
def nbsO (ts : List (Int × Int)) (p : Int) : List Int := ts.flatMap fun t => (if t.1 = p then [t.2] else []) ++ (if t.2 = p then [t.1] else [])
theorem nbsO_snoc (ts : List (Int × Int)) (t : Int × Int) (p : Int) : nbsO (ts ++ [t]) p = nbsO ts p ++ ((if t.1 = p then [t.2] else []) ++ (if t.2 = p then [t.1] else [])) := by simp [nbsO]
theorem nbsO_len (ts : List (Int × Int)) (p : Int) : (nbsO ts p).length ≤ 2 * ts.length := by
  induction ts with
  | nil => simp [nbsO]
  | cons t ts ih =>
    unfold nbsO at *
    rw [List.flatMap_cons, List.length_append, List.length_cons]
    have : ((if t.1 = p then [t.2] else []) ++ (if t.2 = p then [t.1] else [])).length ≤ 2 := by
      rw [List.length_append]
      split <;> split <;> simp
    omega
theorem nbsO_mem {ts : List (Int × Int)} {p q : Int} : q ∈ nbsO ts p ↔ (p, q) ∈ ts ∨ (q, p) ∈ ts := by
  unfold nbsO
  rw [List.mem_flatMap]
  constructor
  · rintro ⟨⟨a, b⟩, h, hq⟩
    rcases List.mem_append.mp hq with z | z
    · split at z
      · rename_i e
        simp at e z
        subst e z
        exact .inl h
      · cases z
    · split at z
      · rename_i e
        simp at e z
        subst e z
        exact .inr h
      · cases z
  · rintro (h | h)
    · exact ⟨_, h, by simp⟩
    · exact ⟨_, h, by simp⟩
def besO (w : Wb) : OT := .nd .lst ((List.range w.1).map fun k => .nd .lst (intsO (nbsO w.2 (k : Nat))))
theorem beside_all_ok {w : Wb} (h : WbOk w) : m_beside_all [wbD w] = some (besO w) := by
  obtain ⟨n, ts⟩ := w
  have k := h.ok
  have k1 := h.hi
  have k2 := h.len
  simp only at k k1 k2
  have c1 := rg1_n (n := n) (by omega)
  have c2 := rgD0 n
  generalize rgD 0 n = X at c1 c2
  unfold m_beside_all B_beside_all
  refine fin_eq ?_
  simp only [wbD, WD]
  refine w_st (by walk_at "ev" <;> exact rfl) ?_
  refine w_seq (w_asg (w_lcmT (fun _ : Nat => OT.nd .lst []) (as := List.range n) (enc := fun k : Nat => PyData.int (k : Int)) (by rw [← c2]; walk_at "ev" <;> exact rfl) rfl (by simp; omega) (fun r hr => ?_) ?_))
  · refine W.of (by walk_at "ev" <;> exact rfl) ?_
    exact ⟨rfl, rfl⟩
  simp only [sqK, wipeE, rst, ini, List.map_nil, List.nil_append, List.replicate, List.getElem?_cons_zero, List.getElem?_cons_succ, List.set_cons_zero, List.set_cons_succ, List.map_cons, List.cons_append]
  refine w_seq (w_forT (fun i ρ => ∃ X Y, ρ = [.d (.tuple [.int (n : Nat), .list (ts.map pairD)]), .d (.int (n : Nat)), .d (.list (ts.map pairD)), .nd .lst ((List.range n).map fun k => .nd .lst (intsO (nbsO (ts.take i) (k : Nat)))), .no, X, Y]) (as := ts) (enc := pairD) (by walk_at "ev" <;> exact rfl) ⟨_, _, rfl⟩ (fun i t ρ2 ht hs => ?_) ?_)
  · obtain ⟨X, Y, rfl⟩ := hs
    have b := k.in' t (List.mem_of_getElem? ht)
    have hi : i < ts.length := (List.getElem?_eq_some_iff.mp ht).1
    simp only [pairD]
    apply exw
    · walk_at "ev" <;> exact rfl
    refine w_st (sAppP_tab (m := n) (g := fun k => intsO (nbsO (ts.take i) (k : Nat))) (p := t.1) (r := .d (.int t.2)) rfl (by walk_at "ev" <;> exact rfl) (by omega) (by omega) (by walk_at "ev" <;> exact rfl) rfl (by rw [intsO_len]; have := nbsO_len (ts.take i) ((t.1.toNat : Nat) : Int); rw [List.length_take] at this; omega)) ?_
    apply w_nx
    · refine sAppP_tab (m := n) (p := t.2) (r := .d (.int t.1)) rfl (by walk_at "ev" <;> exact rfl) (by omega) (by omega) (by walk_at "ev" <;> exact rfl) rfl ?_
      have := nbsO_len (ts.take i) ((t.2.toNat : Nat) : Int)
      rw [List.length_take] at this
      split
      · simp only [List.length_append, intsO_len, List.length_cons, List.length_nil]; omega
      · rw [intsO_len]; omega
    refine ⟨.d (.int t.1), .d (.int t.2), ?_⟩
    simp only [List.set_cons_zero, List.set_cons_succ]
    congr 5
    apply List.map_congr_left
    intro a _
    rw [List.take_add_one, ht]
    show _ = OT.nd .lst (intsO (nbsO (ts.take i ++ [t]) (a : Nat)))
    rw [nbsO_snoc]
    by_cases e1 : (a : Int) = t.1 <;> by_cases e2 : (a : Int) = t.2
    · omega
    · have e2' : ¬ t.2 = (a : Int) := fun z => e2 z.symm
      simp only [e1, e2, e2', if_true, if_false]
      have : ¬ t.1 = t.2 := by omega
      have e3 : ¬ t.2 = t.1 := by omega
      simp [this, e3, intsO]
    · have e1' : ¬ t.1 = (a : Int) := fun z => e1 z.symm
      simp only [e1, e2, e1', if_true, if_false]
      have : ¬ t.1 = t.2 := by omega
      have e3 : ¬ t.2 = t.1 := by omega
      simp [this, e3, intsO]
    · have e1' : ¬ t.1 = (a : Int) := fun z => e1 z.symm
      have e2' : ¬ t.2 = (a : Int) := fun z => e2 z.symm
      simp [e1, e2, e1', e2']
  · rintro ρ2 ⟨X, Y, rfl⟩
    rw [List.take_length]
    exact w_end (by walk_at "ev" <;> exact rfl) rfl rfl
/-! ties of a product -/
def cntF (s : Int × Int) (w : Wb) : Int × Int := (s.1 * (w.1 : Int), s.2 * (w.1 : Int) + s.1 * (w.2.length : Nat))
def tiesN (ws : List Wb) : Int := (ws.foldl cntF (1, 0)).2
theorem count_ties_ok {ws : List Wb} (h : ∀ w ∈ ws, WbOk w) : m_count_ties [.list (ws.map wbD)] = some (.d (.int (tiesN ws))) := by
  unfold m_count_ties B_count_ties
  refine fin_eq ?_
  refine w_st (by walk_at "ev" <;> exact rfl) ?_
  refine w_st (by walk_at "ev" <;> exact rfl) ?_
  refine w_seq (w_foldT (fun (s : Int × Int) ρ => ∃ X Y, ρ = [.d (.list (ws.map wbD)), .d (.int s.1), .d (.int s.2), X, Y]) cntF (1, 0) (by walk_at "ev" <;> exact rfl) ⟨_, _, rfl⟩ (fun w hw s ρ2 hs => ?_) ?_)
  · obtain ⟨X, Y, rfl⟩ := hs
    have k := h w hw
    have c : -(2 ^ 64) < (w.1 : Int) ∧ (w.1 : Int) < 2 ^ 64 := by have := k.hi; omega
    have c2 : -(2 ^ 64) < (w.2.length : Int) ∧ (w.2.length : Int) < 2 ^ 64 := by have := k.len; omega
    simp only [wbD, WD]
    apply exw
    · walk_at "ev" <;> exact rfl
    refine w_st (by walk_at "ev" <;> exact rfl) ?_
    apply w_nx
    · walk_at "ev" <;> exact rfl
    exact ⟨_, _, rfl⟩
  · rintro ρ2 ⟨X, Y, rfl⟩
    refine w_end (by walk_at "ev" <;> exact rfl) rfl rfl
theorem ties_of_ok {ws : List Wb} (h : ∀ w ∈ ws, WbOk w) (hl : ws.length ≤ 12) : m_ties_of [.list (ws.map wbD)] = some (.d (.int (tiesN ws))) := by
  have f1 := look_webs_ok h hl
  have f2 := count_ties_ok h
  unfold m_ties_of B_ties_of
  refine fin_eq ?_
  refine w_st (by walk_at "ev" <;> exact rfl) ?_
  exact w_end (by walk_at "ev" <;> exact rfl) rfl rfl
/-! whether rows are tied -/
def unl (a b : List Int) (n : Nat) : List Nat := (List.range n).filter fun k => !decide (at' a (k : Nat) = at' b (k : Nat))
def tieOf (p q : Int) : Int × Int := (min p q, max p q)
def wbAt (ws : List Wb) (k : Nat) : Wb := ws.getD k (1, [])
def tiedB (ws : List Wb) (a b : List Int) : Bool := match unl a b ws.length with
  | [k] => decide (tieOf (at' a (k : Nat)) (at' b (k : Nat)) ∈ (wbAt ws k).2)
  | _ => false
theorem unl_comm (a b : List Int) (n : Nat) : unl a b n = unl b a n := by
  unfold unl
  congr 1
  funext k
  congr 1
  exact decide_eq_decide.mpr ⟨fun h => h.symm, fun h => h.symm⟩
theorem tieOf_comm (p q : Int) : tieOf p q = tieOf q p := by unfold tieOf; rw [Int.min_comm, Int.max_comm]
theorem tiedB_comm (ws : List Wb) (a b : List Int) : tiedB ws a b = tiedB ws b a := by
  unfold tiedB
  rw [unl_comm]
  split
  · rw [tieOf_comm]
  · rfl
theorem wbs_at {ws : List Wb} {k : Nat} (h : k < ws.length) : atI (ws.map wbD) (k : Int) = some (wbD (wbAt ws k)) := by
  refine atI_at ?_
  rw [List.getElem?_map, List.getElem?_eq_getElem h]
  simp [wbAt, h]
theorem wbAt_mem {ws : List Wb} {k : Nat} (h : k < ws.length) : wbAt ws k ∈ ws := by
  simp [wbAt, h]
theorem natsO_fm {n : Nat} (c : Nat → Bool) : (List.range n).filterMap (fun k => if c k then some (OT.d (.int (k : Nat))) else Option.none) = intsO (((List.range n).filter c).map fun (k : Nat) => (k : Int)) := by
  unfold intsO
  rw [List.map_map]
  generalize List.range n = xs
  induction xs with
  | nil => rfl
  | cons x xs ih =>
    rw [List.filterMap_cons, List.filter_cons]
    by_cases h : c x = true
    · simp [h, ih]
    · simp [h, ih]
theorem are_tied_ok {ws : List Wb} (h : ∀ w ∈ ws, WbOk w) (hl : ws.length ≤ 1000) {a b : List Int} (ha : a.length = ws.length) (hb : b.length = ws.length) : m_are_tied [.list (ws.map wbD), .list (a.map .int), .list (b.map .int)] = some (.d (.bool (tiedB ws a b))) := by
  have c1 := rg1_n (n := ws.length) (by omega)
  have c2 := rgD0 ws.length
  generalize rgD 0 ws.length = X at c1 c2
  unfold m_are_tied B_are_tied
  refine fin_eq ?_
  refine w_seq (w_asg (w_lcfT (fun k : Nat => if !decide (at' a (k : Nat) = at' b (k : Nat)) then some (.d (.int (k : Nat))) else Option.none) (as := List.range ws.length) (enc := fun k : Nat => PyData.int (k : Int)) (by rw [← c2]; walk_at "ev" <;> exact rfl) rfl (by simp; omega) (fun k hk => ?_) ?_))
  · have hk := List.mem_range.mp hk
    have e1 := atI_os (os := a) (a := (k : Nat)) (by omega) (by omega)
    have e2 := atI_os (os := b) (a := (k : Nat)) (by omega) (by omega)
    by_cases hc : at' a (k : Nat) = at' b (k : Nat)
    · have hc' : decide (at' a (k : Nat) = at' b (k : Nat)) = true := decide_eq_true hc
      rw [hc']
      rw [hc] at e1 
      refine W.of (by walk_at "ev" <;> exact rfl) ?_
      exact ⟨rfl, rfl⟩
    · have hc' : decide (at' a (k : Nat) = at' b (k : Nat)) = false := decide_eq_false hc
      rw [hc']
      refine W.of (by walk_at "ev" <;> exact rfl) ?_
      exact ⟨rfl, rfl⟩
  rw [natsO_fm]
  simp only [sqK, wipeE, rst, ini, List.map_nil, List.nil_append, List.replicate, List.getElem?_cons_zero, List.getElem?_cons_succ, List.set_cons_zero, List.set_cons_succ, List.map_cons, List.cons_append]
  have eu : ((List.range ws.length).filter fun k => !decide (at' a (k : Nat) = at' b (k : Nat))) = unl a b ws.length := rfl
  rw [eu]
  have hm : ∀ k ∈ unl a b ws.length, k < ws.length := fun k hk => List.mem_range.mp (List.mem_filter.mp hk).1
  unfold tiedB
  generalize unl a b ws.length = U at *
  clear eu
  match U, hm with
  | [], _ =>
    refine w_seq (W.of (by walk_at "ev" <;> exact rfl) ?_)
    rfl
  | k :: l :: U, _ =>
    have g : decide (((l :: U).length + 1 : Int) = 1) = false := by simp; omega
    have g2 : ((k :: l :: U).map fun (k : Nat) => (k : Int)).length = (k :: l :: U).length := by simp
    have g3 : decide ((((k :: l :: U).length : Nat) : Int) = 1) = false := by simp; omega
    generalize ((k :: l :: U).map fun (k : Nat) => (k : Int)) = V at *
    refine w_seq (W.of (by walk_at "ev" <;> exact rfl) ?_)
    rfl
  | [k], hm =>
    have hk := hm k List.mem_cons_self
    have e1 := atI_os (os := a) (a := (k : Nat)) (by omega) (by omega)
    have e2 := atI_os (os := b) (a := (k : Nat)) (by omega) (by omega)
    have e3 := wbs_at hk
    have e4 := as_tie_spec (at' a (k : Nat)) (at' b (k : Nat))
    have e5 := inD_pr (min (at' a (k : Nat)) (at' b (k : Nat))) (max (at' a (k : Nat)) (at' b (k : Nat))) (wbAt ws k).2
    simp only [wbD, WD] at e3
    simp only [wbD, WD, tieOf]
    have e0 : intsO ([k].map fun (k : Nat) => (k : Int)) = [.d (.int (k : Nat))] := rfl
    rw [e0]
    refine w_st (by walk_at "ev" <;> exact rfl) ?_
    refine w_st (by walk_at "ev" <;> exact rfl) ?_
    exact w_end (by walk_at "ev" <;> exact rfl) rfl rfl
theorem rows_tied_ok {ws : List Wb} (h : ∀ w ∈ ws, WbOk w) (hl : ws.length ≤ 12) {a b : List Int} (ha : RowOk ws a) (hb : RowOk ws b) : m_rows_tied [.list (ws.map wbD), .list (a.map .int), .list (b.map .int)] = some (.d (.bool (tiedB ws a b))) := by
  have f1 := look_webs_ok h hl
  have f2 := look_row_ok hl (isRowB_ints ha)
  have f3 := look_row_ok hl (isRowB_ints hb)
  have f4 := are_tied_ok h (by omega) ha.len hb.len
  unfold m_rows_tied B_rows_tied
  refine fin_eq ?_
  refine w_st (by walk_at "ev" <;> exact rfl) ?_
  refine w_st (by walk_at "ev" <;> exact rfl) ?_
  refine w_st (by walk_at "ev" <;> exact rfl) ?_
  exact w_end (by walk_at "ev" <;> exact rfl) rfl rfl
/-! rows beside -/
theorem at'_zero (p : Int) (r : List Int) : at' (p :: r) ((0 : Nat) : Int) = p := rfl
theorem at'_succ (p : Int) (r : List Int) (i : Nat) : at' (p :: r) ((i + 1 : Nat) : Int) = at' r (i : Nat) := by
  unfold at'
  rw [show (((i + 1 : Nat) : Int)).toNat = i + 1 by omega, show ((i : Nat) : Int).toNat = i by omega]
  rfl
theorem RowOk.at : ∀ {ws : List Wb} {r : List Int}, RowOk ws r → ∀ {i : Nat}, i < ws.length → 0 ≤ at' r (i : Nat) ∧ at' r (i : Nat) < ((wbAt ws i).1 : Int)
  | w :: ws, p :: r, h, 0, _ => by
    rw [at'_zero]
    exact h.1
  | w :: ws, p :: r, h, i + 1, hi => by
    rw [at'_succ]
    exact RowOk.at (ws := ws) h.2 (by simpa using hi)
theorem lf_bes (w : Wb) : (besO w).lf = true := by
  unfold besO
  rw [OT.lf]
  have : ∀ xs : List Nat, OT.lfs (xs.map fun k => OT.nd .lst (intsO (nbsO w.2 (k : Nat)))) = true := by
    intro xs
    induction xs with
    | nil => rfl
    | cons x xs ih => simp [OT.lfs, lf_ints, ih]
  exact this _
/-- by the web at i -/
def besAt (ws : List Wb) (r : List Int) (i : Nat) : List (List Int) := (nbsO (wbAt ws i).2 (at' r (i : Nat))).map fun q => r.set i q
def besL (ws : List Wb) (r : List Int) : List (List Int) := (List.range ws.length).flatMap (besAt ws r)
def besTo (ws : List Wb) (r : List Int) (i : Nat) : List (List Int) := (List.range i).flatMap (besAt ws r)
theorem besTo_succ (ws : List Wb) (r : List Int) (i : Nat) : besTo ws r (i + 1) = besTo ws r i ++ besAt ws r i := by
  unfold besTo
  rw [List.range_succ, List.flatMap_append]
  simp
theorem besTo_len {ws : List Wb} (h : ∀ w ∈ ws, WbOk w) (r : List Int) : ∀ i, i ≤ ws.length → (besTo ws r i).length ≤ 240 * i
  | 0, _ => by simp [besTo]
  | i + 1, hi => by
    have := besTo_len h r i (by omega)
    have k := (h _ (wbAt_mem (ws := ws) (k := i) (by omega))).len
    have l := nbsO_len (wbAt ws i).2 (at' r (i : Nat))
    rw [besTo_succ, List.length_append]
    simp only [besAt, List.length_map]
    omega
def besS (ws : List Wb) (r : List Int) : List (List Int) := (besL ws r).mergeSort rowLe
theorem bes_iter {mb : List D → Option OT} {W0 : List D} {r : List Int} {B : List OT} {i : Nat} {w : D} {Z : OT} {N : List Int} {bo : OT} {ri : Int} {X : List D} (lfb : bo.lf = true) (lf : bo.toD = some (.list X)) (f : mb [w] = some bo) (e1 : atI (r.map PyData.int) (i : Int) = some (.int ri)) (e2 : atI X ri = some (.list (N.map .int))) : iL (dY (yAuto (rOp gIxL (rCall mb 1 (qCons (rVar 4) qNil)) (rOp gIxL (rVar 1) (rVar 3))) (yD (dOpR gIxL (dY (yCallA mb 1 (qCons (rVar 4) qNil) (lCons (dY (yVar 4)) lNil))) (rOp gIxL (rVar 1) (rVar 3)))))) [.d (.list W0), .d (.list (r.map .int)), .nd .lst B, .d (.int (i : Nat)), .d w, Z] = some (N.map .int, [.d (.list W0), .d (.list (r.map .int)), .nd .lst B, .d (.int (i : Nat)), .d w, Z]) := by
  walk_at "ev"
theorem tied_rows_ok {ws : List Wb} (h : ∀ w ∈ ws, WbOk w) (hl : ws.length ≤ 12) {r : List Int} (hr : RowOk ws r) : m_tied_rows [.list (ws.map wbD), .list (r.map .int)] = some (.nd .lst ((besS ws r).map rowO)) := by
  have hlen := hr.len
  unfold m_tied_rows B_tied_rows
  refine fin_eq ?_
  refine w_st (by walk_at "ev" <;> exact rfl) ?_
  refine w_seq (w_forT (fun i ρ => ∃ X Y Z, ρ = [.d (.list (ws.map wbD)), .d (.list (r.map .int)), .nd .lst ((besTo ws r i).map rowO), X, Y, Z]) (as := ws.zipIdx) (enc := fun p => .tuple [.int (p.2 : Nat), wbD p.1]) (by rw [← enumD_map]; walk_at "ev" <;> exact rfl) ⟨_, _, _, rfl⟩ (fun i p ρ2 hp hs => ?_) ?_)
  · obtain ⟨X, Y, Z, rfl⟩ := hs
    have hi : i < ws.length := by have := (List.getElem?_eq_some_iff.mp hp).1; simpa using this
    have hw : p = (wbAt ws i, i) := by
      rw [List.getElem?_zipIdx, List.getElem?_eq_getElem hi] at hp
      simp at hp
      simp [wbAt, hi, ← hp]
    subst hw
    have k := h _ (wbAt_mem (ws := ws) (k := i) (by omega))
    have f := beside_all_ok k
    have b := hr.at hi
    have lfb := lf_bes (wbAt ws i)
    have lf : (besO (wbAt ws i)).toD = some (.list ((List.range (wbAt ws i).1).map fun k => .list ((nbsO (wbAt ws i).2 (k : Nat)).map .int))) := by
      unfold besO
      rw [toD_lst, toDs_map' (g := fun k : Nat => .list ((nbsO (wbAt ws i).2 (k : Nat)).map .int)) (fun a => toD_ints _)]
      rfl
    have e1 := atI_os (os := r) (a := (i : Nat)) (by omega) (by omega)
    have e2 : atI ((List.range (wbAt ws i).1).map fun k => PyData.list ((nbsO (wbAt ws i).2 (k : Nat)).map .int)) (at' r (i : Nat)) = some (.list ((nbsO (wbAt ws i).2 (at' r (i : Nat))).map .int)) := by
      obtain ⟨n, hn⟩ : ∃ n : Nat, at' r (i : Nat) = (n : Int) := ⟨(at' r (i : Nat)).toNat, by omega⟩
      rw [hn] at b ⊢
      exact atI_at (by rw [List.getElem?_map, List.getElem?_range (by omega)]; rfl)
    have g1 := besTo_len h r i (by omega)
    have g2 := nbsO_len (wbAt ws i).2 (at' r (i : Nat))
    have g3 := k.len
    simp only []
    generalize m_beside_all = mb at *
    generalize ((List.range (wbAt ws i).1).map fun k => PyData.list ((nbsO (wbAt ws i).2 (k : Nat)).map .int)) = XX at *
    generalize hws : ws.map wbD = W0
    generalize hB : besTo ws r i = B at *
    have hA : besTo ws r (i + 1) = B ++ (nbsO (wbAt ws i).2 (at' r (i : Nat))).map fun q => r.set i q := by rw [besTo_succ, hB]; rfl
    rw [hA]
    generalize at' r (i : Nat) = ri at *
    generalize nbsO (wbAt ws i).2 ri = N at *
    generalize wbD (wbAt ws i) = w at *
    generalize besO (wbAt ws i) = bo at *
    apply exw
    · walk_at "ev" <;> exact rfl
    refine w_forT (fun j ρ => ∃ Z, ρ = [.d (.list W0), .d (.list (r.map .int)), .nd .lst ((B ++ (N.take j).map fun q => r.set i q).map rowO), .d (.int (i : Nat)), .d w, Z]) (as := N) (enc := PyData.int) (bes_iter lfb lf f e1 e2) ⟨Z, by simp⟩ (fun j q ρ2 hq hs => ?_) ?_
    · obtain ⟨Z, rfl⟩ := hs
      have hj : j < N.length := (List.getElem?_eq_some_iff.mp hq).1
      have k1 := cut_to r (i := i) (by omega)
      have k2 := cut_from1 r (i := i) (by omega)
      have k3 := GCat_ints1 (a := r.take i) (q := q) (by rw [List.length_take]; omega)
      have k4 := GCat_ints (a := r.take i ++ [q]) (b := r.drop (i + 1)) (by simp; omega)
      rw [set_cut q (by omega)] at k4
      have k5 : (B ++ (N.take j).map fun q => r.set i q).length ≤ 1000000 := by
        simp; omega
      have k6 := lf_ints (r.set i q)
      have k7 := lf_ints (r.take i ++ [q])
      have k8 := toD_ints (r.take i ++ [q])
      have k9 : (B ++ (N.take (j + 1)).map fun q => r.set i q) = (B ++ (N.take j).map fun q => r.set i q) ++ [r.set i q] := by
        rw [List.take_add_one, hq]
        simp
      rw [k9]
      generalize (B ++ (N.take j).map fun q => r.set i q) = C at *
      generalize r.set i q = r2 at *
      generalize r.take i = r3 at *
      generalize r.drop (i + 1) = r4 at *
      clear k9 hq e2 lf
      have k10 : (C ++ [r2]).map rowO = C.map rowO ++ [.nd .lst (intsO r2)] := by simp [rowO]
      rw [k10]
      apply exw
      · walk_at "ev" <;> exact rfl
      apply w_nx
      · walk_at "ev" <;> exact rfl
      exact ⟨_, rfl⟩
    · rintro ρ2 ⟨Z, rfl⟩
      rw [List.take_length]
      exact ⟨_, _, _, rfl⟩
  · rintro ρ2 ⟨X, Y, Z, rfl⟩
    rw [List.length_zipIdx]
    refine w_end (ySortM_rows (rs := besTo ws r ws.length) rfl) rfl rfl
theorem lfs_rows (rs : List (List Int)) : OT.lfs (rs.map rowO) = true := by
  induction rs with
  | nil => rfl
  | cons r rs ih =>
    rw [List.map_cons, OT.lfs, ih]
    have := lf_ints r
    unfold rowO
    rw [this]
    rfl
theorem toD_rows (rs : List (List Int)) : OT.toD (.nd .lst (rs.map rowO)) = some (.list (rs.map rowD)) := by rw [toD_lst, toDs_rowsO]; rfl
theorem rows_beside_ok {ws : List Wb} (h : ∀ w ∈ ws, WbOk w) (hl : ws.length ≤ 12) {r : List Int} (hr : RowOk ws r) : m_rows_beside [.list (ws.map wbD), .list (r.map .int)] = some (.nd .lst ((besS ws r).map rowO)) := by
  have f1 := look_webs_ok h hl
  have f2 := look_row_ok hl (isRowB_ints hr)
  have f3 := tied_rows_ok h hl hr
  have f4 := lfs_rows (besS ws r)
  unfold m_rows_beside B_rows_beside
  refine fin_eq ?_
  refine w_st (by walk_at "ev" <;> exact rfl) ?_
  refine w_st (by walk_at "ev" <;> exact rfl) ?_
  exact w_end (by walk_at "ev" <;> exact rfl) rfl rfl
theorem RowOk.set : ∀ {ws : List Wb} {r : List Int} {i : Nat} {q : Int}, RowOk ws r → 0 ≤ q → q < ((wbAt ws i).1 : Int) → RowOk ws (r.set i q)
  | [], [], i, q, _, _, _ => trivial
  | w :: ws, p :: r, 0, q, h, h0, h1 => ⟨⟨h0, h1⟩, h.2⟩
  | w :: ws, p :: r, i + 1, q, h, h0, h1 => ⟨h.1, RowOk.set h.2 h0 h1⟩
theorem besL_ok {ws : List Wb} (h : ∀ w ∈ ws, WbOk w) {r : List Int} (hr : RowOk ws r) : ∀ b ∈ besL ws r, RowOk ws b := by
  intro b hb
  obtain ⟨i, hi, hb⟩ := List.mem_flatMap.mp hb
  obtain ⟨q, hq, rfl⟩ := List.mem_map.mp hb
  have hi := List.mem_range.mp hi
  have k := (h _ (wbAt_mem (ws := ws) (k := i) (by omega))).ok
  rcases nbsO_mem.mp hq with z | z
  · have := k.in' _ z
    exact hr.set (by simp at this; omega) (by simp at this; omega)
  · have := k.in' _ z
    exact hr.set (by simp at this; omega) (by simp at this; omega)
theorem besS_ok {ws : List Wb} (h : ∀ w ∈ ws, WbOk w) {r : List Int} (hr : RowOk ws r) : ∀ b ∈ besS ws r, RowOk ws b := fun b hb => besL_ok h hr b ((List.mergeSort_perm _ _).mem_iff.mp hb)
theorem besS_len {ws : List Wb} (h : ∀ w ∈ ws, WbOk w) (r : List Int) : (besS ws r).length ≤ 240 * ws.length := by
  unfold besS
  rw [List.length_mergeSort]
  exact besTo_len h r ws.length (Nat.le_refl _)
end SH

namespace SH
open PySem L2 PL MR
local macro_rules | `(tactic| walk_at "ev") => `(tactic| simp (config := {decide := true}) only [ini, fin, finI, sSeq, sNext, sAsg, sAsgG, sRet, sRetN, sDrop, sIf, sNever, sSetP, sAppP, sClrP, sRevP, fR, pmVar, pmIx, pmIxT, MR.putAt, OT.put, OT.at, gmName, gmTup, gmLst, gsNil, gsCons, rVar, rC, rOp, rUn, rCb, rCbZ, rOpZ, rCall, rAnd, rOr, rNot, rIf, rIs, rCh, rCh3, rTup, rLst, rSl, cNone, cSome, rRepr, dRepr, rInDct, rIdx, small, qNil, qCons, qApp, lApp, bR, bAnd, bOr, bNot, tR, tD, tmAnd, tmOr, tmNot, yVar_eq, yMov, yR, yAuto, dY, yD, dR, dOp, dOpR, dCb, dAnd, dOr, dNot, yCall, yCallA, yCallI, yCallIT, yCb, yCbA, yOp, yOpA, lfO, yTup, yLst, oNil, oCons, isNo, lNil, lCons, asB, asInt, asL, asT, iL, iT, iE, iZ, iV, yRng1_eq, iR1_eq, iR2_eq, lcStep, calmAt, wipeE, rst, sApp, yPop_eq, sDPutM, ySortD, yDNew, gmName, toD_d, toD_tup, toD_lst, toDs_nil, toDs_cons, toDs_ints, toDs_fpr, toDs_prs, lfs_ints, lfs_fpr, intsO_len, prsO_len, fprO_len, rng_len, intsO_snoc, prsO_snoc, lstO_rg, rOpZ, rCbZ, isNo_lstO, toD_dnew, ySl, ySlA, neS_self, eqS_self,  rRevL, yRevL, yRevLA, yPop0, sExt, gStrI,  lstO_prs, lstO_ints, toD_lstO, kp_int, kp_bool, kp_tuple, kp_list, kp_str, isIntB, isBoolB, isTupB, isListB, isStrB, gAdd_i, gSub_i, gLt_i, gLe_i, gGt_i, gGe_i, gMul_r, gMul_l, gMod_i, gDiv_i, gPow_i, gNeg, gEqI, gNeI, gEqS, gNeS, gIsN, gNotN, gIsB, gNotB, gIxL, gIxT, gLen, gMax2, gMin2, gInt, gAll, asBools_map, isN, OT.lf, OT.lfs, flat, atI_0, atI_1, ixN_0, ixN_1, rgD_len, enumD_len, trues_len, Int.toNat_natCast, List.length_map, eq_self, Option.bind_some, Option.bind_none, Option.map_some, Option.map_none, List.getElem?_cons_zero, List.getElem?_cons_succ, List.set_cons_zero, List.set_cons_succ, List.map_cons, List.map_nil, List.replicate, List.nil_append, List.cons_append, List.length_cons, List.length_nil, List.all_cons, List.all_nil, if_true, if_false, reduceIte, tfl_int, tfl_bool, tfl_none, tfl_str, tfl_list, Bool.true_and, Bool.and_true, Bool.false_and, Bool.and_false, Bool.true_or, Bool.or_true, Bool.false_or, Bool.or_false, Bool.not_true, Bool.not_false, Bool.false_eq_true, decide_true, decide_false, true_and, and_true, false_and, and_false, or_true, true_or, *])

theorem rows_bd {ws : List Wb} (h : ∀ w ∈ ws, WbOk w) (hl : ws.length ≤ 12) : rowsN ws ≤ 16777216000000000000 := by
  have gen : ∀ ws : List Wb, (∀ w ∈ ws, WbOk w) → 0 ≤ rowsN ws ∧ rowsN ws ≤ 40 ^ ws.length := by
    intro ws
    induction ws with
    | nil => intro _; simp [rowsN]
    | cons w ws ih =>
      intro h
      have a := ih fun v hv => h v (List.mem_cons_of_mem _ hv)
      have b := (h w List.mem_cons_self).hi
      rw [rowsN_cons, List.length_cons, Int.pow_succ, Int.mul_comm (40 ^ ws.length) 40]
      exact ⟨Int.mul_nonneg (by omega) a.1, Int.mul_le_mul (by omega) a.2 a.1 (by omega)⟩
  have a := (gen ws h).2
  have b : (40 : Int) ^ ws.length ≤ 40 ^ 12 := by
    have := Nat.pow_le_pow_right (n := 40) (by omega) hl
    have e : ∀ n : Nat, (40 : Int) ^ n = ((40 ^ n : Nat) : Int) := fun n => by simp
    rw [e, e]
    omega
  have c : (40 : Int) ^ 12 = 16777216000000000000 := by decide
  omega
theorem nice_wb {w : Wb} (k : WbOk w) : Nice (wbD w) 3 400 :=
  (nice_tup2 (k := 2) ((nice_int (by have := k.hi; omega)).up (by omega) (by omega : 0 ≤ 0)) (nice_list (f := pairD) (k := 1) (b := 2) (n := 120) (fun p hp => nice_pr (by have := k.ok.in' p hp; have := k.hi; omega)) k.len)).up (by omega) (by omega)
theorem nice_wbs {ws : List Wb} (h : ∀ w ∈ ws, WbOk w) (hl : ws.length ≤ 12) : Nice (.list (ws.map wbD)) 4 (12 * 401) := nice_list (f := wbD) (n := 12) (fun w hw => nice_wb (h w hw)) hl
theorem RowOk.mem : ∀ {ws : List Wb} {r : List Int}, (∀ w ∈ ws, WbOk w) → RowOk ws r → ∀ x ∈ r, 0 ≤ x ∧ x < 40
  | [], [], _, _, x, hx => by cases hx
  | w :: ws, p :: r, h, k, x, hx => by
    have b := (h w List.mem_cons_self).hi
    rcases List.mem_cons.mp hx with rfl | hx
    · have := k.1; omega
    · exact RowOk.mem (fun v hv => h v (List.mem_cons_of_mem _ hv)) k.2 x hx
theorem nice_row {ws : List Wb} (h : ∀ w ∈ ws, WbOk w) {r : List Int} (k : RowOk ws r) : ∀ x ∈ r, Nice (.int x) 0 0 := fun x hx => nice_int (by have := k.mem h x hx; omega)
theorem nice_rowD {ws : List Wb} (h : ∀ w ∈ ws, WbOk w) (hl : ws.length ≤ 12) {r : List Int} (k : RowOk ws r) : Nice (rowD r) 1 12 :=
  (nice_list (f := PyData.int) (n := 12) (nice_row h k) (by rw [k.len]; exact hl)).up (by omega) (by omega)
theorem nice_rows {ws : List Wb} (h : ∀ w ∈ ws, WbOk w) (hl : ws.length ≤ 12) {rs : List (List Int)} (k : ∀ r ∈ rs, RowOk ws r) {n : Nat} (hn : rs.length ≤ n) : Nice (.list (rs.map rowD)) 2 (n * 13) :=
  (nice_list (f := rowD) (fun r hr => nice_rowD h hl (k r hr)) hn).up (by omega) (by omega)
theorem repr_row {ws : List Wb} (h : ∀ w ∈ ws, WbOk w) (hl : ws.length ≤ 12) {r : List Int} (k : RowOk ws r) : gRepr (.list (r.map .int)) = some (.str (PyData.shown (.list (r.map .int)))) :=
  (nice_rowD h hl k).repr (by omega) (by omega)
theorem repr_int {i : Int} (h : 0 ≤ i) (h2 : i ≤ 16777216000000000000) : gRepr (.int i) = some (.str (PyData.shown (.int i))) :=
  (nice_int60 (Nat.lt_of_le_of_lt (by omega : i.natAbs ≤ 16777216000000000000) (by decide))).repr (by omega) (by omega)
theorem repr_int2 {i : Int} (h : 0 ≤ i) (h2 : i ≤ 1000000000000000000000000000000) : gRepr (.int i) = some (.str (PyData.shown (.int i))) :=
  (nice_int60 (Nat.lt_of_le_of_lt (by omega : i.natAbs ≤ 1000000000000000000000000000000) (by decide))).repr (by omega) (by omega)
/-- ties of so many webs are not too many to be shown -/
theorem ties_bd {ws : List Wb} (h : ∀ w ∈ ws, WbOk w) (hl : ws.length ≤ 12) : 0 ≤ tiesN ws ∧ tiesN ws ≤ 1440 * 16777216000000000000 := by
  have gen : ∀ (ws : List Wb) (n : Nat) (s : Int × Int), (∀ w ∈ ws, WbOk w) → 0 ≤ s.1 → s.1 ≤ 40 ^ n → 0 ≤ s.2 → s.2 ≤ 120 * (n : Int) * 40 ^ n → 0 ≤ (ws.foldl cntF s).2 ∧ (ws.foldl cntF s).2 ≤ 120 * ((n + ws.length : Nat) : Int) * 40 ^ (n + ws.length) := by
    intro ws
    induction ws with
    | nil => intro n s _ _ _ h1 h2; exact ⟨h1, h2⟩
    | cons w ws ih =>
      intro n s h p1 p2 t1 t2
      have a := (h w List.mem_cons_self).lo
      have b := (h w List.mem_cons_self).hi
      have c := (h w List.mem_cons_self).len
      rw [List.foldl_cons, List.length_cons, show n + (ws.length + 1) = (n + 1) + ws.length by omega]
      have e1 : s.1 * (w.1 : Int) ≤ 40 ^ n * 40 := Int.mul_le_mul p2 (by omega) (by omega) (Int.le_trans p1 p2)
      have e2 : s.2 * (w.1 : Int) ≤ (120 * (n : Int) * 40 ^ n) * 40 := Int.mul_le_mul t2 (by omega) (by omega) (Int.le_trans t1 t2)
      have e3 : s.1 * (w.2.length : Nat) ≤ 40 ^ n * 120 := Int.mul_le_mul p2 (by omega) (by omega) (Int.le_trans p1 p2)
      have e4 : (0 : Int) ≤ 40 ^ n := Int.le_trans p1 p2
      refine ih (n + 1) (cntF s w) (fun v hv => h v (List.mem_cons_of_mem _ hv)) (Int.mul_nonneg p1 (by omega)) (by rw [Int.pow_succ]; exact e1) (Int.add_nonneg (Int.mul_nonneg t1 (by omega)) (Int.mul_nonneg p1 (by omega))) ?_
      show s.2 * (w.1 : Int) + s.1 * (w.2.length : Nat) ≤ _
      have e5 : 120 * ((n + 1 : Nat) : Int) * 40 ^ (n + 1) = (120 * (n : Int) * 40 ^ n) * 40 + 40 ^ n * 120 * 40 := by
        rw [Int.pow_succ]
        generalize (40 : Int) ^ n = z
        simp only [Int.natCast_add, Int.mul_add, Int.add_mul]
        simp [Int.mul_assoc, Int.mul_comm, Int.mul_left_comm]
      rw [e5]
      have e6 : (40 : Int) ^ n * 120 ≤ 40 ^ n * 120 * 40 := by omega
      omega
  have a := gen ws 0 (1, 0) h (by decide) (by decide) (by decide) (by decide)
  refine ⟨a.1, Int.le_trans a.2 ?_⟩
  rw [Nat.zero_add]
  have b : (40 : Int) ^ ws.length ≤ 40 ^ 12 := by
    have := Nat.pow_le_pow_right (n := 40) (by omega) hl
    have e : ∀ n : Nat, (40 : Int) ^ n = ((40 ^ n : Nat) : Int) := fun n => by simp
    rw [e, e]
    omega
  have c : (40 : Int) ^ 12 = 16777216000000000000 := by decide
  rw [c] at b
  have z : (0 : Int) ≤ 40 ^ ws.length := by
    have e : ∀ n : Nat, (40 : Int) ^ n = ((40 ^ n : Nat) : Int) := fun n => by simp
    rw [e]
    exact Int.natCast_nonneg _
  exact Int.mul_le_mul (by omega) b z (by omega)
theorem neD_nil {xs : List D} (h : SeqAt.shaped (.list xs) = true) : gNeD (.list xs) (.list []) = some (.bool (!xs.isEmpty)) := by
  unfold gNeD
  rw [h, shaped_nil]
  cases xs <;> simp [PyData.eqv, PyData.eqvAll]
theorem cut_map {α : Type} {f : α → D} (xs : List α) (lo hi : Option Int) : ∃ ys : List α, cutD (xs.map f) lo hi = ys.map f ∧ (∀ y ∈ ys, y ∈ xs) ∧ ys.length ≤ xs.length := by
  unfold cutD
  refine ⟨(xs.drop (HT.sIx (xs.map f).length 0 lo)).take (HT.sIx (xs.map f).length (xs.map f).length hi - HT.sIx (xs.map f).length 0 lo), ?_, fun y hy => List.mem_of_mem_drop (List.mem_of_mem_take hy), ?_⟩
  · rw [List.map_take, List.map_drop]
  · rw [List.length_take, List.length_drop]; omega
/-! sums and products over the first numbers -/
def sumR (g : Nat → Int) : Nat → Int
  | 0 => 0
  | m + 1 => sumR g m + g m
def prodR (c : Int) (g : Nat → Int) : Nat → Int
  | 0 => c
  | m + 1 => prodR c g m * g m
theorem sumR_congr {g g' : Nat → Int} : ∀ {m : Nat}, (∀ k, k < m → g k = g' k) → sumR g m = sumR g' m
  | 0, _ => rfl
  | m + 1, h => by rw [sumR, sumR, sumR_congr fun k hk => h k (by omega), h m (by omega)]
theorem prodR_congr {c : Int} {g g' : Nat → Int} : ∀ {m : Nat}, (∀ k, k < m → g k = g' k) → prodR c g m = prodR c g' m
  | 0, _ => rfl
  | m + 1, h => by rw [prodR, prodR, prodR_congr fun k hk => h k (by omega), h m (by omega)]
theorem sumR_mul {g : Nat → Int} {c : Int} : ∀ {m : Nat}, sumR (fun k => g k * c) m = sumR g m * c
  | 0 => by simp [sumR]
  | m + 1 => by rw [sumR, sumR, sumR_mul, Int.add_mul]
theorem prodR_c {g : Nat → Int} {c : Int} : ∀ {m : Nat}, prodR c g m = c * prodR 1 g m
  | 0 => by simp [prodR]
  | m + 1 => by rw [prodR, prodR, prodR_c, Int.mul_assoc]
theorem ties_sum {ws : List Wb} : ∀ {m : Nat}, m ≤ ws.length → (ws.take m).foldl cntF (1, 0) = (prodR 1 (fun j => ((wbAt ws j).1 : Int)) m, sumR (fun k => prodR ((wbAt ws k).2.length : Nat) (fun j => if j = k then 1 else ((wbAt ws j).1 : Int)) m) m)
  | 0, _ => rfl
  | m + 1, h => by
    have e : (ws.take (m + 1)) = ws.take m ++ [wbAt ws m] := by
      rw [List.take_add_one, List.getElem?_eq_getElem (by omega)]
      simp [wbAt, show m < ws.length by omega]
    rw [e, List.foldl_append, ties_sum (by omega)]
    show cntF _ _ = _
    unfold cntF
    refine Prod.ext rfl ?_
    rw [sumR]
    have e1 : sumR (fun k => prodR ((wbAt ws k).2.length : Nat) (fun j => if j = k then 1 else ((wbAt ws j).1 : Int)) (m + 1)) m = sumR (fun k => prodR ((wbAt ws k).2.length : Nat) (fun j => if j = k then 1 else ((wbAt ws j).1 : Int)) m) m * ((wbAt ws m).1 : Int) := by
      rw [← sumR_mul]
      refine sumR_congr fun k hk => ?_
      rw [prodR, if_neg (by omega)]
    have e2 : prodR ((wbAt ws m).2.length : Nat) (fun j => if j = m then 1 else ((wbAt ws j).1 : Int)) (m + 1) = prodR 1 (fun j => ((wbAt ws j).1 : Int)) m * ((wbAt ws m).2.length : Nat) := by
      rw [prodR, if_pos rfl, Int.mul_one, prodR_c, Int.mul_comm]
      congr 1
      exact prodR_congr fun k hk => if_neg (by omega)
    rw [e1, e2]
theorem tiesN_sum (ws : List Wb) : tiesN ws = sumR (fun k => prodR ((wbAt ws k).2.length : Nat) (fun j => if j = k then 1 else ((wbAt ws j).1 : Int)) ws.length) ws.length := by
  have := ties_sum (ws := ws) (Nat.le_refl _)
  rw [List.take_length] at this
  unfold tiesN
  rw [this]
end SH

namespace SH
open PySem L2 PL MR
/-! ### rows beside: unlike, rising, tied -/
theorem nbsO_nodup {n : Nat} {ts : List (Int × Int)} (w : WOk n ts) (p : Int) : (nbsO ts p).Nodup := by
  have gen : ∀ ts : List (Int × Int), (∀ t ∈ ts, t.1 < t.2) → ts.Nodup → (nbsO ts p).Nodup := by
    intro ts
    induction ts with
    | nil => intro _ _; simp [nbsO]
    | cons t ts ih =>
      intro h nd
      have nd' := List.nodup_cons.mp nd
      have lt := h t List.mem_cons_self
      have ih := ih (fun t ht => h t (List.mem_cons_of_mem _ ht)) nd'.2
      have e : nbsO (t :: ts) p = ((if t.1 = p then [t.2] else []) ++ (if t.2 = p then [t.1] else [])) ++ nbsO ts p := by simp [nbsO]
      rw [e]
      refine List.nodup_append.mpr ⟨?_, ih, fun a ha b hb z => ?_⟩
      · by_cases h1 : t.1 = p <;> by_cases h2 : t.2 = p <;> simp [h1, h2]
        omega
      · subst z
        rcases List.mem_append.mp ha with z | z
        · split at z
          · rename_i e
            rw [List.mem_singleton.mp z] at hb
            rcases nbsO_mem.mp hb with y | y
            · rw [← e] at y; exact nd'.1 y
            · have := h _ (List.mem_cons_of_mem _ y)
              simp only at this
              omega
          · cases z
        · split at z
          · rename_i e
            rw [List.mem_singleton.mp z] at hb
            rcases nbsO_mem.mp hb with y | y
            · have := h _ (List.mem_cons_of_mem _ y)
              simp only at this
              omega
            · rw [← e] at y; exact nd'.1 y
          · cases z
  exact gen ts (fun t ht => (w.in' t ht).2.1) w.nodup
theorem nbsO_ne {n : Nat} {ts : List (Int × Int)} (w : WOk n ts) {p q : Int} (h : q ∈ nbsO ts p) : q ≠ p ∧ 0 ≤ q ∧ q < (n : Int) := by
  rcases nbsO_mem.mp h with z | z <;> have := w.in' _ z <;> simp only at this <;> omega
theorem nbsO_sym {ts : List (Int × Int)} {p q : Int} (h : q ∈ nbsO ts p) : p ∈ nbsO ts q := nbsO_mem.mpr (nbsO_mem.mp h).symm
theorem at'_set {r : List Int} {i k : Nat} {q : Int} (h : i < r.length) : at' (r.set i q) (k : Nat) = if k = i then q else at' r (k : Nat) := by
  unfold at'
  rw [show ((k : Nat) : Int).toNat = k by omega, List.getD_eq_getElem?_getD, List.getD_eq_getElem?_getD, List.getElem?_set]
  by_cases e : i = k
  · subst e
    simp [h]
  · have e' : ¬ k = i := fun z => e z.symm
    simp [e, e']
theorem besL_mem {ws : List Wb} {r b : List Int} : b ∈ besL ws r ↔ ∃ i, i < ws.length ∧ ∃ q, q ∈ nbsO (wbAt ws i).2 (at' r (i : Nat)) ∧ b = r.set i q := by
  unfold besL
  rw [List.mem_flatMap]
  constructor
  · rintro ⟨i, hi, hb⟩
    obtain ⟨q, hq, rfl⟩ := List.mem_map.mp hb
    exact ⟨i, List.mem_range.mp hi, q, hq, rfl⟩
  · rintro ⟨i, hi, q, hq, rfl⟩
    exact ⟨i, List.mem_range.mpr hi, List.mem_map.mpr ⟨q, hq, rfl⟩⟩
theorem besS_mem {ws : List Wb} {r b : List Int} : b ∈ besS ws r ↔ b ∈ besL ws r := (List.mergeSort_perm _ _).mem_iff
theorem besL_nodup {ws : List Wb} (h : ∀ w ∈ ws, WbOk w) {r : List Int} (hr : r.length = ws.length) : (besL ws r).Nodup := by
  unfold besL
  rw [List.nodup_iff_pairwise_ne, List.pairwise_flatMap]
  have hm : ∀ i ∈ List.range ws.length, i < ws.length := fun i hi => List.mem_range.mp hi
  refine ⟨fun i hi => ?_, ?_⟩
  · have hi := hm i hi
    have nd := nbsO_nodup (h _ (wbAt_mem hi)).ok (at' r (i : Nat))
    unfold besAt
    rw [List.pairwise_map]
    rw [List.nodup_iff_pairwise_ne] at nd
    refine nd.imp fun {a b} hne e => hne ?_
    have := congrArg (fun l => at' l (i : Nat)) e
    simp only [at'_set (r := r) (i := i) (k := i) (by omega), if_true] at this
    exact this
  · refine (List.pairwise_lt_range (n := ws.length)).imp_of_mem fun {i j} hi hj lt x hx y hy e => ?_
    obtain ⟨q, hq, rfl⟩ := List.mem_map.mp hx
    obtain ⟨q', hq', rfl⟩ := List.mem_map.mp hy
    have ne := (nbsO_ne (h _ (wbAt_mem (hm i hi))).ok hq).1
    have hi := hm i hi
    have hj := hm j hj
    have := congrArg (fun l => at' l (i : Nat)) e
    simp only [at'_set (r := r) (i := i) (k := i) (by omega), at'_set (r := r) (i := j) (k := i) (by omega), if_true, if_neg (show ¬ i = j by omega)] at this
    exact ne this
theorem rowLe_tr (a b c : List Int) (h1 : rowLe a b = true) (h2 : rowLe b c = true) : rowLe a c = true := by
  simp only [rowLe, Bool.not_eq_true', decide_eq_false_iff_not] at *
  exact List.not_lt.mpr (List.le_trans (List.not_lt.mp h1) (List.not_lt.mp h2))
theorem rowLe_tot (a b : List Int) : (rowLe a b || rowLe b a) = true := by
  simp only [rowLe, Bool.or_eq_true, Bool.not_eq_true', decide_eq_false_iff_not]
  rcases List.le_total a b with z | z
  · exact .inl (List.not_lt.mpr z)
  · exact .inr (List.not_lt.mpr z)
theorem besS_lt {ws : List Wb} (h : ∀ w ∈ ws, WbOk w) {r : List Int} (hr : RowOk ws r) : (besS ws r).Pairwise (· < ·) := by
  have s := List.pairwise_mergeSort (le := rowLe) rowLe_tr rowLe_tot (besL ws r)
  have nd : (besS ws r).Nodup := (List.mergeSort_perm _ _).nodup_iff.mpr (besL_nodup h hr.len)
  rw [List.nodup_iff_pairwise_ne] at nd
  refine (s.and nd).imp_of_mem fun {a b} ha hb z => ?_
  have ka := besS_ok h hr a ha
  have kb := besS_ok h hr b hb
  have z1 := z.1
  simp only [rowLe, Bool.not_eq_true', decide_eq_false_iff_not] at z1
  rw [row_lt h kb ka] at z1
  rw [row_lt h ka kb]
  have : numA ws a ≠ numA ws b := fun e => z.2 (row_inj h ka kb e)
  omega
/-! tied just where beside -/
theorem filter_one {n i : Nat} {c : Nat → Bool} (hi : i < n) (h : ∀ k, k < n → (c k = true ↔ k = i)) : (List.range n).filter c = [i] := by
  induction n with
  | zero => omega
  | succ n ih =>
    rw [List.range_succ, List.filter_append]
    by_cases e : i = n
    · subst e
      have e1 : (List.range i).filter c = [] := by
        rw [List.filter_eq_nil_iff]
        intro k hk
        have hk := List.mem_range.mp hk
        rw [h k (by omega)]
        omega
      have e2 : c i = true := (h i (by omega)).mpr rfl
      rw [e1]
      simp [e2]
    · rw [ih (by omega) (fun k hk => h k (by omega))]
      have e2 : c n = false := by
        cases q : c n with
        | false => rfl
        | true => have := (h n (by omega)).mp q; omega
      simp [e2]
theorem unl_set {n : Nat} {r : List Int} {i : Nat} {q : Int} (hr : r.length = n) (hi : i < n) (hq : q ≠ at' r (i : Nat)) : unl r (r.set i q) n = [i] := by
  refine filter_one hi fun k hk => ?_
  rw [at'_set (by omega)]
  by_cases e : k = i
  · subst e
    simp
    intro z
    exact hq z.symm
  · simp [e]
theorem unl_self (r : List Int) (n : Nat) : unl r r n = [] := by
  unfold unl
  rw [List.filter_eq_nil_iff]
  intro k hk
  simp
theorem tied_self (ws : List Wb) (r : List Int) : tiedB ws r r = false := by
  unfold tiedB
  rw [unl_self]
theorem tieOf_mem {n : Nat} {ts : List (Int × Int)} (w : WOk n ts) (p q : Int) : tieOf p q ∈ ts ↔ q ∈ nbsO ts p := by
  unfold tieOf
  rw [nbsO_mem]
  constructor
  · intro h
    rcases Int.le_total p q with z | z
    · rw [Int.min_eq_left z, Int.max_eq_right z] at h; exact .inl h
    · rw [Int.min_eq_right z, Int.max_eq_left z] at h; exact .inr h
  · rintro (h | h)
    · have := w.in' _ h
      simp only at this
      rw [Int.min_eq_left (by omega), Int.max_eq_right (by omega)]; exact h
    · have := w.in' _ h
      simp only at this
      rw [Int.min_eq_right (by omega), Int.max_eq_left (by omega)]; exact h
theorem tied_iff {ws : List Wb} (h : ∀ w ∈ ws, WbOk w) {a b : List Int} (ha : a.length = ws.length) (hb : b.length = ws.length) : tiedB ws a b = true ↔ b ∈ besL ws a := by
  rw [besL_mem]
  constructor
  · intro t
    unfold tiedB at t
    split at t
    · rename_i k hu
      have hk : k ∈ unl a b ws.length := by rw [hu]; exact List.mem_cons_self
      have hk := List.mem_filter.mp hk
      have hk1 := List.mem_range.mp hk.1
      have t := of_decide_eq_true t
      refine ⟨k, hk1, at' b (k : Nat), (tieOf_mem (h _ (wbAt_mem hk1)).ok _ _).mp t, ?_⟩
      refine ext_at' (n := ws.length) hb (by simpa using ha) fun j hj => ?_
      rw [at'_set (by omega)]
      by_cases e : j = k
      · subst e; simp
      · rw [if_neg e]
        cases q : decide (at' a (j : Nat) = at' b (j : Nat)) with
        | true => exact (of_decide_eq_true q).symm
        | false =>
          have : j ∈ unl a b ws.length := List.mem_filter.mpr ⟨List.mem_range.mpr hj, by rw [q]; rfl⟩
          rw [hu] at this
          exact absurd (List.mem_singleton.mp this) e
    · cases t
  · rintro ⟨i, hi, q, hq, rfl⟩
    have w := (h _ (wbAt_mem hi)).ok
    have ne := (nbsO_ne w hq).1
    unfold tiedB
    rw [unl_set ha hi ne]
    simp only [at'_set (r := a) (i := i) (k := i) (by omega), if_true]
    exact decide_eq_true ((tieOf_mem w _ _).mpr hq)
theorem unl_tied {ws : List Wb} {a b : List Int} (h : tiedB ws a b = true) : ∃ k, k < ws.length ∧ unl a b ws.length = [k] := by
  unfold tiedB at h
  split at h
  · rename_i k hu
    have hk : k ∈ unl a b ws.length := by rw [hu]; exact List.mem_cons_self
    exact ⟨k, List.mem_range.mp (List.mem_filter.mp hk).1, hu⟩
  · cases h
/-- two steps in unlike webs the other way about -/
theorem square {ws : List Wb} (h : ∀ w ∈ ws, WbOk w) {a r o : List Int} (ha : RowOk ws a) (hr : RowOk ws r) (ho : RowOk ws o) (t1 : tiedB ws a r = true) (t2 : tiedB ws r o = true) {i j : Nat} (u1 : unl a r ws.length = [i]) (u2 : unl r o ws.length = [j]) (ne : i ≠ j) :
    j < ws.length ∧ RowOk ws (a.set j (at' o (j : Nat))) ∧ tiedB ws a (a.set j (at' o (j : Nat))) = true ∧ tiedB ws (a.set j (at' o (j : Nat))) o = true ∧ tiedB ws a o = false := by
  have la := ha.len
  have lr := hr.len
  have lo := ho.len
  obtain ⟨i', hi, q, hq, rfl⟩ := besL_mem.mp ((tied_iff h la lr).mp t1)
  have n1 := (nbsO_ne (h _ (wbAt_mem hi)).ok hq).1
  rw [unl_set la hi n1] at u1
  have e : i' = i := by simpa using u1
  subst e
  obtain ⟨j', hj, q', hq', rfl⟩ := besL_mem.mp ((tied_iff h lr lo).mp t2)
  have n2 := (nbsO_ne (h _ (wbAt_mem hj)).ok hq').1
  rw [unl_set lr hj n2] at u2
  have e : j' = j := by simpa using u2
  subst e
  have b := nbsO_ne (h _ (wbAt_mem hj)).ok hq'
  rw [at'_set (by omega), if_neg (fun z => ne z.symm)] at hq'
  rw [at'_set (by omega), if_pos rfl]
  have ok : RowOk ws (a.set j' q') := ha.set b.2.1 b.2.2
  refine ⟨hj, ok, (tied_iff h la ok.len).mpr (besL_mem.mpr ⟨j', hj, q', hq', rfl⟩), (tied_iff h ok.len lo).mpr (besL_mem.mpr ⟨i', hi, q, ?_, ?_⟩), ?_⟩
  · rw [at'_set (by omega), if_neg ne]; exact hq
  · exact List.set_comm _ _ ne
  · cases z : tiedB ws a ((a.set i' q).set j' q') with
    | false => rfl
    | true =>
      obtain ⟨k, hk, p, hp, e⟩ := besL_mem.mp ((tied_iff h la lo).mp z)
      have x1 := congrArg (fun l => at' l (i' : Nat)) e
      have x2 := congrArg (fun l => at' l (j' : Nat)) e
      rw [at'_set (by simp; omega), at'_set (by omega), at'_set (by omega), if_neg ne, if_pos rfl] at x1
      rw [at'_set (by simp; omega), if_pos rfl, at'_set (by omega)] at x2
      have k1 : k = i' := by
        by_cases c : i' = k
        · exact c.symm
        · rw [if_neg c] at x1; exact absurd x1 n1
      subst k1
      have ne' : ¬ j' = k := fun z => ne z.symm
      rw [if_neg ne'] at x2
      rw [at'_set (by omega), if_neg ne'] at n2
      exact absurd x2 n2
end SH

namespace SH
open PySem L2 PL MR
/-! ### products of webs -/
def acrL (V : List (Int × Int)) (w : Nat) : List (Int × Int) := V.flatMap fun t => (List.range w).map fun (k : Nat) => (t.1 * (w : Int) + (k : Int), t.2 * (w : Int) + (k : Int))
def alnL (v : Nat) (W : List (Int × Int)) (w : Nat) : List (Int × Int) := (List.range v).flatMap fun (k : Nat) => W.map fun t => ((k : Int) * (w : Int) + t.1, (k : Int) * (w : Int) + t.2)
def mul2 (V W : Wb) : Wb := (V.1 * W.1, srtL (acrL V.2 W.1 ++ alnL V.1 W.2 W.1))
def prodW (ws : List Wb) : Wb := ws.foldl mul2 (1, [])
theorem dm {t k w : Int} (h0 : 0 ≤ k) (h1 : k < w) : (t * w + k) / w = t ∧ (t * w + k) % w = k := by
  constructor
  · rw [Int.add_comm, Int.add_mul_ediv_right _ _ (by omega), Int.ediv_eq_zero_of_lt h0 h1, Int.zero_add]
  · rw [Int.add_comm, Int.add_mul_emod_self_right]; exact Int.emod_eq_of_lt h0 h1
theorem dm_back (x : Int) {w : Int} (h : 0 < w) : x = x / w * w + x % w ∧ 0 ≤ x % w ∧ x % w < w := ⟨by rw [Int.mul_comm]; exact (Int.mul_ediv_add_emod x w).symm, Int.emod_nonneg _ (by omega), Int.emod_lt_of_pos _ h⟩
theorem acr_mem {V : List (Int × Int)} {w : Nat} (hw : 1 ≤ w) {a b : Int} : (a, b) ∈ acrL V w ↔ a % (w : Int) = b % (w : Int) ∧ (a / (w : Int), b / (w : Int)) ∈ V := by
  unfold acrL
  rw [List.mem_flatMap]
  constructor
  · rintro ⟨t, ht, h⟩
    obtain ⟨k, hk, e⟩ := List.mem_map.mp h
    have hk := List.mem_range.mp hk
    simp only [Prod.mk.injEq] at e
    obtain ⟨rfl, rfl⟩ := e
    have d1 := dm (t := t.1) (k := (k : Int)) (w := (w : Int)) (by omega) (by omega)
    have d2 := dm (t := t.2) (k := (k : Int)) (w := (w : Int)) (by omega) (by omega)
    rw [d1.1, d1.2, d2.1, d2.2]
    exact ⟨rfl, ht⟩
  · rintro ⟨h1, h2⟩
    have d1 := dm_back a (w := (w : Int)) (by omega)
    have d2 := dm_back b (w := (w : Int)) (by omega)
    refine ⟨_, h2, List.mem_map.mpr ⟨(a % (w : Int)).toNat, List.mem_range.mpr (by omega), ?_⟩⟩
    have e : (((a % (w : Int)).toNat : Nat) : Int) = a % (w : Int) := by omega
    simp only [e]
    refine Prod.ext d1.1.symm ?_
    simp only
    rw [h1]
    exact d2.1.symm
theorem aln_mem {v : Nat} {W : List (Int × Int)} {w : Nat} (hW : WOk w W) {a b : Int} : (a, b) ∈ alnL v W w ↔ a / (w : Int) = b / (w : Int) ∧ 0 ≤ a / (w : Int) ∧ a / (w : Int) < (v : Int) ∧ (a % (w : Int), b % (w : Int)) ∈ W := by
  unfold alnL
  rw [List.mem_flatMap]
  constructor
  · rintro ⟨k, hk, h⟩
    obtain ⟨t, ht, e⟩ := List.mem_map.mp h
    have hk := List.mem_range.mp hk
    have b := hW.in' t ht
    simp only [Prod.mk.injEq] at e
    obtain ⟨rfl, rfl⟩ := e
    have d1 := dm (t := (k : Int)) (k := t.1) (w := (w : Int)) (by omega) (by omega)
    have d2 := dm (t := (k : Int)) (k := t.2) (w := (w : Int)) (by omega) (by omega)
    rw [d1.1, d1.2, d2.1, d2.2]
    exact ⟨rfl, by omega, by omega, ht⟩
  · rintro ⟨h1, h2, h3, h4⟩
    have c := hW.in' _ h4
    have d1 := dm_back a (w := (w : Int)) (by omega)
    have d2 := dm_back b (w := (w : Int)) (by omega)
    refine ⟨(a / (w : Int)).toNat, List.mem_range.mpr (by omega), List.mem_map.mpr ⟨_, h4, ?_⟩⟩
    have e : (((a / (w : Int)).toNat : Nat) : Int) = a / (w : Int) := by omega
    simp only [e]
    refine Prod.ext d1.1.symm ?_
    simp only
    rw [h1]
    exact d2.1.symm
theorem mul2_mem {V W : Wb} (hW : WOk W.1 W.2) (h1 : 1 ≤ W.1) {a b : Int} : (a, b) ∈ (mul2 V W).2 ↔ (a % (W.1 : Int) = b % (W.1 : Int) ∧ (a / (W.1 : Int), b / (W.1 : Int)) ∈ V.2) ∨ (a / (W.1 : Int) = b / (W.1 : Int) ∧ 0 ≤ a / (W.1 : Int) ∧ a / (W.1 : Int) < (V.1 : Int) ∧ (a % (W.1 : Int), b % (W.1 : Int)) ∈ W.2) := by
  show (a, b) ∈ srtL _ ↔ _
  rw [srtL_mem, List.mem_append, acr_mem h1, aln_mem hW]
theorem acr_nodup {V : List (Int × Int)} (hV : V.Nodup) {w : Nat} (h1 : 1 ≤ w) : (acrL V w).Nodup := by
  unfold acrL
  rw [List.nodup_iff_pairwise_ne, List.pairwise_flatMap]
  constructor
  · intro t ht
    rw [List.pairwise_map]
    have := List.nodup_range (n := w)
    rw [List.nodup_iff_pairwise_ne] at this
    refine this.imp fun {a b} hne e => hne ?_
    simp only [Prod.mk.injEq] at e
    omega
  · rw [List.nodup_iff_pairwise_ne] at hV
    refine hV.imp fun {s t} hne x hx y hy e => hne ?_
    obtain ⟨k, hk, rfl⟩ := List.mem_map.mp hx
    obtain ⟨l, hl, rfl⟩ := List.mem_map.mp hy
    have hk := List.mem_range.mp hk
    have hl := List.mem_range.mp hl
    simp only [Prod.mk.injEq] at e
    have d1 := dm (t := s.1) (k := (k : Int)) (w := (w : Int)) (by omega) (by omega)
    have d2 := dm (t := s.2) (k := (k : Int)) (w := (w : Int)) (by omega) (by omega)
    have d3 := dm (t := t.1) (k := (l : Int)) (w := (w : Int)) (by omega) (by omega)
    have d4 := dm (t := t.2) (k := (l : Int)) (w := (w : Int)) (by omega) (by omega)
    rw [e.1] at d1
    rw [e.2] at d2
    exact Prod.ext (by rw [← d1.1, d3.1]) (by rw [← d2.1, d4.1])
theorem aln_nodup {v : Nat} {W : List (Int × Int)} {w : Nat} (hW : WOk w W) : (alnL v W w).Nodup := by
  unfold alnL
  rw [List.nodup_iff_pairwise_ne, List.pairwise_flatMap]
  constructor
  · intro k hk
    rw [List.pairwise_map]
    have := hW.nodup
    rw [List.nodup_iff_pairwise_ne] at this
    refine this.imp fun {a b} hne e => hne ?_
    simp only [Prod.mk.injEq] at e
    exact Prod.ext (by omega) (by omega)
  · have := List.nodup_range (n := v)
    rw [List.nodup_iff_pairwise_ne] at this
    refine this.imp fun {s t} hne x hx y hy e => hne ?_
    obtain ⟨k, hk, rfl⟩ := List.mem_map.mp hx
    obtain ⟨l, hl, rfl⟩ := List.mem_map.mp hy
    have b1 := hW.in' k hk
    have b2 := hW.in' l hl
    simp only [Prod.mk.injEq] at e
    have d1 := dm (t := (s : Int)) (k := k.1) (w := (w : Int)) (by omega) (by omega)
    have d3 := dm (t := (t : Int)) (k := l.1) (w := (w : Int)) (by omega) (by omega)
    rw [e.1] at d1
    have := d1.1.symm.trans d3.1
    omega
theorem mul2_ok {V W : Wb} (hV : WOk V.1 V.2) (hW : WOk W.1 W.2) (h1 : 1 ≤ W.1) : WOk (mul2 V W).1 (mul2 V W).2 := by
  refine ⟨fun p hp => ?_, srtL_lex _, srtL_nodup (List.nodup_append.mpr ⟨acr_nodup hV.nodup h1, aln_nodup hW, ?_⟩)⟩
  · obtain ⟨a, b⟩ := p
    have d1 := dm_back a (w := (W.1 : Int)) (by omega)
    have d2 := dm_back b (w := (W.1 : Int)) (by omega)
    show 0 ≤ a ∧ a < b ∧ b < ((V.1 * W.1 : Nat) : Int)
    have key : ∀ x y : Int, 0 ≤ x → x < (V.1 : Int) → 0 ≤ y → y < (W.1 : Int) → 0 ≤ x * (W.1 : Int) + y ∧ x * (W.1 : Int) + y < ((V.1 * W.1 : Nat) : Int) := by
      intro x y h1 h2 h3 h4
      have m1 : 0 ≤ x * (W.1 : Int) := Int.mul_nonneg h1 (by omega)
      have m2 : (x + 1) * (W.1 : Int) ≤ (V.1 : Int) * (W.1 : Int) := Int.mul_le_mul_of_nonneg_right (by omega) (by omega)
      rw [Int.add_mul, Int.one_mul] at m2
      rw [Int.natCast_mul]
      omega
    rcases (mul2_mem hW h1).mp hp with ⟨h2, h3⟩ | ⟨h2, h3, h4, h5⟩
    · have c := hV.in' _ h3
      simp only at c
      have k1 := key (a / (W.1 : Int)) (a % (W.1 : Int)) (by omega) (by omega) (by omega) (by omega)
      have k2 := key (b / (W.1 : Int)) (b % (W.1 : Int)) (by omega) (by omega) (by omega) (by omega)
      rw [← d1.1] at k1
      rw [← d2.1] at k2
      have m : a / (W.1 : Int) * (W.1 : Int) < b / (W.1 : Int) * (W.1 : Int) := Int.mul_lt_mul_of_pos_right (by omega) (by omega)
      omega
    · have c := hW.in' _ h5
      simp only at c
      have k1 := key (a / (W.1 : Int)) (a % (W.1 : Int)) (by omega) (by omega) (by omega) (by omega)
      have k2 := key (b / (W.1 : Int)) (b % (W.1 : Int)) (by omega) (by omega) (by omega) (by omega)
      rw [← d1.1] at k1
      rw [← d2.1] at k2
      have m : a / (W.1 : Int) * (W.1 : Int) = b / (W.1 : Int) * (W.1 : Int) := by rw [h2]
      omega
  · rintro ⟨a, b⟩ ha ⟨c, d⟩ hc e
    cases e
    have x1 := (acr_mem h1).mp ha
    have x2 := (aln_mem hW).mp hc
    have y := hV.in' _ x1.2
    simp only at y
    omega
theorem web_ext {V W : Wb} (hV : WOk V.1 V.2) (hW : WOk W.1 W.2) (h1 : V.1 = W.1) (h : ∀ a b : Int, (a, b) ∈ V.2 ↔ (a, b) ∈ W.2) : V = W := by
  refine Prod.ext h1 (lex_uniq hV.lex hW.lex ?_)
  exact (List.perm_ext_iff_of_nodup hV.nodup hW.nodup).mpr fun p => h p.1 p.2
theorem dd (x : Int) {v w : Int} (hv : 0 < v) (hw : 0 < w) : x / w / v = x / (v * w) ∧ x / w % v = x % (v * w) / w ∧ x % w = x % (v * w) % w := by
  have e1 : x / w / v = x / (v * w) := by rw [Int.mul_comm, Int.ediv_ediv_of_nonneg (by omega)]
  have d1 := dm_back x hw
  have d2 := dm_back (x / w) hv
  have hvw : 0 < v * w := Int.mul_pos hv hw
  have d3 := dm_back x hvw
  have e2 : x % (v * w) = x / w % v * w + x % w := by
    have : x = x / (v * w) * (v * w) + (x / w % v * w + x % w) := by
      rw [← e1]
      calc x = x / w * w + x % w := d1.1
        _ = (x / w / v * v + x / w % v) * w + x % w := by rw [← d2.1]
        _ = x / w / v * (v * w) + (x / w % v * w + x % w) := by rw [Int.add_mul, Int.mul_assoc, Int.add_assoc]
    omega
  have d4 := dm (t := x / w % v) d1.2.1 d1.2.2
  rw [e2, d4.1, d4.2]
  exact ⟨e1, rfl, rfl⟩
theorem mul2_assoc {U V W : Wb} (hU : WOk U.1 U.2) (hV : WOk V.1 V.2) (hW : WOk W.1 W.2) (v1 : 1 ≤ V.1) (w1 : 1 ≤ W.1) : mul2 (mul2 U V) W = mul2 U (mul2 V W) := by
  have o1 := mul2_ok hU hV v1
  have o2 := mul2_ok hV hW w1
  have z : 1 ≤ (mul2 V W).1 := by
    show 1 ≤ V.1 * W.1
    exact Nat.mul_pos v1 w1
  refine web_ext (mul2_ok o1 hW w1) (mul2_ok hU o2 z) (Nat.mul_assoc _ _ _) fun a b => ?_
  rw [mul2_mem hW w1, mul2_mem hV v1, mul2_mem o2 z, mul2_mem hW w1]
  have e : ((mul2 V W).1 : Int) = (V.1 : Int) * (W.1 : Int) := Int.natCast_mul _ _
  have e2 : ((mul2 U V).1 : Int) = (U.1 : Int) * (V.1 : Int) := Int.natCast_mul _ _
  have da := dd a (v := (V.1 : Int)) (w := (W.1 : Int)) (by omega) (by omega)
  have db := dd b (v := (V.1 : Int)) (w := (W.1 : Int)) (by omega) (by omega)
  rw [e, e2, ← da.1, ← da.2.1, ← da.2.2, ← db.1, ← db.2.1, ← db.2.2]
  have xa := dm_back (a / (W.1 : Int)) (w := (V.1 : Int)) (by omega)
  have xb := dm_back (b / (W.1 : Int)) (w := (V.1 : Int)) (by omega)
  have ya := dm_back a (w := (W.1 : Int)) (by omega)
  have yb := dm_back b (w := (W.1 : Int)) (by omega)
  have q1 : a % ((V.1 : Int) * (W.1 : Int)) = b % ((V.1 : Int) * (W.1 : Int)) ↔ a / (W.1 : Int) % (V.1 : Int) = b / (W.1 : Int) % (V.1 : Int) ∧ a % (W.1 : Int) = b % (W.1 : Int) := by
    constructor
    · intro h
      rw [da.2.1, da.2.2, db.2.1, db.2.2, h]
      exact ⟨rfl, rfl⟩
    · rintro ⟨h1, h2⟩
      have pa := dm_back (a % ((V.1 : Int) * (W.1 : Int))) (w := (W.1 : Int)) (by omega)
      have pb := dm_back (b % ((V.1 : Int) * (W.1 : Int))) (w := (W.1 : Int)) (by omega)
      rw [pa.1, pb.1, ← da.2.1, ← da.2.2, ← db.2.1, ← db.2.2, h1, h2]
  rw [q1]
  have q2 : 0 ≤ a / (W.1 : Int) ∧ a / (W.1 : Int) < (U.1 : Int) * (V.1 : Int) ↔ 0 ≤ a / (W.1 : Int) / (V.1 : Int) ∧ a / (W.1 : Int) / (V.1 : Int) < (U.1 : Int) := by
    constructor
    · rintro ⟨h1, h2⟩
      exact ⟨Int.ediv_nonneg h1 (by omega), Int.ediv_lt_of_lt_mul (by omega) h2⟩
    · rintro ⟨h1, h2⟩
      have m1 : 0 ≤ a / (W.1 : Int) / (V.1 : Int) * (V.1 : Int) := Int.mul_nonneg h1 (by omega)
      have m2 : (a / (W.1 : Int) / (V.1 : Int) + 1) * (V.1 : Int) ≤ (U.1 : Int) * (V.1 : Int) := Int.mul_le_mul_of_nonneg_right (by omega) (by omega)
      rw [Int.add_mul, Int.one_mul] at m2
      omega
  have q3 : a / (W.1 : Int) = b / (W.1 : Int) ↔ a / (W.1 : Int) / (V.1 : Int) = b / (W.1 : Int) / (V.1 : Int) ∧ a / (W.1 : Int) % (V.1 : Int) = b / (W.1 : Int) % (V.1 : Int) := by
    constructor
    · intro h; rw [h]; exact ⟨rfl, rfl⟩
    · rintro ⟨h1, h2⟩; rw [xa.1, xb.1, h1, h2]
  have q2' := q2
  rw [← and_assoc (a := 0 ≤ a / (W.1 : Int)), q2, q3]
  generalize a / (W.1 : Int) / (V.1 : Int) = a2 at *
  generalize b / (W.1 : Int) / (V.1 : Int) = b2 at *
  generalize a / (W.1 : Int) % (V.1 : Int) = a1 at *
  generalize b / (W.1 : Int) % (V.1 : Int) = b1 at *
  generalize a % (W.1 : Int) = a0 at *
  generalize b % (W.1 : Int) = b0 at *
  constructor
  · rintro (⟨h1, ⟨h2, h3⟩ | ⟨h2, h3, h4, h5⟩⟩ | ⟨⟨h1, h2⟩, ⟨h3, h4⟩, h5⟩)
    · exact .inl ⟨⟨h2, h1⟩, h3⟩
    · exact .inr ⟨h2, h3, h4, .inl ⟨h1, h5⟩⟩
    · exact .inr ⟨h1, h3, h4, .inr ⟨h2, by omega, by omega, h5⟩⟩
  · rintro (⟨⟨h1, h2⟩, h3⟩ | ⟨h1, h2, h3, ⟨h4, h5⟩ | ⟨h4, h5, h6, h7⟩⟩)
    · exact .inl ⟨h2, .inl ⟨h1, h3⟩⟩
    · exact .inl ⟨h4, .inr ⟨h1, h2, h3, h5⟩⟩
    · exact .inr ⟨⟨h1, h4⟩, ⟨h2, h3⟩, h7⟩
theorem srtL_id {n : Nat} {ts : List (Int × Int)} (w : WOk n ts) : srtL ts = ts := lex_uniq (srtL_lex _) w.lex (srtL_perm ts)
theorem unit_ok : WOk 1 [] := ⟨by simp, by simp [Lex], List.nodup_nil⟩
theorem mul2_one {W : Wb} (hW : WOk W.1 W.2) : mul2 (1, []) W = W := by
  unfold mul2
  refine Prod.ext (Nat.one_mul _) ?_
  have e : acrL ((1, []) : Wb).2 W.1 ++ alnL ((1, []) : Wb).1 W.2 W.1 = W.2 := by
    simp [acrL, alnL]
  simp only [e]
  exact srtL_id hW
theorem one_mul2 {V : Wb} (hV : WOk V.1 V.2) : mul2 V (1, []) = V := by
  unfold mul2
  refine Prod.ext (Nat.mul_one _) ?_
  have e : acrL V.2 ((1, []) : Wb).1 ++ alnL V.1 ((1, []) : Wb).2 ((1, []) : Wb).1 = V.2 := by
    have e1 : acrL V.2 1 = V.2 := by
      unfold acrL
      generalize V.2 = xs
      induction xs with
      | nil => rfl
      | cons x xs ih => rw [List.flatMap_cons, ih]; simp [List.range_succ]
    show acrL V.2 1 ++ alnL V.1 [] 1 = V.2
    rw [e1]
    simp [alnL]
  simp only [e]
  exact srtL_id hV
/-- proper, of any size -/
structure Wk (w : Wb) : Prop where
  ok : WOk w.1 w.2
  lo : 1 ≤ w.1
theorem WbOk.wk {w : Wb} (h : WbOk w) : Wk w := ⟨h.ok, h.lo⟩
theorem mul2_wk {V W : Wb} (hV : Wk V) (hW : Wk W) : Wk (mul2 V W) := ⟨mul2_ok hV.ok hW.ok hW.lo, Nat.mul_pos hV.lo hW.lo⟩
theorem foldW_wk : ∀ {ws : List Wb} {X : Wb}, Wk X → (∀ w ∈ ws, Wk w) → Wk (ws.foldl mul2 X)
  | [], _, hX, _ => hX
  | w :: ws, X, hX, h => by
    rw [List.foldl_cons]
    exact foldW_wk (mul2_wk hX (h w List.mem_cons_self)) fun v hv => h v (List.mem_cons_of_mem _ hv)
theorem prodW_wk {ws : List Wb} (h : ∀ w ∈ ws, Wk w) : Wk (prodW ws) := foldW_wk ⟨unit_ok, Nat.le_refl _⟩ h
theorem foldW : ∀ {ws : List Wb} {X : Wb}, Wk X → (∀ w ∈ ws, Wk w) → ws.foldl mul2 X = mul2 X (prodW ws)
  | [], X, hX, _ => (one_mul2 hX.ok).symm
  | w :: ws, X, hX, h => by
    have hw := h w List.mem_cons_self
    have h' : ∀ v ∈ ws, Wk v := fun v hv => h v (List.mem_cons_of_mem _ hv)
    have p := prodW_wk h'
    have e : prodW (w :: ws) = mul2 w (prodW ws) := by
      show ws.foldl mul2 (mul2 (1, []) w) = _
      rw [mul2_one hw.ok]
      exact foldW hw h'
    rw [List.foldl_cons, foldW (mul2_wk hX hw) h', e]
    exact mul2_assoc hX.ok hw.ok p.ok hw.lo p.lo
theorem prodW_app {as bs : List Wb} (ha : ∀ w ∈ as, Wk w) (hb : ∀ w ∈ bs, Wk w) : prodW (as ++ bs) = mul2 (prodW as) (prodW bs) := by
  show (as ++ bs).foldl mul2 (1, []) = _
  rw [List.foldl_append]
  exact foldW (prodW_wk ha) hb
theorem prodW_snoc (as : List Wb) (w : Wb) : prodW (as ++ [w]) = mul2 (prodW as) w := by
  unfold prodW
  rw [List.foldl_append]
  rfl
theorem prodW_flat : ∀ {gs : List (List Wb)}, (∀ g ∈ gs, ∀ w ∈ g, Wk w) → prodW (gs.map prodW) = prodW gs.flatten := by
  have gen : ∀ (gs : List (List Wb)) (X : Wb), Wk X → (∀ g ∈ gs, ∀ w ∈ g, Wk w) → (gs.map prodW).foldl mul2 X = gs.flatten.foldl mul2 X := by
    intro gs
    induction gs with
    | nil => intro X _ _; rfl
    | cons g gs ih =>
      intro X hX h
      have hg := h g List.mem_cons_self
      rw [List.map_cons, List.foldl_cons, List.flatten_cons, List.foldl_append, foldW hX hg]
      exact ih _ (mul2_wk hX (prodW_wk hg)) fun g' hg' => h g' (List.mem_cons_of_mem _ hg')
  intro gs h
  exact gen gs _ ⟨unit_ok, Nat.le_refl _⟩ h
/-! how many places and ties -/
theorem mul2_len (V W : Wb) : (mul2 V W).2.length = V.2.length * W.1 + V.1 * W.2.length := by
  show (srtL _).length = _
  rw [srtL_len, List.length_append]
  congr 1
  · unfold acrL
    generalize V.2 = xs
    induction xs with
    | nil => simp
    | cons x xs ih => rw [List.flatMap_cons, List.length_append, ih]; simp [Nat.succ_mul, Nat.add_comm]
  · unfold alnL
    rw [List.length_flatMap]
    generalize V.1 = n
    induction n with
    | zero => simp
    | succ n ih => rw [List.range_succ, List.map_append, List.sum_append, ih]; simp [Nat.succ_mul]
theorem prodW_cnt (ws : List Wb) : (((prodW ws).1 : Nat) : Int) = rowsN ws ∧ (((prodW ws).2.length : Nat) : Int) = tiesN ws := by
  have gen : ∀ (ws : List Wb) (X : Wb) (s : Int × Int), ((X.1 : Nat) : Int) = s.1 → ((X.2.length : Nat) : Int) = s.2 → ((ws.foldl mul2 X).1 : Int) = (ws.foldl cntF s).1 ∧ ((ws.foldl mul2 X).2.length : Int) = (ws.foldl cntF s).2 := by
    intro ws
    induction ws with
    | nil => intro X s h1 h2; exact ⟨h1, h2⟩
    | cons w ws ih =>
      intro X s h1 h2
      refine ih (mul2 X w) (cntF s w) ?_ ?_
      · show ((X.1 * w.1 : Nat) : Int) = s.1 * (w.1 : Int)
        rw [Int.natCast_mul, h1]
      · rw [mul2_len]
        show _ = s.2 * (w.1 : Int) + s.1 * (w.2.length : Nat)
        rw [Int.natCast_add, Int.natCast_mul, Int.natCast_mul, h1, h2]
  have g := gen ws (1, []) (1, 0) rfl rfl
  have r : ∀ (ws : List Wb) (s : Int × Int), (ws.foldl cntF s).1 = ws.foldl (fun m (w : Wb) => m * (w.1 : Int)) s.1 := by
    intro ws
    induction ws with
    | nil => intro s; rfl
    | cons w ws ih => intro s; exact ih (cntF s w)
  exact ⟨g.1.trans (r ws (1, 0)), g.2⟩
theorem rowsN_app (as bs : List Wb) : rowsN (as ++ bs) = rowsN as * rowsN bs := by
  induction as with
  | nil => simp [rowsN]
  | cons a as ih => rw [List.cons_append, rowsN_cons, rowsN_cons, ih, Int.mul_assoc]
theorem rowsN_wk : ∀ {ws : List Wb}, (∀ w ∈ ws, Wk w) → 1 ≤ rowsN ws
  | [], _ => by simp [rowsN]
  | w :: ws, h => by
    have a := (h w List.mem_cons_self).lo
    have b := rowsN_wk fun v hv => h v (List.mem_cons_of_mem _ hv)
    rw [rowsN_cons]
    exact Int.le_trans (by omega : (1 : Int) ≤ 1 * 1) (Int.mul_le_mul (by omega) b (by omega) (by omega))
theorem tiesN_app {as bs : List Wb} (ha : ∀ w ∈ as, Wk w) (hb : ∀ w ∈ bs, Wk w) : tiesN (as ++ bs) = tiesN as * rowsN bs + rowsN as * tiesN bs := by
  rw [← (prodW_cnt (as ++ bs)).2, prodW_app ha hb, mul2_len, Int.natCast_add, Int.natCast_mul, Int.natCast_mul, (prodW_cnt as).1, (prodW_cnt as).2, (prodW_cnt bs).1, (prodW_cnt bs).2]
theorem tiesN_nn (ws : List Wb) : 0 ≤ tiesN ws := by rw [← (prodW_cnt ws).2]; exact Int.natCast_nonneg _
theorem part_le {as bs cs : List Wb} (ha : ∀ w ∈ as, Wk w) (hb : ∀ w ∈ bs, Wk w) (hc : ∀ w ∈ cs, Wk w) : rowsN bs ≤ rowsN (as ++ bs ++ cs) ∧ tiesN bs ≤ tiesN (as ++ bs ++ cs) := by
  have hab : ∀ w ∈ as ++ bs, Wk w := fun w hw => (List.mem_append.mp hw).elim (ha w) (hb w)
  have r1 := rowsN_wk ha
  have r2 := rowsN_wk hb
  have r3 := rowsN_wk hc
  have t1 := tiesN_nn as
  have t2 := tiesN_nn bs
  have t3 := tiesN_nn cs
  rw [rowsN_app, rowsN_app, tiesN_app hab hc, tiesN_app ha hb, rowsN_app]
  generalize rowsN as = ra at *
  generalize rowsN bs = rb at *
  generalize rowsN cs = rc at *
  generalize tiesN as = ta at *
  generalize tiesN bs = tb at *
  generalize tiesN cs = tc at *
  have m1 : 1 * rb ≤ ra * rb := Int.mul_le_mul_of_nonneg_right r1 (by omega)
  have m2 : ra * rb * 1 ≤ ra * rb * rc := Int.mul_le_mul_of_nonneg_left r3 (Int.mul_nonneg (by omega) (by omega))
  have m3 : 1 * tb ≤ ra * tb := Int.mul_le_mul_of_nonneg_right r1 t2
  have m4 : 0 ≤ ta * rb := Int.mul_nonneg t1 (by omega)
  have m5 : (ta * rb + ra * tb) * 1 ≤ (ta * rb + ra * tb) * rc := Int.mul_le_mul_of_nonneg_left r3 (by omega)
  have m6 : 0 ≤ ra * rb * tc := Int.mul_nonneg (Int.mul_nonneg (by omega) (by omega)) t3
  constructor <;> omega
theorem prodW_bok {ws : List Wb} (h : ∀ w ∈ ws, Wk w) (h1 : rowsN ws ≤ 40) (h2 : tiesN ws ≤ 120) : WbOk (prodW ws) := by
  have p := prodW_wk h
  have c := prodW_cnt ws
  exact ⟨p.ok, p.lo, by omega, by omega⟩
/-! the product is tied where the rows are -/
theorem at'_app {a : List Int} {p : Int} {n : Nat} (h : a.length = n) (i : Nat) : at' (a ++ [p]) (i : Nat) = if i = n then p else at' a (i : Nat) := by
  unfold at'
  rw [show ((i : Nat) : Int).toNat = i by omega, List.getD_eq_getElem?_getD, List.getD_eq_getElem?_getD]
  by_cases e : i = n
  · subst e
    rw [if_pos rfl, List.getElem?_append_right (by omega), h, Nat.sub_self]
    rfl
  · rw [if_neg e]
    by_cases l : i < a.length
    · rw [List.getElem?_append_left l]
    · rw [List.getElem?_append_right (by omega), List.getElem?_eq_none (by omega : a.length ≤ i), List.getElem?_eq_none (by simp; omega)]
theorem wbAt_app (ws : List Wb) (w : Wb) {i : Nat} (h : i ≤ ws.length) : wbAt (ws ++ [w]) i = if i = ws.length then w else wbAt ws i := by
  unfold wbAt
  rw [List.getD_eq_getElem?_getD, List.getD_eq_getElem?_getD]
  by_cases e : i = ws.length
  · subst e
    rw [if_pos rfl, List.getElem?_append_right (by omega), Nat.sub_self]
    rfl
  · rw [if_neg e, List.getElem?_append_left (by omega)]
theorem RowOk.back : ∀ {ws : List Wb} {w : Wb} {r : List Int}, RowOk (ws ++ [w]) r → ∃ a p, r = a ++ [p] ∧ RowOk ws a ∧ 0 ≤ p ∧ p < (w.1 : Int) := by
  intro ws w r h
  have hl := h.len
  obtain ⟨r', p, rfl⟩ : ∃ a b, r = a ++ [b] := ⟨r.dropLast, r.getLast (by intro z; subst z; simp at hl), (List.dropLast_concat_getLast _).symm⟩
  have hl' : r'.length = ws.length := by simpa using hl
  exact ⟨r', p, rfl, h.snoc hl'⟩
theorem prodW_adj {ws : List Wb} (h : ∀ w ∈ ws, Wk w) : ∀ {a b : List Int}, RowOk ws a → RowOk ws b → (numA ws b ∈ nbsO (prodW ws).2 (numA ws a) ↔ b ∈ besL ws a) := by
  have gen : ∀ (n : Nat) (ws : List Wb), ws.length = n → (∀ w ∈ ws, Wk w) → ∀ {a b : List Int}, RowOk ws a → RowOk ws b → (numA ws b ∈ nbsO (prodW ws).2 (numA ws a) ↔ b ∈ besL ws a) := by
    intro n
    induction n with
    | zero =>
      intro ws hn h a b ka kb
      have e := List.eq_nil_of_length_eq_zero hn
      subst e
      simp [prodW, nbsO, besL]
    | succ n ih =>
      intro ws hn h a b ka kb
      obtain ⟨ws', w, rfl⟩ : ∃ a b, ws = a ++ [b] := ⟨ws.dropLast, ws.getLast (by intro z; subst z; simp at hn), (List.dropLast_concat_getLast _).symm⟩
      have hn' : ws'.length = n := by simpa using hn
      have h' : ∀ v ∈ ws', Wk v := fun v hv => h v (List.mem_append_left _ hv)
      have hw := h w (List.mem_append_right _ List.mem_cons_self)
      obtain ⟨a, p, rfl, ka, p0, p1⟩ := ka.back
      obtain ⟨b, q, rfl, kb, q0, q1⟩ := kb.back
      have la := ka.len
      have lb := kb.len
      have ih := ih ws' hn' h' ka kb
      have hlo : ∀ v ∈ ws', 1 ≤ v.1 := fun v hv => (h' v hv).lo
      have ba := numA_bd' hlo ka
      rw [← (prodW_cnt ws').1] at ba
      rw [prodW_snoc, nbsO_mem, mul2_mem hw.ok hw.lo, mul2_mem hw.ok hw.lo, numA_snoc w p la, numA_snoc w q lb, (dm p0 p1).1, (dm p0 p1).2, (dm q0 q1).1, (dm q0 q1).2, besL_mem]
      have bb := numA_bd' hlo kb
      rw [← (prodW_cnt ws').1] at bb
      have inj : numA ws' a = numA ws' b ↔ a = b := ⟨row_inj' hlo ka kb, fun e => by rw [e]⟩
      have L1 : ∀ r : List Int, r.length = ws'.length → ∀ (x y : Int) (i : Nat), (r ++ [x]).set i y = if i = ws'.length then r ++ [y] else r.set i y ++ [x] := by
        intro r hr x y i
        by_cases e : i = ws'.length
        · rw [if_pos e, List.set_append_right _ _ (by omega), e, hr, Nat.sub_self]; rfl
        · rw [if_neg e]
          by_cases l : i < r.length
          · rw [List.set_append_left _ _ l]
          · rw [List.set_append_right _ _ (by omega)]
            have : i - r.length ≠ 0 := by omega
            obtain ⟨m, hm⟩ : ∃ m, i - r.length = m + 1 := ⟨i - r.length - 1, by omega⟩
            rw [hm, List.set_eq_of_length_le (by omega : r.length ≤ i)]
            rfl
      constructor
      · intro hh
        have key : (p = q ∧ numA ws' b ∈ nbsO (prodW ws').2 (numA ws' a)) ∨ (a = b ∧ q ∈ nbsO w.2 p) := by
          rcases hh with (⟨h1, h2⟩ | ⟨h1, _, _, h2⟩) | (⟨h1, h2⟩ | ⟨h1, _, _, h2⟩)
          · exact .inl ⟨h1, nbsO_mem.mpr (.inl h2)⟩
          · exact .inr ⟨inj.mp h1, nbsO_mem.mpr (.inl h2)⟩
          · exact .inl ⟨h1.symm, nbsO_mem.mpr (.inr h2)⟩
          · exact .inr ⟨inj.mp h1.symm, nbsO_mem.mpr (.inr h2)⟩
        rcases key with ⟨rfl, hk⟩ | ⟨rfl, hk⟩
        · obtain ⟨i, hi, q', hq', rfl⟩ := besL_mem.mp (ih.mp hk)
          refine ⟨i, by simp; omega, q', ?_, ?_⟩
          · rw [wbAt_app ws' w (by omega), if_neg (by omega), at'_app la, if_neg (by omega)]; exact hq'
          · rw [L1 a la, if_neg (by omega)]
        · refine ⟨ws'.length, by simp, q, ?_, ?_⟩
          · rw [wbAt_app ws' w (by omega), if_pos rfl, at'_app la, if_pos rfl]; exact hk
          · rw [L1 a la, if_pos rfl]
      · rintro ⟨i, hi, q', hq', e⟩
        have hi : i ≤ ws'.length := by simp at hi; omega
        rw [wbAt_app ws' w hi, at'_app la] at hq'
        rw [L1 a la] at e
        by_cases c : i = ws'.length
        · rw [if_pos c, if_pos c] at hq'
          rw [if_pos c] at e
          have e' := List.append_inj' e rfl
          obtain ⟨rfl, e2⟩ := e'
          have e2 : q = q' := by simpa using e2
          subst e2
          rcases nbsO_mem.mp hq' with z | z
          · exact .inl (.inr ⟨rfl, ba.1, ba.2, z⟩)
          · exact .inr (.inr ⟨rfl, ba.1, ba.2, z⟩)
        · rw [if_neg c, if_neg c] at hq'
          rw [if_neg c] at e
          have e' := List.append_inj' e rfl
          obtain ⟨e1, e2⟩ := e'
          have e2 : q = p := by simpa using e2
          subst e2
          have := ih.mpr (besL_mem.mpr ⟨i, by omega, q', hq', e1⟩)
          rcases nbsO_mem.mp this with z | z
          · exact .inl (.inl ⟨rfl, z⟩)
          · exact .inr (.inl ⟨rfl, z⟩)
  intro a b
  exact gen ws.length ws rfl h
end SH

namespace SH
open PySem L2 PL MR
local macro_rules | `(tactic| walk_at "ev") => `(tactic| simp (config := {decide := true}) only [ini, fin, finI, sSeq, sNext, sAsg, sAsgG, sRet, sRetN, sDrop, sIf, sNever, sSetP, sAppP, sClrP, sRevP, fR, pmVar, pmIx, pmIxT, MR.putAt, OT.put, OT.at, gmName, gmTup, gmLst, gsNil, gsCons, rVar, rC, rOp, rUn, rCb, rCbZ, rOpZ, rCall, rAnd, rOr, rNot, rIf, rIs, rCh, rCh3, rTup, rLst, rSl, cNone, cSome, rRepr, dRepr, rInDct, rIdx, small, qNil, qCons, qApp, lApp, bR, bAnd, bOr, bNot, tR, tD, tmAnd, tmOr, tmNot, yVar_eq, yMov, yR, yAuto, dY, yD, dR, dOp, dOpR, dCb, dAnd, dOr, dNot, yCall, yCallA, yCallI, yCallIT, yCb, yCbA, yOp, yOpA, lfO, yTup, yLst, oNil, oCons, isNo, lNil, lCons, asB, asInt, asL, asT, iL, iT, iE, iZ, iV, yRng1_eq, iR1_eq, iR2_eq, lcStep, calmAt, wipeE, rst, sApp, yPop_eq, sDPutM, ySortD, yDNew, gmName, toD_d, toD_tup, toD_lst, toDs_nil, toDs_cons, toDs_ints, toDs_fpr, toDs_prs, lfs_ints, lfs_fpr, intsO_len, prsO_len, fprO_len, rng_len, intsO_snoc, prsO_snoc, lstO_rg, rOpZ, rCbZ, isNo_lstO, toD_dnew, ySl, ySlA, neS_self, eqS_self,  rRevL, yRevL, yRevLA, yPop0, sExt, gStrI,  lstO_prs, lstO_ints, toD_lstO, kp_int, kp_bool, kp_tuple, kp_list, kp_str, isIntB, isBoolB, isTupB, isListB, isStrB, gAdd_i, gSub_i, gLt_i, gLe_i, gGt_i, gGe_i, gMul_r, gMul_l, gMod_i, gDiv_i, gPow_i, gNeg, gEqI, gNeI, gEqS, gNeS, gIsN, gNotN, gIsB, gNotB, gIxL, gIxT, gLen, gMax2, gMin2, gInt, gAll, asBools_map, isN, OT.lf, OT.lfs, flat, atI_0, atI_1, ixN_0, ixN_1, rgD_len, enumD_len, trues_len, Int.toNat_natCast, List.length_map, eq_self, Option.bind_some, Option.bind_none, Option.map_some, Option.map_none, List.getElem?_cons_zero, List.getElem?_cons_succ, List.set_cons_zero, List.set_cons_succ, List.map_cons, List.map_nil, List.replicate, List.nil_append, List.cons_append, List.length_cons, List.length_nil, List.all_cons, List.all_nil, if_true, if_false, reduceIte, tfl_int, tfl_bool, tfl_none, tfl_str, tfl_list, Bool.true_and, Bool.and_true, Bool.false_and, Bool.and_false, Bool.true_or, Bool.or_true, Bool.false_or, Bool.or_false, Bool.not_true, Bool.not_false, Bool.false_eq_true, decide_true, decide_false, true_and, and_true, false_and, and_false, or_true, true_or, *])

theorem prodW_tied {ws : List Wb} (h : ∀ w ∈ ws, WbOk w) {a b : List Int} (ka : RowOk ws a) (kb : RowOk ws b) : tieOf (numA ws a) (numA ws b) ∈ (prodW ws).2 ↔ tiedB ws a b = true := by
  have hk : ∀ w ∈ ws, Wk w := fun w hw => (h w hw).wk
  rw [tieOf_mem (prodW_wk hk).ok, prodW_adj hk ka kb, tied_iff h ka.len kb.len]
theorem acrL_len (V : List (Int × Int)) (w : Nat) : (acrL V w).length = V.length * w := by
  unfold acrL
  induction V with
  | nil => simp
  | cons x xs ih => rw [List.flatMap_cons, List.length_append, ih]; simp [Nat.succ_mul, Nat.add_comm]
theorem alnL_len (v : Nat) (W : List (Int × Int)) (w : Nat) : (alnL v W w).length = v * W.length := by
  unfold alnL
  rw [List.length_flatMap]
  induction v with
  | zero => simp
  | succ n ih => rw [List.range_succ, List.map_append, List.sum_append, ih]; simp [Nat.succ_mul]
theorem look_size_ok {ws : List Wb} (h : ∀ w ∈ ws, WbOk w) (h1 : rowsN ws ≤ 40) (h2 : tiesN ws ≤ 120) : m_look_at_size [.list (ws.map wbD)] = some (.d .none) := by
  have f1 := count_rows_ok h
  have f2 := count_ties_ok h
  have d1 : decide (40 < rowsN ws) = false := decide_eq_false (by omega)
  have d2 : decide (120 < tiesN ws) = false := decide_eq_false (by omega)
  unfold m_look_at_size B_look_at_size
  refine fin_eq ?_
  refine .of (by walk_at "ev" <;> exact rfl) ?_
  rfl
theorem flatMap_prs {α : Type} (f : α → List (Int × Int)) (xs : List α) : xs.flatMap (fun a => (f a).map fun p => OT.nd .tup [.d (.int p.1), .d (.int p.2)]) = prsO (xs.flatMap f) := by
  unfold prsO
  rw [List.map_flatMap]
theorem multiplied_ok {ws : List Wb} (h : ∀ w ∈ ws, WbOk w) (h1 : rowsN ws ≤ 40) (h2 : tiesN ws ≤ 120) : m_multiplied [.list (ws.map wbD)] = some (wbO (prodW ws)) := by
  have f0 := look_size_ok h h1 h2
  unfold m_multiplied B_multiplied
  refine fin_eq ?_
  refine w_st (by walk_at "ev" <;> exact rfl) ?_
  refine w_st (by walk_at "ev" <;> exact rfl) ?_
  refine w_st (by walk_at "ev" <;> exact rfl) ?_
  refine w_seq (w_forT (fun i ρ => ∃ A B C D, ρ = [.d (.list (ws.map wbD)), .d (.int ((prodW (ws.take i)).1 : Nat)), .nd .lst (fprO (prodW (ws.take i)).2), A, B, C, .no, .no, .no, D]) (as := ws) (enc := wbD) (by walk_at "ev" <;> exact rfl) ⟨_, _, _, _, rfl⟩ (fun i w ρ2 hw hs => ?_) ?_)
  · obtain ⟨A, B, C, D, rfl⟩ := hs
    have hi : i < ws.length := (List.getElem?_eq_some_iff.mp hw).1
    have k := h w (List.mem_of_getElem? hw)
    have kl := k.len
    have kh := k.hi
    have hT : ∀ v ∈ ws.take i, Wk v := fun v hv => (h v (List.mem_of_mem_take hv)).wk
    have hD : ∀ v ∈ ws.drop i, Wk v := fun v hv => (h v (List.mem_of_mem_drop hv)).wk
    have bd := part_le (as := []) (bs := ws.take i) (cs := ws.drop i) (by simp) hT hD
    rw [List.nil_append, List.take_append_drop] at bd
    have pb := prodW_bok hT (by omega) (by omega)
    have en : prodW (ws.take (i + 1)) = mul2 (prodW (ws.take i)) w := by
      rw [List.take_add_one, hw]
      exact prodW_snoc _ _
    rw [en]
    generalize prodW (ws.take i) = V at *
    obtain ⟨v, vs⟩ := V
    obtain ⟨n, ts⟩ := w
    have pv := pb.hi
    have pl := pb.len
    simp only at pv pl kl kh
    have c1 := rg1_n (n := n) (by omega)
    have c1' := rgD0 n
    have c2 := rg1_n (n := v) (by omega)
    have c2' := rgD0 v
    generalize rgD 0 n = N at c1 c1'
    generalize rgD 0 v = M at c2 c2'
    have b1 : -(2 ^ 64) < (n : Int) ∧ (n : Int) < 2 ^ 64 := by omega
    have b2 : -(2 ^ 64) < (v : Int) ∧ (v : Int) < 2 ^ 64 := by omega
    simp only [wbD, WD]
    clear f0 hw en bd hT hD
    have na := acrL_len vs n
    have nb := alnL_len v ts n
    have na' : vs.length * n ≤ 120 * 40 := Nat.mul_le_mul (by omega) (by omega)
    have nb' : v * ts.length ≤ 40 * 120 := Nat.mul_le_mul (by omega) (by omega)
    apply exw
    · walk_at "ev" <;> exact rfl
    refine w_seq (w_asg (w_lc2T (α := Int × Int) (β := Nat) (fun _ => List.range n) (fun t k => OT.nd .tup [.d (.int (t.1 * (n : Int) + (k : Int))), .d (.int (t.2 * (n : Int) + (k : Int)))]) (as := vs) (enc := pairD) (enc2 := fun _ k => PyData.int ((k : Nat) : Int)) (by walk_at "ev" <;> exact rfl) rfl (fun t ht => ?_) ?_ ?_))
    · refine ⟨_, _, _, by unfold pairD; walk_at "ev" <;> exact rfl, rfl, by rw [← c1']; walk_at "ev" <;> exact rfl, by simp; omega, rfl, fun k hk => ?_⟩
      refine W.of (by walk_at "ev" <;> exact rfl) ?_
      exact ⟨rfl, rfl⟩
    · have e := flatMap_prs (fun t : Int × Int => (List.range n).map fun (k : Nat) => (t.1 * (n : Int) + (k : Int), t.2 * (n : Int) + (k : Int))) vs
      simp only [List.map_map, Function.comp_def] at e
      rw [e, prsO_len]
      show (acrL vs n).length ≤ _
      omega
    have ea := flatMap_prs (fun t : Int × Int => (List.range n).map fun (k : Nat) => (t.1 * (n : Int) + (k : Int), t.2 * (n : Int) + (k : Int))) vs
    simp only [List.map_map, Function.comp_def] at ea
    rw [ea, show vs.flatMap (fun t : Int × Int => (List.range n).map fun (k : Nat) => (t.1 * (n : Int) + (k : Int), t.2 * (n : Int) + (k : Int))) = acrL vs n from rfl]
    clear ea
    simp only [sqK, wipeE, rst, List.getElem?_cons_zero, List.getElem?_cons_succ, List.set_cons_zero, List.set_cons_succ]
    refine w_seq (w_asg (w_lc2T (α := Nat) (β := Int × Int) (fun _ => ts) (fun k t => OT.nd .tup [.d (.int ((k : Int) * (n : Int) + t.1)), .d (.int ((k : Int) * (n : Int) + t.2))]) (as := List.range v) (enc := fun k => PyData.int ((k : Nat) : Int)) (enc2 := fun _ => pairD) (by rw [← c2']; walk_at "ev" <;> exact rfl) rfl (fun k hk => ?_) ?_ ?_))
    · refine ⟨_, _, _, by walk_at "ev" <;> exact rfl, rfl, by walk_at "ev" <;> exact rfl, by omega, rfl, fun t ht => ?_⟩
      have b3 : -(2 ^ 64) < (k : Int) ∧ (k : Int) < 2 ^ 64 := by have := List.mem_range.mp hk; omega
      unfold pairD
      refine W.of (by walk_at "ev" <;> exact rfl) ?_
      exact ⟨rfl, rfl⟩
    · have e := flatMap_prs (fun k : Nat => ts.map fun t : Int × Int => ((k : Int) * (n : Int) + t.1, (k : Int) * (n : Int) + t.2)) (List.range v)
      simp only [List.map_map, Function.comp_def] at e
      rw [e, prsO_len]
      show (alnL v ts n).length ≤ _
      omega
    have ea := flatMap_prs (fun k : Nat => ts.map fun t : Int × Int => ((k : Int) * (n : Int) + t.1, (k : Int) * (n : Int) + t.2)) (List.range v)
    simp only [List.map_map, Function.comp_def] at ea
    rw [ea, show (List.range v).flatMap (fun k : Nat => ts.map fun t : Int × Int => ((k : Int) * (n : Int) + t.1, (k : Int) * (n : Int) + t.2)) = alnL v ts n from rfl]
    clear ea
    simp only [sqK, wipeE, rst, List.getElem?_cons_zero, List.getElem?_cons_succ, List.set_cons_zero, List.set_cons_succ]
    have em : mul2 (v, vs) (n, ts) = (v * n, srtL (acrL vs n ++ alnL v ts n)) := rfl
    rw [em]
    have s1 := sortA_prs (acrL vs n ++ alnL v ts n)
    have s2 : GCat (.list ((acrL vs n).map pairD)) (.list ((alnL v ts n).map pairD)) = some (lstO ((acrL vs n ++ alnL v ts n).map pairD)) := by
      rw [GCat_ok (by simp; omega), List.map_append]
    have s3 : OT.lfs (fprO (srtL (acrL vs n ++ alnL v ts n))) = true := lfs_fpr _
    have s4 : ((v * n : Nat) : Int) = (v : Int) * (n : Int) := Int.natCast_mul _ _
    rw [s4]
    generalize acrL vs n = AC at *
    generalize alnL v ts n = AL at *
    generalize AC ++ AL = AB at *
    clear na nb na' nb' c1 c1' c2 c2'
    refine w_st (by walk_at "ev" <;> exact rfl) ?_
    apply w_nx
    · walk_at "ev" <;> exact rfl
    exact ⟨_, _, _, _, rfl⟩
  · rintro ρ2 ⟨A, B, C, D, rfl⟩
    rw [List.take_length]
    exact w_end (by walk_at "ev" <;> exact rfl) rfl rfl
end SH

namespace SH
open PySem L2 PL MR
local macro_rules | `(tactic| walk_at "ev") => `(tactic| simp (config := {decide := true}) only [ini, fin, finI, sSeq, sNext, sAsg, sAsgG, sRet, sRetN, sDrop, sIf, sNever, sSetP, sAppP, sClrP, sRevP, fR, pmVar, pmIx, pmIxT, MR.putAt, OT.put, OT.at, gmName, gmTup, gmLst, gsNil, gsCons, rVar, rC, rOp, rUn, rCb, rCbZ, rOpZ, rCall, rAnd, rOr, rNot, rIf, rIs, rCh, rCh3, rTup, rLst, rSl, cNone, cSome, rRepr, dRepr, rInDct, rIdx, small, qNil, qCons, qApp, lApp, bR, bAnd, bOr, bNot, tR, tD, tmAnd, tmOr, tmNot, yVar_eq, yMov, yR, yAuto, dY, yD, dR, dOp, dOpR, dCb, dAnd, dOr, dNot, yCall, yCallA, yCallI, yCallIT, yCb, yCbA, yOp, yOpA, lfO, yTup, yLst, oNil, oCons, isNo, lNil, lCons, asB, asInt, asL, asT, iL, iT, iE, iZ, iV, yRng1_eq, iR1_eq, iR2_eq, lcStep, calmAt, wipeE, rst, sApp, yPop_eq, sDPutM, ySortD, yDNew, gmName, toD_d, toD_tup, toD_lst, toDs_nil, toDs_cons, toDs_ints, toDs_fpr, toDs_prs, lfs_ints, lfs_fpr, intsO_len, prsO_len, fprO_len, rng_len, intsO_snoc, prsO_snoc, lstO_rg, rOpZ, rCbZ, isNo_lstO, toD_dnew, ySl, ySlA, neS_self, eqS_self,  rRevL, yRevL, yRevLA, yPop0, sExt, gStrI,  lstO_prs, lstO_ints, toD_lstO, kp_int, kp_bool, kp_tuple, kp_list, kp_str, isIntB, isBoolB, isTupB, isListB, isStrB, gAdd_i, gSub_i, gLt_i, gLe_i, gGt_i, gGe_i, gMul_r, gMul_l, gMod_i, gDiv_i, gPow_i, gNeg, gEqI, gNeI, gEqS, gNeS, gIsN, gNotN, gIsB, gNotB, gIxL, gIxT, gLen, gMax2, gMin2, gInt, gAll, asBools_map, isN, OT.lf, OT.lfs, flat, atI_0, atI_1, ixN_0, ixN_1, rgD_len, enumD_len, trues_len, Int.toNat_natCast, List.length_map, eq_self, Option.bind_some, Option.bind_none, Option.map_some, Option.map_none, List.getElem?_cons_zero, List.getElem?_cons_succ, List.set_cons_zero, List.set_cons_succ, List.map_cons, List.map_nil, List.replicate, List.nil_append, List.cons_append, List.length_cons, List.length_nil, List.all_cons, List.all_nil, if_true, if_false, reduceIte, tfl_int, tfl_bool, tfl_none, tfl_str, tfl_list, Bool.true_and, Bool.and_true, Bool.false_and, Bool.and_false, Bool.true_or, Bool.or_true, Bool.false_or, Bool.or_false, Bool.not_true, Bool.not_false, Bool.false_eq_true, decide_true, decide_false, true_and, and_true, false_and, and_false, or_true, true_or, *])

theorem lf_wbO (w : Wb) : (wbO w).lf = true := by
  have := lfs_fpr w.2
  simp [wbO, OT.lf, OT.lfs, tfl_int, this]
theorem product_ok {ws : List Wb} (h : ∀ w ∈ ws, WbOk w) (hl : ws.length ≤ 12) (h1 : rowsN ws ≤ 40) (h2 : tiesN ws ≤ 120) : m_product [.list (ws.map wbD)] = some (wbO (prodW ws)) := by
  have f1 := look_webs_ok h hl
  have f2 := multiplied_ok h h1 h2
  have f3 := lf_wbO (prodW ws)
  generalize prodW ws = P at *
  unfold m_product B_product
  refine fin_eq ?_
  refine w_st (by walk_at "ev" <;> exact rfl) ?_
  exact w_end (by walk_at "ev" <;> exact rfl) rfl rfl
theorem power_ok {w : Wb} (h : WbOk w) {k : Nat} (hk : k ≤ 12) (h1 : rowsN (List.replicate k w) ≤ 40) (h2 : tiesN (List.replicate k w) ≤ 120) : m_power [wbD w, .int (k : Nat)] = some (wbO (prodW (List.replicate k w))) := by
  have f1 : m_look_at_web [wbD w] = some (.d .none) := look_ok h.ok h.lo h.hi h.len
  have f2 := multiplied_ok (ws := List.replicate k w) (fun v hv => by rw [(List.mem_replicate.mp hv).2]; exact h) h1 h2
  have c1 := rg1_n (n := k) (by omega)
  have c2 := rgD0 k
  generalize prodW (List.replicate k w) = P at *
  generalize rgD 0 k = X at c1 c2
  have er : (List.range k).map (fun _ => OT.d (wbD w)) = ((List.replicate k w).map wbD).map OT.d := by
    apply List.ext_getElem
    · simp
    · intro i a b; simp
  have nP : isNo (wbO P) = false := rfl
  generalize hd : wbD w = d at *
  unfold m_power B_power
  refine fin_eq ?_
  refine w_st (by walk_at "ev" <;> exact rfl) ?_
  refine w_ret (w_yCall (w_lCons (w_dY (w_lcmT (fun _ : Nat => OT.d d) (as := List.range k) (enc := fun k : Nat => PyData.int (k : Int)) (by rw [← c2]; walk_at "ev" <;> exact rfl) rfl (by simp; omega) (fun k hk => ?_) ?_))))
  · refine W.of (by walk_at "ev" <;> exact rfl) ?_
    exact ⟨rfl, rfl⟩
  · rw [er]
    refine ⟨.list ((List.replicate k w).map wbD), by rw [toD_lst, toDs_mapd]; rfl, w_lNil ⟨rfl, wbO P, f2, ?_⟩⟩
    exact rfl
/-! numbers of rows of parts -/
theorem numA_app {as bs : List Wb} {ra rb : List Int} (ha : ra.length = as.length) (hb : rb.length = bs.length) : numA (as ++ bs) (ra ++ rb) = numA as ra * rowsN bs + numA bs rb := by
  have acc : ∀ (ws : List Wb) (r : List Int) (a : Int), r.length = ws.length → (ws.zip r).foldl (fun n (p : Wb × Int) => n * (p.1.1 : Int) + p.2) a = a * rowsN ws + numA ws r := by
    intro ws
    induction ws with
    | nil => intro r a _; simp [rowsN, numA]
    | cons v ws ih =>
      intro r a hr
      cases r with
      | nil => simp at hr
      | cons q r =>
        have hr' : r.length = ws.length := by simpa using hr
        have e1 := ih r (a * (v.1 : Int) + q) hr'
        have e2 := ih r (0 * (v.1 : Int) + q) hr'
        rw [rowsN_cons]
        unfold numA
        rw [List.zip_cons_cons, List.foldl_cons, List.foldl_cons]
        simp only []
        rw [e1, e2]
        simp [Int.add_mul, Int.mul_assoc, Int.add_assoc]
  have := acc bs rb (numA as ra) hb
  unfold numA at *
  rw [List.zip_append ha.symm, List.foldl_append]
  exact this
theorem rowOf_snoc (ws : List Wb) (w : Wb) (n : Int) : rowOf (ws ++ [w]) n = rowOf ws (n / (w.1 : Int)) ++ [n % (w.1 : Int)] := by
  unfold rowOf
  simp [digs]
theorem rowOf_ok : ∀ {ws : List Wb} (n : Int), (∀ w ∈ ws, 1 ≤ w.1) → RowOk ws (rowOf ws n) := by
  have gen : ∀ (m : Nat) (ws : List Wb), ws.length = m → ∀ n : Int, (∀ w ∈ ws, 1 ≤ w.1) → RowOk ws (rowOf ws n) := by
    intro m
    induction m with
    | zero =>
      intro ws hm n h
      have e := List.eq_nil_of_length_eq_zero hm
      subst e
      exact trivial
    | succ m ih =>
      intro ws hm n h
      obtain ⟨ws', w, rfl⟩ : ∃ a b, ws = a ++ [b] := ⟨ws.dropLast, ws.getLast (by intro z; subst z; simp at hm), (List.dropLast_concat_getLast _).symm⟩
      have hm' : ws'.length = m := by simpa using hm
      have lo := h w (List.mem_append_right _ List.mem_cons_self)
      rw [rowOf_snoc]
      exact (ih ws' hm' _ fun v hv => h v (List.mem_append_left _ hv)).push (Int.emod_nonneg _ (by omega)) (Int.emod_lt_of_pos _ (by omega))
  intro ws n h
  exact gen _ ws rfl n h
theorem num_rowOf : ∀ {ws : List Wb} {n : Int}, (∀ w ∈ ws, 1 ≤ w.1) → 0 ≤ n → n < rowsN ws → numA ws (rowOf ws n) = n := by
  have gen : ∀ (m : Nat) (ws : List Wb), ws.length = m → ∀ n : Int, (∀ w ∈ ws, 1 ≤ w.1) → 0 ≤ n → n < rowsN ws → numA ws (rowOf ws n) = n := by
    intro m
    induction m with
    | zero =>
      intro ws hm n h h0 h1
      have e := List.eq_nil_of_length_eq_zero hm
      subst e
      simp [rowsN] at h1
      simp [numA]
      omega
    | succ m ih =>
      intro ws hm n h h0 h1
      obtain ⟨ws', w, rfl⟩ : ∃ a b, ws = a ++ [b] := ⟨ws.dropLast, ws.getLast (by intro z; subst z; simp at hm), (List.dropLast_concat_getLast _).symm⟩
      have hm' : ws'.length = m := by simpa using hm
      have lo := h w (List.mem_append_right _ List.mem_cons_self)
      have h' : ∀ v ∈ ws', 1 ≤ v.1 := fun v hv => h v (List.mem_append_left _ hv)
      rw [rowsN_app] at h1
      have e : rowsN [w] = (w.1 : Int) := by simp [rowsN]
      rw [e] at h1
      rw [rowOf_snoc, numA_snoc _ _ (rowOf_ok _ h').len, ih ws' hm' _ h' (Int.ediv_nonneg h0 (by omega)) (Int.ediv_lt_of_lt_mul (by omega) h1)]
      exact (dm_back n (by omega)).1.symm
  intro ws n h
  exact gen _ ws rfl n h
end SH

namespace z14
open PySem L2 PL MR SH
/-- _law_fits: 0 _law_webs 1 _law_places 2 _law_many 3 _law_ties -/
noncomputable def B__law_fits : Sm :=
 (sSeq (sAsg 1 (yR (rC (.int 1))))
 (sSeq (sFor (iL (dY (yVar 0))) (gmTup (gsCons (gmName 2) (gsCons (gmName 3) gsNil)))
 (sAsg 1 (yR (rOp gMul (rVar 1) (rVar 2)))))
 (sRet (yD (dAnd (dR (rOp gLe (rVar 1) (rC (.int 40)))) (dOpR gLe (dCb gSum (lCons (dY (yLc [2, 3] (iL (dY (yVar 0))) (gmTup (gsCons (gmName 2) (gsCons (gmName 3) gsNil))) (fun ρ => some (true, ρ)) (yR (rOp gMul (rCb gLen (qCons (rVar 3) qNil)) (rOp gDiv (rVar 1) (rVar 2)))))) lNil)) (rC (.int 120))))))))
noncomputable def m__law_fits : List D → Option OT := fun ds => fin (B__law_fits (ini ds 3))
/-- _law_powers: 0 _law_pool_here 1 _law_web_here 2 _law_often 3 _law_halves -/
noncomputable def B__law_powers : Sm :=
 (sSeq (sAsg 1 (yCallI m__law_loose 3 0 (lCons (dR (rC (.int 4))) (lCons (dR (rC (.int 2))) lNil))))
 (sSeq (sAsg 2 (yR (rC (.int 0))))
 (sSeq (sWhile (tmAnd (tR (bR (rOp gLt (rVar 2) (rC (.int 12))))) (tD (dY (yCall m__law_fits 1 (lCons (dY (yRep (yLst (oCons (yVar 1) oNil)) (rOp gAdd (rVar 2) (rC (.int 1))))) lNil)))))
 (sSeq (sIf (tD (dOp gNeS (dR (rRepr (rCall m_power 2 (qCons (rVar 1) (qCons (rVar 2) qNil))))) (dRepr (dY (yCall m_product 1 (lCons (dY (yRep (yLst (oCons (yVar 1) oNil)) (rVar 2))) lNil))))))
 (sRet (yR (rC (.bool false))))
 sNext)
 (sAsg 2 (yR (rOp gAdd (rVar 2) (rC (.int 1)))))))
 (sSeq (sAsg 3 (yLst (oCons (yCallA m_power 2 (qCons (rVar 1) (qCons (rOp gSub (rVar 2) (rOp gDiv (rVar 2) (rC (.int 2)))) qNil)) (lCons (dY (yVar 1)) (lCons (dR (rOp gSub (rVar 2) (rOp gDiv (rVar 2) (rC (.int 2))))) lNil))) (oCons (yCallA m_power 2 (qApp 1 1 (qCons (rVar 1) qNil) (qCons (rOp gDiv (rVar 2) (rC (.int 2))) qNil)) (lApp 1 1 (lCons (dY (yVar 1)) lNil) (lCons (dR (rOp gDiv (rVar 2) (rC (.int 2)))) lNil))) oNil))))
 (sRet (yR (rOp gEqS (rRepr (rCall m_power 2 (qApp 1 1 (qCons (rVar 1) qNil) (qCons (rVar 2) qNil)))) (rRepr (rCall m_product 1 (qCons (rVar 3) qNil))))))))))
noncomputable def m__law_powers : OT → List D → Option (OT × OT) := fun t ds => finI (B__law_powers (t :: ini ds 3))
/-- _law_sums: 0 _law_pool_here 1 _law_ones 2 _law_turn 3 _law_others 4 _law_many -/
noncomputable def B__law_sums : Sm :=
 (sSeq (sAsg 1 (yLc [2] (iR1 (lCons (dY (yCallI m__law_take 2 0 (lCons (dR (rC (.int 7))) lNil))) lNil)) (gmName 2) (fun ρ => some (true, ρ)) (yCallI m__law_loose 3 0 (lCons (dOp gIxL (dY (yLst (oCons (yR (rC (.int 2))) (oCons (yR (rC (.int 7))) (oCons (yR (rC (.int 40))) oNil))))) (dY (yCallI m__law_take 2 0 (lCons (dR (rC (.int 3))) lNil)))) (lCons (dR (rC (.int 5))) lNil)))))
 (sSeq (sAsg 3 (yLc [2] (iR1 (lCons (dY (yCallI m__law_take 2 0 (lCons (dR (rC (.int 7))) lNil))) lNil)) (gmName 2) (fun ρ => some (true, ρ)) (yCallI m__law_loose 3 0 (lCons (dOp gIxL (dY (yLst (oCons (yR (rC (.int 2))) (oCons (yR (rC (.int 7))) (oCons (yR (rC (.int 40))) oNil))))) (dY (yCallI m__law_take 2 0 (lCons (dR (rC (.int 3))) lNil)))) (lCons (dR (rC (.int 5))) lNil)))))
 (sSeq (sAsg 4 (yLst (oCons (yCallA m_places_of 1 (qCons (rVar 1) qNil) (lCons (dY (yVar 1)) lNil)) (oCons (yCallA m_places_of 1 (qCons (rVar 3) qNil) (lCons (dY (yVar 3)) lNil)) oNil))))
 (sSeq (sIf (tR (bR (rOp gNeI (rCall m_places_of 1 (qCons (rOpZ GCat (rVar 1) (rVar 3)) qNil)) (rOp gMul (rOp gIxL (rVar 4) (rC (.int 0))) (rOp gIxL (rVar 4) (rC (.int 1)))))))
 (sRet (yR (rC (.bool false))))
 sNext)
 (sRet (yR (rOp gEqI (rCall m_ties_of 1 (qCons (rOpZ GCat (rVar 1) (rVar 3)) qNil)) (rOp gAdd (rOp gMul (rCall m_ties_of 1 (qCons (rVar 1) qNil)) (rOp gIxL (rVar 4) (rC (.int 1)))) (rOp gMul (rCall m_ties_of 1 (qCons (rVar 3) qNil)) (rOp gIxL (rVar 4) (rC (.int 0))))))))))))
noncomputable def m__law_sums : OT → List D → Option (OT × OT) := fun t ds => finI (B__law_sums (t :: ini ds 4))
/-- _law_groups: 0 _law_pool_here 1 _law_webs 2 _law_groups_here 3 _law_web_here 4 _law_turn -/
noncomputable def B__law_groups : Sm :=
 (sSeq (sAsg 2 (yLst (oCons (yLst oNil) oNil)))
 (sSeq (sFor (iL (dY (yVar 1))) (gmName 3)
 (sSeq (sFor (iR1 (lCons (dY (yCallI m__law_take 2 0 (lCons (dR (rC (.int 3))) lNil))) lNil)) (gmName 4)
 (sIf (tR (bR (rOp gLt (rCb gLen (qCons (rVar 2) qNil)) (rC (.int 9)))))
 (sApp 2 (yLst oNil))
 sNext))
 (sAppP 2 (pmIx (pmVar 2) (rUn gNeg (rC (.int 1)))) (fVarD 3))))
 (sRet (yMov 2))))
noncomputable def m__law_groups : OT → List D → Option (OT × OT) := fun t ds => finI (B__law_groups (t :: ini ds 3))
/-- _law_grouped_row: 0 _law_groups_here 1 _law_row 2 _law_found 3 _law_at 4 _law_group -/
noncomputable def B__law_grouped_row : Sm :=
 (sSeq (sAsg 2 (yLst oNil))
 (sSeq (sAsg 3 (yR (rC (.int 0))))
 (sSeq (sFor (iL (dY (yVar 0))) (gmName 4)
 (sSeq (sApp 2 (yCallA m_number_of 2 (qCons (rVar 4) (qCons (rSl (rVar 1) (cSome (rVar 3)) (cSome (rOp gAdd (rVar 3) (rCb gLen (qCons (rVar 4) qNil))))) qNil)) (lCons (dY (yVar 4)) (lCons (dY (ySlA (rVar 1) (dY (yVar 1)) (cSome (rVar 3)) (cSome (rOp gAdd (rVar 3) (rCb gLen (qCons (rVar 4) qNil)))))) lNil))))
 (sAsg 3 (yR (rOp gAdd (rVar 3) (rCb gLen (qCons (rVar 4) qNil)))))))
 (sRet (yMov 2)))))
noncomputable def m__law_grouped_row : List D → Option OT := fun ds => fin (B__law_grouped_row (ini ds 3))
/-- _law_right: 0 _law_pool_here 1 _law_webs 2 _law_turn 3 _law_web_here 4 _law_groups_here 5 _law_whole 6 _law_made 7 _law_group 8 _law_number 9 _law_row 10 _law_other 11 _law_tied -/
noncomputable def B__law_right : Sm :=
 (sSeq (sAsg 1 (yLst oNil))
 (sSeq (sFor (iR1 (lCons (dY (yCallI m__law_take 2 0 (lCons (dR (rC (.int 8))) lNil))) lNil)) (gmName 2)
 (sSeq (sAsg 3 (yCallI m__law_loose 3 0 (lCons (dOp gIxL (dY (yLst (oCons (yR (rC (.int 1))) (oCons (yR (rC (.int 2))) (oCons (yR (rC (.int 3))) (oCons (yR (rC (.int 5))) (oCons (yR (rC (.int 10))) oNil))))))) (dY (yCallI m__law_take 2 0 (lCons (dR (rC (.int 5))) lNil)))) (lCons (dR (rC (.int 4))) lNil))))
 (sIf (tR (bR (rCall m__law_fits 1 (qCons (rOpZ GCat (rVar 1) (rLst (qCons (rVar 3) qNil))) qNil))))
 (sApp 1 (yVar 3))
 sNext)))
 (sSeq (sAsg 4 (yCallI m__law_groups 2 0 (lCons (dY (yVar 1)) lNil)))
 (sSeq (sAsg 5 (yCallA m_product 1 (qCons (rVar 1) qNil) (lCons (dY (yVar 1)) lNil)))
 (sSeq (sAsg 6 (yLc [7] (iL (dY (yVar 4))) (gmName 7) (fun ρ => some (true, ρ)) (yCallA m_product 1 (qCons (rVar 7) qNil) (lCons (dY (yVar 7)) lNil))))
 (sSeq (sIf (tR (bOr (bR (rOp gNeS (rRepr (rCall m_product 1 (qCons (rVar 6) qNil))) (rRepr (rVar 5)))) (bOr (bR (rOp gNeI (rCall m_places_of 1 (qCons (rVar 1) qNil)) (rOp gIxT (rVar 5) (rC (.int 0))))) (bR (rOp gNeI (rCall m_ties_of 1 (qCons (rVar 1) qNil)) (rCb gLen (qCons (rOp gIxT (rVar 5) (rC (.int 1))) qNil)))))))
 (sRet (yR (rC (.bool false))))
 sNext)
 (sSeq (sFor (iR1 (lCons (dR (rC (.int 6))) lNil)) (gmName 2)
 (sSeq (sAsg 8 (yCallI m__law_take 2 0 (lCons (dY (yAuto (rOp gIxT (rVar 5) (rC (.int 0))) (yD (dOpR gIxT (dY (yVar 5)) (rC (.int 0)))))) lNil)))
 (sSeq (sAsg 9 (yCallA m_row_of 2 (qCons (rVar 1) (qCons (rVar 8) qNil)) (lCons (dY (yVar 1)) (lCons (dY (yVar 8)) lNil))))
 (sSeq (sIf (tR (bR (rOp gNeI (rCall m_number_of 2 (qCons (rVar 6) (qCons (rCall m__law_grouped_row 2 (qCons (rVar 4) (qCons (rVar 9) qNil))) qNil))) (rVar 8))))
 (sRet (yR (rC (.bool false))))
 sNext)
 (sSeq (sAsg 10 (yCallI m__law_take 2 0 (lCons (dY (yAuto (rOp gIxT (rVar 5) (rC (.int 0))) (yD (dOpR gIxT (dY (yVar 5)) (rC (.int 0)))))) lNil)))
 (sSeq (sAsg 11 (yR (rOp gInD (rTup (qCons (rCb gMin2 (qCons (rVar 8) (qCons (rVar 10) qNil))) (qCons (rCb gMax2 (qCons (rVar 8) (qCons (rVar 10) qNil))) qNil))) (rOp gIxT (rVar 5) (rC (.int 1))))))
 (sIf (tR (bR (rOp gNeI (rCall m_rows_tied 3 (qCons (rVar 1) (qCons (rVar 9) (qCons (rCall m_row_of 2 (qCons (rVar 1) (qCons (rVar 10) qNil))) qNil)))) (rVar 11))))
 (sRet (yR (rC (.bool false))))
 sNext)))))))
 (sRet (yR (rC (.bool true)))))))))))
noncomputable def m__law_right : OT → List D → Option (OT × OT) := fun t ds => finI (B__law_right (t :: ini ds 11))
/-- law: 0 _law_script 1 _law_k 2 _law_pool_here -/
noncomputable def B_law : Sm :=
 (sSeq (sFor (iR1 (lCons (dR (rCb gMax2 (qCons (rC (.int 1)) (qCons (rCb gMin2 (qCons (rCb gLen (qCons (rVar 0) qNil)) (qCons (rC (.int 6)) qNil))) qNil)))) lNil)) (gmName 1)
 (sSeq (sAsg 2 (yCallA m__law_pool 2 (qCons (rVar 0) (qCons (rVar 1) qNil)) (lCons (dY (yVar 0)) (lCons (dY (yVar 1)) lNil))))
 (sIf (tmOr (tmNot (tD (dY (yCallI m__law_right 1 2 lNil)))) (tmOr (tmNot (tD (dY (yCallI m__law_sums 1 2 lNil)))) (tmNot (tD (dY (yCallI m__law_powers 1 2 lNil))))))
 (sRet (yR (rC (.bool false))))
 sNext)))
 (sRet (yR (rC (.bool true)))))
noncomputable def m_law : List D → Option OT := fun ds => fin (B_law (ini ds 2))
end z14

namespace z14
open PySem L2 PL
local macro_rules | `(tactic| walk_at "sd") => `(tactic| first | rfl | assumption | omega | decide)

open PySem L2 PL MR SH
def topS (i : Nat) : Stmt := PySem.Challenge.pw_webtimes_k14_whole_groups_of_webs.main.body.getD i (.Pass ⟨0, 0, 0, 0⟩)
abbrev s__law_pool : Stmt := topS 36
theorem sc__law_pool : FnScope ["_law_script", "_law_k", "_law_cell", "_law_number", "_law_great"] ["_law_script", "_law_k"] (defScope s__law_pool) := ⟨rfl, rfl, rfl, by decide +kernel, rfl, by decide +kernel, by decide +kernel⟩
abbrev s__law_take : Stmt := topS 37
theorem sc__law_take : FnScope ["_law_pool_here", "_law_many", "_law_found"] ["_law_pool_here", "_law_many"] (defScope s__law_take) := ⟨rfl, rfl, rfl, by decide +kernel, rfl, by decide +kernel, by decide +kernel⟩
abbrev s__law_web : Stmt := topS 38
theorem sc__law_web : FnScope ["_law_pool_here", "_law_most", "_law_more", "_law_many", "_law_names", "_law_order", "_law_k", "_law_pairs", "_law_ties", "_law_one", "_law_other"] ["_law_pool_here", "_law_most", "_law_more"] (defScope s__law_web) := ⟨rfl, rfl, rfl, by decide +kernel, rfl, by decide +kernel, by decide +kernel⟩
abbrev s__law_loose : Stmt := topS 39
theorem sc__law_loose : FnScope ["_law_pool_here", "_law_most", "_law_more", "_law_many", "_law_ties", "_law_tie"] ["_law_pool_here", "_law_most", "_law_more"] (defScope s__law_loose) := ⟨rfl, rfl, rfl, by decide +kernel, rfl, by decide +kernel, by decide +kernel⟩
abbrev s__law_fits : Stmt := topS 40
theorem sc__law_fits : FnScope ["_law_webs", "_law_places", "_law_many", "_law_ties"] ["_law_webs"] (defScope s__law_fits) := ⟨rfl, rfl, rfl, by decide +kernel, rfl, by decide +kernel, by decide +kernel⟩
abbrev s_is_whole : Stmt := topS 9
theorem sc_is_whole : FnScope ["thing"] ["thing"] (defScope s_is_whole) := ⟨rfl, rfl, rfl, by decide +kernel, rfl, by decide +kernel, by decide +kernel⟩
abbrev s_joins_places : Stmt := topS 11
theorem sc_joins_places : FnScope ["many", "thing", "one", "other"] ["many", "thing"] (defScope s_joins_places) := ⟨rfl, rfl, rfl, by decide +kernel, rfl, by decide +kernel, by decide +kernel⟩
abbrev s_web_fault : Stmt := topS 12
theorem sc_web_fault : FnScope ["thing", "many", "ties", "at", "tie"] ["thing"] (defScope s_web_fault) := ⟨rfl, rfl, rfl, by decide +kernel, rfl, by decide +kernel, by decide +kernel⟩
abbrev s_look_at_web : Stmt := topS 13
theorem sc_look_at_web : FnScope ["thing", "fault", "part", "number"] ["thing"] (defScope s_look_at_web) := ⟨rfl, rfl, rfl, by decide +kernel, rfl, by decide +kernel, by decide +kernel⟩
abbrev s_count_ties : Stmt := topS 20
theorem sc_count_ties : FnScope ["webs", "rows", "ties", "many", "here"] ["webs"] (defScope s_count_ties) := ⟨rfl, rfl, rfl, by decide +kernel, rfl, by decide +kernel, by decide +kernel⟩
abbrev s_count_rows : Stmt := topS 19
theorem sc_count_rows : FnScope ["webs", "many", "web"] ["webs"] (defScope s_count_rows) := ⟨rfl, rfl, rfl, by decide +kernel, rfl, by decide +kernel, by decide +kernel⟩
abbrev s_look_at_size : Stmt := topS 31
theorem sc_look_at_size : FnScope ["webs"] ["webs"] (defScope s_look_at_size) := ⟨rfl, rfl, rfl, by decide +kernel, rfl, by decide +kernel, by decide +kernel⟩
abbrev s_multiplied : Stmt := topS 32
theorem sc_multiplied : FnScope ["webs", "many", "ties", "own_many", "own_ties", "across", "one", "other", "at", "along"] ["webs"] (defScope s_multiplied) := ⟨rfl, rfl, rfl, by decide +kernel, rfl, by decide +kernel, by decide +kernel⟩
abbrev s_power : Stmt := topS 34
theorem sc_power : FnScope ["web", "times", "_"] ["web", "times"] (defScope s_power) := ⟨rfl, rfl, rfl, by decide +kernel, rfl, by decide +kernel, by decide +kernel⟩
abbrev s_look_at_webs : Stmt := topS 17
theorem sc_look_at_webs : FnScope ["thing", "at", "web"] ["thing"] (defScope s_look_at_webs) := ⟨rfl, rfl, rfl, by decide +kernel, rfl, by decide +kernel, by decide +kernel⟩
abbrev s_product : Stmt := topS 33
theorem sc_product : FnScope ["webs"] ["webs"] (defScope s_product) := ⟨rfl, rfl, rfl, by decide +kernel, rfl, by decide +kernel, by decide +kernel⟩
abbrev s__law_powers : Stmt := topS 45
theorem sc__law_powers : FnScope ["_law_pool_here", "_law_web_here", "_law_often", "_law_halves"] ["_law_pool_here"] (defScope s__law_powers) := ⟨rfl, rfl, rfl, by decide +kernel, rfl, by decide +kernel, by decide +kernel⟩
abbrev s_places_of : Stmt := topS 25
theorem sc_places_of : FnScope ["webs"] ["webs"] (defScope s_places_of) := ⟨rfl, rfl, rfl, by decide +kernel, rfl, by decide +kernel, by decide +kernel⟩
abbrev s_ties_of : Stmt := topS 26
theorem sc_ties_of : FnScope ["webs"] ["webs"] (defScope s_ties_of) := ⟨rfl, rfl, rfl, by decide +kernel, rfl, by decide +kernel, by decide +kernel⟩
abbrev s__law_sums : Stmt := topS 44
theorem sc__law_sums : FnScope ["_law_pool_here", "_law_ones", "_law_turn", "_law_others", "_law_many"] ["_law_pool_here"] (defScope s__law_sums) := ⟨rfl, rfl, rfl, by decide +kernel, rfl, by decide +kernel, by decide +kernel⟩
abbrev s__law_groups : Stmt := topS 41
theorem sc__law_groups : FnScope ["_law_pool_here", "_law_webs", "_law_groups_here", "_law_web_here", "_law_turn"] ["_law_pool_here", "_law_webs"] (defScope s__law_groups) := ⟨rfl, rfl, rfl, by decide +kernel, rfl, by decide +kernel, by decide +kernel⟩
abbrev s_is_place : Stmt := topS 10
theorem sc_is_place : FnScope ["many", "thing"] ["many", "thing"] (defScope s_is_place) := ⟨rfl, rfl, rfl, by decide +kernel, rfl, by decide +kernel, by decide +kernel⟩
abbrev s_numbered_row : Stmt := topS 22
theorem sc_numbered_row : FnScope ["webs", "number", "row", "web"] ["webs", "number"] (defScope s_numbered_row) := ⟨rfl, rfl, rfl, by decide +kernel, rfl, by decide +kernel, by decide +kernel⟩
abbrev s_row_of : Stmt := topS 28
theorem sc_row_of : FnScope ["webs", "number"] ["webs", "number"] (defScope s_row_of) := ⟨rfl, rfl, rfl, by decide +kernel, rfl, by decide +kernel, by decide +kernel⟩
abbrev s_makes_row : Stmt := topS 18
theorem sc_makes_row : FnScope ["webs", "thing", "web", "place"] ["webs", "thing"] (defScope s_makes_row) := ⟨rfl, rfl, rfl, by decide +kernel, rfl, by decide +kernel, by decide +kernel⟩
abbrev s_look_at_row : Stmt := topS 24
theorem sc_look_at_row : FnScope ["webs", "thing"] ["webs", "thing"] (defScope s_look_at_row) := ⟨rfl, rfl, rfl, by decide +kernel, rfl, by decide +kernel, by decide +kernel⟩
abbrev s_row_number : Stmt := topS 21
theorem sc_row_number : FnScope ["webs", "row", "number", "web", "place"] ["webs", "row"] (defScope s_row_number) := ⟨rfl, rfl, rfl, by decide +kernel, rfl, by decide +kernel, by decide +kernel⟩
abbrev s_number_of : Stmt := topS 27
theorem sc_number_of : FnScope ["webs", "row"] ["webs", "row"] (defScope s_number_of) := ⟨rfl, rfl, rfl, by decide +kernel, rfl, by decide +kernel, by decide +kernel⟩
abbrev s__law_grouped_row : Stmt := topS 42
theorem sc__law_grouped_row : FnScope ["_law_groups_here", "_law_row", "_law_found", "_law_at", "_law_group"] ["_law_groups_here", "_law_row"] (defScope s__law_grouped_row) := ⟨rfl, rfl, rfl, by decide +kernel, rfl, by decide +kernel, by decide +kernel⟩
abbrev s_as_tie : Stmt := topS 14
theorem sc_as_tie : FnScope ["one", "other"] ["one", "other"] (defScope s_as_tie) := ⟨rfl, rfl, rfl, by decide +kernel, rfl, by decide +kernel, by decide +kernel⟩
abbrev s_are_tied : Stmt := topS 23
theorem sc_are_tied : FnScope ["webs", "one", "other", "unlike", "at"] ["webs", "one", "other"] (defScope s_are_tied) := ⟨rfl, rfl, rfl, by decide +kernel, rfl, by decide +kernel, by decide +kernel⟩
abbrev s_rows_tied : Stmt := topS 29
theorem sc_rows_tied : FnScope ["webs", "one", "other"] ["webs", "one", "other"] (defScope s_rows_tied) := ⟨rfl, rfl, rfl, by decide +kernel, rfl, by decide +kernel, by decide +kernel⟩
abbrev s__law_right : Stmt := topS 43
theorem sc__law_right : FnScope ["_law_pool_here", "_law_webs", "_law_turn", "_law_web_here", "_law_groups_here", "_law_whole", "_law_made", "_law_group", "_law_number", "_law_row", "_law_other", "_law_tied"] ["_law_pool_here"] (defScope s__law_right) := ⟨rfl, rfl, rfl, by decide +kernel, rfl, by decide +kernel, by decide +kernel⟩
abbrev s_law : Stmt := topS 46
theorem sc_law : FnScope ["_law_script", "_law_k", "_law_pool_here"] ["_law_script"] (defScope s_law) := ⟨rfl, rfl, rfl, by decide +kernel, rfl, by decide +kernel, by decide +kernel⟩
structure Bn (mg : Str → Option Value) : Prop where
  n_all : mg "all" = none
  n_bool : mg "bool" = none
  c_MOST_PLACES : ∃ t, mg "MOST_PLACES" = some (.int 40 t)
  c_MOST_TIES : ∃ t, mg "MOST_TIES" = some (.int 120 t)
  c_MOST_WEBS : ∃ t, mg "MOST_WEBS" = some (.int 12 t)
  n_enumerate : mg "enumerate" = none
  n_int : mg "int" = none
  n_isinstance : mg "isinstance" = none
  n_len : mg "len" = none
  n_list : mg "list" = none
  n_max : mg "max" = none
  n_min : mg "min" = none
  n_range : mg "range" = none
  n_repr : mg "repr" = none
  n_reversed : mg "reversed" = none
  n_sorted : mg "sorted" = none
  n_sum : mg "sum" = none
  n_tuple : mg "tuple" = none
  n_zip : mg "zip" = none
theorem k_power_times_mk {K : PySem.W.Frag} {a : Addr} {fd : FuncData} (F : FunD1 K "power" s_power 1 a fd) : KBinds K fd ["web", "times"] ["times"] (gApp 1 1) (gApp 1 1) := by
  refine F.kbinds (fun T kV doc pm an cdv ct us ws its hl hm => ?_) gApp_rel
  obtain ⟨h1, h2⟩ := gApp_len (n := 1) hl
  match us, ws, its, h1, h2, hm with
  | [_], [_], [_], _, _, _ => exact ⟨_, rfl, rfl⟩
end z14

namespace z14
open PySem L2 PL MR SH
open PySem L2 PL
local macro_rules | `(tactic| walk_at "sd") => `(tactic| first | rfl | assumption | omega | decide)

section
variable {P : Program} {w : World} [kf : KF] {mg : Str → Option Value} {base : Heap}
theorem ok__law_pool (B : Bn mg) (T : Tp kf.K mg "_law_pool" s__law_pool) : FnQ P w kf.K mg base CX0 1 T.a T.fd ["_law_script", "_law_k"] (spP 2 m__law_pool) := by
  refine fnq_of T.F sc__law_pool (spP_len rfl) fun cdv A outer s H vs Q E hr hg h => ?_
  refine ⟨_, PSs.nox (pss_cons (ps_set (i := 2) sc__law_pool.nd rfl (Or.inl rfl) pe_int)
 (pss_cons (ps_if (pt_cmpR op_lt (pv 1) (pe_callB (call_len_seqK (K := kf.K) rfl) (by rfl) B.n_len PySem.boot_len (pa_cons (pv 0) pa_nil)) (nomark _))
 (pss_one (ps_set (i := 2) sc__law_pool.nd rfl (Or.inl rfl) (pe_ix (ix_listK (K := kf.K) rfl) (pv 0) (pv 1) (fun _ _ => rfl))))
 pss_nil)
 (pss_cons (ps_set (i := 3) sc__law_pool.nd rfl (Or.inl rfl) (pe_op op_mod (pe_op op_add (pe_op op_add (pe_op op_add (pe_callB (call_max2 rfl) (by rfl) B.n_max (by decide +kernel) (pa_cons (pv 2) (pa_cons (pe_op op_sub (pe_un un_neg pe_int) (pv 2)) pa_nil))) (pe_op op_mul (pe_op op_mul pe_int (pv 1)) (pv 1))) (pe_op op_mul pe_int (pv 1))) pe_int) pe_int))
 (pss_cons (ps_set (i := 4) sc__law_pool.nd rfl (Or.inl rfl) pe_int)
 (pss_cons (ps_if (pt_cmpR op_ge (pv 2) (pe_op op_pow pe_int pe_int) (nomark _))
 (pss_one (ps_set (i := 4) sc__law_pool.nd rfl (Or.inl rfl) (pv 2)))
 pss_nil)
 (pss_one (ps_ret (pe_lst (pa_cons (pv 4) (pa_cons (pe_op op_mod (pe_op op_mul (pv 3) pe_int) pe_int) pa_nil)))))))))), tie_plain (n := 2) (k := 3) (B := SH.B__law_pool) rfl ?_ h⟩
  exact (c_seq (c_asg (c_yR (c_c (v := .int 0) rfl)))
 (c_seq (c_sif (c_tR (c_bR (c_op o_lt (c_var 1) (c_cb b_len (c_qcons (c_var 0) c_qnil)))))
 (c_asg (c_yauto (c_ix x_list (c_var 0) (c_var 1)) (c_yD (c_dixR x_list (c_dY (c_yvar 0)) (c_var 1)))))
 c_next)
 (c_seq (c_asg (c_yR (c_op o_mod (c_op o_add (c_op o_add (c_op o_add (c_cb b_max2 (c_qcons (c_var 2) (c_qcons (c_op o_sub (c_un o_neg (c_c (v := .int 1) rfl)) (c_var 2)) c_qnil))) (c_op o_mul (c_op o_mul (c_c (v := .int 7919) rfl) (c_var 1)) (c_var 1))) (c_op o_mul (c_c (v := .int 104729) rfl) (c_var 1))) (c_c (v := .int 17) rfl)) (c_c (v := .int 2147483629) rfl))))
 (c_seq (c_asg (c_yR (c_c (v := .int 0) rfl)))
 (c_seq (c_sif (c_tR (c_bR (c_op o_ge (c_var 2) (c_op o_pow (c_c (v := .int 10) rfl) (c_c (v := .int 18) rfl)))))
 (c_asg (c_yvar 2))
 c_next)
 (c_ret (c_ylst (c_ocons (c_ymov 4) (c_ocons (c_yR (c_op o_mod (c_op o_mul (c_var 3) (c_c (v := .int 48271) rfl)) (c_c (v := .int 2147483647) rfl))) c_onil)))))))))
theorem ok__law_take (B : Bn mg) (T : Tp kf.K mg "_law_take" s__law_take) : FnQ P w kf.K mg base CX0 1 T.a T.fd ["_law_pool_here", "_law_many"] (spI 2 m__law_take) := by
  refine fnq_of T.F sc__law_take (spI_len rfl) fun cdv A outer s H vs Q E hr hg h => ?_
  refine ⟨_, PSs.nox (pss_cons (ps_if (pt_cmpR op_gt (pe_ix (ix_listK (K := kf.K) rfl) (pv 0) pe_int (fun _ _ => rfl)) pe_int (nomark _))
 (pss_cons (ps_set (i := 2) sc__law_take.nd rfl (Or.inl rfl) (pe_op op_mod (pe_ix (ix_listK (K := kf.K) rfl) (pv 0) pe_int (fun _ _ => rfl)) (pv 1)))
 (pss_cons (ps_asg (pe_op op_fdiv (pe_ix (ix_listK (K := kf.K) rfl) (pv 0) pe_int (fun _ _ => rfl)) (pv 1)) (pg_sub (pv 0) pe_int set_list))
 (pss_one (ps_ret (pv 2)))))
 pss_nil)
 (pss_cons (ps_asg (pe_op op_mod (pe_op op_add (pe_op op_mul (pe_ix (ix_listK (K := kf.K) rfl) (pv 0) pe_int (fun _ _ => rfl)) pe_int) pe_int) pe_int) (pg_sub (pv 0) pe_int set_list))
 (pss_one (ps_ret (pe_op op_mod (pe_op op_fdiv (pe_op op_mod (pe_op op_mul (pe_ix (ix_listK (K := kf.K) rfl) (pv 0) pe_int (fun _ _ => rfl)) (pe_ix (ix_listK (K := kf.K) rfl) (pv 0) pe_int (fun _ _ => rfl))) pe_int) pe_int) (pv 1)))))), tie_io (n := 2) (k := 1) (B := SH.B__law_take) rfl ?_ h⟩
  exact (c_seq (c_sif (c_tR (c_bR (c_op o_gt (c_ix x_list (c_var 0) (c_c (v := .int 0) rfl)) (c_c (v := .int 0) rfl))))
 (c_seq (c_asg (c_yR (c_op o_mod (c_ix x_list (c_var 0) (c_c (v := .int 0) rfl)) (c_var 1))))
 (c_seq (c_setP (c_pvar 0) (c_c (v := .int 0) rfl) (c_yR (c_op o_div (c_ix x_list (c_var 0) (c_c (v := .int 0) rfl)) (c_var 1))))
 (c_ret (c_ymov 2))))
 c_next)
 (c_seq (c_setP (c_pvar 0) (c_c (v := .int 1) rfl) (c_yR (c_op o_mod (c_op o_add (c_op o_mul (c_ix x_list (c_var 0) (c_c (v := .int 1) rfl)) (c_c (v := .int 48271) rfl)) (c_c (v := .int 11) rfl)) (c_c (v := .int 2147483647) rfl))))
 (c_ret (c_yR (c_op o_mod (c_op o_div (c_op o_mod (c_op o_mul (c_ix x_list (c_var 0) (c_c (v := .int 1) rfl)) (c_ix x_list (c_var 0) (c_c (v := .int 1) rfl))) (c_c (v := .int 2147483629) rfl)) (c_c (v := .int 16) rfl)) (c_var 1))))))
theorem ok__law_web (B : Bn mg) (T : Tp kf.K mg "_law_web" s__law_web) (d__law_take : Dq P w kf.K mg base "_law_take" 1 ["_law_pool_here", "_law_many"] (spI 2 m__law_take)) : FnQ P w kf.K mg base CX0 2 T.a T.fd ["_law_pool_here", "_law_most", "_law_more"] (spI 3 m__law_web) := by
  refine fnq_of T.F sc__law_web (spI_len rfl) fun cdv A outer s H vs Q E hr hg h => ?_
  refine ⟨_, PSs.nox (pss_cons (ps_set (i := 3) sc__law_web.nd rfl (Or.inl rfl) (pe_op op_add pe_int (pe_callQ d__law_take.G (hr.mono (by decide)) hg (by rfl) d__law_take.g d__law_take.kp d__law_take.b pass0 (pa_cons (pv 0) (pa_cons (pv 1) pa_nil)))))
 (pss_cons (ps_set (i := 4) sc__law_web.nd rfl (Or.inr rfl) (pe_listRg rfl (by rfl) B.n_list (prg_1 (by rfl) B.n_range (pv 3))))
 (pss_cons (ps_setLc (i := 5) (own := [("_law_k", 6)]) rfl sc__law_web.nd rfl rfl (sw_true rfl rfl rfl (by decide +kernel)) (pi_range1 (by rfl) B.n_range (pa_cons (pv 3) pa_nil)) (blkOk_by (own := [("_law_k", 6)]) (N := ["_law_pool_here", "_law_most", "_law_more", "_law_many", "_law_names", "_law_order", "_law_k", "_law_pairs", "_law_ties", "_law_one", "_law_other"]) (sc := defScope s__law_web) (by decide +kernel)) (fun _ _ _ _ _ => (pg_name (i := 6) sc__law_web.nd rfl (Or.inl rfl))) (fun _ _ _ _ _ => pts_nil) (fun _ _ _ _ _ => (pe_bmK (K := kf.K) rfl PySem.F.plainAttrs_list PySem.F.slot_list_pop PySem.F.type_list_pop mt_popAt (pv 4) (pa_cons (pe_callQ d__law_take.G (hr.mono (by decide)) hg (by rfl) d__law_take.g d__law_take.kp d__law_take.b pass0 (pa_cons (pv 0) (pa_cons (pe_callB (call_len_seqK (K := kf.K) rfl) (by rfl) B.n_len PySem.boot_len (pa_cons (pv 4) pa_nil)) pa_nil))) pa_nil))))
 (pss_cons (ps_setLc (i := 7) (own := [("_law_k", 6)]) rfl sc__law_web.nd rfl rfl (sw_true rfl rfl rfl (by decide +kernel)) (pi_range2 (by rfl) B.n_range (pa_cons pe_int (pa_cons (pv 3) pa_nil))) (blkOk_by (own := [("_law_k", 6)]) (N := ["_law_pool_here", "_law_most", "_law_more", "_law_many", "_law_names", "_law_order", "_law_k", "_law_pairs", "_law_ties", "_law_one", "_law_other"]) (sc := defScope s__law_web) (by decide +kernel)) (fun _ _ _ _ _ => (pg_name (i := 6) sc__law_web.nd rfl (Or.inl rfl))) (fun _ _ _ _ _ => pts_nil) (fun _ _ _ _ _ => (pe_tup (pa_cons (pv 6) (pa_cons (pe_callQ d__law_take.G (hr.mono (by decide)) hg (by rfl) d__law_take.g d__law_take.kp d__law_take.b pass0 (pa_cons (pv 0) (pa_cons (pv 6) pa_nil))) pa_nil)))))
 (pss_cons (ps_for PassesOwn.never rfl (pi_range1 (by rfl) B.n_range (pa_cons (pe_callQ d__law_take.G (hr.mono (by decide)) hg (by rfl) d__law_take.g d__law_take.kp d__law_take.b pass0 (pa_cons (pv 0) (pa_cons (pe_op op_add (pv 2) pe_int) pa_nil))) pa_nil)) (pg_name (i := 6) sc__law_web.nd rfl (Or.inl rfl))
 (pss_one (ps_expr (pe_bmK (K := kf.K) rfl PySem.F.plainAttrs_list PySem.F.slot_list_append PySem.F.type_list_append mt_append (pv 7) (pa_cons (pe_tup (pa_cons (pe_callQ d__law_take.G (hr.mono (by decide)) hg (by rfl) d__law_take.g d__law_take.kp d__law_take.b pass0 (pa_cons (pv 0) (pa_cons (pv 3) pa_nil))) (pa_cons (pe_callQ d__law_take.G (hr.mono (by decide)) hg (by rfl) d__law_take.g d__law_take.kp d__law_take.b pass0 (pa_cons (pv 0) (pa_cons (pv 3) pa_nil))) pa_nil))) pa_nil)))))
 (pss_cons (ps_set (i := 8) sc__law_web.nd rfl (Or.inl rfl) pe_dnewT)
 (pss_cons (ps_for PassesOwn.never rfl (pi_listK (K := kf.K) rfl (pv 7)) (pg_tup rfl (pgs_cons (pg_name (i := 9) sc__law_web.nd rfl (Or.inl rfl)) (pgs_cons (pg_name (i := 10) sc__law_web.nd rfl (Or.inl rfl)) pgs_nil)))
 (pss_one (ps_if (pt_cmpR op_ne (pv 9) (pv 10) (nomark _))
 (pss_one (ps_dput (hu_of hr) (pv 8) (pe_tup (pa_cons (pe_callB (call_min2 rfl) (by rfl) B.n_min (by decide +kernel) (pa_cons (pe_ix (ix_listK (K := kf.K) rfl) (pv 5) (pv 9) (fun _ _ => rfl)) (pa_cons (pe_ix (ix_listK (K := kf.K) rfl) (pv 5) (pv 10) (fun _ _ => rfl)) pa_nil))) (pa_cons (pe_callB (call_max2 rfl) (by rfl) B.n_max (by decide +kernel) (pa_cons (pe_ix (ix_listK (K := kf.K) rfl) (pv 5) (pv 9) (fun _ _ => rfl)) (pa_cons (pe_ix (ix_listK (K := kf.K) rfl) (pv 5) (pv 10) (fun _ _ => rfl)) pa_nil))) pa_nil))) pe_bl rfl))
 pss_nil)))
 (pss_one (ps_ret (pe_tup (pa_cons (pv 3) (pa_cons (pe_callB (cr_sortedDT rfl) (by rfl) B.n_sorted (by decide +kernel) (pa_cons (pv 8) pa_nil)) pa_nil)))))))))))), tie_io (n := 3) (k := 8) (B := SH.B__law_web) rfl ?_ h⟩
  exact (c_seq (c_asg (c_yD (c_dop o_add (c_dR (c_c (v := .int 1) rfl)) (c_dY (c_ycallI (c_lcons (c_dY (c_yvar 1)) c_lnil))))))
 (c_seq (c_asg (c_yrng (c_dY (c_yvar 3))))
 (c_seq (c_asg (c_ylc (vs := [6]) (c_iR1 (c_lcons (c_dY (c_yvar 3)) c_lnil)) (c_gname 6) (by decide) c_tyes (c_pop (c_dY (c_ycallI (c_lcons (c_dR (c_cb b_len (c_qcons (c_var 4) c_qnil))) c_lnil))))))
 (c_seq (c_asg (c_ylc (vs := [6]) (c_iR2 (c_lcons (c_dR (c_c (v := .int 1) rfl)) (c_lcons (c_dY (c_yvar 3)) c_lnil))) (c_gname 6) (by decide) c_tyes (c_ytup (c_ocons (c_yvar 6) (c_ocons (c_ycallI (c_lcons (c_dY (c_yvar 6)) c_lnil)) c_onil)))))
 (c_seq (c_for (c_iR1 (c_lcons (c_dY (c_ycallI (c_lcons (c_dR (c_op o_add (c_var 2) (c_c (v := .int 1) rfl))) c_lnil))) c_lnil)) (c_gname 6)
 (c_app (c_ytup (c_ocons (c_ycallI (c_lcons (c_dY (c_yvar 3)) c_lnil)) (c_ocons (c_ycallI (c_lcons (c_dY (c_yvar 3)) c_lnil)) c_onil)))))
 (c_seq (c_asg c_dnew)
 (c_seq (c_for (c_iL (c_dY (c_yvar 7))) (c_gtup (c_gscons (c_gname 9) (c_gscons (c_gname 10) c_gsnil)))
 (c_sif (c_tR (c_bR (c_op o_neI (c_var 9) (c_var 10))))
 (c_dput (c_tup (c_qcons (c_cb b_min2 (c_qcons (c_ix x_list (c_var 5) (c_var 9)) (c_qcons (c_ix x_list (c_var 5) (c_var 10)) c_qnil))) (c_qcons (c_cb b_max2 (c_qcons (c_ix x_list (c_var 5) (c_var 9)) (c_qcons (c_ix x_list (c_var 5) (c_var 10)) c_qnil))) c_qnil))) (c_c (v := .bl true) rfl))
 c_next))
 (c_ret (c_ytup (c_ocons (c_ymov 3) (c_ocons c_sortD c_onil)))))))))))
theorem ok__law_loose (B : Bn mg) (T : Tp kf.K mg "_law_loose" s__law_loose) (d__law_web : Dq P w kf.K mg base "_law_web" 2 ["_law_pool_here", "_law_most", "_law_more"] (spI 3 m__law_web)) (d__law_take : Dq P w kf.K mg base "_law_take" 1 ["_law_pool_here", "_law_many"] (spI 2 m__law_take)) : FnQ P w kf.K mg base CX0 3 T.a T.fd ["_law_pool_here", "_law_most", "_law_more"] (spI 3 m__law_loose) := by
  refine fnq_of T.F sc__law_loose (spI_len rfl) fun cdv A outer s H vs Q E hr hg h => ?_
  refine ⟨_, PSs.nox (pss_cons (ps_asg (pe_callQ d__law_web.G (hr.mono (by decide)) hg (by rfl) d__law_web.g d__law_web.kp d__law_web.b pass0 (pa_cons (pv 0) (pa_cons (pv 1) (pa_cons (pv 2) pa_nil)))) (pg_tup rfl (pgs_cons (pg_name (i := 3) sc__law_loose.nd rfl (Or.inl rfl)) (pgs_cons (pg_name (i := 4) sc__law_loose.nd rfl (Or.inl rfl)) pgs_nil))))
 (pss_cons (ps_if (pt_cmpR op_eq (pe_callQ d__law_take.G (hr.mono (by decide)) hg (by rfl) d__law_take.g d__law_take.kp d__law_take.b pass0 (pa_cons (pv 0) (pa_cons pe_int pa_nil))) pe_int (nomark _))
 (pss_one (ps_setLc (i := 4) (own := [("_law_tie", 5)]) rfl sc__law_loose.nd rfl rfl (sw_true rfl rfl rfl (by decide +kernel)) (pi_listK (K := kf.K) rfl (pv 4)) (blkOk_by (own := [("_law_tie", 5)]) (N := ["_law_pool_here", "_law_most", "_law_more", "_law_many", "_law_ties", "_law_tie"]) (sc := defScope s__law_loose) (by decide +kernel)) (fun _ _ _ _ _ => (pg_name (i := 5) sc__law_loose.nd rfl (Or.inl rfl))) (fun _ _ _ _ _ => pts_one (pt_cmpR op_gt (pe_callQ d__law_take.G (hr.mono (by decide)) hg (by rfl) d__law_take.g d__law_take.kp d__law_take.b pass0 (pa_cons (pv 0) (pa_cons pe_int pa_nil))) pe_int (nomark _))) (fun _ _ _ _ _ => (pv 5))))
 pss_nil)
 (pss_one (ps_ret (pe_tup (pa_cons (pv 3) (pa_cons (pv 4) pa_nil))))))), tie_io (n := 3) (k := 3) (B := SH.B__law_loose) rfl ?_ h⟩
  exact (c_seq (c_asgG (c_dY (c_ycallI (c_lcons (c_dY (c_yvar 1)) (c_lcons (c_dY (c_yvar 2)) c_lnil)))) (c_gtup (c_gscons (c_gname 3) (c_gscons (c_gname 4) c_gsnil))))
 (c_seq (c_sif (c_tD (c_dopR o_eqI (c_dY (c_ycallI (c_lcons (c_dR (c_c (v := .int 4) rfl)) c_lnil))) (c_c (v := .int 0) rfl)))
 (c_asg (c_ylc (vs := [5]) (c_iL (c_dY (c_yvar 4))) (c_gname 5) (by decide) (c_tD (c_dopR o_gt (c_dY (c_ycallI (c_lcons (c_dR (c_c (v := .int 3) rfl)) c_lnil))) (c_c (v := .int 0) rfl))) (c_yvar 5)))
 c_next)
 (c_ret (c_ytup (c_ocons (c_ymov 3) (c_ocons (c_ymov 4) c_onil))))))
theorem ok__law_fits (B : Bn mg) (T : Tp kf.K mg "_law_fits" s__law_fits) : FnQ P w kf.K mg base CX0 1 T.a T.fd ["_law_webs"] (spP 1 m__law_fits) := by
  refine fnq_of T.F sc__law_fits (spP_len rfl) fun cdv A outer s H vs Q E hr hg h => ?_
  refine ⟨_, PSs.nox (pss_cons (ps_set (i := 1) sc__law_fits.nd rfl (Or.inr rfl) pe_int)
 (pss_cons (ps_for PassesOwn.never rfl (pi_listK (K := kf.K) rfl (pv 0)) (pg_tup rfl (pgs_cons (pg_name (i := 2) sc__law_fits.nd rfl (Or.inl rfl)) (pgs_cons (pg_name (i := 3) sc__law_fits.nd rfl (Or.inl rfl)) pgs_nil)))
 (pss_one (ps_set (i := 1) sc__law_fits.nd rfl (Or.inr rfl) (pe_op op_mul (pv 1) (pv 2)))))
 (pss_one (ps_ret (pe_and (pe_cmpR op_le (pv 1) pe_int (nomark _)) (pe_one (pe_cmpR op_le (pe_callB (cr_sumK (K := kf.K) rfl rfl) (by rfl) B.n_sum (by decide +kernel) (pa_cons (pe_lc (own := [("_law_many", 2), ("_law_ties", 3)]) rfl sc__law_fits.nd (pi_listK (K := kf.K) rfl (pv 0)) (blkOk_by (own := [("_law_many", 2), ("_law_ties", 3)]) (N := ["_law_webs", "_law_places", "_law_many", "_law_ties"]) (sc := defScope s__law_fits) (by decide +kernel)) (fun _ _ _ _ _ => (pg_tupK (K := kf.K) (n := 2) rfl rfl (pgs_cons (pg_name (i := 2) sc__law_fits.nd rfl (Or.inl rfl)) (pgs_cons (pg_name (i := 3) sc__law_fits.nd rfl (Or.inl rfl)) pgs_nil)))) (fun _ _ _ _ _ => pts_nil) (fun _ _ _ _ _ => (pe_op op_mul (pe_callB (call_len_seqK (K := kf.K) rfl) (by rfl) B.n_len PySem.boot_len (pa_cons (pv 3) pa_nil)) (pe_op op_fdiv (pv 1) (pv 2))))) pa_nil)) pe_int (nomark _)))))))), tie_plain (n := 1) (k := 3) (B := B__law_fits) rfl ?_ h⟩
  exact (c_seq (c_asg (c_yR (c_c (v := .int 1) rfl)))
 (c_seq (c_for (c_iL (c_dY (c_yvar 0))) (c_gtup (c_gscons (c_gname 2) (c_gscons (c_gname 3) c_gsnil)))
 (c_asg (c_yR (c_op o_mul (c_var 1) (c_var 2)))))
 (c_ret (c_yD (c_dand (c_dR (c_op o_le (c_var 1) (c_c (v := .int 40) rfl))) (c_dopR o_le (c_dcb b_sum (c_lcons (c_dY (c_ylc (vs := [2, 3]) (c_iL (c_dY (c_yvar 0))) (c_gtup (c_gscons (c_gname 2) (c_gscons (c_gname 3) c_gsnil))) (by decide) c_tyes (c_yR (c_op o_mul (c_cb b_len (c_qcons (c_var 3) c_qnil)) (c_op o_div (c_var 1) (c_var 2)))))) c_lnil)) (c_c (v := .int 120) rfl)))))))
theorem ok_is_whole (B : Bn mg) (T : Tp kf.K mg "is_whole" s_is_whole) : FnQ P w kf.K mg base CX0 1 T.a T.fd ["thing"] (spP 1 m_is_whole) := by
  refine fnq_of T.F sc_is_whole (spP_len rfl) fun cdv A outer s H vs Q E hr hg h => ?_
  refine ⟨_, PSs.nox (pss_one (ps_ret (pe_and (pe_callB (call_isiKK (K := kf.K) rfl) (by rfl) B.n_isinstance (by decide +kernel) (pa_cons (pv 0) (pa_cons (pe_bltn (v := .ty "int") (u := .type "int") (by rfl) B.n_int (by decide +kernel) rfl) pa_nil))) (pe_one (pe_not (pe_callB (call_isiKK (K := kf.K) rfl) (by rfl) B.n_isinstance (by decide +kernel) (pa_cons (pv 0) (pa_cons (pe_bltn (v := .ty "bool") (u := .type "bool") (by rfl) B.n_bool (by decide +kernel) rfl) pa_nil)))))))), tie_plain (n := 1) (k := 0) (B := SH.B_is_whole) rfl ?_ h⟩
  exact (c_ret (c_yR (c_and (c_is (c_var 0)) (c_not (c_is (c_var 0))))))
theorem ok_joins_places (B : Bn mg) (T : Tp kf.K mg "joins_places" s_joins_places) (d_is_whole : Dq P w kf.K mg base "is_whole" 1 ["thing"] (spP 1 m_is_whole)) : FnQ P w kf.K mg base CX0 2 T.a T.fd ["many", "thing"] (spP 2 m_joins_places) := by
  refine fnq_of T.F sc_joins_places (spP_len rfl) fun cdv A outer s H vs Q E hr hg h => ?_
  refine ⟨_, PSs.nox (pss_cons (ps_if (PW.pt (pw_or (pt_not (pt_val (pe_callB (call_isiKK (K := kf.K) rfl) (by rfl) B.n_isinstance (by decide +kernel) (pa_cons (pv 1) (pa_cons (pe_bltn (v := .ty "tuple") (u := .type "tuple") (by rfl) B.n_tuple (by decide +kernel) rfl) pa_nil))))) (pw_or1 (pt_cmpR op_ne (pe_callB (call_len_seqK (K := kf.K) rfl) (by rfl) B.n_len PySem.boot_len (pa_cons (pv 1) pa_nil)) pe_int (nomark _)))))
 (pss_one (ps_ret pe_bl))
 pss_nil)
 (pss_cons (ps_asg (pv 1) (pg_tup rfl (pgs_cons (pg_name (i := 2) sc_joins_places.nd rfl (Or.inl rfl)) (pgs_cons (pg_name (i := 3) sc_joins_places.nd rfl (Or.inl rfl)) pgs_nil))))
 (pss_one (ps_ret (pe_and (pe_callQ d_is_whole.G (hr.mono (by decide)) hg (by rfl) d_is_whole.g d_is_whole.kp d_is_whole.b pass0 (pa_cons (pv 2) pa_nil)) (pe_and (pe_callQ d_is_whole.G (hr.mono (by decide)) hg (by rfl) d_is_whole.g d_is_whole.kp d_is_whole.b pass0 (pa_cons (pv 3) pa_nil)) (pe_one (pe_ch3 op_le op_lt op_lt pe_int (pv 2) (pv 3) (pv 0))))))))), tie_plain (n := 2) (k := 2) (B := SH.B_joins_places) rfl ?_ h⟩
  exact (c_seq (c_sif (c_tR (c_bOr (c_bNot (c_bB (c_is (c_var 1)))) (c_bR (c_op o_neI (c_cb b_len (c_qcons (c_var 1) c_qnil)) (c_c (v := .int 2) rfl)))))
 (c_ret (c_yR (c_c (v := .bl false) rfl)))
 c_next)
 (c_seq (c_asgG (c_dY (c_yvar 1)) (c_gtup (c_gscons (c_gname 2) (c_gscons (c_gname 3) c_gsnil))))
 (c_ret (c_yR (c_and (c_call (c_qcons (c_var 2) c_qnil)) (c_and (c_call (c_qcons (c_var 3) c_qnil)) (c_ch3 (c_c (v := .int 0) rfl) (c_var 2) (c_var 3) (c_var 0))))))))
theorem ok_web_fault (B : Bn mg) (T : Tp kf.K mg "web_fault" s_web_fault) (d_is_whole : Dq P w kf.K mg base "is_whole" 1 ["thing"] (spP 1 m_is_whole)) (d_joins_places : Dq P w kf.K mg base "joins_places" 2 ["many", "thing"] (spP 2 m_joins_places)) : FnQ P w kf.K mg base CX0 3 T.a T.fd ["thing"] (spP 1 m_web_fault) := by
  refine fnq_of T.F sc_web_fault (spP_len rfl) fun cdv A outer s H vs Q E hr hg h => ?_
  refine ⟨_, PSs.nox (pss_cons (ps_if (PW.pt (pw_or (pt_not (pt_val (pe_callB (call_isiKK (K := kf.K) rfl) (by rfl) B.n_isinstance (by decide +kernel) (pa_cons (pv 0) (pa_cons (pe_bltn (v := .ty "tuple") (u := .type "tuple") (by rfl) B.n_tuple (by decide +kernel) rfl) pa_nil))))) (pw_or1 (pt_cmpR op_ne (pe_callB (call_len_seqK (K := kf.K) rfl) (by rfl) B.n_len PySem.boot_len (pa_cons (pv 0) pa_nil)) pe_int (nomark _)))))
 (pss_one (ps_ret (pe_tup (pa_cons pe_str (pa_cons pe_non pa_nil)))))
 pss_nil)
 (pss_cons (ps_asg (pv 0) (pg_tup rfl (pgs_cons (pg_name (i := 1) sc_web_fault.nd rfl (Or.inl rfl)) (pgs_cons (pg_name (i := 2) sc_web_fault.nd rfl (Or.inl rfl)) pgs_nil))))
 (pss_cons (ps_if (PW.pt (pw_or (pt_not (pt_val (pe_callQ d_is_whole.G (hr.mono (by decide)) hg (by rfl) d_is_whole.g d_is_whole.kp d_is_whole.b pass0 (pa_cons (pv 1) pa_nil)))) (pw_or1 (pt_not (pt_chain op_le op_le pe_int (pv 1) (pe_glob (v := .int 40) rfl B.c_MOST_PLACES.choose_spec ⟨_, rfl⟩))))))
 (pss_one (ps_ret (pe_tup (pa_cons pe_str (pa_cons pe_non pa_nil)))))
 pss_nil)
 (pss_cons (ps_if (PW.pt (pw_or (pt_not (pt_val (pe_callB (call_isiKK (K := kf.K) rfl) (by rfl) B.n_isinstance (by decide +kernel) (pa_cons (pv 2) (pa_cons (pe_bltn (v := .ty "list") (u := .type "list") (by rfl) B.n_list (by decide +kernel) rfl) pa_nil))))) (pw_or1 (pt_cmpR op_gt (pe_callB (call_len_seqK (K := kf.K) rfl) (by rfl) B.n_len PySem.boot_len (pa_cons (pv 2) pa_nil)) (pe_glob (v := .int 120) rfl B.c_MOST_TIES.choose_spec ⟨_, rfl⟩) (nomark _)))))
 (pss_one (ps_ret (pe_tup (pa_cons pe_str (pa_cons pe_non pa_nil)))))
 pss_nil)
 (pss_cons (ps_for PassesOwn.never rfl (pi_enum (by rfl) B.n_enumerate (pa_cons (pv 2) pa_nil)) (pg_tup rfl (pgs_cons (pg_name (i := 3) sc_web_fault.nd rfl (Or.inl rfl)) (pgs_cons (pg_name (i := 4) sc_web_fault.nd rfl (Or.inl rfl)) pgs_nil)))
 (pss_one (ps_if (PW.pt (pw_or (pt_not (pt_val (pe_callQ d_joins_places.G (hr.mono (by decide)) hg (by rfl) d_joins_places.g d_joins_places.kp d_joins_places.b pass0 (pa_cons (pv 1) (pa_cons (pv 4) pa_nil))))) (pw_or1 (PW.pt (pw_and (pt_cmpR op_gt (pv 3) pe_int (nomark _)) (pw_and1 (pt_cmpR (op_leTK (K := kf.K) rfl hr.units0) (pv 4) (pe_ix (ix_listK (K := kf.K) rfl) (pv 2) (pe_op op_sub (pv 3) pe_int) (fun _ _ => rfl)) (nomark _))))))))
 (pss_one (ps_ret (pe_tup (pa_cons pe_str (pa_cons (pv 3) pa_nil)))))
 pss_nil)))
 (pss_one (ps_ret pe_non))))))), tie_plain (n := 1) (k := 4) (B := SH.B_web_fault) rfl ?_ h⟩
  exact (c_seq (c_sif (c_tR (c_bOr (c_bNot (c_bB (c_is (c_var 0)))) (c_bR (c_op o_neI (c_cb b_len (c_qcons (c_var 0) c_qnil)) (c_c (v := .int 2) rfl)))))
 (c_ret (c_ytup (c_ocons (c_yR (c_c (v := .str "web") rfl)) (c_ocons (c_yR (c_c (v := .non) rfl)) c_onil))))
 c_next)
 (c_seq (c_asgG (c_dY (c_yvar 0)) (c_gtup (c_gscons (c_gname 1) (c_gscons (c_gname 2) c_gsnil))))
 (c_seq (c_sif (c_tR (c_bOr (c_bNot (c_bB (c_call (c_qcons (c_var 1) c_qnil)))) (c_bNot (c_bR (c_ch (c_c (v := .int 1) rfl) (c_var 1) (c_c (v := .int 40) rfl))))))
 (c_ret (c_ytup (c_ocons (c_yR (c_c (v := .str "places") rfl)) (c_ocons (c_yR (c_c (v := .non) rfl)) c_onil))))
 c_next)
 (c_seq (c_sif (c_tR (c_bOr (c_bNot (c_bB (c_is (c_var 2)))) (c_bR (c_op o_gt (c_cb b_len (c_qcons (c_var 2) c_qnil)) (c_c (v := .int 120) rfl)))))
 (c_ret (c_ytup (c_ocons (c_yR (c_c (v := .str "ties") rfl)) (c_ocons (c_yR (c_c (v := .non) rfl)) c_onil))))
 c_next)
 (c_seq (c_for (c_iE (c_lcons (c_dY (c_yvar 2)) c_lnil)) (c_gtup (c_gscons (c_gname 3) (c_gscons (c_gname 4) c_gsnil)))
 (c_sif (c_tR (c_bOr (c_bNot (c_bB (c_call (c_qcons (c_var 1) (c_qcons (c_var 4) c_qnil))))) (c_bAnd (c_bR (c_op o_gt (c_var 3) (c_c (v := .int 0) rfl))) (c_bR (c_op o_leT (c_var 4) (c_ix x_list (c_var 2) (c_op o_sub (c_var 3) (c_c (v := .int 1) rfl))))))))
 (c_ret (c_ytup (c_ocons (c_yR (c_c (v := .str "ties") rfl)) (c_ocons (c_ymov 3) c_onil))))
 c_next))
 (c_ret (c_yR (c_c (v := .non) rfl))))))))
theorem ok_look_at_web (B : Bn mg) (T : Tp kf.K mg "look_at_web" s_look_at_web) (d_web_fault : Dq P w kf.K mg base "web_fault" 3 ["thing"] (spP 1 m_web_fault)) : FnQ P w kf.K mg base CX0 4 T.a T.fd ["thing"] (spP 1 m_look_at_web) := by
  refine fnq_of T.F sc_look_at_web (spP_len rfl) fun cdv A outer s H vs Q E hr hg h => ?_
  refine ⟨_, PSs.nox (pss_cons (ps_set (i := 1) sc_look_at_web.nd rfl (Or.inl rfl) (pe_callQ d_web_fault.G (hr.mono (by decide)) hg (by rfl) d_web_fault.g d_web_fault.kp d_web_fault.b pass0 (pa_cons (pv 0) pa_nil)))
 (pss_one (ps_if (pt_cmpR op_notN (pv 1) pe_non (nomark _))
 (pss_cons (ps_asg (pv 1) (pg_tup rfl (pgs_cons (pg_name (i := 2) sc_look_at_web.nd rfl (Or.inl rfl)) (pgs_cons (pg_name (i := 3) sc_look_at_web.nd rfl (Or.inl rfl)) pgs_nil))))
 (pss_one ps_never))
 pss_nil))), tie_plain (n := 1) (k := 3) (B := SH.B_look_at_web) rfl ?_ h⟩
  exact (c_seq (c_asg (c_ycallA (c_qcons (c_var 0) c_qnil) (c_lcons (c_dY (c_yvar 0)) c_lnil)))
 (c_sif (c_tR (c_bR (c_op o_notN (c_var 1) (c_c (v := .non) rfl))))
 (c_seq (c_asgG (c_dY (c_yvar 1)) (c_gtup (c_gscons (c_gname 2) (c_gscons (c_gname 3) c_gsnil))))
 (c_never _))
 c_next))
theorem ok_count_ties (B : Bn mg) (T : Tp kf.K mg "count_ties" s_count_ties) : FnQ P w kf.K mg base CX0 1 T.a T.fd ["webs"] (spP 1 m_count_ties) := by
  refine fnq_of T.F sc_count_ties (spP_len rfl) fun cdv A outer s H vs Q E hr hg h => ?_
  refine ⟨_, PSs.nox (pss_cons (ps_set (i := 1) sc_count_ties.nd rfl (Or.inl rfl) pe_int)
 (pss_cons (ps_set (i := 2) sc_count_ties.nd rfl (Or.inl rfl) pe_int)
 (pss_cons (ps_for PassesOwn.never rfl (pi_listK (K := kf.K) rfl (pv 0)) (pg_tup rfl (pgs_cons (pg_name (i := 3) sc_count_ties.nd rfl (Or.inl rfl)) (pgs_cons (pg_name (i := 4) sc_count_ties.nd rfl (Or.inl rfl)) pgs_nil)))
 (pss_cons (ps_set (i := 2) sc_count_ties.nd rfl (Or.inl rfl) (pe_op op_add (pe_op op_mul (pv 2) (pv 3)) (pe_op op_mul (pv 1) (pe_callB (call_len_seqK (K := kf.K) rfl) (by rfl) B.n_len PySem.boot_len (pa_cons (pv 4) pa_nil)))))
 (pss_one (ps_set (i := 1) sc_count_ties.nd rfl (Or.inl rfl) (pe_op op_mul (pv 1) (pv 3))))))
 (pss_one (ps_ret (pv 2)))))), tie_plain (n := 1) (k := 4) (B := SH.B_count_ties) rfl ?_ h⟩
  exact (c_seq (c_asg (c_yR (c_c (v := .int 1) rfl)))
 (c_seq (c_asg (c_yR (c_c (v := .int 0) rfl)))
 (c_seq (c_for (c_iL (c_dY (c_yvar 0))) (c_gtup (c_gscons (c_gname 3) (c_gscons (c_gname 4) c_gsnil)))
 (c_seq (c_asg (c_yR (c_op o_add (c_op o_mul (c_var 2) (c_var 3)) (c_op o_mul (c_var 1) (c_cb b_len (c_qcons (c_var 4) c_qnil))))))
 (c_asg (c_yR (c_op o_mul (c_var 1) (c_var 3))))))
 (c_ret (c_ymov 2)))))
theorem ok_count_rows (B : Bn mg) (T : Tp kf.K mg "count_rows" s_count_rows) : FnQ P w kf.K mg base CX0 1 T.a T.fd ["webs"] (spP 1 m_count_rows) := by
  refine fnq_of T.F sc_count_rows (spP_len rfl) fun cdv A outer s H vs Q E hr hg h => ?_
  refine ⟨_, PSs.nox (pss_cons (ps_set (i := 1) sc_count_rows.nd rfl (Or.inl rfl) pe_int)
 (pss_cons (ps_for PassesOwn.never rfl (pi_listK (K := kf.K) rfl (pv 0)) (pg_name (i := 2) sc_count_rows.nd rfl (Or.inl rfl))
 (pss_one (ps_set (i := 1) sc_count_rows.nd rfl (Or.inl rfl) (pe_op op_mul (pv 1) (pe_ix (ix_tupK (K := kf.K) rfl) (pv 2) pe_int (fun _ _ => rfl))))))
 (pss_one (ps_ret (pv 1))))), tie_plain (n := 1) (k := 2) (B := SH.B_count_rows) rfl ?_ h⟩
  exact (c_seq (c_asg (c_yR (c_c (v := .int 1) rfl)))
 (c_seq (c_for (c_iL (c_dY (c_yvar 0))) (c_gname 2)
 (c_asg (c_yR (c_op o_mul (c_var 1) (c_ix x_tup (c_var 2) (c_c (v := .int 0) rfl))))))
 (c_ret (c_ymov 1))))
theorem ok_look_at_size (B : Bn mg) (T : Tp kf.K mg "look_at_size" s_look_at_size) (d_count_ties : Dq P w kf.K mg base "count_ties" 1 ["webs"] (spP 1 m_count_ties)) (d_count_rows : Dq P w kf.K mg base "count_rows" 1 ["webs"] (spP 1 m_count_rows)) : FnQ P w kf.K mg base CX0 2 T.a T.fd ["webs"] (spP 1 m_look_at_size) := by
  refine fnq_of T.F sc_look_at_size (spP_len rfl) fun cdv A outer s H vs Q E hr hg h => ?_
  refine ⟨_, PSs.nox (pss_one (ps_if (PW.pt (pw_or (pt_cmpR op_gt (pe_callQ d_count_rows.G (hr.mono (by decide)) hg (by rfl) d_count_rows.g d_count_rows.kp d_count_rows.b pass0 (pa_cons (pv 0) pa_nil)) (pe_glob (v := .int 40) rfl B.c_MOST_PLACES.choose_spec ⟨_, rfl⟩) (nomark _)) (pw_or1 (pt_cmpR op_gt (pe_callQ d_count_ties.G (hr.mono (by decide)) hg (by rfl) d_count_ties.g d_count_ties.kp d_count_ties.b pass0 (pa_cons (pv 0) pa_nil)) (pe_glob (v := .int 120) rfl B.c_MOST_TIES.choose_spec ⟨_, rfl⟩) (nomark _)))))
 (pss_one ps_never)
 pss_nil)), tie_plain (n := 1) (k := 0) (B := SH.B_look_at_size) rfl ?_ h⟩
  exact (c_sif (c_tR (c_bOr (c_bR (c_op o_gt (c_call (c_qcons (c_var 0) c_qnil)) (c_c (v := .int 40) rfl))) (c_bR (c_op o_gt (c_call (c_qcons (c_var 0) c_qnil)) (c_c (v := .int 120) rfl)))))
 (c_never _)
 c_next)
theorem ok_multiplied (B : Bn mg) (T : Tp kf.K mg "multiplied" s_multiplied) (d_look_at_size : Dq P w kf.K mg base "look_at_size" 2 ["webs"] (spP 1 m_look_at_size)) : FnQ P w kf.K mg base CX0 3 T.a T.fd ["webs"] (spP 1 m_multiplied) := by
  refine fnq_of T.F sc_multiplied (spP_len rfl) fun cdv A outer s H vs Q E hr hg h => ?_
  refine ⟨_, PSs.nox (pss_cons (ps_expr (pe_callQ d_look_at_size.G (hr.mono (by decide)) hg (by rfl) d_look_at_size.g d_look_at_size.kp d_look_at_size.b pass0 (pa_cons (pv 0) pa_nil)))
 (pss_cons (ps_set (i := 1) sc_multiplied.nd rfl (Or.inl rfl) pe_int)
 (pss_cons (ps_set (i := 2) sc_multiplied.nd rfl (Or.inl rfl) (pe_lst pa_nil))
 (pss_cons (ps_for PassesOwn.never rfl (pi_listK (K := kf.K) rfl (pv 0)) (pg_tup rfl (pgs_cons (pg_name (i := 3) sc_multiplied.nd rfl (Or.inr rfl)) (pgs_cons (pg_name (i := 4) sc_multiplied.nd rfl (Or.inr rfl)) pgs_nil)))
 (pss_cons (ps_setLc2 (i := 5) (own := [("one", 6), ("other", 7), ("at", 8)]) (vs1 := [8]) rfl sc_multiplied.nd rfl rfl (sw_true rfl rfl rfl (by decide +kernel)) (pi_listK (K := kf.K) rfl (pv 2)) (blkOk_by (own := [("one", 6), ("other", 7), ("at", 8)]) (N := ["webs", "many", "ties", "own_many", "own_ties", "across", "one", "other", "at", "along"]) (sc := defScope s_multiplied) (by decide +kernel)) (by decide) (fun _ _ _ _ _ => (pg_tupK (K := kf.K) (n := 2) rfl rfl (pgs_cons (pg_name (i := 6) sc_multiplied.nd rfl (Or.inl rfl)) (pgs_cons (pg_name (i := 7) sc_multiplied.nd rfl (Or.inl rfl)) pgs_nil)))) (fun _ _ _ _ _ => pts_nil) (fun _ _ _ _ _ => (pi_range1 (by rfl) B.n_range (pa_cons (pv 3) pa_nil))) (fun _ _ _ _ _ => (pg_name (i := 8) sc_multiplied.nd rfl (Or.inl rfl))) (fun _ _ _ _ _ => pts_nil) (fun _ _ _ _ _ => (pe_tup (pa_cons (pe_op op_add (pe_op op_mul (pv 6) (pv 3)) (pv 8)) (pa_cons (pe_op op_add (pe_op op_mul (pv 7) (pv 3)) (pv 8)) pa_nil)))))
 (pss_cons (ps_setLc2 (i := 9) (own := [("at", 8), ("one", 6), ("other", 7)]) (vs1 := [6, 7]) rfl sc_multiplied.nd rfl rfl (sw_true rfl rfl rfl (by decide +kernel)) (pi_range1 (by rfl) B.n_range (pa_cons (pv 1) pa_nil)) (blkOk_by (own := [("at", 8), ("one", 6), ("other", 7)]) (N := ["webs", "many", "ties", "own_many", "own_ties", "across", "one", "other", "at", "along"]) (sc := defScope s_multiplied) (by decide +kernel)) (by decide) (fun _ _ _ _ _ => (pg_name (i := 8) sc_multiplied.nd rfl (Or.inl rfl))) (fun _ _ _ _ _ => pts_nil) (fun _ _ _ _ _ => (pi_listK (K := kf.K) rfl (pv 4))) (fun _ _ _ _ _ => (pg_tupK (K := kf.K) (n := 2) rfl rfl (pgs_cons (pg_name (i := 6) sc_multiplied.nd rfl (Or.inl rfl)) (pgs_cons (pg_name (i := 7) sc_multiplied.nd rfl (Or.inl rfl)) pgs_nil)))) (fun _ _ _ _ _ => pts_nil) (fun _ _ _ _ _ => (pe_tup (pa_cons (pe_op op_add (pe_op op_mul (pv 8) (pv 3)) (pv 6)) (pa_cons (pe_op op_add (pe_op op_mul (pv 8) (pv 3)) (pv 7)) pa_nil)))))
 (pss_cons (ps_set (i := 1) sc_multiplied.nd rfl (Or.inl rfl) (pe_op op_mul (pv 1) (pv 3)))
 (pss_one (ps_set (i := 2) sc_multiplied.nd rfl (Or.inl rfl) (pe_callB (cr_sortA (K := kf.K) rfl (hu65 hr)) (by rfl) B.n_sorted (by decide +kernel) (pa_cons (pe_op (op_catRK (K := kf.K) rfl) (pv 5) (pv 9)) pa_nil))))))))
 (pss_one (ps_ret (pe_tup (pa_cons (pv 1) (pa_cons (pv 2) pa_nil))))))))), tie_plain (n := 1) (k := 9) (B := SH.B_multiplied) rfl ?_ h⟩
  exact (c_seq (c_drop (c_ycallA (c_qcons (c_var 0) c_qnil) (c_lcons (c_dY (c_yvar 0)) c_lnil)))
 (c_seq (c_asg (c_yR (c_c (v := .int 1) rfl)))
 (c_seq (c_asg (c_ylst c_onil))
 (c_seq (c_for (c_iL (c_dY (c_yvar 0))) (c_gtup (c_gscons (c_gname 3) (c_gscons (c_gname 4) c_gsnil)))
 (c_seq (c_asg (c_ylc2 (vs := [6, 7, 8]) (vs1 := [8]) (c_iL (c_dY (c_yvar 2))) (c_gtup (c_gscons (c_gname 6) (c_gscons (c_gname 7) c_gsnil))) (by decide) c_tyes (c_iR1 (c_lcons (c_dY (c_yvar 3)) c_lnil)) (c_gname 8) (by decide) (by decide) c_tyes (c_ytup (c_ocons (c_yR (c_op o_add (c_op o_mul (c_var 6) (c_var 3)) (c_var 8))) (c_ocons (c_yR (c_op o_add (c_op o_mul (c_var 7) (c_var 3)) (c_var 8))) c_onil)))))
 (c_seq (c_asg (c_ylc2 (vs := [8, 6, 7]) (vs1 := [6, 7]) (c_iR1 (c_lcons (c_dY (c_yvar 1)) c_lnil)) (c_gname 8) (by decide) c_tyes (c_iL (c_dY (c_yvar 4))) (c_gtup (c_gscons (c_gname 6) (c_gscons (c_gname 7) c_gsnil))) (by decide) (by decide) c_tyes (c_ytup (c_ocons (c_yR (c_op o_add (c_op o_mul (c_var 8) (c_var 3)) (c_var 6))) (c_ocons (c_yR (c_op o_add (c_op o_mul (c_var 8) (c_var 3)) (c_var 7))) c_onil)))))
 (c_seq (c_asg (c_yR (c_op o_mul (c_var 1) (c_var 3))))
 (c_asg (c_ycbA z_sortA (c_qcons (c_rOpZ z_cat (c_var 5) (c_var 9)) c_qnil) (c_lcons (c_dY (c_yopA z_cat (c_var 5) (c_var 9) (c_dY (c_yvar 5)) (c_dY (c_yvar 9)))) c_lnil)))))))
 (c_ret (c_ytup (c_ocons (c_ymov 1) (c_ocons (c_ymov 2) c_onil))))))))
theorem ok_power (B : Bn mg) (T : TpD kf.K mg "power" s_power 1) (d_look_at_web : Dq P w kf.K mg base "look_at_web" 4 ["thing"] (spP 1 m_look_at_web)) (d_multiplied : Dq P w kf.K mg base "multiplied" 3 ["webs"] (spP 1 m_multiplied)) : FnQ P w kf.K mg base CX0 5 T.a T.fd ["web", "times"] (spP 2 m_power) := by
  refine fnq_ofV T.F.toV sc_power (spP_len rfl) fun cdv A outer s H vs Q E hr hg h => ?_
  refine ⟨_, PSs.nox (pss_cons (ps_expr (pe_callQ d_look_at_web.G (hr.mono (by decide)) hg (by rfl) d_look_at_web.g d_look_at_web.kp d_look_at_web.b pass0 (pa_cons (pv 0) pa_nil)))
 (pss_one (ps_ret (pe_callQ d_multiplied.G (hr.mono (by decide)) hg (by rfl) d_multiplied.g d_multiplied.kp d_multiplied.b pass0 (pa_cons (pe_lc (own := [("_", 2)]) rfl sc_power.nd (pi_range1 (by rfl) B.n_range (pa_cons (pv 1) pa_nil)) (blkOk_by (own := [("_", 2)]) (N := ["web", "times", "_"]) (sc := defScope s_power) (by decide +kernel)) (fun _ _ _ _ _ => (pg_name (i := 2) sc_power.nd rfl (Or.inl rfl))) (fun _ _ _ _ _ => pts_nil) (fun _ _ _ _ _ => (pv 0))) pa_nil))))), tie_plain (n := 2) (k := 1) (B := SH.B_power) rfl ?_ h⟩
  exact (c_seq (c_drop (c_ycallA (c_qcons (c_var 0) c_qnil) (c_lcons (c_dY (c_yvar 0)) c_lnil)))
 (c_ret (c_ycall (c_lcons (c_dY (c_ylc (vs := [2]) (c_iR1 (c_lcons (c_dY (c_yvar 1)) c_lnil)) (c_gname 2) (by decide) c_tyes (c_yvar 0))) c_lnil))))
theorem ok_look_at_webs (B : Bn mg) (T : Tp kf.K mg "look_at_webs" s_look_at_webs) (d_web_fault : Dq P w kf.K mg base "web_fault" 3 ["thing"] (spP 1 m_web_fault)) : FnQ P w kf.K mg base CX0 4 T.a T.fd ["thing"] (spP 1 m_look_at_webs) := by
  refine fnq_of T.F sc_look_at_webs (spP_len rfl) fun cdv A outer s H vs Q E hr hg h => ?_
  refine ⟨_, PSs.nox (pss_cons (ps_if (PW.pt (pw_or (pt_not (pt_val (pe_callB (call_isiKK (K := kf.K) rfl) (by rfl) B.n_isinstance (by decide +kernel) (pa_cons (pv 0) (pa_cons (pe_bltn (v := .ty "list") (u := .type "list") (by rfl) B.n_list (by decide +kernel) rfl) pa_nil))))) (pw_or1 (pt_cmpR op_gt (pe_callB (call_len_seqK (K := kf.K) rfl) (by rfl) B.n_len PySem.boot_len (pa_cons (pv 0) pa_nil)) (pe_glob (v := .int 12) rfl B.c_MOST_WEBS.choose_spec ⟨_, rfl⟩) (nomark _)))))
 (pss_one ps_never)
 pss_nil)
 (pss_one (ps_for PassesOwn.never rfl (pi_enum (by rfl) B.n_enumerate (pa_cons (pv 0) pa_nil)) (pg_tup rfl (pgs_cons (pg_name (i := 1) sc_look_at_webs.nd rfl (Or.inl rfl)) (pgs_cons (pg_name (i := 2) sc_look_at_webs.nd rfl (Or.inl rfl)) pgs_nil)))
 (pss_one (ps_if (pt_cmpR op_notN (pe_callQ d_web_fault.G (hr.mono (by decide)) hg (by rfl) d_web_fault.g d_web_fault.kp d_web_fault.b pass0 (pa_cons (pv 2) pa_nil)) pe_non (nomark _))
 (pss_one ps_never)
 pss_nil))))), tie_plain (n := 1) (k := 2) (B := SH.B_look_at_webs) rfl ?_ h⟩
  exact (c_seq (c_sif (c_tR (c_bOr (c_bNot (c_bB (c_is (c_var 0)))) (c_bR (c_op o_gt (c_cb b_len (c_qcons (c_var 0) c_qnil)) (c_c (v := .int 12) rfl)))))
 (c_never _)
 c_next)
 (c_for (c_iE (c_lcons (c_dY (c_yvar 0)) c_lnil)) (c_gtup (c_gscons (c_gname 1) (c_gscons (c_gname 2) c_gsnil)))
 (c_sif (c_tR (c_bR (c_op o_notN (c_call (c_qcons (c_var 2) c_qnil)) (c_c (v := .non) rfl))))
 (c_never _)
 c_next)))
theorem ok_product (B : Bn mg) (T : Tp kf.K mg "product" s_product) (d_look_at_webs : Dq P w kf.K mg base "look_at_webs" 4 ["thing"] (spP 1 m_look_at_webs)) (d_multiplied : Dq P w kf.K mg base "multiplied" 3 ["webs"] (spP 1 m_multiplied)) : FnQ P w kf.K mg base CX0 5 T.a T.fd ["webs"] (spP 1 m_product) := by
  refine fnq_of T.F sc_product (spP_len rfl) fun cdv A outer s H vs Q E hr hg h => ?_
  refine ⟨_, PSs.nox (pss_cons (ps_expr (pe_callQ d_look_at_webs.G (hr.mono (by decide)) hg (by rfl) d_look_at_webs.g d_look_at_webs.kp d_look_at_webs.b pass0 (pa_cons (pv 0) pa_nil)))
 (pss_one (ps_ret (pe_callQ d_multiplied.G (hr.mono (by decide)) hg (by rfl) d_multiplied.g d_multiplied.kp d_multiplied.b pass0 (pa_cons (pv 0) pa_nil))))), tie_plain (n := 1) (k := 0) (B := SH.B_product) rfl ?_ h⟩
  exact (c_seq (c_drop (c_ycallA (c_qcons (c_var 0) c_qnil) (c_lcons (c_dY (c_yvar 0)) c_lnil)))
 (c_ret (c_ycallA (c_qcons (c_var 0) c_qnil) (c_lcons (c_dY (c_yvar 0)) c_lnil))))
theorem ok__law_powers (B : Bn mg) (T : Tp kf.K mg "_law_powers" s__law_powers) (d__law_loose : Dq P w kf.K mg base "_law_loose" 3 ["_law_pool_here", "_law_most", "_law_more"] (spI 3 m__law_loose)) (d__law_fits : Dq P w kf.K mg base "_law_fits" 1 ["_law_webs"] (spP 1 m__law_fits)) (d_power : Dq P w kf.K mg base "power" 5 ["web", "times"] (spP 2 m_power)) (d_product : Dq P w kf.K mg base "product" 5 ["webs"] (spP 1 m_product)) (k_power_times : KBinds kf.K d_power.fd ["web", "times"] ["times"] (gApp 1 1) (gApp 1 1)) : FnQ P w kf.K mg base CX0 6 T.a T.fd ["_law_pool_here"] (spI 1 m__law_powers) := by
  refine fnq_of T.F sc__law_powers (spI_len rfl) fun cdv A outer s H vs Q E hr hg h => ?_
  refine ⟨_, PSs.nox (pss_cons (ps_set (i := 1) sc__law_powers.nd rfl (Or.inl rfl) (pe_callQ d__law_loose.G (hr.mono (by decide)) hg (by rfl) d__law_loose.g d__law_loose.kp d__law_loose.b pass0 (pa_cons (pv 0) (pa_cons pe_int (pa_cons pe_int pa_nil)))))
 (pss_cons (ps_set (i := 2) sc__law_powers.nd rfl (Or.inl rfl) pe_int)
 (pss_cons (ps_while PassesOwn.never (PW.pt (pw_and (pt_cmpR op_lt (pv 2) pe_int (nomark _)) (pw_and1 (pt_val (pe_callQ d__law_fits.G (hr.mono (by decide)) hg (by rfl) d__law_fits.g d__law_fits.kp d__law_fits.b pass0 (pa_cons (pe_op op_rep (pe_lst (pa_cons (pv 1) pa_nil)) (pe_op op_add (pv 2) pe_int)) pa_nil))))))
 (pss_cons (ps_if (pt_cmpR op_ne (pe_callB (cr_reprK (K := kf.K) rfl hg hr.units) (by rfl) B.n_repr (by decide +kernel) (pa_cons (pe_callQ d_power.G (hr.mono (by decide)) hg (by rfl) d_power.g d_power.kp d_power.b pass0 (pa_cons (pv 1) (pa_cons (pv 2) pa_nil))) pa_nil)) (pe_callB (cr_reprK (K := kf.K) rfl hg hr.units) (by rfl) B.n_repr (by decide +kernel) (pa_cons (pe_callQ d_product.G (hr.mono (by decide)) hg (by rfl) d_product.g d_product.kp d_product.b pass0 (pa_cons (pe_op op_rep (pe_lst (pa_cons (pv 1) pa_nil)) (pv 2)) pa_nil)) pa_nil)) (nomark _))
 (pss_one (ps_ret pe_bl))
 pss_nil)
 (pss_one (ps_set (i := 2) sc__law_powers.nd rfl (Or.inl rfl) (pe_op op_add (pv 2) pe_int)))))
 (pss_cons (ps_set (i := 3) sc__law_powers.nd rfl (Or.inl rfl) (pe_lst (pa_cons (pe_callQ d_power.G (hr.mono (by decide)) hg (by rfl) d_power.g d_power.kp d_power.b pass0 (pa_cons (pv 1) (pa_cons (pe_op op_sub (pv 2) (pe_op op_fdiv (pv 2) pe_int)) pa_nil))) (pa_cons (pe_callQK d_power.G (hr.mono (by decide)) hg (by rfl) d_power.g d_power.kp k_power_times pass0 (pa_cons (pv 1) pa_nil) (pk_cons (pe_op op_fdiv (pv 2) pe_int) pk_nil)) pa_nil))))
 (pss_one (ps_ret (pe_cmpR op_eq (pe_callB (cr_reprK (K := kf.K) rfl hg hr.units) (by rfl) B.n_repr (by decide +kernel) (pa_cons (pe_callQK d_power.G (hr.mono (by decide)) hg (by rfl) d_power.g d_power.kp k_power_times pass0 (pa_cons (pv 1) pa_nil) (pk_cons (pv 2) pk_nil)) pa_nil)) (pe_callB (cr_reprK (K := kf.K) rfl hg hr.units) (by rfl) B.n_repr (by decide +kernel) (pa_cons (pe_callQ d_product.G (hr.mono (by decide)) hg (by rfl) d_product.g d_product.kp d_product.b pass0 (pa_cons (pv 3) pa_nil)) pa_nil)) (nomark _)))))))), tie_io (n := 1) (k := 3) (B := B__law_powers) rfl ?_ h⟩
  exact (c_seq (c_asg (c_ycallI (c_lcons (c_dR (c_c (v := .int 4) rfl)) (c_lcons (c_dR (c_c (v := .int 2) rfl)) c_lnil))))
 (c_seq (c_asg (c_yR (c_c (v := .int 0) rfl)))
 (c_seq (c_while (c_tand (c_tR (c_bR (c_op o_lt (c_var 2) (c_c (v := .int 12) rfl)))) (c_tDB (c_dY (c_ycall (c_lcons (c_dY (c_yrep (c_ylst (c_ocons (c_yvar 1) c_onil)) (c_op o_add (c_var 2) (c_c (v := .int 1) rfl)))) c_lnil)))))
 (c_seq (c_sif (c_tD (c_dop o_neS (c_dR (c_repr (c_call (c_qcons (c_var 1) (c_qcons (c_var 2) c_qnil))))) (c_drepr (c_dY (c_ycall (c_lcons (c_dY (c_yrep (c_ylst (c_ocons (c_yvar 1) c_onil)) (c_var 2))) c_lnil))))))
 (c_ret (c_yR (c_c (v := .bl false) rfl)))
 c_next)
 (c_asg (c_yR (c_op o_add (c_var 2) (c_c (v := .int 1) rfl))))))
 (c_seq (c_asg (c_ylst (c_ocons (c_ycallA (c_qcons (c_var 1) (c_qcons (c_op o_sub (c_var 2) (c_op o_div (c_var 2) (c_c (v := .int 2) rfl))) c_qnil)) (c_lcons (c_dY (c_yvar 1)) (c_lcons (c_dR (c_op o_sub (c_var 2) (c_op o_div (c_var 2) (c_c (v := .int 2) rfl)))) c_lnil))) (c_ocons (c_ycallKA (c_qcons (c_var 1) c_qnil) (c_qcons (c_op o_div (c_var 2) (c_c (v := .int 2) rfl)) c_qnil) (c_lcons (c_dY (c_yvar 1)) c_lnil) (c_lcons (c_dR (c_op o_div (c_var 2) (c_c (v := .int 2) rfl))) c_lnil)) c_onil))))
 (c_ret (c_yR (c_op o_eqS (c_repr (c_callK (c_qcons (c_var 1) c_qnil) (c_qcons (c_var 2) c_qnil))) (c_repr (c_call (c_qcons (c_var 3) c_qnil))))))))))
theorem ok_places_of (B : Bn mg) (T : Tp kf.K mg "places_of" s_places_of) (d_look_at_webs : Dq P w kf.K mg base "look_at_webs" 4 ["thing"] (spP 1 m_look_at_webs)) (d_count_rows : Dq P w kf.K mg base "count_rows" 1 ["webs"] (spP 1 m_count_rows)) : FnQ P w kf.K mg base CX0 5 T.a T.fd ["webs"] (spP 1 m_places_of) := by
  refine fnq_of T.F sc_places_of (spP_len rfl) fun cdv A outer s H vs Q E hr hg h => ?_
  refine ⟨_, PSs.nox (pss_cons (ps_expr (pe_callQ d_look_at_webs.G (hr.mono (by decide)) hg (by rfl) d_look_at_webs.g d_look_at_webs.kp d_look_at_webs.b pass0 (pa_cons (pv 0) pa_nil)))
 (pss_one (ps_ret (pe_callQ d_count_rows.G (hr.mono (by decide)) hg (by rfl) d_count_rows.g d_count_rows.kp d_count_rows.b pass0 (pa_cons (pv 0) pa_nil))))), tie_plain (n := 1) (k := 0) (B := SH.B_places_of) rfl ?_ h⟩
  exact (c_seq (c_drop (c_ycallA (c_qcons (c_var 0) c_qnil) (c_lcons (c_dY (c_yvar 0)) c_lnil)))
 (c_ret (c_ycallA (c_qcons (c_var 0) c_qnil) (c_lcons (c_dY (c_yvar 0)) c_lnil))))
end
end z14

namespace z14
open PySem L2 PL MR SH
open PySem L2 PL
local macro_rules | `(tactic| walk_at "sd") => `(tactic| first | rfl | assumption | omega | decide)

section
variable {P : Program} {w : World} [kf : KF] {mg : Str → Option Value} {base : Heap}
theorem ok_ties_of (B : Bn mg) (T : Tp kf.K mg "ties_of" s_ties_of) (d_look_at_webs : Dq P w kf.K mg base "look_at_webs" 4 ["thing"] (spP 1 m_look_at_webs)) (d_count_ties : Dq P w kf.K mg base "count_ties" 1 ["webs"] (spP 1 m_count_ties)) : FnQ P w kf.K mg base CX0 5 T.a T.fd ["webs"] (spP 1 m_ties_of) := by
  refine fnq_of T.F sc_ties_of (spP_len rfl) fun cdv A outer s H vs Q E hr hg h => ?_
  refine ⟨_, PSs.nox (pss_cons (ps_expr (pe_callQ d_look_at_webs.G (hr.mono (by decide)) hg (by rfl) d_look_at_webs.g d_look_at_webs.kp d_look_at_webs.b pass0 (pa_cons (pv 0) pa_nil)))
 (pss_one (ps_ret (pe_callQ d_count_ties.G (hr.mono (by decide)) hg (by rfl) d_count_ties.g d_count_ties.kp d_count_ties.b pass0 (pa_cons (pv 0) pa_nil))))), tie_plain (n := 1) (k := 0) (B := SH.B_ties_of) rfl ?_ h⟩
  exact (c_seq (c_drop (c_ycallA (c_qcons (c_var 0) c_qnil) (c_lcons (c_dY (c_yvar 0)) c_lnil)))
 (c_ret (c_ycallA (c_qcons (c_var 0) c_qnil) (c_lcons (c_dY (c_yvar 0)) c_lnil))))
theorem ok__law_sums (B : Bn mg) (T : Tp kf.K mg "_law_sums" s__law_sums) (d__law_take : Dq P w kf.K mg base "_law_take" 1 ["_law_pool_here", "_law_many"] (spI 2 m__law_take)) (d__law_loose : Dq P w kf.K mg base "_law_loose" 3 ["_law_pool_here", "_law_most", "_law_more"] (spI 3 m__law_loose)) (d_places_of : Dq P w kf.K mg base "places_of" 5 ["webs"] (spP 1 m_places_of)) (d_ties_of : Dq P w kf.K mg base "ties_of" 5 ["webs"] (spP 1 m_ties_of)) : FnQ P w kf.K mg base CX0 6 T.a T.fd ["_law_pool_here"] (spI 1 m__law_sums) := by
  refine fnq_of T.F sc__law_sums (spI_len rfl) fun cdv A outer s H vs Q E hr hg h => ?_
  refine ⟨_, PSs.nox (pss_cons (ps_setLc (i := 1) (own := [("_law_turn", 2)]) rfl sc__law_sums.nd rfl rfl (sw_true rfl rfl rfl (by decide +kernel)) (pi_range1 (by rfl) B.n_range (pa_cons (pe_callQ d__law_take.G (hr.mono (by decide)) hg (by rfl) d__law_take.g d__law_take.kp d__law_take.b pass0 (pa_cons (pv 0) (pa_cons pe_int pa_nil))) pa_nil)) (blkOk_by (own := [("_law_turn", 2)]) (N := ["_law_pool_here", "_law_ones", "_law_turn", "_law_others", "_law_many"]) (sc := defScope s__law_sums) (by decide +kernel)) (fun _ _ _ _ _ => (pg_name (i := 2) sc__law_sums.nd rfl (Or.inl rfl))) (fun _ _ _ _ _ => pts_nil) (fun _ _ _ _ _ => (pe_callQ d__law_loose.G (hr.mono (by decide)) hg (by rfl) d__law_loose.g d__law_loose.kp d__law_loose.b pass0 (pa_cons (pv 0) (pa_cons (pe_ix (ix_listK (K := kf.K) rfl) (pe_lst (pa_cons pe_int (pa_cons pe_int (pa_cons pe_int pa_nil)))) (pe_callQ d__law_take.G (hr.mono (by decide)) hg (by rfl) d__law_take.g d__law_take.kp d__law_take.b pass0 (pa_cons (pv 0) (pa_cons pe_int pa_nil))) (fun _ _ => rfl)) (pa_cons pe_int pa_nil))))))
 (pss_cons (ps_setLc (i := 3) (own := [("_law_turn", 2)]) rfl sc__law_sums.nd rfl rfl (sw_true rfl rfl rfl (by decide +kernel)) (pi_range1 (by rfl) B.n_range (pa_cons (pe_callQ d__law_take.G (hr.mono (by decide)) hg (by rfl) d__law_take.g d__law_take.kp d__law_take.b pass0 (pa_cons (pv 0) (pa_cons pe_int pa_nil))) pa_nil)) (blkOk_by (own := [("_law_turn", 2)]) (N := ["_law_pool_here", "_law_ones", "_law_turn", "_law_others", "_law_many"]) (sc := defScope s__law_sums) (by decide +kernel)) (fun _ _ _ _ _ => (pg_name (i := 2) sc__law_sums.nd rfl (Or.inl rfl))) (fun _ _ _ _ _ => pts_nil) (fun _ _ _ _ _ => (pe_callQ d__law_loose.G (hr.mono (by decide)) hg (by rfl) d__law_loose.g d__law_loose.kp d__law_loose.b pass0 (pa_cons (pv 0) (pa_cons (pe_ix (ix_listK (K := kf.K) rfl) (pe_lst (pa_cons pe_int (pa_cons pe_int (pa_cons pe_int pa_nil)))) (pe_callQ d__law_take.G (hr.mono (by decide)) hg (by rfl) d__law_take.g d__law_take.kp d__law_take.b pass0 (pa_cons (pv 0) (pa_cons pe_int pa_nil))) (fun _ _ => rfl)) (pa_cons pe_int pa_nil))))))
 (pss_cons (ps_set (i := 4) sc__law_sums.nd rfl (Or.inl rfl) (pe_lst (pa_cons (pe_callQ d_places_of.G (hr.mono (by decide)) hg (by rfl) d_places_of.g d_places_of.kp d_places_of.b pass0 (pa_cons (pv 1) pa_nil)) (pa_cons (pe_callQ d_places_of.G (hr.mono (by decide)) hg (by rfl) d_places_of.g d_places_of.kp d_places_of.b pass0 (pa_cons (pv 3) pa_nil)) pa_nil))))
 (pss_cons (ps_if (pt_cmpR op_ne (pe_callQ d_places_of.G (hr.mono (by decide)) hg (by rfl) d_places_of.g d_places_of.kp d_places_of.b pass0 (pa_cons (pe_op (op_catRK (K := kf.K) rfl) (pv 1) (pv 3)) pa_nil)) (pe_op op_mul (pe_ix (ix_listK (K := kf.K) rfl) (pv 4) pe_int (fun _ _ => rfl)) (pe_ix (ix_listK (K := kf.K) rfl) (pv 4) pe_int (fun _ _ => rfl))) (nomark _))
 (pss_one (ps_ret pe_bl))
 pss_nil)
 (pss_one (ps_ret (pe_cmpR op_eq (pe_callQ d_ties_of.G (hr.mono (by decide)) hg (by rfl) d_ties_of.g d_ties_of.kp d_ties_of.b pass0 (pa_cons (pe_op (op_catRK (K := kf.K) rfl) (pv 1) (pv 3)) pa_nil)) (pe_op op_add (pe_op op_mul (pe_callQ d_ties_of.G (hr.mono (by decide)) hg (by rfl) d_ties_of.g d_ties_of.kp d_ties_of.b pass0 (pa_cons (pv 1) pa_nil)) (pe_ix (ix_listK (K := kf.K) rfl) (pv 4) pe_int (fun _ _ => rfl))) (pe_op op_mul (pe_callQ d_ties_of.G (hr.mono (by decide)) hg (by rfl) d_ties_of.g d_ties_of.kp d_ties_of.b pass0 (pa_cons (pv 3) pa_nil)) (pe_ix (ix_listK (K := kf.K) rfl) (pv 4) pe_int (fun _ _ => rfl)))) (nomark _)))))))), tie_io (n := 1) (k := 4) (B := B__law_sums) rfl ?_ h⟩
  exact (c_seq (c_asg (c_ylc (vs := [2]) (c_iR1 (c_lcons (c_dY (c_ycallI (c_lcons (c_dR (c_c (v := .int 7) rfl)) c_lnil))) c_lnil)) (c_gname 2) (by decide) c_tyes (c_ycallI (c_lcons (c_dix x_list (c_dY (c_ylst (c_ocons (c_yR (c_c (v := .int 2) rfl)) (c_ocons (c_yR (c_c (v := .int 7) rfl)) (c_ocons (c_yR (c_c (v := .int 40) rfl)) c_onil))))) (c_dY (c_ycallI (c_lcons (c_dR (c_c (v := .int 3) rfl)) c_lnil)))) (c_lcons (c_dR (c_c (v := .int 5) rfl)) c_lnil)))))
 (c_seq (c_asg (c_ylc (vs := [2]) (c_iR1 (c_lcons (c_dY (c_ycallI (c_lcons (c_dR (c_c (v := .int 7) rfl)) c_lnil))) c_lnil)) (c_gname 2) (by decide) c_tyes (c_ycallI (c_lcons (c_dix x_list (c_dY (c_ylst (c_ocons (c_yR (c_c (v := .int 2) rfl)) (c_ocons (c_yR (c_c (v := .int 7) rfl)) (c_ocons (c_yR (c_c (v := .int 40) rfl)) c_onil))))) (c_dY (c_ycallI (c_lcons (c_dR (c_c (v := .int 3) rfl)) c_lnil)))) (c_lcons (c_dR (c_c (v := .int 5) rfl)) c_lnil)))))
 (c_seq (c_asg (c_ylst (c_ocons (c_ycallA (c_qcons (c_var 1) c_qnil) (c_lcons (c_dY (c_yvar 1)) c_lnil)) (c_ocons (c_ycallA (c_qcons (c_var 3) c_qnil) (c_lcons (c_dY (c_yvar 3)) c_lnil)) c_onil))))
 (c_seq (c_sif (c_tR (c_bR (c_op o_neI (c_call (c_qcons (c_rOpZ z_cat (c_var 1) (c_var 3)) c_qnil)) (c_op o_mul (c_ix x_list (c_var 4) (c_c (v := .int 0) rfl)) (c_ix x_list (c_var 4) (c_c (v := .int 1) rfl))))))
 (c_ret (c_yR (c_c (v := .bl false) rfl)))
 c_next)
 (c_ret (c_yR (c_op o_eqI (c_call (c_qcons (c_rOpZ z_cat (c_var 1) (c_var 3)) c_qnil)) (c_op o_add (c_op o_mul (c_call (c_qcons (c_var 1) c_qnil)) (c_ix x_list (c_var 4) (c_c (v := .int 1) rfl))) (c_op o_mul (c_call (c_qcons (c_var 3) c_qnil)) (c_ix x_list (c_var 4) (c_c (v := .int 0) rfl)))))))))))
theorem ok__law_groups (B : Bn mg) (T : Tp kf.K mg "_law_groups" s__law_groups) (d__law_take : Dq P w kf.K mg base "_law_take" 1 ["_law_pool_here", "_law_many"] (spI 2 m__law_take)) : FnQ P w kf.K mg base CX0 2 T.a T.fd ["_law_pool_here", "_law_webs"] (spI 2 m__law_groups) := by
  refine fnq_of T.F sc__law_groups (spI_len rfl) fun cdv A outer s H vs Q E hr hg h => ?_
  refine ⟨_, PSs.nox (pss_cons (ps_set (i := 2) sc__law_groups.nd rfl (Or.inl rfl) (pe_lst (pa_cons (pe_lst pa_nil) pa_nil)))
 (pss_cons (ps_for PassesOwn.never rfl (pi_listK (K := kf.K) rfl (pv 1)) (pg_name (i := 3) sc__law_groups.nd rfl (Or.inl rfl))
 (pss_cons (ps_for PassesOwn.never rfl (pi_range1 (by rfl) B.n_range (pa_cons (pe_callQ d__law_take.G (hr.mono (by decide)) hg (by rfl) d__law_take.g d__law_take.kp d__law_take.b pass0 (pa_cons (pv 0) (pa_cons pe_int pa_nil))) pa_nil)) (pg_name (i := 4) sc__law_groups.nd rfl (Or.inl rfl))
 (pss_one (ps_if (pt_cmpR op_lt (pe_callB (call_len_seqK (K := kf.K) rfl) (by rfl) B.n_len PySem.boot_len (pa_cons (pv 2) pa_nil)) pe_int (nomark _))
 (pss_one (ps_expr (pe_bmK (K := kf.K) rfl PySem.F.plainAttrs_list PySem.F.slot_list_append PySem.F.type_list_append mt_append (pv 2) (pa_cons (pe_lst pa_nil) pa_nil))))
 pss_nil)))
 (pss_one (ps_expr (pe_bmK (K := kf.K) rfl PySem.F.plainAttrs_list PySem.F.slot_list_append PySem.F.type_list_append mt_append (pe_ix (ix_listK (K := kf.K) rfl) (pv 2) (pe_un un_neg pe_int) (fun _ _ => rfl)) (pa_cons (pv 3) pa_nil))))))
 (pss_one (ps_ret (pv 2))))), tie_io (n := 2) (k := 3) (B := B__law_groups) rfl ?_ h⟩
  exact (c_seq (c_asg (c_ylst (c_ocons (c_ylst c_onil) c_onil)))
 (c_seq (c_for (c_iL (c_dY (c_yvar 1))) (c_gname 3)
 (c_seq (c_for (c_iR1 (c_lcons (c_dY (c_ycallI (c_lcons (c_dR (c_c (v := .int 3) rfl)) c_lnil))) c_lnil)) (c_gname 4)
 (c_sif (c_tR (c_bR (c_op o_lt (c_cb b_len (c_qcons (c_var 2) c_qnil)) (c_c (v := .int 9) rfl))))
 (c_app (c_ylst c_onil))
 c_next))
 (c_appP (c_pix (c_pvar 2) (c_un o_neg (c_c (v := .int 1) rfl))) (c_fvarD 3))))
 (c_ret (c_ymov 2))))
theorem ok_is_place (B : Bn mg) (T : Tp kf.K mg "is_place" s_is_place) (d_is_whole : Dq P w kf.K mg base "is_whole" 1 ["thing"] (spP 1 m_is_whole)) : FnQ P w kf.K mg base CX0 2 T.a T.fd ["many", "thing"] (spP 2 m_is_place) := by
  refine fnq_of T.F sc_is_place (spP_len rfl) fun cdv A outer s H vs Q E hr hg h => ?_
  refine ⟨_, PSs.nox (pss_one (ps_ret (pe_and (pe_callQ d_is_whole.G (hr.mono (by decide)) hg (by rfl) d_is_whole.g d_is_whole.kp d_is_whole.b pass0 (pa_cons (pv 1) pa_nil)) (pe_one (pe_chain op_le op_lt pe_int (pv 1) (pv 0)))))), tie_plain (n := 2) (k := 0) (B := SH.B_is_place) rfl ?_ h⟩
  exact (c_ret (c_yR (c_and (c_call (c_qcons (c_var 1) c_qnil)) (c_ch (c_c (v := .int 0) rfl) (c_var 1) (c_var 0)))))
theorem ok_numbered_row (B : Bn mg) (T : Tp kf.K mg "numbered_row" s_numbered_row) : FnQ P w kf.K mg base CX0 1 T.a T.fd ["webs", "number"] (spP 2 m_numbered_row) := by
  refine fnq_of T.F sc_numbered_row (spP_len rfl) fun cdv A outer s H vs Q E hr hg h => ?_
  refine ⟨_, PSs.nox (pss_cons (ps_set (i := 2) sc_numbered_row.nd rfl (Or.inl rfl) (pe_lst pa_nil))
 (pss_cons (ps_for PassesOwn.never rfl (pi_reversed (by rfl) B.n_reversed (pa_cons (pv 0) pa_nil)) (pg_name (i := 3) sc_numbered_row.nd rfl (Or.inl rfl))
 (pss_cons (ps_expr (pe_bmK (K := kf.K) rfl PySem.F.plainAttrs_list PySem.F.slot_list_append PySem.F.type_list_append mt_append (pv 2) (pa_cons (pe_op op_mod (pv 1) (pe_ix (ix_tupK (K := kf.K) rfl) (pv 3) pe_int (fun _ _ => rfl))) pa_nil)))
 (pss_one (ps_set (i := 1) sc_numbered_row.nd rfl (Or.inl rfl) (pe_op op_fdiv (pv 1) (pe_ix (ix_tupK (K := kf.K) rfl) (pv 3) pe_int (fun _ _ => rfl)))))))
 (pss_one (ps_ret (pe_revLK (K := kf.K) rfl (pv 2)))))), tie_plain (n := 2) (k := 2) (B := SH.B_numbered_row) rfl ?_ h⟩
  exact (c_seq (c_asg (c_ylst c_onil))
 (c_seq (c_for (c_iV (c_lcons (c_dY (c_yvar 0)) c_lnil)) (c_gname 3)
 (c_seq (c_app (c_yR (c_op o_mod (c_var 1) (c_ix x_tup (c_var 3) (c_c (v := .int 0) rfl)))))
 (c_asg (c_yR (c_op o_div (c_var 1) (c_ix x_tup (c_var 3) (c_c (v := .int 0) rfl)))))))
 (c_ret (c_yRevLA (c_var 2) (c_dY (c_yvar 2))))))
theorem ok_row_of (B : Bn mg) (T : Tp kf.K mg "row_of" s_row_of) (d_look_at_webs : Dq P w kf.K mg base "look_at_webs" 4 ["thing"] (spP 1 m_look_at_webs)) (d_is_place : Dq P w kf.K mg base "is_place" 2 ["many", "thing"] (spP 2 m_is_place)) (d_count_rows : Dq P w kf.K mg base "count_rows" 1 ["webs"] (spP 1 m_count_rows)) (d_numbered_row : Dq P w kf.K mg base "numbered_row" 1 ["webs", "number"] (spP 2 m_numbered_row)) : FnQ P w kf.K mg base CX0 5 T.a T.fd ["webs", "number"] (spP 2 m_row_of) := by
  refine fnq_of T.F sc_row_of (spP_len rfl) fun cdv A outer s H vs Q E hr hg h => ?_
  refine ⟨_, PSs.nox (pss_cons (ps_expr (pe_callQ d_look_at_webs.G (hr.mono (by decide)) hg (by rfl) d_look_at_webs.g d_look_at_webs.kp d_look_at_webs.b pass0 (pa_cons (pv 0) pa_nil)))
 (pss_cons (ps_if (pt_not (pt_val (pe_callQ d_is_place.G (hr.mono (by decide)) hg (by rfl) d_is_place.g d_is_place.kp d_is_place.b pass0 (pa_cons (pe_callQ d_count_rows.G (hr.mono (by decide)) hg (by rfl) d_count_rows.g d_count_rows.kp d_count_rows.b pass0 (pa_cons (pv 0) pa_nil)) (pa_cons (pv 1) pa_nil)))))
 (pss_one ps_never)
 pss_nil)
 (pss_one (ps_ret (pe_callQ d_numbered_row.G (hr.mono (by decide)) hg (by rfl) d_numbered_row.g d_numbered_row.kp d_numbered_row.b pass0 (pa_cons (pv 0) (pa_cons (pv 1) pa_nil))))))), tie_plain (n := 2) (k := 0) (B := SH.B_row_of) rfl ?_ h⟩
  exact (c_seq (c_drop (c_ycallA (c_qcons (c_var 0) c_qnil) (c_lcons (c_dY (c_yvar 0)) c_lnil)))
 (c_seq (c_sif (c_tR (c_bNot (c_bB (c_call (c_qcons (c_call (c_qcons (c_var 0) c_qnil)) (c_qcons (c_var 1) c_qnil))))))
 (c_never _)
 c_next)
 (c_ret (c_ycallA (c_qcons (c_var 0) (c_qcons (c_var 1) c_qnil)) (c_lcons (c_dY (c_yvar 0)) (c_lcons (c_dY (c_yvar 1)) c_lnil))))))
theorem ok_makes_row (B : Bn mg) (T : Tp kf.K mg "makes_row" s_makes_row) (d_is_place : Dq P w kf.K mg base "is_place" 2 ["many", "thing"] (spP 2 m_is_place)) : FnQ P w kf.K mg base CX0 3 T.a T.fd ["webs", "thing"] (spP 2 m_makes_row) := by
  refine fnq_of T.F sc_makes_row (spP_len rfl) fun cdv A outer s H vs Q E hr hg h => ?_
  refine ⟨_, PSs.nox (pss_cons (ps_if (PW.pt (pw_or (pt_not (pt_val (pe_callB (call_isiKK (K := kf.K) rfl) (by rfl) B.n_isinstance (by decide +kernel) (pa_cons (pv 1) (pa_cons (pe_bltn (v := .ty "list") (u := .type "list") (by rfl) B.n_list (by decide +kernel) rfl) pa_nil))))) (pw_or1 (pt_cmpR op_ne (pe_callB (call_len_seqK (K := kf.K) rfl) (by rfl) B.n_len PySem.boot_len (pa_cons (pv 1) pa_nil)) (pe_callB (call_len_seqK (K := kf.K) rfl) (by rfl) B.n_len PySem.boot_len (pa_cons (pv 0) pa_nil)) (nomark _)))))
 (pss_one (ps_ret pe_bl))
 pss_nil)
 (pss_one (ps_ret (pe_callB (cr_all rfl) (by rfl) B.n_all (by decide +kernel) (pa_cons (pe_lc (own := [("web", 2), ("place", 3)]) rfl sc_makes_row.nd (pi_zip (by rfl) B.n_zip (pa_cons (pv 0) (pa_cons (pv 1) pa_nil))) (blkOk_by (own := [("web", 2), ("place", 3)]) (N := ["webs", "thing", "web", "place"]) (sc := defScope s_makes_row) (by decide +kernel)) (fun _ _ _ _ _ => (pg_tupK (K := kf.K) (n := 2) rfl rfl (pgs_cons (pg_name (i := 2) sc_makes_row.nd rfl (Or.inl rfl)) (pgs_cons (pg_name (i := 3) sc_makes_row.nd rfl (Or.inl rfl)) pgs_nil)))) (fun _ _ _ _ _ => pts_nil) (fun _ _ _ _ _ => (pe_callQ d_is_place.G (hr.mono (by decide)) hg (by rfl) d_is_place.g d_is_place.kp d_is_place.b pass0 (pa_cons (pe_ix (ix_tupK (K := kf.K) rfl) (pv 2) pe_int (fun _ _ => rfl)) (pa_cons (pv 3) pa_nil))))) pa_nil))))), tie_plain (n := 2) (k := 2) (B := SH.B_makes_row) rfl ?_ h⟩
  exact (c_seq (c_sif (c_tR (c_bOr (c_bNot (c_bB (c_is (c_var 1)))) (c_bR (c_op o_neI (c_cb b_len (c_qcons (c_var 1) c_qnil)) (c_cb b_len (c_qcons (c_var 0) c_qnil))))))
 (c_ret (c_yR (c_c (v := .bl false) rfl)))
 c_next)
 (c_ret (c_yD (c_dcb b_all (c_lcons (c_dY (c_ylc (vs := [2, 3]) (c_iZ (c_lcons (c_dY (c_yvar 0)) (c_lcons (c_dY (c_yvar 1)) c_lnil))) (c_gtup (c_gscons (c_gname 2) (c_gscons (c_gname 3) c_gsnil))) (by decide) c_tyes (c_ycallA (c_qcons (c_ix x_tup (c_var 2) (c_c (v := .int 0) rfl)) (c_qcons (c_var 3) c_qnil)) (c_lcons (c_dY (c_yauto (c_ix x_tup (c_var 2) (c_c (v := .int 0) rfl)) (c_yD (c_dixR x_tup (c_dY (c_yvar 2)) (c_c (v := .int 0) rfl))))) (c_lcons (c_dY (c_yvar 3)) c_lnil))))) c_lnil)))))
theorem ok_look_at_row (B : Bn mg) (T : Tp kf.K mg "look_at_row" s_look_at_row) (d_makes_row : Dq P w kf.K mg base "makes_row" 3 ["webs", "thing"] (spP 2 m_makes_row)) : FnQ P w kf.K mg base CX0 4 T.a T.fd ["webs", "thing"] (spP 2 m_look_at_row) := by
  refine fnq_of T.F sc_look_at_row (spP_len rfl) fun cdv A outer s H vs Q E hr hg h => ?_
  refine ⟨_, PSs.nox (pss_one (ps_if (pt_not (pt_val (pe_callQ d_makes_row.G (hr.mono (by decide)) hg (by rfl) d_makes_row.g d_makes_row.kp d_makes_row.b pass0 (pa_cons (pv 0) (pa_cons (pv 1) pa_nil)))))
 (pss_one ps_never)
 pss_nil)), tie_plain (n := 2) (k := 0) (B := SH.B_look_at_row) rfl ?_ h⟩
  exact (c_sif (c_tR (c_bNot (c_bB (c_call (c_qcons (c_var 0) (c_qcons (c_var 1) c_qnil))))))
 (c_never _)
 c_next)
theorem ok_row_number (B : Bn mg) (T : Tp kf.K mg "row_number" s_row_number) : FnQ P w kf.K mg base CX0 1 T.a T.fd ["webs", "row"] (spP 2 m_row_number) := by
  refine fnq_of T.F sc_row_number (spP_len rfl) fun cdv A outer s H vs Q E hr hg h => ?_
  refine ⟨_, PSs.nox (pss_cons (ps_set (i := 2) sc_row_number.nd rfl (Or.inl rfl) pe_int)
 (pss_cons (ps_for PassesOwn.never rfl (pi_zip (by rfl) B.n_zip (pa_cons (pv 0) (pa_cons (pv 1) pa_nil))) (pg_tup rfl (pgs_cons (pg_name (i := 3) sc_row_number.nd rfl (Or.inl rfl)) (pgs_cons (pg_name (i := 4) sc_row_number.nd rfl (Or.inl rfl)) pgs_nil)))
 (pss_one (ps_set (i := 2) sc_row_number.nd rfl (Or.inl rfl) (pe_op op_add (pe_op op_mul (pv 2) (pe_ix (ix_tupK (K := kf.K) rfl) (pv 3) pe_int (fun _ _ => rfl))) (pv 4)))))
 (pss_one (ps_ret (pv 2))))), tie_plain (n := 2) (k := 3) (B := SH.B_row_number) rfl ?_ h⟩
  exact (c_seq (c_asg (c_yR (c_c (v := .int 0) rfl)))
 (c_seq (c_for (c_iZ (c_lcons (c_dY (c_yvar 0)) (c_lcons (c_dY (c_yvar 1)) c_lnil))) (c_gtup (c_gscons (c_gname 3) (c_gscons (c_gname 4) c_gsnil)))
 (c_asg (c_yR (c_op o_add (c_op o_mul (c_var 2) (c_ix x_tup (c_var 3) (c_c (v := .int 0) rfl))) (c_var 4)))))
 (c_ret (c_ymov 2))))
theorem ok_number_of (B : Bn mg) (T : Tp kf.K mg "number_of" s_number_of) (d_look_at_webs : Dq P w kf.K mg base "look_at_webs" 4 ["thing"] (spP 1 m_look_at_webs)) (d_look_at_row : Dq P w kf.K mg base "look_at_row" 4 ["webs", "thing"] (spP 2 m_look_at_row)) (d_row_number : Dq P w kf.K mg base "row_number" 1 ["webs", "row"] (spP 2 m_row_number)) : FnQ P w kf.K mg base CX0 5 T.a T.fd ["webs", "row"] (spP 2 m_number_of) := by
  refine fnq_of T.F sc_number_of (spP_len rfl) fun cdv A outer s H vs Q E hr hg h => ?_
  refine ⟨_, PSs.nox (pss_cons (ps_expr (pe_callQ d_look_at_webs.G (hr.mono (by decide)) hg (by rfl) d_look_at_webs.g d_look_at_webs.kp d_look_at_webs.b pass0 (pa_cons (pv 0) pa_nil)))
 (pss_cons (ps_expr (pe_callQ d_look_at_row.G (hr.mono (by decide)) hg (by rfl) d_look_at_row.g d_look_at_row.kp d_look_at_row.b pass0 (pa_cons (pv 0) (pa_cons (pv 1) pa_nil))))
 (pss_one (ps_ret (pe_callQ d_row_number.G (hr.mono (by decide)) hg (by rfl) d_row_number.g d_row_number.kp d_row_number.b pass0 (pa_cons (pv 0) (pa_cons (pv 1) pa_nil))))))), tie_plain (n := 2) (k := 0) (B := SH.B_number_of) rfl ?_ h⟩
  exact (c_seq (c_drop (c_ycallA (c_qcons (c_var 0) c_qnil) (c_lcons (c_dY (c_yvar 0)) c_lnil)))
 (c_seq (c_drop (c_ycallA (c_qcons (c_var 0) (c_qcons (c_var 1) c_qnil)) (c_lcons (c_dY (c_yvar 0)) (c_lcons (c_dY (c_yvar 1)) c_lnil))))
 (c_ret (c_ycallA (c_qcons (c_var 0) (c_qcons (c_var 1) c_qnil)) (c_lcons (c_dY (c_yvar 0)) (c_lcons (c_dY (c_yvar 1)) c_lnil))))))
theorem ok__law_grouped_row (B : Bn mg) (T : Tp kf.K mg "_law_grouped_row" s__law_grouped_row) (d_number_of : Dq P w kf.K mg base "number_of" 5 ["webs", "row"] (spP 2 m_number_of)) : FnQ P w kf.K mg base CX0 6 T.a T.fd ["_law_groups_here", "_law_row"] (spP 2 m__law_grouped_row) := by
  refine fnq_of T.F sc__law_grouped_row (spP_len rfl) fun cdv A outer s H vs Q E hr hg h => ?_
  refine ⟨_, PSs.nox (pss_cons (ps_set (i := 2) sc__law_grouped_row.nd rfl (Or.inl rfl) (pe_lst pa_nil))
 (pss_cons (ps_set (i := 3) sc__law_grouped_row.nd rfl (Or.inl rfl) pe_int)
 (pss_cons (ps_for PassesOwn.never rfl (pi_listK (K := kf.K) rfl (pv 0)) (pg_name (i := 4) sc__law_grouped_row.nd rfl (Or.inl rfl))
 (pss_cons (ps_expr (pe_bmK (K := kf.K) rfl PySem.F.plainAttrs_list PySem.F.slot_list_append PySem.F.type_list_append mt_append (pv 2) (pa_cons (pe_callQ d_number_of.G (hr.mono (by decide)) hg (by rfl) d_number_of.g d_number_of.kp d_number_of.b pass0 (pa_cons (pv 4) (pa_cons (pe_slice (sl_listK (K := kf.K) rfl) (pv 1) (po_some (pv 3)) (po_some (pe_op op_add (pv 3) (pe_callB (call_len_seqK (K := kf.K) rfl) (by rfl) B.n_len PySem.boot_len (pa_cons (pv 4) pa_nil))))) pa_nil))) pa_nil)))
 (pss_one (ps_set (i := 3) sc__law_grouped_row.nd rfl (Or.inl rfl) (pe_op op_add (pv 3) (pe_callB (call_len_seqK (K := kf.K) rfl) (by rfl) B.n_len PySem.boot_len (pa_cons (pv 4) pa_nil)))))))
 (pss_one (ps_ret (pv 2)))))), tie_plain (n := 2) (k := 3) (B := B__law_grouped_row) rfl ?_ h⟩
  exact (c_seq (c_asg (c_ylst c_onil))
 (c_seq (c_asg (c_yR (c_c (v := .int 0) rfl)))
 (c_seq (c_for (c_iL (c_dY (c_yvar 0))) (c_gname 4)
 (c_seq (c_app (c_ycallA (c_qcons (c_var 4) (c_qcons (c_rsl (c_var 1) (c_csome (c_var 3)) (c_csome (c_op o_add (c_var 3) (c_cb b_len (c_qcons (c_var 4) c_qnil))))) c_qnil)) (c_lcons (c_dY (c_yvar 4)) (c_lcons (c_dY (c_yslA (c_var 1) (c_dY (c_yvar 1)) (c_csome (c_var 3)) (c_csome (c_op o_add (c_var 3) (c_cb b_len (c_qcons (c_var 4) c_qnil)))))) c_lnil))))
 (c_asg (c_yR (c_op o_add (c_var 3) (c_cb b_len (c_qcons (c_var 4) c_qnil)))))))
 (c_ret (c_ymov 2)))))
theorem ok_as_tie (B : Bn mg) (T : Tp kf.K mg "as_tie" s_as_tie) : FnQ P w kf.K mg base CX0 1 T.a T.fd ["one", "other"] (spP 2 m_as_tie) := by
  refine fnq_of T.F sc_as_tie (spP_len rfl) fun cdv A outer s H vs Q E hr hg h => ?_
  refine ⟨_, PSs.nox (pss_one (ps_ret (pe_tup (pa_cons (pe_callB (call_min2 rfl) (by rfl) B.n_min (by decide +kernel) (pa_cons (pv 0) (pa_cons (pv 1) pa_nil))) (pa_cons (pe_callB (call_max2 rfl) (by rfl) B.n_max (by decide +kernel) (pa_cons (pv 0) (pa_cons (pv 1) pa_nil))) pa_nil))))), tie_plain (n := 2) (k := 0) (B := SH.B_as_tie) rfl ?_ h⟩
  exact (c_ret (c_ytup (c_ocons (c_yR (c_cb b_min2 (c_qcons (c_var 0) (c_qcons (c_var 1) c_qnil)))) (c_ocons (c_yR (c_cb b_max2 (c_qcons (c_var 0) (c_qcons (c_var 1) c_qnil)))) c_onil))))
theorem ok_are_tied (B : Bn mg) (T : Tp kf.K mg "are_tied" s_are_tied) (d_as_tie : Dq P w kf.K mg base "as_tie" 1 ["one", "other"] (spP 2 m_as_tie)) : FnQ P w kf.K mg base CX0 2 T.a T.fd ["webs", "one", "other"] (spP 3 m_are_tied) := by
  refine fnq_of T.F sc_are_tied (spP_len rfl) fun cdv A outer s H vs Q E hr hg h => ?_
  refine ⟨_, PSs.nox (pss_cons (ps_setLc (i := 3) (own := [("at", 4)]) rfl sc_are_tied.nd rfl rfl (sw_true rfl rfl rfl (by decide +kernel)) (pi_range1 (by rfl) B.n_range (pa_cons (pe_callB (call_len_seqK (K := kf.K) rfl) (by rfl) B.n_len PySem.boot_len (pa_cons (pv 0) pa_nil)) pa_nil)) (blkOk_by (own := [("at", 4)]) (N := ["webs", "one", "other", "unlike", "at"]) (sc := defScope s_are_tied) (by decide +kernel)) (fun _ _ _ _ _ => (pg_name (i := 4) sc_are_tied.nd rfl (Or.inl rfl))) (fun _ _ _ _ _ => pts_one (pt_cmpR op_ne (pe_ix (ix_listK (K := kf.K) rfl) (pv 1) (pv 4) (fun _ _ => rfl)) (pe_ix (ix_listK (K := kf.K) rfl) (pv 2) (pv 4) (fun _ _ => rfl)) (nomark _))) (fun _ _ _ _ _ => (pv 4)))
 (pss_cons (ps_if (pt_cmpR op_ne (pe_callB (call_len_seqK (K := kf.K) rfl) (by rfl) B.n_len PySem.boot_len (pa_cons (pv 3) pa_nil)) pe_int (nomark _))
 (pss_one (ps_ret pe_bl))
 pss_nil)
 (pss_cons (ps_set (i := 4) sc_are_tied.nd rfl (Or.inl rfl) (pe_ix (ix_listK (K := kf.K) rfl) (pv 3) pe_int (fun _ _ => rfl)))
 (pss_one (ps_ret (pe_cmpR (op_inDK (K := kf.K) rfl (hu65 hr)) (pe_callQ d_as_tie.G (hr.mono (by decide)) hg (by rfl) d_as_tie.g d_as_tie.kp d_as_tie.b pass0 (pa_cons (pe_ix (ix_listK (K := kf.K) rfl) (pv 1) (pv 4) (fun _ _ => rfl)) (pa_cons (pe_ix (ix_listK (K := kf.K) rfl) (pv 2) (pv 4) (fun _ _ => rfl)) pa_nil))) (pe_ix (ix_tupK (K := kf.K) rfl) (pe_ix (ix_listK (K := kf.K) rfl) (pv 0) (pv 4) (fun _ _ => rfl)) pe_int (fun _ _ => rfl)) (by rfl))))))), tie_plain (n := 3) (k := 2) (B := SH.B_are_tied) rfl ?_ h⟩
  exact (c_seq (c_asg (c_ylc (vs := [4]) (c_iR1 (c_lcons (c_dR (c_cb b_len (c_qcons (c_var 0) c_qnil))) c_lnil)) (c_gname 4) (by decide) (c_tR (c_bR (c_op o_neI (c_ix x_list (c_var 1) (c_var 4)) (c_ix x_list (c_var 2) (c_var 4))))) (c_yvar 4)))
 (c_seq (c_sif (c_tR (c_bR (c_op o_neI (c_cb b_len (c_qcons (c_var 3) c_qnil)) (c_c (v := .int 1) rfl))))
 (c_ret (c_yR (c_c (v := .bl false) rfl)))
 c_next)
 (c_seq (c_asg (c_yauto (c_ix x_list (c_var 3) (c_c (v := .int 0) rfl)) (c_yD (c_dixR x_list (c_dY (c_yvar 3)) (c_c (v := .int 0) rfl)))))
 (c_ret (c_yR (c_op o_inD (c_call (c_qcons (c_ix x_list (c_var 1) (c_var 4)) (c_qcons (c_ix x_list (c_var 2) (c_var 4)) c_qnil))) (c_ix x_tup (c_ix x_list (c_var 0) (c_var 4)) (c_c (v := .int 1) rfl))))))))
theorem ok_rows_tied (B : Bn mg) (T : Tp kf.K mg "rows_tied" s_rows_tied) (d_look_at_webs : Dq P w kf.K mg base "look_at_webs" 4 ["thing"] (spP 1 m_look_at_webs)) (d_look_at_row : Dq P w kf.K mg base "look_at_row" 4 ["webs", "thing"] (spP 2 m_look_at_row)) (d_are_tied : Dq P w kf.K mg base "are_tied" 2 ["webs", "one", "other"] (spP 3 m_are_tied)) : FnQ P w kf.K mg base CX0 5 T.a T.fd ["webs", "one", "other"] (spP 3 m_rows_tied) := by
  refine fnq_of T.F sc_rows_tied (spP_len rfl) fun cdv A outer s H vs Q E hr hg h => ?_
  refine ⟨_, PSs.nox (pss_cons (ps_expr (pe_callQ d_look_at_webs.G (hr.mono (by decide)) hg (by rfl) d_look_at_webs.g d_look_at_webs.kp d_look_at_webs.b pass0 (pa_cons (pv 0) pa_nil)))
 (pss_cons (ps_expr (pe_callQ d_look_at_row.G (hr.mono (by decide)) hg (by rfl) d_look_at_row.g d_look_at_row.kp d_look_at_row.b pass0 (pa_cons (pv 0) (pa_cons (pv 1) pa_nil))))
 (pss_cons (ps_expr (pe_callQ d_look_at_row.G (hr.mono (by decide)) hg (by rfl) d_look_at_row.g d_look_at_row.kp d_look_at_row.b pass0 (pa_cons (pv 0) (pa_cons (pv 2) pa_nil))))
 (pss_one (ps_ret (pe_callQ d_are_tied.G (hr.mono (by decide)) hg (by rfl) d_are_tied.g d_are_tied.kp d_are_tied.b pass0 (pa_cons (pv 0) (pa_cons (pv 1) (pa_cons (pv 2) pa_nil))))))))), tie_plain (n := 3) (k := 0) (B := SH.B_rows_tied) rfl ?_ h⟩
  exact (c_seq (c_drop (c_ycallA (c_qcons (c_var 0) c_qnil) (c_lcons (c_dY (c_yvar 0)) c_lnil)))
 (c_seq (c_drop (c_ycallA (c_qcons (c_var 0) (c_qcons (c_var 1) c_qnil)) (c_lcons (c_dY (c_yvar 0)) (c_lcons (c_dY (c_yvar 1)) c_lnil))))
 (c_seq (c_drop (c_ycallA (c_qcons (c_var 0) (c_qcons (c_var 2) c_qnil)) (c_lcons (c_dY (c_yvar 0)) (c_lcons (c_dY (c_yvar 2)) c_lnil))))
 (c_ret (c_ycallA (c_qcons (c_var 0) (c_qcons (c_var 1) (c_qcons (c_var 2) c_qnil))) (c_lcons (c_dY (c_yvar 0)) (c_lcons (c_dY (c_yvar 1)) (c_lcons (c_dY (c_yvar 2)) c_lnil))))))))
theorem ok__law_right (B : Bn mg) (T : Tp kf.K mg "_law_right" s__law_right) (d__law_take : Dq P w kf.K mg base "_law_take" 1 ["_law_pool_here", "_law_many"] (spI 2 m__law_take)) (d__law_loose : Dq P w kf.K mg base "_law_loose" 3 ["_law_pool_here", "_law_most", "_law_more"] (spI 3 m__law_loose)) (d__law_fits : Dq P w kf.K mg base "_law_fits" 1 ["_law_webs"] (spP 1 m__law_fits)) (d__law_groups : Dq P w kf.K mg base "_law_groups" 2 ["_law_pool_here", "_law_webs"] (spI 2 m__law_groups)) (d_product : Dq P w kf.K mg base "product" 5 ["webs"] (spP 1 m_product)) (d_ties_of : Dq P w kf.K mg base "ties_of" 5 ["webs"] (spP 1 m_ties_of)) (d_places_of : Dq P w kf.K mg base "places_of" 5 ["webs"] (spP 1 m_places_of)) (d_row_of : Dq P w kf.K mg base "row_of" 5 ["webs", "number"] (spP 2 m_row_of)) (d_number_of : Dq P w kf.K mg base "number_of" 5 ["webs", "row"] (spP 2 m_number_of)) (d__law_grouped_row : Dq P w kf.K mg base "_law_grouped_row" 6 ["_law_groups_here", "_law_row"] (spP 2 m__law_grouped_row)) (d_rows_tied : Dq P w kf.K mg base "rows_tied" 5 ["webs", "one", "other"] (spP 3 m_rows_tied)) : FnQ P w kf.K mg base CX0 7 T.a T.fd ["_law_pool_here"] (spI 1 m__law_right) := by
  refine fnq_of T.F sc__law_right (spI_len rfl) fun cdv A outer s H vs Q E hr hg h => ?_
  refine ⟨_, PSs.nox (pss_cons (ps_set (i := 1) sc__law_right.nd rfl (Or.inl rfl) (pe_lst pa_nil))
 (pss_cons (ps_for PassesOwn.never rfl (pi_range1 (by rfl) B.n_range (pa_cons (pe_callQ d__law_take.G (hr.mono (by decide)) hg (by rfl) d__law_take.g d__law_take.kp d__law_take.b pass0 (pa_cons (pv 0) (pa_cons pe_int pa_nil))) pa_nil)) (pg_name (i := 2) sc__law_right.nd rfl (Or.inl rfl))
 (pss_cons (ps_set (i := 3) sc__law_right.nd rfl (Or.inl rfl) (pe_callQ d__law_loose.G (hr.mono (by decide)) hg (by rfl) d__law_loose.g d__law_loose.kp d__law_loose.b pass0 (pa_cons (pv 0) (pa_cons (pe_ix (ix_listK (K := kf.K) rfl) (pe_lst (pa_cons pe_int (pa_cons pe_int (pa_cons pe_int (pa_cons pe_int (pa_cons pe_int pa_nil)))))) (pe_callQ d__law_take.G (hr.mono (by decide)) hg (by rfl) d__law_take.g d__law_take.kp d__law_take.b pass0 (pa_cons (pv 0) (pa_cons pe_int pa_nil))) (fun _ _ => rfl)) (pa_cons pe_int pa_nil)))))
 (pss_one (ps_if (pt_val (pe_callQ d__law_fits.G (hr.mono (by decide)) hg (by rfl) d__law_fits.g d__law_fits.kp d__law_fits.b pass0 (pa_cons (pe_op (op_catRK (K := kf.K) rfl) (pv 1) (pe_lst (pa_cons (pv 3) pa_nil))) pa_nil)))
 (pss_one (ps_expr (pe_bmK (K := kf.K) rfl PySem.F.plainAttrs_list PySem.F.slot_list_append PySem.F.type_list_append mt_append (pv 1) (pa_cons (pv 3) pa_nil))))
 pss_nil))))
 (pss_cons (ps_set (i := 4) sc__law_right.nd rfl (Or.inl rfl) (pe_callQ d__law_groups.G (hr.mono (by decide)) hg (by rfl) d__law_groups.g d__law_groups.kp d__law_groups.b pass0 (pa_cons (pv 0) (pa_cons (pv 1) pa_nil))))
 (pss_cons (ps_set (i := 5) sc__law_right.nd rfl (Or.inl rfl) (pe_callQ d_product.G (hr.mono (by decide)) hg (by rfl) d_product.g d_product.kp d_product.b pass0 (pa_cons (pv 1) pa_nil)))
 (pss_cons (ps_setLc (i := 6) (own := [("_law_group", 7)]) rfl sc__law_right.nd rfl rfl (sw_true rfl rfl rfl (by decide +kernel)) (pi_listK (K := kf.K) rfl (pv 4)) (blkOk_by (own := [("_law_group", 7)]) (N := ["_law_pool_here", "_law_webs", "_law_turn", "_law_web_here", "_law_groups_here", "_law_whole", "_law_made", "_law_group", "_law_number", "_law_row", "_law_other", "_law_tied"]) (sc := defScope s__law_right) (by decide +kernel)) (fun _ _ _ _ _ => (pg_name (i := 7) sc__law_right.nd rfl (Or.inl rfl))) (fun _ _ _ _ _ => pts_nil) (fun _ _ _ _ _ => (pe_callQ d_product.G (hr.mono (by decide)) hg (by rfl) d_product.g d_product.kp d_product.b pass0 (pa_cons (pv 7) pa_nil))))
 (pss_cons (ps_if (PW.pt (pw_or (pt_cmpR op_ne (pe_callB (cr_reprK (K := kf.K) rfl hg hr.units) (by rfl) B.n_repr (by decide +kernel) (pa_cons (pe_callQ d_product.G (hr.mono (by decide)) hg (by rfl) d_product.g d_product.kp d_product.b pass0 (pa_cons (pv 6) pa_nil)) pa_nil)) (pe_callB (cr_reprK (K := kf.K) rfl hg hr.units) (by rfl) B.n_repr (by decide +kernel) (pa_cons (pv 5) pa_nil)) (nomark _)) (pw_or (pt_cmpR op_ne (pe_callQ d_places_of.G (hr.mono (by decide)) hg (by rfl) d_places_of.g d_places_of.kp d_places_of.b pass0 (pa_cons (pv 1) pa_nil)) (pe_ix (ix_tupK (K := kf.K) rfl) (pv 5) pe_int (fun _ _ => rfl)) (nomark _)) (pw_or1 (pt_cmpR op_ne (pe_callQ d_ties_of.G (hr.mono (by decide)) hg (by rfl) d_ties_of.g d_ties_of.kp d_ties_of.b pass0 (pa_cons (pv 1) pa_nil)) (pe_callB (call_len_seqK (K := kf.K) rfl) (by rfl) B.n_len PySem.boot_len (pa_cons (pe_ix (ix_tupK (K := kf.K) rfl) (pv 5) pe_int (fun _ _ => rfl)) pa_nil)) (nomark _))))))
 (pss_one (ps_ret pe_bl))
 pss_nil)
 (pss_cons (ps_for PassesOwn.never rfl (pi_range1 (by rfl) B.n_range (pa_cons pe_int pa_nil)) (pg_name (i := 2) sc__law_right.nd rfl (Or.inl rfl))
 (pss_cons (ps_set (i := 8) sc__law_right.nd rfl (Or.inl rfl) (pe_callQ d__law_take.G (hr.mono (by decide)) hg (by rfl) d__law_take.g d__law_take.kp d__law_take.b pass0 (pa_cons (pv 0) (pa_cons (pe_ix (ix_tupK (K := kf.K) rfl) (pv 5) pe_int (fun _ _ => rfl)) pa_nil))))
 (pss_cons (ps_set (i := 9) sc__law_right.nd rfl (Or.inl rfl) (pe_callQ d_row_of.G (hr.mono (by decide)) hg (by rfl) d_row_of.g d_row_of.kp d_row_of.b pass0 (pa_cons (pv 1) (pa_cons (pv 8) pa_nil))))
 (pss_cons (ps_if (pt_cmpR op_ne (pe_callQ d_number_of.G (hr.mono (by decide)) hg (by rfl) d_number_of.g d_number_of.kp d_number_of.b pass0 (pa_cons (pv 6) (pa_cons (pe_callQ d__law_grouped_row.G (hr.mono (by decide)) hg (by rfl) d__law_grouped_row.g d__law_grouped_row.kp d__law_grouped_row.b pass0 (pa_cons (pv 4) (pa_cons (pv 9) pa_nil))) pa_nil))) (pv 8) (nomark _))
 (pss_one (ps_ret pe_bl))
 pss_nil)
 (pss_cons (ps_set (i := 10) sc__law_right.nd rfl (Or.inl rfl) (pe_callQ d__law_take.G (hr.mono (by decide)) hg (by rfl) d__law_take.g d__law_take.kp d__law_take.b pass0 (pa_cons (pv 0) (pa_cons (pe_ix (ix_tupK (K := kf.K) rfl) (pv 5) pe_int (fun _ _ => rfl)) pa_nil))))
 (pss_cons (ps_set (i := 11) sc__law_right.nd rfl (Or.inl rfl) (pe_cmpR (op_inDK (K := kf.K) rfl (hu65 hr)) (pe_tup (pa_cons (pe_callB (call_min2 rfl) (by rfl) B.n_min (by decide +kernel) (pa_cons (pv 8) (pa_cons (pv 10) pa_nil))) (pa_cons (pe_callB (call_max2 rfl) (by rfl) B.n_max (by decide +kernel) (pa_cons (pv 8) (pa_cons (pv 10) pa_nil))) pa_nil))) (pe_ix (ix_tupK (K := kf.K) rfl) (pv 5) pe_int (fun _ _ => rfl)) (by rfl)))
 (pss_one (ps_if (pt_cmpR op_ne (pe_callQ d_rows_tied.G (hr.mono (by decide)) hg (by rfl) d_rows_tied.g d_rows_tied.kp d_rows_tied.b pass0 (pa_cons (pv 1) (pa_cons (pv 9) (pa_cons (pe_callQ d_row_of.G (hr.mono (by decide)) hg (by rfl) d_row_of.g d_row_of.kp d_row_of.b pass0 (pa_cons (pv 1) (pa_cons (pv 10) pa_nil))) pa_nil)))) (pv 11) (nomark _))
 (pss_one (ps_ret pe_bl))
 pss_nil))))))))
 (pss_one (ps_ret pe_bl))))))))), tie_io (n := 1) (k := 11) (B := B__law_right) rfl ?_ h⟩
  exact (c_seq (c_asg (c_ylst c_onil))
 (c_seq (c_for (c_iR1 (c_lcons (c_dY (c_ycallI (c_lcons (c_dR (c_c (v := .int 8) rfl)) c_lnil))) c_lnil)) (c_gname 2)
 (c_seq (c_asg (c_ycallI (c_lcons (c_dix x_list (c_dY (c_ylst (c_ocons (c_yR (c_c (v := .int 1) rfl)) (c_ocons (c_yR (c_c (v := .int 2) rfl)) (c_ocons (c_yR (c_c (v := .int 3) rfl)) (c_ocons (c_yR (c_c (v := .int 5) rfl)) (c_ocons (c_yR (c_c (v := .int 10) rfl)) c_onil))))))) (c_dY (c_ycallI (c_lcons (c_dR (c_c (v := .int 5) rfl)) c_lnil)))) (c_lcons (c_dR (c_c (v := .int 4) rfl)) c_lnil))))
 (c_sif (c_tR (c_bB (c_call (c_qcons (c_rOpZ z_cat (c_var 1) (c_lst (c_qcons (c_var 3) c_qnil))) c_qnil))))
 (c_app (c_yvar 3))
 c_next)))
 (c_seq (c_asg (c_ycallI (c_lcons (c_dY (c_yvar 1)) c_lnil)))
 (c_seq (c_asg (c_ycallA (c_qcons (c_var 1) c_qnil) (c_lcons (c_dY (c_yvar 1)) c_lnil)))
 (c_seq (c_asg (c_ylc (vs := [7]) (c_iL (c_dY (c_yvar 4))) (c_gname 7) (by decide) c_tyes (c_ycallA (c_qcons (c_var 7) c_qnil) (c_lcons (c_dY (c_yvar 7)) c_lnil))))
 (c_seq (c_sif (c_tR (c_bOr (c_bR (c_op o_neS (c_repr (c_call (c_qcons (c_var 6) c_qnil))) (c_repr (c_var 5)))) (c_bOr (c_bR (c_op o_neI (c_call (c_qcons (c_var 1) c_qnil)) (c_ix x_tup (c_var 5) (c_c (v := .int 0) rfl)))) (c_bR (c_op o_neI (c_call (c_qcons (c_var 1) c_qnil)) (c_cb b_len (c_qcons (c_ix x_tup (c_var 5) (c_c (v := .int 1) rfl)) c_qnil)))))))
 (c_ret (c_yR (c_c (v := .bl false) rfl)))
 c_next)
 (c_seq (c_for (c_iR1 (c_lcons (c_dR (c_c (v := .int 6) rfl)) c_lnil)) (c_gname 2)
 (c_seq (c_asg (c_ycallI (c_lcons (c_dY (c_yauto (c_ix x_tup (c_var 5) (c_c (v := .int 0) rfl)) (c_yD (c_dixR x_tup (c_dY (c_yvar 5)) (c_c (v := .int 0) rfl))))) c_lnil)))
 (c_seq (c_asg (c_ycallA (c_qcons (c_var 1) (c_qcons (c_var 8) c_qnil)) (c_lcons (c_dY (c_yvar 1)) (c_lcons (c_dY (c_yvar 8)) c_lnil))))
 (c_seq (c_sif (c_tR (c_bR (c_op o_neI (c_call (c_qcons (c_var 6) (c_qcons (c_call (c_qcons (c_var 4) (c_qcons (c_var 9) c_qnil))) c_qnil))) (c_var 8))))
 (c_ret (c_yR (c_c (v := .bl false) rfl)))
 c_next)
 (c_seq (c_asg (c_ycallI (c_lcons (c_dY (c_yauto (c_ix x_tup (c_var 5) (c_c (v := .int 0) rfl)) (c_yD (c_dixR x_tup (c_dY (c_yvar 5)) (c_c (v := .int 0) rfl))))) c_lnil)))
 (c_seq (c_asg (c_yR (c_op o_inD (c_tup (c_qcons (c_cb b_min2 (c_qcons (c_var 8) (c_qcons (c_var 10) c_qnil))) (c_qcons (c_cb b_max2 (c_qcons (c_var 8) (c_qcons (c_var 10) c_qnil))) c_qnil))) (c_ix x_tup (c_var 5) (c_c (v := .int 1) rfl)))))
 (c_sif (c_tR (c_bR (c_op o_neI (c_call (c_qcons (c_var 1) (c_qcons (c_var 9) (c_qcons (c_call (c_qcons (c_var 1) (c_qcons (c_var 10) c_qnil))) c_qnil)))) (c_var 11))))
 (c_ret (c_yR (c_c (v := .bl false) rfl)))
 c_next)))))))
 (c_ret (c_yR (c_c (v := .bl true) rfl))))))))))
theorem ok_law (B : Bn mg) (T : Tp kf.K mg "law" s_law) (d__law_pool : Dq P w kf.K mg base "_law_pool" 1 ["_law_script", "_law_k"] (spP 2 m__law_pool)) (d__law_powers : Dq P w kf.K mg base "_law_powers" 6 ["_law_pool_here"] (spI 1 m__law_powers)) (d__law_sums : Dq P w kf.K mg base "_law_sums" 6 ["_law_pool_here"] (spI 1 m__law_sums)) (d__law_right : Dq P w kf.K mg base "_law_right" 7 ["_law_pool_here"] (spI 1 m__law_right)) : FnQ P w kf.K mg base CX0 8 T.a T.fd ["_law_script"] (spP 1 m_law) := by
  refine fnq_of T.F sc_law (spP_len rfl) fun cdv A outer s H vs Q E hr hg h => ?_
  refine ⟨_, PSs.nox (pss_cons (ps_for PassesOwn.never rfl (pi_range1 (by rfl) B.n_range (pa_cons (pe_callB (call_max2 rfl) (by rfl) B.n_max (by decide +kernel) (pa_cons pe_int (pa_cons (pe_callB (call_min2 rfl) (by rfl) B.n_min (by decide +kernel) (pa_cons (pe_callB (call_len_seqK (K := kf.K) rfl) (by rfl) B.n_len PySem.boot_len (pa_cons (pv 0) pa_nil)) (pa_cons pe_int pa_nil))) pa_nil))) pa_nil)) (pg_name (i := 1) sc_law.nd rfl (Or.inl rfl))
 (pss_cons (ps_set (i := 2) sc_law.nd rfl (Or.inl rfl) (pe_callQ d__law_pool.G (hr.mono (by decide)) hg (by rfl) d__law_pool.g d__law_pool.kp d__law_pool.b pass0 (pa_cons (pv 0) (pa_cons (pv 1) pa_nil))))
 (pss_one (ps_if (PW.pt (pw_or (pt_not (pt_val (pe_callQ d__law_right.G (hr.mono (by decide)) hg (by rfl) d__law_right.g d__law_right.kp d__law_right.b pass0 (pa_cons (pv 2) pa_nil)))) (pw_or (pt_not (pt_val (pe_callQ d__law_sums.G (hr.mono (by decide)) hg (by rfl) d__law_sums.g d__law_sums.kp d__law_sums.b pass0 (pa_cons (pv 2) pa_nil)))) (pw_or1 (pt_not (pt_val (pe_callQ d__law_powers.G (hr.mono (by decide)) hg (by rfl) d__law_powers.g d__law_powers.kp d__law_powers.b pass0 (pa_cons (pv 2) pa_nil))))))))
 (pss_one (ps_ret pe_bl))
 pss_nil))))
 (pss_one (ps_ret pe_bl))), tie_plain (n := 1) (k := 2) (B := B_law) rfl ?_ h⟩
  exact (c_seq (c_for (c_iR1 (c_lcons (c_dR (c_cb b_max2 (c_qcons (c_c (v := .int 1) rfl) (c_qcons (c_cb b_min2 (c_qcons (c_cb b_len (c_qcons (c_var 0) c_qnil)) (c_qcons (c_c (v := .int 6) rfl) c_qnil))) c_qnil)))) c_lnil)) (c_gname 1)
 (c_seq (c_asg (c_ycallA (c_qcons (c_var 0) (c_qcons (c_var 1) c_qnil)) (c_lcons (c_dY (c_yvar 0)) (c_lcons (c_dY (c_yvar 1)) c_lnil))))
 (c_sif (c_tor (c_tnot (c_tDB (c_dY (c_ycallI c_lnil)))) (c_tor (c_tnot (c_tDB (c_dY (c_ycallI c_lnil)))) (c_tnot (c_tDB (c_dY (c_ycallI c_lnil))))))
 (c_ret (c_yR (c_c (v := .bl false) rfl)))
 c_next)))
 (c_ret (c_yR (c_c (v := .bl true) rfl))))
end
end z14

namespace z14
open PySem L2 PL MR SH
open PySem L2 PL
local macro_rules | `(tactic| walk_at "sd") => `(tactic| first | rfl | assumption | omega | decide)

theorem all_mk {l : PySem.W.OpenLaw} {w : World} {K : PySem.W.Frag} {h : Heap} {mg : Str → Option Value} {fa : Addr} {f0 : Addr} {od0 an0 : Option Addr} {sl0 : Array (Option Value)} {oc0 kV0 dc0 pm0 cd0 ct0 : Value} {f1 : Addr} {od1 an1 : Option Addr} {sl1 : Array (Option Value)} {oc1 kV1 dc1 pm1 cd1 ct1 : Value} {f2 : Addr} {od2 an2 : Option Addr} {sl2 : Array (Option Value)} {oc2 kV2 dc2 pm2 cd2 ct2 : Value} {f3 : Addr} {od3 an3 : Option Addr} {sl3 : Array (Option Value)} {oc3 kV3 dc3 pm3 cd3 ct3 : Value} {f4 : Addr} {od4 an4 : Option Addr} {sl4 : Array (Option Value)} {oc4 kV4 dc4 pm4 cd4 ct4 : Value} {f5 : Addr} {od5 an5 : Option Addr} {sl5 : Array (Option Value)} {oc5 kV5 dc5 pm5 cd5 ct5 : Value} {f6 : Addr} {od6 an6 : Option Addr} {sl6 : Array (Option Value)} {oc6 kV6 dc6 pm6 cd6 ct6 : Value} {f7 : Addr} {od7 an7 : Option Addr} {sl7 : Array (Option Value)} {oc7 kV7 dc7 pm7 cd7 ct7 : Value} {f8 : Addr} {od8 an8 : Option Addr} {sl8 : Array (Option Value)} {oc8 kV8 dc8 pm8 cd8 ct8 : Value} {f9 : Addr} {od9 an9 : Option Addr} {sl9 : Array (Option Value)} {oc9 kV9 dc9 pm9 cd9 ct9 : Value} {f10 : Addr} {od10 an10 : Option Addr} {sl10 : Array (Option Value)} {oc10 kV10 dc10 pm10 cd10 ct10 : Value} {f11 : Addr} {od11 an11 : Option Addr} {sl11 : Array (Option Value)} {oc11 kV11 dc11 pm11 cd11 ct11 : Value} {f12 : Addr} {od12 an12 : Option Addr} {sl12 : Array (Option Value)} {oc12 kV12 dc12 pm12 cd12 ct12 : Value} {f13 : Addr} {od13 an13 : Option Addr} {sl13 : Array (Option Value)} {oc13 kV13 dc13 pm13 cd13 ct13 : Value} {dT13 : Addr} {do13 : Obj} {di13 : List Value} {dn13 : Nat} {f14 : Addr} {od14 an14 : Option Addr} {sl14 : Array (Option Value)} {oc14 kV14 dc14 pm14 cd14 ct14 : Value} {f15 : Addr} {od15 an15 : Option Addr} {sl15 : Array (Option Value)} {oc15 kV15 dc15 pm15 cd15 ct15 : Value} {f16 : Addr} {od16 an16 : Option Addr} {sl16 : Array (Option Value)} {oc16 kV16 dc16 pm16 cd16 ct16 : Value} {f17 : Addr} {od17 an17 : Option Addr} {sl17 : Array (Option Value)} {oc17 kV17 dc17 pm17 cd17 ct17 : Value} {f18 : Addr} {od18 an18 : Option Addr} {sl18 : Array (Option Value)} {oc18 kV18 dc18 pm18 cd18 ct18 : Value} {f19 : Addr} {od19 an19 : Option Addr} {sl19 : Array (Option Value)} {oc19 kV19 dc19 pm19 cd19 ct19 : Value} {f20 : Addr} {od20 an20 : Option Addr} {sl20 : Array (Option Value)} {oc20 kV20 dc20 pm20 cd20 ct20 : Value} {f21 : Addr} {od21 an21 : Option Addr} {sl21 : Array (Option Value)} {oc21 kV21 dc21 pm21 cd21 ct21 : Value} {f22 : Addr} {od22 an22 : Option Addr} {sl22 : Array (Option Value)} {oc22 kV22 dc22 pm22 cd22 ct22 : Value} {f23 : Addr} {od23 an23 : Option Addr} {sl23 : Array (Option Value)} {oc23 kV23 dc23 pm23 cd23 ct23 : Value} {f24 : Addr} {od24 an24 : Option Addr} {sl24 : Array (Option Value)} {oc24 kV24 dc24 pm24 cd24 ct24 : Value} {f25 : Addr} {od25 an25 : Option Addr} {sl25 : Array (Option Value)} {oc25 kV25 dc25 pm25 cd25 ct25 : Value} {f26 : Addr} {od26 an26 : Option Addr} {sl26 : Array (Option Value)} {oc26 kV26 dc26 pm26 cd26 ct26 : Value} {f27 : Addr} {od27 an27 : Option Addr} {sl27 : Array (Option Value)} {oc27 kV27 dc27 pm27 cd27 ct27 : Value} {f28 : Addr} {od28 an28 : Option Addr} {sl28 : Array (Option Value)} {oc28 kV28 dc28 pm28 cd28 ct28 : Value} {f29 : Addr} {od29 an29 : Option Addr} {sl29 : Array (Option Value)} {oc29 kV29 dc29 pm29 cd29 ct29 : Value} {f30 : Addr} {od30 an30 : Option Addr} {sl30 : Array (Option Value)} {oc30 kV30 dc30 pm30 cd30 ct30 : Value} {f31 : Addr} {od31 an31 : Option Addr} {sl31 : Array (Option Value)} {oc31 kV31 dc31 pm31 cd31 ct31 : Value} {f32 : Addr} {od32 an32 : Option Addr} {sl32 : Array (Option Value)} {oc32 kV32 dc32 pm32 cd32 ct32 : Value} {f33 : Addr} {od33 an33 : Option Addr} {sl33 : Array (Option Value)} {oc33 kV33 dc33 pm33 cd33 ct33 : Value} {tk2 : Tok} {tk3 : Tok} {tk4 : Tok}
  (X : K.In h) (G : h.Ns mainGlobals mg) (hfa : mg "law" = some (.ref fa))
  (a0 : PySem.W.nsIn K mainGlobals "_law_pool" = some (some (.ref f0))) (l0 : K.lookup f0 = some ⟨oc0, od0, .func (PySem.W.fnOf "_law_pool" "_law_pool" (defArgs s__law_pool) (defBody s__law_pool) (defScope s__law_pool) .none kV0 dc0 pm0 an0 cd0 ct0), sl0⟩) (c0 : PySem.W.codeIn K cd0 "_law_pool" = true) (k0 : PySem.W.keepIn K (.ref f0) = true)
  (a1 : PySem.W.nsIn K mainGlobals "_law_take" = some (some (.ref f1))) (l1 : K.lookup f1 = some ⟨oc1, od1, .func (PySem.W.fnOf "_law_take" "_law_take" (defArgs s__law_take) (defBody s__law_take) (defScope s__law_take) .none kV1 dc1 pm1 an1 cd1 ct1), sl1⟩) (c1 : PySem.W.codeIn K cd1 "_law_take" = true) (k1 : PySem.W.keepIn K (.ref f1) = true)
  (a2 : PySem.W.nsIn K mainGlobals "_law_web" = some (some (.ref f2))) (l2 : K.lookup f2 = some ⟨oc2, od2, .func (PySem.W.fnOf "_law_web" "_law_web" (defArgs s__law_web) (defBody s__law_web) (defScope s__law_web) .none kV2 dc2 pm2 an2 cd2 ct2), sl2⟩) (c2 : PySem.W.codeIn K cd2 "_law_web" = true) (k2 : PySem.W.keepIn K (.ref f2) = true)
  (a3 : PySem.W.nsIn K mainGlobals "_law_loose" = some (some (.ref f3))) (l3 : K.lookup f3 = some ⟨oc3, od3, .func (PySem.W.fnOf "_law_loose" "_law_loose" (defArgs s__law_loose) (defBody s__law_loose) (defScope s__law_loose) .none kV3 dc3 pm3 an3 cd3 ct3), sl3⟩) (c3 : PySem.W.codeIn K cd3 "_law_loose" = true) (k3 : PySem.W.keepIn K (.ref f3) = true)
  (a4 : PySem.W.nsIn K mainGlobals "_law_fits" = some (some (.ref f4))) (l4 : K.lookup f4 = some ⟨oc4, od4, .func (PySem.W.fnOf "_law_fits" "_law_fits" (defArgs s__law_fits) (defBody s__law_fits) (defScope s__law_fits) .none kV4 dc4 pm4 an4 cd4 ct4), sl4⟩) (c4 : PySem.W.codeIn K cd4 "_law_fits" = true) (k4 : PySem.W.keepIn K (.ref f4) = true)
  (a5 : PySem.W.nsIn K mainGlobals "is_whole" = some (some (.ref f5))) (l5 : K.lookup f5 = some ⟨oc5, od5, .func (PySem.W.fnOf "is_whole" "is_whole" (defArgs s_is_whole) (defBody s_is_whole) (defScope s_is_whole) .none kV5 dc5 pm5 an5 cd5 ct5), sl5⟩) (c5 : PySem.W.codeIn K cd5 "is_whole" = true) (k5 : PySem.W.keepIn K (.ref f5) = true)
  (a6 : PySem.W.nsIn K mainGlobals "joins_places" = some (some (.ref f6))) (l6 : K.lookup f6 = some ⟨oc6, od6, .func (PySem.W.fnOf "joins_places" "joins_places" (defArgs s_joins_places) (defBody s_joins_places) (defScope s_joins_places) .none kV6 dc6 pm6 an6 cd6 ct6), sl6⟩) (c6 : PySem.W.codeIn K cd6 "joins_places" = true) (k6 : PySem.W.keepIn K (.ref f6) = true)
  (a7 : PySem.W.nsIn K mainGlobals "web_fault" = some (some (.ref f7))) (l7 : K.lookup f7 = some ⟨oc7, od7, .func (PySem.W.fnOf "web_fault" "web_fault" (defArgs s_web_fault) (defBody s_web_fault) (defScope s_web_fault) .none kV7 dc7 pm7 an7 cd7 ct7), sl7⟩) (c7 : PySem.W.codeIn K cd7 "web_fault" = true) (k7 : PySem.W.keepIn K (.ref f7) = true)
  (a8 : PySem.W.nsIn K mainGlobals "look_at_web" = some (some (.ref f8))) (l8 : K.lookup f8 = some ⟨oc8, od8, .func (PySem.W.fnOf "look_at_web" "look_at_web" (defArgs s_look_at_web) (defBody s_look_at_web) (defScope s_look_at_web) .none kV8 dc8 pm8 an8 cd8 ct8), sl8⟩) (c8 : PySem.W.codeIn K cd8 "look_at_web" = true) (k8 : PySem.W.keepIn K (.ref f8) = true)
  (a9 : PySem.W.nsIn K mainGlobals "count_ties" = some (some (.ref f9))) (l9 : K.lookup f9 = some ⟨oc9, od9, .func (PySem.W.fnOf "count_ties" "count_ties" (defArgs s_count_ties) (defBody s_count_ties) (defScope s_count_ties) .none kV9 dc9 pm9 an9 cd9 ct9), sl9⟩) (c9 : PySem.W.codeIn K cd9 "count_ties" = true) (k9 : PySem.W.keepIn K (.ref f9) = true)
  (a10 : PySem.W.nsIn K mainGlobals "count_rows" = some (some (.ref f10))) (l10 : K.lookup f10 = some ⟨oc10, od10, .func (PySem.W.fnOf "count_rows" "count_rows" (defArgs s_count_rows) (defBody s_count_rows) (defScope s_count_rows) .none kV10 dc10 pm10 an10 cd10 ct10), sl10⟩) (c10 : PySem.W.codeIn K cd10 "count_rows" = true) (k10 : PySem.W.keepIn K (.ref f10) = true)
  (a11 : PySem.W.nsIn K mainGlobals "look_at_size" = some (some (.ref f11))) (l11 : K.lookup f11 = some ⟨oc11, od11, .func (PySem.W.fnOf "look_at_size" "look_at_size" (defArgs s_look_at_size) (defBody s_look_at_size) (defScope s_look_at_size) .none kV11 dc11 pm11 an11 cd11 ct11), sl11⟩) (c11 : PySem.W.codeIn K cd11 "look_at_size" = true) (k11 : PySem.W.keepIn K (.ref f11) = true)
  (a12 : PySem.W.nsIn K mainGlobals "multiplied" = some (some (.ref f12))) (l12 : K.lookup f12 = some ⟨oc12, od12, .func (PySem.W.fnOf "multiplied" "multiplied" (defArgs s_multiplied) (defBody s_multiplied) (defScope s_multiplied) .none kV12 dc12 pm12 an12 cd12 ct12), sl12⟩) (c12 : PySem.W.codeIn K cd12 "multiplied" = true) (k12 : PySem.W.keepIn K (.ref f12) = true)
  (a13 : PySem.W.nsIn K mainGlobals "power" = some (some (.ref f13))) (l13 : K.lookup f13 = some ⟨oc13, od13, .func (PySem.W.fnOf "power" "power" (defArgs s_power) (defBody s_power) (defScope s_power) (.ref dT13) kV13 dc13 pm13 an13 cd13 ct13), sl13⟩) (c13 : PySem.W.codeIn K cd13 "power" = true) (k13 : PySem.W.keepIn K (.ref f13) = true)
  (u13 : K.lookup dT13 = some do13) (v13 : do13.data = .seq di13.toArray dn13) (x13 : di13.length = 1)
  (a14 : PySem.W.nsIn K mainGlobals "look_at_webs" = some (some (.ref f14))) (l14 : K.lookup f14 = some ⟨oc14, od14, .func (PySem.W.fnOf "look_at_webs" "look_at_webs" (defArgs s_look_at_webs) (defBody s_look_at_webs) (defScope s_look_at_webs) .none kV14 dc14 pm14 an14 cd14 ct14), sl14⟩) (c14 : PySem.W.codeIn K cd14 "look_at_webs" = true) (k14 : PySem.W.keepIn K (.ref f14) = true)
  (a15 : PySem.W.nsIn K mainGlobals "product" = some (some (.ref f15))) (l15 : K.lookup f15 = some ⟨oc15, od15, .func (PySem.W.fnOf "product" "product" (defArgs s_product) (defBody s_product) (defScope s_product) .none kV15 dc15 pm15 an15 cd15 ct15), sl15⟩) (c15 : PySem.W.codeIn K cd15 "product" = true) (k15 : PySem.W.keepIn K (.ref f15) = true)
  (a16 : PySem.W.nsIn K mainGlobals "_law_powers" = some (some (.ref f16))) (l16 : K.lookup f16 = some ⟨oc16, od16, .func (PySem.W.fnOf "_law_powers" "_law_powers" (defArgs s__law_powers) (defBody s__law_powers) (defScope s__law_powers) .none kV16 dc16 pm16 an16 cd16 ct16), sl16⟩) (c16 : PySem.W.codeIn K cd16 "_law_powers" = true) (k16 : PySem.W.keepIn K (.ref f16) = true)
  (a17 : PySem.W.nsIn K mainGlobals "places_of" = some (some (.ref f17))) (l17 : K.lookup f17 = some ⟨oc17, od17, .func (PySem.W.fnOf "places_of" "places_of" (defArgs s_places_of) (defBody s_places_of) (defScope s_places_of) .none kV17 dc17 pm17 an17 cd17 ct17), sl17⟩) (c17 : PySem.W.codeIn K cd17 "places_of" = true) (k17 : PySem.W.keepIn K (.ref f17) = true)
  (a18 : PySem.W.nsIn K mainGlobals "ties_of" = some (some (.ref f18))) (l18 : K.lookup f18 = some ⟨oc18, od18, .func (PySem.W.fnOf "ties_of" "ties_of" (defArgs s_ties_of) (defBody s_ties_of) (defScope s_ties_of) .none kV18 dc18 pm18 an18 cd18 ct18), sl18⟩) (c18 : PySem.W.codeIn K cd18 "ties_of" = true) (k18 : PySem.W.keepIn K (.ref f18) = true)
  (a19 : PySem.W.nsIn K mainGlobals "_law_sums" = some (some (.ref f19))) (l19 : K.lookup f19 = some ⟨oc19, od19, .func (PySem.W.fnOf "_law_sums" "_law_sums" (defArgs s__law_sums) (defBody s__law_sums) (defScope s__law_sums) .none kV19 dc19 pm19 an19 cd19 ct19), sl19⟩) (c19 : PySem.W.codeIn K cd19 "_law_sums" = true) (k19 : PySem.W.keepIn K (.ref f19) = true)
  (a20 : PySem.W.nsIn K mainGlobals "_law_groups" = some (some (.ref f20))) (l20 : K.lookup f20 = some ⟨oc20, od20, .func (PySem.W.fnOf "_law_groups" "_law_groups" (defArgs s__law_groups) (defBody s__law_groups) (defScope s__law_groups) .none kV20 dc20 pm20 an20 cd20 ct20), sl20⟩) (c20 : PySem.W.codeIn K cd20 "_law_groups" = true) (k20 : PySem.W.keepIn K (.ref f20) = true)
  (a21 : PySem.W.nsIn K mainGlobals "is_place" = some (some (.ref f21))) (l21 : K.lookup f21 = some ⟨oc21, od21, .func (PySem.W.fnOf "is_place" "is_place" (defArgs s_is_place) (defBody s_is_place) (defScope s_is_place) .none kV21 dc21 pm21 an21 cd21 ct21), sl21⟩) (c21 : PySem.W.codeIn K cd21 "is_place" = true) (k21 : PySem.W.keepIn K (.ref f21) = true)
  (a22 : PySem.W.nsIn K mainGlobals "numbered_row" = some (some (.ref f22))) (l22 : K.lookup f22 = some ⟨oc22, od22, .func (PySem.W.fnOf "numbered_row" "numbered_row" (defArgs s_numbered_row) (defBody s_numbered_row) (defScope s_numbered_row) .none kV22 dc22 pm22 an22 cd22 ct22), sl22⟩) (c22 : PySem.W.codeIn K cd22 "numbered_row" = true) (k22 : PySem.W.keepIn K (.ref f22) = true)
  (a23 : PySem.W.nsIn K mainGlobals "row_of" = some (some (.ref f23))) (l23 : K.lookup f23 = some ⟨oc23, od23, .func (PySem.W.fnOf "row_of" "row_of" (defArgs s_row_of) (defBody s_row_of) (defScope s_row_of) .none kV23 dc23 pm23 an23 cd23 ct23), sl23⟩) (c23 : PySem.W.codeIn K cd23 "row_of" = true) (k23 : PySem.W.keepIn K (.ref f23) = true)
  (a24 : PySem.W.nsIn K mainGlobals "makes_row" = some (some (.ref f24))) (l24 : K.lookup f24 = some ⟨oc24, od24, .func (PySem.W.fnOf "makes_row" "makes_row" (defArgs s_makes_row) (defBody s_makes_row) (defScope s_makes_row) .none kV24 dc24 pm24 an24 cd24 ct24), sl24⟩) (c24 : PySem.W.codeIn K cd24 "makes_row" = true) (k24 : PySem.W.keepIn K (.ref f24) = true)
  (a25 : PySem.W.nsIn K mainGlobals "look_at_row" = some (some (.ref f25))) (l25 : K.lookup f25 = some ⟨oc25, od25, .func (PySem.W.fnOf "look_at_row" "look_at_row" (defArgs s_look_at_row) (defBody s_look_at_row) (defScope s_look_at_row) .none kV25 dc25 pm25 an25 cd25 ct25), sl25⟩) (c25 : PySem.W.codeIn K cd25 "look_at_row" = true) (k25 : PySem.W.keepIn K (.ref f25) = true)
  (a26 : PySem.W.nsIn K mainGlobals "row_number" = some (some (.ref f26))) (l26 : K.lookup f26 = some ⟨oc26, od26, .func (PySem.W.fnOf "row_number" "row_number" (defArgs s_row_number) (defBody s_row_number) (defScope s_row_number) .none kV26 dc26 pm26 an26 cd26 ct26), sl26⟩) (c26 : PySem.W.codeIn K cd26 "row_number" = true) (k26 : PySem.W.keepIn K (.ref f26) = true)
  (a27 : PySem.W.nsIn K mainGlobals "number_of" = some (some (.ref f27))) (l27 : K.lookup f27 = some ⟨oc27, od27, .func (PySem.W.fnOf "number_of" "number_of" (defArgs s_number_of) (defBody s_number_of) (defScope s_number_of) .none kV27 dc27 pm27 an27 cd27 ct27), sl27⟩) (c27 : PySem.W.codeIn K cd27 "number_of" = true) (k27 : PySem.W.keepIn K (.ref f27) = true)
  (a28 : PySem.W.nsIn K mainGlobals "_law_grouped_row" = some (some (.ref f28))) (l28 : K.lookup f28 = some ⟨oc28, od28, .func (PySem.W.fnOf "_law_grouped_row" "_law_grouped_row" (defArgs s__law_grouped_row) (defBody s__law_grouped_row) (defScope s__law_grouped_row) .none kV28 dc28 pm28 an28 cd28 ct28), sl28⟩) (c28 : PySem.W.codeIn K cd28 "_law_grouped_row" = true) (k28 : PySem.W.keepIn K (.ref f28) = true)
  (a29 : PySem.W.nsIn K mainGlobals "as_tie" = some (some (.ref f29))) (l29 : K.lookup f29 = some ⟨oc29, od29, .func (PySem.W.fnOf "as_tie" "as_tie" (defArgs s_as_tie) (defBody s_as_tie) (defScope s_as_tie) .none kV29 dc29 pm29 an29 cd29 ct29), sl29⟩) (c29 : PySem.W.codeIn K cd29 "as_tie" = true) (k29 : PySem.W.keepIn K (.ref f29) = true)
  (a30 : PySem.W.nsIn K mainGlobals "are_tied" = some (some (.ref f30))) (l30 : K.lookup f30 = some ⟨oc30, od30, .func (PySem.W.fnOf "are_tied" "are_tied" (defArgs s_are_tied) (defBody s_are_tied) (defScope s_are_tied) .none kV30 dc30 pm30 an30 cd30 ct30), sl30⟩) (c30 : PySem.W.codeIn K cd30 "are_tied" = true) (k30 : PySem.W.keepIn K (.ref f30) = true)
  (a31 : PySem.W.nsIn K mainGlobals "rows_tied" = some (some (.ref f31))) (l31 : K.lookup f31 = some ⟨oc31, od31, .func (PySem.W.fnOf "rows_tied" "rows_tied" (defArgs s_rows_tied) (defBody s_rows_tied) (defScope s_rows_tied) .none kV31 dc31 pm31 an31 cd31 ct31), sl31⟩) (c31 : PySem.W.codeIn K cd31 "rows_tied" = true) (k31 : PySem.W.keepIn K (.ref f31) = true)
  (a32 : PySem.W.nsIn K mainGlobals "_law_right" = some (some (.ref f32))) (l32 : K.lookup f32 = some ⟨oc32, od32, .func (PySem.W.fnOf "_law_right" "_law_right" (defArgs s__law_right) (defBody s__law_right) (defScope s__law_right) .none kV32 dc32 pm32 an32 cd32 ct32), sl32⟩) (c32 : PySem.W.codeIn K cd32 "_law_right" = true) (k32 : PySem.W.keepIn K (.ref f32) = true)
  (a33 : PySem.W.nsIn K mainGlobals "law" = some (some (.ref f33))) (l33 : K.lookup f33 = some ⟨oc33, od33, .func (PySem.W.fnOf "law" "law" (defArgs s_law) (defBody s_law) (defScope s_law) .none kV33 dc33 pm33 an33 cd33 ct33), sl33⟩) (c33 : PySem.W.codeIn K cd33 "law" = true) (k33 : PySem.W.keepIn K (.ref f33) = true)
  (z0 : PySem.W.nsIn K mainGlobals "all" = some none)
  (z1 : PySem.W.nsIn K mainGlobals "bool" = some none)
  (z2 : PySem.W.nsIn K mainGlobals "MOST_PLACES" = some (some (.int 40 tk2)))
  (z3 : PySem.W.nsIn K mainGlobals "MOST_TIES" = some (some (.int 120 tk3)))
  (z4 : PySem.W.nsIn K mainGlobals "MOST_WEBS" = some (some (.int 12 tk4)))
  (z5 : PySem.W.nsIn K mainGlobals "enumerate" = some none)
  (z6 : PySem.W.nsIn K mainGlobals "int" = some none)
  (z7 : PySem.W.nsIn K mainGlobals "isinstance" = some none)
  (z8 : PySem.W.nsIn K mainGlobals "len" = some none)
  (z9 : PySem.W.nsIn K mainGlobals "list" = some none)
  (z10 : PySem.W.nsIn K mainGlobals "max" = some none)
  (z11 : PySem.W.nsIn K mainGlobals "min" = some none)
  (z12 : PySem.W.nsIn K mainGlobals "range" = some none)
  (z13 : PySem.W.nsIn K mainGlobals "repr" = some none)
  (z14 : PySem.W.nsIn K mainGlobals "reversed" = some none)
  (z15 : PySem.W.nsIn K mainGlobals "sorted" = some none)
  (z16 : PySem.W.nsIn K mainGlobals "sum" = some none)
  (z17 : PySem.W.nsIn K mainGlobals "tuple" = some none)
  (z18 : PySem.W.nsIn K mainGlobals "zip" = some none) :
  ∃ fd : FuncData, (∀ (s : Shared) (v : Value), BindsTo s fd ⟨[v], []⟩ [("_law_script", v)]) ∧ ∀ base : Heap, K.In base → base.Ns mainGlobals mg → FnQ l.prog w K mg base CX0 8 fa fd ["_law_script"] (@spP ⟨K⟩ 1 m_law) := by
  have e := hfa.symm.trans (PySem.W.mg_of X G a33)
  cases e
  letI kf : KF := ⟨K⟩
  have B : Bn mg := ⟨PySem.W.mg_none_of X G z0, PySem.W.mg_none_of X G z1, ⟨_, PySem.W.mg_of X G z2⟩, ⟨_, PySem.W.mg_of X G z3⟩, ⟨_, PySem.W.mg_of X G z4⟩, PySem.W.mg_none_of X G z5, PySem.W.mg_none_of X G z6, PySem.W.mg_none_of X G z7, PySem.W.mg_none_of X G z8, PySem.W.mg_none_of X G z9, PySem.W.mg_none_of X G z10, PySem.W.mg_none_of X G z11, PySem.W.mg_none_of X G z12, PySem.W.mg_none_of X G z13, PySem.W.mg_none_of X G z14, PySem.W.mg_none_of X G z15, PySem.W.mg_none_of X G z16, PySem.W.mg_none_of X G z17, PySem.W.mg_none_of X G z18⟩
  let T__law_pool : Tp kf.K mg "_law_pool" s__law_pool := ⟨_, _, fun_mk (st := s__law_pool) l0 c0 k0, PySem.W.mg_of X G a0⟩
  let T__law_take : Tp kf.K mg "_law_take" s__law_take := ⟨_, _, fun_mk (st := s__law_take) l1 c1 k1, PySem.W.mg_of X G a1⟩
  let T__law_web : Tp kf.K mg "_law_web" s__law_web := ⟨_, _, fun_mk (st := s__law_web) l2 c2 k2, PySem.W.mg_of X G a2⟩
  let T__law_loose : Tp kf.K mg "_law_loose" s__law_loose := ⟨_, _, fun_mk (st := s__law_loose) l3 c3 k3, PySem.W.mg_of X G a3⟩
  let T__law_fits : Tp kf.K mg "_law_fits" s__law_fits := ⟨_, _, fun_mk (st := s__law_fits) l4 c4 k4, PySem.W.mg_of X G a4⟩
  let T_is_whole : Tp kf.K mg "is_whole" s_is_whole := ⟨_, _, fun_mk (st := s_is_whole) l5 c5 k5, PySem.W.mg_of X G a5⟩
  let T_joins_places : Tp kf.K mg "joins_places" s_joins_places := ⟨_, _, fun_mk (st := s_joins_places) l6 c6 k6, PySem.W.mg_of X G a6⟩
  let T_web_fault : Tp kf.K mg "web_fault" s_web_fault := ⟨_, _, fun_mk (st := s_web_fault) l7 c7 k7, PySem.W.mg_of X G a7⟩
  let T_look_at_web : Tp kf.K mg "look_at_web" s_look_at_web := ⟨_, _, fun_mk (st := s_look_at_web) l8 c8 k8, PySem.W.mg_of X G a8⟩
  let T_count_ties : Tp kf.K mg "count_ties" s_count_ties := ⟨_, _, fun_mk (st := s_count_ties) l9 c9 k9, PySem.W.mg_of X G a9⟩
  let T_count_rows : Tp kf.K mg "count_rows" s_count_rows := ⟨_, _, fun_mk (st := s_count_rows) l10 c10 k10, PySem.W.mg_of X G a10⟩
  let T_look_at_size : Tp kf.K mg "look_at_size" s_look_at_size := ⟨_, _, fun_mk (st := s_look_at_size) l11 c11 k11, PySem.W.mg_of X G a11⟩
  let T_multiplied : Tp kf.K mg "multiplied" s_multiplied := ⟨_, _, fun_mk (st := s_multiplied) l12 c12 k12, PySem.W.mg_of X G a12⟩
  let T_power : TpD kf.K mg "power" s_power 1 := ⟨_, _, funD1_mk (st := s_power) l13 c13 k13 u13 v13 x13, PySem.W.mg_of X G a13⟩
  let T_look_at_webs : Tp kf.K mg "look_at_webs" s_look_at_webs := ⟨_, _, fun_mk (st := s_look_at_webs) l14 c14 k14, PySem.W.mg_of X G a14⟩
  let T_product : Tp kf.K mg "product" s_product := ⟨_, _, fun_mk (st := s_product) l15 c15 k15, PySem.W.mg_of X G a15⟩
  let T__law_powers : Tp kf.K mg "_law_powers" s__law_powers := ⟨_, _, fun_mk (st := s__law_powers) l16 c16 k16, PySem.W.mg_of X G a16⟩
  let T_places_of : Tp kf.K mg "places_of" s_places_of := ⟨_, _, fun_mk (st := s_places_of) l17 c17 k17, PySem.W.mg_of X G a17⟩
  let T_ties_of : Tp kf.K mg "ties_of" s_ties_of := ⟨_, _, fun_mk (st := s_ties_of) l18 c18 k18, PySem.W.mg_of X G a18⟩
  let T__law_sums : Tp kf.K mg "_law_sums" s__law_sums := ⟨_, _, fun_mk (st := s__law_sums) l19 c19 k19, PySem.W.mg_of X G a19⟩
  let T__law_groups : Tp kf.K mg "_law_groups" s__law_groups := ⟨_, _, fun_mk (st := s__law_groups) l20 c20 k20, PySem.W.mg_of X G a20⟩
  let T_is_place : Tp kf.K mg "is_place" s_is_place := ⟨_, _, fun_mk (st := s_is_place) l21 c21 k21, PySem.W.mg_of X G a21⟩
  let T_numbered_row : Tp kf.K mg "numbered_row" s_numbered_row := ⟨_, _, fun_mk (st := s_numbered_row) l22 c22 k22, PySem.W.mg_of X G a22⟩
  let T_row_of : Tp kf.K mg "row_of" s_row_of := ⟨_, _, fun_mk (st := s_row_of) l23 c23 k23, PySem.W.mg_of X G a23⟩
  let T_makes_row : Tp kf.K mg "makes_row" s_makes_row := ⟨_, _, fun_mk (st := s_makes_row) l24 c24 k24, PySem.W.mg_of X G a24⟩
  let T_look_at_row : Tp kf.K mg "look_at_row" s_look_at_row := ⟨_, _, fun_mk (st := s_look_at_row) l25 c25 k25, PySem.W.mg_of X G a25⟩
  let T_row_number : Tp kf.K mg "row_number" s_row_number := ⟨_, _, fun_mk (st := s_row_number) l26 c26 k26, PySem.W.mg_of X G a26⟩
  let T_number_of : Tp kf.K mg "number_of" s_number_of := ⟨_, _, fun_mk (st := s_number_of) l27 c27 k27, PySem.W.mg_of X G a27⟩
  let T__law_grouped_row : Tp kf.K mg "_law_grouped_row" s__law_grouped_row := ⟨_, _, fun_mk (st := s__law_grouped_row) l28 c28 k28, PySem.W.mg_of X G a28⟩
  let T_as_tie : Tp kf.K mg "as_tie" s_as_tie := ⟨_, _, fun_mk (st := s_as_tie) l29 c29 k29, PySem.W.mg_of X G a29⟩
  let T_are_tied : Tp kf.K mg "are_tied" s_are_tied := ⟨_, _, fun_mk (st := s_are_tied) l30 c30 k30, PySem.W.mg_of X G a30⟩
  let T_rows_tied : Tp kf.K mg "rows_tied" s_rows_tied := ⟨_, _, fun_mk (st := s_rows_tied) l31 c31 k31, PySem.W.mg_of X G a31⟩
  let T__law_right : Tp kf.K mg "_law_right" s__law_right := ⟨_, _, fun_mk (st := s__law_right) l32 c32 k32, PySem.W.mg_of X G a32⟩
  let T_law : Tp kf.K mg "law" s_law := ⟨_, _, fun_mk (st := s_law) l33 c33 k33, PySem.W.mg_of X G a33⟩
  refine ⟨T_law.fd, fun s v => .of_eq rfl, fun base _ _ => ?_⟩
  let d__law_pool : Dq l.prog w kf.K mg base "_law_pool" 1 ["_law_script", "_law_k"] (spP 2 m__law_pool) := ⟨T__law_pool.a, T__law_pool.fd, T__law_pool.F.kp, T__law_pool.g, ok__law_pool B T__law_pool , T__law_pool.F.binds (ps := ["_law_script", "_law_k"]) fun _ _ _ _ _ _ us hl => match us, hl with | [_, _], _ => rfl⟩
  let d__law_take : Dq l.prog w kf.K mg base "_law_take" 1 ["_law_pool_here", "_law_many"] (spI 2 m__law_take) := ⟨T__law_take.a, T__law_take.fd, T__law_take.F.kp, T__law_take.g, ok__law_take B T__law_take , T__law_take.F.binds (ps := ["_law_pool_here", "_law_many"]) fun _ _ _ _ _ _ us hl => match us, hl with | [_, _], _ => rfl⟩
  let d__law_web : Dq l.prog w kf.K mg base "_law_web" 2 ["_law_pool_here", "_law_most", "_law_more"] (spI 3 m__law_web) := ⟨T__law_web.a, T__law_web.fd, T__law_web.F.kp, T__law_web.g, ok__law_web B T__law_web d__law_take, T__law_web.F.binds (ps := ["_law_pool_here", "_law_most", "_law_more"]) fun _ _ _ _ _ _ us hl => match us, hl with | [_, _, _], _ => rfl⟩
  let d__law_loose : Dq l.prog w kf.K mg base "_law_loose" 3 ["_law_pool_here", "_law_most", "_law_more"] (spI 3 m__law_loose) := ⟨T__law_loose.a, T__law_loose.fd, T__law_loose.F.kp, T__law_loose.g, ok__law_loose B T__law_loose d__law_web d__law_take, T__law_loose.F.binds (ps := ["_law_pool_here", "_law_most", "_law_more"]) fun _ _ _ _ _ _ us hl => match us, hl with | [_, _, _], _ => rfl⟩
  let d__law_fits : Dq l.prog w kf.K mg base "_law_fits" 1 ["_law_webs"] (spP 1 m__law_fits) := ⟨T__law_fits.a, T__law_fits.fd, T__law_fits.F.kp, T__law_fits.g, ok__law_fits B T__law_fits , T__law_fits.F.binds (ps := ["_law_webs"]) fun _ _ _ _ _ _ us hl => match us, hl with | [_], _ => rfl⟩
  let d_is_whole : Dq l.prog w kf.K mg base "is_whole" 1 ["thing"] (spP 1 m_is_whole) := ⟨T_is_whole.a, T_is_whole.fd, T_is_whole.F.kp, T_is_whole.g, ok_is_whole B T_is_whole , T_is_whole.F.binds (ps := ["thing"]) fun _ _ _ _ _ _ us hl => match us, hl with | [_], _ => rfl⟩
  let d_joins_places : Dq l.prog w kf.K mg base "joins_places" 2 ["many", "thing"] (spP 2 m_joins_places) := ⟨T_joins_places.a, T_joins_places.fd, T_joins_places.F.kp, T_joins_places.g, ok_joins_places B T_joins_places d_is_whole, T_joins_places.F.binds (ps := ["many", "thing"]) fun _ _ _ _ _ _ us hl => match us, hl with | [_, _], _ => rfl⟩
  let d_web_fault : Dq l.prog w kf.K mg base "web_fault" 3 ["thing"] (spP 1 m_web_fault) := ⟨T_web_fault.a, T_web_fault.fd, T_web_fault.F.kp, T_web_fault.g, ok_web_fault B T_web_fault d_is_whole d_joins_places, T_web_fault.F.binds (ps := ["thing"]) fun _ _ _ _ _ _ us hl => match us, hl with | [_], _ => rfl⟩
  let d_look_at_web : Dq l.prog w kf.K mg base "look_at_web" 4 ["thing"] (spP 1 m_look_at_web) := ⟨T_look_at_web.a, T_look_at_web.fd, T_look_at_web.F.kp, T_look_at_web.g, ok_look_at_web B T_look_at_web d_web_fault, T_look_at_web.F.binds (ps := ["thing"]) fun _ _ _ _ _ _ us hl => match us, hl with | [_], _ => rfl⟩
  let d_count_ties : Dq l.prog w kf.K mg base "count_ties" 1 ["webs"] (spP 1 m_count_ties) := ⟨T_count_ties.a, T_count_ties.fd, T_count_ties.F.kp, T_count_ties.g, ok_count_ties B T_count_ties , T_count_ties.F.binds (ps := ["webs"]) fun _ _ _ _ _ _ us hl => match us, hl with | [_], _ => rfl⟩
  let d_count_rows : Dq l.prog w kf.K mg base "count_rows" 1 ["webs"] (spP 1 m_count_rows) := ⟨T_count_rows.a, T_count_rows.fd, T_count_rows.F.kp, T_count_rows.g, ok_count_rows B T_count_rows , T_count_rows.F.binds (ps := ["webs"]) fun _ _ _ _ _ _ us hl => match us, hl with | [_], _ => rfl⟩
  let d_look_at_size : Dq l.prog w kf.K mg base "look_at_size" 2 ["webs"] (spP 1 m_look_at_size) := ⟨T_look_at_size.a, T_look_at_size.fd, T_look_at_size.F.kp, T_look_at_size.g, ok_look_at_size B T_look_at_size d_count_ties d_count_rows, T_look_at_size.F.binds (ps := ["webs"]) fun _ _ _ _ _ _ us hl => match us, hl with | [_], _ => rfl⟩
  let d_multiplied : Dq l.prog w kf.K mg base "multiplied" 3 ["webs"] (spP 1 m_multiplied) := ⟨T_multiplied.a, T_multiplied.fd, T_multiplied.F.kp, T_multiplied.g, ok_multiplied B T_multiplied d_look_at_size, T_multiplied.F.binds (ps := ["webs"]) fun _ _ _ _ _ _ us hl => match us, hl with | [_], _ => rfl⟩
  let d_power : Dq l.prog w kf.K mg base "power" 5 ["web", "times"] (spP 2 m_power) := ⟨T_power.a, T_power.fd, T_power.F.kp, T_power.g, ok_power B T_power d_look_at_web d_multiplied, T_power.F.binds (ps := ["web", "times"]) fun _ _ _ _ _ _ _ us its hl hm => match us, its, hl, hm with | [_, _], [_], _, _ => ⟨_, rfl, rfl⟩⟩
  have k_power_times : KBinds kf.K d_power.fd ["web", "times"] ["times"] (gApp 1 1) (gApp 1 1) := k_power_times_mk T_power.F
  let d_look_at_webs : Dq l.prog w kf.K mg base "look_at_webs" 4 ["thing"] (spP 1 m_look_at_webs) := ⟨T_look_at_webs.a, T_look_at_webs.fd, T_look_at_webs.F.kp, T_look_at_webs.g, ok_look_at_webs B T_look_at_webs d_web_fault, T_look_at_webs.F.binds (ps := ["thing"]) fun _ _ _ _ _ _ us hl => match us, hl with | [_], _ => rfl⟩
  let d_product : Dq l.prog w kf.K mg base "product" 5 ["webs"] (spP 1 m_product) := ⟨T_product.a, T_product.fd, T_product.F.kp, T_product.g, ok_product B T_product d_look_at_webs d_multiplied, T_product.F.binds (ps := ["webs"]) fun _ _ _ _ _ _ us hl => match us, hl with | [_], _ => rfl⟩
  let d__law_powers : Dq l.prog w kf.K mg base "_law_powers" 6 ["_law_pool_here"] (spI 1 m__law_powers) := ⟨T__law_powers.a, T__law_powers.fd, T__law_powers.F.kp, T__law_powers.g, ok__law_powers B T__law_powers d__law_loose d__law_fits d_power d_product k_power_times, T__law_powers.F.binds (ps := ["_law_pool_here"]) fun _ _ _ _ _ _ us hl => match us, hl with | [_], _ => rfl⟩
  let d_places_of : Dq l.prog w kf.K mg base "places_of" 5 ["webs"] (spP 1 m_places_of) := ⟨T_places_of.a, T_places_of.fd, T_places_of.F.kp, T_places_of.g, ok_places_of B T_places_of d_look_at_webs d_count_rows, T_places_of.F.binds (ps := ["webs"]) fun _ _ _ _ _ _ us hl => match us, hl with | [_], _ => rfl⟩
  let d_ties_of : Dq l.prog w kf.K mg base "ties_of" 5 ["webs"] (spP 1 m_ties_of) := ⟨T_ties_of.a, T_ties_of.fd, T_ties_of.F.kp, T_ties_of.g, ok_ties_of B T_ties_of d_look_at_webs d_count_ties, T_ties_of.F.binds (ps := ["webs"]) fun _ _ _ _ _ _ us hl => match us, hl with | [_], _ => rfl⟩
  let d__law_sums : Dq l.prog w kf.K mg base "_law_sums" 6 ["_law_pool_here"] (spI 1 m__law_sums) := ⟨T__law_sums.a, T__law_sums.fd, T__law_sums.F.kp, T__law_sums.g, ok__law_sums B T__law_sums d__law_take d__law_loose d_places_of d_ties_of, T__law_sums.F.binds (ps := ["_law_pool_here"]) fun _ _ _ _ _ _ us hl => match us, hl with | [_], _ => rfl⟩
  let d__law_groups : Dq l.prog w kf.K mg base "_law_groups" 2 ["_law_pool_here", "_law_webs"] (spI 2 m__law_groups) := ⟨T__law_groups.a, T__law_groups.fd, T__law_groups.F.kp, T__law_groups.g, ok__law_groups B T__law_groups d__law_take, T__law_groups.F.binds (ps := ["_law_pool_here", "_law_webs"]) fun _ _ _ _ _ _ us hl => match us, hl with | [_, _], _ => rfl⟩
  let d_is_place : Dq l.prog w kf.K mg base "is_place" 2 ["many", "thing"] (spP 2 m_is_place) := ⟨T_is_place.a, T_is_place.fd, T_is_place.F.kp, T_is_place.g, ok_is_place B T_is_place d_is_whole, T_is_place.F.binds (ps := ["many", "thing"]) fun _ _ _ _ _ _ us hl => match us, hl with | [_, _], _ => rfl⟩
  let d_numbered_row : Dq l.prog w kf.K mg base "numbered_row" 1 ["webs", "number"] (spP 2 m_numbered_row) := ⟨T_numbered_row.a, T_numbered_row.fd, T_numbered_row.F.kp, T_numbered_row.g, ok_numbered_row B T_numbered_row , T_numbered_row.F.binds (ps := ["webs", "number"]) fun _ _ _ _ _ _ us hl => match us, hl with | [_, _], _ => rfl⟩
  let d_row_of : Dq l.prog w kf.K mg base "row_of" 5 ["webs", "number"] (spP 2 m_row_of) := ⟨T_row_of.a, T_row_of.fd, T_row_of.F.kp, T_row_of.g, ok_row_of B T_row_of d_look_at_webs d_is_place d_count_rows d_numbered_row, T_row_of.F.binds (ps := ["webs", "number"]) fun _ _ _ _ _ _ us hl => match us, hl with | [_, _], _ => rfl⟩
  let d_makes_row : Dq l.prog w kf.K mg base "makes_row" 3 ["webs", "thing"] (spP 2 m_makes_row) := ⟨T_makes_row.a, T_makes_row.fd, T_makes_row.F.kp, T_makes_row.g, ok_makes_row B T_makes_row d_is_place, T_makes_row.F.binds (ps := ["webs", "thing"]) fun _ _ _ _ _ _ us hl => match us, hl with | [_, _], _ => rfl⟩
  let d_look_at_row : Dq l.prog w kf.K mg base "look_at_row" 4 ["webs", "thing"] (spP 2 m_look_at_row) := ⟨T_look_at_row.a, T_look_at_row.fd, T_look_at_row.F.kp, T_look_at_row.g, ok_look_at_row B T_look_at_row d_makes_row, T_look_at_row.F.binds (ps := ["webs", "thing"]) fun _ _ _ _ _ _ us hl => match us, hl with | [_, _], _ => rfl⟩
  let d_row_number : Dq l.prog w kf.K mg base "row_number" 1 ["webs", "row"] (spP 2 m_row_number) := ⟨T_row_number.a, T_row_number.fd, T_row_number.F.kp, T_row_number.g, ok_row_number B T_row_number , T_row_number.F.binds (ps := ["webs", "row"]) fun _ _ _ _ _ _ us hl => match us, hl with | [_, _], _ => rfl⟩
  let d_number_of : Dq l.prog w kf.K mg base "number_of" 5 ["webs", "row"] (spP 2 m_number_of) := ⟨T_number_of.a, T_number_of.fd, T_number_of.F.kp, T_number_of.g, ok_number_of B T_number_of d_look_at_webs d_look_at_row d_row_number, T_number_of.F.binds (ps := ["webs", "row"]) fun _ _ _ _ _ _ us hl => match us, hl with | [_, _], _ => rfl⟩
  let d__law_grouped_row : Dq l.prog w kf.K mg base "_law_grouped_row" 6 ["_law_groups_here", "_law_row"] (spP 2 m__law_grouped_row) := ⟨T__law_grouped_row.a, T__law_grouped_row.fd, T__law_grouped_row.F.kp, T__law_grouped_row.g, ok__law_grouped_row B T__law_grouped_row d_number_of, T__law_grouped_row.F.binds (ps := ["_law_groups_here", "_law_row"]) fun _ _ _ _ _ _ us hl => match us, hl with | [_, _], _ => rfl⟩
  let d_as_tie : Dq l.prog w kf.K mg base "as_tie" 1 ["one", "other"] (spP 2 m_as_tie) := ⟨T_as_tie.a, T_as_tie.fd, T_as_tie.F.kp, T_as_tie.g, ok_as_tie B T_as_tie , T_as_tie.F.binds (ps := ["one", "other"]) fun _ _ _ _ _ _ us hl => match us, hl with | [_, _], _ => rfl⟩
  let d_are_tied : Dq l.prog w kf.K mg base "are_tied" 2 ["webs", "one", "other"] (spP 3 m_are_tied) := ⟨T_are_tied.a, T_are_tied.fd, T_are_tied.F.kp, T_are_tied.g, ok_are_tied B T_are_tied d_as_tie, T_are_tied.F.binds (ps := ["webs", "one", "other"]) fun _ _ _ _ _ _ us hl => match us, hl with | [_, _, _], _ => rfl⟩
  let d_rows_tied : Dq l.prog w kf.K mg base "rows_tied" 5 ["webs", "one", "other"] (spP 3 m_rows_tied) := ⟨T_rows_tied.a, T_rows_tied.fd, T_rows_tied.F.kp, T_rows_tied.g, ok_rows_tied B T_rows_tied d_look_at_webs d_look_at_row d_are_tied, T_rows_tied.F.binds (ps := ["webs", "one", "other"]) fun _ _ _ _ _ _ us hl => match us, hl with | [_, _, _], _ => rfl⟩
  let d__law_right : Dq l.prog w kf.K mg base "_law_right" 7 ["_law_pool_here"] (spI 1 m__law_right) := ⟨T__law_right.a, T__law_right.fd, T__law_right.F.kp, T__law_right.g, ok__law_right B T__law_right d__law_take d__law_loose d__law_fits d__law_groups d_product d_ties_of d_places_of d_row_of d_number_of d__law_grouped_row d_rows_tied, T__law_right.F.binds (ps := ["_law_pool_here"]) fun _ _ _ _ _ _ us hl => match us, hl with | [_], _ => rfl⟩
  exact ok_law (P := l.prog) (w := w) (base := base) B T_law d__law_pool d__law_powers d__law_sums d__law_right
theorem law_sp (goal : ∀ ns : List Int, ns.length ≤ 63 → m_law [.list (ns.map .int)] = some (.d (.bool true))) {K : PySem.W.Frag} {G : Hp} {a : Addr} {ns : List Int} (hl : ns.length ≤ 63) (hS : SqL K G a (ns.map V.int)) : (@spP ⟨K⟩ 1 m_law) [.ref a] G (fun v _ => v = .bl true) fun _ _ _ => False := by
  letI kf : KF := ⟨K⟩
  refine ⟨G, [.list (ns.map .int)], _, rfl, Same.refl G, .cons (.lst hS (dpa_of_ints ns)) .nil, goal ns hl, fun v S' H' B xt hr _ _ => ?_⟩
  cases hr with
  | d hr => cases hr; rfl
end z14

namespace SH
open PySem L2 PL MR
local macro_rules | `(tactic| walk_at "ev") => `(tactic| simp (config := {decide := true}) only [ini, fin, finI, sSeq, sNext, sAsg, sAsgG, sRet, sRetN, sDrop, sIf, sNever, sSetP, sAppP, sClrP, sRevP, fR, pmVar, pmIx, pmIxT, MR.putAt, OT.put, OT.at, gmName, gmTup, gmLst, gsNil, gsCons, rVar, rC, rOp, rUn, rCb, rCbZ, rOpZ, rCall, rAnd, rOr, rNot, rIf, rIs, rCh, rCh3, rTup, rLst, rSl, cNone, cSome, rRepr, dRepr, rInDct, rIdx, small, qNil, qCons, qApp, lApp, bR, bAnd, bOr, bNot, tR, tD, tmAnd, tmOr, tmNot, yVar, yMov, yR, yAuto, dY, yD, dR, dOp, dOpR, dCb, dAnd, dOr, dNot, yCall, yCallA, yCallI, yCallIT, yCb, yCbA, yOp, yOpA, lfO, yTup, yLst, oNil, oCons, isNo, lNil, lCons, asB, asInt, asL, asT, iL, iT, iE, iZ, iV, yRng1_eq, iR1_eq, iR2_eq, lcStep, calmAt, wipeE, rst, sApp, yPop_eq, sDPutM, ySortD, yDNew, gmName, toD_d, toD_tup, toD_lst, toDs_nil, toDs_cons, toDs_ints, toDs_fpr, toDs_prs, lfs_ints, lfs_fpr, intsO_len, prsO_len, fprO_len, rng_len, intsO_snoc, prsO_snoc, lstO_rg, lstO_prs, lstO_ints, toD_lstO, kp_int, kp_bool, kp_tuple, kp_list, kp_str, isIntB, isBoolB, isTupB, isListB, isStrB, gAdd_i, gSub_i, gLt_i, gLe_i, gGt_i, gGe_i, gMul_r, gMul_l, gMod_i, gDiv_i, gPow_i, gNeg, gEqI, gNeI, gEqS, gNeS, gIsN, gNotN, gIsB, gNotB, gIxL, gIxT, gLen, gMax2, gMin2, gInt, gAll, asBools_map, isN, OT.lf, OT.lfs, flat, atI_0, atI_1, ixN_0, ixN_1, rgD_len, enumD_len, trues_len, Int.toNat_natCast, List.length_map, eq_self, Option.bind_some, Option.bind_none, Option.map_some, Option.map_none, List.getElem?_cons_zero, List.getElem?_cons_succ, List.set_cons_zero, List.set_cons_succ, List.map_cons, List.map_nil, List.replicate, List.nil_append, List.cons_append, List.length_cons, List.length_nil, List.all_cons, List.all_nil, if_true, if_false, reduceIte, tfl_int, tfl_bool, tfl_none, tfl_str, tfl_list, Bool.true_and, Bool.and_true, Bool.false_and, Bool.and_false, Bool.true_or, Bool.or_true, Bool.false_or, Bool.or_false, Bool.not_true, Bool.not_false, Bool.false_eq_true, decide_true, decide_false, true_and, and_true, false_and, and_false, or_true, true_or, *])

theorem pool_ok (ns : List Int) (k : Nat) (hk : k ≤ 1000) : ∃ ps, m__law_pool [.list (ns.map .int), .int k] = some (.nd .lst ps) ∧ POk ps := by
  have fin0 : ∀ (c K : Int), 0 ≤ K → K ≤ 1000 → W (sSeq (sAsg 3 (yR (rOp gMod (rOp gAdd (rOp gAdd (rOp gAdd (rCb gMax2 (qCons (rVar 2) (qCons (rOp gSub (rUn gNeg (rC (.int 1))) (rVar 2)) qNil))) (rOp gMul (rOp gMul (rC (.int 7919)) (rVar 1)) (rVar 1))) (rOp gMul (rC (.int 104729)) (rVar 1))) (rC (.int 17))) (rC (.int 2147483629)))))
 (sSeq (sAsg 4 (yR (rC (.int 0))))
 (sSeq (sIf (tR (bR (rOp gGe (rVar 2) (rOp gPow (rC (.int 10)) (rC (.int 18))))))
 (sAsg 4 (yVar 2))
 sNext)
 (sRet (yLst (oCons (yMov 4) (oCons (yR (rOp gMod (rOp gMul (rVar 3) (rC (.int 48271))) (rC (.int 2147483647)))) oNil))))))) [.d (.list (ns.map .int)), .d (.int K), .d (.int c), .no, .no] (endK fun x => ∃ ps, x = .nd .lst ps ∧ POk ps) := by
    intro c K k0 k1
    have c1 : -(2 ^ 64) < K ∧ K < 2 ^ 64 := by omega
    have c2 : ((-(2 ^ 64) : Int) < 7919 ∧ (7919 : Int) < 2 ^ 64) := by decide
    have c3 : ((-(2 ^ 64) : Int) < 104729 ∧ (104729 : Int) < 2 ^ 64) := by decide
    have c4 : ((-(2 ^ 64) : Int) < 48271 ∧ (48271 : Int) < 2 ^ 64) := by decide
    have e0 : (0 : Int) < 2147483647 := by decide
    have c5 : (0 : Int) ≤ 18 ∧ (18 : Int) ≤ 1000000 ∧ (10 : Int).natAbs < 2 ^ 64 := by decide
    by_cases hg : (10 : Int) ^ (18 : Int).toNat ≤ c
    · refine w_st (by walk_at "ev" <;> exact rfl) ?_
      refine w_st (by walk_at "ev" <;> exact rfl) ?_
      refine w_st (by walk_at "ev" <;> exact rfl) ?_
      refine w_end (by walk_at "ev" <;> exact rfl) rfl ?_
      exact ⟨_, rfl, c, _, rfl, Int.emod_nonneg _ (by decide), Int.emod_lt_of_pos _ e0⟩
    · refine w_st (by walk_at "ev" <;> exact rfl) ?_
      refine w_st (by walk_at "ev" <;> exact rfl) ?_
      refine w_st (by walk_at "ev" <;> exact rfl) ?_
      refine w_end (by walk_at "ev" <;> exact rfl) rfl ?_
      exact ⟨_, rfl, 0, _, rfl, Int.emod_nonneg _ (by decide), Int.emod_lt_of_pos _ e0⟩
  obtain ⟨r, e, ps, rfl, hp⟩ := fin_w (P := fun x => ∃ ps, x = .nd .lst ps ∧ POk ps) (B := B__law_pool) (ρ := ini [.list (ns.map .int), .int k] 3) (by
    by_cases hc : k < ns.length
    · have e1 := atI_int (xs := ns) (i := k) (k := ns[k]) (by simp [hc])
      have e2 : decide ((k : Int) < (ns.length : Int)) = true := by simp [hc]
      have hw := fin0 ns[k] k (by omega) (by omega)
      generalize ns[k] = c at *
      unfold B__law_pool
      refine w_st (by walk_at "ev" <;> exact rfl) ?_
      refine w_st (by walk_at "ev" <;> exact rfl) ?_
      exact hw
    · have hw := fin0 0 k (by omega) (by omega)
      have e2 : decide ((k : Int) < (ns.length : Int)) = false := by simp; omega
      unfold B__law_pool
      refine w_st (by walk_at "ev" <;> exact rfl) ?_
      refine w_st (by walk_at "ev" <;> exact rfl) ?_
      exact hw)
  exact ⟨ps, e, hp⟩
end SH

namespace z14
open PySem L2 PL MR SH
local macro_rules | `(tactic| walk_at "ev") => `(tactic| simp (config := {decide := true}) only [ini, fin, finI, sSeq, sNext, sAsg, sAsgG, sRet, sRetN, sDrop, sIf, sNever, sSetP, sAppP, sClrP, sRevP, fR, pmVar, pmIx, pmIxT, MR.putAt, OT.put, OT.at, gmName, gmTup, gmLst, gsNil, gsCons, rVar, rC, rOp, rUn, rCb, rCbZ, rOpZ, rCall, rAnd, rOr, rNot, rIf, rIs, rCh, rCh3, rTup, rLst, rSl, cNone, cSome, rRepr, dRepr, rInDct, rIdx, small, qNil, qCons, qApp, lApp, bR, bAnd, bOr, bNot, tR, tD, tmAnd, tmOr, tmNot, yVar_eq, yMov, yR, yAuto, dY, yD, dR, dOp, dOpR, dCb, dAnd, dOr, dNot, yCall, yCallA, yCallI, yCallIT, yCb, yCbA, yOp, yOpA, lfO, yTup, yLst, oNil, oCons, isNo, lNil, lCons, asB, asInt, asL, asT, iL, iT, iE, iZ, iV, yRng1_eq, iR1_eq, iR2_eq, lcStep, calmAt, wipeE, rst, sApp, yPop_eq, sDPutM, ySortD, yDNew, gmName, toD_d, toD_tup, toD_lst, toDs_nil, toDs_cons, toDs_ints, toDs_fpr, toDs_prs, lfs_ints, lfs_fpr, intsO_len, prsO_len, fprO_len, rng_len, intsO_snoc, prsO_snoc, lstO_rg, rOpZ, rCbZ, isNo_lstO, toD_dnew, ySl, ySlA, neS_self, eqS_self,  rRevL, yRevL, yRevLA, yPop0, sExt, gStrI,  lstO_prs, lstO_ints, toD_lstO, kp_int, kp_bool, kp_tuple, kp_list, kp_str, isIntB, isBoolB, isTupB, isListB, isStrB, gAdd_i, gSub_i, gLt_i, gLe_i, gGt_i, gGe_i, gMul_r, gMul_l, gMod_i, gDiv_i, gPow_i, gNeg, gEqI, gNeI, gEqS, gNeS, gIsN, gNotN, gIsB, gNotB, gIxL, gIxT, gLen, gMax2, gMin2, gInt, gAll, asBools_map, isN, OT.lf, OT.lfs, flat, atI_0, atI_1, ixN_0, ixN_1, rgD_len, enumD_len, trues_len, Int.toNat_natCast, List.length_map, eq_self, Option.bind_some, Option.bind_none, Option.map_some, Option.map_none, List.getElem?_cons_zero, List.getElem?_cons_succ, List.set_cons_zero, List.set_cons_succ, List.map_cons, List.map_nil, List.replicate, List.nil_append, List.cons_append, List.length_cons, List.length_nil, List.all_cons, List.all_nil, if_true, if_false, reduceIte, tfl_int, tfl_bool, tfl_none, tfl_str, tfl_list, Bool.true_and, Bool.and_true, Bool.false_and, Bool.and_false, Bool.true_or, Bool.or_true, Bool.false_or, Bool.or_false, Bool.not_true, Bool.not_false, Bool.false_eq_true, decide_true, decide_false, true_and, and_true, false_and, and_false, or_true, true_or, *])

theorem prodR_div {g : Nat → Int} {c : Int} {k : Nat} : ∀ {m : Nat}, prodR c (fun j => if j = k then 1 else g j) m * (if k < m then g k else 1) = prodR c g m
  | 0 => by simp [prodR]
  | m + 1 => by
    have ih := prodR_div (g := g) (c := c) (k := k) (m := m)
    rw [prodR, prodR, ← ih]
    by_cases e : m = k
    · subst e
      simp
    · rw [if_neg e]
      by_cases l : k < m
      · rw [if_pos l, if_pos (by omega : k < m + 1)]
        rw [Int.mul_assoc, Int.mul_comm (g m), ← Int.mul_assoc]
      · rw [if_neg l, if_neg (by omega : ¬ k < m + 1)]
        simp
theorem prodR_rows (ws : List Wb) : prodR 1 (fun j => ((wbAt ws j).1 : Int)) ws.length = rowsN ws := by
  have e := ties_sum (ws := ws) (m := ws.length) (Nat.le_refl _)
  rw [List.take_length] at e
  have r : ∀ (ws : List Wb) (s : Int × Int), (ws.foldl cntF s).1 = ws.foldl (fun m (w : Wb) => m * (w.1 : Int)) s.1 := by
    intro ws
    induction ws with
    | nil => intro s; rfl
    | cons w ws ih => intro s; exact ih (cntF s w)
  have := congrArg Prod.fst e
  simp only at this
  rw [← this, r]
  rfl
theorem ties_div {ws : List Wb} (h : ∀ w ∈ ws, WbOk w) : (ws.map fun w => (w.2.length : Int) * (rowsN ws / (w.1 : Int))).sum = tiesN ws := by
  rw [tiesN_sum]
  have gen : ∀ (g : Nat → Int) (m : Nat), ((List.range m).map g).sum = sumR g m := by
    intro g m
    induction m with
    | zero => rfl
    | succ m ih => rw [List.range_succ, List.map_append, List.sum_append, ih, sumR]; simp
  rw [← gen]
  have e : ws.map (fun w => (w.2.length : Int) * (rowsN ws / (w.1 : Int))) = (List.range ws.length).map fun k => ((wbAt ws k).2.length : Int) * (rowsN ws / ((wbAt ws k).1 : Int)) := by
    apply List.ext_getElem
    · simp
    · intro i a b
      have hi : i < ws.length := by simpa using a
      simp [wbAt, hi]
  rw [e]
  congr 1
  apply List.map_congr_left
  intro k hk
  have hk := List.mem_range.mp hk
  have lo := (h _ (wbAt_mem hk)).lo
  have d := prodR_div (g := fun j => ((wbAt ws j).1 : Int)) (c := 1) (k := k) (m := ws.length)
  rw [if_pos hk, prodR_rows] at d
  rw [prodR_c, ← d, Int.mul_ediv_cancel _ (by omega)]
def fitB (ws : List Wb) : Bool := decide (rowsN ws ≤ 40) && decide (tiesN ws ≤ 120)
theorem asInts_mapI {α : Type} (f : α → Int) : ∀ xs : List α, asInts (xs.map fun a => PyData.int (f a)) = some (xs.map f)
  | [] => rfl
  | x :: xs => by simp [asInts, asInt, asInts_mapI f xs]
theorem fits_ok {ws : List Wb} (h : ∀ w ∈ ws, WbOk w) (hl : ws.length ≤ 1000) : m__law_fits [.list (ws.map wbD)] = some (.d (.bool (fitB ws))) := by
  unfold m__law_fits B__law_fits
  refine fin_eq ?_
  refine w_st (by walk_at "ev" <;> exact rfl) ?_
  refine w_seq (w_foldT (fun (m : Int) ρ => ∃ X Y, cl X = true ∧ cl Y = true ∧ ρ = [.d (.list (ws.map wbD)), .d (.int m), X, Y]) (fun m (w : Wb) => m * (w.1 : Int)) 1 (by walk_at "ev" <;> exact rfl) ⟨_, _, rfl, rfl, rfl⟩ (fun w hw s ρ2 hs => ?_) ?_)
  · obtain ⟨X, Y, _, _, rfl⟩ := hs
    have k := h w hw
    have c : -(2 ^ 64) < (w.1 : Int) ∧ (w.1 : Int) < 2 ^ 64 := by have := k.hi; omega
    simp only [wbD, WD]
    apply exw
    · walk_at "ev" <;> exact rfl
    apply w_nx
    · walk_at "ev" <;> exact rfl
    exact ⟨_, _, rfl, rfl, rfl⟩
  · rintro ρ2 ⟨X, Y, hX, hY, rfl⟩
    have em : ws.foldl (fun m (w : Wb) => m * (w.1 : Int)) 1 = rowsN ws := rfl
    rw [em]
    have td := ties_div h
    by_cases c : rowsN ws ≤ 40
    · have cd : decide (rowsN ws ≤ 40) = true := decide_eq_true c
      have fe : fitB ws = decide (tiesN ws ≤ 120) := by unfold fitB; rw [cd, Bool.true_and]
      rw [fe]
      have calm : calmAt [.d (.list (ws.map wbD)), .d (.int (rowsN ws)), X, Y] [2, 3] = true := by
        unfold calmAt
        simp only [List.all_cons, List.all_nil, List.getElem?_cons_succ, List.getElem?_cons_zero]
        cases X <;> cases Y <;> simp [cl] at hX hY ⊢
      generalize hR : rowsN ws = R at *
      have body : W (dOpR gLe (dCb gSum (lCons (dY (yLc [2, 3] (iL (dY (yVar 0))) (gmTup (gsCons (gmName 2) (gsCons (gmName 3) gsNil))) (fun ρ => some (true, ρ)) (yR (rOp gMul (rCb gLen (qCons (rVar 3) qNil)) (rOp gDiv (rVar 1) (rVar 2)))))) lNil)) (rC (.int 120))) [.d (.list (ws.map wbD)), .d (.int R), X, Y] fun x ρ' => x = .bool (decide (tiesN ws ≤ 120)) := by
        refine w_dOpR (w_dCb (w_lCons (w_dY (w_lcmT (fun w : Wb => OT.d (.int ((w.2.length : Int) * (R / (w.1 : Int))))) (as := ws) (enc := wbD) (by walk_at "ev" <;> exact rfl) calm (by omega) (fun w hw => ?_) ?_))))
        · have k := h w hw
          have c1 : (0 : Int) < (w.1 : Int) := by have := k.lo; omega
          have c2 : (w.1 : Int) < 1073741824 := by have := k.hi; omega
          have c3 : -(2 ^ 64) < (w.2.length : Int) ∧ (w.2.length : Int) < 2 ^ 64 := by have := k.len; omega
          simp only [wbD, WD]
          refine W.of (by walk_at "ev" <;> exact rfl) ?_
          exact ⟨rfl, rfl⟩
        · refine ⟨.list (ws.map fun w => .int ((w.2.length : Int) * (R / (w.1 : Int)))), ?_, w_lNil ⟨.int (tiesN ws), ?_, _, _, rfl, ?_, rfl⟩⟩
          · rw [toD_lst]
            have : (ws.map fun w : Wb => OT.d (.int ((w.2.length : Int) * (R / (w.1 : Int))))) = (ws.map fun w : Wb => PyData.int ((w.2.length : Int) * (R / (w.1 : Int)))).map OT.d := by rw [List.map_map]; rfl
            rw [this, toDs_mapd]; rfl
          · unfold gSum
            simp only []
            rw [asInts_mapI (fun w : Wb => (w.2.length : Int) * (R / (w.1 : Int))), Option.map_some, td]
          · rfl
      obtain ⟨x, ρ', e, rfl⟩ := body
      refine w_ret (w_yD ⟨.bool (decide (tiesN ws ≤ 120)), ρ', ?_, rfl⟩)
      unfold dAnd
      have e0 : dR (rOp gLe (rVar 1) (rC (.int 40))) [.d (.list (ws.map wbD)), .d (.int R), X, Y] = some (.bool true, [.d (.list (ws.map wbD)), .d (.int R), X, Y]) := by
        clear e td em calm fe
        walk_at "ev"
      rw [e0]
      simp only [Option.bind_some, asB, if_true, e, Option.map_some]
    · have cd : decide (rowsN ws ≤ 40) = false := decide_eq_false c
      have fe : fitB ws = false := by unfold fitB; rw [cd, Bool.false_and]
      rw [fe]
      clear td em
      refine w_ret (W.of (by walk_at "ev" <;> exact rfl) ?_)
      rfl
end z14

namespace z14
open PySem L2 PL MR SH
local macro_rules | `(tactic| walk_at "ev") => `(tactic| simp (config := {decide := true}) only [ini, fin, finI, sSeq, sNext, sAsg, sAsgG, sRet, sRetN, sDrop, sIf, sNever, sSetP, sAppP, sClrP, sRevP, fR, pmVar, pmIx, pmIxT, MR.putAt, OT.put, OT.at, gmName, gmTup, gmLst, gsNil, gsCons, rVar, rC, rOp, rUn, rCb, rCbZ, rOpZ, rCall, rAnd, rOr, rNot, rIf, rIs, rCh, rCh3, rTup, rLst, rSl, cNone, cSome, rRepr, dRepr, rInDct, rIdx, small, qNil, qCons, qApp, lApp, bR, bAnd, bOr, bNot, tR, tD, tmAnd, tmOr, tmNot, yVar_eq, yMov, yR, yAuto, dY, yD, dR, dOp, dOpR, dCb, dAnd, dOr, dNot, yCall, yCallA, yCallI, yCallIT, yCb, yCbA, yOp, yOpA, lfO, yTup, yLst, oNil, oCons, isNo, lNil, lCons, asB, asInt, asL, asT, iL, iT, iE, iZ, iV, yRng1_eq, iR1_eq, iR2_eq, lcStep, calmAt, wipeE, rst, sApp, yPop_eq, sDPutM, ySortD, yDNew, gmName, toD_d, toD_tup, toD_lst, toDs_nil, toDs_cons, toDs_ints, toDs_fpr, toDs_prs, lfs_ints, lfs_fpr, intsO_len, prsO_len, fprO_len, rng_len, intsO_snoc, prsO_snoc, lstO_rg, rOpZ, rCbZ, isNo_lstO, toD_dnew, ySl, ySlA, neS_self, eqS_self,  rRevL, yRevL, yRevLA, yPop0, sExt, gStrI,  lstO_prs, lstO_ints, toD_lstO, kp_int, kp_bool, kp_tuple, kp_list, kp_str, isIntB, isBoolB, isTupB, isListB, isStrB, gAdd_i, gSub_i, gLt_i, gLe_i, gGt_i, gGe_i, gMul_r, gMul_l, gMod_i, gDiv_i, gPow_i, gNeg, gEqI, gNeI, gEqS, gNeS, gIsN, gNotN, gIsB, gNotB, gIxL, gIxT, gLen, gMax2, gMin2, gInt, gAll, asBools_map, isN, OT.lf, OT.lfs, flat, atI_0, atI_1, ixN_0, ixN_1, rgD_len, enumD_len, trues_len, Int.toNat_natCast, List.length_map, eq_self, Option.bind_some, Option.bind_none, Option.map_some, Option.map_none, List.getElem?_cons_zero, List.getElem?_cons_succ, List.set_cons_zero, List.set_cons_succ, List.map_cons, List.map_nil, List.replicate, List.nil_append, List.cons_append, List.length_cons, List.length_nil, List.all_cons, List.all_nil, if_true, if_false, reduceIte, tfl_int, tfl_bool, tfl_none, tfl_str, tfl_list, Bool.true_and, Bool.and_true, Bool.false_and, Bool.and_false, Bool.true_or, Bool.or_true, Bool.false_or, Bool.or_false, Bool.not_true, Bool.not_false, Bool.false_eq_true, decide_true, decide_false, true_and, and_true, false_and, and_false, or_true, true_or, *])

def gO (g : List Wb) : OT := .nd .lst ((g.map wbD).map .d)
def gD (g : List Wb) : D := .list (g.map wbD)
theorem toD_gO (g : List Wb) : OT.toD (gO g) = some (gD g) := by
  unfold gO gD
  rw [toD_lst, toDs_mapd]; rfl
theorem ixN_last {n : Nat} (h : 0 < n) : ixN n (-1) = some (n - 1) := by
  unfold ixN
  rw [if_neg (by omega), if_pos (by omega)]
  congr 1
  omega
theorem app_last {ρ : MR.Env} {gs : List (List Wb)} {g : List Wb} {w : Wb} {A B : OT} {webs : D} (hl : g.length ≤ 1000) : sAppP 2 (pmIx (pmVar 2) (rUn gNeg (rC (.int 1)))) (fVarD 3) [A, .d webs, .nd .lst ((gs ++ [g]).map gO), .d (wbD w), B] = some (.nx, [A, .d webs, .nd .lst ((gs ++ [g ++ [w]]).map gO), .d (wbD w), B]) := by
  have e1 : ((gs ++ [g]).map gO)[gs.length]? = some (gO g) := by simp
  have e2 : ((gs ++ [g]).map gO).length = gs.length + 1 := by simp
  have e3 : ixN (gs.length + 1) (-1) = some gs.length := ixN_last (by omega)
  unfold sAppP pmIx
  simp only [pmVar, rUn, rC, gNeg, Option.bind_some, Option.map_some, List.getElem?_cons_zero, List.getElem?_cons_succ, e2, e3, e1]
  unfold gO
  simp only [fVarD, List.getElem?_cons_zero, List.getElem?_cons_succ, Option.bind_some]
  rw [if_neg (show ¬ (isNo (OT.d (wbD w)) = true) by simp [isNo]), if_pos (show ((g.map wbD).map OT.d).length ≤ 1000000 by simp; omega)]
  unfold gO at e1
  have e5 : ∀ X : OT, (((gs ++ [g]).map fun g => OT.nd .lst ((g.map wbD).map .d)).set gs.length X) = (gs.map fun g => OT.nd .lst ((g.map wbD).map .d)) ++ [X] := by
    intro X
    rw [List.map_append, List.set_append_right _ _ (by simp)]
    simp
  simp only [MR.putAt, List.getElem?_cons_zero, List.getElem?_cons_succ, OT.put, e1, List.nil_append, List.set_cons_zero, List.set_cons_succ, e5]
  simp
theorem groups_ok {ps : List OT} (hp : POk ps) {ws : List Wb} (hl : ws.length ≤ 12) : ∃ (gs : List (List Wb)) (ps' : List OT), m__law_groups (.nd .lst ps) [.list (ws.map wbD)] = some (.nd .lst (gs.map gO), .nd .lst ps') ∧ POk ps' ∧ gs.flatten = ws ∧ gs.length ≤ 9 := by
  obtain ⟨x, t, e, gs, ps', rfl, rfl, h1, h2, h3⟩ := finI_w (P := fun x t => ∃ (gs : List (List Wb)) (ps' : List OT), x = .nd .lst (gs.map gO) ∧ t = .nd .lst ps' ∧ POk ps' ∧ gs.flatten = ws ∧ gs.length ≤ 9) (B := B__law_groups) (ρ := .nd .lst ps :: ini [.list (ws.map wbD)] 3) (by
    unfold B__law_groups
    refine w_st (by walk_at "ev" <;> exact rfl) ?_
    refine w_seq (w_forT (fun i ρ => ∃ (p : List OT) (gs : List (List Wb)) (X Y : OT), POk p ∧ ρ = [.nd .lst p, .d (.list (ws.map wbD)), .nd .lst (gs.map gO), X, Y] ∧ gs.flatten = ws.take i ∧ gs.length ≤ 9 ∧ gs ≠ []) (as := ws) (enc := wbD) (by walk_at "ev" <;> exact rfl) ⟨ps, [[]], _, _, hp, rfl, rfl, by simp, by simp⟩ (fun i w ρ2 hw hs => ?_) ?_)
    · obtain ⟨p, gs, X, Y, hp, rfl, hf, hg, hne⟩ := hs
      have hi : i < ws.length := (List.getElem?_eq_some_iff.mp hw).1
      obtain ⟨n, p1, e1, q1, a1, b1⟩ := take_ok hp 3 (by omega) (by omega)
      obtain ⟨n, rfl⟩ : ∃ m : Nat, n = (m : Int) := ⟨n.toNat, by omega⟩
      have c1 := rg1_n (n := n) (by omega)
      apply exw
      · walk_at "ev" <;> exact rfl
      refine w_seq (w_for (fun j ρ => ∃ (gs : List (List Wb)) (Y : OT), ρ = [.nd .lst p1, .d (.list (ws.map wbD)), .nd .lst (gs.map gO), .d (wbD w), Y] ∧ gs.flatten = ws.take i ∧ gs.length ≤ 9 ∧ gs ≠ []) (xs := rgD 0 n) (by walk_at "ev" <;> exact rfl) ⟨gs, Y, rfl, hf, hg, hne⟩ ?_ ?_)
      · rintro j x ρ2 hx ⟨gs, Y, rfl, hf, hg, hne⟩
        obtain ⟨hj, rfl⟩ := rgD_at hx
        have d1 : ∃ ds, OT.toDs (gs.map gO) = some ds ∧ ds.length = gs.length := ⟨_, toDs_map' toD_gO gs, by simp⟩
        obtain ⟨ds, d1, d2⟩ := d1
        have g0 : gs.length ≤ 1000000 := by omega
        rw [Int.zero_add]
        apply exw
        · walk_at "ev" <;> exact rfl
        by_cases c : gs.length < 9
        · have cd : decide ((gs.length : Int) < 9) = true := decide_eq_true (by omega)
          apply w_nx
          · walk_at "ev" <;> exact rfl
          refine ⟨gs ++ [[]], .d (.int (j : Nat)), by simp [gO], by simp [hf], by simp; omega, by simp⟩
        · have cd : decide ((gs.length : Int) < 9) = false := decide_eq_false (by omega)
          apply w_nx
          · walk_at "ev" <;> exact rfl
          exact ⟨gs, _, rfl, hf, hg, hne⟩
      · rintro ρ2 ⟨gs, Y, rfl, hf, hg, hne⟩
        obtain ⟨gs', g, rfl⟩ : ∃ a b, gs = a ++ [b] := ⟨gs.dropLast, gs.getLast hne, (List.dropLast_concat_getLast _).symm⟩
        have gl : g.length ≤ 1000 := by
          have := congrArg List.length hf
          simp at this
          omega
        refine W.of (app_last (ρ := []) gl) ?_
        refine ⟨p1, gs' ++ [g ++ [w]], _, _, q1, rfl, ?_, by simpa using hg, by simp⟩
        rw [List.take_add_one, hw]
        simp at hf ⊢
        rw [← hf]
        simp
    · rintro ρ2 ⟨p, gs, X, Y, hp, rfl, hf, hg, hne⟩
      rw [List.take_length] at hf
      refine w_ret (.of (by walk_at "ev" <;> exact rfl) ?_)
      exact ⟨gs, p, rfl, rfl, hp, hf, hg⟩)
  exact ⟨gs, ps', e, h1, h2, h3⟩
/-! a row by groups -/
def gRow : List (List Wb) → List Int → List Int
  | [], _ => []
  | g :: gs, r => numA g (r.take g.length) :: gRow gs (r.drop g.length)
theorem RowOk.part : ∀ {as bs : List Wb} {r : List Int}, RowOk (as ++ bs) r → RowOk as (r.take as.length) ∧ RowOk bs (r.drop as.length)
  | [], bs, r, h => ⟨by simp [RowOk], by simpa using h⟩
  | a :: as, bs, p :: r, h => by
    have ih := RowOk.part (as := as) (bs := bs) (r := r) h.2
    exact ⟨⟨h.1, ih.1⟩, ih.2⟩
theorem gRow_len : ∀ (gs : List (List Wb)) (r : List Int), (gRow gs r).length = gs.length
  | [], _ => rfl
  | g :: gs, r => by simp [gRow, gRow_len gs]
theorem rowsN_map : ∀ (gs : List (List Wb)), rowsN (gs.map prodW) = rowsN gs.flatten
  | [] => rfl
  | g :: gs => by rw [List.map_cons, rowsN_cons, List.flatten_cons, rowsN_app, rowsN_map gs, (prodW_cnt g).1]
theorem gRow_num : ∀ {gs : List (List Wb)} {r : List Int}, RowOk gs.flatten r → numA (gs.map prodW) (gRow gs r) = numA gs.flatten r
  | [], r, h => by cases r with
    | nil => rfl
    | cons _ _ => exact h.elim
  | g :: gs, r, h => by
    rw [List.flatten_cons] at h
    obtain ⟨h1, h2⟩ := RowOk.part h
    have ih := gRow_num h2
    rw [List.map_cons, gRow, numA_cons _ _ _ _ (by rw [gRow_len, List.length_map]), ih, List.flatten_cons, rowsN_map]
    have := numA_app (as := g) (bs := gs.flatten) (ra := r.take g.length) (rb := r.drop g.length) h1.len h2.len
    rw [List.take_append_drop] at this
    exact this.symm
theorem gRow_ok : ∀ {gs : List (List Wb)} {r : List Int}, (∀ g ∈ gs, ∀ w ∈ g, Wk w) → RowOk gs.flatten r → RowOk (gs.map prodW) (gRow gs r)
  | [], _, _, _ => trivial
  | g :: gs, r, hk, h => by
    rw [List.flatten_cons] at h
    obtain ⟨h1, h2⟩ := RowOk.part h
    have b := numA_bd' (fun w hw => (hk g List.mem_cons_self w hw).lo) h1
    rw [← (prodW_cnt g).1] at b
    exact ⟨b, gRow_ok (fun g' hg => hk g' (List.mem_cons_of_mem _ hg)) h2⟩
end z14

namespace z14
open PySem L2 PL MR SH
local macro_rules | `(tactic| walk_at "ev") => `(tactic| simp (config := {decide := true}) only [ini, fin, finI, sSeq, sNext, sAsg, sAsgG, sRet, sRetN, sDrop, sIf, sNever, sSetP, sAppP, sClrP, sRevP, fR, pmVar, pmIx, pmIxT, MR.putAt, OT.put, OT.at, gmName, gmTup, gmLst, gsNil, gsCons, rVar, rC, rOp, rUn, rCb, rCbZ, rOpZ, rCall, rAnd, rOr, rNot, rIf, rIs, rCh, rCh3, rTup, rLst, rSl, cNone, cSome, rRepr, dRepr, rInDct, rIdx, small, qNil, qCons, qApp, lApp, bR, bAnd, bOr, bNot, tR, tD, tmAnd, tmOr, tmNot, yVar_eq, yMov, yR, yAuto, dY, yD, dR, dOp, dOpR, dCb, dAnd, dOr, dNot, yCall, yCallA, yCallI, yCallIT, yCb, yCbA, yOp, yOpA, lfO, yTup, yLst, oNil, oCons, isNo, lNil, lCons, asB, asInt, asL, asT, iL, iT, iE, iZ, iV, yRng1_eq, iR1_eq, iR2_eq, lcStep, calmAt, wipeE, rst, sApp, yPop_eq, sDPutM, ySortD, yDNew, gmName, toD_d, toD_tup, toD_lst, toDs_nil, toDs_cons, toDs_ints, toDs_fpr, toDs_prs, lfs_ints, lfs_fpr, intsO_len, prsO_len, fprO_len, rng_len, intsO_snoc, prsO_snoc, lstO_rg, rOpZ, rCbZ, isNo_lstO, toD_dnew, ySl, ySlA, neS_self, eqS_self,  rRevL, yRevL, yRevLA, yPop0, sExt, gStrI,  lstO_prs, lstO_ints, toD_lstO, kp_int, kp_bool, kp_tuple, kp_list, kp_str, isIntB, isBoolB, isTupB, isListB, isStrB, gAdd_i, gSub_i, gLt_i, gLe_i, gGt_i, gGe_i, gMul_r, gMul_l, gMod_i, gDiv_i, gPow_i, gNeg, gEqI, gNeI, gEqS, gNeS, gIsN, gNotN, gIsB, gNotB, gIxL, gIxT, gLen, gMax2, gMin2, gInt, gAll, asBools_map, isN, OT.lf, OT.lfs, flat, atI_0, atI_1, ixN_0, ixN_1, rgD_len, enumD_len, trues_len, Int.toNat_natCast, List.length_map, eq_self, Option.bind_some, Option.bind_none, Option.map_some, Option.map_none, List.getElem?_cons_zero, List.getElem?_cons_succ, List.set_cons_zero, List.set_cons_succ, List.map_cons, List.map_nil, List.replicate, List.nil_append, List.cons_append, List.length_cons, List.length_nil, List.all_cons, List.all_nil, if_true, if_false, reduceIte, tfl_int, tfl_bool, tfl_none, tfl_str, tfl_list, Bool.true_and, Bool.and_true, Bool.false_and, Bool.and_false, Bool.true_or, Bool.or_true, Bool.false_or, Bool.or_false, Bool.not_true, Bool.not_false, Bool.false_eq_true, decide_true, decide_false, true_and, and_true, false_and, and_false, or_true, true_or, *])

theorem gRow_snoc : ∀ (gs : List (List Wb)) (g : List Wb) (r : List Int), gRow (gs ++ [g]) r = gRow gs r ++ [numA g ((r.drop gs.flatten.length).take g.length)]
  | [], g, r => by simp [gRow]
  | h :: gs, g, r => by
    rw [List.cons_append, gRow, gRow_snoc gs g, gRow, List.flatten_cons, List.length_append, List.drop_drop]
    rfl
theorem cut_mid (r : List Int) {i n : Nat} (h : i + n ≤ r.length) : cutD (r.map PyData.int) (some (i : Int)) (some ((i : Int) + (n : Int))) = ((r.drop i).take n).map .int := by
  unfold cutD
  have e : HT.sIx (r.map PyData.int).length 0 (some (i : Int)) = i := by simp only [HT.sIx, List.length_map]; split <;> omega
  have e2 : HT.sIx (r.map PyData.int).length (r.map PyData.int).length (some ((i : Int) + (n : Int))) = i + n := by simp only [HT.sIx, List.length_map]; split <;> omega
  rw [e, e2, ← List.map_drop, ← List.map_take, Nat.add_sub_cancel_left]
theorem grouped_row_ok {gs : List (List Wb)} (h : ∀ g ∈ gs, ∀ w ∈ g, WbOk w) (hg : gs.length ≤ 9) (hl : gs.flatten.length ≤ 12) {r : List Int} (hr : RowOk gs.flatten r) : m__law_grouped_row [.list (gs.map gD), .list (r.map .int)] = some (.nd .lst (intsO (gRow gs r))) := by
  have hlen := hr.len
  unfold m__law_grouped_row B__law_grouped_row
  refine fin_eq ?_
  refine w_st (by walk_at "ev" <;> exact rfl) ?_
  refine w_st (by walk_at "ev" <;> exact rfl) ?_
  refine w_seq (w_forT (fun i ρ => ∃ X, ρ = [.d (.list (gs.map gD)), .d (.list (r.map .int)), .nd .lst (intsO (gRow (gs.take i) r)), .d (.int ((gs.take i).flatten.length : Nat)), X]) (as := gs) (enc := gD) (by walk_at "ev" <;> exact rfl) ⟨_, rfl⟩ (fun i g ρ2 hgi hs => ?_) ?_)
  · obtain ⟨X, rfl⟩ := hs
    have hi : i < gs.length := (List.getElem?_eq_some_iff.mp hgi).1
    have hm := List.mem_of_getElem? hgi
    have et : gs.take (i + 1) = gs.take i ++ [g] := by rw [List.take_add_one, hgi]; rfl
    have eg : gs.flatten = (gs.take i).flatten ++ (g ++ (gs.drop (i + 1)).flatten) := by
      have : gs = gs.take i ++ g :: gs.drop (i + 1) := by
        have e := (List.take_append_drop i gs).symm
        rw [List.drop_eq_getElem_cons hi] at e
        have eh : gs[i] = g := by
          rw [List.getElem?_eq_getElem hi] at hgi
          exact Option.some.inj hgi
        rw [eh] at e
        exact e
      conv => lhs; rw [this]
      rw [List.flatten_append, List.flatten_cons]
    rw [et, gRow_snoc]
    have hr' := hr
    rw [eg] at hr'
    have p1 := (RowOk.part hr').2
    have p2 := (RowOk.part p1).1
    have hlen2 := congrArg List.length eg
    simp only [List.length_append] at hlen2
    have kc := cut_mid r (i := (gs.take i).flatten.length) (n := g.length) (by omega)
    have gl := gRow_len (gs.take i) r
    rw [List.length_take] at gl
    have gl2 : (gRow (gs.take i) r).length ≤ 1000000 := by omega
    have fl : (gs.take i ++ [g]).flatten.length = (gs.take i).flatten.length + g.length := by simp
    have f1 := number_of_ok (h g hm) (by omega) p2
    rw [fl]
    generalize (gs.take i).flatten.length = at' at *
    generalize (r.drop at').take g.length = rs at *
    generalize gRow (gs.take i) r = GR at *
    have sn : intsO (GR ++ [numA g rs]) = intsO GR ++ [.d (.int (numA g rs))] := by simp [intsO]
    have cn : ((at' + g.length : Nat) : Int) = (at' : Int) + (g.length : Int) := by omega
    rw [cn]
    generalize numA g rs = ng at *
    unfold gD
    clear sn et eg hr' p1 p2 hlen2 fl cn hgi hm gl
    apply exw
    · walk_at "ev" <;> exact rfl
    refine w_st (by walk_at "ev" <;> exact rfl) ?_
    apply w_nx
    · walk_at "ev" <;> exact rfl
    exact ⟨_, rfl⟩
  · rintro ρ2 ⟨X, rfl⟩
    rw [List.take_length]
    exact w_end (by walk_at "ev" <;> exact rfl) rfl rfl
/-! sums -/
theorem loose_lc {ps : List OT} (hp : POk ps) {A B C : OT} {Q : OT → MR.Env → Prop} (hq : ∀ (ts : List OT) (ws : List Wb) ps', POk ps' → OT.toDs ts = some (ws.map wbD) → ws.length ≤ 6 → (∀ w ∈ ws, WbOk w) → Q (.nd .lst ts) [.nd .lst ps', A, .no, B, C]) :
    W (yLc [2] (iR1 (lCons (dY (yCallI m__law_take 2 0 (lCons (dR (rC (.int 7))) lNil))) lNil)) (gmName 2) (fun ρ => some (true, ρ)) (yCallI m__law_loose 3 0 (lCons (dOp gIxL (dY (yLst (oCons (yR (rC (.int 2))) (oCons (yR (rC (.int 7))) (oCons (yR (rC (.int 40))) oNil))))) (dY (yCallI m__law_take 2 0 (lCons (dR (rC (.int 3))) lNil)))) (lCons (dR (rC (.int 5))) lNil)))) [.nd .lst ps, A, .no, B, C] Q := by
  obtain ⟨n, p1, e1, q1, a1, b1⟩ := take_ok hp 7 (by omega) (by omega)
  obtain ⟨n, rfl⟩ : ∃ m : Nat, n = (m : Int) := ⟨n.toNat, by omega⟩
  have c1 := rg1_n (n := n) (by omega)
  have c2 := rgD0 n
  generalize rgD 0 n = XX at c1 c2
  refine w_lcT (fun i acc ρ => ∃ (p : List OT) (ws : List Wb), POk p ∧ ρ = [.nd .lst p, A, .no, B, C] ∧ OT.toDs acc = some (ws.map wbD) ∧ ws.length = i ∧ (∀ w ∈ ws, WbOk w)) (as := List.range n) (enc := fun k : Nat => PyData.int (k : Int)) (ρ1 := [.nd .lst p1, A, .no, B, C]) (by rw [← c2]; walk_at "ev" <;> exact rfl) rfl (by simp; omega) ⟨p1, [], q1, rfl, rfl, rfl, by simp⟩ (fun i w acc ρ2 hw hi => ?_) ?_
  · obtain ⟨p, ws, hp, rfl, ht, hl, hok⟩ := hi
    obtain ⟨k, p2, e2, q2, a2, b2⟩ := take_ok hp 3 (by omega) (by omega)
    obtain ⟨m, em, m1, m2⟩ : ∃ m : Int, atI [PyData.int 2, .int 7, .int 40] k = some (.int m) ∧ 1 ≤ m ∧ m ≤ 40 := by
      have : k = 0 ∨ k = 1 ∨ k = 2 := by omega
      rcases this with rfl | rfl | rfl
      · exact ⟨2, rfl, by omega, by omega⟩
      · exact ⟨7, rfl, by omega, by omega⟩
      · exact ⟨40, rfl, by omega, by omega⟩
    obtain ⟨n', us, t, p4, e4, q4, n1, n2, w, l, ht'⟩ := loose_spec q2 m 5 m1 (by omega) (by omega) (by omega)
    clear c1 c2
    refine W.of (by walk_at "ev" <;> exact rfl) ?_
    refine ⟨p4, ws ++ [(n', us)], q4, rfl, ?_, by simp [hl], ?_⟩
    · rw [List.map_append]
      exact toDs_snoc ht (by simp [toD_tup, toDs_cons, toDs_nil, toD_d, ht', wbD, WD])
    · intro v hv
      rcases List.mem_append.mp hv with z | z
      · exact hok v z
      · rw [List.mem_singleton.mp z]
        exact ⟨w, n1, by show n' ≤ 40; omega, by show us.length ≤ 120; omega⟩
  · rintro acc ρ2 ⟨p, ws, hp, rfl, ht, hl, hok⟩
    rw [List.length_range] at hl
    exact hq acc ws p hp ht (by omega) hok
theorem sums_ok {ps : List OT} (hp : POk ps) : ∃ ps', m__law_sums (.nd .lst ps) [] = some (.d (.bool true), .nd .lst ps') ∧ POk ps' := by
  obtain ⟨r, t', e, ps', rfl, rfl, h1⟩ := finI_w (P := fun r t => ∃ ps', r = .d (.bool true) ∧ t = .nd .lst ps' ∧ POk ps') (B := B__law_sums) (ρ := .nd .lst ps :: ini [] 4) (by
    unfold B__law_sums
    refine w_seq (w_asg (loose_lc (A := .no) (B := .no) (C := .no) hp fun ts ws p1 q1 ht hl h => ?_))
    simp only [sqK, List.set_cons_zero, List.set_cons_succ]
    refine w_seq (w_asg (loose_lc (A := .nd .lst ts) (B := .no) (C := .no) q1 fun ts2 ws2 p2 q2 ht2 hl2 h2 => ?_))
    simp only [sqK, List.set_cons_zero, List.set_cons_succ]
    have h12 : ∀ w ∈ ws ++ ws2, WbOk w := fun w hw => (List.mem_append.mp hw).elim (h w) (h2 w)
    have f1 := places_of_ok h (by omega)
    have f2 := places_of_ok h2 (by omega)
    have f3 := places_of_ok h12 (by simp; omega)
    have f4 := ties_of_ok h (by omega)
    have f5 := ties_of_ok h2 (by omega)
    have f6 := ties_of_ok h12 (by simp; omega)
    have g := GCat_ok (a := ws.map wbD) (b := ws2.map wbD) (by simp; omega)
    rw [← List.map_append] at g
    rw [rowsN_app] at f3
    rw [tiesN_app (fun w hw => (h w hw).wk) (fun w hw => (h2 w hw).wk)] at f6
    have b1 := rows_bd h (by omega)
    have b2 := rows_bd h2 (by omega)
    have b3 := rowsN_pos h
    have b4 := rowsN_pos h2
    have d1 : -(2 ^ 64) < rowsN ws ∧ rowsN ws < 2 ^ 64 := by omega
    have d2 : -(2 ^ 64) < rowsN ws2 ∧ rowsN ws2 < 2 ^ 64 := by omega
    have comm : rowsN ws * tiesN ws2 = tiesN ws2 * rowsN ws := Int.mul_comm _ _
    rw [comm] at f6
    generalize rowsN ws = r1 at *
    generalize rowsN ws2 = r2 at *
    generalize tiesN ws = t1 at *
    generalize tiesN ws2 = t2 at *
    generalize hX : (ws ++ ws2).map wbD = WX at *
    clear h12 hX comm hl hl2
    refine w_st (by walk_at "ev" <;> exact rfl) ?_
    refine w_st (by walk_at "ev" <;> exact rfl) ?_
    refine w_ret (W.of (by walk_at "ev" <;> exact rfl) ?_)
    exact ⟨p2, rfl, rfl, q2⟩)
  exact ⟨ps', e, h1⟩
end z14

namespace z14
open PySem L2 PL MR SH
local macro_rules | `(tactic| walk_at "ev") => `(tactic| simp (config := {decide := true}) only [ini, fin, finI, sSeq, sNext, sAsg, sAsgG, sRet, sRetN, sDrop, sIf, sNever, sSetP, sAppP, sClrP, sRevP, fR, pmVar, pmIx, pmIxT, MR.putAt, OT.put, OT.at, gmName, gmTup, gmLst, gsNil, gsCons, rVar, rC, rOp, rUn, rCb, rCbZ, rOpZ, rCall, rAnd, rOr, rNot, rIf, rIs, rCh, rCh3, rTup, rLst, rSl, cNone, cSome, rRepr, dRepr, rInDct, rIdx, small, qNil, qCons, qApp, lApp, bR, bAnd, bOr, bNot, tR, tD, tmAnd, tmOr, tmNot, yVar_eq, yMov, yR, yAuto, dY, yD, dR, dOp, dOpR, dCb, dAnd, dOr, dNot, yCall, yCallA, yCallI, yCallIT, yCb, yCbA, yOp, yOpA, lfO, yTup, yLst, oNil, oCons, isNo, lNil, lCons, asB, asInt, asL, asT, iL, iT, iE, iZ, iV, yRng1_eq, iR1_eq, iR2_eq, lcStep, calmAt, wipeE, rst, sApp, yPop_eq, sDPutM, ySortD, yDNew, gmName, toD_d, toD_tup, toD_lst, toDs_nil, toDs_cons, toDs_ints, toDs_fpr, toDs_prs, lfs_ints, lfs_fpr, intsO_len, prsO_len, fprO_len, rng_len, intsO_snoc, prsO_snoc, lstO_rg, rOpZ, rCbZ, isNo_lstO, toD_dnew, ySl, ySlA, neS_self, eqS_self,  rRevL, yRevL, yRevLA, yPop0, sExt, gStrI,  lstO_prs, lstO_ints, toD_lstO, kp_int, kp_bool, kp_tuple, kp_list, kp_str, isIntB, isBoolB, isTupB, isListB, isStrB, gAdd_i, gSub_i, gLt_i, gLe_i, gGt_i, gGe_i, gMul_r, gMul_l, gMod_i, gDiv_i, gPow_i, gNeg, gEqI, gNeI, gEqS, gNeS, gIsN, gNotN, gIsB, gNotB, gIxL, gIxT, gLen, gMax2, gMin2, gInt, gAll, asBools_map, isN, OT.lf, OT.lfs, flat, atI_0, atI_1, ixN_0, ixN_1, rgD_len, enumD_len, trues_len, Int.toNat_natCast, List.length_map, eq_self, Option.bind_some, Option.bind_none, Option.map_some, Option.map_none, List.getElem?_cons_zero, List.getElem?_cons_succ, List.set_cons_zero, List.set_cons_succ, List.map_cons, List.map_nil, List.replicate, List.nil_append, List.cons_append, List.length_cons, List.length_nil, List.all_cons, List.all_nil, if_true, if_false, reduceIte, tfl_int, tfl_bool, tfl_none, tfl_str, tfl_list, Bool.true_and, Bool.and_true, Bool.false_and, Bool.and_false, Bool.true_or, Bool.or_true, Bool.false_or, Bool.or_false, Bool.not_true, Bool.not_false, Bool.false_eq_true, decide_true, decide_false, true_and, and_true, false_and, and_false, or_true, true_or, *])

theorem rep_le {w : Wb} (h : WbOk w) {i k : Nat} (hi : i ≤ k) : rowsN (List.replicate i w) ≤ rowsN (List.replicate k w) ∧ tiesN (List.replicate i w) ≤ tiesN (List.replicate k w) := by
  have hw : ∀ n : Nat, ∀ v ∈ List.replicate n w, Wk v := fun n v hv => by rw [(List.mem_replicate.mp hv).2]; exact h.wk
  have := part_le (as := []) (bs := List.replicate i w) (cs := List.replicate (k - i) w) (by simp) (hw i) (hw _)
  rw [List.nil_append, List.replicate_append_replicate, show i + (k - i) = k by omega] at this
  exact this
theorem powers_ok {ps : List OT} (hp : POk ps) : ∃ ps', m__law_powers (.nd .lst ps) [] = some (.d (.bool true), .nd .lst ps') ∧ POk ps' := by
  obtain ⟨n, us, t, p1, e1, q1, n1, n2, wk, wl, ht⟩ := loose_spec hp 4 2 (by omega) (by omega) (by omega) (by omega)
  have h : WbOk (n, us) := ⟨wk, n1, by show n ≤ 40; omega, by show us.length ≤ 120; omega⟩
  have hr : ∀ k : Nat, ∀ v ∈ List.replicate k ((n, us) : Wb), WbOk v := fun k v hv => by rw [(List.mem_replicate.mp hv).2]; exact h
  obtain ⟨r, t', e, ps', rfl, rfl, h1⟩ := finI_w (P := fun r t => ∃ ps', r = .d (.bool true) ∧ t = .nd .lst ps' ∧ POk ps') (B := B__law_powers) (ρ := .nd .lst ps :: ini [] 3) (by
    unfold B__law_powers
    have hD : OT.toD (.nd .tup [.d (.int (n : Nat)), t]) = some (wbD (n, us)) := by
      simp [toD_tup, toDs_cons, toDs_nil, toD_d, ht, wbD, WD]
    refine w_st (by walk_at "ev" <;> exact rfl) ?_
    refine w_st (by walk_at "ev" <;> exact rfl) ?_
    generalize OT.nd .tup [.d (.int (n : Nat)), t] = R at *
    refine w_seq (w_while (fun m ρ => ∃ (i : Nat) (R : OT), m + i = 12 ∧ i ≤ 12 ∧ OT.toD R = some (wbD (n, us)) ∧ ρ = [.nd .lst p1, R, .d (.int (i : Nat)), .no] ∧ rowsN (List.replicate i ((n, us) : Wb)) ≤ 40 ∧ tiesN (List.replicate i ((n, us) : Wb)) ≤ 120) (n := 12) ⟨0, R, rfl, by omega, hD, rfl, by simp [rowsN], by simp [tiesN]⟩ ?_)
    rintro m ρ2 ⟨i, R, hm, hi, hD, rfl, b1, b2⟩
    clear e1 ht wl wk
    have fin : ∀ R : OT, OT.toD R = some (wbD (n, us)) → sqK (sSeq (sAsg 3 (yLst (oCons (yCallA m_power 2 (qCons (rVar 1) (qCons (rOp gSub (rVar 2) (rOp gDiv (rVar 2) (rC (.int 2)))) qNil)) (lCons (dY (yVar 1)) (lCons (dR (rOp gSub (rVar 2) (rOp gDiv (rVar 2) (rC (.int 2))))) lNil))) (oCons (yCallA m_power 2 (qApp 1 1 (qCons (rVar 1) qNil) (qCons (rOp gDiv (rVar 2) (rC (.int 2))) qNil)) (lApp 1 1 (lCons (dY (yVar 1)) lNil) (lCons (dR (rOp gDiv (rVar 2) (rC (.int 2)))) lNil))) oNil))))
 (sRet (yR (rOp gEqS (rRepr (rCall m_power 2 (qApp 1 1 (qCons (rVar 1) qNil) (qCons (rVar 2) qNil)))) (rRepr (rCall m_product 1 (qCons (rVar 3) qNil))))))) (endIK fun r t => ∃ ps', r = .d (.bool true) ∧ t = .nd .lst ps' ∧ POk ps') .nx [.nd .lst p1, R, .d (.int (i : Nat)), .no] := by
      intro R hD
      have i2 : (i : Int) / 2 = ((i / 2 : Nat) : Int) := by omega
      have i1 : (i : Int) - ((i / 2 : Nat) : Int) = ((i - i / 2 : Nat) : Int) := by omega
      have l1 := rep_le h (i := i - i / 2) (k := i) (by omega)
      have l2 := rep_le h (i := i / 2) (k := i) (by omega)
      have f1 := power_ok h (k := i - i / 2) (by omega) (by omega) (by omega)
      have f2 := power_ok h (k := i / 2) (by omega) (by omega) (by omega)
      have f3 := power_ok h hi b1 b2
      have hwk : ∀ k : Nat, ∀ v ∈ List.replicate k ((n, us) : Wb), Wk v := fun k v hv => (hr k v hv).wk
      have o1 := prodW_bok (hwk (i - i / 2)) (by omega) (by omega)
      have o2 := prodW_bok (hwk (i / 2)) (by omega) (by omega)
      have e3 : prodW [prodW (List.replicate (i - i / 2) (n, us)), prodW (List.replicate (i / 2) (n, us))] = prodW (List.replicate i (n, us)) := by
        have := prodW_flat (gs := [List.replicate (i - i / 2) ((n, us) : Wb), List.replicate (i / 2) (n, us)]) (by
          intro g hg v hv
          simp at hg
          rcases hg with rfl | rfl
          · exact hwk _ v hv
          · exact hwk _ v hv)
        rw [List.map_cons, List.map_cons, List.map_nil] at this
        rw [this]
        simp only [List.flatten_cons, List.flatten_nil, List.append_nil]
        rw [List.replicate_append_replicate, show i - i / 2 + i / 2 = i by omega]
      have cnt := prodW_cnt [prodW (List.replicate (i - i / 2) (n, us)), prodW (List.replicate (i / 2) (n, us))]
      have cnt2 := prodW_cnt (List.replicate i ((n, us) : Wb))
      rw [e3] at cnt
      have f4 := product_ok (ws := [prodW (List.replicate (i - i / 2) (n, us)), prodW (List.replicate (i / 2) (n, us))]) (by
        intro v hv
        simp at hv
        rcases hv with rfl | rfl
        · exact o1
        · exact o2) (by simp) (by omega) (by omega)
      rw [e3] at f4
      have o3 := prodW_bok (hwk i) b1 b2
      have f5 := (nice_wb o3).repr (by omega) (by omega)
      have f6 := eqS_self (PyData.shown (wbD (prodW (List.replicate i (n, us)))))
      have lf1 := lf_wbO (prodW (List.replicate (i - i / 2) (n, us)))
      have lf2 := lf_wbO (prodW (List.replicate (i / 2) (n, us)))
      have td1 := toD_wbO (prodW (List.replicate (i - i / 2) (n, us)))
      have td2 := toD_wbO (prodW (List.replicate (i / 2) (n, us)))
      have td3 := toD_wbO (prodW (List.replicate i (n, us)))
      simp only [List.map_cons, List.map_nil] at f4
      generalize prodW (List.replicate (i - i / 2) (n, us)) = P1 at *
      generalize prodW (List.replicate (i / 2) (n, us)) = P2 at *
      generalize prodW (List.replicate i (n, us)) = P3 at *
      generalize wbD (n, us) = DW at *
      clear cnt cnt2 e3 l1 l2 hwk hr b1 b2 o1 o2 o3 lf1 lf2 td1 td2 td3
      simp only [wbO, wbD, WD] at *
      refine w_st (by walk_at "ev" <;> exact rfl) ?_
      refine w_ret (W.of (by walk_at "ev" <;> exact rfl) ?_)
      exact ⟨p1, rfl, rfl, q1⟩
    have rep : ∀ (k : Nat) (ix : Rm), k ≤ 13 → ix [.nd .lst p1, .d (wbD (n, us)), .d (.int (i : Nat)), .no] = some (.int (k : Nat)) → ∀ R : OT, OT.toD R = some (wbD (n, us)) → dY (yRep (yLst (oCons (yVar 1) oNil)) ix) [.nd .lst p1, R, .d (.int (i : Nat)), .no] = some (.list ((List.replicate k ((n, us) : Wb)).map wbD), [.nd .lst p1, .d (wbD (n, us)), .d (.int (i : Nat)), .no]) := by
      intro k ix hk hx R hD
      refine dY_of (yRep_one (k := k) (x := wbD (n, us)) ?_ hx (by omega)) ?_
      · clear fin hx hr b1 b2
        generalize wbD (n, us) = D at *
        walk_at "ev"
      · rw [toD_lstO, List.map_replicate]
    by_cases hi12 : i < 12
    · have ff := fits_ok (hr (i + 1)) (by simp; omega)
      have r1 := rep (i + 1) (rOp gAdd (rVar 2) (rC (.int 1))) (by omega) (by
        have : ((i + 1 : Nat) : Int) = (i : Int) + 1 := by omega
        rw [this]
        clear fin rep ff hr b1 b2 hi hi12
        walk_at "ev") R hD
      have ht : tmAnd (tR (bR (rOp gLt (rVar 2) (rC (.int 12))))) (tD (dY (yCall m__law_fits 1 (lCons (dY (yRep (yLst (oCons (yVar 1) oNil)) (rOp gAdd (rVar 2) (rC (.int 1))))) lNil)))) [.nd .lst p1, R, .d (.int (i : Nat)), .no] = some (fitB (List.replicate (i + 1) (n, us)), [.nd .lst p1, .d (wbD (n, us)), .d (.int (i : Nat)), .no]) := by
        have e1 : tR (bR (rOp gLt (rVar 2) (rC (.int 12)))) [.nd .lst p1, R, .d (.int (i : Nat)), .no] = some (true, [.nd .lst p1, R, .d (.int (i : Nat)), .no]) := by
          have cd : decide ((i : Int) < 12) = true := decide_eq_true (by omega)
          clear fin rep ff hr b1 b2 hi hi12 r1
          walk_at "ev"
        have e2 : tD (dY (yCall m__law_fits 1 (lCons (dY (yRep (yLst (oCons (yVar 1) oNil)) (rOp gAdd (rVar 2) (rC (.int 1))))) lNil))) [.nd .lst p1, R, .d (.int (i : Nat)), .no] = some (fitB (List.replicate (i + 1) (n, us)), [.nd .lst p1, .d (wbD (n, us)), .d (.int (i : Nat)), .no]) := by
          unfold tD
          rw [dY_of (r := .d (.bool (fitB (List.replicate (i + 1) (n, us))))) (ρ' := [.nd .lst p1, .d (wbD (n, us)), .d (.int (i : Nat)), .no]) ?_ (toD_d _)]
          · rfl
          · unfold yCall lCons
            rw [r1]
            simp only [Option.bind_some, lNil, Option.map_some, List.length_cons, List.length_nil, if_true, ff]
        unfold tmAnd
        rw [e1, Option.bind_some]
        simp only [if_true, e2]
      refine ⟨_, _, ht, fun c => ?_, fun c => fin _ (toD_d _)⟩
      unfold fitB at c
      simp only [Bool.and_eq_true, decide_eq_true_eq] at c
      have f3 := power_ok h hi b1 b2
      have f4 := product_ok (hr i) (by simp; omega) b1 b2
      have o3 := prodW_bok (fun v hv => (hr i v hv).wk) b1 b2
      have f5 := (nice_wb o3).repr (by omega) (by omega)
      have f6 := neS_self (PyData.shown (wbD (prodW (List.replicate i (n, us)))))
      have td3 := toD_wbO (prodW (List.replicate i (n, us)))
      have r2 := rep i (rVar 2) (by omega) (by
        clear fin rep ff hr b1 b2 hi hi12 r1 ht
        walk_at "ev") (.d (wbD (n, us))) (toD_d _)
      have e3 : tD (dOp gNeS (dR (rRepr (rCall m_power 2 (qCons (rVar 1) (qCons (rVar 2) qNil))))) (dRepr (dY (yCall m_product 1 (lCons (dY (yRep (yLst (oCons (yVar 1) oNil)) (rVar 2))) lNil))))) [.nd .lst p1, .d (wbD (n, us)), .d (.int (i : Nat)), .no] = some (false, [.nd .lst p1, .d (wbD (n, us)), .d (.int (i : Nat)), .no]) := by
        generalize prodW (List.replicate i (n, us)) = P3 at *
        generalize wbO P3 = O3 at *
        generalize wbD P3 = D3 at *
        generalize wbD (n, us) = DW at *
        have a1 : dR (rRepr (rCall m_power 2 (qCons (rVar 1) (qCons (rVar 2) qNil)))) [.nd .lst p1, .d DW, .d (.int (i : Nat)), .no] = some (.str (PyData.shown D3), [.nd .lst p1, .d DW, .d (.int (i : Nat)), .no]) := by
          clear fin rep ff hr b1 b2 hi hi12 r1 ht r2 f4
          walk_at "ev"
        have a2 : dRepr (dY (yCall m_product 1 (lCons (dY (yRep (yLst (oCons (yVar 1) oNil)) (rVar 2))) lNil))) [.nd .lst p1, .d DW, .d (.int (i : Nat)), .no] = some (.str (PyData.shown D3), [.nd .lst p1, .d DW, .d (.int (i : Nat)), .no]) := by
          unfold dRepr
          rw [dY_of (r := O3) (ρ' := [.nd .lst p1, .d DW, .d (.int (i : Nat)), .no]) ?_ td3]
          · simp only [Option.bind_some, f5, Option.map_some]
          · unfold yCall lCons
            rw [r2]
            simp only [Option.bind_some, lNil, Option.map_some, List.length_cons, List.length_nil, if_true, f4]
        unfold tD dOp
        rw [a1, Option.bind_some]
        simp only [a2, Option.bind_some, f6, Option.map_some, asB]
      refine w_seq (w_if (c := false) e3 (fun z => by cases z) (fun _ => W.of (r := .nx) rfl ?_))
      have st : sAsg 2 (yR (rOp gAdd (rVar 2) (rC (.int 1)))) [.nd .lst p1, .d (wbD (n, us)), .d (.int (i : Nat)), .no] = some (.nx, [.nd .lst p1, .d (wbD (n, us)), .d (.int ((i : Int) + 1)), .no]) := by
        clear fin rep ff hr b1 b2 hi hi12 r1 ht r2 f3 f4 f5 f6 e3
        walk_at "ev"
      refine w_nx st ?_
      refine ⟨m - 1, by omega, i + 1, .d (wbD (n, us)), by omega, by omega, toD_d _, ?_, c.1, c.2⟩
      rfl
    · have e1 : tR (bR (rOp gLt (rVar 2) (rC (.int 12)))) [.nd .lst p1, R, .d (.int (i : Nat)), .no] = some (false, [.nd .lst p1, R, .d (.int (i : Nat)), .no]) := by
        have cd : decide ((i : Int) < 12) = false := decide_eq_false (by omega)
        clear fin rep hr b1 b2 hi hi12
        walk_at "ev"
      refine ⟨false, _, ?_, fun z => (by cases z), fun _ => fin R hD⟩
      unfold tmAnd
      rw [e1]
      rfl)
  exact ⟨ps', e, h1⟩
end z14

namespace z14
open PySem L2 PL MR SH
local macro_rules | `(tactic| walk_at "ev") => `(tactic| simp (config := {decide := true}) only [ini, fin, finI, sSeq, sNext, sAsg, sAsgG, sRet, sRetN, sDrop, sIf, sNever, sSetP, sAppP, sClrP, sRevP, fR, pmVar, pmIx, pmIxT, MR.putAt, OT.put, OT.at, gmName, gmTup, gmLst, gsNil, gsCons, rVar, rC, rOp, rUn, rCb, rCbZ, rOpZ, rCall, rAnd, rOr, rNot, rIf, rIs, rCh, rCh3, rTup, rLst, rSl, cNone, cSome, rRepr, dRepr, rInDct, rIdx, small, qNil, qCons, qApp, lApp, bR, bAnd, bOr, bNot, tR, tD, tmAnd, tmOr, tmNot, yVar_eq, yMov, yR, yAuto, dY, yD, dR, dOp, dOpR, dCb, dAnd, dOr, dNot, yCall, yCallA, yCallI, yCallIT, yCb, yCbA, yOp, yOpA, lfO, yTup, yLst, oNil, oCons, isNo, lNil, lCons, asB, asInt, asL, asT, iL, iT, iE, iZ, iV, yRng1_eq, iR1_eq, iR2_eq, lcStep, calmAt, wipeE, rst, sApp, yPop_eq, sDPutM, ySortD, yDNew, gmName, toD_d, toD_tup, toD_lst, toDs_nil, toDs_cons, toDs_ints, toDs_fpr, toDs_prs, lfs_ints, lfs_fpr, intsO_len, prsO_len, fprO_len, rng_len, intsO_snoc, prsO_snoc, lstO_rg, rOpZ, rCbZ, isNo_lstO, toD_dnew, ySl, ySlA, neS_self, eqS_self,  rRevL, yRevL, yRevLA, yPop0, sExt, gStrI,  lstO_prs, lstO_ints, toD_lstO, kp_int, kp_bool, kp_tuple, kp_list, kp_str, isIntB, isBoolB, isTupB, isListB, isStrB, gAdd_i, gSub_i, gLt_i, gLe_i, gGt_i, gGe_i, gMul_r, gMul_l, gMod_i, gDiv_i, gPow_i, gNeg, gEqI, gNeI, gEqS, gNeS, gIsN, gNotN, gIsB, gNotB, gIxL, gIxT, gLen, gMax2, gMin2, gInt, gAll, asBools_map, isN, OT.lf, OT.lfs, flat, atI_0, atI_1, ixN_0, ixN_1, rgD_len, enumD_len, trues_len, Int.toNat_natCast, List.length_map, eq_self, Option.bind_some, Option.bind_none, Option.map_some, Option.map_none, List.getElem?_cons_zero, List.getElem?_cons_succ, List.set_cons_zero, List.set_cons_succ, List.map_cons, List.map_nil, List.replicate, List.nil_append, List.cons_append, List.length_cons, List.length_nil, List.all_cons, List.all_nil, if_true, if_false, reduceIte, tfl_int, tfl_bool, tfl_none, tfl_str, tfl_list, Bool.true_and, Bool.and_true, Bool.false_and, Bool.and_false, Bool.true_or, Bool.or_true, Bool.false_or, Bool.or_false, Bool.not_true, Bool.not_false, Bool.false_eq_true, decide_true, decide_false, true_and, and_true, false_and, and_false, or_true, true_or, *])

def frW (ws : List Wb) : List OT := (ws.map wbD).map .d
theorem toDs_frW (ws : List Wb) : OT.toDs (frW ws) = some (ws.map wbD) := toDs_mapd _
theorem frW_snoc (ws : List Wb) (w : Wb) : frW (ws ++ [w]) = frW ws ++ [.d (wbD w)] := by simp [frW]
theorem frW_len (ws : List Wb) : (frW ws).length = ws.length := by simp [frW]
theorem parts_ok {gs : List (List Wb)} {ws : List Wb} (hf : gs.flatten = ws) (h : ∀ w ∈ ws, WbOk w) (h1 : rowsN ws ≤ 40) (h2 : tiesN ws ≤ 120) : ∀ g ∈ gs, (∀ w ∈ g, WbOk w) ∧ rowsN g ≤ 40 ∧ tiesN g ≤ 120 ∧ g.length ≤ ws.length := by
  subst hf
  intro g hg
  obtain ⟨as, bs, rfl⟩ := List.append_of_mem hg
  have e : (as ++ g :: bs).flatten = as.flatten ++ g ++ bs.flatten := by simp
  rw [e] at h h1 h2 ⊢
  have ha : ∀ w ∈ as.flatten, Wk w := fun w hw => (h w (List.mem_append_left _ (List.mem_append_left _ hw))).wk
  have hb : ∀ w ∈ g, Wk w := fun w hw => (h w (List.mem_append_left _ (List.mem_append_right _ hw))).wk
  have hc : ∀ w ∈ bs.flatten, Wk w := fun w hw => (h w (List.mem_append_right _ hw)).wk
  have p := part_le ha hb hc
  exact ⟨fun w hw => h w (List.mem_append_left _ (List.mem_append_right _ hw)), by omega, by omega, by simp; omega⟩
theorem right_ok {ps : List OT} (hp : POk ps) : ∃ ps', m__law_right (.nd .lst ps) [] = some (.d (.bool true), .nd .lst ps') ∧ POk ps' := by
  obtain ⟨x, t', e, ps', rfl, rfl, h1⟩ := finI_w (P := fun r t => ∃ ps', r = .d (.bool true) ∧ t = .nd .lst ps' ∧ POk ps') (B := B__law_right) (ρ := .nd .lst ps :: ini [] 11) (by
    obtain ⟨n, p1, e1, q1, a1, b1⟩ := take_ok hp 8 (by omega) (by omega)
    obtain ⟨n, rfl⟩ : ∃ m : Nat, n = (m : Int) := ⟨n.toNat, by omega⟩
    have c1 := rg1_n (n := n) (by omega)
    unfold B__law_right
    refine w_st (by walk_at "ev" <;> exact rfl) ?_
    refine w_seq (w_for (fun i ρ => ∃ (p : List OT) (ws : List Wb) (X Y : OT), POk p ∧ ρ = [.nd .lst p, .nd .lst (frW ws), X, Y, .no, .no, .no, .no, .no, .no, .no, .no] ∧ ws.length ≤ i ∧ (∀ w ∈ ws, WbOk w) ∧ rowsN ws ≤ 40 ∧ tiesN ws ≤ 120) (xs := rgD 0 n) (ρ1 := [.nd .lst p1, .nd .lst [], .no, .no, .no, .no, .no, .no, .no, .no, .no, .no]) (by walk_at "ev" <;> exact rfl) ⟨p1, [], _, _, q1, rfl, by simp, by simp, by simp [rowsN], by simp [tiesN]⟩ ?_ ?_)
    · rintro i x ρ2 hx ⟨p, ws, X, Y, hp, rfl, hl, h, hr, ht⟩
      obtain ⟨hi, rfl⟩ := rgD_at hx
      rw [Int.zero_add]
      obtain ⟨k, p2, e2, q2, a2, b2⟩ := take_ok hp 5 (by omega) (by omega)
      obtain ⟨m, em, m1, m2⟩ : ∃ m : Int, atI [PyData.int 1, .int 2, .int 3, .int 5, .int 10] k = some (.int m) ∧ 1 ≤ m ∧ m ≤ 10 := by
        have : k = 0 ∨ k = 1 ∨ k = 2 ∨ k = 3 ∨ k = 4 := by omega
        rcases this with rfl | rfl | rfl | rfl | rfl
        · exact ⟨1, rfl, by omega, by omega⟩
        · exact ⟨2, rfl, by omega, by omega⟩
        · exact ⟨3, rfl, by omega, by omega⟩
        · exact ⟨5, rfl, by omega, by omega⟩
        · exact ⟨10, rfl, by omega, by omega⟩
      obtain ⟨n', us, t, p4, e4, q4, n1, n2, w, l, ht'⟩ := loose_spec q2 m 4 m1 (by omega) (by omega) (by omega)
      have hw : WbOk (n', us) := ⟨w, n1, by show n' ≤ 40; omega, by show us.length ≤ 120; omega⟩
      have h' : ∀ v ∈ ws ++ [((n', us) : Wb)], WbOk v := fun v hv => by
        rcases List.mem_append.mp hv with z | z
        · exact h v z
        · rw [List.mem_singleton.mp z]; exact hw
      have ff := fits_ok h' (by simp; omega)
      have hD : OT.toD (.nd .tup [.d (.int (n' : Nat)), t]) = some (wbD (n', us)) := by
        simp [toD_tup, toDs_cons, toDs_nil, toD_d, ht', wbD, WD]
      have g1 := GCat_ok (a := ws.map wbD) (b := [wbD (n', us)]) (by simp; omega)
      have e5 : ws.map wbD ++ [wbD (n', us)] = (ws ++ [((n', us) : Wb)]).map wbD := by simp
      rw [e5] at g1
      have td := toDs_frW ws
      have fl : (frW ws).length ≤ 1000000 := by rw [frW_len]; omega
      have fs := frW_snoc ws (n', us)
      generalize hWS : (ws ++ [((n', us) : Wb)]).map wbD = WS at *
      generalize OT.nd .tup [.d (.int (n' : Nat)), t] = R at *
      generalize hFW : frW ws = FW at *
      clear c1 ht' e5 hWS
      apply exw
      · walk_at "ev" <;> exact rfl
      refine w_st (by walk_at "ev" <;> exact rfl) ?_
      refine w_if (c := fitB (ws ++ [((n', us) : Wb)])) (by walk_at "ev" <;> exact rfl) (fun c => ?_) (fun c => ?_)
      · unfold fitB at c
        simp only [Bool.and_eq_true, decide_eq_true_eq] at c
        apply w_nx
        · walk_at "ev" <;> exact rfl
        refine ⟨p4, ws ++ [((n', us) : Wb)], .d (.int (i : Nat)), .d (wbD (n', us)), q4, ?_, by simp; omega, h', c.1, c.2⟩
        rw [fs]
      · refine W.of (r := .nx) rfl ?_
        refine ⟨p4, ws, .d (.int (i : Nat)), R, q4, ?_, by omega, h, hr, ht⟩
        rw [hFW]
    · rintro ρ2 ⟨p, ws, X, Y, hp, rfl, hl, h, hr, ht⟩
      rw [rgD_len] at hl
      clear e1 c1
      obtain ⟨gs, p2, e2, q2, hf, hg⟩ := groups_ok hp (ws := ws) (by omega)
      have parts := parts_ok hf h hr ht
      have hk : ∀ g ∈ gs, ∀ w ∈ g, Wk w := fun g hg w hw => ((parts g hg).1 w hw).wk
      have f1 := product_ok h (by omega) hr ht
      have f2 := places_of_ok h (by omega)
      have f3 := ties_of_ok h (by omega)
      have cnt := prodW_cnt ws
      have pk := prodW_bok (fun w hw => (h w hw).wk) hr ht
      have pe := prodW_flat hk
      rw [hf] at pe
      have cg := prodW_cnt (gs.map prodW)
      rw [pe] at cg
      have gok : ∀ w ∈ gs.map prodW, WbOk w := fun w hw => by
        obtain ⟨g, hg, rfl⟩ := List.mem_map.mp hw
        have := parts g hg
        exact prodW_bok (hk g hg) this.2.1 this.2.2.1
      have f4 := product_ok gok (by simp; omega) (by omega) (by omega)
      rw [pe] at f4
      have f5 := (nice_wb pk).repr (by omega) (by omega)
      have f6 := neS_self (PyData.shown (wbD (prodW ws)))
      have tw := toDs_frW ws
      have tg : OT.toDs (gs.map gO) = some (gs.map gD) := toDs_map' toD_gO gs
      have tm : OT.toDs (gs.map fun g => wbO (prodW g)) = some (gs.map fun g => wbD (prodW g)) := toDs_map' (fun g => toD_wbO _) gs
      have em : (gs.map prodW).map wbD = gs.map fun g => wbD (prodW g) := by rw [List.map_map]; rfl
      rw [em] at f4
      generalize hMD : (gs.map fun g => wbD (prodW g)) = MD at *
      have pl : 1 ≤ (prodW ws).1 := pk.lo
      have ph := pk.hi
      have tie : ∀ a b : List Int, RowOk ws a → RowOk ws b → tiedB ws a b = decide (tieOf (numA ws a) (numA ws b) ∈ (prodW ws).2) := fun a b ka kb => by
        have := prodW_tied h ka kb
        cases q : tiedB ws a b with
        | true => exact (decide_eq_true (this.mpr q)).symm
        | false => exact (decide_eq_false fun z => by rw [this.mp z] at q; cases q).symm
      rw [← cnt.1] at f2
      rw [← cnt.2] at f3
      generalize hP : prodW ws = P at *
      obtain ⟨P1, P2⟩ := P
      simp only at pl ph cnt f2 f3
      simp only [wbO, wbD, WD] at f1 f4 f5 f6
      generalize hFW : frW ws = FW at *
      generalize hGO : gs.map gO = GO at *
      have ngr : gs.length ≤ 1000000 := by omega
      have hN := cnt.1.symm
      clear cnt cg
      refine w_st (by walk_at "ev" <;> exact rfl) ?_
      refine w_st (by walk_at "ev" <;> exact rfl) ?_
      refine w_seq (w_asg (w_lcmT (fun g : List Wb => wbO (prodW g)) (as := gs) (enc := gD) (by walk_at "ev" <;> exact rfl) rfl (by omega) (fun g hgm => ?_) ?_))
      · have pg := parts g hgm
        have fg := product_ok pg.1 (by omega) pg.2.1 pg.2.2.1
        have lfg := lf_wbO (prodW g)
        have ng : isNo (wbO (prodW g)) = false := rfl
        unfold gD
        simp only [wbO] at fg lfg ng ⊢
        generalize prodW g = PG at *
        obtain ⟨G1, G2⟩ := PG
        generalize hGD : g.map wbD = GDD at *
        clear f1 f2 f3 f4 f5 f6 tie tm tg tw em e2 pe parts hk gok hg hl
        refine W.of (by walk_at "ev" <;> exact rfl) ?_
        exact ⟨rfl, rfl⟩
      simp only [sqK, wipeE, rst, List.getElem?_cons_zero, List.getElem?_cons_succ, List.set_cons_zero, List.set_cons_succ]
      have nums : ∀ r : List Int, RowOk ws r → m_number_of [.list MD, .list ((gRow gs r).map .int)] = some (.d (.int (numA ws r))) := by
        intro r hr
        have hr' := hr
        rw [← hf] at hr'
        have a := number_of_ok gok (by simp; omega) (gRow_ok hk hr')
        rw [em, gRow_num hr', hf] at a
        exact a
      have grp : ∀ r : List Int, RowOk ws r → m__law_grouped_row [.list (gs.map gD), .list (r.map .int)] = some (.nd .lst (intsO (gRow gs r))) := by
        intro r hr
        rw [← hf] at hr
        exact grouped_row_ok (fun g hg => (parts g hg).1) hg (by rw [hf]; omega) hr
      generalize (gs.map fun g => wbO (prodW g)) = MO at *
      generalize hGD : gs.map gD = GDs at *
      have wl := h
      have loop : ∀ (p2 : List OT), POk p2 → W (sSeq (sFor (iR1 (lCons (dR (rC (.int 6))) lNil)) (gmName 2)
 (sSeq (sAsg 8 (yCallI m__law_take 2 0 (lCons (dY (yAuto (rOp gIxT (rVar 5) (rC (.int 0))) (yD (dOpR gIxT (dY (yVar 5)) (rC (.int 0)))))) lNil)))
 (sSeq (sAsg 9 (yCallA m_row_of 2 (qCons (rVar 1) (qCons (rVar 8) qNil)) (lCons (dY (yVar 1)) (lCons (dY (yVar 8)) lNil))))
 (sSeq (sIf (tR (bR (rOp gNeI (rCall m_number_of 2 (qCons (rVar 6) (qCons (rCall m__law_grouped_row 2 (qCons (rVar 4) (qCons (rVar 9) qNil))) qNil))) (rVar 8))))
 (sRet (yR (rC (.bool false))))
 sNext)
 (sSeq (sAsg 10 (yCallI m__law_take 2 0 (lCons (dY (yAuto (rOp gIxT (rVar 5) (rC (.int 0))) (yD (dOpR gIxT (dY (yVar 5)) (rC (.int 0)))))) lNil)))
 (sSeq (sAsg 11 (yR (rOp gInD (rTup (qCons (rCb gMin2 (qCons (rVar 8) (qCons (rVar 10) qNil))) (qCons (rCb gMax2 (qCons (rVar 8) (qCons (rVar 10) qNil))) qNil))) (rOp gIxT (rVar 5) (rC (.int 1))))))
 (sIf (tR (bR (rOp gNeI (rCall m_rows_tied 3 (qCons (rVar 1) (qCons (rVar 9) (qCons (rCall m_row_of 2 (qCons (rVar 1) (qCons (rVar 10) qNil))) qNil)))) (rVar 11))))
 (sRet (yR (rC (.bool false))))
 sNext)))))))
 (sRet (yR (rC (.bool true))))) [.nd .lst p2, .d (.list (ws.map wbD)), X, Y, .d (.list GDs), .nd .tup [.d (.int (P1 : Nat)), .nd .lst (fprO P2)], .nd .lst MO, .no, .no, .no, .no, .no] (endIK fun r t => ∃ ps', r = .d (.bool true) ∧ t = .nd .lst ps' ∧ POk ps') := by
        intro p2 hp2
        have c6 := rg1_n (n := 6) (by omega)
        rw [show ((6 : Nat) : Int) = 6 from rfl] at c6
        refine w_seq (w_for (fun i ρ => ∃ (p : List OT) (A B C D E : OT), POk p ∧ ρ = [.nd .lst p, .d (.list (ws.map wbD)), A, Y, .d (.list GDs), .nd .tup [.d (.int (P1 : Nat)), .nd .lst (fprO P2)], .nd .lst MO, .no, B, C, D, E]) (xs := rgD 0 6) (ρ1 := [.nd .lst p2, .d (.list (ws.map wbD)), X, Y, .d (.list GDs), .nd .tup [.d (.int (P1 : Nat)), .nd .lst (fprO P2)], .nd .lst MO, .no, .no, .no, .no, .no]) (by clear nums grp tie f1 f2 f3 f4 f5 f6 tm tg tw em e2; walk_at "ev") ⟨p2, _, _, _, _, _, hp2, rfl⟩ ?_ ?_)
        · rintro i x ρ2 hx ⟨p, A, B, C, D, E, hp, rfl⟩
          obtain ⟨hi, rfl⟩ := rgD_at hx
          obtain ⟨a, p3, e3, q3, a3, b3⟩ := take_ok hp (P1 : Nat) (by omega) (by omega)
          obtain ⟨b, p4, e4, q4, a4, b4⟩ := take_ok q3 (P1 : Nat) (by omega) (by omega)
          have lo : ∀ w ∈ ws, 1 ≤ w.1 := fun w hw => (h w hw).lo
          have ka := rowOf_ok a lo
          have kb := rowOf_ok b lo
          have na := num_rowOf lo a3 (by omega)
          have nb := num_rowOf lo a4 (by omega)
          have r1 := row_of_ok h (by omega) a3 (by omega)
          have r2 := row_of_ok h (by omega) a4 (by omega)
          have r3 := nums _ ka
          have r4 := grp _ ka
          have r5 := rows_tied_ok h (by omega) ka kb
          rw [tie _ _ ka kb, na, nb] at r5
          rw [na] at r3
          have r6 := inD_pr (min a b) (max a b) P2
          unfold tieOf at r5
          have l1 := lf_ints (rowOf ws a)
          generalize decide ((min a b, max a b) ∈ P2) = TT at *
          generalize gRow gs (rowOf ws a) = GR at *
          generalize rowOf ws a = RA at *
          generalize rowOf ws b = RB at *
          clear nums grp tie f1 f2 f3 f4 f5 f6 tg tw em e2 ka kb na nb hx c6
          apply exw
          · walk_at "ev" <;> exact rfl
          refine w_st (by walk_at "ev" <;> exact rfl) ?_
          refine w_st (by walk_at "ev" <;> exact rfl) ?_
          refine w_st (by walk_at "ev" <;> exact rfl) ?_
          refine w_st (by walk_at "ev" <;> exact rfl) ?_
          refine w_st (by walk_at "ev" <;> exact rfl) ?_
          apply w_nx
          · walk_at "ev" <;> exact rfl
          exact ⟨p4, _, _, _, _, _, q4, rfl⟩
        · rintro ρ2 ⟨p, A, B, C, D, E, hp, rfl⟩
          refine w_ret (W.of (by walk_at "ev" <;> exact rfl) ?_)
          exact ⟨p, rfl, rfl, hp⟩
      clear nums grp tie tg tw em e2 pe parts hk gok hg hl
      refine w_st ?_ (loop p2 q2)
      clear loop
      walk_at "ev" <;> exact rfl)
  exact ⟨ps', e, h1⟩
theorem goal (ns : List Int) (hl : ns.length ≤ 63) : m_law [.list (ns.map .int)] = some (.d (.bool true)) := by
  obtain ⟨m, hm, hm2⟩ : ∃ m : Nat, max (1 : Int) (min (ns.length : Nat) 6) = (m : Nat) ∧ m ≤ 12 := ⟨(max (1 : Int) (min (ns.length : Nat) 6)).toNat, by omega, by omega⟩
  have c1 := rg1_n (n := m) (by omega)
  have lp : ∀ {p : List OT}, POk p → OT.lfs p = true := by
    rintro p ⟨g, s, rfl, _, _⟩
    simp [OT.lf, OT.lfs, tfl_int]
  unfold m_law B_law
  refine fin_eq ?_
  refine w_seq (w_for (fun i ρ => ∃ X Y, ρ = [.d (.list (ns.map .int)), X, Y]) (xs := rgD 0 m) (ρ1 := [.d (.list (ns.map .int)), .no, .no]) (by walk_at "ev" <;> exact rfl) ⟨_, _, rfl⟩ ?_ ?_)
  · rintro i x ρ2 hx ⟨X, Y, rfl⟩
    obtain ⟨hi, rfl⟩ := rgD_at hx
    rw [Int.zero_add]
    obtain ⟨ps, e1, hp⟩ := pool_ok ns i (by omega)
    obtain ⟨p1, e2, q1⟩ := right_ok hp
    obtain ⟨p2, e3, q2⟩ := sums_ok q1
    obtain ⟨p3, e4, q3⟩ := powers_ok q2
    have l1 := lp hp
    apply exw
    · walk_at "ev" <;> exact rfl
    refine w_st (by walk_at "ev" <;> exact rfl) ?_
    apply w_nx
    · walk_at "ev" <;> exact rfl
    exact ⟨_, _, rfl⟩
  · rintro ρ2 ⟨X, Y, rfl⟩
    exact w_end (by walk_at "ev" <;> exact rfl) rfl rfl
end z14

open PySem PySem.W PyProof.Rows in
set_option maxHeartbeats 0 in
theorem PySem.Challenge.cw_webtimes_k14_whole_groups_of_webs_holds : PySem.Challenge.rw_webtimes_k14_whole_groups_of_webs.Holds := by
  w_on; o_law; k_head; (case hw => w_witness2)
  k_fill
  refine MR.walkQ (l := PySem.Challenge.rw_webtimes_k14_whole_groups_of_webs) (n := 63) (k := 8) (x := "_law_script") (CX := fun _ => L2.CX0) (sp := fun w => @MR.spP ⟨_⟩ 1 z14.m_law) rfl (by decide) rfl ⟨rfl, by decide, by decide⟩ (fun w h Y => PySem.W.kIn_of Y) ?F (fun w G a ns hl hS => z14.law_sp z14.goal hl hS) (fun _ _ _ _ _ h => h)
  case F =>
    intro w mg fa h KX G hmg
    refine' z14.all_mk KX G hmg ?a0 ?l0 ?c0 ?k0 ?a1 ?l1 ?c1 ?k1 ?a2 ?l2 ?c2 ?k2 ?a3 ?l3 ?c3 ?k3 ?a4 ?l4 ?c4 ?k4 ?a5 ?l5 ?c5 ?k5 ?a6 ?l6 ?c6 ?k6 ?a7 ?l7 ?c7 ?k7 ?a8 ?l8 ?c8 ?k8 ?a9 ?l9 ?c9 ?k9 ?a10 ?l10 ?c10 ?k10 ?a11 ?l11 ?c11 ?k11 ?a12 ?l12 ?c12 ?k12 ?a13 ?l13 ?c13 ?k13 ?u13 ?v13 ?x13 ?a14 ?l14 ?c14 ?k14 ?a15 ?l15 ?c15 ?k15 ?a16 ?l16 ?c16 ?k16 ?a17 ?l17 ?c17 ?k17 ?a18 ?l18 ?c18 ?k18 ?a19 ?l19 ?c19 ?k19 ?a20 ?l20 ?c20 ?k20 ?a21 ?l21 ?c21 ?k21 ?a22 ?l22 ?c22 ?k22 ?a23 ?l23 ?c23 ?k23 ?a24 ?l24 ?c24 ?k24 ?a25 ?l25 ?c25 ?k25 ?a26 ?l26 ?c26 ?k26 ?a27 ?l27 ?c27 ?k27 ?a28 ?l28 ?c28 ?k28 ?a29 ?l29 ?c29 ?k29 ?a30 ?l30 ?c30 ?k30 ?a31 ?l31 ?c31 ?k31 ?a32 ?l32 ?c32 ?k32 ?a33 ?l33 ?c33 ?k33 ?z0 ?z1 ?z2 ?z3 ?z4 ?z5 ?z6 ?z7 ?z8 ?z9 ?z10 ?z11 ?z12 ?z13 ?z14 ?z15 ?z16 ?z17 ?z18
    (case a0 => k_is)
    (case l0 => k_is)
    (case c0 => k_is)
    (case k0 => k_is)
    (case a1 => k_is)
    (case l1 => k_is)
    (case c1 => k_is)
    (case k1 => k_is)
    (case a2 => k_is)
    (case l2 => k_is)
    (case c2 => k_is)
    (case k2 => k_is)
    (case a3 => k_is)
    (case l3 => k_is)
    (case c3 => k_is)
    (case k3 => k_is)
    (case a4 => k_is)
    (case l4 => k_is)
    (case c4 => k_is)
    (case k4 => k_is)
    (case a5 => k_is)
    (case l5 => k_is)
    (case c5 => k_is)
    (case k5 => k_is)
    (case a6 => k_is)
    (case l6 => k_is)
    (case c6 => k_is)
    (case k6 => k_is)
    (case a7 => k_is)
    (case l7 => k_is)
    (case c7 => k_is)
    (case k7 => k_is)
    (case a8 => k_is)
    (case l8 => k_is)
    (case c8 => k_is)
    (case k8 => k_is)
    (case a9 => k_is)
    (case l9 => k_is)
    (case c9 => k_is)
    (case k9 => k_is)
    (case a10 => k_is)
    (case l10 => k_is)
    (case c10 => k_is)
    (case k10 => k_is)
    (case a11 => k_is)
    (case l11 => k_is)
    (case c11 => k_is)
    (case k11 => k_is)
    (case a12 => k_is)
    (case l12 => k_is)
    (case c12 => k_is)
    (case k12 => k_is)
    (case a13 => k_is)
    (case l13 => k_is)
    (case c13 => k_is)
    (case k13 => k_is)
    (case u13 => k_is)
    (case v13 => rfl)
    (case x13 => rfl)
    (case a14 => k_is)
    (case l14 => k_is)
    (case c14 => k_is)
    (case k14 => k_is)
    (case a15 => k_is)
    (case l15 => k_is)
    (case c15 => k_is)
    (case k15 => k_is)
    (case a16 => k_is)
    (case l16 => k_is)
    (case c16 => k_is)
    (case k16 => k_is)
    (case a17 => k_is)
    (case l17 => k_is)
    (case c17 => k_is)
    (case k17 => k_is)
    (case a18 => k_is)
    (case l18 => k_is)
    (case c18 => k_is)
    (case k18 => k_is)
    (case a19 => k_is)
    (case l19 => k_is)
    (case c19 => k_is)
    (case k19 => k_is)
    (case a20 => k_is)
    (case l20 => k_is)
    (case c20 => k_is)
    (case k20 => k_is)
    (case a21 => k_is)
    (case l21 => k_is)
    (case c21 => k_is)
    (case k21 => k_is)
    (case a22 => k_is)
    (case l22 => k_is)
    (case c22 => k_is)
    (case k22 => k_is)
    (case a23 => k_is)
    (case l23 => k_is)
    (case c23 => k_is)
    (case k23 => k_is)
    (case a24 => k_is)
    (case l24 => k_is)
    (case c24 => k_is)
    (case k24 => k_is)
    (case a25 => k_is)
    (case l25 => k_is)
    (case c25 => k_is)
    (case k25 => k_is)
    (case a26 => k_is)
    (case l26 => k_is)
    (case c26 => k_is)
    (case k26 => k_is)
    (case a27 => k_is)
    (case l27 => k_is)
    (case c27 => k_is)
    (case k27 => k_is)
    (case a28 => k_is)
    (case l28 => k_is)
    (case c28 => k_is)
    (case k28 => k_is)
    (case a29 => k_is)
    (case l29 => k_is)
    (case c29 => k_is)
    (case k29 => k_is)
    (case a30 => k_is)
    (case l30 => k_is)
    (case c30 => k_is)
    (case k30 => k_is)
    (case a31 => k_is)
    (case l31 => k_is)
    (case c31 => k_is)
    (case k31 => k_is)
    (case a32 => k_is)
    (case l32 => k_is)
    (case c32 => k_is)
    (case k32 => k_is)
    (case a33 => k_is)
    (case l33 => k_is)
    (case c33 => k_is)
    (case k33 => k_is)
    (case z0 => k_is)
    (case z1 => k_is)
    (case z2 => k_is)
    (case z3 => k_is)
    (case z4 => k_is)
    (case z5 => k_is)
    (case z6 => k_is)
    (case z7 => k_is)
    (case z8 => k_is)
    (case z9 => k_is)
    (case z10 => k_is)
    (case z11 => k_is)
    (case z12 => k_is)
    (case z13 => k_is)
    (case z14 => k_is)
    (case z15 => k_is)
    (case z16 => k_is)
    (case z17 => k_is)
    (case z18 => k_is)

