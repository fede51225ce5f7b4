import PyProof.Rows.All
import Wide.All
import OpenK.AllK
import Wide.FinOn
import HandS.ForMost
import HandS.Deep
import HandS.IsInst
import HandS.Walk
import HandS.TupLe
import HandS.Conv
import HandS.SortRule
import HandS.SortInts
import KE.KDictCopyH
import HandS.SetFor
import HandS.Strs
import HandS.NoneIn
import HandS.Defaults
import HandS.TupSets
import HandS.Wide
import PyProof.ReprRoads
import KE.SortData
import KE.DataCmp
import HandS.DictComp
import HandS.Style
import HandS.SetBool
import KE.KMathGC
import KE.GoesMore
import KE.GoesEnum
import HandS.Iter
import PyProof.ListIndex
import HandS.Dict
import KE.KDictZip
import HandS.ListItems
import KE.DataMinMax
import HandS.SortKw
import HandS.Exc
import HandS.TryOnly
import HandS.ExcOwn
import HandS.ExcIs
import HandS.WordsExc
import PySem.Challenge.RW_webtimes_k06_pieces_and_parts
set_option Elab.async false
set_option linter.all false
set_option maxRecDepth 100000
set_option maxHeartbeats 4000000
/-! PL: webs and other plain data told over slots, without the heap -/
namespace PL
open PySem L2
class KF where
  K : PySem.W.Frag
  w : World
abbrev D := PyData
abbrev Sg := List (Option V)
/-! ### what is stable (S) within what is tracked (H) -/
structure Xt (S H S' H' : Hp) : Prop where
  hh : Same H H'
  ss : Same S S'
  sh : Same S' H'
  nw : ∀ b o, S' b = some o → S b = some o ∨ ∀ u, H b = some u → ∃ xs, u = .tup xs
theorem Xt.refl {S H : Hp} (h : Same S H) : Xt S H S H := ⟨Same.refl H, Same.refl S, h, fun _ _ e => .inl e⟩
theorem Xt.trans {S H S1 H1 S2 H2 : Hp} (a : Xt S H S1 H1) (b : Xt S1 H1 S2 H2) : Xt S H S2 H2 :=
  ⟨a.hh.trans b.hh, a.ss.trans b.ss, b.sh, fun c o e => by
    rcases b.nw c o e with q | q
    · exact a.nw c o q
    · exact .inr fun u hu => q u (a.hh c u hu)⟩
/-- a new object, not stable -/
theorem Xt.new {S H : Hp} {p : Addr} {o : HO} (h : Same S H) (n : H p = none) : Xt S H S (upd H p o) :=
  ⟨fun b u e => by rw [upd_ne (ne_of_none e n)]; exact e, Same.refl S, fun b u e => by rw [upd_ne (ne_of_none (h b u e) n)]; exact h b u e, fun _ _ e => .inl e⟩
/-- a new object, stable -/
theorem Xt.newS {S H : Hp} {p : Addr} {o : HO} (h : Same S H) (n : H p = none) : Xt S H (upd S p o) (upd H p o) :=
  ⟨fun b u e => by rw [upd_ne (ne_of_none e n)]; exact e, fun b u e => by rw [upd_ne (ne_of_none (h b u e) n)]; exact e, fun b u e => by
    by_cases hb : b = p
    · subst hb; rw [upd_same] at e ⊢; exact e
    · rw [upd_ne hb] at e ⊢; exact h b u e, fun b u e => by
    by_cases hb : b = p
    · subst hb; exact .inr fun u hu => by rw [n] at hu; cases hu
    · rw [upd_ne hb] at e; exact .inl e⟩
/-- what is not of the stable part and no tuple stays out of it -/
theorem Xt.out {S H S' H' : Hp} (x : Xt S H S' H') {a : Addr} {u : HO} (hs : S a = none) (hu : H a = some u) (nt : ∀ xs, u ≠ .tup xs) : S' a = none := by
  cases q : S' a with
  | none => rfl
  | some o =>
    rcases x.nw a o q with e | e
    · rw [hs] at e; cases e
    · obtain ⟨xs, e⟩ := e u hu; exact absurd e (nt xs)
/-- list + list, both to be read -/
def rCatR (K : PySem.W.Frag) : R2 := fun x y H Q => ∃ l b xs zs, x = .ref l ∧ y = .ref b ∧ SqL K H l xs ∧ SqL K H b zs ∧ xs.length + zs.length ≤ sizeLine ∧ ∀ p, H p = none → Q (.ref p) (upd H p (.lst (xs ++ zs)))
theorem op_catR {X : Cx} : OpR X (binaryOp .Add) (rCatR X.K) := by
  intro pins s σ H x y v u Q I rx ry h
  obtain ⟨l, b, xs, zs, rfl, rfl, hH, hB, hz, q⟩ := h
  cases rx
  cases ry
  obtain ⟨its, r, ⟨⟨c1, d1, dt1, sl1⟩, n1, g1, k1, m1, t1⟩, z1⟩ := I.list hH
  obtain ⟨its2, r2, ⟨⟨c2, d2, dt2, sl2⟩, n2, g2, k2, m2, t2⟩, z2⟩ := I.list hB
  simp only at k1 m1 t1 k2 m2 t2
  subst k1 m1 t1 k2 m2 t2
  have e1 := r.length
  have e2 := r2.length
  refine concat_meets ⟨_, g1, rfl⟩ ⟨_, g2, rfl⟩ PySem.noFill_list_add PySem.seq_list_add PySem.F.slot_list_add PySem.F.entry_list_add (PySem.F.args_list_add_2 _ _)
    (PyProof.Rows.list_addW l b its.toArray its2.toArray n1 n2 none none sl1 sl2 (by simp; omega)) ⟨g1, g2, ?_⟩
  have ea : its.toArray ++ its2.toArray = (its ++ its2).toArray := by simp
  rw [ea]
  exact ⟨.ref _, _, I.lnew (t' := s.toks) (r.append r2) (by rw [List.length_append]; omega), rfl, q _ I.fresh⟩
/-- a constant as data -/
def vD : V → Option D
  | .non => some .none
  | .bl b => some (.bool b)
  | .int i => some (.int i)
  | .str x => some (.str x)
  | _ => none
/-- keys as data; a dict of flat values -/
def keyD : Key → D
  | .inl i => .int i
  | .inr s => .str s
def keyTD (k : List Key) : D := .tuple (k.map keyD)
def dctD {κ : Type} (f : κ → D) : List (κ × V) → Option (List (D × D))
  | [] => some []
  | (k, v) :: r => (vD v).bind fun x => (dctD f r).map fun xs => (f k, x) :: xs
mutual
/-- no dict within -/
def noDc : D → Bool
  | .none => true
  | .bool _ => true
  | .int _ => true
  | .str _ => true
  | .list xs => noDcs xs
  | .tuple xs => noDcs xs
  | .dict _ => false
def noDcs : List D → Bool
  | [] => true
  | x :: xs => noDc x && noDcs xs
end
mutual
theorem noDc_lay : ∀ d : D, d.canLay0 = true → noDc d = true
  | .none, _ => by simp [noDc]
  | .bool _, _ => by simp [noDc]
  | .int _, _ => by simp [noDc]
  | .str _, _ => by simp [noDc]
  | .list xs, h => by
    simp only [noDc]
    exact noDcs_lay xs (by simpa only [PyData.canLay0] using h)
  | .tuple xs, h => by
    simp only [noDc]
    exact noDcs_lay xs (by simpa only [PyData.canLay0] using h)
  | .dict _, h => by simp [PyData.canLay0] at h
theorem noDcs_lay : ∀ ds : List D, PyData.canLayAll0 ds = true → noDcs ds = true
  | [], _ => by simp [noDcs]
  | x :: xs, h => by
    have h' : x.canLay0 = true ∧ PyData.canLayAll0 xs = true := by simpa only [PyData.canLayAll0, Bool.and_eq_true] using h
    simp only [noDcs, noDc_lay x h'.1, noDcs_lay xs h'.2, Bool.and_self]
end
variable [kf : KF]
/-! ### data -/
mutual
/-- v is d, all of it tracked -/
inductive Rp (H : Hp) : V → D → Prop
  | non : Rp H .non .none
  | bl (b : Bool) : Rp H (.bl b) (.bool b)
  | int (i : Int) : Rp H (.int i) (.int i)
  | str (x : Str) : Rp H (.str x) (.str x)
  | lst {a : Addr} {xs : List V} {ds : List D} : SqL kf.K H a xs → RpAll H xs ds → Rp H (.ref a) (.list ds)
  | tup {a : Addr} {xs : List V} {ds : List D} : H a = some (.tup xs) → RpAll H xs ds → Rp H (.ref a) (.tuple ds)
  | dcT {a : Addr} {kvs : List (List Key × V)} {ds : List (D × D)} : H a = some (.dT kvs) → dctD keyTD kvs = some ds → Rp H (.ref a) (.dict ds)
  | dcK {a : Addr} {kvs : List (Key × V)} {ds : List (D × D)} : H a = some (.dK kvs) → ds ≠ [] → dctD keyD kvs = some ds → Rp H (.ref a) (.dict ds)
inductive RpAll (H : Hp) : List V → List D → Prop
  | nil : RpAll H [] []
  | cons {v : V} {vs : List V} {d : D} {ds : List D} : Rp H v d → RpAll H vs ds → RpAll H (v :: vs) (d :: ds)
end
mutual
theorem dp_mono {H H' : Hp} (e : Same H H') : ∀ (d : D) (v : V), Rp H v d → Rp H' v d
  | .none, _, h => by cases h; exact .non
  | .bool b, _, h => by cases h; exact .bl b
  | .int i, _, h => by cases h; exact .int i
  | .str x, _, h => by cases h; exact .str x
  | .list ds, _, h => by
    cases h with
    | lst hs ha => exact .lst (e.seq hs) (dpa_mono e ds _ ha)
  | .tuple ds, _, h => by
    cases h with
    | tup hs ha => exact .tup (e _ _ hs) (dpa_mono e ds _ ha)
  | .dict _, _, h => by
    cases h with
    | dcT hs ha => exact .dcT (e _ _ hs) ha
    | dcK hs ne ha => exact .dcK (e _ _ hs) ne ha
theorem dpa_mono {H H' : Hp} (e : Same H H') : ∀ (ds : List D) (vs : List V), RpAll H vs ds → RpAll H' vs ds
  | [], _, h => by cases h; exact .nil
  | d :: ds, _, h => by
    cases h with
    | cons h t => exact .cons (dp_mono e d _ h) (dpa_mono e ds _ t)
end
mutual
theorem rp_dp {H : Hp} : ∀ (d : D) (v : V), noDc d = true → Rp H v d → Dp kf.K H v d
  | .none, _, _, h => by cases h; exact .non
  | .bool b, _, _, h => by cases h; exact .bl b
  | .int i, _, _, h => by cases h; exact .int i
  | .str x, _, _, h => by cases h; exact .str x
  | .list ds, _, c, h => by
    cases h with
    | lst hs ha => exact .lst hs (rpa_dp ds _ (by simpa only [noDc] using c) ha)
  | .tuple ds, _, c, h => by
    cases h with
    | tup hs ha => exact .tup (.inl (.inl hs)) (rpa_dp ds _ (by simpa only [noDc] using c) ha)
  | .dict _, _, c, h => by simp [noDc] at c
theorem rpa_dp {H : Hp} : ∀ (ds : List D) (vs : List V), noDcs ds = true → RpAll H vs ds → DpAll kf.K H vs ds
  | [], _, _, h => by cases h; exact .nil
  | d :: ds, _, c, h => by
    have c' : noDc d = true ∧ noDcs ds = true := by simpa only [noDcs, Bool.and_eq_true] using c
    cases h with
    | cons h t => exact .cons (rp_dp d _ c'.1 h) (rpa_dp ds _ c'.2 t)
end
theorem dpa_length {H : Hp} : ∀ {vs : List V} {ds : List D}, RpAll H vs ds → vs.length = ds.length
  | _, _, .nil => rfl
  | _, _, .cons _ t => by rw [List.length_cons, List.length_cons, dpa_length t]
theorem dpa_get {H : Hp} : ∀ {vs : List V} {ds : List D} {i : Nat} {d : D}, RpAll H vs ds → ds[i]? = some d → ∃ v, vs[i]? = some v ∧ Rp H v d
  | _, _, _, _, .nil, e => by simp at e
  | _, _, 0, _, .cons h _, e => by simp at e; subst e; exact ⟨_, rfl, h⟩
  | _, _, i + 1, d, .cons _ t, e => by
    obtain ⟨v, h1, h2⟩ := dpa_get (i := i) (d := d) t (by simpa using e)
    exact ⟨v, by simpa using h1, h2⟩
theorem dpa_append {H : Hp} : ∀ {vs ws : List V} {ds es : List D}, RpAll H vs ds → RpAll H ws es → RpAll H (vs ++ ws) (ds ++ es)
  | _, _, _, _, .nil, h => h
  | _, _, _, _, .cons a t, h => .cons a (dpa_append t h)
theorem dpa_set {H : Hp} {v : V} {d : D} (r : Rp H v d) : ∀ {vs : List V} {ds : List D} (i : Nat), RpAll H vs ds → RpAll H (vs.set i v) (ds.set i d)
  | _, _, _, .nil => .nil
  | _, _, 0, .cons _ t => .cons r t
  | _, _, i + 1, .cons q t => .cons q (dpa_set r i t)
theorem dpa_take {H : Hp} : ∀ {vs : List V} {ds : List D} (n : Nat), RpAll H vs ds → RpAll H (vs.take n) (ds.take n)
  | _, _, 0, _ => .nil
  | _, _, _ + 1, .nil => .nil
  | _, _, n + 1, .cons r t => .cons r (dpa_take n t)
theorem dpa_drop {H : Hp} : ∀ {vs : List V} {ds : List D} (n : Nat), RpAll H vs ds → RpAll H (vs.drop n) (ds.drop n)
  | _, _, 0, r => r
  | _, _, _ + 1, .nil => .nil
  | _, _, n + 1, .cons _ t => dpa_drop n t
theorem dpa_ints {H : Hp} : ∀ {vs : List V} {ns : List Int}, RpAll H vs (ns.map PyData.int) → vs = ns.map V.int
  | _, [], h => by cases h; rfl
  | _, n :: ns, h => by
    cases h with
    | cons a t => cases a; rw [dpa_ints t]; rfl
theorem dpa_of_ints {H : Hp} : ∀ (ns : List Int), RpAll H (ns.map V.int) (ns.map PyData.int)
  | [] => .nil
  | n :: ns => .cons (.int n) (dpa_of_ints ns)
theorem dpa_bools {H : Hp} : ∀ {vs : List V} {ns : List Bool}, RpAll H vs (ns.map PyData.bool) → vs = ns.map V.bl
  | _, [], h => by cases h; rfl
  | _, n :: ns, h => by
    cases h with
    | cons a t => cases a; rw [dpa_bools t]; rfl
theorem atD {H : Hp} {vs : List V} {ds : List D} {i : Int} {d : D} (h : RpAll H vs ds) (e : atI ds i = some d) : ∃ v, atI vs i = some v ∧ Rp H v d := by
  unfold atI at e
  cases q : ixN ds.length i with
  | none => rw [q] at e; cases e
  | some j =>
    rw [q] at e
    obtain ⟨v, h1, h2⟩ := dpa_get h e
    refine ⟨v, ?_, h2⟩
    unfold atI
    rw [dpa_length h, q]
    exact h1
/-- no heap within -/
def flat : D → Bool
  | .none | .bool _ | .int _ | .str _ => true
  | _ => false
theorem dp_flat {H H' : Hp} {v : V} {d : D} (f : flat d = true) (h : Rp H v d) : Rp H' v d := by
  cases h with
  | non => exact .non
  | bl b => exact .bl b
  | int i => exact .int i
  | str x => exact .str x
  | lst _ _ => cases f
  | tup _ _ => cases f
  | dcT _ _ => cases f
  | dcK _ _ _ => cases f
theorem vD_dp {H : Hp} {v : V} {d : D} (h : vD v = some d) : Rp H v d := by
  cases v <;> simp [vD] at h <;> subst h <;> constructor
/-! ### slots -/
inductive Sl where
  | no
  | d (x : D)
  | own (xs : List D)
  | own2 (xss : List (List D))
  | dct (ks : List (Int × Int))
def Sl.toD : Sl → Option D
  | .d x => some x
  | .own xs => some (.list xs)
  | .own2 xss => some (.list (xss.map .list))
  | _ => none
inductive Own2 (S H : Hp) : List Addr → List (List D) → Prop
  | nil : Own2 S H [] []
  | cons {b : Addr} {vs : List V} {xs : List D} {bs : List Addr} {xss : List (List D)} : S b = none → H b = some (.lst vs) → RpAll S vs xs → Own2 S H bs xss → Own2 S H (b :: bs) (xs :: xss)
def keyOf (k : Int × Int) : List Key × V := ([.inl k.1, .inl k.2], .bl true)
inductive SlOk (S H : Hp) : Option V → Sl → List Addr → Prop
  | no {v : Option V} : SlOk S H v .no []
  | d {v : V} {x : D} : Rp S v x → SlOk S H (some v) (.d x) []
  | own {a : Addr} {vs : List V} {xs : List D} : S a = none → H a = some (.lst vs) → RpAll S vs xs → SlOk S H (some (.ref a)) (.own xs) [a]
  | own2 {a : Addr} {bs : List Addr} {xss : List (List D)} : S a = none → H a = some (.lst (bs.map V.ref)) → Own2 S H bs xss → SlOk S H (some (.ref a)) (.own2 xss) (a :: bs)
  | dct {a : Addr} {ks : List (Int × Int)} : S a = none → H a = some (.dT (ks.map keyOf)) → SlOk S H (some (.ref a)) (.dct ks) [a]
section
variable {S H S' H' S0 H0 S1 H1 : Hp}
theorem Own2.keep {bs : List Addr} {xss : List (List D)} (h : Own2 S H bs xss) (ss : Same S S') (k : ∀ a ∈ bs, S' a = none ∧ H' a = H a) : Own2 S' H' bs xss := by
  induction h with
  | nil => exact .nil
  | cons h1 h2 h3 _ ih =>
    obtain ⟨e1, e2⟩ := k _ List.mem_cons_self
    exact .cons e1 (e2.trans h2) (dpa_mono ss _ _ h3) (ih fun a ha => k a (List.mem_cons_of_mem _ ha))
theorem SlOk.keep {v : Option V} {s : Sl} {A : List Addr} (h : SlOk S H v s A) (ss : Same S S') (k : ∀ a ∈ A, S' a = none ∧ H' a = H a) : SlOk S' H' v s A := by
  cases h with
  | no => exact .no
  | d h => exact .d (dp_mono ss _ _ h)
  | own h1 h2 h3 =>
    obtain ⟨e1, e2⟩ := k _ List.mem_cons_self
    exact .own e1 (e2.trans h2) (dpa_mono ss _ _ h3)
  | own2 h1 h2 h3 =>
    obtain ⟨e1, e2⟩ := k _ List.mem_cons_self
    exact .own2 e1 (e2.trans h2) (h3.keep ss fun a ha => k a (List.mem_cons_of_mem _ ha))
  | dct h1 h2 =>
    obtain ⟨e1, e2⟩ := k _ List.mem_cons_self
    exact .dct e1 (e2.trans h2)
theorem Own2.at {bs : List Addr} {xss : List (List D)} (h : Own2 S H bs xss) : ∀ a ∈ bs, S a = none ∧ ∃ u, H a = some u ∧ ∀ xs, u ≠ .tup xs := by
  induction h with
  | nil => intro a ha; cases ha
  | cons h1 h2 h3 _ ih =>
    intro a ha
    rcases List.mem_cons.mp ha with rfl | ha
    · exact ⟨h1, _, h2, fun _ e => by cases e⟩
    · exact ih a ha
theorem SlOk.at {v : Option V} {s : Sl} {A : List Addr} (h : SlOk S H v s A) : ∀ a ∈ A, S a = none ∧ ∃ u, H a = some u ∧ ∀ xs, u ≠ .tup xs := by
  cases h with
  | no => intro a ha; cases ha
  | d h => intro a ha; cases ha
  | own h1 h2 h3 =>
    intro a ha
    have e := List.mem_singleton.mp ha
    subst e
    exact ⟨h1, _, h2, fun _ e => by cases e⟩
  | own2 h1 h2 h3 =>
    intro a ha
    rcases List.mem_cons.mp ha with rfl | ha
    · exact ⟨h1, _, h2, fun _ e => by cases e⟩
    · exact h3.at a ha
  | dct h1 h2 =>
    intro a ha
    have e := List.mem_singleton.mp ha
    subst e
    exact ⟨h1, _, h2, fun _ e => by cases e⟩
theorem SlOk.ext {v : Option V} {s : Sl} {A : List Addr} (h : SlOk S H v s A) (x : Xt S H S' H') : SlOk S' H' v s A :=
  h.keep x.ss fun a ha => by
    obtain ⟨h1, u, h2, h3⟩ := h.at a ha
    exact ⟨x.out h1 h2 h3, by rw [h2]; exact x.hh a u h2⟩
inductive EnvOk (S H : Hp) : List (Option V) → List Sl → List Addr → Prop
  | nil : EnvOk S H [] [] []
  | cons {v : Option V} {s : Sl} {A : List Addr} {σ : List (Option V)} {ρ : List Sl} {B : List Addr} : SlOk S H v s A → EnvOk S H σ ρ B → EnvOk S H (v :: σ) (s :: ρ) (A ++ B)
theorem EnvOk.keep {σ : Sg} {ρ : List Sl} {A : List Addr} (h : EnvOk S H σ ρ A) (ss : Same S S') (k : ∀ a ∈ A, S' a = none ∧ H' a = H a) : EnvOk S' H' σ ρ A := by
  induction h with
  | nil => exact .nil
  | cons h _ ih => exact .cons (h.keep ss fun a ha => k a (List.mem_append_left _ ha)) (ih fun a ha => k a (List.mem_append_right _ ha))
theorem EnvOk.at {σ : Sg} {ρ : List Sl} {A : List Addr} (h : EnvOk S H σ ρ A) : ∀ a ∈ A, S a = none ∧ ∃ u, H a = some u ∧ ∀ xs, u ≠ .tup xs := by
  induction h with
  | nil => intro a ha; cases ha
  | cons h _ ih =>
    intro a ha
    rcases List.mem_append.mp ha with ha | ha
    · exact h.at a ha
    · exact ih a ha
theorem EnvOk.ext {σ : Sg} {ρ : List Sl} {A : List Addr} (h : EnvOk S H σ ρ A) (x : Xt S H S' H') : EnvOk S' H' σ ρ A :=
  h.keep x.ss fun a ha => by
    obtain ⟨h1, u, h2, h3⟩ := h.at a ha
    exact ⟨x.out h1 h2 h3, by rw [h2]; exact x.hh a u h2⟩
theorem EnvOk.len {σ : Sg} {ρ : List Sl} {A : List Addr} (h : EnvOk S H σ ρ A) : σ.length = ρ.length := by
  induction h with
  | nil => rfl
  | cons _ _ ih => rw [List.length_cons, List.length_cons, ih]
/-- one slot taken out of the rest: at i stands v as s over A; with anything in its place the rest stays -/
theorem EnvOk.pick {σ : Sg} {ρ : List Sl} {B : List Addr} (h : EnvOk S H σ ρ B) (nd : B.Nodup) : ∀ {i : Nat} {s : Sl}, ρ[i]? = some s → ∃ v A, σ[i]? = some v ∧ SlOk S H v s A ∧ A.Nodup ∧ (∀ a ∈ A, a ∈ B) ∧
    ∀ {S' H' : Hp} {v' : Option V} {s' : Sl} {A' : List Addr}, Same S S' → (∀ a ∈ B, a ∉ A → S' a = none ∧ H' a = H a) → SlOk S' H' v' s' A' → A'.Nodup → (∀ a ∈ A', a ∈ A ∨ a ∉ B) →
      ∃ B', EnvOk S' H' (σ.set i v') (ρ.set i s') B' ∧ B'.Nodup ∧ ∀ a ∈ B', a ∈ A' ∨ a ∈ B := by
  induction h with
  | nil => intro i s e; simp at e
  | @cons v0 s0 A0 σ ρ B h0 ht ih =>
    have nd1 : A0.Nodup := (List.nodup_append.mp nd).1
    have nd2 : B.Nodup := (List.nodup_append.mp nd).2.1
    have dj : ∀ a ∈ A0, a ∉ B := fun a ha hb => (List.nodup_append.mp nd).2.2 a ha a hb rfl
    intro i s e
    cases i with
    | zero =>
      have e' : s0 = s := by simpa using e
      subst e'
      refine ⟨v0, A0, rfl, h0, nd1, fun a ha => List.mem_append_left _ ha, fun {S' H' v' s' A'} ss k h' n' m' => ?_⟩
      refine ⟨A' ++ B, .cons h' (ht.keep ss fun a ha => k a (List.mem_append_right _ ha) fun z => dj a z ha), ?_, fun a ha => ?_⟩
      · refine List.nodup_append.mpr ⟨n', nd2, fun a ha b hb e => ?_⟩
        subst e
        rcases m' a ha with z | z
        · exact dj a z hb
        · exact z (List.mem_append_right _ hb)
      · rcases List.mem_append.mp ha with z | z
        · exact .inl z
        · exact .inr (List.mem_append_right _ z)
    | succ i =>
      obtain ⟨v, A, e1, e2, e3, e4, e5⟩ := ih nd2 (i := i) (s := s) (by simpa using e)
      refine ⟨v, A, by simpa using e1, e2, e3, fun a ha => List.mem_append_right _ (e4 a ha), fun {S' H' v' s' A'} ss k h' n' m' => ?_⟩
      obtain ⟨B', q1, q2, q3⟩ := e5 (v' := v') ss (fun a ha na => k a (List.mem_append_right _ ha) na) h' n' (fun a ha => by
        rcases m' a ha with z | z
        · exact .inl z
        · exact .inr fun hb => z (List.mem_append_right _ hb))
      refine ⟨A0 ++ B', .cons (h0.keep ss fun a ha => k a (List.mem_append_left _ ha) fun z => dj a ha (e4 a z)) q1, ?_, fun a ha => ?_⟩
      · refine List.nodup_append.mpr ⟨nd1, q2, fun a ha b hb e => ?_⟩
        subst e
        rcases q3 a hb with z | z
        · rcases m' a z with y | y
          · exact dj a ha (e4 a y)
          · exact y (List.mem_append_left _ ha)
        · exact dj a ha z
      · rcases List.mem_append.mp ha with z | z
        · exact .inr (List.mem_append_left _ z)
        · rcases q3 a z with y | y
          · exact .inl y
          · exact .inr (List.mem_append_right _ y)
structure Ok (S0 H0 S H : Hp) (σ : Sg) (ρ : List Sl) : Prop where
  xt : Xt S0 H0 S H
  env : ∃ A, EnvOk S H σ ρ A ∧ A.Nodup ∧ ∀ a ∈ A, H0 a = none
theorem Ok.sh {σ : Sg} {ρ : List Sl} (o : Ok S0 H0 S H σ ρ) : Same S H := o.xt.sh
theorem Ok.ext {σ : Sg} {ρ : List Sl} (o : Ok S0 H0 S H σ ρ) (x : Xt S H S' H') : Ok S0 H0 S' H' σ ρ := by
  obtain ⟨A, h1, h2, h3⟩ := o.env
  exact ⟨o.xt.trans x, A, h1.ext x, h2, h3⟩
theorem Ok.len {σ : Sg} {ρ : List Sl} (o : Ok S0 H0 S H σ ρ) : σ.length = ρ.length := let ⟨_, h, _⟩ := o.env; h.len
/-- a slot stored: what is stored is new to H -/
theorem Ok.set {σ : Sg} {ρ : List Sl} (o : Ok S0 H0 S H σ ρ) (x : Xt S H S' H') {v : Option V} {s : Sl} {A : List Addr} (h : SlOk S' H' v s A) (nd : A.Nodup) (fr : ∀ a ∈ A, H a = none) (i : Nat) : Ok S0 H0 S' H' (σ.set i v) (ρ.set i s) := by
  obtain ⟨B, h1, h2, h3⟩ := o.env
  have h1' := h1.ext x
  by_cases hi : i < ρ.length
  · obtain ⟨v0, A0, e1, e2, e3, e4, e5⟩ := h1'.pick h2 (i := i) (s := ρ[i]) (by simp [hi])
    obtain ⟨B', q1, q2, q3⟩ := e5 (v' := v) (Same.refl S') (fun a ha _ => ⟨(h1'.at a ha).1, rfl⟩) h nd (fun a ha => .inr fun hb => by
      obtain ⟨_, u, hu, _⟩ := h1.at a hb
      rw [fr a ha] at hu; cases hu)
    refine ⟨o.xt.trans x, B', q1, q2, fun a ha => ?_⟩
    rcases q3 a ha with z | z
    · exact o.xt.hh.free (fr a z)
    · exact h3 a z
  · have l := o.len
    rw [List.set_eq_of_length_le (by omega), List.set_eq_of_length_le (by omega)]
    exact ⟨o.xt.trans x, B, h1', h2, h3⟩
end
end PL
namespace PL
open PySem L2
variable [kf : KF]
/-! ### judgements -/
def EvP (te : TE) (ρ : List Sl) (P : Sl → Prop) : Prop := ∀ (S0 H0 S H : Hp) (σ : Sg) (Q : VK), Ok S0 H0 S H σ ρ →
  (∀ v S' H' r A, P r → Xt S H S' H' → SlOk S' H' (some v) r A → A.Nodup → (∀ a ∈ A, H a = none) → Q v H') → te σ H Q
def EvO (te : TE) (ρ : List Sl) (r : Sl) : Prop := EvP te ρ (fun r' => r' = r)
def EvT (te : TE) (ρ : List Sl) (d : D) : Prop := ∀ (S0 H0 S H : Hp) (σ : Sg) (Q : VK), Ok S0 H0 S H σ ρ → (∀ v S' H', Xt S H S' H' → Rp H' v d → Q v H') → te σ H Q
def EvB (tt : TT) (ρ : List Sl) (b : Bool) : Prop := ∀ (S0 H0 S H : Hp) (σ : Sg) (Q : Bool → Hp → Prop), Ok S0 H0 S H σ ρ → (∀ S' H', Xt S H S' H' → Q b H') → tt σ H Q
def EvL (ta : TA) (ρ : List Sl) (ds : List D) : Prop := ∀ (S0 H0 S H : Hp) (σ : Sg) (Q : List V → Hp → Prop), Ok S0 H0 S H σ ρ → (∀ vs S' H', Xt S H S' H' → RpAll S' vs ds → Q vs H') → ta σ H Q
section
variable {ρ : List Sl} {ta tb tc te : TE} {t u : TT} {d e x y : D} {r : Sl} {P : Sl → Prop}
theorem Ok.get {S0 H0 S H : Hp} {σ : Sg} {s : Sl} {i : Nat} (o : Ok S0 H0 S H σ ρ) (h : ρ[i]? = some s) : ∃ v A, σ[i]? = some v ∧ SlOk S H v s A := by
  obtain ⟨A, he, hn, _⟩ := o.env
  obtain ⟨v, A', e1, e2, _⟩ := he.pick hn h
  exact ⟨v, A', e1, e2⟩
/-! ### operators -/
def isN : D → Bool
  | .none => true
  | _ => false
theorem rp_isN {H : Hp} {v : V} (h : Rp H v d) : decide (v = .non) = isN d := by
  cases h <;> simp [isN]
/-! ### subscripts, len -/
/-! ### kinds -/
def tyN : D → String
  | .none => "NoneType" | .bool _ => "bool" | .int _ => "int" | .str _ => "str" | .list _ => "list" | .tuple _ => "tuple" | .dict _ => "dict"
theorem rp_ty {H : Hp} {v : V} (h : Rp H v d) : TyX kf.K H v (.type (tyN d)) := by
  cases h with
  | non => exact .base .non
  | bl b => exact .base (.bl b)
  | int i => exact .base (.int i)
  | str x => exact .base (.str x)
  | lst r _ =>
    rcases r with (r | ⟨o, r⟩) | ⟨o, its, n, hk, hc, _⟩
    · exact .base (.lst r)
    · exact .base (.frz r)
    · exact .kList hk hc
  | tup r _ => exact .base (.tup r)
  | dcT r _ => exact .base (.dT r)
  | dcK r _ _ => exact .base (.dK r)
/-! ### arguments, displays -/
theorem evl_nil : EvL tNil ρ [] := fun S0 H0 S H σ Q o q => q [] S H (.refl o.sh) .nil
theorem evl_cons {tr : TA} {xs : List D} (ha : EvO ta ρ (.d x)) (hr : EvL tr ρ xs) : EvL (tCons ta tr) ρ (x :: xs) := fun S0 H0 S H σ Q o q =>
  ha S0 H0 S H σ _ o fun v S1 H1 r A er x1 h1 _ _ => hr S0 H0 S1 H1 σ _ (o.ext x1) fun vs S2 H2 x2 h2 => by
    subst er
    cases h1 with
    | d h1 => exact q _ S2 H2 (x1.trans x2) (.cons (dp_mono x2.ss _ _ h1) h2)
theorem sz_of {n : Nat} (h : n ≤ 1000000) : n ≤ sizeLine := Nat.le_trans h (by decide)
theorem sz_lt {n : Nat} (h : n ≤ 1000000) : n < sizeLine := Nat.lt_of_le_of_lt h (by decide)
/-! ### tests -/
/-! ### calls -/
end
end PL
namespace PL
open PySem L2
variable [kf : KF]
/-! ### statements -/
structure DE where
  nx : List Sl → Prop
  rt : Sl → Prop
  bk : List Sl → Prop := fun _ => False
  ct : List Sl → Prop := fun _ => False
def Run (t : TS) (Dn : DE) (ρ : List Sl) : Prop := ∀ (S0 H0 S H : Hp) (σ : Sg) (E : Ends), Ok S0 H0 S H σ ρ →
  (∀ S' H' σ' ρ', Same S S' → Ok S0 H0 S' H' σ' ρ' → Dn.nx ρ' → E.nx σ' H') →
  (∀ v S' H' r A, Xt S0 H0 S' H' → SlOk S' H' (some v) r A → A.Nodup → (∀ a ∈ A, H0 a = none) → Dn.rt r → E.rt v H') →
  (∀ S' H' σ' ρ', Same S S' → Ok S0 H0 S' H' σ' ρ' → Dn.bk ρ' → E.bk σ' H') →
  (∀ S' H' σ' ρ', Same S S' → Ok S0 H0 S' H' σ' ρ' → Dn.ct ρ' → E.ct σ' H') → t E σ H
section
variable {ρ : List Sl} {ta tb tc te : TE} {c : TT} {t u : TS} {d x y : D} {r : Sl} {Dn : DE}
theorem run_seq (h : Run t { Dn with nx := Run u Dn } ρ) : Run (tSeq t u) Dn ρ := fun S0 H0 S H σ E o q1 q2 q3 q4 =>
  h S0 H0 S H σ { E with nx := u E } o (fun S' H' σ' ρ' ss o' n => n S0 H0 S' H' σ' E o' (fun S2 H2 σ2 ρ2 s2 => q1 S2 H2 σ2 ρ2 (ss.trans s2)) q2 (fun S2 H2 σ2 ρ2 s2 => q3 S2 H2 σ2 ρ2 (ss.trans s2)) fun S2 H2 σ2 ρ2 s2 => q4 S2 H2 σ2 ρ2 (ss.trans s2)) q2 q3 q4
theorem run_next (h : Dn.nx ρ) : Run tNext Dn ρ := fun S0 H0 S H σ E o q1 q2 q3 q4 => q1 S H σ ρ (Same.refl S) o h
theorem run_asgP {i : Nat} {P : Sl → Prop} (h : EvP te ρ P) (k : ∀ r, P r → Dn.nx (ρ.set i r)) : Run (tAsg te (gName i)) Dn ρ := fun S0 H0 S H σ E o q1 q2 q3 q4 =>
  h S0 H0 S H σ _ o fun v S' H' r A p xt hs nd fr => q1 S' H' _ _ xt.ss (o.set xt hs nd fr i) (k r p)
theorem run_asg {i : Nat} (h : EvO te ρ r) (k : Dn.nx (ρ.set i r)) : Run (tAsg te (gName i)) Dn ρ := run_asgP h fun r' e => by rw [e]; exact k
theorem run_if {b : Bool} (h : EvB c ρ b) (h1 : b = true → Run t Dn ρ) (h2 : b = false → Run u Dn ρ) : Run (tIfS c t u) Dn ρ := fun S0 H0 S H σ E o q1 q2 q3 q4 =>
  h S0 H0 S H σ _ o fun S1 H1 x1 => by
    cases b with
    | true => exact iteT (h1 rfl S0 H0 S1 H1 σ E (o.ext x1) (fun S2 H2 σ2 ρ2 s2 => q1 S2 H2 σ2 ρ2 (x1.ss.trans s2)) q2 (fun S2 H2 σ2 ρ2 s2 => q3 S2 H2 σ2 ρ2 (x1.ss.trans s2)) fun S2 H2 σ2 ρ2 s2 => q4 S2 H2 σ2 ρ2 (x1.ss.trans s2))
    | false => exact iteF (h2 rfl S0 H0 S1 H1 σ E (o.ext x1) (fun S2 H2 σ2 ρ2 s2 => q1 S2 H2 σ2 ρ2 (x1.ss.trans s2)) q2 (fun S2 H2 σ2 ρ2 s2 => q3 S2 H2 σ2 ρ2 (x1.ss.trans s2)) fun S2 H2 σ2 ρ2 s2 => q4 S2 H2 σ2 ρ2 (x1.ss.trans s2))
theorem run_retP {P : Sl → Prop} (h : EvP te ρ P) (k : ∀ r, P r → Dn.rt r) : Run (tRet te) Dn ρ := fun S0 H0 S H σ E o q1 q2 q3 q4 =>
  h S0 H0 S H σ _ o fun v S' H' r A p xt hs nd fr => q2 v S' H' r A (o.xt.trans xt) hs nd (fun a ha => o.xt.hh.free (fr a ha)) (k r p)
theorem run_ret (h : EvO te ρ r) (k : Dn.rt r) : Run (tRet te) Dn ρ := run_retP h fun r' e => by rw [e]; exact k
theorem run_drop {P : Sl → Prop} (h : EvP te ρ P) (k : Dn.nx ρ) : Run (tDrop te) Dn ρ := fun S0 H0 S H σ E o q1 q2 q3 q4 =>
  h S0 H0 S H σ _ o fun v S' H' r A p xt hs nd fr => q1 S' H' σ ρ xt.ss (o.ext xt) k
theorem set_self {α : Type} {xs : List α} {i : Nat} {v : α} (h : xs[i]? = some v) : xs.set i v = xs := by
  apply List.ext_getElem?
  intro j
  by_cases e : i = j
  · subst e
    rw [List.getElem?_set_self (by have := List.getElem?_eq_some_iff.mp h; exact this.1), h]
  · rw [List.getElem?_set_ne e]
/-- a slot changed in place -/
theorem ok_write {i : Nat} {S0 H0 S H S' H' : Hp} {σ : Sg} {s' : Sl} {v : Option V} {B : List Addr} (o : Ok S0 H0 S H σ ρ)
    (x : Xt S0 H0 S' H') (e1 : σ[i]? = some v) (b : EnvOk S' H' (σ.set i v) (ρ.set i s') B) (nd : B.Nodup) (fr : ∀ a ∈ B, H0 a = none) : Ok S0 H0 S' H' σ (ρ.set i s') := by
  rw [set_self e1] at b
  exact ⟨x, B, b, nd, fr⟩
theorem upd_same' {S H : Hp} {a : Addr} {o : HO} (sh : Same S H) (n : S a = none) : Same S (upd H a o) := fun b u e => by
  rw [upd_ne (ne_of_none e n)]; exact sh b u e
/-- an owned list changed: at slot i stands xs; what is written is ys -/
theorem ok_set {i : Nat} {S0 H0 S H : Hp} {σ : Sg} {xs : List D} (o : Ok S0 H0 S H σ ρ) (h : ρ[i]? = some (.own xs)) :
    ∃ a vs, σ[i]? = some (some (.ref a)) ∧ H a = some (.lst vs) ∧ S a = none ∧ RpAll S vs xs ∧ ∀ {S' H' : Hp} {ws : List V} {ys : List D}, Xt S H S' H' → RpAll S' ws ys → Ok S0 H0 S' (upd H' a (.lst ws)) σ (ρ.set i (.own ys)) := by
  obtain ⟨B, he, nd, fr⟩ := o.env
  obtain ⟨v, A, e1, e2, e3, e4, e5⟩ := he.pick nd h
  cases e2 with
  | @own a vs _ h1 h2 h3 =>
    refine ⟨a, vs, e1, h2, h1, h3, fun {S' H' ws ys} xt hr => ?_⟩
    have hb : a ∈ B := e4 a List.mem_cons_self
    have sa : S' a = none := xt.out h1 h2 fun _ z => by cases z
    obtain ⟨B', q1, q2, q3⟩ := e5 (S' := S') (H' := upd H' a (.lst ws)) (v' := some (.ref a)) (s' := .own ys) (A' := [a]) xt.ss (fun b hbB nb => by
      have ne : b ≠ a := fun z => nb (by rw [z]; exact List.mem_cons_self)
      obtain ⟨g1, w, g2, g3⟩ := he.at b hbB
      refine ⟨xt.out g1 g2 g3, ?_⟩
      rw [upd_ne ne, g2]
      exact xt.hh b w g2) (.own sa upd_same hr) (by simp) (fun b hb' => .inl hb')
    have x0 := o.xt.trans xt
    refine ok_write o ⟨fun b u e => ?_, x0.ss, upd_same' x0.sh sa, x0.nw⟩ e1 q1 q2 fun b hb' => ?_
    · rw [upd_ne (ne_of_none e (fr a hb))]; exact x0.hh b u e
    · rcases q3 b hb' with z | z
      · rw [List.mem_singleton.mp z]; exact fr a hb
      · exact fr b z
theorem run_append {i : Nat} {xs : List D} (h : ρ[i]? = some (.own xs)) (he : EvO te ρ (.d x)) (hz : xs.length ≤ 1000000) (k : Dn.nx (ρ.set i (.own (xs ++ [x])))) :
    Run (tDrop (tBM kf.K "list" rAppend (tVar i) (tCons te tNil))) Dn ρ := fun S0 H0 S H σ E o q1 q2 q3 q4 => by
  obtain ⟨a, vs, e1, e2, e3, e4, e5⟩ := ok_set o h
  refine ⟨_, e1, .inl ⟨rfl, _, .inl (.inl e2)⟩, ?_⟩
  refine he S0 H0 S H σ _ o fun v S1 H1 r A er x1 h1 _ _ => ?_
  subst er
  cases h1 with
  | d h1 =>
    refine ⟨a, vs, v, rfl, rfl, x1.hh _ _ e2, sz_lt (by rw [dpa_length e4]; exact hz), ?_⟩
    exact q1 S1 _ σ _ x1.ss (e5 x1 (dpa_append (dpa_mono x1.ss _ _ e4) (.cons h1 .nil))) k
theorem run_setitem {i : Nat} {j : Nat} {xs : List D} (h : ρ[i]? = some (.own xs)) (he : EvO te ρ (.d x)) (hj : EvT tb ρ (.int (j : Int))) (hl : j < xs.length) (k : Dn.nx (ρ.set i (.own (xs.set j x)))) :
    Run (tAsg te (gSub (tVar i) tb rSetL)) Dn ρ := fun S0 H0 S H σ E o q1 q2 q3 q4 => by
  obtain ⟨a, vs, e1, e2, e3, e4, e5⟩ := ok_set o h
  refine he S0 H0 S H σ _ o fun v S1 H1 r A er x1 h1 _ _ => ?_
  subst er
  cases h1 with
  | d h1 =>
    refine ⟨_, e1, hj S0 H0 S1 H1 σ _ (o.ext x1) fun w S2 H2 x2 h2 => ?_⟩
    cases h2
    have hl' : j < vs.length := by rw [dpa_length e4]; exact hl
    have hx : ixN vs.length (j : Int) = some j := by
      unfold ixN
      simp [hl']
    refine ⟨a, vs, (j : Int), j, rfl, rfl, x2.hh _ _ (x1.hh _ _ e2), hx, ?_⟩
    exact q1 S2 _ σ _ (x1.ss.trans x2.ss) (e5 (x1.trans x2) (dpa_set (dp_mono x2.ss _ _ h1) j (dpa_mono (x1.trans x2).ss _ _ e4))) k
/-! ### targets -/
/-- data x stored to the target: the slots become ρ', those not at js are as they were -/
def TgD (g : TG) (x : D) (ρ ρ' : List Sl) (js : List Nat) : Prop := ∀ (S0 H0 S H : Hp) (σ : Sg) (Q : Sg → Hp → Prop) (v : V), Ok S0 H0 S H σ ρ → Rp S v x →
  (∀ σ', Ok S0 H0 S H σ' ρ' → σ'.length = σ.length → (∀ k, k ∉ js → σ'[k]? = σ[k]?) → Q σ' H) → g v σ H Q
theorem tg_name {i : Nat} : TgD (gName i) x ρ (ρ.set i (.d x)) [i] := fun S0 H0 S H σ Q v o hv q =>
  q _ (o.set (.refl o.sh) (.d hv) List.nodup_nil (fun a ha => by cases ha) i) (by rw [List.length_set]) fun k hk => by rw [List.getElem?_set_ne (fun z => hk (by rw [z]; exact List.mem_cons_self))]
def TgDs (g : TGs) (xs : List D) (ρ ρ' : List Sl) (js : List Nat) : Prop := ∀ (S0 H0 S H : Hp) (σ : Sg) (Q : Sg → Hp → Prop) (vs : List V), Ok S0 H0 S H σ ρ → RpAll S vs xs →
  (∀ σ', Ok S0 H0 S H σ' ρ' → σ'.length = σ.length → (∀ k, k ∉ js → σ'[k]? = σ[k]?) → Q σ' H) → g vs σ H Q
theorem tgs_nil : TgDs gNil [] ρ ρ [] := fun S0 H0 S H σ Q vs o hv q => by
  cases hv
  exact ⟨rfl, q σ o rfl fun _ _ => rfl⟩
theorem tgs_cons {g : TG} {gs : TGs} {xs : List D} {ρ1 ρ2 : List Sl} {js ks : List Nat} (h1 : TgD g x ρ ρ1 js) (h2 : TgDs gs xs ρ1 ρ2 ks) : TgDs (gCons g gs) (x :: xs) ρ ρ2 (js ++ ks) := fun S0 H0 S H σ Q vs o hv q => by
  cases hv with
  | cons hv ht =>
    refine ⟨_, _, rfl, h1 S0 H0 S H σ _ _ o hv fun σ1 o1 l1 k1 => h2 S0 H0 S H σ1 _ _ o1 ht fun σ2 o2 l2 k2 => q σ2 o2 (l2.trans l1) fun k hk => ?_⟩
    rw [k2 k (fun z => hk (List.mem_append_right _ z)), k1 k (fun z => hk (List.mem_append_left _ z))]
theorem tg_tup {gs : TGs} {xs : List D} {ρ' : List Sl} {js : List Nat} {n : Nat} (h : TgDs gs xs ρ ρ' js) (hn : xs.length = n) : TgD (gTup kf.K n gs) (.tuple xs) ρ ρ' js := fun S0 H0 S H σ Q v o hv q => by
  cases hv with
  | tup r1 r2 => exact ⟨_, _, rfl, .inl (.of (o.sh _ _ r1)), (dpa_length r2).trans hn, h S0 H0 S H σ Q _ o r2 q⟩
/-- a, b = e -/
theorem run_asgT {g : TG} {ρ' : List Sl} {js : List Nat} (h : EvO te ρ (.d x)) (ht : TgD g x ρ ρ' js) (k : Dn.nx ρ') : Run (tAsg te g) Dn ρ := fun S0 H0 S H σ E o q1 q2 q3 q4 =>
  h S0 H0 S H σ _ o fun v S' H' r A er xt hs _ _ => by
    subst er
    cases hs with
    | d hs => exact ht S0 H0 S' H' σ _ v (o.ext xt) hs fun σ' o' _ _ => q1 S' H' σ' ρ' xt.ss o' k
/-! ### what is walked -/
def JD (S : Hp) (J : It) (ds : List D) : Prop := ∀ S1 H1, Same S S1 → Same S1 H1 → J.stop ds.length H1 ∧ ∀ i x, ds[i]? = some x → J.go i H1 ∧ ∀ v H2, J.yld i H1 v H2 → ∃ S2, Xt S1 H1 S2 H2 ∧ Rp S2 v x
def IterD (wi : TI) (ρ : List Sl) (ds : List D) : Prop := ∀ (S0 H0 S H : Hp) (σ : Sg) (R : It → Hp → Prop), Ok S0 H0 S H σ ρ → (∀ J S' H', Xt S H S' H' → JD S' J ds → R J H') → wi σ H R
theorem jd_list {S : Hp} {a : Addr} {vs : List V} {ds : List D} (h : SqL kf.K S a vs) (hr : RpAll S vs ds) : JD S (Itl kf.K a) ds := fun S1 H1 s1 sh => by
  have h1 : SqL kf.K H1 a vs := (s1.trans sh).seq h
  refine ⟨⟨vs, h1, by rw [dpa_length hr]; exact Nat.le_refl _⟩, fun i x e => ?_⟩
  obtain ⟨v, e1, e2⟩ := dpa_get hr e
  refine ⟨⟨vs, v, h1, e1⟩, fun w H2 y => ?_⟩
  obtain ⟨rfl, y⟩ := y
  have : some w = some v := (y vs h1).symm.trans e1
  cases this
  exact ⟨S1, .refl sh, dp_mono s1 _ _ e2⟩
theorem it_list {ds : List D} (h : EvO te ρ (.d (.list ds))) : IterD (iList kf.K te) ρ ds := fun S0 H0 S H σ R o q =>
  h S0 H0 S H σ _ o fun v S' H' r A er xt hs _ _ => by
    subst er
    cases hs with
    | d hs =>
      cases hs with
      | lst r1 r2 => exact ⟨_, rfl, ⟨_, xt.sh.seq r1⟩, q _ S' H' xt (jd_list r1 r2)⟩
theorem jd_range {S : Hp} {lo : Int} {n : Nat} : JD S (Itr lo n) ((List.range n).map fun (i : Nat) => PyData.int (lo + (i : Int))) := fun S1 H1 s1 sh => by
  refine ⟨by show n ≤ _; simp, fun i x e => ?_⟩
  rw [List.getElem?_map] at e
  have hi : i < n := by
    cases q : (List.range n)[i]? with
    | none => rw [q] at e; cases e
    | some j => have := (List.getElem?_eq_some_iff.mp q).1; simpa using this
  rw [List.getElem?_range hi] at e
  cases e
  refine ⟨hi, fun v H2 y => ?_⟩
  obtain ⟨rfl, rfl⟩ := y
  exact ⟨S1, .refl sh, .int _⟩
theorem it_range1 {n : Int} (h : EvT te ρ (.int n)) (hn : n < 2 ^ 62) (hn0 : -(2 ^ 62) ≤ n) : IterD (iRng1 (tCons te tNil)) ρ ((List.range n.toNat).map fun (i : Nat) => PyData.int (0 + (i : Int))) := fun S0 H0 S H σ R o q =>
  h S0 H0 S H σ _ o fun v S' H' xt hs => by
    cases hs
    exact ⟨n, rfl, hn0, hn, q _ S' H' xt jd_range⟩
theorem it_range2 {m n : Int} (h : EvT ta ρ (.int m)) (h' : EvT tb ρ (.int n)) (hb : -(2 ^ 62) ≤ m ∧ m < 2 ^ 62 ∧ -(2 ^ 62) ≤ n ∧ n < 2 ^ 62) : IterD (iRng2 (tCons ta (tCons tb tNil))) ρ ((List.range (n - m).toNat).map fun (i : Nat) => PyData.int (m + (i : Int))) := fun S0 H0 S H σ R o q =>
  h S0 H0 S H σ _ o fun v S1 H1 x1 h1 => h' S0 H0 S1 H1 σ _ (o.ext x1) fun u S2 H2 x2 h2 => by
    cases h1; cases h2
    exact ⟨m, n, rfl, hb, q _ S2 H2 (x1.trans x2) jd_range⟩
theorem it_enum {ds : List D} (h : EvO te ρ (.d (.list ds))) : IterD (iEnum kf.K (tCons te tNil)) ρ (ds.zipIdx.map fun p => PyData.tuple [.int (p.2 : Nat), p.1]) := fun S0 H0 S H σ R o q =>
  h S0 H0 S H σ _ o fun v S' H' r A er xt hs _ _ => by
    subst er
    cases hs with
    | d hs =>
      cases hs with
      | @lst a vs _ r1 r2 =>
        refine ⟨a, vs, rfl, xt.sh.seq r1, q _ S' H' xt fun S1 H1 s1 sh => ?_⟩
        have h1 : SqL kf.K H1 a vs := (s1.trans sh).seq r1
        refine ⟨⟨vs, h1, by rw [dpa_length r2]; simp⟩, fun i x e => ?_⟩
        rw [List.getElem?_map, List.getElem?_zipIdx] at e
        cases qd : ds[i]? with
        | none => rw [qd] at e; cases e
        | some d =>
          rw [qd] at e
          simp at e
          subst e
          obtain ⟨v, e1, e2⟩ := dpa_get r2 qd
          refine ⟨⟨vs, v, h1, e1⟩, fun w H2 y => ?_⟩
          obtain ⟨T, x, rfl, nT, rfl, y⟩ := y
          have : some x = some v := (y vs h1).symm.trans e1
          cases this
          have xn := Xt.newS (o := .tup [.int (i : Nat), v]) sh nT
          exact ⟨_, xn, .tup upd_same (.cons (.int _) (.cons (dp_mono (s1.trans xn.ss) _ _ e2) .nil))⟩
theorem it_zip {ds es : List D} (h : EvO ta ρ (.d (.list ds))) (h' : EvO tb ρ (.d (.list es))) : IterD (iZip kf.K (tCons ta (tCons tb tNil))) ρ ((ds.zip es).map fun p => PyData.tuple [p.1, p.2]) := fun S0 H0 S H σ R o q =>
  h S0 H0 S H σ _ o fun v S1 H1 r A er x1 hs _ _ => h' S0 H0 S1 H1 σ _ (o.ext x1) fun u S2 H2 r' A' er' x2 hs' _ _ => by
    subst er; subst er'
    cases hs with
    | d hs =>
      cases hs' with
      | d hs' =>
        cases hs with
        | @lst a vs _ r1 r2 =>
          cases hs' with
          | @lst b ws _ p1 p2 =>
            refine ⟨a, b, vs, ws, rfl, (x2.ss.trans x2.sh).seq r1, x2.sh.seq p1, q _ S2 H2 (x1.trans x2) fun S3 H3 s3 sh => ?_⟩
            have h1 : SqL kf.K H3 a vs := (x2.ss.trans (s3.trans sh)).seq r1
            have h2 : SqL kf.K H3 b ws := (s3.trans sh).seq p1
            refine ⟨⟨vs, ws, h1, h2, by rw [dpa_length r2, dpa_length p2]; simp; omega⟩, fun i x e => ?_⟩
            rw [List.getElem?_map] at e
            cases qd : (ds.zip es)[i]? with
            | none => rw [qd] at e; cases e
            | some d =>
              rw [qd] at e
              simp at e
              subst e
              rw [List.getElem?_zip_eq_some] at qd
              obtain ⟨v, e1, e2⟩ := dpa_get r2 qd.1
              obtain ⟨w, g1, g2⟩ := dpa_get p2 qd.2
              refine ⟨⟨vs, ws, v, w, h1, h2, e1, g1⟩, fun z H4 y => ?_⟩
              obtain ⟨T, x, x', rfl, nT, rfl, y, y'⟩ := y
              have : some x = some v := (y vs h1).symm.trans e1
              cases this
              have : some x' = some w := (y' ws h2).symm.trans g1
              cases this
              have xn := Xt.newS (o := .tup [v, w]) sh nT
              exact ⟨_, xn, .tup upd_same (.cons (dp_mono (x2.ss.trans (s3.trans xn.ss)) _ _ e2) (.cons (dp_mono (s3.trans xn.ss) _ _ g2) .nil))⟩
/-! ### loops -/
theorem run_for {wi : TI} {g : TG} {ds : List D} (hi : IterD wi ρ ds) (I : Nat → List Sl → Prop) (h0 : I 0 ρ)
    (hs : ∀ i x ρ', ds[i]? = some x → I i ρ' → ∃ ρ2 js, TgD g x ρ' ρ2 js ∧ Run t { nx := I (i + 1), ct := I (i + 1), bk := Dn.nx, rt := Dn.rt } ρ2) (hd : ∀ ρ', I ds.length ρ' → Dn.nx ρ') : Run (tFor wi g t) Dn ρ := fun S0 H0 S H σ E o q1 q2 q3 q4 =>
  hi S0 H0 S H σ _ o fun J S1 H1 x1 hJ => by
    refine ⟨fun i m σ' H' => m = ds.length - i ∧ i ≤ ds.length ∧ ∃ S' ρ', Same S1 S' ∧ Ok S0 H0 S' H' σ' ρ' ∧ I i ρ', ⟨_, rfl, Nat.zero_le _, S1, ρ, Same.refl _, o.ext x1, h0⟩, ?_⟩
    rintro i m σ' H' ⟨rfl, hi, S', ρ', s1, o', hI⟩
    obtain ⟨st, go⟩ := hJ S' H' s1 o'.sh
    by_cases hl : i < ds.length
    · obtain ⟨g1, g2⟩ := go i ds[i] (List.getElem?_eq_getElem hl)
      obtain ⟨ρ2, js, ht, hb⟩ := hs i ds[i] ρ' (List.getElem?_eq_getElem hl) hI
      refine .inr ⟨g1, fun σ2 H2 => ∃ S2 ρ2, Same S1 S2 ∧ Ok S0 H0 S2 H2 σ2 ρ2 ∧ I (i + 1) ρ2, fun σ2 H2 hN => ?_, fun v H2 hy => ?_⟩
      · exact ⟨_, by omega, rfl, hl, hN⟩
      · obtain ⟨S2, x2, hv⟩ := g2 v H2 hy
        refine ht S0 H0 S2 H2 σ' _ v (o'.ext x2) hv fun σ3 o3 _ _ => ?_
        refine hb S0 H0 S2 H2 σ3 _ o3 (fun S4 H4 σ4 ρ4 s4 o4 n4 => ⟨S4, ρ4, s1.trans (x2.ss.trans s4), o4, n4⟩) q2 (fun S4 H4 σ4 ρ4 s4 o4 n4 => q1 S4 H4 σ4 ρ4 (x1.ss.trans (s1.trans (x2.ss.trans s4))) o4 n4) (fun S4 H4 σ4 ρ4 s4 o4 n4 => ⟨S4, ρ4, s1.trans (x2.ss.trans s4), o4, n4⟩)
    · have e : i = ds.length := by omega
      subst e
      exact .inl ⟨st, q1 S' H' σ' ρ' (x1.ss.trans s1) o' (hd ρ' hI)⟩
theorem run_while (I : List Sl → Prop) (μ : List Sl → Nat) (h0 : I ρ)
    (hs : ∀ ρ', I ρ' → ∃ b, EvB c ρ' b ∧ (b = true → Run t { nx := fun ρ2 => I ρ2 ∧ μ ρ2 < μ ρ', ct := fun ρ2 => I ρ2 ∧ μ ρ2 < μ ρ', bk := Dn.nx, rt := Dn.rt } ρ') ∧ (b = false → Dn.nx ρ')) : Run (tWhile c t) Dn ρ := fun S0 H0 S H σ E o q1 q2 q3 q4 => by
  refine ⟨fun m σ' H' => ∃ S' ρ', m = μ ρ' ∧ Same S S' ∧ Ok S0 H0 S' H' σ' ρ' ∧ I ρ', ⟨_, S, ρ, rfl, Same.refl S, o, h0⟩, ?_⟩
  rintro m σ' H' ⟨S', ρ', rfl, s1, o', hI⟩
  obtain ⟨b, hb, h1, h2⟩ := hs ρ' hI
  refine hb S0 H0 S' H' σ' _ o' fun S2 H2 x2 => ?_
  cases b with
  | true =>
    refine iteT ⟨fun σ3 H3 => ∃ S3 ρ3, Same S S3 ∧ Ok S0 H0 S3 H3 σ3 ρ3 ∧ I ρ3 ∧ μ ρ3 < μ ρ', fun σ3 H3 hN => ?_, ?_⟩
    · obtain ⟨S3, ρ3, a1, a2, a3, a4⟩ := hN
      exact ⟨_, a4, S3, ρ3, rfl, a1, a2, a3⟩
    · refine h1 rfl S0 H0 S2 H2 σ' _ (o'.ext x2) (fun S4 H4 σ4 ρ4 s4 o4 n4 => ⟨S4, ρ4, s1.trans (x2.ss.trans s4), o4, n4⟩) q2 (fun S4 H4 σ4 ρ4 s4 o4 n4 => q1 S4 H4 σ4 ρ4 (s1.trans (x2.ss.trans s4)) o4 n4) (fun S4 H4 σ4 ρ4 s4 o4 n4 => ⟨S4, ρ4, s1.trans (x2.ss.trans s4), o4, n4⟩)
  | false => exact iteF (q1 S2 H2 σ' ρ' (s1.trans x2.ss) (o'.ext x2) (h2 rfl))
end
end PL
namespace PL
open PySem L2
variable [kf : KF]
/-! ### comprehensions -/
def wipeS (ρ : List Sl) : List Nat → List Sl
  | [] => ρ
  | v :: vs => (wipeS ρ vs).set v .no
theorem Ok.wipe {S0 H0 S H : Hp} {σ : Sg} {ρ : List Sl} (o : Ok S0 H0 S H σ ρ) : ∀ vs : List Nat, Ok S0 H0 S H (L2.wipe σ vs) (wipeS ρ vs)
  | [] => o
  | v :: vs => (Ok.wipe o vs).set (.refl o.sh) .no List.nodup_nil (fun a ha => by cases ha) v
theorem wipe_get (σ : Sg) (k : Nat) : ∀ vs : List Nat, (L2.wipe σ vs)[k]? = if k ∈ vs then (if k < σ.length then some none else none) else σ[k]?
  | [] => by simp [L2.wipe]
  | v :: vs => by
    unfold L2.wipe
    have ih := wipe_get σ k vs
    have hl := L2.wipe_length σ vs
    by_cases e : v = k
    · subst e
      rw [if_pos List.mem_cons_self]
      by_cases h : v < σ.length
      · rw [if_pos h, List.getElem?_set_self (by omega)]
      · rw [if_neg h]
        exact List.getElem?_eq_none (by rw [List.length_set]; omega)
    · rw [List.getElem?_set_ne e, ih]
      by_cases h : k ∈ vs
      · rw [if_pos h, if_pos (List.mem_cons_of_mem _ h)]
      · rw [if_neg h, if_neg (fun z => by rcases List.mem_cons.mp z with z | z; exact e z.symm; exact h z)]
theorem wipe_eq {σ σ' : Sg} {vs : List Nat} (hl : σ'.length = (L2.wipe σ vs).length) (h : ∀ k, k ∉ vs → σ'[k]? = (L2.wipe σ vs)[k]?) : L2.wipe σ' vs = L2.wipe σ vs := by
  apply List.ext_getElem?
  intro k
  have l2 := L2.wipe_length σ vs
  rw [wipe_get, wipe_get]
  by_cases hk : k ∈ vs
  · rw [if_pos hk, if_pos hk, show σ'.length = σ.length by omega]
  · rw [if_neg hk, if_neg hk, h k hk, wipe_get, if_neg hk]
/-- the picked ones -/
def pick {α : Type} (n : Nat) (f : Nat → Bool) (v : Nat → α) : List α := ((List.range n).filter f).map v
section
variable {ρ : List Sl} {ta tb tc te : TE} {c : TT} {t u : TS} {d x y : D} {r : Sl} {Dn : DE}
theorem Own2.ext {S H S' H' : Hp} {bs : List Addr} {xss : List (List D)} (h : Own2 S H bs xss) (x : Xt S H S' H') : Own2 S' H' bs xss :=
  h.keep x.ss fun a ha => by
    obtain ⟨h1, u, h2, h3⟩ := h.at a ha
    exact ⟨x.out h1 h2 h3, by rw [h2]; exact x.hh a u h2⟩
/-! ### whole lists -/
/-- list * int: rRep wants the list tracked; a written one is -/
theorem dpa_rep {H : Hp} {vs : List V} {ds : List D} (h : RpAll H vs ds) : ∀ n : Nat, RpAll H (List.replicate n vs).flatten (List.replicate n ds).flatten
  | 0 => .nil
  | n + 1 => by
    rw [List.replicate_succ, List.replicate_succ, List.flatten_cons, List.flatten_cons]
    exact dpa_append h (dpa_rep h n)
/-- a slice of data -/
def cutD (xs : List D) (lo hi : Option Int) : List D := (xs.drop (HT.sIx xs.length 0 lo)).take (HT.sIx xs.length xs.length hi - HT.sIx xs.length 0 lo)
/-- list(range(n)) -/
def intsD (lo : Int) (n : Nat) : List D := (List.range n).map fun (i : Nat) => PyData.int (lo + (i : Int))
theorem dpa_rg {H : Hp} (a b : Int) : RpAll H (rgV a b) (intsD a (b - a).toNat) := by
  have gen : ∀ l : List Nat, RpAll H (l.map fun i => V.int (a + (i : Nat))) (l.map fun (i : Nat) => PyData.int (a + (i : Int))) := by
    intro l
    induction l with
    | nil => exact .nil
    | cons x l ih => exact .cons (.int _) ih
  exact gen _
end
end PL
namespace PL
open PySem L2
variable [kf : KF]
open PyProof.Rows (seqObj)
/-! ### sorted(d), the keys pairs of ints -/
def pairAt (H : Hp) : Value → Int × Int
  | .ref q => match H q with
    | some (.tup [.int i, .int j]) => (i, j)
    | _ => (0, 0)
  | _ => (0, 0)
theorem pairAt_of {H : Hp} {q : Addr} {i j : Int} (e : H q = some (.tup [.int i, .int j])) : pairAt H (.ref q) = (i, j) := by
  simp [pairAt, e]
def addrOf : Value → Addr
  | .ref q => q
  | _ => 0
/-- rising by the first, then by the second -/
def Lex (ps : List (Int × Int)) : Prop := ps.Pairwise fun p q => p.1 < q.1 ∨ (p.1 = q.1 ∧ p.2 ≤ q.2)
def rSortedDT : List V → Hp → VK → Prop := fun vs H Q => ∃ (a : Addr) (ks : List (Int × Int)), vs = [V.ref a] ∧ H a = some (.dT (ks.map keyOf)) ∧
  ∀ (ps : List (Addr × (Int × Int))) (p : Addr), Lex (ps.map (·.2)) → (ps.map (·.2)).Perm ks → (∀ q ∈ ps, H q.1 = some (.tup [.int q.2.1, .int q.2.2])) → H p = none → Q (.ref p) (upd H p (.lst (ps.map fun q => V.ref q.1)))
theorem keys_at {H : Hp} : ∀ {ks : List (Int × Int)} {xs : List (List Key × Addr × Value)}, Paired (fun (p : List Key × V) (q : List Key × Addr × Value) => p.1 = q.1 ∧ H q.2.1 = some (.tup (p.1.map kV)) ∧ RelV p.2 q.2.2) (ks.map keyOf) xs →
    xs.map (fun x => pairAt H (.ref x.2.1)) = ks ∧ ∀ x ∈ xs, ∃ i j, H x.2.1 = some (.tup [.int i, .int j])
  | [], _, h => by
    cases h
    exact ⟨rfl, fun x hx => by cases hx⟩
  | k :: ks, _, h => by
    rw [List.map_cons] at h
    cases h with
    | cons a t =>
      rename_i x xs
      obtain ⟨h1, h2⟩ := keys_at t
      have e : H x.2.1 = some (.tup [.int k.1, .int k.2]) := a.2.1
      refine ⟨?_, fun y hy => ?_⟩
      · rw [List.map_cons, h1]
        rw [pairAt_of e]
      · rcases List.mem_cons.mp hy with rfl | hy
        · exact ⟨_, _, e⟩
        · exact h2 y hy
theorem acc_keys {es : Array DictEntry} {xs : List (List Key × Addr × Value)} {knd : List Key × Addr × Value → DictEntry} (he : es.toList = xs.map knd) (hk : ∀ x, (knd x).key = .ref x.2.1) {acc : Array Value} (hacc : ItemsOf (fun i v => ∃ hi : i < es.size, v = es[i].key) acc es.size) :
    acc.toList = xs.map fun x => Value.ref x.2.1 := by
  obtain ⟨h1, h2⟩ := hacc
  have hl : es.size = xs.length := by rw [← Array.length_toList, he, List.length_map]
  apply List.ext_getElem?
  intro j
  by_cases hj : j < xs.length
  · have hj2 : j < acc.toList.length := by rw [Array.length_toList, h1, hl]; exact hj
    rw [List.getElem?_eq_getElem hj2, List.getElem?_map, List.getElem?_eq_getElem hj]
    obtain ⟨hi, e⟩ := h2 j acc.toList[j] (by rw [← Array.getElem?_toList, List.getElem?_eq_getElem hj2])
    rw [e]
    have e2 : es[j] = knd xs[j] := by
      have e3 : es.toList[j]'(by rw [Array.length_toList]; exact hi) = knd xs[j] := by
        have : es.toList[j]? = some (knd xs[j]) := by rw [he, List.getElem?_map, List.getElem?_eq_getElem hj]; rfl
        rw [List.getElem?_eq_getElem (by rw [Array.length_toList]; exact hi)] at this
        exact Option.some.inj this
      rw [← e3, Array.getElem_toList]
    rw [e2, hk]
    rfl
  · rw [List.getElem?_eq_none (by rw [Array.length_toList, h1, hl]; omega), List.getElem?_eq_none (by rw [List.length_map]; omega)]
theorem cr_sortedDT {X : Cx} (hc : X.calm = true) : CallR X (.builtin "sorted") rSortedDT := by
  intro pins s σ H vs us Q I r h
  obtain ⟨a, ks, rfl, ha, q⟩ := h
  obtain ⟨u, rfl, ru⟩ := vals1 r
  obtain rfl : u = Value.ref a := ru
  obtain ⟨hz, lo, xs, pr, o, es, ep, ho, hx, hdt, he, nd⟩ := I.hok a _ ha
  obtain ⟨k1, k2⟩ := keys_at pr
  have hl : xs.length = es.size := by rw [← Array.length_toList, he, List.length_map]
  have hz' : es.size ≤ sizeLine := by
    have := Paired.length pr
    rw [← hl, ← this]; exact hz
  refine Calls.call_function_entry PyProof.Rows.kind_sorted PyProof.Rows.plain_sorted PyProof.Rows.entry_sorted (PyProof.Rows.args_sorted1 _) ?_
  unfold Builtin.«sorted»
  refine wpAny_bind (m := checkCount "sorted" 1 1 _) (wpAny_pure ?_)
  refine wpAny_bind (PySem.W.kdu_collect (A := X.A.in1) (KdlSrc.rawDict (es := es) (ep := ep) lo) (I.ok.hd hc) ⟨o, ho, hx, hdt⟩ hz' fun h' tk acc hk hacc => ?_)
  have eacc : acc.toList = xs.map fun x => Value.ref x.2.1 := acc_keys he (fun _ => rfl) hacc
  have I1 : Inv X pins σ H { s with heap := h', toks := tk } := I.kept hk
  have hal : acc.toList.length ≤ sizeLine := by rw [eacc, List.length_map, hl]; exact hz'
  refine wpAny_bind (wpAny_newList ?_ hal)
  have hoL : (h'.push (seqObj "list" acc.toList.toArray 0)).get? h'.objs.size = some (seqObj "list" acc.toList.toArray 0) := Heap.get?_push_size _ rfl
  show wpAny _ _ _ _ _ { s with heap := h'.push (seqObj "list" acc.toList.toArray 0), toks := tk }
  have hp : ∀ v ∈ acc.toList, Srt.IsPair (h'.push (seqObj "list" acc.toList.toArray 0)) v (pairAt H v).1 (pairAt H v).2 := fun v hv => by
    rw [eacc] at hv
    obtain ⟨x, hx, rfl⟩ := List.mem_map.mp hv
    obtain ⟨i, j, hq⟩ := k2 x hx
    obtain ⟨_, its2, r2, o2, ho2, hc2, n2, hd2⟩ := I1.hok _ _ hq
    obtain ⟨u1, u2, rfl, ri, rj⟩ := vals2 r2
    obtain ⟨t1, rfl⟩ := ri
    obtain ⟨t2, rfl⟩ := rj
    have e : pairAt H (.ref x.2.1) = (i, j) := pairAt_of hq
    rw [e]
    exact ⟨x.2.1, o2, t1, t2, n2, rfl, Heap.get?_push_of_some _ ho2, hc2, hd2⟩
  refine wpAny_bind (wpAny_holding (wpAny_call_entry PyProof.Rows.slot_list_sort ⟨_, hoL, rfl⟩ PyProof.Rows.entry_list_sort
    (SrtO.list_sort_ord (s := { s with heap := h'.push (seqObj "list" acc.toList.toArray 0), toks := tk }) (SrtO.swo_lex (pairAt H)) hoL hal (fun h2 => SrtO.pairs_sortableO (by omega) hp fun o e => ?_) fun out h1 h2 => ⟨_, rfl, ?_⟩) (PyProof.Rows.args_list_sort _)))
  · have e' : some o = some (seqObj "list" acc.toList.toArray 0) := e.symm.trans hoL
    cases e'
    intro c
    exact absurd (Value.type.inj c) (by decide)
  · obtain ⟨e', he'⟩ := PyProof.Rows.sortedHeap_at (vs := acc.toList) (out := out.toArray) hoL
    have hmem : ∀ v ∈ out, ∃ x ∈ xs, v = .ref x.2.1 := fun v hv => by
      have := h2.perm.mem_iff.mp hv
      rw [eacc] at this
      obtain ⟨x, hx, rfl⟩ := List.mem_map.mp this
      exact ⟨x, hx, rfl⟩
    have hval : Vals (out.map fun v => V.ref (addrOf v)) out := by
      have gen : ∀ l : List Value, (∀ v ∈ l, ∃ x ∈ xs, v = .ref x.2.1) → Vals (l.map fun v => V.ref (addrOf v)) l := by
        intro l
        induction l with
        | nil => intro _; exact .nil
        | cons v l ih =>
          intro hm
          obtain ⟨x, _, rfl⟩ := hm v List.mem_cons_self
          exact .cons rfl (ih fun w hw => hm w (List.mem_cons_of_mem _ hw))
      exact gen out hmem
    have hlo : out.length ≤ sizeLine := by rw [h2.perm.length_eq]; exact hal
    have hps : (out.map fun v => (addrOf v, pairAt H v)).map (fun q => V.ref q.1) = out.map fun v => V.ref (addrOf v) := by rw [List.map_map]; rfl
    have hps2 : (out.map fun v => (addrOf v, pairAt H v)).map (·.2) = out.map (pairAt H) := by rw [List.map_map]; rfl
    have fresh := I1.hok.fresh (Nat.le_refl h'.objs.size)
    have qq := q (out.map fun v => (addrOf v, pairAt H v)) h'.objs.size ?_ ?_ ?_ fresh
    · rw [hps] at qq
      refine wpAny_pure ⟨_, rfl, .ref h'.objs.size, upd H h'.objs.size (.lst (out.map fun v => V.ref (addrOf v))), I1.laid (t' := tk) (fun b u e => ?_) (Nat.le_refl _)
        (show ObjOk X.prog X.w _ _ _ (.lst (out.map fun v => V.ref (addrOf v))) from ⟨by rw [List.length_map]; exact hlo, out, e', hval, he'⟩), rfl, qq⟩
      have hb : b < h'.objs.size := Heap.lt_size e
      rw [PyProof.Rows.sortedHeap_old (Nat.ne_of_lt hb) (by rw [PyProof.Rows.size_push']; exact Nat.lt_succ_of_lt hb)]
      exact Heap.get?_push_of_some _ e
    · rw [hps2]
      refine List.pairwise_map.mpr (List.Pairwise.imp (fun {v u} z => ?_) h1)
      have := SrtO.lexB_no.mp z
      omega
    · rw [hps2]
      refine (h2.perm.map (pairAt H)).trans ?_
      rw [eacc, List.map_map]
      exact List.Perm.of_eq k1
    · intro p hp
      obtain ⟨v, hv, rfl⟩ := List.mem_map.mp hp
      obtain ⟨x, hx, rfl⟩ := hmem v hv
      obtain ⟨i, j, hq⟩ := k2 x hx
      show H x.2.1 = some (.tup [.int (pairAt H (.ref x.2.1)).1, .int (pairAt H (.ref x.2.1)).2])
      have e : pairAt H (.ref x.2.1) = (i, j) := pairAt_of hq
      rw [e, hq]
def pairD (p : Int × Int) : D := .tuple [.int p.1, .int p.2]
section
variable {ρ : List Sl} {ta tb tc te : TE} {c : TT} {t u : TS} {d x y : D} {r : Sl} {Dn : DE}
def insK (ks : List (Int × Int)) (k : Int × Int) : List (Int × Int) := if k ∈ ks then ks else ks ++ [k]
/-! ### expressions that change an owned list -/
/-! ### lists of lists -/
end
/-! ### a def -/
end PL
namespace PL
open PySem L2
variable [kf : KF]
theorem hu65 {A : Around} {k : Nat} (hr : Room k A) : A.units + 65 < cLine := by have := hr.un; omega
def isIntB : D → Bool
  | .bool _ => true
  | .int _ => true
  | _ => false
def isBoolB : D → Bool
  | .bool _ => true
  | _ => false
def isListB : D → Bool
  | .list _ => true
  | _ => false
def isTupB : D → Bool
  | .tuple _ => true
  | _ => false
def isStrB : D → Bool
  | .str _ => true
  | _ => false
/-- a def of the top -/
structure Tp (K : PySem.W.Frag) (mg : Str → Option Value) (x : Str) (st : Stmt) where
  a : Addr
  fd : FuncData
  F : Fun K x x st a fd
  g : mg x = some (.ref a)
section
variable {ρ : List Sl} {ta tb tc te : TE} {c : TT} {t u : TS} {d x y : D} {r : Sl} {Dn : DE}
def lexLe (p q : Int × Int) : Bool := decide (p.1 < q.1 ∨ (p.1 = q.1 ∧ p.2 ≤ q.2))
theorem rp_pair {H : Hp} {v : V} {p : Int × Int} (h : Rp H v (pairD p)) : ∃ a, v = .ref a ∧ H a = some (.tup ([p.1, p.2].map V.int)) := by
  cases h with
  | @tup a us _ g1 g2 =>
    cases g2 with
    | cons a1 a2 => cases a2 with
      | cons b1 b2 => cases a1; cases b1; cases b2; exact ⟨a, rfl, g1⟩
end
end PL
namespace PL
open PySem L2
/-! ### plain data: None, ints, lists and tuples of such, at most n deep -/
def pl : Nat → D → Bool
  | _, .none => true
  | _, .int _ => true
  | n + 1, .list xs => xs.all (pl n)
  | n + 1, .tuple xs => xs.all (pl n)
  | _, _ => false
end PL
namespace PL
open PySem L2
section
variable [kf : KF] {ρ : List Sl} {ta tb tc te : TE} {c : TT} {t u : TS} {d x y : D} {r : Sl} {Dn : DE}
theorem run_clear {i : Nat} {xs : List D} (h : ρ[i]? = some (.own xs)) (k : Dn.nx (ρ.set i (.own []))) : Run (tDrop (tBM0 kf.K "list" rClear (tVar i))) Dn ρ := fun S0 H0 S H σ E o q1 q2 q3 q4 => by
  obtain ⟨a, vs, e1, e2, e3, e4, e5⟩ := ok_set o h
  refine ⟨_, e1, .inl ⟨rfl, _, .inl (.inl e2)⟩, a, vs, rfl, rfl, e2, ?_⟩
  exact q1 S _ σ _ (Same.refl S) (e5 (.refl o.sh) .nil) k
end
end PL
namespace PL
open PySem L2
theorem lex_uniq : ∀ {a b : List (Int × Int)}, Lex a → Lex b → a.Perm b → a = b
  | [], b, _, _, h => h.nil_eq
  | x :: a, [], _, _, h => absurd h.length_eq (by simp)
  | x :: a, y :: b, ha, hb, h => by
    have ha' := List.pairwise_cons.mp ha
    have hb' := List.pairwise_cons.mp hb
    have e : x = y := by
      rcases List.mem_cons.mp (h.mem_iff.mp (List.mem_cons_self (a := x) (l := a))) with e | hx
      · exact e
      · rcases List.mem_cons.mp (h.mem_iff.mpr (List.mem_cons_self (a := y) (l := b))) with e | hy
        · exact e.symm
        · have c1 := hb'.1 x hx
          have c2 := ha'.1 y hy
          have h1 : x.1 = y.1 := by omega
          have h2 : x.2 = y.2 := by omega
          exact Prod.ext h1 h2
    subst e
    rw [lex_uniq ha'.2 hb'.2 h.cons_inv]
def insL (x : Int × Int) : List (Int × Int) → List (Int × Int)
  | [] => [x]
  | y :: ys => if lexLe x y then x :: y :: ys else y :: insL x ys
theorem insL_perm (x : Int × Int) : ∀ ys, (insL x ys).Perm (x :: ys)
  | [] => .refl _
  | y :: ys => by
    unfold insL
    split
    · exact .refl _
    · exact ((insL_perm x ys).cons y).trans (List.Perm.swap x y ys)
theorem insL_lex (x : Int × Int) : ∀ ys, Lex ys → Lex (insL x ys)
  | [], _ => List.pairwise_singleton _ _
  | y :: ys, h => by
    have h' := List.pairwise_cons.mp h
    unfold insL
    split
    · rename_i c
      have c := of_decide_eq_true c
      refine List.pairwise_cons.mpr ⟨fun z hz => ?_, h⟩
      rcases List.mem_cons.mp hz with rfl | hz
      · exact c
      · have := h'.1 z hz
        omega
    · rename_i c
      have c : ¬ (x.1 < y.1 ∨ x.1 = y.1 ∧ x.2 ≤ y.2) := fun z => c (decide_eq_true z)
      refine List.pairwise_cons.mpr ⟨fun z hz => ?_, insL_lex x ys h'.2⟩
      rcases List.mem_cons.mp ((insL_perm x ys).mem_iff.mp hz) with rfl | hz
      · omega
      · exact h'.1 z hz
def srtL : List (Int × Int) → List (Int × Int)
  | [] => []
  | x :: xs => insL x (srtL xs)
theorem srtL_perm : ∀ xs, (srtL xs).Perm xs
  | [] => .refl _
  | x :: xs => (insL_perm x (srtL xs)).trans ((srtL_perm xs).cons x)
theorem srtL_lex : ∀ xs, Lex (srtL xs)
  | [] => .nil
  | x :: xs => insL_lex x _ (srtL_lex xs)
theorem insK_nodup {ks : List (Int × Int)} {k : Int × Int} (h : ks.Nodup) : (insK ks k).Nodup := by
  unfold insK
  split
  · exact h
  · rename_i c
    refine List.nodup_append.mpr ⟨h, by simp, fun a ha b hb e => ?_⟩
    subst e
    rw [List.mem_singleton.mp hb] at ha
    exact c ha
theorem insK_len (ks : List (Int × Int)) (k : Int × Int) : (insK ks k).length ≤ ks.length + 1 := by
  unfold insK
  split
  · omega
  · simp
theorem insK_mem {ks : List (Int × Int)} {k q : Int × Int} (h : q ∈ insK ks k) : q ∈ ks ∨ q = k := by
  unfold insK at h
  split at h
  · exact .inl h
  · rcases List.mem_append.mp h with h | h
    · exact .inl h
    · exact .inr (List.mem_singleton.mp h)
/-! ### rules with the written part named (within a comprehension's block) -/
section
variable {X : Cx} {K : PySem.W.Frag} (hK : X.K = K)
include hK
theorem ix_listK : IxR X (rIxL K) := by subst hK; exact ix_list
theorem ix_tupK : IxR X (rIxT K) := by subst hK; exact ix_tup
theorem sl_listK : SlR X (rSlL K) := by subst hK; exact sl_list
theorem call_len_seqK : CallR X (.builtin "len") (fun xs H Q => ∃ p ys, xs = [V.ref p] ∧ (SqL K H p ys ∨ SqT K H p ys) ∧ Q (.int ys.length) H) := by subst hK; exact call_len_seq
theorem call_list_ofK : CallR X (.type "list") (fun xs H Q => ∃ p ys, xs = [V.ref p] ∧ (SqL K H p ys ∨ SqT K H p ys) ∧ ∀ l, H l = none → Q (.ref l) (upd H l (.lst ys))) := by subst hK; exact call_list_of
theorem call_isiKK : CallR X (.builtin "isinstance") (rIsi K) := by subst hK; exact call_isi
theorem op_eqDK (hu : X.A.units + 64 < cLine) : OpR X (compareOp .Eq) (rEqD K) := by subst hK; exact op_eqD hu
theorem op_neDK (hu : X.A.units + 64 < cLine) : OpR X (compareOp .NotEq) (rNeD K) := by subst hK; exact op_neD hu
theorem op_notInDK (hu : X.A.units + 65 < cLine) : OpR X (compareOp .NotIn) (rNotInD K) := by subst hK; exact op_notInD hu
theorem op_catRK : OpR X (binaryOp .Add) (rCatR K) := by subst hK; exact op_catR
theorem op_leTK (hu : X.A.units < cLine) : OpR X (compareOp .LtE) (rLeT K) := by subst hK; exact op_leT hu
theorem cr_sortedIK : CallR X (.builtin "sorted") (rSortedI K) := by subst hK; exact cr_sortedI
theorem pi_listK {tg l : Expr} {tl : TE} (hl : PE X l tl) : PI X tg l (iList K tl) := by subst hK; exact pi_list hl
theorem pg_tupK {pos : Pos} {es : List Expr} {k : Nat} {t : TGs} {n : Nat} (hc : X.calm = true) (h : PGs X es t)
    (hn : (assignEach es X.env).length = n := by rfl) (hst : (assignEach es X.env).findIdx? (·.1) = none := by rfl) : PG X (.Tuple es k pos) (gTup K n t) := by subst hK; exact pg_tup hc h hn hst
end
end PL
namespace PL
open PySem PySem.Spec PyProof.Rows L2
/-! tuples walked, joined, looked through; a list unpacked; set(tuple) and its sorted list -/
section
variable [kf : KF] {ρ : List Sl} {ta tb te : TE} {x : D}
theorem any_ints {ns : List Int} {k : Int} : inV (.int k) (ns.map V.int) = decide (k ∈ ns) := by
  unfold inV
  induction ns with
  | nil => rfl
  | cons n ns ih =>
    rw [List.map_cons, List.any_cons, ih]
    show ((n == k) || decide (k ∈ ns)) = _
    by_cases h : n = k
    · subst h; simp
    · simp [h, show ¬ k = n from fun z => h z.symm]
theorem flat_ints {ns : List Int} : (ns.map V.int).all flatV = true := by
  rw [List.all_eq_true]
  intro v hv
  obtain ⟨i, _, rfl⟩ := List.mem_map.mp hv
  rfl
end
section
variable {X : Cx} {K : PySem.W.Frag} (hK : X.K = K)
include hK
theorem op_in_seqK : OpR X (compareOp .In) (rIn K false) := by subst hK; exact op_in_seq
end
end PL
namespace PL
open PySem PySem.Spec PyProof.Rows L2
section
variable {X : Cx} {a b c d : Expr} {pos : Pos} {ta tb tc td : TE}
/-- a op1 b op2 c op3 d -/
def tCh3 (r r' r'' : R2) (ta tb tc td : TE) : TE := fun σ H Q => ta σ H fun x H1 => tb σ H1 fun y H2 => r x y H2 fun z H3 => ∃ k, z = .bl k ∧
  (if k = true then tc σ H3 fun w H4 => r' y w H4 fun z' H5 => ∃ k', z' = .bl k' ∧ (if k' = true then td σ H5 fun u H6 => r'' w u H6 Q else Q (.bl false) H5) else Q (.bl false) H3)
theorem pe_ch3 {op op' op'' : CmpOp} {r r' r'' : R2} (ho : OpR X (compareOp op) r) (ho' : OpR X (compareOp op') r') (ho'' : OpR X (compareOp op'') r'') (ha : PE X a ta) (hb : PE X b tb) (hc : PE X c tc) (hd : PE X d td)
    (hm : lastMarks [op, op', op''] [b, c, d] = false := by with_unfolding_all rfl) : PE X (.Compare a [op, op', op''] [b, c, d] pos) (tCh3 r r' r'' ta tb tc td) := by
  refine ⟨fun pins s σ H Q I h => ?_⟩
  refine Compare_chain (thn (ha.run pins s σ H _ I h) fun v1 s1 ⟨x, H1, I1, r1, q1⟩ => chain_link (thn (hb.run pins s1 σ H1 _ I1 q1) fun v2 s2 ⟨y, H2, I2, r2, q2⟩ =>
    thn (ho pins s2 σ H2 x y v1 v2 _ I2 r1 r2 q2) fun v3 s3 ⟨z, H3, I3, r3, k, e, q3⟩ => ?_)) hm
  subst e
  cases r3
  refine wpAny_truthy_bool ?_
  cases k with
  | false => exact ite_ff ⟨.bl false, H3, I3, rfl, q3⟩
  | true =>
    refine ite_tt (chain_link (thn (hc.run pins s3 σ H3 _ I3 q3) fun v4 s4 ⟨z4, H4, I4, r4, q4⟩ =>
      thn (ho' pins s4 σ H4 y z4 v2 v4 _ I4 r2 r4 q4) fun v5 s5 ⟨z5, H5, I5, r5, k5, e5, q5⟩ => ?_))
    subst e5
    cases r5
    refine wpAny_truthy_bool ?_
    cases k5 with
    | false => exact ite_ff ⟨.bl false, H5, I5, rfl, q5⟩
    | true => exact ite_tt (chain_last (thn (hd.run pins s5 σ H5 _ I5 q5) fun v6 s6 ⟨z6, H6, I6, r6, q6⟩ => ho'' pins s6 σ H6 z4 z6 v4 v6 Q I6 r4 r6 q6))
end
variable [kf : KF]
end PL
/-! MR: owned trees over the heap; slots and what is held ahead of them in one list of apart footprints -/
namespace MR
open PySem L2 PL
inductive Kd where
  | lst | tup | dK (ks : List Key) | dT (ks : List (List Key))
def shape : Kd → List V → HO
  | .lst, vs => .lst vs
  | .tup, vs => .tup vs
  | .dK ks, vs => .dK (ks.zip vs)
  | .dT ks, vs => .dT (ks.zip vs)
def Kd.fits : Kd → Nat → Prop
  | .lst, _ => True
  | .tup, _ => True
  | .dK ks, n => ks.length = n
  | .dT ks, n => ks.length = n
def Kd.isTup : Kd → Bool
  | .tup => true
  | _ => false
/-- what is raised: the class's name, its fields, flat -/
structure Xc where
  cls : Str
  fs : List (Str × D)
/-- what a slot holds: nothing known, frozen data, a node of one's own -/
inductive OT where
  | no
  | d (x : D)
  | nd (k : Kd) (ts : List OT)
  /-- a list that stays as it is, its items one's own -/
  | fl (ts : List OT)
  /-- a caught exception -/
  | ex (x : Xc)
  /-- a set of whole numbers -/
  | si (ms : List Int)
def flatDs : List OT → Option (List D)
  | [] => some []
  | .d x :: ts => if flat x then (flatDs ts).map fun xs => x :: xs else Option.none
  | _ => Option.none
mutual
def OT.toD : OT → Option D
  | .no => Option.none
  | .d x => some x
  | .nd .lst ts => (OT.toDs ts).map .list
  | .nd .tup ts => (OT.toDs ts).map .tuple
  | .fl ts => (OT.toDs ts).map .list
  | .ex _ => Option.none
  | .si _ => Option.none
  | .nd (.dK ks) ts => if ks.length = ts.length then (flatDs ts).bind fun xs => if ((ks.map keyD).zip xs) = [] then Option.none else some (.dict ((ks.map keyD).zip xs)) else Option.none
  | .nd (.dT ks) ts => if ks.length = ts.length then (flatDs ts).map fun xs => .dict ((ks.map keyTD).zip xs) else Option.none
def OT.toDs : List OT → Option (List D)
  | [] => some []
  | t :: ts => match OT.toD t, OT.toDs ts with
    | some x, some xs => some (x :: xs)
    | _, _ => Option.none
end
theorem shape_tup {k : Kd} {vs : List V} (h : k.isTup = false) : ∀ xs, shape k vs ≠ .tup xs := by
  intro xs e
  cases k <;> simp [shape, Kd.isTup] at e h
/-! ### what changes: only at A -/
structure Xa (A : List Addr) (S H S' H' : Hp) : Prop where
  hh : ∀ b o, b ∉ A → H b = some o → H' b = some o
  dm : ∀ b, H' b = none → H b = none
  tp : ∀ b xs, H b = some (.tup xs) → H' b = some (.tup xs)
  ss : Same S S'
  sh : Same S' H'
  nw : ∀ b o, S' b = some o → S b = some o ∨ b ∈ A ∨ ∀ u, H b = some u → ∃ xs, u = .tup xs
section
variable {S H S' H' S1 H1 S2 H2 S0 H0 : Hp} {A A0 : List Addr}
theorem Xa.of (x : Xt S H S' H') : Xa A S H S' H' :=
  ⟨fun b o _ e => x.hh b o e, fun b e => x.hh.free e, fun b xs e => x.hh b _ e, x.ss, x.sh, fun b o e => by
    rcases x.nw b o e with q | q
    · exact .inl q
    · exact .inr (.inr q)⟩
theorem Xa.refl (h : Same S H) : Xa A S H S H := .of (.refl h)
theorem Xa.trans (x : Xa A S H S1 H1) (y : Xa A S1 H1 S2 H2) : Xa A S H S2 H2 :=
  ⟨fun b o n e => y.hh b o n (x.hh b o n e), fun b e => x.dm b (y.dm b e), fun b xs e => y.tp b xs (x.tp b xs e), x.ss.trans y.ss, y.sh, fun b o e => by
    rcases y.nw b o e with q | q | q
    · exact x.nw b o q
    · exact .inr (.inl q)
    · by_cases hb : b ∈ A
      · exact .inr (.inl hb)
      · exact .inr (.inr fun u hu => q u (x.hh b u hb hu))⟩
theorem Xa.xt (x : Xa [] S H S' H') : Xt S H S' H' :=
  ⟨fun b o e => x.hh b o (by simp) e, x.ss, x.sh, fun b o e => by
    rcases x.nw b o e with q | q | q
    · exact .inl q
    · cases q
    · exact .inr q⟩
/-- all tuples, and A, become stable -/
noncomputable def frz (S H : Hp) (A : List Addr) : Hp := by
  classical exact fun b => if b ∈ A ∨ ∃ xs, H b = some (.tup xs) then H b else S b
theorem frz_in {b : Addr} (h : b ∈ A) : frz S H A b = H b := by unfold frz; exact if_pos (.inl h)
theorem frz_tup {b : Addr} {xs : List V} (h : H b = some (.tup xs)) : frz S H A b = some (.tup xs) := by unfold frz; exact (if_pos (.inr ⟨xs, h⟩)).trans h
theorem frz_out {b : Addr} (h : b ∉ A) (ht : ∀ xs, H b ≠ some (.tup xs)) : frz S H A b = S b := by
  unfold frz; exact if_neg (fun z => by rcases z with z | ⟨xs, z⟩; exact h z; exact ht xs z)
theorem frz_same (sh : Same S H) : Same S (frz S H A) := fun b o e => by
  by_cases h : b ∈ A
  · rw [frz_in h]; exact sh b o e
  · by_cases ht : ∃ xs, H b = some (.tup xs)
    · obtain ⟨xs, ht⟩ := ht
      rw [frz_tup ht, ← ht]; exact sh b o e
    · rw [frz_out h fun xs z => ht ⟨xs, z⟩]; exact e
theorem frz_sub (sh : Same S H) : Same (frz S H A) H := fun b o e => by
  by_cases h : b ∈ A
  · rw [frz_in h] at e; exact e
  · by_cases ht : ∃ xs, H b = some (.tup xs)
    · obtain ⟨xs, ht⟩ := ht
      rw [frz_tup ht] at e; rw [ht]; exact e
    · rw [frz_out h fun xs z => ht ⟨xs, z⟩] at e; exact sh b o e
theorem frz_nw {b : Addr} {o : HO} (e : frz S H A b = some o) : S b = some o ∨ b ∈ A ∨ ∃ xs, H b = some (.tup xs) := by
  by_cases h : b ∈ A
  · exact .inr (.inl h)
  · by_cases ht : ∃ xs, H b = some (.tup xs)
    · exact .inr (.inr ht)
    · rw [frz_out h fun xs z => ht ⟨xs, z⟩] at e; exact .inl e
end
/-- the class that the text calls so -/
def clsOf (K : PySem.W.Frag) (x : Str) : Option Addr := match PySem.W.nsIn K mainGlobals x with
  | some (some (.ref C)) => some C
  | _ => Option.none
/-- at a: an exception of the class at C -/
def exHO (a C : Addr) (d : Option Addr) : HO := .ext fun h => ∃ o vs, h.get? a = some o ∧ o.cls = .ref C ∧ o.dict = d ∧ o.data = .fields vs
/-- its fields -/
def FsOk (S : Hp) (d : Option Addr) (fs : List (Str × D)) : Prop := (fs = [] ∧ d = none) ∨ (fs ≠ [] ∧ ∃ dd vfs, d = some dd ∧ S dd = some (.xd vfs) ∧ vfs.map (fun p => (p.1, vD p.2)) = fs.map fun p => (p.1, some p.2))
theorem FsOk.mono {S S' : Hp} {d : Option Addr} {fs : List (Str × D)} (h : FsOk S d fs) (ss : Same S S') : FsOk S' d fs := by
  rcases h with h | ⟨h1, dd, vfs, h2, h3, h4⟩
  · exact .inl h
  · exact .inr ⟨h1, dd, vfs, h2, ss _ _ h3, h4⟩
variable [kf : KF]
mutual
inductive OOk (S H : Hp) : V → OT → List Addr → Prop
  | no {v : V} : OOk S H v .no []
  | d {v : V} {x : D} : Rp S v x → OOk S H v (.d x) []
  | tup {a : Addr} {vs : List V} {ts : List OT} {B : List Addr} : H a = some (.tup vs) → OAll S H vs ts B → OOk S H (.ref a) (.nd .tup ts) B
  | nd {a : Addr} {k : Kd} {vs : List V} {ts : List OT} {B : List Addr} : k.isTup = false → k.fits ts.length → S a = none → H a = some (shape k vs) → OAll S H vs ts B → OOk S H (.ref a) (.nd k ts) (a :: B)
  | fl {a : Addr} {vs : List V} {ts : List OT} {B : List Addr} : S a = some (.lst vs) → OAll S H vs ts B → OOk S H (.ref a) (.fl ts) B
  | ex {a C : Addr} {d : Option Addr} {x : Xc} : clsOf kf.K x.cls = some C → S a = some (exHO a C d) → FsOk S d x.fs → OOk S H (.ref a) (.ex x) []
  | si {a : Addr} {ms : List Int} : S a = none → H a = some (SetO kf.w a (fun j => decide (j ∈ ms)) ms.length) → OOk S H (.ref a) (.si ms) [a]
inductive OAll (S H : Hp) : List V → List OT → List Addr → Prop
  | nil : OAll S H [] [] []
  | cons {v : V} {vs : List V} {t : OT} {ts : List OT} {A B : List Addr} : OOk S H v t A → OAll S H vs ts B → OAll S H (v :: vs) (t :: ts) (A ++ B)
end
section
variable {S H S' H' S0 H0 S1 H1 : Hp}
theorem OAll.len {vs : List V} : ∀ {ts : List OT} {A : List Addr}, OAll S H vs ts A → vs.length = ts.length := by
  intro ts
  induction ts generalizing vs with
  | nil => intro A h; cases h; rfl
  | cons t ts ih => intro A h; cases h with | cons _ h => rw [List.length_cons, List.length_cons, ih h]
mutual
theorem ook_keep (ss : Same S S') (tp : ∀ b xs, H b = some (.tup xs) → H' b = some (.tup xs)) : ∀ (t : OT) (v : V) (A : List Addr), OOk S H v t A → (∀ a ∈ A, S' a = none ∧ H' a = H a) → OOk S' H' v t A
  | .no, _, _, h, _ => by cases h; exact .no
  | .d x, _, _, h, _ => by cases h with | d h => exact .d (dp_mono ss _ _ h)
  | .nd k ts, _, _, h, hk => by
    cases h with
    | tup h1 h2 => exact .tup (tp _ _ h1) (oall_keep ss tp ts _ _ h2 hk)
    | nd h0 h1 h2 h3 h4 =>
      obtain ⟨e1, e2⟩ := hk _ List.mem_cons_self
      exact .nd h0 h1 e1 (e2.trans h3) (oall_keep ss tp ts _ _ h4 fun a ha => hk a (List.mem_cons_of_mem _ ha))
  | .fl ts, _, _, h, hk => by cases h with | fl h1 h2 => exact .fl (ss _ _ h1) (oall_keep ss tp ts _ _ h2 hk)
  | .ex x, _, _, h, _ => by cases h with | ex h1 h2 h3 => exact .ex h1 (ss _ _ h2) (h3.mono ss)
  | .si ms, _, _, h, hk => by
    cases h with
    | si h1 h2 =>
      obtain ⟨e1, e2⟩ := hk _ List.mem_cons_self
      exact .si e1 (e2.trans h2)
theorem oall_keep (ss : Same S S') (tp : ∀ b xs, H b = some (.tup xs) → H' b = some (.tup xs)) : ∀ (ts : List OT) (vs : List V) (A : List Addr), OAll S H vs ts A → (∀ a ∈ A, S' a = none ∧ H' a = H a) → OAll S' H' vs ts A
  | [], _, _, h, _ => by cases h; exact .nil
  | t :: ts, _, _, h, hk => by
    cases h with
    | cons h1 h2 => exact .cons (ook_keep ss tp t _ _ h1 fun a ha => hk a (List.mem_append_left _ ha)) (oall_keep ss tp ts _ _ h2 fun a ha => hk a (List.mem_append_right _ ha))
end
mutual
theorem ook_at : ∀ (t : OT) (v : V) (A : List Addr), OOk S H v t A → ∀ a ∈ A, S a = none ∧ ∃ u, H a = some u ∧ ∀ xs, u ≠ .tup xs
  | .no, _, _, h => by cases h; intro a ha; cases ha
  | .d x, _, _, h => by cases h with | d h => intro a ha; cases ha
  | .nd k ts, _, _, h => by
    cases h with
    | tup h1 h2 => exact oall_at ts _ _ h2
    | nd h0 h1 h2 h3 h4 =>
      intro a ha
      rcases List.mem_cons.mp ha with rfl | ha
      · exact ⟨h2, _, h3, shape_tup h0⟩
      · exact oall_at ts _ _ h4 a ha
  | .fl ts, _, _, h => by cases h with | fl h1 h2 => exact oall_at ts _ _ h2
  | .ex x, _, _, h => by cases h with | ex _ _ _ => intro a ha; cases ha
  | .si ms, _, _, h => by
    cases h with
    | si h1 h2 =>
      intro a ha
      cases List.mem_singleton.mp ha
      exact ⟨h1, _, h2, fun xs e => by cases e⟩
theorem oall_at : ∀ (ts : List OT) (vs : List V) (A : List Addr), OAll S H vs ts A → ∀ a ∈ A, S a = none ∧ ∃ u, H a = some u ∧ ∀ xs, u ≠ .tup xs
  | [], _, _, h => by cases h; intro a ha; cases ha
  | t :: ts, _, _, h => by
    cases h with
    | cons h1 h2 =>
      intro a ha
      rcases List.mem_append.mp ha with ha | ha
      · exact ook_at t _ _ h1 a ha
      · exact oall_at ts _ _ h2 a ha
end
theorem vDf {v : V} {x : D} (f : flat x = true) (h : Rp S v x) : vD v = some x := by
  cases h with
  | non => rfl
  | bl b => rfl
  | int i => rfl
  | str x => rfl
  | lst _ _ => cases f
  | tup _ _ => cases f
  | dcT _ _ => cases f
  | dcK _ _ _ => cases f
theorem dct_flat {κ : Type} (f : κ → D) : ∀ {ks : List κ} {ts : List OT} {vs : List V} {A : List Addr} {xs : List D}, ks.length = ts.length → OAll S H vs ts A → flatDs ts = some xs → dctD f (ks.zip vs) = some ((ks.map f).zip xs)
  | [], [], _, _, xs, _, h, e => by cases h; simp [flatDs] at e; subst e; rfl
  | k :: ks, .d x :: ts, _, _, xs, hl, h, e => by
    cases h with
    | cons a b =>
      simp only [flatDs] at e
      split at e
      · rename_i hf
        simp only [Option.map_eq_some_iff] at e
        obtain ⟨ys, e, rfl⟩ := e
        cases a with
        | d a => simp [dctD, vDf hf a, dct_flat f (by simpa using hl) b e]
      · cases e
  | k :: ks, .no :: ts, _, _, xs, _, h, e => by simp [flatDs] at e
  | k :: ks, .nd _ _ :: ts, _, _, xs, _, h, e => by simp [flatDs] at e
  | k :: ks, .fl _ :: ts, _, _, xs, _, h, e => by simp [flatDs] at e
  | k :: ks, .ex _ :: ts, _, _, xs, _, h, e => by simp [flatDs] at e
mutual
/-- read as data -/
theorem ook_rp (sh : Same S H) : ∀ (t : OT) (v : V) (A : List Addr) (x : D), OOk S H v t A → t.toD = some x → Rp H v x
  | .no, _, _, _, h, e => by simp [OT.toD] at e
  | .d y, _, _, x, h, e => by
    cases h with
    | d h => simp only [OT.toD, Option.some.injEq] at e; subst e; exact dp_mono sh _ _ h
  | .nd k ts, _, _, x, h, e => by
    cases h with
    | tup h1 h2 =>
      simp only [OT.toD, Option.map_eq_some_iff] at e
      obtain ⟨xs, e, rfl⟩ := e
      exact .tup h1 (oall_rp sh ts _ _ xs h2 e)
    | nd h0 h1 h2 h3 h4 =>
      cases k with
      | lst =>
        simp only [OT.toD, Option.map_eq_some_iff] at e
        obtain ⟨xs, e, rfl⟩ := e
        exact .lst (SqL.of h3) (oall_rp sh ts _ _ xs h4 e)
      | tup => simp [Kd.isTup] at h0
      | dK ks =>
        simp only [OT.toD] at e
        split at e
        · rename_i hl
          simp only [Option.bind_eq_some_iff] at e
          obtain ⟨xs, e, e2⟩ := e
          split at e2
          · cases e2
          · rename_i ne
            cases e2
            exact .dcK h3 ne (dct_flat keyD hl h4 e)
        · cases e
      | dT ks =>
        simp only [OT.toD] at e
        split at e
        · rename_i hl
          simp only [Option.map_eq_some_iff] at e
          obtain ⟨xs, e, rfl⟩ := e
          exact .dcT h3 (dct_flat keyTD hl h4 e)
        · cases e
  | .fl ts, _, _, x, h, e => by
    cases h with
    | fl h1 h2 =>
      simp only [OT.toD, Option.map_eq_some_iff] at e
      obtain ⟨xs, e, rfl⟩ := e
      exact .lst (SqL.of (sh _ _ h1)) (oall_rp sh ts _ _ xs h2 e)
  | .ex x, _, _, _, h, e => by simp [OT.toD] at e
  | .si x, _, _, _, h, e => by simp [OT.toD] at e
theorem oall_rp (sh : Same S H) : ∀ (ts : List OT) (vs : List V) (A : List Addr) (xs : List D), OAll S H vs ts A → OT.toDs ts = some xs → RpAll H vs xs
  | [], _, _, _, h, e => by cases h; simp only [OT.toDs, Option.some.injEq] at e; subst e; exact .nil
  | t :: ts, _, _, xs, h, e => by
    cases h with
    | cons h1 h2 =>
      cases e1 : t.toD with
      | none => simp [OT.toDs, e1] at e
      | some y =>
        cases e2 : OT.toDs ts with
        | none => simp [OT.toDs, e1, e2] at e
        | some ys =>
          simp only [OT.toDs, e1, e2, Option.some.injEq] at e
          subst e
          exact .cons (ook_rp sh t _ _ y h1 e1) (oall_rp sh ts _ _ ys h2 e2)
end
mutual
/-- frozen -/
theorem ook_frz (sh : Same S H) {C : List Addr} : ∀ (t : OT) (v : V) (A : List Addr) (x : D), OOk S H v t A → (∀ a ∈ A, a ∈ C) → t.toD = some x → Rp (frz S H C) v x
  | .no, _, _, _, h, _, e => by simp [OT.toD] at e
  | .d y, _, _, x, h, _, e => by
    cases h with
    | d h => simp only [OT.toD, Option.some.injEq] at e; subst e; exact dp_mono (frz_same sh) _ _ h
  | .nd k ts, _, _, x, h, hc, e => by
    cases h with
    | tup h1 h2 =>
      simp only [OT.toD, Option.map_eq_some_iff] at e
      obtain ⟨xs, e, rfl⟩ := e
      exact .tup (frz_tup h1) (oall_frz sh ts _ _ xs h2 hc e)
    | nd h0 h1 h2 h3 h4 =>
      cases k with
      | lst =>
        simp only [OT.toD, Option.map_eq_some_iff] at e
        obtain ⟨xs, e, rfl⟩ := e
        exact .lst (SqL.of ((frz_in (hc _ List.mem_cons_self)).trans h3)) (oall_frz sh ts _ _ xs h4 (fun a ha => hc a (List.mem_cons_of_mem _ ha)) e)
      | tup => simp [Kd.isTup] at h0
      | dK ks =>
        simp only [OT.toD] at e
        split at e
        · rename_i hl
          simp only [Option.bind_eq_some_iff] at e
          obtain ⟨xs, e, e2⟩ := e
          split at e2
          · cases e2
          · rename_i ne
            cases e2
            exact .dcK ((frz_in (hc _ List.mem_cons_self)).trans h3) ne (dct_flat keyD hl h4 e)
        · cases e
      | dT ks =>
        simp only [OT.toD] at e
        split at e
        · rename_i hl
          simp only [Option.map_eq_some_iff] at e
          obtain ⟨xs, e, rfl⟩ := e
          exact .dcT ((frz_in (hc _ List.mem_cons_self)).trans h3) (dct_flat keyTD hl h4 e)
        · cases e
  | .fl ts, _, _, x, h, hc, e => by
    cases h with
    | fl h1 h2 =>
      simp only [OT.toD, Option.map_eq_some_iff] at e
      obtain ⟨xs, e, rfl⟩ := e
      exact .lst (SqL.of (frz_same sh _ _ h1)) (oall_frz sh ts _ _ xs h2 hc e)
  | .ex x, _, _, _, h, _, e => by simp [OT.toD] at e
  | .si x, _, _, _, h, _, e => by simp [OT.toD] at e
theorem oall_frz (sh : Same S H) {C : List Addr} : ∀ (ts : List OT) (vs : List V) (A : List Addr) (xs : List D), OAll S H vs ts A → (∀ a ∈ A, a ∈ C) → OT.toDs ts = some xs → RpAll (frz S H C) vs xs
  | [], _, _, _, h, _, e => by cases h; simp only [OT.toDs, Option.some.injEq] at e; subst e; exact .nil
  | t :: ts, _, _, xs, h, hc, e => by
    cases h with
    | cons h1 h2 =>
      cases e1 : t.toD with
      | none => simp [OT.toDs, e1] at e
      | some y =>
        cases e2 : OT.toDs ts with
        | none => simp [OT.toDs, e1, e2] at e
        | some ys =>
          simp only [OT.toDs, e1, e2, Option.some.injEq] at e
          subst e
          exact .cons (ook_frz sh t _ _ y h1 (fun a ha => hc a (List.mem_append_left _ ha)) e1) (oall_frz sh ts _ _ ys h2 (fun a ha => hc a (List.mem_append_right _ ha)) e2)
end
/-- no list within -/
def tfl : D → Bool
  | .none => true
  | .bool _ => true
  | .int _ => true
  | .str _ => true
  | .tuple xs => xs.attach.all fun ⟨x, _⟩ => tfl x
  | .list _ => false
  | .dict _ => false
theorem tfl_tup {xs : List D} (h : tfl (.tuple xs) = true) : ∀ x ∈ xs, tfl x = true := by
  unfold tfl at h
  rw [List.all_eq_true] at h
  exact fun x hx => h ⟨x, hx⟩ (List.mem_attach _ _)
mutual
theorem rp_tfl (C : List Addr) : ∀ (x : D) (v : V), tfl x = true → Rp H v x → Rp (frz S H C) v x
  | .none, _, _, h => by cases h; exact .non
  | .bool b, _, _, h => by cases h; exact .bl b
  | .int i, _, _, h => by cases h; exact .int i
  | .str x, _, _, h => by cases h; exact .str x
  | .list ds, _, f, _ => by simp [tfl] at f
  | .tuple ds, _, f, h => by
    cases h with
    | tup hs ha => exact .tup (frz_tup hs) (rpa_tfl C ds _ (tfl_tup f) ha)
  | .dict _, _, f, _ => by simp [tfl] at f
theorem rpa_tfl (C : List Addr) : ∀ (xs : List D) (vs : List V), (∀ x ∈ xs, tfl x = true) → RpAll H vs xs → RpAll (frz S H C) vs xs
  | [], _, _, h => by cases h; exact .nil
  | x :: xs, _, f, h => by
    cases h with
    | cons a b => exact .cons (rp_tfl C x _ (f x List.mem_cons_self) a) (rpa_tfl C xs _ (fun y hy => f y (List.mem_cons_of_mem _ hy)) b)
end
theorem xt_frz (sh : Same S H) : Xt S H (frz S H []) H :=
  ⟨Same.refl H, frz_same sh, frz_sub sh, fun b o e => by
    rcases frz_nw e with z | z | ⟨xs, z⟩
    · exact .inl z
    · cases z
    · exact .inr fun u hu => ⟨xs, by rw [z] at hu; exact (Option.some.inj hu).symm⟩⟩
theorem oall_of_rp {vs : List V} {ds : List D} (h : RpAll S vs ds) : OAll S H vs (ds.map .d) [] := by
  induction ds generalizing vs with
  | nil => cases h; exact .nil
  | cons x ds ih => cases h with | cons a t => exact (OAll.cons (.d a) (ih t) : OAll S H _ _ ([] ++ []))
/-! ### slots -/
inductive OSl (S H : Hp) : Option V → OT → List Addr → Prop
  | no {v : Option V} : OSl S H v .no []
  | is {v : V} {t : OT} {A : List Addr} : OOk S H v t A → OSl S H (some v) t A
theorem OSl.keep {v : Option V} {t : OT} {A : List Addr} (h : OSl S H v t A) (ss : Same S S') (tp : ∀ b xs, H b = some (.tup xs) → H' b = some (.tup xs)) (k : ∀ a ∈ A, S' a = none ∧ H' a = H a) : OSl S' H' v t A := by
  cases h with
  | no => exact .no
  | is h => exact .is (ook_keep ss tp _ _ _ h k)
theorem OSl.at {v : Option V} {t : OT} {A : List Addr} (h : OSl S H v t A) : ∀ a ∈ A, S a = none ∧ ∃ u, H a = some u ∧ ∀ xs, u ≠ .tup xs := by
  cases h with
  | no => intro a ha; cases ha
  | is h => exact ook_at _ _ _ h
inductive EOk (S H : Hp) : List (Option V) → List OT → List Addr → Prop
  | nil : EOk S H [] [] []
  | cons {v : Option V} {s : OT} {A : List Addr} {σ : List (Option V)} {ρ : List OT} {B : List Addr} : OSl S H v s A → EOk S H σ ρ B → EOk S H (v :: σ) (s :: ρ) (A ++ B)
theorem EOk.keep {σ : List (Option V)} {ρ : List OT} {A : List Addr} (h : EOk S H σ ρ A) (ss : Same S S') (tp : ∀ b xs, H b = some (.tup xs) → H' b = some (.tup xs)) (k : ∀ a ∈ A, S' a = none ∧ H' a = H a) : EOk S' H' σ ρ A := by
  induction h with
  | nil => exact .nil
  | cons h _ ih => exact .cons (h.keep ss tp fun a ha => k a (List.mem_append_left _ ha)) (ih fun a ha => k a (List.mem_append_right _ ha))
theorem EOk.at {σ : List (Option V)} {ρ : List OT} {A : List Addr} (h : EOk S H σ ρ A) : ∀ a ∈ A, S a = none ∧ ∃ u, H a = some u ∧ ∀ xs, u ≠ .tup xs := by
  induction h with
  | nil => intro a ha; cases ha
  | cons h _ ih =>
    intro a ha
    rcases List.mem_append.mp ha with ha | ha
    · exact h.at a ha
    · exact ih a ha
theorem EOk.ext {σ : List (Option V)} {ρ : List OT} {A : List Addr} (h : EOk S H σ ρ A) (x : Xt S H S' H') : EOk S' H' σ ρ A :=
  h.keep x.ss (fun b xs e => x.hh b _ e) fun a ha => by
    obtain ⟨h1, u, h2, h3⟩ := h.at a ha
    exact ⟨x.out h1 h2 h3, by rw [h2]; exact x.hh a u h2⟩
theorem EOk.len {σ : List (Option V)} {ρ : List OT} {A : List Addr} (h : EOk S H σ ρ A) : σ.length = ρ.length := by
  induction h with
  | nil => rfl
  | cons _ _ ih => rw [List.length_cons, List.length_cons, ih]
/-- one slot taken out of the rest; with anything in its place the rest stays -/
theorem EOk.pick {σ : List (Option V)} {ρ : List OT} {B : List Addr} (h : EOk S H σ ρ B) (nd : B.Nodup) : ∀ {i : Nat} {s : OT}, ρ[i]? = some s → ∃ v A, σ[i]? = some v ∧ OSl S H v s A ∧ A.Nodup ∧ (∀ a ∈ A, a ∈ B) ∧
    ∀ {S' H' : Hp} {v' : Option V} {s' : OT} {A' : List Addr}, Same S S' → (∀ b xs, H b = some (.tup xs) → H' b = some (.tup xs)) → (∀ a ∈ B, a ∉ A → S' a = none ∧ H' a = H a) → OSl S' H' v' s' A' → A'.Nodup → (∀ a ∈ A', a ∈ A ∨ a ∉ B) →
      ∃ B', EOk S' H' (σ.set i v') (ρ.set i s') B' ∧ B'.Nodup ∧ ∀ a ∈ B', a ∈ A' ∨ (a ∈ B ∧ a ∉ A) := by
  induction h with
  | nil => intro i s e; simp at e
  | @cons v0 s0 A0 σ ρ B h0 ht ih =>
    have nd1 : A0.Nodup := (List.nodup_append.mp nd).1
    have nd2 : B.Nodup := (List.nodup_append.mp nd).2.1
    have dj : ∀ a ∈ A0, a ∉ B := fun a ha hb => (List.nodup_append.mp nd).2.2 a ha a hb rfl
    intro i s e
    cases i with
    | zero =>
      have e' : s0 = s := by simpa using e
      subst e'
      refine ⟨v0, A0, rfl, h0, nd1, fun a ha => List.mem_append_left _ ha, fun {S' H' v' s' A'} ss tp k h' n' m' => ?_⟩
      refine ⟨A' ++ B, .cons h' (ht.keep ss tp fun a ha => k a (List.mem_append_right _ ha) fun z => dj a z ha), ?_, fun a ha => ?_⟩
      · refine List.nodup_append.mpr ⟨n', nd2, fun a ha b hb e => ?_⟩
        subst e
        rcases m' a ha with z | z
        · exact dj a z hb
        · exact z (List.mem_append_right _ hb)
      · rcases List.mem_append.mp ha with z | z
        · exact .inl z
        · exact .inr ⟨List.mem_append_right _ z, fun y => dj a y z⟩
    | succ i =>
      obtain ⟨v, A, e1, e2, e3, e4, e5⟩ := ih nd2 (i := i) (s := s) (by simpa using e)
      refine ⟨v, A, by simpa using e1, e2, e3, fun a ha => List.mem_append_right _ (e4 a ha), fun {S' H' v' s' A'} ss tp k h' n' m' => ?_⟩
      obtain ⟨B', q1, q2, q3⟩ := e5 (v' := v') ss tp (fun a ha na => k a (List.mem_append_right _ ha) na) h' n' (fun a ha => by
        rcases m' a ha with z | z
        · exact .inl z
        · exact .inr fun hb => z (List.mem_append_right _ hb))
      refine ⟨A0 ++ B', .cons (h0.keep ss tp fun a ha => k a (List.mem_append_left _ ha) fun z => dj a ha (e4 a z)) q1, ?_, fun a ha => ?_⟩
      · refine List.nodup_append.mpr ⟨nd1, q2, fun a ha b hb e => ?_⟩
        subst e
        rcases q3 a hb with z | z
        · rcases m' a z with y | y
          · exact dj a ha (e4 a y)
          · exact y (List.mem_append_left _ ha)
        · exact dj a ha z.1
      · rcases List.mem_append.mp ha with z | z
        · exact .inr ⟨List.mem_append_left _ z, fun y => dj a z (e4 a y)⟩
        · rcases q3 a z with y | y
          · exact .inl y
          · exact .inr ⟨List.mem_append_right _ y.1, y.2⟩
theorem set_same {α : Type} {xs : List α} {i : Nat} {v : α} (h : xs[i]? = some v) : xs.set i v = xs := set_self h
structure Ok (S0 H0 : Hp) (A0 : List Addr) (S H : Hp) (σ : List (Option V)) (ρ : List OT) : Prop where
  xt : Xa A0 S0 H0 S H
  env : ∃ A, EOk S H σ ρ A ∧ A.Nodup ∧ ∀ a ∈ A, a ∈ A0 ∨ H0 a = none
variable {A0 : List Addr} {σ : List (Option V)} {ρ : List OT}
theorem Ok.sh (o : Ok S0 H0 A0 S H σ ρ) : Same S H := o.xt.sh
theorem Ok.ext (o : Ok S0 H0 A0 S H σ ρ) (x : Xt S H S' H') : Ok S0 H0 A0 S' H' σ ρ := by
  obtain ⟨A, h1, h2, h3⟩ := o.env
  exact ⟨o.xt.trans (.of x), A, h1.ext x, h2, h3⟩
theorem Ok.len (o : Ok S0 H0 A0 S H σ ρ) : σ.length = ρ.length := let ⟨_, h, _⟩ := o.env; h.len
/-- something new is held on top -/
theorem Ok.push (o : Ok S0 H0 A0 S H σ ρ) (x : Xt S H S' H') {v : V} {t : OT} {A : List Addr} (h : OOk S' H' v t A) (nd : A.Nodup) (fr : ∀ a ∈ A, H a = none) : Ok S0 H0 A0 S' H' (some v :: σ) (t :: ρ) := by
  obtain ⟨B, h1, h2, h3⟩ := o.env
  refine ⟨o.xt.trans (.of x), A ++ B, .cons (.is h) (h1.ext x), List.nodup_append.mpr ⟨nd, h2, fun a ha b hb e => ?_⟩, fun a ha => ?_⟩
  · subst e
    obtain ⟨_, u, hu, _⟩ := h1.at a hb
    rw [fr a ha] at hu; cases hu
  · rcases List.mem_append.mp ha with z | z
    · exact .inr (o.xt.dm a (fr a z))
    · exact h3 a z
theorem Ok.pushD (o : Ok S0 H0 A0 S H σ ρ) {v : V} {x : D} (h : Rp S v x) : Ok S0 H0 A0 S H (some v :: σ) (.d x :: ρ) := o.push (.refl o.sh) (.d h) List.nodup_nil (fun a ha => by cases ha)
/-- what is on top is let go -/
theorem Ok.drop {v : Option V} {t : OT} (o : Ok S0 H0 A0 S H (v :: σ) (t :: ρ)) : Ok S0 H0 A0 S H σ ρ := by
  obtain ⟨A, h1, h2, h3⟩ := o.env
  cases h1 with
  | cons h ht => exact ⟨o.xt, _, ht, (List.nodup_append.mp h2).2.1, fun a ha => h3 a (List.mem_append_right _ ha)⟩
/-- the top put into slot i of what is below it -/
theorem Ok.store {v : Option V} {t : OT} (o : Ok S0 H0 A0 S H (v :: σ) (t :: ρ)) (i : Nat) : Ok S0 H0 A0 S H (σ.set i v) (ρ.set i t) := by
  obtain ⟨A, h1, h2, h3⟩ := o.env
  cases h1 with
  | @cons _ _ A1 _ _ B h ht =>
    have nd := List.nodup_append.mp h2
    by_cases hi : i < ρ.length
    · obtain ⟨v0, C, e1, e2, e3, e4, e5⟩ := ht.pick nd.2.1 (i := i) (s := ρ[i]) (by simp [hi])
      obtain ⟨B', q1, q2, q3⟩ := e5 (v' := v) (Same.refl S) (fun _ _ z => z) (fun a ha _ => ⟨(ht.at a ha).1, rfl⟩) h nd.1 (fun a ha => .inr fun hb => nd.2.2 a ha a hb rfl)
      refine ⟨o.xt, B', q1, q2, fun a ha => ?_⟩
      rcases q3 a ha with z | z
      · exact h3 a (List.mem_append_left _ z)
      · exact h3 a (List.mem_append_right _ z.1)
    · have l := ht.len
      rw [List.set_eq_of_length_le (by omega), List.set_eq_of_length_le (by omega)]
      exact o.drop
/-- a slot's reading -/
theorem Ok.get (o : Ok S0 H0 A0 S H σ ρ) {i : Nat} {t : OT} (h : ρ[i]? = some t) : ∃ v A, σ[i]? = some v ∧ OSl S H v t A := by
  obtain ⟨A, he, hn, _⟩ := o.env
  obtain ⟨v, A', e1, e2, _⟩ := he.pick hn h
  exact ⟨v, A', e1, e2⟩
/-- slot i frozen -/
theorem Ok.freeze (o : Ok S0 H0 A0 S H σ ρ) {i : Nat} {t : OT} {x : D} (h : ρ[i]? = some t) (e : t.toD = some x) : ∃ S', Same S S' ∧ Ok S0 H0 A0 S' H σ (ρ.set i (.d x)) := by
  obtain ⟨B, he, nd, fr⟩ := o.env
  obtain ⟨v, A, e1, e2, e3, e4, e5⟩ := he.pick nd h
  cases e2 with
  | no => simp [OT.toD] at e
  | @is v _ _ h2 =>
    obtain ⟨B', q1, q2, q3⟩ := e5 (S' := frz S H A) (H' := H) (v' := some v) (s' := .d x) (A' := []) (frz_same o.sh) (fun _ _ z => z) (fun a ha na => ⟨by
      obtain ⟨z1, u, z2, z3⟩ := he.at a ha
      rw [frz_out na fun xs z => by rw [z2] at z; exact z3 xs (Option.some.inj z)]
      exact z1, rfl⟩) (.is (.d (ook_frz o.sh _ _ _ _ h2 (fun _ z => z) e))) List.nodup_nil (fun a ha => by cases ha)
    rw [set_same e1] at q1
    refine ⟨frz S H A, frz_same o.sh, ⟨o.xt.hh, o.xt.dm, o.xt.tp, o.xt.ss.trans (frz_same o.sh), frz_sub o.sh, fun b u eb => ?_⟩, B', q1, q2, fun a ha => ?_⟩
    · rcases frz_nw eb with z | z | ⟨xs, z⟩
      · exact o.xt.nw b u z
      · rcases fr b (e4 b z) with y | y
        · exact .inr (.inl y)
        · exact .inr (.inr fun w hw => by rw [y] at hw; cases hw)
      · by_cases hb : b ∈ A0
        · exact .inr (.inl hb)
        · exact .inr (.inr fun w hw => by
            have := o.xt.hh b w hb hw
            rw [z] at this
            exact ⟨xs, (Option.some.inj this).symm⟩)
    · rcases q3 a ha with z | z
      · cases z
      · exact fr a z.1
end
end MR
namespace MR
open PySem L2 PL
abbrev Env := List OT
variable [kf : KF]
/-! ### judgements: te run at the slots ρ -/
/-- a result of its own, held on top; the slots are ρ' then -/
def EvY (te : TE) (ρ : Env) (r : OT) (ρ' : Env) : Prop := ∀ (S0 H0 : Hp) (A0 : List Addr) (S H : Hp) (τσ : List (Option V)) (τρ : List OT) (σ : St) (Q : VK), τσ.length = τρ.length → Ok S0 H0 A0 S H (τσ ++ σ) (τρ ++ ρ) →
  (∀ v S' H', Same S S' → Ok S0 H0 A0 S' H' (some v :: (τσ ++ σ)) (r :: (τρ ++ ρ')) → Q v H') → te σ H Q
/-- a frozen result -/
def EvD (te : TE) (ρ : Env) (x : D) (ρ' : Env) : Prop := ∀ (S0 H0 : Hp) (A0 : List Addr) (S H : Hp) (τσ : List (Option V)) (τρ : List OT) (σ : St) (Q : VK), τσ.length = τρ.length → Ok S0 H0 A0 S H (τσ ++ σ) (τρ ++ ρ) →
  (∀ v S' H', Same S S' → Ok S0 H0 A0 S' H' (τσ ++ σ) (τρ ++ ρ') → Rp S' v x → Q v H') → te σ H Q
/-- read: nothing changes -/
def RdE (te : TE) (ρ : Env) (x : D) : Prop := ∀ (S0 H0 : Hp) (A0 : List Addr) (S H : Hp) (τσ : List (Option V)) (τρ : List OT) (σ : St) (Q : VK), τσ.length = τρ.length → Ok S0 H0 A0 S H (τσ ++ σ) (τρ ++ ρ) →
  (∀ v S' H', Xt S H S' H' → Rp H' v x → Q v H') → te σ H Q
def RdB (tt : TT) (ρ : Env) (b : Bool) : Prop := ∀ (S0 H0 : Hp) (A0 : List Addr) (S H : Hp) (τσ : List (Option V)) (τρ : List OT) (σ : St) (Q : Bool → Hp → Prop), τσ.length = τρ.length → Ok S0 H0 A0 S H (τσ ++ σ) (τρ ++ ρ) →
  (∀ S' H', Xt S H S' H' → Q b H') → tt σ H Q
def EvT (tt : TT) (ρ : Env) (b : Bool) (ρ' : Env) : Prop := ∀ (S0 H0 : Hp) (A0 : List Addr) (S H : Hp) (τσ : List (Option V)) (τρ : List OT) (σ : St) (Q : Bool → Hp → Prop), τσ.length = τρ.length → Ok S0 H0 A0 S H (τσ ++ σ) (τρ ++ ρ) →
  (∀ S' H', Same S S' → Ok S0 H0 A0 S' H' (τσ ++ σ) (τρ ++ ρ') → Q b H') → tt σ H Q
/-- arguments, frozen -/
def EvL (ta : TA) (ρ : Env) (xs : List D) (ρ' : Env) : Prop := ∀ (S0 H0 : Hp) (A0 : List Addr) (S H : Hp) (τσ : List (Option V)) (τρ : List OT) (σ : St) (Q : List V → Hp → Prop), τσ.length = τρ.length → Ok S0 H0 A0 S H (τσ ++ σ) (τρ ++ ρ) →
  (∀ vs S' H', Same S S' → Ok S0 H0 A0 S' H' (τσ ++ σ) (τρ ++ ρ') → RpAll S' vs xs → Q vs H') → ta σ H Q
def RdL (ta : TA) (ρ : Env) (xs : List D) : Prop := ∀ (S0 H0 : Hp) (A0 : List Addr) (S H : Hp) (τσ : List (Option V)) (τρ : List OT) (σ : St) (Q : List V → Hp → Prop), τσ.length = τρ.length → Ok S0 H0 A0 S H (τσ ++ σ) (τρ ++ ρ) →
  (∀ vs S' H', Xt S H S' H' → RpAll H' vs xs → Q vs H') → ta σ H Q
/-- items of one's own, the last on top -/
def EvYs (ta : TA) (ρ : Env) (rs : List OT) (ρ' : Env) : Prop := ∀ (S0 H0 : Hp) (A0 : List Addr) (S H : Hp) (τσ : List (Option V)) (τρ : List OT) (σ : St) (Q : List V → Hp → Prop), τσ.length = τρ.length → Ok S0 H0 A0 S H (τσ ++ σ) (τρ ++ ρ) →
  (∀ vs S' H', Same S S' → vs.length = rs.length → Ok S0 H0 A0 S' H' ((vs.map some).reverse ++ (τσ ++ σ)) (rs.reverse ++ (τρ ++ ρ')) → Q vs H') → ta σ H Q
section
variable {ρ ρ1 ρ2 ρ' : Env} {ta tb tc te : TE} {t u : TT} {d e x y : D} {r s : OT} {S H S' H' S0 H0 : Hp} {A0 : List Addr} {σ τσ : St} {τρ : List OT}
theorem Ok.same1 {v : V} (o : Ok S0 H0 A0 S H (some v :: σ) (.d x :: ρ)) : Rp S v x := by
  obtain ⟨A, h1, _, _⟩ := o.env
  cases h1 with
  | cons h _ => cases h with | is h => cases h with | d h => exact h
/-- frozen on top -/
theorem evy_of (h : EvD te ρ x ρ') : EvY te ρ (.d x) ρ' := fun S0 H0 A0 S H τσ τρ σ Q l o q => h S0 H0 A0 S H τσ τρ σ Q l o fun v S' H' ss o' hr => q v S' H' ss (o'.pushD hr)
theorem evd_of (h : EvY te ρ r ρ') (e : r.toD = some x) : EvD te ρ x ρ' := fun S0 H0 A0 S H τσ τρ σ Q l o q => h S0 H0 A0 S H τσ τρ σ Q l o fun v S' H' ss o' => by
  obtain ⟨S2, s2, o2⟩ := o'.freeze (i := 0) rfl e
  exact q v S2 H' (ss.trans s2) o2.drop o2.same1
theorem evd_flat (h : RdE te ρ x) (f : tfl x = true) : EvD te ρ x ρ := fun S0 H0 A0 S H τσ τρ σ Q l o q => h S0 H0 A0 S H τσ τρ σ Q l o fun v S' H' xt hr =>
  q v _ H' (xt.trans (xt_frz xt.sh)).ss (o.ext (xt.trans (xt_frz xt.sh))) (rp_tfl [] x v f hr)
theorem get_app {α β : Type} {xs ys : List α} {as : List β} {i : Nat} (l : xs.length = as.length) : (xs ++ ys)[as.length + i]? = ys[i]? := by
  rw [List.getElem?_append_right (by omega)]; congr 1; omega
theorem set_app {α β : Type} {xs ys : List α} {as : List β} {i : Nat} {v : α} (l : xs.length = as.length) : (xs ++ ys).set (as.length + i) v = xs ++ ys.set i v := by
  rw [List.set_append_right _ _ (by omega)]; congr 2; omega
/-- slot i as it stands -/
theorem Ok.slot (l : τσ.length = τρ.length) (o : Ok S0 H0 A0 S H (τσ ++ σ) (τρ ++ ρ)) {i : Nat} (h : ρ[i]? = some r) (hn : r ≠ .no) : ∃ v A, σ[i]? = some (some v) ∧ OOk S H v r A := by
  obtain ⟨v, A, e1, e2⟩ := o.get (i := τρ.length + i) (t := r) (by rw [get_app rfl]; exact h)
  rw [get_app l] at e1
  cases e2 with
  | no => exact (hn rfl).elim
  | is e2 => exact ⟨_, A, e1, e2⟩
theorem toD_no (e : r.toD = some x) : r ≠ .no := by rintro rfl; simp [OT.toD] at e
theorem rd_var {i : Nat} (h : ρ[i]? = some r) (e : r.toD = some x) : RdE (tVar i) ρ x := fun S0 H0 A0 S H τσ τρ σ Q l o q => by
  obtain ⟨v, A, e1, e2⟩ := o.slot l h (toD_no e)
  exact ⟨v, e1, q v S H (.refl o.sh) (ook_rp o.sh _ _ _ _ e2 e)⟩
/-- a slot handed on: frozen -/
theorem evd_var {i : Nat} (h : ρ[i]? = some r) (e : r.toD = some x) : EvD (tVar i) ρ x (ρ.set i (.d x)) := fun S0 H0 A0 S H τσ τρ σ Q l o q => by
  obtain ⟨S', ss, o'⟩ := o.freeze (i := τρ.length + i) (t := r) (by rw [get_app rfl]; exact h) e
  rw [set_app rfl] at o'
  have hi : i < ρ.length := (List.getElem?_eq_some_iff.mp h).1
  obtain ⟨v, A, e1, e2⟩ := o'.slot l (i := i) (r := .d x) (by rw [List.getElem?_set_self hi]) (by intro z; cases z)
  cases e2 with
  | d e2 => exact ⟨v, e1, q v S' H ss o' e2⟩
theorem evd_varD {i : Nat} (h : ρ[i]? = some (.d x)) : EvD (tVar i) ρ x ρ := fun S0 H0 A0 S H τσ τρ σ Q l o q => by
  obtain ⟨v, A, e1, e2⟩ := o.slot l (i := i) (r := .d x) h (by intro z; cases z)
  cases e2 with
  | d e2 => exact ⟨v, e1, q v S H (Same.refl S) o e2⟩
/-- a slot moved out -/
theorem Ok.move (o : Ok S0 H0 A0 S H σ ρ) {i : Nat} {v : V} (h : ρ[i]? = some r) (hv : σ[i]? = some (some v)) (hn : r ≠ .no) : Ok S0 H0 A0 S H (some v :: σ) (r :: ρ.set i .no) := by
  obtain ⟨B, he, nd, fr⟩ := o.env
  obtain ⟨v', A, e1, e2, e3, e4, e5⟩ := he.pick nd h
  rw [hv] at e1
  cases e1
  have key : ∀ {σ : St} {ρ : Env} {B : List Addr}, EOk S H σ ρ B → B.Nodup → ∀ {i : Nat}, ρ[i]? = some r → σ[i]? = some (some v) → ∃ A C, OOk S H v r A ∧ EOk S H σ (ρ.set i .no) C ∧ (A ++ C).Nodup ∧ ∀ a ∈ A ++ C, a ∈ B := by
    intro σ ρ B h
    induction h with
    | nil => intro _ i e; simp at e
    | @cons v0 s0 A0 σ ρ B h0 ht ih =>
      intro nd i e e'
      have nd' := List.nodup_append.mp nd
      cases i with
      | zero =>
        have e : s0 = r := by simpa using e
        have e' : v0 = some v := by simpa using e'
        subst e e'
        cases h0 with
        | no => exact (hn rfl).elim
        | is h0 => exact ⟨A0, [] ++ B, h0, .cons .no ht, nd, fun a ha => ha⟩
      | succ i =>
        obtain ⟨A, C, q1, q2, q3, q4⟩ := ih nd'.2.1 (i := i) (by simpa using e) (by simpa using e')
        refine ⟨A, A0 ++ C, q1, .cons h0 q2, ?_, ?_⟩
        · have q3' := List.nodup_append.mp q3
          refine List.nodup_append.mpr ⟨q3'.1, List.nodup_append.mpr ⟨nd'.1, q3'.2.1, fun a ha b hb => nd'.2.2 a ha b (q4 b (List.mem_append_right _ hb))⟩, fun a ha b hb z => ?_⟩
          subst z
          rcases List.mem_append.mp hb with hb | hb
          · exact nd'.2.2 a hb a (q4 a (List.mem_append_left _ ha)) rfl
          · exact q3'.2.2 a ha a hb rfl
        · intro a ha
          rcases List.mem_append.mp ha with z | z
          · exact List.mem_append_right _ (q4 a (List.mem_append_left _ z))
          · rcases List.mem_append.mp z with z | z
            · exact List.mem_append_left _ z
            · exact List.mem_append_right _ (q4 a (List.mem_append_right _ z))
  obtain ⟨A, C, q1, q2, q3, q4⟩ := key he nd h hv
  exact ⟨o.xt, A ++ C, .cons (.is q1) q2, q3, fun a ha => fr a (q4 a ha)⟩
theorem evy_mov {i : Nat} (h : ρ[i]? = some r) (hn : r ≠ .no) : EvY (tVar i) ρ r (ρ.set i .no) := fun S0 H0 A0 S H τσ τρ σ Q l o q => by
  obtain ⟨v, A, e1, e2⟩ := o.slot l h hn
  have o' := o.move (i := τρ.length + i) (r := r) (v := v) (by rw [get_app rfl]; exact h) (by rw [get_app l]; exact e1) hn
  rw [set_app rfl] at o'
  exact ⟨v, e1, q v S H (Same.refl S) o'⟩
theorem oall_rpS : ∀ (ts : List D) (vs : List V) (A : List Addr), OAll S H vs (ts.map .d) A → RpAll S vs ts
  | [], _, _, h => by cases h; exact .nil
  | t :: ts, _, _, h => by cases h with | cons a b => cases a with | d a => exact .cons a (oall_rpS ts _ _ b)
theorem rd_c {v : V} (h : vD v = some x) : RdE (tC v) ρ x := fun S0 H0 A0 S H τσ τρ σ Q l o q => q v S H (.refl o.sh) (vD_dp h)
/-! ### operators: of read operands -/
/-- R tells x, flat -/
def OpF (R : R2) (d e x : D) : Prop := ∀ (H : Hp) (v u : V) (Q : VK), Rp H v d → Rp H u e → (∀ w, vD w = some x → Q w H) → R v u H Q
theorem rd_op {R : R2} (ha : RdE ta ρ d) (hb : RdE tb ρ e) (hR : OpF R d e x) : RdE (tOp R ta tb) ρ x := fun S0 H0 A0 S H τσ τρ σ Q l o q =>
  ha S0 H0 A0 S H τσ τρ σ _ l o fun v S1 H1 x1 h1 => hb S0 H0 A0 S1 H1 τσ τρ σ _ l (o.ext x1) fun u S2 H2 x2 h2 => hR H2 v u Q (dp_mono x2.hh _ _ h1) h2 fun w hw => q w S2 H2 (x1.trans x2) (vD_dp hw)
theorem rd_un {R : V → Hp → VK → Prop} (ha : RdE ta ρ d) (hR : ∀ (H : Hp) (v : V) (Q : VK), Rp H v d → (∀ w, vD w = some x → Q w H) → R v H Q) : RdE (tUn R ta) ρ x := fun S0 H0 A0 S H τσ τρ σ Q l o q =>
  ha S0 H0 A0 S H τσ τρ σ _ l o fun v S1 H1 x1 h1 => hR H1 v Q h1 fun w hw => q w S1 H1 x1 (vD_dp hw)
/-! ### data under a subscript -/
/-- the item of read data -/
def IxS (R : R2) (d e x : D) : Prop := ∀ (H : Hp) (v u : V) (Q : VK), Rp H v d → Rp H u e → (∀ w, Rp H w x → Q w H) → R v u H Q
/-- the item of frozen data -/
def IxZ (R : R2) (d e x : D) : Prop := ∀ (S H : Hp) (v u : V) (Q : VK), Same S H → Rp S v d → Rp H u e → (∀ w, Rp S w x → Q w H) → R v u H Q
theorem rd_ix {R : R2} (ha : RdE ta ρ d) (hb : RdE tb ρ e) (hR : IxS R d e x) : RdE (tOp R ta tb) ρ x := fun S0 H0 A0 S H τσ τρ σ Q l o q =>
  ha S0 H0 A0 S H τσ τρ σ _ l o fun v S1 H1 x1 h1 => hb S0 H0 A0 S1 H1 τσ τρ σ _ l (o.ext x1) fun u S2 H2 x2 h2 => hR H2 v u Q (dp_mono x2.hh _ _ h1) h2 fun w hw => q w S2 H2 (x1.trans x2) hw
theorem evd_ixR {R : R2} (ha : EvD ta ρ d ρ1) (hb : RdE tb ρ1 e) (hR : IxZ R d e x) : EvD (tOp R ta tb) ρ x ρ1 := fun S0 H0 A0 S H τσ τρ σ Q l o q =>
  ha S0 H0 A0 S H τσ τρ σ _ l o fun v S1 H1 s1 o1 h1 => hb S0 H0 A0 S1 H1 τσ τρ σ _ l o1 fun u S2 H2 x2 h2 => hR S2 H2 v u Q x2.sh (dp_mono x2.ss _ _ h1) h2 fun w hw => q w S2 H2 (s1.trans x2.ss) (o1.ext x2) hw
theorem ixz_list {ds : List D} {n : Int} (e : atI ds n = some x) : IxZ (rIxL kf.K) (.list ds) (.int n) x := fun S H v u Q sh h1 h2 q => by
  cases h2
  cases h1 with
  | lst r1 r2 =>
    obtain ⟨w, e1, e2⟩ := atD r2 e
    exact ⟨_, _, n, w, rfl, rfl, sh.seq r1, e1, q w e2⟩
theorem ixz_tup {ds : List D} {n : Int} (e : atI ds n = some x) : IxZ (rIxT kf.K) (.tuple ds) (.int n) x := fun S H v u Q sh h1 h2 q => by
  cases h2
  cases h1 with
  | tup r1 r2 =>
    obtain ⟨w, e1, e2⟩ := atD r2 e
    exact ⟨_, _, n, w, rfl, rfl, .inl (.of (sh _ _ r1)), e1, q w e2⟩
theorem ixs_of {R : R2} (h : IxZ R d e x) : IxS R d e x := fun H v u Q h1 h2 q => h H H v u Q (Same.refl H) h1 h2 q
/-! ### built-in calls on read arguments -/
def CbF (R : List V → Hp → VK → Prop) (ds : List D) (x : D) : Prop := ∀ (H : Hp) (vs : List V) (Q : VK), RpAll H vs ds → (∀ w, vD w = some x → Q w H) → R vs H Q
theorem rd_cb {R : List V → Hp → VK → Prop} {tr : TA} {ds : List D} (h : RdL tr ρ ds) (hR : CbF R ds x) : RdE (tCB R tr) ρ x := fun S0 H0 A0 S H τσ τρ σ Q l o q =>
  h S0 H0 A0 S H τσ τρ σ _ l o fun vs S1 H1 x1 h1 => hR H1 vs Q h1 fun w hw => q w S1 H1 x1 (vD_dp hw)
theorem evd_cb {R : List V → Hp → VK → Prop} {tr : TA} {ds : List D} (h : EvL tr ρ ds ρ1) (hR : CbF R ds x) : EvD (tCB R tr) ρ x ρ1 := fun S0 H0 A0 S H τσ τρ σ Q l o q =>
  h S0 H0 A0 S H τσ τρ σ _ l o fun vs S1 H1 s1 o1 h1 => hR H1 vs Q (dpa_mono o1.sh _ _ h1) fun w hw => q w S1 H1 s1 o1 (vD_dp hw)
/-! ### argument lists -/
theorem rdl_nil : RdL tNil ρ [] := fun S0 H0 A0 S H τσ τρ σ Q l o q => q [] S H (.refl o.sh) .nil
theorem rdl_cons {tr : TA} {xs : List D} (ha : RdE ta ρ x) (hr : RdL tr ρ xs) : RdL (tCons ta tr) ρ (x :: xs) := fun S0 H0 A0 S H τσ τρ σ Q l o q =>
  ha S0 H0 A0 S H τσ τρ σ _ l o fun v S1 H1 x1 h1 => hr S0 H0 A0 S1 H1 τσ τρ σ _ l (o.ext x1) fun vs S2 H2 x2 h2 => q _ S2 H2 (x1.trans x2) (.cons (dp_mono x2.hh _ _ h1) h2)
theorem evl_nil : EvL tNil ρ [] ρ := fun S0 H0 A0 S H τσ τρ σ Q l o q => q [] S H (Same.refl S) o .nil
theorem evl_cons {tr : TA} {xs : List D} (ha : EvD ta ρ x ρ1) (hr : EvL tr ρ1 xs ρ2) : EvL (tCons ta tr) ρ (x :: xs) ρ2 := fun S0 H0 A0 S H τσ τρ σ Q l o q =>
  ha S0 H0 A0 S H τσ τρ σ _ l o fun v S1 H1 s1 o1 h1 => hr S0 H0 A0 S1 H1 τσ τρ σ _ l o1 fun vs S2 H2 s2 o2 h2 => q _ S2 H2 (s1.trans s2) o2 (.cons (dp_mono s2 _ _ h1) h2)
theorem evys_nil : EvYs tNil ρ [] ρ := fun S0 H0 A0 S H τσ τρ σ Q l o q => q [] S H (Same.refl S) rfl o
theorem evys_cons {tr : TA} {rs : List OT} (ha : EvY ta ρ r ρ1) (hr : EvYs tr ρ1 rs ρ2) : EvYs (tCons ta tr) ρ (r :: rs) ρ2 := fun S0 H0 A0 S H τσ τρ σ Q l o q =>
  ha S0 H0 A0 S H τσ τρ σ _ l o fun v S1 H1 s1 o1 => hr S0 H0 A0 S1 H1 (some v :: τσ) (r :: τρ) σ _ (by simp [l]) o1 fun vs S2 H2 s2 l2 o2 => q _ S2 H2 (s1.trans s2) (by simp [l2]) (by
    simpa [List.map_cons, List.reverse_cons, List.append_assoc] using o2)
/-- what is held on top taken as items -/
theorem Ok.items : ∀ {vs : List V} {rs : List OT} {σ : St} {ρ : Env}, vs.length = rs.length → Ok S0 H0 A0 S H ((vs.map some).reverse ++ σ) (rs.reverse ++ ρ) → (∀ r ∈ rs, r ≠ .no) →
    ∃ A B, OAll S H vs rs A ∧ EOk S H σ ρ B ∧ (A ++ B).Nodup ∧ ∀ a ∈ A ++ B, a ∈ A0 ∨ H0 a = none
  | [], [], σ, ρ, _, o, _ => by
    obtain ⟨B, h1, h2, h3⟩ := o.env
    exact ⟨[], B, .nil, h1, h2, h3⟩
  | v :: vs, r :: rs, σ, ρ, l, o, hn => by
    have o' : Ok S0 H0 A0 S H ((vs.map some).reverse ++ (some v :: σ)) (rs.reverse ++ (r :: ρ)) := by
      simpa [List.map_cons, List.reverse_cons, List.append_assoc] using o
    obtain ⟨A, B, h1, h2, h3, h4⟩ := Ok.items (by simpa using l) o' fun r' hr => hn r' (List.mem_cons_of_mem _ hr)
    cases h2 with
    | @cons _ _ A1 _ _ B1 p1 p2 =>
      cases p1 with
      | no => exact (hn .no List.mem_cons_self rfl).elim
      | is p1 =>
        refine ⟨A1 ++ A, B1, .cons p1 h1, p2, ?_, ?_⟩
        · have h3' := List.nodup_append.mp h3
          have h5 := List.nodup_append.mp h3'.2.1
          refine List.nodup_append.mpr ⟨List.nodup_append.mpr ⟨h5.1, h3'.1, fun a ha b hb e => h3'.2.2 b hb a (List.mem_append_left _ ha) e.symm⟩, h5.2.1, fun a ha b hb e => ?_⟩
          rcases List.mem_append.mp ha with z | z
          · exact h5.2.2 a z b hb e
          · exact h3'.2.2 a z b (List.mem_append_right _ hb) e
        · intro a ha
          apply h4
          rcases List.mem_append.mp ha with z | z
          · rcases List.mem_append.mp z with z | z
            · exact List.mem_append_right _ (List.mem_append_left _ z)
            · exact List.mem_append_left _ z
          · exact List.mem_append_right _ (List.mem_append_right _ z)
/-- a new object over items that are held -/
theorem Ok.node {k : Kd} {vs : List V} {rs : List OT} {B C : List Addr} {p : Addr} (xt : Xa A0 S0 H0 S H) (h1 : OAll S H vs rs B) (h2 : EOk S H σ ρ C) (nd : (B ++ C).Nodup) (fr : ∀ a ∈ B ++ C, a ∈ A0 ∨ H0 a = none) (hp : H p = none) (hf : k.fits rs.length) :
    Ok S0 H0 A0 S (upd H p (shape k vs)) (some (.ref p) :: σ) (.nd k rs :: ρ) := by
  have x : Xt S H S (upd H p (shape k vs)) := .new xt.sh hp
  have at1 := oall_at _ _ _ h1
  have at2 := h2.at
  have keep : ∀ a, (∃ u, H a = some u) → upd H p (shape k vs) a = H a := fun a ⟨u, hu⟩ => upd_ne (ne_of_none hu hp)
  have h1' : OAll S (upd H p (shape k vs)) vs rs B := oall_keep (Same.refl S) (fun b xs e => x.hh b _ e) _ _ _ h1 fun a ha => by
    obtain ⟨z1, u, z2, _⟩ := at1 a ha
    exact ⟨z1, keep a ⟨u, z2⟩⟩
  have h2' : EOk S (upd H p (shape k vs)) σ ρ C := h2.keep (Same.refl S) (fun b xs e => x.hh b _ e) fun a ha => by
    obtain ⟨z1, u, z2, _⟩ := at2 a ha
    exact ⟨z1, keep a ⟨u, z2⟩⟩
  have pB : p ∉ B ++ C := fun z => by
    rcases List.mem_append.mp z with z | z
    · obtain ⟨_, u, z2, _⟩ := at1 p z; rw [hp] at z2; cases z2
    · obtain ⟨_, u, z2, _⟩ := at2 p z; rw [hp] at z2; cases z2
  by_cases hk : k.isTup = true
  · cases k with
    | tup => exact ⟨xt.trans (.of x), B ++ C, .cons (.is (.tup upd_same h1')) h2', nd, fr⟩
    | lst => cases hk
    | dK ks => cases hk
    | dT ks => cases hk
  · have hk : k.isTup = false := by simpa using hk
    refine ⟨xt.trans (.of x), (p :: B) ++ C, .cons (.is (.nd hk hf (xt.sh.free hp) upd_same h1')) h2', by rw [List.cons_append]; exact List.nodup_cons.mpr ⟨pB, nd⟩, fun a ha => ?_⟩
    rw [List.cons_append] at ha
    rcases List.mem_cons.mp ha with z | z
    · rw [z]; exact .inr (xt.dm p hp)
    · exact fr a z
theorem evy_lst {tr : TA} {rs : List OT} (h : EvYs tr ρ rs ρ1) (hn : ∀ r ∈ rs, r ≠ .no) (hz : rs.length ≤ 1000000) : EvY (tLst tr) ρ (.nd .lst rs) ρ1 := fun S0 H0 A0 S H τσ τρ σ Q l o q =>
  h S0 H0 A0 S H τσ τρ σ _ l o fun vs S1 H1 s1 l1 o1 => ⟨by rw [l1]; exact sz_of hz, fun p hp => by
    obtain ⟨A, B, h1, h2, h3, h4⟩ := o1.items l1 hn
    exact q _ S1 _ s1 (Ok.node (k := .lst) o1.xt h1 h2 h3 h4 hp trivial)⟩
theorem evy_tup {tr : TA} {rs : List OT} (h : EvYs tr ρ rs ρ1) (hn : ∀ r ∈ rs, r ≠ .no) (hz : rs.length ≤ 1000000) : EvY (tTup tr) ρ (.nd .tup rs) ρ1 := fun S0 H0 A0 S H τσ τρ σ Q l o q =>
  h S0 H0 A0 S H τσ τρ σ _ l o fun vs S1 H1 s1 l1 o1 => ⟨by rw [l1]; exact sz_of hz, fun p hp => by
    obtain ⟨A, B, h1, h2, h3, h4⟩ := o1.items l1 hn
    exact q _ S1 _ s1 (Ok.node (k := .tup) o1.xt h1 h2 h3 h4 hp trivial)⟩
/-- read displays -/
theorem rd_tup {tr : TA} {xs : List D} (h : RdL tr ρ xs) (hz : xs.length ≤ 1000000) : RdE (tTup tr) ρ (.tuple xs) := fun S0 H0 A0 S H τσ τρ σ Q l o q =>
  h S0 H0 A0 S H τσ τρ σ _ l o fun vs S1 H1 x1 h1 => ⟨by rw [dpa_length h1]; exact sz_of hz, fun p hp =>
    q _ S1 _ (x1.trans (.new x1.sh hp)) (.tup upd_same (dpa_mono (Xt.new (o := .tup vs) x1.sh hp).hh _ _ h1))⟩
theorem rd_lst {tr : TA} {xs : List D} (h : RdL tr ρ xs) (hz : xs.length ≤ 1000000) : RdE (tLst tr) ρ (.list xs) := fun S0 H0 A0 S H τσ τρ σ Q l o q =>
  h S0 H0 A0 S H τσ τρ σ _ l o fun vs S1 H1 x1 h1 => ⟨by rw [dpa_length h1]; exact sz_of hz, fun p hp =>
    q _ S1 _ (x1.trans (.new x1.sh hp)) (.lst (SqL.of upd_same) (dpa_mono (Xt.new (o := .lst vs) x1.sh hp).hh _ _ h1))⟩
end
end MR
namespace MR
open PySem L2 PL
/-- what is wished of an exception that leaves the body -/
class WXI where
  W : Value → Option Addr → St → Hp → Prop
instance (priority := low) wx0 : WXI := ⟨fun _ _ _ _ => False⟩
variable [kf : KF] [wx : WXI]
/-! ### statements -/
inductive Fl where
  | nx | bk | ct | rt (r : OT) | xc (x : Xc)
/-- x lies in the air -/
def XcAt (H0 H' : Hp) (cls : Value) (d : Option Addr) (x : Xc) : Prop := ∃ C, cls = .ref C ∧ clsOf kf.K x.cls = some C ∧ FsOk H' d x.fs ∧ ∀ dd, d = some dd → H0 dd = none
/-- these slots hold these values -/
def Fx (F : List (Nat × V)) (σ : St) : Prop := ∀ p ∈ F, σ[p.1]? = some (some p.2)
def Kont (F : List (Nat × V)) (S S0 H0 : Hp) (A0 : List Addr) (E : Ends) : Fl → Env → Prop
  | .nx, ρ' => ∀ S' H' σ', Same S S' → Fx F σ' → Ok S0 H0 A0 S' H' σ' ρ' → E.nx σ' H'
  | .bk, ρ' => ∀ S' H' σ', Same S S' → Fx F σ' → Ok S0 H0 A0 S' H' σ' ρ' → E.bk σ' H'
  | .ct, ρ' => ∀ S' H' σ', Same S S' → Fx F σ' → Ok S0 H0 A0 S' H' σ' ρ' → E.ct σ' H'
  | .rt r, ρ' => ∀ v S' H' σ', Same S S' → Fx F σ' → Ok S0 H0 A0 S' H' (some v :: σ') (r :: ρ') → E.rt v H'
  | .xc x, ρ' => ∀ cls d S' H' σ', Same S S' → Fx F σ' → Ok S0 H0 A0 S' H' σ' ρ' → XcAt H0 H' cls d x → wx.W cls d σ' H'
theorem Kont.mono {F : List (Nat × V)} {S S1 S0 H0 : Hp} {A0 : List Addr} {E : Ends} {fl : Fl} {ρ' : Env} (k : Kont F S S0 H0 A0 E fl ρ') (s : Same S S1) : Kont F S1 S0 H0 A0 E fl ρ' := by
  cases fl with
  | nx => exact fun S' H' σ' ss => k S' H' σ' (s.trans ss)
  | bk => exact fun S' H' σ' ss => k S' H' σ' (s.trans ss)
  | ct => exact fun S' H' σ' ss => k S' H' σ' (s.trans ss)
  | rt r => exact fun v S' H' σ' ss => k v S' H' σ' (s.trans ss)
  | xc x => exact fun cls d S' H' σ' ss => k cls d S' H' σ' (s.trans ss)
def RunS (js : List Nat) (t : TS) (ρ : Env) (fl : Fl) (ρ' : Env) : Prop := ∀ (S0 H0 : Hp) (A0 : List Addr) (S H : Hp) (σ : St) (F : List (Nat × V)) (E : Ends), F.map (·.1) = js → Fx F σ → Ok S0 H0 A0 S H σ ρ → Kont F S S0 H0 A0 E fl ρ' → t E σ H
section
variable {ρ ρ1 ρ2 ρ' : Env} {ta tb tc te : TE} {c : TT} {t u : TS} {d e x y : D} {r s : OT} {S H S' H' S0 H0 : Hp} {A0 : List Addr} {σ : St} {js : List Nat} {fl : Fl}
theorem Fx.set {F : List (Nat × V)} {i : Nat} {v : Option V} (h : Fx F σ) (hi : i ∉ F.map (·.1)) : Fx F (σ.set i v) := fun p hp => by
  rw [List.getElem?_set_ne (fun z => hi (List.mem_map.mpr ⟨p, hp, z.symm⟩))]
  exact h p hp
theorem run_seq (h : RunS js t ρ .nx ρ1) (h2 : RunS js u ρ1 fl ρ') : RunS js (tSeq t u) ρ fl ρ' := fun S0 H0 A0 S H σ F E hF hx o k =>
  h S0 H0 A0 S H σ F { E with nx := u E } hF hx o fun S' H' σ' ss hx' o' => h2 S0 H0 A0 S' H' σ' F E hF hx' o' (k.mono ss)
theorem run_seqB (h : RunS js t ρ .bk ρ') : RunS js (tSeq t u) ρ .bk ρ' := fun S0 H0 A0 S H σ F E hF hx o k => h S0 H0 A0 S H σ F { E with nx := u E } hF hx o k
theorem run_seqC (h : RunS js t ρ .ct ρ') : RunS js (tSeq t u) ρ .ct ρ' := fun S0 H0 A0 S H σ F E hF hx o k => h S0 H0 A0 S H σ F { E with nx := u E } hF hx o k
theorem run_seqR (h : RunS js t ρ (.rt r) ρ') : RunS js (tSeq t u) ρ (.rt r) ρ' := fun S0 H0 A0 S H σ F E hF hx o k => h S0 H0 A0 S H σ F { E with nx := u E } hF hx o k
theorem run_seqX {x : Xc} (h : RunS js t ρ (.xc x) ρ') : RunS js (tSeq t u) ρ (.xc x) ρ' := fun S0 H0 A0 S H σ F E hF hx o k => h S0 H0 A0 S H σ F { E with nx := u E } hF hx o k
theorem run_next : RunS js tNext ρ .nx ρ := fun S0 H0 A0 S H σ F E hF hx o k => k S H σ (Same.refl S) hx o
theorem run_ret (h : EvY te ρ r ρ1) : RunS js (tRet te) ρ (.rt r) ρ1 := fun S0 H0 A0 S H σ F E hF hx o k =>
  h S0 H0 A0 S H [] [] σ _ rfl o fun v S' H' ss o' => k v S' H' σ ss hx o'
theorem run_drop (h : EvY te ρ r ρ1) : RunS js (tDrop te) ρ .nx ρ1 := fun S0 H0 A0 S H σ F E hF hx o k =>
  h S0 H0 A0 S H [] [] σ _ rfl o fun v S' H' ss o' => k S' H' σ ss hx o'.drop
theorem run_if {b : Bool} (h : EvT c ρ b ρ1) (h1 : b = true → RunS js t ρ1 fl ρ') (h2 : b = false → RunS js u ρ1 fl ρ') : RunS js (tIfS c t u) ρ fl ρ' := fun S0 H0 A0 S H σ F E hF hx o k =>
  h S0 H0 A0 S H [] [] σ _ rfl o fun S1 H1 s1 o1 => by
    cases b with
    | true => exact iteT (h1 rfl S0 H0 A0 S1 H1 σ F E hF hx o1 (k.mono s1))
    | false => exact iteF (h2 rfl S0 H0 A0 S1 H1 σ F E hF hx o1 (k.mono s1))
theorem run_asg {i : Nat} (h : EvY te ρ r ρ1) (hi : i ∉ js) : RunS js (tAsg te (gName i)) ρ .nx (ρ1.set i r) := fun S0 H0 A0 S H σ F E hF hx o k =>
  h S0 H0 A0 S H [] [] σ _ rfl o fun v S' H' ss o' => k S' H' _ ss (hx.set (by rw [hF]; exact hi)) (o'.store i)
/-! ### targets -/
def TgM (g : TG) (x : D) (ρ ρ' : Env) (is : List Nat) : Prop := ∀ (S0 H0 : Hp) (A0 : List Addr) (S H : Hp) (τσ : List (Option V)) (τρ : List OT) (σ : St) (Q : St → Hp → Prop) (v : V), τσ.length = τρ.length → Ok S0 H0 A0 S H (τσ ++ σ) (τρ ++ ρ) → Rp S v x →
  (∀ σ', Ok S0 H0 A0 S H (τσ ++ σ') (τρ ++ ρ') → σ'.length = σ.length → (∀ k, k ∉ is → σ'[k]? = σ[k]?) → Q σ' H) → g v σ H Q
def TgMs (g : TGs) (xs : List D) (ρ ρ' : Env) (is : List Nat) : Prop := ∀ (S0 H0 : Hp) (A0 : List Addr) (S H : Hp) (τσ : List (Option V)) (τρ : List OT) (σ : St) (Q : St → Hp → Prop) (vs : List V), τσ.length = τρ.length → Ok S0 H0 A0 S H (τσ ++ σ) (τρ ++ ρ) → RpAll S vs xs →
  (∀ σ', Ok S0 H0 A0 S H (τσ ++ σ') (τρ ++ ρ') → σ'.length = σ.length → (∀ k, k ∉ is → σ'[k]? = σ[k]?) → Q σ' H) → g vs σ H Q
theorem tg_name {i : Nat} : TgM (gName i) x ρ (ρ.set i (.d x)) [i] := fun S0 H0 A0 S H τσ τρ σ Q v l o hv q => by
  have o' := (o.pushD hv).store (τρ.length + i)
  rw [set_app l, set_app rfl] at o'
  exact q _ o' (by rw [List.length_set]) fun k hk => by rw [List.getElem?_set_ne (fun z => hk (by rw [z]; exact List.mem_cons_self))]
theorem tgs_nil : TgMs gNil [] ρ ρ [] := fun S0 H0 A0 S H τσ τρ σ Q vs l o hv q => by
  cases hv
  exact ⟨rfl, q σ o rfl fun _ _ => rfl⟩
theorem tgs_cons {g : TG} {gs : TGs} {xs : List D} {is ks : List Nat} (h1 : TgM g x ρ ρ1 is) (h2 : TgMs gs xs ρ1 ρ2 ks) : TgMs (gCons g gs) (x :: xs) ρ ρ2 (is ++ ks) := fun S0 H0 A0 S H τσ τρ σ Q vs l o hv q => by
  cases hv with
  | cons hv ht =>
    refine ⟨_, _, rfl, h1 S0 H0 A0 S H τσ τρ σ _ _ l o hv fun σ1 o1 l1 k1 => h2 S0 H0 A0 S H τσ τρ σ1 _ _ l o1 ht fun σ2 o2 l2 k2 => q σ2 o2 (l2.trans l1) fun k hk => ?_⟩
    rw [k2 k (fun z => hk (List.mem_append_right _ z)), k1 k (fun z => hk (List.mem_append_left _ z))]
theorem tg_tup {gs : TGs} {xs : List D} {is : List Nat} {n : Nat} (h : TgMs gs xs ρ ρ' is) (hn : xs.length = n) : TgM (gTup kf.K n gs) (.tuple xs) ρ ρ' is := fun S0 H0 A0 S H τσ τρ σ Q v l o hv q => by
  cases hv with
  | tup r1 r2 => exact ⟨_, _, rfl, .inl (.of (o.sh _ _ r1)), (dpa_length r2).trans hn, h S0 H0 A0 S H τσ τρ σ Q _ l o r2 q⟩
theorem run_asgT {g : TG} {is : List Nat} (h : EvD te ρ x ρ1) (ht : TgM g x ρ1 ρ2 is) (hi : ∀ j ∈ js, j ∉ is) : RunS js (tAsg te g) ρ .nx ρ2 := fun S0 H0 A0 S H σ F E hF hx o k =>
  h S0 H0 A0 S H [] [] σ _ rfl o fun v S' H' ss o' hv => ht S0 H0 A0 S' H' [] [] σ _ v rfl o' hv fun σ' o2 l2 k2 => k S' H' σ' ss (fun p hp => by
    rw [k2 p.1 (hi p.1 (by rw [← hF]; exact List.mem_map_of_mem hp))]; exact hx p hp) o2
/-! ### what is walked -/
def IterM (wi : TI) (ρ : Env) (ds : List D) (ρ' : Env) : Prop := ∀ (S0 H0 : Hp) (A0 : List Addr) (S H : Hp) (τσ : List (Option V)) (τρ : List OT) (σ : St) (R : It → Hp → Prop), τσ.length = τρ.length → Ok S0 H0 A0 S H (τσ ++ σ) (τρ ++ ρ) →
  (∀ J S' H', Same S S' → Ok S0 H0 A0 S' H' (τσ ++ σ) (τρ ++ ρ') → JD S' J ds → R J H') → wi σ H R
theorem it_list {ds : List D} (h : EvD te ρ (.list ds) ρ1) : IterM (iList kf.K te) ρ ds ρ1 := fun S0 H0 A0 S H τσ τρ σ R l o q =>
  h S0 H0 A0 S H τσ τρ σ _ l o fun v S' H' ss o' hs => by
    cases hs with
    | lst r1 r2 => exact ⟨_, rfl, ⟨_, o'.sh.seq r1⟩, q _ S' H' ss o' (jd_list r1 r2)⟩
def rgD (lo : Int) (n : Nat) : List D := (List.range n).map fun (i : Nat) => PyData.int (lo + (i : Int))
theorem it_range1 {n : Int} (h : EvL ta' ρ [.int n] ρ1) (hn : n < 2 ^ 62) (hn0 : -(2 ^ 62) ≤ n) : IterM (iRng1 ta') ρ (rgD 0 n.toNat) ρ1 := fun S0 H0 A0 S H τσ τρ σ R l o q =>
  h S0 H0 A0 S H τσ τρ σ _ l o fun v S' H' ss o' hs => by
    cases hs with | cons a b => cases a; cases b; exact ⟨n, rfl, hn0, hn, q _ S' H' ss o' jd_range⟩
theorem it_range2 {m n : Int} (h : EvL ta' ρ [.int m, .int n] ρ1) (hb : -(2 ^ 62) ≤ m ∧ m < 2 ^ 62 ∧ -(2 ^ 62) ≤ n ∧ n < 2 ^ 62) : IterM (iRng2 ta') ρ (rgD m (n - m).toNat) ρ1 := fun S0 H0 A0 S H τσ τρ σ R l o q =>
  h S0 H0 A0 S H τσ τρ σ _ l o fun v S' H' ss o' hs => by
    cases hs with | cons a b => cases b with | cons b c => cases a; cases b; cases c; exact ⟨m, n, rfl, hb, q _ S' H' ss o' jd_range⟩
end
end MR
namespace MR
open PySem L2 PL
variable [kf : KF] [wx : WXI]
theorem jd_enum {S : Hp} {a : Addr} {vs : List V} {ds : List D} (r1 : SqL kf.K S a vs) (r2 : RpAll S vs ds) : JD S (Ite kf.K a) (ds.zipIdx.map fun p => PyData.tuple [.int (p.2 : Nat), p.1]) := fun S1 H1 s1 sh => by
  have h1 : SqL kf.K H1 a vs := (s1.trans sh).seq r1
  refine ⟨⟨vs, h1, by rw [dpa_length r2]; simp⟩, fun i x e => ?_⟩
  rw [List.getElem?_map, List.getElem?_zipIdx] at e
  cases qd : ds[i]? with
  | none => rw [qd] at e; cases e
  | some d =>
    rw [qd] at e
    simp at e
    subst e
    obtain ⟨v, e1, e2⟩ := dpa_get r2 qd
    refine ⟨⟨vs, v, h1, e1⟩, fun w H2 y => ?_⟩
    obtain ⟨T, x, rfl, nT, rfl, y⟩ := y
    have : some x = some v := (y vs h1).symm.trans e1
    cases this
    have xn := Xt.newS (o := .tup [.int (i : Nat), v]) sh nT
    exact ⟨_, xn, .tup upd_same (.cons (.int _) (.cons (dp_mono (s1.trans xn.ss) _ _ e2) .nil))⟩
theorem jd_zip {S : Hp} {a b : Addr} {vs ws : List V} {ds es : List D} (r1 : SqL kf.K S a vs) (r2 : RpAll S vs ds) (p1 : SqL kf.K S b ws) (p2 : RpAll S ws es) : JD S (Itz kf.K a b) ((ds.zip es).map fun p => PyData.tuple [p.1, p.2]) := fun S3 H3 s3 sh => by
  have h1 : SqL kf.K H3 a vs := (s3.trans sh).seq r1
  have h2 : SqL kf.K H3 b ws := (s3.trans sh).seq p1
  refine ⟨⟨vs, ws, h1, h2, by rw [dpa_length r2, dpa_length p2]; simp; omega⟩, fun i x e => ?_⟩
  rw [List.getElem?_map] at e
  cases qd : (ds.zip es)[i]? with
  | none => rw [qd] at e; cases e
  | some d =>
    rw [qd] at e
    simp at e
    subst e
    rw [List.getElem?_zip_eq_some] at qd
    obtain ⟨v, e1, e2⟩ := dpa_get r2 qd.1
    obtain ⟨w, g1, g2⟩ := dpa_get p2 qd.2
    refine ⟨⟨vs, ws, v, w, h1, h2, e1, g1⟩, fun z H4 y => ?_⟩
    obtain ⟨T, x, x', rfl, nT, rfl, y, y'⟩ := y
    have : some x = some v := (y vs h1).symm.trans e1
    cases this
    have : some x' = some w := (y' ws h2).symm.trans g1
    cases this
    have xn := Xt.newS (o := .tup [v, w]) sh nT
    exact ⟨_, xn, .tup upd_same (.cons (dp_mono (s3.trans xn.ss) _ _ e2) (.cons (dp_mono (s3.trans xn.ss) _ _ g2) .nil))⟩
def enumD (ds : List D) : List D := ds.zipIdx.map fun p => PyData.tuple [.int (p.2 : Nat), p.1]
def zipD (ds es : List D) : List D := (ds.zip es).map fun p => PyData.tuple [p.1, p.2]
section
variable {ρ ρ1 ρ2 ρ' : Env} {ta tb tc te : TE} {tl : TA} {c : TT} {t u : TS} {d e x y : D} {r s : OT} {S H S' H' S0 H0 : Hp} {A0 : List Addr} {σ : St} {js : List Nat} {fl : Fl}
theorem it_enum {ds : List D} (h : EvL tl ρ [.list ds] ρ1) : IterM (iEnum kf.K tl) ρ (enumD ds) ρ1 := fun S0 H0 A0 S H τσ τρ σ R l o q =>
  h S0 H0 A0 S H τσ τρ σ _ l o fun vs S' H' ss o' hs => by
    cases hs with
    | cons a b =>
      cases b
      cases a with
      | lst r1 r2 => exact ⟨_, _, rfl, o'.sh.seq r1, q _ S' H' ss o' (jd_enum r1 r2)⟩
theorem it_zip {ds es : List D} (h : EvL tl ρ [.list ds, .list es] ρ1) : IterM (iZip kf.K tl) ρ (zipD ds es) ρ1 := fun S0 H0 A0 S H τσ τρ σ R l o q =>
  h S0 H0 A0 S H τσ τρ σ _ l o fun vs S' H' ss o' hs => by
    cases hs with
    | cons a b =>
      cases b with
      | cons b c =>
        cases c
        cases a with
        | lst r1 r2 =>
          cases b with
          | lst p1 p2 => exact ⟨_, _, _, _, rfl, o'.sh.seq r1, o'.sh.seq p1, q _ S' H' ss o' (jd_zip r1 r2 p1 p2)⟩
/-! ### loops -/
def mFor (step : D → Env → Option (Fl × Env)) : List D → Env → Option (Fl × Env)
  | [], ρ => some (.nx, ρ)
  | x :: xs, ρ => match step x ρ with
    | some (.nx, ρ') => mFor step xs ρ'
    | some (.ct, ρ') => mFor step xs ρ'
    | some (.bk, ρ') => some (.nx, ρ')
    | some (.rt r, ρ') => some (.rt r, ρ')
    | some (.xc x, ρ') => some (.xc x, ρ')
    | Option.none => Option.none
theorem run_for {wi : TI} {g : TG} {ds : List D} {step : D → Env → Option (Fl × Env)} (hi : IterM wi ρ ds ρ1)
    (hs : ∀ x ρa fl ρb, step x ρa = some (fl, ρb) → ∃ ρm is, TgM g x ρa ρm is ∧ (∀ j ∈ js, j ∉ is) ∧ RunS js t ρm fl ρb) (hf : mFor step ds ρ1 = some (fl, ρ')) : RunS js (tFor wi g t) ρ fl ρ' := fun S0 H0 A0 S H σ F E hF hx o k =>
  hi S0 H0 A0 S H [] [] σ _ rfl o fun J S1 H1 ss1 o1 hJ => by
    refine ⟨fun i m σ' H' => m = ds.length - i ∧ i ≤ ds.length ∧ ∃ S' ρi, Same S1 S' ∧ Fx F σ' ∧ Ok S0 H0 A0 S' H' σ' ρi ∧ mFor step (ds.drop i) ρi = some (fl, ρ'), ⟨_, rfl, Nat.zero_le _, S1, ρ1, Same.refl _, hx, o1, hf⟩, ?_⟩
    rintro i m σ' H' ⟨rfl, hi, S', ρi, s1, hx', o', hf'⟩
    obtain ⟨st, go⟩ := hJ S' H' s1 o'.sh
    by_cases hl : i < ds.length
    · obtain ⟨g1, g2⟩ := go i ds[i] (List.getElem?_eq_getElem hl)
      rw [List.drop_eq_getElem_cons hl] at hf'
      unfold mFor at hf'
      cases hst : step ds[i] ρi with
      | none => rw [hst] at hf'; cases hf'
      | some p =>
        obtain ⟨fl1, ρb⟩ := p
        rw [hst] at hf'
        obtain ⟨ρm, is, ht, hjs, hb⟩ := hs _ _ _ _ hst
        refine .inr ⟨g1, fun σ2 H2 => ∃ S2, Same S1 S2 ∧ Fx F σ2 ∧ Ok S0 H0 A0 S2 H2 σ2 ρb ∧ mFor step (ds.drop (i + 1)) ρb = some (fl, ρ'), fun σ2 H2 ⟨S2, b1, b2, b3, b4⟩ => ⟨_, by omega, rfl, hl, S2, ρb, b1, b2, b3, b4⟩, fun v H2 hy => ?_⟩
        obtain ⟨S2, x2, hv⟩ := g2 v H2 hy
        refine ht S0 H0 A0 S2 H2 [] [] σ' _ v rfl (o'.ext x2) hv fun σ3 o3 l3 k3 => ?_
        have hx3 : Fx F σ3 := fun p hp => by rw [k3 p.1 (hjs p.1 (by rw [← hF]; exact List.mem_map_of_mem hp))]; exact hx' p hp
        refine hb S0 H0 A0 S2 H2 σ3 F _ hF hx3 o3 ?_
        have sa : Same S S2 := ss1.trans (s1.trans x2.ss)
        cases fl1 with
        | nx => exact fun S4 H4 σ4 s4 hx4 o4 => ⟨S4, s1.trans (x2.ss.trans s4), hx4, o4, hf'⟩
        | ct => exact fun S4 H4 σ4 s4 hx4 o4 => ⟨S4, s1.trans (x2.ss.trans s4), hx4, o4, hf'⟩
        | bk =>
          simp only [Option.some.injEq, Prod.mk.injEq] at hf'
          obtain ⟨rfl, rfl⟩ := hf'
          exact fun S4 H4 σ4 s4 hx4 o4 => k S4 H4 σ4 (sa.trans s4) hx4 o4
        | rt r =>
          simp only [Option.some.injEq, Prod.mk.injEq] at hf'
          obtain ⟨rfl, rfl⟩ := hf'
          exact fun v4 S4 H4 σ4 s4 hx4 o4 => k v4 S4 H4 σ4 (sa.trans s4) hx4 o4
        | xc x =>
          simp only [Option.some.injEq, Prod.mk.injEq] at hf'
          obtain ⟨rfl, rfl⟩ := hf'
          exact fun cls4 d4 S4 H4 σ4 s4 hx4 o4 => k cls4 d4 S4 H4 σ4 (sa.trans s4) hx4 o4
    · have e : i = ds.length := by omega
      subst e
      rw [List.drop_length] at hf'
      simp only [mFor, Option.some.injEq, Prod.mk.injEq] at hf'
      obtain ⟨rfl, rfl⟩ := hf'
      exact .inl ⟨st, k S' H' σ' (ss1.trans s1) hx' o'⟩
def mWhileN (c : Env → Option (Bool × Env)) (b : Env → Option (Fl × Env)) : Nat → Env → Option (Fl × Env)
  | 0, _ => Option.none
  | n + 1, ρ => match c ρ with
    | some (false, ρ1) => some (.nx, ρ1)
    | some (true, ρ1) => match b ρ1 with
      | some (.nx, ρ2) => mWhileN c b n ρ2
      | some (.ct, ρ2) => mWhileN c b n ρ2
      | some (.bk, ρ2) => some (.nx, ρ2)
      | some (.rt r, ρ2) => some (.rt r, ρ2)
      | some (.xc x, ρ2) => some (.xc x, ρ2)
      | Option.none => Option.none
    | Option.none => Option.none
theorem run_whileN {mc : Env → Option (Bool × Env)} {mb : Env → Option (Fl × Env)} {n : Nat} (hc : ∀ ρa b ρb, mc ρa = some (b, ρb) → EvT c ρa b ρb) (hb : ∀ ρa fl ρb, mb ρa = some (fl, ρb) → RunS js t ρa fl ρb) (hf : mWhileN mc mb n ρ = some (fl, ρ')) : RunS js (tWhile c t) ρ fl ρ' := fun S0 H0 A0 S H σ F E hF hx o k => by
  refine ⟨fun m σ' H' => ∃ S' ρi, Same S S' ∧ Fx F σ' ∧ Ok S0 H0 A0 S' H' σ' ρi ∧ mWhileN mc mb m ρi = some (fl, ρ'), ⟨n, S, ρ, Same.refl _, hx, o, hf⟩, ?_⟩
  rintro m σ' H' ⟨S', ρi, s1, hx', o', hf'⟩
  cases m with
  | zero => simp [mWhileN] at hf'
  | succ m =>
    unfold mWhileN at hf'
    cases hcc : mc ρi with
    | none => rw [hcc] at hf'; cases hf'
    | some p =>
      obtain ⟨b, ρb⟩ := p
      rw [hcc] at hf'
      refine hc _ _ _ hcc S0 H0 A0 S' H' [] [] σ' _ rfl o' fun S2 H2 s2 o2 => ?_
      cases b with
      | false =>
        simp only [Option.some.injEq, Prod.mk.injEq] at hf'
        obtain ⟨rfl, rfl⟩ := hf'
        exact iteF (k S2 H2 σ' (s1.trans s2) hx' o2)
      | true =>
        simp only at hf'
        cases hbb : mb ρb with
        | none => rw [hbb] at hf'; cases hf'
        | some p =>
          obtain ⟨fl1, ρd⟩ := p
          rw [hbb] at hf'
          refine iteT ⟨fun σ3 H3 => ∃ S3, Same S S3 ∧ Fx F σ3 ∧ Ok S0 H0 A0 S3 H3 σ3 ρd ∧ mWhileN mc mb m ρd = some (fl, ρ'), fun σ3 H3 ⟨S3, b1, b2, b3, b4⟩ => ⟨m, by omega, S3, ρd, b1, b2, b3, b4⟩, ?_⟩
          refine hb _ _ _ hbb S0 H0 A0 S2 H2 σ' F _ hF hx' o2 ?_
          have sa := s1.trans s2
          cases fl1 with
          | nx => exact fun S4 H4 σ4 s4 hx4 o4 => ⟨S4, sa.trans s4, hx4, o4, hf'⟩
          | ct => exact fun S4 H4 σ4 s4 hx4 o4 => ⟨S4, sa.trans s4, hx4, o4, hf'⟩
          | bk =>
            simp only [Option.some.injEq, Prod.mk.injEq] at hf'
            obtain ⟨rfl, rfl⟩ := hf'
            exact fun S4 H4 σ4 s4 hx4 o4 => k S4 H4 σ4 (sa.trans s4) hx4 o4
          | rt r =>
            simp only [Option.some.injEq, Prod.mk.injEq] at hf'
            obtain ⟨rfl, rfl⟩ := hf'
            exact fun v4 S4 H4 σ4 s4 hx4 o4 => k v4 S4 H4 σ4 (sa.trans s4) hx4 o4
          | xc x =>
            simp only [Option.some.injEq, Prod.mk.injEq] at hf'
            obtain ⟨rfl, rfl⟩ := hf'
            exact fun cls4 d4 S4 H4 σ4 s4 hx4 o4 => k cls4 d4 S4 H4 σ4 (sa.trans s4) hx4 o4
omit kf wx in
theorem whileN_mono {c : Env → Option (Bool × Env)} {b : Env → Option (Fl × Env)} : ∀ {n m : Nat} {ρ : Env} {o : Fl × Env}, n ≤ m → mWhileN c b n ρ = some o → mWhileN c b m ρ = some o
  | 0, _, _, _, _, h => by simp [mWhileN] at h
  | n + 1, 0, _, _, hl, _ => by omega
  | n + 1, m + 1, ρ, o, hl, h => by
    unfold mWhileN at h ⊢
    cases hc : c ρ with
    | none => rw [hc] at h; cases h
    | some p =>
      obtain ⟨bb, ρ1⟩ := p
      rw [hc] at h
      cases bb with
      | false => exact h
      | true =>
        simp only at h ⊢
        cases hb : b ρ1 with
        | none => rw [hb] at h; cases h
        | some p =>
          obtain ⟨fl, ρ2⟩ := p
          rw [hb] at h
          cases fl with
          | nx => exact whileN_mono (by omega) h
          | ct => exact whileN_mono (by omega) h
          | bk => exact h
          | rt r => exact h
          | xc x => exact h
open Classical in
noncomputable def mWhile (c : Env → Option (Bool × Env)) (b : Env → Option (Fl × Env)) (ρ : Env) : Option (Fl × Env) := if h : ∃ o n, mWhileN c b n ρ = some o then some h.choose else Option.none
omit kf wx in
theorem mWhile_of {c : Env → Option (Bool × Env)} {b : Env → Option (Fl × Env)} {n : Nat} {o : Fl × Env} (h : mWhileN c b n ρ = some o) : mWhile c b ρ = some o := by
  have hh : ∃ o n, mWhileN c b n ρ = some o := ⟨o, n, h⟩
  unfold mWhile
  rw [dif_pos hh]
  obtain ⟨m, hm⟩ := hh.choose_spec
  have h1 := whileN_mono (Nat.le_max_left n m) h
  have h2 := whileN_mono (Nat.le_max_right n m) hm
  rw [h1] at h2
  exact h2.symm
theorem run_while {mc : Env → Option (Bool × Env)} {mb : Env → Option (Fl × Env)} (hc : ∀ ρa b ρb, mc ρa = some (b, ρb) → EvT c ρa b ρb) (hb : ∀ ρa fl ρb, mb ρa = some (fl, ρb) → RunS js t ρa fl ρb) (hf : mWhile mc mb ρ = some (fl, ρ')) : RunS js (tWhile c t) ρ fl ρ' := by
  unfold mWhile at hf
  split at hf
  · rename_i hh
    have e := Option.some.inj hf
    obtain ⟨m, hm⟩ := hh.choose_spec
    rw [e] at hm
    exact run_whileN hc hb hm
  · cases hf
end
end MR
namespace MR
open PySem L2 PL
variable [kf : KF]
/-! ### comprehensions -/
def wipeE (ρ : Env) : List Nat → Env
  | [] => ρ
  | v :: vs => (wipeE ρ vs).set v .no
def rst {α : Type} (xs orig : List α) : List Nat → List α
  | [] => xs
  | v :: vs => match orig[v]? with
    | some a => (rst xs orig vs).set v a
    | Option.none => rst xs orig vs
theorem rst_some {α : Type} {xs orig : List α} {v : Nat} {vs : List Nat} {a : α} (h : orig[v]? = some a) : rst xs orig (v :: vs) = (rst xs orig vs).set v a := by simp only [rst, h]
theorem rst_none {α : Type} {xs orig : List α} {v : Nat} {vs : List Nat} (h : orig[v]? = Option.none) : rst xs orig (v :: vs) = rst xs orig vs := by simp only [rst, h]
def calmAt (ρ : Env) (vs : List Nat) : Bool := vs.all fun v => match ρ[v]? with
  | some (.nd _ _) => false
  | some (.fl _) => false
  | some (.si _) => false
  | _ => true
def mLc (vs : List Nat) (step : D → Env → Option (Option OT × Env)) : List D → List OT → Env → Option (List OT × Env)
  | [], acc, ρ => some (acc, ρ)
  | x :: xs, acc, ρ => match step x ρ with
    | some (some r, ρ') => mLc vs step xs (acc ++ [r]) (wipeE ρ' vs)
    | some (Option.none, ρ') => mLc vs step xs acc (wipeE ρ' vs)
    | Option.none => Option.none
section
variable {ρ ρ1 ρ2 ρ' : Env} {ta tb tc te : TE} {tl : TA} {c : TT} {t u : TS} {d e x y : D} {r s : OT} {S H S' H' S0 H0 : Hp} {A0 : List Addr} {σ τσ : St} {τρ : List OT} {js : List Nat} {fl : Fl}
/-- slot i written, with nothing owned -/
theorem Ok.put (o : Ok S0 H0 A0 S H σ ρ) (i : Nat) {v : Option V} {t : OT} (h : OSl S H v t []) : Ok S0 H0 A0 S H (σ.set i v) (ρ.set i t) := by
  obtain ⟨B, h1, h2, h3⟩ := o.env
  exact Ok.store (v := v) (t := t) ⟨o.xt, [] ++ B, .cons h h1, by simpa using h2, by simpa using h3⟩ i
theorem Ok.wipe (l : τσ.length = τρ.length) (o : Ok S0 H0 A0 S H (τσ ++ σ) (τρ ++ ρ)) : ∀ vs : List Nat, Ok S0 H0 A0 S H (τσ ++ L2.wipe σ vs) (τρ ++ wipeE ρ vs)
  | [] => o
  | v :: vs => by
    have o' := (Ok.wipe l o vs).put (τρ.length + v) (.no (v := Option.none))
    rw [set_app l, set_app rfl] at o'
    exact o'
theorem rst_wipe (σ : St) (vs : List Nat) : rst (L2.wipe σ vs) σ vs = σ := by
  have gen : ∀ (us : List Nat) (xs : St), xs.length = σ.length → (∀ k, k ∉ us → xs[k]? = σ[k]?) → rst xs σ us = σ := by
    intro us
    induction us with
    | nil =>
      intro xs hl h
      exact List.ext_getElem? fun k => h k (by simp)
    | cons v us ih =>
      intro xs hl h
      have len : ∀ (us : List Nat) (xs : St), (rst xs σ us).length = xs.length := by
        intro us
        induction us with
        | nil => intro xs; rfl
        | cons w us ih2 =>
          intro xs
          cases q : σ[w]? with
          | some a => rw [rst_some q, List.length_set]; exact ih2 xs
          | none => rw [rst_none q]; exact ih2 xs
      have out : ∀ (us : List Nat) (xs : St) (k : Nat), xs.length = σ.length → (k ∈ us ∨ xs[k]? = σ[k]?) → (rst xs σ us)[k]? = σ[k]? := by
        intro us
        induction us with
        | nil =>
          intro xs k _ hk
          rcases hk with hk | hk
          · cases hk
          · exact hk
        | cons w us ih2 =>
          intro xs k hl hk
          have l2 := len us xs
          by_cases e : w = k
          · subst e
            cases q : σ[w]? with
            | some a =>
              rw [rst_some q]
              have := (List.getElem?_eq_some_iff.mp q).1
              rw [List.getElem?_set_self (by omega)]
            | none =>
              rw [rst_none q]
              have := List.getElem?_eq_none_iff.mp q
              exact List.getElem?_eq_none (by omega)
          · have hk' : k ∈ us ∨ xs[k]? = σ[k]? := by
              rcases hk with hk | hk
              · rcases List.mem_cons.mp hk with z | z
                · exact absurd z.symm e
                · exact .inl z
              · exact .inr hk
            cases q : σ[w]? with
            | some a => rw [rst_some q, List.getElem?_set_ne e]; exact ih2 xs k hl hk'
            | none => rw [rst_none q]; exact ih2 xs k hl hk'
      apply List.ext_getElem?
      intro k
      have := out (v :: us) xs k hl (by
        by_cases hk : k ∈ v :: us
        · exact .inl hk
        · exact .inr (h k hk))
      exact this
  exact gen vs _ (L2.wipe_length σ vs) fun k hk => by rw [wipe_get, if_neg hk]
theorem Ok.restore {S1 H1 : Hp} (l : τσ.length = τρ.length) {σ0 τσ0 : St} {ρ0 τρ0 : Env} {ρe : Env} (l0 : τσ0.length = τρ0.length) (o0 : Ok S0 H0 A0 S1 H1 (τσ0 ++ σ0) (τρ0 ++ ρ0)) (ss : Same S1 S) : ∀ (vs : List Nat) (σe : St), calmAt ρ0 vs = true → Ok S0 H0 A0 S H (τσ ++ σe) (τρ ++ ρe) → σ0.length = ρ0.length →
    Ok S0 H0 A0 S H (τσ ++ rst σe σ0 vs) (τρ ++ rst ρe ρ0 vs)
  | [], σe, _, o, _ => o
  | v :: vs, σe, hc, o, hl => by
    unfold calmAt at hc
    rw [List.all_cons, Bool.and_eq_true] at hc
    have ih := Ok.restore l l0 o0 ss vs σe hc.2 o hl
    by_cases hv : v < σ0.length
    · obtain ⟨val, hval⟩ : ∃ val, σ0[v]? = some val := ⟨_, List.getElem?_eq_getElem hv⟩
      obtain ⟨t, ht⟩ : ∃ t, ρ0[v]? = some t := ⟨_, List.getElem?_eq_getElem (by omega)⟩
      rw [rst_some hval, rst_some ht]
      obtain ⟨w, A, e1, e2⟩ := o0.get (i := τρ0.length + v) (t := t) (by rw [get_app rfl]; exact ht)
      rw [get_app l0, hval] at e1
      cases e1
      have hs : OSl S H val t [] := by
        cases t with
        | no => exact .no
        | d x =>
          cases e2 with
          | is e2 => cases e2 with | d e2 => exact .is (.d (dp_mono ss _ _ e2))
        | nd k ts => rw [ht] at hc; simp at hc
        | fl ts => rw [ht] at hc; simp at hc
        | ex x =>
          cases e2 with
          | is e2 => cases e2 with | ex q1 q2 q3 => exact .is (.ex q1 (ss _ _ q2) (q3.mono ss))
        | si ms => rw [ht] at hc; simp at hc
      have o' := ih.put (τρ.length + v) hs
      rw [set_app l, set_app rfl] at o'
      exact o'
    · rw [rst_none (List.getElem?_eq_none (by omega)), rst_none (List.getElem?_eq_none (by omega))]
      exact ih
/-- y, on top of a list, becomes its last item -/
theorem Ok.append {y : V} {p : Addr} {ts : List OT} (o : Ok S0 H0 A0 S H (some y :: some (.ref p) :: σ) (r :: .nd .lst ts :: ρ)) (hn : r ≠ .no) :
    ∃ acc, H p = some (.lst acc) ∧ acc.length = ts.length ∧ Ok S0 H0 A0 S (upd H p (.lst (acc ++ [y]))) (some (.ref p) :: σ) (.nd .lst (ts ++ [r]) :: ρ) := by
  obtain ⟨B, h1, h2, h3⟩ := o.env
  cases h1 with
  | @cons _ _ A1 _ _ B1 p1 p2 =>
    cases p2 with
    | @cons _ _ A2 _ _ B2 q1 q2 =>
      cases q1 with
      | is q1 =>
        cases p1 with
        | no => exact (hn rfl).elim
        | is p1 =>
          cases q1 with
          | @nd _ _ vs _ C k1 k2 k3 k4 k5 =>
            have nd := List.nodup_append.mp h2
            have nd2 := List.nodup_append.mp nd.2.1
            have nd3 := List.nodup_cons.mp nd2.1
            have pA1 : p ∉ A1 := fun z => nd.2.2 p z p (List.mem_append_left _ List.mem_cons_self) rfl
            have pB2 : p ∉ B2 := fun z => nd2.2.2 p List.mem_cons_self p z rfl
            have pH : p ∈ A0 ∨ H0 p = none := h3 p (List.mem_append_right _ (List.mem_append_left _ List.mem_cons_self))
            have tp : ∀ b xs, H b = some (.tup xs) → upd H p (.lst (vs ++ [y])) b = some (.tup xs) := fun b xs e => by
              rw [upd_ne]; exact e
              intro z; subst z; rw [k4] at e; cases e
            have g1 := ook_keep (H' := upd H p (.lst (vs ++ [y]))) (Same.refl S) tp _ _ _ p1 fun a ha => ⟨(ook_at _ _ _ p1 a ha).1, upd_ne fun z => pA1 (z ▸ ha)⟩
            have g2 := oall_keep (H' := upd H p (.lst (vs ++ [y]))) (Same.refl S) tp _ _ _ k5 fun a ha => ⟨(oall_at _ _ _ k5 a ha).1, upd_ne fun z => nd3.1 (z ▸ ha)⟩
            have g3 := q2.keep (H' := upd H p (.lst (vs ++ [y]))) (Same.refl S) tp fun a ha => ⟨(q2.at a ha).1, upd_ne fun z => pB2 (z ▸ ha)⟩
            have app : ∀ {vs : List V} {ts : List OT} {C : List Addr} {H : Hp}, OAll S H vs ts C → OOk S H y r A1 → OAll S H (vs ++ [y]) (ts ++ [r]) (C ++ A1) := by
              intro vs ts C H h
              induction ts generalizing vs C with
              | nil => intro h2; cases h; have := OAll.cons h2 .nil; simpa using this
              | cons t ts ih => intro h2; cases h with | cons a b => have := OAll.cons a (ih b h2); simpa [List.append_assoc] using this
            refine ⟨vs, k4, k5.len, ⟨⟨fun b o' hb e => ?_, fun b e => ?_, fun b xs e => tp b xs (o.xt.tp b xs e), o.xt.ss, fun b o' e => ?_, o.xt.nw⟩, _, .cons (.is (.nd rfl trivial k3 upd_same (app g2 g1))) g3, ?_, ?_⟩⟩
            · have e1 := o.xt.hh b o' hb e
              rw [upd_ne]; exact e1
              intro z; subst z
              rcases pH with z | z
              · exact hb z
              · rw [z] at e; cases e
            · by_cases z : b = p
              · subst z; rw [upd_same] at e; cases e
              · rw [upd_ne z] at e; exact o.xt.dm b e
            · rw [upd_ne]; exact o.sh b o' e
              intro z; subst z; rw [k3] at e; cases e
            · refine List.nodup_append.mpr ⟨?_, nd2.2.1, ?_⟩
              · refine List.nodup_cons.mpr ⟨fun z => ?_, List.nodup_append.mpr ⟨nd3.2, nd.1, fun a ha b hb e => ?_⟩⟩
                · rcases List.mem_append.mp z with z | z
                  · exact nd3.1 z
                  · exact pA1 z
                · subst e
                  exact nd.2.2 a hb a (List.mem_append_left _ (List.mem_cons_of_mem _ ha)) rfl
              · intro a ha b hb e
                subst e
                rcases List.mem_cons.mp ha with z | z
                · subst z; exact pB2 hb
                · rcases List.mem_append.mp z with z | z
                  · exact nd2.2.2 a (List.mem_cons_of_mem _ z) a hb rfl
                  · exact nd.2.2 a z a (List.mem_append_right _ hb) rfl
            · intro a ha
              apply h3
              rcases List.mem_append.mp ha with z | z
              · rcases List.mem_cons.mp z with z | z
                · exact List.mem_append_right _ (List.mem_append_left _ (z ▸ List.mem_cons_self))
                · rcases List.mem_append.mp z with z | z
                  · exact List.mem_append_right _ (List.mem_append_left _ (List.mem_cons_of_mem _ z))
                  · exact List.mem_append_left _ z
              · exact List.mem_append_right _ (List.mem_append_right _ z)
theorem evy_lc {wi : TI} {g : TG} {tt : TT} {vs : List Nat} {ds : List D} {step : D → Env → Option (Option OT × Env)} {rs : List OT} (hi : IterM wi ρ ds ρ1)
    (hs : ∀ x ρa o ρb, step x ρa = some (o, ρb) → ∃ ρm is b ρt, TgM g x ρa ρm is ∧ (∀ j ∈ is, j ∈ vs) ∧ EvT tt ρm b ρt ∧ (match o with
      | some r => b = true ∧ r ≠ .no ∧ EvY te ρt r ρb
      | Option.none => b = false ∧ ρb = ρt))
    (hf : mLc vs step ds [] (wipeE ρ1 vs) = some (rs, ρ2)) (hc : calmAt ρ1 vs = true) (hz : ds.length ≤ 1000000) : EvY (tLc wi g tt te vs) ρ (.nd .lst rs) (rst ρ2 ρ1 vs) := fun S0 H0 A0 S H τσ τρ σ Q l o q =>
  hi S0 H0 A0 S H τσ τρ σ _ l o fun J S1 H1 ss1 o1 hJ Dl hD => by
    have lσ : σ.length = ρ1.length := by have := o1.len; simp at this; omega
    have start : Ok S0 H0 A0 S1 (upd H1 Dl (.lst [])) (some (.ref Dl) :: (τσ ++ L2.wipe σ vs)) (.nd .lst [] :: (τρ ++ wipeE ρ1 vs)) := by
      obtain ⟨B, h1, h2, h3⟩ := (o1.wipe l vs).env
      exact Ok.node (k := .lst) (vs := []) (rs := []) (B := []) o1.xt .nil h1 (by simpa using h2) (by simpa using h3) hD trivial
    refine ⟨fun i m H' => m = ds.length - i ∧ i ≤ ds.length ∧ ∃ S' acc ρi, Same S1 S' ∧ Ok S0 H0 A0 S' H' (some (.ref Dl) :: (τσ ++ L2.wipe σ vs)) (.nd .lst acc :: (τρ ++ ρi)) ∧ mLc vs step (ds.drop i) acc ρi = some (rs, ρ2) ∧ acc.length ≤ i,
      ⟨_, rfl, Nat.zero_le _, S1, [], _, Same.refl _, start, hf, Nat.le_refl _⟩, ?_⟩
    rintro i m H' ⟨rfl, hi, S', acc, ρi, s1, o', hf', hacc⟩
    obtain ⟨st, go⟩ := hJ S' H' s1 o'.sh
    by_cases hl : i < ds.length
    · obtain ⟨g1, g2⟩ := go i ds[i] (List.getElem?_eq_getElem hl)
      rw [List.drop_eq_getElem_cons hl] at hf'
      unfold mLc at hf'
      cases hst : step ds[i] ρi with
      | none => rw [hst] at hf'; cases hf'
      | some p =>
        obtain ⟨oo, ρb⟩ := p
        rw [hst] at hf'
        obtain ⟨ρm, is, b, ρt, ht, hjs, hb, he⟩ := hs _ _ _ _ hst
        refine .inr ⟨g1, fun H2 => ∃ S2 acc2, Same S1 S2 ∧ Ok S0 H0 A0 S2 H2 (some (.ref Dl) :: (τσ ++ L2.wipe σ vs)) (.nd .lst acc2 :: (τρ ++ wipeE ρb vs)) ∧ mLc vs step (ds.drop (i + 1)) acc2 (wipeE ρb vs) = some (rs, ρ2) ∧ acc2.length ≤ i + 1,
          fun H2 ⟨S2, acc2, b1, b2, b3, b4⟩ => ⟨_, by omega, rfl, hl, S2, acc2, _, b1, b2, b3, b4⟩, fun w H2 hy => ?_⟩
        obtain ⟨S2, x2, hv⟩ := g2 w H2 hy
        have o2 := o'.ext x2
        refine ht S0 H0 A0 S2 H2 (some (.ref Dl) :: τσ) (.nd .lst acc :: τρ) (L2.wipe σ vs) _ w (by simp [l]) o2 hv fun σ3 o3 l3 k3 => ?_
        have we : L2.wipe σ3 vs = L2.wipe σ vs := wipe_eq l3 fun k hk => k3 k fun z => hk (hjs k z)
        refine ⟨we, ?_⟩
        refine hb S0 H0 A0 S2 H2 (some (.ref Dl) :: τσ) (.nd .lst acc :: τρ) σ3 _ (by simp [l]) o3 fun S3 H3 s3 o4 => ?_
        have sa : Same S1 S3 := s1.trans (x2.ss.trans s3)
        cases oo with
        | none =>
          obtain ⟨rfl, rfl⟩ := he
          have o5 := Ok.wipe (τσ := some (.ref Dl) :: τσ) (τρ := .nd .lst acc :: τρ) (by simp [l]) o4 vs
          rw [we] at o5
          exact iteF ⟨S3, acc, sa, o5, hf', by omega⟩
        | some r =>
          obtain ⟨rfl, hn, he⟩ := he
          refine iteT (he S0 H0 A0 S3 H3 (some (.ref Dl) :: τσ) (.nd .lst acc :: τρ) σ3 _ (by simp [l]) o4 fun y S4 H4 s4 o5 => ?_)
          obtain ⟨ac, e1, e2, o6⟩ := Ok.append o5 hn
          have o7 := Ok.wipe (τσ := some (.ref Dl) :: τσ) (τρ := .nd .lst (acc ++ [r]) :: τρ) (by simp [l]) o6 vs
          rw [we] at o7
          exact ⟨ac, e1, sz_lt (by omega), S4, acc ++ [r], sa.trans s4, o7, hf', by simp; omega⟩
    · have e : i = ds.length := by omega
      subst e
      rw [List.drop_length] at hf'
      simp only [mLc, Option.some.injEq, Prod.mk.injEq] at hf'
      obtain ⟨rfl, rfl⟩ := hf'
      refine .inl ⟨st, q _ S' H' (ss1.trans s1) ?_⟩
      have := Ok.restore (τσ := some (.ref Dl) :: τσ) (τρ := .nd .lst acc :: τρ) (σ0 := σ) (ρ0 := ρ1) (ρe := ρi) (by simp [l]) l o1 s1 vs (L2.wipe σ vs) hc o' lσ
      rw [rst_wipe] at this
      exact this
end
end MR
namespace MR
open PySem PySem.Spec PyProof.Rows L2 PL
/-! ### a def's promise, where no guard stands on the stack -/
structure FnQ (P : Program) (w : World) (K : PySem.W.Frag) (mg : Str → Option Value) (base : Heap) (CX : CXT) (k : Nat) (f : Addr) (fd : FuncData) (ps : List Str) (sp : Sp) : Prop where
  ln : ∀ xs G Z W, sp xs G Z W → xs.length = ps.length
  go : ∀ (B : Around) (out : List PySem.Env) (st : Shared) (G : Hp) (ar : Args) (us : List Value) (xs : List V) (Z : VK) (W : XK), Room k B → B.guards = some [] → Env0 P w K mg base B out st G →
    BindsTo st fd ar (ps.zip us) → Vals xs us → sp xs G Z W → codeAny (model P w) B (.call (.ref f) ar) (CR CX out P w G st Z W) st
section
variable {P : Program} {w : World} {K : PySem.W.Frag} {mg : Str → Option Value} {base : Heap} {CX : CXT}
theorem FnQ.up {j k : Nat} {f : Addr} {fd : FuncData} {ps : List Str} {sp : Sp} (F : FnQ P w K mg base CX j f fd ps sp) (h : j ≤ k) : FnQ P w K mg base CX k f fd ps sp :=
  ⟨F.ln, fun B out st G ar us xs Z W r => F.go B out st G ar us xs Z W (r.mono h)⟩
/-- a def of the text, its defaults whatever they are -/
structure FunV (K : PySem.W.Frag) (x : Str) (st : Stmt) (f : Addr) (fd : FuncData) : Prop where
  ex : ∃ (oc : Value) (od : Option Addr) (dV kV doc pm : Value) (an : Option Addr) (cdv ct : Value) (osl : Array (Option Value)),
    fd = PySem.W.fnOf x x (defArgs st) (defBody st) (defScope st) dV kV doc pm an cdv ct ∧ K.lookup f = some ⟨oc, od, .func fd, osl⟩ ∧ PySem.W.codeIn K cdv x = true
  kp : PySem.W.keepIn K (.ref f) = true
theorem funV_of {x : Str} {st : Stmt} {f : Addr} {fd : FuncData} (F : Fun K x x st f fd) : FunV K x st f fd := by
  obtain ⟨oc, od, kV, doc, pm, an, cv, ct, sl, e, lk, cd⟩ := F.ex
  exact ⟨⟨oc, od, .none, kV, doc, pm, an, cv, ct, sl, e, lk, cd⟩, F.kp⟩
/-- one with m defaults -/
structure FunD1 (K : PySem.W.Frag) (x : Str) (st : Stmt) (m : Nat) (f : Addr) (fd : FuncData) : Prop where
  ex : ∃ (oc : Value) (od : Option Addr) (T : Addr) (kV doc pm : Value) (an : Option Addr) (cdv ct : Value) (osl : Array (Option Value)) (o : Obj) (its : List Value) (n : Nat),
    fd = PySem.W.fnOf x x (defArgs st) (defBody st) (defScope st) (.ref T) kV doc pm an cdv ct ∧ K.lookup f = some ⟨oc, od, .func fd, osl⟩ ∧ PySem.W.codeIn K cdv x = true ∧ K.lookup T = some o ∧ o.data = .seq its.toArray n ∧ its.length = m
  kp : PySem.W.keepIn K (.ref f) = true
theorem FunD1.binds {x : Str} {st : Stmt} {m : Nat} {f : Addr} {fd : FuncData} {ps : List Str} (F : FunD1 K x st m f fd)
    (h : ∀ (T : Addr) (kV doc pm : Value) (an : Option Addr) (cdv ct : Value) (us its : List Value), us.length = ps.length → its.length = m →
      ∃ k, bindArgs (PySem.W.fnOf x x (defArgs st) (defBody st) (defScope st) (.ref T) kV doc pm an cdv ct) ⟨us, []⟩ = seqItems? (.ref T) >>= k ∧ k (some its.toArray) = pure (ps.zip us)) : Binds K fd ps [] := fun s us X hl => by
  obtain ⟨oc, od, T, kV, doc, pm, an, cdv, ct, osl, o, its, n, rfl, lk, cd, lT, oT, hm⟩ := F.ex
  rw [List.append_nil] at hl ⊢
  obtain ⟨k, e1, e2⟩ := h T kV doc pm an cdv ct us its hl hm
  refine L2.BindsTo.of_looks fun M => ?_
  rw [e1]
  exact L2.looks_items X lT oT (.of_pure e2)
/-- by its body -/
theorem fnq_ofV {x : Str} {st : Stmt} {f : Addr} {fd : FuncData} {N ps : List Str} {k : Nat} {sp : Sp} (F : FunV K x st f fd) (S : FnScope N ps (defScope st)) (ln : ∀ xs G Z W, sp xs G Z W → xs.length = ps.length)
    (body : ∀ (cv : Value) (B : Around) (out : List PySem.Env) (s0 : Shared) (G : Hp) (xs : List V) (Z : VK) (W : XK), Room k (B.deeper (envOfC x (defScope st) s0.heap.objs.size f cv)) → B.guards = some [] → sp xs G Z W →
      ∃ t, PSs (cxOf CX P w K mg base N x (defScope st) f cv B out s0 G W) (defBody st) t ∧ t { nx := fun _ G' => Z .non G', rt := Z } (start N xs) G) : FnQ P w K mg base CX (k + 1) f fd ps sp := by
  obtain ⟨oc, od, dV, kV, doc, pm, an, cv, ct, sl, rfl, lk, cd⟩ := F.ex
  refine ⟨ln, fun B out s0 G ar us xs Z W rm gd e0 bd vs hs => ?_⟩
  have same := ln _ _ _ _ hs
  have up : ∀ b o, base.get? b = some o → s0.heap.get? b = some o := fun b o e => (e0.bs b o e).1
  have kin : K.In s0.heap := e0.mod.kin.keeps up
  have nol : s0.heap.NoLimit := e0.mod.nolimit.keeps up
  have kinds : ∀ y ∈ ps.zip us, (defScope st).names.lookup y.1 = some .local ∨ ((defScope st).names.lookup y.1 = some .cell ∧ ((cellsFrom (s0.heap.objs.size + 1) (defScope st).names []).lookup y.1).isSome = true) := by
    intro y hy
    obtain ⟨n, v⟩ := y
    have hn := (List.of_mem_zip hy).1
    cases S.par n hn with
    | inl q => exact .inl q
    | inr q => exact .inr ⟨q, PySem.W.cellsFrom_some _ _ _ (.inl q)⟩
  refine codeAny_call_function rm.depth (kin _ _ lk) rfl S.co S.gen rfl (PySem.W.codeRec_of kin cd) (bd _ _ _ _ (wpAny_newFunctionEnv_cells S.kind kinds fun env ee s1 xx => ?_))
  subst ee
  obtain ⟨t, pt, tq⟩ := body cv B out s0 G xs Z W (rm.deeper _) gd hs
  have inv := inv_start (CX := CX) (E := W) S rm.hd e0 same vs xx
  refine ⟨nol.keeps xx.toInCall.keep, codeAny_func (wpAny_mono (pt.run [] s1 (start N xs) G _ inv tq) (fun fl s2 h2 => ?_) fun e s2 h2 => h2)⟩
  have stop : ∀ {τ : L2.St} {G' : Hp} {v : V} {u : Value}, Inv (cxOf CX P w K mg base N x (defScope st) f cv B out s0 G W) [] τ G' s2 → RelV v u → Z v G' → CE out P w G s0 Z u s2 := by
    intro τ G' v u J rv q
    exact ⟨v, G', J.os, J.bare, J.base, J.hok, rv, q⟩
  match fl, h2 with
  | .ret u, h2 => obtain ⟨v, τ, G', J, rv, q⟩ := h2; exact stop J rv q
  | .next, h2 => obtain ⟨τ, G', J, q⟩ := h2; exact stop (v := V.non) (u := Value.none) J rfl q
  | .brk, h2 => obtain ⟨_, _, _, q⟩ := h2; cases q
  | .cont, h2 => obtain ⟨_, _, _, q⟩ := h2; cases q
/-- by its body -/
theorem fnq_of {x : Str} {st : Stmt} {f : Addr} {fd : FuncData} {N ps : List Str} {k : Nat} {sp : Sp} (F : Fun K x x st f fd) (S : FnScope N ps (defScope st)) (ln : ∀ xs G Z W, sp xs G Z W → xs.length = ps.length)
    (body : ∀ (cv : Value) (B : Around) (out : List PySem.Env) (s0 : Shared) (G : Hp) (xs : List V) (Z : VK) (W : XK), Room k (B.deeper (envOfC x (defScope st) s0.heap.objs.size f cv)) → B.guards = some [] → sp xs G Z W →
      ∃ t, PSs (cxOf CX P w K mg base N x (defScope st) f cv B out s0 G W) (defBody st) t ∧ t { nx := fun _ G' => Z .non G', rt := Z } (start N xs) G) : FnQ P w K mg base CX (k + 1) f fd ps sp := fnq_ofV (funV_of F) S ln body
end
section
variable {X : Cx} {CX : CXT} {k : Nat} {f : Addr} {fd : FuncData} {ps : List Str} {sp : Sp} {E : XK} {x : Str} {p pos : Pos} {e : Expr} {es : List Expr} {t : TA}
theorem go_fn {pins : List (Addr × Obj)} {σ : L2.St} {H : Hp} {s : Shared} {Q : VK} {us : List Value} {vs : List V} (F : FnQ X.prog X.w X.K X.mg X.base CX k f fd ps sp) (hr : Room k X.A) (hg : X.A.guards = some []) (hb : Binds X.K fd ps [])
    (hx : Passes CX X E) (I : Inv X pins σ H s) (r : Vals vs us) (h : sp vs H Q E) : wpAny (model X.prog X.w) X.A (call (.ref f) us) (EP X pins σ Q) X.xe s := by
  have hl : us.length = ps.length := by rw [← r.length]; exact F.ln _ _ _ _ h
  have bd := hb s us I.kIn (by simpa using hl)
  rw [List.append_nil] at bd
  refine wpAny_call (codeAny_mono (F.go X.A X.stack s H ⟨us, []⟩ us vs Q E hr hg I.env0 bd r h) fun rr s' hq => ?_)
  match rr, hq with
  | .error e, hq => exact hx pins σ H s e s' I hq
  | .ok (.ret u), hq => exact I.after hq
  | .ok .next, hq => cases hq
  | .ok .brk, hq => cases hq
  | .ok .cont, hq => cases hq
theorem pe_callQ (F : FnQ X.prog X.w X.K X.mg X.base CX k f fd ps sp) (hr : Room k X.A) (gd : X.A.guards = some []) (hg : Gl X x) (hm : X.mg x = some (.ref f)) (hk : PySem.W.keepIn X.K (.ref f) = true) (hb : Binds X.K fd ps [])
    (hx : Passes CX X E) (ha : PA X (e :: es) t) (hdb : (x == ("__debug__" : Str)) = false := by decide) (he : starEach (e :: es) X.env = (false, eval e X.env) :: starEach es X.env := by rfl)
    (hpl : (backTo pos (starEach es X.env)).any (·.1) = false := by rfl) : PE X (.Call (.Name x p) (e :: es) [] pos) (tCall sp [] E t) := by
  refine ⟨fun pins s σ H Q I h => wpAny_Call_Name_kw (ld_glob I hg hm ?_ hdb)⟩
  refine PySem.W.callWith_K (h₀ := X.base) I.ok.mod.kin hk (thn (ha.run pos pins s σ H _ I h) ?_) he hpl
  rintro us s1 ⟨vs, H1, I1, r, q⟩
  rw [List.append_nil] at q
  exact ⟨I1.kIn, go_fn F hr gd hb hx I1 r q⟩
end
/-! ### the law's call -/
theorem law_goes {P : Program} {w : World} {K : PySem.W.Frag} {mg mb : Str → Option Value} {CX : CXT} {k : Nat} {fa a : Addr} {fd : FuncData} {x : Str} {sp : Sp} {st : Shared} {us : List Value} {ns : List Int}
    (kin : K.In st.heap) (nsm : st.heap.Ns mainGlobals mg) (nsb : st.heap.Ns builtinsNs mb) (boot : ∀ y : Str, y ≠ "__name__" → mb y = bootBuiltins y) (nol : st.heap.NoLimit) (gens : st.gens = #[])
    (obj : st.heap.get? a = some { cls := .type "list", data := .seq us.toArray }) (hin : IntsAre us ns) (most : ns.length ≤ sizeLine) (rm : Room k callerA)
    (F : ∀ base : Heap, K.In base → base.Ns mainGlobals mg → FnQ P w K mg base CX k fa fd [x] sp) (bd : ∀ (s : Shared) (u : Value), BindsTo s fd ⟨[u], []⟩ [(x, u)])
    (hsp : ∀ G : Hp, SqL K G a (ns.map V.int) → sp [.ref a] G (fun v _ => v = .bl true) fun _ _ _ => False) (noX : ∀ G e s', CX [] G st (fun _ _ _ => False) e s' → False) :
    codeAny (model P w) callerA (.call (.ref fa) ⟨[.ref a], []⟩) (fun r s' => r = .ok (.ret (.bool true)) ∧ OldK st.heap s'.heap ∧ s'.os = st.os ∧ AllBare s'.gens) st := by
  -- G: either nothing is tracked, or the script alone, frozen
  suffices main : ∀ G : Hp, (∀ b u, G b = some u → b = a ∧ K.lookup a = none ∧ ∃ o zs, u = .frz o (.lst zs)) → SqL K G a (ns.map V.int) → HOk P w G st.heap →
      codeAny (model P w) callerA (.call (.ref fa) ⟨[.ref a], []⟩) (fun r s' => r = .ok (.ret (.bool true)) ∧ OldK st.heap s'.heap ∧ s'.os = st.os ∧ AllBare s'.gens) st by
    cases hk : K.lookup a with
    | some o =>
      have e := kin a o hk
      rw [obj] at e
      cases e
      refine main (fun _ => none) (fun b u z => by cases z) (.inr ⟨_, us.toArray, _, hk, rfl, rfl, rfl, ?_, ?_⟩) (fun b u z => by cases z)
      · rw [List.size_toArray, hin.length]; exact most
      · simpa using vals_ints hin
    | none =>
      let G : Hp := fun b => if b = a then some (.frz { cls := .type "list", data := .seq us.toArray } (.lst (ns.map V.int))) else none
      have Ga : G a = some (.frz { cls := .type "list", data := .seq us.toArray } (.lst (ns.map V.int))) := if_pos rfl
      have Gn : ∀ b u, G b = some u → b = a := fun b u z => by
        by_cases hb : b = a
        · exact hb
        · have : G b = none := if_neg hb
          rw [this] at z; cases z
      refine main G (fun b u z => ?_) (.inl (.inr ⟨_, Ga⟩)) (fun b u z => ?_)
      · have hb := Gn b u z
        subst hb
        rw [Ga] at z
        exact ⟨rfl, hk, _, _, (Option.some.inj z).symm⟩
      · have hb := Gn b u z
        subst hb
        rw [Ga] at z
        cases z
        exact ⟨obj, by rw [List.length_map]; exact most, us, _, vals_ints hin, obj⟩
  intro G hG sq hok
  have there : ∀ {b : Addr} {o : Obj}, st.heap.get? b = some o → G b = none → (hidT st.heap G).get? b = some o := fun e n => hidT_get e n
  have notd : ∀ {b : Addr} {o : Obj} {es : Array DictEntry} {n : Nat}, st.heap.get? b = some o → o.data = .dict es n → G b = none := by
    intro b o es n e dd
    cases q : G b with
    | none => rfl
    | some u =>
      obtain ⟨rfl, _, _⟩ := hG b u q
      rw [obj] at e
      cases e
      cases (dd : Data.seq us.toArray _ = Data.dict es n)
  have nsAt : ∀ {b : Addr} {m : Str → Option Value}, st.heap.Ns b m → (hidT st.heap G).Ns b m := by
    rintro b m ⟨o, es, ep, e, dd, r⟩
    exact ⟨o, es, ep, there e (notd e dd), dd, r⟩
  have kinT : K.In (hidT st.heap G) := by
    intro b o e
    refine there (kin b o e) ?_
    cases q : G b with
    | none => rfl
    | some u =>
      obtain ⟨rfl, hn, _⟩ := hG b u q
      rw [hn] at e; cases e
  have md : Mod K mg (hidT st.heap G) := by
    obtain ⟨mc, n1, n2⟩ := nol
    exact ⟨kinT, nsAt nsm, ⟨mb, nsAt nsb, boot⟩, ⟨mc, nsAt n1, n2⟩⟩
  have env0 : Env0 P w K mg (hidT st.heap G) callerA [] st G :=
    ⟨rfl, md, fun b o e => of_hidT e, Nat.le_of_eq (hidT_size _ _), trivial, fun b hb => (List.not_mem_nil hb).elim, hok, .of_eq gens⟩
  refine codeAny_mono ((F _ kinT (nsAt nsm)).go callerA [] st G ⟨[.ref a], []⟩ [.ref a] [.ref a] _ _ rm rfl env0 (bd st (.ref a)) (.cons rfl .nil) (hsp G sq)) fun r s' h => ?_
  match r, h with
  | .error e, h => exact (noX G e s' h).elim
  | .ok .next, h => cases h
  | .ok .brk, h => cases h
  | .ok .cont, h => cases h
  | .ok (.ret u), h =>
    obtain ⟨v, G', os, bare, un, hok', rv, q⟩ := h
    have q : v = .bl true := q
    subst q
    obtain rfl : u = Value.bool true := rv
    refine ⟨rfl, OldK.of_keep fun b o e => ?_, os, bare⟩
    cases q : G b with
    | none => exact un.keep b o e q (by intro z; cases (show b ∈ ([] : List Addr) from z)) (by simp)
    | some u =>
      obtain ⟨rfl, _, ob, zs, rfl⟩ := hG b u q
      obtain ⟨e1, _⟩ := hok _ _ q
      obtain ⟨e2, _⟩ := hok' _ _ (un.frzs _ ob _ q)
      rw [e] at e1
      cases e1
      exact e2
theorem walkQ {l : PySem.W.OpenLaw} {n k : Nat} {q : Program} {loose : List Str} {XP : (Str → Option Value) → Heap → Prop} {YP : World → Heap → Prop} {d : DefRec} {K : Params → PySem.W.Frag} {CX : World → CXT} {sp : World → Sp} {x : Str}
    (hmo : l.most = some n) (le : n ≤ sizeLine) (dflt : d.params.defaults = []) (rm : Room k callerA) (kin : ∀ (w : World) (h : Heap), YP w h → (K w.params).In h)
    (F : ∀ (w : World) (mg : Str → Option Value) (fa : Addr) (h : Heap), (K w.params).In h → h.Ns mainGlobals mg → mg d.name = some (.ref fa) →
      ∃ fd : FuncData, (∀ (s : Shared) (u : Value), BindsTo s fd ⟨[u], []⟩ [(x, u)]) ∧ ∀ base : Heap, (K w.params).In base → base.Ns mainGlobals mg → FnQ l.prog w (K w.params) mg base (CX w) k fa fd [x] (sp w))
    (hsp : ∀ (w : World) (G : Hp) (a : Addr) (ns : List Int), ns.length ≤ n → SqL (K w.params) G a (ns.map V.int) → sp w [.ref a] G (fun v _ => v = .bl true) fun _ _ _ => False)
    (noX : ∀ (w : World) (G : Hp) (s : Shared) (e : Value) (s' : Shared), CX w [] G s (fun _ _ _ => False) e s' → False) : PySem.W.WalkO q loose XP YP l.row.toRowW d [] (fun f vs => PySem.call f vs) := by
  refine Att.attach_call hmo dflt ?_
  intro w s0 s1 mg mb fa o pm cd doc a us ns G Y hobj hdat hcd hmg hlist hints hlen hgens
  obtain ⟨fd, bd, FF⟩ := F w mg fa _ (kin w _ Y) G.T.g hmg
  exact law_goes (kin w _ Y) G.T.g G.T.b G.T.builtins G.T.nolimit hgens hlist hints (Nat.le_trans hlen le) rm FF bd (fun H hS => hsp w H a ns hlen hS) fun H e s' => noX w H s1 e s'
end MR
namespace MR
open PySem L2 PL
variable [kf : KF] [wx : WXI]
/-! ### promises by functions -/
/-- frozen arguments; f tells the result -/
def spP (n : Nat) (f : List D → Option OT) : Sp := fun vs H Q _ => ∃ S ds r, ds.length = n ∧ Same S H ∧ RpAll S vs ds ∧ f ds = some r ∧
  ∀ v S' H' B, Xt S H S' H' → OOk S' H' v r B → B.Nodup → (∀ a ∈ B, H a = none) → Q v H'
theorem spP_len {n : Nat} {f : List D → Option OT} {ps : List Str} (e : ps.length = n) : ∀ vs H Q E, spP n f vs H Q E → vs.length = ps.length := fun vs H Q E h => by
  obtain ⟨S, ds, r, h1, _, h2, _⟩ := h
  rw [e, ← h1]; exact dpa_length h2
def fin : Option (Fl × Env) → Option OT
  | some (.rt .no, _) => Option.none
  | some (.rt r, _) => some r
  | some (.nx, _) => some (.d .none)
  | _ => Option.none
def finI : Option (Fl × Env) → Option (OT × OT)
  | some (.rt .no, _) => Option.none
  | some (.rt r, t :: _) => some (r, t)
  | some (.nx, t :: _) => some (.d .none, t)
  | _ => Option.none
section
variable {S H S' H' S0 H0 : Hp}
theorem eok_start {vs : List V} {ds : List D} (h : RpAll S vs ds) (k : Nat) : EOk S H (vs.map some ++ List.replicate k Option.none) (ds.map .d ++ List.replicate k .no) [] := by
  have nos : ∀ k, EOk S H (List.replicate k Option.none) (List.replicate k .no) [] := by
    intro k
    induction k with
    | zero => exact .nil
    | succ k ih => exact (EOk.cons .no ih : EOk S H _ _ ([] ++ []))
  induction ds generalizing vs with
  | nil => cases h; exact nos k
  | cons x ds ih => cases h with | cons a t => exact (EOk.cons (.is (.d a)) (ih t) : EOk S H _ _ ([] ++ []))
theorem def_plain {n : Nat} {f : List D → Option OT} {vs : List V} {H : Hp} {Q : VK} {E : XK} {N : List Str} {t : TS} (h : spP n f vs H Q E)
    (hb : ∀ ds r, ds.length = n → f ds = some r → ∃ o, fin o = some r ∧ ∀ fl ρ', o = some (fl, ρ') → RunS [] t (ds.map .d ++ List.replicate (N.length - n) .no) fl ρ') :
    t { nx := fun _ H' => Q .non H', rt := Q } (L2.start N vs) H := by
  obtain ⟨S, ds, r, hn, sh, hr, hf, q⟩ := h
  obtain ⟨o, ho, hR⟩ := hb ds r hn hf
  have hl : vs.length = n := by rw [dpa_length hr, hn]
  have ok0 : Ok S H [] S H (L2.start N vs) (ds.map .d ++ List.replicate (N.length - n) .no) := by
    refine ⟨Xa.refl sh, [], ?_, List.nodup_nil, fun a ha => by cases ha⟩
    show EOk S H (vs.map some ++ List.replicate (N.length - vs.length) Option.none) _ _
    rw [hl]; exact eok_start hr _
  cases o with
  | none => cases ho
  | some p =>
    obtain ⟨fl, ρ'⟩ := p
    refine hR fl ρ' rfl S H [] S H _ [] _ rfl (fun p hp => by cases hp) ok0 ?_
    cases fl with
    | nx =>
      cases ho
      exact fun S' H' σ' ss _ o' => q .non S' H' [] o'.xt.xt (.d .non) List.nodup_nil fun a ha => by cases ha
    | bk => cases ho
    | ct => cases ho
    | xc x => cases ho
    | rt r' =>
      have hr' : r' = r ∧ r ≠ .no := by
        cases r' with
        | no => cases ho
        | d x => cases ho; exact ⟨rfl, by intro z; cases z⟩
        | nd k ts => cases ho; exact ⟨rfl, by intro z; cases z⟩
        | fl ts => cases ho; exact ⟨rfl, by intro z; cases z⟩
        | ex x => cases ho; exact ⟨rfl, by intro z; cases z⟩
        | si x => cases ho; exact ⟨rfl, by intro z; cases z⟩
      obtain ⟨rfl, hn'⟩ := hr'
      intro v S' H' σ' ss _ o'
      obtain ⟨B, h1, h2, h3⟩ := o'.env
      cases h1 with
      | @cons _ _ A1 _ _ B1 p1 p2 =>
        cases p1 with
        | no => exact (hn' rfl).elim
        | is p1 =>
          refine q v S' H' A1 o'.xt.xt p1 (List.nodup_append.mp h2).1 fun a ha => ?_
          rcases h3 a (List.mem_append_left _ ha) with z | z
          · cases z
          · exact z
end
/-! ### calls -/
mutual
def OT.lf : OT → Bool
  | .no => false
  | .d x => tfl x
  | .nd _ ts => OT.lfs ts
  | .fl _ => false
  | .ex _ => false
  | .si _ => false
def OT.lfs : List OT → Bool
  | [] => true
  | t :: ts => OT.lf t && OT.lfs ts
end
section
variable {S S1 H : Hp}
theorem frz_none {a : Addr} {u : HO} (h : S1 a = none) (hu : H a = some u) (nt : ∀ xs, u ≠ .tup xs) : frz S1 H [] a = none := by
  rw [frz_out (by simp) fun xs z => nt xs (by rw [hu] at z; exact Option.some.inj z)]; exact h
mutual
theorem ook_lf (sh : Same S H) : ∀ (t : OT) (v : V) (A : List Addr), OOk S H v t A → t.lf = true → (∀ a ∈ A, S1 a = none) → OOk (frz S1 H []) H v t A
  | .no, _, _, h, _, _ => by cases h; exact .no
  | .d x, _, _, h, f, _ => by
    simp only [OT.lf] at f
    cases h with | d h => exact .d (rp_tfl [] x _ f (dp_mono sh _ _ h))
  | .nd k ts, _, _, h, f, hs => by
    simp only [OT.lf] at f
    cases h with
    | tup h1 h2 => exact .tup h1 (oall_lf sh ts _ _ h2 f hs)
    | nd h0 h1 h2 h3 h4 => exact .nd h0 h1 (frz_none (hs _ List.mem_cons_self) h3 (shape_tup h0)) h3 (oall_lf sh ts _ _ h4 f fun a ha => hs a (List.mem_cons_of_mem _ ha))
  | .fl ts, _, _, h, f, hs => by simp [OT.lf] at f
  | .ex x, _, _, h, f, hs => by simp [OT.lf] at f
  | .si x, _, _, h, f, hs => by simp [OT.lf] at f
theorem oall_lf (sh : Same S H) : ∀ (ts : List OT) (vs : List V) (A : List Addr), OAll S H vs ts A → OT.lfs ts = true → (∀ a ∈ A, S1 a = none) → OAll (frz S1 H []) H vs ts A
  | [], _, _, h, _, _ => by cases h; exact .nil
  | t :: ts, _, _, h, f, hs => by
    simp only [OT.lfs, Bool.and_eq_true] at f
    cases h with
    | cons h1 h2 => exact .cons (ook_lf sh t _ _ h1 f.1 fun a ha => hs a (List.mem_append_left _ ha)) (oall_lf sh ts _ _ h2 f.2 fun a ha => hs a (List.mem_append_right _ ha))
end
/-- with everything stable ahead of it; then with what was stable, and the tuples -/
theorem xt_low {S1 H1 S' H' : Hp} (sh : Same S1 H1) (xt : Xt H1 H1 S' H') : Xt S1 H1 (frz S1 H' []) H' :=
  Xt.trans ⟨xt.hh, Same.refl S1, sh.trans xt.hh, fun _ _ e => .inl e⟩ (xt_frz (sh.trans xt.hh))
end
section
variable {ρ ρ1 ρ2 ρ' : Env} {ta tb tc te : TE} {tl : TA} {d e x y : D} {r s t : OT} {S H S' H' S0 H0 : Hp} {A0 : List Addr} {n : Nat} {f : List D → Option OT} {ds : List D} {E : XK}
theorem evy_call (h : EvL tl ρ ds ρ1) (hn : ds.length = n) (hf : f ds = some r) : EvY (tCall (spP n f) [] E tl) ρ r ρ1 := fun S0 H0 A0 S H τσ τρ σ Q l o q =>
  h S0 H0 A0 S H τσ τρ σ _ l o fun vs S1 H1 s1 o1 h1 => by
    rw [List.append_nil]
    exact ⟨S1, ds, r, hn, o1.sh, h1, hf, fun v S' H' B xt hr nd fr => q v S' H' (s1.trans xt.ss) (o1.push xt hr nd fr)⟩
theorem rd_call (h : RdL tl ρ ds) (hn : ds.length = n) (hf : f ds = some r) (hx : r.toD = some x) : RdE (tCall (spP n f) [] E tl) ρ x := fun S0 H0 A0 S H τσ τρ σ Q l o q =>
  h S0 H0 A0 S H τσ τρ σ _ l o fun vs S1 H1 x1 h1 => by
    rw [List.append_nil]
    refine ⟨H1, ds, r, hn, Same.refl H1, h1, hf, fun v S' H' B xt hr nd fr => ?_⟩
    exact q v S1 H' (x1.trans ⟨xt.hh, Same.refl S1, x1.sh.trans xt.hh, fun _ _ e => .inl e⟩) (ook_rp xt.sh _ _ _ _ hr hx)
theorem evy_callR (h : RdL tl ρ ds) (hn : ds.length = n) (hf : f ds = some r) (hx : r.lf = true) : EvY (tCall (spP n f) [] E tl) ρ r ρ := fun S0 H0 A0 S H τσ τρ σ Q l o q =>
  h S0 H0 A0 S H τσ τρ σ _ l o fun vs S1 H1 x1 h1 => by
    rw [List.append_nil]
    refine ⟨H1, ds, r, hn, Same.refl H1, h1, hf, fun v S' H' B xt hr nd fr => ?_⟩
    have x2 := xt_low x1.sh xt
    exact q v _ H' (x1.ss.trans x2.ss) ((o.ext x1).push x2 (ook_lf xt.sh _ _ _ hr hx fun a ha => x1.sh.free (fr a ha)) nd fr)
end
end MR
namespace MR
open PySem L2 PL
variable [kf : KF]
/-! ### paths into owned trees -/
def OT.at : OT → List Nat → Option OT
  | t, [] => some t
  | .nd _ ts, i :: p => match ts[i]? with
    | some t => OT.at t p
    | Option.none => Option.none
  | _, _ :: _ => Option.none
def OT.put : OT → List Nat → OT → OT
  | _, [], s => s
  | .nd k ts, i :: p, s => match ts[i]? with
    | some t => .nd k (ts.set i (OT.put t p s))
    | Option.none => .nd k ts
  | t, _ :: _, _ => t
def kids : Option HO → List V
  | some (.lst vs) => vs
  | some (.tup vs) => vs
  | some (.dK kvs) => kvs.map (·.2)
  | some (.dT kvs) => kvs.map (·.2)
  | _ => []
/-- where a path leads, in the heap -/
def follow (H : Hp) : V → List Nat → Option V
  | v, [] => some v
  | .ref a, i :: p => match (kids (H a))[i]? with
    | some v => follow H v p
    | Option.none => Option.none
  | _, _ :: _ => Option.none
section
variable {S H S' H' S0 H0 : Hp}
theorem kids_shape {k : Kd} {vs : List V} {n : Nat} (h : k.fits n) (hn : vs.length = n) : kids (some (shape k vs)) = vs := by
  cases k with
  | lst => rfl
  | tup => rfl
  | dK ks =>
    show (ks.zip vs).map (·.2) = vs
    rw [List.map_snd_zip]; have h : ks.length = n := h; omega
  | dT ks =>
    show (ks.zip vs).map (·.2) = vs
    rw [List.map_snd_zip]; have h : ks.length = n := h; omega
theorem OAll.pick : ∀ {ts : List OT} {vs : List V} {B : List Addr}, OAll S H vs ts B → B.Nodup → ∀ {i : Nat} {s : OT}, ts[i]? = some s → ∃ v A, vs[i]? = some v ∧ OOk S H v s A ∧ A.Nodup ∧ (∀ a ∈ A, a ∈ B) ∧
    ∀ {S' H' : Hp} {s' : OT} {A' : List Addr}, Same S S' → (∀ b xs, H b = some (.tup xs) → H' b = some (.tup xs)) → (∀ a ∈ B, a ∉ A → S' a = none ∧ H' a = H a) → OOk S' H' v s' A' → A'.Nodup → (∀ a ∈ A', a ∈ A ∨ a ∉ B) →
      ∃ B', OAll S' H' vs (ts.set i s') B' ∧ B'.Nodup ∧ ∀ a ∈ B', a ∈ A' ∨ (a ∈ B ∧ a ∉ A)
  | [], _, _, h, _, i, s, e => by simp at e
  | t :: ts, _, _, h, nd, i, s, e => by
    cases h with
    | @cons v vs _ _ A0 B h0 ht =>
      have nd1 : A0.Nodup := (List.nodup_append.mp nd).1
      have nd2 : B.Nodup := (List.nodup_append.mp nd).2.1
      have dj : ∀ a ∈ A0, a ∉ B := fun a ha hb => (List.nodup_append.mp nd).2.2 a ha a hb rfl
      cases i with
      | zero =>
        have e' : t = s := by simpa using e
        subst e'
        refine ⟨v, A0, rfl, h0, nd1, fun a ha => List.mem_append_left _ ha, fun {S' H' s' A'} ss tp k h' n' m' => ?_⟩
        refine ⟨A' ++ B, .cons h' (oall_keep ss tp _ _ _ ht fun a ha => k a (List.mem_append_right _ ha) fun z => dj a z ha), ?_, fun a ha => ?_⟩
        · refine List.nodup_append.mpr ⟨n', nd2, fun a ha b hb e => ?_⟩
          subst e
          rcases m' a ha with z | z
          · exact dj a z hb
          · exact z (List.mem_append_right _ hb)
        · rcases List.mem_append.mp ha with z | z
          · exact .inl z
          · exact .inr ⟨List.mem_append_right _ z, fun y => dj a y z⟩
      | succ i =>
        obtain ⟨w, A, e1, e2, e3, e4, e5⟩ := OAll.pick ht nd2 (i := i) (s := s) (by simpa using e)
        refine ⟨w, A, by simpa using e1, e2, e3, fun a ha => List.mem_append_right _ (e4 a ha), fun {S' H' s' A'} ss tp k h' n' m' => ?_⟩
        obtain ⟨B', q1, q2, q3⟩ := e5 ss tp (fun a ha na => k a (List.mem_append_right _ ha) na) h' n' (fun a ha => by
          rcases m' a ha with z | z
          · exact .inl z
          · exact .inr fun hb => z (List.mem_append_right _ hb))
        refine ⟨A0 ++ B', .cons (ook_keep ss tp _ _ _ h0 fun a ha => k a (List.mem_append_left _ ha) fun z => dj a ha (e4 a z)) q1, ?_, fun a ha => ?_⟩
        · refine List.nodup_append.mpr ⟨nd1, q2, fun a ha b hb e => ?_⟩
          subst e
          rcases q3 a hb with z | z
          · rcases m' a z with y | y
            · exact dj a ha (e4 a y)
            · exact y (List.mem_append_left _ ha)
          · exact dj a ha z.1
        · rcases List.mem_append.mp ha with z | z
          · exact .inr ⟨List.mem_append_left _ z, fun y => dj a z (e4 a y)⟩
          · rcases q3 a z with y | y
            · exact .inl y
            · exact .inr ⟨List.mem_append_right _ y.1, y.2⟩
/-- a subtree taken, and put back changed in place -/
theorem ook_path : ∀ (p : List Nat) {t s : OT} {v : V} {A : List Addr}, OOk S H v t A → A.Nodup → t.at p = some s → ∃ w A1, follow H v p = some w ∧ OOk S H w s A1 ∧ A1.Nodup ∧ (∀ a ∈ A1, a ∈ A) ∧
    ∀ {S' H' : Hp} {s' : OT} {A' : List Addr}, Same S S' → (∀ b xs, H b = some (.tup xs) → H' b = some (.tup xs)) → (∀ a ∈ A, a ∉ A1 → S' a = none ∧ H' a = H a) → OOk S' H' w s' A' → A'.Nodup → (∀ a ∈ A', a ∈ A1 ∨ a ∉ A) →
      ∃ B', OOk S' H' v (t.put p s') B' ∧ B'.Nodup ∧ ∀ a ∈ B', a ∈ A' ∨ (a ∈ A ∧ a ∉ A1)
  | [], t, s, v, A, h, nd, e => by
    simp only [OT.at, Option.some.injEq] at e
    subst e
    exact ⟨v, A, rfl, h, nd, fun _ z => z, fun {S' H' s' A'} ss tp k h' n' m' => ⟨A', h', n', fun a ha => .inl ha⟩⟩
  | i :: p, .no, s, v, A, h, nd, e => by simp [OT.at] at e
  | i :: p, .d x, s, v, A, h, nd, e => by simp [OT.at] at e
  | i :: p, .fl ts, s, v, A, h, nd, e => by simp [OT.at] at e
  | i :: p, .ex x, s, v, A, h, nd, e => by simp [OT.at] at e
  | i :: p, .nd k ts, s, v, A, h, nd, e => by
    cases ht : ts[i]? with
    | none => simp [OT.at, ht] at e
    | some t =>
      simp only [OT.at, ht] at e
      cases h with
      | @tup a vs _ _ g1 g2 =>
        obtain ⟨u, A2, e1, e2, e3, e4, e5⟩ := g2.pick nd ht
        obtain ⟨w, A1, f1, f2, f3, f4, f5⟩ := ook_path p e2 e3 e
        refine ⟨w, A1, ?_, f2, f3, fun a ha => e4 a (f4 a ha), fun {S' H' s' A'} ss tp kk h' n' m' => ?_⟩
        · show (match (kids (H a))[i]? with | some v => follow H v p | Option.none => Option.none) = _
          rw [g1]; show (match vs[i]? with | some v => follow H v p | Option.none => Option.none) = _
          rw [e1]; exact f1
        · obtain ⟨B1, q1, q2, q3⟩ := f5 ss tp (fun a ha na => kk a (e4 a ha) na) h' n' (fun a ha => by
            rcases m' a ha with z | z
            · exact .inl z
            · exact .inr fun y => z (e4 a y))
          obtain ⟨B2, r1, r2, r3⟩ := e5 ss tp (fun a ha na => kk a ha fun z => na (f4 a z)) q1 q2 (fun a ha => by
            rcases q3 a ha with z | z
            · rcases m' a z with y | y
              · exact .inl (f4 a y)
              · exact .inr y
            · exact .inl z.1)
          refine ⟨B2, by simp only [OT.put, ht]; exact .tup (tp _ _ g1) r1, r2, fun a ha => ?_⟩
          rcases r3 a ha with z | z
          · rcases q3 a z with y | y
            · exact .inl y
            · exact .inr ⟨e4 a y.1, y.2⟩
          · exact .inr ⟨z.1, fun y => z.2 (f4 a y)⟩
      | @nd a _ vs _ B g0 g1 g2 g3 g4 =>
        have ndc := List.nodup_cons.mp nd
        obtain ⟨u, A2, e1, e2, e3, e4, e5⟩ := g4.pick ndc.2 ht
        obtain ⟨w, A1, f1, f2, f3, f4, f5⟩ := ook_path p e2 e3 e
        have aA1 : a ∉ A1 := fun z => ndc.1 (e4 a (f4 a z))
        refine ⟨w, A1, ?_, f2, f3, fun b hb => List.mem_cons_of_mem _ (e4 b (f4 b hb)), fun {S' H' s' A'} ss tp kk h' n' m' => ?_⟩
        · show (match (kids (H a))[i]? with | some v => follow H v p | Option.none => Option.none) = _
          rw [g3, kids_shape g1 g4.len, e1]; exact f1
        · obtain ⟨B1, q1, q2, q3⟩ := f5 ss tp (fun b hb na => kk b (List.mem_cons_of_mem _ (e4 b hb)) na) h' n' (fun b hb => by
            rcases m' b hb with z | z
            · exact .inl z
            · exact .inr fun y => z (List.mem_cons_of_mem _ (e4 b y)))
          obtain ⟨B2, r1, r2, r3⟩ := e5 ss tp (fun b hb na => kk b (List.mem_cons_of_mem _ hb) fun z => na (f4 b z)) q1 q2 (fun b hb => by
            rcases q3 b hb with z | z
            · rcases m' b z with y | y
              · exact .inl (f4 b y)
              · exact .inr fun x => y (List.mem_cons_of_mem _ x)
            · exact .inl z.1)
          obtain ⟨k1, k2⟩ := kk a List.mem_cons_self aA1
          have aB2 : a ∉ B2 := fun z => by
            rcases r3 a z with y | y
            · rcases q3 a y with x | x
              · rcases m' a x with w | w
                · exact aA1 w
                · exact w List.mem_cons_self
              · exact ndc.1 (e4 a x.1)
            · exact ndc.1 y.1
          refine ⟨a :: B2, by simp only [OT.put, ht]; exact .nd g0 (by rw [List.length_set]; exact g1) k1 (k2.trans g3) r1, List.nodup_cons.mpr ⟨aB2, r2⟩, fun b hb => ?_⟩
          rcases List.mem_cons.mp hb with z | hb
          · subst z; exact .inr ⟨List.mem_cons_self, aA1⟩
          · rcases r3 b hb with z | z
            · rcases q3 b z with y | y
              · exact .inl y
              · exact .inr ⟨List.mem_cons_of_mem _ (e4 b y.1), y.2⟩
            · exact .inr ⟨List.mem_cons_of_mem _ z.1, fun y => z.2 (f4 b y)⟩
end
/-! ### what stands at a path of a slot -/
def PtE (te : TE) (ρ : Env) (i : Nat) (p : List Nat) : Prop := ∀ (S0 H0 : Hp) (A0 : List Addr) (S H : Hp) (τσ : List (Option V)) (τρ : List OT) (σ : St) (Q : VK), τσ.length = τρ.length → Ok S0 H0 A0 S H (τσ ++ σ) (τρ ++ ρ) →
  (∀ v0 v S' H', Xt S H S' H' → σ[i]? = some (some v0) → follow H' v0 p = some v → Q v H') → te σ H Q
section
variable {ρ ρ1 ρ2 ρ' : Env} {ta tb tc te : TE} {tl : TA} {d e x y : D} {r s t t0 : OT} {S H S' H' S0 H0 : Hp} {A0 : List Addr} {σ τσ : St} {τρ : List OT} {ts : List OT} {js : List Nat} {i : Nat} {p : List Nat}
theorem pt_var (h : ρ[i]? = some t) (hn : t ≠ .no) : PtE (tVar i) ρ i [] := fun S0 H0 A0 S H τσ τρ σ Q l o q => by
  obtain ⟨v, A, e1, e2⟩ := o.slot l h hn
  exact ⟨v, e1, q v v S H (.refl o.sh) e1 rfl⟩
/-- the slot's tree by its place in the heap -/
theorem Ok.tree (l : τσ.length = τρ.length) (o : Ok S0 H0 A0 S H (τσ ++ σ) (τρ ++ ρ)) (h : ρ[i]? = some t) (hn : t ≠ .no) : ∃ v0 A, σ[i]? = some (some v0) ∧ OOk S H v0 t A ∧ A.Nodup ∧ (∀ a ∈ A, a ∈ A0 ∨ H0 a = none) ∧
    ∀ {S' H' : Hp} {t' : OT} {A' : List Addr}, Xa A0 S0 H0 S' H' → Same S S' → (∀ b xs, H b = some (.tup xs) → H' b = some (.tup xs)) → (∀ a, (∃ u, H a = some u) → a ∉ A → S a = none → S' a = none ∧ H' a = H a) → OOk S' H' v0 t' A' → A'.Nodup → (∀ a ∈ A', a ∈ A ∨ H a = none) →
      Ok S0 H0 A0 S' H' (τσ ++ σ) (τρ ++ ρ.set i t') := by
  obtain ⟨B, he, nd, fr⟩ := o.env
  obtain ⟨w, A, p1, p2, p3, p4, p5⟩ := he.pick nd (i := τρ.length + i) (s := t) (by rw [get_app rfl]; exact h)
  rw [get_app l] at p1
  cases p2 with
  | no => exact (hn rfl).elim
  | @is v0 _ _ p2 =>
    refine ⟨v0, A, p1, p2, p3, fun a ha => fr a (p4 a ha), fun {S' H' t' A'} xa ss tp kk h' n' m' => ?_⟩
    obtain ⟨B', q1, q2, q3⟩ := p5 (S' := S') (H' := H') (v' := some v0) (s' := t') (A' := A') ss tp (fun a ha na => by
      obtain ⟨z1, u, z2, _⟩ := he.at a ha
      exact kk a ⟨u, z2⟩ na z1) (.is h') n' (fun a ha => by
      rcases m' a ha with z | z
      · exact .inl z
      · exact .inr fun hb => by
          obtain ⟨_, u, hu, _⟩ := he.at a hb
          rw [z] at hu; cases hu)
    rw [set_app l, set_app rfl, set_same p1] at q1
    refine ⟨xa, B', q1, q2, fun a ha => ?_⟩
    rcases q3 a ha with z | z
    · rcases m' a z with y | y
      · exact fr a (p4 a y)
      · exact .inr (o.xt.dm a y)
    · exact fr a z.1
theorem pt_ix {n : Int} {j : Nat} {k : Kd} (hp : PtE ta ρ i p) (ht : ρ[i]? = some t) (hs : t.at p = some (.nd .lst ts)) (hb : RdE tb ρ (.int n)) (hj : ixN ts.length n = some j) : PtE (tOp (rIxL kf.K) ta tb) ρ i (p ++ [j]) := fun S0 H0 A0 S H τσ τρ σ Q l o q =>
  hp S0 H0 A0 S H τσ τρ σ _ l o fun v0 v S1 H1 x1 e1 f1 => hb S0 H0 A0 S1 H1 τσ τρ σ _ l (o.ext x1) fun u S2 H2 x2 h2 => by
    cases h2
    have o2 := (o.ext x1).ext x2
    have hn : t ≠ .no := by rintro rfl; cases p <;> simp [OT.at] at hs
    obtain ⟨v0', A, g1, g2, g3, _⟩ := o2.tree l ht hn
    rw [e1] at g1
    cases g1
    obtain ⟨w, A1, f2, f3, _⟩ := ook_path p g2 g3 hs
    have o1 := o.ext x1
    obtain ⟨v0'', A', g1', g2', g3', _⟩ := o1.tree l ht hn
    rw [e1] at g1'
    cases g1'
    obtain ⟨w', A1', f2', f3', _⟩ := ook_path p g2' g3' hs
    rw [f1] at f2'
    cases f2'
    have same : follow H2 v0 p = follow H1 v0 p := by
      have gen : ∀ (p : List Nat) (v w : V), follow H1 v p = some w → follow H2 v p = some w := by
        intro p
        induction p with
        | nil => intro v w h; exact h
        | cons i p ih =>
          intro v w h
          cases v with
          | ref a =>
            simp only [follow] at h ⊢
            cases hk : (kids (H1 a))[i]? with
            | none => rw [hk] at h; cases h
            | some u =>
              rw [hk] at h
              have : kids (H2 a) = kids (H1 a) := by
                cases hh : H1 a with
                | none => rw [hh] at hk; simp [kids] at hk
                | some o' => rw [x2.hh a o' hh]
              rw [this, hk]
              exact ih u w h
          | _ => simp [follow] at h
      rw [f1]
      exact gen p v0 v f1
    rw [f2, f1] at same
    cases same
    cases f3 with
    | @nd a _ vs _ B y0 y1 y2 y3 y4 =>
      have y3 : H2 a = some (.lst vs) := y3
      have len := y4.len
      have hlt : j < vs.length := by
        have := (ixN_seq hj).2.1
        omega
      refine ⟨a, vs, n, vs[j], rfl, rfl, .inl (.of y3), ?_, q v0 vs[j] S2 H2 (x1.trans x2) e1 ?_⟩
      · unfold atI
        rw [len, hj]
        exact List.getElem?_eq_getElem hlt
      · have app : ∀ (p : List Nat) (v : V), follow H2 v p = some (.ref a) → follow H2 v (p ++ [j]) = some vs[j] := by
          intro p
          induction p with
          | nil =>
            intro v h
            simp only [follow, Option.some.injEq] at h
            subst h
            simp only [List.nil_append, follow, y3, kids]
            rw [List.getElem?_eq_getElem hlt]
          | cons i p ih =>
            intro v h
            cases v with
            | ref b =>
              simp only [List.cons_append, follow] at h ⊢
              cases hk : (kids (H2 b))[i]? with
              | none => rw [hk] at h; cases h
              | some u => rw [hk] at h; exact ih u h
            | _ => simp [follow] at h
        exact app p v0 f2
end
end MR
namespace MR
open PySem L2 PL
variable [kf : KF] [wx : WXI]
section
variable {ρ ρ1 ρ2 ρ' : Env} {ta tb tc te : TE} {tl : TA} {d e x : D} {r s t t0 : OT} {S H S' H' S0 H0 : Hp} {A0 : List Addr} {σ τσ : St} {τρ : List OT} {ts : List OT} {js : List Nat} {i : Nat} {p : List Nat} {k : Kd}
theorem OOk.inv_nd {v : V} {A : List Addr} (h : OOk S H v (.nd k ts) A) (hk : k.isTup = false) : ∃ a vs B, v = .ref a ∧ A = a :: B ∧ k.fits ts.length ∧ S a = none ∧ H a = some (shape k vs) ∧ OAll S H vs ts B := by
  cases h with
  | tup h1 h2 => cases hk
  | nd h0 h1 h2 h3 h4 => exact ⟨_, _, _, rfl, rfl, h1, h2, h3, h4⟩
/-- a node of slot i is written anew, with what was held on top -/
theorem Ok.rewrite {y : Option V} (l : τσ.length = τρ.length) (o : Ok S0 H0 A0 S H (y :: (τσ ++ σ)) (r :: (τρ ++ ρ))) (ht : ρ[i]? = some t) (hs : t.at p = some (.nd k ts)) (hk : k.isTup = false) :
    ∃ v0 a vs B C, σ[i]? = some (some v0) ∧ follow H v0 p = some (.ref a) ∧ S a = none ∧ H a = some (shape k vs) ∧ k.fits ts.length ∧ OAll S H vs ts B ∧ OSl S H y r C ∧ (B ++ C).Nodup ∧
      ∀ {k' : Kd} {vs' : List V} {ts' : List OT} {B' : List Addr} {y' : Option V} {r' : OT} {C' : List Addr}, k'.isTup = false → k'.fits ts'.length → OAll S H vs' ts' B' → OSl S H y' r' C' → (B' ++ C').Nodup → (∀ b ∈ B' ++ C', b ∈ B ++ C) →
        Ok S0 H0 A0 S (upd H a (shape k' vs')) (y' :: (τσ ++ σ)) (r' :: (τρ ++ ρ.set i (t.put p (.nd k' ts')))) := by
  obtain ⟨A, he, nd, fr⟩ := o.env
  cases he with
  | @cons _ _ C _ _ D pC pD =>
    have ndA := List.nodup_append.mp nd
    have hn : t ≠ .no := by rintro rfl; cases p <;> simp [OT.at] at hs
    obtain ⟨w, Ai, p1, p2, p3, p4, p5⟩ := pD.pick ndA.2.1 (i := τρ.length + i) (s := t) (by rw [get_app rfl]; exact ht)
    rw [get_app l] at p1
    cases p2 with
    | no => exact (hn rfl).elim
    | @is v0 _ _ p2 =>
      obtain ⟨w, A1, f1, f2, f3, f4, f5⟩ := ook_path p p2 p3 hs
      obtain ⟨a, vs, B, rfl, rfl, g1, g2, g3, g4⟩ := f2.inv_nd hk
      have aB : a ∉ B := (List.nodup_cons.mp f3).1
      have ndB : B.Nodup := (List.nodup_cons.mp f3).2
      have aAi : a ∈ Ai := f4 a List.mem_cons_self
      have aD : a ∈ D := p4 a aAi
      have CD : ∀ b, b ∈ C → b ∉ D := fun b hb hd => ndA.2.2 b hb b hd rfl
      have BAi : ∀ b ∈ B, b ∈ Ai := fun b hb => f4 b (List.mem_cons_of_mem _ hb)
      have ndBC : (B ++ C).Nodup := List.nodup_append.mpr ⟨ndB, ndA.1, fun b hb c hc e => by subst e; exact CD b hc (p4 b (BAi b hb))⟩
      refine ⟨v0, a, vs, B, C, p1, f1, g2, g3, g1, g4, pC, ndBC, fun {k' vs' ts' B' y' r' C'} hk' hf' hB' hC' nd' sub => ?_⟩
      have ne : ∀ b ∈ B ++ C, b ≠ a := fun b hb e => by
        subst e
        rcases List.mem_append.mp hb with z | z
        · exact aB z
        · exact CD b z aD
      have nda' := List.nodup_append.mp nd'
      have tp : ∀ b xs, H b = some (.tup xs) → upd H a (shape k' vs') b = some (.tup xs) := fun b xs e => by
        rw [upd_ne]; exact e
        intro z; subst z; rw [g3] at e; exact shape_tup hk xs (Option.some.inj e)
      have n1 : OOk S (upd H a (shape k' vs')) (.ref a) (.nd k' ts') (a :: B') :=
        .nd hk' hf' g2 upd_same (oall_keep (Same.refl S) tp _ _ _ hB' fun b hb => ⟨(oall_at _ _ _ hB' b hb).1, upd_ne (ne b (sub b (List.mem_append_left _ hb)))⟩)
      have ndaB' : (a :: B').Nodup := List.nodup_cons.mpr ⟨fun z => ne a (sub a (List.mem_append_left _ z)) rfl, nda'.1⟩
      have up : ∀ b, b ≠ a → S b = none → S b = none ∧ upd H a (shape k' vs') b = H b := fun b hb hs => ⟨hs, upd_ne hb⟩
      obtain ⟨B2, q1, q2, q3⟩ := f5 (S' := S) (H' := upd H a (shape k' vs')) (s' := .nd k' ts') (A' := a :: B') (Same.refl S) tp (fun b hb na => up b (fun z => na (z ▸ List.mem_cons_self)) (ook_at _ _ _ p2 b hb).1) n1 ndaB' (fun b hb => by
        rcases List.mem_cons.mp hb with z | z
        · subst z; exact .inl List.mem_cons_self
        · rcases List.mem_append.mp (sub b (List.mem_append_left _ z)) with w | w
          · exact .inl (List.mem_cons_of_mem _ w)
          · exact .inr fun hd => CD b w (p4 b hd))
      obtain ⟨B3, r1, r2, r3⟩ := p5 (S' := S) (H' := upd H a (shape k' vs')) (v' := some v0) (s' := t.put p (.nd k' ts')) (A' := B2) (Same.refl S) tp (fun b hb na => up b (fun z => na (z ▸ aAi)) (pD.at b hb).1) (.is q1) q2 (fun b hb => by
        rcases q3 b hb with z | z
        · rcases List.mem_cons.mp z with z | z
          · subst z; exact .inl aAi
          · rcases List.mem_append.mp (sub b (List.mem_append_left _ z)) with w | w
            · exact .inl (BAi b w)
            · exact .inr (CD b w)
        · exact .inl z.1)
      rw [set_app l, set_app rfl, set_same p1] at r1
      have aF : a ∈ A0 ∨ H0 a = none := fr a (List.mem_append_right _ aD)
      refine ⟨⟨fun b o' hb e => ?_, fun b e => ?_, fun b xs e => tp b xs (o.xt.tp b xs e), o.xt.ss, fun b o' e => ?_, o.xt.nw⟩, C' ++ B3, .cons (hC'.keep (Same.refl S) tp fun b hb => ⟨(hC'.at b hb).1, upd_ne (ne b (sub b (List.mem_append_right _ hb)))⟩) r1, ?_, fun b hb => ?_⟩
      · rw [upd_ne]; exact o.xt.hh b o' hb e
        intro z; subst z
        rcases aF with z | z
        · exact hb z
        · rw [z] at e; cases e
      · by_cases z : b = a
        · subst z; rw [upd_same] at e; cases e
        · rw [upd_ne z] at e; exact o.xt.dm b e
      · rw [upd_ne]; exact o.sh b o' e
        intro z; subst z; rw [g2] at e; cases e
      · refine List.nodup_append.mpr ⟨nda'.2.1, r2, fun b hb c hc e => ?_⟩
        subst e
        have inBC := sub b (List.mem_append_right _ hb)
        rcases r3 b hc with z | z
        · rcases q3 b z with w | w
          · rcases List.mem_cons.mp w with v | v
            · exact ne b inBC v
            · exact nda'.2.2 b v b hb rfl
          · rcases List.mem_append.mp inBC with v | v
            · exact w.2 (List.mem_cons_of_mem _ v)
            · exact CD b v (p4 b w.1)
        · rcases List.mem_append.mp inBC with v | v
          · exact z.2 (BAi b v)
          · exact CD b v z.1
      · have fromBC : ∀ b, b ∈ B ++ C → b ∈ A0 ∨ H0 b = none := fun b hb => by
          rcases List.mem_append.mp hb with z | z
          · exact fr b (List.mem_append_right _ (p4 b (BAi b z)))
          · exact fr b (List.mem_append_left _ z)
        rcases List.mem_append.mp hb with z | z
        · exact fromBC b (sub b (List.mem_append_right _ z))
        · rcases r3 b z with w | w
          · rcases q3 b w with v | v
            · rcases List.mem_cons.mp v with u | u
              · subst u; exact aF
              · exact fromBC b (sub b (List.mem_append_left _ u))
            · exact fr b (List.mem_append_right _ (p4 b v.1))
          · exact fr b (List.mem_append_right _ w.1)
theorem OAll.app : ∀ {ts us : List OT} {vs ws : List V} {A B : List Addr}, OAll S H vs ts A → OAll S H ws us B → OAll S H (vs ++ ws) (ts ++ us) (A ++ B)
  | [], us, _, ws, _, B, h, h' => by cases h; exact h'
  | t :: ts, us, _, ws, _, B, h, h' => by cases h with | cons a b => have := OAll.cons a (b.app h'); simpa [List.append_assoc] using this
theorem OAll.one {v : V} {A : List Addr} (h : OOk S H v t A) : OAll S H [v] [t] A := by have := OAll.cons h .nil; simpa using this
theorem OAll.put {y : V} : ∀ {ts : List OT} {vs : List V} {B C : List Addr} {j : Nat}, OAll S H vs ts B → OOk S H y r C → (B ++ C).Nodup → ∃ B', OAll S H (vs.set j y) (ts.set j r) B' ∧ B'.Nodup ∧ ∀ b ∈ B', b ∈ B ++ C
  | [], _, _, C, j, h, h', nd => by
    cases h; exact ⟨[], .nil, List.nodup_nil, fun b hb => by cases hb⟩
  | t :: ts, _, _, C, 0, h, h', nd => by
    cases h with
    | @cons v vs _ _ A B a b =>
      have nd1 := List.nodup_append.mp nd
      have nd2 := List.nodup_append.mp nd1.1
      refine ⟨C ++ B, .cons h' b, List.nodup_append.mpr ⟨nd1.2.1, nd2.2.1, fun x hx y hy e => ?_⟩, fun x hx => ?_⟩
      · subst e; exact nd1.2.2 x (List.mem_append_right _ hy) x hx rfl
      · rcases List.mem_append.mp hx with z | z
        · exact List.mem_append_right _ z
        · exact List.mem_append_left _ (List.mem_append_right _ z)
  | t :: ts, _, _, C, j + 1, h, h', nd => by
    cases h with
    | @cons v vs _ _ A B a b =>
      have nd1 := List.nodup_append.mp nd
      have nd2 := List.nodup_append.mp nd1.1
      obtain ⟨B', q1, q2, q3⟩ := b.put (j := j) h' (List.nodup_append.mpr ⟨nd2.2.1, nd1.2.1, fun x hx y hy => nd1.2.2 x (List.mem_append_right _ hx) y hy⟩)
      refine ⟨A ++ B', .cons a q1, List.nodup_append.mpr ⟨nd2.1, q2, fun x hx y hy e => ?_⟩, fun x hx => ?_⟩
      · subst e
        rcases List.mem_append.mp (q3 x hy) with z | z
        · exact nd2.2.2 x hx x z rfl
        · exact nd1.2.2 x (List.mem_append_left _ hx) x z rfl
      · rcases List.mem_append.mp hx with z | z
        · exact List.mem_append_left _ (List.mem_append_left _ z)
        · rcases List.mem_append.mp (q3 x z) with w | w
          · exact List.mem_append_left _ (List.mem_append_right _ w)
          · exact List.mem_append_right _ w
theorem OAll.out : ∀ {ts : List OT} {vs : List V} {B : List Addr} {j : Nat}, OAll S H vs ts B → B.Nodup → ts[j]? = some s → ∃ v B' C', vs[j]? = some v ∧ OAll S H (vs.eraseIdx j) (ts.eraseIdx j) B' ∧ OOk S H v s C' ∧ (B' ++ C').Nodup ∧ ∀ b ∈ B' ++ C', b ∈ B
  | [], _, _, j, h, nd, e => by simp at e
  | t :: ts, _, _, 0, h, nd, e => by
    have e : t = s := by simpa using e
    subst e
    cases h with
    | @cons v vs _ _ A B a b =>
      have nd1 := List.nodup_append.mp nd
      exact ⟨v, B, A, rfl, b, a, List.nodup_append.mpr ⟨nd1.2.1, nd1.1, fun x hx y hy e => nd1.2.2 y hy x hx e.symm⟩, fun x hx => by
        rcases List.mem_append.mp hx with z | z
        · exact List.mem_append_right _ z
        · exact List.mem_append_left _ z⟩
  | t :: ts, _, _, j + 1, h, nd, e => by
    cases h with
    | @cons v vs _ _ A B a b =>
      have nd1 := List.nodup_append.mp nd
      obtain ⟨w, B', C', q0, q1, q2, q3, q4⟩ := b.out (j := j) nd1.2.1 (by simpa using e)
      have nd3 := List.nodup_append.mp q3
      refine ⟨w, A ++ B', C', by simpa using q0, .cons a q1, q2, List.nodup_append.mpr ⟨List.nodup_append.mpr ⟨nd1.1, nd3.1, fun x hx y hy e => by subst e; exact nd1.2.2 x hx x (q4 x (List.mem_append_left _ hy)) rfl⟩, nd3.2.1, fun x hx y hy e => ?_⟩, fun x hx => ?_⟩
      · subst e
        rcases List.mem_append.mp hx with z | z
        · exact nd1.2.2 x z x (q4 x (List.mem_append_right _ hy)) rfl
        · exact nd3.2.2 x z x hy rfl
      · rcases List.mem_append.mp hx with z | z
        · rcases List.mem_append.mp z with z | z
          · exact List.mem_append_left _ z
          · exact List.mem_append_right _ (q4 x (List.mem_append_left _ z))
        · exact List.mem_append_right _ (q4 x (List.mem_append_right _ z))
theorem Ok.dummy (o : Ok S0 H0 A0 S H σ ρ) : Ok S0 H0 A0 S H (Option.none :: σ) (.no :: ρ) := by
  obtain ⟨A, h1, h2, h3⟩ := o.env
  exact ⟨o.xt, [] ++ A, .cons .no h1, by simpa using h2, by simpa using h3⟩
/-- the pointer stays where it is as long as the heap only grows -/
theorem follow_mono (x : Xt S H S' H') : ∀ (p : List Nat) (v w : V), follow H v p = some w → follow H' v p = some w := by
  intro p
  induction p with
  | nil => intro v w h; exact h
  | cons i p ih =>
    intro v w h
    cases v with
    | ref a =>
      simp only [follow] at h ⊢
      cases hk : (kids (H a))[i]? with
      | none => rw [hk] at h; cases h
      | some u =>
        rw [hk] at h
        have e : kids (H' a) = kids (H a) := by
          cases hh : H a with
          | none => rw [hh] at hk; simp [kids] at hk
          | some o' => rw [x.hh a o' hh]
        rw [e, hk]
        exact ih u w h
    | _ => simp [follow] at h
/-- a fresh result; nothing changes -/
def EvF (te : TE) (ρ : Env) (r : OT) : Prop := ∀ (S0 H0 : Hp) (A0 : List Addr) (S H : Hp) (τσ : List (Option V)) (τρ : List OT) (σ : St) (Q : VK), τσ.length = τρ.length → Ok S0 H0 A0 S H (τσ ++ σ) (τρ ++ ρ) →
  (∀ v S' H' A, Xt S H S' H' → OOk S' H' v r A → A.Nodup → (∀ a ∈ A, H a = none) → Q v H') → te σ H Q
theorem evf_flat (h : RdE te ρ x) (f : tfl x = true) : EvF te ρ (.d x) := fun S0 H0 A0 S H τσ τρ σ Q l o q => h S0 H0 A0 S H τσ τρ σ Q l o fun v S' H' xt hr => q v _ H' [] (xt.trans (xt_frz xt.sh)) (.d (rp_tfl [] x v f hr)) List.nodup_nil (fun a ha => by cases ha)
/-- xs.append(e), xs a path -/
theorem run_append {tp : TE} {t : OT} (hp : PtE tp ρ i p) (ht : ρ[i]? = some t) (hs : t.at p = some (.nd .lst ts)) (he : EvF te ρ r) (hn : r ≠ .no) (hz : ts.length ≤ 1000000) :
    RunS js (tDrop (tBM kf.K "list" rAppend tp (tCons te tNil))) ρ .nx (ρ.set i (t.put p (.nd .lst (ts ++ [r])))) := fun S0 H0 A0 S H σ F E hF hx o kk =>
  hp S0 H0 A0 S H [] [] σ _ rfl o fun v0 v S1 H1 x1 e1 f1 => by
    have o1 := o.ext x1
    obtain ⟨w0, a, vs, B, C, g1, g2, _, g3, _⟩ := Ok.rewrite (τσ := []) (τρ := []) rfl o1.dummy ht hs rfl
    rw [e1] at g1; cases g1
    rw [f1] at g2; cases g2
    refine ⟨.inl ⟨rfl, vs, .inl (.inl g3)⟩, he S0 H0 A0 S1 H1 [] [] σ _ rfl o1 fun y S2 H2 A xt hr nd fr => ?_⟩
    have o2 := o1.push xt hr nd fr
    obtain ⟨w0', a', vs', B', C', g1', g2', g5, g3', g6, g7, g8, g9, g10⟩ := Ok.rewrite (τσ := []) (τρ := []) rfl o2 ht hs rfl
    rw [e1] at g1'; cases g1'
    rw [follow_mono xt p _ _ f1] at g2'
    cases g2'
    have : vs' = vs := by rw [xt.hh _ _ g3] at g3'; simp [shape] at g3'; exact g3'.symm
    subst this
    refine ⟨a, vs', y, rfl, rfl, xt.hh _ _ g3, sz_lt (by rw [g7.len]; exact hz), ?_⟩
    cases g8 with
    | no => exact (hn rfl).elim
    | is g8 =>
      have := g10 (k' := .lst) (y' := Option.none) (r' := .no) (C' := []) rfl trivial (g7.app (.one g8)) .no (by simpa using g9) (by simp)
      exact kk S2 _ σ (x1.ss.trans xt.ss) hx this.drop
/-- .. of a slot, whatever e does -/
theorem run_appendY (h0 : ρ[i]? = some t0) (h0n : ∃ us, t0 = .nd .lst us) (he : EvY te ρ r ρ1) (ht : ρ1[i]? = some (.nd .lst ts)) (hn : r ≠ .no) (hz : ts.length ≤ 1000000) :
    RunS js (tDrop (tBM kf.K "list" rAppend (tVar i) (tCons te tNil))) ρ .nx (ρ1.set i (.nd .lst (ts ++ [r]))) := fun S0 H0 A0 S H σ F E hF hx o kk => by
  obtain ⟨us, rfl⟩ := h0n
  obtain ⟨w0, a, vs, B, C, g1, g2, _, g3, _⟩ := Ok.rewrite (τσ := []) (τρ := []) (p := []) rfl o.dummy h0 rfl rfl
  simp only [follow, Option.some.injEq] at g2
  subst g2
  refine ⟨_, g1, .inl ⟨rfl, vs, .inl (.inl g3)⟩, he S0 H0 A0 S H [] [] σ _ rfl o fun y S2 H2 s2 o2 => ?_⟩
  obtain ⟨w0', a', vs', B', C', g1', g2', g5, g3', g6, g7, g8, g9, g10⟩ := Ok.rewrite (τσ := []) (τρ := []) (p := []) rfl o2 ht rfl rfl
  rw [g1] at g1'; cases g1'
  simp only [follow, Option.some.injEq] at g2'
  cases g2'
  refine ⟨a, vs', y, rfl, rfl, g3', sz_lt (by rw [g7.len]; exact hz), ?_⟩
  cases g8 with
  | no => exact (hn rfl).elim
  | is g8 =>
    have := g10 (k' := .lst) (y' := Option.none) (r' := .no) (C' := []) rfl trivial (g7.app (.one g8)) .no (by simpa using g9) (by simp)
    exact kk S2 _ σ s2 hx this.drop
/-- xs[j] = e -/
theorem run_setitem {tp : TE} {t : OT} {n : Int} {j : Nat} (he : EvY te ρ r ρ1) (hp : PtE tp ρ1 i p) (ht : ρ1[i]? = some t) (hs : t.at p = some (.nd .lst ts)) (hi : RdE tb ρ1 (.int n)) (hj : ixN ts.length n = some j) (hn : r ≠ .no) :
    RunS js (tAsg te (gSub tp tb rSetL)) ρ .nx (ρ1.set i (t.put p (.nd .lst (ts.set j r)))) := fun S0 H0 A0 S H σ F E hF hx o kk =>
  he S0 H0 A0 S H [] [] σ _ rfl o fun y S1 H1 s1 o1 => hp S0 H0 A0 S1 H1 [some y] [r] σ _ rfl o1 fun v0 v S2 H2 x2 e1 f1 => hi S0 H0 A0 S2 H2 [some y] [r] σ _ rfl (o1.ext x2) fun u S3 H3 x3 h3 => by
    cases h3
    have o3 := (o1.ext x2).ext x3
    obtain ⟨w0', a', vs', B', C', g1', g2', g5, g3', g6, g7, g8, g9, g10⟩ := Ok.rewrite (τσ := []) (τρ := []) rfl o3 ht hs rfl
    rw [e1] at g1'; cases g1'
    rw [follow_mono x3 p _ _ f1] at g2'
    cases g2'
    cases g8 with
    | no => exact (hn rfl).elim
    | is g8 =>
      obtain ⟨B2, q1, q2, q3⟩ := g7.put (j := j) g8 g9
      refine ⟨a', vs', n, j, rfl, rfl, g3', by rw [g7.len]; exact hj, ?_⟩
      have := g10 (k' := .lst) (y' := Option.none) (r' := .no) (C' := []) rfl trivial q1 .no (by simpa using q2) (by simpa using q3)
      exact kk S3 _ σ (s1.trans (x2.ss.trans x3.ss)) hx this.drop
/-- xs.pop(e) of a slot -/
theorem evy_pop {n : Int} {j : Nat} (h0 : ρ[i]? = some t0) (h0n : ∃ us, t0 = .nd .lst us) (he : EvD te ρ (.int n) ρ1) (ht : ρ1[i]? = some (.nd .lst ts)) (hj : seqIndex? n ts.length = some j) (hs : ts[j]? = some s) (hb : -(2 ^ 63) ≤ n ∧ n < 2 ^ 63) :
    EvY (tBM kf.K "list" rPopAt (tVar i) (tCons te tNil)) ρ s (ρ1.set i (.nd .lst (ts.eraseIdx j))) := fun S0 H0 A0 S H τσ τρ σ Q l o q => by
  obtain ⟨us, rfl⟩ := h0n
  obtain ⟨w0, a, vs, B, C, g1, g2, _, g3, _⟩ := Ok.rewrite (p := []) l o.dummy h0 rfl rfl
  simp only [follow, Option.some.injEq] at g2
  subst g2
  refine ⟨_, g1, .inl ⟨rfl, vs, .inl (.inl g3)⟩, he S0 H0 A0 S H τσ τρ σ _ l o fun y S2 H2 s2 o2 hy => ?_⟩
  cases hy
  obtain ⟨w0', a', vs', B', C', g1', g2', g5, g3', g6, g7, g8, g9, g10⟩ := Ok.rewrite (p := []) l o2.dummy ht rfl rfl
  rw [g1] at g1'; cases g1'
  simp only [follow, Option.some.injEq] at g2'
  cases g2'
  obtain ⟨v, B2, C2, q0, q1, q2, q3, q4⟩ := g7.out (j := j) (List.nodup_append.mp g9).1 hs
  refine ⟨a, vs', n, j, v, rfl, rfl, g3', hb.1, hb.2, by rw [g7.len]; exact hj, q0, ?_⟩
  have := g10 (k' := .lst) (y' := some v) (r' := s) (C' := C2) rfl trivial q1 (.is q2) q3 (fun b hb => List.mem_append_left _ (q4 b hb))
  exact q v S2 _ s2 this
theorem run_clear {tp : TE} {t : OT} (hp : PtE tp ρ i p) (ht : ρ[i]? = some t) (hs : t.at p = some (.nd .lst ts)) :
    RunS js (tDrop (tBM0 kf.K "list" rClear tp)) ρ .nx (ρ.set i (t.put p (.nd .lst []))) := fun S0 H0 A0 S H σ F E hF hx o kk =>
  hp S0 H0 A0 S H [] [] σ _ rfl o fun v0 v S1 H1 x1 e1 f1 => by
    have o1 := o.ext x1
    obtain ⟨w0, a, vs, B, C, g1, g2, g5, g3, g6, g7, g8, g9, g10⟩ := Ok.rewrite (τσ := []) (τρ := []) rfl o1.dummy ht hs rfl
    rw [e1] at g1; cases g1
    rw [f1] at g2; cases g2
    refine ⟨.inl ⟨rfl, vs, .inl (.inl g3)⟩, a, vs, rfl, rfl, g3, ?_⟩
    have := g10 (k' := .lst) (vs' := []) (ts' := []) (B' := []) (y' := Option.none) (r' := .no) (C' := []) rfl trivial .nil .no List.nodup_nil (fun b hb => by simp at hb)
    exact kk S1 _ σ x1.ss hx this.drop
end
end MR
/-! MR: the mirror: pure functions over slots, told by the terms -/
namespace MR
open PySem L2 PL
abbrev Rm := Env → Option D
abbrev Ym := Env → Option (OT × Env)
abbrev Dm := Env → Option (D × Env)
abbrev Bm := Env → Option Bool
abbrev Tm := Env → Option (Bool × Env)
abbrev Lm := Env → Option (List D × Env)
abbrev Qm := Env → Option (List D)
abbrev Om := Env → Option (List OT × Env)
abbrev Sm := Env → Option (Fl × Env)
abbrev Gm := D → Env → Option Env
abbrev Gms := List D → Env → Option Env
variable [kf : KF] [wx : WXI]
def CR (te : TE) (m : Rm) : Prop := ∀ ρ x, m ρ = some x → RdE te ρ x
def CY (te : TE) (m : Ym) : Prop := ∀ ρ r ρ', m ρ = some (r, ρ') → EvY te ρ r ρ'
def CD (te : TE) (m : Dm) : Prop := ∀ ρ x ρ', m ρ = some (x, ρ') → EvD te ρ x ρ'
def CB (tt : TT) (m : Bm) : Prop := ∀ ρ b, m ρ = some b → RdB tt ρ b
def CT (tt : TT) (m : Tm) : Prop := ∀ ρ b ρ', m ρ = some (b, ρ') → EvT tt ρ b ρ'
def CL (ta : TA) (m : Lm) : Prop := ∀ ρ xs ρ', m ρ = some (xs, ρ') → EvL ta ρ xs ρ'
def CQ (ta : TA) (m : Qm) : Prop := ∀ ρ xs, m ρ = some xs → RdL ta ρ xs
def CO (ta : TA) (m : Om) : Prop := ∀ ρ rs ρ', m ρ = some (rs, ρ') → EvYs ta ρ rs ρ' ∧ ∀ r ∈ rs, r ≠ .no
def CI (wi : TI) (m : Lm) : Prop := ∀ ρ xs ρ', m ρ = some (xs, ρ') → IterM wi ρ xs ρ'
def CS (js : List Nat) (t : TS) (m : Sm) : Prop := ∀ ρ fl ρ', m ρ = some (fl, ρ') → RunS js t ρ fl ρ'
def CG (g : TG) (m : Gm) (is : List Nat) : Prop := ∀ ρ x ρ', m x ρ = some ρ' → TgM g x ρ ρ' is
def CGs (g : TGs) (m : Gms) (is : List Nat) : Prop := ∀ ρ xs ρ', m xs ρ = some ρ' → TgMs g xs ρ ρ' is
/-- at the slot i the path that is told, and what stands there -/
abbrev Pm := Env → Option (List Nat × OT)
def CP (te : TE) (i : Nat) (m : Pm) : Prop := ∀ ρ p s, m ρ = some (p, s) → PtE te ρ i p ∧ ∃ t, ρ[i]? = some t ∧ t.at p = some s
/-! ### reading -/
def rVar (i : Nat) : Rm := fun ρ => (ρ[i]?).bind OT.toD
def rC (x : D) : Rm := fun _ => some x
def rOp (g : D → D → Option D) (a b : Rm) : Rm := fun ρ => (a ρ).bind fun d => (b ρ).bind fun e => g d e
def rUn (g : D → Option D) (a : Rm) : Rm := fun ρ => (a ρ).bind g
def rCb (g : List D → Option D) (a : Qm) : Rm := fun ρ => (a ρ).bind g
def rCall (f : List D → Option OT) (n : Nat) (a : Qm) : Rm := fun ρ => (a ρ).bind fun ds => if ds.length = n then (f ds).bind OT.toD else Option.none
def asB : D → Option Bool
  | .bool b => some b
  | _ => Option.none
def rAnd (a b : Rm) : Rm := fun ρ => ((a ρ).bind asB).bind fun c => if c then ((b ρ).bind asB).map .bool else some (.bool false)
def rOr (a b : Rm) : Rm := fun ρ => ((a ρ).bind asB).bind fun c => if c then some (.bool true) else ((b ρ).bind asB).map .bool
def rNot (a : Rm) : Rm := fun ρ => ((a ρ).bind asB).map fun b => .bool (!b)
def rIf (t : Bm) (a b : Rm) : Rm := fun ρ => (t ρ).bind fun c => if c then a ρ else b ρ
def small (xs : List D) : Option (List D) := if xs.length ≤ 1000000 then some xs else Option.none
def rTup (a : Qm) : Rm := fun ρ => ((a ρ).bind small).map .tuple
def rLst (a : Qm) : Rm := fun ρ => ((a ρ).bind small).map .list
def qNil : Qm := fun _ => some []
def qCons (a : Rm) (b : Qm) : Qm := fun ρ => (a ρ).bind fun x => (b ρ).map fun xs => x :: xs
def bR (a : Rm) : Bm := fun ρ => (a ρ).bind asB
def bAnd (a b : Bm) : Bm := fun ρ => (a ρ).bind fun c => if c then b ρ else some false
def bOr (a b : Bm) : Bm := fun ρ => (a ρ).bind fun c => if c then some true else b ρ
def bNot (a : Bm) : Bm := fun ρ => (a ρ).map not
def bList (a : Rm) : Bm := fun ρ => (a ρ).bind fun d => match d with
  | .list ds => some (!ds.isEmpty)
  | _ => Option.none
section
variable {ta tb tc te : TE} {tl tr : TA} {t u : TT} {a b c : Rm} {q p : Qm} {m k : Bm} {R : R2} {E : XK}
theorem c_var (i : Nat) : CR (tVar i) (rVar i) := fun ρ x h => by
  simp only [rVar, Option.bind_eq_some_iff] at h
  obtain ⟨t, h1, h2⟩ := h
  exact rd_var h1 h2
theorem c_c {v : V} {x : D} (h : vD v = some x) : CR (tC v) (rC x) := fun ρ y e => by cases e; exact rd_c h
/-- an operator that tells flat data -/
def OpM (R : R2) (g : D → D → Option D) : Prop := ∀ d e x, g d e = some x → OpF R d e x
theorem c_op {g : D → D → Option D} (hR : OpM R g) (ha : CR ta a) (hb : CR tb b) : CR (tOp R ta tb) (rOp g a b) := fun ρ x h => by
  simp only [rOp, Option.bind_eq_some_iff] at h
  obtain ⟨d, h1, e, h2, h3⟩ := h
  exact rd_op (ha _ _ h1) (hb _ _ h2) (hR _ _ _ h3)
def IxM (R : R2) (g : D → D → Option D) : Prop := ∀ d e x, g d e = some x → IxZ R d e x
theorem c_ix {g : D → D → Option D} (hR : IxM R g) (ha : CR ta a) (hb : CR tb b) : CR (tOp R ta tb) (rOp g a b) := fun ρ x h => by
  simp only [rOp, Option.bind_eq_some_iff] at h
  obtain ⟨d, h1, e, h2, h3⟩ := h
  exact rd_ix (ha _ _ h1) (hb _ _ h2) (ixs_of (hR _ _ _ h3))
def UnM (R : V → Hp → VK → Prop) (g : D → Option D) : Prop := ∀ d x, g d = some x → ∀ (H : Hp) (v : V) (Q : VK), Rp H v d → (∀ w, vD w = some x → Q w H) → R v H Q
theorem c_un {R : V → Hp → VK → Prop} {g : D → Option D} (hR : UnM R g) (ha : CR ta a) : CR (tUn R ta) (rUn g a) := fun ρ x h => by
  simp only [rUn, Option.bind_eq_some_iff] at h
  obtain ⟨d, h1, h2⟩ := h
  exact rd_un (ha _ _ h1) (hR _ _ h2)
def CbM (R : List V → Hp → VK → Prop) (g : List D → Option D) : Prop := ∀ ds x, g ds = some x → CbF R ds x
theorem c_cb {R : List V → Hp → VK → Prop} {g : List D → Option D} (hR : CbM R g) (ha : CQ tl q) : CR (tCB R tl) (rCb g q) := fun ρ x h => by
  simp only [rCb, Option.bind_eq_some_iff] at h
  obtain ⟨d, h1, h2⟩ := h
  exact rd_cb (ha _ _ h1) (hR _ _ h2)
theorem c_call {f : List D → Option OT} {n : Nat} (ha : CQ tl q) : CR (tCall (spP n f) [] E tl) (rCall f n q) := fun ρ x h => by
  simp only [rCall, Option.bind_eq_some_iff] at h
  obtain ⟨d, h1, h2⟩ := h
  split at h2
  · rename_i hn
    simp only [Option.bind_eq_some_iff] at h2
    obtain ⟨r, h3, h4⟩ := h2
    exact rd_call (ha _ _ h1) hn h3 h4
  · cases h2
theorem asB_some {x : D} {b : Bool} (h : asB x = some b) : x = .bool b := by cases x <;> simp [asB] at h; rw [h]
theorem c_and (ha : CR ta a) (hb : CR tb b) : CR (tAndV ta tb) (rAnd a b) := fun ρ x h => by
  simp only [rAnd, Option.bind_eq_some_iff] at h
  obtain ⟨cc, ⟨d, h1, h2⟩, h3⟩ := h
  have e := asB_some h2
  subst e
  refine fun S0 H0 A0 S H τσ τρ σ Q l o q => ha _ _ h1 S0 H0 A0 S H τσ τρ σ _ l o fun v S1 H1 x1 r1 => ?_
  cases r1
  refine ⟨cc, rfl, ?_⟩
  cases cc with
  | true =>
    simp only [if_true, Option.map_eq_some_iff, Option.bind_eq_some_iff] at h3
    obtain ⟨b', ⟨d', g1, g2⟩, rfl⟩ := h3
    have e := asB_some g2
    subst e
    exact iteT (hb _ _ g1 S0 H0 A0 S1 H1 τσ τρ σ _ l (o.ext x1) fun v S2 H2 x2 r2 => q v S2 H2 (x1.trans x2) r2)
  | false =>
    simp at h3
    subst h3
    exact iteF (q _ S1 H1 x1 (.bl false))
theorem c_not (ha : CR ta a) : CR (tNotV ta) (rNot a) := fun ρ x h => by
  simp only [rNot, Option.map_eq_some_iff, Option.bind_eq_some_iff] at h
  obtain ⟨cc, ⟨d, h1, h2⟩, rfl⟩ := h
  have e := asB_some h2
  subst e
  refine fun S0 H0 A0 S H τσ τρ σ Q l o q => ha _ _ h1 S0 H0 A0 S H τσ τρ σ _ l o fun v S1 H1 x1 r1 => ?_
  cases r1
  exact ⟨cc, rfl, q _ S1 H1 x1 (.bl _)⟩
theorem small_some {xs ys : List D} (h : small xs = some ys) : xs = ys ∧ ys.length ≤ 1000000 := by
  unfold small at h
  split at h
  · cases h; exact ⟨rfl, by assumption⟩
  · cases h
theorem c_tup (ha : CQ tl q) : CR (tTup tl) (rTup q) := fun ρ x h => by
  simp only [rTup, Option.map_eq_some_iff, Option.bind_eq_some_iff] at h
  obtain ⟨xs, ⟨ys, h1, h2⟩, rfl⟩ := h
  obtain ⟨rfl, h3⟩ := small_some h2
  exact rd_tup (ha _ _ h1) h3
theorem c_lst (ha : CQ tl q) : CR (tLst tl) (rLst q) := fun ρ x h => by
  simp only [rLst, Option.map_eq_some_iff, Option.bind_eq_some_iff] at h
  obtain ⟨xs, ⟨ys, h1, h2⟩, rfl⟩ := h
  obtain ⟨rfl, h3⟩ := small_some h2
  exact rd_lst (ha _ _ h1) h3
theorem c_qnil : CQ tNil qNil := fun ρ x h => by cases h; exact rdl_nil
theorem c_qcons (ha : CR ta a) (hb : CQ tr q) : CQ (tCons ta tr) (qCons a q) := fun ρ x h => by
  simp only [qCons, Option.bind_eq_some_iff, Option.map_eq_some_iff] at h
  obtain ⟨d, h1, xs, h2, rfl⟩ := h
  exact rdl_cons (ha _ _ h1) (hb _ _ h2)
/-! tests -/
theorem c_bR (ha : CR ta a) : CB (tTest ta) (bR a) := fun ρ b h => by
  simp only [bR, Option.bind_eq_some_iff] at h
  obtain ⟨d, h1, h2⟩ := h
  have e := asB_some h2
  subst e
  refine fun S0 H0 A0 S H τσ τρ σ Q l o q => ha _ _ h1 S0 H0 A0 S H τσ τρ σ _ l o fun v S1 H1 x1 r1 => ?_
  cases r1
  exact ⟨b, rfl, q S1 H1 x1⟩
theorem c_bB (ha : CR ta a) : CB (tB ta) (bR a) := fun ρ b h => by
  simp only [bR, Option.bind_eq_some_iff] at h
  obtain ⟨d, h1, h2⟩ := h
  have e := asB_some h2
  subst e
  refine fun S0 H0 A0 S H τσ τρ σ Q l o q => ha _ _ h1 S0 H0 A0 S H τσ τρ σ _ l o fun v S1 H1 x1 r1 => ?_
  cases r1
  exact ⟨b, rfl, q S1 H1 x1⟩
theorem c_bAnd (ha : CB t m) (hb : CB u k) : CB (tAnd t u) (bAnd m k) := fun ρ b h => by
  simp only [bAnd, Option.bind_eq_some_iff] at h
  obtain ⟨cc, h1, h2⟩ := h
  refine fun S0 H0 A0 S H τσ τρ σ Q l o q => ha _ _ h1 S0 H0 A0 S H τσ τρ σ _ l o fun S1 H1 x1 => ?_
  cases cc with
  | true => exact iteT (hb _ _ h2 S0 H0 A0 S1 H1 τσ τρ σ _ l (o.ext x1) fun S2 H2 x2 => q S2 H2 (x1.trans x2))
  | false => simp at h2; subst h2; exact iteF (q S1 H1 x1)
theorem c_bOr (ha : CB t m) (hb : CB u k) : CB (tOr t u) (bOr m k) := fun ρ b h => by
  simp only [bOr, Option.bind_eq_some_iff] at h
  obtain ⟨cc, h1, h2⟩ := h
  refine fun S0 H0 A0 S H τσ τρ σ Q l o q => ha _ _ h1 S0 H0 A0 S H τσ τρ σ _ l o fun S1 H1 x1 => ?_
  cases cc with
  | false => exact iteF (hb _ _ h2 S0 H0 A0 S1 H1 τσ τρ σ _ l (o.ext x1) fun S2 H2 x2 => q S2 H2 (x1.trans x2))
  | true => simp at h2; subst h2; exact iteT (q S1 H1 x1)
theorem c_bNot (ha : CB t m) : CB (tNot t) (bNot m) := fun ρ b h => by
  simp only [bNot, Option.map_eq_some_iff] at h
  obtain ⟨cc, h1, rfl⟩ := h
  exact fun S0 H0 A0 S H τσ τρ σ Q l o q => ha _ _ h1 S0 H0 A0 S H τσ τρ σ _ l o fun S1 H1 x1 => q S1 H1 x1
theorem c_bList (ha : CR ta a) : CB (fun σ H Q => ta σ H fun x H' => ∃ k, TruV kf.K x H' k ∧ Q k H') (bList a) := fun ρ b h => by
  simp only [bList, Option.bind_eq_some_iff] at h
  obtain ⟨d, h1, h2⟩ := h
  refine fun S0 H0 A0 S H τσ τρ σ Q l o q => ha _ _ h1 S0 H0 A0 S H τσ τρ σ _ l o fun v S1 H1 x1 r1 => ?_
  cases d with
  | list ds =>
    simp only [Option.some.injEq] at h2
    subst h2
    cases r1 with
    | @lst a xs _ r1 r2 =>
      refine ⟨_, .inl ⟨xs, r1, rfl⟩, ?_⟩
      have e : xs.isEmpty = ds.isEmpty := by
        have l := dpa_length r2
        cases xs <;> cases ds <;> simp at l ⊢
      rw [e]
      exact q S1 H1 x1
  | _ => cases h2
end
/-! ### whatever is told -/
def yVar (i : Nat) : Ym := fun ρ => match ρ[i]? with
  | some (.d x) => some (.d x, ρ)
  | some t => (OT.toD t).map fun x => (.d x, ρ.set i (.d x))
  | Option.none => Option.none
def yMov (i : Nat) : Ym := fun ρ => match ρ[i]? with
  | some .no => Option.none
  | some t => some (t, ρ.set i .no)
  | Option.none => Option.none
/-- read, where it is flat -/
def yR (a : Rm) : Ym := fun ρ => (a ρ).bind fun x => if tfl x then some (.d x, ρ) else Option.none
/-- read, where it is flat; else by the other way -/
def yAuto (a : Rm) (y : Ym) : Ym := fun ρ => match a ρ with
  | some x => if tfl x then some (.d x, ρ) else y ρ
  | Option.none => y ρ
/-- frozen -/
def dY (y : Ym) : Dm := fun ρ => (y ρ).bind fun p => (OT.toD p.1).map fun x => (x, p.2)
def yD (y : Dm) : Ym := fun ρ => (y ρ).map fun p => (.d p.1, p.2)
def dR (a : Rm) : Dm := fun ρ => (a ρ).bind fun x => if tfl x then some (x, ρ) else Option.none
def dOp (g : D → D → Option D) (a b : Dm) : Dm := fun ρ => (a ρ).bind fun p => (b p.2).bind fun q => (g p.1 q.1).map fun x => (x, q.2)
def dOpR (g : D → D → Option D) (a : Dm) (b : Rm) : Dm := fun ρ => (a ρ).bind fun p => (b p.2).bind fun e => (g p.1 e).map fun x => (x, p.2)
def dCb (g : List D → Option D) (a : Lm) : Dm := fun ρ => (a ρ).bind fun p => (g p.1).map fun x => (x, p.2)
def yCall (f : List D → Option OT) (n : Nat) (a : Lm) : Ym := fun ρ => (a ρ).bind fun p => if p.1.length = n then (f p.1).map fun r => (r, p.2) else Option.none
def lfO : Option OT → Option OT
  | some r => if r.lf then some r else Option.none
  | Option.none => Option.none
/-- with read arguments, where what is told is flat within; else with frozen ones -/
def yCallA (f : List D → Option OT) (n : Nat) (q : Qm) (a : Lm) : Ym := fun ρ => match (q ρ).bind fun ds => if ds.length = n then lfO (f ds) else Option.none with
  | some r => some (r, ρ)
  | Option.none => yCall f n a ρ
def yCallI (f : OT → List D → Option (OT × OT)) (n i : Nat) (a : Lm) : Ym := fun ρ => match ρ[i]? with
  | some .no => Option.none
  | some _ => (a ρ).bind fun p => match p.2[i]? with
    | some .no => Option.none
    | some t => if p.1.length + 1 = n then (f t p.1).map fun q => (q.1, p.2.set i q.2) else Option.none
    | Option.none => Option.none
  | Option.none => Option.none
def yCb (G : List D → Option OT) (a : Lm) : Ym := fun ρ => (a ρ).bind fun p => (G p.1).map fun r => (r, p.2)
def yCbA (G : List D → Option OT) (q : Qm) (a : Lm) : Ym := fun ρ => match (q ρ).bind fun ds => lfO (G ds) with
  | some r => some (r, ρ)
  | Option.none => yCb G a ρ
def yOp (G : D → D → Option OT) (a b : Dm) : Ym := fun ρ => (a ρ).bind fun p => (b p.2).bind fun q => (G p.1 q.1).map fun r => (r, q.2)
def yOpA (G : D → D → Option OT) (ra rb : Rm) (a b : Dm) : Ym := fun ρ => match (ra ρ).bind fun d => (rb ρ).bind fun e => lfO (G d e) with
  | some r => some (r, ρ)
  | Option.none => yOp G a b ρ
def lNil : Lm := fun ρ => some ([], ρ)
def lCons (a : Dm) (b : Lm) : Lm := fun ρ => (a ρ).bind fun p => (b p.2).map fun q => (p.1 :: q.1, q.2)
def oNil : Om := fun ρ => some ([], ρ)
def isNo : OT → Bool
  | .no => true
  | _ => false
def oCons (a : Ym) (b : Om) : Om := fun ρ => (a ρ).bind fun p => if isNo p.1 then Option.none else (b p.2).map fun q => (p.1 :: q.1, q.2)
def yTup (a : Om) : Ym := fun ρ => (a ρ).bind fun p => if p.1.length ≤ 1000000 then some (.nd .tup p.1, p.2) else Option.none
def yLst (a : Om) : Ym := fun ρ => (a ρ).bind fun p => if p.1.length ≤ 1000000 then some (.nd .lst p.1, p.2) else Option.none
def tR (a : Bm) : Tm := fun ρ => (a ρ).map fun b => (b, ρ)
def tD (a : Dm) : Tm := fun ρ => (a ρ).bind fun p => (asB p.1).map fun b => (b, p.2)
def tmAnd (a b : Tm) : Tm := fun ρ => (a ρ).bind fun p => if p.1 then b p.2 else some (false, p.2)
def tmOr (a b : Tm) : Tm := fun ρ => (a ρ).bind fun p => if p.1 then some (true, p.2) else b p.2
def tmNot (a : Tm) : Tm := fun ρ => (a ρ).map fun p => (!p.1, p.2)
def dAnd (a b : Dm) : Dm := fun ρ => (a ρ).bind fun p => (asB p.1).bind fun c => if c then (b p.2).bind fun q => (asB q.1).map fun e => (.bool e, q.2) else some (.bool false, p.2)
def dOr (a b : Dm) : Dm := fun ρ => (a ρ).bind fun p => (asB p.1).bind fun c => if c then some (.bool true, p.2) else (b p.2).bind fun q => (asB q.1).map fun e => (.bool e, q.2)
def dNot (a : Dm) : Dm := fun ρ => (a ρ).bind fun p => (asB p.1).map fun c => (.bool (!c), p.2)
def rsts (vs : List Nat) (ρ1 : Env) : Option (List OT × Env) → Option (OT × Env)
  | some (rs, ρ2) => some (.nd .lst rs, rst ρ2 ρ1 vs)
  | Option.none => Option.none
def lcStep (g : Gm) (t : Tm) (e : Ym) : D → Env → Option (Option OT × Env) := fun x ρ => (g x ρ).bind fun ρm => (t ρm).bind fun p => if p.1 then (e p.2).bind fun q => if isNo q.1 then Option.none else some (some q.1, q.2) else some (Option.none, p.2)
def yLc (vs : List Nat) (it : Lm) (g : Gm) (t : Tm) (e : Ym) : Ym := fun ρ => (it ρ).bind fun p => if calmAt p.2 vs && decide (p.1.length ≤ 1000000) then rsts vs p.2 (mLc vs (lcStep g t e) p.1 [] (wipeE p.2 vs)) else Option.none
section
variable {ta tb tc te : TE} {tl tr : TA} {t u : TT} {a b c : Rm} {q p : Qm} {m k : Bm} {R : R2} {E : XK} {y z : Ym} {dm dn : Dm} {lm ln : Lm} {om on : Om} {tm tn : Tm}
theorem c_yvar (i : Nat) : CY (tVar i) (yVar i) := fun ρ r ρ' h => by
  unfold yVar at h
  split at h
  · cases h; exact evy_of (evd_varD (by assumption))
  · simp only [Option.map_eq_some_iff] at h
    obtain ⟨x, h1, h2⟩ := h
    cases h2
    exact evy_of (evd_var (by assumption) h1)
  · cases h
theorem c_ymov (i : Nat) : CY (tVar i) (yMov i) := fun ρ r ρ' h => by
  unfold yMov at h
  split at h
  · cases h
  · rename_i t hn ht
    cases h
    exact evy_mov ht hn
  · cases h
theorem c_yR (ha : CR ta a) : CY ta (yR a) := fun ρ r ρ' h => by
  simp only [yR, Option.bind_eq_some_iff] at h
  obtain ⟨x, h1, h2⟩ := h
  split at h2
  · cases h2; exact evy_of (evd_flat (ha _ _ h1) (by assumption))
  · cases h2
theorem c_yauto (ha : CR ta a) (hy : CY ta y) : CY ta (yAuto a y) := fun ρ r ρ' h => by
  unfold yAuto at h
  split at h
  · rename_i x hx
    split at h
    · cases h; exact evy_of (evd_flat (ha _ _ hx) (by assumption))
    · exact hy _ _ _ h
  · exact hy _ _ _ h
theorem c_dY (hy : CY ta y) : CD ta (dY y) := fun ρ r ρ' h => by
  simp only [dY, Option.bind_eq_some_iff, Option.map_eq_some_iff] at h
  obtain ⟨⟨s, ρ1⟩, h1, x, h2, h3⟩ := h
  cases h3
  exact evd_of (hy _ _ _ h1) h2
theorem c_yD (hy : CD ta dm) : CY ta (yD dm) := fun ρ r ρ' h => by
  simp only [yD, Option.map_eq_some_iff] at h
  obtain ⟨⟨x, ρ1⟩, h1, h3⟩ := h
  cases h3
  exact evy_of (hy _ _ _ h1)
theorem c_dR (ha : CR ta a) : CD ta (dR a) := fun ρ r ρ' h => by
  simp only [dR, Option.bind_eq_some_iff] at h
  obtain ⟨x, h1, h2⟩ := h
  split at h2
  · cases h2; exact evd_flat (ha _ _ h1) (by assumption)
  · cases h2
theorem c_dixR {g : D → D → Option D} (hR : IxM R g) (ha : CD ta dm) (hb : CR tb b) : CD (tOp R ta tb) (dOpR g dm b) := fun ρ r ρ' h => by
  simp only [dOpR, Option.bind_eq_some_iff, Option.map_eq_some_iff] at h
  obtain ⟨⟨d, ρ1⟩, h1, e, h2, x, h3, h4⟩ := h
  cases h4
  exact evd_ixR (ha _ _ _ h1) (hb _ _ h2) (hR _ _ _ h3)
theorem c_dcb {R : List V → Hp → VK → Prop} {g : List D → Option D} (hR : CbM R g) (ha : CL tl lm) : CD (tCB R tl) (dCb g lm) := fun ρ r ρ' h => by
  simp only [dCb, Option.bind_eq_some_iff, Option.map_eq_some_iff] at h
  obtain ⟨⟨d, ρ1⟩, h1, x, h3, h4⟩ := h
  cases h4
  exact evd_cb (ha _ _ _ h1) (hR _ _ h3)
theorem c_ycall {f : List D → Option OT} {n : Nat} (ha : CL tl lm) : CY (tCall (spP n f) [] E tl) (yCall f n lm) := fun ρ r ρ' h => by
  simp only [yCall, Option.bind_eq_some_iff] at h
  obtain ⟨⟨ds, ρ1⟩, h1, h2⟩ := h
  split at h2
  · rename_i hn
    simp only [Option.map_eq_some_iff] at h2
    obtain ⟨r', h3, h4⟩ := h2
    cases h4
    exact evy_call (ha _ _ _ h1) hn h3
  · cases h2
theorem lfO_some {o : Option OT} {r : OT} (h : lfO o = some r) : o = some r ∧ r.lf = true := by
  cases o with
  | none => cases h
  | some t =>
    simp only [lfO] at h
    split at h
    · cases h; exact ⟨rfl, by assumption⟩
    · cases h
theorem c_ycallA {f : List D → Option OT} {n : Nat} (hq : CQ tl q) (ha : CL tl lm) : CY (tCall (spP n f) [] E tl) (yCallA f n q lm) := fun ρ r ρ' h => by
  unfold yCallA at h
  split at h
  · rename_i r' hr
    cases h
    simp only [Option.bind_eq_some_iff] at hr
    obtain ⟨ds, h1, h2⟩ := hr
    split at h2
    · rename_i hn
      obtain ⟨h3, h4⟩ := lfO_some h2
      exact evy_callR (hq _ _ h1) hn h3 h4
    · cases h2
  · exact c_ycall ha _ _ _ h
/-- a built-in that tells something of its own, of frozen arguments -/
def CbZ (R : List V → Hp → VK → Prop) (G : List D → Option OT) : Prop := ∀ ds r, G ds = some r → ∀ (S H : Hp) (vs : List V) (Q : VK), Same S H → RpAll S vs ds → (∀ v' S' H' A, Xt S H S' H' → OOk S' H' v' r A → A.Nodup → (∀ a ∈ A, H a = none) → Q v' H') → R vs H Q
theorem c_ycb {R : List V → Hp → VK → Prop} {G : List D → Option OT} (hR : CbZ R G) (ha : CL tl lm) : CY (tCB R tl) (yCb G lm) := fun ρ r ρ' h => by
  simp only [yCb, Option.bind_eq_some_iff, Option.map_eq_some_iff] at h
  obtain ⟨⟨ds, ρ1⟩, h1, r', h2, h3⟩ := h
  cases h3
  exact fun S0 H0 A0 S H τσ τρ σ Q l o q => ha _ _ _ h1 S0 H0 A0 S H τσ τρ σ _ l o fun vs S1 H1 s1 o1 g1 => hR _ _ h2 S1 H1 vs Q o1.sh g1 fun v' S' H' A xt g2 nd fr => q v' S' H' (s1.trans xt.ss) (o1.push xt g2 nd fr)
theorem c_ycbA {R : List V → Hp → VK → Prop} {G : List D → Option OT} (hR : CbZ R G) (hq : CQ tl q) (ha : CL tl lm) : CY (tCB R tl) (yCbA G q lm) := fun ρ r ρ' h => by
  unfold yCbA at h
  split at h
  · rename_i r' hr
    cases h
    simp only [Option.bind_eq_some_iff] at hr
    obtain ⟨ds, h1, h2⟩ := hr
    obtain ⟨h3, h4⟩ := lfO_some h2
    exact fun S0 H0 A0 S H τσ τρ σ Q l o q => hq _ _ h1 S0 H0 A0 S H τσ τρ σ _ l o fun vs S1 H1 x1 g1 => hR _ _ h3 H1 H1 vs Q (Same.refl H1) g1 fun v' S' H' A xt g2 nd fr =>
      q v' _ H' (x1.trans (xt_low x1.sh xt)).ss ((o.ext x1).push (xt_low x1.sh xt) (ook_lf xt.sh _ _ _ g2 h4 fun a ha => x1.sh.free (fr a ha)) nd fr)
  · exact c_ycb hR ha _ _ _ h
def OpZ (R : R2) (G : D → D → Option OT) : Prop := ∀ d e r, G d e = some r → ∀ (S H : Hp) (v u : V) (Q : VK), Same S H → Rp S v d → Rp S u e → (∀ v' S' H' A, Xt S H S' H' → OOk S' H' v' r A → A.Nodup → (∀ a ∈ A, H a = none) → Q v' H') → R v u H Q
theorem c_yop {G : D → D → Option OT} (hR : OpZ R G) (ha : CD ta dm) (hb : CD tb dn) : CY (tOp R ta tb) (yOp G dm dn) := fun ρ r ρ' h => by
  simp only [yOp, Option.bind_eq_some_iff, Option.map_eq_some_iff] at h
  obtain ⟨⟨d, ρ1⟩, h1, ⟨e, ρ2⟩, h2, r', h3, h4⟩ := h
  cases h4
  exact fun S0 H0 A0 S H τσ τρ σ Q l o q => ha _ _ _ h1 S0 H0 A0 S H τσ τρ σ _ l o fun v S1 H1 s1 o1 g1 => hb _ _ _ h2 S0 H0 A0 S1 H1 τσ τρ σ _ l o1 fun u S2 H2 s2 o2 g2 =>
    hR _ _ _ h3 S2 H2 v u Q o2.sh (dp_mono s2 _ _ g1) g2 fun v' S' H' A xt g3 nd fr => q v' S' H' ((s1.trans s2).trans xt.ss) (o2.push xt g3 nd fr)
theorem c_yopA {G : D → D → Option OT} (hR : OpZ R G) (hra : CR ta a) (hrb : CR tb b) (ha : CD ta dm) (hb : CD tb dn) : CY (tOp R ta tb) (yOpA G a b dm dn) := fun ρ r ρ' h => by
  unfold yOpA at h
  split at h
  · rename_i r' hr
    cases h
    simp only [Option.bind_eq_some_iff] at hr
    obtain ⟨d, h1, e, h2, h3⟩ := hr
    obtain ⟨h3, h4⟩ := lfO_some h3
    exact fun S0 H0 A0 S H τσ τρ σ Q l o q => hra _ _ h1 S0 H0 A0 S H τσ τρ σ _ l o fun v S1 H1 x1 g1 => hrb _ _ h2 S0 H0 A0 S1 H1 τσ τρ σ _ l (o.ext x1) fun u S2 H2 x2 g2 =>
      hR _ _ _ h3 H2 H2 v u Q (Same.refl H2) (dp_mono x2.hh _ _ g1) g2 fun v' S' H' A xt g3 nd fr =>
        q v' _ H' ((x1.trans x2).trans (xt_low x2.sh xt)).ss (((o.ext x1).ext x2).push (xt_low x2.sh xt) (ook_lf xt.sh _ _ _ g3 h4 fun a ha => x2.sh.free (fr a ha)) nd fr)
  · exact c_yop hR ha hb _ _ _ h
theorem c_lnil : CL tNil lNil := fun ρ x ρ' h => by cases h; exact evl_nil
theorem c_lcons (ha : CD ta dm) (hb : CL tr lm) : CL (tCons ta tr) (lCons dm lm) := fun ρ x ρ' h => by
  simp only [lCons, Option.bind_eq_some_iff, Option.map_eq_some_iff] at h
  obtain ⟨⟨d, ρ1⟩, h1, ⟨xs, ρ2⟩, h2, h3⟩ := h
  cases h3
  exact evl_cons (ha _ _ _ h1) (hb _ _ _ h2)
theorem c_onil : CO tNil oNil := fun ρ x ρ' h => by cases h; exact ⟨evys_nil, by simp⟩
theorem isNo_false {r : OT} (h : ¬ isNo r = true) : r ≠ .no := by rintro rfl; exact h rfl
theorem c_ocons (ha : CY ta y) (hb : CO tr om) : CO (tCons ta tr) (oCons y om) := fun ρ x ρ' h => by
  simp only [oCons, Option.bind_eq_some_iff] at h
  obtain ⟨⟨r, ρ1⟩, h1, h2⟩ := h
  split at h2
  · cases h2
  · rename_i hn
    simp only [Option.map_eq_some_iff] at h2
    obtain ⟨⟨rs, ρ2⟩, h3, h4⟩ := h2
    cases h4
    obtain ⟨g1, g2⟩ := hb _ _ _ h3
    exact ⟨evys_cons (ha _ _ _ h1) g1, fun r' hr => by
      rcases List.mem_cons.mp hr with z | z
      · rw [z]; exact isNo_false hn
      · exact g2 r' z⟩
theorem c_ytup (ha : CO tl om) : CY (tTup tl) (yTup om) := fun ρ r ρ' h => by
  simp only [yTup, Option.bind_eq_some_iff] at h
  obtain ⟨⟨rs, ρ1⟩, h1, h2⟩ := h
  split at h2
  · cases h2; exact evy_tup (ha _ _ _ h1).1 (ha _ _ _ h1).2 (by assumption)
  · cases h2
theorem c_ylst (ha : CO tl om) : CY (tLst tl) (yLst om) := fun ρ r ρ' h => by
  simp only [yLst, Option.bind_eq_some_iff] at h
  obtain ⟨⟨rs, ρ1⟩, h1, h2⟩ := h
  split at h2
  · cases h2; exact evy_lst (ha _ _ _ h1).1 (ha _ _ _ h1).2 (by assumption)
  · cases h2
theorem c_tR (ha : CB t m) : CT t (tR m) := fun ρ b ρ' h => by
  simp only [tR, Option.map_eq_some_iff] at h
  obtain ⟨c, h1, h2⟩ := h
  cases h2
  exact fun S0 H0 A0 S H τσ τρ σ Q l o q => ha _ _ h1 S0 H0 A0 S H τσ τρ σ _ l o fun S1 H1 x1 => q S1 H1 x1.ss (o.ext x1)
theorem c_tDB (ha : CD ta dm) : CT (tB ta) (tD dm) := fun ρ b ρ' h => by
  simp only [tD, Option.bind_eq_some_iff, Option.map_eq_some_iff] at h
  obtain ⟨⟨d, ρ1⟩, h1, c, h2, h3⟩ := h
  cases h3
  have e := asB_some h2
  simp only at e
  subst e
  exact fun S0 H0 A0 S H τσ τρ σ Q l o q => ha _ _ _ h1 S0 H0 A0 S H τσ τρ σ _ l o fun v S1 H1 s1 o1 r1 => by cases r1; exact ⟨b, rfl, q S1 H1 s1 o1⟩
theorem c_tnot (ha : CT t tm) : CT (tNot t) (tmNot tm) := fun ρ b ρ' h => by
  simp only [tmNot, Option.map_eq_some_iff] at h
  obtain ⟨⟨c, ρ1⟩, h1, h2⟩ := h
  cases h2
  exact fun S0 H0 A0 S H τσ τρ σ Q l o q => ha _ _ _ h1 S0 H0 A0 S H τσ τρ σ _ l o fun S1 H1 s1 o1 => q S1 H1 s1 o1
theorem c_tyes : CT tYes (fun ρ => some (true, ρ)) := fun ρ b ρ' h => by
  cases h
  exact fun S0 H0 A0 S H τσ τρ σ Q l o q => q S H (Same.refl S) o
theorem c_ylc {wi : TI} {g : TG} {gm : Gm} {is vs : List Nat} (hi : CI wi lm) (hg : CG g gm is) (hs : ∀ j ∈ is, j ∈ vs) (ht : CT t tm) (he : CY te y) : CY (tLc wi g t te vs) (yLc vs lm gm tm y) := fun ρ r ρ' h => by
  simp only [yLc, Option.bind_eq_some_iff] at h
  obtain ⟨⟨ds, ρ1⟩, h1, h2⟩ := h
  split at h2
  · rename_i hc
    simp only [Bool.and_eq_true, decide_eq_true_eq] at hc
    cases hm : mLc vs (lcStep gm tm y) ds [] (wipeE ρ1 vs) with
    | none => simp only at h2; rw [hm] at h2; cases h2
    | some p =>
      obtain ⟨rs, ρ2⟩ := p
      simp only at h2
      rw [hm] at h2
      cases h2
      refine evy_lc (hi _ _ _ h1) (fun x ρa o ρb hst => ?_) hm hc.1 hc.2
      simp only [lcStep, Option.bind_eq_some_iff] at hst
      obtain ⟨ρm, g1, ⟨b, ρt⟩, g2, g3⟩ := hst
      refine ⟨ρm, is, b, ρt, hg _ _ _ g1, hs, ht _ _ _ g2, ?_⟩
      cases b with
      | false => simp at g3; obtain ⟨rfl, rfl⟩ := g3; exact ⟨rfl, rfl⟩
      | true =>
        simp only [if_true, Option.bind_eq_some_iff] at g3
        obtain ⟨⟨s, ρs⟩, g4, g5⟩ := g3
        split at g5
        · cases g5
        · rename_i hn
          cases g5
          exact ⟨rfl, isNo_false hn, he _ _ _ g4⟩
  · cases h2
end
/-! ### targets -/
def gmName (i : Nat) : Gm := fun x ρ => some (ρ.set i (.d x))
def gmTup (g : Gms) : Gm := fun x ρ => match x with
  | .tuple xs => g xs ρ
  | _ => Option.none
def gmLst (g : Gms) : Gm := fun x ρ => match x with
  | .list xs => g xs ρ
  | _ => Option.none
def gsNil : Gms := fun xs ρ => match xs with
  | [] => some ρ
  | _ => Option.none
def gsCons (g : Gm) (h : Gms) : Gms := fun xs ρ => match xs with
  | x :: xs => (g x ρ).bind fun ρ1 => h xs ρ1
  | _ => Option.none
section
variable {g : TG} {gs : TGs} {gm : Gm} {gms : Gms} {is ks : List Nat}
theorem c_gname (i : Nat) : CG (gName i) (gmName i) [i] := fun ρ x ρ' h => by cases h; exact tg_name
/-- as many as the length says -/
def CGn (n : Nat) (g : TGs) (m : Gms) (is : List Nat) : Prop := CGs g m is ∧ ∀ ρ xs ρ', m xs ρ = some ρ' → xs.length = n
theorem c_gsnil : CGn 0 gNil gsNil [] := by
  refine ⟨fun ρ xs ρ' h => ?_, fun ρ xs ρ' h => ?_⟩
  · cases xs with
    | nil => cases h; exact tgs_nil
    | cons => cases h
  · cases xs with
    | nil => rfl
    | cons => cases h
theorem c_gscons {n : Nat} (h1 : CG g gm is) (h2 : CGn n gs gms ks) : CGn (n + 1) (gCons g gs) (gsCons gm gms) (is ++ ks) := by
  refine ⟨fun ρ xs ρ' h => ?_, fun ρ xs ρ' h => ?_⟩
  · cases xs with
    | nil => cases h
    | cons x xs =>
      simp only [gsCons, Option.bind_eq_some_iff] at h
      obtain ⟨ρ1, g1, g2⟩ := h
      exact tgs_cons (h1 _ _ _ g1) (h2.1 _ _ _ g2)
  · cases xs with
    | nil => cases h
    | cons x xs =>
      simp only [gsCons, Option.bind_eq_some_iff] at h
      obtain ⟨ρ1, g1, g2⟩ := h
      rw [List.length_cons, h2.2 _ _ _ g2]
theorem c_gtup {n : Nat} (h : CGn n gs gms is) : CG (gTup kf.K n gs) (gmTup gms) is := fun ρ x ρ' e => by
  cases x with
  | tuple xs => exact tg_tup (h.1 _ _ _ e) (h.2 _ _ _ e)
  | _ => cases e
end
end MR
namespace MR
open PySem L2 PL
/-! ### statements -/
def sSeq (a b : Sm) : Sm := fun ρ => match a ρ with
  | some (.nx, ρ1) => b ρ1
  | o => o
def sNext : Sm := fun ρ => some (.nx, ρ)
def sAsg (i : Nat) (y : Ym) : Sm := fun ρ => (y ρ).map fun p => (.nx, p.2.set i p.1)
def sAsgG (g : Gm) (y : Dm) : Sm := fun ρ => (y ρ).bind fun p => (g p.1 p.2).map fun ρ' => (.nx, ρ')
def sRet (y : Ym) : Sm := fun ρ => (y ρ).map fun p => (.rt p.1, p.2)
def sRetN : Sm := fun ρ => some (.rt (.d .none), ρ)
def sDrop (y : Ym) : Sm := fun ρ => (y ρ).map fun p => (.nx, p.2)
def sIf (t : Tm) (a b : Sm) : Sm := fun ρ => (t ρ).bind fun p => if p.1 then a p.2 else b p.2
def sFor (it : Lm) (g : Gm) (b : Sm) : Sm := fun ρ => (it ρ).bind fun p => mFor (fun x ρ => (g x ρ).bind b) p.1 p.2
noncomputable def sWhile (t : Tm) (b : Sm) : Sm := fun ρ => mWhile t b ρ
def sNever : Sm := fun _ => Option.none
/-- x.append(e), whatever e does -/
def sApp (i : Nat) (y : Ym) : Sm := fun ρ => match ρ[i]? with
  | some (.nd .lst _) => (y ρ).bind fun p => if isNo p.1 then Option.none else match p.2[i]? with
    | some (.nd .lst ts) => if ts.length ≤ 1000000 then some (.nx, p.2.set i (.nd .lst (ts ++ [p.1]))) else Option.none
    | _ => Option.none
  | _ => Option.none
/-- .. at a path, e read alone -/
abbrev Fm := Env → Option OT
def fR (a : Rm) : Fm := fun ρ => (a ρ).bind fun x => if tfl x then some (.d x) else Option.none
def putAt (i : Nat) (p : List Nat) (s : OT) (ρ : Env) : Env := match ρ[i]? with
  | some t => ρ.set i (t.put p s)
  | Option.none => ρ
def sAppP (i : Nat) (pm : Pm) (f : Fm) : Sm := fun ρ => (pm ρ).bind fun q => match q.2 with
  | .nd .lst ts => (f ρ).bind fun r => if isNo r then Option.none else if ts.length ≤ 1000000 then some (.nx, putAt i q.1 (.nd .lst (ts ++ [r])) ρ) else Option.none
  | _ => Option.none
def sSetP (i : Nat) (pm : Pm) (ix : Rm) (y : Ym) : Sm := fun ρ => (y ρ).bind fun p => if isNo p.1 then Option.none else (pm p.2).bind fun q => match q.2 with
  | .nd .lst ts => (ix p.2).bind fun d => match d with
    | .int n => (ixN ts.length n).map fun j => (.nx, putAt i q.1 (.nd .lst (ts.set j p.1)) p.2)
    | _ => Option.none
  | _ => Option.none
def sRevP (i : Nat) (pm : Pm) : Sm := fun ρ => (pm ρ).bind fun q => match q.2 with
  | .nd .lst ts => some (.nx, putAt i q.1 (.nd .lst ts.reverse) ρ)
  | _ => Option.none
def sClrP (i : Nat) (pm : Pm) : Sm := fun ρ => (pm ρ).bind fun q => match q.2 with
  | .nd .lst _ => some (.nx, putAt i q.1 (.nd .lst []) ρ)
  | _ => Option.none
def yPop (i : Nat) (dm : Dm) : Ym := fun ρ => match ρ[i]? with
  | some (.nd .lst _) => (dm ρ).bind fun p => match p.1 with
    | .int n => match p.2[i]? with
      | some (.nd .lst ts) => if -(2 ^ 63) ≤ n ∧ n < 2 ^ 63 then (seqIndex? n ts.length).bind fun j => (ts[j]?).map fun s => (s, p.2.set i (.nd .lst (ts.eraseIdx j))) else Option.none
      | _ => Option.none
    | _ => Option.none
  | _ => Option.none
def pmVar (i : Nat) : Pm := fun ρ => match ρ[i]? with
  | some (.nd k ts) => some ([], .nd k ts)
  | _ => Option.none
def pmIx (pm : Pm) (ix : Rm) : Pm := fun ρ => (pm ρ).bind fun q => match q.2 with
  | .nd .lst ts => (ix ρ).bind fun d => match d with
    | .int n => (ixN ts.length n).bind fun j => (ts[j]?).map fun s => (q.1 ++ [j], s)
    | _ => Option.none
  | _ => Option.none
variable [kf : KF] [wx : WXI]
section
variable {ta tb tc te tp : TE} {tl tr : TA} {t u : TT} {ts us : TS} {a b c : Rm} {q p : Qm} {m k : Bm} {R : R2} {E : XK} {y z : Ym} {dm dn : Dm} {lm ln : Lm} {om on : Om} {tm tn : Tm} {s1 s2 : Sm} {js : List Nat} {i : Nat} {pm : Pm} {fm : Fm}
theorem c_seq (h1 : CS js ts s1) (h2 : CS js us s2) : CS js (tSeq ts us) (sSeq s1 s2) := fun ρ fl ρ' h => by
  unfold sSeq at h
  cases e : s1 ρ with
  | none => rw [e] at h; cases h
  | some p =>
    obtain ⟨f, ρ1⟩ := p
    rw [e] at h
    cases f with
    | nx => exact run_seq (h1 _ _ _ e) (h2 _ _ _ h)
    | bk => cases h; exact run_seqB (h1 _ _ _ e)
    | ct => cases h; exact run_seqC (h1 _ _ _ e)
    | rt r => cases h; exact run_seqR (h1 _ _ _ e)
    | xc x => cases h; exact run_seqX (h1 _ _ _ e)
theorem c_next : CS js tNext sNext := fun ρ fl ρ' h => by cases h; exact run_next
theorem c_never (t : TS) : CS js t sNever := fun ρ fl ρ' h => by cases h
theorem c_asg (h : CY te y) (hi : i ∉ js := by decide) : CS js (tAsg te (gName i)) (sAsg i y) := fun ρ fl ρ' e => by
  simp only [sAsg, Option.map_eq_some_iff] at e
  obtain ⟨⟨r, ρ1⟩, e1, e2⟩ := e
  cases e2
  exact run_asg (h _ _ _ e1) hi
theorem c_asgG {g : TG} {gm : Gm} {is : List Nat} (h : CD te dm) (hg : CG g gm is) (hi : ∀ j ∈ js, j ∉ is := by decide) : CS js (tAsg te g) (sAsgG gm dm) := fun ρ fl ρ' e => by
  simp only [sAsgG, Option.bind_eq_some_iff, Option.map_eq_some_iff] at e
  obtain ⟨⟨x, ρ1⟩, e1, ρ2, e2, e3⟩ := e
  cases e3
  exact run_asgT (h _ _ _ e1) (hg _ _ _ e2) hi
theorem c_ret (h : CY te y) : CS js (tRet te) (sRet y) := fun ρ fl ρ' e => by
  simp only [sRet, Option.map_eq_some_iff] at e
  obtain ⟨⟨r, ρ1⟩, e1, e2⟩ := e
  cases e2
  exact run_ret (h _ _ _ e1)
theorem c_drop (h : CY te y) : CS js (tDrop te) (sDrop y) := fun ρ fl ρ' e => by
  simp only [sDrop, Option.map_eq_some_iff] at e
  obtain ⟨⟨r, ρ1⟩, e1, e2⟩ := e
  cases e2
  exact run_drop (h _ _ _ e1)
theorem c_sif (ht : CT t tm) (h1 : CS js ts s1) (h2 : CS js us s2) : CS js (tIfS t ts us) (sIf tm s1 s2) := fun ρ fl ρ' e => by
  simp only [sIf, Option.bind_eq_some_iff] at e
  obtain ⟨⟨b, ρ1⟩, e1, e2⟩ := e
  refine run_if (ht _ _ _ e1) (fun hb => ?_) (fun hb => ?_)
  · subst hb; exact h1 _ _ _ e2
  · subst hb; exact h2 _ _ _ e2
theorem c_for {wi : TI} {g : TG} {gm : Gm} {is : List Nat} (hi : CI wi lm) (hg : CG g gm is) (hb : CS js ts s1) (hj : ∀ j ∈ js, j ∉ is := by decide) : CS js (tFor wi g ts) (sFor lm gm s1) := fun ρ fl ρ' e => by
  simp only [sFor, Option.bind_eq_some_iff] at e
  obtain ⟨⟨ds, ρ1⟩, e1, e2⟩ := e
  refine run_for (hi _ _ _ e1) (fun x ρa fl ρb h => ?_) e2
  simp only [Option.bind_eq_some_iff] at h
  obtain ⟨ρm, h1, h2⟩ := h
  exact ⟨ρm, is, hg _ _ _ h1, hj, hb _ _ _ h2⟩
theorem c_while (ht : CT t tm) (hb : CS js ts s1) : CS js (tWhile t ts) (sWhile tm s1) := fun ρ fl ρ' e => run_while ht hb e
theorem c_app (he : CY te y) : CS js (tDrop (tBM kf.K "list" rAppend (tVar i) (tCons te tNil))) (sApp i y) := fun ρ fl ρ' e => by
  unfold sApp at e
  split at e
  · rename_i us h0
    simp only [Option.bind_eq_some_iff] at e
    obtain ⟨⟨r, ρ1⟩, e1, e2⟩ := e
    split at e2
    · cases e2
    · rename_i hn
      split at e2
      · rename_i vs h1
        split at e2
        · cases e2
          exact run_appendY h0 ⟨_, rfl⟩ (he _ _ _ e1) h1 (isNo_false hn) (by assumption)
        · cases e2
      · cases e2
  · cases e
def CF (te : TE) (f : Fm) : Prop := ∀ ρ r, f ρ = some r → EvF te ρ r
theorem c_fR (ha : CR te a) : CF te (fR a) := fun ρ r h => by
  simp only [fR, Option.bind_eq_some_iff] at h
  obtain ⟨x, h1, h2⟩ := h
  split at h2
  · cases h2; exact evf_flat (ha _ _ h1) (by assumption)
  · cases h2
theorem c_pvar (i : Nat) : CP (tVar i) i (pmVar i) := fun ρ p s h => by
  unfold pmVar at h
  split at h
  · rename_i k ts ht
    cases h
    exact ⟨pt_var ht (by intro z; cases z), _, ht, rfl⟩
  · cases h
theorem at_app : ∀ (p : List Nat) (t : OT) (k : Kd) (ts : List OT) (j : Nat), t.at p = some (.nd k ts) → t.at (p ++ [j]) = ts[j]?
  | [], t, k, ts, j, h => by
    simp only [OT.at, Option.some.injEq] at h
    subst h
    simp only [List.nil_append, OT.at]
    cases ts[j]? <;> rfl
  | i :: p, .no, k, ts, j, h => by simp [OT.at] at h
  | i :: p, .d x, k, ts, j, h => by simp [OT.at] at h
  | i :: p, .nd k' us, k, ts, j, h => by
    simp only [List.cons_append, OT.at] at h ⊢
    cases hu : us[i]? with
    | none => rw [hu] at h; cases h
    | some t => rw [hu] at h; exact at_app p t k ts j h
theorem c_pix (hp : CP tp i pm) (hb : CR tb b) : CP (tOp (rIxL kf.K) tp tb) i (pmIx pm b) := fun ρ p s h => by
  simp only [pmIx, Option.bind_eq_some_iff] at h
  obtain ⟨⟨p0, s0⟩, h1, h2⟩ := h
  obtain ⟨g1, t, g2, g3⟩ := hp _ _ _ h1
  simp only at h2
  split at h2
  · rename_i us
    simp only [Option.bind_eq_some_iff] at h2
    obtain ⟨d, h3, h4⟩ := h2
    split at h4
    · simp only [Option.bind_eq_some_iff, Option.map_eq_some_iff] at h4
      obtain ⟨j, h5, s', h6, h7⟩ := h4
      cases h7
      exact ⟨pt_ix (k := .lst) g1 g2 g3 (hb _ _ h3) h5, t, g2, (at_app p0 t .lst us j g3).trans h6⟩
    · cases h4
  · cases h2
theorem c_appP (hp : CP tp i pm) (he : CF te fm) : CS js (tDrop (tBM kf.K "list" rAppend tp (tCons te tNil))) (sAppP i pm fm) := fun ρ fl ρ' e => by
  simp only [sAppP, Option.bind_eq_some_iff] at e
  obtain ⟨⟨p0, s0⟩, h1, h2⟩ := e
  obtain ⟨g1, t, g2, g3⟩ := hp _ _ _ h1
  simp only at h2
  split at h2
  · simp only [Option.bind_eq_some_iff] at h2
    obtain ⟨r, h3, h4⟩ := h2
    split at h4
    · cases h4
    · rename_i hn
      split at h4
      · cases h4
        have := run_append (js := js) g1 g2 g3 (he _ _ h3) (isNo_false hn) (by assumption)
        unfold putAt
        rw [g2]
        exact this
      · cases h4
  · cases h2
theorem c_setP (hp : CP tp i pm) (hx : CR tb b) (he : CY te y) : CS js (tAsg te (gSub tp tb rSetL)) (sSetP i pm b y) := fun ρ fl ρ' e => by
  simp only [sSetP, Option.bind_eq_some_iff] at e
  obtain ⟨⟨r, ρ1⟩, h0, e⟩ := e
  split at e
  · cases e
  · rename_i hn
    simp only [Option.bind_eq_some_iff] at e
    obtain ⟨⟨p0, s0⟩, h1, h2⟩ := e
    obtain ⟨g1, t, g2, g3⟩ := hp _ _ _ h1
    simp only at h2
    split at h2
    · simp only [Option.bind_eq_some_iff] at h2
      obtain ⟨d, h3, h4⟩ := h2
      split at h4
      · simp only [Option.map_eq_some_iff] at h4
        obtain ⟨j, h5, h6⟩ := h4
        cases h6
        have := run_setitem (js := js) (he _ _ _ h0) g1 g2 g3 (hx _ _ h3) h5 (isNo_false hn)
        unfold putAt
        rw [g2]
        exact this
      · cases h4
    · cases h2
theorem c_clrP (hp : CP tp i pm) : CS js (tDrop (tBM0 kf.K "list" rClear tp)) (sClrP i pm) := fun ρ fl ρ' e => by
  simp only [sClrP, Option.bind_eq_some_iff] at e
  obtain ⟨⟨p0, s0⟩, h1, h2⟩ := e
  obtain ⟨g1, t, g2, g3⟩ := hp _ _ _ h1
  simp only at h2
  split at h2
  · cases h2
    have := run_clear (js := js) g1 g2 g3
    unfold putAt
    rw [g2]
    exact this
  · cases h2
theorem c_pop (he : CD te dm) : CY (tBM kf.K "list" rPopAt (tVar i) (tCons te tNil)) (yPop i dm) := fun ρ r ρ' e => by
  unfold yPop at e
  split at e
  · rename_i us h0
    simp only [Option.bind_eq_some_iff] at e
    obtain ⟨⟨x, ρ1⟩, e1, e2⟩ := e
    simp only at e2
    split at e2
    · split at e2
      · rename_i vs h1
        split at e2
        · simp only [Option.bind_eq_some_iff, Option.map_eq_some_iff] at e2
          obtain ⟨j, e3, s, e4, e5⟩ := e2
          cases e5
          exact evy_pop h0 ⟨_, rfl⟩ (he _ _ _ e1) h1 e3 e4 (by assumption)
        · cases e2
      · cases e2
    · cases e2
  · cases e
end
/-! ### what is walked -/
def asL : D → Option (List D)
  | .list xs => some xs
  | _ => Option.none
def asT : D → Option (List D)
  | .tuple xs => some xs
  | _ => Option.none
def iL (a : Dm) : Lm := fun ρ => (a ρ).bind fun p => (asL p.1).map fun xs => (xs, p.2)
def iT (a : Dm) : Lm := fun ρ => (a ρ).bind fun p => (asT p.1).map fun xs => (xs, p.2)
def iR1 (a : Lm) : Lm := fun ρ => (a ρ).bind fun p => match p.1 with
  | [.int n] => if -(2 ^ 62) ≤ n ∧ n < 2 ^ 62 then some (rgD 0 n.toNat, p.2) else Option.none
  | _ => Option.none
def iR2 (a : Lm) : Lm := fun ρ => (a ρ).bind fun p => match p.1 with
  | [.int m, .int n] => if -(2 ^ 62) ≤ m ∧ m < 2 ^ 62 ∧ -(2 ^ 62) ≤ n ∧ n < 2 ^ 62 then some (rgD m (n - m).toNat, p.2) else Option.none
  | _ => Option.none
def iE (a : Lm) : Lm := fun ρ => (a ρ).bind fun p => match p.1 with
  | [.list ds] => some (enumD ds, p.2)
  | _ => Option.none
def iZ (a : Lm) : Lm := fun ρ => (a ρ).bind fun p => match p.1 with
  | [.list ds, .list es] => some (zipD ds es, p.2)
  | _ => Option.none
def iV (a : Lm) : Lm := fun ρ => (a ρ).bind fun p => match p.1 with
  | [.list ds] => some (ds.reverse, p.2)
  | _ => Option.none
section
variable {te : TE} {tl : TA} {dm : Dm} {lm : Lm}
theorem c_iL (h : CD te dm) : CI (iList kf.K te) (iL dm) := fun ρ xs ρ' e => by
  simp only [iL, Option.bind_eq_some_iff, Option.map_eq_some_iff] at e
  obtain ⟨⟨d, ρ1⟩, e1, ys, e2, e3⟩ := e
  cases e3
  cases d with
  | list zs => cases e2; exact it_list (h _ _ _ e1)
  | _ => cases e2
theorem c_iR1 (h : CL tl lm) : CI (iRng1 tl) (iR1 lm) := fun ρ xs ρ' e => by
  simp only [iR1, Option.bind_eq_some_iff] at e
  obtain ⟨⟨d, ρ1⟩, e1, e2⟩ := e
  simp only at e2
  split at e2
  · split at e2
    · rename_i hh
      cases e2; exact it_range1 (h _ _ _ e1) hh.2 hh.1
    · cases e2
  · cases e2
theorem c_iR2 (h : CL tl lm) : CI (iRng2 tl) (iR2 lm) := fun ρ xs ρ' e => by
  simp only [iR2, Option.bind_eq_some_iff] at e
  obtain ⟨⟨d, ρ1⟩, e1, e2⟩ := e
  simp only at e2
  split at e2
  · split at e2
    · cases e2; exact it_range2 (h _ _ _ e1) (by assumption)
    · cases e2
  · cases e2
theorem c_iE (h : CL tl lm) : CI (iEnum kf.K tl) (iE lm) := fun ρ xs ρ' e => by
  simp only [iE, Option.bind_eq_some_iff] at e
  obtain ⟨⟨d, ρ1⟩, e1, e2⟩ := e
  simp only at e2
  split at e2
  · cases e2; exact it_enum (h _ _ _ e1)
  · cases e2
theorem c_iZ (h : CL tl lm) : CI (iZip kf.K tl) (iZ lm) := fun ρ xs ρ' e => by
  simp only [iZ, Option.bind_eq_some_iff] at e
  obtain ⟨⟨d, ρ1⟩, e1, e2⟩ := e
  simp only at e2
  split at e2
  · cases e2; exact it_zip (h _ _ _ e1)
  · cases e2
end
end MR
namespace MR
open PySem L2 PL
/-! ### operators on data -/
def gI (f : Int → Int → D) : D → D → Option D
  | .int i, .int j => some (f i j)
  | _, _ => Option.none
def gAdd := gI fun i j => .int (i + j)
def gSub := gI fun i j => .int (i - j)
def gLt := gI fun i j => .bool (decide (i < j))
def gLe := gI fun i j => .bool (decide (i ≤ j))
def gGt := gI fun i j => .bool (decide (j < i))
def gGe := gI fun i j => .bool (decide (j ≤ i))
def gMulF : D → D → Option D
  | .int i, .int j => if (-(2 ^ 64) < i ∧ i < 2 ^ 64) ∨ (-(2 ^ 64) < j ∧ j < 2 ^ 64) then some (.int (i * j)) else Option.none
  | _, _ => Option.none
def gModF : D → D → Option D
  | .int i, .int j => if 0 < j then some (.int (i % j)) else Option.none
  | _, _ => Option.none
def gDivF : D → D → Option D
  | .int i, .int j => if 0 < j ∧ j.natAbs < 2 ^ 250 then some (.int (i / j)) else Option.none
  | _, _ => Option.none
def gPowF : D → D → Option D
  | .int i, .int j => if 0 ≤ j ∧ j ≤ 1000000 ∧ i.natAbs < 2 ^ 64 then some (.int (i ^ j.toNat)) else Option.none
  | _, _ => Option.none
theorem gMul_ex : ∃ f : D → D → Option D, f = gMulF := ⟨_, rfl⟩
noncomputable def gMul : D → D → Option D := gMul_ex.choose
theorem gMul_F : gMul = gMulF := gMul_ex.choose_spec
theorem gMod_ex : ∃ f : D → D → Option D, f = gModF := ⟨_, rfl⟩
noncomputable def gMod : D → D → Option D := gMod_ex.choose
theorem gMod_F : gMod = gModF := gMod_ex.choose_spec
theorem gDiv_ex : ∃ f : D → D → Option D, f = gDivF := ⟨_, rfl⟩
noncomputable def gDiv : D → D → Option D := gDiv_ex.choose
theorem gDiv_F : gDiv = gDivF := gDiv_ex.choose_spec
theorem gPow_ex : ∃ f : D → D → Option D, f = gPowF := ⟨_, rfl⟩
noncomputable def gPow : D → D → Option D := gPow_ex.choose
theorem gPow_F : gPow = gPowF := gPow_ex.choose_spec
theorem gMul_l {i j : Int} (h1 : -(2 ^ 64) < i) (h2 : i < 2 ^ 64) : gMul (.int i) (.int j) = some (.int (i * j)) := by
  rw [gMul_F]
  unfold gMulF
  simp only []
  rw [if_pos (.inl ⟨h1, h2⟩)]
theorem gMul_r {i j : Int} (h1 : -(2 ^ 64) < j) (h2 : j < 2 ^ 64) : gMul (.int i) (.int j) = some (.int (i * j)) := by
  rw [gMul_F]
  unfold gMulF
  simp only []
  rw [if_pos (.inr ⟨h1, h2⟩)]
theorem gMod_i {i j : Int} (h : 0 < j) : gMod (.int i) (.int j) = some (.int (i % j)) := by
  rw [gMod_F]
  unfold gModF
  simp only []
  rw [if_pos h]
theorem gDiv_w {i j : Int} (h1 : 0 < j) (h2 : j.natAbs < 2 ^ 250) : gDiv (.int i) (.int j) = some (.int (i / j)) := by
  rw [gDiv_F]
  unfold gDivF
  simp only []
  rw [if_pos ⟨h1, h2⟩]
theorem gDiv_i {i j : Int} (h1 : 0 < j) (h2 : j < 1073741824) : gDiv (.int i) (.int j) = some (.int (i / j)) :=
  gDiv_w h1 (Nat.lt_of_lt_of_le (show j.natAbs < 2 ^ 30 by omega) (Nat.pow_le_pow_right (by decide) (by decide)))
theorem gPow_i {i j : Int} (h1 : 0 ≤ j) (h2 : j ≤ 1000000) (h3 : i.natAbs < 2 ^ 64) : gPow (.int i) (.int j) = some (.int (i ^ j.toNat)) := by
  rw [gPow_F]
  unfold gPowF
  simp only []
  rw [if_pos ⟨h1, h2, h3⟩]
def gNeg : D → Option D
  | .int i => some (.int (-i))
  | _ => Option.none
def gEqD (d e : D) : Option D := if SeqAt.shaped d && SeqAt.shaped e then some (.bool (PyData.eqv d e)) else Option.none
def gNeD (d e : D) : Option D := if SeqAt.shaped d && SeqAt.shaped e then some (.bool (!PyData.eqv d e)) else Option.none
/-- of texts -/
def gEqS : D → D → Option D
  | .str x, .str y => some (.bool (decide (x = y)))
  | _, _ => Option.none
def gNeS : D → D → Option D
  | .str x, .str y => some (.bool (!decide (x = y)))
  | _, _ => Option.none
/-- of ints, of truths -/
def gEqI : D → D → Option D
  | .int x, .int y => some (.bool (decide (x = y)))
  | .bool x, .bool y => some (.bool (decide (x = y)))
  | _, _ => Option.none
def gNeI : D → D → Option D
  | .int x, .int y => some (.bool (!decide (x = y)))
  | .bool x, .bool y => some (.bool (!decide (x = y)))
  | _, _ => Option.none
def gIsN : D → D → Option D
  | d, .none => some (.bool (isN d))
  | _, _ => Option.none
def gNotN : D → D → Option D
  | d, .none => some (.bool (!isN d))
  | _, _ => Option.none
def gIsB : D → D → Option D
  | .bool a, .bool b => some (.bool (decide (a = b)))
  | _, _ => Option.none
def gNotB : D → D → Option D
  | .bool a, .bool b => some (.bool (!decide (a = b)))
  | _, _ => Option.none
def gNotInD : D → D → Option D
  | d, .list ds => if SeqAt.shaped d && SeqAt.shaped (.list ds) then some (.bool (!ds.any fun z => PyData.eqv z d)) else Option.none
  | _, _ => Option.none
def asInt : D → Option Int
  | .int i => some i
  | _ => Option.none
def asInts : List D → Option (List Int)
  | [] => some []
  | x :: xs => (asInt x).bind fun i => (asInts xs).map fun is => i :: is
def asBools : List D → Option (List Bool)
  | [] => some []
  | x :: xs => (asB x).bind fun i => (asBools xs).map fun is => i :: is
def seqItems : D → Option (List D)
  | .list xs => some xs
  | .tuple xs => some xs
  | _ => Option.none
/-- k in ints -/
def gInI (neg : Bool) : D → D → Option D
  | .int k, e => ((seqItems e).bind asInts).map fun ns => .bool (if neg then !decide (k ∈ ns) else decide (k ∈ ns))
  | _, _ => Option.none
def gIxL : D → D → Option D
  | .list ds, .int n => atI ds n
  | _, _ => Option.none
def gIxT : D → D → Option D
  | .tuple ds, .int n => atI ds n
  | _, _ => Option.none
def gLeT : D → D → Option D
  | .tuple [.int a, .int b], .tuple [.int c, .int d] => some (.bool (lexLe (a, b) (c, d)))
  | _, _ => Option.none
theorem asInts_some : ∀ {xs : List D} {ns : List Int}, asInts xs = some ns → xs = ns.map .int
  | [], ns, h => by cases h; rfl
  | x :: xs, ns, h => by
    simp only [asInts, Option.bind_eq_some_iff, Option.map_eq_some_iff] at h
    obtain ⟨i, h1, is, h2, rfl⟩ := h
    rw [List.map_cons, ← asInts_some h2]
    cases x <;> simp [asInt] at h1
    rw [h1]
theorem asInts_map (ns : List Int) : asInts (ns.map .int) = some ns := by
  induction ns with
  | nil => rfl
  | cons n ns ih => simp [asInts, asInt, ih]
theorem asB_is {x : D} {b : Bool} (h : asB x = some b) : x = .bool b := by cases x <;> simp [asB] at h; rw [h]
theorem asBools_some : ∀ {xs : List D} {ns : List Bool}, asBools xs = some ns → xs = ns.map .bool
  | [], ns, h => by cases h; rfl
  | x :: xs, ns, h => by
    simp only [asBools, Option.bind_eq_some_iff, Option.map_eq_some_iff] at h
    obtain ⟨i, h1, is, h2, rfl⟩ := h
    rw [List.map_cons, ← asBools_some h2, asB_is h1]
theorem asBools_map (ns : List Bool) : asBools (ns.map .bool) = some ns := by
  induction ns with
  | nil => rfl
  | cons n ns ih => simp [asBools, asB, ih]
variable [kf : KF]
theorem gI_some {f : Int → Int → D} {d e x : D} (h : gI f d e = some x) : ∃ i j, d = .int i ∧ e = .int j ∧ x = f i j := by
  unfold gI at h
  split at h
  · cases h; exact ⟨_, _, rfl, rfl, rfl⟩
  · cases h
theorem o_I0 {g : Int → Int → V} {f : Int → Int → D} (hg : ∀ i j, vD (g i j) = some (f i j)) : OpM (rI0 g) (gI f) := fun d e x h => by
  obtain ⟨i, j, rfl, rfl, rfl⟩ := gI_some h
  exact fun H v u Q h1 h2 q => by cases h1; cases h2; exact ⟨i, j, rfl, rfl, q _ (hg i j)⟩
theorem o_add : OpM (rI0 fun i j => .int (i + j)) gAdd := o_I0 fun _ _ => rfl
theorem o_sub : OpM (rI0 fun i j => .int (i - j)) gSub := o_I0 fun _ _ => rfl
theorem o_lt : OpM (rI0 fun i j => .bl (decide (i < j))) gLt := o_I0 fun _ _ => rfl
theorem o_gt : OpM (rI0 fun i j => .bl (decide (j < i))) gGt := o_I0 fun _ _ => rfl
theorem o_ge : OpM (rI0 fun i j => .bl (decide (j ≤ i))) gGe := o_I0 fun _ _ => rfl
theorem o_mul : OpM (rI CMul fun i j => .int (i * j)) gMul := fun d e x h => by
  rw [gMul_F] at h
  unfold gMulF at h
  split at h
  · split at h
    · rename_i hc
      cases h
      exact fun H v u Q h1 h2 q => by cases h1; cases h2; exact ⟨_, _, rfl, rfl, hc, q _ rfl⟩
    · cases h
  · cases h
theorem o_mod : OpM (rI (fun _ j => 0 < j) fun i j => .int (i % j)) gMod := fun d e x h => by
  rw [gMod_F] at h
  unfold gModF at h
  split at h
  · split at h
    · rename_i hc
      cases h
      exact fun H v u Q h1 h2 q => by cases h1; cases h2; exact ⟨_, _, rfl, rfl, hc, q _ rfl⟩
    · cases h
  · cases h
theorem o_div : OpM (rI CDivW fun i j => .int (i / j)) gDiv := fun d e x h => by
  rw [gDiv_F] at h
  unfold gDivF at h
  split at h
  · split at h
    · rename_i hc
      cases h
      exact fun H v u Q h1 h2 q => by cases h1; cases h2; exact ⟨_, _, rfl, rfl, wide_div hc.1 hc.2 (by decide) (by decide), q _ rfl⟩
    · cases h
  · cases h
theorem o_pow : OpM (rI CPow fun i j => .int (i ^ j.toNat)) gPow := fun d e x h => by
  rw [gPow_F] at h
  unfold gPowF at h
  split at h
  · split at h
    · rename_i hc
      cases h
      exact fun H v u Q h1 h2 q => by cases h1; cases h2; exact ⟨_, _, rfl, rfl, hc, q _ rfl⟩
    · cases h
  · cases h
theorem o_neg : UnM (rU fun i => .int (-i)) gNeg := fun d x h => by
  unfold gNeg at h
  split at h
  · cases h
    exact fun H v Q h1 q => by cases h1; exact ⟨_, rfl, q _ rfl⟩
  · cases h
theorem o_eqD : OpM (rEqD kf.K) gEqD := fun d e x h => by
  unfold gEqD at h
  split at h
  · rename_i hc
    simp only [Bool.and_eq_true] at hc
    cases h
    exact fun H v u Q h1 h2 q => ⟨d, e, rp_dp _ _ (noDc_lay _ (SeqAt.canLay_of_shaped hc.1)) h1, rp_dp _ _ (noDc_lay _ (SeqAt.canLay_of_shaped hc.2)) h2, hc.1, hc.2, q _ rfl⟩
  · cases h
theorem o_neD : OpM (rNeD kf.K) gNeD := fun d e x h => by
  unfold gNeD at h
  split at h
  · rename_i hc
    simp only [Bool.and_eq_true] at hc
    cases h
    exact fun H v u Q h1 h2 q => ⟨d, e, rp_dp _ _ (noDc_lay _ (SeqAt.canLay_of_shaped hc.1)) h1, rp_dp _ _ (noDc_lay _ (SeqAt.canLay_of_shaped hc.2)) h2, hc.1, hc.2, q _ rfl⟩
  · cases h
theorem o_neS : OpM rNe gNeS := fun d e x h => by
  unfold gNeS at h
  split at h
  · cases h
    exact fun H v u Q h1 h2 q => by
      cases h1; cases h2
      exact ⟨rfl, q _ (by simp [vD])⟩
  · cases h
theorem o_eqI : OpM rEq gEqI := fun d e x h => by
  unfold gEqI at h
  split at h
  · cases h
    exact fun H v u Q h1 h2 q => by cases h1; cases h2; exact ⟨rfl, q _ (by simp [vD])⟩
  · cases h
    exact fun H v u Q h1 h2 q => by cases h1; cases h2; exact ⟨rfl, q _ (by simp [vD])⟩
  · cases h
theorem o_neI : OpM rNe gNeI := fun d e x h => by
  unfold gNeI at h
  split at h
  · cases h
    exact fun H v u Q h1 h2 q => by cases h1; cases h2; exact ⟨rfl, q _ (by simp [vD])⟩
  · cases h
    exact fun H v u Q h1 h2 q => by cases h1; cases h2; exact ⟨rfl, q _ (by simp [vD])⟩
  · cases h
theorem o_isN : OpM (fun x y H Q => y = V.non ∧ Q (.bl (decide (x = .non))) H) gIsN := fun d e x h => by
  unfold gIsN at h
  split at h
  · cases h
    exact fun H v u Q h1 h2 q => by cases h2; exact ⟨rfl, by rw [rp_isN h1]; exact q _ rfl⟩
  · cases h
theorem o_notN : OpM (fun x y H Q => y = V.non ∧ Q (.bl (!decide (x = .non))) H) gNotN := fun d e x h => by
  unfold gNotN at h
  split at h
  · cases h
    exact fun H v u Q h1 h2 q => by cases h2; exact ⟨rfl, by rw [rp_isN h1]; exact q _ rfl⟩
  · cases h
theorem o_isB : OpM (fun x y H Q => ∃ a b, x = V.bl a ∧ y = .bl b ∧ Q (.bl (decide (a = b))) H) gIsB := fun d e x h => by
  unfold gIsB at h
  split at h
  · cases h
    exact fun H v u Q h1 h2 q => by cases h1; cases h2; exact ⟨_, _, rfl, rfl, q _ rfl⟩
  · cases h
theorem o_notInD : OpM (rNotInD kf.K) gNotInD := fun d e x h => by
  unfold gNotInD at h
  split at h
  · split at h
    · rename_i hc
      simp only [Bool.and_eq_true] at hc
      cases h
      exact fun H v u Q h1 h2 q => ⟨_, _, rp_dp _ _ (noDc_lay _ (SeqAt.canLay_of_shaped hc.1)) h1, rp_dp _ _ (noDc_lay _ (SeqAt.canLay_of_shaped hc.2)) h2, hc.1, hc.2, q _ rfl⟩
    · cases h
  · cases h
theorem o_inI (neg : Bool) : OpM (rIn kf.K neg) (gInI neg) := fun d e x h => by
  unfold gInI at h
  split at h
  · rename_i dd ee k
    simp only [Option.map_eq_some_iff, Option.bind_eq_some_iff] at h
    obtain ⟨ns, ⟨xs, h1, h2⟩, rfl⟩ := h
    have e2 := asInts_some h2
    subst e2
    intro H v u Q r1 r2 q
    cases r1
    cases e with
    | list ys =>
      cases h1
      cases r2 with
      | lst p1 p2 =>
        have e := dpa_ints p2
        subst e
        refine ⟨_, _, rfl, .inl p1, rfl, flat_ints, ?_⟩
        rw [PL.any_ints]
        cases neg <;> exact q _ rfl
    | tuple ys =>
      cases h1
      cases r2 with
      | tup p1 p2 =>
        have e := dpa_ints p2
        subst e
        refine ⟨_, _, rfl, .inr (.inl (.of p1)), rfl, flat_ints, ?_⟩
        rw [PL.any_ints]
        cases neg <;> exact q _ rfl
    | _ => cases h1
  · cases h
theorem x_list : IxM (rIxL kf.K) gIxL := fun d e x h => by
  unfold gIxL at h
  split at h
  · exact ixz_list h
  · cases h
theorem x_tup : IxM (rIxT kf.K) gIxT := fun d e x h => by
  unfold gIxT at h
  split at h
  · exact ixz_tup h
  · cases h
theorem o_leT : OpM (rLeT kf.K) gLeT := fun d e x h => by
  unfold gLeT at h
  split at h
  · rename_i a b c d'
    cases h
    intro H v u Q r1 r2 q'
    obtain ⟨p, rfl, e1⟩ := rp_pair (p := (a, b)) r1
    obtain ⟨q, rfl, e2⟩ := rp_pair (p := (c, d')) r2
    refine ⟨p, q, _, _, rfl, rfl, .inl (.of e1), .inl (.of e2), ?_⟩
    refine q' _ ?_
    show some (PyData.bool _) = some (PyData.bool _)
    congr 2
    simp only [List.length_cons, List.length_nil, Nat.min_self, Ob.lexAt_succ, Ob.lexAt_zero, List.getD_cons_zero, List.getD_cons_succ, lexLe, decide_eq_true_eq, Nat.le_refl, decide_true, Nat.zero_add]
    by_cases c1 : a = c
    · by_cases c2 : b = d'
      · simp [c1, c2]
      · simp [c1, c2]
    · simp only [c1, if_false, false_and, or_false]
      congr 1
      apply propext
      omega
  · cases h
/-! ### built-ins that tell flat data -/
def gLen : List D → Option D
  | [.list ds] => some (.int (ds.length : Nat))
  | [.tuple ds] => some (.int (ds.length : Nat))
  | _ => Option.none
def gMax2 : List D → Option D
  | [.int i, .int j] => some (.int (max i j))
  | _ => Option.none
def gMin2 : List D → Option D
  | [.int i, .int j] => some (.int (min i j))
  | _ => Option.none
def gInt : List D → Option D
  | [.int i] => some (.int i)
  | [.bool b] => some (.int (if b then 1 else 0))
  | _ => Option.none
def gAll : List D → Option D
  | [.list ds] => (asBools ds).map fun bs => .bool (bs.all id)
  | _ => Option.none
theorem b_len : CbM (fun xs H Q => ∃ p ys, xs = [V.ref p] ∧ (SqL kf.K H p ys ∨ SqT kf.K H p ys) ∧ Q (.int ys.length) H) gLen := fun ds x h => by
  unfold gLen at h
  split at h
  · cases h
    intro H vs Q r q
    cases r with | cons a b => cases b; cases a with | lst r1 r2 => exact ⟨_, _, rfl, .inl r1, q _ (by rw [dpa_length r2]; rfl)⟩
  · cases h
    intro H vs Q r q
    cases r with | cons a b => cases b; cases a with | tup r1 r2 => exact ⟨_, _, rfl, .inr (.inl (.of r1)), q _ (by rw [dpa_length r2]; rfl)⟩
  · cases h
theorem b_max2 : CbM (fun xs H Q => ∃ i j, xs = [V.int i, .int j] ∧ Q (.int (if j > i then j else i)) H) gMax2 := fun ds x h => by
  unfold gMax2 at h
  split at h
  · cases h
    intro H vs Q r q
    cases r with | cons a b => cases b with | cons b c => cases c; cases a; cases b; exact ⟨_, _, rfl, q _ (by show some (PyData.int _) = _; congr 2; split <;> omega)⟩
  · cases h
theorem b_min2 : CbM (fun xs H Q => ∃ i j, xs = [V.int i, .int j] ∧ Q (.int (if j < i then j else i)) H) gMin2 := fun ds x h => by
  unfold gMin2 at h
  split at h
  · cases h
    intro H vs Q r q
    cases r with | cons a b => cases b with | cons b c => cases c; cases a; cases b; exact ⟨_, _, rfl, q _ (by show some (PyData.int _) = _; congr 2; split <;> omega)⟩
  · cases h
theorem b_int : CbM (fun xs H Q => (∃ i, xs = [V.int i] ∧ Q (.int i) H) ∨ ∃ k, xs = [V.bl k] ∧ Q (.int (if k then 1 else 0)) H) gInt := fun ds x h => by
  unfold gInt at h
  split at h
  · cases h
    intro H vs Q r q
    cases r with | cons a b => cases b; cases a; exact .inl ⟨_, rfl, q _ rfl⟩
  · cases h
    intro H vs Q r q
    cases r with | cons a b => cases b; cases a; exact .inr ⟨_, rfl, q _ rfl⟩
  · cases h
theorem b_all : CbM (rAll kf.K) gAll := fun ds x h => by
  unfold gAll at h
  split at h
  · simp only [Option.map_eq_some_iff] at h
    obtain ⟨ns, h1, rfl⟩ := h
    have e := asBools_some h1
    subst e
    intro H vs Q r q
    cases r with
    | cons a b =>
      cases b
      cases a with
      | lst r1 r2 =>
        have e := dpa_bools r2
        subst e
        exact ⟨_, ns, rfl, r1, q _ rfl⟩
  · cases h
/-- isinstance(e, T), T written -/
def rIs (T : String) (a : Rm) : Rm := fun ρ => (a ρ).bind fun d => (kitB (tyN d) T).map .bool
theorem c_is {te : TE} {a : Rm} {T : String} (ha : CR te a) : CR (tCB (rIsi kf.K) (tCons te (tCons (tC (.ty T)) tNil))) (rIs T a) := fun ρ x h => by
  simp only [rIs, Option.bind_eq_some_iff, Option.map_eq_some_iff] at h
  obtain ⟨d, h1, b, h2, rfl⟩ := h
  exact fun S0 H0 A0 S H τσ τρ σ Q l o q => ha _ _ h1 S0 H0 A0 S H τσ τρ σ _ l o fun v S1 H1 x1 r1 => ⟨v, .ty T, _, _, b, rfl, .ty T, rp_ty r1, kit_ty h2, q _ S1 H1 x1 (.bl b)⟩
/-- a <= b < c, ints -/
def rCh (f g : Int → Int → Bool) (a b c : Rm) : Rm := fun ρ => (a ρ).bind fun x => (b ρ).bind fun y => match x, y with
  | .int i, .int j => if f i j then (c ρ).bind fun z => match z with
    | .int k => some (.bool (g j k))
    | _ => Option.none
    else some (.bool false)
  | _, _ => Option.none
theorem c_ch {ta tb tc : TE} {a b c : Rm} {f g : Int → Int → Bool} (ha : CR ta a) (hb : CR tb b) (hc : CR tc c) : CR (tChain (rI0 fun i j => .bl (f i j)) (rI0 fun i j => .bl (g i j)) ta tb tc) (rCh f g a b c) := fun ρ x h => by
  simp only [rCh, Option.bind_eq_some_iff] at h
  obtain ⟨d, h1, e, h2, h3⟩ := h
  split at h3
  · rename_i i j
    refine fun S0 H0 A0 S H τσ τρ σ Q l o q => ha _ _ h1 S0 H0 A0 S H τσ τρ σ _ l o fun v S1 H1 x1 r1 => hb _ _ h2 S0 H0 A0 S1 H1 τσ τρ σ _ l (o.ext x1) fun u S2 H2 x2 r2 => ?_
    cases r1; cases r2
    refine ⟨i, j, rfl, rfl, f i j, rfl, ?_⟩
    split at h3
    · rename_i hf
      simp only [Option.bind_eq_some_iff] at h3
      obtain ⟨z, h4, h5⟩ := h3
      split at h5
      · cases h5
        rw [hf]
        refine iteT (hc _ _ h4 S0 H0 A0 S2 H2 τσ τρ σ _ l ((o.ext x1).ext x2) fun w S3 H3 x3 r3 => ?_)
        cases r3
        exact ⟨j, _, rfl, rfl, q _ S3 H3 ((x1.trans x2).trans x3) (.bl _)⟩
      · cases h5
    · rename_i hf
      cases h3
      rw [show f i j = false by simpa using hf]
      exact iteF (q _ S2 H2 (x1.trans x2) (.bl false))
  · cases h3
/-! ### built-ins that tell something of their own -/
def sortI (ns : List Int) : List Int := ns.mergeSort (fun a b => decide (a ≤ b))
theorem sortI_sorted (ns : List Int) : (sortI ns).Pairwise (· ≤ ·) := by
  have := List.pairwise_mergeSort (le := fun a b : Int => decide (a ≤ b)) (by intro a b c; simp; omega) (by intro a b; simp; omega) ns
  exact this.imp (by intro a b h; simpa using h)
theorem sortI_perm (ns : List Int) : (sortI ns).Perm ns := List.mergeSort_perm _ _
theorem sortI_uniq {ms ns : List Int} (h : ms.Perm ns) (s : ms.Pairwise (· ≤ ·)) : ms = sortI ns :=
  (h.trans (sortI_perm ns).symm).eq_of_pairwise (le := (· ≤ ·)) (fun a b _ _ h1 h2 => Int.le_antisymm h1 h2) s (sortI_sorted ns)
def lstO (ds : List D) : OT := .nd .lst (ds.map .d)
def GList : List D → Option OT
  | [.list ds] => some (lstO ds)
  | [.tuple ds] => some (lstO ds)
  | _ => Option.none
def GSortI : List D → Option OT
  | [.list ds] => (asInts ds).map fun ns => lstO ((sortI ns).map .int)
  | _ => Option.none
theorem own_lst {S H : Hp} {p : Addr} {vs : List V} {ds : List D} {Q : VK} (sh : Same S H) (hp : H p = none) (h : RpAll S vs ds) (q : ∀ v' S' H' A, Xt S H S' H' → OOk S' H' v' (lstO ds) A → A.Nodup → (∀ a ∈ A, H a = none) → Q v' H') : Q (.ref p) (upd H p (.lst vs)) :=
  q _ S _ [p] (.new sh hp) (.nd (k := .lst) rfl trivial (sh.free hp) upd_same (oall_of_rp h)) (by simp) fun a ha => by rw [List.mem_singleton.mp ha]; exact hp
theorem z_list : CbZ (fun xs H Q => ∃ p ys, xs = [V.ref p] ∧ (SqL kf.K H p ys ∨ SqT kf.K H p ys) ∧ ∀ l, H l = none → Q (.ref l) (upd H l (.lst ys))) GList := fun ds r h => by
  unfold GList at h
  split at h
  · cases h
    intro S H vs Q sh hr q
    cases hr with | cons a b => cases b; cases a with | lst r1 r2 => exact ⟨_, _, rfl, .inl (sh.seq r1), fun p hp => own_lst sh hp r2 q⟩
  · cases h
    intro S H vs Q sh hr q
    cases hr with | cons a b => cases b; cases a with | tup r1 r2 => exact ⟨_, _, rfl, .inr (.inl (.of (sh _ _ r1))), fun p hp => own_lst sh hp r2 q⟩
  · cases h
theorem z_sortI : CbZ (rSortedI kf.K) GSortI := fun ds r h => by
  unfold GSortI at h
  split at h
  · simp only [Option.map_eq_some_iff] at h
    obtain ⟨ns, h1, rfl⟩ := h
    have e := asInts_some h1
    subst e
    intro S H vs Q sh hr q
    cases hr with
    | cons a b =>
      cases b
      cases a with
      | lst r1 r2 =>
        have e := dpa_ints r2
        subst e
        refine ⟨_, ns, rfl, sh.seq r1, fun ms p g1 g2 hp => ?_⟩
        have e := sortI_uniq g1 g2
        subst e
        exact own_lst sh hp (dpa_of_ints _) q
  · cases h
end MR
namespace MR
open PySem L2 PL
/-! ### fresh things read -/
def rOpZ (G : D → D → Option OT) (a b : Rm) : Rm := fun ρ => (a ρ).bind fun d => (b ρ).bind fun e => (G d e).bind OT.toD
def rCbZ (G : List D → Option OT) (q : Qm) : Rm := fun ρ => (q ρ).bind fun ds => (G ds).bind OT.toD
/-- a list and a list -/
def GCat : D → D → Option OT
  | .list a, .list b => if a.length + b.length ≤ 1000000 then some (lstO (a ++ b)) else Option.none
  | _, _ => Option.none
/-- slices -/
abbrev Cm := Env → Option (Option Int)
def cNone : Cm := fun _ => some Option.none
def cSome (a : Rm) : Cm := fun ρ => (a ρ).bind fun d => (asInt d).map some
def rSl (a : Rm) (lo hi : Cm) : Rm := fun ρ => (a ρ).bind fun d => (asL d).bind fun xs => (lo ρ).bind fun l => (hi ρ).map fun h => .list (cutD xs l h)
def ySl (a : Dm) (lo hi : Cm) : Ym := fun ρ => (a ρ).bind fun p => (asL p.1).bind fun xs => (lo p.2).bind fun l => (hi p.2).map fun h => (lstO (cutD xs l h), p.2)
def ySlA (ra : Rm) (a : Dm) (lo hi : Cm) : Ym := fun ρ => match (ra ρ).bind fun d => (asL d).bind fun xs => (lo ρ).bind fun l => (hi ρ).bind fun h => lfO (some (lstO (cutD xs l h))) with
  | some r => some (r, ρ)
  | Option.none => ySl a lo hi ρ
/-- [..] * n, of a fresh list of flat items -/
def allD : List OT → Option (List D)
  | [] => some []
  | .d x :: ts => (allD ts).map fun xs => x :: xs
  | _ => Option.none
def yRep (y : Ym) (n : Rm) : Ym := fun ρ => (y ρ).bind fun p => match p.1 with
  | .nd .lst ts => (allD ts).bind fun xs => (n p.2).bind fun d => match d with
    | .int k => if -(2 ^ 63) ≤ k ∧ k < 2 ^ 63 ∧ xs.length * k.toNat ≤ 1000000 then some (lstO (List.replicate k.toNat xs).flatten, p.2) else Option.none
    | _ => Option.none
  | _ => Option.none
def yRng1 (n : Dm) : Ym := fun ρ => (n ρ).bind fun p => match p.1 with
  | .int k => if 0 ≤ k ∧ k ≤ 1000000 then some (lstO (rgD 0 k.toNat), p.2) else Option.none
  | _ => Option.none
def gRepr (d : D) : Option D := if d.canLay0 && decide (d.depth ≤ 60) && d.showable && decide (d.shown.length ≤ sizeLine) then some (.str d.shown) else Option.none
def rRepr (a : Rm) : Rm := fun ρ => (a ρ).bind gRepr
def dRepr (a : Dm) : Dm := fun ρ => (a ρ).bind fun p => (gRepr p.1).map fun x => (x, p.2)
def firstAt : List Int → Int → Nat → Option Nat
  | [], _, _ => Option.none
  | n :: ns, k, j => if n = k then some j else firstAt ns k (j + 1)
def gIndex : D → D → Option D
  | .list ds, .int k => (asInts ds).bind fun ns => (firstAt ns k 0).map fun j => .int (j : Nat)
  | _, _ => Option.none
def rIdx (a b : Rm) : Rm := fun ρ => (a ρ).bind fun d => (b ρ).bind fun e => gIndex d e
/-- dicts by pairs -/
def keyP : D → Option (List Key)
  | .tuple [.int i, .int j] => some [.inl i, .inl j]
  | _ => Option.none
def yDNew : Ym := fun ρ => some (.nd (.dT []) [], ρ)
def putO (ks : List (List Key)) (ts : List OT) (k : List Key) (v : OT) : Kd × List OT :=
  if (ks.any fun x => decide (x = k)) = true then (.dT ks, (ks.zip ts).map fun p => if p.1 = k then v else p.2) else (.dT (ks ++ [k]), ts ++ [v])
def sDPutM (i : Nat) (key val : Rm) : Sm := fun ρ => (val ρ).bind fun v => if !flat v then Option.none else (key ρ).bind fun d => (keyP d).bind fun k => match ρ[i]? with
  | some (.nd (.dT ks) ts) => if ks.length = ts.length ∧ ks.length ≤ 1000000 then some (.nx, ρ.set i (.nd (putO ks ts k (.d v)).1 (putO ks ts k (.d v)).2)) else Option.none
  | _ => Option.none
def asKeyP : List Key → Option (Int × Int)
  | [.inl i, .inl j] => some (i, j)
  | _ => Option.none
def asKeyPs : List (List Key) → Option (List (Int × Int))
  | [] => some []
  | k :: ks => (asKeyP k).bind fun p => (asKeyPs ks).map fun ps => p :: ps
def isTrueO : OT → Bool
  | .d (.bool true) => true
  | _ => false
def ySortD (i : Nat) : Ym := fun ρ => match ρ[i]? with
  | some (.nd (.dT ks) ts) => if ts.all isTrueO && decide (ks.length = ts.length) then (asKeyPs ks).map fun ps => (lstO ((srtL ps).map pairD), ρ) else Option.none
  | _ => Option.none
variable [kf : KF]
section
variable {ta tb tc te : TE} {tl tr : TA} {t u : TT} {a b c : Rm} {q p : Qm} {R : R2} {y z : Ym} {dm dn : Dm} {lm ln : Lm} {tol toh : TO} {lo hi : Cm} {js : List Nat} {i : Nat}
theorem z_cat : OpZ (rCatR kf.K) GCat := fun d e r h => by
  unfold GCat at h
  split at h
  · split at h
    · rename_i hl
      cases h
      intro S H v u Q sh h1 h2 q
      cases h1 with
      | lst r1 r2 =>
        cases h2 with
        | lst p1 p2 => exact ⟨_, _, _, _, rfl, rfl, sh.seq r1, sh.seq p1, sz_of (by rw [dpa_length r2, dpa_length p2]; exact hl), fun p hp => own_lst sh hp (dpa_append r2 p2) q⟩
    · cases h
  · cases h
/-! slices -/
def CC (to : TO) (m : Cm) : Prop := ∀ ρ i, m ρ = some i → ∀ (S0 H0 : Hp) (A0 : List Addr) (S H : Hp) (τσ : List (Option V)) (τρ : List OT) (σ : St) (Q : Option Int → Hp → Prop), τσ.length = τρ.length → Ok S0 H0 A0 S H (τσ ++ σ) (τρ ++ ρ) → (∀ S' H', Xt S H S' H' → Q i H') → to σ H Q
theorem c_cnone : CC tNoPart cNone := fun ρ i h => by cases h; exact fun S0 H0 A0 S H τσ τρ σ Q l o q => q S H (.refl o.sh)
theorem c_csome (ha : CR ta a) : CC (tPart ta) (cSome a) := fun ρ i h => by
  simp only [cSome, Option.bind_eq_some_iff, Option.map_eq_some_iff] at h
  obtain ⟨d, h1, n, h2, rfl⟩ := h
  cases d <;> simp [asInt] at h2
  subst h2
  exact fun S0 H0 A0 S H τσ τρ σ Q l o q => ha _ _ h1 S0 H0 A0 S H τσ τρ σ _ l o fun v S1 H1 x1 r1 => by cases r1; exact ⟨_, rfl, q S1 H1 x1⟩
theorem asL_some {d : D} {xs : List D} (h : asL d = some xs) : d = .list xs := by cases d <;> simp [asL] at h; rw [h]
theorem cut_rp {S : Hp} {vs : List V} {xs : List D} (r2 : RpAll S vs xs) (lo hi : Option Int) : RpAll S (cutV vs lo hi) (cutD xs lo hi) := by
  unfold cutV cutD
  rw [dpa_length r2]
  exact dpa_take _ (dpa_drop _ r2)
theorem c_rsl (ha : CR ta a) (hl : CC tol lo) (hh : CC toh hi) : CR (tSl (rSlL kf.K) ta tol toh) (rSl a lo hi) := fun ρ x h => by
  simp only [rSl, Option.bind_eq_some_iff, Option.map_eq_some_iff] at h
  obtain ⟨d, h1, xs, h2, i, h3, j, h4, rfl⟩ := h
  have e := asL_some h2
  subst e
  refine fun S0 H0 A0 S H τσ τρ σ Q l o q => ha _ _ h1 S0 H0 A0 S H τσ τρ σ _ l o fun v S1 H1 x1 r1 => hl _ _ h3 S0 H0 A0 S1 H1 τσ τρ σ _ l (o.ext x1) fun S2 H2 x2 => hh _ _ h4 S0 H0 A0 S2 H2 τσ τρ σ _ l ((o.ext x1).ext x2) fun S3 H3 x3 => ?_
  cases r1 with
  | lst r1 r2 =>
    have xa := x2.trans x3
    have r3 := cut_rp (dpa_mono xa.hh _ _ r2) i j
    refine ⟨_, _, rfl, xa.hh.seq r1, fun p hp => ?_⟩
    exact q _ S3 _ ((x1.trans xa).trans (.new x3.sh hp)) (.lst (SqL.of upd_same) (dpa_mono (Xt.new (o := .lst _) x3.sh hp).hh _ _ r3))
theorem c_ysl (ha : CD ta dm) (hl : CC tol lo) (hh : CC toh hi) : CY (tSl (rSlL kf.K) ta tol toh) (ySl dm lo hi) := fun ρ r ρ' h => by
  simp only [ySl, Option.bind_eq_some_iff, Option.map_eq_some_iff] at h
  obtain ⟨⟨d, ρ1⟩, h1, xs, h2, i, h3, j, h4, h5⟩ := h
  cases h5
  have e := asL_some h2
  simp only at e
  subst e
  refine fun S0 H0 A0 S H τσ τρ σ Q l o q => ha _ _ _ h1 S0 H0 A0 S H τσ τρ σ _ l o fun v S1 H1 s1 o1 r1 => hl _ _ h3 S0 H0 A0 S1 H1 τσ τρ σ _ l o1 fun S2 H2 x2 => hh _ _ h4 S0 H0 A0 S2 H2 τσ τρ σ _ l (o1.ext x2) fun S3 H3 x3 => ?_
  cases r1 with
  | lst r1 r2 =>
    have xa := x2.trans x3
    exact ⟨_, _, rfl, (o1.sh.trans xa.hh).seq r1, fun p hp => own_lst x3.sh hp (cut_rp (dpa_mono xa.ss _ _ r2) i j) fun v' S' H' A xt g nd fr => q v' S' H' (s1.trans (xa.ss.trans xt.ss)) (((o1.ext x2).ext x3).push xt g nd fr)⟩
theorem c_yslA (hra : CR ta a) (ha : CD ta dm) (hl : CC tol lo) (hh : CC toh hi) : CY (tSl (rSlL kf.K) ta tol toh) (ySlA a dm lo hi) := fun ρ r ρ' h => by
  unfold ySlA at h
  split at h
  · rename_i r' hr
    cases h
    simp only [Option.bind_eq_some_iff] at hr
    obtain ⟨d, h1, xs, h2, i, h3, j, h4, h5⟩ := hr
    obtain ⟨h6, h7⟩ := lfO_some h5
    cases h6
    have e := asL_some h2
    subst e
    refine fun S0 H0 A0 S H τσ τρ σ Q l o q => hra _ _ h1 S0 H0 A0 S H τσ τρ σ _ l o fun v S1 H1 x1 r1 => hl _ _ h3 S0 H0 A0 S1 H1 τσ τρ σ _ l (o.ext x1) fun S2 H2 x2 => hh _ _ h4 S0 H0 A0 S2 H2 τσ τρ σ _ l ((o.ext x1).ext x2) fun S3 H3 x3 => ?_
    cases r1 with
    | lst r1 r2 =>
      have xa := x2.trans x3
      refine ⟨_, _, rfl, xa.hh.seq r1, fun p hp => own_lst (Same.refl H3) hp (cut_rp (dpa_mono xa.hh _ _ r2) i j) fun v' S' H' A xt g nd fr => ?_⟩
      exact q v' _ H' ((x1.trans xa).trans (xt_low x3.sh xt)).ss ((((o.ext x1).ext x2).ext x3).push (xt_low x3.sh xt) (ook_lf xt.sh _ _ _ g h7 fun a ha => x3.sh.free (fr a ha)) nd fr)
  · exact c_ysl ha hl hh _ _ _ h
theorem allD_some : ∀ {ts : List OT} {xs : List D}, allD ts = some xs → ts = xs.map .d
  | [], xs, h => by cases h; rfl
  | .d x :: ts, xs, h => by
    simp only [allD, Option.map_eq_some_iff] at h
    obtain ⟨ys, h1, rfl⟩ := h
    rw [List.map_cons, ← allD_some h1]
  | .no :: ts, xs, h => by simp [allD] at h
  | .nd _ _ :: ts, xs, h => by simp [allD] at h
theorem c_yrep (hy : CY ta y) (hn : CR tb b) : CY (tOp rRep ta tb) (yRep y b) := fun ρ r ρ' h => by
  simp only [yRep, Option.bind_eq_some_iff] at h
  obtain ⟨⟨s, ρ1⟩, h1, h2⟩ := h
  simp only at h2
  split at h2
  · simp only [Option.bind_eq_some_iff] at h2
    obtain ⟨xs, h3, d, h4, h5⟩ := h2
    split at h5
    · split at h5
      · rename_i ts _ k hk
        cases h5
        have e := allD_some h3
        subst e
        refine fun S0 H0 A0 S H τσ τρ σ Q l o q => hy _ _ _ h1 S0 H0 A0 S H τσ τρ σ _ l o fun v S1 H1 s1 o1 => hn _ _ h4 S0 H0 A0 S1 H1 (some v :: τσ) (.nd .lst (xs.map .d) :: τρ) σ _ (by simp [l]) o1 fun u S2 H2 x2 r2 => ?_
        cases r2
        have o2 := o1.ext x2
        obtain ⟨B, e1, e2, e3⟩ := o2.env
        cases e1 with
        | cons p1 p2 =>
          cases p1 with
          | is p1 =>
            obtain ⟨a, vs, C, rfl, rfl, g1, g2, g3, g4⟩ := p1.inv_nd rfl
            have g5 := oall_rpS _ _ _ g4
            have len := dpa_length g5
            refine ⟨a, k, vs, rfl, rfl, g3, hk.1, hk.2.1, sz_of (by rw [len]; exact hk.2.2), fun p hp => ?_⟩
            exact own_lst x2.sh hp (dpa_rep g5 _) fun v' S' H' A xt g nd fr => q v' S' H' (s1.trans (x2.ss.trans xt.ss)) (o2.drop.push xt g nd fr)
      · cases h5
    · cases h5
  · cases h2
theorem c_yrng (hn : CD ta dm) : CY (tLstRg (tRg1 ta)) (yRng1 dm) := fun ρ r ρ' h => by
  simp only [yRng1, Option.bind_eq_some_iff] at h
  obtain ⟨⟨d, ρ1⟩, h1, h2⟩ := h
  simp only at h2
  split at h2
  · split at h2
    · rename_i n hk
      cases h2
      refine fun S0 H0 A0 S H τσ τρ σ Q l o q => hn _ _ _ h1 S0 H0 A0 S H τσ τρ σ _ l o fun v S1 H1 s1 o1 r1 => ?_
      cases r1
      refine ⟨_, rfl, RgOk.of_le (by omega) (by omega) (by omega) hk.1, fun p hp => ?_⟩
      have e := dpa_rg (H := S1) 0 n
      rw [show (n - 0).toNat = n.toNat by rw [Int.sub_zero]] at e
      exact own_lst o1.sh hp e fun v' S' H' A xt g nd fr => q v' S' H' (s1.trans xt.ss) (o1.push xt g nd fr)
    · cases h2
  · cases h2
/-! repr -/
def rReprV (K : PySem.W.Frag) : List V → Hp → VK → Prop := fun xs H Q => ∃ x d, xs = [x] ∧ Dp K H x d ∧ d.canLay0 = true ∧ d.depth ≤ 60 ∧ d.showable = true ∧ d.shown.length ≤ sizeLine ∧ Q (.str d.shown) H
end
theorem cr_repr {X : Cx} (hg : X.A.guards = some []) (hu : X.A.units + 64 < cLine) : CallR X (.builtin "repr") (rReprV X.K) := by
  intro pins s σ H xs us Q I r h
  obtain ⟨x, d, rfl, hd, hl, hdep, hs, hz, q⟩ := h
  obtain ⟨u, rfl, ru⟩ := vals1 r
  obtain ⟨as, hr⟩ := Dp.reads I d x u hd ru
  have fin : ∀ h' tk tk', (∀ b o, s.heap.get? b = some o → h'.get? b = some o) → EP X pins σ Q (.str d.shown tk') { s with heap := h', toks := tk } := fun h' tk tk' k => ⟨.str d.shown, H, I.kept k, ⟨tk', rfl⟩, q⟩
  have fin0 : ∀ tk', EP X pins σ Q (.str d.shown tk') { s with toks := s.toks + 1 } := fun tk' => ⟨.str d.shown, H, I.tok _, ⟨tk', rfl⟩, q⟩
  have fin1 : ∀ tk', EP X pins σ Q (.str d.shown tk') s := fun tk' => ⟨.str d.shown, H, I, ⟨tk', rfl⟩, q⟩
  cases hr with
  | none =>
    refine PySem.P.repr_of_none ?_
    simpa [PyData.shown_none] using fin0 s.toks
  | bool b =>
    refine PySem.P.repr_of_bool ?_
    simpa [PyData.shown_bool] using fin0 s.toks
  | int i t =>
    refine PySem.P.repr_of_int (by simpa [PyData.showable] using hs) ?_
    simpa [PyData.shown_int] using fin0 s.toks
  | str x t =>
    refine PySem.P.repr_of_str ?_ ?_
    · simpa [PyData.shown_str] using fin0 s.toks
    · simpa [PyData.shown_str] using hz
  | list h1 h2 h3 h4 =>
    exact PySem.repr_of_reads' (.list h1 h2 h3 h4) hs (PyData.noDict_hsm (PyData.hasDict_of_canLay _ hl)) hg (by omega) (fun _ _ e => e) (fun h' u tk k => fin h' tk u k) hz
  | tuple h1 h2 h3 h4 =>
    exact PySem.repr_of_reads' (.tuple h1 h2 h3 h4) hs (PyData.noDict_hsm (PyData.hasDict_of_canLay _ hl)) hg (by omega) (fun _ _ e => e) (fun h' u tk k => fin h' tk u k) hz
  | dict => simp [PyData.canLay0] at hl
theorem cr_reprK {X : Cx} {K : PySem.W.Frag} (hK : X.K = K) (hg : X.A.guards = some []) (hu : X.A.units + 64 < cLine) : CallR X (.builtin "repr") (rReprV K) := by subst hK; exact cr_repr hg hu
end MR
namespace MR
open PySem L2 PL
variable [kf : KF]
section
variable {ta tb tc te : TE} {tl tr tk : TA} {t u : TT} {a b c : Rm} {q p : Qm} {R : R2} {y z : Ym} {dm dn : Dm} {lm ln : Lm} {js : List Nat} {i : Nat} {E : XK}
theorem c_repr (ha : CR ta a) : CR (tCB (rReprV kf.K) (tCons ta tNil)) (rRepr a) := fun ρ x h => by
  simp only [rRepr, Option.bind_eq_some_iff] at h
  obtain ⟨d, h1, h2⟩ := h
  unfold gRepr at h2
  split at h2
  · rename_i hc
    simp only [Bool.and_eq_true, decide_eq_true_eq] at hc
    cases h2
    exact fun S0 H0 A0 S H τσ τρ σ Q l o q => ha _ _ h1 S0 H0 A0 S H τσ τρ σ _ l o fun v S1 H1 x1 r1 => ⟨v, d, rfl, rp_dp _ _ (noDc_lay _ hc.1.1.1) r1, hc.1.1.1, hc.1.1.2, hc.1.2, hc.2, q _ S1 H1 x1 (.str _)⟩
  · cases h2
theorem firstAt_some : ∀ {ns : List Int} {k : Int} {j m : Nat}, firstAt ns k j = some m → j ≤ m ∧ ns[m - j]? = some k ∧ ∀ i, i < m - j → ns[i]? ≠ some k
  | [], k, j, m, h => by cases h
  | n :: ns, k, j, m, h => by
    unfold firstAt at h
    split at h
    · cases h
      rename_i e
      subst e
      exact ⟨Nat.le_refl _, by rw [Nat.sub_self]; rfl, fun i hi => by omega⟩
    · rename_i e
      obtain ⟨h1, h2, h3⟩ := firstAt_some h
      have e2 : m - j = (m - (j + 1)) + 1 := by omega
      refine ⟨by omega, by rw [e2]; exact h2, fun i hi => ?_⟩
      cases i with
      | zero => intro z; simp at z; exact e z
      | succ i => intro z; exact h3 i (by omega) (by simpa using z)
theorem c_ridx (ha : CR ta a) (hb : CR tb b) : CR (tBM kf.K "list" (rIndex kf.K) ta (tCons tb tNil)) (rIdx a b) := fun ρ x h => by
  simp only [rIdx, Option.bind_eq_some_iff] at h
  obtain ⟨d, h1, e, h2, h3⟩ := h
  unfold gIndex at h3
  split at h3
  · rename_i _ _ ds0 k
    simp only [Option.bind_eq_some_iff, Option.map_eq_some_iff] at h3
    obtain ⟨ns, h4, j, h5, rfl⟩ := h3
    have e := asInts_some h4
    subst e
    obtain ⟨_, g1, g2⟩ := firstAt_some h5
    rw [Nat.sub_zero] at g1 g2
    refine fun S0 H0 A0 S H τσ τρ σ Q l o q => ha _ _ h1 S0 H0 A0 S H τσ τρ σ _ l o fun v S1 H1 x1 r1 => ?_
    cases r1 with
    | @lst a vs _ r1 r2 =>
      have e := dpa_ints r2
      subst e
      refine ⟨?_, hb _ _ h2 S0 H0 A0 S1 H1 τσ τρ σ _ l (o.ext x1) fun u S2 H2 x2 p1 => ?_⟩
      · rcases r1 with r1 | ⟨ob, its, n, k1, k2, k3, k4, k5, k6⟩
        · rcases r1 with r1 | ⟨ob, r1⟩
          · exact .inl ⟨rfl, _, .inl (.inl r1)⟩
          · exact .inl ⟨rfl, _, .inl (.inr ⟨ob, r1⟩)⟩
        · exact .inl ⟨rfl, _, .inr ⟨ob, its, n, k1, k2, k3, k4, k5, k6⟩⟩
      · cases p1
        refine ⟨a, ns.map V.int, .int k, j, .int k, rfl, rfl, x2.hh.seq r1, rfl, flat_ints, by rw [List.getElem?_map, g1]; rfl, by simp [eqV], fun m z' hm hz => ?_, q _ S2 H2 (x1.trans x2) (.int _)⟩
        rw [List.getElem?_map] at hz
        cases hh : ns[m]? with
        | none => rw [hh] at hz; cases hz
        | some w =>
          rw [hh] at hz
          cases hz
          have : w ≠ k := fun z => g2 m hm (by rw [hh, z])
          simp [eqV, this]
  · cases h3
theorem c_dnew : CY tDNewT yDNew := fun ρ r ρ' h => by
  cases h
  exact fun S0 H0 A0 S H τσ τρ σ Q l o q p hp => q _ S _ (Same.refl S) (o.push (.new o.sh hp) (.nd (k := .dT []) (vs := []) (B := []) rfl rfl (o.sh.free hp) upd_same .nil) (by simp) fun a ha => by rw [List.mem_singleton.mp ha]; exact hp)
theorem putK_zip {ks : List (List Key)} {vs : List V} {k : List Key} {v : V} (hl : ks.length = vs.length) :
    putK (ks.zip vs) k v = if (ks.any fun x => decide (x = k)) = true then ks.zip ((ks.zip vs).map fun p => if p.1 = k then v else p.2) else (ks ++ [k]).zip (vs ++ [v]) := by
  have e : ((ks.zip vs).any fun kv => decide (kv.1 = k)) = ks.any fun x => decide (x = k) := by
    have h1 : (ks.zip vs).map (·.1) = ks := List.map_fst_zip (by omega)
    have h2 : ((ks.zip vs).map (·.1)).any (fun x => decide (x = k)) = (ks.zip vs).any fun kv => decide (kv.1 = k) := by rw [List.any_map]; rfl
    rw [h1] at h2
    exact h2.symm
  unfold putK
  rw [e]
  split
  · have gen : ∀ (ks : List (List Key)) (vs : List V), ks.length = vs.length → (ks.zip vs).map (fun kv => if kv.1 = k then (kv.1, v) else kv) = ks.zip ((ks.zip vs).map fun p => if p.1 = k then v else p.2) := by
      intro ks
      induction ks with
      | nil => intro vs _; rfl
      | cons x ks ih =>
        intro vs hl
        cases vs with
        | nil => simp at hl
        | cons w vs =>
          simp only [List.zip_cons_cons, List.map_cons]
          rw [ih vs (by simpa using hl)]
          split <;> rfl
    exact gen ks vs hl
  · rw [List.zip_append hl]; rfl
theorem c_dput (hk : CR tb b) (hv : CR tc c) : CS js (sDPut (tVar i) tb tc) (sDPutM i b c) := fun ρ fl ρ' h => by
  simp only [sDPutM, Option.bind_eq_some_iff] at h
  obtain ⟨v, h1, h2⟩ := h
  split at h2
  · cases h2
  · rename_i hfl
    have hfl : flat v = true := by simpa using hfl
    simp only [Option.bind_eq_some_iff] at h2
    obtain ⟨d, h3, k, h4, h5⟩ := h2
    split at h5
    · rename_i ks ts ht
      split at h5
      · rename_i hc
        cases h5
        refine fun S0 H0 A0 S H σ F E hF hx o kk => hv _ _ h1 S0 H0 A0 S H [] [] σ _ rfl o fun w S1 H1 x1 r1 => ?_
        have o1 := o.ext x1
        obtain ⟨w0, a, vs, B, C, g1, g2, g5, g3, g6, g7, g8, g9, g10⟩ := Ok.rewrite (τσ := []) (τρ := []) (p := []) rfl o1.dummy ht rfl rfl
        simp only [follow, Option.some.injEq] at g2
        subst g2
        refine ⟨_, g1, hk _ _ h3 S0 H0 A0 S1 H1 [] [] σ _ rfl o1 fun u S2 H2 x2 r2 => ?_⟩
        have o2 := o1.ext x2
        obtain ⟨w0', a', vs', B', C', g1', g2', g5', g3', g6', g7', g8', g9', g10'⟩ := Ok.rewrite (τσ := []) (τρ := []) (p := []) rfl o2.dummy ht rfl rfl
        rw [g1] at g1'; cases g1'
        simp only [follow, Option.some.injEq] at g2'
        cases g2'
        unfold keyP at h4
        split at h4
        · rename_i i1 j1
          cases h4
          obtain ⟨ka, rfl, ke⟩ := rp_pair (p := (i1, j1)) r2
          have len := g7'.len
          refine ⟨a, _, rfl, DPut.t (k := [.inl i1, .inl j1]) g3' ke (sz_lt (by rw [List.length_zip]; omega)), ?_⟩
          rw [putK_zip (by omega)]
          have vw : OOk S2 H2 w (.d v) [] := .d (dp_flat hfl r1)
          have fin : ∀ {k' : Kd} {us : List V} {ts' : List OT} {B2 : List Addr}, k'.isTup = false → k'.fits ts'.length → OAll S2 H2 us ts' B2 → B2.Nodup → (∀ b ∈ B2, b ∈ B') → E.nx σ (upd H2 a (shape k' us)) → True := fun _ _ _ _ _ _ => trivial
          have done : ∀ {k' : Kd} {us : List V} {ts' : List OT} {B2 : List Addr}, k'.isTup = false → k'.fits ts'.length → OAll S2 H2 us ts' B2 → B2.Nodup → (∀ b ∈ B2, b ∈ B') → (.nd k' ts' = OT.nd (putO ks ts [.inl i1, .inl j1] (.d v)).1 (putO ks ts [.inl i1, .inl j1] (.d v)).2) → E.nx σ (upd H2 a (shape k' us)) := by
            intro k' us ts' B2 z1 z2 z3 z4 z5 z6
            have := g10' (k' := k') (y' := Option.none) (r' := .no) (C' := []) z1 z2 z3 .no (by simpa using z4) (fun b hb => List.mem_append_left _ (z5 b (by simpa using hb)))
            have := this.drop
            simp only [OT.put] at this
            rw [z6] at this
            exact kk S2 _ σ (x1.ss.trans x2.ss) hx this
          have ndB := (List.nodup_append.mp g9').1
          split
          · rename_i hany
            -- the values under that key are the new one
            have gen : ∀ (ks : List (List Key)) (vs : List V) (ts : List OT) (B : List Addr), ks.length = ts.length → OAll S2 H2 vs ts B → B.Nodup → ∃ B2, OAll S2 H2 ((ks.zip vs).map fun p => if p.1 = [Sum.inl i1, Sum.inl j1] then w else p.2) ((ks.zip ts).map fun p => if p.1 = [Sum.inl i1, Sum.inl j1] then OT.d v else p.2) B2 ∧ B2.Nodup ∧ ∀ b ∈ B2, b ∈ B := by
              intro ks
              induction ks with
              | nil => intro vs ts B hl h nd; exact ⟨[], .nil, List.nodup_nil, fun b hb => by cases hb⟩
              | cons x ks ih =>
                intro vs ts B hl h nd
                cases ts with
                | nil => simp at hl
                | cons t ts =>
                  cases h with
                  | @cons v0 vs _ _ A B h1 h2 =>
                    have nd' := List.nodup_append.mp nd
                    obtain ⟨B2, q1, q2, q3⟩ := ih vs ts B (by simpa using hl) h2 nd'.2.1
                    simp only [List.zip_cons_cons, List.map_cons]
                    by_cases e : x = [Sum.inl i1, Sum.inl j1]
                    · rw [if_pos e, if_pos e]
                      exact ⟨[] ++ B2, .cons vw q1, by simpa using q2, fun b hb => List.mem_append_right _ (q3 b (by simpa using hb))⟩
                    · rw [if_neg e, if_neg e]
                      refine ⟨A ++ B2, .cons h1 q1, List.nodup_append.mpr ⟨nd'.1, q2, fun a ha b hb => nd'.2.2 a ha b (q3 b hb)⟩, fun b hb => ?_⟩
                      rcases List.mem_append.mp hb with z | z
                      · exact List.mem_append_left _ z
                      · exact List.mem_append_right _ (q3 b z)
            obtain ⟨B2, q1, q2, q3⟩ := gen ks vs' ts B' hc.1 g7' ndB
            refine done (k' := .dT ks) rfl ?_ q1 q2 q3 ?_
            · show ks.length = _
              rw [List.length_map, List.length_zip]; omega
            · unfold putO; rw [if_pos hany]
          · rename_i hany
            refine done (k' := .dT (ks ++ [[.inl i1, .inl j1]])) rfl ?_ (g7'.app (.one vw)) (by simpa using ndB) (fun b hb => by simpa using hb) ?_
            · show (ks ++ [[Sum.inl i1, Sum.inl j1]]).length = (ts ++ [OT.d v]).length
              simp [hc.1]
            · unfold putO; rw [if_neg hany]
        · cases h4
      · cases h5
    · cases h5
theorem asKeyPs_some : ∀ {ks : List (List Key)} {ps : List (Int × Int)}, asKeyPs ks = some ps → ks = ps.map fun p => (PL.keyOf p).1
  | [], ps, h => by cases h; rfl
  | k :: ks, ps, h => by
    simp only [asKeyPs, Option.bind_eq_some_iff, Option.map_eq_some_iff] at h
    obtain ⟨p, h1, qs, h2, rfl⟩ := h
    rw [List.map_cons, ← asKeyPs_some h2]
    unfold asKeyP at h1
    split at h1
    · cases h1; rfl
    · cases h1
theorem c_sortD : CY (tCB rSortedDT (tCons (tVar i) tNil)) (ySortD i) := fun ρ r ρ' h => by
  unfold ySortD at h
  split at h
  · rename_i ks ts ht
    split at h
    · rename_i hc
      simp only [Bool.and_eq_true, decide_eq_true_eq] at hc
      simp only [Option.map_eq_some_iff] at h
      obtain ⟨ps, h1, h2⟩ := h
      cases h2
      have e := asKeyPs_some h1
      refine fun S0 H0 A0 S H τσ τρ σ Q l o q => ?_
      obtain ⟨v, A, e1, e2⟩ := o.slot l ht (by intro z; cases z)
      obtain ⟨a, vs, B, rfl, rfl, g1, g2, g3, g4⟩ := e2.inv_nd rfl
      have trues : ∀ (ts : List OT) (vs : List V) (B : List Addr), OAll S H vs ts B → ts.all isTrueO = true → ∀ ps : List (Int × Int), ps.length = ts.length → (ps.map fun p => (PL.keyOf p).1).zip vs = ps.map PL.keyOf := by
        intro ts
        induction ts with
        | nil => intro vs B h _ ps hl; cases h; cases ps with
          | nil => rfl
          | cons => simp at hl
        | cons t ts ih =>
          intro vs B h hall ps hl
          rw [List.all_cons, Bool.and_eq_true] at hall
          cases h with
          | cons h1 h2 =>
            cases ps with
            | nil => simp at hl
            | cons p ps =>
              have et : t = .d (.bool true) := by
                have := hall.1
                unfold isTrueO at this
                split at this
                · rfl
                · cases this
              subst et
              cases h1 with
              | d h1 =>
                cases h1
                simp only [List.map_cons, List.zip_cons_cons]
                rw [ih _ _ h2 hall.2 ps (by simpa using hl)]
                rfl
      have g3' : H a = some (.dT (ps.map PL.keyOf)) := by
        rw [g3]
        show some (HO.dT (ks.zip vs)) = _
        rw [e, trues ts vs B g4 hc.1 ps (by rw [← hc.2, e, List.length_map])]
      refine ⟨_, e1, a, ps, rfl, g3', fun qs p q1 q2 q3 hp => ?_⟩
      have eq : srtL ps = qs.map (·.2) := lex_uniq (srtL_lex ps) q1 ((srtL_perm ps).trans q2.symm)
      have rp : ∀ l : List (Addr × (Int × Int)), (∀ z ∈ l, z ∈ qs) → RpAll (frz S H []) (l.map fun q => V.ref q.1) ((l.map (·.2)).map pairD) := by
        intro l
        induction l with
        | nil => intro _; exact .nil
        | cons z l ih =>
          intro hm
          exact .cons (.tup (frz_tup (q3 z (hm z List.mem_cons_self))) (.cons (.int _) (.cons (.int _) .nil))) (ih fun w hw => hm w (List.mem_cons_of_mem _ hw))
      rw [eq] at q
      have xf := xt_frz (S := S) (H := H) o.sh
      exact own_lst xf.sh hp (rp qs fun _ z => z) fun v' S' H' A xt g nd fr => q v' S' H' (xf.ss.trans xt.ss) ((o.ext xf).push xt g nd fr)
    · cases h
  · cases h
/-! ### keywords in the parameters' order -/
def gApp {α : Type} (m k : Nat) : List α → List α → List α := fun a b => if a.length = m ∧ b.length = k then a ++ b else []
omit kf in
theorem gApp_rel {m k : Nat} {vs : List V} {us : List Value} {zs : List V} {ws : List Value} (h : Vals vs us) (h' : Vals zs ws) : Vals (gApp m k vs zs) (gApp m k us ws) := by
  unfold gApp
  rw [h.length, h'.length]
  split
  · exact h.append h'
  · exact .nil
omit kf in
theorem gApp_len {α : Type} {m k n : Nat} {a b : List α} (h : (gApp m k a b).length = n + 1) : a.length = m ∧ b.length = k := by
  unfold gApp at h
  split at h
  · assumption
  · cases h
def lApp (m k : Nat) (a b : Lm) : Lm := fun ρ => (a ρ).bind fun p => (b p.2).bind fun q => if p.1.length = m ∧ q.1.length = k then some (p.1 ++ q.1, q.2) else Option.none
def qApp (m k : Nat) (a b : Qm) : Qm := fun ρ => (a ρ).bind fun p => (b ρ).bind fun q => if p.length = m ∧ q.length = k then some (p ++ q) else Option.none
theorem gApp_rp {S : Hp} {m k : Nat} {vs us : List V} {xs ys : List D} (g1 : RpAll S vs xs) (g2 : RpAll S us ys) (h : xs.length = m ∧ ys.length = k) : RpAll S (gApp m k vs us) (xs ++ ys) := by
  unfold gApp
  rw [if_pos ⟨by rw [dpa_length g1]; exact h.1, by rw [dpa_length g2]; exact h.2⟩]
  exact dpa_append g1 g2
theorem c_qapp {m k : Nat} {ρ : Env} {ds : List D} (h : qApp m k q p ρ = some ds) : ∃ xs ys, q ρ = some xs ∧ p ρ = some ys ∧ ds = xs ++ ys ∧ xs.length = m ∧ ys.length = k := by
  simp only [qApp, Option.bind_eq_some_iff] at h
  obtain ⟨xs, h1, ys, h2, h3⟩ := h
  split at h3
  · rename_i hh; cases h3; exact ⟨xs, ys, h1, h2, rfl, hh.1, hh.2⟩
  · cases h3
theorem c_callK {f : List D → Option OT} {n m k : Nat} (ha : CQ tl q) (hb : CQ tk p) : CR (tCallK (spP n f) (gApp m k) E tl tk) (rCall f n (qApp m k q p)) := fun ρ x h => by
  simp only [rCall, Option.bind_eq_some_iff] at h
  obtain ⟨ds, h0, h4⟩ := h
  obtain ⟨xs, ys, h1, h2, e, hh⟩ := c_qapp h0
  subst e
  split at h4
  · rename_i hn
    simp only [Option.bind_eq_some_iff] at h4
    obtain ⟨r, h5, h6⟩ := h4
    exact fun S0 H0 A0 S H τσ τρ σ Q l o q => ha _ _ h1 S0 H0 A0 S H τσ τρ σ _ l o fun vs S1 H1 x1 g1 => hb _ _ h2 S0 H0 A0 S1 H1 τσ τρ σ _ l (o.ext x1) fun us S2 H2 x2 g2 =>
      ⟨H2, xs ++ ys, r, hn, Same.refl H2, gApp_rp (dpa_mono x2.hh _ _ g1) g2 hh, h5, fun v S' H' B xt hr nd fr => q v _ H' ((x1.trans x2).trans (xt_low x2.sh xt)) (ook_rp xt.sh _ _ _ _ hr h6)⟩
  · cases h4
end
/-- a def with what it promises -/
structure Dq (P : Program) (w : World) (K : PySem.W.Frag) (mg : Str → Option Value) (base : Heap) (x : Str) (k : Nat) (ps : List Str) (sp : Sp) where
  a : Addr
  fd : FuncData
  kp : PySem.W.keepIn K (.ref a) = true
  g : mg x = some (.ref a)
  G : FnQ P w K mg base CX0 k a fd ps sp
  b : Binds K fd ps []
section
variable {X : Cx} {CX : CXT} {k : Nat} {f : Addr} {fd : FuncData} {ps ks : List Str} {sp : Sp} {E : XK} {x : Str} {p pos : Pos} {e : Expr} {es : List Expr} {kws : List Keyword} {t tk : TA}
  {g : List Value → List Value → List Value} {gV : List V → List V → List V}
theorem pe_callQK (F : FnQ X.prog X.w X.K X.mg X.base CX k f fd ps sp) (hr : Room k X.A) (gd : X.A.guards = some []) (hg : Gl X x) (hm : X.mg x = some (.ref f)) (hk : PySem.W.keepIn X.K (.ref f) = true) (hb : KBinds X.K fd ps ks g gV) (hx : Passes CX X E)
    (ha : PA X (e :: es) t) (hkw : PK X kws tk) (hall : (backToKw pos (keywordEach kws X.env)).all (·.1.isSome) = true := by rfl) (hks : (backToKw pos (keywordEach kws X.env)).filterMap (·.1) = ks := by rfl)
    (hdb : (x == ("__debug__" : Str)) = false := by decide) (he : starEach (e :: es) X.env = (false, eval e X.env) :: starEach es X.env := by rfl)
    (hpl : ((backTo pos (starEach (e :: es) X.env)).any (·.1) || (backToKw pos (keywordEach kws X.env)).any (·.1.isNone)) = false := by rfl) :
    PE X (.Call (.Name x p) (e :: es) kws pos) (tCallK sp gV E t tk) := by
  refine ⟨fun pins s σ H Q I h => wpAny_Call_Name_kw (ld_glob I hg hm ?_ hdb)⟩
  refine PySem.W.callWith_KW (h₀ := X.base) I.ok.mod.kin hk hall (thn (ha.run pos pins s σ H _ I h) ?_) hpl he
  rintro us s1 ⟨vs, H1, I1, r, q⟩
  refine thn (hkw.run pos pins s1 σ H1 _ I1 q) ?_
  rintro ws s2 ⟨zs, H2, I2, rz, q2⟩
  refine ⟨I2.kIn, ?_⟩
  rw [hks]
  have rr := hb.rel r rz
  have hl : (g us ws).length = ps.length := by rw [← rr.length]; exact F.ln _ _ _ _ q2
  refine wpAny_call (codeAny_mono (F.go X.A X.stack s2 H2 ⟨us, ks.zip ws⟩ (g us ws) (gV vs zs) Q E hr gd I2.env0 (hb.to s2 us ws I2.kIn hl) rr q2) fun res s' hq => ?_)
  match res, hq with
  | .error e, hq => exact hx pins σ H2 s2 e s' I2 hq
  | .ok (.ret u), hq => exact I2.after hq
  | .ok .next, hq => cases hq
  | .ok .brk, hq => cases hq
  | .ok .cont, hq => cases hq
end
section
variable {X : Cx} {K : PySem.W.Frag} (hK : X.K = K)
include hK
theorem mt_indexK : MtR X "list.index" (rIndex K) := by subst hK; exact mt_index
end
end MR
namespace MR
open PySem L2 PL
/-- f(x, ..), x made anew and let go -/
def yCallIT (f : OT → List D → Option (OT × OT)) (n : Nat) (y : Ym) (a : Lm) : Ym := fun ρ => (y ρ).bind fun p => if isNo p.1 then Option.none else (a p.2).bind fun q => if q.1.length + 1 = n then (f p.1 q.1).map fun s => (s.1, q.2) else Option.none
variable [kf : KF] [wx : WXI]
end MR
namespace MR
open PySem L2 PL
def ini (ds : List D) (k : Nat) : Env := ds.map OT.d ++ List.replicate k OT.no
variable [kf : KF] [wx : WXI]
theorem tie_plain {n k : Nat} {B : Sm} {vs : List V} {H : Hp} {Q : VK} {E : XK} {N : List Str} {t : TS} (hk : N.length - n = k) (hc : CS [] t B) (h : spP n (fun ds => fin (B (ini ds k))) vs H Q E) : t { nx := fun _ H' => Q .non H', rt := Q } (L2.start N vs) H := by
  subst hk
  exact def_plain h fun ds r hn hf => ⟨B (ini ds _), hf, fun fl ρ' e => hc _ _ _ e⟩
end MR
namespace MR
open PySem L2 PL
variable [kf : KF] [wx : WXI]
section
variable {ρ ρ1 ρ2 ρ' : Env} {ta tb tc te : TE} {tl : TA} {d e x y : D} {r s t t0 : OT} {S H S' H' S0 H0 : Hp} {A0 : List Addr} {σ τσ : St} {τρ : List OT} {ts : List OT} {js : List Nat} {i : Nat} {p : List Nat}
theorem pt_ixT {n : Int} {j : Nat} {k : Kd} (hp : PtE ta ρ i p) (ht : ρ[i]? = some t) (hs : t.at p = some (.nd .tup ts)) (hb : RdE tb ρ (.int n)) (hj : ixN ts.length n = some j) : PtE (tOp (rIxT kf.K) ta tb) ρ i (p ++ [j]) := fun S0 H0 A0 S H τσ τρ σ Q l o q =>
  hp S0 H0 A0 S H τσ τρ σ _ l o fun v0 v S1 H1 x1 e1 f1 => hb S0 H0 A0 S1 H1 τσ τρ σ _ l (o.ext x1) fun u S2 H2 x2 h2 => by
    cases h2
    have o2 := (o.ext x1).ext x2
    have hn : t ≠ .no := by rintro rfl; cases p <;> simp [OT.at] at hs
    obtain ⟨v0', A, g1, g2, g3, _⟩ := o2.tree l ht hn
    rw [e1] at g1
    cases g1
    obtain ⟨w, A1, f2, f3, _⟩ := ook_path p g2 g3 hs
    have o1 := o.ext x1
    obtain ⟨v0'', A', g1', g2', g3', _⟩ := o1.tree l ht hn
    rw [e1] at g1'
    cases g1'
    obtain ⟨w', A1', f2', f3', _⟩ := ook_path p g2' g3' hs
    rw [f1] at f2'
    cases f2'
    have same : follow H2 v0 p = follow H1 v0 p := by
      have gen : ∀ (p : List Nat) (v w : V), follow H1 v p = some w → follow H2 v p = some w := by
        intro p
        induction p with
        | nil => intro v w h; exact h
        | cons i p ih =>
          intro v w h
          cases v with
          | ref a =>
            simp only [follow] at h ⊢
            cases hk : (kids (H1 a))[i]? with
            | none => rw [hk] at h; cases h
            | some u =>
              rw [hk] at h
              have : kids (H2 a) = kids (H1 a) := by
                cases hh : H1 a with
                | none => rw [hh] at hk; simp [kids] at hk
                | some o' => rw [x2.hh a o' hh]
              rw [this, hk]
              exact ih u w h
          | _ => simp [follow] at h
      rw [f1]
      exact gen p v0 v f1
    rw [f2, f1] at same
    cases same
    cases f3 with
    | nd y0 => cases y0
    | @tup a vs _ _ y3 y4 =>
      have len := y4.len
      have hlt : j < vs.length := by
        have := (ixN_seq hj).2.1
        omega
      refine ⟨a, vs, n, vs[j], rfl, rfl, .inl (.of y3), ?_, q v0 vs[j] S2 H2 (x1.trans x2) e1 ?_⟩
      · unfold atI
        rw [len, hj]
        exact List.getElem?_eq_getElem hlt
      · have app : ∀ (p : List Nat) (v : V), follow H2 v p = some (.ref a) → follow H2 v (p ++ [j]) = some vs[j] := by
          intro p
          induction p with
          | nil =>
            intro v h
            simp only [follow, Option.some.injEq] at h
            subst h
            simp only [List.nil_append, follow, y3, kids]
            rw [List.getElem?_eq_getElem hlt]
          | cons i p ih =>
            intro v h
            cases v with
            | ref b =>
              simp only [List.cons_append, follow] at h ⊢
              cases hk : (kids (H2 b))[i]? with
              | none => rw [hk] at h; cases h
              | some u => rw [hk] at h; exact ih u h
            | _ => simp [follow] at h
        exact app p v0 f2
end
def pmIxT (pm : Pm) (ix : Rm) : Pm := fun ρ => (pm ρ).bind fun q => match q.2 with
  | .nd .tup ts => (ix ρ).bind fun d => match d with
    | .int n => (ixN ts.length n).bind fun j => (ts[j]?).map fun s => (q.1 ++ [j], s)
    | _ => Option.none
  | _ => Option.none
theorem c_pixT {tp tb : TE} {i : Nat} {pm : Pm} {b : Rm} (hp : CP tp i pm) (hb : CR tb b) : CP (tOp (rIxT kf.K) tp tb) i (pmIxT pm b) := fun ρ p s h => by
  simp only [pmIxT, Option.bind_eq_some_iff] at h
  obtain ⟨⟨p0, s0⟩, h1, h2⟩ := h
  obtain ⟨g1, t, g2, g3⟩ := hp _ _ _ h1
  simp only at h2
  split at h2
  · rename_i us
    simp only [Option.bind_eq_some_iff] at h2
    obtain ⟨d, h3, h4⟩ := h2
    split at h4
    · simp only [Option.bind_eq_some_iff, Option.map_eq_some_iff] at h4
      obtain ⟨j, h5, s', h6, h7⟩ := h4
      cases h7
      exact ⟨pt_ixT (k := .tup) g1 g2 g3 (hb _ _ h3) h5, t, g2, (at_app p0 t .tup us j g3).trans h6⟩
    · cases h4
  · cases h2
end MR
namespace MR
open PySem L2 PL
section
variable {X : Cx} {K : PySem.W.Frag} (hK : X.K = K) {T : String} {name : Str} {id : String} {r : V → List V → Hp → VK → Prop} {o e : Expr} {es : List Expr} {to : TE} {t : TA} {apos cpos : Pos}
include hK
theorem pe_bmK (pa : PlainAttrs T) (slot : Slot T name id) (hty : typeOf (.builtin id) = pure (.type "method_descriptor")) (hm : MtR X id r) (ho : PE X o to) (ha : PA X (e :: es) t)
    (hbase : attributeBase o name X.env (eval o X.env) = eval o X.env := by rfl)
    (hfew : ((backTo cpos (starEach (e :: es) X.env)).all (fun x => !x.1) && (backToKw cpos (keywordEach [] X.env)).all (fun x => x.1.isSome) && decide ((e :: es).length + ([] : List Keyword).length + (if ([] : List Keyword).isEmpty then 0 else 1) < 30)) = true := by rfl)
    (hline : (apos.endLine == cpos.line) = true := by rfl) (hs : starEach (e :: es) X.env = (false, eval e X.env) :: starEach es X.env := by rfl) (hp : (backTo cpos (starEach es X.env)).any (·.1) = false := by rfl) :
    PE X (.Call (.Attribute o name apos) (e :: es) [] cpos) (tBM K T r to t) := by
  subst hK
  exact pe_bm pa slot hty hm ho ha hbase hfew hline hs hp
theorem pe_bm0K' (pa : PlainAttrs T) (slot : Slot T name id) (hty : typeOf (.builtin id) = pure (.type "method_descriptor")) (hm : MtR X id r) (ho : PE X o to)
    (hbase : attributeBase o name X.env (eval o X.env) = eval o X.env := by rfl) (hline : (apos.endLine == cpos.line) = true := by rfl) : PE X (.Call (.Attribute o name apos) [] [] cpos) (tBM0 K T r to) := by
  subst hK
  exact pe_bm0 pa slot hty hm ho hbase hline
end
end MR
namespace MR
open PySem L2 PL
/-- a <= b < c < d, ints -/
def rCh3 (f g h : Int → Int → Bool) (a b c d : Rm) : Rm := fun ρ => (a ρ).bind fun x => (b ρ).bind fun y => match x, y with
  | .int i, .int j => if f i j then (c ρ).bind fun z => match z with
    | .int k => if g j k then (d ρ).bind fun u => match u with
      | .int l => some (.bool (h k l))
      | _ => Option.none
      else some (.bool false)
    | _ => Option.none
    else some (.bool false)
  | _, _ => Option.none
variable [kf : KF]
theorem c_ch3 {ta tb tc td : TE} {a b c d : Rm} {f g h : Int → Int → Bool} (ha : CR ta a) (hb : CR tb b) (hc : CR tc c) (hd : CR td d) :
    CR (tCh3 (rI0 fun i j => .bl (f i j)) (rI0 fun i j => .bl (g i j)) (rI0 fun i j => .bl (h i j)) ta tb tc td) (rCh3 f g h a b c d) := fun ρ x hh => by
  simp only [rCh3, Option.bind_eq_some_iff] at hh
  obtain ⟨d1, h1, e1, h2, h3⟩ := hh
  split at h3
  · rename_i i j
    refine fun S0 H0 A0 S H τσ τρ σ Q l o q => ha _ _ h1 S0 H0 A0 S H τσ τρ σ _ l o fun v S1 H1 x1 r1 => hb _ _ h2 S0 H0 A0 S1 H1 τσ τρ σ _ l (o.ext x1) fun u S2 H2 x2 r2 => ?_
    cases r1; cases r2
    refine ⟨i, j, rfl, rfl, f i j, rfl, ?_⟩
    split at h3
    · rename_i hf
      simp only [Option.bind_eq_some_iff] at h3
      obtain ⟨z, h4, h5⟩ := h3
      split at h5
      · rename_i k
        rw [hf]
        refine iteT (hc _ _ h4 S0 H0 A0 S2 H2 τσ τρ σ _ l ((o.ext x1).ext x2) fun w S3 H3 x3 r3 => ?_)
        cases r3
        refine ⟨j, k, rfl, rfl, g j k, rfl, ?_⟩
        split at h5
        · rename_i hg
          simp only [Option.bind_eq_some_iff] at h5
          obtain ⟨u, h6, h7⟩ := h5
          split at h7
          · cases h7
            rw [hg]
            refine iteT (hd _ _ h6 S0 H0 A0 S3 H3 τσ τρ σ _ l (((o.ext x1).ext x2).ext x3) fun w S4 H4 x4 r4 => ?_)
            cases r4
            exact ⟨k, _, rfl, rfl, q _ S4 H4 (((x1.trans x2).trans x3).trans x4) (.bl _)⟩
          · cases h7
        · rename_i hg
          cases h5
          rw [show g j k = false by simpa using hg]
          exact iteF (q _ S3 H3 ((x1.trans x2).trans x3) (.bl false))
      · cases h5
    · rename_i hf
      cases h3
      rw [show f i j = false by simpa using hf]
      exact iteF (q _ S2 H2 (x1.trans x2) (.bl false))
  · cases h3
end MR
namespace MR
open PySem PySem.Spec PyProof.Rows L2 PL
/-! ### sorted and < over data of any depth -/
def isTup1 : D → Bool
  | .tuple (_ :: _) => true
  | _ => false
def isPl : D → Bool
  | .none => false
  | .tuple _ => false
  | _ => true
def sortOk (ds : List D) : Bool := (ds.all fun d => ds.all fun e => PySem.W.alike d e) && (ds.all isTup1 || ds.all isPl) && ds.all fun d => decide (d.depth ≤ 8)
def dLe (d e : D) : Bool := !PySem.W.dataLt e d
def dsort (ds : List D) : List D := ds.mergeSort dLe
section
variable {X : Cx} {K : PySem.W.Frag}
def rSortA (K : PySem.W.Frag) : List V → Hp → VK → Prop := fun vs H Q => ∃ (a : Addr) (bs : List (V × D)), vs = [V.ref a] ∧ SqL K H a (bs.map (·.1)) ∧ (∀ b ∈ bs, Dp K H b.1 b.2) ∧
  PySem.W.AllAlike (bs.map (·.2)) ∧ PySem.W.Sortable (bs.map (·.2)) ∧ (∀ b ∈ bs, b.2.depth ≤ 8) ∧ ∀ p, H p = none → Q (.ref p) (upd H p (.lst ((bs.mergeSort (PySem.W.dataLe false (·.2))).map (·.1))))
theorem each_vals {bs : List (V × D)} : ∀ {us : List Value}, Vals (bs.map (·.1)) us → PySem.W.EachIs (fun v (b : V × D) => RelV b.1 v ∧ b ∈ bs) us bs := by
  have gen : ∀ (cs : List (V × D)) (us : List Value), (∀ c ∈ cs, c ∈ bs) → Vals (cs.map (·.1)) us → PySem.W.EachIs (fun v (b : V × D) => RelV b.1 v ∧ b ∈ bs) us cs := by
    intro cs
    induction cs with
    | nil => intro us _ h; cases h; exact .nil
    | cons c cs ih =>
      intro us hm h
      cases h with
      | cons a b => exact .cons ⟨a, hm c List.mem_cons_self⟩ (ih _ (fun c hc => hm c (List.mem_cons_of_mem _ hc)) b)
  intro us h
  exact gen bs us (fun _ h => h) h
theorem vals_each {bs : List (V × D)} {P : V × D → Prop} : ∀ {us : List Value}, PySem.W.EachIs (fun v (b : V × D) => RelV b.1 v ∧ P b) us bs → Vals (bs.map (·.1)) us := by
  induction bs with
  | nil => intro us h; cases h; exact .nil
  | cons b bs ih => intro us h; cases h with | cons a b => exact .cons a.1 (ih b)
theorem cr_sortA (hK : X.K = K) (hu : X.A.units + 65 < cLine) : CallR X (.builtin "sorted") (rSortA K) := by
  subst hK
  intro pins s σ H vs us Q I r h
  obtain ⟨a, bs, rfl, hs, hd, hal, hso, hz, q⟩ := h
  obtain ⟨its, rv, hl, hz2⟩ := I.list hs
  rw [Vals.ref1 r]
  have e := each_vals rv
  have hlen : bs.length ≤ sizeLine := by rw [List.length_map] at hz2; exact hz2
  refine PySem.W.sorted_data (R := fun v (b : V × D) => RelV b.1 v ∧ b ∈ bs) (enc := fun b => b.2) (bs := bs) hl.isList e (e.mono fun v b hb => Dp.reads I b.2 b.1 v (hd b hb.2) hb.1) hal hso hlen (fun b hb => ?_) fun out ho hR => ?_
  · have := hz b hb; omega
  · obtain ⟨ep, he'⟩ := PyProof.Rows.sortedAll_at s.heap its out.toArray
    have hlen2 : ((bs.mergeSort (PySem.W.dataLe false fun b => b.2)).map (·.1)).length ≤ sizeLine := by
      rw [List.length_map, List.length_mergeSort]; exact hlen
    exact ⟨.ref _, upd H (s.heap.objs.size + 1) (.lst ((bs.mergeSort (PySem.W.dataLe false fun b => b.2)).map (·.1))), I.laid (t' := s.toks) (fun _ _ => PyProof.Rows.sortedAll_old) (Nat.le_succ _) ⟨hlen2, out, ep, vals_each hR, he'⟩, rfl, q _ (I.hok.fresh (Nat.le_succ _))⟩
end
def GSortA : List D → Option OT
  | [.list ds] => if sortOk ds then some (lstO (dsort ds)) else Option.none
  | _ => Option.none
mutual
theorem noDc_alike : ∀ d : D, PySem.W.alike d d = true → noDc d = true
  | .none, _ => by simp [noDc]
  | .bool _, _ => by simp [noDc]
  | .int _, _ => by simp [noDc]
  | .str _, _ => by simp [noDc]
  | .list xs, h => by
    simp only [noDc]
    exact noDcs_alike xs (by simpa only [PySem.W.alike] using h)
  | .tuple xs, h => by
    simp only [noDc]
    exact noDcs_alike xs (by simpa only [PySem.W.alike] using h)
  | .dict _, h => by simp [PySem.W.alike] at h
theorem noDcs_alike : ∀ ds : List D, PySem.W.alikeAll ds ds = true → noDcs ds = true
  | [], _ => by simp [noDcs]
  | x :: xs, h => by
    have h' := PySem.W.alike_all_cons h
    simp only [noDcs, noDc_alike x h'.1, noDcs_alike xs h'.2, Bool.and_self]
end
variable [kf : KF]
theorem zip_all {S : Hp} : ∀ {vs : List V} {ds : List D}, RpAll S vs ds → ∀ b ∈ vs.zip ds, Rp S b.1 b.2
  | _, _, .nil, b, hb => by simp at hb
  | _, _, .cons a t, b, hb => by
    rw [List.zip_cons_cons] at hb
    rcases List.mem_cons.mp hb with rfl | hb
    · exact a
    · exact zip_all t b hb
theorem dpa_of_zip {S : Hp} : ∀ {bs : List (V × D)}, (∀ b ∈ bs, Rp S b.1 b.2) → RpAll S (bs.map (·.1)) (bs.map (·.2))
  | [], _ => .nil
  | b :: bs, h => .cons (h b List.mem_cons_self) (dpa_of_zip fun c hc => h c (List.mem_cons_of_mem _ hc))
theorem z_sortA : CbZ (rSortA kf.K) GSortA := fun ds r h => by
  unfold GSortA at h
  split at h
  · rename_i ds
    split at h
    · rename_i hc
      cases h
      simp only [sortOk, Bool.and_eq_true, List.all_eq_true, Bool.or_eq_true, decide_eq_true_eq] at hc
      obtain ⟨⟨h1, h2⟩, h3⟩ := hc
      intro S H vs Q sh hr q
      cases hr with
      | cons a b =>
        cases b
        cases a with
        | @lst a xs _ r1 r2 =>
          have len := dpa_length r2
          have e1 : (xs.zip ds).map (·.1) = xs := by rw [List.map_fst_zip]; omega
          have e2 : (xs.zip ds).map (·.2) = ds := by rw [List.map_snd_zip]; omega
          have za := zip_all r2
          have dsm : ∀ b ∈ xs.zip ds, b.2 ∈ ds := fun b hb => by rw [← e2]; exact List.mem_map_of_mem hb
          refine ⟨a, xs.zip ds, rfl, by rw [e1]; exact sh.seq r1, fun b hb => rp_dp _ _ (noDc_alike _ (h1 b.2 (dsm b hb) b.2 (dsm b hb))) (dp_mono sh _ _ (za b hb)), by rw [e2]; exact fun d hd e he => h1 d hd e he, ?_, fun b hb => h3 b.2 (dsm b hb), fun p hp => ?_⟩
          · rw [e2]
            rcases h2 with h2 | h2
            · refine .inl fun d hd => ?_
              have := h2 d hd
              match d, this with
              | .tuple (x :: r), _ => exact ⟨x, r, rfl⟩
            · refine .inr fun d hd => ?_
              have := h2 d hd
              exact ⟨fun z => by subst z; simp [isPl] at this, fun xs z => by subst z; simp [isPl] at this⟩
          · have e3 : ((xs.zip ds).mergeSort (PySem.W.dataLe false fun b => b.2)).map (·.2) = dsort ds := by
              have := PySem.W.sort_maps (r := PySem.W.dataLe false fun (b : V × D) => b.2) (s := dLe) (fun b : V × D => b.2) (l := xs.zip ds) (fun a _ b _ => rfl)
              rw [this]
              unfold dsort
              rw [e2]
            have ra := dpa_of_zip (S := S) (bs := (xs.zip ds).mergeSort (PySem.W.dataLe false fun b => b.2)) fun b hb => za b ((List.mergeSort_perm _ _).mem_iff.mp hb)
            rw [e3] at ra
            exact own_lst sh hp ra q
    · cases h
  · cases h
end MR
namespace MR
open PySem PySem.Spec PyProof.Rows L2 PL
/-! ### {k: v for .. in ..}, the keys tuples -/
end MR
namespace MR
open PySem L2 PL
variable [kf : KF]
def dcStep (g : Gm) (k v : Rm) : D → Env → Option (D × D × Env) := fun x ρ => (g x ρ).bind fun ρm => (k ρm).bind fun d => (v ρm).map fun e => (d, e, ρm)
/-- t in d, d an owned dict by pairs -/
def rInDct (neg : Bool) (a : Rm) (i : Nat) : Rm := fun ρ => (a ρ).bind fun d => (keyP d).bind fun k => match ρ[i]? with
  | some (.nd (.dT ks) ts) => if ks.length = ts.length then some (.bool (if neg then !(ks.any fun x => decide (x = k)) else ks.any fun x => decide (x = k))) else Option.none
  | _ => Option.none
end MR
/-! MR: further constructs -/
namespace MR
open PySem L2 PL
/-! ### xs[::-1] -/
def rRevL (a : Rm) : Rm := fun ρ => (a ρ).bind fun d => (asL d).map fun xs => .list xs.reverse
def yRevL (a : Dm) : Ym := fun ρ => (a ρ).bind fun p => (asL p.1).map fun xs => (lstO xs.reverse, p.2)
def yRevLA (ra : Rm) (a : Dm) : Ym := fun ρ => match (ra ρ).bind fun d => (asL d).bind fun xs => lfO (some (lstO xs.reverse)) with
  | some r => some (r, ρ)
  | Option.none => yRevL a ρ
variable [kf : KF] [wx : WXI]
variable {ta : TE} {a : Rm} {dm : Dm}
/-! ### comprehensions with two fors -/
/-! ### range downwards -/
/-! ### x += e -/
/-! ### xs.extend(ys), ys fresh; xs.pop() -/
omit kf wx in
def sExt (i : Nat) (y : Ym) : Sm := fun ρ => match ρ[i]? with
  | some (.nd .lst _) => (y ρ).bind fun p => match p.1 with
    | .nd .lst us => match p.2[i]? with
      | some (.nd .lst ts) => if ts.length + us.length ≤ 1000000 then some (.nx, p.2.set i (.nd .lst (ts ++ us))) else Option.none
      | _ => Option.none
    | _ => Option.none
  | _ => Option.none
omit kf wx in
def yPop0 (i : Nat) : Ym := fun ρ => match ρ[i]? with
  | some (.nd .lst ts) => (ts[ts.length - 1]?).map fun s => (s, ρ.set i (.nd .lst (ts.eraseIdx (ts.length - 1))))
  | _ => Option.none
/-! ### str of an int -/
omit kf wx in
def gStrI : List D → Option D
  | [.int i] => if i.natAbs.log2 < 1920 then some (.str (toString i)) else Option.none
  | _ => Option.none
end MR
/-! MR: for x in xs, the items one's own and put back -/
namespace MR
open PySem L2 PL
variable [kf : KF] [wx : WXI]
section
variable {S H S' H' S0 H0 : Hp} {A0 : List Addr} {σ τσ : St} {ρ τρ : Env}
theorem OAll.hole {s : OT} : ∀ {ts : List OT} {vs : List V} {B : List Addr} {j : Nat}, OAll S H vs ts B → B.Nodup → ts[j]? = some s → ∃ v B' C', vs[j]? = some v ∧ OAll S H vs (ts.set j .no) B' ∧ OOk S H v s C' ∧ (C' ++ B').Nodup ∧ ∀ b ∈ C' ++ B', b ∈ B
  | [], _, _, j, h, _, e => by simp at e
  | t :: ts, _, _, j, h, nd, e => by
    cases h with
    | @cons v vs _ _ A B h0 ht =>
      cases j with
      | zero =>
        have e' : t = s := by simpa using e
        subst e'
        exact ⟨v, _, A, rfl, .cons .no ht, h0, nd, fun b hb => hb⟩
      | succ j =>
        have nd' := List.nodup_append.mp nd
        obtain ⟨w, B', C', e1, e2, e3, e4, e5⟩ := OAll.hole (j := j) ht nd'.2.1 (by simpa using e)
        have nd4 := List.nodup_append.mp e4
        refine ⟨w, A ++ B', C', by simpa using e1, .cons h0 e2, e3, ?_, fun b hb => ?_⟩
        · refine List.nodup_append.mpr ⟨nd4.1, List.nodup_append.mpr ⟨nd'.1, nd4.2.1, fun a ha b hb e => ?_⟩, fun a ha b hb e => ?_⟩
          · subst e; exact nd'.2.2 a ha a (e5 a (List.mem_append_right _ hb)) rfl
          · subst e
            rcases List.mem_append.mp hb with z | z
            · exact nd'.2.2 a z a (e5 a (List.mem_append_left _ ha)) rfl
            · exact nd4.2.2 a ha a z rfl
        · rcases List.mem_append.mp hb with z | z
          · exact List.mem_append_right _ (e5 b (List.mem_append_left _ z))
          · rcases List.mem_append.mp z with z | z
            · exact List.mem_append_left _ z
            · exact List.mem_append_right _ (e5 b (List.mem_append_right _ z))
/-- what is in slot i is lifted onto the top -/
theorem Ok.lift {i : Nat} {t : OT} (o : Ok S0 H0 A0 S H σ ρ) (h : ρ[i]? = some t) : ∃ v, σ[i]? = some v ∧ Ok S0 H0 A0 S H (v :: σ) (t :: ρ.set i .no) := by
  obtain ⟨B, he, nd, fr⟩ := o.env
  obtain ⟨v, A, e1, e2, e3, e4, e5⟩ := he.pick nd h
  obtain ⟨B', q1, q2, q3⟩ := e5 (v' := v) (s' := .no) (A' := []) (Same.refl S) (fun _ _ z => z) (fun a ha _ => ⟨(he.at a ha).1, rfl⟩) .no List.nodup_nil (fun a ha => by cases ha)
  rw [set_same e1] at q1
  refine ⟨v, e1, o.xt, A ++ B', .cons e2 q1, List.nodup_append.mpr ⟨e3, q2, fun a ha b hb e => ?_⟩, fun a ha => ?_⟩
  · subst e
    rcases q3 a hb with z | z
    · cases z
    · exact z.2 ha
  · rcases List.mem_append.mp ha with z | z
    · exact fr a (e4 a z)
    · rcases q3 a z with y | y
      · cases y
      · exact fr a y.1
/-- an item of the top's list is lifted above it -/
theorem Ok.hole {v : Option V} {ts : List OT} {k : Nat} {t : OT} (o : Ok S0 H0 A0 S H (v :: σ) (.fl ts :: ρ)) (h : ts[k]? = some t) : ∃ a vs w, v = some (.ref a) ∧ S a = some (.lst vs) ∧ vs[k]? = some w ∧ vs.length = ts.length ∧ Ok S0 H0 A0 S H (some w :: v :: σ) (t :: .fl (ts.set k .no) :: ρ) := by
  obtain ⟨A, he, nd, fr⟩ := o.env
  cases he with
  | @cons _ _ A1 _ _ B1 p1 p2 =>
    cases p1 with
    | is p1 =>
      cases p1 with
      | @fl a vs _ _ k1 k2 =>
        have nda := List.nodup_append.mp nd
        obtain ⟨w, B', C', e1, e2, e3, e4, e5⟩ := k2.hole nda.1 h
        have nd4 := List.nodup_append.mp e4
        refine ⟨a, vs, w, rfl, k1, e1, k2.len, o.xt, C' ++ (B' ++ B1), .cons (.is e3) (.cons (.is (.fl k1 e2)) p2), ?_, fun b hb => ?_⟩
        · rw [← List.append_assoc]
          exact List.nodup_append.mpr ⟨e4, nda.2.1, fun x hx y hy => nda.2.2 x (e5 x hx) y hy⟩
        · rw [← List.append_assoc] at hb
          rcases List.mem_append.mp hb with z | z
          · exact fr b (List.mem_append_left _ (e5 b z))
          · exact fr b (List.mem_append_right _ z)
end
end MR
/-! MR: slots frozen for one statement alone -/
namespace MR
open PySem L2 PL
end MR
/-! MR: sorted of a slot whose items go on being one's own -/
namespace MR
open PySem L2 PL
end MR
/-! MR: xs.index(y) of data; range with a step upwards -/
namespace MR
open PySem L2 PL
def firstD : List D → D → Nat → Option Nat
  | [], _, _ => Option.none
  | n :: ns, k, j => if PyData.eqv n k = true then some j else firstD ns k (j + 1)
def gIndexD : D → D → Option D
  | .list ds, d => if SeqAt.shaped (.list ds) && SeqAt.shaped d then (firstD ds d 0).map fun j => .int (j : Nat) else Option.none
  | _, _ => Option.none
def rIdxD (a b : Rm) : Rm := fun ρ => (a ρ).bind fun d => (b ρ).bind fun e => gIndexD d e
variable [kf : KF]
/-! ### range upwards by a step -/
omit kf in
def rgS (lo c : Int) (n : Nat) : List D := (List.range n).map fun (k : Nat) => PyData.int (lo + (k : Int) * c)
omit kf in
def rgNum (m n c : Int) : Nat := if m < n then ((n - m - 1) / c + 1).toNat else 0
def rg3F : List D → Option (List D)
  | [.int m, .int n, .int c] => if (-1000000 ≤ m ∧ m ≤ 1000000) ∧ (-1000000 ≤ n ∧ n ≤ 1000000) ∧ (1 ≤ c ∧ c ≤ 1000000) then some (rgS m c (rgNum m n c)) else Option.none
  | _ => Option.none
omit kf in
theorem rg3_ex : ∃ f : List D → Option (List D), f = rg3F := ⟨rg3F, rfl⟩
noncomputable def rg3 : List D → Option (List D) := rg3_ex.choose
noncomputable def iR3s (a : Lm) : Lm := fun ρ => (a ρ).bind fun p => (rg3 p.1).map fun xs => (xs, p.2)
end MR
/-! MR: len({e for .. in ..}), e whole numbers -/
namespace MR
open PySem PySem.Spec PyProof.Rows L2 PL
end MR
namespace MR
open PySem L2 PL
variable [kf : KF]
section
variable {S H S0 H0 : Hp} {A0 : List Addr} {σ : List (Option V)} {ρ : List OT}
theorem setO_tup {w : World} {a : Addr} {T : Int → Bool} {n : Nat} (xs : List V) : SetO w a T n ≠ .tup xs := by
  intro e
  cases e
/-- the set on top holds others -/
theorem Ok.si_put {D : Addr} {ms ms' : List Int} (o : Ok S0 H0 A0 S H (some (.ref D) :: σ) (.si ms :: ρ)) : Ok S0 H0 A0 S (upd H D (SetO kf.w D (fun j => decide (j ∈ ms')) ms'.length)) (some (.ref D) :: σ) (.si ms' :: ρ) := by
  obtain ⟨A, h1, h2, h3⟩ := o.env
  cases h1 with
  | @cons _ _ A1 _ _ B h ht =>
    cases h with
    | is h =>
      cases h with
      | si hS hD =>
        have nA : D ∉ B := fun z => (List.nodup_cons.mp h2).1 z
        have tp : ∀ b xs, H b = some (.tup xs) → upd H D (SetO kf.w D (fun j => decide (j ∈ ms')) ms'.length) b = some (.tup xs) := fun b xs e => by
          have ne : b ≠ D := fun z => by subst z; rw [hD] at e; exact setO_tup _ (Option.some.inj e)
          rw [upd_ne ne]; exact e
        have sh : Same S (upd H D (SetO kf.w D (fun j => decide (j ∈ ms')) ms'.length)) := fun b u e => by
          have ne : b ≠ D := fun z => by subst z; rw [hS] at e; cases e
          rw [upd_ne ne]; exact o.sh b u e
        refine ⟨⟨fun b u nb e => ?_, fun b e => ?_, fun b xs e => tp b xs (o.xt.tp b xs e), o.xt.ss, sh, o.xt.nw⟩, _, .cons (.is (.si hS (upd_same ..))) (ht.keep (Same.refl S) tp (fun a ha => ⟨(ht.at a ha).1, ?_⟩)), h2, h3⟩
        · have ne : b ≠ D := fun z => by
            subst z
            rcases h3 _ List.mem_cons_self with q | q
            · exact nb q
            · rw [q] at e; cases e
          rw [upd_ne ne]; exact o.xt.hh b u nb e
        · by_cases z : b = D
          · subst z; rw [upd_same] at e; cases e
          · rw [upd_ne z] at e; exact o.xt.dm b e
        · have ne : a ≠ D := fun z => nA (z ▸ ha)
          rw [upd_ne ne]
end
end MR
/-! MR: x in a list, or in a dict by pairs that is data -/
namespace MR
open PySem L2 PL
end MR
/-! MR: a comprehension within another one's block -/
namespace MR
open PySem PySem.Spec PyProof.Rows L2 PL
end MR
/-! MR: slots forgotten ahead of a row -/
namespace MR
open PySem L2 PL
end MR
namespace MR
open PySem L2 PL
/-! ### pure: what the mirror's functions tell -/
theorem kp_int : ∀ d : D, kitB (tyN d) "int" = some (isIntB d)
  | .none => (by decide +kernel : kitB "NoneType" "int" = some false)
  | .bool _ => (by decide +kernel : kitB "bool" "int" = some true)
  | .int _ => (by decide +kernel : kitB "int" "int" = some true)
  | .str _ => (by decide +kernel : kitB "str" "int" = some false)
  | .list _ => (by decide +kernel : kitB "list" "int" = some false)
  | .tuple _ => (by decide +kernel : kitB "tuple" "int" = some false)
  | .dict _ => (by decide +kernel : kitB "dict" "int" = some false)
theorem kp_bool : ∀ d : D, kitB (tyN d) "bool" = some (isBoolB d)
  | .none => (by decide +kernel : kitB "NoneType" "bool" = some false)
  | .bool _ => (by decide +kernel : kitB "bool" "bool" = some true)
  | .int _ => (by decide +kernel : kitB "int" "bool" = some false)
  | .str _ => (by decide +kernel : kitB "str" "bool" = some false)
  | .list _ => (by decide +kernel : kitB "list" "bool" = some false)
  | .tuple _ => (by decide +kernel : kitB "tuple" "bool" = some false)
  | .dict _ => (by decide +kernel : kitB "dict" "bool" = some false)
theorem kp_list : ∀ d : D, kitB (tyN d) "list" = some (isListB d)
  | .none => (by decide +kernel : kitB "NoneType" "list" = some false)
  | .bool _ => (by decide +kernel : kitB "bool" "list" = some false)
  | .int _ => (by decide +kernel : kitB "int" "list" = some false)
  | .str _ => (by decide +kernel : kitB "str" "list" = some false)
  | .list _ => (by decide +kernel : kitB "list" "list" = some true)
  | .tuple _ => (by decide +kernel : kitB "tuple" "list" = some false)
  | .dict _ => (by decide +kernel : kitB "dict" "list" = some false)
theorem kp_tuple : ∀ d : D, kitB (tyN d) "tuple" = some (isTupB d)
  | .none => (by decide +kernel : kitB "NoneType" "tuple" = some false)
  | .bool _ => (by decide +kernel : kitB "bool" "tuple" = some false)
  | .int _ => (by decide +kernel : kitB "int" "tuple" = some false)
  | .str _ => (by decide +kernel : kitB "str" "tuple" = some false)
  | .list _ => (by decide +kernel : kitB "list" "tuple" = some false)
  | .tuple _ => (by decide +kernel : kitB "tuple" "tuple" = some true)
  | .dict _ => (by decide +kernel : kitB "dict" "tuple" = some false)
theorem kp_str : ∀ d : D, kitB (tyN d) "str" = some (isStrB d)
  | .none => (by decide +kernel : kitB "NoneType" "str" = some false)
  | .bool _ => (by decide +kernel : kitB "bool" "str" = some false)
  | .int _ => (by decide +kernel : kitB "int" "str" = some false)
  | .str _ => (by decide +kernel : kitB "str" "str" = some true)
  | .list _ => (by decide +kernel : kitB "list" "str" = some false)
  | .tuple _ => (by decide +kernel : kitB "tuple" "str" = some false)
  | .dict _ => (by decide +kernel : kitB "dict" "str" = some false)
theorem toD_d (x : D) : OT.toD (.d x) = some x := by simp [OT.toD]
theorem toD_lst (ts : List OT) : OT.toD (.nd .lst ts) = (OT.toDs ts).map .list := by simp [OT.toD]
theorem toD_tup (ts : List OT) : OT.toD (.nd .tup ts) = (OT.toDs ts).map .tuple := by simp [OT.toD]
theorem toDs_nil : OT.toDs [] = some [] := by simp [OT.toDs]
theorem toDs_cons (t : OT) (ts : List OT) : OT.toDs (t :: ts) = (OT.toD t).bind fun x => (OT.toDs ts).map fun xs => x :: xs := by
  cases h : OT.toD t <;> cases h2 : OT.toDs ts <;> simp [OT.toDs, h, h2]
theorem toDs_mapd (xs : List D) : OT.toDs (xs.map .d) = some xs := by
  induction xs with
  | nil => simp [toDs_nil]
  | cons x xs ih => simp [toDs_cons, toD_d, ih]
theorem toD_lstO (xs : List D) : OT.toD (lstO xs) = some (.list xs) := by simp [lstO, toD_lst, toDs_mapd]
theorem lfs_mapd {xs : List D} (h : ∀ x ∈ xs, tfl x = true) : OT.lfs (xs.map .d) = true := by
  induction xs with
  | nil => simp [OT.lfs]
  | cons x xs ih => simp [OT.lfs, OT.lf, h x List.mem_cons_self, ih fun y hy => h y (List.mem_cons_of_mem _ hy)]
@[simp] theorem tfl_int (i : Int) : tfl (.int i) = true := by simp [tfl]
@[simp] theorem tfl_bool (b : Bool) : tfl (.bool b) = true := by simp [tfl]
@[simp] theorem tfl_none : tfl .none = true := by simp [tfl]
@[simp] theorem tfl_str (s : Str) : tfl (.str s) = true := by simp [tfl]
theorem tfl_pair (p : Int × Int) : tfl (pairD p) = true := by simp [tfl, pairD]
@[simp] theorem tfl_list (xs : List D) : tfl (.list xs) = false := by simp [tfl]
/-- loops -/
theorem mFor_inv {step : D → Env → Option (Fl × Env)} : ∀ (ds : List D) (ρ : Env) (I : Nat → Env → Prop), I 0 ρ → (∀ i x ρ, ds[i]? = some x → I i ρ → ∃ ρ', (step x ρ = some (.nx, ρ') ∨ step x ρ = some (.ct, ρ')) ∧ I (i + 1) ρ') → ∃ ρ', mFor step ds ρ = some (.nx, ρ') ∧ I ds.length ρ'
  | [], ρ, I, h0, _ => ⟨ρ, rfl, h0⟩
  | x :: xs, ρ, I, h0, hs => by
    obtain ⟨ρ1, h1, h2⟩ := hs 0 x ρ rfl h0
    obtain ⟨ρ2, h3, h4⟩ := mFor_inv xs ρ1 (fun i => I (i + 1)) h2 fun i y ρ e h => hs (i + 1) y ρ (by simpa using e) h
    refine ⟨ρ2, ?_, h4⟩
    unfold mFor
    rcases h1 with h1 | h1 <;> rw [h1] <;> exact h3
theorem mLc_inv {vs : List Nat} {step : D → Env → Option (Option OT × Env)} : ∀ (ds : List D) (acc : List OT) (ρ : Env) (I : Nat → List OT → Env → Prop), I 0 acc ρ → (∀ i x acc ρ, ds[i]? = some x → I i acc ρ → ∃ o ρ', step x ρ = some (o, ρ') ∧ I (i + 1) (acc ++ o.toList) (wipeE ρ' vs)) → ∃ rs ρ', mLc vs step ds acc ρ = some (rs, ρ') ∧ I ds.length rs ρ'
  | [], acc, ρ, I, h0, _ => ⟨acc, ρ, rfl, h0⟩
  | x :: xs, acc, ρ, I, h0, hs => by
    obtain ⟨o, ρ1, h1, h2⟩ := hs 0 x acc ρ rfl h0
    obtain ⟨rs, ρ2, h3, h4⟩ := mLc_inv xs (acc ++ o.toList) (wipeE ρ1 vs) (fun i => I (i + 1)) h2 fun i y acc ρ e h => hs (i + 1) y acc ρ (by simpa using e) h
    refine ⟨rs, ρ2, ?_, h4⟩
    unfold mLc
    rw [h1]
    cases o with
    | none => simpa using h3
    | some r => simpa using h3
theorem rgD_len (lo : Int) (n : Nat) : (rgD lo n).length = n := by simp [rgD]
theorem rgD_at {lo : Int} {n i : Nat} {x : D} (h : (rgD lo n)[i]? = some x) : i < n ∧ x = .int (lo + (i : Int)) := by
  unfold rgD at h
  rw [List.getElem?_map] at h
  by_cases hi : i < n
  · rw [List.getElem?_range hi] at h
    exact ⟨hi, by simpa using h.symm⟩
  · rw [List.getElem?_eq_none (by simpa using hi)] at h
    cases h
theorem atI_at {α : Type} {xs : List α} {i : Nat} {x : α} (h : xs[i]? = some x) : atI xs (i : Int) = some x := atI_nat h
theorem ixN_nat {n i : Nat} (h : i < n) : ixN n (i : Int) = some i := by unfold ixN; simp [h]
theorem seqIx_nat {n i : Nat} (h : i < n) : seqIndex? (i : Int) n = some i := by
  unfold seqIndex?
  have h0 : ¬ ((i : Int) < 0) := by omega
  simp [h, h0]
end MR
namespace MR
open PySem L2 PL
theorem atI_0 {α : Type} (x : α) (xs : List α) : atI (x :: xs) 0 = some x := by simpa using atI_at (i := 0) (xs := x :: xs) (x := x) rfl
theorem atI_1 {α : Type} (x y : α) (xs : List α) : atI (x :: y :: xs) 1 = some y := by simpa using atI_at (i := 1) (xs := x :: y :: xs) (x := y) rfl
theorem ixN_0 (n : Nat) : ixN (n + 1) 0 = some 0 := by simpa using ixN_nat (n := n + 1) (i := 0) (by omega)
theorem ixN_1 (n : Nat) : ixN (n + 1 + 1) 1 = some 1 := by simpa using ixN_nat (n := n + 1 + 1) (i := 1) (by omega)
end MR
namespace MR
open PySem L2 PL
/-! ### pure: lists of ints, of pairs; statement by statement -/
theorem seq_nx {a b : Sm} {ρ ρ1 : Env} {o : Option (Fl × Env)} (h : a ρ = some (.nx, ρ1)) (h2 : b ρ1 = o) : sSeq a b ρ = o := by unfold sSeq; rw [h]; exact h2
def intsO (ns : List Int) : List OT := ns.map fun i => .d (.int i)
def prsO (ps : List (Int × Int)) : List OT := ps.map fun p => .nd .tup [.d (.int p.1), .d (.int p.2)]
def fprO (ps : List (Int × Int)) : List OT := ps.map fun p => .d (pairD p)
def rng (n : Nat) : List Int := (List.range n).map fun (i : Nat) => (i : Int)
theorem lstO_ints (ns : List Int) : lstO (ns.map .int) = .nd .lst (intsO ns) := by simp [lstO, intsO, Function.comp_def]
theorem lstO_prs (ps : List (Int × Int)) : lstO (ps.map pairD) = .nd .lst (fprO ps) := by simp [lstO, fprO, Function.comp_def]
theorem rgD_rng (n : Nat) : rgD 0 n = (rng n).map .int := by simp [rgD, rng, Function.comp_def]
theorem lstO_rg (n : Nat) : lstO (rgD 0 n) = .nd .lst (intsO (rng n)) := by rw [rgD_rng, lstO_ints]
theorem rng_len (n : Nat) : (rng n).length = n := by simp [rng]
theorem rng_mem {n : Nat} {k : Int} : k ∈ rng n ↔ 0 ≤ k ∧ k < (n : Int) := by
  unfold rng
  rw [List.mem_map]
  constructor
  · rintro ⟨a, h, rfl⟩
    have := List.mem_range.mp h
    omega
  · intro h
    exact ⟨k.toNat, List.mem_range.mpr (by omega), by omega⟩
theorem rng_nodup (n : Nat) : (rng n).Nodup := List.nodup_range.map (f := fun (i : Nat) => (i : Int)) fun a b h => by omega
theorem intsO_len (ns : List Int) : (intsO ns).length = ns.length := by simp [intsO]
theorem fprO_len (ns : List (Int × Int)) : (fprO ns).length = ns.length := by simp [fprO]
theorem prsO_len (ns : List (Int × Int)) : (prsO ns).length = ns.length := by simp [prsO]
theorem intsO_snoc (ns : List Int) (k : Int) : intsO ns ++ [OT.d (.int k)] = intsO (ns ++ [k]) := by simp [intsO]
theorem prsO_snoc (ns : List (Int × Int)) (a b : Int) : prsO ns ++ [OT.nd .tup [.d (.int a), .d (.int b)]] = prsO (ns ++ [(a, b)]) := by simp [prsO]
theorem toDs_ints (ns : List Int) : OT.toDs (intsO ns) = some (ns.map .int) := by
  have : intsO ns = (ns.map PyData.int).map OT.d := by simp [intsO, Function.comp_def]
  rw [this, toDs_mapd]
theorem toDs_fpr (ns : List (Int × Int)) : OT.toDs (fprO ns) = some (ns.map pairD) := by
  have : fprO ns = (ns.map pairD).map OT.d := by simp [fprO, Function.comp_def]
  rw [this, toDs_mapd]
theorem toDs_prs (ns : List (Int × Int)) : OT.toDs (prsO ns) = some (ns.map pairD) := by
  induction ns with
  | nil => simp [prsO, toDs_nil]
  | cons p ns ih =>
    have : prsO (p :: ns) = .nd .tup [.d (.int p.1), .d (.int p.2)] :: prsO ns := rfl
    rw [this, toDs_cons, ih]
    simp [toD_tup, toDs_cons, toDs_nil, toD_d, pairD]
theorem lfs_ints (ns : List Int) : OT.lfs (intsO ns) = true := by
  have : intsO ns = (ns.map PyData.int).map OT.d := by simp [intsO, Function.comp_def]
  rw [this]
  exact lfs_mapd fun x hx => by obtain ⟨i, _, rfl⟩ := List.mem_map.mp hx; simp
theorem lfs_fpr (ns : List (Int × Int)) : OT.lfs (fprO ns) = true := by
  have : fprO ns = (ns.map pairD).map OT.d := by simp [fprO, Function.comp_def]
  rw [this]
  exact lfs_mapd fun x hx => by obtain ⟨i, _, rfl⟩ := List.mem_map.mp hx; exact tfl_pair i
theorem ers_map {α β : Type} (f : α → β) : ∀ (xs : List α) (j : Nat), (xs.map f).eraseIdx j = (xs.eraseIdx j).map f
  | [], _ => rfl
  | x :: xs, 0 => rfl
  | x :: xs, j + 1 => by simp [ers_map f xs j]
theorem pop_ints {xs : List Int} {j : Nat} (h : j < xs.length) : ∃ k xs', (intsO xs)[j]? = some (.d (.int k)) ∧ (intsO xs).eraseIdx j = intsO xs' ∧ (k :: xs').Perm xs ∧ xs'.length + 1 = xs.length := by
  refine ⟨xs[j], xs.eraseIdx j, by simp [intsO, h], by rw [intsO, intsO, ers_map], ?_, ?_⟩
  · induction xs generalizing j with
    | nil => simp at h
    | cons x xs ih =>
      cases j with
      | zero => simp
      | succ j =>
        have := ih (j := j) (by simpa using h)
        simp only [List.getElem_cons_succ, List.eraseIdx_cons_succ]
        exact (List.Perm.swap _ _ _).trans (this.cons x)
  · rw [List.length_eraseIdx]; simp [h]; omega
theorem atI_int {xs : List Int} {i : Nat} {k : Int} (h : xs[i]? = some k) : atI (xs.map PyData.int) (i : Int) = some (.int k) := atI_at (by rw [List.getElem?_map, h]; rfl)
/-- dicts by pairs, all True -/
def kO (p : Int × Int) : List Key := [.inl p.1, .inl p.2]
def trues (n : Nat) : List OT := List.replicate n (.d (.bool true))
theorem kO_inj {p q : Int × Int} : kO p = kO q ↔ p = q := by
  obtain ⟨a, b⟩ := p; obtain ⟨c, d⟩ := q
  simp [kO]
theorem putO_true (ks : List (Int × Int)) (p : Int × Int) : putO (ks.map kO) (trues ks.length) (kO p) (.d (.bool true)) = (.dT ((insK ks p).map kO), trues (insK ks p).length) := by
  have e : ((ks.map kO).any fun x => decide (x = kO p)) = decide (p ∈ ks) := by
    rw [List.any_map, Bool.eq_iff_iff]
    simp only [List.any_eq_true, Function.comp, decide_eq_true_eq, kO_inj]
    exact ⟨fun ⟨x, h, e⟩ => e ▸ h, fun h => ⟨p, h, rfl⟩⟩
  unfold putO insK
  rw [e]
  by_cases h : p ∈ ks
  · simp only [h, decide_true, if_true]
    congr 1
    have gen : ∀ (l : List (List Key)) (n : Nat), l.length = n → (l.zip (trues n)).map (fun q => if q.1 = kO p then OT.d (.bool true) else q.2) = trues n := by
      intro l
      induction l with
      | nil => intro n hn; subst hn; rfl
      | cons x l ih =>
        intro n hn
        cases n with
        | zero => simp at hn
        | succ n =>
          have := ih n (by simpa using hn)
          simp only [trues, List.replicate_succ, List.zip_cons_cons, List.map_cons] at this ⊢
          rw [this]
          split <;> rfl
    exact gen _ _ (by simp)
  · simp [h, trues, List.replicate_succ']
theorem asKeyPs_map (ks : List (Int × Int)) : asKeyPs (ks.map kO) = some ks := by
  induction ks with
  | nil => rfl
  | cons k ks ih => simp [asKeyPs, ih, kO, asKeyP]
theorem trues_all (n : Nat) : (trues n).all isTrueO = true := by
  unfold trues
  rw [List.all_eq_true]
  intro x hx
  rw [(List.mem_replicate.mp hx).2]
  rfl
theorem trues_len (n : Nat) : (trues n).length = n := by simp [trues]
theorem srtL_len (ks : List (Int × Int)) : (srtL ks).length = ks.length := (srtL_perm ks).length_eq
theorem srtL_mem {ks : List (Int × Int)} {p : Int × Int} : p ∈ srtL ks ↔ p ∈ ks := (srtL_perm ks).mem_iff
theorem srtL_nodup {ks : List (Int × Int)} (h : ks.Nodup) : (srtL ks).Nodup := (srtL_perm ks).nodup_iff.mpr h
theorem fmk {f : Option (Fl × Env)} {ρ' : Env} {P : Env → Prop} (h : f = some (.nx, ρ')) (h2 : P ρ') : ∃ ρ', (f = some (.nx, ρ') ∨ f = some (.ct, ρ')) ∧ P ρ' := ⟨ρ', .inl h, h2⟩
theorem fin_rtd {o : Option (Fl × Env)} {x : D} {ρ : Env} (h : o = some (.rt (.d x), ρ)) : fin o = some (.d x) := by rw [h]; rfl
/-- great bounds are kept from the kernel's eyes -/
def rg0F (z : Int) : Option (List D) := if 0 ≤ z ∧ z ≤ 1000000 then some (rgD 0 z.toNat) else Option.none
def rg1F : List D → Option (List D)
  | [.int n] => if -(2 ^ 62) ≤ n ∧ n < 2 ^ 62 then some (rgD 0 n.toNat) else Option.none
  | _ => Option.none
def rg2F : List D → Option (List D)
  | [.int m, .int n] => if -(2 ^ 62) ≤ m ∧ m < 2 ^ 62 ∧ -(2 ^ 62) ≤ n ∧ n < 2 ^ 62 then some (rgD m (n - m).toNat) else Option.none
  | _ => Option.none
def pop1F (z : Int) (n : Nat) : Option Nat := if -(2 ^ 63) ≤ z ∧ z < 2 ^ 63 then seqIndex? z n else Option.none
theorem rg0_ex : ∃ f : Int → Option (List D), f = rg0F := ⟨rg0F, rfl⟩
theorem rg1_ex : ∃ f : List D → Option (List D), f = rg1F := ⟨rg1F, rfl⟩
theorem rg2_ex : ∃ f : List D → Option (List D), f = rg2F := ⟨rg2F, rfl⟩
theorem pop1_ex : ∃ f : Int → Nat → Option Nat, f = pop1F := ⟨pop1F, rfl⟩
noncomputable def rg0 : Int → Option (List D) := rg0_ex.choose
noncomputable def rg1 : List D → Option (List D) := rg1_ex.choose
noncomputable def rg2 : List D → Option (List D) := rg2_ex.choose
noncomputable def pop1 : Int → Nat → Option Nat := pop1_ex.choose
theorem rg0_F : rg0 = rg0F := rg0_ex.choose_spec
theorem rg1_F : rg1 = rg1F := rg1_ex.choose_spec
theorem rg2_F : rg2 = rg2F := rg2_ex.choose_spec
theorem pop1_F : pop1 = pop1F := pop1_ex.choose_spec
theorem rg0_z {z : Int} (a : 0 ≤ z) (b : z ≤ 1000000) : rg0 z = some (rgD 0 z.toNat) := by rw [rg0_F]; exact if_pos ⟨a, b⟩
theorem rg1_z {z : Int} (a : 0 ≤ z) (b : z ≤ 1000000) : rg1 [.int z] = some (rgD 0 z.toNat) := by
  have b2 : -(2 ^ 62) ≤ z ∧ z < 2 ^ 62 := ⟨by omega, by omega⟩
  rw [rg1_F]
  unfold rg1F
  simp only []
  rw [if_pos b2]
theorem rg2_z {y z : Int} (a : 0 ≤ y) (b : y ≤ 1000000) (c : 0 ≤ z) (d : z ≤ 1000000) : rg2 [.int y, .int z] = some (rgD y (z - y).toNat) := by
  have b2 : -(2 ^ 62) ≤ y ∧ y < 2 ^ 62 ∧ -(2 ^ 62) ≤ z ∧ z < 2 ^ 62 := ⟨by omega, by omega, by omega, by omega⟩
  rw [rg2_F]
  unfold rg2F
  simp only []
  rw [if_pos b2]
theorem pop1_z {z : Int} {n : Nat} (a : 0 ≤ z) (b : z ≤ 1000000) : pop1 z n = seqIndex? z n := by
  have b2 : -(2 ^ 63) ≤ z ∧ z < 2 ^ 63 := ⟨by omega, by omega⟩
  rw [pop1_F]
  unfold pop1F
  rw [if_pos b2]
theorem rg0_n {n : Nat} (b : n ≤ 1000000) : rg0 (n : Int) = some (rgD 0 n) := by
  have h := rg0_z (z := (n : Int)) (by omega) (by omega)
  rwa [Int.toNat_natCast] at h
theorem rg1_n {n : Nat} (b : n ≤ 1000000) : rg1 [.int (n : Int)] = some (rgD 0 n) := by
  have h := rg1_z (z := (n : Int)) (by omega) (by omega)
  rwa [Int.toNat_natCast] at h
theorem rg2_1n {n : Nat} (b : n ≤ 1000000) : rg2 [.int 1, .int (n : Int)] = some (rgD 1 (n - 1)) := by
  have b' : (n : Int) ≤ 1000000 := by omega
  have b0 : (0 : Int) ≤ n := by omega
  have e : ((n : Int) - 1).toNat = n - 1 := by omega
  generalize (n : Int) = z at *
  rw [rg2_z (y := 1) (z := z) (by decide) (by decide) b0 b', e]
theorem pop1_n {i n : Nat} (h : i < n) (b : n ≤ 1000000) : pop1 (i : Int) n = some i := by
  rw [pop1_z (z := (i : Int)) (by omega) (by omega)]
  exact seqIx_nat h
theorem yRng1_eq (n : Dm) (ρ : Env) : yRng1 n ρ = (n ρ).bind fun p => match p.1 with
    | .int k => (rg0 k).map fun xs => (lstO xs, p.2)
    | _ => Option.none := by
  rw [rg0_F]
  unfold yRng1
  congr 1
  funext p
  obtain ⟨d, ρ1⟩ := p
  cases d <;> try rfl
  rename_i k
  simp only [rg0F]
  split <;> rfl
theorem iR1_eq (a : Lm) (ρ : Env) : iR1 a ρ = (a ρ).bind fun p => (rg1 p.1).map fun xs => (xs, p.2) := by
  rw [rg1_F]
  unfold iR1
  congr 1
  funext p
  obtain ⟨d, ρ1⟩ := p
  rcases d with _ | ⟨x, _ | ⟨y, d⟩⟩
  · rfl
  · cases x <;> try rfl
    simp only [rg1F]
    split <;> rfl
  · cases x <;> rfl
theorem iR2_eq (a : Lm) (ρ : Env) : iR2 a ρ = (a ρ).bind fun p => (rg2 p.1).map fun xs => (xs, p.2) := by
  rw [rg2_F]
  unfold iR2
  congr 1
  funext p
  obtain ⟨d, ρ1⟩ := p
  rcases d with _ | ⟨x, _ | ⟨y, _ | ⟨z, d⟩⟩⟩
  · rfl
  · cases x <;> rfl
  · cases x <;> try rfl
    cases y <;> try rfl
    simp only [rg2F]
    split <;> rfl
  · cases x <;> try rfl
    cases y <;> rfl
theorem yPop_eq (i : Nat) (dm : Dm) (ρ : Env) : yPop i dm ρ = match ρ[i]? with
    | some (.nd .lst _) => (dm ρ).bind fun p => match p.1 with
      | .int n => match p.2[i]? with
        | some (.nd .lst ts) => (pop1 n ts.length).bind fun j => (ts[j]?).map fun s => (s, p.2.set i (.nd .lst (ts.eraseIdx j)))
        | _ => Option.none
      | _ => Option.none
    | _ => Option.none := by
  rw [pop1_F]
  unfold yPop
  generalize ρ[i]? = o
  rcases o with _ | (_ | x | ⟨k, ts⟩) <;> try rfl
  cases k <;> try rfl
  simp only []
  congr 1
  funext p
  obtain ⟨d, ρ1⟩ := p
  cases d <;> try rfl
  rename_i z
  simp only []
  generalize ρ1[i]? = o2
  rcases o2 with _ | (_ | x | ⟨k, ts⟩) <;> try rfl
  cases k <;> try rfl
  simp only []
  unfold pop1F
  split <;> rfl
theorem sFor_ok {it : Lm} {g : Gm} {b : Sm} {ρ ρ1 ρ2 : Env} {xs : List D} (h : it ρ = some (xs, ρ1)) (h2 : mFor (fun x ρ => (g x ρ).bind b) xs ρ1 = some (.nx, ρ2)) : sFor it g b ρ = some (.nx, ρ2) := by unfold sFor; rw [h]; exact h2
theorem gAdd_i (i j : Int) : MR.gAdd (.int i) (.int j) = some (.int (i + j)) := rfl
theorem gSub_i (i j : Int) : MR.gSub (.int i) (.int j) = some (.int (i - j)) := rfl
theorem gLt_i (i j : Int) : gLt (.int i) (.int j) = some (.bool (decide (i < j))) := rfl
theorem gLe_i (i j : Int) : gLe (.int i) (.int j) = some (.bool (decide (i ≤ j))) := rfl
theorem gGt_i (i j : Int) : gGt (.int i) (.int j) = some (.bool (decide (j < i))) := rfl
theorem gGe_i (i j : Int) : gGe (.int i) (.int j) = some (.bool (decide (j ≤ i))) := rfl
theorem enumD_at {ds : List D} {i : Nat} {x : D} (h : (enumD ds)[i]? = some x) : ∃ d, ds[i]? = some d ∧ x = .tuple [.int (i : Nat), d] := by
  unfold enumD at h
  rw [List.getElem?_map, List.getElem?_zipIdx] at h
  cases hd : ds[i]? with
  | none => rw [hd] at h; cases h
  | some d =>
    rw [hd] at h
    simp at h
    exact ⟨d, rfl, h.symm⟩
theorem enumD_len (ds : List D) : (enumD ds).length = ds.length := by simp [enumD]
/-- the number at a place -/
def at' (os : List Int) (a : Int) : Int := os.getD a.toNat 0
theorem atI_os {os : List Int} {a : Int} (h : 0 ≤ a) (h2 : a < (os.length : Int)) : atI (os.map PyData.int) a = some (.int (at' os a)) := by
  obtain ⟨n, rfl⟩ : ∃ n : Nat, a = (n : Int) := ⟨a.toNat, by omega⟩
  have : n < os.length := by omega
  rw [atI_int (k := os[n]) (by simp [this])]
  simp [at', this]
theorem at'_mem {os : List Int} {a : Int} (h : 0 ≤ a) (h2 : a < (os.length : Int)) : at' os a ∈ os := by
  have : a.toNat < os.length := by omega
  simp [at', this]
theorem at'_inj {os : List Int} (hn : os.Nodup) {a b : Int} (h : 0 ≤ a) (h2 : a < (os.length : Int)) (h3 : 0 ≤ b) (h4 : b < (os.length : Int)) (e : at' os a = at' os b) : a = b := by
  have la : a.toNat < os.length := by omega
  have lb : b.toNat < os.length := by omega
  simp only [at', List.getD_eq_getElem?_getD, List.getElem?_eq_getElem la, List.getElem?_eq_getElem lb, Option.getD_some] at e
  have := (List.getElem_inj hn).mp e
  omega
def WD (n : Nat) (ts : List (Int × Int)) : D := .tuple [.int (n : Nat), .list (ts.map pairD)]
/-- a proper web's ties -/
structure WOk (n : Nat) (ts : List (Int × Int)) : Prop where
  in' : ∀ p ∈ ts, 0 ≤ p.1 ∧ p.1 < p.2 ∧ p.2 < (n : Int)
  lex : Lex ts
  nodup : ts.Nodup
theorem lexLe_prev {n : Nat} {ts : List (Int × Int)} (w : WOk n ts) {i : Nat} {y z : Int × Int} (h1 : ts[i]? = some y) (h2 : ts[i + 1]? = some z) : lexLe z y = false := by
  obtain ⟨l1, e1⟩ := List.getElem?_eq_some_iff.mp h1
  obtain ⟨l2, e2⟩ := List.getElem?_eq_some_iff.mp h2
  have a := List.pairwise_iff_getElem.mp w.lex i (i + 1) l1 l2 (by omega)
  have b : ts[i] ≠ ts[i + 1] := fun e => by have := (List.getElem_inj w.nodup).mp e; omega
  rw [e1, e2] at a b
  unfold lexLe
  rw [decide_eq_false_iff_not]
  intro c
  apply b
  obtain ⟨y1, y2⟩ := y
  obtain ⟨z1, z2⟩ := z
  simp only [Prod.mk.injEq] at a b c ⊢
  omega
end MR
namespace MR
open PySem L2 PL
/-! ### walking a def from above: what holds behind it -/
def W {α : Type} (m : Env → Option (α × Env)) (ρ : Env) (Q : α → Env → Prop) : Prop := ∃ r ρ', m ρ = some (r, ρ') ∧ Q r ρ'
theorem W.of {α : Type} {m : Env → Option (α × Env)} {ρ ρ' : Env} {r : α} {Q : α → Env → Prop} (h : m ρ = some (r, ρ')) (q : Q r ρ') : W m ρ Q := ⟨r, ρ', h, q⟩
theorem W.mono {α : Type} {m : Env → Option (α × Env)} {ρ : Env} {Q Q' : α → Env → Prop} (h : W m ρ Q) (f : ∀ r ρ', Q r ρ' → Q' r ρ') : W m ρ Q' := by
  obtain ⟨r, ρ', e, q⟩ := h
  exact ⟨r, ρ', e, f _ _ q⟩
def sqK (b : Sm) (Q : Fl → Env → Prop) : Fl → Env → Prop
  | .nx, ρ => W b ρ Q
  | .bk, ρ => Q .bk ρ
  | .ct, ρ => Q .ct ρ
  | .rt r, ρ => Q (.rt r) ρ
  | .xc x, ρ => Q (.xc x) ρ
theorem w_seq {a b : Sm} {ρ : Env} {Q : Fl → Env → Prop} (h : W a ρ (sqK b Q)) : W (sSeq a b) ρ Q := by
  obtain ⟨fl, ρ1, e, q⟩ := h
  unfold W sSeq
  rw [e]
  cases fl with
  | nx => exact q
  | bk => exact ⟨_, _, rfl, q⟩
  | ct => exact ⟨_, _, rfl, q⟩
  | rt r => exact ⟨_, _, rfl, q⟩
  | xc x => exact ⟨_, _, rfl, q⟩
/-- one row that goes on, reckoned -/
theorem w_st {a b : Sm} {ρ ρ1 : Env} {Q : Fl → Env → Prop} (h : a ρ = some (.nx, ρ1)) (q : W b ρ1 Q) : W (sSeq a b) ρ Q := w_seq (.of h q)
theorem w_asg {i : Nat} {y : Ym} {ρ : Env} {Q : Fl → Env → Prop} (h : W y ρ fun r ρ' => Q .nx (ρ'.set i r)) : W (sAsg i y) ρ Q := by
  obtain ⟨r, ρ1, e, q⟩ := h
  exact ⟨_, _, by unfold sAsg; rw [e]; rfl, q⟩
theorem w_ret {y : Ym} {ρ : Env} {Q : Fl → Env → Prop} (h : W y ρ fun r ρ' => Q (.rt r) ρ') : W (sRet y) ρ Q := by
  obtain ⟨r, ρ1, e, q⟩ := h
  exact ⟨_, _, by unfold sRet; rw [e]; rfl, q⟩
theorem w_next {ρ : Env} {Q : Fl → Env → Prop} (q : Q .nx ρ) : W sNext ρ Q := ⟨_, _, rfl, q⟩
theorem w_if {t : Tm} {a b : Sm} {ρ ρ1 : Env} {c : Bool} {Q : Fl → Env → Prop} (h : t ρ = some (c, ρ1)) (q1 : c = true → W a ρ1 Q) (q2 : c = false → W b ρ1 Q) : W (sIf t a b) ρ Q := by
  have e : sIf t a b ρ = if c then a ρ1 else b ρ1 := by unfold sIf; rw [h]; rfl
  unfold W
  rw [e]
  cases c with
  | true => exact q1 rfl
  | false => exact q2 rfl
/-- a loop by what holds ahead of each turn -/
def lpK (n : Env → Prop) (Q : Fl → Env → Prop) : Fl → Env → Prop
  | .nx, ρ => n ρ
  | .ct, ρ => n ρ
  | .bk, ρ => Q .nx ρ
  | .rt r, ρ => Q (.rt r) ρ
  | .xc x, ρ => Q (.xc x) ρ
theorem mFor_w {step : D → Env → Option (Fl × Env)} {Q : Fl → Env → Prop} : ∀ (ds : List D) (ρ : Env) (I : Nat → Env → Prop), I 0 ρ → (∀ i x ρ, ds[i]? = some x → I i ρ → W (step x) ρ (lpK (I (i + 1)) Q)) → (∀ ρ, I ds.length ρ → Q .nx ρ) → W (mFor step ds) ρ Q
  | [], ρ, I, h0, _, hq => ⟨_, _, rfl, hq ρ h0⟩
  | x :: xs, ρ, I, h0, hs, hq => by
    obtain ⟨fl, ρ1, e, q⟩ := hs 0 x ρ rfl h0
    have next : I 1 ρ1 → W (mFor step xs) ρ1 Q := fun q => mFor_w xs ρ1 (fun i => I (i + 1)) q (fun i y ρ e h => hs (i + 1) y ρ (by simpa using e) h) hq
    unfold W mFor
    rw [e]
    cases fl with
    | nx => exact next q
    | ct => exact next q
    | bk => exact ⟨_, _, rfl, q⟩
    | rt r => exact ⟨_, _, rfl, q⟩
    | xc x => exact ⟨_, _, rfl, q⟩
theorem w_for (I : Nat → Env → Prop) {it : Lm} {g : Gm} {b : Sm} {ρ ρ1 : Env} {xs : List D} {Q : Fl → Env → Prop} (h : it ρ = some (xs, ρ1)) (h0 : I 0 ρ1)
    (hs : ∀ i x ρ2, xs[i]? = some x → I i ρ2 → ∃ ρ3, g x ρ2 = some ρ3 ∧ W b ρ3 (lpK (I (i + 1)) Q)) (hq : ∀ ρ2, I xs.length ρ2 → Q .nx ρ2) : W (sFor it g b) ρ Q := by
  have e : sFor it g b ρ = mFor (fun x ρ => (g x ρ).bind b) xs ρ1 := by unfold sFor; rw [h]; rfl
  unfold W
  rw [e]
  refine mFor_w xs ρ1 I h0 (fun i x ρ2 hx hi => ?_) hq
  obtain ⟨ρ3, e1, q⟩ := hs i x ρ2 hx hi
  obtain ⟨r, ρ4, e2, q2⟩ := q
  exact ⟨r, ρ4, by simp only [e1, Option.bind_some]; exact e2, q2⟩
/-- a while by a measure -/
theorem w_while (I : Nat → Env → Prop) {t : Tm} {b : Sm} {n : Nat} {ρ : Env} {Q : Fl → Env → Prop} (h0 : I n ρ)
    (hs : ∀ n ρ2, I n ρ2 → ∃ c ρ3, t ρ2 = some (c, ρ3) ∧ (c = true → W b ρ3 (lpK (fun ρ4 => ∃ m, m < n ∧ I m ρ4) Q)) ∧ (c = false → Q .nx ρ3)) : W (sWhile t b) ρ Q := by
  have gen : ∀ n ρ, I n ρ → ∃ k fl ρ', mWhileN t b k ρ = some (fl, ρ') ∧ Q fl ρ' := by
    intro n
    induction n using Nat.strongRecOn with
    | ind n ih =>
      intro ρ hi
      obtain ⟨c, ρ3, e, q1, q2⟩ := hs n ρ hi
      cases c with
      | false => exact ⟨1, .nx, ρ3, by simp only [mWhileN, e], q2 rfl⟩
      | true =>
        obtain ⟨fl, ρ4, e2, q⟩ := q1 rfl
        cases fl with
        | nx =>
          obtain ⟨m, hm, hi'⟩ := q
          obtain ⟨k, fl, ρ', e3, q3⟩ := ih m hm ρ4 hi'
          exact ⟨k + 1, fl, ρ', by simp only [mWhileN, e, e2]; exact e3, q3⟩
        | ct =>
          obtain ⟨m, hm, hi'⟩ := q
          obtain ⟨k, fl, ρ', e3, q3⟩ := ih m hm ρ4 hi'
          exact ⟨k + 1, fl, ρ', by simp only [mWhileN, e, e2]; exact e3, q3⟩
        | bk => exact ⟨1, .nx, ρ4, by simp only [mWhileN, e, e2], q⟩
        | rt r => exact ⟨1, .rt r, ρ4, by simp only [mWhileN, e, e2], q⟩
        | xc x => exact ⟨1, .xc x, ρ4, by simp only [mWhileN, e, e2], q⟩
  obtain ⟨k, fl, ρ', e, q⟩ := gen n ρ h0
  exact ⟨fl, ρ', mWhile_of e, q⟩
/-- a comprehension by what holds ahead of each turn -/
theorem w_lc (I : Nat → List OT → Env → Prop) {vs : List Nat} {it : Lm} {g : Gm} {t : Tm} {e : Ym} {ρ ρ1 : Env} {xs : List D} {Q : OT → Env → Prop} (h : it ρ = some (xs, ρ1)) (hc : calmAt ρ1 vs = true) (hl : xs.length ≤ 1000000) (h0 : I 0 [] (wipeE ρ1 vs))
    (hs : ∀ i x acc ρ2, xs[i]? = some x → I i acc ρ2 → W (lcStep g t e x) ρ2 fun o ρ3 => I (i + 1) (acc ++ o.toList) (wipeE ρ3 vs)) (hq : ∀ acc ρ2, I xs.length acc ρ2 → Q (.nd .lst acc) (rst ρ2 ρ1 vs)) : W (yLc vs it g t e) ρ Q := by
  obtain ⟨rs, ρ2, e1, q⟩ := mLc_inv xs [] (wipeE ρ1 vs) I h0 fun i x acc ρ2 hx hi => hs i x acc ρ2 hx hi
  refine ⟨_, _, ?_, hq _ _ q⟩
  unfold yLc
  rw [h]
  simp [hc, hl, e1, rsts]
/-- what a def hands back -/
def endK (P : OT → Prop) : Fl → Env → Prop
  | .rt .no, _ => False
  | .rt (.d x), _ => P (.d x)
  | .rt (.nd k ts), _ => P (.nd k ts)
  | .rt (.fl ts), _ => P (.fl ts)
  | .rt (.ex x), _ => P (.ex x)
  | .rt (.si x), _ => P (.si x)
  | .xc _, _ => False
  | .nx, _ => P (.d .none)
  | .bk, _ => False
  | .ct, _ => False
theorem fin_w {B : Sm} {ρ : Env} {P : OT → Prop} (h : W B ρ (endK P)) : ∃ r, fin (B ρ) = some r ∧ P r := by
  obtain ⟨fl, ρ', e, q⟩ := h
  rw [e]
  cases fl with
  | nx => exact ⟨_, rfl, q⟩
  | bk => exact q.elim
  | ct => exact q.elim
  | xc x => exact q.elim
  | rt r =>
    cases r with
    | no => exact q.elim
    | d x => exact ⟨_, rfl, q⟩
    | nd k ts => exact ⟨_, rfl, q⟩
    | fl ts => exact ⟨_, rfl, q⟩
    | ex x => exact ⟨_, rfl, q⟩
    | si x => exact ⟨_, rfl, q⟩
end MR
namespace SH
open PySem L2 PL MR
/-- _law_take: 0 _law_pool_here 1 _law_many 2 _law_found -/
noncomputable def B__law_take : Sm :=
 (sSeq (sIf (tR (bR (rOp gGt (rOp gIxL (rVar 0) (rC (.int 0))) (rC (.int 0)))))
 (sSeq (sAsg 2 (yR (rOp gMod (rOp gIxL (rVar 0) (rC (.int 0))) (rVar 1))))
 (sSeq (sSetP 0 (pmVar 0) (rC (.int 0)) (yR (rOp gDiv (rOp gIxL (rVar 0) (rC (.int 0))) (rVar 1))))
 (sRet (yMov 2))))
 sNext)
 (sSeq (sSetP 0 (pmVar 0) (rC (.int 1)) (yR (rOp gMod (rOp gAdd (rOp gMul (rOp gIxL (rVar 0) (rC (.int 1))) (rC (.int 48271))) (rC (.int 11))) (rC (.int 2147483647)))))
 (sRet (yR (rOp gMod (rOp gDiv (rOp gMod (rOp gMul (rOp gIxL (rVar 0) (rC (.int 1))) (rOp gIxL (rVar 0) (rC (.int 1)))) (rC (.int 2147483629))) (rC (.int 16))) (rVar 1))))))
noncomputable def m__law_take : OT → List D → Option (OT × OT) := fun t ds => finI (B__law_take (t :: ini ds 1))
/-- is_whole: 0 thing -/
noncomputable def B_is_whole : Sm :=
 (sRet (yR (rAnd (rIs "int" (rVar 0)) (rNot (rIs "bool" (rVar 0))))))
noncomputable def m_is_whole : List D → Option OT := fun ds => fin (B_is_whole (ini ds 0))
/-- joins_places: 0 many 1 thing 2 one 3 other -/
noncomputable def B_joins_places : Sm :=
 (sSeq (sIf (tR (bOr (bNot (bR (rIs "tuple" (rVar 1)))) (bR (rOp gNeI (rCb gLen (qCons (rVar 1) qNil)) (rC (.int 2))))))
 (sRet (yR (rC (.bool false))))
 sNext)
 (sSeq (sAsgG (gmTup (gsCons (gmName 2) (gsCons (gmName 3) gsNil))) (dY (yVar 1)))
 (sRet (yR (rAnd (rCall m_is_whole 1 (qCons (rVar 2) qNil)) (rAnd (rCall m_is_whole 1 (qCons (rVar 3) qNil)) (rCh3 (fun i j => decide (i ≤ j)) (fun i j => decide (i < j)) (fun i j => decide (i < j)) (rC (.int 0)) (rVar 2) (rVar 3) (rVar 0))))))))
noncomputable def m_joins_places : List D → Option OT := fun ds => fin (B_joins_places (ini ds 2))
/-- web_fault: 0 thing 1 many 2 ties 3 at 4 tie -/
noncomputable def B_web_fault : Sm :=
 (sSeq (sIf (tR (bOr (bNot (bR (rIs "tuple" (rVar 0)))) (bR (rOp gNeI (rCb gLen (qCons (rVar 0) qNil)) (rC (.int 2))))))
 (sRet (yTup (oCons (yR (rC (.str "web"))) (oCons (yR (rC .none)) oNil))))
 sNext)
 (sSeq (sAsgG (gmTup (gsCons (gmName 1) (gsCons (gmName 2) gsNil))) (dY (yVar 0)))
 (sSeq (sIf (tR (bOr (bNot (bR (rCall m_is_whole 1 (qCons (rVar 1) qNil)))) (bNot (bR (rCh (fun i j => decide (i ≤ j)) (fun i j => decide (i ≤ j)) (rC (.int 1)) (rVar 1) (rC (.int 40)))))))
 (sRet (yTup (oCons (yR (rC (.str "places"))) (oCons (yR (rC .none)) oNil))))
 sNext)
 (sSeq (sIf (tR (bOr (bNot (bR (rIs "list" (rVar 2)))) (bR (rOp gGt (rCb gLen (qCons (rVar 2) qNil)) (rC (.int 120))))))
 (sRet (yTup (oCons (yR (rC (.str "ties"))) (oCons (yR (rC .none)) oNil))))
 sNext)
 (sSeq (sFor (iE (lCons (dY (yVar 2)) lNil)) (gmTup (gsCons (gmName 3) (gsCons (gmName 4) gsNil)))
 (sIf (tR (bOr (bNot (bR (rCall m_joins_places 2 (qCons (rVar 1) (qCons (rVar 4) qNil))))) (bAnd (bR (rOp gGt (rVar 3) (rC (.int 0)))) (bR (rOp gLeT (rVar 4) (rOp gIxL (rVar 2) (rOp gSub (rVar 3) (rC (.int 1)))))))))
 (sRet (yTup (oCons (yR (rC (.str "ties"))) (oCons (yMov 3) oNil))))
 sNext))
 (sRet (yR (rC .none))))))))
noncomputable def m_web_fault : List D → Option OT := fun ds => fin (B_web_fault (ini ds 4))
/-- is_place: 0 many 1 thing -/
noncomputable def B_is_place : Sm :=
 (sRet (yR (rAnd (rCall m_is_whole 1 (qCons (rVar 1) qNil)) (rCh (fun i j => decide (i ≤ j)) (fun i j => decide (i < j)) (rC (.int 0)) (rVar 1) (rVar 0)))))
noncomputable def m_is_place : List D → Option OT := fun ds => fin (B_is_place (ini ds 0))
/-- _law_web: 0 _law_pool_here 1 _law_most 2 _law_more 3 _law_many 4 _law_names 5 _law_order 6 _law_k 7 _law_pairs 8 _law_ties 9 _law_one 10 _law_other -/
noncomputable def B__law_web : Sm :=
 (sSeq (sAsg 3 (yD (dOp gAdd (dR (rC (.int 1))) (dY (yCallI m__law_take 2 0 (lCons (dY (yVar 1)) lNil))))))
 (sSeq (sAsg 4 (yRng1 (dY (yVar 3))))
 (sSeq (sAsg 5 (yLc [6] (iR1 (lCons (dY (yVar 3)) lNil)) (gmName 6) (fun ρ => some (true, ρ)) (yPop 4 (dY (yCallI m__law_take 2 0 (lCons (dR (rCb gLen (qCons (rVar 4) qNil))) lNil))))))
 (sSeq (sAsg 7 (yLc [6] (iR2 (lCons (dR (rC (.int 1))) (lCons (dY (yVar 3)) lNil))) (gmName 6) (fun ρ => some (true, ρ)) (yTup (oCons (yVar 6) (oCons (yCallI m__law_take 2 0 (lCons (dY (yVar 6)) lNil)) oNil)))))
 (sSeq (sFor (iR1 (lCons (dY (yCallI m__law_take 2 0 (lCons (dR (rOp gAdd (rVar 2) (rC (.int 1)))) lNil))) lNil)) (gmName 6)
 (sApp 7 (yTup (oCons (yCallI m__law_take 2 0 (lCons (dY (yVar 3)) lNil)) (oCons (yCallI m__law_take 2 0 (lCons (dY (yVar 3)) lNil)) oNil)))))
 (sSeq (sAsg 8 yDNew)
 (sSeq (sFor (iL (dY (yVar 7))) (gmTup (gsCons (gmName 9) (gsCons (gmName 10) gsNil)))
 (sIf (tR (bR (rOp gNeI (rVar 9) (rVar 10))))
 (sDPutM 8 (rTup (qCons (rCb gMin2 (qCons (rOp gIxL (rVar 5) (rVar 9)) (qCons (rOp gIxL (rVar 5) (rVar 10)) qNil))) (qCons (rCb gMax2 (qCons (rOp gIxL (rVar 5) (rVar 9)) (qCons (rOp gIxL (rVar 5) (rVar 10)) qNil))) qNil))) (rC (.bool true)))
 sNext))
 (sRet (yTup (oCons (yMov 3) (oCons (ySortD 8) oNil)))))))))))
noncomputable def m__law_web : OT → List D → Option (OT × OT) := fun t ds => finI (B__law_web (t :: ini ds 8))
/-- beside_all: 0 web 1 many 2 ties 3 beside 4 _ 5 one 6 other -/
noncomputable def B_beside_all : Sm :=
 (sSeq (sAsgG (gmTup (gsCons (gmName 1) (gsCons (gmName 2) gsNil))) (dY (yVar 0)))
 (sSeq (sAsg 3 (yLc [4] (iR1 (lCons (dY (yVar 1)) lNil)) (gmName 4) (fun ρ => some (true, ρ)) (yLst oNil)))
 (sSeq (sFor (iL (dY (yVar 2))) (gmTup (gsCons (gmName 5) (gsCons (gmName 6) gsNil)))
 (sSeq (sAppP 3 (pmIx (pmVar 3) (rVar 5)) (fR (rVar 6)))
 (sAppP 3 (pmIx (pmVar 3) (rVar 6)) (fR (rVar 5)))))
 (sRet (yMov 3)))))
noncomputable def m_beside_all : List D → Option OT := fun ds => fin (B_beside_all (ini ds 6))
/-- look_at_web: 0 thing 1 fault 2 part 3 number -/
noncomputable def B_look_at_web : Sm :=
 (sSeq (sAsg 1 (yCallA m_web_fault 1 (qCons (rVar 0) qNil) (lCons (dY (yVar 0)) lNil)))
 (sIf (tR (bR (rOp gNotN (rVar 1) (rC .none))))
 (sSeq (sAsgG (gmTup (gsCons (gmName 2) (gsCons (gmName 3) gsNil))) (dY (yVar 1)))
 sNever)
 sNext))
noncomputable def m_look_at_web : List D → Option OT := fun ds => fin (B_look_at_web (ini ds 3))
/-- far_from: 0 beside 1 place 2 far 3 _ 4 steps 5 ring 6 next_ring 7 here 8 there -/
noncomputable def B_far_from : Sm :=
 (sSeq (sAsg 2 (yLc [3] (iL (dY (yVar 0))) (gmName 3) (fun ρ => some (true, ρ)) (yR (rC .none))))
 (sSeq (sSetP 2 (pmVar 2) (rVar 1) (yR (rC (.int 0))))
 (sSeq (sAsg 4 (yR (rC (.int 0))))
 (sSeq (sAsg 5 (yLst (oCons (yVar 1) oNil)))
 (sSeq (sWhile (tR (bList (rVar 5)))
 (sSeq (sAsg 4 (yR (rOp gAdd (rVar 4) (rC (.int 1)))))
 (sSeq (sAsg 6 (yLst oNil))
 (sSeq (sFor (iL (dY (yVar 5))) (gmName 7)
 (sFor (iL (dY (yAuto (rOp gIxL (rVar 0) (rVar 7)) (yD (dOpR gIxL (dY (yVar 0)) (rVar 7)))))) (gmName 8)
 (sIf (tR (bR (rOp gIsN (rOp gIxL (rVar 2) (rVar 8)) (rC .none))))
 (sSeq (sSetP 2 (pmVar 2) (rVar 8) (yVar 4))
 (sApp 6 (yVar 8)))
 sNext)))
 (sAsg 5 (yVar 6))))))
 (sRet (yMov 2)))))))
noncomputable def m_far_from : List D → Option OT := fun ds => fin (B_far_from (ini ds 7))
/-- hangs: 0 web -/
noncomputable def B_hangs : Sm :=
 (sRet (yR (rOp gNotInD (rC .none) (rCall m_far_from 2 (qCons (rCall m_beside_all 1 (qCons (rVar 0) qNil)) (qCons (rC (.int 0)) qNil))))))
noncomputable def m_hangs : List D → Option OT := fun ds => fin (B_hangs (ini ds 0))
end SH
namespace SQ
open PySem L2 PL MR
/-- _law_numbers: 0 _law_cell 1 _law_salt 2 _law_sizes 3 _law_number 4 _law_left 5 _law_found 6 _law_k 7 _law_one -/
noncomputable def B__law_numbers : Sm :=
 (sSeq (sAsg 3 (yR (rCb gMax2 (qCons (rVar 0) (qCons (rOp gSub (rUn gNeg (rC (.int 1))) (rVar 0)) qNil)))))
 (sSeq (sAsg 4 (yVar 3))
 (sSeq (sAsg 5 (yLst oNil))
 (sSeq (sFor (iR1 (lCons (dR (rCb gLen (qCons (rVar 2) qNil))) lNil)) (gmName 6)
 (sIf (tR (bAnd (bR (rOp gGe (rVar 3) (rOp gPow (rC (.int 10)) (rC (.int 18))))) (bR (rOp gGt (rVar 4) (rC (.int 0))))))
 (sSeq (sApp 5 (yR (rOp gMod (rVar 4) (rOp gIxL (rVar 2) (rVar 6)))))
 (sAsg 4 (yR (rOp gDiv (rVar 4) (rOp gIxL (rVar 2) (rVar 6))))))
 (sSeq (sAsg 7 (yR (rOp gMod (rOp gAdd (rOp gAdd (rOp gAdd (rVar 3) (rOp gMul (rC (.int 7919)) (rVar 1))) (rOp gMul (rOp gMul (rC (.int 101)) (rVar 6)) (rVar 6))) (rVar 6)) (rC (.int 2147483647)))))
 (sSeq (sAsg 7 (yR (rOp gMod (rOp gMul (rVar 7) (rC (.int 48271))) (rC (.int 2147483647)))))
 (sSeq (sAsg 7 (yR (rOp gMod (rOp gMul (rOp gMod (rOp gMul (rVar 7) (rVar 7)) (rC (.int 2147483629))) (rC (.int 48271))) (rC (.int 2147483647)))))
 (sApp 5 (yR (rOp gMod (rOp gDiv (rVar 7) (rC (.int 16))) (rOp gIxL (rVar 2) (rVar 6))))))))))
 (sRet (yMov 5))))))
noncomputable def m__law_numbers : List D → Option OT := fun ds => fin (B__law_numbers (ini ds 5))
/-- _law_cell_at: 0 _law_script 1 _law_k -/
noncomputable def B__law_cell_at : Sm :=
 (sSeq (sIf (tR (bR (rOp gLt (rVar 1) (rCb gLen (qCons (rVar 0) qNil)))))
 (sRet (yAuto (rOp gIxL (rVar 0) (rVar 1)) (yD (dOpR gIxL (dY (yVar 0)) (rVar 1)))))
 sNext)
 (sRet (yR (rC (.int 0)))))
noncomputable def m__law_cell_at : List D → Option OT := fun ds => fin (B__law_cell_at (ini ds 0))
/-- _law_order: 0 _law_digits 1 _law_names 2 _law_digit -/
noncomputable def B__law_order : Sm :=
 (sSeq (sAsg 1 (yRng1 (dR (rCb gLen (qCons (rVar 0) qNil)))))
 (sRet (yLc [2] (iL (dY (yVar 0))) (gmName 2) (fun ρ => some (true, ρ)) (yPop 1 (dR (rOp gMod (rVar 2) (rCb gLen (qCons (rVar 1) qNil))))))))
noncomputable def m__law_order : List D → Option OT := fun ds => fin (B__law_order (ini ds 2))
/-- _law_web: 0 _law_cell 1 _law_salt 2 _law_most 3 _law_more 4 _law_loose 5 _law_many 6 _law_sizes 7 _law_k 8 _law_digits 9 _law_order_here 10 _law_pairs 11 _law_digit 12 _law_ties 13 _law_one 14 _law_other -/
noncomputable def B__law_web : Sm :=
 (sSeq (sAsg 5 (yR (rOp gAdd (rC (.int 1)) (rOp gIxL (rCall m__law_numbers 3 (qCons (rVar 0) (qCons (rVar 1) (qCons (rLst (qCons (rVar 2) qNil)) qNil)))) (rC (.int 0))))))
 (sSeq (sAsg 6 (yOp GCat (dY (yOp GCat (dY (yLst (oCons (yVar 2) (oCons (yR (rOp gAdd (rVar 3) (rC (.int 1)))) oNil)))) (dY (yLc [7] (iR1 (lCons (dR (rOp gSub (rVar 5) (rC (.int 1)))) lNil)) (gmName 7) (fun ρ => some (true, ρ)) (yR (rOp gAdd (rVar 7) (rC (.int 1)))))))) (dY (yLc [7] (iR1 (lCons (dY (yVar 5)) lNil)) (gmName 7) (fun ρ => some (true, ρ)) (yR (rOp gSub (rVar 5) (rVar 7)))))))
 (sSeq (sAsg 8 (yCall m__law_numbers 3 (lCons (dY (yVar 0)) (lCons (dY (yVar 1)) (lCons (dY (yOp GCat (dY (yOp GCat (dY (yVar 6)) (dY (yRep (yLst (oCons (yR (rOp gMul (rVar 5) (rVar 5))) oNil)) (rVar 3))))) (dY (yRep (yLst (oCons (yR (rC (.int 3))) oNil)) (rOp gSub (rVar 5) (rC (.int 1))))))) lNil)))))
 (sSeq (sAsg 9 (yCallA m__law_order 1 (qCons (rSl (rVar 8) (cSome (rOp gAdd (rVar 5) (rC (.int 1)))) (cSome (rOp gAdd (rOp gMul (rC (.int 2)) (rVar 5)) (rC (.int 1))))) qNil) (lCons (dY (ySlA (rVar 8) (dY (yVar 8)) (cSome (rOp gAdd (rVar 5) (rC (.int 1)))) (cSome (rOp gAdd (rOp gMul (rC (.int 2)) (rVar 5)) (rC (.int 1)))))) lNil)))
 (sSeq (sAsg 10 (yLc [7] (iR1 (lCons (dR (rOp gSub (rVar 5) (rC (.int 1)))) lNil)) (gmName 7) (tR (bOr (bNot (bR (rVar 4))) (bR (rOp gGt (rOp gIxL (rVar 8) (rOp gSub (rUn gNeg (rC (.int 1))) (rVar 7))) (rC (.int 0)))))) (yTup (oCons (yR (rOp gAdd (rVar 7) (rC (.int 1)))) (oCons (yAuto (rOp gIxL (rVar 8) (rOp gAdd (rC (.int 2)) (rVar 7))) (yD (dOpR gIxL (dY (yVar 8)) (rOp gAdd (rC (.int 2)) (rVar 7))))) oNil)))))
 (sSeq (sExt 10 (yLc [11] (iL (dY (ySlA (rVar 8) (dY (yVar 8)) (cSome (rOp gAdd (rOp gMul (rC (.int 2)) (rVar 5)) (rC (.int 1)))) (cSome (rOp gAdd (rOp gAdd (rOp gMul (rC (.int 2)) (rVar 5)) (rC (.int 1))) (rOp gIxL (rVar 8) (rC (.int 1)))))))) (gmName 11) (fun ρ => some (true, ρ)) (yTup (oCons (yR (rOp gDiv (rVar 11) (rVar 5))) (oCons (yR (rOp gMod (rVar 11) (rVar 5))) oNil)))))
 (sSeq (sAsg 12 yDNew)
 (sSeq (sFor (iL (dY (yVar 10))) (gmTup (gsCons (gmName 13) (gsCons (gmName 14) gsNil)))
 (sIf (tR (bR (rOp gNeI (rVar 13) (rVar 14))))
 (sDPutM 12 (rTup (qCons (rCb gMin2 (qCons (rOp gIxL (rVar 9) (rVar 13)) (qCons (rOp gIxL (rVar 9) (rVar 14)) qNil))) (qCons (rCb gMax2 (qCons (rOp gIxL (rVar 9) (rVar 13)) (qCons (rOp gIxL (rVar 9) (rVar 14)) qNil))) qNil))) (rC (.bool true)))
 sNext))
 (sRet (yTup (oCons (yMov 5) (oCons (ySortD 12) oNil))))))))))))
noncomputable def m__law_web : List D → Option OT := fun ds => fin (B__law_web (ini ds 10))
end SQ
namespace SF
open PySem L2 PL MR SH SQ
end SF
namespace SB
open PySem L2 PL MR SH SQ
/-- _law_beside: 0 _law_web_here 1 _law_found 2 _law_place 3 _law_one 4 _law_other -/
noncomputable def B__law_beside : Sm :=
 (sSeq (sAsg 1 (yLc [2] (iR1 (lCons (dY (yAuto (rOp gIxT (rVar 0) (rC (.int 0))) (yD (dOpR gIxT (dY (yVar 0)) (rC (.int 0)))))) lNil)) (gmName 2) (fun ρ => some (true, ρ)) (yLst oNil)))
 (sSeq (sFor (iL (dY (yAuto (rOp gIxT (rVar 0) (rC (.int 1))) (yD (dOpR gIxT (dY (yVar 0)) (rC (.int 1))))))) (gmTup (gsCons (gmName 3) (gsCons (gmName 4) gsNil)))
 (sSeq (sAppP 1 (pmIx (pmVar 1) (rVar 3)) (fR (rVar 4)))
 (sAppP 1 (pmIx (pmVar 1) (rVar 4)) (fR (rVar 3)))))
 (sRet (yMov 1))))
noncomputable def m__law_beside : List D → Option OT := fun ds => fin (B__law_beside (ini ds 4))
/-- _law_away: 0 _law_beside_here 1 _law_place 2 _law_found 3 _law_row 4 _law_at 5 _law_other -/
noncomputable def B__law_away : Sm :=
 (sSeq (sAsg 2 (yRep (yLst (oCons (yR (rC .none)) oNil)) (rCb gLen (qCons (rVar 0) qNil))))
 (sSeq (sSetP 2 (pmVar 2) (rVar 1) (yR (rC (.int 0))))
 (sSeq (sAsg 3 (yLst (oCons (yVar 1) oNil)))
 (sSeq (sAsg 4 (yR (rC (.int 0))))
 (sSeq (sWhile (tR (bR (rOp gLt (rVar 4) (rCb gLen (qCons (rVar 3) qNil)))))
 (sSeq (sFor (iL (dY (yAuto (rOp gIxL (rVar 0) (rOp gIxL (rVar 3) (rVar 4))) (yD (dOpR gIxL (dY (yVar 0)) (rOp gIxL (rVar 3) (rVar 4))))))) (gmName 5)
 (sIf (tR (bR (rOp gIsN (rOp gIxL (rVar 2) (rVar 5)) (rC .none))))
 (sSeq (sSetP 2 (pmVar 2) (rVar 5) (yR (rOp gAdd (rOp gIxL (rVar 2) (rOp gIxL (rVar 3) (rVar 4))) (rC (.int 1)))))
 (sApp 3 (yVar 5)))
 sNext))
 (sAsg 4 (yR (rOp gAdd (rVar 4) (rC (.int 1)))))))
 (sRet (yMov 2)))))))
noncomputable def m__law_away : List D → Option OT := fun ds => fin (B__law_away (ini ds 4))
end SB
/-! MR: math.comb -/
namespace MR
open PySem L2 PL PySem.Spec PyProof.Rows
end MR
/-! MR: products of great numbers -/
namespace MR
open PySem L2 PL PySem.Spec PyProof.Rows
end MR
/-! MR: zip of three lists -/
namespace MR
open PySem L2 PL PySem.Spec PyProof.Rows
end MR
/-! MR: max of a list of ints, xs.count(k), xs[i] += e -/
namespace MR
open PySem L2 PL PySem.Spec PyProof.Rows
end MR
namespace SC
open PySem L2 PL MR SB SH
end SC
/-! MR: dicts by ints and texts: {}, {k: v}, d[k], d.get(k, e), d[k] = v, for k, v in d.items() -/
namespace MR
open PySem L2 PL PySem.Spec PyProof.Rows
def keyK : D → Option Key
  | .int i => some (.inl i)
  | .str x => some (.inr x)
  | _ => Option.none
def putKO (ks : List Key) (ts : List OT) (k : Key) (v : OT) : List Key × List OT :=
  if (ks.any fun x => decide (x = k)) = true then (ks, (ks.zip ts).map fun p => if p.1 = k then v else p.2) else (ks ++ [k], ts ++ [v])
def getKD (ks : List Key) (xs : List D) (k : Key) : Option D := ((ks.zip xs).find? fun p => decide (p.1 = k)).map (·.2)
def rIxK (i : Nat) (b : Rm) : Rm := fun ρ => (b ρ).bind fun d => (keyK d).bind fun k => match ρ[i]? with
  | some (.nd (.dK ks) ts) => if ks.length = ts.length then (flatDs ts).bind fun xs => getKD ks xs k else Option.none
  | _ => Option.none
theorem putKK_zip {ks : List Key} {vs : List V} {k : Key} {v : V} (hl : ks.length = vs.length) :
    putK (ks.zip vs) k v = if (ks.any fun x => decide (x = k)) = true then ks.zip ((ks.zip vs).map fun p => if p.1 = k then v else p.2) else (ks ++ [k]).zip (vs ++ [v]) := by
  have e : ((ks.zip vs).any fun kv => decide (kv.1 = k)) = ks.any fun x => decide (x = k) := by
    have h1 : (ks.zip vs).map (·.1) = ks := List.map_fst_zip (by omega)
    have h2 : ((ks.zip vs).map (·.1)).any (fun x => decide (x = k)) = (ks.zip vs).any fun kv => decide (kv.1 = k) := by rw [List.any_map]; rfl
    rw [h1] at h2
    exact h2.symm
  unfold putK
  rw [e]
  split
  · have gen : ∀ (ks : List Key) (vs : List V), ks.length = vs.length → (ks.zip vs).map (fun kv => if kv.1 = k then (kv.1, v) else kv) = ks.zip ((ks.zip vs).map fun p => if p.1 = k then v else p.2) := by
      intro ks
      induction ks with
      | nil => intro vs _; rfl
      | cons x ks ih =>
        intro vs hl
        cases vs with
        | nil => simp at hl
        | cons w vs =>
          simp only [List.zip_cons_cons, List.map_cons]
          rw [ih vs (by simpa using hl)]
          split <;> rfl
    exact gen ks vs hl
  · rw [List.zip_append hl]; rfl
variable [kf : KF]
theorem rp_keyK {H : Hp} {u : V} {d : D} {k : Key} (h : keyK d = some k) (r : Rp H u d) : u = kV k := by
  unfold keyK at h
  split at h
  · cases h; cases r; rfl
  · cases h; cases r; rfl
  · cases h
variable [wx : WXI]
theorem Ok.dputK {S0 H0 S2 H2 : Hp} {A0 : List Addr} {σ : List (Option V)} {ρ : List OT} {i : Nat} {ks : List Key} {ts : List OT} {k : Key} {v : D} {w : V} (o2 : Ok S0 H0 A0 S2 H2 σ ρ) (ht : ρ[i]? = some (.nd (.dK ks) ts)) (hc1 : ks.length = ts.length)
    (hfl : flat v = true) (r1 : Rp H2 w v) :
    ∃ a kvs, σ[i]? = some (some (.ref a)) ∧ H2 a = some (.dK kvs) ∧ kvs.length = ks.length ∧ Ok S0 H0 A0 S2 (upd H2 a (.dK (putK kvs k w))) σ (ρ.set i (.nd (.dK (putKO ks ts k (.d v)).1) (putKO ks ts k (.d v)).2)) := by
  obtain ⟨w0', a', vs', B', C', g1', g2', g5', g3', g6', g7', g8', g9', g10'⟩ := Ok.rewrite (τσ := []) (τρ := []) (p := []) rfl o2.dummy ht rfl rfl
  simp only [follow, Option.some.injEq] at g2'
  cases g2'
  have len := g7'.len
  refine ⟨a', _, g1', g3', by rw [List.length_zip]; omega, ?_⟩
  rw [putKK_zip (by omega)]
  have vw : OOk S2 H2 w (.d v) [] := .d (dp_flat hfl r1)
  have done : ∀ {ks' : List Key} {us : List V} {ts' : List OT} {B2 : List Addr}, ks'.length = ts'.length → OAll S2 H2 us ts' B2 → B2.Nodup → (∀ b ∈ B2, b ∈ B') → ((ks', ts') = putKO ks ts k (.d v)) →
      Ok S0 H0 A0 S2 (upd H2 a' (.dK (ks'.zip us))) σ (ρ.set i (.nd (.dK (putKO ks ts k (.d v)).1) (putKO ks ts k (.d v)).2)) := by
    intro ks' us ts' B2 z2 z3 z4 z5 z6
    have := g10' (k' := .dK ks') (y' := Option.none) (r' := .no) (C' := []) rfl z2 z3 .no (by simpa using z4) (fun b hb => List.mem_append_left _ (z5 b (by simpa using hb)))
    have := this.drop
    simp only [OT.put] at this
    rw [← z6]
    exact this
  have ndB := (List.nodup_append.mp g9').1
  split
  · rename_i hany
    have gen : ∀ (ks : List Key) (vs : List V) (ts : List OT) (B : List Addr), ks.length = ts.length → OAll S2 H2 vs ts B → B.Nodup → ∃ B2, OAll S2 H2 ((ks.zip vs).map fun p => if p.1 = k then w else p.2) ((ks.zip ts).map fun p => if p.1 = k then OT.d v else p.2) B2 ∧ B2.Nodup ∧ ∀ b ∈ B2, b ∈ B := by
      intro ks
      induction ks with
      | nil => intro vs ts B hl h nd; exact ⟨[], .nil, List.nodup_nil, fun b hb => by cases hb⟩
      | cons x ks ih =>
        intro vs ts B hl h nd
        cases ts with
        | nil => simp at hl
        | cons t ts =>
          cases h with
          | @cons v0 vs _ _ A B h1 h2 =>
            have nd' := List.nodup_append.mp nd
            obtain ⟨B2, q1, q2, q3⟩ := ih vs ts B (by simpa using hl) h2 nd'.2.1
            simp only [List.zip_cons_cons, List.map_cons]
            by_cases e : x = k
            · rw [if_pos e, if_pos e]
              exact ⟨[] ++ B2, .cons vw q1, by simpa using q2, fun b hb => List.mem_append_right _ (q3 b (by simpa using hb))⟩
            · rw [if_neg e, if_neg e]
              refine ⟨A ++ B2, .cons h1 q1, List.nodup_append.mpr ⟨nd'.1, q2, fun a ha b hb => nd'.2.2 a ha b (q3 b hb)⟩, fun b hb => ?_⟩
              rcases List.mem_append.mp hb with z | z
              · exact List.mem_append_left _ z
              · exact List.mem_append_right _ (q3 b z)
    obtain ⟨B2, q1, q2, q3⟩ := gen ks vs' ts B' hc1 g7' ndB
    refine done ?_ q1 q2 q3 ?_
    · rw [List.length_map, List.length_zip]; omega
    · unfold putKO; rw [if_pos hany]
  · rename_i hany
    refine done ?_ (g7'.app (.one vw)) (by simpa using ndB) (fun b hb => by simpa using hb) ?_
    · simp [hc1]
    · unfold putKO; rw [if_neg hany]
section
variable {js : List Nat} {ta tb tc : TE} {a b c : Rm} {i : Nat}
theorem flat_rp {S H : Hp} : ∀ {ts : List OT} {vs : List V} {B : List Addr} {xs : List D}, OAll S H vs ts B → flatDs ts = some xs → RpAll S vs xs ∧ B = [] ∧ ts = xs.map .d
  | [], _, _, xs, h, e => by cases h; simp [flatDs] at e; subst e; exact ⟨.nil, rfl, rfl⟩
  | .d x :: ts, _, _, xs, h, e => by
    cases h with
    | cons h1 h2 =>
      simp only [flatDs] at e
      split at e
      · simp only [Option.map_eq_some_iff] at e
        obtain ⟨ys, e, rfl⟩ := e
        obtain ⟨r1, r2, r3⟩ := flat_rp h2 e
        subst r2 r3
        cases h1 with
        | d h1 => exact ⟨.cons h1 r1, rfl, rfl⟩
      · cases e
  | .no :: ts, _, _, xs, h, e => by simp [flatDs] at e
  | .nd _ _ :: ts, _, _, xs, h, e => by simp [flatDs] at e
  | .fl _ :: ts, _, _, xs, h, e => by simp [flatDs] at e
  | .ex _ :: ts, _, _, xs, h, e => by simp [flatDs] at e
  | .si _ :: ts, _, _, xs, h, e => by simp [flatDs] at e
theorem val_rel {S : Hp} {k : Key} : ∀ {ks : List Key} {vs : List V} {xs : List D}, RpAll S vs xs → (∃ v x, valV (ks.zip vs) k = some v ∧ getKD ks xs k = some x ∧ Rp S v x) ∨ (valV (ks.zip vs) k = Option.none ∧ getKD ks xs k = Option.none)
  | [], _, _, _ => .inr ⟨rfl, rfl⟩
  | k' :: ks, _, _, .nil => .inr ⟨by simp [valV], by simp [getKD]⟩
  | k' :: ks, _, _, .cons (v := v) (d := x) h1 h2 => by
    unfold valV getKD
    rw [List.zip_cons_cons, List.zip_cons_cons, List.find?_cons, List.find?_cons]
    by_cases z : k' = k
    · simp only [z, decide_true]
      exact .inl ⟨_, _, rfl, rfl, h1⟩
    · simp only [z, decide_false]
      exact val_rel h2
theorem c_rixK (hk : CR tb b) : CR (tDGet (tVar i) tb) (rIxK i b) := fun ρ x h => by
  simp only [rIxK, Option.bind_eq_some_iff] at h
  obtain ⟨d, h1, k, h2, h4⟩ := h
  split at h4
  · rename_i ks ts ht
    split at h4
    · rename_i hl
      simp only [Option.bind_eq_some_iff] at h4
      obtain ⟨xs, h5, h6⟩ := h4
      refine fun S0 H0 A0 S H τσ τρ σ Q l o q => ?_
      obtain ⟨v, A, e1, e2⟩ := o.slot l ht (by intro z; cases z)
      obtain ⟨a, vs, B, rfl, rfl, g1, g2, g3, g4⟩ := e2.inv_nd rfl
      refine ⟨_, e1, hk _ _ h1 S0 H0 A0 S H τσ τρ σ _ l o fun u S1 H1 x1 r1 => ?_⟩
      have := rp_keyK h2 r1
      subst this
      have g3' : H1 a = some (.dK (ks.zip vs)) := x1.hh _ _ g3
      obtain ⟨r3, _, _⟩ := flat_rp g4 h5
      rcases val_rel (ks := ks) (k := k) r3 with ⟨v, x', q1, q2, q3⟩ | ⟨q1, q2⟩
      · rw [q2] at h6
        cases h6
        refine ⟨a, v, rfl, ?_, q _ S1 H1 x1 (dp_mono (x1.ss.trans x1.sh) _ _ q3)⟩
        rw [← q1]
        exact DGet.k g3'
      · rw [q2] at h6; cases h6
    · cases h4
  · cases h4
end
end MR
/-! MR: list(zip(xs, ys)) of two lists -/
namespace MR.Lz
open PySem PySem.Calls PyProof.Rows PyProof.V PySem.Spec
/-- what zip(xs, ys) has told so far -/
structure Told (ps : List (Value × Value)) (lo : Addr) (h : Heap) (as : List Addr) : Prop where
  rise : as.Pairwise (· < ·)
  above : ∀ a ∈ as, lo < a
  pairs : ∀ (j : Nat) (a : Addr), as[j]? = some a → ∃ p, ps[j]? = some p ∧ h.get? a = some { cls := .type "tuple", data := .seq #[p.1, p.2] }
/-- the zip as it stands ahead of turn i -/
def St (h : Heap) (z TI TO i1 i2 l1 l2 S : Addr) (xs ys : Array Value) (i : Nat) : Prop :=
  IsPair h TI (.ref i1) (.ref i2) ∧ h.IsListIter i1 l1 i ∧ h.IsListIter i2 l2 i ∧ h.IsList l1 xs ∧ h.IsList l2 ys ∧
    ((IsZip h z TI TO .none ∧ ∃ a b, IsPair h TO a b) ∨ ∃ T f oT, IsZipHeld h z TI TO T f ∧ h.get? T = some oT ∧ T ≠ z ∧ T ≠ i1 ∧ T ≠ i2 ∧ T ≠ S)
structure Off (z TI TO i1 i2 l1 l2 S : Addr) : Prop where
  z : S ≠ z
  TI : S ≠ TI
  TO : S ≠ TO
  i1 : S ≠ i1
  i2 : S ≠ i2
  l1 : S ≠ l1
  l2 : S ≠ l2
section
variable {z TI TO i1 i2 l1 l2 S : Addr} {xs ys : Array Value} {i : Nat}
theorem St.keep {h h' : Heap} (x : St h z TI TO i1 i2 l1 l2 S xs ys i) (O : Off z TI TO i1 i2 l1 l2 S) (hk : ∀ b o, b ≠ S → h.get? b = some o → h'.get? b = some o) : St h' z TI TO i1 i2 l1 l2 S xs ys i := by
  obtain ⟨hTI, h1, h2, hl1, hl2, hz⟩ := x
  refine ⟨hk _ _ (Ne.symm O.TI) hTI, h1.at fun o e => hk _ o (Ne.symm O.i1) e, h2.at fun o e => hk _ o (Ne.symm O.i2) e, hl1.at fun o e => hk _ o (Ne.symm O.l1) e, hl2.at fun o e => hk _ o (Ne.symm O.l2) e, ?_⟩
  rcases hz with ⟨hz, a, b, hTO⟩ | ⟨T, f, oT, hz, hT, r1, r2, r3, r4⟩
  · exact .inl ⟨hk _ _ (Ne.symm O.z) hz, a, b, hk _ _ (Ne.symm O.TO) hTO⟩
  · exact .inr ⟨T, f, oT, hk _ _ (Ne.symm O.z) hz, hk _ _ r4 hT, r1, r2, r3, r4⟩
variable {prog : Program} {w : World} {A : Around} {E : Value → Shared → Prop} {s : Shared}
theorem done {Q : Option Value → Shared → Prop} (hA : A.handled = none) (D : ZipApart z TI TO i1 i2 l1 l2) (st : St s.heap z TI TO i1 i2 l1 l2 S xs ys i) (hend : xs[i]? = none ∨ ys[i]? = none)
    (hQ : ∀ h', (∀ b o, b ≠ z → b ≠ TO → b ≠ i1 → b ≠ i2 → s.heap.get? b = some o → h'.get? b = some o) → Q none { s with heap := h' }) :
    wpAny (model prog w) A (pyNext (.ref z)) Q E s := by
  obtain ⟨hTI, h1, h2, hl1, hl2, hz⟩ := st
  rcases hz with ⟨hz, a, b, hTO⟩ | ⟨T, f, oT, hz, hT, r1, r2, r3, r4⟩
  · exact wpAny_pyNext_zip_end hA D hz hTI hTO h1 h2 hl1 hl2 hend hQ
  · exact wpAny_pyNext_zip_end_held hA D hz hT hTI h1 h2 hl1 hl2 hend fun h' hk => hQ h' fun b o b1 _ b3 b4 e => hk b o b1 b3 b4 e
end
end MR.Lz
namespace MR
open PySem L2 PL PySem.Spec PyProof.Rows
/-- pairs laid at their addresses -/
def putPz : Hp → List Addr → List (V × V) → Hp
  | H, a :: as, p :: kvs => putPz (upd H a (.tup [p.1, p.2])) as kvs
  | H, _, _ => H
theorem putPz_off {b : Addr} : ∀ (as : List Addr) (kvs : List (V × V)) (H : Hp), b ∉ as → putPz H as kvs b = H b
  | [], _, _, _ => rfl
  | _ :: _, [], _, _ => rfl
  | a :: as, p :: kvs, H, h => by
    show putPz (upd H a (.tup [p.1, p.2])) as kvs b = H b
    rw [putPz_off as kvs _ (fun z => h (List.mem_cons_of_mem _ z)), upd_ne (fun z => h (by rw [z]; exact List.mem_cons_self))]
theorem putPz_at : ∀ (as : List Addr) (kvs : List (V × V)) (H : Hp), as.length = kvs.length → as.Nodup → ∀ (j : Nat) (a : Addr), as[j]? = some a → ∃ p, kvs[j]? = some p ∧ putPz H as kvs a = some (.tup [p.1, p.2])
  | [], [], _, _, _ => fun j a h => by simp at h
  | [], _ :: _, _, h, _ => by cases h
  | _ :: _, [], _, h, _ => by cases h
  | a :: as, p :: kvs, H, h, hn => by
    have hn' := List.nodup_cons.mp hn
    have ih := putPz_at as kvs (upd H a (.tup [p.1, p.2])) (Nat.succ.inj h) hn'.2
    intro j b hj
    cases j with
    | zero =>
      have e : a = b := by simpa using hj
      subst e
      exact ⟨p, rfl, by show putPz (upd H a (.tup [p.1, p.2])) as kvs a = _; rw [putPz_off as kvs _ hn'.1, upd_same]⟩
    | succ j => exact ih j b (by simpa using hj)
section
variable {X : Cx} {e e2 : Expr} {ta : TA} {p p2 pos cpos : Pos}
theorem laid {pins : List (Addr × Obj)} {σ : L2.St} {H : Hp} {s : Shared} {h' : Heap} {tk : Nat} {L : Addr} {qs : List (V × V)} {ps : List (Value × Value)} {acc : Array Value} {c : Nat} {as : List Addr} (I : Inv X pins σ H s) (hz : qs.length ≤ sizeLine) (hlen : ps.length = qs.length)
    (hrel : ∀ (j : Nat) (p : Value × Value), ps[j]? = some p → ∃ q, qs[j]? = some q ∧ RelV q.1 p.1 ∧ RelV q.2 p.2)
    (hL : s.heap.objs.size ≤ L) (hk : ∀ b o, s.heap.get? b = some o → h'.get? b = some o) (hS : h'.get? L = some { cls := .type "list", dict := none, data := .seq acc c, slots := #[] }) (hl : as.length = ps.length) (hG : Lz.Told ps L h' as) (hacc : acc.toList = as.map Value.ref) :
    as.Nodup ∧ (∀ t ∈ as, H t = none) ∧ H L = none ∧ L ∉ as ∧ Inv X pins σ (putPz (upd H L (.lst (as.map V.ref))) as qs) { s with heap := h', toks := tk } := by
  have hSn : L ∉ as := fun z => Nat.lt_irrefl _ (hG.above _ z)
  have nd : as.Nodup := List.Pairwise.imp (fun {a b} (h : a < b) => Nat.ne_of_lt h) hG.rise
  have new : ∀ t ∈ as, H t = none := fun t ht => I.hok.fresh (Nat.le_trans hL (Nat.le_of_lt (hG.above t ht)))
  have newS : H L = none := I.hok.fresh hL
  have atP := putPz_at as qs (upd H L (.lst (as.map V.ref))) (by omega) nd
  have off : ∀ b, b ∉ as → b ≠ L → putPz (upd H L (.lst (as.map V.ref))) as qs b = H b := fun b h1 h2 => by rw [putPz_off as qs _ h1, upd_ne h2]
  have low : ∀ b o, s.heap.get? b = some o → b ∉ as ∧ b ≠ L := fun b o e => ⟨fun z => absurd (Heap.lt_size e) (Nat.not_lt.mpr (Nat.le_trans hL (Nat.le_of_lt (hG.above b z)))), Nat.ne_of_lt (Nat.lt_of_lt_of_le (Heap.lt_size e) hL)⟩
  have kp : ∀ b u, H b = some u → (putPz (upd H L (.lst (as.map V.ref))) as qs) b = some u := fun b u e => by
    rw [off b (fun z => by rw [new b z] at e; cases e) (fun z => by rw [z, newS] at e; cases e)]
    exact e
  have eS : putPz (upd H L (.lst (as.map V.ref))) as qs L = some (.lst (as.map V.ref)) := by rw [putPz_off as qs _ hSn, upd_same]
  refine ⟨nd, new, newS, hSn, ?_⟩
  refine I.call' (ch := []) rfl ⟨fun b o q _ _ _ => hk b o q, fun b o q _ _ _ => ⟨o.slots, hk b o q⟩, fun b o q n _ => ?_, fun b o q _ => ⟨o, hk b o q⟩, fun b xs q => kp b _ q, fun b o u q => kp b _ q, fun b ps q => ⟨#[], by rw [kp b _ q]; simp⟩⟩ (fun b u q => ?_) I.bare fun b z => by simp at z
  · obtain ⟨z1, z2⟩ := low b o q
    rw [off b z1 z2]
    exact n
  · by_cases hb : b ∈ as
    · obtain ⟨j, e1⟩ := List.mem_iff_getElem?.mp hb
      obtain ⟨pk, e2, e3⟩ := atP j b e1
      rw [e3] at q
      cases q
      obtain ⟨pv, f1, f3⟩ := hG.pairs j b e1
      obtain ⟨qv, g1, g2, g3⟩ := hrel j pv f1
      rw [g1] at e2
      cases e2
      exact ⟨by show 2 ≤ sizeLine; decide, [pv.1, pv.2], .cons g2 (.cons g3 .nil), ⟨_, f3, rfl, _, rfl⟩⟩
    · by_cases hb2 : b = L
      · rw [hb2] at q ⊢
        rw [eS] at q
        cases q
        refine ⟨by rw [List.length_map]; omega, acc.toList, c, by rw [hacc]; exact LiI.vals_refs as, ?_⟩
        rw [Array.toArray_toList]
        exact hS
      · rw [off b hb hb2] at q
        exact (I.hok b u q).stay (fun d v _ y => hk d v y) (fun d y => kp d _ y) fun d xs y => kp d _ y
end
end MR
/-! MR: max of a list of ints, default= -/
namespace MR
open PySem L2 PL PySem.Spec PyProof.Rows PySem PySem.W
end MR
/-! MR: repr of an empty dict too -/
namespace MR
open PySem L2 PL PySem.Spec PyProof.Rows
end MR
/-! MR: a flat item of an own list, whatever its index does -/
namespace MR
open PySem L2 PL PySem.Spec PyProof.Rows
end MR
namespace MR
open PySem L2 PL PySem.Spec PyProof.Rows
end MR
namespace SA
open PySem L2 PL MR SH SQ
/-- _law_web: 0 _law_cell 1 _law_salt 2 _law_most 3 _law_more 4 _law_many 5 _law_sizes 6 _law_k 7 _law_digits 8 _law_names 9 _law_order 10 _law_pairs_here 11 _law_digit 12 _law_ties 13 _law_one 14 _law_other -/
noncomputable def B__law_web : Sm :=
 (sSeq (sAsg 4 (yR (rOp gAdd (rC (.int 1)) (rOp gIxL (rCall SQ.m__law_numbers 3 (qCons (rVar 0) (qCons (rVar 1) (qCons (rLst (qCons (rVar 2) qNil)) qNil)))) (rC (.int 0))))))
 (sSeq (sAsg 5 (yOp GCat (dY (yOp GCat (dY (yLst (oCons (yVar 2) (oCons (yR (rOp gAdd (rVar 3) (rC (.int 1)))) oNil)))) (dY (yLc [6] (iR1 (lCons (dR (rOp gSub (rVar 4) (rC (.int 1)))) lNil)) (gmName 6) (fun ρ => some (true, ρ)) (yR (rOp gAdd (rVar 6) (rC (.int 1)))))))) (dY (yLc [6] (iR1 (lCons (dY (yVar 4)) lNil)) (gmName 6) (fun ρ => some (true, ρ)) (yR (rOp gSub (rVar 4) (rVar 6)))))))
 (sSeq (sAsg 7 (yCall SQ.m__law_numbers 3 (lCons (dY (yVar 0)) (lCons (dY (yVar 1)) (lCons (dY (yOp GCat (dY (yVar 5)) (dY (yRep (yLst (oCons (yR (rOp gMul (rVar 4) (rVar 4))) oNil)) (rVar 3))))) lNil)))))
 (sSeq (sAsg 8 (yRng1 (dY (yVar 4))))
 (sSeq (sAsg 9 (yLst oNil))
 (sSeq (sFor (iR1 (lCons (dY (yVar 4)) lNil)) (gmName 6)
 (sApp 9 (yPop 8 (dY (yAuto (rOp gIxL (rVar 7) (rOp gAdd (rOp gAdd (rVar 4) (rC (.int 1))) (rVar 6))) (yD (dOpR gIxL (dY (yVar 7)) (rOp gAdd (rOp gAdd (rVar 4) (rC (.int 1))) (rVar 6)))))))))
 (sSeq (sAsg 10 (yLc [6] (iR1 (lCons (dR (rOp gSub (rVar 4) (rC (.int 1)))) lNil)) (gmName 6) (fun ρ => some (true, ρ)) (yTup (oCons (yR (rOp gAdd (rVar 6) (rC (.int 1)))) (oCons (yAuto (rOp gIxL (rVar 7) (rOp gAdd (rC (.int 2)) (rVar 6))) (yD (dOpR gIxL (dY (yVar 7)) (rOp gAdd (rC (.int 2)) (rVar 6))))) oNil)))))
 (sSeq (sFor (iL (dY (ySlA (rVar 7) (dY (yVar 7)) (cSome (rOp gAdd (rOp gMul (rC (.int 2)) (rVar 4)) (rC (.int 1)))) (cSome (rOp gAdd (rOp gAdd (rOp gMul (rC (.int 2)) (rVar 4)) (rC (.int 1))) (rOp gIxL (rVar 7) (rC (.int 1)))))))) (gmName 11)
 (sApp 10 (yTup (oCons (yR (rOp gDiv (rVar 11) (rVar 4))) (oCons (yR (rOp gMod (rVar 11) (rVar 4))) oNil)))))
 (sSeq (sAsg 12 yDNew)
 (sSeq (sFor (iL (dY (yVar 10))) (gmTup (gsCons (gmName 13) (gsCons (gmName 14) gsNil)))
 (sIf (tR (bR (rOp gNeI (rVar 13) (rVar 14))))
 (sDPutM 12 (rTup (qCons (rCb gMin2 (qCons (rOp gIxL (rVar 9) (rVar 13)) (qCons (rOp gIxL (rVar 9) (rVar 14)) qNil))) (qCons (rCb gMax2 (qCons (rOp gIxL (rVar 9) (rVar 13)) (qCons (rOp gIxL (rVar 9) (rVar 14)) qNil))) qNil))) (rC (.bool true)))
 sNext))
 (sRet (yTup (oCons (yMov 4) (oCons (ySortD 12) oNil))))))))))))))
noncomputable def m__law_web : List D → Option OT := fun ds => fin (B__law_web (ini ds 11))
/-- _law_any_web: 0 _law_script 1 _law_k 2 _law_salt 3 _law_other 4 _law_head 5 _law_most 6 _law_more 7 _law_many 8 _law_ties 9 _law_drops 10 _law_tie 11 _law_drop -/
noncomputable def B__law_any_web : Sm :=
 (sSeq (sAsg 3 (yCallA SQ.m__law_cell_at 2 (qCons (rVar 0) (qCons (rOp gAdd (rOp gMul (rC (.int 2)) (rVar 1)) (rC (.int 1))) qNil)) (lCons (dY (yVar 0)) (lCons (dR (rOp gAdd (rOp gMul (rC (.int 2)) (rVar 1)) (rC (.int 1)))) lNil))))
 (sSeq (sAsg 4 (yCallA SQ.m__law_numbers 3 (qCons (rVar 3) (qCons (rOp gAdd (rVar 2) (rC (.int 1))) (qCons (rLst (qCons (rC (.int 8)) (qCons (rC (.int 4)) qNil))) qNil))) (lCons (dY (yVar 3)) (lCons (dR (rOp gAdd (rVar 2) (rC (.int 1)))) (lCons (dY (yLst (oCons (yR (rC (.int 8))) (oCons (yR (rC (.int 4))) oNil)))) lNil)))))
 (sSeq (sAsgG (gmTup (gsCons (gmName 5) (gsCons (gmName 6) gsNil))) (dY (yAuto (rOp gIxL (rLst (qCons (rTup (qCons (rC (.int 12)) (qCons (rC (.int 8)) qNil))) (qCons (rTup (qCons (rC (.int 40)) (qCons (rC (.int 81)) qNil))) qNil))) (rCb gInt (qCons (rAnd (rOp gEqI (rOp gIxL (rVar 4) (rC (.int 0))) (rC (.int 7))) (rOp gEqI (rOp gMod (rVar 1) (rC (.int 4))) (rC (.int 0)))) qNil))) (yD (dOpR gIxL (dY (yLst (oCons (yTup (oCons (yR (rC (.int 12))) (oCons (yR (rC (.int 8))) oNil))) (oCons (yTup (oCons (yR (rC (.int 40))) (oCons (yR (rC (.int 81))) oNil))) oNil)))) (rCb gInt (qCons (rAnd (rOp gEqI (rOp gIxL (rVar 4) (rC (.int 0))) (rC (.int 7))) (rOp gEqI (rOp gMod (rVar 1) (rC (.int 4))) (rC (.int 0)))) qNil)))))))
 (sSeq (sAsgG (gmTup (gsCons (gmName 7) (gsCons (gmName 8) gsNil))) (dY (yCallA m__law_web 4 (qCons (rCall SQ.m__law_cell_at 2 (qCons (rVar 0) (qCons (rOp gMul (rC (.int 2)) (rVar 1)) qNil))) (qCons (rVar 2) (qCons (rVar 5) (qCons (rVar 6) qNil)))) (lCons (dY (yCallA SQ.m__law_cell_at 2 (qCons (rVar 0) (qCons (rOp gMul (rC (.int 2)) (rVar 1)) qNil)) (lCons (dY (yVar 0)) (lCons (dR (rOp gMul (rC (.int 2)) (rVar 1))) lNil)))) (lCons (dY (yVar 2)) (lCons (dY (yVar 5)) (lCons (dY (yVar 6)) lNil)))))))
 (sSeq (sAsg 9 (ySl (dY (yCall SQ.m__law_numbers 3 (lCons (dY (yVar 3)) (lCons (dR (rOp gAdd (rVar 2) (rC (.int 1)))) (lCons (dY (yOp GCat (dY (yLst (oCons (yR (rC (.int 8))) (oCons (yR (rC (.int 4))) oNil)))) (dY (yRep (yLst (oCons (yR (rC (.int 4))) oNil)) (rCb gLen (qCons (rVar 8) qNil)))))) lNil))))) (cSome (rC (.int 2))) cNone))
 (sRet (yTup (oCons (yMov 7) (oCons (yLc [10, 11] (iZ (lCons (dY (yVar 8)) (lCons (dY (yVar 9)) lNil))) (gmTup (gsCons (gmName 10) (gsCons (gmName 11) gsNil))) (tR (bR (rOp gGe (rVar 11) (rOp gIxL (rVar 4) (rC (.int 1)))))) (yVar 10)) oNil)))))))))
noncomputable def m__law_any_web : List D → Option OT := fun ds => fin (B__law_any_web (ini ds 9))
/-- _law_beside: 0 _law_web_here 1 _law_found 2 _law_place 3 _law_one 4 _law_other 5 _law_places -/
noncomputable def B__law_beside : Sm :=
 (sSeq (sAsg 1 (yLc [2] (iR1 (lCons (dY (yAuto (rOp gIxT (rVar 0) (rC (.int 0))) (yD (dOpR gIxT (dY (yVar 0)) (rC (.int 0)))))) lNil)) (gmName 2) (fun ρ => some (true, ρ)) (yLst oNil)))
 (sSeq (sFor (iL (dY (yAuto (rOp gIxT (rVar 0) (rC (.int 1))) (yD (dOpR gIxT (dY (yVar 0)) (rC (.int 1))))))) (gmTup (gsCons (gmName 3) (gsCons (gmName 4) gsNil)))
 (sSeq (sAppP 1 (pmIx (pmVar 1) (rVar 3)) (fR (rVar 4)))
 (sAppP 1 (pmIx (pmVar 1) (rVar 4)) (fR (rVar 3)))))
 (sRet (yLc [5] (iL (dY (yVar 1))) (gmName 5) (fun ρ => some (true, ρ)) (yCbA GSortI (qCons (rVar 5) qNil) (lCons (dY (yVar 5)) lNil))))))
noncomputable def m__law_beside : List D → Option OT := fun ds => fin (B__law_beside (ini ds 5))
/-- _law_far: 0 _law_beside_here 1 _law_place 2 _law_found 3 _law_row 4 _law_at 5 _law_other -/
noncomputable def B__law_far : Sm :=
 (sSeq (sAsg 2 (yRep (yLst (oCons (yR (rC .none)) oNil)) (rCb gLen (qCons (rVar 0) qNil))))
 (sSeq (sSetP 2 (pmVar 2) (rVar 1) (yR (rC (.int 0))))
 (sSeq (sAsg 3 (yLst (oCons (yVar 1) oNil)))
 (sSeq (sAsg 4 (yR (rC (.int 0))))
 (sSeq (sWhile (tR (bR (rOp gLt (rVar 4) (rCb gLen (qCons (rVar 3) qNil)))))
 (sSeq (sFor (iL (dY (yAuto (rOp gIxL (rVar 0) (rOp gIxL (rVar 3) (rVar 4))) (yD (dOpR gIxL (dY (yVar 0)) (rOp gIxL (rVar 3) (rVar 4))))))) (gmName 5)
 (sIf (tR (bR (rOp gIsN (rOp gIxL (rVar 2) (rVar 5)) (rC .none))))
 (sSeq (sSetP 2 (pmVar 2) (rVar 5) (yR (rOp gAdd (rOp gIxL (rVar 2) (rOp gIxL (rVar 3) (rVar 4))) (rC (.int 1)))))
 (sApp 3 (yVar 5)))
 sNext))
 (sAsg 4 (yR (rOp gAdd (rVar 4) (rC (.int 1)))))))
 (sRet (yMov 2)))))))
noncomputable def m__law_far : List D → Option OT := fun ds => fin (B__law_far (ini ds 4))
end SA
/-! MR: an exception that is caught and kept -/
namespace MR
open PySem L2 PL PySem.Spec PySem.HandSPX
end MR
/-! MR: raising, calls that may raise, try .. except C as e: y = e; isinstance of what is kept -/
namespace MR
open PySem L2 PL
/-! ### pure -/
/-- an expression that may raise -/
abbrev Xm := Env → Option (Except Xc OT × Env)
variable [kf : KF]
section
variable [wx : WXI]
variable {ρ ρ1 ρ' : Env} {ta tb te : TE} {tl tk : TA} {t : TT} {tm : Tm} {y : Ym} {xa xb m : Xm} {q p : Qm} {lm ln : Lm} {js : List Nat} {i j : Nat} {n k l : Nat} {f : List D → Option (Except Xc OT)}
theorem XcAt.up {A0 : List Addr} {S0 H0 S H H' : Hp} {cls : Value} {d : Option Addr} {x : Xc} (h : XcAt H H' cls d x) (o : Xa A0 S0 H0 S H) : XcAt H0 H' cls d x := by
  obtain ⟨C, h1, h2, h3, h4⟩ := h
  exact ⟨C, h1, h2, h3, fun dd e => o.dm dd (h4 dd e)⟩
/-! ### statements -/
end
/-! ### what is kept -/
end MR
/-! MR: isinstance of what is kept; rules for calls that may raise; the tie of a def that may raise -/
namespace PySem.W
open PySem PySem.Spec PySem.Calls PyProof.Rows
end PySem.W
namespace MR
open PySem L2 PL
/-! ### the rules of calls that may raise -/
/-! ### a def that may raise -/
end MR
/-! calls that leave a parameter to its default -/
namespace MR
open PySem L2 PL
end MR
/-! MR: a part of a slot's tuple: looped over, its items changed; frozen for one statement; and a list that takes up what one doesn't own -/
namespace MR
open PySem L2 PL
end MR
/-! MR: a part of a slot's tuple: looped over with its items one's own -/
namespace MR
open PySem L2 PL
end MR
/-! MR: a list that takes up a part one doesn't own; a part read; a part frozen for one statement; try .. except C: .. -/
namespace MR
open PySem L2 PL
end MR
/-! MR: (x, e): x is handed over once e is made -/
namespace MR
open PySem L2 PL
variable [kf : KF]
section
variable {S H S' H' S0 H0 : Hp} {A0 : List Addr} {σ τσ : St} {ρ τρ ρ1 : Env} {te : TE} {r t : OT} {i : Nat}
theorem Ok.swap {v w : Option V} {r t : OT} (o : Ok S0 H0 A0 S H (v :: w :: σ) (t :: r :: ρ)) : Ok S0 H0 A0 S H (w :: v :: σ) (r :: t :: ρ) := by
  obtain ⟨A, he, nd, fr⟩ := o.env
  cases he with
  | @cons _ _ A1 _ _ B1 p1 p2 =>
    cases p2 with
    | @cons _ _ A2 _ _ B2 q1 q2 =>
      have perm : (A2 ++ (A1 ++ B2)).Perm (A1 ++ (A2 ++ B2)) := by
        rw [← List.append_assoc, ← List.append_assoc]
        exact List.perm_append_comm.append_right B2
      exact ⟨o.xt, A2 ++ (A1 ++ B2), .cons q1 (.cons p1 q2), perm.nodup_iff.mpr nd, fun b hb => fr b (perm.mem_iff.mp hb)⟩
end
end MR
/-! MR: a statement runs beside what it can't reach -/
namespace MR
open PySem L2 PL
variable [kf : KF] [wx : WXI]
section
variable {S H S' H' S0 H0 : Hp} {A0 A1 : List Addr} {σ : St} {ρ ρ' : Env}
theorem Xa.comp (x : Xa A0 S0 H0 S H) (hA : ∀ a ∈ A1, a ∈ A0 ∨ H0 a = none) (y : Xa A1 S H S' H') : Xa A0 S0 H0 S' H' where
  hh b o nb e := y.hh b o (fun z => by
    rcases hA b z with q | q
    · exact nb q
    · rw [q] at e; cases e) (x.hh b o nb e)
  dm b e := x.dm b (y.dm b e)
  tp b xs e := y.tp b xs (x.tp b xs e)
  ss := x.ss.trans y.ss
  sh := y.sh
  nw b o e := by
    rcases y.nw b o e with z | z | z
    · exact x.nw b o z
    · rcases hA b z with q | q
      · exact .inr (.inl q)
      · exact .inr (.inr fun u hu => by rw [q] at hu; cases hu)
    · by_cases nb : b ∈ A0
      · exact .inr (.inl nb)
      · exact .inr (.inr fun u hu => z u (x.hh b u nb hu))
/-- what is wished where s in v stays beside -/
def KontT (F : List (Nat × V)) (S H S0 H0 : Hp) (A0 A1 : List Addr) (v : Option V) (s : OT) (E : Ends) : Fl → Env → Prop
  | .nx, ρ' => ∀ S' H' σ', Same S S' → (∀ a ∈ A1, H' a = H a) → Fx F σ' → Ok S0 H0 A0 S' H' (v :: σ') (s :: ρ') → E.nx σ' H'
  | .bk, ρ' => ∀ S' H' σ', Same S S' → (∀ a ∈ A1, H' a = H a) → Fx F σ' → Ok S0 H0 A0 S' H' (v :: σ') (s :: ρ') → E.bk σ' H'
  | .ct, ρ' => ∀ S' H' σ', Same S S' → (∀ a ∈ A1, H' a = H a) → Fx F σ' → Ok S0 H0 A0 S' H' (v :: σ') (s :: ρ') → E.ct σ' H'
  | .rt r, ρ' => ∀ v' S' H' σ', Same S S' → Fx F σ' → Ok S0 H0 A0 S' H' (some v' :: σ') (r :: ρ') → E.rt v' H'
  | .xc x, ρ' => ∀ cls d S' H' σ', Same S S' → Fx F σ' → Ok S0 H0 A0 S' H' σ' ρ' → XcAt H0 H' cls d x → wx.W cls d σ' H'
theorem run_beside {js : List Nat} {t : TS} {fl : Fl} (h : RunS js t ρ fl ρ') {v : Option V} {s : OT} {B1 : List Addr} {F : List (Nat × V)} {E : Ends} (hF : F.map (·.1) = js) (hx : Fx F σ) (xt : Xa A0 S0 H0 S H) (p1 : OSl S H v s A1) (p2 : EOk S H σ ρ B1) (nd : (A1 ++ B1).Nodup) (fr : ∀ a ∈ A1 ++ B1, a ∈ A0 ∨ H0 a = none) (kk : KontT F S H S0 H0 A0 A1 v s E fl ρ') : t E σ H := by
  have nda := List.nodup_append.mp nd
  have o1 : Ok S H B1 S H σ ρ := ⟨⟨fun _ _ _ e => e, fun _ e => e, fun _ _ e => e, Same.refl S, xt.sh, fun _ _ e => .inl e⟩, B1, p2, nda.2.1, fun a ha => .inl ha⟩
  have frB : ∀ a ∈ B1, a ∈ A0 ∨ H0 a = none := fun a ha => fr a (List.mem_append_right _ ha)
  have low : ∀ {S' H' : Hp} {σ' : St} {ρ2 : Env}, Ok S H B1 S' H' σ' ρ2 → Ok S0 H0 A0 S' H' σ' ρ2 := fun {S' H' σ' ρ2} o' => by
    obtain ⟨B2, h2, nd2, fr2⟩ := o'.env
    refine ⟨xt.comp frB o'.xt, B2, h2, nd2, fun b hb => ?_⟩
    rcases fr2 b hb with z | z
    · exact frB b z
    · exact .inr (xt.dm b z)
  have up : ∀ {S' H' : Hp} {σ' : St} {ρ2 : Env}, Ok S H B1 S' H' σ' ρ2 → (∀ a ∈ A1, H' a = H a) ∧ Ok S0 H0 A0 S' H' (v :: σ') (s :: ρ2) := fun {S' H' σ' ρ2} o' => by
    obtain ⟨B2, h2, nd2, fr2⟩ := o'.env
    have e : ∀ a ∈ A1, S' a = none ∧ H' a = H a := fun a ha => by
      obtain ⟨z1, u, hu, hn⟩ := p1.at a ha
      have nb : a ∉ B1 := fun z => nda.2.2 a ha a z rfl
      refine ⟨?_, by rw [hu]; exact o'.xt.hh a u nb hu⟩
      cases q : S' a with
      | none => rfl
      | some o =>
        rcases o'.xt.nw a o q with z | z | z
        · rw [z1] at z; cases z
        · exact (nb z).elim
        · obtain ⟨xs, rfl⟩ := z u hu
          exact (hn xs rfl).elim
    refine ⟨fun a ha => (e a ha).2, xt.comp frB o'.xt, A1 ++ B2, .cons (p1.keep o'.xt.ss o'.xt.tp e) h2, List.nodup_append.mpr ⟨nda.1, nd2, fun a ha b hb z => ?_⟩, fun b hb => ?_⟩
    · subst z
      rcases fr2 a hb with y | y
      · exact nda.2.2 a ha a y rfl
      · obtain ⟨_, u, hu, _⟩ := p1.at a ha
        rw [y] at hu
        cases hu
    · rcases List.mem_append.mp hb with z | z
      · exact fr b (List.mem_append_left _ z)
      · rcases fr2 b z with y | y
        · exact frB b y
        · exact .inr (xt.dm b y)
  refine h S H B1 S H σ F E hF hx o1 ?_
  cases fl with
  | nx => exact fun S' H' σ' ss fx o' => kk S' H' σ' ss (up o').1 fx (up o').2
  | bk => exact fun S' H' σ' ss fx o' => kk S' H' σ' ss (up o').1 fx (up o').2
  | ct => exact fun S' H' σ' ss fx o' => kk S' H' σ' ss (up o').1 fx (up o').2
  | rt r => exact fun v' S' H' σ' ss fx o' => kk v' S' H' σ' ss fx (low o')
  | xc x => exact fun cls d S' H' σ' ss fx o' xc => kk cls d S' H' σ' ss fx (low o') (by
      obtain ⟨C, a1, a2, a3, a4⟩ := xc
      exact ⟨C, a1, a2, a3, fun dd e => xt.dm dd (a4 dd e)⟩)
end
end MR
/-! MR: a part of a slot's tuple, looped over and still one's own afterwards -/
namespace MR
open PySem L2 PL
variable [kf : KF] [wx : WXI]
section
variable {S H S' H' S0 H0 : Hp} {A0 : List Addr} {σ : St} {ρ : Env}
theorem Ok.holeN {v : Option V} {ts : List OT} {k : Nat} {t : OT} (o : Ok S0 H0 A0 S H (v :: σ) (.nd .lst ts :: ρ)) (h : ts[k]? = some t) : ∃ a vs w, v = some (.ref a) ∧ H a = some (.lst vs) ∧ vs[k]? = some w ∧ vs.length = ts.length ∧ Ok S0 H0 A0 S H (some w :: v :: σ) (t :: .nd .lst (ts.set k .no) :: ρ) := by
  obtain ⟨A, he, nd, fr⟩ := o.env
  cases he with
  | @cons _ _ A1 _ _ B1 p1 p2 =>
    cases p1 with
    | is p1 =>
      obtain ⟨a, vs, B, rfl, rfl, k1, k2, k3, k4⟩ := p1.inv_nd rfl
      have nda := List.nodup_append.mp nd
      have ndc := List.nodup_cons.mp nda.1
      obtain ⟨w, B', C', e1, e2, e3, e4, e5⟩ := k4.hole ndc.2 h
      have nd4 := List.nodup_append.mp e4
      have sub : ∀ b ∈ C' ++ (a :: B'), b ∈ a :: B := fun b hb => by
        rcases List.mem_append.mp hb with z | z
        · exact List.mem_cons_of_mem _ (e5 b (List.mem_append_left _ z))
        · rcases List.mem_cons.mp z with z | z
          · rw [z]; exact List.mem_cons_self
          · exact List.mem_cons_of_mem _ (e5 b (List.mem_append_right _ z))
      have ndx : (C' ++ (a :: B')).Nodup := List.nodup_append.mpr ⟨nd4.1, List.nodup_cons.mpr ⟨fun z => ndc.1 (e5 a (List.mem_append_right _ z)), nd4.2.1⟩, fun x hx y hy e => by
        subst e
        rcases List.mem_cons.mp hy with z | z
        · subst z; exact ndc.1 (e5 x (List.mem_append_left _ hx))
        · exact nd4.2.2 x hx x z rfl⟩
      refine ⟨a, vs, w, rfl, k3, e1, k4.len, o.xt, C' ++ ((a :: B') ++ B1), .cons (.is e3) (.cons (.is (.nd rfl trivial k2 k3 e2)) p2), ?_, fun b hb => ?_⟩
      · rw [← List.append_assoc]
        exact List.nodup_append.mpr ⟨ndx, nda.2.1, fun x hx y hy => nda.2.2 x (sub x hx) y hy⟩
      · rw [← List.append_assoc] at hb
        rcases List.mem_append.mp hb with z | z
        · exact fr b (List.mem_append_left _ (sub b z))
        · exact fr b (List.mem_append_right _ z)
theorem Ok.backN {v : Option V} {ts : List OT} {k : Nat} {t : OT} {a : Addr} {vs : List V} {w : V} (o : Ok S0 H0 A0 S H (some w :: v :: σ) (t :: .nd .lst ts :: ρ)) (hv : v = some (.ref a)) (hs : H a = some (.lst vs)) (hw : vs[k]? = some w) : Ok S0 H0 A0 S H (v :: σ) (.nd .lst (ts.set k t) :: ρ) := by
  obtain ⟨A, he, nd, fr⟩ := o.env
  subst hv
  cases he with
  | @cons _ _ A1 _ _ B1 p1 p2 =>
    cases p2 with
    | @cons _ _ A2 _ _ B2 q1 q2 =>
      cases q1 with
      | is q1 =>
        obtain ⟨a', vs', B, ea, rfl, k1, k2, k3, k4⟩ := q1.inv_nd rfl
        cases ea
        have e : vs' = vs := by rw [hs] at k3; simp [shape] at k3; exact k3.symm
        subst e
        have nda := List.nodup_append.mp nd
        have ndb := List.nodup_append.mp nda.2.1
        have ndc := List.nodup_cons.mp ndb.1
        have h1 : OOk S H w t A1 := by
          cases p1 with
          | no => exact .no
          | is p1 => exact p1
        obtain ⟨B', r1, r2, r3⟩ := k4.put (j := k) h1 (List.nodup_append.mpr ⟨ndc.2, nda.1, fun x hx y hy e => nda.2.2 y hy x (List.mem_append_left _ (List.mem_cons_of_mem _ hx)) e.symm⟩)
        rw [set_same hw] at r1
        have na : a ∉ B' := fun z => by
          rcases List.mem_append.mp (r3 a z) with y | y
          · exact ndc.1 y
          · exact nda.2.2 a y a (List.mem_append_left _ List.mem_cons_self) rfl
        have sub : ∀ x ∈ a :: B', x ∈ a :: B ∨ x ∈ A1 := fun x hx => by
          rcases List.mem_cons.mp hx with z | z
          · rw [z]; exact .inl List.mem_cons_self
          · rcases List.mem_append.mp (r3 x z) with y | y
            · exact .inl (List.mem_cons_of_mem _ y)
            · exact .inr y
        refine ⟨o.xt, (a :: B') ++ B2, .cons (.is (.nd rfl trivial k2 k3 r1)) q2, List.nodup_append.mpr ⟨List.nodup_cons.mpr ⟨na, r2⟩, ndb.2.1, fun x hx y hy e => ?_⟩, fun b hb => ?_⟩
        · subst e
          rcases sub x hx with z | z
          · exact ndb.2.2 x z x hy rfl
          · exact nda.2.2 x z x (List.mem_append_right _ hy) rfl
        · rcases List.mem_append.mp hb with z | z
          · rcases sub b z with y | y
            · exact fr b (List.mem_append_right _ (List.mem_append_left _ y))
            · exact fr b (List.mem_append_left _ y)
          · exact fr b (List.mem_append_right _ (List.mem_append_right _ z))
end
end MR
/-! MR: an own list, looped over, its items changed, and still one's own afterwards -/
namespace MR
open PySem L2 PL
def putW (i x k : Nat) (ts : List OT) (ρ' : Env) : Option Env := match ρ'[x]? with
  | some t => some ((ρ'.set x .no).set i (.nd .lst (ts.set k t)))
  | _ => Option.none
def mForW (i x : Nat) (body : Sm) : Nat → Nat → Env → Option (Fl × Env)
  | _, 0, ρ => some (.nx, ρ)
  | k, m + 1, ρ => if ρ.length ≤ x then Option.none else match ρ[i]? with
    | some (.nd .lst ts) => match ts[k]? with
      | some t => match body ((ρ.set i .no).set x t) with
        | some (.nx, ρ') => (putW i x k (ts.set k .no) ρ').bind fun ρ2 => mForW i x body (k + 1) m ρ2
        | some (.ct, ρ') => (putW i x k (ts.set k .no) ρ').bind fun ρ2 => mForW i x body (k + 1) m ρ2
        | _ => Option.none
      | Option.none => Option.none
    | _ => Option.none
def sForW (i x : Nat) (b : Sm) : Sm := fun ρ => match ρ[i]? with
  | some (.nd .lst ts) => mForW i x b 0 ts.length ρ
  | _ => Option.none
variable [kf : KF] [wx : WXI]
theorem run_forW {js : List Nat} {t : TS} {i x : Nat} {body : Sm} {ρ ρ' : Env} {fl : Fl} (hix : i ≠ x) (hx : x ∉ js) (hb : CS (i :: x :: js) t body) (hf : sForW i x body ρ = some (fl, ρ')) : RunS js (tFor (iList kf.K (tVar i)) (gName x) t) ρ fl ρ' := fun S0 H0 A0 S H σ F E hF hxF o kk => by
  unfold sForW at hf
  split at hf
  · rename_i ts h0
    obtain ⟨a, vs, e1, ha, e3⟩ : ∃ a vs, σ[i]? = some (some (.ref a)) ∧ H a = some (.lst vs) ∧ vs.length = ts.length := by
      obtain ⟨v, a1, oo⟩ := o.lift h0
      obtain ⟨A, he, _, _⟩ := oo.env
      cases he with
      | cons p1 _ =>
        cases p1 with
        | is p1 =>
          obtain ⟨a, vs, B, rfl, _, _, _, k3, k4⟩ := p1.inv_nd rfl
          exact ⟨a, vs, a1, k3, k4.len⟩
    refine ⟨_, e1, a, rfl, ⟨vs, .of ha⟩, fun k m σ' H' => m = ts.length - k ∧ k ≤ ts.length ∧ ∃ S' ρk, Same S S' ∧ Fx F σ' ∧ σ'[i]? = some (some (.ref a)) ∧ H' a = some (.lst vs) ∧ Ok S0 H0 A0 S' H' σ' ρk ∧ mForW i x body k (ts.length - k) ρk = some (fl, ρ'), ⟨_, rfl, Nat.zero_le _, S, _, Same.refl _, hxF, e1, ha, o, hf⟩, ?_⟩
    rintro k m σ' H' ⟨rfl, hk, S', ρk, s1, hxF', ei, eh, o', hf'⟩
    by_cases hl : k < ts.length
    · obtain ⟨n, hn⟩ : ∃ n, ts.length - k = n + 1 := ⟨ts.length - k - 1, by omega⟩
      rw [hn] at hf'
      unfold mForW at hf'
      split at hf'
      · cases hf'
      · rename_i hlen
        split at hf'
        · rename_i tk hk1
          split at hf'
          · rename_i t0 ht0
            obtain ⟨v, f1, q3⟩ := o'.lift hk1
            rw [ei] at f1
            cases f1
            obtain ⟨a', vs', w, f5, f6, f7, f8, q4⟩ := q3.holeN ht0
            cases f5
            rw [eh] at f6
            cases f6
            have q5 := q4.store (x + 1)
            rw [List.set_cons_succ, List.set_cons_succ] at q5
            refine .inr ⟨⟨vs, w, .of eh, f7⟩, fun σ2 H2 => ∃ S2 ρ2, Same S S2 ∧ Fx F σ2 ∧ σ2[i]? = some (some (.ref a)) ∧ H2 a = some (.lst vs) ∧ Ok S0 H0 A0 S2 H2 σ2 ρ2 ∧ mForW i x body (k + 1) n ρ2 = some (fl, ρ'), fun σ2 H2 ⟨S2, ρ2, b1, b2, b3, bh, b4, b5⟩ => ⟨ts.length - (k + 1), by omega, rfl, by omega, S2, ρ2, b1, b2, b3, bh, b4, by rw [show ts.length - (k + 1) = n by omega]; exact b5⟩, ?_⟩
            rintro w' H2 ⟨rfl, hw⟩
            have := hw vs (.of eh)
            rw [f7] at this
            cases this
            have hF2 : ((i, V.ref a) :: (x, w) :: F).map (·.1) = i :: x :: js := by simp [hF]
            have lx : x < σ'.length := by rw [o'.len]; omega
            have hxF2 : Fx ((i, V.ref a) :: (x, w) :: F) (σ'.set x (some w)) := fun q hq => by
              rcases List.mem_cons.mp hq with rfl | hq
              · rw [List.getElem?_set_ne (fun z => hix z.symm)]; exact ei
              · rcases List.mem_cons.mp hq with rfl | hq
                · rw [List.getElem?_set_self lx]
                · exact hxF'.set (by rw [hF]; exact hx) q hq
            show t _ (σ'.set x (some w)) H2
            obtain ⟨A, he, nd, fr⟩ := q5.env
            cases he with
            | @cons _ _ A1 _ _ B1 p1 p2 =>
              have aA : a ∈ A1 := by
                cases p1 with
                | is p1 =>
                  obtain ⟨a', _, _, z1, z2, _⟩ := p1.inv_nd rfl
                  cases z1
                  rw [z2]
                  exact List.mem_cons_self
              have go : ∀ {ρb : Env} {S4 H4 : Hp} {σ4 : St}, Same S' S4 → (∀ b ∈ A1, H4 b = H2 b) → Fx ((i, V.ref a) :: (x, w) :: F) σ4 → Ok S0 H0 A0 S4 H4 (some (.ref a) :: σ4) (.nd .lst (tk.set k .no) :: ρb) → ((putW i x k (tk.set k .no) ρb).bind fun ρ2 => mForW i x body (k + 1) n ρ2) = some (fl, ρ') → ∃ S2 ρ2, Same S S2 ∧ Fx F σ4 ∧ σ4[i]? = some (some (.ref a)) ∧ H4 a = some (.lst vs) ∧ Ok S0 H0 A0 S2 H4 σ4 ρ2 ∧ mForW i x body (k + 1) n ρ2 = some (fl, ρ') := by
                intro ρb S4 H4 σ4 s4 hA fx4 o4 hm
                simp only [Option.bind_eq_some_iff] at hm
                obtain ⟨ρ2, hm1, hm⟩ := hm
                unfold putW at hm1
                split at hm1
                · rename_i t' g2
                  cases hm1
                  have a1 := fx4 _ List.mem_cons_self
                  have a2 := fx4 _ (List.mem_cons_of_mem _ List.mem_cons_self)
                  simp only at a1 a2
                  have h4 : H4 a = some (.lst vs) := (hA a aA).trans eh
                  obtain ⟨v, z1, r1⟩ := o4.lift (i := x + 1) (t := t') (by rw [List.getElem?_cons_succ]; exact g2)
                  rw [List.getElem?_cons_succ, a2] at z1
                  cases z1
                  rw [List.set_cons_succ] at r1
                  have r2 := r1.backN rfl h4 f7
                  have r4 := r2.store i
                  rw [set_same a1] at r4
                  exact ⟨S4, _, s1.trans s4, fun p hp => fx4 p (List.mem_cons_of_mem _ (List.mem_cons_of_mem _ hp)), a1, h4, r4, hm⟩
                · cases hm1
              split at hf'
              · rename_i ρb hbo
                exact run_beside (hb _ _ _ hbo) hF2 hxF2 q5.xt p1 p2 nd fr fun S4 H4 σ4 s4 hA fx4 o4 => go s4 hA fx4 o4 hf'
              · rename_i ρb hbo
                exact run_beside (hb _ _ _ hbo) hF2 hxF2 q5.xt p1 p2 nd fr fun S4 H4 σ4 s4 hA fx4 o4 => go s4 hA fx4 o4 hf'
              · cases hf'
          · cases hf'
        · cases hf'
    · have e : k = ts.length := by omega
      subst e
      rw [Nat.sub_self] at hf'
      simp only [mForW, Option.some.injEq, Prod.mk.injEq] at hf'
      obtain ⟨rfl, rfl⟩ := hf'
      exact .inl ⟨⟨vs, .of eh, by omega⟩, kk S' H' σ' s1 hxF' o'⟩
  · cases hf
theorem c_forW {js : List Nat} {t : TS} {i x : Nat} {body : Sm} (hb : CS (i :: x :: js) t body) (hix : i ≠ x := by decide) (hx : x ∉ js := by decide) : CS js (tFor (iList kf.K (tVar i)) (gName x) t) (sForW i x body) := fun ρ fl ρ' e => run_forW hix hx hb e
end MR
/-! MR: sets of whole numbers that a slot holds: set(), s.add(k), k in s -/
namespace MR
open PySem L2 PL
def ySet0 : Ym := fun ρ => some (.si [], ρ)
def sSAdd (i : Nat) (b : Rm) : Sm := fun ρ => (b ρ).bind fun d => match d, ρ[i]? with
  | .int k, some (.si ms) => if ms.length ≤ 4000 then some (.nx, ρ.set i (.si (if k ∈ ms then ms else ms ++ [k]))) else Option.none
  | _, _ => Option.none
def rInS (neg : Bool) (a : Rm) (i : Nat) : Rm := fun ρ => (a ρ).bind fun d => match d, ρ[i]? with
  | .int k, some (.si ms) => some (.bool (if neg then !decide (k ∈ ms) else decide (k ∈ ms)))
  | _, _ => Option.none
variable [kf : KF] [wx : WXI]
section
variable {S0 H0 S H : Hp} {A0 : List Addr} {τσ σ : List (Option V)} {τρ ρ : List OT} {i : Nat} {ms : List Int} {js : List Nat} {ta tb : TE} {a b : Rm}
theorem si_fun (ms : List Int) (k : Int) : (fun j : Int => decide (j ∈ ms) || decide (j = k)) = fun j => decide (j ∈ if k ∈ ms then ms else ms ++ [k]) := by
  funext j
  by_cases c : k ∈ ms
  · rw [if_pos c]
    by_cases cj : j = k
    · subst cj; simp [c]
    · simp [cj]
  · rw [if_neg c]
    simp
theorem si_len (ms : List Int) (k : Int) : (if decide (k ∈ ms) = true then ms.length else ms.length + 1) = (if k ∈ ms then ms else ms ++ [k]).length := by
  by_cases c : k ∈ ms
  · simp [c]
  · simp [c]
theorem si_get (l : τσ.length = τρ.length) (o : Ok S0 H0 A0 S H (τσ ++ σ) (τρ ++ ρ)) (ht : ρ[i]? = some (.si ms)) : ∃ p, σ[i]? = some (some (.ref p)) ∧ H p = some (SetO kf.w p (fun j => decide (j ∈ ms)) ms.length) := by
  obtain ⟨v, A, e1, e2⟩ := o.slot l ht (by intro z; cases z)
  cases e2 with
  | si h1 h2 => exact ⟨_, e1, h2⟩
theorem c_set0 : CY (tCB (rSet0 kf.w) tNil) ySet0 := fun ρ r ρ' h => by
  cases h
  refine fun S0 H0 A0 S H τσ τρ σ Q l o q => ⟨rfl, fun p hp => ?_⟩
  have e0 : (fun _ : Int => false) = fun j => decide (j ∈ ([] : List Int)) := by funext j; simp
  rw [e0]
  exact q _ S _ (Same.refl S) (o.push (.new o.sh hp) (.si (o.sh.free hp) upd_same) (by simp) fun a ha => by rw [List.mem_singleton.mp ha]; exact hp)
theorem c_notInS (ha : CR ta a) : CR (tOp (rSNotIn kf.w) ta (tVar i)) (rInS true a i) := fun ρ x h => by
  simp only [rInS, Option.bind_eq_some_iff] at h
  obtain ⟨d, h1, h2⟩ := h
  split at h2
  · rename_i k ms ht
    cases h2
    refine fun S0 H0 A0 S H τσ τρ σ Q l o q => ha _ _ h1 S0 H0 A0 S H τσ τρ σ _ l o fun u S1 H1 x1 r1 => ?_
    obtain ⟨p, e1, e2⟩ := si_get l (o.ext x1) ht
    cases r1
    exact ⟨_, e1, k, p, _, _, rfl, rfl, e2, q _ S1 H1 x1 (.bl _)⟩
  · cases h2
theorem c_sadd (hb : CR tb b) : CS js (tDrop (tSAdd kf.w (tVar i) (tCons tb tNil))) (sSAdd i b) := fun ρ fl ρ' h => by
  simp only [sSAdd, Option.bind_eq_some_iff] at h
  obtain ⟨d, h1, h2⟩ := h
  split at h2
  · rename_i k ms ht
    split at h2
    · rename_i hl
      cases h2
      refine fun S0 H0 A0 S H σ F E hF hx o kk => ?_
      obtain ⟨p, e1, e2⟩ := si_get (τσ := []) (τρ := []) rfl o ht
      refine ⟨_, e1, ⟨p, _, _, rfl, e2⟩, hb _ _ h1 S0 H0 A0 S H [] [] σ _ rfl o fun u S1 H1 x1 r1 => ?_⟩
      have o1 := o.ext x1
      cases r1
      obtain ⟨p', e1', e2'⟩ := si_get (τσ := []) (τρ := []) rfl o1 ht
      rw [e1] at e1'
      cases e1'
      refine ⟨p, k, _, _, rfl, rfl, e2', by unfold scanBound; omega, ?_⟩
      rw [si_fun, si_len]
      have o2 : Ok S0 H0 A0 S1 (upd H1 p (SetO kf.w p (fun j => decide (j ∈ if k ∈ ms then ms else ms ++ [k])) (if k ∈ ms then ms else ms ++ [k]).length)) σ (ρ.set i (.si (if k ∈ ms then ms else ms ++ [k]))) := by
        obtain ⟨v, ev, oo⟩ := o1.lift ht
        rw [e1] at ev
        cases ev
        have := oo.si_put (ms' := if k ∈ ms then ms else ms ++ [k])
        have := this.store i
        rw [List.set_set] at this
        have es : σ.set i (some (.ref p)) = σ := by
          refine List.ext_getElem? fun j => ?_
          rw [List.getElem?_set]
          split
          · rename_i z; subst z
            split
            · exact e1.symm
            · rename_i z; rw [List.getElem?_eq_none (by omega)] at e1; cases e1
          · rfl
        rwa [es] at this
      exact kk S1 _ σ x1.ss hx o2
    · cases h2
  · cases h2
end
end MR
/-! MR: {k: v for ..} by whole numbers or texts; k in d of such a dict -/
namespace MR
open PySem L2 PL
def mDcK (vs : List Nat) (step : D → Env → Option (D × D × Env)) : List D → List Key × List OT → Env → Option ((List Key × List OT) × Env)
  | [], acc, ρ => some (acc, ρ)
  | x :: xs, acc, ρ => match step x ρ with
    | some (d, v, ρ') => match keyK d with
      | some k => if flat v then mDcK vs step xs (putKO acc.1 acc.2 k (.d v)) (wipeE ρ' vs) else Option.none
      | Option.none => Option.none
    | Option.none => Option.none
def yDcK (vs : List Nat) (it : Lm) (g : Gm) (k v : Rm) : Ym := fun ρ => (it ρ).bind fun p => if calmAt p.2 vs && decide (p.1.length ≤ 1000000) then
  match mDcK vs (dcStep g k v) p.1 ([], []) (wipeE p.2 vs) with
  | some (a, ρ2) => some (.nd (.dK a.1) a.2, rst ρ2 p.2 vs)
  | Option.none => Option.none
  else Option.none
def rInK (neg : Bool) (a : Rm) (i : Nat) : Rm := fun ρ => (a ρ).bind fun d => (keyK d).bind fun k => match ρ[i]? with
  | some (.nd (.dK ks) ts) => if ks.length = ts.length then some (.bool (if neg then !(ks.any fun x => decide (x = k)) else ks.any fun x => decide (x = k))) else Option.none
  | _ => Option.none
theorem putKO_len {ks : List Key} {ts : List OT} {k : Key} {v : OT} (h : ks.length = ts.length) : (putKO ks ts k v).1.length = (putKO ks ts k v).2.length ∧ (putKO ks ts k v).1.length ≤ ks.length + 1 := by
  unfold putKO
  split
  · simp; omega
  · simp; omega
variable [kf : KF] [wx : WXI]
theorem c_dcK {wi : TI} {lm : Lm} {g : TG} {gm : Gm} {is vs : List Nat} {tk tv : TE} {k v : Rm} (hi : CI wi lm) (hg : CG g gm is) (hjs : ∀ j ∈ is, j ∈ vs) (hk : CR tk k) (hv : CR tv v) : CY (tDc wi g tYes tk tv vs) (yDcK vs lm gm k v) := fun ρ r ρ' h => by
  simp only [yDcK, Option.bind_eq_some_iff] at h
  obtain ⟨⟨ds, ρ1⟩, h1, h2⟩ := h
  split at h2
  · rename_i hcz
    simp only [Bool.and_eq_true, decide_eq_true_eq] at hcz
    obtain ⟨hc, hz⟩ := hcz
    split at h2
    · rename_i acc ρ2 hf
      cases h2
      refine fun S0 H0 A0 S H τσ τρ σ Q l o q => hi _ _ _ h1 S0 H0 A0 S H τσ τρ σ _ l o fun J S1 H1 ss1 o1 hJ Dl hD => ?_
      have lσ : σ.length = ρ1.length := by have := o1.len; simp at this; omega
      have start : Ok S0 H0 A0 S1 (upd H1 Dl (.dK [])) (some (.ref Dl) :: (τσ ++ L2.wipe σ vs)) (.nd (.dK []) [] :: (τρ ++ wipeE ρ1 vs)) := by
        obtain ⟨B, h1, h2, h3⟩ := (o1.wipe l vs).env
        exact Ok.node (k := .dK []) (vs := []) (rs := []) (B := []) o1.xt .nil h1 (by simpa using h2) (by simpa using h3) hD rfl
      refine ⟨fun i m H' => m = ds.length - i ∧ i ≤ ds.length ∧ ∃ S' acc' ρi, Same S1 S' ∧ Ok S0 H0 A0 S' H' (some (.ref Dl) :: (τσ ++ L2.wipe σ vs)) (.nd (.dK acc'.1) acc'.2 :: (τρ ++ ρi)) ∧ mDcK vs (dcStep gm k v) (ds.drop i) acc' ρi = some (acc, ρ2) ∧ acc'.1.length = acc'.2.length ∧ acc'.1.length ≤ i,
        ⟨_, rfl, Nat.zero_le _, S1, ([], []), _, Same.refl _, start, hf, rfl, Nat.le_refl _⟩, ?_⟩
      rintro i m H' ⟨rfl, hi, S', acc', ρi, s1, o', hf', hl1, hl2⟩
      obtain ⟨st, go⟩ := hJ S' H' s1 o'.sh
      by_cases hl : i < ds.length
      · obtain ⟨g1, g2⟩ := go i ds[i] (List.getElem?_eq_getElem hl)
        rw [List.drop_eq_getElem_cons hl] at hf'
        unfold mDcK at hf'
        cases hst : dcStep gm k v ds[i] ρi with
        | none => rw [hst] at hf'; cases hf'
        | some p =>
          obtain ⟨d, e, ρm⟩ := p
          rw [hst] at hf'
          simp only [] at hf'
          cases hkey : keyK d with
          | none => rw [hkey] at hf'; cases hf'
          | some key =>
            rw [hkey] at hf'
            simp only [] at hf'
            split at hf'
            · rename_i hfl
              simp only [dcStep, Option.bind_eq_some_iff, Option.map_eq_some_iff] at hst
              obtain ⟨ρm', k1, d', k2, e', k3, k4⟩ := hst
              cases k4
              refine .inr ⟨g1, fun H2 => ∃ S2, Same S1 S2 ∧ Ok S0 H0 A0 S2 H2 (some (.ref Dl) :: (τσ ++ L2.wipe σ vs)) (.nd (.dK (putKO acc'.1 acc'.2 key (.d e)).1) (putKO acc'.1 acc'.2 key (.d e)).2 :: (τρ ++ wipeE ρm vs)),
                fun H2 ⟨S2, b1, b2⟩ => ⟨_, by omega, rfl, hl, S2, putKO acc'.1 acc'.2 key (.d e), _, b1, b2, hf', (putKO_len hl1).1, by have := (putKO_len (k := key) (v := .d e) hl1).2; omega⟩, fun w H2 hy => ?_⟩
              obtain ⟨S2, x2, hv2⟩ := g2 w H2 hy
              have o2 := o'.ext x2
              refine hg _ _ _ k1 S0 H0 A0 S2 H2 (some (.ref Dl) :: τσ) (.nd (.dK acc'.1) acc'.2 :: τρ) (L2.wipe σ vs) _ w (by simp [l]) o2 hv2 fun σ3 o3 l3 k3' => ?_
              have we : L2.wipe σ3 vs = L2.wipe σ vs := wipe_eq l3 fun k hk => k3' k fun z => hk (hjs k z)
              show L2.wipe σ3 vs = L2.wipe σ vs ∧ tYes σ3 _ _
              refine ⟨we, ?_⟩
              unfold tYes
              show (if (true : Bool) = true then _ else _)
              rw [if_pos rfl]
              refine hk _ _ k2 S0 H0 A0 S2 H2 (some (.ref Dl) :: τσ) (.nd (.dK acc'.1) acc'.2 :: τρ) σ3 _ (by simp [l]) o3 fun y S3 H3 x3 r3 => ?_
              have o4 := o3.ext x3
              refine hv _ _ k3 S0 H0 A0 S3 H3 (some (.ref Dl) :: τσ) (.nd (.dK acc'.1) acc'.2 :: τρ) σ3 _ (by simp [l]) o4 fun z S4 H4 x4 r4 => ?_
              have o5 := o4.ext x4
              have ek := rp_keyK hkey r3
              obtain ⟨a, kvs, ea, f2, f3, o6⟩ := Ok.dputK (i := 0) (k := key) o5 rfl hl1 hfl (dp_flat hfl r4)
              cases ea
              have o7 := Ok.wipe (τσ := some (.ref Dl) :: τσ) (τρ := .nd (.dK (putKO acc'.1 acc'.2 key (.d e)).1) (putKO acc'.1 acc'.2 key (.d e)).2 :: τρ) (by simp [l]) o6 vs
              rw [we] at o7
              exact ⟨kvs, key, ek, f2, sz_lt (by omega), S4, s1.trans (x2.ss.trans (x3.ss.trans x4.ss)), o7⟩
            · cases hf'
      · have e : i = ds.length := by omega
        subst e
        rw [List.drop_length] at hf'
        simp only [mDcK, Option.some.injEq, Prod.mk.injEq] at hf'
        obtain ⟨rfl, rfl⟩ := hf'
        refine .inl ⟨st, q _ S' H' (ss1.trans s1) ?_⟩
        have := Ok.restore (τσ := some (.ref Dl) :: τσ) (τρ := .nd (.dK acc'.1) acc'.2 :: τρ) (σ0 := σ) (ρ0 := ρ1) (ρe := ρi) (by simp [l]) l o1 s1 vs (L2.wipe σ vs) hc o' lσ
        rw [rst_wipe] at this
        exact this
    · cases h2
  · cases h2
theorem valV_mem (k : Key) : ∀ {ks : List Key} {vs : List V}, ks.length = vs.length → (valV (ks.zip vs) k).isSome = ks.any fun x => decide (x = k)
  | [], _, _ => by simp [valV]
  | k' :: ks, [], h => by simp at h
  | k' :: ks, v :: vs, h => by
    have ih := valV_mem k (ks := ks) (vs := vs) (by simpa using h)
    unfold valV at ih ⊢
    rw [List.zip_cons_cons, List.find?_cons]
    by_cases z : k' = k
    · simp [z]
    · simp only [z, decide_false, List.any_cons, Bool.false_or]
      exact ih
section
variable {ta : TE} {a : Rm} {i : Nat}
theorem inK_get {S0 H0 S H : Hp} {A0 : List Addr} {τσ σ : List (Option V)} {τρ ρ : List OT} {ks : List Key} {ts : List OT} {k : Key} (l : τσ.length = τρ.length) (o : Ok S0 H0 A0 S H (τσ ++ σ) (τρ ++ ρ)) (ht : ρ[i]? = some (.nd (.dK ks) ts)) (hl : ks.length = ts.length) :
    ∃ p r', σ[i]? = some (some (.ref p)) ∧ DGet H p (kV k) r' ∧ r'.isSome = ks.any fun x => decide (x = k) := by
  obtain ⟨v, A, e1, e2⟩ := o.slot l ht (by intro z; cases z)
  obtain ⟨p, vs, B, rfl, rfl, g1, g2, g3, g4⟩ := e2.inv_nd rfl
  have g3' : H p = some (.dK (ks.zip vs)) := g3
  exact ⟨p, _, e1, DGet.k (k := k) g3', valV_mem k (by rw [g4.len]; exact hl)⟩
theorem c_inK (ha : CR ta a) : CR (tDIn ta (tVar i)) (rInK false a i) := fun ρ x h => by
  simp only [rInK, Option.bind_eq_some_iff] at h
  obtain ⟨d, h1, k, h2, h3⟩ := h
  split at h3
  · rename_i ks ts ht
    split at h3
    · rename_i hl
      cases h3
      refine fun S0 H0 A0 S H τσ τρ σ Q l o q => ha _ _ h1 S0 H0 A0 S H τσ τρ σ _ l o fun u S1 H1 x1 r1 => ?_
      have := rp_keyK h2 r1
      subst this
      obtain ⟨ad, r', e1, g1, g2⟩ := inK_get (k := k) l (o.ext x1) ht hl
      exact ⟨_, e1, ad, r', rfl, g1, by rw [g2]; exact q _ S1 H1 x1 (.bl _)⟩
    · cases h3
  · cases h3
end
end MR
namespace z06
open PySem L2 PL MR SA SH SQ
/-- _law_pieces: 0 _law_web_here 1 _law_beside_here 2 _law_found 3 _law_place 4 _law_leads 5 _law_piece 6 _law_other -/
noncomputable def B__law_pieces : Sm :=
 (sSeq (sAsg 1 (yCallA SA.m__law_beside 1 (qCons (rVar 0) qNil) (lCons (dY (yVar 0)) lNil)))
 (sSeq (sAsg 2 (yLst oNil))
 (sSeq (sFor (iR1 (lCons (dY (yAuto (rOp gIxT (rVar 0) (rC (.int 0))) (yD (dOpR gIxT (dY (yVar 0)) (rC (.int 0)))))) lNil)) (gmName 3)
 (sSeq (sAsg 4 (yCallA SA.m__law_far 2 (qCons (rVar 1) (qCons (rVar 3) qNil)) (lCons (dY (yVar 1)) (lCons (dY (yVar 3)) lNil))))
 (sSeq (sAsg 5 (yLc [6] (iR1 (lCons (dY (yAuto (rOp gIxT (rVar 0) (rC (.int 0))) (yD (dOpR gIxT (dY (yVar 0)) (rC (.int 0)))))) lNil)) (gmName 6) (tR (bR (rOp gNotN (rOp gIxL (rVar 4) (rVar 6)) (rC .none)))) (yVar 6)))
 (sIf (tR (bR (rOp gEqI (rOp gIxL (rVar 5) (rC (.int 0))) (rVar 3))))
 (sApp 2 (yVar 5))
 sNext))))
 (sRet (yMov 2)))))
noncomputable def m__law_pieces : List D → Option OT := fun ds => fin (B__law_pieces (ini ds 6))
/-- reached_from: 0 beside 1 place 2 there 3 steps -/
noncomputable def B_reached_from : Sm :=
 (sRet (yLc [2, 3] (iE (lCons (dY (yCallA SH.m_far_from 2 (qCons (rVar 0) (qCons (rVar 1) qNil)) (lCons (dY (yVar 0)) (lCons (dY (yVar 1)) lNil)))) lNil)) (gmTup (gsCons (gmName 2) (gsCons (gmName 3) gsNil))) (tR (bR (rOp gNotN (rVar 3) (rC .none)))) (yVar 2)))
noncomputable def m_reached_from : List D → Option OT := fun ds => fin (B_reached_from (ini ds 2))
/-- pieces_by: 0 beside 1 seen 2 found 3 start 4 piece 5 place -/
noncomputable def B_pieces_by : Sm :=
 (sSeq (sAsg 1 ySet0)
 (sSeq (sAsg 2 (yLst oNil))
 (sSeq (sFor (iR1 (lCons (dR (rCb gLen (qCons (rVar 0) qNil))) lNil)) (gmName 3)
 (sIf (tR (bR (rInS true (rVar 3) 1)))
 (sSeq (sAsg 4 (yCallA m_reached_from 2 (qCons (rVar 0) (qCons (rVar 3) qNil)) (lCons (dY (yVar 0)) (lCons (dY (yVar 3)) lNil))))
 (sSeq (sForW 4 5
 (sSAdd 1 (rVar 5)))
 (sApp 2 (yMov 4))))
 sNext))
 (sRet (yMov 2)))))
noncomputable def m_pieces_by : List D → Option OT := fun ds => fin (B_pieces_by (ini ds 5))
/-- pieces: 0 web -/
noncomputable def B_pieces : Sm :=
 (sSeq (sDrop (yCallA SH.m_look_at_web 1 (qCons (rVar 0) qNil) (lCons (dY (yVar 0)) lNil)))
 (sRet (yCallA m_pieces_by 1 (qCons (rCall SH.m_beside_all 1 (qCons (rVar 0) qNil)) qNil) (lCons (dY (yCallA SH.m_beside_all 1 (qCons (rVar 0) qNil) (lCons (dY (yVar 0)) lNil))) lNil))))
noncomputable def m_pieces : List D → Option OT := fun ds => fin (B_pieces (ini ds 0))
/-- hangs_together: 0 web -/
noncomputable def B_hangs_together : Sm :=
 (sSeq (sDrop (yCallA SH.m_look_at_web 1 (qCons (rVar 0) qNil) (lCons (dY (yVar 0)) lNil)))
 (sRet (yCallA SH.m_hangs 1 (qCons (rVar 0) qNil) (lCons (dY (yVar 0)) lNil))))
noncomputable def m_hangs_together : List D → Option OT := fun ds => fin (B_hangs_together (ini ds 0))
/-- _law_pieces_right: 0 _law_web_here 1 _law_due 2 _law_found 3 _law_k 4 _law_told -/
noncomputable def B__law_pieces_right : Sm :=
 (sSeq (sAsg 2 (yCallA m_pieces 1 (qCons (rVar 0) qNil) (lCons (dY (yVar 0)) lNil)))
 (sSeq (sIf (tR (bOr (bNot (bR (rIs "list" (rVar 2)))) (bR (rOp gNeS (rRepr (rVar 2)) (rRepr (rVar 1))))))
 (sRet (yR (rC (.bool false))))
 sNext)
 (sSeq (sFor (iR1 (lCons (dR (rCb gLen (qCons (rVar 2) qNil))) lNil)) (gmName 3)
 (sSeq (sAppP 2 (pmIx (pmVar 2) (rVar 3)) (fR (rC .none)))
 (sIf (tR (bR (rOp gNeD (rSl (rVar 2) (cSome (rOp gAdd (rVar 3) (rC (.int 1)))) cNone) (rSl (rVar 1) (cSome (rOp gAdd (rVar 3) (rC (.int 1)))) cNone))))
 (sRet (yR (rC (.bool false))))
 sNext)))
 (sSeq (sClrP 2 (pmVar 2))
 (sSeq (sAsg 4 (yCallA m_hangs_together 1 (qCons (rVar 0) qNil) (lCons (dY (yVar 0)) lNil)))
 (sRet (yR (rAnd (rOp gEqD (rCall m_pieces 1 (qCons (rVar 0) qNil)) (rVar 1)) (rAnd (rIs "bool" (rVar 4)) (rOp gEqI (rVar 4) (rOp gEqI (rCb gLen (qCons (rVar 1) qNil)) (rC (.int 1)))))))))))))
noncomputable def m__law_pieces_right : List D → Option OT := fun ds => fin (B__law_pieces_right (ini ds 3))
/-- _law_lists: 0 _law_script 1 _law_k 2 _law_many 3 _law_found 4 _law_turn 5 _law_cell 6 _law_digits 7 _law_listed 8 _law_place -/
noncomputable def B__law_lists : Sm :=
 (sSeq (sAsg 3 (yLst oNil))
 (sSeq (sFor (iR1 (lCons (dR (rC (.int 4))) lNil)) (gmName 4)
 (sSeq (sAsg 5 (yCallA SQ.m__law_cell_at 2 (qCons (rVar 0) (qCons (rOp gAdd (rOp gMul (rC (.int 2)) (rVar 1)) (rOp gMod (rVar 4) (rC (.int 2)))) qNil)) (lCons (dY (yVar 0)) (lCons (dR (rOp gAdd (rOp gMul (rC (.int 2)) (rVar 1)) (rOp gMod (rVar 4) (rC (.int 2))))) lNil))))
 (sSeq (sAsg 6 (yCall SQ.m__law_numbers 3 (lCons (dY (yVar 5)) (lCons (dR (rOp gAdd (rOp gAdd (rC (.int 1700)) (rOp gMul (rC (.int 4)) (rVar 1))) (rVar 4))) (lCons (dY (yOp GCat (dY (yLst (oCons (yVar 2) oNil))) (dY (yRep (yLst (oCons (yR (rOp gAdd (rC (.int 2)) (rVar 4))) oNil)) (rVar 2))))) lNil)))))
 (sSeq (sAsg 7 (yLc [8] (iR1 (lCons (dY (yVar 2)) lNil)) (gmName 8) (tR (bR (rOp gEqI (rOp gIxL (rVar 6) (rOp gAdd (rC (.int 1)) (rVar 8))) (rC (.int 0))))) (yVar 8)))
 (sApp 3 (yAuto (rOp gIxL (rLst (qCons (rVar 7) (qCons (rLst (qCons (rOp gIxL (rVar 6) (rC (.int 0))) qNil)) qNil))) (rCb gInt (qCons (rOp gEqD (rVar 7) (rLst qNil)) qNil))) (yD (dOpR gIxL (dY (yLst (oCons (yVar 7) (oCons (yLst (oCons (yAuto (rOp gIxL (rVar 6) (rC (.int 0))) (yD (dOpR gIxL (dY (yVar 6)) (rC (.int 0))))) oNil)) oNil)))) (rCb gInt (qCons (rOp gEqD (rVar 7) (rLst qNil)) qNil))))))))))
 (sRet (yOp GCat (dY (yVar 3)) (dY (yLst (oCons (yRng1 (dY (yVar 2))) oNil)))))))
noncomputable def m__law_lists : List D → Option OT := fun ds => fin (B__law_lists (ini ds 6))
/-- are_rising: 0 web 1 thing 2 place 3 at -/
noncomputable def B_are_rising : Sm :=
 (sSeq (sIf (tR (bOr (bNot (bR (rIs "list" (rVar 1)))) (bNot (bList (rVar 1)))))
 (sRet (yR (rC (.bool false))))
 sNext)
 (sSeq (sIf (tmNot (tD (dCb gAll (lCons (dY (yLc [2] (iL (dY (yVar 1))) (gmName 2) (fun ρ => some (true, ρ)) (yCallA SH.m_is_place 2 (qCons (rOp gIxT (rVar 0) (rC (.int 0))) (qCons (rVar 2) qNil)) (lCons (dY (yAuto (rOp gIxT (rVar 0) (rC (.int 0))) (yD (dOpR gIxT (dY (yVar 0)) (rC (.int 0)))))) (lCons (dY (yVar 2)) lNil))))) lNil))))
 (sRet (yR (rC (.bool false))))
 sNext)
 (sRet (yD (dCb gAll (lCons (dY (yLc [3] (iR2 (lCons (dR (rC (.int 1))) (lCons (dR (rCb gLen (qCons (rVar 1) qNil))) lNil))) (gmName 3) (fun ρ => some (true, ρ)) (yR (rOp gLt (rOp gIxL (rVar 1) (rOp gSub (rVar 3) (rC (.int 1)))) (rOp gIxL (rVar 1) (rVar 3)))))) lNil))))))
noncomputable def m_are_rising : List D → Option OT := fun ds => fin (B_are_rising (ini ds 2))
/-- web_within: 0 ties 1 places 2 numbers 3 at 4 place 5 one 6 other -/
noncomputable def B_web_within : Sm :=
 (sSeq (sAsg 2 (yDcK [3, 4] (iE (lCons (dY (yVar 1)) lNil)) (gmTup (gsCons (gmName 3) (gsCons (gmName 4) gsNil))) (rVar 4) (rVar 3)))
 (sRet (yTup (oCons (yR (rCb gLen (qCons (rVar 1) qNil))) (oCons (yLc [5, 6] (iL (dY (yVar 0))) (gmTup (gsCons (gmName 5) (gsCons (gmName 6) gsNil))) (tR (bAnd (bR (rInK false (rVar 5) 2)) (bR (rInK false (rVar 6) 2)))) (yTup (oCons (yR (rIxK 2 (rVar 5))) (oCons (yR (rIxK 2 (rVar 6))) oNil)))) oNil)))))
noncomputable def m_web_within : List D → Option OT := fun ds => fin (B_web_within (ini ds 5))
/-- within: 0 web 1 places -/
noncomputable def B_within : Sm :=
 (sSeq (sDrop (yCallA SH.m_look_at_web 1 (qCons (rVar 0) qNil) (lCons (dY (yVar 0)) lNil)))
 (sSeq (sIf (tR (bNot (bR (rCall m_are_rising 2 (qCons (rVar 0) (qCons (rVar 1) qNil))))))
 sNever
 sNext)
 (sRet (yCallA m_web_within 2 (qCons (rOp gIxT (rVar 0) (rC (.int 1))) (qCons (rVar 1) qNil)) (lCons (dY (yAuto (rOp gIxT (rVar 0) (rC (.int 1))) (yD (dOpR gIxT (dY (yVar 0)) (rC (.int 1)))))) (lCons (dY (yVar 1)) lNil))))))
noncomputable def m_within : List D → Option OT := fun ds => fin (B_within (ini ds 0))
/-- _law_whole: 0 _law_thing -/
noncomputable def B__law_whole : Sm :=
 (sRet (yR (rAnd (rIs "int" (rVar 0)) (rNot (rIs "bool" (rVar 0))))))
noncomputable def m__law_whole : List D → Option OT := fun ds => fin (B__law_whole (ini ds 0))
/-- _law_within: 0 _law_web_here 1 _law_listed 2 _law_ties 3 _law_one 4 _law_other -/
noncomputable def B__law_within : Sm :=
 (sSeq (sAsg 2 (yLst oNil))
 (sSeq (sFor (iL (dY (yAuto (rOp gIxT (rVar 0) (rC (.int 1))) (yD (dOpR gIxT (dY (yVar 0)) (rC (.int 1))))))) (gmTup (gsCons (gmName 3) (gsCons (gmName 4) gsNil)))
 (sIf (tR (bAnd (bR (rOp (gInI false) (rVar 3) (rVar 1))) (bR (rOp (gInI false) (rVar 4) (rVar 1)))))
 (sApp 2 (yTup (oCons (yR (rIdx (rVar 1) (rVar 3))) (oCons (yR (rIdx (rVar 1) (rVar 4))) oNil))))
 sNext))
 (sRet (yTup (oCons (yR (rCb gLen (qCons (rVar 1) qNil))) (oCons (yCbA GSortA (qCons (rVar 2) qNil) (lCons (dY (yVar 2)) lNil)) oNil))))))
noncomputable def m__law_within : List D → Option OT := fun ds => fin (B__law_within (ini ds 3))
/-- _law_within_right: 0 _law_web_here 1 _law_listed 2 _law_handed 3 _law_found -/
noncomputable def B__law_within_right : Sm :=
 (sSeq (sAsg 2 (yCbA GList (qCons (rVar 1) qNil) (lCons (dY (yVar 1)) lNil)))
 (sSeq (sAsg 3 (yCallA m_within 2 (qCons (rVar 0) (qCons (rVar 2) qNil)) (lCons (dY (yVar 0)) (lCons (dY (yVar 2)) lNil))))
 (sSeq (sIf (tR (bOr (bNot (bR (rIs "tuple" (rVar 3)))) (bOr (bR (rOp gNeI (rCb gLen (qCons (rVar 3) qNil)) (rC (.int 2)))) (bOr (bNot (bR (rCall m__law_whole 1 (qCons (rOp gIxT (rVar 3) (rC (.int 0))) qNil)))) (bNot (bR (rIs "list" (rOp gIxT (rVar 3) (rC (.int 1))))))))))
 (sRet (yR (rC (.bool false))))
 sNext)
 (sSeq (sIf (tR (bOr (bR (rOp gNeS (rRepr (rVar 3)) (rRepr (rCall m__law_within 2 (qCons (rVar 0) (qCons (rVar 1) qNil)))))) (bR (rOp gNeD (rVar 2) (rVar 1)))))
 (sRet (yR (rC (.bool false))))
 sNext)
 (sSeq (sAppP 3 (pmIxT (pmVar 3) (rC (.int 1))) (fR (rC .none)))
 (sRet (yR (rOp gEqD (rCall m_within 2 (qApp 1 1 (qCons (rVar 0) qNil) (qCons (rVar 2) qNil))) (rCall m__law_within 2 (qCons (rVar 0) (qCons (rVar 1) qNil)))))))))))
noncomputable def m__law_within_right : List D → Option OT := fun ds => fin (B__law_within_right (ini ds 2))
/-- law: 0 _law_script 1 _law_k 2 _law_web_here 3 _law_handed 4 _law_due 5 _law_listed -/
noncomputable def B_law : Sm :=
 (sSeq (sFor (iR1 (lCons (dR (rCb gMax2 (qCons (rC (.int 1)) (qCons (rOp gDiv (rOp gAdd (rCb gMin2 (qCons (rCb gLen (qCons (rVar 0) qNil)) (qCons (rC (.int 32)) qNil))) (rC (.int 1))) (rC (.int 2))) qNil)))) lNil)) (gmName 1)
 (sSeq (sAsg 2 (yCallA SA.m__law_any_web 3 (qCons (rVar 0) (qCons (rVar 1) (qCons (rOp gAdd (rC (.int 1800)) (rOp gMul (rC (.int 2)) (rVar 1))) qNil))) (lCons (dY (yVar 0)) (lCons (dY (yVar 1)) (lCons (dR (rOp gAdd (rC (.int 1800)) (rOp gMul (rC (.int 2)) (rVar 1)))) lNil)))))
 (sSeq (sAsg 3 (yTup (oCons (yAuto (rOp gIxT (rVar 2) (rC (.int 0))) (yD (dOpR gIxT (dY (yVar 2)) (rC (.int 0))))) (oCons (yCbA GList (qCons (rOp gIxT (rVar 2) (rC (.int 1))) qNil) (lCons (dY (yAuto (rOp gIxT (rVar 2) (rC (.int 1))) (yD (dOpR gIxT (dY (yVar 2)) (rC (.int 1)))))) lNil)) oNil))))
 (sSeq (sAsg 4 (yCallA m__law_pieces 1 (qCons (rVar 2) qNil) (lCons (dY (yVar 2)) lNil)))
 (sSeq (sIf (tR (bNot (bR (rCall m__law_pieces_right 2 (qCons (rVar 3) (qCons (rVar 4) qNil))))))
 (sRet (yR (rC (.bool false))))
 sNext)
 (sSeq (sFor (iL (dY (yOpA GCat (rCall m__law_lists 3 (qCons (rVar 0) (qCons (rVar 1) (qCons (rOp gIxT (rVar 2) (rC (.int 0))) qNil)))) (rSl (rVar 4) cNone (cSome (rC (.int 4)))) (dY (yCallA m__law_lists 3 (qCons (rVar 0) (qCons (rVar 1) (qCons (rOp gIxT (rVar 2) (rC (.int 0))) qNil))) (lCons (dY (yVar 0)) (lCons (dY (yVar 1)) (lCons (dY (yAuto (rOp gIxT (rVar 2) (rC (.int 0))) (yD (dOpR gIxT (dY (yVar 2)) (rC (.int 0)))))) lNil))))) (dY (ySlA (rVar 4) (dY (yVar 4)) cNone (cSome (rC (.int 4)))))))) (gmName 5)
 (sIf (tR (bNot (bR (rCall m__law_within_right 2 (qCons (rVar 3) (qCons (rVar 5) qNil))))))
 (sRet (yR (rC (.bool false))))
 sNext))
 (sIf (tR (bR (rOp gNeD (rVar 3) (rVar 2))))
 (sRet (yR (rC (.bool false))))
 sNext)))))))
 (sRet (yR (rAnd (rOp gEqD (rCall m_pieces 1 (qCons (rTup (qCons (rC (.int 2)) (qCons (rLst qNil) qNil))) qNil)) (rLst (qCons (rLst (qCons (rC (.int 0)) qNil)) (qCons (rLst (qCons (rC (.int 1)) qNil)) qNil)))) (rAnd (rOp gIsB (rCall m_hangs_together 1 (qCons (rTup (qCons (rC (.int 1)) (qCons (rLst qNil) qNil))) qNil)) (rC (.bool true))) (rOp gEqD (rCall m_within 2 (qCons (rTup (qCons (rC (.int 3)) (qCons (rLst (qCons (rTup (qCons (rC (.int 0)) (qCons (rC (.int 2)) qNil))) qNil)) qNil))) (qCons (rLst (qCons (rC (.int 2)) qNil)) qNil))) (rTup (qCons (rC (.int 1)) (qCons (rLst qNil) qNil)))))))))
noncomputable def m_law : List D → Option OT := fun ds => fin (B_law (ini ds 5))
end z06
namespace z06
open PySem L2 PL
local macro_rules | `(tactic| walk_at "sd") => `(tactic| first | rfl | assumption | omega | decide)
open PySem L2 PL MR SA SH SQ
def topS (i : Nat) : Stmt := PySem.Challenge.pw_webtimes_k06_pieces_and_parts.main.body.getD i (.Pass ⟨0, 0, 0, 0⟩)
abbrev s__law_cell_at : Stmt := topS 24
theorem sc__law_cell_at : FnScope ["_law_script", "_law_k"] ["_law_script", "_law_k"] (defScope s__law_cell_at) := ⟨rfl, rfl, rfl, by decide +kernel, rfl, by decide +kernel, by decide +kernel⟩
abbrev s__law_numbers : Stmt := topS 25
theorem sc__law_numbers : FnScope ["_law_cell", "_law_salt", "_law_sizes", "_law_number", "_law_left", "_law_found", "_law_k", "_law_one"] ["_law_cell", "_law_salt", "_law_sizes"] (defScope s__law_numbers) := ⟨rfl, rfl, rfl, by decide +kernel, rfl, by decide +kernel, by decide +kernel⟩
abbrev s__law_web : Stmt := topS 26
theorem sc__law_web : FnScope ["_law_cell", "_law_salt", "_law_most", "_law_more", "_law_many", "_law_sizes", "_law_k", "_law_digits", "_law_names", "_law_order", "_law_pairs", "_law_digit", "_law_ties", "_law_one", "_law_other"] ["_law_cell", "_law_salt", "_law_most", "_law_more"] (defScope s__law_web) := ⟨rfl, rfl, rfl, by decide +kernel, rfl, by decide +kernel, by decide +kernel⟩
abbrev s__law_any_web : Stmt := topS 27
theorem sc__law_any_web : FnScope ["_law_script", "_law_k", "_law_salt", "_law_other", "_law_head", "_law_most", "_law_more", "_law_many", "_law_ties", "_law_drops", "_law_tie", "_law_drop"] ["_law_script", "_law_k", "_law_salt"] (defScope s__law_any_web) := ⟨rfl, rfl, rfl, by decide +kernel, rfl, by decide +kernel, by decide +kernel⟩
abbrev s__law_beside : Stmt := topS 28
theorem sc__law_beside : FnScope ["_law_web_here", "_law_found", "_law_place", "_law_one", "_law_other", "_law_listed"] ["_law_web_here"] (defScope s__law_beside) := ⟨rfl, rfl, rfl, by decide +kernel, rfl, by decide +kernel, by decide +kernel⟩
abbrev s__law_far : Stmt := topS 29
theorem sc__law_far : FnScope ["_law_beside_here", "_law_place", "_law_found", "_law_row", "_law_at", "_law_other"] ["_law_beside_here", "_law_place"] (defScope s__law_far) := ⟨rfl, rfl, rfl, by decide +kernel, rfl, by decide +kernel, by decide +kernel⟩
abbrev s__law_pieces : Stmt := topS 31
theorem sc__law_pieces : FnScope ["_law_web_here", "_law_beside_here", "_law_found", "_law_place", "_law_leads", "_law_piece", "_law_other"] ["_law_web_here"] (defScope s__law_pieces) := ⟨rfl, rfl, rfl, by decide +kernel, rfl, by decide +kernel, by decide +kernel⟩
abbrev s_is_whole : Stmt := topS 7
theorem sc_is_whole : FnScope ["thing"] ["thing"] (defScope s_is_whole) := ⟨rfl, rfl, rfl, by decide +kernel, rfl, by decide +kernel, by decide +kernel⟩
abbrev s_joins_places : Stmt := topS 9
theorem sc_joins_places : FnScope ["many", "thing", "one", "other"] ["many", "thing"] (defScope s_joins_places) := ⟨rfl, rfl, rfl, by decide +kernel, rfl, by decide +kernel, by decide +kernel⟩
abbrev s_web_fault : Stmt := topS 10
theorem sc_web_fault : FnScope ["thing", "many", "ties", "at", "tie"] ["thing"] (defScope s_web_fault) := ⟨rfl, rfl, rfl, by decide +kernel, rfl, by decide +kernel, by decide +kernel⟩
abbrev s_look_at_web : Stmt := topS 11
theorem sc_look_at_web : FnScope ["thing", "fault", "part", "number"] ["thing"] (defScope s_look_at_web) := ⟨rfl, rfl, rfl, by decide +kernel, rfl, by decide +kernel, by decide +kernel⟩
abbrev s_far_from : Stmt := topS 14
theorem sc_far_from : FnScope ["beside", "place", "far", "_", "steps", "ring", "next_ring", "here", "there"] ["beside", "place"] (defScope s_far_from) := ⟨rfl, rfl, rfl, by decide +kernel, rfl, by decide +kernel, by decide +kernel⟩
abbrev s_reached_from : Stmt := topS 17
theorem sc_reached_from : FnScope ["beside", "place", "there", "steps"] ["beside", "place"] (defScope s_reached_from) := ⟨rfl, rfl, rfl, by decide +kernel, rfl, by decide +kernel, by decide +kernel⟩
abbrev s_pieces_by : Stmt := topS 18
theorem sc_pieces_by : FnScope ["beside", "seen", "found", "start", "piece", "place"] ["beside"] (defScope s_pieces_by) := ⟨rfl, rfl, rfl, by decide +kernel, rfl, by decide +kernel, by decide +kernel⟩
abbrev s_beside_all : Stmt := topS 12
theorem sc_beside_all : FnScope ["web", "many", "ties", "beside", "_", "one", "other"] ["web"] (defScope s_beside_all) := ⟨rfl, rfl, rfl, by decide +kernel, rfl, by decide +kernel, by decide +kernel⟩
abbrev s_pieces : Stmt := topS 19
theorem sc_pieces : FnScope ["web"] ["web"] (defScope s_pieces) := ⟨rfl, rfl, rfl, by decide +kernel, rfl, by decide +kernel, by decide +kernel⟩
abbrev s_hangs : Stmt := topS 15
theorem sc_hangs : FnScope ["web"] ["web"] (defScope s_hangs) := ⟨rfl, rfl, rfl, by decide +kernel, rfl, by decide +kernel, by decide +kernel⟩
abbrev s_hangs_together : Stmt := topS 16
theorem sc_hangs_together : FnScope ["web"] ["web"] (defScope s_hangs_together) := ⟨rfl, rfl, rfl, by decide +kernel, rfl, by decide +kernel, by decide +kernel⟩
abbrev s__law_pieces_right : Stmt := topS 34
theorem sc__law_pieces_right : FnScope ["_law_web_here", "_law_due", "_law_found", "_law_k", "_law_told"] ["_law_web_here", "_law_due"] (defScope s__law_pieces_right) := ⟨rfl, rfl, rfl, by decide +kernel, rfl, by decide +kernel, by decide +kernel⟩
abbrev s__law_lists : Stmt := topS 35
theorem sc__law_lists : FnScope ["_law_script", "_law_k", "_law_many", "_law_found", "_law_turn", "_law_cell", "_law_digits", "_law_listed", "_law_place"] ["_law_script", "_law_k", "_law_many"] (defScope s__law_lists) := ⟨rfl, rfl, rfl, by decide +kernel, rfl, by decide +kernel, by decide +kernel⟩
abbrev s_is_place : Stmt := topS 8
theorem sc_is_place : FnScope ["many", "thing"] ["many", "thing"] (defScope s_is_place) := ⟨rfl, rfl, rfl, by decide +kernel, rfl, by decide +kernel, by decide +kernel⟩
abbrev s_are_rising : Stmt := topS 20
theorem sc_are_rising : FnScope ["web", "thing", "place", "at"] ["web", "thing"] (defScope s_are_rising) := ⟨rfl, rfl, rfl, by decide +kernel, rfl, by decide +kernel, by decide +kernel⟩
abbrev s_web_within : Stmt := topS 21
theorem sc_web_within : FnScope ["ties", "places", "numbers", "at", "place", "one", "other"] ["ties", "places"] (defScope s_web_within) := ⟨rfl, rfl, rfl, by decide +kernel, rfl, by decide +kernel, by decide +kernel⟩
abbrev s_within : Stmt := topS 22
theorem sc_within : FnScope ["web", "places"] ["web", "places"] (defScope s_within) := ⟨rfl, rfl, rfl, by decide +kernel, rfl, by decide +kernel, by decide +kernel⟩
abbrev s__law_whole : Stmt := topS 30
theorem sc__law_whole : FnScope ["_law_thing"] ["_law_thing"] (defScope s__law_whole) := ⟨rfl, rfl, rfl, by decide +kernel, rfl, by decide +kernel, by decide +kernel⟩
abbrev s__law_within : Stmt := topS 32
theorem sc__law_within : FnScope ["_law_web_here", "_law_listed", "_law_ties", "_law_one", "_law_other"] ["_law_web_here", "_law_listed"] (defScope s__law_within) := ⟨rfl, rfl, rfl, by decide +kernel, rfl, by decide +kernel, by decide +kernel⟩
abbrev s__law_within_right : Stmt := topS 33
theorem sc__law_within_right : FnScope ["_law_web_here", "_law_listed", "_law_handed", "_law_found"] ["_law_web_here", "_law_listed"] (defScope s__law_within_right) := ⟨rfl, rfl, rfl, by decide +kernel, rfl, by decide +kernel, by decide +kernel⟩
abbrev s_law : Stmt := topS 36
theorem sc_law : FnScope ["_law_script", "_law_k", "_law_web_here", "_law_handed", "_law_due", "_law_listed"] ["_law_script"] (defScope s_law) := ⟨rfl, rfl, rfl, by decide +kernel, rfl, by decide +kernel, by decide +kernel⟩
structure Bn (mg : Str → Option Value) : Prop where
  n_all : mg "all" = none
  n_bool : mg "bool" = none
  c_MOST_PLACES : ∃ t, mg "MOST_PLACES" = some (.int 40 t)
  c_MOST_TIES : ∃ t, mg "MOST_TIES" = some (.int 120 t)
  n_enumerate : mg "enumerate" = none
  n_int : mg "int" = none
  n_isinstance : mg "isinstance" = none
  n_len : mg "len" = none
  n_list : mg "list" = none
  n_max : mg "max" = none
  n_min : mg "min" = none
  n_range : mg "range" = none
  n_repr : mg "repr" = none
  n_set : mg "set" = none
  n_sorted : mg "sorted" = none
  n_tuple : mg "tuple" = none
  n_zip : mg "zip" = none
theorem k_within_places_mk {K : PySem.W.Frag} {a : Addr} {fd : FuncData} (F : Fun K "within" "within" s_within a fd) : KBinds K fd ["web", "places"] ["places"] (gApp 1 1) (gApp 1 1) := by
  obtain ⟨oc, od, kV, doc, pm, an, cdv, ct, osl, rfl, lk, hcd⟩ := F.ex
  refine ⟨fun s us ws _ hl => ?_, gApp_rel⟩
  obtain ⟨h1, h2⟩ := gApp_len (n := 1) hl
  match us, ws, h1, h2 with
  | [_], [_], _, _ => exact .of_eq rfl
end z06
namespace z06
open PySem L2 PL MR SA SH SQ
open PySem L2 PL
local macro_rules | `(tactic| walk_at "sd") => `(tactic| first | rfl | assumption | omega | decide)
section
variable {P : Program} [kf : KF] {mg : Str → Option Value} {base : Heap}
theorem ok__law_cell_at (B : Bn mg) (T : Tp kf.K mg "_law_cell_at" s__law_cell_at) : FnQ P kf.w kf.K mg base CX0 1 T.a T.fd ["_law_script", "_law_k"] (spP 2 SQ.m__law_cell_at) := by
  refine fnq_of T.F sc__law_cell_at (spP_len rfl) fun cdv A outer s H vs Q E hr hg h => ?_
  refine ⟨_, PSs.nox (pss_cons (ps_if (pt_cmpR op_lt (pv 1) (pe_callB (call_len_seqK (K := kf.K) rfl) (by rfl) B.n_len PySem.boot_len (pa_cons (pv 0) pa_nil)) (nomark _))
 (pss_one (ps_ret (pe_ix (ix_listK (K := kf.K) rfl) (pv 0) (pv 1) (fun _ _ => rfl))))
 pss_nil)
 (pss_one (ps_ret pe_int))), tie_plain (n := 2) (k := 0) (B := SQ.B__law_cell_at) rfl ?_ h⟩
  exact (c_seq (c_sif (c_tR (c_bR (c_op o_lt (c_var 1) (c_cb b_len (c_qcons (c_var 0) c_qnil)))))
 (c_ret (c_yauto (c_ix x_list (c_var 0) (c_var 1)) (c_yD (c_dixR x_list (c_dY (c_yvar 0)) (c_var 1)))))
 c_next)
 (c_ret (c_yR (c_c (v := .int 0) rfl))))
theorem ok__law_numbers (B : Bn mg) (T : Tp kf.K mg "_law_numbers" s__law_numbers) : FnQ P kf.w kf.K mg base CX0 1 T.a T.fd ["_law_cell", "_law_salt", "_law_sizes"] (spP 3 SQ.m__law_numbers) := by
  refine fnq_of T.F sc__law_numbers (spP_len rfl) fun cdv A outer s H vs Q E hr hg h => ?_
  refine ⟨_, PSs.nox (pss_cons (ps_set (i := 3) sc__law_numbers.nd rfl (Or.inl rfl) (pe_callB (call_max2 rfl) (by rfl) B.n_max (by decide +kernel) (pa_cons (pv 0) (pa_cons (pe_op op_sub (pe_un un_neg pe_int) (pv 0)) pa_nil))))
 (pss_cons (ps_set (i := 4) sc__law_numbers.nd rfl (Or.inl rfl) (pv 3))
 (pss_cons (ps_set (i := 5) sc__law_numbers.nd rfl (Or.inl rfl) (pe_lst pa_nil))
 (pss_cons (ps_for PassesOwn.never rfl (pi_range1 (by rfl) B.n_range (pa_cons (pe_callB (call_len_seqK (K := kf.K) rfl) (by rfl) B.n_len PySem.boot_len (pa_cons (pv 2) pa_nil)) pa_nil)) (pg_name (i := 6) sc__law_numbers.nd rfl (Or.inl rfl))
 (pss_one (ps_if (PW.pt (pw_and (pt_cmpR op_ge (pv 3) (pe_op op_pow pe_int pe_int) (nomark _)) (pw_and1 (pt_cmpR op_gt (pv 4) pe_int (nomark _)))))
 (pss_cons (ps_expr (pe_bmK (K := kf.K) rfl PySem.F.plainAttrs_list PySem.F.slot_list_append PySem.F.type_list_append mt_append (pv 5) (pa_cons (pe_op op_mod (pv 4) (pe_ix (ix_listK (K := kf.K) rfl) (pv 2) (pv 6) (fun _ _ => rfl))) pa_nil)))
 (pss_one (ps_set (i := 4) sc__law_numbers.nd rfl (Or.inl rfl) (pe_op op_fdivW (pv 4) (pe_ix (ix_listK (K := kf.K) rfl) (pv 2) (pv 6) (fun _ _ => rfl))))))
 (pss_cons (ps_set (i := 7) sc__law_numbers.nd rfl (Or.inl rfl) (pe_op op_mod (pe_op op_add (pe_op op_add (pe_op op_add (pv 3) (pe_op op_mul pe_int (pv 1))) (pe_op op_mul (pe_op op_mul pe_int (pv 6)) (pv 6))) (pv 6)) pe_int))
 (pss_cons (ps_set (i := 7) sc__law_numbers.nd rfl (Or.inl rfl) (pe_op op_mod (pe_op op_mul (pv 7) pe_int) pe_int))
 (pss_cons (ps_set (i := 7) sc__law_numbers.nd rfl (Or.inl rfl) (pe_op op_mod (pe_op op_mul (pe_op op_mod (pe_op op_mul (pv 7) (pv 7)) pe_int) pe_int) pe_int))
 (pss_one (ps_expr (pe_bmK (K := kf.K) rfl PySem.F.plainAttrs_list PySem.F.slot_list_append PySem.F.type_list_append mt_append (pv 5) (pa_cons (pe_op op_mod (pe_op op_fdivW (pv 7) pe_int) (pe_ix (ix_listK (K := kf.K) rfl) (pv 2) (pv 6) (fun _ _ => rfl))) pa_nil))))))))))
 (pss_one (ps_ret (pv 5))))))), tie_plain (n := 3) (k := 5) (B := SQ.B__law_numbers) rfl ?_ h⟩
  exact (c_seq (c_asg (c_yR (c_cb b_max2 (c_qcons (c_var 0) (c_qcons (c_op o_sub (c_un o_neg (c_c (v := .int 1) rfl)) (c_var 0)) c_qnil)))))
 (c_seq (c_asg (c_yvar 3))
 (c_seq (c_asg (c_ylst c_onil))
 (c_seq (c_for (c_iR1 (c_lcons (c_dR (c_cb b_len (c_qcons (c_var 2) c_qnil))) c_lnil)) (c_gname 6)
 (c_sif (c_tR (c_bAnd (c_bR (c_op o_ge (c_var 3) (c_op o_pow (c_c (v := .int 10) rfl) (c_c (v := .int 18) rfl)))) (c_bR (c_op o_gt (c_var 4) (c_c (v := .int 0) rfl)))))
 (c_seq (c_app (c_yR (c_op o_mod (c_var 4) (c_ix x_list (c_var 2) (c_var 6)))))
 (c_asg (c_yR (c_op o_div (c_var 4) (c_ix x_list (c_var 2) (c_var 6))))))
 (c_seq (c_asg (c_yR (c_op o_mod (c_op o_add (c_op o_add (c_op o_add (c_var 3) (c_op o_mul (c_c (v := .int 7919) rfl) (c_var 1))) (c_op o_mul (c_op o_mul (c_c (v := .int 101) rfl) (c_var 6)) (c_var 6))) (c_var 6)) (c_c (v := .int 2147483647) rfl))))
 (c_seq (c_asg (c_yR (c_op o_mod (c_op o_mul (c_var 7) (c_c (v := .int 48271) rfl)) (c_c (v := .int 2147483647) rfl))))
 (c_seq (c_asg (c_yR (c_op o_mod (c_op o_mul (c_op o_mod (c_op o_mul (c_var 7) (c_var 7)) (c_c (v := .int 2147483629) rfl)) (c_c (v := .int 48271) rfl)) (c_c (v := .int 2147483647) rfl))))
 (c_app (c_yR (c_op o_mod (c_op o_div (c_var 7) (c_c (v := .int 16) rfl)) (c_ix x_list (c_var 2) (c_var 6))))))))))
 (c_ret (c_ymov 5))))))
theorem ok__law_web (B : Bn mg) (T : Tp kf.K mg "_law_web" s__law_web) (d__law_numbers : Dq P kf.w kf.K mg base "_law_numbers" 1 ["_law_cell", "_law_salt", "_law_sizes"] (spP 3 SQ.m__law_numbers)) : FnQ P kf.w kf.K mg base CX0 2 T.a T.fd ["_law_cell", "_law_salt", "_law_most", "_law_more"] (spP 4 SA.m__law_web) := by
  refine fnq_of T.F sc__law_web (spP_len rfl) fun cdv A outer s H vs Q E hr hg h => ?_
  refine ⟨_, PSs.nox (pss_cons (ps_set (i := 4) sc__law_web.nd rfl (Or.inr rfl) (pe_op op_add pe_int (pe_ix (ix_listK (K := kf.K) rfl) (pe_callQ d__law_numbers.G (hr.mono (by decide)) hg (by rfl) d__law_numbers.g d__law_numbers.kp d__law_numbers.b pass0 (pa_cons (pv 0) (pa_cons (pv 1) (pa_cons (pe_lst (pa_cons (pv 2) pa_nil)) pa_nil)))) pe_int (fun _ _ => rfl))))
 (pss_cons (ps_set (i := 5) sc__law_web.nd rfl (Or.inl rfl) (pe_op (op_catRK (K := kf.K) rfl) (pe_op (op_catRK (K := kf.K) rfl) (pe_lst (pa_cons (pv 2) (pa_cons (pe_op op_add (pv 3) pe_int) pa_nil))) (pe_lc (own := [("_law_k", 6)]) rfl sc__law_web.nd (pi_range1 (by rfl) B.n_range (pa_cons (pe_op op_sub (pv 4) pe_int) pa_nil)) (blkOk_by (own := [("_law_k", 6)]) (N := ["_law_cell", "_law_salt", "_law_most", "_law_more", "_law_many", "_law_sizes", "_law_k", "_law_digits", "_law_names", "_law_order", "_law_pairs", "_law_digit", "_law_ties", "_law_one", "_law_other"]) (sc := defScope s__law_web) (by decide +kernel)) (fun _ _ _ _ _ => (pg_name (i := 6) sc__law_web.nd rfl (Or.inl rfl))) (fun _ _ _ _ _ => pts_nil) (fun _ _ _ _ _ => (pe_op op_add (pv 6) pe_int)))) (pe_lc (own := [("_law_k", 6)]) rfl sc__law_web.nd (pi_range1 (by rfl) B.n_range (pa_cons (pv 4) pa_nil)) (blkOk_by (own := [("_law_k", 6)]) (N := ["_law_cell", "_law_salt", "_law_most", "_law_more", "_law_many", "_law_sizes", "_law_k", "_law_digits", "_law_names", "_law_order", "_law_pairs", "_law_digit", "_law_ties", "_law_one", "_law_other"]) (sc := defScope s__law_web) (by decide +kernel)) (fun _ _ _ _ _ => (pg_name (i := 6) sc__law_web.nd rfl (Or.inl rfl))) (fun _ _ _ _ _ => pts_nil) (fun _ _ _ _ _ => (pe_op op_sub (pv 4) (pv 6))))))
 (pss_cons (ps_set (i := 7) sc__law_web.nd rfl (Or.inr rfl) (pe_callQ d__law_numbers.G (hr.mono (by decide)) hg (by rfl) d__law_numbers.g d__law_numbers.kp d__law_numbers.b pass0 (pa_cons (pv 0) (pa_cons (pv 1) (pa_cons (pe_op (op_catRK (K := kf.K) rfl) (pv 5) (pe_op op_rep (pe_lst (pa_cons (pe_op op_mul (pv 4) (pv 4)) pa_nil)) (pv 3))) pa_nil)))))
 (pss_cons (ps_set (i := 8) sc__law_web.nd rfl (Or.inl rfl) (pe_listRg rfl (by rfl) B.n_list (prg_1 (by rfl) B.n_range (pv 4))))
 (pss_cons (ps_set (i := 9) sc__law_web.nd rfl (Or.inl rfl) (pe_lst pa_nil))
 (pss_cons (ps_for PassesOwn.never rfl (pi_range1 (by rfl) B.n_range (pa_cons (pv 4) pa_nil)) (pg_name (i := 6) sc__law_web.nd rfl (Or.inl rfl))
 (pss_one (ps_expr (pe_bmK (K := kf.K) rfl PySem.F.plainAttrs_list PySem.F.slot_list_append PySem.F.type_list_append mt_append (pv 9) (pa_cons (pe_bmK (K := kf.K) rfl PySem.F.plainAttrs_list PySem.F.slot_list_pop PySem.F.type_list_pop mt_popAt (pv 8) (pa_cons (pe_ix (ix_listK (K := kf.K) rfl) (pv 7) (pe_op op_add (pe_op op_add (pv 4) pe_int) (pv 6)) (fun _ _ => rfl)) pa_nil)) pa_nil)))))
 (pss_cons (ps_setLc (i := 10) (own := [("_law_k", 6)]) rfl sc__law_web.nd rfl rfl (sw_true rfl rfl rfl (by decide +kernel)) (pi_range1 (by rfl) B.n_range (pa_cons (pe_op op_sub (pv 4) pe_int) pa_nil)) (blkOk_by (own := [("_law_k", 6)]) (N := ["_law_cell", "_law_salt", "_law_most", "_law_more", "_law_many", "_law_sizes", "_law_k", "_law_digits", "_law_names", "_law_order", "_law_pairs", "_law_digit", "_law_ties", "_law_one", "_law_other"]) (sc := defScope s__law_web) (by decide +kernel)) (fun _ _ _ _ _ => (pg_name (i := 6) sc__law_web.nd rfl (Or.inl rfl))) (fun _ _ _ _ _ => pts_nil) (fun _ _ _ _ _ => (pe_tup (pa_cons (pe_op op_add (pv 6) pe_int) (pa_cons (pe_ix (ix_listK (K := kf.K) rfl) (pv 7) (pe_op op_add pe_int (pv 6)) (fun _ _ => rfl)) pa_nil)))))
 (pss_cons (ps_for PassesOwn.never rfl (pi_listK (K := kf.K) rfl (pe_slice (sl_listK (K := kf.K) rfl) (pv 7) (po_some (pe_op op_add (pe_op op_mul pe_int (pv 4)) pe_int)) (po_some (pe_op op_add (pe_op op_add (pe_op op_mul pe_int (pv 4)) pe_int) (pe_ix (ix_listK (K := kf.K) rfl) (pv 7) pe_int (fun _ _ => rfl)))))) (pg_name (i := 11) sc__law_web.nd rfl (Or.inl rfl))
 (pss_one (ps_expr (pe_bmK (K := kf.K) rfl PySem.F.plainAttrs_list PySem.F.slot_list_append PySem.F.type_list_append mt_append (pv 10) (pa_cons (pe_tup (pa_cons (pe_op op_fdivW (pv 11) (pv 4)) (pa_cons (pe_op op_mod (pv 11) (pv 4)) pa_nil))) pa_nil)))))
 (pss_cons (ps_set (i := 12) sc__law_web.nd rfl (Or.inl rfl) pe_dnewT)
 (pss_cons (ps_for PassesOwn.never rfl (pi_listK (K := kf.K) rfl (pv 10)) (pg_tup rfl (pgs_cons (pg_name (i := 13) sc__law_web.nd rfl (Or.inl rfl)) (pgs_cons (pg_name (i := 14) sc__law_web.nd rfl (Or.inl rfl)) pgs_nil)))
 (pss_one (ps_if (pt_cmpR op_ne (pv 13) (pv 14) (nomark _))
 (pss_one (ps_dput (hu_of hr) (pv 12) (pe_tup (pa_cons (pe_callB (call_min2 rfl) (by rfl) B.n_min (by decide +kernel) (pa_cons (pe_ix (ix_listK (K := kf.K) rfl) (pv 9) (pv 13) (fun _ _ => rfl)) (pa_cons (pe_ix (ix_listK (K := kf.K) rfl) (pv 9) (pv 14) (fun _ _ => rfl)) pa_nil))) (pa_cons (pe_callB (call_max2 rfl) (by rfl) B.n_max (by decide +kernel) (pa_cons (pe_ix (ix_listK (K := kf.K) rfl) (pv 9) (pv 13) (fun _ _ => rfl)) (pa_cons (pe_ix (ix_listK (K := kf.K) rfl) (pv 9) (pv 14) (fun _ _ => rfl)) pa_nil))) pa_nil))) pe_bl rfl))
 pss_nil)))
 (pss_one (ps_ret (pe_tup (pa_cons (pv 4) (pa_cons (pe_callB (cr_sortedDT rfl) (by rfl) B.n_sorted (by decide +kernel) (pa_cons (pv 12) pa_nil)) pa_nil))))))))))))))), tie_plain (n := 4) (k := 11) (B := SA.B__law_web) rfl ?_ h⟩
  exact (c_seq (c_asg (c_yR (c_op o_add (c_c (v := .int 1) rfl) (c_ix x_list (c_call (c_qcons (c_var 0) (c_qcons (c_var 1) (c_qcons (c_lst (c_qcons (c_var 2) c_qnil)) c_qnil)))) (c_c (v := .int 0) rfl)))))
 (c_seq (c_asg (c_yop z_cat (c_dY (c_yop z_cat (c_dY (c_ylst (c_ocons (c_yvar 2) (c_ocons (c_yR (c_op o_add (c_var 3) (c_c (v := .int 1) rfl))) c_onil)))) (c_dY (c_ylc (vs := [6]) (c_iR1 (c_lcons (c_dR (c_op o_sub (c_var 4) (c_c (v := .int 1) rfl))) c_lnil)) (c_gname 6) (by decide) c_tyes (c_yR (c_op o_add (c_var 6) (c_c (v := .int 1) rfl))))))) (c_dY (c_ylc (vs := [6]) (c_iR1 (c_lcons (c_dY (c_yvar 4)) c_lnil)) (c_gname 6) (by decide) c_tyes (c_yR (c_op o_sub (c_var 4) (c_var 6)))))))
 (c_seq (c_asg (c_ycall (c_lcons (c_dY (c_yvar 0)) (c_lcons (c_dY (c_yvar 1)) (c_lcons (c_dY (c_yop z_cat (c_dY (c_yvar 5)) (c_dY (c_yrep (c_ylst (c_ocons (c_yR (c_op o_mul (c_var 4) (c_var 4))) c_onil)) (c_var 3))))) c_lnil)))))
 (c_seq (c_asg (c_yrng (c_dY (c_yvar 4))))
 (c_seq (c_asg (c_ylst c_onil))
 (c_seq (c_for (c_iR1 (c_lcons (c_dY (c_yvar 4)) c_lnil)) (c_gname 6)
 (c_app (c_pop (c_dY (c_yauto (c_ix x_list (c_var 7) (c_op o_add (c_op o_add (c_var 4) (c_c (v := .int 1) rfl)) (c_var 6))) (c_yD (c_dixR x_list (c_dY (c_yvar 7)) (c_op o_add (c_op o_add (c_var 4) (c_c (v := .int 1) rfl)) (c_var 6)))))))))
 (c_seq (c_asg (c_ylc (vs := [6]) (c_iR1 (c_lcons (c_dR (c_op o_sub (c_var 4) (c_c (v := .int 1) rfl))) c_lnil)) (c_gname 6) (by decide) c_tyes (c_ytup (c_ocons (c_yR (c_op o_add (c_var 6) (c_c (v := .int 1) rfl))) (c_ocons (c_yauto (c_ix x_list (c_var 7) (c_op o_add (c_c (v := .int 2) rfl) (c_var 6))) (c_yD (c_dixR x_list (c_dY (c_yvar 7)) (c_op o_add (c_c (v := .int 2) rfl) (c_var 6))))) c_onil)))))
 (c_seq (c_for (c_iL (c_dY (c_yslA (c_var 7) (c_dY (c_yvar 7)) (c_csome (c_op o_add (c_op o_mul (c_c (v := .int 2) rfl) (c_var 4)) (c_c (v := .int 1) rfl))) (c_csome (c_op o_add (c_op o_add (c_op o_mul (c_c (v := .int 2) rfl) (c_var 4)) (c_c (v := .int 1) rfl)) (c_ix x_list (c_var 7) (c_c (v := .int 1) rfl))))))) (c_gname 11)
 (c_app (c_ytup (c_ocons (c_yR (c_op o_div (c_var 11) (c_var 4))) (c_ocons (c_yR (c_op o_mod (c_var 11) (c_var 4))) c_onil)))))
 (c_seq (c_asg c_dnew)
 (c_seq (c_for (c_iL (c_dY (c_yvar 10))) (c_gtup (c_gscons (c_gname 13) (c_gscons (c_gname 14) c_gsnil)))
 (c_sif (c_tR (c_bR (c_op o_neI (c_var 13) (c_var 14))))
 (c_dput (c_tup (c_qcons (c_cb b_min2 (c_qcons (c_ix x_list (c_var 9) (c_var 13)) (c_qcons (c_ix x_list (c_var 9) (c_var 14)) c_qnil))) (c_qcons (c_cb b_max2 (c_qcons (c_ix x_list (c_var 9) (c_var 13)) (c_qcons (c_ix x_list (c_var 9) (c_var 14)) c_qnil))) c_qnil))) (c_c (v := .bl true) rfl))
 c_next))
 (c_ret (c_ytup (c_ocons (c_ymov 4) (c_ocons c_sortD c_onil))))))))))))))
theorem ok__law_any_web (B : Bn mg) (T : Tp kf.K mg "_law_any_web" s__law_any_web) (d__law_cell_at : Dq P kf.w kf.K mg base "_law_cell_at" 1 ["_law_script", "_law_k"] (spP 2 SQ.m__law_cell_at)) (d__law_numbers : Dq P kf.w kf.K mg base "_law_numbers" 1 ["_law_cell", "_law_salt", "_law_sizes"] (spP 3 SQ.m__law_numbers)) (d__law_web : Dq P kf.w kf.K mg base "_law_web" 2 ["_law_cell", "_law_salt", "_law_most", "_law_more"] (spP 4 SA.m__law_web)) : FnQ P kf.w kf.K mg base CX0 3 T.a T.fd ["_law_script", "_law_k", "_law_salt"] (spP 3 SA.m__law_any_web) := by
  refine fnq_of T.F sc__law_any_web (spP_len rfl) fun cdv A outer s H vs Q E hr hg h => ?_
  refine ⟨_, PSs.nox (pss_cons (ps_set (i := 3) sc__law_any_web.nd rfl (Or.inl rfl) (pe_callQ d__law_cell_at.G (hr.mono (by decide)) hg (by rfl) d__law_cell_at.g d__law_cell_at.kp d__law_cell_at.b pass0 (pa_cons (pv 0) (pa_cons (pe_op op_add (pe_op op_mul pe_int (pv 1)) pe_int) pa_nil))))
 (pss_cons (ps_set (i := 4) sc__law_any_web.nd rfl (Or.inr rfl) (pe_callQ d__law_numbers.G (hr.mono (by decide)) hg (by rfl) d__law_numbers.g d__law_numbers.kp d__law_numbers.b pass0 (pa_cons (pv 3) (pa_cons (pe_op op_add (pv 2) pe_int) (pa_cons (pe_lst (pa_cons pe_int (pa_cons pe_int pa_nil))) pa_nil)))))
 (pss_cons (ps_asg (pe_ix (ix_listK (K := kf.K) rfl) (pe_lst (pa_cons (pe_tup (pa_cons pe_int (pa_cons pe_int pa_nil))) (pa_cons (pe_tup (pa_cons pe_int (pa_cons pe_int pa_nil))) pa_nil))) (pe_callTy call_int1 (by rfl) B.n_int (by decide +kernel) (pa_cons (pe_and (pe_cmpR op_eq (pe_ix (ix_listK (K := kf.K) rfl) (pv 4) pe_int (fun _ _ => rfl)) pe_int (nomark _)) (pe_one (pe_cmpR op_eq (pe_op op_mod (pv 1) pe_int) pe_int (nomark _)))) pa_nil)) (fun _ _ => rfl)) (pg_tup rfl (pgs_cons (pg_name (i := 5) sc__law_any_web.nd rfl (Or.inl rfl)) (pgs_cons (pg_name (i := 6) sc__law_any_web.nd rfl (Or.inl rfl)) pgs_nil))))
 (pss_cons (ps_asg (pe_callQ d__law_web.G (hr.mono (by decide)) hg (by rfl) d__law_web.g d__law_web.kp d__law_web.b pass0 (pa_cons (pe_callQ d__law_cell_at.G (hr.mono (by decide)) hg (by rfl) d__law_cell_at.g d__law_cell_at.kp d__law_cell_at.b pass0 (pa_cons (pv 0) (pa_cons (pe_op op_mul pe_int (pv 1)) pa_nil))) (pa_cons (pv 2) (pa_cons (pv 5) (pa_cons (pv 6) pa_nil))))) (pg_tup rfl (pgs_cons (pg_name (i := 7) sc__law_any_web.nd rfl (Or.inl rfl)) (pgs_cons (pg_name (i := 8) sc__law_any_web.nd rfl (Or.inl rfl)) pgs_nil))))
 (pss_cons (ps_set (i := 9) sc__law_any_web.nd rfl (Or.inl rfl) (pe_slice (sl_listK (K := kf.K) rfl) (pe_callQ d__law_numbers.G (hr.mono (by decide)) hg (by rfl) d__law_numbers.g d__law_numbers.kp d__law_numbers.b pass0 (pa_cons (pv 3) (pa_cons (pe_op op_add (pv 2) pe_int) (pa_cons (pe_op (op_catRK (K := kf.K) rfl) (pe_lst (pa_cons pe_int (pa_cons pe_int pa_nil))) (pe_op op_rep (pe_lst (pa_cons pe_int pa_nil)) (pe_callB (call_len_seqK (K := kf.K) rfl) (by rfl) B.n_len PySem.boot_len (pa_cons (pv 8) pa_nil)))) pa_nil)))) (po_some pe_int) po_none))
 (pss_one (ps_ret (pe_tup (pa_cons (pv 7) (pa_cons (pe_lc (own := [("_law_tie", 10), ("_law_drop", 11)]) rfl sc__law_any_web.nd (pi_zip (by rfl) B.n_zip (pa_cons (pv 8) (pa_cons (pv 9) pa_nil))) (blkOk_by (own := [("_law_tie", 10), ("_law_drop", 11)]) (N := ["_law_script", "_law_k", "_law_salt", "_law_other", "_law_head", "_law_most", "_law_more", "_law_many", "_law_ties", "_law_drops", "_law_tie", "_law_drop"]) (sc := defScope s__law_any_web) (by decide +kernel)) (fun _ _ _ _ _ => (pg_tupK (K := kf.K) (n := 2) rfl rfl (pgs_cons (pg_name (i := 10) sc__law_any_web.nd rfl (Or.inl rfl)) (pgs_cons (pg_name (i := 11) sc__law_any_web.nd rfl (Or.inl rfl)) pgs_nil)))) (fun _ _ _ _ _ => pts_one (pt_cmpR op_ge (pv 11) (pe_ix (ix_listK (K := kf.K) rfl) (pv 4) pe_int (fun _ _ => rfl)) (nomark _))) (fun _ _ _ _ _ => (pv 10))) pa_nil)))))))))), tie_plain (n := 3) (k := 9) (B := SA.B__law_any_web) rfl ?_ h⟩
  exact (c_seq (c_asg (c_ycallA (c_qcons (c_var 0) (c_qcons (c_op o_add (c_op o_mul (c_c (v := .int 2) rfl) (c_var 1)) (c_c (v := .int 1) rfl)) c_qnil)) (c_lcons (c_dY (c_yvar 0)) (c_lcons (c_dR (c_op o_add (c_op o_mul (c_c (v := .int 2) rfl) (c_var 1)) (c_c (v := .int 1) rfl))) c_lnil))))
 (c_seq (c_asg (c_ycallA (c_qcons (c_var 3) (c_qcons (c_op o_add (c_var 2) (c_c (v := .int 1) rfl)) (c_qcons (c_lst (c_qcons (c_c (v := .int 8) rfl) (c_qcons (c_c (v := .int 4) rfl) c_qnil))) c_qnil))) (c_lcons (c_dY (c_yvar 3)) (c_lcons (c_dR (c_op o_add (c_var 2) (c_c (v := .int 1) rfl))) (c_lcons (c_dY (c_ylst (c_ocons (c_yR (c_c (v := .int 8) rfl)) (c_ocons (c_yR (c_c (v := .int 4) rfl)) c_onil)))) c_lnil)))))
 (c_seq (c_asgG (c_dY (c_yauto (c_ix x_list (c_lst (c_qcons (c_tup (c_qcons (c_c (v := .int 12) rfl) (c_qcons (c_c (v := .int 8) rfl) c_qnil))) (c_qcons (c_tup (c_qcons (c_c (v := .int 40) rfl) (c_qcons (c_c (v := .int 81) rfl) c_qnil))) c_qnil))) (c_cb b_int (c_qcons (c_and (c_op o_eqI (c_ix x_list (c_var 4) (c_c (v := .int 0) rfl)) (c_c (v := .int 7) rfl)) (c_op o_eqI (c_op o_mod (c_var 1) (c_c (v := .int 4) rfl)) (c_c (v := .int 0) rfl))) c_qnil))) (c_yD (c_dixR x_list (c_dY (c_ylst (c_ocons (c_ytup (c_ocons (c_yR (c_c (v := .int 12) rfl)) (c_ocons (c_yR (c_c (v := .int 8) rfl)) c_onil))) (c_ocons (c_ytup (c_ocons (c_yR (c_c (v := .int 40) rfl)) (c_ocons (c_yR (c_c (v := .int 81) rfl)) c_onil))) c_onil)))) (c_cb b_int (c_qcons (c_and (c_op o_eqI (c_ix x_list (c_var 4) (c_c (v := .int 0) rfl)) (c_c (v := .int 7) rfl)) (c_op o_eqI (c_op o_mod (c_var 1) (c_c (v := .int 4) rfl)) (c_c (v := .int 0) rfl))) c_qnil)))))) (c_gtup (c_gscons (c_gname 5) (c_gscons (c_gname 6) c_gsnil))))
 (c_seq (c_asgG (c_dY (c_ycallA (c_qcons (c_call (c_qcons (c_var 0) (c_qcons (c_op o_mul (c_c (v := .int 2) rfl) (c_var 1)) c_qnil))) (c_qcons (c_var 2) (c_qcons (c_var 5) (c_qcons (c_var 6) c_qnil)))) (c_lcons (c_dY (c_ycallA (c_qcons (c_var 0) (c_qcons (c_op o_mul (c_c (v := .int 2) rfl) (c_var 1)) c_qnil)) (c_lcons (c_dY (c_yvar 0)) (c_lcons (c_dR (c_op o_mul (c_c (v := .int 2) rfl) (c_var 1))) c_lnil)))) (c_lcons (c_dY (c_yvar 2)) (c_lcons (c_dY (c_yvar 5)) (c_lcons (c_dY (c_yvar 6)) c_lnil)))))) (c_gtup (c_gscons (c_gname 7) (c_gscons (c_gname 8) c_gsnil))))
 (c_seq (c_asg (c_ysl (c_dY (c_ycall (c_lcons (c_dY (c_yvar 3)) (c_lcons (c_dR (c_op o_add (c_var 2) (c_c (v := .int 1) rfl))) (c_lcons (c_dY (c_yop z_cat (c_dY (c_ylst (c_ocons (c_yR (c_c (v := .int 8) rfl)) (c_ocons (c_yR (c_c (v := .int 4) rfl)) c_onil)))) (c_dY (c_yrep (c_ylst (c_ocons (c_yR (c_c (v := .int 4) rfl)) c_onil)) (c_cb b_len (c_qcons (c_var 8) c_qnil)))))) c_lnil))))) (c_csome (c_c (v := .int 2) rfl)) c_cnone))
 (c_ret (c_ytup (c_ocons (c_ymov 7) (c_ocons (c_ylc (vs := [10, 11]) (c_iZ (c_lcons (c_dY (c_yvar 8)) (c_lcons (c_dY (c_yvar 9)) c_lnil))) (c_gtup (c_gscons (c_gname 10) (c_gscons (c_gname 11) c_gsnil))) (by decide) (c_tR (c_bR (c_op o_ge (c_var 11) (c_ix x_list (c_var 4) (c_c (v := .int 1) rfl))))) (c_yvar 10)) c_onil)))))))))
theorem ok__law_beside (B : Bn mg) (T : Tp kf.K mg "_law_beside" s__law_beside) : FnQ P kf.w kf.K mg base CX0 1 T.a T.fd ["_law_web_here"] (spP 1 SA.m__law_beside) := by
  refine fnq_of T.F sc__law_beside (spP_len rfl) fun cdv A outer s H vs Q E hr hg h => ?_
  refine ⟨_, PSs.nox (pss_cons (ps_setLc (i := 1) (own := [("_law_place", 2)]) rfl sc__law_beside.nd rfl rfl (sw_true rfl rfl rfl (by decide +kernel)) (pi_range1 (by rfl) B.n_range (pa_cons (pe_ix (ix_tupK (K := kf.K) rfl) (pv 0) pe_int (fun _ _ => rfl)) pa_nil)) (blkOk_by (own := [("_law_place", 2)]) (N := ["_law_web_here", "_law_found", "_law_place", "_law_one", "_law_other", "_law_listed"]) (sc := defScope s__law_beside) (by decide +kernel)) (fun _ _ _ _ _ => (pg_name (i := 2) sc__law_beside.nd rfl (Or.inl rfl))) (fun _ _ _ _ _ => pts_nil) (fun _ _ _ _ _ => (pe_lst pa_nil)))
 (pss_cons (ps_for PassesOwn.never rfl (pi_listK (K := kf.K) rfl (pe_ix (ix_tupK (K := kf.K) rfl) (pv 0) pe_int (fun _ _ => rfl))) (pg_tup rfl (pgs_cons (pg_name (i := 3) sc__law_beside.nd rfl (Or.inl rfl)) (pgs_cons (pg_name (i := 4) sc__law_beside.nd rfl (Or.inl rfl)) pgs_nil)))
 (pss_cons (ps_expr (pe_bmK (K := kf.K) rfl PySem.F.plainAttrs_list PySem.F.slot_list_append PySem.F.type_list_append mt_append (pe_ix (ix_listK (K := kf.K) rfl) (pv 1) (pv 3) (fun _ _ => rfl)) (pa_cons (pv 4) pa_nil)))
 (pss_one (ps_expr (pe_bmK (K := kf.K) rfl PySem.F.plainAttrs_list PySem.F.slot_list_append PySem.F.type_list_append mt_append (pe_ix (ix_listK (K := kf.K) rfl) (pv 1) (pv 4) (fun _ _ => rfl)) (pa_cons (pv 3) pa_nil))))))
 (pss_one (ps_ret (pe_lc (own := [("_law_listed", 5)]) rfl sc__law_beside.nd (pi_listK (K := kf.K) rfl (pv 1)) (blkOk_by (own := [("_law_listed", 5)]) (N := ["_law_web_here", "_law_found", "_law_place", "_law_one", "_law_other", "_law_listed"]) (sc := defScope s__law_beside) (by decide +kernel)) (fun _ _ _ _ _ => (pg_name (i := 5) sc__law_beside.nd rfl (Or.inl rfl))) (fun _ _ _ _ _ => pts_nil) (fun _ _ _ _ _ => (pe_callB (cr_sortedIK (K := kf.K) rfl) (by rfl) B.n_sorted (by decide +kernel) (pa_cons (pv 5) pa_nil)))))))), tie_plain (n := 1) (k := 5) (B := SA.B__law_beside) rfl ?_ h⟩
  exact (c_seq (c_asg (c_ylc (vs := [2]) (c_iR1 (c_lcons (c_dY (c_yauto (c_ix x_tup (c_var 0) (c_c (v := .int 0) rfl)) (c_yD (c_dixR x_tup (c_dY (c_yvar 0)) (c_c (v := .int 0) rfl))))) c_lnil)) (c_gname 2) (by decide) c_tyes (c_ylst c_onil)))
 (c_seq (c_for (c_iL (c_dY (c_yauto (c_ix x_tup (c_var 0) (c_c (v := .int 1) rfl)) (c_yD (c_dixR x_tup (c_dY (c_yvar 0)) (c_c (v := .int 1) rfl)))))) (c_gtup (c_gscons (c_gname 3) (c_gscons (c_gname 4) c_gsnil)))
 (c_seq (c_appP (c_pix (c_pvar 1) (c_var 3)) (c_fR (c_var 4)))
 (c_appP (c_pix (c_pvar 1) (c_var 4)) (c_fR (c_var 3)))))
 (c_ret (c_ylc (vs := [5]) (c_iL (c_dY (c_yvar 1))) (c_gname 5) (by decide) c_tyes (c_ycbA z_sortI (c_qcons (c_var 5) c_qnil) (c_lcons (c_dY (c_yvar 5)) c_lnil))))))
theorem ok__law_far (B : Bn mg) (T : Tp kf.K mg "_law_far" s__law_far) : FnQ P kf.w kf.K mg base CX0 1 T.a T.fd ["_law_beside_here", "_law_place"] (spP 2 SA.m__law_far) := by
  refine fnq_of T.F sc__law_far (spP_len rfl) fun cdv A outer s H vs Q E hr hg h => ?_
  refine ⟨_, PSs.nox (pss_cons (ps_set (i := 2) sc__law_far.nd rfl (Or.inl rfl) (pe_op op_rep (pe_lst (pa_cons pe_non pa_nil)) (pe_callB (call_len_seqK (K := kf.K) rfl) (by rfl) B.n_len PySem.boot_len (pa_cons (pv 0) pa_nil))))
 (pss_cons (ps_asg pe_int (pg_sub (pv 2) (pv 1) set_list))
 (pss_cons (ps_set (i := 3) sc__law_far.nd rfl (Or.inl rfl) (pe_lst (pa_cons (pv 1) pa_nil)))
 (pss_cons (ps_set (i := 4) sc__law_far.nd rfl (Or.inl rfl) pe_int)
 (pss_cons (ps_while PassesOwn.never (pt_cmpR op_lt (pv 4) (pe_callB (call_len_seqK (K := kf.K) rfl) (by rfl) B.n_len PySem.boot_len (pa_cons (pv 3) pa_nil)) (nomark _))
 (pss_cons (ps_for PassesOwn.never rfl (pi_listK (K := kf.K) rfl (pe_ix (ix_listK (K := kf.K) rfl) (pv 0) (pe_ix (ix_listK (K := kf.K) rfl) (pv 3) (pv 4) (fun _ _ => rfl)) (fun _ _ => rfl))) (pg_name (i := 5) sc__law_far.nd rfl (Or.inl rfl))
 (pss_one (ps_if (pt_cmpR op_isN (pe_ix (ix_listK (K := kf.K) rfl) (pv 2) (pv 5) (fun _ _ => rfl)) pe_non (nomark _))
 (pss_cons (ps_asg (pe_op op_add (pe_ix (ix_listK (K := kf.K) rfl) (pv 2) (pe_ix (ix_listK (K := kf.K) rfl) (pv 3) (pv 4) (fun _ _ => rfl)) (fun _ _ => rfl)) pe_int) (pg_sub (pv 2) (pv 5) set_list))
 (pss_one (ps_expr (pe_bmK (K := kf.K) rfl PySem.F.plainAttrs_list PySem.F.slot_list_append PySem.F.type_list_append mt_append (pv 3) (pa_cons (pv 5) pa_nil)))))
 pss_nil)))
 (pss_one (ps_set (i := 4) sc__law_far.nd rfl (Or.inl rfl) (pe_op op_add (pv 4) pe_int)))))
 (pss_one (ps_ret (pv 2)))))))), tie_plain (n := 2) (k := 4) (B := SA.B__law_far) rfl ?_ h⟩
  exact (c_seq (c_asg (c_yrep (c_ylst (c_ocons (c_yR (c_c (v := .non) rfl)) c_onil)) (c_cb b_len (c_qcons (c_var 0) c_qnil))))
 (c_seq (c_setP (c_pvar 2) (c_var 1) (c_yR (c_c (v := .int 0) rfl)))
 (c_seq (c_asg (c_ylst (c_ocons (c_yvar 1) c_onil)))
 (c_seq (c_asg (c_yR (c_c (v := .int 0) rfl)))
 (c_seq (c_while (c_tR (c_bR (c_op o_lt (c_var 4) (c_cb b_len (c_qcons (c_var 3) c_qnil)))))
 (c_seq (c_for (c_iL (c_dY (c_yauto (c_ix x_list (c_var 0) (c_ix x_list (c_var 3) (c_var 4))) (c_yD (c_dixR x_list (c_dY (c_yvar 0)) (c_ix x_list (c_var 3) (c_var 4))))))) (c_gname 5)
 (c_sif (c_tR (c_bR (c_op o_isN (c_ix x_list (c_var 2) (c_var 5)) (c_c (v := .non) rfl))))
 (c_seq (c_setP (c_pvar 2) (c_var 5) (c_yR (c_op o_add (c_ix x_list (c_var 2) (c_ix x_list (c_var 3) (c_var 4))) (c_c (v := .int 1) rfl))))
 (c_app (c_yvar 5)))
 c_next))
 (c_asg (c_yR (c_op o_add (c_var 4) (c_c (v := .int 1) rfl))))))
 (c_ret (c_ymov 2)))))))
theorem ok__law_pieces (B : Bn mg) (T : Tp kf.K mg "_law_pieces" s__law_pieces) (d__law_beside : Dq P kf.w kf.K mg base "_law_beside" 1 ["_law_web_here"] (spP 1 SA.m__law_beside)) (d__law_far : Dq P kf.w kf.K mg base "_law_far" 1 ["_law_beside_here", "_law_place"] (spP 2 SA.m__law_far)) : FnQ P kf.w kf.K mg base CX0 2 T.a T.fd ["_law_web_here"] (spP 1 m__law_pieces) := by
  refine fnq_of T.F sc__law_pieces (spP_len rfl) fun cdv A outer s H vs Q E hr hg h => ?_
  refine ⟨_, PSs.nox (pss_cons (ps_set (i := 1) sc__law_pieces.nd rfl (Or.inl rfl) (pe_callQ d__law_beside.G (hr.mono (by decide)) hg (by rfl) d__law_beside.g d__law_beside.kp d__law_beside.b pass0 (pa_cons (pv 0) pa_nil)))
 (pss_cons (ps_set (i := 2) sc__law_pieces.nd rfl (Or.inl rfl) (pe_lst pa_nil))
 (pss_cons (ps_for PassesOwn.never rfl (pi_range1 (by rfl) B.n_range (pa_cons (pe_ix (ix_tupK (K := kf.K) rfl) (pv 0) pe_int (fun _ _ => rfl)) pa_nil)) (pg_name (i := 3) sc__law_pieces.nd rfl (Or.inl rfl))
 (pss_cons (ps_set (i := 4) sc__law_pieces.nd rfl (Or.inr rfl) (pe_callQ d__law_far.G (hr.mono (by decide)) hg (by rfl) d__law_far.g d__law_far.kp d__law_far.b pass0 (pa_cons (pv 1) (pa_cons (pv 3) pa_nil))))
 (pss_cons (ps_setLc (i := 5) (own := [("_law_other", 6)]) rfl sc__law_pieces.nd rfl rfl (sw_true rfl rfl rfl (by decide +kernel)) (pi_range1 (by rfl) B.n_range (pa_cons (pe_ix (ix_tupK (K := kf.K) rfl) (pv 0) pe_int (fun _ _ => rfl)) pa_nil)) (blkOk_by (own := [("_law_other", 6)]) (N := ["_law_web_here", "_law_beside_here", "_law_found", "_law_place", "_law_leads", "_law_piece", "_law_other"]) (sc := defScope s__law_pieces) (by decide +kernel)) (fun _ _ _ _ _ => (pg_name (i := 6) sc__law_pieces.nd rfl (Or.inl rfl))) (fun _ _ _ _ _ => pts_one (pt_cmpR op_notN (pe_ix (ix_listK (K := kf.K) rfl) (pv 4) (pv 6) (fun _ _ => rfl)) pe_non (nomark _))) (fun _ _ _ _ _ => (pv 6)))
 (pss_one (ps_if (pt_cmpR op_eq (pe_ix (ix_listK (K := kf.K) rfl) (pv 5) pe_int (fun _ _ => rfl)) (pv 3) (nomark _))
 (pss_one (ps_expr (pe_bmK (K := kf.K) rfl PySem.F.plainAttrs_list PySem.F.slot_list_append PySem.F.type_list_append mt_append (pv 2) (pa_cons (pv 5) pa_nil))))
 pss_nil)))))
 (pss_one (ps_ret (pv 2)))))), tie_plain (n := 1) (k := 6) (B := B__law_pieces) rfl ?_ h⟩
  exact (c_seq (c_asg (c_ycallA (c_qcons (c_var 0) c_qnil) (c_lcons (c_dY (c_yvar 0)) c_lnil)))
 (c_seq (c_asg (c_ylst c_onil))
 (c_seq (c_for (c_iR1 (c_lcons (c_dY (c_yauto (c_ix x_tup (c_var 0) (c_c (v := .int 0) rfl)) (c_yD (c_dixR x_tup (c_dY (c_yvar 0)) (c_c (v := .int 0) rfl))))) c_lnil)) (c_gname 3)
 (c_seq (c_asg (c_ycallA (c_qcons (c_var 1) (c_qcons (c_var 3) c_qnil)) (c_lcons (c_dY (c_yvar 1)) (c_lcons (c_dY (c_yvar 3)) c_lnil))))
 (c_seq (c_asg (c_ylc (vs := [6]) (c_iR1 (c_lcons (c_dY (c_yauto (c_ix x_tup (c_var 0) (c_c (v := .int 0) rfl)) (c_yD (c_dixR x_tup (c_dY (c_yvar 0)) (c_c (v := .int 0) rfl))))) c_lnil)) (c_gname 6) (by decide) (c_tR (c_bR (c_op o_notN (c_ix x_list (c_var 4) (c_var 6)) (c_c (v := .non) rfl)))) (c_yvar 6)))
 (c_sif (c_tR (c_bR (c_op o_eqI (c_ix x_list (c_var 5) (c_c (v := .int 0) rfl)) (c_var 3))))
 (c_app (c_yvar 5))
 c_next))))
 (c_ret (c_ymov 2)))))
theorem ok_is_whole (B : Bn mg) (T : Tp kf.K mg "is_whole" s_is_whole) : FnQ P kf.w kf.K mg base CX0 1 T.a T.fd ["thing"] (spP 1 SH.m_is_whole) := by
  refine fnq_of T.F sc_is_whole (spP_len rfl) fun cdv A outer s H vs Q E hr hg h => ?_
  refine ⟨_, PSs.nox (pss_one (ps_ret (pe_and (pe_callB (call_isiKK (K := kf.K) rfl) (by rfl) B.n_isinstance (by decide +kernel) (pa_cons (pv 0) (pa_cons (pe_bltn (v := .ty "int") (u := .type "int") (by rfl) B.n_int (by decide +kernel) rfl) pa_nil))) (pe_one (pe_not (pe_callB (call_isiKK (K := kf.K) rfl) (by rfl) B.n_isinstance (by decide +kernel) (pa_cons (pv 0) (pa_cons (pe_bltn (v := .ty "bool") (u := .type "bool") (by rfl) B.n_bool (by decide +kernel) rfl) pa_nil)))))))), tie_plain (n := 1) (k := 0) (B := SH.B_is_whole) rfl ?_ h⟩
  exact (c_ret (c_yR (c_and (c_is (c_var 0)) (c_not (c_is (c_var 0))))))
theorem ok_joins_places (B : Bn mg) (T : Tp kf.K mg "joins_places" s_joins_places) (d_is_whole : Dq P kf.w kf.K mg base "is_whole" 1 ["thing"] (spP 1 SH.m_is_whole)) : FnQ P kf.w kf.K mg base CX0 2 T.a T.fd ["many", "thing"] (spP 2 SH.m_joins_places) := by
  refine fnq_of T.F sc_joins_places (spP_len rfl) fun cdv A outer s H vs Q E hr hg h => ?_
  refine ⟨_, PSs.nox (pss_cons (ps_if (PW.pt (pw_or (pt_not (pt_val (pe_callB (call_isiKK (K := kf.K) rfl) (by rfl) B.n_isinstance (by decide +kernel) (pa_cons (pv 1) (pa_cons (pe_bltn (v := .ty "tuple") (u := .type "tuple") (by rfl) B.n_tuple (by decide +kernel) rfl) pa_nil))))) (pw_or1 (pt_cmpR op_ne (pe_callB (call_len_seqK (K := kf.K) rfl) (by rfl) B.n_len PySem.boot_len (pa_cons (pv 1) pa_nil)) pe_int (nomark _)))))
 (pss_one (ps_ret pe_bl))
 pss_nil)
 (pss_cons (ps_asg (pv 1) (pg_tup rfl (pgs_cons (pg_name (i := 2) sc_joins_places.nd rfl (Or.inl rfl)) (pgs_cons (pg_name (i := 3) sc_joins_places.nd rfl (Or.inl rfl)) pgs_nil))))
 (pss_one (ps_ret (pe_and (pe_callQ d_is_whole.G (hr.mono (by decide)) hg (by rfl) d_is_whole.g d_is_whole.kp d_is_whole.b pass0 (pa_cons (pv 2) pa_nil)) (pe_and (pe_callQ d_is_whole.G (hr.mono (by decide)) hg (by rfl) d_is_whole.g d_is_whole.kp d_is_whole.b pass0 (pa_cons (pv 3) pa_nil)) (pe_one (pe_ch3 op_le op_lt op_lt pe_int (pv 2) (pv 3) (pv 0))))))))), tie_plain (n := 2) (k := 2) (B := SH.B_joins_places) rfl ?_ h⟩
  exact (c_seq (c_sif (c_tR (c_bOr (c_bNot (c_bB (c_is (c_var 1)))) (c_bR (c_op o_neI (c_cb b_len (c_qcons (c_var 1) c_qnil)) (c_c (v := .int 2) rfl)))))
 (c_ret (c_yR (c_c (v := .bl false) rfl)))
 c_next)
 (c_seq (c_asgG (c_dY (c_yvar 1)) (c_gtup (c_gscons (c_gname 2) (c_gscons (c_gname 3) c_gsnil))))
 (c_ret (c_yR (c_and (c_call (c_qcons (c_var 2) c_qnil)) (c_and (c_call (c_qcons (c_var 3) c_qnil)) (c_ch3 (c_c (v := .int 0) rfl) (c_var 2) (c_var 3) (c_var 0))))))))
theorem ok_web_fault (B : Bn mg) (T : Tp kf.K mg "web_fault" s_web_fault) (d_is_whole : Dq P kf.w kf.K mg base "is_whole" 1 ["thing"] (spP 1 SH.m_is_whole)) (d_joins_places : Dq P kf.w kf.K mg base "joins_places" 2 ["many", "thing"] (spP 2 SH.m_joins_places)) : FnQ P kf.w kf.K mg base CX0 3 T.a T.fd ["thing"] (spP 1 SH.m_web_fault) := by
  refine fnq_of T.F sc_web_fault (spP_len rfl) fun cdv A outer s H vs Q E hr hg h => ?_
  refine ⟨_, PSs.nox (pss_cons (ps_if (PW.pt (pw_or (pt_not (pt_val (pe_callB (call_isiKK (K := kf.K) rfl) (by rfl) B.n_isinstance (by decide +kernel) (pa_cons (pv 0) (pa_cons (pe_bltn (v := .ty "tuple") (u := .type "tuple") (by rfl) B.n_tuple (by decide +kernel) rfl) pa_nil))))) (pw_or1 (pt_cmpR op_ne (pe_callB (call_len_seqK (K := kf.K) rfl) (by rfl) B.n_len PySem.boot_len (pa_cons (pv 0) pa_nil)) pe_int (nomark _)))))
 (pss_one (ps_ret (pe_tup (pa_cons pe_str (pa_cons pe_non pa_nil)))))
 pss_nil)
 (pss_cons (ps_asg (pv 0) (pg_tup rfl (pgs_cons (pg_name (i := 1) sc_web_fault.nd rfl (Or.inl rfl)) (pgs_cons (pg_name (i := 2) sc_web_fault.nd rfl (Or.inl rfl)) pgs_nil))))
 (pss_cons (ps_if (PW.pt (pw_or (pt_not (pt_val (pe_callQ d_is_whole.G (hr.mono (by decide)) hg (by rfl) d_is_whole.g d_is_whole.kp d_is_whole.b pass0 (pa_cons (pv 1) pa_nil)))) (pw_or1 (pt_not (pt_chain op_le op_le pe_int (pv 1) (pe_glob (v := .int 40) rfl B.c_MOST_PLACES.choose_spec ⟨_, rfl⟩))))))
 (pss_one (ps_ret (pe_tup (pa_cons pe_str (pa_cons pe_non pa_nil)))))
 pss_nil)
 (pss_cons (ps_if (PW.pt (pw_or (pt_not (pt_val (pe_callB (call_isiKK (K := kf.K) rfl) (by rfl) B.n_isinstance (by decide +kernel) (pa_cons (pv 2) (pa_cons (pe_bltn (v := .ty "list") (u := .type "list") (by rfl) B.n_list (by decide +kernel) rfl) pa_nil))))) (pw_or1 (pt_cmpR op_gt (pe_callB (call_len_seqK (K := kf.K) rfl) (by rfl) B.n_len PySem.boot_len (pa_cons (pv 2) pa_nil)) (pe_glob (v := .int 120) rfl B.c_MOST_TIES.choose_spec ⟨_, rfl⟩) (nomark _)))))
 (pss_one (ps_ret (pe_tup (pa_cons pe_str (pa_cons pe_non pa_nil)))))
 pss_nil)
 (pss_cons (ps_for PassesOwn.never rfl (pi_enum (by rfl) B.n_enumerate (pa_cons (pv 2) pa_nil)) (pg_tup rfl (pgs_cons (pg_name (i := 3) sc_web_fault.nd rfl (Or.inl rfl)) (pgs_cons (pg_name (i := 4) sc_web_fault.nd rfl (Or.inl rfl)) pgs_nil)))
 (pss_one (ps_if (PW.pt (pw_or (pt_not (pt_val (pe_callQ d_joins_places.G (hr.mono (by decide)) hg (by rfl) d_joins_places.g d_joins_places.kp d_joins_places.b pass0 (pa_cons (pv 1) (pa_cons (pv 4) pa_nil))))) (pw_or1 (PW.pt (pw_and (pt_cmpR op_gt (pv 3) pe_int (nomark _)) (pw_and1 (pt_cmpR (op_leTK (K := kf.K) rfl hr.units0) (pv 4) (pe_ix (ix_listK (K := kf.K) rfl) (pv 2) (pe_op op_sub (pv 3) pe_int) (fun _ _ => rfl)) (nomark _))))))))
 (pss_one (ps_ret (pe_tup (pa_cons pe_str (pa_cons (pv 3) pa_nil)))))
 pss_nil)))
 (pss_one (ps_ret pe_non))))))), tie_plain (n := 1) (k := 4) (B := SH.B_web_fault) rfl ?_ h⟩
  exact (c_seq (c_sif (c_tR (c_bOr (c_bNot (c_bB (c_is (c_var 0)))) (c_bR (c_op o_neI (c_cb b_len (c_qcons (c_var 0) c_qnil)) (c_c (v := .int 2) rfl)))))
 (c_ret (c_ytup (c_ocons (c_yR (c_c (v := .str "web") rfl)) (c_ocons (c_yR (c_c (v := .non) rfl)) c_onil))))
 c_next)
 (c_seq (c_asgG (c_dY (c_yvar 0)) (c_gtup (c_gscons (c_gname 1) (c_gscons (c_gname 2) c_gsnil))))
 (c_seq (c_sif (c_tR (c_bOr (c_bNot (c_bB (c_call (c_qcons (c_var 1) c_qnil)))) (c_bNot (c_bR (c_ch (c_c (v := .int 1) rfl) (c_var 1) (c_c (v := .int 40) rfl))))))
 (c_ret (c_ytup (c_ocons (c_yR (c_c (v := .str "places") rfl)) (c_ocons (c_yR (c_c (v := .non) rfl)) c_onil))))
 c_next)
 (c_seq (c_sif (c_tR (c_bOr (c_bNot (c_bB (c_is (c_var 2)))) (c_bR (c_op o_gt (c_cb b_len (c_qcons (c_var 2) c_qnil)) (c_c (v := .int 120) rfl)))))
 (c_ret (c_ytup (c_ocons (c_yR (c_c (v := .str "ties") rfl)) (c_ocons (c_yR (c_c (v := .non) rfl)) c_onil))))
 c_next)
 (c_seq (c_for (c_iE (c_lcons (c_dY (c_yvar 2)) c_lnil)) (c_gtup (c_gscons (c_gname 3) (c_gscons (c_gname 4) c_gsnil)))
 (c_sif (c_tR (c_bOr (c_bNot (c_bB (c_call (c_qcons (c_var 1) (c_qcons (c_var 4) c_qnil))))) (c_bAnd (c_bR (c_op o_gt (c_var 3) (c_c (v := .int 0) rfl))) (c_bR (c_op o_leT (c_var 4) (c_ix x_list (c_var 2) (c_op o_sub (c_var 3) (c_c (v := .int 1) rfl))))))))
 (c_ret (c_ytup (c_ocons (c_yR (c_c (v := .str "ties") rfl)) (c_ocons (c_ymov 3) c_onil))))
 c_next))
 (c_ret (c_yR (c_c (v := .non) rfl))))))))
theorem ok_look_at_web (B : Bn mg) (T : Tp kf.K mg "look_at_web" s_look_at_web) (d_web_fault : Dq P kf.w kf.K mg base "web_fault" 3 ["thing"] (spP 1 SH.m_web_fault)) : FnQ P kf.w kf.K mg base CX0 4 T.a T.fd ["thing"] (spP 1 SH.m_look_at_web) := by
  refine fnq_of T.F sc_look_at_web (spP_len rfl) fun cdv A outer s H vs Q E hr hg h => ?_
  refine ⟨_, PSs.nox (pss_cons (ps_set (i := 1) sc_look_at_web.nd rfl (Or.inl rfl) (pe_callQ d_web_fault.G (hr.mono (by decide)) hg (by rfl) d_web_fault.g d_web_fault.kp d_web_fault.b pass0 (pa_cons (pv 0) pa_nil)))
 (pss_one (ps_if (pt_cmpR op_notN (pv 1) pe_non (nomark _))
 (pss_cons (ps_asg (pv 1) (pg_tup rfl (pgs_cons (pg_name (i := 2) sc_look_at_web.nd rfl (Or.inl rfl)) (pgs_cons (pg_name (i := 3) sc_look_at_web.nd rfl (Or.inl rfl)) pgs_nil))))
 (pss_one ps_never))
 pss_nil))), tie_plain (n := 1) (k := 3) (B := SH.B_look_at_web) rfl ?_ h⟩
  exact (c_seq (c_asg (c_ycallA (c_qcons (c_var 0) c_qnil) (c_lcons (c_dY (c_yvar 0)) c_lnil)))
 (c_sif (c_tR (c_bR (c_op o_notN (c_var 1) (c_c (v := .non) rfl))))
 (c_seq (c_asgG (c_dY (c_yvar 1)) (c_gtup (c_gscons (c_gname 2) (c_gscons (c_gname 3) c_gsnil))))
 (c_never _))
 c_next))
theorem ok_far_from (B : Bn mg) (T : Tp kf.K mg "far_from" s_far_from) : FnQ P kf.w kf.K mg base CX0 1 T.a T.fd ["beside", "place"] (spP 2 SH.m_far_from) := by
  refine fnq_of T.F sc_far_from (spP_len rfl) fun cdv A outer s H vs Q E hr hg h => ?_
  refine ⟨_, PSs.nox (pss_cons (ps_setLc (i := 2) (own := [("_", 3)]) rfl sc_far_from.nd rfl rfl (sw_true rfl rfl rfl (by decide +kernel)) (pi_listK (K := kf.K) rfl (pv 0)) (blkOk_by (own := [("_", 3)]) (N := ["beside", "place", "far", "_", "steps", "ring", "next_ring", "here", "there"]) (sc := defScope s_far_from) (by decide +kernel)) (fun _ _ _ _ _ => (pg_name (i := 3) sc_far_from.nd rfl (Or.inl rfl))) (fun _ _ _ _ _ => pts_nil) (fun _ _ _ _ _ => pe_non))
 (pss_cons (ps_asg pe_int (pg_sub (pv 2) (pv 1) set_list))
 (pss_cons (ps_set (i := 4) sc_far_from.nd rfl (Or.inl rfl) pe_int)
 (pss_cons (ps_set (i := 5) sc_far_from.nd rfl (Or.inl rfl) (pe_lst (pa_cons (pv 1) pa_nil)))
 (pss_cons (ps_while PassesOwn.never (pt_truth (pv 5) (by intro _; rfl))
 (pss_cons (ps_set (i := 4) sc_far_from.nd rfl (Or.inl rfl) (pe_op op_add (pv 4) pe_int))
 (pss_cons (ps_set (i := 6) sc_far_from.nd rfl (Or.inl rfl) (pe_lst pa_nil))
 (pss_cons (ps_for PassesOwn.never rfl (pi_listK (K := kf.K) rfl (pv 5)) (pg_name (i := 7) sc_far_from.nd rfl (Or.inl rfl))
 (pss_one (ps_for PassesOwn.never rfl (pi_listK (K := kf.K) rfl (pe_ix (ix_listK (K := kf.K) rfl) (pv 0) (pv 7) (fun _ _ => rfl))) (pg_name (i := 8) sc_far_from.nd rfl (Or.inl rfl))
 (pss_one (ps_if (pt_cmpR op_isN (pe_ix (ix_listK (K := kf.K) rfl) (pv 2) (pv 8) (fun _ _ => rfl)) pe_non (nomark _))
 (pss_cons (ps_asg (pv 4) (pg_sub (pv 2) (pv 8) set_list))
 (pss_one (ps_expr (pe_bmK (K := kf.K) rfl PySem.F.plainAttrs_list PySem.F.slot_list_append PySem.F.type_list_append mt_append (pv 6) (pa_cons (pv 8) pa_nil)))))
 pss_nil)))))
 (pss_one (ps_set (i := 5) sc_far_from.nd rfl (Or.inl rfl) (pv 6)))))))
 (pss_one (ps_ret (pv 2)))))))), tie_plain (n := 2) (k := 7) (B := SH.B_far_from) rfl ?_ h⟩
  exact (c_seq (c_asg (c_ylc (vs := [3]) (c_iL (c_dY (c_yvar 0))) (c_gname 3) (by decide) c_tyes (c_yR (c_c (v := .non) rfl))))
 (c_seq (c_setP (c_pvar 2) (c_var 1) (c_yR (c_c (v := .int 0) rfl)))
 (c_seq (c_asg (c_yR (c_c (v := .int 0) rfl)))
 (c_seq (c_asg (c_ylst (c_ocons (c_yvar 1) c_onil)))
 (c_seq (c_while (c_tR (c_bList (c_var 5)))
 (c_seq (c_asg (c_yR (c_op o_add (c_var 4) (c_c (v := .int 1) rfl))))
 (c_seq (c_asg (c_ylst c_onil))
 (c_seq (c_for (c_iL (c_dY (c_yvar 5))) (c_gname 7)
 (c_for (c_iL (c_dY (c_yauto (c_ix x_list (c_var 0) (c_var 7)) (c_yD (c_dixR x_list (c_dY (c_yvar 0)) (c_var 7)))))) (c_gname 8)
 (c_sif (c_tR (c_bR (c_op o_isN (c_ix x_list (c_var 2) (c_var 8)) (c_c (v := .non) rfl))))
 (c_seq (c_setP (c_pvar 2) (c_var 8) (c_yvar 4))
 (c_app (c_yvar 8)))
 c_next)))
 (c_asg (c_yvar 6))))))
 (c_ret (c_ymov 2)))))))
theorem ok_reached_from (B : Bn mg) (T : Tp kf.K mg "reached_from" s_reached_from) (d_far_from : Dq P kf.w kf.K mg base "far_from" 1 ["beside", "place"] (spP 2 SH.m_far_from)) : FnQ P kf.w kf.K mg base CX0 2 T.a T.fd ["beside", "place"] (spP 2 m_reached_from) := by
  refine fnq_of T.F sc_reached_from (spP_len rfl) fun cdv A outer s H vs Q E hr hg h => ?_
  refine ⟨_, PSs.nox (pss_one (ps_ret (pe_lc (own := [("there", 2), ("steps", 3)]) rfl sc_reached_from.nd (pi_enum (by rfl) B.n_enumerate (pa_cons (pe_callQ d_far_from.G (hr.mono (by decide)) hg (by rfl) d_far_from.g d_far_from.kp d_far_from.b pass0 (pa_cons (pv 0) (pa_cons (pv 1) pa_nil))) pa_nil)) (blkOk_by (own := [("there", 2), ("steps", 3)]) (N := ["beside", "place", "there", "steps"]) (sc := defScope s_reached_from) (by decide +kernel)) (fun _ _ _ _ _ => (pg_tupK (K := kf.K) (n := 2) rfl rfl (pgs_cons (pg_name (i := 2) sc_reached_from.nd rfl (Or.inl rfl)) (pgs_cons (pg_name (i := 3) sc_reached_from.nd rfl (Or.inl rfl)) pgs_nil)))) (fun _ _ _ _ _ => pts_one (pt_cmpR op_notN (pv 3) pe_non (nomark _))) (fun _ _ _ _ _ => (pv 2))))), tie_plain (n := 2) (k := 2) (B := B_reached_from) rfl ?_ h⟩
  exact (c_ret (c_ylc (vs := [2, 3]) (c_iE (c_lcons (c_dY (c_ycallA (c_qcons (c_var 0) (c_qcons (c_var 1) c_qnil)) (c_lcons (c_dY (c_yvar 0)) (c_lcons (c_dY (c_yvar 1)) c_lnil)))) c_lnil)) (c_gtup (c_gscons (c_gname 2) (c_gscons (c_gname 3) c_gsnil))) (by decide) (c_tR (c_bR (c_op o_notN (c_var 3) (c_c (v := .non) rfl)))) (c_yvar 2)))
end
end z06
namespace z06
open PySem L2 PL MR SA SH SQ
open PySem L2 PL
local macro_rules | `(tactic| walk_at "sd") => `(tactic| first | rfl | assumption | omega | decide)
section
variable {P : Program} [kf : KF] {mg : Str → Option Value} {base : Heap}
theorem ok_pieces_by (B : Bn mg) (T : Tp kf.K mg "pieces_by" s_pieces_by) (d_reached_from : Dq P kf.w kf.K mg base "reached_from" 2 ["beside", "place"] (spP 2 m_reached_from)) : FnQ P kf.w kf.K mg base CX0 3 T.a T.fd ["beside"] (spP 1 m_pieces_by) := by
  refine fnq_of T.F sc_pieces_by (spP_len rfl) fun cdv A outer s H vs Q E hr hg h => ?_
  refine ⟨_, PSs.nox (pss_cons (ps_set (i := 1) sc_pieces_by.nd rfl (Or.inl rfl) (pe_callTy0 cr_set0 (by rfl) B.n_set (by decide +kernel)))
 (pss_cons (ps_set (i := 2) sc_pieces_by.nd rfl (Or.inl rfl) (pe_lst pa_nil))
 (pss_cons (ps_for PassesOwn.never rfl (pi_range1 (by rfl) B.n_range (pa_cons (pe_callB (call_len_seqK (K := kf.K) rfl) (by rfl) B.n_len PySem.boot_len (pa_cons (pv 0) pa_nil)) pa_nil)) (pg_name (i := 3) sc_pieces_by.nd rfl (Or.inl rfl))
 (pss_one (ps_if (pt_cmpR or_snotin (pv 3) (pv 1) (by rfl))
 (pss_cons (ps_set (i := 4) sc_pieces_by.nd rfl (Or.inl rfl) (pe_callQ d_reached_from.G (hr.mono (by decide)) hg (by rfl) d_reached_from.g d_reached_from.kp d_reached_from.b pass0 (pa_cons (pv 0) (pa_cons (pv 3) pa_nil))))
 (pss_cons (ps_for PassesOwn.never rfl (pi_listK (K := kf.K) rfl (pv 4)) (pg_name (i := 5) sc_pieces_by.nd rfl (Or.inl rfl))
 (pss_one (ps_expr (pe_sadd (pv 1) (pa_cons (pv 5) pa_nil)))))
 (pss_one (ps_expr (pe_bmK (K := kf.K) rfl PySem.F.plainAttrs_list PySem.F.slot_list_append PySem.F.type_list_append mt_append (pv 2) (pa_cons (pv 4) pa_nil))))))
 pss_nil)))
 (pss_one (ps_ret (pv 2)))))), tie_plain (n := 1) (k := 5) (B := B_pieces_by) rfl ?_ h⟩
  exact (c_seq (c_asg c_set0)
 (c_seq (c_asg (c_ylst c_onil))
 (c_seq (c_for (c_iR1 (c_lcons (c_dR (c_cb b_len (c_qcons (c_var 0) c_qnil))) c_lnil)) (c_gname 3)
 (c_sif (c_tR (c_bR (c_notInS (c_var 3))))
 (c_seq (c_asg (c_ycallA (c_qcons (c_var 0) (c_qcons (c_var 3) c_qnil)) (c_lcons (c_dY (c_yvar 0)) (c_lcons (c_dY (c_yvar 3)) c_lnil))))
 (c_seq (c_forW
 (c_sadd (c_var 5)))
 (c_app (c_ymov 4))))
 c_next))
 (c_ret (c_ymov 2)))))
theorem ok_beside_all (B : Bn mg) (T : Tp kf.K mg "beside_all" s_beside_all) : FnQ P kf.w kf.K mg base CX0 1 T.a T.fd ["web"] (spP 1 SH.m_beside_all) := by
  refine fnq_of T.F sc_beside_all (spP_len rfl) fun cdv A outer s H vs Q E hr hg h => ?_
  refine ⟨_, PSs.nox (pss_cons (ps_asg (pv 0) (pg_tup rfl (pgs_cons (pg_name (i := 1) sc_beside_all.nd rfl (Or.inl rfl)) (pgs_cons (pg_name (i := 2) sc_beside_all.nd rfl (Or.inl rfl)) pgs_nil))))
 (pss_cons (ps_setLc (i := 3) (own := [("_", 4)]) rfl sc_beside_all.nd rfl rfl (sw_true rfl rfl rfl (by decide +kernel)) (pi_range1 (by rfl) B.n_range (pa_cons (pv 1) pa_nil)) (blkOk_by (own := [("_", 4)]) (N := ["web", "many", "ties", "beside", "_", "one", "other"]) (sc := defScope s_beside_all) (by decide +kernel)) (fun _ _ _ _ _ => (pg_name (i := 4) sc_beside_all.nd rfl (Or.inl rfl))) (fun _ _ _ _ _ => pts_nil) (fun _ _ _ _ _ => (pe_lst pa_nil)))
 (pss_cons (ps_for PassesOwn.never rfl (pi_listK (K := kf.K) rfl (pv 2)) (pg_tup rfl (pgs_cons (pg_name (i := 5) sc_beside_all.nd rfl (Or.inl rfl)) (pgs_cons (pg_name (i := 6) sc_beside_all.nd rfl (Or.inl rfl)) pgs_nil)))
 (pss_cons (ps_expr (pe_bmK (K := kf.K) rfl PySem.F.plainAttrs_list PySem.F.slot_list_append PySem.F.type_list_append mt_append (pe_ix (ix_listK (K := kf.K) rfl) (pv 3) (pv 5) (fun _ _ => rfl)) (pa_cons (pv 6) pa_nil)))
 (pss_one (ps_expr (pe_bmK (K := kf.K) rfl PySem.F.plainAttrs_list PySem.F.slot_list_append PySem.F.type_list_append mt_append (pe_ix (ix_listK (K := kf.K) rfl) (pv 3) (pv 6) (fun _ _ => rfl)) (pa_cons (pv 5) pa_nil))))))
 (pss_one (ps_ret (pv 3)))))), tie_plain (n := 1) (k := 6) (B := SH.B_beside_all) rfl ?_ h⟩
  exact (c_seq (c_asgG (c_dY (c_yvar 0)) (c_gtup (c_gscons (c_gname 1) (c_gscons (c_gname 2) c_gsnil))))
 (c_seq (c_asg (c_ylc (vs := [4]) (c_iR1 (c_lcons (c_dY (c_yvar 1)) c_lnil)) (c_gname 4) (by decide) c_tyes (c_ylst c_onil)))
 (c_seq (c_for (c_iL (c_dY (c_yvar 2))) (c_gtup (c_gscons (c_gname 5) (c_gscons (c_gname 6) c_gsnil)))
 (c_seq (c_appP (c_pix (c_pvar 3) (c_var 5)) (c_fR (c_var 6)))
 (c_appP (c_pix (c_pvar 3) (c_var 6)) (c_fR (c_var 5)))))
 (c_ret (c_ymov 3)))))
theorem ok_pieces (B : Bn mg) (T : Tp kf.K mg "pieces" s_pieces) (d_look_at_web : Dq P kf.w kf.K mg base "look_at_web" 4 ["thing"] (spP 1 SH.m_look_at_web)) (d_pieces_by : Dq P kf.w kf.K mg base "pieces_by" 3 ["beside"] (spP 1 m_pieces_by)) (d_beside_all : Dq P kf.w kf.K mg base "beside_all" 1 ["web"] (spP 1 SH.m_beside_all)) : FnQ P kf.w kf.K mg base CX0 5 T.a T.fd ["web"] (spP 1 m_pieces) := by
  refine fnq_of T.F sc_pieces (spP_len rfl) fun cdv A outer s H vs Q E hr hg h => ?_
  refine ⟨_, PSs.nox (pss_cons (ps_expr (pe_callQ d_look_at_web.G (hr.mono (by decide)) hg (by rfl) d_look_at_web.g d_look_at_web.kp d_look_at_web.b pass0 (pa_cons (pv 0) pa_nil)))
 (pss_one (ps_ret (pe_callQ d_pieces_by.G (hr.mono (by decide)) hg (by rfl) d_pieces_by.g d_pieces_by.kp d_pieces_by.b pass0 (pa_cons (pe_callQ d_beside_all.G (hr.mono (by decide)) hg (by rfl) d_beside_all.g d_beside_all.kp d_beside_all.b pass0 (pa_cons (pv 0) pa_nil)) pa_nil))))), tie_plain (n := 1) (k := 0) (B := B_pieces) rfl ?_ h⟩
  exact (c_seq (c_drop (c_ycallA (c_qcons (c_var 0) c_qnil) (c_lcons (c_dY (c_yvar 0)) c_lnil)))
 (c_ret (c_ycallA (c_qcons (c_call (c_qcons (c_var 0) c_qnil)) c_qnil) (c_lcons (c_dY (c_ycallA (c_qcons (c_var 0) c_qnil) (c_lcons (c_dY (c_yvar 0)) c_lnil))) c_lnil))))
theorem ok_hangs (B : Bn mg) (T : Tp kf.K mg "hangs" s_hangs) (d_far_from : Dq P kf.w kf.K mg base "far_from" 1 ["beside", "place"] (spP 2 SH.m_far_from)) (d_beside_all : Dq P kf.w kf.K mg base "beside_all" 1 ["web"] (spP 1 SH.m_beside_all)) : FnQ P kf.w kf.K mg base CX0 2 T.a T.fd ["web"] (spP 1 SH.m_hangs) := by
  refine fnq_of T.F sc_hangs (spP_len rfl) fun cdv A outer s H vs Q E hr hg h => ?_
  refine ⟨_, PSs.nox (pss_one (ps_ret (pe_cmpR (op_notInDK (K := kf.K) rfl (hu65 hr)) pe_non (pe_callQ d_far_from.G (hr.mono (by decide)) hg (by rfl) d_far_from.g d_far_from.kp d_far_from.b pass0 (pa_cons (pe_callQ d_beside_all.G (hr.mono (by decide)) hg (by rfl) d_beside_all.g d_beside_all.kp d_beside_all.b pass0 (pa_cons (pv 0) pa_nil)) (pa_cons pe_int pa_nil))) (by rfl)))), tie_plain (n := 1) (k := 0) (B := SH.B_hangs) rfl ?_ h⟩
  exact (c_ret (c_yR (c_op o_notInD (c_c (v := .non) rfl) (c_call (c_qcons (c_call (c_qcons (c_var 0) c_qnil)) (c_qcons (c_c (v := .int 0) rfl) c_qnil))))))
theorem ok_hangs_together (B : Bn mg) (T : Tp kf.K mg "hangs_together" s_hangs_together) (d_look_at_web : Dq P kf.w kf.K mg base "look_at_web" 4 ["thing"] (spP 1 SH.m_look_at_web)) (d_hangs : Dq P kf.w kf.K mg base "hangs" 2 ["web"] (spP 1 SH.m_hangs)) : FnQ P kf.w kf.K mg base CX0 5 T.a T.fd ["web"] (spP 1 m_hangs_together) := by
  refine fnq_of T.F sc_hangs_together (spP_len rfl) fun cdv A outer s H vs Q E hr hg h => ?_
  refine ⟨_, PSs.nox (pss_cons (ps_expr (pe_callQ d_look_at_web.G (hr.mono (by decide)) hg (by rfl) d_look_at_web.g d_look_at_web.kp d_look_at_web.b pass0 (pa_cons (pv 0) pa_nil)))
 (pss_one (ps_ret (pe_callQ d_hangs.G (hr.mono (by decide)) hg (by rfl) d_hangs.g d_hangs.kp d_hangs.b pass0 (pa_cons (pv 0) pa_nil))))), tie_plain (n := 1) (k := 0) (B := B_hangs_together) rfl ?_ h⟩
  exact (c_seq (c_drop (c_ycallA (c_qcons (c_var 0) c_qnil) (c_lcons (c_dY (c_yvar 0)) c_lnil)))
 (c_ret (c_ycallA (c_qcons (c_var 0) c_qnil) (c_lcons (c_dY (c_yvar 0)) c_lnil))))
theorem ok__law_pieces_right (B : Bn mg) (T : Tp kf.K mg "_law_pieces_right" s__law_pieces_right) (d_pieces : Dq P kf.w kf.K mg base "pieces" 5 ["web"] (spP 1 m_pieces)) (d_hangs_together : Dq P kf.w kf.K mg base "hangs_together" 5 ["web"] (spP 1 m_hangs_together)) : FnQ P kf.w kf.K mg base CX0 6 T.a T.fd ["_law_web_here", "_law_due"] (spP 2 m__law_pieces_right) := by
  refine fnq_of T.F sc__law_pieces_right (spP_len rfl) fun cdv A outer s H vs Q E hr hg h => ?_
  refine ⟨_, PSs.nox (pss_cons (ps_set (i := 2) sc__law_pieces_right.nd rfl (Or.inl rfl) (pe_callQ d_pieces.G (hr.mono (by decide)) hg (by rfl) d_pieces.g d_pieces.kp d_pieces.b pass0 (pa_cons (pv 0) pa_nil)))
 (pss_cons (ps_if (PW.pt (pw_or (pt_not (pt_val (pe_callB (call_isiKK (K := kf.K) rfl) (by rfl) B.n_isinstance (by decide +kernel) (pa_cons (pv 2) (pa_cons (pe_bltn (v := .ty "list") (u := .type "list") (by rfl) B.n_list (by decide +kernel) rfl) pa_nil))))) (pw_or1 (pt_cmpR op_ne (pe_callB (cr_reprK (K := kf.K) rfl hg hr.units) (by rfl) B.n_repr (by decide +kernel) (pa_cons (pv 2) pa_nil)) (pe_callB (cr_reprK (K := kf.K) rfl hg hr.units) (by rfl) B.n_repr (by decide +kernel) (pa_cons (pv 1) pa_nil)) (nomark _)))))
 (pss_one (ps_ret pe_bl))
 pss_nil)
 (pss_cons (ps_for PassesOwn.never rfl (pi_range1 (by rfl) B.n_range (pa_cons (pe_callB (call_len_seqK (K := kf.K) rfl) (by rfl) B.n_len PySem.boot_len (pa_cons (pv 2) pa_nil)) pa_nil)) (pg_name (i := 3) sc__law_pieces_right.nd rfl (Or.inl rfl))
 (pss_cons (ps_expr (pe_bmK (K := kf.K) rfl PySem.F.plainAttrs_list PySem.F.slot_list_append PySem.F.type_list_append mt_append (pe_ix (ix_listK (K := kf.K) rfl) (pv 2) (pv 3) (fun _ _ => rfl)) (pa_cons pe_non pa_nil)))
 (pss_one (ps_if (pt_cmpR (op_neDK (K := kf.K) rfl hr.units) (pe_slice (sl_listK (K := kf.K) rfl) (pv 2) (po_some (pe_op op_add (pv 3) pe_int)) po_none) (pe_slice (sl_listK (K := kf.K) rfl) (pv 1) (po_some (pe_op op_add (pv 3) pe_int)) po_none) (nomark _))
 (pss_one (ps_ret pe_bl))
 pss_nil))))
 (pss_cons (ps_expr (pe_bm0K' (K := kf.K) rfl PySem.F.plainAttrs_list PySem.F.slot_list_clear PySem.F.type_list_clear mt_clear (pv 2)))
 (pss_cons (ps_set (i := 4) sc__law_pieces_right.nd rfl (Or.inl rfl) (pe_callQ d_hangs_together.G (hr.mono (by decide)) hg (by rfl) d_hangs_together.g d_hangs_together.kp d_hangs_together.b pass0 (pa_cons (pv 0) pa_nil)))
 (pss_one (ps_ret (pe_and (pe_cmpR (op_eqDK (K := kf.K) rfl hr.units) (pe_callQ d_pieces.G (hr.mono (by decide)) hg (by rfl) d_pieces.g d_pieces.kp d_pieces.b pass0 (pa_cons (pv 0) pa_nil)) (pv 1) (nomark _)) (pe_and (pe_callB (call_isiKK (K := kf.K) rfl) (by rfl) B.n_isinstance (by decide +kernel) (pa_cons (pv 4) (pa_cons (pe_bltn (v := .ty "bool") (u := .type "bool") (by rfl) B.n_bool (by decide +kernel) rfl) pa_nil))) (pe_one (pe_cmpR op_eq (pv 4) (pe_cmpR op_eq (pe_callB (call_len_seqK (K := kf.K) rfl) (by rfl) B.n_len PySem.boot_len (pa_cons (pv 1) pa_nil)) pe_int (nomark _)) (nomark _)))))))))))), tie_plain (n := 2) (k := 3) (B := B__law_pieces_right) rfl ?_ h⟩
  exact (c_seq (c_asg (c_ycallA (c_qcons (c_var 0) c_qnil) (c_lcons (c_dY (c_yvar 0)) c_lnil)))
 (c_seq (c_sif (c_tR (c_bOr (c_bNot (c_bB (c_is (c_var 2)))) (c_bR (c_op o_neS (c_repr (c_var 2)) (c_repr (c_var 1))))))
 (c_ret (c_yR (c_c (v := .bl false) rfl)))
 c_next)
 (c_seq (c_for (c_iR1 (c_lcons (c_dR (c_cb b_len (c_qcons (c_var 2) c_qnil))) c_lnil)) (c_gname 3)
 (c_seq (c_appP (c_pix (c_pvar 2) (c_var 3)) (c_fR (c_c (v := .non) rfl)))
 (c_sif (c_tR (c_bR (c_op o_neD (c_rsl (c_var 2) (c_csome (c_op o_add (c_var 3) (c_c (v := .int 1) rfl))) c_cnone) (c_rsl (c_var 1) (c_csome (c_op o_add (c_var 3) (c_c (v := .int 1) rfl))) c_cnone))))
 (c_ret (c_yR (c_c (v := .bl false) rfl)))
 c_next)))
 (c_seq (c_clrP (c_pvar 2))
 (c_seq (c_asg (c_ycallA (c_qcons (c_var 0) c_qnil) (c_lcons (c_dY (c_yvar 0)) c_lnil)))
 (c_ret (c_yR (c_and (c_op o_eqD (c_call (c_qcons (c_var 0) c_qnil)) (c_var 1)) (c_and (c_is (c_var 4)) (c_op o_eqI (c_var 4) (c_op o_eqI (c_cb b_len (c_qcons (c_var 1) c_qnil)) (c_c (v := .int 1) rfl))))))))))))
theorem ok__law_lists (B : Bn mg) (T : Tp kf.K mg "_law_lists" s__law_lists) (d__law_cell_at : Dq P kf.w kf.K mg base "_law_cell_at" 1 ["_law_script", "_law_k"] (spP 2 SQ.m__law_cell_at)) (d__law_numbers : Dq P kf.w kf.K mg base "_law_numbers" 1 ["_law_cell", "_law_salt", "_law_sizes"] (spP 3 SQ.m__law_numbers)) : FnQ P kf.w kf.K mg base CX0 2 T.a T.fd ["_law_script", "_law_k", "_law_many"] (spP 3 m__law_lists) := by
  refine fnq_of T.F sc__law_lists (spP_len rfl) fun cdv A outer s H vs Q E hr hg h => ?_
  refine ⟨_, PSs.nox (pss_cons (ps_set (i := 3) sc__law_lists.nd rfl (Or.inl rfl) (pe_lst pa_nil))
 (pss_cons (ps_for PassesOwn.never rfl (pi_range1 (by rfl) B.n_range (pa_cons pe_int pa_nil)) (pg_name (i := 4) sc__law_lists.nd rfl (Or.inl rfl))
 (pss_cons (ps_set (i := 5) sc__law_lists.nd rfl (Or.inl rfl) (pe_callQ d__law_cell_at.G (hr.mono (by decide)) hg (by rfl) d__law_cell_at.g d__law_cell_at.kp d__law_cell_at.b pass0 (pa_cons (pv 0) (pa_cons (pe_op op_add (pe_op op_mul pe_int (pv 1)) (pe_op op_mod (pv 4) pe_int)) pa_nil))))
 (pss_cons (ps_set (i := 6) sc__law_lists.nd rfl (Or.inr rfl) (pe_callQ d__law_numbers.G (hr.mono (by decide)) hg (by rfl) d__law_numbers.g d__law_numbers.kp d__law_numbers.b pass0 (pa_cons (pv 5) (pa_cons (pe_op op_add (pe_op op_add pe_int (pe_op op_mul pe_int (pv 1))) (pv 4)) (pa_cons (pe_op (op_catRK (K := kf.K) rfl) (pe_lst (pa_cons (pv 2) pa_nil)) (pe_op op_rep (pe_lst (pa_cons (pe_op op_add pe_int (pv 4)) pa_nil)) (pv 2))) pa_nil)))))
 (pss_cons (ps_setLc (i := 7) (own := [("_law_place", 8)]) rfl sc__law_lists.nd rfl rfl (sw_true rfl rfl rfl (by decide +kernel)) (pi_range1 (by rfl) B.n_range (pa_cons (pv 2) pa_nil)) (blkOk_by (own := [("_law_place", 8)]) (N := ["_law_script", "_law_k", "_law_many", "_law_found", "_law_turn", "_law_cell", "_law_digits", "_law_listed", "_law_place"]) (sc := defScope s__law_lists) (by decide +kernel)) (fun _ _ _ _ _ => (pg_name (i := 8) sc__law_lists.nd rfl (Or.inl rfl))) (fun _ _ _ _ _ => pts_one (pt_cmpR op_eq (pe_ix (ix_listK (K := kf.K) rfl) (pv 6) (pe_op op_add pe_int (pv 8)) (fun _ _ => rfl)) pe_int (nomark _))) (fun _ _ _ _ _ => (pv 8)))
 (pss_one (ps_expr (pe_bmK (K := kf.K) rfl PySem.F.plainAttrs_list PySem.F.slot_list_append PySem.F.type_list_append mt_append (pv 3) (pa_cons (pe_ix (ix_listK (K := kf.K) rfl) (pe_lst (pa_cons (pv 7) (pa_cons (pe_lst (pa_cons (pe_ix (ix_listK (K := kf.K) rfl) (pv 6) pe_int (fun _ _ => rfl)) pa_nil)) pa_nil))) (pe_callTy call_int1 (by rfl) B.n_int (by decide +kernel) (pa_cons (pe_cmpR (op_eqDK (K := kf.K) rfl hr.units) (pv 7) (pe_lst pa_nil) (nomark _)) pa_nil)) (fun _ _ => rfl)) pa_nil))))))))
 (pss_one (ps_ret (pe_op (op_catRK (K := kf.K) rfl) (pv 3) (pe_lst (pa_cons (pe_listRg rfl (by rfl) B.n_list (prg_1 (by rfl) B.n_range (pv 2))) pa_nil))))))), tie_plain (n := 3) (k := 6) (B := B__law_lists) rfl ?_ h⟩
  exact (c_seq (c_asg (c_ylst c_onil))
 (c_seq (c_for (c_iR1 (c_lcons (c_dR (c_c (v := .int 4) rfl)) c_lnil)) (c_gname 4)
 (c_seq (c_asg (c_ycallA (c_qcons (c_var 0) (c_qcons (c_op o_add (c_op o_mul (c_c (v := .int 2) rfl) (c_var 1)) (c_op o_mod (c_var 4) (c_c (v := .int 2) rfl))) c_qnil)) (c_lcons (c_dY (c_yvar 0)) (c_lcons (c_dR (c_op o_add (c_op o_mul (c_c (v := .int 2) rfl) (c_var 1)) (c_op o_mod (c_var 4) (c_c (v := .int 2) rfl)))) c_lnil))))
 (c_seq (c_asg (c_ycall (c_lcons (c_dY (c_yvar 5)) (c_lcons (c_dR (c_op o_add (c_op o_add (c_c (v := .int 1700) rfl) (c_op o_mul (c_c (v := .int 4) rfl) (c_var 1))) (c_var 4))) (c_lcons (c_dY (c_yop z_cat (c_dY (c_ylst (c_ocons (c_yvar 2) c_onil))) (c_dY (c_yrep (c_ylst (c_ocons (c_yR (c_op o_add (c_c (v := .int 2) rfl) (c_var 4))) c_onil)) (c_var 2))))) c_lnil)))))
 (c_seq (c_asg (c_ylc (vs := [8]) (c_iR1 (c_lcons (c_dY (c_yvar 2)) c_lnil)) (c_gname 8) (by decide) (c_tR (c_bR (c_op o_eqI (c_ix x_list (c_var 6) (c_op o_add (c_c (v := .int 1) rfl) (c_var 8))) (c_c (v := .int 0) rfl)))) (c_yvar 8)))
 (c_app (c_yauto (c_ix x_list (c_lst (c_qcons (c_var 7) (c_qcons (c_lst (c_qcons (c_ix x_list (c_var 6) (c_c (v := .int 0) rfl)) c_qnil)) c_qnil))) (c_cb b_int (c_qcons (c_op o_eqD (c_var 7) (c_lst c_qnil)) c_qnil))) (c_yD (c_dixR x_list (c_dY (c_ylst (c_ocons (c_yvar 7) (c_ocons (c_ylst (c_ocons (c_yauto (c_ix x_list (c_var 6) (c_c (v := .int 0) rfl)) (c_yD (c_dixR x_list (c_dY (c_yvar 6)) (c_c (v := .int 0) rfl)))) c_onil)) c_onil)))) (c_cb b_int (c_qcons (c_op o_eqD (c_var 7) (c_lst c_qnil)) c_qnil))))))))))
 (c_ret (c_yop z_cat (c_dY (c_yvar 3)) (c_dY (c_ylst (c_ocons (c_yrng (c_dY (c_yvar 2))) c_onil)))))))
theorem ok_is_place (B : Bn mg) (T : Tp kf.K mg "is_place" s_is_place) (d_is_whole : Dq P kf.w kf.K mg base "is_whole" 1 ["thing"] (spP 1 SH.m_is_whole)) : FnQ P kf.w kf.K mg base CX0 2 T.a T.fd ["many", "thing"] (spP 2 SH.m_is_place) := by
  refine fnq_of T.F sc_is_place (spP_len rfl) fun cdv A outer s H vs Q E hr hg h => ?_
  refine ⟨_, PSs.nox (pss_one (ps_ret (pe_and (pe_callQ d_is_whole.G (hr.mono (by decide)) hg (by rfl) d_is_whole.g d_is_whole.kp d_is_whole.b pass0 (pa_cons (pv 1) pa_nil)) (pe_one (pe_chain op_le op_lt pe_int (pv 1) (pv 0)))))), tie_plain (n := 2) (k := 0) (B := SH.B_is_place) rfl ?_ h⟩
  exact (c_ret (c_yR (c_and (c_call (c_qcons (c_var 1) c_qnil)) (c_ch (c_c (v := .int 0) rfl) (c_var 1) (c_var 0)))))
theorem ok_are_rising (B : Bn mg) (T : Tp kf.K mg "are_rising" s_are_rising) (d_is_place : Dq P kf.w kf.K mg base "is_place" 2 ["many", "thing"] (spP 2 SH.m_is_place)) : FnQ P kf.w kf.K mg base CX0 3 T.a T.fd ["web", "thing"] (spP 2 m_are_rising) := by
  refine fnq_of T.F sc_are_rising (spP_len rfl) fun cdv A outer s H vs Q E hr hg h => ?_
  refine ⟨_, PSs.nox (pss_cons (ps_if (PW.pt (pw_or (pt_not (pt_val (pe_callB (call_isiKK (K := kf.K) rfl) (by rfl) B.n_isinstance (by decide +kernel) (pa_cons (pv 1) (pa_cons (pe_bltn (v := .ty "list") (u := .type "list") (by rfl) B.n_list (by decide +kernel) rfl) pa_nil))))) (pw_or1 (pt_not (pt_truth (pv 1) (by intro _; rfl))))))
 (pss_one (ps_ret pe_bl))
 pss_nil)
 (pss_cons (ps_if (pt_not (pt_val (pe_callB (cr_all rfl) (by rfl) B.n_all (by decide +kernel) (pa_cons (pe_lc (own := [("place", 2)]) rfl sc_are_rising.nd (pi_listK (K := kf.K) rfl (pv 1)) (blkOk_by (own := [("place", 2)]) (N := ["web", "thing", "place", "at"]) (sc := defScope s_are_rising) (by decide +kernel)) (fun _ _ _ _ _ => (pg_name (i := 2) sc_are_rising.nd rfl (Or.inl rfl))) (fun _ _ _ _ _ => pts_nil) (fun _ _ _ _ _ => (pe_callQ d_is_place.G (hr.mono (by decide)) hg (by rfl) d_is_place.g d_is_place.kp d_is_place.b pass0 (pa_cons (pe_ix (ix_tupK (K := kf.K) rfl) (pv 0) pe_int (fun _ _ => rfl)) (pa_cons (pv 2) pa_nil))))) pa_nil))))
 (pss_one (ps_ret pe_bl))
 pss_nil)
 (pss_one (ps_ret (pe_callB (cr_all rfl) (by rfl) B.n_all (by decide +kernel) (pa_cons (pe_lc (own := [("at", 3)]) rfl sc_are_rising.nd (pi_range2 (by rfl) B.n_range (pa_cons pe_int (pa_cons (pe_callB (call_len_seqK (K := kf.K) rfl) (by rfl) B.n_len PySem.boot_len (pa_cons (pv 1) pa_nil)) pa_nil))) (blkOk_by (own := [("at", 3)]) (N := ["web", "thing", "place", "at"]) (sc := defScope s_are_rising) (by decide +kernel)) (fun _ _ _ _ _ => (pg_name (i := 3) sc_are_rising.nd rfl (Or.inl rfl))) (fun _ _ _ _ _ => pts_nil) (fun _ _ _ _ _ => (pe_cmpR op_lt (pe_ix (ix_listK (K := kf.K) rfl) (pv 1) (pe_op op_sub (pv 3) pe_int) (fun _ _ => rfl)) (pe_ix (ix_listK (K := kf.K) rfl) (pv 1) (pv 3) (fun _ _ => rfl)) (nomark _)))) pa_nil)))))), tie_plain (n := 2) (k := 2) (B := B_are_rising) rfl ?_ h⟩
  exact (c_seq (c_sif (c_tR (c_bOr (c_bNot (c_bB (c_is (c_var 1)))) (c_bNot (c_bList (c_var 1)))))
 (c_ret (c_yR (c_c (v := .bl false) rfl)))
 c_next)
 (c_seq (c_sif (c_tnot (c_tDB (c_dcb b_all (c_lcons (c_dY (c_ylc (vs := [2]) (c_iL (c_dY (c_yvar 1))) (c_gname 2) (by decide) c_tyes (c_ycallA (c_qcons (c_ix x_tup (c_var 0) (c_c (v := .int 0) rfl)) (c_qcons (c_var 2) c_qnil)) (c_lcons (c_dY (c_yauto (c_ix x_tup (c_var 0) (c_c (v := .int 0) rfl)) (c_yD (c_dixR x_tup (c_dY (c_yvar 0)) (c_c (v := .int 0) rfl))))) (c_lcons (c_dY (c_yvar 2)) c_lnil))))) c_lnil))))
 (c_ret (c_yR (c_c (v := .bl false) rfl)))
 c_next)
 (c_ret (c_yD (c_dcb b_all (c_lcons (c_dY (c_ylc (vs := [3]) (c_iR2 (c_lcons (c_dR (c_c (v := .int 1) rfl)) (c_lcons (c_dR (c_cb b_len (c_qcons (c_var 1) c_qnil))) c_lnil))) (c_gname 3) (by decide) c_tyes (c_yR (c_op o_lt (c_ix x_list (c_var 1) (c_op o_sub (c_var 3) (c_c (v := .int 1) rfl))) (c_ix x_list (c_var 1) (c_var 3)))))) c_lnil))))))
theorem ok_web_within (B : Bn mg) (T : Tp kf.K mg "web_within" s_web_within) : FnQ P kf.w kf.K mg base CX0 1 T.a T.fd ["ties", "places"] (spP 2 m_web_within) := by
  refine fnq_of T.F sc_web_within (spP_len rfl) fun cdv A outer s H vs Q E hr hg h => ?_
  refine ⟨_, PSs.nox (pss_cons (ps_set (i := 2) sc_web_within.nd rfl (Or.inr rfl) (pe_dc (own := [("at", 3), ("place", 4)]) rfl sc_web_within.nd (pi_enum (by rfl) B.n_enumerate (pa_cons (pv 1) pa_nil)) (blkOk_by (own := [("at", 3), ("place", 4)]) (N := ["ties", "places", "numbers", "at", "place", "one", "other"]) (sc := defScope s_web_within) (by decide +kernel)) (fun _ _ _ _ _ => (pg_tupK (K := kf.K) (n := 2) rfl rfl (pgs_cons (pg_name (i := 3) sc_web_within.nd rfl (Or.inl rfl)) (pgs_cons (pg_name (i := 4) sc_web_within.nd rfl (Or.inl rfl)) pgs_nil)))) (fun _ _ _ _ _ => pts_nil) (fun _ _ _ _ _ => (pv 4)) (fun _ _ _ _ _ => (pv 3))))
 (pss_one (ps_ret (pe_tup (pa_cons (pe_callB (call_len_seqK (K := kf.K) rfl) (by rfl) B.n_len PySem.boot_len (pa_cons (pv 1) pa_nil)) (pa_cons (pe_lc (own := [("one", 5), ("other", 6)]) rfl sc_web_within.nd (pi_listK (K := kf.K) rfl (pv 0)) (blkOk_by (own := [("one", 5), ("other", 6)]) (N := ["ties", "places", "numbers", "at", "place", "one", "other"]) (sc := defScope s_web_within) (by decide +kernel)) (fun _ _ _ _ _ => (pg_tupK (K := kf.K) (n := 2) rfl rfl (pgs_cons (pg_name (i := 5) sc_web_within.nd rfl (Or.inl rfl)) (pgs_cons (pg_name (i := 6) sc_web_within.nd rfl (Or.inl rfl)) pgs_nil)))) (fun _ _ _ _ _ => pts_one (PW.pt (pw_and (pt_cmp (pc_din (hu_of hr) (pv 5) (pv 2)) (by rfl)) (pw_and1 (pt_cmp (pc_din (hu_of hr) (pv 6) (pv 2)) (by rfl)))))) (fun _ _ _ _ _ => (pe_tup (pa_cons (pe_dget (hu_of hr) (pv 2) (pv 5) (fun _ _ => rfl)) (pa_cons (pe_dget (hu_of hr) (pv 2) (pv 6) (fun _ _ => rfl)) pa_nil))))) pa_nil)))))), tie_plain (n := 2) (k := 5) (B := B_web_within) rfl ?_ h⟩
  exact (c_seq (c_asg (c_dcK (vs := [3, 4]) (c_iE (c_lcons (c_dY (c_yvar 1)) c_lnil)) (c_gtup (c_gscons (c_gname 3) (c_gscons (c_gname 4) c_gsnil))) (by decide) (c_var 4) (c_var 3)))
 (c_ret (c_ytup (c_ocons (c_yR (c_cb b_len (c_qcons (c_var 1) c_qnil))) (c_ocons (c_ylc (vs := [5, 6]) (c_iL (c_dY (c_yvar 0))) (c_gtup (c_gscons (c_gname 5) (c_gscons (c_gname 6) c_gsnil))) (by decide) (c_tR (c_bAnd (c_bR (c_inK (c_var 5))) (c_bR (c_inK (c_var 6))))) (c_ytup (c_ocons (c_yR (c_rixK (c_var 5))) (c_ocons (c_yR (c_rixK (c_var 6))) c_onil)))) c_onil)))))
theorem ok_within (B : Bn mg) (T : Tp kf.K mg "within" s_within) (d_look_at_web : Dq P kf.w kf.K mg base "look_at_web" 4 ["thing"] (spP 1 SH.m_look_at_web)) (d_are_rising : Dq P kf.w kf.K mg base "are_rising" 3 ["web", "thing"] (spP 2 m_are_rising)) (d_web_within : Dq P kf.w kf.K mg base "web_within" 1 ["ties", "places"] (spP 2 m_web_within)) : FnQ P kf.w kf.K mg base CX0 5 T.a T.fd ["web", "places"] (spP 2 m_within) := by
  refine fnq_of T.F sc_within (spP_len rfl) fun cdv A outer s H vs Q E hr hg h => ?_
  refine ⟨_, PSs.nox (pss_cons (ps_expr (pe_callQ d_look_at_web.G (hr.mono (by decide)) hg (by rfl) d_look_at_web.g d_look_at_web.kp d_look_at_web.b pass0 (pa_cons (pv 0) pa_nil)))
 (pss_cons (ps_if (pt_not (pt_val (pe_callQ d_are_rising.G (hr.mono (by decide)) hg (by rfl) d_are_rising.g d_are_rising.kp d_are_rising.b pass0 (pa_cons (pv 0) (pa_cons (pv 1) pa_nil)))))
 (pss_one ps_never)
 pss_nil)
 (pss_one (ps_ret (pe_callQ d_web_within.G (hr.mono (by decide)) hg (by rfl) d_web_within.g d_web_within.kp d_web_within.b pass0 (pa_cons (pe_ix (ix_tupK (K := kf.K) rfl) (pv 0) pe_int (fun _ _ => rfl)) (pa_cons (pv 1) pa_nil))))))), tie_plain (n := 2) (k := 0) (B := B_within) rfl ?_ h⟩
  exact (c_seq (c_drop (c_ycallA (c_qcons (c_var 0) c_qnil) (c_lcons (c_dY (c_yvar 0)) c_lnil)))
 (c_seq (c_sif (c_tR (c_bNot (c_bB (c_call (c_qcons (c_var 0) (c_qcons (c_var 1) c_qnil))))))
 (c_never _)
 c_next)
 (c_ret (c_ycallA (c_qcons (c_ix x_tup (c_var 0) (c_c (v := .int 1) rfl)) (c_qcons (c_var 1) c_qnil)) (c_lcons (c_dY (c_yauto (c_ix x_tup (c_var 0) (c_c (v := .int 1) rfl)) (c_yD (c_dixR x_tup (c_dY (c_yvar 0)) (c_c (v := .int 1) rfl))))) (c_lcons (c_dY (c_yvar 1)) c_lnil))))))
theorem ok__law_whole (B : Bn mg) (T : Tp kf.K mg "_law_whole" s__law_whole) : FnQ P kf.w kf.K mg base CX0 1 T.a T.fd ["_law_thing"] (spP 1 m__law_whole) := by
  refine fnq_of T.F sc__law_whole (spP_len rfl) fun cdv A outer s H vs Q E hr hg h => ?_
  refine ⟨_, PSs.nox (pss_one (ps_ret (pe_and (pe_callB (call_isiKK (K := kf.K) rfl) (by rfl) B.n_isinstance (by decide +kernel) (pa_cons (pv 0) (pa_cons (pe_bltn (v := .ty "int") (u := .type "int") (by rfl) B.n_int (by decide +kernel) rfl) pa_nil))) (pe_one (pe_not (pe_callB (call_isiKK (K := kf.K) rfl) (by rfl) B.n_isinstance (by decide +kernel) (pa_cons (pv 0) (pa_cons (pe_bltn (v := .ty "bool") (u := .type "bool") (by rfl) B.n_bool (by decide +kernel) rfl) pa_nil)))))))), tie_plain (n := 1) (k := 0) (B := B__law_whole) rfl ?_ h⟩
  exact (c_ret (c_yR (c_and (c_is (c_var 0)) (c_not (c_is (c_var 0))))))
theorem ok__law_within (B : Bn mg) (T : Tp kf.K mg "_law_within" s__law_within) : FnQ P kf.w kf.K mg base CX0 1 T.a T.fd ["_law_web_here", "_law_listed"] (spP 2 m__law_within) := by
  refine fnq_of T.F sc__law_within (spP_len rfl) fun cdv A outer s H vs Q E hr hg h => ?_
  refine ⟨_, PSs.nox (pss_cons (ps_set (i := 2) sc__law_within.nd rfl (Or.inl rfl) (pe_lst pa_nil))
 (pss_cons (ps_for PassesOwn.never rfl (pi_listK (K := kf.K) rfl (pe_ix (ix_tupK (K := kf.K) rfl) (pv 0) pe_int (fun _ _ => rfl))) (pg_tup rfl (pgs_cons (pg_name (i := 3) sc__law_within.nd rfl (Or.inl rfl)) (pgs_cons (pg_name (i := 4) sc__law_within.nd rfl (Or.inl rfl)) pgs_nil)))
 (pss_one (ps_if (PW.pt (pw_and (pt_cmpR (op_in_seqK (K := kf.K) rfl) (pv 3) (pv 1) (by rfl)) (pw_and1 (pt_cmpR (op_in_seqK (K := kf.K) rfl) (pv 4) (pv 1) (by rfl)))))
 (pss_one (ps_expr (pe_bmK (K := kf.K) rfl PySem.F.plainAttrs_list PySem.F.slot_list_append PySem.F.type_list_append mt_append (pv 2) (pa_cons (pe_tup (pa_cons (pe_bmK (K := kf.K) rfl PySem.F.plainAttrs_list PySem.F.slot_list_index PySem.F.type_list_index (mt_indexK (K := kf.K) rfl) (pv 1) (pa_cons (pv 3) pa_nil)) (pa_cons (pe_bmK (K := kf.K) rfl PySem.F.plainAttrs_list PySem.F.slot_list_index PySem.F.type_list_index (mt_indexK (K := kf.K) rfl) (pv 1) (pa_cons (pv 4) pa_nil)) pa_nil))) pa_nil))))
 pss_nil)))
 (pss_one (ps_ret (pe_tup (pa_cons (pe_callB (call_len_seqK (K := kf.K) rfl) (by rfl) B.n_len PySem.boot_len (pa_cons (pv 1) pa_nil)) (pa_cons (pe_callB (cr_sortA (K := kf.K) rfl (hu65 hr)) (by rfl) B.n_sorted (by decide +kernel) (pa_cons (pv 2) pa_nil)) pa_nil))))))), tie_plain (n := 2) (k := 3) (B := B__law_within) rfl ?_ h⟩
  exact (c_seq (c_asg (c_ylst c_onil))
 (c_seq (c_for (c_iL (c_dY (c_yauto (c_ix x_tup (c_var 0) (c_c (v := .int 1) rfl)) (c_yD (c_dixR x_tup (c_dY (c_yvar 0)) (c_c (v := .int 1) rfl)))))) (c_gtup (c_gscons (c_gname 3) (c_gscons (c_gname 4) c_gsnil)))
 (c_sif (c_tR (c_bAnd (c_bR (c_op (o_inI false) (c_var 3) (c_var 1))) (c_bR (c_op (o_inI false) (c_var 4) (c_var 1)))))
 (c_app (c_ytup (c_ocons (c_yR (c_ridx (c_var 1) (c_var 3))) (c_ocons (c_yR (c_ridx (c_var 1) (c_var 4))) c_onil))))
 c_next))
 (c_ret (c_ytup (c_ocons (c_yR (c_cb b_len (c_qcons (c_var 1) c_qnil))) (c_ocons (c_ycbA z_sortA (c_qcons (c_var 2) c_qnil) (c_lcons (c_dY (c_yvar 2)) c_lnil)) c_onil))))))
theorem ok__law_within_right (B : Bn mg) (T : Tp kf.K mg "_law_within_right" s__law_within_right) (d_within : Dq P kf.w kf.K mg base "within" 5 ["web", "places"] (spP 2 m_within)) (d__law_whole : Dq P kf.w kf.K mg base "_law_whole" 1 ["_law_thing"] (spP 1 m__law_whole)) (d__law_within : Dq P kf.w kf.K mg base "_law_within" 1 ["_law_web_here", "_law_listed"] (spP 2 m__law_within)) (k_within_places : KBinds kf.K d_within.fd ["web", "places"] ["places"] (gApp 1 1) (gApp 1 1)) : FnQ P kf.w kf.K mg base CX0 6 T.a T.fd ["_law_web_here", "_law_listed"] (spP 2 m__law_within_right) := by
  refine fnq_of T.F sc__law_within_right (spP_len rfl) fun cdv A outer s H vs Q E hr hg h => ?_
  refine ⟨_, PSs.nox (pss_cons (ps_set (i := 2) sc__law_within_right.nd rfl (Or.inl rfl) (pe_callTy (call_list_ofK (K := kf.K) rfl) (by rfl) B.n_list (by decide +kernel) (pa_cons (pv 1) pa_nil)))
 (pss_cons (ps_set (i := 3) sc__law_within_right.nd rfl (Or.inl rfl) (pe_callQ d_within.G (hr.mono (by decide)) hg (by rfl) d_within.g d_within.kp d_within.b pass0 (pa_cons (pv 0) (pa_cons (pv 2) pa_nil))))
 (pss_cons (ps_if (PW.pt (pw_or (pt_not (pt_val (pe_callB (call_isiKK (K := kf.K) rfl) (by rfl) B.n_isinstance (by decide +kernel) (pa_cons (pv 3) (pa_cons (pe_bltn (v := .ty "tuple") (u := .type "tuple") (by rfl) B.n_tuple (by decide +kernel) rfl) pa_nil))))) (pw_or (pt_cmpR op_ne (pe_callB (call_len_seqK (K := kf.K) rfl) (by rfl) B.n_len PySem.boot_len (pa_cons (pv 3) pa_nil)) pe_int (nomark _)) (pw_or (pt_not (pt_val (pe_callQ d__law_whole.G (hr.mono (by decide)) hg (by rfl) d__law_whole.g d__law_whole.kp d__law_whole.b pass0 (pa_cons (pe_ix (ix_tupK (K := kf.K) rfl) (pv 3) pe_int (fun _ _ => rfl)) pa_nil)))) (pw_or1 (pt_not (pt_val (pe_callB (call_isiKK (K := kf.K) rfl) (by rfl) B.n_isinstance (by decide +kernel) (pa_cons (pe_ix (ix_tupK (K := kf.K) rfl) (pv 3) pe_int (fun _ _ => rfl)) (pa_cons (pe_bltn (v := .ty "list") (u := .type "list") (by rfl) B.n_list (by decide +kernel) rfl) pa_nil))))))))))
 (pss_one (ps_ret pe_bl))
 pss_nil)
 (pss_cons (ps_if (PW.pt (pw_or (pt_cmpR op_ne (pe_callB (cr_reprK (K := kf.K) rfl hg hr.units) (by rfl) B.n_repr (by decide +kernel) (pa_cons (pv 3) pa_nil)) (pe_callB (cr_reprK (K := kf.K) rfl hg hr.units) (by rfl) B.n_repr (by decide +kernel) (pa_cons (pe_callQ d__law_within.G (hr.mono (by decide)) hg (by rfl) d__law_within.g d__law_within.kp d__law_within.b pass0 (pa_cons (pv 0) (pa_cons (pv 1) pa_nil))) pa_nil)) (nomark _)) (pw_or1 (pt_cmpR (op_neDK (K := kf.K) rfl hr.units) (pv 2) (pv 1) (nomark _)))))
 (pss_one (ps_ret pe_bl))
 pss_nil)
 (pss_cons (ps_expr (pe_bmK (K := kf.K) rfl PySem.F.plainAttrs_list PySem.F.slot_list_append PySem.F.type_list_append mt_append (pe_ix (ix_tupK (K := kf.K) rfl) (pv 3) pe_int (fun _ _ => rfl)) (pa_cons pe_non pa_nil)))
 (pss_one (ps_ret (pe_cmpR (op_eqDK (K := kf.K) rfl hr.units) (pe_callQK d_within.G (hr.mono (by decide)) hg (by rfl) d_within.g d_within.kp k_within_places pass0 (pa_cons (pv 0) pa_nil) (pk_cons (pv 2) pk_nil)) (pe_callQ d__law_within.G (hr.mono (by decide)) hg (by rfl) d__law_within.g d__law_within.kp d__law_within.b pass0 (pa_cons (pv 0) (pa_cons (pv 1) pa_nil))) (nomark _))))))))), tie_plain (n := 2) (k := 2) (B := B__law_within_right) rfl ?_ h⟩
  exact (c_seq (c_asg (c_ycbA z_list (c_qcons (c_var 1) c_qnil) (c_lcons (c_dY (c_yvar 1)) c_lnil)))
 (c_seq (c_asg (c_ycallA (c_qcons (c_var 0) (c_qcons (c_var 2) c_qnil)) (c_lcons (c_dY (c_yvar 0)) (c_lcons (c_dY (c_yvar 2)) c_lnil))))
 (c_seq (c_sif (c_tR (c_bOr (c_bNot (c_bB (c_is (c_var 3)))) (c_bOr (c_bR (c_op o_neI (c_cb b_len (c_qcons (c_var 3) c_qnil)) (c_c (v := .int 2) rfl))) (c_bOr (c_bNot (c_bB (c_call (c_qcons (c_ix x_tup (c_var 3) (c_c (v := .int 0) rfl)) c_qnil)))) (c_bNot (c_bB (c_is (c_ix x_tup (c_var 3) (c_c (v := .int 1) rfl)))))))))
 (c_ret (c_yR (c_c (v := .bl false) rfl)))
 c_next)
 (c_seq (c_sif (c_tR (c_bOr (c_bR (c_op o_neS (c_repr (c_var 3)) (c_repr (c_call (c_qcons (c_var 0) (c_qcons (c_var 1) c_qnil)))))) (c_bR (c_op o_neD (c_var 2) (c_var 1)))))
 (c_ret (c_yR (c_c (v := .bl false) rfl)))
 c_next)
 (c_seq (c_appP (c_pixT (c_pvar 3) (c_c (v := .int 1) rfl)) (c_fR (c_c (v := .non) rfl)))
 (c_ret (c_yR (c_op o_eqD (c_callK (c_qcons (c_var 0) c_qnil) (c_qcons (c_var 2) c_qnil)) (c_call (c_qcons (c_var 0) (c_qcons (c_var 1) c_qnil)))))))))))
theorem ok_law (B : Bn mg) (T : Tp kf.K mg "law" s_law) (d__law_any_web : Dq P kf.w kf.K mg base "_law_any_web" 3 ["_law_script", "_law_k", "_law_salt"] (spP 3 SA.m__law_any_web)) (d__law_pieces : Dq P kf.w kf.K mg base "_law_pieces" 2 ["_law_web_here"] (spP 1 m__law_pieces)) (d__law_pieces_right : Dq P kf.w kf.K mg base "_law_pieces_right" 6 ["_law_web_here", "_law_due"] (spP 2 m__law_pieces_right)) (d__law_lists : Dq P kf.w kf.K mg base "_law_lists" 2 ["_law_script", "_law_k", "_law_many"] (spP 3 m__law_lists)) (d__law_within_right : Dq P kf.w kf.K mg base "_law_within_right" 6 ["_law_web_here", "_law_listed"] (spP 2 m__law_within_right)) (d_within : Dq P kf.w kf.K mg base "within" 5 ["web", "places"] (spP 2 m_within)) (d_hangs_together : Dq P kf.w kf.K mg base "hangs_together" 5 ["web"] (spP 1 m_hangs_together)) (d_pieces : Dq P kf.w kf.K mg base "pieces" 5 ["web"] (spP 1 m_pieces)) : FnQ P kf.w kf.K mg base CX0 7 T.a T.fd ["_law_script"] (spP 1 m_law) := by
  refine fnq_of T.F sc_law (spP_len rfl) fun cdv A outer s H vs Q E hr hg h => ?_
  refine ⟨_, PSs.nox (pss_cons (ps_for PassesOwn.never rfl (pi_range1 (by rfl) B.n_range (pa_cons (pe_callB (call_max2 rfl) (by rfl) B.n_max (by decide +kernel) (pa_cons pe_int (pa_cons (pe_op op_fdivW (pe_op op_add (pe_callB (call_min2 rfl) (by rfl) B.n_min (by decide +kernel) (pa_cons (pe_callB (call_len_seqK (K := kf.K) rfl) (by rfl) B.n_len PySem.boot_len (pa_cons (pv 0) pa_nil)) (pa_cons pe_int pa_nil))) pe_int) pe_int) pa_nil))) pa_nil)) (pg_name (i := 1) sc_law.nd rfl (Or.inl rfl))
 (pss_cons (ps_set (i := 2) sc_law.nd rfl (Or.inl rfl) (pe_callQ d__law_any_web.G (hr.mono (by decide)) hg (by rfl) d__law_any_web.g d__law_any_web.kp d__law_any_web.b pass0 (pa_cons (pv 0) (pa_cons (pv 1) (pa_cons (pe_op op_add pe_int (pe_op op_mul pe_int (pv 1))) pa_nil)))))
 (pss_cons (ps_set (i := 3) sc_law.nd rfl (Or.inl rfl) (pe_tup (pa_cons (pe_ix (ix_tupK (K := kf.K) rfl) (pv 2) pe_int (fun _ _ => rfl)) (pa_cons (pe_callTy (call_list_ofK (K := kf.K) rfl) (by rfl) B.n_list (by decide +kernel) (pa_cons (pe_ix (ix_tupK (K := kf.K) rfl) (pv 2) pe_int (fun _ _ => rfl)) pa_nil)) pa_nil))))
 (pss_cons (ps_set (i := 4) sc_law.nd rfl (Or.inl rfl) (pe_callQ d__law_pieces.G (hr.mono (by decide)) hg (by rfl) d__law_pieces.g d__law_pieces.kp d__law_pieces.b pass0 (pa_cons (pv 2) pa_nil)))
 (pss_cons (ps_if (pt_not (pt_val (pe_callQ d__law_pieces_right.G (hr.mono (by decide)) hg (by rfl) d__law_pieces_right.g d__law_pieces_right.kp d__law_pieces_right.b pass0 (pa_cons (pv 3) (pa_cons (pv 4) pa_nil)))))
 (pss_one (ps_ret pe_bl))
 pss_nil)
 (pss_cons (ps_for PassesOwn.never rfl (pi_listK (K := kf.K) rfl (pe_op (op_catRK (K := kf.K) rfl) (pe_callQ d__law_lists.G (hr.mono (by decide)) hg (by rfl) d__law_lists.g d__law_lists.kp d__law_lists.b pass0 (pa_cons (pv 0) (pa_cons (pv 1) (pa_cons (pe_ix (ix_tupK (K := kf.K) rfl) (pv 2) pe_int (fun _ _ => rfl)) pa_nil)))) (pe_slice (sl_listK (K := kf.K) rfl) (pv 4) po_none (po_some pe_int)))) (pg_name (i := 5) sc_law.nd rfl (Or.inl rfl))
 (pss_one (ps_if (pt_not (pt_val (pe_callQ d__law_within_right.G (hr.mono (by decide)) hg (by rfl) d__law_within_right.g d__law_within_right.kp d__law_within_right.b pass0 (pa_cons (pv 3) (pa_cons (pv 5) pa_nil)))))
 (pss_one (ps_ret pe_bl))
 pss_nil)))
 (pss_one (ps_if (pt_cmpR (op_neDK (K := kf.K) rfl hr.units) (pv 3) (pv 2) (nomark _))
 (pss_one (ps_ret pe_bl))
 pss_nil))))))))
 (pss_one (ps_ret (pe_and (pe_cmpR (op_eqDK (K := kf.K) rfl hr.units) (pe_callQ d_pieces.G (hr.mono (by decide)) hg (by rfl) d_pieces.g d_pieces.kp d_pieces.b pass0 (pa_cons (pe_tup (pa_cons pe_int (pa_cons (pe_lst pa_nil) pa_nil))) pa_nil)) (pe_lst (pa_cons (pe_lst (pa_cons pe_int pa_nil)) (pa_cons (pe_lst (pa_cons pe_int pa_nil)) pa_nil))) (nomark _)) (pe_and (pe_cmpR op_is_bl (pe_callQ d_hangs_together.G (hr.mono (by decide)) hg (by rfl) d_hangs_together.g d_hangs_together.kp d_hangs_together.b pass0 (pa_cons (pe_tup (pa_cons pe_int (pa_cons (pe_lst pa_nil) pa_nil))) pa_nil)) pe_bl (nomark _)) (pe_one (pe_cmpR (op_eqDK (K := kf.K) rfl hr.units) (pe_callQ d_within.G (hr.mono (by decide)) hg (by rfl) d_within.g d_within.kp d_within.b pass0 (pa_cons (pe_tup (pa_cons pe_int (pa_cons (pe_lst (pa_cons (pe_tup (pa_cons pe_int (pa_cons pe_int pa_nil))) pa_nil)) pa_nil))) (pa_cons (pe_lst (pa_cons pe_int pa_nil)) pa_nil))) (pe_tup (pa_cons pe_int (pa_cons (pe_lst pa_nil) pa_nil))) (nomark _)))))))), tie_plain (n := 1) (k := 5) (B := B_law) rfl ?_ h⟩
  exact (c_seq (c_for (c_iR1 (c_lcons (c_dR (c_cb b_max2 (c_qcons (c_c (v := .int 1) rfl) (c_qcons (c_op o_div (c_op o_add (c_cb b_min2 (c_qcons (c_cb b_len (c_qcons (c_var 0) c_qnil)) (c_qcons (c_c (v := .int 32) rfl) c_qnil))) (c_c (v := .int 1) rfl)) (c_c (v := .int 2) rfl)) c_qnil)))) c_lnil)) (c_gname 1)
 (c_seq (c_asg (c_ycallA (c_qcons (c_var 0) (c_qcons (c_var 1) (c_qcons (c_op o_add (c_c (v := .int 1800) rfl) (c_op o_mul (c_c (v := .int 2) rfl) (c_var 1))) c_qnil))) (c_lcons (c_dY (c_yvar 0)) (c_lcons (c_dY (c_yvar 1)) (c_lcons (c_dR (c_op o_add (c_c (v := .int 1800) rfl) (c_op o_mul (c_c (v := .int 2) rfl) (c_var 1)))) c_lnil)))))
 (c_seq (c_asg (c_ytup (c_ocons (c_yauto (c_ix x_tup (c_var 2) (c_c (v := .int 0) rfl)) (c_yD (c_dixR x_tup (c_dY (c_yvar 2)) (c_c (v := .int 0) rfl)))) (c_ocons (c_ycbA z_list (c_qcons (c_ix x_tup (c_var 2) (c_c (v := .int 1) rfl)) c_qnil) (c_lcons (c_dY (c_yauto (c_ix x_tup (c_var 2) (c_c (v := .int 1) rfl)) (c_yD (c_dixR x_tup (c_dY (c_yvar 2)) (c_c (v := .int 1) rfl))))) c_lnil)) c_onil))))
 (c_seq (c_asg (c_ycallA (c_qcons (c_var 2) c_qnil) (c_lcons (c_dY (c_yvar 2)) c_lnil)))
 (c_seq (c_sif (c_tR (c_bNot (c_bB (c_call (c_qcons (c_var 3) (c_qcons (c_var 4) c_qnil))))))
 (c_ret (c_yR (c_c (v := .bl false) rfl)))
 c_next)
 (c_seq (c_for (c_iL (c_dY (c_yopA z_cat (c_call (c_qcons (c_var 0) (c_qcons (c_var 1) (c_qcons (c_ix x_tup (c_var 2) (c_c (v := .int 0) rfl)) c_qnil)))) (c_rsl (c_var 4) c_cnone (c_csome (c_c (v := .int 4) rfl))) (c_dY (c_ycallA (c_qcons (c_var 0) (c_qcons (c_var 1) (c_qcons (c_ix x_tup (c_var 2) (c_c (v := .int 0) rfl)) c_qnil))) (c_lcons (c_dY (c_yvar 0)) (c_lcons (c_dY (c_yvar 1)) (c_lcons (c_dY (c_yauto (c_ix x_tup (c_var 2) (c_c (v := .int 0) rfl)) (c_yD (c_dixR x_tup (c_dY (c_yvar 2)) (c_c (v := .int 0) rfl))))) c_lnil))))) (c_dY (c_yslA (c_var 4) (c_dY (c_yvar 4)) c_cnone (c_csome (c_c (v := .int 4) rfl))))))) (c_gname 5)
 (c_sif (c_tR (c_bNot (c_bB (c_call (c_qcons (c_var 3) (c_qcons (c_var 5) c_qnil))))))
 (c_ret (c_yR (c_c (v := .bl false) rfl)))
 c_next))
 (c_sif (c_tR (c_bR (c_op o_neD (c_var 3) (c_var 2))))
 (c_ret (c_yR (c_c (v := .bl false) rfl)))
 c_next)))))))
 (c_ret (c_yR (c_and (c_op o_eqD (c_call (c_qcons (c_tup (c_qcons (c_c (v := .int 2) rfl) (c_qcons (c_lst c_qnil) c_qnil))) c_qnil)) (c_lst (c_qcons (c_lst (c_qcons (c_c (v := .int 0) rfl) c_qnil)) (c_qcons (c_lst (c_qcons (c_c (v := .int 1) rfl) c_qnil)) c_qnil)))) (c_and (c_op o_isB (c_call (c_qcons (c_tup (c_qcons (c_c (v := .int 1) rfl) (c_qcons (c_lst c_qnil) c_qnil))) c_qnil)) (c_c (v := .bl true) rfl)) (c_op o_eqD (c_call (c_qcons (c_tup (c_qcons (c_c (v := .int 3) rfl) (c_qcons (c_lst (c_qcons (c_tup (c_qcons (c_c (v := .int 0) rfl) (c_qcons (c_c (v := .int 2) rfl) c_qnil))) c_qnil)) c_qnil))) (c_qcons (c_lst (c_qcons (c_c (v := .int 2) rfl) c_qnil)) c_qnil))) (c_tup (c_qcons (c_c (v := .int 1) rfl) (c_qcons (c_lst c_qnil) c_qnil)))))))))
end
end z06
namespace z06
open PySem L2 PL MR SA SH SQ
open PySem L2 PL
local macro_rules | `(tactic| walk_at "sd") => `(tactic| first | rfl | assumption | omega | decide)
theorem all_mk {l : PySem.W.OpenLaw} {w : World} {K : PySem.W.Frag} {h : Heap} {mg : Str → Option Value} {fa : Addr} {f0 : Addr} {od0 an0 : Option Addr} {sl0 : Array (Option Value)} {oc0 kV0 dc0 pm0 cd0 ct0 : Value} {f1 : Addr} {od1 an1 : Option Addr} {sl1 : Array (Option Value)} {oc1 kV1 dc1 pm1 cd1 ct1 : Value} {f2 : Addr} {od2 an2 : Option Addr} {sl2 : Array (Option Value)} {oc2 kV2 dc2 pm2 cd2 ct2 : Value} {f3 : Addr} {od3 an3 : Option Addr} {sl3 : Array (Option Value)} {oc3 kV3 dc3 pm3 cd3 ct3 : Value} {f4 : Addr} {od4 an4 : Option Addr} {sl4 : Array (Option Value)} {oc4 kV4 dc4 pm4 cd4 ct4 : Value} {f5 : Addr} {od5 an5 : Option Addr} {sl5 : Array (Option Value)} {oc5 kV5 dc5 pm5 cd5 ct5 : Value} {f6 : Addr} {od6 an6 : Option Addr} {sl6 : Array (Option Value)} {oc6 kV6 dc6 pm6 cd6 ct6 : Value} {f7 : Addr} {od7 an7 : Option Addr} {sl7 : Array (Option Value)} {oc7 kV7 dc7 pm7 cd7 ct7 : Value} {f8 : Addr} {od8 an8 : Option Addr} {sl8 : Array (Option Value)} {oc8 kV8 dc8 pm8 cd8 ct8 : Value} {f9 : Addr} {od9 an9 : Option Addr} {sl9 : Array (Option Value)} {oc9 kV9 dc9 pm9 cd9 ct9 : Value} {f10 : Addr} {od10 an10 : Option Addr} {sl10 : Array (Option Value)} {oc10 kV10 dc10 pm10 cd10 ct10 : Value} {f11 : Addr} {od11 an11 : Option Addr} {sl11 : Array (Option Value)} {oc11 kV11 dc11 pm11 cd11 ct11 : Value} {f12 : Addr} {od12 an12 : Option Addr} {sl12 : Array (Option Value)} {oc12 kV12 dc12 pm12 cd12 ct12 : Value} {f13 : Addr} {od13 an13 : Option Addr} {sl13 : Array (Option Value)} {oc13 kV13 dc13 pm13 cd13 ct13 : Value} {f14 : Addr} {od14 an14 : Option Addr} {sl14 : Array (Option Value)} {oc14 kV14 dc14 pm14 cd14 ct14 : Value} {f15 : Addr} {od15 an15 : Option Addr} {sl15 : Array (Option Value)} {oc15 kV15 dc15 pm15 cd15 ct15 : Value} {f16 : Addr} {od16 an16 : Option Addr} {sl16 : Array (Option Value)} {oc16 kV16 dc16 pm16 cd16 ct16 : Value} {f17 : Addr} {od17 an17 : Option Addr} {sl17 : Array (Option Value)} {oc17 kV17 dc17 pm17 cd17 ct17 : Value} {f18 : Addr} {od18 an18 : Option Addr} {sl18 : Array (Option Value)} {oc18 kV18 dc18 pm18 cd18 ct18 : Value} {f19 : Addr} {od19 an19 : Option Addr} {sl19 : Array (Option Value)} {oc19 kV19 dc19 pm19 cd19 ct19 : Value} {f20 : Addr} {od20 an20 : Option Addr} {sl20 : Array (Option Value)} {oc20 kV20 dc20 pm20 cd20 ct20 : Value} {f21 : Addr} {od21 an21 : Option Addr} {sl21 : Array (Option Value)} {oc21 kV21 dc21 pm21 cd21 ct21 : Value} {f22 : Addr} {od22 an22 : Option Addr} {sl22 : Array (Option Value)} {oc22 kV22 dc22 pm22 cd22 ct22 : Value} {f23 : Addr} {od23 an23 : Option Addr} {sl23 : Array (Option Value)} {oc23 kV23 dc23 pm23 cd23 ct23 : Value} {f24 : Addr} {od24 an24 : Option Addr} {sl24 : Array (Option Value)} {oc24 kV24 dc24 pm24 cd24 ct24 : Value} {f25 : Addr} {od25 an25 : Option Addr} {sl25 : Array (Option Value)} {oc25 kV25 dc25 pm25 cd25 ct25 : Value} {f26 : Addr} {od26 an26 : Option Addr} {sl26 : Array (Option Value)} {oc26 kV26 dc26 pm26 cd26 ct26 : Value} {f27 : Addr} {od27 an27 : Option Addr} {sl27 : Array (Option Value)} {oc27 kV27 dc27 pm27 cd27 ct27 : Value} {tk2 : Tok} {tk3 : Tok}
  (X : K.In h) (G : h.Ns mainGlobals mg) (hfa : mg "law" = some (.ref fa))
  (a0 : PySem.W.nsIn K mainGlobals "_law_cell_at" = some (some (.ref f0))) (l0 : K.lookup f0 = some ⟨oc0, od0, .func (PySem.W.fnOf "_law_cell_at" "_law_cell_at" (defArgs s__law_cell_at) (defBody s__law_cell_at) (defScope s__law_cell_at) .none kV0 dc0 pm0 an0 cd0 ct0), sl0⟩) (c0 : PySem.W.codeIn K cd0 "_law_cell_at" = true) (k0 : PySem.W.keepIn K (.ref f0) = true)
  (a1 : PySem.W.nsIn K mainGlobals "_law_numbers" = some (some (.ref f1))) (l1 : K.lookup f1 = some ⟨oc1, od1, .func (PySem.W.fnOf "_law_numbers" "_law_numbers" (defArgs s__law_numbers) (defBody s__law_numbers) (defScope s__law_numbers) .none kV1 dc1 pm1 an1 cd1 ct1), sl1⟩) (c1 : PySem.W.codeIn K cd1 "_law_numbers" = true) (k1 : PySem.W.keepIn K (.ref f1) = true)
  (a2 : PySem.W.nsIn K mainGlobals "_law_web" = some (some (.ref f2))) (l2 : K.lookup f2 = some ⟨oc2, od2, .func (PySem.W.fnOf "_law_web" "_law_web" (defArgs s__law_web) (defBody s__law_web) (defScope s__law_web) .none kV2 dc2 pm2 an2 cd2 ct2), sl2⟩) (c2 : PySem.W.codeIn K cd2 "_law_web" = true) (k2 : PySem.W.keepIn K (.ref f2) = true)
  (a3 : PySem.W.nsIn K mainGlobals "_law_any_web" = some (some (.ref f3))) (l3 : K.lookup f3 = some ⟨oc3, od3, .func (PySem.W.fnOf "_law_any_web" "_law_any_web" (defArgs s__law_any_web) (defBody s__law_any_web) (defScope s__law_any_web) .none kV3 dc3 pm3 an3 cd3 ct3), sl3⟩) (c3 : PySem.W.codeIn K cd3 "_law_any_web" = true) (k3 : PySem.W.keepIn K (.ref f3) = true)
  (a4 : PySem.W.nsIn K mainGlobals "_law_beside" = some (some (.ref f4))) (l4 : K.lookup f4 = some ⟨oc4, od4, .func (PySem.W.fnOf "_law_beside" "_law_beside" (defArgs s__law_beside) (defBody s__law_beside) (defScope s__law_beside) .none kV4 dc4 pm4 an4 cd4 ct4), sl4⟩) (c4 : PySem.W.codeIn K cd4 "_law_beside" = true) (k4 : PySem.W.keepIn K (.ref f4) = true)
  (a5 : PySem.W.nsIn K mainGlobals "_law_far" = some (some (.ref f5))) (l5 : K.lookup f5 = some ⟨oc5, od5, .func (PySem.W.fnOf "_law_far" "_law_far" (defArgs s__law_far) (defBody s__law_far) (defScope s__law_far) .none kV5 dc5 pm5 an5 cd5 ct5), sl5⟩) (c5 : PySem.W.codeIn K cd5 "_law_far" = true) (k5 : PySem.W.keepIn K (.ref f5) = true)
  (a6 : PySem.W.nsIn K mainGlobals "_law_pieces" = some (some (.ref f6))) (l6 : K.lookup f6 = some ⟨oc6, od6, .func (PySem.W.fnOf "_law_pieces" "_law_pieces" (defArgs s__law_pieces) (defBody s__law_pieces) (defScope s__law_pieces) .none kV6 dc6 pm6 an6 cd6 ct6), sl6⟩) (c6 : PySem.W.codeIn K cd6 "_law_pieces" = true) (k6 : PySem.W.keepIn K (.ref f6) = true)
  (a7 : PySem.W.nsIn K mainGlobals "is_whole" = some (some (.ref f7))) (l7 : K.lookup f7 = some ⟨oc7, od7, .func (PySem.W.fnOf "is_whole" "is_whole" (defArgs s_is_whole) (defBody s_is_whole) (defScope s_is_whole) .none kV7 dc7 pm7 an7 cd7 ct7), sl7⟩) (c7 : PySem.W.codeIn K cd7 "is_whole" = true) (k7 : PySem.W.keepIn K (.ref f7) = true)
  (a8 : PySem.W.nsIn K mainGlobals "joins_places" = some (some (.ref f8))) (l8 : K.lookup f8 = some ⟨oc8, od8, .func (PySem.W.fnOf "joins_places" "joins_places" (defArgs s_joins_places) (defBody s_joins_places) (defScope s_joins_places) .none kV8 dc8 pm8 an8 cd8 ct8), sl8⟩) (c8 : PySem.W.codeIn K cd8 "joins_places" = true) (k8 : PySem.W.keepIn K (.ref f8) = true)
  (a9 : PySem.W.nsIn K mainGlobals "web_fault" = some (some (.ref f9))) (l9 : K.lookup f9 = some ⟨oc9, od9, .func (PySem.W.fnOf "web_fault" "web_fault" (defArgs s_web_fault) (defBody s_web_fault) (defScope s_web_fault) .none kV9 dc9 pm9 an9 cd9 ct9), sl9⟩) (c9 : PySem.W.codeIn K cd9 "web_fault" = true) (k9 : PySem.W.keepIn K (.ref f9) = true)
  (a10 : PySem.W.nsIn K mainGlobals "look_at_web" = some (some (.ref f10))) (l10 : K.lookup f10 = some ⟨oc10, od10, .func (PySem.W.fnOf "look_at_web" "look_at_web" (defArgs s_look_at_web) (defBody s_look_at_web) (defScope s_look_at_web) .none kV10 dc10 pm10 an10 cd10 ct10), sl10⟩) (c10 : PySem.W.codeIn K cd10 "look_at_web" = true) (k10 : PySem.W.keepIn K (.ref f10) = true)
  (a11 : PySem.W.nsIn K mainGlobals "far_from" = some (some (.ref f11))) (l11 : K.lookup f11 = some ⟨oc11, od11, .func (PySem.W.fnOf "far_from" "far_from" (defArgs s_far_from) (defBody s_far_from) (defScope s_far_from) .none kV11 dc11 pm11 an11 cd11 ct11), sl11⟩) (c11 : PySem.W.codeIn K cd11 "far_from" = true) (k11 : PySem.W.keepIn K (.ref f11) = true)
  (a12 : PySem.W.nsIn K mainGlobals "reached_from" = some (some (.ref f12))) (l12 : K.lookup f12 = some ⟨oc12, od12, .func (PySem.W.fnOf "reached_from" "reached_from" (defArgs s_reached_from) (defBody s_reached_from) (defScope s_reached_from) .none kV12 dc12 pm12 an12 cd12 ct12), sl12⟩) (c12 : PySem.W.codeIn K cd12 "reached_from" = true) (k12 : PySem.W.keepIn K (.ref f12) = true)
  (a13 : PySem.W.nsIn K mainGlobals "pieces_by" = some (some (.ref f13))) (l13 : K.lookup f13 = some ⟨oc13, od13, .func (PySem.W.fnOf "pieces_by" "pieces_by" (defArgs s_pieces_by) (defBody s_pieces_by) (defScope s_pieces_by) .none kV13 dc13 pm13 an13 cd13 ct13), sl13⟩) (c13 : PySem.W.codeIn K cd13 "pieces_by" = true) (k13 : PySem.W.keepIn K (.ref f13) = true)
  (a14 : PySem.W.nsIn K mainGlobals "beside_all" = some (some (.ref f14))) (l14 : K.lookup f14 = some ⟨oc14, od14, .func (PySem.W.fnOf "beside_all" "beside_all" (defArgs s_beside_all) (defBody s_beside_all) (defScope s_beside_all) .none kV14 dc14 pm14 an14 cd14 ct14), sl14⟩) (c14 : PySem.W.codeIn K cd14 "beside_all" = true) (k14 : PySem.W.keepIn K (.ref f14) = true)
  (a15 : PySem.W.nsIn K mainGlobals "pieces" = some (some (.ref f15))) (l15 : K.lookup f15 = some ⟨oc15, od15, .func (PySem.W.fnOf "pieces" "pieces" (defArgs s_pieces) (defBody s_pieces) (defScope s_pieces) .none kV15 dc15 pm15 an15 cd15 ct15), sl15⟩) (c15 : PySem.W.codeIn K cd15 "pieces" = true) (k15 : PySem.W.keepIn K (.ref f15) = true)
  (a16 : PySem.W.nsIn K mainGlobals "hangs" = some (some (.ref f16))) (l16 : K.lookup f16 = some ⟨oc16, od16, .func (PySem.W.fnOf "hangs" "hangs" (defArgs s_hangs) (defBody s_hangs) (defScope s_hangs) .none kV16 dc16 pm16 an16 cd16 ct16), sl16⟩) (c16 : PySem.W.codeIn K cd16 "hangs" = true) (k16 : PySem.W.keepIn K (.ref f16) = true)
  (a17 : PySem.W.nsIn K mainGlobals "hangs_together" = some (some (.ref f17))) (l17 : K.lookup f17 = some ⟨oc17, od17, .func (PySem.W.fnOf "hangs_together" "hangs_together" (defArgs s_hangs_together) (defBody s_hangs_together) (defScope s_hangs_together) .none kV17 dc17 pm17 an17 cd17 ct17), sl17⟩) (c17 : PySem.W.codeIn K cd17 "hangs_together" = true) (k17 : PySem.W.keepIn K (.ref f17) = true)
  (a18 : PySem.W.nsIn K mainGlobals "_law_pieces_right" = some (some (.ref f18))) (l18 : K.lookup f18 = some ⟨oc18, od18, .func (PySem.W.fnOf "_law_pieces_right" "_law_pieces_right" (defArgs s__law_pieces_right) (defBody s__law_pieces_right) (defScope s__law_pieces_right) .none kV18 dc18 pm18 an18 cd18 ct18), sl18⟩) (c18 : PySem.W.codeIn K cd18 "_law_pieces_right" = true) (k18 : PySem.W.keepIn K (.ref f18) = true)
  (a19 : PySem.W.nsIn K mainGlobals "_law_lists" = some (some (.ref f19))) (l19 : K.lookup f19 = some ⟨oc19, od19, .func (PySem.W.fnOf "_law_lists" "_law_lists" (defArgs s__law_lists) (defBody s__law_lists) (defScope s__law_lists) .none kV19 dc19 pm19 an19 cd19 ct19), sl19⟩) (c19 : PySem.W.codeIn K cd19 "_law_lists" = true) (k19 : PySem.W.keepIn K (.ref f19) = true)
  (a20 : PySem.W.nsIn K mainGlobals "is_place" = some (some (.ref f20))) (l20 : K.lookup f20 = some ⟨oc20, od20, .func (PySem.W.fnOf "is_place" "is_place" (defArgs s_is_place) (defBody s_is_place) (defScope s_is_place) .none kV20 dc20 pm20 an20 cd20 ct20), sl20⟩) (c20 : PySem.W.codeIn K cd20 "is_place" = true) (k20 : PySem.W.keepIn K (.ref f20) = true)
  (a21 : PySem.W.nsIn K mainGlobals "are_rising" = some (some (.ref f21))) (l21 : K.lookup f21 = some ⟨oc21, od21, .func (PySem.W.fnOf "are_rising" "are_rising" (defArgs s_are_rising) (defBody s_are_rising) (defScope s_are_rising) .none kV21 dc21 pm21 an21 cd21 ct21), sl21⟩) (c21 : PySem.W.codeIn K cd21 "are_rising" = true) (k21 : PySem.W.keepIn K (.ref f21) = true)
  (a22 : PySem.W.nsIn K mainGlobals "web_within" = some (some (.ref f22))) (l22 : K.lookup f22 = some ⟨oc22, od22, .func (PySem.W.fnOf "web_within" "web_within" (defArgs s_web_within) (defBody s_web_within) (defScope s_web_within) .none kV22 dc22 pm22 an22 cd22 ct22), sl22⟩) (c22 : PySem.W.codeIn K cd22 "web_within" = true) (k22 : PySem.W.keepIn K (.ref f22) = true)
  (a23 : PySem.W.nsIn K mainGlobals "within" = some (some (.ref f23))) (l23 : K.lookup f23 = some ⟨oc23, od23, .func (PySem.W.fnOf "within" "within" (defArgs s_within) (defBody s_within) (defScope s_within) .none kV23 dc23 pm23 an23 cd23 ct23), sl23⟩) (c23 : PySem.W.codeIn K cd23 "within" = true) (k23 : PySem.W.keepIn K (.ref f23) = true)
  (a24 : PySem.W.nsIn K mainGlobals "_law_whole" = some (some (.ref f24))) (l24 : K.lookup f24 = some ⟨oc24, od24, .func (PySem.W.fnOf "_law_whole" "_law_whole" (defArgs s__law_whole) (defBody s__law_whole) (defScope s__law_whole) .none kV24 dc24 pm24 an24 cd24 ct24), sl24⟩) (c24 : PySem.W.codeIn K cd24 "_law_whole" = true) (k24 : PySem.W.keepIn K (.ref f24) = true)
  (a25 : PySem.W.nsIn K mainGlobals "_law_within" = some (some (.ref f25))) (l25 : K.lookup f25 = some ⟨oc25, od25, .func (PySem.W.fnOf "_law_within" "_law_within" (defArgs s__law_within) (defBody s__law_within) (defScope s__law_within) .none kV25 dc25 pm25 an25 cd25 ct25), sl25⟩) (c25 : PySem.W.codeIn K cd25 "_law_within" = true) (k25 : PySem.W.keepIn K (.ref f25) = true)
  (a26 : PySem.W.nsIn K mainGlobals "_law_within_right" = some (some (.ref f26))) (l26 : K.lookup f26 = some ⟨oc26, od26, .func (PySem.W.fnOf "_law_within_right" "_law_within_right" (defArgs s__law_within_right) (defBody s__law_within_right) (defScope s__law_within_right) .none kV26 dc26 pm26 an26 cd26 ct26), sl26⟩) (c26 : PySem.W.codeIn K cd26 "_law_within_right" = true) (k26 : PySem.W.keepIn K (.ref f26) = true)
  (a27 : PySem.W.nsIn K mainGlobals "law" = some (some (.ref f27))) (l27 : K.lookup f27 = some ⟨oc27, od27, .func (PySem.W.fnOf "law" "law" (defArgs s_law) (defBody s_law) (defScope s_law) .none kV27 dc27 pm27 an27 cd27 ct27), sl27⟩) (c27 : PySem.W.codeIn K cd27 "law" = true) (k27 : PySem.W.keepIn K (.ref f27) = true)
  (z0 : PySem.W.nsIn K mainGlobals "all" = some none)
  (z1 : PySem.W.nsIn K mainGlobals "bool" = some none)
  (z2 : PySem.W.nsIn K mainGlobals "MOST_PLACES" = some (some (.int 40 tk2)))
  (z3 : PySem.W.nsIn K mainGlobals "MOST_TIES" = some (some (.int 120 tk3)))
  (z4 : PySem.W.nsIn K mainGlobals "enumerate" = some none)
  (z5 : PySem.W.nsIn K mainGlobals "int" = some none)
  (z6 : PySem.W.nsIn K mainGlobals "isinstance" = some none)
  (z7 : PySem.W.nsIn K mainGlobals "len" = some none)
  (z8 : PySem.W.nsIn K mainGlobals "list" = some none)
  (z9 : PySem.W.nsIn K mainGlobals "max" = some none)
  (z10 : PySem.W.nsIn K mainGlobals "min" = some none)
  (z11 : PySem.W.nsIn K mainGlobals "range" = some none)
  (z12 : PySem.W.nsIn K mainGlobals "repr" = some none)
  (z13 : PySem.W.nsIn K mainGlobals "set" = some none)
  (z14 : PySem.W.nsIn K mainGlobals "sorted" = some none)
  (z15 : PySem.W.nsIn K mainGlobals "tuple" = some none)
  (z16 : PySem.W.nsIn K mainGlobals "zip" = some none) :
  ∃ fd : FuncData, (∀ (s : Shared) (v : Value), BindsTo s fd ⟨[v], []⟩ [("_law_script", v)]) ∧ ∀ base : Heap, K.In base → base.Ns mainGlobals mg → FnQ l.prog w K mg base CX0 7 fa fd ["_law_script"] (@spP ⟨K, w⟩ 1 m_law) := by
  have e := hfa.symm.trans (PySem.W.mg_of X G a27)
  cases e
  letI kf : KF := ⟨K, w⟩
  have B : Bn mg := ⟨PySem.W.mg_none_of X G z0, PySem.W.mg_none_of X G z1, ⟨_, PySem.W.mg_of X G z2⟩, ⟨_, PySem.W.mg_of X G z3⟩, PySem.W.mg_none_of X G z4, PySem.W.mg_none_of X G z5, PySem.W.mg_none_of X G z6, PySem.W.mg_none_of X G z7, PySem.W.mg_none_of X G z8, PySem.W.mg_none_of X G z9, PySem.W.mg_none_of X G z10, PySem.W.mg_none_of X G z11, PySem.W.mg_none_of X G z12, PySem.W.mg_none_of X G z13, PySem.W.mg_none_of X G z14, PySem.W.mg_none_of X G z15, PySem.W.mg_none_of X G z16⟩
  let T__law_cell_at : Tp kf.K mg "_law_cell_at" s__law_cell_at := ⟨_, _, fun_mk (st := s__law_cell_at) l0 c0 k0, PySem.W.mg_of X G a0⟩
  let T__law_numbers : Tp kf.K mg "_law_numbers" s__law_numbers := ⟨_, _, fun_mk (st := s__law_numbers) l1 c1 k1, PySem.W.mg_of X G a1⟩
  let T__law_web : Tp kf.K mg "_law_web" s__law_web := ⟨_, _, fun_mk (st := s__law_web) l2 c2 k2, PySem.W.mg_of X G a2⟩
  let T__law_any_web : Tp kf.K mg "_law_any_web" s__law_any_web := ⟨_, _, fun_mk (st := s__law_any_web) l3 c3 k3, PySem.W.mg_of X G a3⟩
  let T__law_beside : Tp kf.K mg "_law_beside" s__law_beside := ⟨_, _, fun_mk (st := s__law_beside) l4 c4 k4, PySem.W.mg_of X G a4⟩
  let T__law_far : Tp kf.K mg "_law_far" s__law_far := ⟨_, _, fun_mk (st := s__law_far) l5 c5 k5, PySem.W.mg_of X G a5⟩
  let T__law_pieces : Tp kf.K mg "_law_pieces" s__law_pieces := ⟨_, _, fun_mk (st := s__law_pieces) l6 c6 k6, PySem.W.mg_of X G a6⟩
  let T_is_whole : Tp kf.K mg "is_whole" s_is_whole := ⟨_, _, fun_mk (st := s_is_whole) l7 c7 k7, PySem.W.mg_of X G a7⟩
  let T_joins_places : Tp kf.K mg "joins_places" s_joins_places := ⟨_, _, fun_mk (st := s_joins_places) l8 c8 k8, PySem.W.mg_of X G a8⟩
  let T_web_fault : Tp kf.K mg "web_fault" s_web_fault := ⟨_, _, fun_mk (st := s_web_fault) l9 c9 k9, PySem.W.mg_of X G a9⟩
  let T_look_at_web : Tp kf.K mg "look_at_web" s_look_at_web := ⟨_, _, fun_mk (st := s_look_at_web) l10 c10 k10, PySem.W.mg_of X G a10⟩
  let T_far_from : Tp kf.K mg "far_from" s_far_from := ⟨_, _, fun_mk (st := s_far_from) l11 c11 k11, PySem.W.mg_of X G a11⟩
  let T_reached_from : Tp kf.K mg "reached_from" s_reached_from := ⟨_, _, fun_mk (st := s_reached_from) l12 c12 k12, PySem.W.mg_of X G a12⟩
  let T_pieces_by : Tp kf.K mg "pieces_by" s_pieces_by := ⟨_, _, fun_mk (st := s_pieces_by) l13 c13 k13, PySem.W.mg_of X G a13⟩
  let T_beside_all : Tp kf.K mg "beside_all" s_beside_all := ⟨_, _, fun_mk (st := s_beside_all) l14 c14 k14, PySem.W.mg_of X G a14⟩
  let T_pieces : Tp kf.K mg "pieces" s_pieces := ⟨_, _, fun_mk (st := s_pieces) l15 c15 k15, PySem.W.mg_of X G a15⟩
  let T_hangs : Tp kf.K mg "hangs" s_hangs := ⟨_, _, fun_mk (st := s_hangs) l16 c16 k16, PySem.W.mg_of X G a16⟩
  let T_hangs_together : Tp kf.K mg "hangs_together" s_hangs_together := ⟨_, _, fun_mk (st := s_hangs_together) l17 c17 k17, PySem.W.mg_of X G a17⟩
  let T__law_pieces_right : Tp kf.K mg "_law_pieces_right" s__law_pieces_right := ⟨_, _, fun_mk (st := s__law_pieces_right) l18 c18 k18, PySem.W.mg_of X G a18⟩
  let T__law_lists : Tp kf.K mg "_law_lists" s__law_lists := ⟨_, _, fun_mk (st := s__law_lists) l19 c19 k19, PySem.W.mg_of X G a19⟩
  let T_is_place : Tp kf.K mg "is_place" s_is_place := ⟨_, _, fun_mk (st := s_is_place) l20 c20 k20, PySem.W.mg_of X G a20⟩
  let T_are_rising : Tp kf.K mg "are_rising" s_are_rising := ⟨_, _, fun_mk (st := s_are_rising) l21 c21 k21, PySem.W.mg_of X G a21⟩
  let T_web_within : Tp kf.K mg "web_within" s_web_within := ⟨_, _, fun_mk (st := s_web_within) l22 c22 k22, PySem.W.mg_of X G a22⟩
  let T_within : Tp kf.K mg "within" s_within := ⟨_, _, fun_mk (st := s_within) l23 c23 k23, PySem.W.mg_of X G a23⟩
  let T__law_whole : Tp kf.K mg "_law_whole" s__law_whole := ⟨_, _, fun_mk (st := s__law_whole) l24 c24 k24, PySem.W.mg_of X G a24⟩
  let T__law_within : Tp kf.K mg "_law_within" s__law_within := ⟨_, _, fun_mk (st := s__law_within) l25 c25 k25, PySem.W.mg_of X G a25⟩
  let T__law_within_right : Tp kf.K mg "_law_within_right" s__law_within_right := ⟨_, _, fun_mk (st := s__law_within_right) l26 c26 k26, PySem.W.mg_of X G a26⟩
  let T_law : Tp kf.K mg "law" s_law := ⟨_, _, fun_mk (st := s_law) l27 c27 k27, PySem.W.mg_of X G a27⟩
  refine ⟨T_law.fd, fun s v => .of_eq rfl, fun base _ _ => ?_⟩
  let d__law_cell_at : Dq l.prog w kf.K mg base "_law_cell_at" 1 ["_law_script", "_law_k"] (spP 2 SQ.m__law_cell_at) := ⟨T__law_cell_at.a, T__law_cell_at.fd, T__law_cell_at.F.kp, T__law_cell_at.g, ok__law_cell_at B T__law_cell_at , T__law_cell_at.F.binds (ps := ["_law_script", "_law_k"]) fun _ _ _ _ _ _ us hl => match us, hl with | [_, _], _ => rfl⟩
  let d__law_numbers : Dq l.prog w kf.K mg base "_law_numbers" 1 ["_law_cell", "_law_salt", "_law_sizes"] (spP 3 SQ.m__law_numbers) := ⟨T__law_numbers.a, T__law_numbers.fd, T__law_numbers.F.kp, T__law_numbers.g, ok__law_numbers B T__law_numbers , T__law_numbers.F.binds (ps := ["_law_cell", "_law_salt", "_law_sizes"]) fun _ _ _ _ _ _ us hl => match us, hl with | [_, _, _], _ => rfl⟩
  let d__law_web : Dq l.prog w kf.K mg base "_law_web" 2 ["_law_cell", "_law_salt", "_law_most", "_law_more"] (spP 4 SA.m__law_web) := ⟨T__law_web.a, T__law_web.fd, T__law_web.F.kp, T__law_web.g, ok__law_web B T__law_web d__law_numbers, T__law_web.F.binds (ps := ["_law_cell", "_law_salt", "_law_most", "_law_more"]) fun _ _ _ _ _ _ us hl => match us, hl with | [_, _, _, _], _ => rfl⟩
  let d__law_any_web : Dq l.prog w kf.K mg base "_law_any_web" 3 ["_law_script", "_law_k", "_law_salt"] (spP 3 SA.m__law_any_web) := ⟨T__law_any_web.a, T__law_any_web.fd, T__law_any_web.F.kp, T__law_any_web.g, ok__law_any_web B T__law_any_web d__law_cell_at d__law_numbers d__law_web, T__law_any_web.F.binds (ps := ["_law_script", "_law_k", "_law_salt"]) fun _ _ _ _ _ _ us hl => match us, hl with | [_, _, _], _ => rfl⟩
  let d__law_beside : Dq l.prog w kf.K mg base "_law_beside" 1 ["_law_web_here"] (spP 1 SA.m__law_beside) := ⟨T__law_beside.a, T__law_beside.fd, T__law_beside.F.kp, T__law_beside.g, ok__law_beside B T__law_beside , T__law_beside.F.binds (ps := ["_law_web_here"]) fun _ _ _ _ _ _ us hl => match us, hl with | [_], _ => rfl⟩
  let d__law_far : Dq l.prog w kf.K mg base "_law_far" 1 ["_law_beside_here", "_law_place"] (spP 2 SA.m__law_far) := ⟨T__law_far.a, T__law_far.fd, T__law_far.F.kp, T__law_far.g, ok__law_far B T__law_far , T__law_far.F.binds (ps := ["_law_beside_here", "_law_place"]) fun _ _ _ _ _ _ us hl => match us, hl with | [_, _], _ => rfl⟩
  let d__law_pieces : Dq l.prog w kf.K mg base "_law_pieces" 2 ["_law_web_here"] (spP 1 m__law_pieces) := ⟨T__law_pieces.a, T__law_pieces.fd, T__law_pieces.F.kp, T__law_pieces.g, ok__law_pieces B T__law_pieces d__law_beside d__law_far, T__law_pieces.F.binds (ps := ["_law_web_here"]) fun _ _ _ _ _ _ us hl => match us, hl with | [_], _ => rfl⟩
  let d_is_whole : Dq l.prog w kf.K mg base "is_whole" 1 ["thing"] (spP 1 SH.m_is_whole) := ⟨T_is_whole.a, T_is_whole.fd, T_is_whole.F.kp, T_is_whole.g, ok_is_whole B T_is_whole , T_is_whole.F.binds (ps := ["thing"]) fun _ _ _ _ _ _ us hl => match us, hl with | [_], _ => rfl⟩
  let d_joins_places : Dq l.prog w kf.K mg base "joins_places" 2 ["many", "thing"] (spP 2 SH.m_joins_places) := ⟨T_joins_places.a, T_joins_places.fd, T_joins_places.F.kp, T_joins_places.g, ok_joins_places B T_joins_places d_is_whole, T_joins_places.F.binds (ps := ["many", "thing"]) fun _ _ _ _ _ _ us hl => match us, hl with | [_, _], _ => rfl⟩
  let d_web_fault : Dq l.prog w kf.K mg base "web_fault" 3 ["thing"] (spP 1 SH.m_web_fault) := ⟨T_web_fault.a, T_web_fault.fd, T_web_fault.F.kp, T_web_fault.g, ok_web_fault B T_web_fault d_is_whole d_joins_places, T_web_fault.F.binds (ps := ["thing"]) fun _ _ _ _ _ _ us hl => match us, hl with | [_], _ => rfl⟩
  let d_look_at_web : Dq l.prog w kf.K mg base "look_at_web" 4 ["thing"] (spP 1 SH.m_look_at_web) := ⟨T_look_at_web.a, T_look_at_web.fd, T_look_at_web.F.kp, T_look_at_web.g, ok_look_at_web B T_look_at_web d_web_fault, T_look_at_web.F.binds (ps := ["thing"]) fun _ _ _ _ _ _ us hl => match us, hl with | [_], _ => rfl⟩
  let d_far_from : Dq l.prog w kf.K mg base "far_from" 1 ["beside", "place"] (spP 2 SH.m_far_from) := ⟨T_far_from.a, T_far_from.fd, T_far_from.F.kp, T_far_from.g, ok_far_from B T_far_from , T_far_from.F.binds (ps := ["beside", "place"]) fun _ _ _ _ _ _ us hl => match us, hl with | [_, _], _ => rfl⟩
  let d_reached_from : Dq l.prog w kf.K mg base "reached_from" 2 ["beside", "place"] (spP 2 m_reached_from) := ⟨T_reached_from.a, T_reached_from.fd, T_reached_from.F.kp, T_reached_from.g, ok_reached_from B T_reached_from d_far_from, T_reached_from.F.binds (ps := ["beside", "place"]) fun _ _ _ _ _ _ us hl => match us, hl with | [_, _], _ => rfl⟩
  let d_pieces_by : Dq l.prog w kf.K mg base "pieces_by" 3 ["beside"] (spP 1 m_pieces_by) := ⟨T_pieces_by.a, T_pieces_by.fd, T_pieces_by.F.kp, T_pieces_by.g, ok_pieces_by B T_pieces_by d_reached_from, T_pieces_by.F.binds (ps := ["beside"]) fun _ _ _ _ _ _ us hl => match us, hl with | [_], _ => rfl⟩
  let d_beside_all : Dq l.prog w kf.K mg base "beside_all" 1 ["web"] (spP 1 SH.m_beside_all) := ⟨T_beside_all.a, T_beside_all.fd, T_beside_all.F.kp, T_beside_all.g, ok_beside_all B T_beside_all , T_beside_all.F.binds (ps := ["web"]) fun _ _ _ _ _ _ us hl => match us, hl with | [_], _ => rfl⟩
  let d_pieces : Dq l.prog w kf.K mg base "pieces" 5 ["web"] (spP 1 m_pieces) := ⟨T_pieces.a, T_pieces.fd, T_pieces.F.kp, T_pieces.g, ok_pieces B T_pieces d_look_at_web d_pieces_by d_beside_all, T_pieces.F.binds (ps := ["web"]) fun _ _ _ _ _ _ us hl => match us, hl with | [_], _ => rfl⟩
  let d_hangs : Dq l.prog w kf.K mg base "hangs" 2 ["web"] (spP 1 SH.m_hangs) := ⟨T_hangs.a, T_hangs.fd, T_hangs.F.kp, T_hangs.g, ok_hangs B T_hangs d_far_from d_beside_all, T_hangs.F.binds (ps := ["web"]) fun _ _ _ _ _ _ us hl => match us, hl with | [_], _ => rfl⟩
  let d_hangs_together : Dq l.prog w kf.K mg base "hangs_together" 5 ["web"] (spP 1 m_hangs_together) := ⟨T_hangs_together.a, T_hangs_together.fd, T_hangs_together.F.kp, T_hangs_together.g, ok_hangs_together B T_hangs_together d_look_at_web d_hangs, T_hangs_together.F.binds (ps := ["web"]) fun _ _ _ _ _ _ us hl => match us, hl with | [_], _ => rfl⟩
  let d__law_pieces_right : Dq l.prog w kf.K mg base "_law_pieces_right" 6 ["_law_web_here", "_law_due"] (spP 2 m__law_pieces_right) := ⟨T__law_pieces_right.a, T__law_pieces_right.fd, T__law_pieces_right.F.kp, T__law_pieces_right.g, ok__law_pieces_right B T__law_pieces_right d_pieces d_hangs_together, T__law_pieces_right.F.binds (ps := ["_law_web_here", "_law_due"]) fun _ _ _ _ _ _ us hl => match us, hl with | [_, _], _ => rfl⟩
  let d__law_lists : Dq l.prog w kf.K mg base "_law_lists" 2 ["_law_script", "_law_k", "_law_many"] (spP 3 m__law_lists) := ⟨T__law_lists.a, T__law_lists.fd, T__law_lists.F.kp, T__law_lists.g, ok__law_lists B T__law_lists d__law_cell_at d__law_numbers, T__law_lists.F.binds (ps := ["_law_script", "_law_k", "_law_many"]) fun _ _ _ _ _ _ us hl => match us, hl with | [_, _, _], _ => rfl⟩
  let d_is_place : Dq l.prog w kf.K mg base "is_place" 2 ["many", "thing"] (spP 2 SH.m_is_place) := ⟨T_is_place.a, T_is_place.fd, T_is_place.F.kp, T_is_place.g, ok_is_place B T_is_place d_is_whole, T_is_place.F.binds (ps := ["many", "thing"]) fun _ _ _ _ _ _ us hl => match us, hl with | [_, _], _ => rfl⟩
  let d_are_rising : Dq l.prog w kf.K mg base "are_rising" 3 ["web", "thing"] (spP 2 m_are_rising) := ⟨T_are_rising.a, T_are_rising.fd, T_are_rising.F.kp, T_are_rising.g, ok_are_rising B T_are_rising d_is_place, T_are_rising.F.binds (ps := ["web", "thing"]) fun _ _ _ _ _ _ us hl => match us, hl with | [_, _], _ => rfl⟩
  let d_web_within : Dq l.prog w kf.K mg base "web_within" 1 ["ties", "places"] (spP 2 m_web_within) := ⟨T_web_within.a, T_web_within.fd, T_web_within.F.kp, T_web_within.g, ok_web_within B T_web_within , T_web_within.F.binds (ps := ["ties", "places"]) fun _ _ _ _ _ _ us hl => match us, hl with | [_, _], _ => rfl⟩
  let d_within : Dq l.prog w kf.K mg base "within" 5 ["web", "places"] (spP 2 m_within) := ⟨T_within.a, T_within.fd, T_within.F.kp, T_within.g, ok_within B T_within d_look_at_web d_are_rising d_web_within, T_within.F.binds (ps := ["web", "places"]) fun _ _ _ _ _ _ us hl => match us, hl with | [_, _], _ => rfl⟩
  have k_within_places : KBinds kf.K d_within.fd ["web", "places"] ["places"] (gApp 1 1) (gApp 1 1) := k_within_places_mk T_within.F
  let d__law_whole : Dq l.prog w kf.K mg base "_law_whole" 1 ["_law_thing"] (spP 1 m__law_whole) := ⟨T__law_whole.a, T__law_whole.fd, T__law_whole.F.kp, T__law_whole.g, ok__law_whole B T__law_whole , T__law_whole.F.binds (ps := ["_law_thing"]) fun _ _ _ _ _ _ us hl => match us, hl with | [_], _ => rfl⟩
  let d__law_within : Dq l.prog w kf.K mg base "_law_within" 1 ["_law_web_here", "_law_listed"] (spP 2 m__law_within) := ⟨T__law_within.a, T__law_within.fd, T__law_within.F.kp, T__law_within.g, ok__law_within B T__law_within , T__law_within.F.binds (ps := ["_law_web_here", "_law_listed"]) fun _ _ _ _ _ _ us hl => match us, hl with | [_, _], _ => rfl⟩
  let d__law_within_right : Dq l.prog w kf.K mg base "_law_within_right" 6 ["_law_web_here", "_law_listed"] (spP 2 m__law_within_right) := ⟨T__law_within_right.a, T__law_within_right.fd, T__law_within_right.F.kp, T__law_within_right.g, ok__law_within_right B T__law_within_right d_within d__law_whole d__law_within k_within_places, T__law_within_right.F.binds (ps := ["_law_web_here", "_law_listed"]) fun _ _ _ _ _ _ us hl => match us, hl with | [_, _], _ => rfl⟩
  exact ok_law (P := l.prog) (base := base) B T_law d__law_any_web d__law_pieces d__law_pieces_right d__law_lists d__law_within_right d_within d_hangs_together d_pieces
theorem law_sp (goal : ∀ ns : List Int, ns.length ≤ 63 → m_law [.list (ns.map .int)] = some (.d (.bool true))) {K : PySem.W.Frag} {w : World} {G : Hp} {a : Addr} {ns : List Int} (hl : ns.length ≤ 63) (hS : SqL K G a (ns.map V.int)) : (@spP ⟨K, w⟩ 1 m_law) [.ref a] G (fun v _ => v = .bl true) fun _ _ _ => False := by
  letI kf : KF := ⟨K, w⟩
  refine ⟨G, [.list (ns.map .int)], _, rfl, Same.refl G, .cons (.lst hS (dpa_of_ints ns)) .nil, goal ns hl, fun v S' H' B xt hr _ _ => ?_⟩
  cases hr with
  | d hr => cases hr; rfl
end z06
namespace SH
open PySem L2 PL MR
local macro_rules | `(tactic| walk_at "ev") => `(tactic| simp (config := {decide := true}) only [ini, fin, finI, sSeq, sNext, sAsg, sAsgG, sRet, sRetN, sDrop, sIf, sNever, sSetP, pmVar, MR.putAt, OT.put, gmName, gmTup, gmLst, gsNil, gsCons, rVar, rC, rOp, rUn, rCb, rCall, rAnd, rOr, rNot, rIf, rIs, rCh, rCh3, rTup, rLst, small, qNil, qCons, bR, bAnd, bOr, bNot, tR, tD, tmAnd, tmOr, tmNot, yVar, yMov, yR, yAuto, dY, yD, dR, dOp, dOpR, dCb, yCall, yCallA, lfO, yTup, yLst, oNil, oCons, isNo, lNil, lCons, asB, asInt, toD_d, toD_tup, toD_lst, toDs_nil, toDs_cons, kp_int, kp_bool, kp_tuple, kp_list, isIntB, isBoolB, isTupB, isListB, gAdd_i, gSub_i, gLt_i, gLe_i, gGt_i, gGe_i, gMul_r, gMul_l, gMod_i, gDiv_i, gPow_i, gNeg, gEqI, gNeI, gIsN, gNotN, gIsB, gNotB, gIxL, gIxT, gLen, gMax2, gMin2, isN, OT.lf, OT.lfs, atI_0, atI_1, ixN_0, ixN_1, Option.bind_some, Option.bind_none, Option.map_some, Option.map_none, List.getElem?_cons_zero, List.getElem?_cons_succ, List.set_cons_zero, List.set_cons_succ, List.map_cons, List.map_nil, List.replicate, List.nil_append, List.cons_append, List.length_cons, List.length_nil, if_true, if_false, reduceIte, tfl_int, tfl_bool, tfl_none, tfl_str, tfl_list, Bool.true_and, Bool.and_true, Bool.false_and, Bool.and_false, Bool.not_true, Bool.not_false, Bool.false_eq_true, decide_true, decide_false, true_and, and_true, false_and, and_false, or_true, true_or, *])
theorem is_whole_int (i : Int) : m_is_whole [.int i] = some (.d (.bool true)) := by unfold m_is_whole B_is_whole; walk_at "ev"
theorem is_place_int (m i : Int) : m_is_place [.int m, .int i] = some (.d (.bool (decide (0 ≤ i ∧ i < m)))) := by
  unfold m_is_place B_is_place
  have := is_whole_int i
  walk_at "ev"
  by_cases h : 0 ≤ i <;> walk_at "ev"
theorem joins_spec {m a b : Int} (h1 : 0 ≤ a ∧ a < m) (h2 : 0 ≤ b ∧ b < m) (h3 : a < b) : m_joins_places [.int m, .tuple [.int a, .int b]] = some (.d (.bool true)) := by
  have e1 := is_whole_int a
  have e2 := is_whole_int b
  obtain ⟨h1a, h1b⟩ := h1
  obtain ⟨h2a, h2b⟩ := h2
  unfold m_joins_places B_joins_places; walk_at "ev"
local macro_rules | `(tactic| walk_at "w") => `(tactic| simp (config := {decide := true}) only [ini, fin, finI, sSeq, sNext, sAsg, sAsgG, sRet, sRetN, sDrop, sIf, sNever, sFor, pmVar, gmName, gmTup, gmLst, gsNil, gsCons, rVar, rC, rOp, rUn, rCb, rCall, rTup, rLst, qNil, qCons, bR, bAnd, bOr, bNot, tR, tD, yVar, yMov, yR, yAuto, dY, yD, dR, dOp, dOpR, dCb, yCall, yCallA, yCallI, lfO, yTup, yLst, oNil, oCons, isNo, lNil, lCons, asB, asInt, toD_d, toD_tup, toD_lst, toDs_nil, toDs_cons, gAdd_i, gSub_i, gLt_i, gLe_i, gGt_i, gGe_i, gEqI, gNeI, gLen, gMax2, gMin2, isN, yRng1_eq, iR1_eq, iR2_eq, iL, iE, asL, yLc, calmAt, wipeE, rst, rsts, sApp, yPop_eq, sDPutM, ySortD, yDNew, lcStep, lstO_rg, lstO_prs, lstO_ints, toDs_ints, toDs_fpr, toDs_prs, lfs_ints, lfs_fpr, intsO_len, prsO_len, fprO_len, rng_len, intsO_snoc, prsO_snoc, Int.toNat_natCast, List.length_map, trues_len, eq_self, gIxL, small, flat, rgD_len, List.all_cons, List.all_nil, Option.bind_some, Option.bind_none, Option.map_some, Option.map_none, List.getElem?_cons_zero, List.getElem?_cons_succ, List.set_cons_zero, List.set_cons_succ, List.map_cons, List.map_nil, List.replicate, List.nil_append, List.cons_append, List.length_cons, List.length_nil, if_true, if_false, reduceIte, tfl_int, tfl_bool, tfl_none, tfl_str, tfl_list, Bool.true_and, Bool.and_true, Bool.false_and, Bool.and_false, Bool.not_true, Bool.not_false, Bool.false_eq_true, decide_true, decide_false, true_and, and_true, or_true, true_or, false_and, and_false, *])
local macro_rules | `(tactic| walk_at "st") => `(tactic| (apply seq_nx; (walk_at "w"; exact rfl)))
end SH
namespace SH
open PySem L2 PL MR
local macro_rules | `(tactic| walk_at "ev") => `(tactic| simp (config := {decide := true}) only [ini, fin, finI, sSeq, sNext, sAsg, sAsgG, sRet, sRetN, sDrop, sIf, sNever, sSetP, pmVar, MR.putAt, OT.put, gmName, gmTup, gmLst, gsNil, gsCons, rVar, rC, rOp, rUn, rCb, rCall, rAnd, rOr, rNot, rIf, rIs, rCh, rCh3, rTup, rLst, small, qNil, qCons, bR, bAnd, bOr, bNot, tR, tD, tmAnd, tmOr, tmNot, yVar, yMov, yR, yAuto, dY, yD, dR, dOp, dOpR, dCb, yCall, yCallA, lfO, yTup, yLst, oNil, oCons, isNo, lNil, lCons, asB, asInt, toD_d, toD_tup, toD_lst, toDs_nil, toDs_cons, kp_int, kp_bool, kp_tuple, kp_list, isIntB, isBoolB, isTupB, isListB, gAdd_i, gSub_i, gLt_i, gLe_i, gGt_i, gGe_i, gMul_r, gMul_l, gMod_i, gDiv_i, gPow_i, gNeg, gEqI, gNeI, gIsN, gNotN, gIsB, gNotB, gIxL, gIxT, gLen, gMax2, gMin2, isN, OT.lf, OT.lfs, atI_0, atI_1, ixN_0, ixN_1, Option.bind_some, Option.bind_none, Option.map_some, Option.map_none, List.getElem?_cons_zero, List.getElem?_cons_succ, List.set_cons_zero, List.set_cons_succ, List.map_cons, List.map_nil, List.replicate, List.nil_append, List.cons_append, List.length_cons, List.length_nil, if_true, if_false, reduceIte, tfl_int, tfl_bool, tfl_none, tfl_str, tfl_list, Bool.true_and, Bool.and_true, Bool.false_and, Bool.and_false, Bool.not_true, Bool.not_false, Bool.false_eq_true, decide_true, decide_false, true_and, and_true, false_and, and_false, or_true, true_or, *])
local macro_rules | `(tactic| walk_at "w") => `(tactic| simp (config := {decide := true}) only [ini, fin, finI, sSeq, sNext, sAsg, sAsgG, sRet, sRetN, sDrop, sIf, sNever, sFor, pmVar, gmName, gmTup, gmLst, gsNil, gsCons, rVar, rC, rOp, rUn, rCb, rCall, rTup, rLst, qNil, qCons, bR, bAnd, bOr, bNot, tR, tD, yVar, yMov, yR, yAuto, dY, yD, dR, dOp, dOpR, dCb, yCall, yCallA, yCallI, lfO, yTup, yLst, oNil, oCons, isNo, lNil, lCons, asB, asInt, toD_d, toD_tup, toD_lst, toDs_nil, toDs_cons, gAdd_i, gSub_i, gLt_i, gLe_i, gGt_i, gGe_i, gEqI, gNeI, gLen, gMax2, gMin2, isN, yRng1_eq, iR1_eq, iR2_eq, iL, iE, asL, yLc, calmAt, wipeE, rst, rsts, sApp, yPop_eq, sDPutM, ySortD, yDNew, lcStep, lstO_rg, lstO_prs, lstO_ints, toDs_ints, toDs_fpr, toDs_prs, lfs_ints, lfs_fpr, intsO_len, prsO_len, fprO_len, rng_len, intsO_snoc, prsO_snoc, Int.toNat_natCast, List.length_map, trues_len, eq_self, gIxL, small, flat, rgD_len, List.all_cons, List.all_nil, Option.bind_some, Option.bind_none, Option.map_some, Option.map_none, List.getElem?_cons_zero, List.getElem?_cons_succ, List.set_cons_zero, List.set_cons_succ, List.map_cons, List.map_nil, List.replicate, List.nil_append, List.cons_append, List.length_cons, List.length_nil, if_true, if_false, reduceIte, tfl_int, tfl_bool, tfl_none, tfl_str, tfl_list, Bool.true_and, Bool.and_true, Bool.false_and, Bool.and_false, Bool.not_true, Bool.not_false, Bool.false_eq_true, decide_true, decide_false, true_and, and_true, or_true, true_or, false_and, and_false, *])
local macro_rules | `(tactic| walk_at "st") => `(tactic| (apply seq_nx; (walk_at "w"; exact rfl)))
end SH
namespace SH
open PySem L2 PL MR
local macro_rules | `(tactic| walk_at "w") => `(tactic| simp (config := {decide := true}) only [ini, fin, finI, sSeq, sNext, sAsg, sAsgG, sRet, sRetN, sDrop, sIf, sNever, sFor, pmVar, gmName, gmTup, gmLst, gsNil, gsCons, rVar, rC, rOp, rUn, rCb, rCall, rTup, rLst, qNil, qCons, bR, bAnd, bOr, bNot, tR, tD, yVar, yMov, yR, yAuto, dY, yD, dR, dOp, dOpR, dCb, yCall, yCallA, yCallI, lfO, yTup, yLst, oNil, oCons, isNo, lNil, lCons, asB, asInt, toD_d, toD_tup, toD_lst, toDs_nil, toDs_cons, gAdd_i, gSub_i, gLt_i, gLe_i, gGt_i, gGe_i, gEqI, gNeI, gLen, gMax2, gMin2, isN, yRng1_eq, iR1_eq, iR2_eq, iL, iE, asL, yLc, calmAt, wipeE, rst, rsts, sApp, yPop_eq, sDPutM, ySortD, yDNew, lcStep, lstO_rg, lstO_prs, lstO_ints, toDs_ints, toDs_fpr, toDs_prs, lfs_ints, lfs_fpr, intsO_len, prsO_len, fprO_len, rng_len, intsO_snoc, prsO_snoc, Int.toNat_natCast, List.length_map, trues_len, eq_self, gIxL, small, kp_int, kp_bool, kp_tuple, kp_list, isIntB, isBoolB, isTupB, isListB, rIs, rCh, rCh3, rAnd, rOr, rNot, rIf, gIxT, gNotN, gIsN, atI_0, atI_1, dAnd, dOr, dNot, tmAnd, tmOr, tmNot, gAll, asBools_map, gLeT, enumD_len, OT.lf, OT.lfs,  flat, rgD_len, List.all_cons, List.all_nil, Option.bind_some, Option.bind_none, Option.map_some, Option.map_none, List.getElem?_cons_zero, List.getElem?_cons_succ, List.set_cons_zero, List.set_cons_succ, List.map_cons, List.map_nil, List.replicate, List.nil_append, List.cons_append, List.length_cons, List.length_nil, if_true, if_false, reduceIte, tfl_int, tfl_bool, tfl_none, tfl_str, tfl_list, Bool.true_and, Bool.and_true, Bool.false_and, Bool.and_false, Bool.not_true, Bool.not_false, Bool.false_eq_true, decide_true, decide_false, true_and, and_true, or_true, true_or, false_and, and_false, *])
local macro_rules | `(tactic| walk_at "st") => `(tactic| (apply seq_nx; (walk_at "w"; exact rfl)))
theorem fault_ok {n : Nat} {ts : List (Int × Int)} (w : WOk n ts) (h1 : 1 ≤ n) (h2 : n ≤ 40) (h3 : ts.length ≤ 120) : m_web_fault [WD n ts] = some (.d .none) := by
  have f0 := is_whole_int (n : Int)
  have f1 : 1 ≤ (n : Int) := by omega
  have f2 : (n : Int) ≤ 40 := by omega
  have f3 : decide (120 < (ts.length : Int)) = false := by simp; omega
  have L : ∃ Z W, mFor (fun x ρ => (gmTup (gsCons (gmName 3) (gsCons (gmName 4) gsNil)) x ρ).bind (sIf (tR (bOr (bNot (bR (rCall m_joins_places 2 (qCons (rVar 1) (qCons (rVar 4) qNil))))) (bAnd (bR (rOp gGt (rVar 3) (rC (.int 0)))) (bR (rOp gLeT (rVar 4) (rOp gIxL (rVar 2) (rOp gSub (rVar 3) (rC (.int 1)))))))))
 (sRet (yTup (oCons (yR (rC (.str "ties"))) (oCons (yMov 3) oNil))))
 sNext)) (enumD (ts.map pairD)) [.d (.tuple [.int n, .list (ts.map pairD)]), .d (.int n), .d (.list (ts.map pairD)), .no, .no] = some (.nx, [.d (.tuple [.int n, .list (ts.map pairD)]), .d (.int n), .d (.list (ts.map pairD)), Z, W]) := by
    have := mFor_inv (step := fun x ρ => (gmTup (gsCons (gmName 3) (gsCons (gmName 4) gsNil)) x ρ).bind (sIf (tR (bOr (bNot (bR (rCall m_joins_places 2 (qCons (rVar 1) (qCons (rVar 4) qNil))))) (bAnd (bR (rOp gGt (rVar 3) (rC (.int 0)))) (bR (rOp gLeT (rVar 4) (rOp gIxL (rVar 2) (rOp gSub (rVar 3) (rC (.int 1)))))))))
 (sRet (yTup (oCons (yR (rC (.str "ties"))) (oCons (yMov 3) oNil))))
 sNext)) (enumD (ts.map pairD)) [.d (.tuple [.int n, .list (ts.map pairD)]), .d (.int n), .d (.list (ts.map pairD)), .no, .no]
      (fun i ρ => ∃ Z W, ρ = [.d (.tuple [.int n, .list (ts.map pairD)]), .d (.int n), .d (.list (ts.map pairD)), Z, W])
      ⟨.no, .no, rfl⟩
      (by
        rintro i x ρ hx ⟨Z, W, rfl⟩
        obtain ⟨d, hd, rfl⟩ := enumD_at hx
        rw [List.getElem?_map] at hd
        obtain ⟨z, hz, rfl⟩ := Option.map_eq_some_iff.mp hd
        obtain ⟨a1, a2, a3⟩ := w.in' z (List.mem_of_getElem? hz)
        have hj := joins_spec (m := (n : Int)) (a := z.1) (b := z.2) ⟨a1, by omega⟩ ⟨by omega, a3⟩ a2
        cases i with
        | zero =>
          have e0 : decide (0 < ((0 : Nat) : Int)) = false := rfl
          apply fmk
          · simp only [pairD]
            walk_at "w"
            exact rfl
          exact ⟨_, _, rfl⟩
        | succ k =>
          have e0 : decide (0 < ((k + 1 : Nat) : Int)) = true := by simp
          have e1 : ((k + 1 : Nat) : Int) - 1 = (k : Int) := by omega
          have hk : k < ts.length := by have := (List.getElem?_eq_some_iff.mp hz).1; omega
          have hy : ts[k]? = some ts[k] := by simp [hk]
          have e2 : atI (ts.map pairD) (k : Int) = some (pairD ts[k]) := atI_at (by rw [List.getElem?_map, hy]; rfl)
          have e3 := lexLe_prev w hy hz
          generalize ts[k] = y at *
          simp only [pairD] at e2
          apply fmk
          · simp only [pairD] at e2 ⊢
            walk_at "w"
            exact rfl
          exact ⟨_, _, rfl⟩)
    obtain ⟨ρ', k1, Z, W, rfl⟩ := this
    exact ⟨Z, W, k1⟩
  obtain ⟨Z, W, eL⟩ := L
  unfold m_web_fault B_web_fault WD
  apply fin_rtd
  walk_at "st"
  walk_at "st"
  walk_at "st"
  walk_at "st"
  apply seq_nx
  · refine sFor_ok ?_ eL
    walk_at "w"
  walk_at "w"
  exact rfl
theorem look_ok {n : Nat} {ts : List (Int × Int)} (w : WOk n ts) (h1 : 1 ≤ n) (h2 : n ≤ 40) (h3 : ts.length ≤ 120) : m_look_at_web [WD n ts] = some (.d .none) := by
  have f := fault_ok w h1 h2 h3
  unfold m_look_at_web B_look_at_web
  generalize WD n ts = x at *
  walk_at "w"
end SH
namespace MR
open PySem L2 PL
/-! ### pure: sorted -/
theorem dLe_pr (p q : Int × Int) : dLe (pairD p) (pairD q) = lexLe p q := by
  have := congrFun (congrFun (PySem.W.dataLe_ii (β := Int × Int) (·.1) (·.2)) p) q
  unfold lexLe
  rw [← this]
  rfl
theorem dsort_prs (ps : List (Int × Int)) : dsort (ps.map pairD) = (srtL ps).map pairD := by
  have e := PySem.W.sort_maps (r := lexLe) (s := dLe) pairD (l := ps) (fun a _ b _ => (dLe_pr a b).symm)
  unfold dsort
  rw [← e]
  congr 1
  refine lex_uniq ?_ ?_ ?_
  · have tr : ∀ a b c : Int × Int, lexLe a b = true → lexLe b c = true → lexLe a c = true := by
      intro a b c h1 h2
      simp only [lexLe, decide_eq_true_eq] at *
      omega
    have tot : ∀ a b : Int × Int, (lexLe a b || lexLe b a) = true := by
      intro a b
      simp only [lexLe, Bool.or_eq_true, decide_eq_true_eq]
      omega
    have := List.pairwise_mergeSort (le := lexLe) tr tot ps
    exact this.imp (by intro a b h; simpa [lexLe] using h)
  · exact srtL_lex ps
  · exact (List.mergeSort_perm _ _).trans (srtL_perm ps).symm
theorem fits_pr (p q : Int × Int) : PySem.W.alike (pairD p) (pairD q) = true := by
  simp [pairD, PySem.W.alike, PySem.W.alikeAll]
theorem sortOk_of {α : Type} {f : α → D} {xs : List α} (h1 : ∀ a b, PySem.W.alike (f a) (f b) = true) (h2 : (∀ a, isTup1 (f a) = true) ∨ ∀ a, isPl (f a) = true) (h3 : ∀ a, (f a).depth ≤ 8) : sortOk (xs.map f) = true := by
  unfold sortOk
  simp only [Bool.and_eq_true, List.all_map, List.all_eq_true, Function.comp, Bool.or_eq_true, decide_eq_true_eq]
  refine ⟨⟨fun a _ b _ => h1 a b, ?_⟩, fun a _ => h3 a⟩
  rcases h2 with h | h
  · exact .inl fun a _ => h a
  · exact .inr fun a _ => h a
theorem depth_pr (p : Int × Int) : (pairD p).depth ≤ 8 := by
  simp [pairD, PyData.depth, PyData.depthAll]
theorem sortA_prs (ps : List (Int × Int)) : GSortA [.list (ps.map pairD)] = some (.nd .lst (fprO (srtL ps))) := by
  unfold GSortA
  simp only []
  rw [if_pos (sortOk_of fits_pr (.inl fun _ => rfl) depth_pr), dsort_prs, lstO_prs]
end MR
namespace MR
open PySem L2 PL
/-! ### pure: repr of data without texts, its numbers of at most twelve figures -/
mutual
def smallD : D → Bool
  | .none => true
  | .bool _ => true
  | .int i => decide (i.natAbs < 10 ^ 60)
  | .str _ => false
  | .list xs => smallAll xs
  | .tuple xs => smallAll xs
  | .dict _ => false
def smallAll : List D → Bool
  | [] => true
  | x :: xs => smallD x && smallAll xs
end
theorem int_showable {i : Int} (h : i.natAbs < 10 ^ 60) : i.natAbs.log2 < 1920 := by
  by_cases z : i.natAbs = 0
  · rw [z]; decide
  · rw [Nat.log2_lt z]
    have h1 : i.natAbs < 2 ^ 200 := Nat.lt_of_lt_of_le h (by decide)
    exact Nat.lt_of_lt_of_le h1 (Nat.pow_le_pow_right (by decide) (by decide))
theorem shown_int60 {i : Int} (h : i.natAbs < 10 ^ 60) : (PyData.shown (.int i)).length ≤ 61 := by
  have e := int_text_length_le10 (k := 60) (by decide) h
  show (Str.ofString (toString i)).length ≤ 61
  rw [ofString_length]; exact e
mutual
theorem small_ok : ∀ d : D, smallD d = true → d.canLay0 = true ∧ d.showable = true ∧ d.leavesShort 61 = true
  | .none, _ => by simp [PyData.canLay0, PyData.showable, PyData.leavesShort]
  | .bool _, _ => by simp [PyData.canLay0, PyData.showable, PyData.leavesShort]
  | .int i, h => by
    have h : i.natAbs < 10 ^ 60 := by simpa only [smallD, decide_eq_true_eq] using h
    have e := int_showable h
    have e2 := shown_int60 h
    simp only [PyData.canLay0, PyData.showable, PyData.leavesShort, decide_eq_true_eq]
    exact ⟨trivial, e, e2⟩
  | .str _, h => by simp [smallD] at h
  | .list xs, h => by
    have := smallAll_ok xs (by simpa [smallD] using h)
    simpa [PyData.canLay0, PyData.showable, PyData.leavesShort] using this
  | .tuple xs, h => by
    have := smallAll_ok xs (by simpa [smallD] using h)
    simpa [PyData.canLay0, PyData.showable, PyData.leavesShort] using this
  | .dict _, h => by simp [smallD] at h
theorem smallAll_ok : ∀ xs : List D, smallAll xs = true → PyData.canLayAll0 xs = true ∧ PyData.showableAll xs = true ∧ PyData.leavesShortAll 61 xs = true
  | [], _ => by simp [PyData.canLayAll0, PyData.showableAll, PyData.leavesShortAll]
  | x :: xs, h => by
    have h' : smallD x = true ∧ smallAll xs = true := by simpa [smallAll] using h
    have h1 := small_ok x h'.1
    have h2 := smallAll_ok xs h'.2
    simp [PyData.canLayAll0, PyData.showableAll, PyData.leavesShortAll, h1, h2]
end
theorem repr_ok {d : D} (h1 : smallD d = true) (h2 : d.depth ≤ 60) (h3 : d.bulk ≤ 200000) : gRepr d = some (.str d.shown) := by
  obtain ⟨a, b, c⟩ := small_ok d h1
  have e : d.shown.length ≤ sizeLine := by
    have := PyData.shown_le_bulk 61 (by omega) d c
    unfold sizeLine
    omega
  unfold gRepr
  simp [a, b, e, h2]
theorem smallAll_map {α : Type} {f : α → D} {xs : List α} (h : ∀ x ∈ xs, smallD (f x) = true) : smallAll (xs.map f) = true := by
  induction xs with
  | nil => simp [smallAll]
  | cons x xs ih => simp [smallAll, h x List.mem_cons_self, ih fun y hy => h y (List.mem_cons_of_mem _ hy)]
theorem depthAll_map {α : Type} {f : α → D} {k : Nat} {xs : List α} (h : ∀ x ∈ xs, (f x).depth ≤ k) : PyData.depthAll (xs.map f) ≤ k := by
  induction xs with
  | nil => simp [PyData.depthAll]
  | cons x xs ih =>
    have a := h x List.mem_cons_self
    have b := ih fun y hy => h y (List.mem_cons_of_mem _ hy)
    simp only [List.map_cons, PyData.depthAll]
    omega
theorem bulkAll_map {α : Type} {f : α → D} {k : Nat} {xs : List α} (h : ∀ x ∈ xs, (f x).bulk ≤ k) : PyData.bulkAll (xs.map f) ≤ xs.length * (k + 1) := by
  induction xs with
  | nil => simp [PyData.bulkAll]
  | cons x xs ih =>
    have a := h x List.mem_cons_self
    have b := ih fun y hy => h y (List.mem_cons_of_mem _ hy)
    simp only [List.map_cons, PyData.bulkAll, List.length_cons, Nat.add_mul, Nat.one_mul]
    omega
/-- data that repr shows: how deep, how much -/
structure Nice (d : D) (k b : Nat) : Prop where
  sm : smallD d = true
  dp : d.depth ≤ k
  bk : d.bulk ≤ b
theorem Nice.repr {d : D} {k b : Nat} (h : Nice d k b) (h1 : k ≤ 60) (h2 : b ≤ 200000) : gRepr d = some (.str d.shown) := repr_ok h.sm (Nat.le_trans h.dp h1) (Nat.le_trans h.bk h2)
theorem nice_int60 {i : Int} (h : i.natAbs < 10 ^ 60) : Nice (.int i) 0 0 := ⟨by simpa only [smallD, decide_eq_true_eq] using h, by simp [PyData.depth], by simp [PyData.bulk]⟩
theorem lt60 {n : Nat} (h : n < 10 ^ 13) : n < 10 ^ 60 := Nat.lt_of_lt_of_le h (Nat.pow_le_pow_right (by decide) (by decide))
theorem nice_int {i : Int} (h : -999999999999 ≤ i ∧ i ≤ 999999999999) : Nice (.int i) 0 0 := nice_int60 (lt60 (by omega))
theorem nice_list {α : Type} {f : α → D} {k b n : Nat} {xs : List α} (h : ∀ x ∈ xs, Nice (f x) k b) (hn : xs.length ≤ n) : Nice (.list (xs.map f)) (k + 1) (n * (b + 1)) := by
  refine ⟨by simpa [smallD] using smallAll_map fun x hx => (h x hx).sm, ?_, ?_⟩
  · have := depthAll_map fun x hx => (h x hx).dp
    simp only [PyData.depth]
    omega
  · have := bulkAll_map fun x hx => (h x hx).bk
    simp only [PyData.bulk]
    exact Nat.le_trans this (Nat.mul_le_mul_right _ hn)
theorem nice_pr {p : Int × Int} (h : -999999999999 ≤ p.1 ∧ p.1 ≤ 999999999999 ∧ -999999999999 ≤ p.2 ∧ p.2 ≤ 999999999999) : Nice (pairD p) 1 2 :=
  ⟨by simp only [pairD, smallD, smallAll, Bool.and_true, Bool.and_eq_true, decide_eq_true_eq]; exact ⟨lt60 (by omega), lt60 (by omega)⟩, by simp [pairD, PyData.depth, PyData.depthAll], by simp [pairD, PyData.bulk, PyData.bulkAll]⟩
theorem nice_tup2 {d e : D} {k b c : Nat} (h1 : Nice d k b) (h2 : Nice e k c) : Nice (.tuple [d, e]) (k + 1) (b + c + 2) := by
  obtain ⟨a1, a2, a3⟩ := h1
  obtain ⟨b1, b2, b3⟩ := h2
  refine ⟨by simp [smallD, smallAll, a1, b1], ?_, ?_⟩
  · simp only [PyData.depth, PyData.depthAll]; omega
  · simp only [PyData.bulk, PyData.bulkAll]; omega
theorem Nice.up {d : D} {k b l c : Nat} (h : Nice d k b) (h1 : k ≤ l) (h2 : b ≤ c) : Nice d l c := ⟨h.sm, Nat.le_trans h.dp h1, Nat.le_trans h.bk h2⟩
theorem eqv_self {d : D} (h : smallD d = true) : PyData.eqv d d = true := by
  exact SeqAt.eqv_refl d (small_ok d h).1
theorem Nice.shaped {d : D} {k b : Nat} (h : Nice d k b) (h1 : k ≤ 60) : SeqAt.shaped d = true := by
  have := h.dp
  simp only [SeqAt.shaped, (small_ok d h.sm).1, Bool.true_and, decide_eq_true_eq]
  omega
theorem Nice.eqv {d : D} {k b : Nat} (h : Nice d k b) : PyData.eqv d d = true := eqv_self h.sm
theorem Nice.eqD {d : D} {k b : Nat} (h : Nice d k b) (h1 : k ≤ 60) : gEqD d d = some (.bool true) := by
  unfold gEqD
  rw [h.shaped h1, h.eqv]
  rfl
theorem Nice.neD {d : D} {k b : Nat} (h : Nice d k b) (h1 : k ≤ 60) : gNeD d d = some (.bool false) := by
  unfold gNeD
  rw [h.shaped h1, h.eqv]
  rfl
end MR
namespace SH
open PySem L2 PL MR
local macro_rules | `(tactic| walk_at "w") => `(tactic| simp (config := {decide := true}) only [ini, fin, finI, sSeq, sNext, sAsg, sAsgG, sRet, sRetN, sDrop, sIf, sNever, sFor, pmVar, gmName, gmTup, gmLst, gsNil, gsCons, rVar, rC, rOp, rUn, rCb, rCall, rTup, rLst, qNil, qCons, bR, bAnd, bOr, bNot, tR, tD, yVar, yMov, yR, yAuto, dY, yD, dR, dOp, dOpR, dCb, yCall, yCallA, yCallI, lfO, yTup, yLst, oNil, oCons, isNo, lNil, lCons, asB, asInt, toD_d, toD_tup, toD_lst, toDs_nil, toDs_cons, gAdd_i, gSub_i, gLt_i, gLe_i, gGt_i, gGe_i, gEqI, gNeI, gLen, gMax2, gMin2, isN, yRng1_eq, iR1_eq, iR2_eq, iL, iE, asL, yLc, calmAt, wipeE, rst, rsts, sApp, yPop_eq, sDPutM, ySortD, yDNew, lcStep, lstO_rg, lstO_prs, lstO_ints, toDs_ints, toDs_fpr, toDs_prs, lfs_ints, lfs_fpr, intsO_len, prsO_len, fprO_len, rng_len, intsO_snoc, prsO_snoc, Int.toNat_natCast, List.length_map, trues_len, eq_self, gIxL, small, yCb, yCbA, kp_int, kp_bool, kp_tuple, kp_list, isIntB, isBoolB, isTupB, isListB, rIs, rCh, rCh3, rAnd, rOr, rNot, rIf, gIxT, gNotN, gIsN, atI_0, atI_1, dAnd, dOr, dNot, tmAnd, tmOr, tmNot, gAll, asBools_map, gLeT, enumD_len, OT.lf, OT.lfs,  flat, rgD_len, List.all_cons, List.all_nil, Option.bind_some, Option.bind_none, Option.map_some, Option.map_none, List.getElem?_cons_zero, List.getElem?_cons_succ, List.set_cons_zero, List.set_cons_succ, List.map_cons, List.map_nil, List.replicate, List.nil_append, List.cons_append, List.length_cons, List.length_nil, if_true, if_false, reduceIte, tfl_int, tfl_bool, tfl_none, tfl_str, tfl_list, Bool.true_and, Bool.and_true, Bool.false_and, Bool.and_false, Bool.not_true, Bool.not_false, Bool.false_eq_true, decide_true, decide_false, true_and, and_true, or_true, true_or, false_and, and_false, *])
local macro_rules | `(tactic| walk_at "st") => `(tactic| (apply seq_nx; (walk_at "w"; exact rfl)))
end SH
namespace MR
open PySem L2 PL
/-! ### walking: what stands within a row -/
section
variable {α : Type} {ρ : Env} {a b d dm : Dm} {y : Ym} {l : Lm} {o : Om} {t u : Tm}
theorem w_yD {Q : OT → Env → Prop} (h : W d ρ fun x ρ' => Q (.d x) ρ') : W (yD d) ρ Q := by
  obtain ⟨x, ρ1, e, q⟩ := h
  exact ⟨_, _, by unfold yD; rw [e]; rfl, q⟩
theorem w_dY {Q : D → Env → Prop} (h : W y ρ fun r ρ' => ∃ x, OT.toD r = some x ∧ Q x ρ') : W (dY y) ρ Q := by
  obtain ⟨r, ρ1, e, x, e2, q⟩ := h
  exact ⟨_, _, by unfold dY; rw [e]; simp only [Option.bind_some, e2]; rfl, q⟩
theorem w_dCb {g : List D → Option D} {Q : D → Env → Prop} (h : W l ρ fun xs ρ' => ∃ x, g xs = some x ∧ Q x ρ') : W (dCb g l) ρ Q := by
  obtain ⟨r, ρ1, e, x, e2, q⟩ := h
  exact ⟨_, _, by unfold dCb; rw [e]; simp only [Option.bind_some, e2]; rfl, q⟩
theorem w_lNil {Q : List D → Env → Prop} (q : Q [] ρ) : W lNil ρ Q := ⟨_, _, rfl, q⟩
theorem w_lCons {Q : List D → Env → Prop} (h : W a ρ fun x ρ1 => W l ρ1 fun xs ρ2 => Q (x :: xs) ρ2) : W (lCons a l) ρ Q := by
  obtain ⟨x, ρ1, e, xs, ρ2, e2, q⟩ := h
  exact ⟨_, _, by unfold lCons; rw [e]; simp only [Option.bind_some, e2]; rfl, q⟩
theorem w_oNil {Q : List OT → Env → Prop} (q : Q [] ρ) : W oNil ρ Q := ⟨_, _, rfl, q⟩
theorem w_oCons {Q : List OT → Env → Prop} (h : W y ρ fun r ρ1 => isNo r = false ∧ W o ρ1 fun rs ρ2 => Q (r :: rs) ρ2) : W (oCons y o) ρ Q := by
  obtain ⟨x, ρ1, e, n, xs, ρ2, e2, q⟩ := h
  exact ⟨_, _, by unfold oCons; rw [e]; simp only [Option.bind_some, e2, n]; rfl, q⟩
theorem w_yTup {Q : OT → Env → Prop} (h : W o ρ fun ts ρ' => ts.length ≤ 1000000 ∧ Q (.nd .tup ts) ρ') : W (yTup o) ρ Q := by
  obtain ⟨x, ρ1, e, n, q⟩ := h
  exact ⟨_, _, by unfold yTup; rw [e]; simp only [Option.bind_some, n, if_true], q⟩
theorem w_yCall {f : List D → Option OT} {n : Nat} {Q : OT → Env → Prop} (h : W l ρ fun xs ρ' => xs.length = n ∧ ∃ r, f xs = some r ∧ Q r ρ') : W (yCall f n l) ρ Q := by
  obtain ⟨xs, ρ1, e, n, r, e2, q⟩ := h
  exact ⟨_, _, by unfold yCall; rw [e]; simp only [Option.bind_some, e2, n, if_true]; rfl, q⟩
theorem w_tD {Q : Bool → Env → Prop} (h : W d ρ fun x ρ' => ∃ c, x = .bool c ∧ Q c ρ') : W (tD d) ρ Q := by
  obtain ⟨x, ρ1, e, c, rfl, q⟩ := h
  exact ⟨_, _, by unfold tD; rw [e]; rfl, q⟩
theorem w_tNot {Q : Bool → Env → Prop} (h : W t ρ fun c ρ1 => Q (!c) ρ1) : W (tmNot t) ρ Q := by
  obtain ⟨c, ρ1, e, q⟩ := h
  exact ⟨_, _, by unfold tmNot; rw [e]; rfl, q⟩
theorem w_sif {s s' : Sm} {Q : Fl → Env → Prop} (h : W t ρ fun c ρ1 => (c = true → W s ρ1 Q) ∧ (c = false → W s' ρ1 Q)) : W (sIf t s s') ρ Q := by
  obtain ⟨c, ρ1, e, q1, q2⟩ := h
  exact w_if e q1 q2
end
/-! ### {k: True for ..} by pairs -/
theorem exw {α : Type} {p q : α → Prop} {a : α} (h : p a) (h2 : q a) : ∃ a, p a ∧ q a := ⟨a, h, h2⟩
theorem w_nx {b : Sm} {ρ ρ' : Env} {n : Env → Prop} {Q : Fl → Env → Prop} (h : b ρ = some (.nx, ρ')) (q : n ρ') : W b ρ (lpK n Q) := ⟨.nx, ρ', h, q⟩
theorem w_end {y : Ym} {ρ ρ' : Env} {r : OT} {P : OT → Prop} (h : y ρ = some (r, ρ')) (hn : isNo r = false) (q : P r) : W (sRet y) ρ (endK P) := by
  refine w_ret (.of h ?_)
  cases r with
  | no => cases hn
  | d x => exact q
  | nd k ts => exact q
  | fl ts => exact q
  | ex x => exact q
  | si x => exact q
end MR
namespace MR
open PySem L2 PL
/-! ### pure: lists that have each number once; turned back, behind one another -/
theorem at'_nat {os : List Int} {k : Nat} (h : k < os.length) : at' os (k : Nat) = os[k] := by
  simp [at', h]
section
variable {n : Nat} {os : List Int} (ho : os.Perm (rng n))
include ho
theorem pm_len : os.length = n := by rw [ho.length_eq, rng_len]
theorem pm_nodup : os.Nodup := ho.nodup_iff.mpr (rng_nodup n)
theorem pm_in {a : Int} (h : 0 ≤ a) (h2 : a < (n : Int)) : 0 ≤ at' os a ∧ at' os a < (n : Int) := by
  have := pm_len ho
  exact rng_mem.mp (ho.mem_iff.mp (at'_mem h (by omega)))
theorem pm_inj {a b : Int} (h : 0 ≤ a) (h2 : a < (n : Int)) (h3 : 0 ≤ b) (h4 : b < (n : Int)) (e : at' os a = at' os b) : a = b := by
  have := pm_len ho
  exact at'_inj (pm_nodup ho) h (by omega) h3 (by omega) e
end
theorem srt_id {a : List (Int × Int)} (h : Lex a) : srtL a = a := lex_uniq (srtL_lex a) h (srtL_perm a)
theorem firstAt_of : ∀ {os : List Int} {k j : Nat} {x : Int}, os.Nodup → os[k]? = some x → firstAt os x j = some (j + k)
  | [], k, j, x, _, h => by simp at h
  | y :: os, 0, j, x, hn, h => by
    simp at h
    simp [firstAt, h]
  | y :: os, k + 1, j, x, hn, h => by
    have hn' := List.nodup_cons.mp hn
    have h' : os[k]? = some x := by simpa using h
    have ne : y ≠ x := fun e => hn'.1 (e ▸ List.mem_of_getElem? h')
    unfold firstAt
    rw [if_neg ne, firstAt_of hn'.2 h']
    congr 1
    omega
theorem fin_eq {B : Sm} {ρ : Env} {r : OT} (h : W B ρ (endK fun x => x = r)) : fin (B ρ) = some r := by
  obtain ⟨x, e, rfl⟩ := fin_w h
  exact e
end MR
namespace MR
open PySem L2 PL
/-! ### pure: walking with typed items -/
theorem set_id : ∀ {α : Type} {xs : List α} {i : Nat} {v : α}, xs[i]? = some v → xs.set i v = xs
  | _, [], _, _, _ => rfl
  | _, x :: xs, 0, v, h => by simp at h; rw [h]; rfl
  | _, x :: xs, i + 1, v, h => by rw [List.set_cons_succ, set_id (by simpa using h)]
theorem yVar_eq (i : Nat) (ρ : Env) : yVar i ρ = (ρ[i]?).bind fun t => (OT.toD t).map fun x => (.d x, ρ.set i (.d x)) := by
  unfold yVar
  rcases h : ρ[i]? with _ | (_ | x | ⟨k, ts⟩ | ts | x | x)
  · rfl
  · rfl
  · simp only [Option.bind_some, toD_d, Option.map_some, Option.some.injEq, Prod.mk.injEq, true_and]
    exact (set_id h).symm
  · rfl
  · rfl
  · rfl
  · rfl
theorem w_forT {α : Type} (I : Nat → Env → Prop) {enc : α → D} {it : Lm} {g : Gm} {b : Sm} {ρ ρ1 : Env} {as : List α} {Q : Fl → Env → Prop} (h : it ρ = some (as.map enc, ρ1)) (h0 : I 0 ρ1)
    (hs : ∀ i a ρ2, as[i]? = some a → I i ρ2 → ∃ ρ3, g (enc a) ρ2 = some ρ3 ∧ W b ρ3 (lpK (I (i + 1)) Q)) (hq : ∀ ρ2, I as.length ρ2 → Q .nx ρ2) : W (sFor it g b) ρ Q := by
  refine w_for I h h0 (fun i x ρ2 hx hi => ?_) (fun ρ2 hi => hq ρ2 (by rwa [List.length_map] at hi))
  rw [List.getElem?_map] at hx
  obtain ⟨a, ha, rfl⟩ := Option.map_eq_some_iff.mp hx
  exact hs i a ρ2 ha hi
theorem w_lcmT {α : Type} (f : α → OT) {enc : α → D} {vs : List Nat} {it : Lm} {g : Gm} {t : Tm} {e : Ym} {ρ ρ1 : Env} {as : List α} {Q : OT → Env → Prop} (h : it ρ = some (as.map enc, ρ1)) (hc : calmAt ρ1 vs = true) (hl : as.length ≤ 1000000)
    (hs : ∀ a ∈ as, W (lcStep g t e (enc a)) (wipeE ρ1 vs) fun o ρ3 => o = some (f a) ∧ wipeE ρ3 vs = wipeE ρ1 vs) (hq : Q (.nd .lst (as.map f)) (rst (wipeE ρ1 vs) ρ1 vs)) : W (yLc vs it g t e) ρ Q := by
  refine w_lc (fun i acc ρ2 => acc = (as.take i).map f ∧ ρ2 = wipeE ρ1 vs) h hc (by rw [List.length_map]; exact hl) ⟨by simp, rfl⟩ (fun i x acc ρ2 hx hi => ?_) fun acc ρ2 hi => ?_
  · obtain ⟨rfl, rfl⟩ := hi
    rw [List.getElem?_map] at hx
    obtain ⟨a, ha, rfl⟩ := Option.map_eq_some_iff.mp hx
    refine (hs a (List.mem_of_getElem? ha)).mono fun o ρ3 q => ?_
    obtain ⟨rfl, q⟩ := q
    refine ⟨?_, q⟩
    rw [List.take_add_one, ha]
    simp
  · obtain ⟨rfl, rfl⟩ := hi
    rw [List.length_map, List.take_length]
    exact hq
theorem w_lcfT {α : Type} (f : α → Option OT) {enc : α → D} {vs : List Nat} {it : Lm} {g : Gm} {t : Tm} {e : Ym} {ρ ρ1 : Env} {as : List α} {Q : OT → Env → Prop} (h : it ρ = some (as.map enc, ρ1)) (hc : calmAt ρ1 vs = true) (hl : as.length ≤ 1000000)
    (hs : ∀ a ∈ as, W (lcStep g t e (enc a)) (wipeE ρ1 vs) fun o ρ3 => o = f a ∧ wipeE ρ3 vs = wipeE ρ1 vs) (hq : Q (.nd .lst (as.filterMap f)) (rst (wipeE ρ1 vs) ρ1 vs)) : W (yLc vs it g t e) ρ Q := by
  refine w_lc (fun i acc ρ2 => acc = (as.take i).filterMap f ∧ ρ2 = wipeE ρ1 vs) h hc (by rw [List.length_map]; exact hl) ⟨by simp, rfl⟩ (fun i x acc ρ2 hx hi => ?_) fun acc ρ2 hi => ?_
  · obtain ⟨rfl, rfl⟩ := hi
    rw [List.getElem?_map] at hx
    obtain ⟨a, ha, rfl⟩ := Option.map_eq_some_iff.mp hx
    refine (hs a (List.mem_of_getElem? ha)).mono fun o ρ3 q => ?_
    obtain ⟨rfl, q⟩ := q
    refine ⟨?_, q⟩
    rw [List.take_add_one, ha, List.filterMap_append]
    refine congrArg _ ?_
    show (f a).toList = [a].filterMap f
    cases c : f a <;> simp [c]
  · obtain ⟨rfl, rfl⟩ := hi
    rw [List.length_map, List.take_length]
    exact hq
/-- one that changes what is around: by what holds ahead of each turn -/
theorem w_lcT {α : Type} (I : Nat → List OT → Env → Prop) {enc : α → D} {vs : List Nat} {it : Lm} {g : Gm} {t : Tm} {e : Ym} {ρ ρ1 : Env} {as : List α} {Q : OT → Env → Prop} (h : it ρ = some (as.map enc, ρ1)) (hc : calmAt ρ1 vs = true) (hl : as.length ≤ 1000000) (h0 : I 0 [] (wipeE ρ1 vs))
    (hs : ∀ i a acc ρ2, as[i]? = some a → I i acc ρ2 → W (lcStep g t e (enc a)) ρ2 fun o ρ3 => I (i + 1) (acc ++ o.toList) (wipeE ρ3 vs)) (hq : ∀ acc ρ2, I as.length acc ρ2 → Q (.nd .lst acc) (rst ρ2 ρ1 vs)) : W (yLc vs it g t e) ρ Q := by
  refine w_lc I h hc (by rw [List.length_map]; exact hl) h0 (fun i x acc ρ2 hx hi => ?_) (fun acc ρ2 hi => hq acc ρ2 (by rwa [List.length_map] at hi))
  rw [List.getElem?_map] at hx
  obtain ⟨a, ha, rfl⟩ := Option.map_eq_some_iff.mp hx
  exact hs i a acc ρ2 ha hi
theorem zipD_map {α β : Type} (e1 : α → D) (e2 : β → D) (as : List α) (bs : List β) : zipD (as.map e1) (bs.map e2) = (as.zip bs).map fun p => PyData.tuple [e1 p.1, e2 p.2] := by
  unfold zipD
  induction as generalizing bs with
  | nil => simp
  | cons a as ih =>
    cases bs with
    | nil => simp
    | cons b bs => simp only [List.map_cons, List.zip_cons_cons, ih bs]
theorem enumD_map {α : Type} (e : α → D) (as : List α) : enumD (as.map e) = as.zipIdx.map fun p => PyData.tuple [.int (p.2 : Nat), e p.1] := by
  unfold enumD
  rw [List.zipIdx_map]
  simp [Function.comp_def]
end MR
namespace MR
open PySem L2 PL
/-! ### pure: == of data; slices, sums of lists -/
theorem canLay_ints : ∀ as : List Int, PyData.canLayAll0 (as.map .int) = true
  | [] => by simp [PyData.canLayAll0]
  | a :: as => by simp [PyData.canLayAll0, PyData.canLay0, canLay_ints as]
theorem depth_ints : ∀ as : List Int, PyData.depthAll (as.map .int) = 0
  | [] => by simp [PyData.depthAll]
  | a :: as => by simp [PyData.depthAll, PyData.depth, depth_ints as]
theorem shaped_ints (as : List Int) : SeqAt.shaped (.list (as.map .int)) = true := by
  simp [SeqAt.shaped, PyData.canLay0, canLay_ints, PyData.depth, depth_ints]
theorem GCat_ok {a b : List D} (h : a.length + b.length ≤ 1000000) : GCat (.list a) (.list b) = some (lstO (a ++ b)) := by
  simp only [GCat]
  rw [if_pos h]
theorem toD_dnew : OT.toD (.nd (.dT []) []) = some (.dict []) := by simp [OT.toD, flatDs]
theorem isNo_lstO (xs : List D) : isNo (lstO xs) = false := rfl
def cl : OT → Bool
  | .nd _ _ => false
  | .fl _ => false
  | .si _ => false
  | _ => true
theorem rgD0 (n : Nat) : rgD 0 n = (List.range n).map fun (k : Nat) => PyData.int (k : Int) := by simp [rgD]
theorem neS_self (s : Str) : gNeS (.str s) (.str s) = some (.bool false) := by simp [gNeS]
theorem eqS_self (s : Str) : gEqS (.str s) (.str s) = some (.bool true) := by simp [gEqS]
theorem rep_one (k : Nat) (x : D) : (List.replicate k [x]).flatten = List.replicate k x := by
  induction k with
  | zero => rfl
  | succ k ih => simp [List.replicate_succ, ih]
theorem yRep_z {y : Ym} {n : Rm} {ρ ρ' : Env} {x : D} {z : Int} (h : y ρ = some (.nd .lst [.d x], ρ')) (hn : n ρ' = some (.int z)) (h0 : 0 ≤ z) (h1 : z ≤ 1000000) : yRep y n ρ = some (lstO (List.replicate z.toNat x), ρ') := by
  have b : -(2 ^ 63) ≤ z ∧ z < 2 ^ 63 ∧ [x].length * z.toNat ≤ 1000000 := ⟨by omega, by omega, by simp; omega⟩
  unfold yRep
  rw [h]
  simp only [Option.bind_some, allD, Option.map_some, hn]
  rw [if_pos b, rep_one]
theorem yRep_one {y : Ym} {n : Rm} {ρ ρ' : Env} {x : D} {k : Nat} (h : y ρ = some (.nd .lst [.d x], ρ')) (hn : n ρ' = some (.int (k : Nat))) (h1 : k ≤ 1000000) : yRep y n ρ = some (lstO (List.replicate k x), ρ') := by
  have := yRep_z h hn (by omega) (by omega)
  rwa [Int.toNat_natCast] at this
end MR
namespace SH
open PySem L2 PL MR
local macro_rules | `(tactic| walk_at "ev") => `(tactic| simp (config := {decide := true}) only [ini, fin, finI, sSeq, sNext, sAsg, sAsgG, sRet, sRetN, sDrop, sIf, sNever, sSetP, sAppP, sClrP, sRevP, fR, pmVar, pmIx, pmIxT, MR.putAt, OT.put, OT.at, gmName, gmTup, gmLst, gsNil, gsCons, rVar, rC, rOp, rUn, rCb, rCbZ, rOpZ, rCall, rAnd, rOr, rNot, rIf, rIs, rCh, rCh3, rTup, rLst, rSl, cNone, cSome, rRepr, dRepr, rInDct, rIdx, small, qNil, qCons, qApp, lApp, bR, bAnd, bOr, bNot, tR, tD, tmAnd, tmOr, tmNot, yVar_eq, yMov, yR, yAuto, dY, yD, dR, dOp, dOpR, dCb, dAnd, dOr, dNot, yCall, yCallA, yCallI, yCallIT, yCb, yCbA, yOp, yOpA, lfO, yTup, yLst, oNil, oCons, isNo, lNil, lCons, asB, asInt, asL, asT, iL, iT, iE, iZ, iV, yRng1_eq, iR1_eq, iR2_eq, lcStep, calmAt, wipeE, rst, sApp, yPop_eq, sDPutM, ySortD, yDNew, gmName, toD_d, toD_tup, toD_lst, toDs_nil, toDs_cons, toDs_ints, toDs_fpr, toDs_prs, lfs_ints, lfs_fpr, intsO_len, prsO_len, fprO_len, rng_len, intsO_snoc, prsO_snoc, lstO_rg, rOpZ, rCbZ, isNo_lstO, toD_dnew, ySl, ySlA, neS_self, eqS_self,  rRevL, yRevL, yRevLA, yPop0, sExt, gStrI,  lstO_prs, lstO_ints, toD_lstO, kp_int, kp_bool, kp_tuple, kp_list, kp_str, isIntB, isBoolB, isTupB, isListB, isStrB, gAdd_i, gSub_i, gLt_i, gLe_i, gGt_i, gGe_i, gMul_r, gMul_l, gMod_i, gDiv_i, gPow_i, gNeg, gEqI, gNeI, gEqS, gNeS, gIsN, gNotN, gIsB, gNotB, gIxL, gIxT, gLen, gMax2, gMin2, gInt, gAll, asBools_map, isN, OT.lf, OT.lfs, flat, atI_0, atI_1, ixN_0, ixN_1, rgD_len, enumD_len, trues_len, Int.toNat_natCast, List.length_map, eq_self, Option.bind_some, Option.bind_none, Option.map_some, Option.map_none, List.getElem?_cons_zero, List.getElem?_cons_succ, List.set_cons_zero, List.set_cons_succ, List.map_cons, List.map_nil, List.replicate, List.nil_append, List.cons_append, List.length_cons, List.length_nil, List.all_cons, List.all_nil, if_true, if_false, reduceIte, tfl_int, tfl_bool, tfl_none, tfl_str, tfl_list, Bool.true_and, Bool.and_true, Bool.false_and, Bool.and_false, Bool.true_or, Bool.or_true, Bool.false_or, Bool.or_false, Bool.not_true, Bool.not_false, Bool.false_eq_true, decide_true, decide_false, true_and, and_true, false_and, and_false, or_true, true_or, *])
/-! ### lists of webs, rows -/
abbrev Wb := Nat × List (Int × Int)
def wbD (w : Wb) : D := WD w.1 w.2
structure WbOk (w : Wb) : Prop where
  ok : WOk w.1 w.2
  lo : 1 ≤ w.1
  hi : w.1 ≤ 40
  len : w.2.length ≤ 120
theorem wbD_eq (w : Wb) : wbD w = .tuple [.int (w.1 : Nat), .list (w.2.map pairD)] := rfl
/-- one of so many places -/
def plB (m : Int) : D → Bool
  | .int i => decide (0 ≤ i ∧ i < m)
  | _ => false
theorem is_place_any (m : Int) (d : D) : m_is_place [.int m, d] = some (.d (.bool (plB m d))) := by
  have hw : m_is_whole [d] = some (.d (.bool (isIntB d && !isBoolB d))) := by
    unfold m_is_whole B_is_whole
    cases d <;> walk_at "ev"
  cases d with
  | int i =>
    exact is_place_int m i
  | _ => unfold m_is_place B_is_place; walk_at "ev"; rfl
/-! numbers of rows -/
def numA (ws : List Wb) (r : List Int) : Int := (ws.zip r).foldl (fun n p => n * (p.1.1 : Int) + p.2) 0
end SH
namespace SH
open PySem L2 PL MR
local macro_rules | `(tactic| walk_at "ev") => `(tactic| simp (config := {decide := true}) only [ini, fin, finI, sSeq, sNext, sAsg, sAsgG, sRet, sRetN, sDrop, sIf, sNever, sSetP, sAppP, sClrP, sRevP, fR, pmVar, pmIx, pmIxT, MR.putAt, OT.put, OT.at, gmName, gmTup, gmLst, gsNil, gsCons, rVar, rC, rOp, rUn, rCb, rCbZ, rOpZ, rCall, rAnd, rOr, rNot, rIf, rIs, rCh, rCh3, rTup, rLst, rSl, cNone, cSome, rRepr, dRepr, rInDct, rIdx, small, qNil, qCons, qApp, lApp, bR, bAnd, bOr, bNot, tR, tD, tmAnd, tmOr, tmNot, yVar_eq, yMov, yR, yAuto, dY, yD, dR, dOp, dOpR, dCb, dAnd, dOr, dNot, yCall, yCallA, yCallI, yCallIT, yCb, yCbA, yOp, yOpA, lfO, yTup, yLst, oNil, oCons, isNo, lNil, lCons, asB, asInt, asL, asT, iL, iT, iE, iZ, iV, yRng1_eq, iR1_eq, iR2_eq, lcStep, calmAt, wipeE, rst, sApp, yPop_eq, sDPutM, ySortD, yDNew, gmName, toD_d, toD_tup, toD_lst, toDs_nil, toDs_cons, toDs_ints, toDs_fpr, toDs_prs, lfs_ints, lfs_fpr, intsO_len, prsO_len, fprO_len, rng_len, intsO_snoc, prsO_snoc, lstO_rg, rOpZ, rCbZ, isNo_lstO, toD_dnew, ySl, ySlA, neS_self, eqS_self,  rRevL, yRevL, yRevLA, yPop0, sExt, gStrI,  lstO_prs, lstO_ints, toD_lstO, kp_int, kp_bool, kp_tuple, kp_list, kp_str, isIntB, isBoolB, isTupB, isListB, isStrB, gAdd_i, gSub_i, gLt_i, gLe_i, gGt_i, gGe_i, gMul_r, gMul_l, gMod_i, gDiv_i, gPow_i, gNeg, gEqI, gNeI, gEqS, gNeS, gIsN, gNotN, gIsB, gNotB, gIxL, gIxT, gLen, gMax2, gMin2, gInt, gAll, asBools_map, isN, OT.lf, OT.lfs, flat, atI_0, atI_1, ixN_0, ixN_1, rgD_len, enumD_len, trues_len, Int.toNat_natCast, List.length_map, eq_self, Option.bind_some, Option.bind_none, Option.map_some, Option.map_none, List.getElem?_cons_zero, List.getElem?_cons_succ, List.set_cons_zero, List.set_cons_succ, List.map_cons, List.map_nil, List.replicate, List.nil_append, List.cons_append, List.length_cons, List.length_nil, List.all_cons, List.all_nil, if_true, if_false, reduceIte, tfl_int, tfl_bool, tfl_none, tfl_str, tfl_list, Bool.true_and, Bool.and_true, Bool.false_and, Bool.and_false, Bool.true_or, Bool.or_true, Bool.false_or, Bool.or_false, Bool.not_true, Bool.not_false, Bool.false_eq_true, decide_true, decide_false, true_and, and_true, false_and, and_false, or_true, true_or, *])
def RowOk : List Wb → List Int → Prop
  | [], [] => True
  | w :: ws, p :: ps => (0 ≤ p ∧ p < (w.1 : Int)) ∧ RowOk ws ps
  | _, _ => False
theorem RowOk.len : ∀ {ws : List Wb} {r : List Int}, RowOk ws r → r.length = ws.length
  | [], [], _ => rfl
  | w :: ws, p :: ps, h => by simp [RowOk.len h.2]
/-! the row of a number -/
/-! the same where no web is empty -/
end SH
namespace SH
open PySem L2 PL MR
local macro_rules | `(tactic| walk_at "ev") => `(tactic| simp (config := {decide := true}) only [ini, fin, finI, sSeq, sNext, sAsg, sAsgG, sRet, sRetN, sDrop, sIf, sNever, sSetP, sAppP, sClrP, sRevP, fR, pmVar, pmIx, pmIxT, MR.putAt, OT.put, OT.at, gmName, gmTup, gmLst, gsNil, gsCons, rVar, rC, rOp, rUn, rCb, rCbZ, rOpZ, rCall, rAnd, rOr, rNot, rIf, rIs, rCh, rCh3, rTup, rLst, rSl, cNone, cSome, rRepr, dRepr, rInDct, rIdx, small, qNil, qCons, qApp, lApp, bR, bAnd, bOr, bNot, tR, tD, tmAnd, tmOr, tmNot, yVar_eq, yMov, yR, yAuto, dY, yD, dR, dOp, dOpR, dCb, dAnd, dOr, dNot, yCall, yCallA, yCallI, yCallIT, yCb, yCbA, yOp, yOpA, lfO, yTup, yLst, oNil, oCons, isNo, lNil, lCons, asB, asInt, asL, asT, iL, iT, iE, iZ, iV, yRng1_eq, iR1_eq, iR2_eq, lcStep, calmAt, wipeE, rst, sApp, yPop_eq, sDPutM, ySortD, yDNew, gmName, toD_d, toD_tup, toD_lst, toDs_nil, toDs_cons, toDs_ints, toDs_fpr, toDs_prs, lfs_ints, lfs_fpr, intsO_len, prsO_len, fprO_len, rng_len, intsO_snoc, prsO_snoc, lstO_rg, rOpZ, rCbZ, isNo_lstO, toD_dnew, ySl, ySlA, neS_self, eqS_self,  rRevL, yRevL, yRevLA, yPop0, sExt, gStrI,  lstO_prs, lstO_ints, toD_lstO, kp_int, kp_bool, kp_tuple, kp_list, kp_str, isIntB, isBoolB, isTupB, isListB, isStrB, gAdd_i, gSub_i, gLt_i, gLe_i, gGt_i, gGe_i, gMul_r, gMul_l, gMod_i, gDiv_i, gPow_i, gNeg, gEqI, gNeI, gEqS, gNeS, gIsN, gNotN, gIsB, gNotB, gIxL, gIxT, gLen, gMax2, gMin2, gInt, gAll, asBools_map, isN, OT.lf, OT.lfs, flat, atI_0, atI_1, ixN_0, ixN_1, rgD_len, enumD_len, trues_len, Int.toNat_natCast, List.length_map, eq_self, Option.bind_some, Option.bind_none, Option.map_some, Option.map_none, List.getElem?_cons_zero, List.getElem?_cons_succ, List.set_cons_zero, List.set_cons_succ, List.map_cons, List.map_nil, List.replicate, List.nil_append, List.cons_append, List.length_cons, List.length_nil, List.all_cons, List.all_nil, if_true, if_false, reduceIte, tfl_int, tfl_bool, tfl_none, tfl_str, tfl_list, Bool.true_and, Bool.and_true, Bool.false_and, Bool.and_false, Bool.true_or, Bool.or_true, Bool.false_or, Bool.or_false, Bool.not_true, Bool.not_false, Bool.false_eq_true, decide_true, decide_false, true_and, and_true, false_and, and_false, or_true, true_or, *])
theorem toD_ints (r : List Int) : OT.toD (.nd .lst (intsO r)) = some (.list (r.map .int)) := by rw [toD_lst, toDs_ints]; rfl
/-! the law's own drawing -/
theorem RowOk.push : ∀ {ws : List Wb} {r : List Int} {w : Wb} {p : Int}, RowOk ws r → 0 ≤ p → p < (w.1 : Int) → RowOk (ws ++ [w]) (r ++ [p])
  | [], [], w, p, _, h1, h2 => ⟨⟨h1, h2⟩, trivial⟩
  | v :: ws, q :: r, w, p, h, h1, h2 => ⟨h.1, h.2.push h1 h2⟩
def wbO (w : Wb) : OT := .nd .tup [.d (.int (w.1 : Nat)), .nd .lst (fprO w.2)]
theorem toD_wbO (w : Wb) : OT.toD (wbO w) = some (wbD w) := by
  simp [wbO, wbD, WD, toD_tup, toDs_cons, toDs_nil, toD_d, toD_lst, toDs_fpr]
end SH
namespace MR
open PySem L2 PL
/-! ### pure: rows, tables of lists, membership of pairs -/
theorem cut_to (r : List Int) {i : Nat} (h : i ≤ r.length) : cutD (r.map PyData.int) none (some (i : Int)) = (r.take i).map .int := by
  unfold cutD
  have e : HT.sIx (r.map PyData.int).length (r.map PyData.int).length (some (i : Int)) = i := by
    simp only [HT.sIx, List.length_map]; split <;> omega
  have e0 : HT.sIx (r.map PyData.int).length 0 none = 0 := by simp [HT.sIx]
  rw [e, e0]
  simp
theorem cut_from (r : List Int) {i : Nat} (h : i ≤ r.length) : cutD (r.map PyData.int) (some (i : Int)) none = (r.drop i).map .int := by
  unfold cutD
  have e : HT.sIx (r.map PyData.int).length 0 (some (i : Int)) = i := by
    simp only [HT.sIx, List.length_map]; split <;> omega
  have e0 : HT.sIx (r.map PyData.int).length (r.map PyData.int).length none = (r.map PyData.int).length := by simp [HT.sIx]
  rw [e, e0]
  rw [← List.map_drop, List.take_of_length_le (by simp)]
theorem GCat_ints {a b : List Int} (h : a.length + b.length ≤ 1000000) : GCat (.list (a.map .int)) (.list (b.map .int)) = some (.nd .lst (intsO (a ++ b))) := by
  rw [GCat_ok (by simpa using h), ← List.map_append, lstO_ints]
theorem sAppP_tab {i m : Nat} {ix : Rm} {f : Fm} {ρ : Env} {g : Nat → List OT} {p : Int} {r : OT} (h : ρ[i]? = some (.nd .lst ((List.range m).map fun k => .nd .lst (g k)))) (hx : ix ρ = some (.int p)) (h0 : 0 ≤ p) (h1 : p < (m : Int)) (hf : f ρ = some r) (hr : isNo r = false) (hl : (g p.toNat).length ≤ 1000000) :
    sAppP i (pmIx (pmVar i) ix) f ρ = some (.nx, ρ.set i (.nd .lst ((List.range m).map fun (k : Nat) => .nd .lst (if (k : Int) = p then g k ++ [r] else g k)))) := by
  obtain ⟨n, rfl⟩ : ∃ n : Nat, p = (n : Int) := ⟨p.toNat, by omega⟩
  have hn : n < m := by omega
  have e : ((List.range m).map fun k => OT.nd .lst (g k))[n]? = some (.nd .lst (g n)) := by
    rw [List.getElem?_map, List.getElem?_range hn]; rfl
  unfold sAppP pmIx
  simp only [pmVar, h, Option.map_some, Option.bind_some, hx, List.length_map, List.length_range, ixN_nat hn, e, hf, hr, List.nil_append]
  rw [if_neg (by simp), if_pos (by simpa using hl)]
  simp only [putAt, h, OT.put, e, Option.some.injEq, Prod.mk.injEq, true_and]
  congr 2
  apply List.ext_getElem?
  intro k
  rw [List.getElem?_set]
  by_cases hk : k < m
  · rw [List.getElem?_map, List.getElem?_map, List.getElem?_range hk]
    by_cases z : n = k
    · subst z; simp [hn]
    · have z' : ¬ ((k : Int) = (n : Int)) := by omega
      simp [z, z']
  · simp [hk]
    intro z
    omega
/-! sorting -/
theorem toDs_map' {α : Type} {f : α → OT} {g : α → D} (h : ∀ a, OT.toD (f a) = some (g a)) : ∀ xs : List α, OT.toDs (xs.map f) = some (xs.map g)
  | [] => by simp [toDs_nil]
  | x :: xs => by simp [toDs_cons, h x, toDs_map' h xs]
/-! membership of pairs -/
theorem dY_of {y : Ym} {ρ ρ' : Env} {r : OT} {x : D} (h : y ρ = some (r, ρ')) (h2 : OT.toD r = some x) : dY y ρ = some (x, ρ') := by
  unfold dY
  rw [h, Option.bind_some, h2]
  rfl
theorem yOp_of {G : D → D → Option OT} {a b : Dm} {ρ ρ1 ρ2 : Env} {x y : D} {r : OT} (h1 : a ρ = some (x, ρ1)) (h2 : b ρ1 = some (y, ρ2)) (h3 : G x y = some r) : yOp G a b ρ = some (r, ρ2) := by
  unfold yOp
  rw [h1, Option.bind_some, h2, Option.bind_some, h3]
  rfl
/-! comprehensions with two fors -/
end MR
namespace SQ
open PySem L2 PL MR SH
local macro_rules | `(tactic| walk_at "ev") => `(tactic| simp (config := {decide := true}) only [ini, fin, finI, sSeq, sNext, sAsg, sAsgG, sRet, sRetN, sDrop, sIf, sNever, sSetP, sAppP, sClrP, sRevP, fR, pmVar, pmIx, pmIxT, MR.putAt, OT.put, OT.at, gmName, gmTup, gmLst, gsNil, gsCons, rVar, rC, rOp, rUn, rCb, rCbZ, rOpZ, rCall, rAnd, rOr, rNot, rIf, rIs, rCh, rCh3, rTup, rLst, rSl, cNone, cSome, rRepr, dRepr, rInDct, rIdx, rIdxD, iR3s, small, qNil, qCons, qApp, lApp, bR, bAnd, bOr, bNot, tR, tD, tmAnd, tmOr, tmNot, yVar_eq, yMov, yR, yAuto, dY, yD, dR, dOp, dOpR, dCb, dAnd, dOr, dNot, yCall, yCallA, yCallI, yCallIT, yCb, yCbA, yOp, yOpA, lfO, yTup, yLst, oNil, oCons, isNo, lNil, lCons, asB, asInt, asL, asT, iL, iT, iE, iZ, iV, yRng1_eq, iR1_eq, iR2_eq, lcStep, calmAt, wipeE, rst, sApp, yPop_eq, sDPutM, ySortD, yDNew, gmName, toD_d, toD_tup, toD_lst, toDs_nil, toDs_cons, toDs_ints, toDs_fpr, toDs_prs, lfs_ints, lfs_fpr, intsO_len, prsO_len, fprO_len, rng_len, intsO_snoc, prsO_snoc, lstO_rg, rOpZ, rCbZ, isNo_lstO, toD_dnew, ySl, ySlA, neS_self, eqS_self,  rRevL, yRevL, yRevLA, yPop0, sExt, gStrI,  lstO_prs, lstO_ints, toD_lstO, kp_int, kp_bool, kp_tuple, kp_list, kp_str, isIntB, isBoolB, isTupB, isListB, isStrB, gAdd_i, gSub_i, gLt_i, gLe_i, gGt_i, gGe_i, gMul_r, gMul_l, gMod_i, gDiv_i, gPow_i, gNeg, gEqI, gNeI, gEqS, gNeS, gIsN, gNotN, gIsB, gNotB, gIxL, gIxT, gLen, gMax2, gMin2, gInt, gAll, asBools_map, isN, OT.lf, OT.lfs, flat, atI_0, atI_1, ixN_0, ixN_1, rgD_len, enumD_len, trues_len, Int.toNat_natCast, List.length_map, eq_self, Option.bind_some, Option.bind_none, Option.map_some, Option.map_none, List.getElem?_cons_zero, List.getElem?_cons_succ, List.set_cons_zero, List.set_cons_succ, List.map_cons, List.map_nil, List.replicate, List.nil_append, List.cons_append, List.length_cons, List.length_nil, List.all_cons, List.all_nil, if_true, if_false, reduceIte, tfl_int, tfl_bool, tfl_none, tfl_str, tfl_list, Bool.true_and, Bool.and_true, Bool.false_and, Bool.and_false, Bool.true_or, Bool.or_true, Bool.false_or, Bool.or_false, Bool.not_true, Bool.not_false, Bool.false_eq_true, decide_true, decide_false, true_and, and_true, false_and, and_false, or_true, true_or, *])
theorem cell_at_ok (ns : List Int) (k : Nat) : ∃ c : Int, SQ.m__law_cell_at [.list (ns.map .int), .int k] = some (.d (.int c)) := by
  by_cases hc : k < ns.length
  · refine ⟨ns[k], ?_⟩
    have e1 := atI_int (xs := ns) (i := k) (k := ns[k]) (by simp [hc])
    have e2 : decide ((k : Int) < (ns.length : Int)) = true := by simp [hc]
    generalize ns[k] = c at *
    unfold SQ.m__law_cell_at B__law_cell_at
    refine fin_eq ?_
    refine w_seq (W.of (by walk_at "ev" <;> exact rfl) ?_)
    rfl
  · refine ⟨0, ?_⟩
    have e2 : decide ((k : Int) < (ns.length : Int)) = false := by simp; omega
    unfold SQ.m__law_cell_at B__law_cell_at
    refine fin_eq ?_
    refine w_seq (W.of (by walk_at "ev" <;> exact rfl) ?_)
    exact w_end (by walk_at "ev" <;> exact rfl) rfl rfl
def digOk (ds sz : List Int) (n : Nat) : Prop := ∀ k : Nat, k < n → 0 ≤ at' ds (k : Nat) ∧ at' ds (k : Nat) < at' sz (k : Nat)
theorem at'_snoc {ds : List Int} {x : Int} {i k : Nat} (hl : ds.length = i) : at' (ds ++ [x]) (k : Nat) = if k = i then x else at' ds (k : Nat) := by
  unfold at'
  rw [Int.toNat_natCast]
  by_cases h : k = i
  · subst h; subst hl; simp
  · rw [if_neg h]
    by_cases h2 : k < i
    · rw [List.getD_eq_getElem?_getD, List.getElem?_append_left (by omega), ← List.getD_eq_getElem?_getD]
    · rw [List.getD_eq_getElem?_getD, List.getD_eq_getElem?_getD, List.getElem?_eq_none (by simp; omega), List.getElem?_eq_none (by omega)]
theorem digOk_snoc {ds sz : List Int} {x : Int} {i : Nat} (hl : ds.length = i) (h : digOk ds sz i) (h1 : 0 ≤ x) (h2 : x < at' sz (i : Nat)) : digOk (ds ++ [x]) sz (i + 1) := by
  intro k hk
  rw [at'_snoc hl]
  split
  · rename_i e; subst e; exact ⟨h1, h2⟩
  · exact h k (by omega)
theorem numbers_ok (c salt : Int) (hs : 0 ≤ salt ∧ salt ≤ 1000000) (sz : List Int) (hl : sz.length ≤ 10000) (h : ∀ s ∈ sz, 0 < s ∧ s < 1073741824) : ∃ ds : List Int, SQ.m__law_numbers [.int c, .int salt, .list (sz.map .int)] = some (.nd .lst (intsO ds)) ∧ ds.length = sz.length ∧ digOk ds sz sz.length := by
  have c1 := rg1_n (n := sz.length) (by omega)
  have c5 : (0 : Int) ≤ 18 ∧ (18 : Int) ≤ 1000000 ∧ (10 : Int).natAbs < 2 ^ 64 := by decide
  have c2 : ((-(2 ^ 64) : Int) < 7919 ∧ (7919 : Int) < 2 ^ 64) := by decide
  have c3 : ((-(2 ^ 64) : Int) < 101 ∧ (101 : Int) < 2 ^ 64) := by decide
  have c4 : ((-(2 ^ 64) : Int) < 48271 ∧ (48271 : Int) < 2 ^ 64) := by decide
  obtain ⟨r, e, ds, rfl, h1, h2⟩ := fin_w (P := fun x => ∃ ds : List Int, x = .nd .lst (intsO ds) ∧ ds.length = sz.length ∧ digOk ds sz sz.length) (B := B__law_numbers) (ρ := ini [.int c, .int salt, .list (sz.map .int)] 5) (by
    unfold B__law_numbers
    refine w_st (by walk_at "ev" <;> exact rfl) ?_
    refine w_st (by walk_at "ev" <;> exact rfl) ?_
    refine w_st (by walk_at "ev" <;> exact rfl) ?_
    generalize max c (-1 - c) = N
    refine w_seq (w_for (fun i ρ => ∃ (left : Int) (ds : List Int) (X Y : OT), ρ = [.d (.int c), .d (.int salt), .d (.list (sz.map .int)), .d (.int N), .d (.int left), .nd .lst (intsO ds), X, Y] ∧ ds.length = i ∧ digOk ds sz i) (xs := rgD 0 sz.length) (by walk_at "ev" <;> exact rfl) ⟨_, [], _, _, rfl, rfl, fun k hk => by omega⟩ ?_ ?_)
    · rintro i x ρ2 hx ⟨left, ds, X, Y, rfl, g1, g2⟩
      obtain ⟨hi, rfl⟩ := rgD_at hx
      rw [Int.zero_add]
      have e1 := atI_os (os := sz) (a := (i : Nat)) (by omega) (by omega)
      have e2 := h _ (at'_mem (os := sz) (a := (i : Nat)) (by omega) (by omega))
      have g3 : i ≤ 1000000 := by omega
      have ck : (-(2 ^ 64) : Int) < (i : Int) ∧ (i : Int) < 2 ^ 64 := by omega
      have fin' : ∀ x : Int, 0 ≤ x → x < at' sz (i : Nat) → digOk (ds ++ [x]) sz (i + 1) := fun x a b => digOk_snoc g1 g2 a b
      have fl : ∀ x : Int, (ds ++ [x]).length = i + 1 := fun x => by simp [g1]
      clear g2
      generalize hK : (i : Int) = K at *
      generalize at' sz K = s at *
      apply exw
      · walk_at "ev" <;> exact rfl
      have e3 : 0 < s := e2.1
      by_cases ha : (10 : Int) ^ (18 : Int).toNat ≤ N
      · by_cases hb : 0 < left
        · refine w_if (c := true) (by walk_at "ev" <;> exact rfl) (fun _ => ?_) (fun z => by cases z)
          refine w_st (by walk_at "ev" <;> exact rfl) ?_
          apply w_nx
          · walk_at "ev" <;> exact rfl
          exact ⟨_, _, _, _, rfl, fl _, fin' _ (Int.emod_nonneg _ (by omega)) (Int.emod_lt_of_pos _ e3)⟩
        · refine w_if (c := false) (by walk_at "ev" <;> exact rfl) (fun z => by cases z) (fun _ => ?_)
          refine w_st (by walk_at "ev" <;> exact rfl) ?_
          refine w_st (by walk_at "ev" <;> exact rfl) ?_
          have o1 : ∀ x : Int, (-(2 ^ 64) : Int) < x % 2147483647 ∧ x % 2147483647 < 2 ^ 64 := fun x => by omega
          refine w_st (by walk_at "ev" <;> exact rfl) ?_
          apply w_nx
          · walk_at "ev" <;> exact rfl
          exact ⟨_, _, _, _, rfl, fl _, fin' _ (Int.emod_nonneg _ (by omega)) (Int.emod_lt_of_pos _ e3)⟩
      · refine w_if (c := false) (by walk_at "ev" <;> exact rfl) (fun z => by cases z) (fun _ => ?_)
        refine w_st (by walk_at "ev" <;> exact rfl) ?_
        refine w_st (by walk_at "ev" <;> exact rfl) ?_
        have o1 : ∀ x : Int, (-(2 ^ 64) : Int) < x % 2147483647 ∧ x % 2147483647 < 2 ^ 64 := fun x => by omega
        refine w_st (by walk_at "ev" <;> exact rfl) ?_
        apply w_nx
        · walk_at "ev" <;> exact rfl
        exact ⟨_, _, _, _, rfl, fl _, fin' _ (Int.emod_nonneg _ (by omega)) (Int.emod_lt_of_pos _ e3)⟩
    · rintro ρ2 ⟨left, ds, X, Y, rfl, g1, g2⟩
      rw [rgD_len] at g1 g2
      exact w_end (by walk_at "ev" <;> exact rfl) rfl ⟨ds, rfl, g1, g2⟩)
  exact ⟨ds, e, h1, h2⟩
theorem order_ok {ds : List Int} (hl : ds.length ≤ 10000) (h : ∀ d ∈ ds, 0 ≤ d) : ∃ os : List Int, SQ.m__law_order [.list (ds.map .int)] = some (.nd .lst (intsO os)) ∧ os.Perm (rng ds.length) := by
  have c1 := rg0_n (n := ds.length) (by omega)
  obtain ⟨r, e, os, rfl, h1⟩ := fin_w (P := fun x => ∃ os : List Int, x = .nd .lst (intsO os) ∧ os.Perm (rng ds.length)) (B := B__law_order) (ρ := ini [.list (ds.map .int)] 2) (by
    unfold B__law_order
    refine w_st (by walk_at "ev" <;> exact rfl) ?_
    refine w_ret (w_lcT (fun i acc ρ => ∃ (os ls : List Int) (X : OT), acc = intsO os ∧ ρ = [.d (.list (ds.map .int)), .nd .lst (intsO ls), X] ∧ (os ++ ls).Perm (rng ds.length) ∧ os.length = i) (as := ds) (enc := PyData.int) (by walk_at "ev" <;> exact rfl) rfl (by omega) ⟨[], rng ds.length, _, rfl, rfl, .refl _, rfl⟩ ?_ ?_)
    · rintro i d acc ρ2 hd ⟨os, ls, X, rfl, rfl, hp, hi⟩
      have hd0 := h d (List.mem_of_getElem? hd)
      have hlt : i < ds.length := (List.getElem?_eq_some_iff.mp hd).1
      have hlen : ls.length + i = ds.length := by have := hp.length_eq; rw [List.length_append, rng_len] at this; omega
      obtain ⟨j, hj⟩ : ∃ j : Nat, d % (ls.length : Int) = j := ⟨(d % (ls.length : Int)).toNat, by have := Int.emod_nonneg d (b := (ls.length : Int)) (by omega); omega⟩
      have hj2 : j < ls.length := by have := Int.emod_lt_of_pos d (b := (ls.length : Int)) (by omega); omega
      obtain ⟨k, xs', k1, k2, k3, k4⟩ := pop_ints hj2
      have c2 := pop1_n hj2 (by omega)
      have c3 : (0 : Int) < (ls.length : Int) := by omega
      refine W.of (by walk_at "ev" <;> exact rfl) ?_
      refine ⟨os ++ [k], xs', _, by simp [intsO], rfl, ?_, by simp; omega⟩
      refine List.Perm.trans ?_ hp
      rw [List.append_assoc]
      exact List.Perm.append_left _ k3
    · rintro acc ρ2 ⟨os, ls, X, rfl, rfl, hp, hi⟩
      have hlen : ls.length = 0 := by have := hp.length_eq; rw [List.length_append, rng_len] at this; omega
      have : ls = [] := List.length_eq_zero_iff.mp hlen
      subst this
      rw [List.append_nil] at hp
      exact ⟨os, rfl, hp⟩)
  exact ⟨os, e, h1⟩
end SQ
namespace MR
open PySem L2 PL
/-! ### pure: more walking -/
theorem W.eq {α : Type} {m : Env → Option (α × Env)} {ρ ρ' : Env} {r : α} (h : W m ρ fun r' ρ'' => r' = r ∧ ρ'' = ρ') : m ρ = some (r, ρ') := by
  obtain ⟨r', ρ'', e, rfl, rfl⟩ := h
  exact e
theorem w_yOp {G : D → D → Option OT} {a b : Dm} {ρ : Env} {Q : OT → Env → Prop} (h : W a ρ fun x ρ1 => W b ρ1 fun y ρ2 => ∃ r, G x y = some r ∧ Q r ρ2) : W (yOp G a b) ρ Q := by
  obtain ⟨x, ρ1, e, y, ρ2, e2, r, e3, q⟩ := h
  exact ⟨_, _, yOp_of e e2 e3, q⟩
theorem w_dYof {y : Ym} {ρ ρ' : Env} {r : OT} {x : D} {Q : D → Env → Prop} (h : y ρ = some (r, ρ')) (h2 : OT.toD r = some x) (q : Q x ρ') : W (dY y) ρ Q := ⟨_, _, dY_of h h2, q⟩
theorem cut_mid (r : List Int) {a b : Nat} (h : a ≤ b) (h2 : b ≤ r.length) : cutD (r.map PyData.int) (some (a : Int)) (some (b : Int)) = ((r.drop a).take (b - a)).map .int := by
  unfold cutD
  rw [HT.sIx_nat, HT.sIx_nat, List.length_map, Nat.min_eq_left h2, Nat.min_eq_left (by omega : a ≤ r.length)]
  rw [← List.map_drop, ← List.map_take]
theorem atI_neg {os : List Int} {k : Nat} (h : k < os.length) : atI (os.map PyData.int) (-1 - (k : Int)) = some (.int (at' os ((os.length - 1 - k : Nat) : Int))) := by
  have e : ixN os.length (-1 - (k : Int)) = some (os.length - 1 - k) := by
    unfold ixN
    split <;> (try split) <;> (try simp) <;> omega
  have h2 : os.length - 1 - k < os.length := by omega
  have e2 : at' os ((os.length - 1 - k : Nat) : Int) = os[os.length - 1 - k] := at'_nat h2
  unfold atI
  rw [List.length_map, e]
  simp [e2, h2]
theorem w_asgG {g : Gm} {d : Dm} {ρ : Env} {Q : Fl → Env → Prop} (h : W d ρ fun x ρ1 => ∃ ρ2, g x ρ1 = some ρ2 ∧ Q .nx ρ2) : W (sAsgG g d) ρ Q := by
  obtain ⟨x, ρ1, e, ρ2, e2, q⟩ := h
  exact ⟨_, _, by unfold sAsgG; rw [e]; simp only [Option.bind_some, e2]; rfl, q⟩
theorem toDs_mapD {α : Type} (f : α → D) (xs : List α) : OT.toDs (xs.map fun a => OT.d (f a)) = some (xs.map f) := by
  have := toDs_mapd (xs.map f)
  rwa [List.map_map] at this
theorem w_ext {i : Nat} {y : Ym} {ρ : Env} {ts0 : List OT} {Q : Fl → Env → Prop} (h0 : ρ[i]? = some (.nd .lst ts0)) (h : W y ρ fun r ρ' => ∃ us ts, r = .nd .lst us ∧ ρ'[i]? = some (.nd .lst ts) ∧ ts.length + us.length ≤ 1000000 ∧ Q .nx (ρ'.set i (.nd .lst (ts ++ us)))) : W (sExt i y) ρ Q := by
  obtain ⟨r, ρ1, e, us, ts, rfl, e2, g, q⟩ := h
  refine ⟨_, _, ?_, q⟩
  unfold sExt
  rw [h0]
  simp only [e, Option.bind_some, e2]
  rw [if_pos g]
end MR
namespace SQ
open PySem L2 PL MR SH
local macro_rules | `(tactic| walk_at "ev") => `(tactic| simp (config := {decide := true}) only [ini, fin, finI, sSeq, sNext, sAsg, sAsgG, sRet, sRetN, sDrop, sIf, sNever, sSetP, sAppP, sClrP, sRevP, fR, pmVar, pmIx, pmIxT, MR.putAt, OT.put, OT.at, gmName, gmTup, gmLst, gsNil, gsCons, rVar, rC, rOp, rUn, rCb, rCbZ, rOpZ, rCall, rAnd, rOr, rNot, rIf, rIs, rCh, rCh3, rTup, rLst, rSl, cNone, cSome, rRepr, dRepr, rInDct, rIdx, rIdxD, iR3s, small, qNil, qCons, qApp, lApp, bR, bAnd, bOr, bNot, tR, tD, tmAnd, tmOr, tmNot, yVar_eq, yMov, yR, yAuto, dY, yD, dR, dOp, dOpR, dCb, dAnd, dOr, dNot, yCall, yCallA, yCallI, yCallIT, yCb, yCbA, yOp, yOpA, lfO, yTup, yLst, oNil, oCons, isNo, lNil, lCons, asB, asInt, asL, asT, iL, iT, iE, iZ, iV, yRng1_eq, iR1_eq, iR2_eq, lcStep, calmAt, wipeE, rst, sApp, yPop_eq, sDPutM, ySortD, yDNew, gmName, toD_d, toD_tup, toD_lst, toDs_nil, toDs_cons, toDs_ints, toDs_fpr, toDs_prs, lfs_ints, lfs_fpr, intsO_len, prsO_len, fprO_len, rng_len, intsO_snoc, prsO_snoc, lstO_rg, rOpZ, rCbZ, isNo_lstO, toD_dnew, ySl, ySlA, neS_self, eqS_self,  rRevL, yRevL, yRevLA, yPop0, sExt, gStrI,  lstO_prs, lstO_ints, toD_lstO, kp_int, kp_bool, kp_tuple, kp_list, kp_str, isIntB, isBoolB, isTupB, isListB, isStrB, gAdd_i, gSub_i, gLt_i, gLe_i, gGt_i, gGe_i, gMul_r, gMul_l, gMod_i, gDiv_i, gPow_i, gNeg, gEqI, gNeI, gEqS, gNeS, gIsN, gNotN, gIsB, gNotB, gIxL, gIxT, gLen, gMax2, gMin2, gInt, gAll, asBools_map, isN, OT.lf, OT.lfs, flat, atI_0, atI_1, ixN_0, ixN_1, rgD_len, enumD_len, trues_len, Int.toNat_natCast, List.length_map, eq_self, Option.bind_some, Option.bind_none, Option.map_some, Option.map_none, List.getElem?_cons_zero, List.getElem?_cons_succ, List.set_cons_zero, List.set_cons_succ, List.map_cons, List.map_nil, List.replicate, List.nil_append, List.cons_append, List.length_cons, List.length_nil, List.all_cons, List.all_nil, if_true, if_false, reduceIte, tfl_int, tfl_bool, tfl_none, tfl_str, tfl_list, Bool.true_and, Bool.and_true, Bool.false_and, Bool.and_false, Bool.true_or, Bool.or_true, Bool.false_or, Bool.or_false, Bool.not_true, Bool.not_false, Bool.false_eq_true, decide_true, decide_false, true_and, and_true, false_and, and_false, or_true, true_or, *])
/-! the law's drawn web -/
def szA (n : Nat) (most more : Int) : List Int := [most, more + 1] ++ (List.range (n - 1)).map (fun (k : Nat) => (k : Int) + 1) ++ (List.range n).map (fun (k : Nat) => (n : Int) - (k : Int))
def szs (n : Nat) (most : Int) (more : Nat) : List Int := szA n most more ++ List.replicate more ((n : Int) * n) ++ List.replicate (n - 1) 3
theorem szA_len (n : Nat) (h : 1 ≤ n) (most more : Int) : (szA n most more).length = 2 * n + 1 := by simp [szA]; omega
theorem szs_len (n : Nat) (h : 1 ≤ n) (most : Int) (more : Nat) : (szs n most more).length = 2 * n + 1 + more + (n - 1) := by simp [szs, szA_len n h]; omega
theorem szs_pos (n : Nat) (h : 1 ≤ n) (h2 : n ≤ 40) (most : Int) (m1 : 1 ≤ most) (m2 : most ≤ 40) (more : Nat) (h3 : more ≤ 60) : ∀ s ∈ szs n most more, 0 < s ∧ s < 1073741824 := by
  intro s hs
  have hn : (1 : Int) ≤ (n : Int) * n ∧ (n : Int) * n ≤ 1600 := by
    constructor
    · have := Int.mul_le_mul (a := 1) (c := (n : Int)) (b := 1) (d := n) (by omega) (by omega) (by omega) (by omega); omega
    · have := Int.mul_le_mul (a := (n : Int)) (c := 40) (b := n) (d := 40) (by omega) (by omega) (by omega) (by omega); omega
  simp only [szs, szA, List.mem_append, List.mem_map, List.mem_range, List.mem_replicate, List.mem_cons, List.not_mem_nil, or_false] at hs
  rcases hs with ((((rfl | rfl) | ⟨k, hk, rfl⟩) | ⟨k, hk, rfl⟩) | ⟨_, rfl⟩) | ⟨_, rfl⟩ <;> omega
theorem szs_1 (n : Nat) (most : Int) (more : Nat) : at' (szs n most more) ((1 : Nat) : Int) = more + 1 := rfl
theorem szs_2 {n k : Nat} (h : k < n - 1) (most : Int) (more : Nat) : at' (szs n most more) ((2 + k : Nat) : Int) = (k : Int) + 1 := by
  unfold at' szs szA
  rw [Int.toNat_natCast, List.getD_eq_getElem?_getD, List.append_assoc, List.append_assoc, List.append_assoc, List.getElem?_append_right (by simp)]
  rw [List.getElem?_append_left (by simp; omega)]
  simp [h]
theorem szs_3 {n k more : Nat} (h1 : 1 ≤ n) (h : k < more) (most : Int) : at' (szs n most more) ((2 * n + 1 + k : Nat) : Int) = (n : Int) * n := by
  unfold at' szs
  have := szA_len n h1 most (more : Int)
  rw [Int.toNat_natCast, List.getD_eq_getElem?_getD, List.append_assoc, List.getElem?_append_right (by omega)]
  rw [List.getElem?_append_left (by simp; omega)]
  simp [this, h]
def cB (b : Bool) (p : Int × Int) : Option (Int × Int) := if b then some p else Option.none
theorem prs_fm {α : Type} (g : α → Option (Int × Int)) (xs : List α) : xs.filterMap (fun a => (g a).map fun p => OT.nd .tup [.d (.int p.1), .d (.int p.2)]) = prsO (xs.filterMap g) := by
  unfold prsO
  rw [List.map_filterMap]
theorem ties_step {c salt most more loose m S6 X7 D8 L10 X11 : OT} {n : Nat} {os : List Int} (ho : os.Perm (rng n)) {a b : Int} (a0 : 0 ≤ a) (a1 : a < (n : Int)) (b0 : 0 ≤ b) (b1 : b < (n : Int)) {ks : List (Int × Int)} (h1 : ks.Nodup) (hk : ks.length ≤ 100000) (h3 : ∀ p ∈ ks, 0 ≤ p.1 ∧ p.1 < p.2 ∧ p.2 < (n : Int)) {Q : Fl → MR.Env → Prop}
    (q : ∀ ks' : List (Int × Int), ks'.Nodup → ks'.length ≤ ks.length + 1 → (∀ p ∈ ks', 0 ≤ p.1 ∧ p.1 < p.2 ∧ p.2 < (n : Int)) → Q .nx [c, salt, most, more, loose, m, S6, X7, D8, .nd .lst (intsO os), L10, X11, .nd (.dT (ks'.map kO)) (trues ks'.length), .d (.int a), .d (.int b)]) :
    W (sIf (tR (bR (rOp gNeI (rVar 13) (rVar 14)))) (sDPutM 12 (rTup (qCons (rCb gMin2 (qCons (rOp gIxL (rVar 9) (rVar 13)) (qCons (rOp gIxL (rVar 9) (rVar 14)) qNil))) (qCons (rCb gMax2 (qCons (rOp gIxL (rVar 9) (rVar 13)) (qCons (rOp gIxL (rVar 9) (rVar 14)) qNil))) qNil))) (rC (.bool true))) sNext)
      [c, salt, most, more, loose, m, S6, X7, D8, .nd .lst (intsO os), L10, X11, .nd (.dT (ks.map kO)) (trues ks.length), .d (.int a), .d (.int b)] Q := by
  have hlen : os.length = n := pm_len ho
  by_cases hne : a = b
  · have hf : decide (a = b) = true := decide_eq_true hne
    have q' := q ks h1 (by omega) h3
    clear hne q
    refine w_if (c := false) (by walk_at "ev" <;> exact rfl) (fun z => by cases z) (fun _ => ?_)
    exact w_next q'
  · have hf : decide (a = b) = false := by simp [hne]
    refine w_if (c := true) (by walk_at "ev" <;> exact rfl) (fun _ => ?_) (fun z => by cases z)
    have ea := atI_os (os := os) (a := a) a0 (by omega)
    have eb := atI_os (os := os) (a := b) b0 (by omega)
    have ma := pm_in ho a0 a1
    have mb := pm_in ho b0 b1
    have hne2 : at' os a ≠ at' os b := fun z => hne (pm_inj ho a0 a1 b0 b1 z)
    generalize at' os a = u at *
    generalize at' os b = v at *
    have hp := putO_true ks (min u v, max u v)
    have hk' : keyP (.tuple [.int (min u v), .int (max u v)]) = some (kO (min u v, max u v)) := rfl
    have g : ks.length ≤ 1000000 := by omega
    have g2 : (ks.map kO).length = (trues ks.length).length := by simp [trues]
    refine W.of (r := .nx) (by walk_at "ev" <;> exact rfl) (q (insK ks (min u v, max u v)) (insK_nodup h1) (insK_len _ _) ?_)
    intro z hz
    rcases PL.insK_mem hz with hz | rfl
    · exact h3 z hz
    · simp only []
      omega
theorem digOk.nn {ds sz : List Int} (h : digOk ds sz ds.length) : ∀ d ∈ ds, 0 ≤ d := by
  intro d hd
  obtain ⟨k, hk, rfl⟩ := List.getElem_of_mem hd
  have := (h k hk).1
  rwa [at'_nat hk] at this
theorem prsO_app (a b : List (Int × Int)) : prsO a ++ prsO b = prsO (a ++ b) := by simp [prsO]
theorem ints_map {α : Type} (g : α → Int) (xs : List α) : (xs.map fun a => OT.d (.int (g a))) = intsO (xs.map g) := by simp [intsO]
theorem web_ok (c salt : Int) (hs : 0 ≤ salt ∧ salt ≤ 1000000) (most : Int) (m1 : 1 ≤ most) (m2 : most ≤ 40) (more : Nat) (h3 : more ≤ 60) (loose : Bool) : ∃ w : Wb, SQ.m__law_web [.int c, .int salt, .int most, .int more, .bool loose] = some (wbO w) ∧ WbOk w ∧ (w.1 : Int) ≤ most := by
  obtain ⟨d0, e0, l0, g0⟩ := numbers_ok c salt hs [most] (by simp) (by intro s hs; simp at hs; omega)
  obtain ⟨d, rfl⟩ : ∃ d, d0 = [d] := List.length_eq_one_iff.mp l0
  have g0 := g0 0 (by simp)
  have g0 : 0 ≤ d ∧ d < most := g0
  simp only [List.map_cons, List.map_nil] at e0
  obtain ⟨n, hn⟩ : ∃ n : Nat, 1 + d = (n : Int) := ⟨(1 + d).toNat, by omega⟩
  have n1 : 1 ≤ n := by omega
  have n2 : n ≤ 40 := by omega
  have hn1 : (n : Int) - 1 = ((n - 1 : Nat) : Int) := by omega
  obtain ⟨ds, e1, l1, g1⟩ := numbers_ok c salt hs (szs n most more) (by rw [szs_len n n1]; omega) (szs_pos n n1 n2 most m1 m2 more h3)
  rw [szs_len n n1] at l1 g1
  have c1 := rg1_n (n := n - 1) (by omega)
  have c2 := rg1_n (n := n) (by omega)
  rw [rgD0] at c1 c2
  obtain ⟨r, e, w, rfl, h1, h2⟩ := fin_w (P := fun x => ∃ w : Wb, x = wbO w ∧ WbOk w ∧ (w.1 : Int) ≤ most) (B := B__law_web) (ρ := ini [.int c, .int salt, .int most, .int more, .bool loose] 10) (by
    unfold B__law_web
    refine w_st (by walk_at "ev" <;> exact rfl) ?_
    refine w_seq (w_asg (w_yOp (w_dY (w_yOp (w_dYof (r := .nd .lst (intsO [most, more + 1])) (by walk_at "ev" <;> exact rfl) (toD_ints _) (w_dY (w_lcmT (fun k : Nat => OT.d (.int ((k : Int) + 1))) (as := List.range (n - 1)) (enc := fun k : Nat => PyData.int (k : Int)) (by walk_at "ev" <;> exact rfl) rfl (by simp; omega) (fun k hk => ?_) ?_)))))))
    · refine W.of (by walk_at "ev" <;> exact rfl) ?_
      exact ⟨rfl, rfl⟩
    rw [ints_map]
    refine ⟨_, toD_ints _, _, GCat_ints (by simp; omega), _, toD_ints _, ?_⟩
    simp only [wipeE, rst, List.getElem?_cons_zero, List.getElem?_cons_succ, List.set_cons_zero, List.set_cons_succ]
    refine w_dY (w_lcmT (fun k : Nat => OT.d (.int ((n : Int) - (k : Int)))) (as := List.range n) (enc := fun k : Nat => PyData.int (k : Int)) (by walk_at "ev" <;> exact rfl) rfl (by simp; omega) (fun k hk => ?_) ?_)
    · refine W.of (by walk_at "ev" <;> exact rfl) ?_
      exact ⟨rfl, rfl⟩
    rw [ints_map]
    refine ⟨_, toD_ints _, _, GCat_ints (by simp; omega), ?_⟩
    simp only [sqK, wipeE, rst, List.getElem?_cons_zero, List.getElem?_cons_succ, List.set_cons_zero, List.set_cons_succ]
    rw [show [most, (more : Int) + 1] ++ (List.range (n - 1)).map (fun (k : Nat) => (k : Int) + 1) ++ (List.range n).map (fun (k : Nat) => (n : Int) - (k : Int)) = szA n most more from rfl]
    have la := szA_len n n1 most more
    have es : szs n most more = szA n most more ++ List.replicate more ((n : Int) * n) ++ List.replicate (n - 1) 3 := rfl
    have k1 := toD_ints (szA n most more)
    have mn : ((-(2 ^ 64) : Int) < (n : Int) ∧ (n : Int) < 2 ^ 64) := by omega
    refine w_seq (w_asg (w_yCall ?_))
    rw [es] at e1
    clear es
    generalize szA n most more = A at *
    have r1 : List.replicate more (PyData.int ((n : Int) * n)) = (List.replicate more ((n : Int) * n)).map .int := by rw [List.map_replicate]
    have r2 : List.replicate (n - 1) (PyData.int 3) = (List.replicate (n - 1) (3 : Int)).map .int := by rw [List.map_replicate]
    refine w_lCons (W.of (by walk_at "ev" <;> exact rfl) ?_)
    refine w_lCons (W.of (by walk_at "ev" <;> exact rfl) ?_)
    refine w_lCons (w_dY (w_yOp (w_dY (w_yOp ?_))))
    refine W.of (by walk_at "ev" <;> exact rfl) ?_
    refine w_dYof (yRep_one (k := more) (x := .int ((n : Int) * n)) (by walk_at "ev" <;> exact rfl) (by walk_at "ev" <;> exact rfl) (by omega)) (toD_lstO _) ?_
    rw [r1]
    refine ⟨_, GCat_ints (by simp; omega), _, toD_ints _, ?_⟩
    refine w_dYof (yRep_one (k := n - 1) (x := .int 3) (by walk_at "ev" <;> exact rfl) (by walk_at "ev" <;> exact rfl) (by omega)) (toD_lstO _) ?_
    rw [r2]
    refine ⟨_, GCat_ints (by simp; omega), _, toD_ints _, ?_⟩
    refine w_lNil ⟨rfl, _, e1, ?_⟩
    clear r1 r2 e1
    simp only [sqK, List.getElem?_cons_zero, List.getElem?_cons_succ, List.set_cons_zero, List.set_cons_succ]
    clear k1
    generalize PyData.list (A.map .int) = S6
    clear la A c1 e0 l0
    have b1 : (n : Int) + 1 = ((n + 1 : Nat) : Int) := by omega
    have b2 : 2 * (n : Int) + 1 = ((2 * n + 1 : Nat) : Int) := by omega
    have two : ((-(2 ^ 64) : Int) < 2 ∧ (2 : Int) < 2 ^ 64) := by decide
    have k1 := cut_mid ds (a := n + 1) (b := 2 * n + 1) (by omega) (by omega)
    have nn : ∀ d ∈ ds, 0 ≤ d := digOk.nn (sz := szs n most more) (by rw [l1]; exact g1)
    obtain ⟨os, e2, ho⟩ := order_ok (ds := (ds.drop (n + 1)).take (2 * n + 1 - (n + 1))) (by simp; omega) (fun d hd => nn d (List.mem_of_mem_drop (List.mem_of_mem_take hd)))
    rw [show ((ds.drop (n + 1)).take (2 * n + 1 - (n + 1))).length = n by simp; omega] at ho
    generalize (ds.drop (n + 1)).take (2 * n + 1 - (n + 1)) = O at *
    refine w_st (by walk_at "ev" <;> exact rfl) ?_
    clear k1 e2 b1
    have c1 := rg1_n (n := n - 1) (by omega)
    rw [rgD0] at c1
    refine w_seq (w_asg (w_lcfT (fun k : Nat => (cB (!loose || decide (0 < at' ds ((ds.length - 1 - k : Nat) : Int))) ((k : Int) + 1, at' ds ((2 + k : Nat) : Int))).map fun p => OT.nd .tup [.d (.int p.1), .d (.int p.2)]) (as := List.range (n - 1)) (enc := fun k : Nat => PyData.int (k : Int)) (by walk_at "ev" <;> exact rfl) rfl (by simp; omega) (fun k hk => ?_) ?_))
    · have hk := List.mem_range.mp hk
      have e3 := atI_neg (os := ds) (k := k) (by omega)
      have b3 : (2 : Int) + (k : Int) = ((2 + k : Nat) : Int) := by omega
      have e4 := atI_os (os := ds) (a := ((2 + k : Nat) : Int)) (by omega) (by omega)
      generalize at' ds ((ds.length - 1 - k : Nat) : Int) = x at *
      generalize at' ds ((2 + k : Nat) : Int) = y at *
      cases loose with
      | false =>
        refine W.of (by walk_at "ev" <;> exact rfl) ?_
        exact ⟨rfl, rfl⟩
      | true =>
        by_cases hx : 0 < x
        · have hx' : decide (0 < x) = true := decide_eq_true hx
          rw [hx']
          refine W.of (by walk_at "ev" <;> exact rfl) ?_
          exact ⟨rfl, rfl⟩
        · have hx' : decide (0 < x) = false := decide_eq_false hx
          rw [hx']
          refine W.of (by walk_at "ev" <;> exact rfl) ?_
          exact ⟨rfl, rfl⟩
    rw [prs_fm]
    have hq : ∀ p ∈ (List.range (n - 1)).filterMap (fun k : Nat => cB (!loose || decide (0 < at' ds ((ds.length - 1 - k : Nat) : Int))) ((k : Int) + 1, at' ds ((2 + k : Nat) : Int))), 0 ≤ p.1 ∧ p.1 < (n : Int) ∧ 0 ≤ p.2 ∧ p.2 < (n : Int) := by
      intro p hp
      obtain ⟨k, hk, e⟩ := List.mem_filterMap.mp hp
      have hk := List.mem_range.mp hk
      unfold cB at e
      split at e
      · cases e
        have := g1 (2 + k) (by omega)
        rw [szs_2 hk] at this
        exact ⟨by simp only []; omega, by simp only []; omega, this.1, by simp only []; omega⟩
      · cases e
    have lq := List.length_filterMap_le (fun k : Nat => cB (!loose || decide (0 < at' ds ((ds.length - 1 - k : Nat) : Int))) ((k : Int) + 1, at' ds ((2 + k : Nat) : Int))) (List.range (n - 1))
    rw [List.length_range] at lq
    generalize (List.range (n - 1)).filterMap (fun k : Nat => cB (!loose || decide (0 < at' ds ((ds.length - 1 - k : Nat) : Int))) ((k : Int) + 1, at' ds ((2 + k : Nat) : Int))) = qs at *
    simp only [sqK, wipeE, rst, List.getElem?_cons_zero, List.getElem?_cons_succ, List.set_cons_zero, List.set_cons_succ]
    have d1 := g1 1 (by omega)
    rw [szs_1] at d1
    obtain ⟨j, hj⟩ : ∃ j : Nat, at' ds ((1 : Nat) : Int) = (j : Int) := ⟨(at' ds ((1 : Nat) : Int)).toNat, by omega⟩
    have e3 : atI (ds.map PyData.int) 1 = some (.int (j : Nat)) := by
      have := atI_os (os := ds) (a := 1) (by omega) (by omega)
      rw [this]; congr 2
    have b4 : ((2 * n + 1 : Nat) : Int) + (j : Int) = ((2 * n + 1 + j : Nat) : Int) := by omega
    have k2 := cut_mid ds (a := 2 * n + 1) (b := 2 * n + 1 + j) (by omega) (by omega)
    have hU : ∀ d ∈ (ds.drop (2 * n + 1)).take (2 * n + 1 + j - (2 * n + 1)), 0 ≤ d ∧ d < (n : Int) * n := by
      intro d hd
      obtain ⟨k, hk, rfl⟩ := List.getElem_of_mem hd
      have hk' : k < j := by simp at hk; omega
      have := g1 (2 * n + 1 + k) (by omega)
      rw [szs_3 n1 (by omega), at'_nat (by omega)] at this
      simpa using this
    have lU : ((ds.drop (2 * n + 1)).take (2 * n + 1 + j - (2 * n + 1))).length = j := by simp; omega
    generalize (ds.drop (2 * n + 1)).take (2 * n + 1 + j - (2 * n + 1)) = U at *
    have pn : (0 : Int) < (n : Int) ∧ (n : Int) < 1073741824 := by omega
    refine w_seq (w_ext rfl (w_lcmT (fun d : Int => OT.nd .tup [.d (.int (d / (n : Int))), .d (.int (d % (n : Int)))]) (as := U) (enc := PyData.int) (by walk_at "ev" <;> exact rfl) rfl (by omega) (fun d hd => ?_) ?_))
    · refine W.of (by walk_at "ev" <;> exact rfl) ?_
      exact ⟨rfl, rfl⟩
    refine ⟨_, _, rfl, rfl, by rw [prsO_len, List.length_map]; omega, ?_⟩
    have us : U.map (fun d : Int => OT.nd .tup [.d (.int (d / (n : Int))), .d (.int (d % (n : Int)))]) = prsO (U.map fun d => (d / (n : Int), d % (n : Int))) := by simp [prsO]
    rw [us, prsO_app]
    have hq2 : ∀ p ∈ qs ++ U.map (fun d => (d / (n : Int), d % (n : Int))), 0 ≤ p.1 ∧ p.1 < (n : Int) ∧ 0 ≤ p.2 ∧ p.2 < (n : Int) := by
      intro p hp
      rcases List.mem_append.mp hp with hp | hp
      · exact hq p hp
      · obtain ⟨d, hd, rfl⟩ := List.mem_map.mp hp
        have := hU d hd
        exact ⟨Int.ediv_nonneg this.1 (by omega), Int.ediv_lt_of_lt_mul (by omega) this.2, Int.emod_nonneg _ (by omega), Int.emod_lt_of_pos _ (by omega)⟩
    have lq2 : (qs ++ U.map (fun d => (d / (n : Int), d % (n : Int)))).length ≤ 120 := by simp; omega
    generalize qs ++ U.map (fun d => (d / (n : Int), d % (n : Int))) = ps at *
    clear us hU lU k2 b4 e3 hj d1 lq hq
    simp only [sqK, wipeE, rst, List.getElem?_cons_zero, List.getElem?_cons_succ, List.set_cons_zero, List.set_cons_succ]
    refine w_st (by walk_at "ev" <;> exact rfl) ?_
    refine w_seq (w_forT (fun i ρ => ∃ (ks : List (Int × Int)) (Z W : OT), ρ = [.d (.int c), .d (.int salt), .d (.int most), .d (.int more), .d (.bool loose), .d (.int n), .d S6, .no, .nd .lst (intsO ds), .nd .lst (intsO os), .d (.list (ps.map pairD)), .no, .nd (.dT (ks.map kO)) (trues ks.length), Z, W] ∧ ks.Nodup ∧ ks.length ≤ i ∧ ∀ p ∈ ks, 0 ≤ p.1 ∧ p.1 < p.2 ∧ p.2 < (n : Int)) (as := ps) (enc := pairD) (by walk_at "ev" <;> exact rfl) ⟨[], _, _, rfl, by simp, by simp, by simp⟩ (fun i p ρ2 hp hs => ?_) ?_)
    · obtain ⟨ks, Z, W, rfl, f1, f2, f3⟩ := hs
      have hp2 := hq2 p (List.mem_of_getElem? hp)
      have hi : i < ps.length := (List.getElem?_eq_some_iff.mp hp).1
      apply exw
      · simp only [pairD]
        walk_at "ev" <;> exact rfl
      refine ties_step ho hp2.1 hp2.2.1 hp2.2.2.1 hp2.2.2.2 f1 (by omega) f3 fun ks' f1 f2 f3 => ?_
      exact ⟨ks', _, _, rfl, f1, by omega, f3⟩
    · rintro ρ2 ⟨ks, Z, W, rfl, f1, f2, f3⟩
      have x1 := trues_all ks.length
      have x2 := asKeyPs_map ks
      have x3 : (ks.map kO).length = (trues ks.length).length := by simp [trues]
      refine w_end (by walk_at "ev" <;> exact rfl) rfl ⟨(n, srtL ks), rfl, ⟨⟨fun p hp => f3 p (srtL_mem.mp hp), srtL_lex ks, srtL_nodup f1⟩, n1, n2, by simp only [srtL_len]; omega⟩, by simp only []; omega⟩)
  exact ⟨w, e, h1, h2⟩
end SQ
namespace SH
open PySem L2 PL MR
local macro_rules | `(tactic| walk_at "ev") => `(tactic| simp (config := {decide := true}) only [ini, fin, finI, sSeq, sNext, sAsg, sAsgG, sRet, sRetN, sDrop, sIf, sNever, sSetP, sAppP, sClrP, sRevP, fR, pmVar, pmIx, pmIxT, MR.putAt, OT.put, OT.at, gmName, gmTup, gmLst, gsNil, gsCons, rVar, rC, rOp, rUn, rCb, rCbZ, rOpZ, rCall, rAnd, rOr, rNot, rIf, rIs, rCh, rCh3, rTup, rLst, rSl, cNone, cSome, rRepr, dRepr, rInDct, rIdx, small, qNil, qCons, qApp, lApp, bR, bAnd, bOr, bNot, tR, tD, tmAnd, tmOr, tmNot, yVar_eq, yMov, yR, yAuto, dY, yD, dR, dOp, dOpR, dCb, dAnd, dOr, dNot, yCall, yCallA, yCallI, yCallIT, yCb, yCbA, yOp, yOpA, lfO, yTup, yLst, oNil, oCons, isNo, lNil, lCons, asB, asInt, asL, asT, iL, iT, iE, iZ, iV, yRng1_eq, iR1_eq, iR2_eq, lcStep, calmAt, wipeE, rst, sApp, yPop_eq, sDPutM, ySortD, yDNew, gmName, toD_d, toD_tup, toD_lst, toDs_nil, toDs_cons, toDs_ints, toDs_fpr, toDs_prs, lfs_ints, lfs_fpr, intsO_len, prsO_len, fprO_len, rng_len, intsO_snoc, prsO_snoc, lstO_rg, rOpZ, rCbZ, isNo_lstO, toD_dnew, ySl, ySlA, neS_self, eqS_self,  rRevL, yRevL, yRevLA, yPop0, sExt, gStrI,  lstO_prs, lstO_ints, toD_lstO, kp_int, kp_bool, kp_tuple, kp_list, kp_str, isIntB, isBoolB, isTupB, isListB, isStrB, gAdd_i, gSub_i, gLt_i, gLe_i, gGt_i, gGe_i, gMul_r, gMul_l, gMod_i, gDiv_i, gPow_i, gNeg, gEqI, gNeI, gEqS, gNeS, gIsN, gNotN, gIsB, gNotB, gIxL, gIxT, gLen, gMax2, gMin2, gInt, gAll, asBools_map, isN, OT.lf, OT.lfs, flat, atI_0, atI_1, ixN_0, ixN_1, rgD_len, enumD_len, trues_len, Int.toNat_natCast, List.length_map, eq_self, Option.bind_some, Option.bind_none, Option.map_some, Option.map_none, List.getElem?_cons_zero, List.getElem?_cons_succ, List.set_cons_zero, List.set_cons_succ, List.map_cons, List.map_nil, List.replicate, List.nil_append, List.cons_append, List.length_cons, List.length_nil, List.all_cons, List.all_nil, if_true, if_false, reduceIte, tfl_int, tfl_bool, tfl_none, tfl_str, tfl_list, Bool.true_and, Bool.and_true, Bool.false_and, Bool.and_false, Bool.true_or, Bool.or_true, Bool.false_or, Bool.or_false, Bool.not_true, Bool.not_false, Bool.false_eq_true, decide_true, decide_false, true_and, and_true, false_and, and_false, or_true, true_or, *])
/-! ### who is beside whom -/
/-- those tied to p, in the order of the ties -/
def nbsO (ts : List (Int × Int)) (p : Int) : List Int := ts.flatMap fun t => (if t.1 = p then [t.2] else []) ++ (if t.2 = p then [t.1] else [])
theorem nbsO_snoc (ts : List (Int × Int)) (t : Int × Int) (p : Int) : nbsO (ts ++ [t]) p = nbsO ts p ++ ((if t.1 = p then [t.2] else []) ++ (if t.2 = p then [t.1] else [])) := by simp [nbsO]
theorem nbsO_len (ts : List (Int × Int)) (p : Int) : (nbsO ts p).length ≤ 2 * ts.length := by
  induction ts with
  | nil => simp [nbsO]
  | cons t ts ih =>
    unfold nbsO at *
    rw [List.flatMap_cons, List.length_append, List.length_cons]
    have : ((if t.1 = p then [t.2] else []) ++ (if t.2 = p then [t.1] else [])).length ≤ 2 := by
      rw [List.length_append]
      split <;> split <;> simp
    omega
theorem nbsO_mem {ts : List (Int × Int)} {p q : Int} : q ∈ nbsO ts p ↔ (p, q) ∈ ts ∨ (q, p) ∈ ts := by
  unfold nbsO
  rw [List.mem_flatMap]
  constructor
  · rintro ⟨⟨a, b⟩, h, hq⟩
    rcases List.mem_append.mp hq with z | z
    · split at z
      · rename_i e
        simp at e z
        subst e z
        exact .inl h
      · cases z
    · split at z
      · rename_i e
        simp at e z
        subst e z
        exact .inr h
      · cases z
  · rintro (h | h)
    · exact ⟨_, h, by simp⟩
    · exact ⟨_, h, by simp⟩
def besO (w : Wb) : OT := .nd .lst ((List.range w.1).map fun k => .nd .lst (intsO (nbsO w.2 (k : Nat))))
theorem beside_all_ok {w : Wb} (h : WbOk w) : m_beside_all [wbD w] = some (besO w) := by
  obtain ⟨n, ts⟩ := w
  have k := h.ok
  have k1 := h.hi
  have k2 := h.len
  simp only at k k1 k2
  have c1 := rg1_n (n := n) (by omega)
  have c2 := rgD0 n
  generalize rgD 0 n = X at c1 c2
  unfold m_beside_all B_beside_all
  refine fin_eq ?_
  simp only [wbD, WD]
  refine w_st (by walk_at "ev" <;> exact rfl) ?_
  refine w_seq (w_asg (w_lcmT (fun _ : Nat => OT.nd .lst []) (as := List.range n) (enc := fun k : Nat => PyData.int (k : Int)) (by rw [← c2]; walk_at "ev" <;> exact rfl) rfl (by simp; omega) (fun r hr => ?_) ?_))
  · refine W.of (by walk_at "ev" <;> exact rfl) ?_
    exact ⟨rfl, rfl⟩
  simp only [sqK, wipeE, rst, ini, List.map_nil, List.nil_append, List.replicate, List.getElem?_cons_zero, List.getElem?_cons_succ, List.set_cons_zero, List.set_cons_succ, List.map_cons, List.cons_append]
  refine w_seq (w_forT (fun i ρ => ∃ X Y, ρ = [.d (.tuple [.int (n : Nat), .list (ts.map pairD)]), .d (.int (n : Nat)), .d (.list (ts.map pairD)), .nd .lst ((List.range n).map fun k => .nd .lst (intsO (nbsO (ts.take i) (k : Nat)))), .no, X, Y]) (as := ts) (enc := pairD) (by walk_at "ev" <;> exact rfl) ⟨_, _, rfl⟩ (fun i t ρ2 ht hs => ?_) ?_)
  · obtain ⟨X, Y, rfl⟩ := hs
    have b := k.in' t (List.mem_of_getElem? ht)
    have hi : i < ts.length := (List.getElem?_eq_some_iff.mp ht).1
    simp only [pairD]
    apply exw
    · walk_at "ev" <;> exact rfl
    refine w_st (sAppP_tab (m := n) (g := fun k => intsO (nbsO (ts.take i) (k : Nat))) (p := t.1) (r := .d (.int t.2)) rfl (by walk_at "ev" <;> exact rfl) (by omega) (by omega) (by walk_at "ev" <;> exact rfl) rfl (by rw [intsO_len]; have := nbsO_len (ts.take i) ((t.1.toNat : Nat) : Int); rw [List.length_take] at this; omega)) ?_
    apply w_nx
    · refine sAppP_tab (m := n) (p := t.2) (r := .d (.int t.1)) rfl (by walk_at "ev" <;> exact rfl) (by omega) (by omega) (by walk_at "ev" <;> exact rfl) rfl ?_
      have := nbsO_len (ts.take i) ((t.2.toNat : Nat) : Int)
      rw [List.length_take] at this
      split
      · simp only [List.length_append, intsO_len, List.length_cons, List.length_nil]; omega
      · rw [intsO_len]; omega
    refine ⟨.d (.int t.1), .d (.int t.2), ?_⟩
    simp only [List.set_cons_zero, List.set_cons_succ]
    congr 5
    apply List.map_congr_left
    intro a _
    rw [List.take_add_one, ht]
    show _ = OT.nd .lst (intsO (nbsO (ts.take i ++ [t]) (a : Nat)))
    rw [nbsO_snoc]
    by_cases e1 : (a : Int) = t.1 <;> by_cases e2 : (a : Int) = t.2
    · omega
    · have e2' : ¬ t.2 = (a : Int) := fun z => e2 z.symm
      simp only [e1, e2, e2', if_true, if_false]
      have : ¬ t.1 = t.2 := by omega
      have e3 : ¬ t.2 = t.1 := by omega
      simp [this, e3, intsO]
    · have e1' : ¬ t.1 = (a : Int) := fun z => e1 z.symm
      simp only [e1, e2, e1', if_true, if_false]
      have : ¬ t.1 = t.2 := by omega
      have e3 : ¬ t.2 = t.1 := by omega
      simp [this, e3, intsO]
    · have e1' : ¬ t.1 = (a : Int) := fun z => e1 z.symm
      have e2' : ¬ t.2 = (a : Int) := fun z => e2 z.symm
      simp [e1, e2, e1', e2']
  · rintro ρ2 ⟨X, Y, rfl⟩
    rw [List.take_length]
    exact w_end (by walk_at "ev" <;> exact rfl) rfl rfl
/-! ties of a product -/
/-! whether rows are tied -/
def wbAt (ws : List Wb) (k : Nat) : Wb := ws.getD k (1, [])
theorem natsO_fm {n : Nat} (c : Nat → Bool) : (List.range n).filterMap (fun k => if c k then some (OT.d (.int (k : Nat))) else Option.none) = intsO (((List.range n).filter c).map fun (k : Nat) => (k : Int)) := by
  unfold intsO
  rw [List.map_map]
  generalize List.range n = xs
  induction xs with
  | nil => rfl
  | cons x xs ih =>
    rw [List.filterMap_cons, List.filter_cons]
    by_cases h : c x = true
    · simp [h, ih]
    · simp [h, ih]
/-! rows beside -/
theorem at'_zero (p : Int) (r : List Int) : at' (p :: r) ((0 : Nat) : Int) = p := rfl
theorem at'_succ (p : Int) (r : List Int) (i : Nat) : at' (p :: r) ((i + 1 : Nat) : Int) = at' r (i : Nat) := by
  unfold at'
  rw [show (((i + 1 : Nat) : Int)).toNat = i + 1 by omega, show ((i : Nat) : Int).toNat = i by omega]
  rfl
theorem RowOk.at : ∀ {ws : List Wb} {r : List Int}, RowOk ws r → ∀ {i : Nat}, i < ws.length → 0 ≤ at' r (i : Nat) ∧ at' r (i : Nat) < ((wbAt ws i).1 : Int)
  | w :: ws, p :: r, h, 0, _ => by
    rw [at'_zero]
    exact h.1
  | w :: ws, p :: r, h, i + 1, hi => by
    rw [at'_succ]
    exact RowOk.at (ws := ws) h.2 (by simpa using hi)
theorem RowOk.set : ∀ {ws : List Wb} {r : List Int} {i : Nat} {q : Int}, RowOk ws r → 0 ≤ q → q < ((wbAt ws i).1 : Int) → RowOk ws (r.set i q)
  | [], [], i, q, _, _, _ => trivial
  | w :: ws, p :: r, 0, q, h, h0, h1 => ⟨⟨h0, h1⟩, h.2⟩
  | w :: ws, p :: r, i + 1, q, h, h0, h1 => ⟨h.1, RowOk.set h.2 h0 h1⟩
end SH
namespace SH
open PySem L2 PL MR
local macro_rules | `(tactic| walk_at "ev") => `(tactic| simp (config := {decide := true}) only [ini, fin, finI, sSeq, sNext, sAsg, sAsgG, sRet, sRetN, sDrop, sIf, sNever, sSetP, sAppP, sClrP, sRevP, fR, pmVar, pmIx, pmIxT, MR.putAt, OT.put, OT.at, gmName, gmTup, gmLst, gsNil, gsCons, rVar, rC, rOp, rUn, rCb, rCbZ, rOpZ, rCall, rAnd, rOr, rNot, rIf, rIs, rCh, rCh3, rTup, rLst, rSl, cNone, cSome, rRepr, dRepr, rInDct, rIdx, small, qNil, qCons, qApp, lApp, bR, bAnd, bOr, bNot, tR, tD, tmAnd, tmOr, tmNot, yVar_eq, yMov, yR, yAuto, dY, yD, dR, dOp, dOpR, dCb, dAnd, dOr, dNot, yCall, yCallA, yCallI, yCallIT, yCb, yCbA, yOp, yOpA, lfO, yTup, yLst, oNil, oCons, isNo, lNil, lCons, asB, asInt, asL, asT, iL, iT, iE, iZ, iV, yRng1_eq, iR1_eq, iR2_eq, lcStep, calmAt, wipeE, rst, sApp, yPop_eq, sDPutM, ySortD, yDNew, gmName, toD_d, toD_tup, toD_lst, toDs_nil, toDs_cons, toDs_ints, toDs_fpr, toDs_prs, lfs_ints, lfs_fpr, intsO_len, prsO_len, fprO_len, rng_len, intsO_snoc, prsO_snoc, lstO_rg, rOpZ, rCbZ, isNo_lstO, toD_dnew, ySl, ySlA, neS_self, eqS_self,  rRevL, yRevL, yRevLA, yPop0, sExt, gStrI,  lstO_prs, lstO_ints, toD_lstO, kp_int, kp_bool, kp_tuple, kp_list, kp_str, isIntB, isBoolB, isTupB, isListB, isStrB, gAdd_i, gSub_i, gLt_i, gLe_i, gGt_i, gGe_i, gMul_r, gMul_l, gMod_i, gDiv_i, gPow_i, gNeg, gEqI, gNeI, gEqS, gNeS, gIsN, gNotN, gIsB, gNotB, gIxL, gIxT, gLen, gMax2, gMin2, gInt, gAll, asBools_map, isN, OT.lf, OT.lfs, flat, atI_0, atI_1, ixN_0, ixN_1, rgD_len, enumD_len, trues_len, Int.toNat_natCast, List.length_map, eq_self, Option.bind_some, Option.bind_none, Option.map_some, Option.map_none, List.getElem?_cons_zero, List.getElem?_cons_succ, List.set_cons_zero, List.set_cons_succ, List.map_cons, List.map_nil, List.replicate, List.nil_append, List.cons_append, List.length_cons, List.length_nil, List.all_cons, List.all_nil, if_true, if_false, reduceIte, tfl_int, tfl_bool, tfl_none, tfl_str, tfl_list, Bool.true_and, Bool.and_true, Bool.false_and, Bool.and_false, Bool.true_or, Bool.or_true, Bool.false_or, Bool.or_false, Bool.not_true, Bool.not_false, Bool.false_eq_true, decide_true, decide_false, true_and, and_true, false_and, and_false, or_true, true_or, *])
theorem nice_wb {w : Wb} (k : WbOk w) : Nice (wbD w) 3 400 :=
  (nice_tup2 (k := 2) ((nice_int (by have := k.hi; omega)).up (by omega) (by omega : 0 ≤ 0)) (nice_list (f := pairD) (k := 1) (b := 2) (n := 120) (fun p hp => nice_pr (by have := k.ok.in' p hp; have := k.hi; omega)) k.len)).up (by omega) (by omega)
/-! sums and products over the first numbers -/
end SH
namespace SH
open PySem L2 PL MR
/-! ### rows beside: unlike, rising, tied -/
theorem nbsO_ne {n : Nat} {ts : List (Int × Int)} (w : WOk n ts) {p q : Int} (h : q ∈ nbsO ts p) : q ≠ p ∧ 0 ≤ q ∧ q < (n : Int) := by
  rcases nbsO_mem.mp h with z | z <;> have := w.in' _ z <;> simp only at this <;> omega
theorem nbsO_sym {ts : List (Int × Int)} {p q : Int} (h : q ∈ nbsO ts p) : p ∈ nbsO ts q := nbsO_mem.mpr (nbsO_mem.mp h).symm
/-! tied just where beside -/
end SH
namespace SH
open PySem L2 PL MR
/-! ### products of webs -/
def acrL (V : List (Int × Int)) (w : Nat) : List (Int × Int) := V.flatMap fun t => (List.range w).map fun (k : Nat) => (t.1 * (w : Int) + (k : Int), t.2 * (w : Int) + (k : Int))
def alnL (v : Nat) (W : List (Int × Int)) (w : Nat) : List (Int × Int) := (List.range v).flatMap fun (k : Nat) => W.map fun t => ((k : Int) * (w : Int) + t.1, (k : Int) * (w : Int) + t.2)
def mul2 (V W : Wb) : Wb := (V.1 * W.1, srtL (acrL V.2 W.1 ++ alnL V.1 W.2 W.1))
def prodW (ws : List Wb) : Wb := ws.foldl mul2 (1, [])
theorem dm {t k w : Int} (h0 : 0 ≤ k) (h1 : k < w) : (t * w + k) / w = t ∧ (t * w + k) % w = k := by
  constructor
  · rw [Int.add_comm, Int.add_mul_ediv_right _ _ (by omega), Int.ediv_eq_zero_of_lt h0 h1, Int.zero_add]
  · rw [Int.add_comm, Int.add_mul_emod_self_right]; exact Int.emod_eq_of_lt h0 h1
theorem dm_back (x : Int) {w : Int} (h : 0 < w) : x = x / w * w + x % w ∧ 0 ≤ x % w ∧ x % w < w := ⟨by rw [Int.mul_comm]; exact (Int.mul_ediv_add_emod x w).symm, Int.emod_nonneg _ (by omega), Int.emod_lt_of_pos _ h⟩
theorem dd (x : Int) {v w : Int} (hv : 0 < v) (hw : 0 < w) : x / w / v = x / (v * w) ∧ x / w % v = x % (v * w) / w ∧ x % w = x % (v * w) % w := by
  have e1 : x / w / v = x / (v * w) := by rw [Int.mul_comm, Int.ediv_ediv_of_nonneg (by omega)]
  have d1 := dm_back x hw
  have d2 := dm_back (x / w) hv
  have hvw : 0 < v * w := Int.mul_pos hv hw
  have d3 := dm_back x hvw
  have e2 : x % (v * w) = x / w % v * w + x % w := by
    have : x = x / (v * w) * (v * w) + (x / w % v * w + x % w) := by
      rw [← e1]
      calc x = x / w * w + x % w := d1.1
        _ = (x / w / v * v + x / w % v) * w + x % w := by rw [← d2.1]
        _ = x / w / v * (v * w) + (x / w % v * w + x % w) := by rw [Int.add_mul, Int.mul_assoc, Int.add_assoc]
    omega
  have d4 := dm (t := x / w % v) d1.2.1 d1.2.2
  rw [e2, d4.1, d4.2]
  exact ⟨e1, rfl, rfl⟩
/-! how many places and ties -/
/-! the product is tied where the rows are -/
end SH
namespace SH
open PySem L2 PL MR
local macro_rules | `(tactic| walk_at "ev") => `(tactic| simp (config := {decide := true}) only [ini, fin, finI, sSeq, sNext, sAsg, sAsgG, sRet, sRetN, sDrop, sIf, sNever, sSetP, sAppP, sClrP, sRevP, fR, pmVar, pmIx, pmIxT, MR.putAt, OT.put, OT.at, gmName, gmTup, gmLst, gsNil, gsCons, rVar, rC, rOp, rUn, rCb, rCbZ, rOpZ, rCall, rAnd, rOr, rNot, rIf, rIs, rCh, rCh3, rTup, rLst, rSl, cNone, cSome, rRepr, dRepr, rInDct, rIdx, small, qNil, qCons, qApp, lApp, bR, bAnd, bOr, bNot, tR, tD, tmAnd, tmOr, tmNot, yVar_eq, yMov, yR, yAuto, dY, yD, dR, dOp, dOpR, dCb, dAnd, dOr, dNot, yCall, yCallA, yCallI, yCallIT, yCb, yCbA, yOp, yOpA, lfO, yTup, yLst, oNil, oCons, isNo, lNil, lCons, asB, asInt, asL, asT, iL, iT, iE, iZ, iV, yRng1_eq, iR1_eq, iR2_eq, lcStep, calmAt, wipeE, rst, sApp, yPop_eq, sDPutM, ySortD, yDNew, gmName, toD_d, toD_tup, toD_lst, toDs_nil, toDs_cons, toDs_ints, toDs_fpr, toDs_prs, lfs_ints, lfs_fpr, intsO_len, prsO_len, fprO_len, rng_len, intsO_snoc, prsO_snoc, lstO_rg, rOpZ, rCbZ, isNo_lstO, toD_dnew, ySl, ySlA, neS_self, eqS_self,  rRevL, yRevL, yRevLA, yPop0, sExt, gStrI,  lstO_prs, lstO_ints, toD_lstO, kp_int, kp_bool, kp_tuple, kp_list, kp_str, isIntB, isBoolB, isTupB, isListB, isStrB, gAdd_i, gSub_i, gLt_i, gLe_i, gGt_i, gGe_i, gMul_r, gMul_l, gMod_i, gDiv_i, gPow_i, gNeg, gEqI, gNeI, gEqS, gNeS, gIsN, gNotN, gIsB, gNotB, gIxL, gIxT, gLen, gMax2, gMin2, gInt, gAll, asBools_map, isN, OT.lf, OT.lfs, flat, atI_0, atI_1, ixN_0, ixN_1, rgD_len, enumD_len, trues_len, Int.toNat_natCast, List.length_map, eq_self, Option.bind_some, Option.bind_none, Option.map_some, Option.map_none, List.getElem?_cons_zero, List.getElem?_cons_succ, List.set_cons_zero, List.set_cons_succ, List.map_cons, List.map_nil, List.replicate, List.nil_append, List.cons_append, List.length_cons, List.length_nil, List.all_cons, List.all_nil, if_true, if_false, reduceIte, tfl_int, tfl_bool, tfl_none, tfl_str, tfl_list, Bool.true_and, Bool.and_true, Bool.false_and, Bool.and_false, Bool.true_or, Bool.or_true, Bool.false_or, Bool.or_false, Bool.not_true, Bool.not_false, Bool.false_eq_true, decide_true, decide_false, true_and, and_true, false_and, and_false, or_true, true_or, *])
end SH
namespace SH
open PySem L2 PL MR
local macro_rules | `(tactic| walk_at "ev") => `(tactic| simp (config := {decide := true}) only [ini, fin, finI, sSeq, sNext, sAsg, sAsgG, sRet, sRetN, sDrop, sIf, sNever, sSetP, sAppP, sClrP, sRevP, fR, pmVar, pmIx, pmIxT, MR.putAt, OT.put, OT.at, gmName, gmTup, gmLst, gsNil, gsCons, rVar, rC, rOp, rUn, rCb, rCbZ, rOpZ, rCall, rAnd, rOr, rNot, rIf, rIs, rCh, rCh3, rTup, rLst, rSl, cNone, cSome, rRepr, dRepr, rInDct, rIdx, small, qNil, qCons, qApp, lApp, bR, bAnd, bOr, bNot, tR, tD, tmAnd, tmOr, tmNot, yVar_eq, yMov, yR, yAuto, dY, yD, dR, dOp, dOpR, dCb, dAnd, dOr, dNot, yCall, yCallA, yCallI, yCallIT, yCb, yCbA, yOp, yOpA, lfO, yTup, yLst, oNil, oCons, isNo, lNil, lCons, asB, asInt, asL, asT, iL, iT, iE, iZ, iV, yRng1_eq, iR1_eq, iR2_eq, lcStep, calmAt, wipeE, rst, sApp, yPop_eq, sDPutM, ySortD, yDNew, gmName, toD_d, toD_tup, toD_lst, toDs_nil, toDs_cons, toDs_ints, toDs_fpr, toDs_prs, lfs_ints, lfs_fpr, intsO_len, prsO_len, fprO_len, rng_len, intsO_snoc, prsO_snoc, lstO_rg, rOpZ, rCbZ, isNo_lstO, toD_dnew, ySl, ySlA, neS_self, eqS_self,  rRevL, yRevL, yRevLA, yPop0, sExt, gStrI,  lstO_prs, lstO_ints, toD_lstO, kp_int, kp_bool, kp_tuple, kp_list, kp_str, isIntB, isBoolB, isTupB, isListB, isStrB, gAdd_i, gSub_i, gLt_i, gLe_i, gGt_i, gGe_i, gMul_r, gMul_l, gMod_i, gDiv_i, gPow_i, gNeg, gEqI, gNeI, gEqS, gNeS, gIsN, gNotN, gIsB, gNotB, gIxL, gIxT, gLen, gMax2, gMin2, gInt, gAll, asBools_map, isN, OT.lf, OT.lfs, flat, atI_0, atI_1, ixN_0, ixN_1, rgD_len, enumD_len, trues_len, Int.toNat_natCast, List.length_map, eq_self, Option.bind_some, Option.bind_none, Option.map_some, Option.map_none, List.getElem?_cons_zero, List.getElem?_cons_succ, List.set_cons_zero, List.set_cons_succ, List.map_cons, List.map_nil, List.replicate, List.nil_append, List.cons_append, List.length_cons, List.length_nil, List.all_cons, List.all_nil, if_true, if_false, reduceIte, tfl_int, tfl_bool, tfl_none, tfl_str, tfl_list, Bool.true_and, Bool.and_true, Bool.false_and, Bool.and_false, Bool.true_or, Bool.or_true, Bool.false_or, Bool.or_false, Bool.not_true, Bool.not_false, Bool.false_eq_true, decide_true, decide_false, true_and, and_true, false_and, and_false, or_true, true_or, *])
/-! numbers of rows of parts -/
end SH
namespace SQ
open PySem L2 PL MR SH
local macro_rules | `(tactic| walk_at "ev") => `(tactic| simp (config := {decide := true}) only [ini, fin, finI, sSeq, sNext, sAsg, sAsgG, sRet, sRetN, sDrop, sIf, sNever, sSetP, sAppP, sClrP, sRevP, fR, pmVar, pmIx, pmIxT, MR.putAt, OT.put, OT.at, gmName, gmTup, gmLst, gsNil, gsCons, rVar, rC, rOp, rUn, rCb, rCbZ, rOpZ, rCall, rAnd, rOr, rNot, rIf, rIs, rCh, rCh3, rTup, rLst, rSl, cNone, cSome, rRepr, dRepr, rInDct, rIdx, rIdxD, iR3s, small, qNil, qCons, qApp, lApp, bR, bAnd, bOr, bNot, tR, tD, tmAnd, tmOr, tmNot, yVar_eq, yMov, yR, yAuto, dY, yD, dR, dOp, dOpR, dCb, dAnd, dOr, dNot, yCall, yCallA, yCallI, yCallIT, yCb, yCbA, yOp, yOpA, lfO, yTup, yLst, oNil, oCons, isNo, lNil, lCons, asB, asInt, asL, asT, iL, iT, iE, iZ, iV, yRng1_eq, iR1_eq, iR2_eq, lcStep, calmAt, wipeE, rst, sApp, yPop_eq, sDPutM, ySortD, yDNew, gmName, toD_d, toD_tup, toD_lst, toDs_nil, toDs_cons, toDs_ints, toDs_fpr, toDs_prs, lfs_ints, lfs_fpr, intsO_len, prsO_len, fprO_len, rng_len, intsO_snoc, prsO_snoc, lstO_rg, rOpZ, rCbZ, isNo_lstO, toD_dnew, ySl, ySlA, neS_self, eqS_self,  rRevL, yRevL, yRevLA, yPop0, sExt, gStrI,  lstO_prs, lstO_ints, toD_lstO, kp_int, kp_bool, kp_tuple, kp_list, kp_str, isIntB, isBoolB, isTupB, isListB, isStrB, gAdd_i, gSub_i, gLt_i, gLe_i, gGt_i, gGe_i, gMul_r, gMul_l, gMod_i, gDiv_i, gPow_i, gNeg, gEqI, gNeI, gEqS, gNeS, gIsN, gNotN, gIsB, gNotB, gIxL, gIxT, gLen, gMax2, gMin2, gInt, gAll, asBools_map, isN, OT.lf, OT.lfs, flat, atI_0, atI_1, ixN_0, ixN_1, rgD_len, enumD_len, trues_len, Int.toNat_natCast, List.length_map, eq_self, Option.bind_some, Option.bind_none, Option.map_some, Option.map_none, List.getElem?_cons_zero, List.getElem?_cons_succ, List.set_cons_zero, List.set_cons_succ, List.map_cons, List.map_nil, List.replicate, List.nil_append, List.cons_append, List.length_cons, List.length_nil, List.all_cons, List.all_nil, if_true, if_false, reduceIte, tfl_int, tfl_bool, tfl_none, tfl_str, tfl_list, Bool.true_and, Bool.and_true, Bool.false_and, Bool.and_false, Bool.true_or, Bool.or_true, Bool.false_or, Bool.or_false, Bool.not_true, Bool.not_false, Bool.false_eq_true, decide_true, decide_false, true_and, and_true, false_and, and_false, or_true, true_or, *])
end SQ
namespace BF
open PySem L2 PL MR
/-! ### ways -/
/-- k ties lead from p to j -/
def rch (nb : Nat → List Nat) (p : Nat) : Nat → Nat → Prop
  | 0, j => j = p
  | k + 1, j => ∃ i, rch nb p k i ∧ j ∈ nb i
/-- at each place what is told of it -/
structure IsFar (nb : Nat → List Nat) (p n : Nat) (far : List (Option Nat)) : Prop where
  len : far.length = n
  snd : ∀ (j d : Nat), far[j]? = some (some d) → rch nb p d j
  cpl : ∀ (k j : Nat), rch nb p k j → ∃ d, d ≤ k ∧ far[j]? = some (some d)
theorem IsFar.uniq {nb : Nat → List Nat} {p n : Nat} {a b : List (Option Nat)} (ha : IsFar nb p n a) (hb : IsFar nb p n b) : a = b := by
  apply List.ext_getElem?
  intro j
  by_cases hj : j < n
  · have ea := List.getElem?_eq_getElem (show j < a.length by have := ha.len; omega)
    have eb := List.getElem?_eq_getElem (show j < b.length by have := hb.len; omega)
    rw [ea, eb]
    cases ca : a[j]'(by have := ha.len; omega) with
    | none =>
      cases cb : b[j]'(by have := hb.len; omega) with
      | none => rfl
      | some d =>
        rw [cb] at eb
        obtain ⟨d', _, h⟩ := ha.cpl d j (hb.snd j d eb)
        rw [ea, ca] at h
        cases h
    | some d =>
      rw [ca] at ea
      obtain ⟨d', h1, h2⟩ := hb.cpl d j (ha.snd j d ea)
      obtain ⟨d'', h3, h4⟩ := ha.cpl d' j (hb.snd j d' h2)
      rw [ea] at h4
      cases h4
      have : d = d' := by omega
      subst this
      rw [h2] at eb
      rw [← Option.some.inj eb]
  · rw [List.getElem?_eq_none (by have := ha.len; omega), List.getElem?_eq_none (by have := hb.len; omega)]
noncomputable def farF (nb : Nat → List Nat) (p n : Nat) : List (Option Nat) := by
  classical exact if h : ∃ far, IsFar nb p n far then h.choose else List.replicate n none
theorem IsFar.eq {nb : Nat → List Nat} {p n : Nat} {a : List (Option Nat)} (ha : IsFar nb p n a) : a = farF nb p n := by
  unfold farF
  rw [dif_pos ⟨a, ha⟩]
  exact ha.uniq (Exists.choose_spec (⟨a, ha⟩ : ∃ far, IsFar nb p n far))
def oD : Option Nat → D
  | none => .none
  | some d => .int (d : Nat)
/-- the layers: all within r are told, what is told lies within r -/
structure Lay (nb : Nat → List Nat) (p n r : Nat) (far : List (Option Nat)) : Prop where
  len : far.length = n
  snd : ∀ (j d : Nat), far[j]? = some (some d) → rch nb p d j ∧ d ≤ r
  cpl : ∀ (k j : Nat), k ≤ r → rch nb p k j → ∃ d, d ≤ k ∧ far[j]? = some (some d)
theorem lay_zero {nb : Nat → List Nat} {p n : Nat} (hp : p < n) : Lay nb p n 0 ((List.replicate n none).set p (some 0)) := by
  refine ⟨by simp, fun j d h => ?_, fun k j hk h => ?_⟩
  · by_cases e : p = j
    · subst e
      rw [List.getElem?_set_self (by simpa using hp)] at h
      cases h
      exact ⟨rfl, Nat.le_refl _⟩
    · rw [List.getElem?_set_ne e] at h
      by_cases hj : j < n
      · rw [List.getElem?_replicate_of_lt hj] at h; cases h
      · rw [List.getElem?_eq_none (by simpa using hj)] at h; cases h
  · have e : k = 0 := by omega
    subst e
    have : j = p := h
    subst this
    exact ⟨0, Nat.le_refl _, List.getElem?_set_self (by simpa using hp)⟩
/-- where no place is told r: nothing further -/
theorem lay_done {nb : Nat → List Nat} {p n r : Nat} {far : List (Option Nat)} (h : Lay nb p n r far) (hr : ∀ (j : Nat), far[j]? ≠ some (some r)) : IsFar nb p n far := by
  refine ⟨h.len, fun j d e => (h.snd j d e).1, fun k => ?_⟩
  induction k with
  | zero => intro j hj; exact h.cpl 0 j (Nat.zero_le _) hj
  | succ k ih =>
    rintro j ⟨i, hi, hj⟩
    obtain ⟨d, hd, e⟩ := ih i hi
    obtain ⟨s1, s2⟩ := h.snd i d e
    have : d ≠ r := fun z => hr i (z ▸ e)
    obtain ⟨d', h1, h2⟩ := h.cpl (d + 1) j (by omega) ⟨i, s1, hj⟩
    exact ⟨d', by omega, h2⟩
/-- in the midst of a layer: what was told stays, what comes anew is r + 1 and in the next ring -/
structure Mid (nb : Nat → List Nat) (p n r : Nat) (far0 far : List (Option Nat)) (nxt : List Nat) : Prop where
  len : far.length = n
  old : ∀ (j d : Nat), far0[j]? = some (some d) → far[j]? = some (some d)
  new : ∀ (j d : Nat), far[j]? = some (some d) → far0[j]? = some (some d) ∨ (d = r + 1 ∧ j ∈ nxt ∧ ∃ i, far0[i]? = some (some r) ∧ j ∈ nb i)
  nx : ∀ (j : Nat), j ∈ nxt → far[j]? = some (some (r + 1)) ∧ far0[j]? = some none
theorem mid_step {nb : Nat → List Nat} {p n r : Nat} {far0 far : List (Option Nat)} {nxt : List Nat} {i j : Nat} (h : Mid nb p n r far0 far nxt) (l0 : far0.length = n) (hi : far0[i]? = some (some r)) (hj : j ∈ nb i) (hn : far[j]? = some none) : Mid nb p n r far0 (far.set j (some (r + 1))) (nxt ++ [j]) := by
  have hl := (List.getElem?_eq_some_iff.mp hn).1
  have f0 : far0[j]? = some none := by
    have hl0 : j < far0.length := by have := h.len; omega
    cases c : far0[j] with
    | none => rw [List.getElem?_eq_getElem hl0, c]
    | some d =>
      have e : far0[j]? = some (some d) := by rw [List.getElem?_eq_getElem hl0, c]
      rw [h.old j d e] at hn
      cases hn
  refine ⟨by rw [List.length_set]; exact h.len, fun q d e => ?_, fun q d e => ?_, fun q hq => ?_⟩
  · have ne : j ≠ q := fun z => by subst z; rw [f0] at e; cases e
    rw [List.getElem?_set_ne ne]
    exact h.old q d e
  · by_cases c : j = q
    · subst c
      rw [List.getElem?_set_self hl] at e
      cases e
      exact .inr ⟨rfl, List.mem_append_right _ (by simp), i, hi, hj⟩
    · rw [List.getElem?_set_ne c] at e
      rcases h.new q d e with a | ⟨a, b, c⟩
      · exact .inl a
      · exact .inr ⟨a, List.mem_append_left _ b, c⟩
  · rcases List.mem_append.mp hq with hq | hq
    · by_cases c : j = q
      · subst c; exact ⟨List.getElem?_set_self hl, f0⟩
      · rw [List.getElem?_set_ne c]; exact h.nx q hq
    · rw [List.mem_singleton.mp hq]
      exact ⟨List.getElem?_set_self hl, f0⟩
/-- a layer done: all that the ring's places are tied to is told -/
theorem mid_done {nb : Nat → List Nat} {p n r : Nat} {far0 far : List (Option Nat)} {nxt : List Nat} (h0 : Lay nb p n r far0) (h : Mid nb p n r far0 far nxt) (hall : ∀ (i j : Nat), far0[i]? = some (some r) → j ∈ nb i → ∃ d, far[j]? = some (some d)) : Lay nb p n (r + 1) far ∧ ∀ (j : Nat), far[j]? = some (some (r + 1)) ↔ j ∈ nxt := by
  refine ⟨⟨h.len, fun j d e => ?_, fun k j hk hj => ?_⟩, fun j => ⟨fun e => ?_, fun hj => (h.nx j hj).1⟩⟩
  · rcases h.new j d e with a | ⟨rfl, _, i, hi, hj⟩
    · have := h0.snd j d a
      exact ⟨this.1, by omega⟩
    · exact ⟨⟨i, (h0.snd i r hi).1, hj⟩, Nat.le_refl _⟩
  · by_cases c : k ≤ r
    · obtain ⟨d, a, b⟩ := h0.cpl k j c hj
      exact ⟨d, a, h.old j d b⟩
    · have e : k = r + 1 := by omega
      subst e
      obtain ⟨i, hi, hj'⟩ := hj
      obtain ⟨d, hd, e⟩ := h0.cpl r i (Nat.le_refl _) hi
      by_cases c2 : d = r
      · subst c2
        obtain ⟨d', e'⟩ := hall i j e hj'
        rcases h.new j d' e' with a | ⟨a, _⟩
        · exact ⟨d', by have := (h0.snd j d' a).2; omega, e'⟩
        · exact ⟨d', by omega, e'⟩
      · obtain ⟨d', a, b⟩ := h0.cpl (d + 1) j (by omega) ⟨i, (h0.snd i d e).1, hj'⟩
        exact ⟨d', by omega, h.old j d' b⟩
  · rcases h.new j (r + 1) e with a | ⟨_, a, _⟩
    · have := (h0.snd j (r + 1) a).2
      omega
    · exact a
/-- how many are not told -/
def nones (far : List (Option Nat)) : Nat := far.countP fun o => o.isNone
theorem nones_set {far : List (Option Nat)} {j d : Nat} (h : far[j]? = some none) : nones (far.set j (some d)) + 1 = nones far := by
  unfold nones
  induction far generalizing j with
  | nil => simp at h
  | cons o far ih =>
    cases j with
    | zero =>
      simp at h
      subst h
      simp
    | succ j =>
      have := ih (j := j) (by simpa using h)
      rw [List.set_cons_succ, List.countP_cons, List.countP_cons]
      omega
/-- what is put in where there was nothing -/
theorem fset {far : List (Option Nat)} {j v q e : Nat} (h : far[j]? = some none) : (far.set j (some v))[q]? = some (some e) ↔ (q = j ∧ e = v) ∨ far[q]? = some (some e) := by
  have hl := (List.getElem?_eq_some_iff.mp h).1
  by_cases c : j = q
  · subst c
    rw [List.getElem?_set_self hl, h]
    constructor
    · intro z; cases z; exact .inl ⟨rfl, rfl⟩
    · rintro (⟨_, rfl⟩ | z)
      · rfl
      · cases z
  · rw [List.getElem?_set_ne c]
    constructor
    · exact .inr
    · rintro (⟨z, _⟩ | z)
      · exact absurd z.symm c
      · exact z
/-- the law's queue -/
structure Que (nb : Nat → List Nat) (p n a : Nat) (far : List (Option Nat)) (row : List Nat) : Prop where
  len : far.length = n
  rowFar : ∀ (k i : Nat), row[k]? = some i → ∃ d : Nat, far[i]? = some (some d)
  inRow : ∀ (j d : Nat), far[j]? = some (some d) → j ∈ row ∧ rch nb p d j
  mono : ∀ (k l i j d e : Nat), k ≤ l → row[k]? = some i → row[l]? = some j → far[i]? = some (some d) → far[j]? = some (some e) → d ≤ e
  zero : far[p]? = some (some 0)
  near : ∀ (i d : Nat), row[a]? = some i → far[i]? = some (some d) → ∀ (j e : Nat), far[j]? = some (some e) → e ≤ d + 1
  done : ∀ (k i d : Nat), k < a → row[k]? = some i → far[i]? = some (some d) → ∀ j ∈ nb i, ∃ e, e ≤ d + 1 ∧ far[j]? = some (some e)
  cnt : row.length + nones far = n
  rng : ∀ i ∈ row, i < n
theorem nones_rep (n : Nat) : nones (List.replicate n none) = n := by
  unfold nones
  rw [List.countP_replicate]
  rfl
theorem rep_get {n j : Nat} (h : j < n) : (List.replicate n (none : Option Nat))[j]? = some none := List.getElem?_replicate_of_lt h
theorem rep_none {n j d : Nat} : (List.replicate n (none : Option Nat))[j]? ≠ some (some d) := fun z => by
  by_cases h : j < n
  · rw [rep_get h] at z; cases z
  · rw [List.getElem?_eq_none (by simpa using h)] at z; cases z
theorem que_start {nb : Nat → List Nat} {p n : Nat} (hp : p < n) : Que nb p n 0 ((List.replicate n none).set p (some 0)) [p] := by
  have f := fun q e => (fset (v := 0) (q := q) (e := e) (rep_get hp))
  have only : ∀ q e, ((List.replicate n none).set p (some 0))[q]? = some (some e) → q = p ∧ e = 0 := fun q e h => by
    rcases (f q e).mp h with a | a
    · exact a
    · exact absurd a rep_none
  refine ⟨by simp, fun k i h => ?_, fun j d h => ?_, fun k l i j d e _ _ _ h1 h2 => ?_, (f p 0).mpr (.inl ⟨rfl, rfl⟩), fun i d _ _ j e h => ?_, fun k i d h => absurd h (Nat.not_lt_zero _), ?_, fun i hi => ?_⟩
  · have := List.mem_singleton.mp (List.mem_of_getElem? h)
    subst this
    exact ⟨0, (f i 0).mpr (.inl ⟨rfl, rfl⟩)⟩
  · obtain ⟨rfl, rfl⟩ := only j d h
    exact ⟨List.mem_singleton.mpr rfl, rfl⟩
  · have := only i d h1
    omega
  · have := only j e h
    omega
  · have := nones_set (d := 0) (rep_get hp)
    rw [nones_rep] at this
    rw [List.length_singleton]
    omega
  · rw [List.mem_singleton.mp hi]; exact hp
theorem que_step {nb : Nat → List Nat} {p n a i j d : Nat} {far : List (Option Nat)} {row : List Nat} (h : Que nb p n a far row) (hi : row[a]? = some i) (hd : far[i]? = some (some d)) (hj : j ∈ nb i) (hn : far[j]? = some none) : Que nb p n a (far.set j (some (d + 1))) (row ++ [j]) := by
  have f := fun q e => (fset (v := d + 1) (q := q) (e := e) hn)
  have hl := (List.getElem?_eq_some_iff.mp hn).1
  have hal := (List.getElem?_eq_some_iff.mp hi).1
  have old : ∀ k q, (row ++ [j])[k]? = some q → row[k]? = some q ∨ (k = row.length ∧ q = j) := fun k q z => by
    by_cases c : k < row.length
    · rw [List.getElem?_append_left c] at z; exact .inl z
    · rw [List.getElem?_append_right (by omega)] at z
      by_cases c2 : k - row.length = 0
      · rw [c2] at z; cases z; exact .inr ⟨by omega, rfl⟩
      · rw [List.getElem?_eq_none (by rw [List.length_singleton]; omega)] at z; cases z
  have notj : ∀ k q, row[k]? = some q → q ≠ j := fun k q z c => by
    obtain ⟨e, he⟩ := h.rowFar k q z
    rw [c, hn] at he
    cases he
  have back : ∀ k q e, row[k]? = some q → (far.set j (some (d + 1)))[q]? = some (some e) → far[q]? = some (some e) := fun k q e z c => by
    rcases (f q e).mp c with a | a
    · exact absurd a.1 (notj k q z)
    · exact a
  have all1 : ∀ q e, (far.set j (some (d + 1)))[q]? = some (some e) → e ≤ d + 1 := fun q e z => by
    rcases (f q e).mp z with b | b
    · omega
    · exact h.near i d hi hd q e b
  refine ⟨by rw [List.length_set]; exact h.len, fun k q z => ?_, fun q e z => ?_, fun k l q r e e' hkl hk hl' h1 h2 => ?_, (f p 0).mpr (.inr h.zero), fun q e hq he r e' hr => ?_, fun k q e hk hq he r hr => ?_, ?_, fun q hq => ?_⟩
  · rcases old k q z with z | ⟨_, rfl⟩
    · obtain ⟨e, he⟩ := h.rowFar k q z
      exact ⟨e, (f q e).mpr (.inr he)⟩
    · exact ⟨d + 1, (f q (d + 1)).mpr (.inl ⟨rfl, rfl⟩)⟩
  · rcases (f q e).mp z with ⟨rfl, rfl⟩ | z
    · exact ⟨List.mem_append_right _ (List.mem_singleton.mpr rfl), i, (h.inRow i d hd).2, hj⟩
    · exact ⟨List.mem_append_left _ (h.inRow q e z).1, (h.inRow q e z).2⟩
  · rcases old l r hl' with c | ⟨c1, rfl⟩
    · have hk' : row[k]? = some q := by
        rcases old k q hk with c' | ⟨c1, _⟩
        · exact c'
        · have := (List.getElem?_eq_some_iff.mp c).1
          omega
      exact h.mono k l q r e e' hkl hk' c (back k q e hk' h1) (back l r e' c h2)
    · have := all1 q e h1
      rcases (f r e').mp h2 with b | b
      · omega
      · rw [hn] at b; cases b
  · have hq' : row[a]? = some q := by rwa [List.getElem?_append_left hal] at hq
    rw [hi] at hq'
    cases hq'
    have := back a i e hi he
    rw [hd] at this
    cases this
    exact all1 r e' hr
  · have hq' : row[k]? = some q := by rwa [List.getElem?_append_left (by omega)] at hq
    obtain ⟨e', h1, h2⟩ := h.done k q e hk hq' (back k q e hq' he) r hr
    exact ⟨e', h1, (f r e').mpr (.inr h2)⟩
  · have := nones_set (d := d + 1) hn
    have := h.cnt
    rw [List.length_append, List.length_singleton]
    omega
  · rcases List.mem_append.mp hq with hq | hq
    · exact h.rng q hq
    · rw [List.mem_singleton.mp hq, ← h.len]; exact hl
theorem que_next {nb : Nat → List Nat} {p n a i : Nat} {far : List (Option Nat)} {row : List Nat} (h : Que nb p n a far row) (hi : row[a]? = some i) (hall : ∀ j ∈ nb i, ∃ e, far[j]? = some (some e)) : Que nb p n (a + 1) far row := by
  obtain ⟨d, hd⟩ := h.rowFar a i hi
  refine ⟨h.len, h.rowFar, h.inRow, h.mono, h.zero, fun q e hq he j e' hj => ?_, fun k q e hk hq he j hj => ?_, h.cnt, h.rng⟩
  · have h1 := h.mono a (a + 1) i q d e (Nat.le_succ _) hi hq hd he
    have := h.near i d hi hd j e' hj
    omega
  · by_cases c : k < a
    · exact h.done k q e c hq he j hj
    · have : k = a := by omega
      subst this
      rw [hi] at hq
      cases hq
      rw [hd] at he
      cases he
      obtain ⟨e', he'⟩ := hall j hj
      exact ⟨e', h.near i d hi hd j e' he', he'⟩
theorem que_done {nb : Nat → List Nat} {p n a : Nat} {far : List (Option Nat)} {row : List Nat} (h : Que nb p n a far row) (ha : row.length ≤ a) : IsFar nb p n far := by
  refine ⟨h.len, fun j d e => (h.inRow j d e).2, fun k => ?_⟩
  induction k with
  | zero =>
    intro j hj
    have hj : j = p := hj
    rw [hj]
    exact ⟨0, Nat.le_refl _, h.zero⟩
  | succ k ih =>
    rintro j ⟨i, hi, hj⟩
    obtain ⟨d, hd, e⟩ := ih i hi
    obtain ⟨q, hq⟩ := List.getElem?_of_mem (h.inRow i d e).1
    obtain ⟨e', h1, h2⟩ := h.done q i d (by have := (List.getElem?_eq_some_iff.mp hq).1; omega) hq e j hj
    exact ⟨e', by omega, h2⟩
end BF
namespace SB
open PySem L2 PL MR SH BF
local macro_rules | `(tactic| walk_at "ev") => `(tactic| simp (config := {decide := true}) only [ini, fin, finI, sSeq, sNext, sAsg, sAsgG, sRet, sRetN, sDrop, sIf, sNever, sSetP, sAppP, sClrP, sRevP, fR, pmVar, pmIx, pmIxT, MR.putAt, OT.put, OT.at, gmName, gmTup, gmLst, gsNil, gsCons, rVar, rC, rOp, rUn, rCb, rCbZ, rOpZ, rCall, rAnd, rOr, rNot, rIf, rIs, rCh, rCh3, rTup, rLst, rSl, cNone, cSome, rRepr, dRepr, rInDct, rIdx, rIdxD, iR3s, small, qNil, qCons, qApp, lApp, bR, bAnd, bOr, bNot, tR, tD, tmAnd, tmOr, tmNot, yVar_eq, yMov, yR, yAuto, dY, yD, dR, dOp, dOpR, dCb, dAnd, dOr, dNot, yCall, yCallA, yCallI, yCallIT, yCb, yCbA, yOp, yOpA, lfO, yTup, yLst, oNil, oCons, isNo, lNil, lCons, asB, asInt, asL, asT, iL, iT, iE, iZ, iV, yRng1_eq, iR1_eq, iR2_eq, lcStep, calmAt, wipeE, rst, sApp, yPop_eq, sDPutM, ySortD, yDNew, gmName, toD_d, toD_tup, toD_lst, toDs_nil, toDs_cons, toDs_ints, toDs_fpr, toDs_prs, lfs_ints, lfs_fpr, intsO_len, prsO_len, fprO_len, rng_len, intsO_snoc, prsO_snoc, lstO_rg, rOpZ, rCbZ, isNo_lstO, toD_dnew, ySl, ySlA, neS_self, eqS_self,  rRevL, yRevL, yRevLA, yPop0, sExt, gStrI,  lstO_prs, lstO_ints, toD_lstO, kp_int, kp_bool, kp_tuple, kp_list, kp_str, isIntB, isBoolB, isTupB, isListB, isStrB, gAdd_i, gSub_i, gLt_i, gLe_i, gGt_i, gGe_i, gMul_r, gMul_l, gMod_i, gDiv_i, gPow_i, gNeg, gEqI, gNeI, gEqS, gNeS, gIsN, gNotN, gIsB, gNotB, gIxL, gIxT, gLen, gMax2, gMin2, gInt, gAll, asBools_map, isN, OT.lf, OT.lfs, flat, atI_0, atI_1, ixN_0, ixN_1, rgD_len, enumD_len, trues_len, Int.toNat_natCast, List.length_map, eq_self, Option.bind_some, Option.bind_none, Option.map_some, Option.map_none, List.getElem?_cons_zero, List.getElem?_cons_succ, List.set_cons_zero, List.set_cons_succ, List.map_cons, List.map_nil, List.replicate, List.nil_append, List.cons_append, List.length_cons, List.length_nil, List.all_cons, List.all_nil, if_true, if_false, reduceIte, tfl_int, tfl_bool, tfl_none, tfl_str, tfl_list, Bool.true_and, Bool.and_true, Bool.false_and, Bool.and_false, Bool.true_or, Bool.or_true, Bool.false_or, Bool.or_false, Bool.not_true, Bool.not_false, Bool.false_eq_true, decide_true, decide_false, true_and, and_true, false_and, and_false, or_true, true_or, *])
def natsD (xs : List Nat) : D := .list (xs.map fun j => .int (j : Nat))
def natsO (xs : List Nat) : List OT := xs.map fun j => .d (.int (j : Nat))
def farO (far : List (Option Nat)) : List OT := far.map fun o => .d (oD o)
def farD (far : List (Option Nat)) : D := .list (far.map oD)
def besN (n : Nat) (nb : Nat → List Nat) : D := .list ((List.range n).map fun k => natsD (nb k))
theorem toDs_nats (xs : List Nat) : OT.toDs (natsO xs) = some (xs.map fun j => PyData.int (j : Nat)) := toDs_mapD _ _
theorem toDs_far (far : List (Option Nat)) : OT.toDs (farO far) = some (far.map oD) := toDs_mapD _ _
theorem natsO_len (xs : List Nat) : (natsO xs).length = xs.length := by simp [natsO]
theorem farO_len (far : List (Option Nat)) : (farO far).length = far.length := by simp [farO]
theorem natsO_snoc (xs : List Nat) (j : Nat) : natsO xs ++ [OT.d (.int (j : Nat))] = natsO (xs ++ [j]) := by simp [natsO]
theorem farO_set (far : List (Option Nat)) (j d : Nat) : (farO far).set j (.d (.int (d : Nat))) = farO (far.set j (some d)) := (List.map_set (f := fun o => OT.d (oD o)) (l := far) (i := j) (a := some d)).symm
theorem lf_nats (xs : List Nat) : OT.lfs (natsO xs) = true := by
  have := lfs_mapd (xs := xs.map fun j => PyData.int (j : Nat)) (fun x hx => by
    obtain ⟨j, _, rfl⟩ := List.mem_map.mp hx
    exact tfl_int _)
  rw [List.map_map] at this
  exact this
theorem tfl_oD (o : Option Nat) : tfl (oD o) = true := by cases o <;> simp [oD, tfl_int, tfl_none]
theorem lf_far (far : List (Option Nat)) : OT.lfs (farO far) = true := by
  have := lfs_mapd (xs := far.map oD) (fun x hx => by
    obtain ⟨o, _, rfl⟩ := List.mem_map.mp hx
    exact tfl_oD o)
  rw [List.map_map] at this
  exact this
theorem far_ix {far : List (Option Nat)} {j : Nat} {o : Option Nat} (h : far[j]? = some o) : atI (far.map oD) (j : Int) = some (oD o) := atI_at (by rw [List.getElem?_map, h]; rfl)
theorem bes_ix {n : Nat} {nb : Nat → List Nat} {j : Nat} (h : j < n) : atI ((List.range n).map fun k => natsD (nb k)) (j : Int) = some (.list ((nb j).map fun j => .int (j : Nat))) := atI_at (by
  rw [List.getElem?_map, List.getElem?_range h]
  rfl)
def Told (far : List (Option Nat)) (j : Nat) : Prop := ∃ d, far[j]? = some (some d)
theorem Told.set {far : List (Option Nat)} {j i d : Nat} (h : Told far j) (hi : far[i]? = some none) : Told (far.set i (some d)) j := by
  obtain ⟨e, he⟩ := h
  exact ⟨e, (fset hi).mpr (.inr he)⟩
theorem told_cases {far : List (Option Nat)} {j n : Nat} (hl : far.length = n) (hj : j < n) : far[j]? = some none ∨ Told far j := by
  have e := List.getElem?_eq_getElem (show j < far.length by omega)
  cases c : far[j]'(by omega) with
  | none => left; rw [e, c]
  | some d => right; exact ⟨d, by rw [e, c]⟩
theorem mid_start {nb : Nat → List Nat} {p n r : Nat} {far : List (Option Nat)} (hl : far.length = n) : Mid nb p n r far far [] := ⟨hl, fun _ _ h => h, fun _ _ h => .inl h, fun j hj => by cases hj⟩
theorem far_from_is {n : Nat} {nb : Nat → List Nat} (hb : ∀ i, i < n → ∀ j ∈ nb i, j < n) (hn : n ≤ 1000) {p : Nat} (hp : p < n) : SH.m_far_from [besN n nb, .int p] = some (.nd .lst (farO (farF nb p n))) ∧ IsFar nb p n (farF nb p n) := by
  have x1 := ixN_nat (n := n) (i := p) hp
  unfold besN
  obtain ⟨r, e, far, rfl, hF⟩ := fin_w (P := fun x => ∃ far, x = .nd .lst (farO far) ∧ IsFar nb p n far) (B := SH.B_far_from) (ρ := ini [.list ((List.range n).map fun k => natsD (nb k)), .int p] 7) (by
    unfold SH.B_far_from
    refine w_seq (w_asg (w_lcmT (fun _ : Nat => OT.d .none) (as := List.range n) (enc := fun k => natsD (nb k)) (by walk_at "ev" <;> exact rfl) rfl (by simp; omega) (fun k hk => ?_) ?_))
    · have tn : tfl .none = true := tfl_none
      refine W.of (by walk_at "ev" <;> exact rfl) ?_
      exact ⟨rfl, rfl⟩
    have e0 : ((List.range n).map fun _ => OT.d PyData.none) = farO (List.replicate n none) := by
      unfold farO
      rw [List.map_const', List.length_range, List.map_replicate]
      rfl
    rw [e0]
    have s0 : (farO (List.replicate n none)).set p (.d (.int ((0 : Nat) : Int))) = farO ((List.replicate n none).set p (some 0)) := farO_set _ _ _
    have l0 : (farO (List.replicate n none)).length = n := by rw [farO_len, List.length_replicate]
    rw [Int.natCast_zero] at s0
    generalize farO (List.replicate n none) = F0 at *
    refine w_st (by walk_at "ev" <;> exact rfl) ?_
    clear s0 l0 e0
    refine w_st (by walk_at "ev" <;> exact rfl) ?_
    refine w_st (by walk_at "ev" <;> exact rfl) ?_
    have z0 : (0 : Int) = ((0 : Nat) : Int) := rfl
    have h0 := lay_zero (nb := nb) hp
    refine w_seq (w_while (fun m ρ => ∃ (r : Nat) (far : List (Option Nat)) (ring : List Nat) (T X3 X6 X7 X8 : OT), ρ = [.d (.list ((List.range n).map fun k => natsD (nb k))), .d (.int p), .nd .lst (farO far), X3, .d (.int (r : Nat)), T, X6, X7, X8] ∧ OT.toD T = some (.list (ring.map fun j => .int (j : Nat))) ∧ isNo T = false ∧ Lay nb p n r far ∧ (∀ j, far[j]? = some (some r) ↔ j ∈ ring) ∧ m = 2 * nones far + (if ring = [] then 0 else 1)) (n := 2 * nones ((List.replicate n none).set p (some 0)) + 1) ⟨0, (List.replicate n none).set p (some 0), [p], .nd .lst [.d (.int p)], _, _, _, _, rfl, by simp [toD_lst, toDs_cons, toDs_nil, toD_d], rfl, h0, fun j => ?_, rfl⟩ (fun m ρ2 hs => ?_))
    · constructor
      · intro hj
        have := (h0.snd j 0 hj).1
        rw [show j = p from this]
        simp
      · intro hj
        rw [List.mem_singleton.mp hj, List.getElem?_set_self (by simpa using hp)]
    · obtain ⟨r, far, ring, T, X3, X6, X7, X8, rfl, hT, hT2, hL, hR, rfl⟩ := hs
      cases hring : ring with
      | nil =>
        subst hring
        rw [List.map_nil] at hT
        refine ⟨false, _, by simp only [bList, tR, rVar]; walk_at "ev" <;> exact rfl, (fun z => by cases z), fun _ => ?_⟩
        refine w_end (by walk_at "ev" <;> exact rfl) rfl ⟨far, rfl, lay_done hL fun j hj => by cases (hR j).mp hj⟩
      | cons q0 ring0 =>
        rw [← hring]
        have bl : (ring.map fun j => PyData.int (j : Nat)).isEmpty = false := by rw [hring]; rfl
        have rin : ∀ j ∈ ring, j < n := fun j hj => by
          have := (List.getElem?_eq_some_iff.mp ((hR j).mpr hj)).1
          have := hL.len
          omega
        have rne : (if ring = [] then 0 else 1) = 1 := by rw [hring]; rfl
        rw [rne]
        clear hring q0 ring0
        refine ⟨true, _, by simp only [bList, tR, rVar]; walk_at "ev" <;> exact rfl, fun _ => ?_, (fun z => by cases z)⟩
        have b1 : (r : Int) + 1 = ((r + 1 : Nat) : Int) := by omega
        refine w_st (by walk_at "ev" <;> exact rfl) ?_
        refine w_st (by walk_at "ev" <;> exact rfl) ?_
        clear b1
        have hw : n - 0 = n := rfl
        refine w_seq (w_forT (fun i ρ => ∃ (far' : List (Option Nat)) (nxt : List Nat) (X7 X8 : OT), ρ = [.d (.list ((List.range n).map fun k => natsD (nb k))), .d (.int p), .nd .lst (farO far'), X3, .d (.int ((r + 1 : Nat) : Int)), .d (.list (ring.map fun j => .int (j : Nat))), .nd .lst (natsO nxt), X7, X8] ∧ Mid nb p n r far far' nxt ∧ nxt.length + nones far' = nones far ∧ ∀ k h, k < i → ring[k]? = some h → ∀ j ∈ nb h, Told far' j) (as := ring) (enc := fun j : Nat => PyData.int (j : Nat)) (by walk_at "ev" <;> exact rfl) ⟨far, [], X7, X8, rfl, mid_start hL.len, by simp, fun k h hk => by omega⟩ (fun i q ρ2 hq hs => ?_) ?_)
        · obtain ⟨far', nxt, X7, X8, rfl, hM, hc, hd⟩ := hs
          have hqn := rin q (List.mem_of_getElem? hq)
          have hqr := (hR q).mpr (List.mem_of_getElem? hq)
          have bi := bes_ix (nb := nb) hqn
          apply exw
          · walk_at "ev" <;> exact rfl
          refine w_forT (fun i' ρ => ∃ (far' : List (Option Nat)) (nxt : List Nat) (X8 : OT), ρ = [.d (.list ((List.range n).map fun k => natsD (nb k))), .d (.int p), .nd .lst (farO far'), X3, .d (.int ((r + 1 : Nat) : Int)), .d (.list (ring.map fun j => .int (j : Nat))), .nd .lst (natsO nxt), .d (.int (q : Nat)), X8] ∧ Mid nb p n r far far' nxt ∧ nxt.length + nones far' = nones far ∧ (∀ k h, k < i → ring[k]? = some h → ∀ j ∈ nb h, Told far' j) ∧ ∀ k j, k < i' → (nb q)[k]? = some j → Told far' j) (as := nb q) (enc := fun j : Nat => PyData.int (j : Nat)) ?_ ⟨far', nxt, X8, rfl, hM, hc, hd, fun k j hk => by omega⟩ (fun i' j ρ2 hj hs => ?_) ?_
          · have tlb : tfl (.list ((nb q).map fun j => .int (j : Nat))) = false := by simp [tfl]
            walk_at "ev" <;> exact rfl
          · obtain ⟨far', nxt, X8, rfl, hM, hc, hd, hd'⟩ := hs
            have hjq := List.mem_of_getElem? hj
            have hjn := hb q hqn j hjq
            have tf := toDs_far far'
            have lf' : (farO far').length = n := by rw [farO_len, hM.len]
            have x2 := ixN_nat (n := n) (i := j) hjn
            rcases told_cases hM.len hjn with hnone | htold
            · have fx : atI (far'.map oD) (j : Int) = some .none := far_ix hnone
              have st := farO_set far' j (r + 1)
              have sn := natsO_snoc nxt j
              have ns := nones_set (d := r + 1) hnone
              have cl : (natsO nxt).length ≤ 1000000 := by
                rw [natsO_len]
                have : nones far ≤ far.length := List.countP_le_length
                have := hL.len
                omega
              have hM' := mid_step hM hL.len hqr hjq hnone
              have hc' : (nxt ++ [j]).length + nones (far'.set j (some (r + 1))) = nones far := by rw [List.length_append, List.length_singleton]; omega
              have hd1 : ∀ k h, k < i → ring[k]? = some h → ∀ j' ∈ nb h, Told (far'.set j (some (r + 1))) j' := fun k h hk hh j' hj' => (hd k h hk hh j' hj').set hnone
              have hd2 : ∀ k j', k < i' + 1 → (nb q)[k]? = some j' → Told (far'.set j (some (r + 1))) j' := fun k j' hk hh => by
                by_cases c : k = i'
                · subst c
                  rw [hj] at hh
                  cases hh
                  exact ⟨r + 1, List.getElem?_set_self (by have := hM.len; omega)⟩
                · exact (hd' k j' (by omega) hh).set hnone
              generalize far'.set j (some (r + 1)) = far2 at *
              generalize nxt ++ [j] = nxt2 at *
              generalize farO far' = FO at *
              generalize natsO nxt = NO at *
              clear hd hd' hM hc ns hnone hj hq hqr hR rin
              generalize ((r + 1 : Nat) : Int) = r1 at *
              generalize (j : Int) = J at *
              apply exw
              · walk_at "ev" <;> exact rfl
              refine w_if (c := true) (by walk_at "ev" <;> exact rfl) (fun _ => ?_) (fun z => by cases z)
              refine w_st (by walk_at "ev" <;> exact rfl) ?_
              apply w_nx
              · walk_at "ev" <;> exact rfl
              exact ⟨far2, nxt2, _, rfl, hM', hc', hd1, hd2⟩
            · obtain ⟨d, hd3⟩ := htold
              have fx : atI (far'.map oD) (j : Int) = some (.int (d : Nat)) := far_ix hd3
              have hd2 : ∀ k j', k < i' + 1 → (nb q)[k]? = some j' → Told far' j' := fun k j' hk hh => by
                by_cases c : k = i'
                · subst c
                  rw [hj] at hh
                  cases hh
                  exact ⟨d, hd3⟩
                · exact hd' k j' (by omega) hh
              clear hd' hj hq hqr hR rin lf'
              apply exw
              · walk_at "ev" <;> exact rfl
              refine w_if (c := false) (by walk_at "ev" <;> exact rfl) (fun z => by cases z) (fun _ => ?_)
              exact w_next ⟨far', nxt, _, rfl, hM, hc, hd, hd2⟩
          · rintro ρ2 ⟨far', nxt, X8, rfl, hM, hc, hd, hd'⟩
            refine ⟨far', nxt, _, _, rfl, hM, hc, fun k h hk hh j hj => ?_⟩
            by_cases c : k = i
            · subst c
              rw [hq] at hh
              cases hh
              obtain ⟨k', hk', e⟩ := List.getElem_of_mem hj
              exact hd' k' j hk' (by rw [List.getElem?_eq_getElem hk', e])
            · exact hd k h (by omega) hh j hj
        · rintro ρ2 ⟨far', nxt, X7, X8, rfl, hM, hc, hd⟩
          have hall : ∀ (i j : Nat), far[i]? = some (some r) → j ∈ nb i → ∃ d, far'[j]? = some (some d) := fun i j hi hj => by
            obtain ⟨k, hk, e⟩ := List.getElem_of_mem ((hR i).mp hi)
            exact hd k i hk (by rw [List.getElem?_eq_getElem hk, e]) j hj
          have md := mid_done hL hM hall
          have tn := toDs_nats nxt
          apply w_nx
          · walk_at "ev" <;> exact rfl
          refine ⟨2 * nones far' + (if nxt = [] then 0 else 1), ?_, r + 1, far', nxt, _, _, _, _, _, rfl, toD_d _, rfl, md.1, md.2, rfl⟩
          cases nxt with
          | nil => simp at hc ⊢; omega
          | cons a b => simp at hc ⊢; omega)
  rw [← hF.eq]
  exact ⟨e, hF⟩
end SB
namespace SB
open PySem L2 PL MR SH BF
local macro_rules | `(tactic| walk_at "ev") => `(tactic| simp (config := {decide := true}) only [ini, fin, finI, sSeq, sNext, sAsg, sAsgG, sRet, sRetN, sDrop, sIf, sNever, sSetP, sAppP, sClrP, sRevP, fR, pmVar, pmIx, pmIxT, MR.putAt, OT.put, OT.at, gmName, gmTup, gmLst, gsNil, gsCons, rVar, rC, rOp, rUn, rCb, rCbZ, rOpZ, rCall, rAnd, rOr, rNot, rIf, rIs, rCh, rCh3, rTup, rLst, rSl, cNone, cSome, rRepr, dRepr, rInDct, rIdx, rIdxD, iR3s, small, qNil, qCons, qApp, lApp, bR, bAnd, bOr, bNot, tR, tD, tmAnd, tmOr, tmNot, yVar_eq, yMov, yR, yAuto, dY, yD, dR, dOp, dOpR, dCb, dAnd, dOr, dNot, yCall, yCallA, yCallI, yCallIT, yCb, yCbA, yOp, yOpA, lfO, yTup, yLst, oNil, oCons, isNo, lNil, lCons, asB, asInt, asL, asT, iL, iT, iE, iZ, iV, yRng1_eq, iR1_eq, iR2_eq, lcStep, calmAt, wipeE, rst, sApp, yPop_eq, sDPutM, ySortD, yDNew, gmName, toD_d, toD_tup, toD_lst, toDs_nil, toDs_cons, toDs_ints, toDs_fpr, toDs_prs, lfs_ints, lfs_fpr, intsO_len, prsO_len, fprO_len, rng_len, intsO_snoc, prsO_snoc, lstO_rg, rOpZ, rCbZ, isNo_lstO, toD_dnew, ySl, ySlA, neS_self, eqS_self,  rRevL, yRevL, yRevLA, yPop0, sExt, gStrI,  lstO_prs, lstO_ints, toD_lstO, kp_int, kp_bool, kp_tuple, kp_list, kp_str, isIntB, isBoolB, isTupB, isListB, isStrB, gAdd_i, gSub_i, gLt_i, gLe_i, gGt_i, gGe_i, gMul_r, gMul_l, gMod_i, gDiv_i, gPow_i, gNeg, gEqI, gNeI, gEqS, gNeS, gIsN, gNotN, gIsB, gNotB, gIxL, gIxT, gLen, gMax2, gMin2, gInt, gAll, asBools_map, isN, OT.lf, OT.lfs, flat, atI_0, atI_1, ixN_0, ixN_1, rgD_len, enumD_len, trues_len, Int.toNat_natCast, List.length_map, eq_self, Option.bind_some, Option.bind_none, Option.map_some, Option.map_none, List.getElem?_cons_zero, List.getElem?_cons_succ, List.set_cons_zero, List.set_cons_succ, List.map_cons, List.map_nil, List.replicate, List.nil_append, List.cons_append, List.length_cons, List.length_nil, List.all_cons, List.all_nil, if_true, if_false, reduceIte, tfl_int, tfl_bool, tfl_none, tfl_str, tfl_list, Bool.true_and, Bool.and_true, Bool.false_and, Bool.and_false, Bool.true_or, Bool.or_true, Bool.false_or, Bool.or_false, Bool.not_true, Bool.not_false, Bool.false_eq_true, decide_true, decide_false, true_and, and_true, false_and, and_false, or_true, true_or, *])
/-- a web's ties seen from each place -/
structure NbOk (n : Nat) (nb : Nat → List Nat) : Prop where
  hi : n ≤ 1000
  inn : ∀ i, i < n → ∀ j ∈ nb i, j < n
  sym : ∀ i j, i < n → j < n → (j ∈ nb i ↔ i ∈ nb j)
noncomputable def dst (nb : Nat → List Nat) (n p q : Nat) : Option Nat := (farF nb p n).getD q none
theorem rch_cons {nb : Nat → List Nat} {i p : Nat} : ∀ {k j : Nat}, i ∈ nb p → rch nb i k j → rch nb p (k + 1) j
  | 0, j, h, e => by
    have e : j = i := e
    subst e
    exact ⟨p, rfl, h⟩
  | k + 1, j, h, ⟨m, h1, h2⟩ => ⟨m, rch_cons h h1, h2⟩
theorem rch_add {nb : Nat → List Nat} {p q : Nat} {k : Nat} (h : rch nb p k q) : ∀ {m j : Nat}, rch nb q m j → rch nb p (k + m) j
  | 0, j, e => by
    have e : j = q := e
    subst e
    exact h
  | m + 1, j, ⟨i, h1, h2⟩ => ⟨i, rch_add h h1, h2⟩
section
variable {n : Nat} {nb : Nat → List Nat} (w : NbOk n nb)
include w
theorem rch_in {p : Nat} (hp : p < n) : ∀ {k q : Nat}, rch nb p k q → q < n
  | 0, q, e => by have e : q = p := e; subst e; exact hp
  | k + 1, q, ⟨i, h1, h2⟩ => w.inn i (rch_in hp h1) q h2
theorem rch_sym {p : Nat} (hp : p < n) : ∀ {k q : Nat}, rch nb p k q → rch nb q k p
  | 0, q, e => by have e : q = p := e; subst e; rfl
  | k + 1, q, ⟨i, h1, h2⟩ => by
    have hi := rch_in w hp h1
    exact rch_cons ((w.sym i q hi (w.inn i hi q h2)).mp h2) (rch_sym hp h1)
theorem far_is {p : Nat} (hp : p < n) : IsFar nb p n (farF nb p n) := (far_from_is w.inn w.hi hp).2
theorem dst_at {p q : Nat} (hp : p < n) (hq : q < n) : (farF nb p n)[q]? = some (dst nb n p q) := by
  unfold dst
  rw [List.getD_eq_getElem?_getD, List.getElem?_eq_getElem (by have := (far_is w hp).len; omega)]
  rfl
theorem dst_some {p q d : Nat} (hp : p < n) (hq : q < n) : dst nb n p q = some d ↔ rch nb p d q ∧ ∀ e, rch nb p e q → d ≤ e := by
  have f := far_is w hp
  constructor
  · intro h
    have e := dst_at w hp hq
    rw [h] at e
    refine ⟨f.snd q d e, fun k hk => ?_⟩
    obtain ⟨d', h1, h2⟩ := f.cpl k q hk
    rw [e] at h2
    cases h2
    exact h1
  · rintro ⟨h1, h2⟩
    obtain ⟨d', h3, h4⟩ := f.cpl d q h1
    have := h2 d' (f.snd q d' h4)
    have : d = d' := by omega
    subst this
    have e := dst_at w hp hq
    rw [h4] at e
    exact (Option.some.inj e).symm
theorem dst_of {p q k : Nat} (hp : p < n) (hq : q < n) (h : rch nb p k q) : ∃ d, d ≤ k ∧ dst nb n p q = some d := by
  obtain ⟨d, h1, h2⟩ := (far_is w hp).cpl k q h
  refine ⟨d, h1, ?_⟩
  have e := dst_at w hp hq
  rw [h2] at e
  exact (Option.some.inj e).symm
theorem dst_self {p : Nat} (hp : p < n) : dst nb n p p = some 0 := by
  obtain ⟨d, h1, h2⟩ := dst_of w hp hp (k := 0) rfl
  have : d = 0 := by omega
  rw [h2, this]
theorem dst_sym {p q : Nat} (hp : p < n) (hq : q < n) : dst nb n p q = dst nb n q p := by
  have one : ∀ {a b : Nat}, a < n → b < n → ∀ d, dst nb n a b = some d → dst nb n b a = some d := by
    intro a b ha hb d h
    obtain ⟨h1, h2⟩ := (dst_some w ha hb).mp h
    exact (dst_some w hb ha).mpr ⟨rch_sym w ha h1, fun e he => h2 e (rch_sym w hb he)⟩
  cases h : dst nb n p q with
  | some d => exact (one hp hq d h).symm
  | none =>
    cases h' : dst nb n q p with
    | none => rfl
    | some d => rw [one hq hp d h'] at h; cases h
theorem dst_tri {a x b s t : Nat} (ha : a < n) (hx : x < n) (hb : b < n) (h1 : dst nb n a x = some s) (h2 : dst nb n x b = some t) : ∃ u, u ≤ s + t ∧ dst nb n a b = some u :=
  dst_of w ha hb (rch_add ((dst_some w ha hx).mp h1).1 ((dst_some w hx hb).mp h2).1)
end
/-! between -/
theorem sortI_of {xs ys : List Nat} (hx : xs.Nodup) (hy : ys.Pairwise (· < ·)) (hm : ∀ x, x ∈ xs ↔ x ∈ ys) : sortI (xs.map fun (j : Nat) => (j : Int)) = ys.map fun (j : Nat) => (j : Int) := by
  have hp : xs.Perm ys := by
    refine (List.perm_ext_iff_of_nodup hx ?_).mpr hm
    exact hy.imp (fun {a b} h => by omega)
  have s1 := List.pairwise_mergeSort (le := fun a b : Int => decide (a ≤ b)) (fun a b c h1 h2 => by simp at *; omega) (fun a b => by simp; omega) (xs.map fun (j : Nat) => (j : Int))
  refine List.Perm.eq_of_pairwise (le := fun a b : Int => a ≤ b) (fun a b _ _ h1 h2 => Int.le_antisymm h1 h2) (s1.imp fun {a b} h => by simpa using h) ?_ ((List.mergeSort_perm _ _).trans (hp.map _))
  rw [List.pairwise_map]
  exact hy.imp fun {a b} h => by omega
end SB
namespace SB
open PySem L2 PL MR SH BF
local macro_rules | `(tactic| walk_at "ev") => `(tactic| simp (config := {decide := true}) only [ini, fin, finI, sSeq, sNext, sAsg, sAsgG, sRet, sRetN, sDrop, sIf, sNever, sSetP, sAppP, sClrP, sRevP, fR, pmVar, pmIx, pmIxT, MR.putAt, OT.put, OT.at, gmName, gmTup, gmLst, gsNil, gsCons, rVar, rC, rOp, rUn, rCb, rCbZ, rOpZ, rCall, rAnd, rOr, rNot, rIf, rIs, rCh, rCh3, rTup, rLst, rSl, cNone, cSome, rRepr, dRepr, rInDct, rIdx, rIdxD, iR3s, small, qNil, qCons, qApp, lApp, bR, bAnd, bOr, bNot, tR, tD, tmAnd, tmOr, tmNot, yVar_eq, yMov, yR, yAuto, dY, yD, dR, dOp, dOpR, dCb, dAnd, dOr, dNot, yCall, yCallA, yCallI, yCallIT, yCb, yCbA, yOp, yOpA, lfO, yTup, yLst, oNil, oCons, isNo, lNil, lCons, asB, asInt, asL, asT, iL, iT, iE, iZ, iV, yRng1_eq, iR1_eq, iR2_eq, lcStep, calmAt, wipeE, rst, sApp, yPop_eq, sDPutM, ySortD, yDNew, gmName, toD_d, toD_tup, toD_lst, toDs_nil, toDs_cons, toDs_ints, toDs_fpr, toDs_prs, lfs_ints, lfs_fpr, intsO_len, prsO_len, fprO_len, rng_len, intsO_snoc, prsO_snoc, lstO_rg, rOpZ, rCbZ, isNo_lstO, toD_dnew, ySl, ySlA, neS_self, eqS_self,  rRevL, yRevL, yRevLA, yPop0, sExt, gStrI,  lstO_prs, lstO_ints, toD_lstO, kp_int, kp_bool, kp_tuple, kp_list, kp_str, isIntB, isBoolB, isTupB, isListB, isStrB, gAdd_i, gSub_i, gLt_i, gLe_i, gGt_i, gGe_i, gMul_r, gMul_l, gMod_i, gDiv_i, gPow_i, gNeg, gEqI, gNeI, gEqS, gNeS, gIsN, gNotN, gIsB, gNotB, gIxL, gIxT, gLen, gMax2, gMin2, gInt, gAll, asBools_map, isN, OT.lf, OT.lfs, flat, atI_0, atI_1, ixN_0, ixN_1, rgD_len, enumD_len, trues_len, Int.toNat_natCast, List.length_map, eq_self, Option.bind_some, Option.bind_none, Option.map_some, Option.map_none, List.getElem?_cons_zero, List.getElem?_cons_succ, List.set_cons_zero, List.set_cons_succ, List.map_cons, List.map_nil, List.replicate, List.nil_append, List.cons_append, List.length_cons, List.length_nil, List.all_cons, List.all_nil, if_true, if_false, reduceIte, tfl_int, tfl_bool, tfl_none, tfl_str, tfl_list, Bool.true_and, Bool.and_true, Bool.false_and, Bool.and_false, Bool.true_or, Bool.or_true, Bool.false_or, Bool.or_false, Bool.not_true, Bool.not_false, Bool.false_eq_true, decide_true, decide_false, true_and, and_true, false_and, and_false, or_true, true_or, *])
theorem fm_if {α β : Type} (c : α → Bool) (f : α → β) (xs : List α) : xs.filterMap (fun a => if c a then some (f a) else Option.none) = (xs.filter c).map f := by
  induction xs with
  | nil => rfl
  | cons x xs ih =>
    rw [List.filterMap_cons, List.filter_cons]
    by_cases h : c x = true
    · simp [h, ih]
    · simp [h, ih]
theorem inI_nats (neg : Bool) (k : Nat) (xs : List Nat) : gInI neg (.int (k : Nat)) (.list (xs.map fun j => .int (j : Nat))) = some (.bool (if neg then !decide (k ∈ xs) else decide (k ∈ xs))) := by
  have e : (xs.map fun j => PyData.int (j : Nat)) = (xs.map fun (j : Nat) => (j : Int)).map .int := by rw [List.map_map]; rfl
  have m : ((k : Int) ∈ xs.map fun (j : Nat) => (j : Int)) ↔ k ∈ xs := by
    rw [List.mem_map]
    constructor
    · rintro ⟨j, hj, z⟩
      have : j = k := by omega
      exact this ▸ hj
    · exact fun h => ⟨k, h, rfl⟩
  unfold gInI
  rw [e]
  simp only [seqItems, Option.bind_some, asInts_map, Option.map_some, m]
end SB
namespace SB
open PySem L2 PL MR SH BF
local macro_rules | `(tactic| walk_at "ev") => `(tactic| simp (config := {decide := true}) only [ini, fin, finI, sSeq, sNext, sAsg, sAsgG, sRet, sRetN, sDrop, sIf, sNever, sSetP, sAppP, sClrP, sRevP, fR, pmVar, pmIx, pmIxT, MR.putAt, OT.put, OT.at, gmName, gmTup, gmLst, gsNil, gsCons, rVar, rC, rOp, rUn, rCb, rCbZ, rOpZ, rCall, rAnd, rOr, rNot, rIf, rIs, rCh, rCh3, rTup, rLst, rSl, cNone, cSome, rRepr, dRepr, rInDct, rIdx, rIdxD, iR3s, small, qNil, qCons, qApp, lApp, bR, bAnd, bOr, bNot, tR, tD, tmAnd, tmOr, tmNot, yVar_eq, yMov, yR, yAuto, dY, yD, dR, dOp, dOpR, dCb, dAnd, dOr, dNot, yCall, yCallA, yCallI, yCallIT, yCb, yCbA, yOp, yOpA, lfO, yTup, yLst, oNil, oCons, isNo, lNil, lCons, asB, asInt, asL, asT, iL, iT, iE, iZ, iV, yRng1_eq, iR1_eq, iR2_eq, lcStep, calmAt, wipeE, rst, sApp, yPop_eq, sDPutM, ySortD, yDNew, gmName, toD_d, toD_tup, toD_lst, toDs_nil, toDs_cons, toDs_ints, toDs_fpr, toDs_prs, lfs_ints, lfs_fpr, intsO_len, prsO_len, fprO_len, rng_len, intsO_snoc, prsO_snoc, lstO_rg, rOpZ, rCbZ, isNo_lstO, toD_dnew, ySl, ySlA, neS_self, eqS_self,  rRevL, yRevL, yRevLA, yPop0, sExt, gStrI,  lstO_prs, lstO_ints, toD_lstO, kp_int, kp_bool, kp_tuple, kp_list, kp_str, isIntB, isBoolB, isTupB, isListB, isStrB, gAdd_i, gSub_i, gLt_i, gLe_i, gGt_i, gGe_i, gMul_r, gMul_l, gMod_i, gDiv_i, gPow_i, gNeg, gEqI, gNeI, gEqS, gNeS, gIsN, gNotN, gIsB, gNotB, gIxL, gIxT, gLen, gMax2, gMin2, gInt, gAll, asBools_map, isN, OT.lf, OT.lfs, flat, atI_0, atI_1, ixN_0, ixN_1, rgD_len, enumD_len, trues_len, Int.toNat_natCast, List.length_map, eq_self, Option.bind_some, Option.bind_none, Option.map_some, Option.map_none, List.getElem?_cons_zero, List.getElem?_cons_succ, List.set_cons_zero, List.set_cons_succ, List.map_cons, List.map_nil, List.replicate, List.nil_append, List.cons_append, List.length_cons, List.length_nil, List.all_cons, List.all_nil, if_true, if_false, reduceIte, tfl_int, tfl_bool, tfl_none, tfl_str, tfl_list, Bool.true_and, Bool.and_true, Bool.false_and, Bool.and_false, Bool.true_or, Bool.or_true, Bool.false_or, Bool.or_false, Bool.not_true, Bool.not_false, Bool.false_eq_true, decide_true, decide_false, true_and, and_true, false_and, and_false, or_true, true_or, *])
theorem sort_nats {S ys : List Nat} (h : sortI (S.map fun (j : Nat) => (j : Int)) = ys.map fun (j : Nat) => (j : Int)) : GSortI [.list (S.map fun j => .int (j : Nat))] = some (.nd .lst (natsO ys)) := by
  have e : (S.map fun j => PyData.int (j : Nat)) = (S.map fun (j : Nat) => (j : Int)).map .int := by rw [List.map_map]; rfl
  unfold GSortI
  rw [e]
  simp only [asInts_map, Option.map_some, h]
  simp [lstO, natsO]
end SB
namespace SB
open PySem L2 PL MR SH BF
local macro_rules | `(tactic| walk_at "ev") => `(tactic| simp (config := {decide := true}) only [ini, fin, finI, sSeq, sNext, sAsg, sAsgG, sRet, sRetN, sDrop, sIf, sNever, sSetP, sAppP, sClrP, sRevP, fR, pmVar, pmIx, pmIxT, MR.putAt, OT.put, OT.at, gmName, gmTup, gmLst, gsNil, gsCons, rVar, rC, rOp, rUn, rCb, rCbZ, rOpZ, rCall, rAnd, rOr, rNot, rIf, rIs, rCh, rCh3, rTup, rLst, rSl, cNone, cSome, rRepr, dRepr, rInDct, rIdx, rIdxD, iR3s, small, qNil, qCons, qApp, lApp, bR, bAnd, bOr, bNot, tR, tD, tmAnd, tmOr, tmNot, yVar_eq, yMov, yR, yAuto, dY, yD, dR, dOp, dOpR, dCb, dAnd, dOr, dNot, yCall, yCallA, yCallI, yCallIT, yCb, yCbA, yOp, yOpA, lfO, yTup, yLst, oNil, oCons, isNo, lNil, lCons, asB, asInt, asL, asT, iL, iT, iE, iZ, iV, yRng1_eq, iR1_eq, iR2_eq, lcStep, calmAt, wipeE, rst, sApp, yPop_eq, sDPutM, ySortD, yDNew, gmName, toD_d, toD_tup, toD_lst, toDs_nil, toDs_cons, toDs_ints, toDs_fpr, toDs_prs, lfs_ints, lfs_fpr, intsO_len, prsO_len, fprO_len, rng_len, intsO_snoc, prsO_snoc, lstO_rg, rOpZ, rCbZ, isNo_lstO, toD_dnew, ySl, ySlA, neS_self, eqS_self,  rRevL, yRevL, yRevLA, yPop0, sExt, gStrI,  lstO_prs, lstO_ints, toD_lstO, kp_int, kp_bool, kp_tuple, kp_list, kp_str, isIntB, isBoolB, isTupB, isListB, isStrB, gAdd_i, gSub_i, gLt_i, gLe_i, gGt_i, gGe_i, gMul_r, gMul_l, gMod_i, gDiv_i, gPow_i, gNeg, gEqI, gNeI, gEqS, gNeS, gIsN, gNotN, gIsB, gNotB, gIxL, gIxT, gLen, gMax2, gMin2, gInt, gAll, asBools_map, isN, OT.lf, OT.lfs, flat, atI_0, atI_1, ixN_0, ixN_1, rgD_len, enumD_len, trues_len, Int.toNat_natCast, List.length_map, eq_self, Option.bind_some, Option.bind_none, Option.map_some, Option.map_none, List.getElem?_cons_zero, List.getElem?_cons_succ, List.set_cons_zero, List.set_cons_succ, List.map_cons, List.map_nil, List.replicate, List.nil_append, List.cons_append, List.length_cons, List.length_nil, List.all_cons, List.all_nil, if_true, if_false, reduceIte, tfl_int, tfl_bool, tfl_none, tfl_str, tfl_list, Bool.true_and, Bool.and_true, Bool.false_and, Bool.and_false, Bool.true_or, Bool.or_true, Bool.false_or, Bool.or_false, Bool.not_true, Bool.not_false, Bool.false_eq_true, decide_true, decide_false, true_and, and_true, false_and, and_false, or_true, true_or, *])
theorem law_beside_ok {w : Wb} (h : WbOk w) : SB.m__law_beside [wbD w] = some (besO w) := by
  obtain ⟨n, ts⟩ := w
  have k := h.ok
  have k1 := h.hi
  have k2 := h.len
  simp only at k k1 k2
  have c1 := rg1_n (n := n) (by omega)
  have c2 := rgD0 n
  generalize rgD 0 n = X at c1 c2
  unfold SB.m__law_beside SB.B__law_beside
  refine fin_eq ?_
  simp only [wbD, WD]
  have tlp : tfl (.list (ts.map pairD)) = false := by simp [tfl]
  refine w_seq (w_asg (w_lcmT (fun _ : Nat => OT.nd .lst []) (as := List.range n) (enc := fun k : Nat => PyData.int (k : Int)) (by rw [← c2]; walk_at "ev" <;> exact rfl) rfl (by simp; omega) (fun r hr => ?_) ?_))
  · refine W.of (by walk_at "ev" <;> exact rfl) ?_
    exact ⟨rfl, rfl⟩
  simp only [sqK, wipeE, rst, ini, List.map_nil, List.nil_append, List.replicate, List.getElem?_cons_zero, List.getElem?_cons_succ, List.set_cons_zero, List.set_cons_succ, List.map_cons, List.cons_append]
  refine w_seq (w_forT (fun i ρ => ∃ X Y, ρ = [.d (.tuple [.int (n : Nat), .list (ts.map pairD)]), .nd .lst ((List.range n).map fun k => .nd .lst (intsO (nbsO (ts.take i) (k : Nat)))), .no, X, Y]) (as := ts) (enc := pairD) (by walk_at "ev" <;> exact rfl) ⟨_, _, rfl⟩ (fun i t ρ2 ht hs => ?_) ?_)
  · obtain ⟨X, Y, rfl⟩ := hs
    have b := k.in' t (List.mem_of_getElem? ht)
    have hi : i < ts.length := (List.getElem?_eq_some_iff.mp ht).1
    simp only [pairD]
    apply exw
    · walk_at "ev" <;> exact rfl
    refine w_st (sAppP_tab (m := n) (g := fun k => intsO (nbsO (ts.take i) (k : Nat))) (p := t.1) (r := .d (.int t.2)) rfl (by walk_at "ev" <;> exact rfl) (by omega) (by omega) (by walk_at "ev" <;> exact rfl) rfl (by rw [intsO_len]; have := nbsO_len (ts.take i) ((t.1.toNat : Nat) : Int); rw [List.length_take] at this; omega)) ?_
    apply w_nx
    · refine sAppP_tab (m := n) (p := t.2) (r := .d (.int t.1)) rfl (by walk_at "ev" <;> exact rfl) (by omega) (by omega) (by walk_at "ev" <;> exact rfl) rfl ?_
      have := nbsO_len (ts.take i) ((t.2.toNat : Nat) : Int)
      rw [List.length_take] at this
      split
      · simp only [List.length_append, intsO_len, List.length_cons, List.length_nil]; omega
      · rw [intsO_len]; omega
    refine ⟨.d (.int t.1), .d (.int t.2), ?_⟩
    simp only [List.set_cons_zero, List.set_cons_succ]
    congr 3
    apply List.map_congr_left
    intro a _
    rw [List.take_add_one, ht]
    show _ = OT.nd .lst (intsO (nbsO (ts.take i ++ [t]) (a : Nat)))
    rw [nbsO_snoc]
    by_cases e1 : (a : Int) = t.1 <;> by_cases e2 : (a : Int) = t.2
    · omega
    · have e2' : ¬ t.2 = (a : Int) := fun z => e2 z.symm
      simp only [e1, e2, e2', if_true, if_false]
      have : ¬ t.1 = t.2 := by omega
      have e3 : ¬ t.2 = t.1 := by omega
      simp [this, e3, intsO]
    · have e1' : ¬ t.1 = (a : Int) := fun z => e1 z.symm
      simp only [e1, e2, e1', if_true, if_false]
      have : ¬ t.1 = t.2 := by omega
      have e3 : ¬ t.2 = t.1 := by omega
      simp [this, e3, intsO]
    · have e1' : ¬ t.1 = (a : Int) := fun z => e1 z.symm
      have e2' : ¬ t.2 = (a : Int) := fun z => e2 z.symm
      simp [e1, e2, e1', e2']
  · rintro ρ2 ⟨X, Y, rfl⟩
    rw [List.take_length]
    exact w_end (by walk_at "ev" <;> exact rfl) rfl rfl
/-! a web's places seen from each -/
def nbN (w : Wb) (p : Nat) : List Nat := (nbsO w.2 (p : Int)).map Int.toNat
theorem nbN_mem {w : Wb} (h : WbOk w) {p q : Nat} : q ∈ nbN w p ↔ (q : Int) ∈ nbsO w.2 (p : Int) := by
  unfold nbN
  rw [List.mem_map]
  constructor
  · rintro ⟨x, hx, e⟩
    have b := nbsO_ne h.ok hx
    have : x = (q : Int) := by omega
    exact this ▸ hx
  · exact fun hx => ⟨_, hx, by simp⟩
theorem nb_ok {w : Wb} (h : WbOk w) : NbOk w.1 (nbN w) := ⟨by have := h.hi; omega, fun i _ j hj => by
  have := nbsO_ne h.ok ((nbN_mem h).mp hj)
  omega, fun i j _ _ => by
  rw [nbN_mem h, nbN_mem h]
  exact ⟨nbsO_sym, nbsO_sym⟩⟩
theorem nb_row {w : Wb} (h : WbOk w) (p : Nat) : (nbsO w.2 (p : Int)).map PyData.int = (nbN w p).map fun j => .int (j : Nat) := by
  unfold nbN
  rw [List.map_map]
  apply List.map_congr_left
  intro x hx
  have b := nbsO_ne h.ok hx
  show PyData.int x = .int ((x.toNat : Nat) : Int)
  rw [Int.toNat_of_nonneg b.2.1]
theorem toD_besO {w : Wb} (h : WbOk w) : OT.toD (besO w) = some (besN w.1 (nbN w)) := by
  unfold besO besN
  rw [toD_lst, toDs_map' (f := fun k : Nat => OT.nd .lst (intsO (nbsO w.2 (k : Nat)))) (g := fun k => natsD (nbN w k)) fun k => by
    rw [toD_ints, nb_row h]
    rfl]
  rfl
end SB
namespace SB
open PySem L2 PL MR SH BF
local macro_rules | `(tactic| walk_at "ev") => `(tactic| simp (config := {decide := true}) only [ini, fin, finI, sSeq, sNext, sAsg, sAsgG, sRet, sRetN, sDrop, sIf, sNever, sSetP, sAppP, sClrP, sRevP, fR, pmVar, pmIx, pmIxT, MR.putAt, OT.put, OT.at, gmName, gmTup, gmLst, gsNil, gsCons, rVar, rC, rOp, rUn, rCb, rCbZ, rOpZ, rCall, rAnd, rOr, rNot, rIf, rIs, rCh, rCh3, rTup, rLst, rSl, cNone, cSome, rRepr, dRepr, rInDct, rIdx, rIdxD, iR3s, small, qNil, qCons, qApp, lApp, bR, bAnd, bOr, bNot, tR, tD, tmAnd, tmOr, tmNot, yVar_eq, yMov, yR, yAuto, dY, yD, dR, dOp, dOpR, dCb, dAnd, dOr, dNot, yCall, yCallA, yCallI, yCallIT, yCb, yCbA, yOp, yOpA, lfO, yTup, yLst, oNil, oCons, isNo, lNil, lCons, asB, asInt, asL, asT, iL, iT, iE, iZ, iV, yRng1_eq, iR1_eq, iR2_eq, lcStep, calmAt, wipeE, rst, sApp, yPop_eq, sDPutM, ySortD, yDNew, gmName, toD_d, toD_tup, toD_lst, toDs_nil, toDs_cons, toDs_ints, toDs_fpr, toDs_prs, lfs_ints, lfs_fpr, intsO_len, prsO_len, fprO_len, rng_len, intsO_snoc, prsO_snoc, lstO_rg, rOpZ, rCbZ, isNo_lstO, toD_dnew, ySl, ySlA, neS_self, eqS_self,  rRevL, yRevL, yRevLA, yPop0, sExt, gStrI,  lstO_prs, lstO_ints, toD_lstO, kp_int, kp_bool, kp_tuple, kp_list, kp_str, isIntB, isBoolB, isTupB, isListB, isStrB, gAdd_i, gSub_i, gLt_i, gLe_i, gGt_i, gGe_i, gMul_r, gMul_l, gMod_i, gDiv_i, gPow_i, gNeg, gEqI, gNeI, gEqS, gNeS, gIsN, gNotN, gIsB, gNotB, gIxL, gIxT, gLen, gMax2, gMin2, gInt, gAll, asBools_map, isN, OT.lf, OT.lfs, flat, atI_0, atI_1, ixN_0, ixN_1, rgD_len, enumD_len, trues_len, Int.toNat_natCast, List.length_map, eq_self, Option.bind_some, Option.bind_none, Option.map_some, Option.map_none, List.getElem?_cons_zero, List.getElem?_cons_succ, List.set_cons_zero, List.set_cons_succ, List.map_cons, List.map_nil, List.replicate, List.nil_append, List.cons_append, List.length_cons, List.length_nil, List.all_cons, List.all_nil, if_true, if_false, reduceIte, tfl_int, tfl_bool, tfl_none, tfl_str, tfl_list, Bool.true_and, Bool.and_true, Bool.false_and, Bool.and_false, Bool.true_or, Bool.or_true, Bool.false_or, Bool.or_false, Bool.not_true, Bool.not_false, Bool.false_eq_true, decide_true, decide_false, true_and, and_true, false_and, and_false, or_true, true_or, *])
section
variable {n : Nat} {nb : Nat → List Nat} (w : NbOk n nb)
include w
theorem away_ok {p : Nat} (hp : p < n) : SB.m__law_away [besN n nb, .int p] = some (.nd .lst (farO (farF nb p n))) := by
  have hn := w.hi
  have x1 := ixN_nat (n := n) (i := p) hp
  unfold besN
  generalize hBE : (List.range n).map (fun k => natsD (nb k)) = BE
  have lB : BE.length = n := by rw [← hBE]; simp
  obtain ⟨r, e, far, rfl, hF⟩ := fin_w (P := fun x => ∃ far, x = .nd .lst (farO far) ∧ IsFar nb p n far) (B := SB.B__law_away) (ρ := ini [.list BE, .int p] 4) (by
    unfold SB.B__law_away
    refine w_seq (w_asg (W.of (yRep_one (k := n) (x := .none) (by have tn : tfl .none = true := tfl_none; walk_at "ev" <;> exact rfl) (by walk_at "ev" <;> exact rfl) (by omega)) ?_))
    have e0 : lstO (List.replicate n PyData.none) = .nd .lst (farO (List.replicate n none)) := by
      unfold lstO farO
      rw [List.map_replicate, List.map_replicate]
      rfl
    rw [e0]
    have s0 : (farO (List.replicate n none)).set p (.d (.int ((0 : Nat) : Int))) = farO ((List.replicate n none).set p (some 0)) := farO_set _ _ _
    have l0 : (farO (List.replicate n none)).length = n := by rw [farO_len, List.length_replicate]
    rw [Int.natCast_zero] at s0
    generalize farO (List.replicate n none) = F0 at *
    simp only [sqK, ini, List.map_cons, List.map_nil, List.replicate, List.cons_append, List.nil_append, List.set_cons_zero, List.set_cons_succ]
    refine w_st (by walk_at "ev" <;> exact rfl) ?_
    clear s0 l0 e0
    refine w_st (by walk_at "ev" <;> exact rfl) ?_
    refine w_st (by walk_at "ev" <;> exact rfl) ?_
    have h0 := que_start (nb := nb) hp
    refine w_seq (w_while (fun m ρ => ∃ (a : Nat) (far : List (Option Nat)) (row : List Nat) (X5 : OT), ρ = [.d (.list BE), .d (.int p), .nd .lst (farO far), .nd .lst (natsO row), .d (.int (a : Nat)), X5] ∧ Que nb p n a far row ∧ m = n + 1 - a) (n := n + 1) ⟨0, (List.replicate n none).set p (some 0), [p], _, rfl, h0, by omega⟩ (fun m ρ2 hs => ?_))
    obtain ⟨a, far, row, X5, rfl, hQ, rfl⟩ := hs
    have tr := toDs_nats row
    have lr : (row.map fun j => PyData.int (j : Nat)).length = row.length := by simp
    by_cases ha : a < row.length
    · have d : decide ((a : Int) < (row.length : Int)) = true := by simp; omega
      refine ⟨true, _, by walk_at "ev" <;> exact rfl, fun _ => ?_, (fun z => by cases z)⟩
      have hu : row[a]? = some row[a] := List.getElem?_eq_getElem ha
      generalize row[a] = u at *
      have hun := hQ.rng u (List.mem_of_getElem? hu)
      obtain ⟨du, hdu⟩ := hQ.rowFar a u hu
      have bi := bes_ix (nb := nb) hun
      rw [hBE] at bi
      have ru : atI (row.map fun j => PyData.int (j : Nat)) (a : Int) = some (.int (u : Nat)) := atI_at (by rw [List.getElem?_map, hu]; rfl)
      have tlb : tfl (.list ((nb u).map fun j => .int (j : Nat))) = false := by simp [tfl]
      refine w_seq (w_forT (fun i ρ => ∃ (far' : List (Option Nat)) (row' : List Nat) (X5 : OT), ρ = [.d (.list BE), .d (.int p), .nd .lst (farO far'), .nd .lst (natsO row'), .d (.int (a : Nat)), X5] ∧ Que nb p n a far' row' ∧ row'[a]? = some u ∧ far'[u]? = some (some du) ∧ ∀ k j, k < i → (nb u)[k]? = some j → Told far' j) (as := nb u) (enc := fun j : Nat => PyData.int (j : Nat)) (by clear tr; have tr := toDs_nats row; walk_at "ev" <;> exact rfl) ⟨far, row, X5, rfl, hQ, hu, hdu, fun k j hk => by omega⟩ (fun i j ρ2 hj hs => ?_) ?_)
      · obtain ⟨far', row', X5, rfl, hQ', hu', hdu', hd⟩ := hs
        have hjn := w.inn u hun j (List.mem_of_getElem? hj)
        have tf := toDs_far far'
        have tr' := toDs_nats row'
        have lf' : (farO far').length = n := by rw [farO_len, hQ'.len]
        have x2 := ixN_nat (n := n) (i := j) hjn
        have ru' : atI (row'.map fun j => PyData.int (j : Nat)) (a : Int) = some (.int (u : Nat)) := atI_at (by rw [List.getElem?_map, hu']; rfl)
        have fu : atI (far'.map oD) (u : Int) = some (.int (du : Nat)) := far_ix hdu'
        rcases told_cases hQ'.len hjn with hnone | htold
        · have fx : atI (far'.map oD) (j : Int) = some .none := far_ix hnone
          have st := farO_set far' j (du + 1)
          have sn := natsO_snoc row' j
          have cl : (natsO row').length ≤ 1000000 := by rw [natsO_len]; have := hQ'.cnt; omega
          have hQ2 := que_step hQ' hu' hdu' (List.mem_of_getElem? hj) hnone
          have hu2 : (row' ++ [j])[a]? = some u := by rw [List.getElem?_append_left (List.getElem?_eq_some_iff.mp hu').1]; exact hu'
          have hdu2 : (far'.set j (some (du + 1)))[u]? = some (some du) := (fset hnone).mpr (.inr hdu')
          have hd2 : ∀ k j', k < i + 1 → (nb u)[k]? = some j' → Told (far'.set j (some (du + 1))) j' := fun k j' hk hh => by
            by_cases c : k = i
            · subst c
              rw [hj] at hh
              cases hh
              exact ⟨du + 1, List.getElem?_set_self (by have := hQ'.len; omega)⟩
            · exact (hd k j' (by omega) hh).set hnone
          have b1 : (du : Int) + 1 = ((du + 1 : Nat) : Int) := by omega
          generalize far'.set j (some (du + 1)) = far2 at *
          generalize row' ++ [j] = row2 at *
          generalize farO far' = FO at *
          generalize natsO row' = NO at *
          clear hd hQ' hnone hj hu' hdu' tr lr hu hdu ru d ha hQ
          generalize ((du + 1 : Nat) : Int) = r1 at *
          generalize (j : Int) = J at *
          apply exw
          · walk_at "ev" <;> exact rfl
          refine w_if (c := true) (by walk_at "ev" <;> exact rfl) (fun _ => ?_) (fun z => by cases z)
          refine w_st (by walk_at "ev" <;> exact rfl) ?_
          apply w_nx
          · walk_at "ev" <;> exact rfl
          exact ⟨far2, row2, _, rfl, hQ2, hu2, hdu2, hd2⟩
        · obtain ⟨d', hd3⟩ := htold
          have fx : atI (far'.map oD) (j : Int) = some (.int (d' : Nat)) := far_ix hd3
          have hd2 : ∀ k j', k < i + 1 → (nb u)[k]? = some j' → Told far' j' := fun k j' hk hh => by
            by_cases c : k = i
            · subst c
              rw [hj] at hh
              cases hh
              exact ⟨d', hd3⟩
            · exact hd k j' (by omega) hh
          clear hd tr lr hu hdu ru d ha hQ hj
          apply exw
          · walk_at "ev" <;> exact rfl
          refine w_if (c := false) (by walk_at "ev" <;> exact rfl) (fun z => by cases z) (fun _ => ?_)
          exact w_next ⟨far', row', _, rfl, hQ', hu', hdu', hd2⟩
      · rintro ρ2 ⟨far', row', X5, rfl, hQ', hu', hdu', hd⟩
        have b1 : (a : Int) + 1 = ((a + 1 : Nat) : Int) := by omega
        apply w_nx
        · walk_at "ev" <;> exact rfl
        refine ⟨n + 1 - (a + 1), by have := hQ.cnt; omega, a + 1, far', row', _, rfl, que_next hQ' hu' fun j hj => ?_, rfl⟩
        obtain ⟨k, hk, e⟩ := List.getElem_of_mem hj
        exact hd k j hk (by rw [List.getElem?_eq_getElem hk, e])
    · have d : decide ((a : Int) < (row.length : Int)) = false := by simp; omega
      refine ⟨false, _, by walk_at "ev" <;> exact rfl, (fun z => by cases z), fun _ => ?_⟩
      exact w_end (by walk_at "ev" <;> exact rfl) rfl ⟨far, rfl, que_done hQ (by omega)⟩)
  rw [← hF.eq]
  exact e
end
end SB
namespace SA
open PySem L2 PL MR SH SQ
local macro_rules | `(tactic| walk_at "ev") => `(tactic| simp (config := {decide := true}) only [ini, fin, finI, sSeq, sNext, sAsg, sAsgG, sRet, sRetN, sDrop, sIf, sNever, sSetP, sAppP, sClrP, sRevP, fR, pmVar, pmIx, pmIxT, MR.putAt, OT.put, OT.at, gmName, gmTup, gmLst, gsNil, gsCons, rVar, rC, rOp, rUn, rCb, rCbZ, rOpZ, rCall, rAnd, rOr, rNot, rIf, rIs, rCh, rCh3, rTup, rLst, rSl, cNone, cSome, rRepr, dRepr, rInDct, rIdx, rIdxD, iR3s, small, qNil, qCons, qApp, lApp, bR, bAnd, bOr, bNot, tR, tD, tmAnd, tmOr, tmNot, yVar_eq, yMov, yR, yAuto, dY, yD, dR, dOp, dOpR, dCb, dAnd, dOr, dNot, yCall, yCallA, yCallI, yCallIT, yCb, yCbA, yOp, yOpA, lfO, yTup, yLst, oNil, oCons, isNo, lNil, lCons, asB, asInt, asL, asT, iL, iT, iE, iZ, iV, yRng1_eq, iR1_eq, iR2_eq, lcStep, calmAt, wipeE, rst, sApp, yPop_eq, sDPutM, ySortD, yDNew, gmName, toD_d, toD_tup, toD_lst, toDs_nil, toDs_cons, toDs_ints, toDs_fpr, toDs_prs, lfs_ints, lfs_fpr, intsO_len, prsO_len, fprO_len, rng_len, intsO_snoc, prsO_snoc, lstO_rg, rOpZ, rCbZ, isNo_lstO, toD_dnew, ySl, ySlA, neS_self, eqS_self,  rRevL, yRevL, yRevLA, yPop0, sExt, gStrI,  lstO_prs, lstO_ints, toD_lstO, kp_int, kp_bool, kp_tuple, kp_list, kp_str, isIntB, isBoolB, isTupB, isListB, isStrB, gAdd_i, gSub_i, gLt_i, gLe_i, gGt_i, gGe_i, gMul_r, gMul_l, gMod_i, gDiv_i, gPow_i, gNeg, gEqI, gNeI, gEqS, gNeS, gIsN, gNotN, gIsB, gNotB, gIxL, gIxT, gLen, gMax2, gMin2, gInt, gAll, asBools_map, isN, OT.lf, OT.lfs, flat, atI_0, atI_1, ixN_0, ixN_1, rgD_len, enumD_len, trues_len, Int.toNat_natCast, List.length_map, eq_self, Option.bind_some, Option.bind_none, Option.map_some, Option.map_none, List.getElem?_cons_zero, List.getElem?_cons_succ, List.set_cons_zero, List.set_cons_succ, List.map_cons, List.map_nil, List.replicate, List.nil_append, List.cons_append, List.length_cons, List.length_nil, List.all_cons, List.all_nil, if_true, if_false, reduceIte, tfl_int, tfl_bool, tfl_none, tfl_str, tfl_list, Bool.true_and, Bool.and_true, Bool.false_and, Bool.and_false, Bool.true_or, Bool.or_true, Bool.false_or, Bool.or_false, Bool.not_true, Bool.not_false, Bool.false_eq_true, decide_true, decide_false, true_and, and_true, false_and, and_false, or_true, true_or, *])
/-! the law's drawn web, in pieces or not -/
def szt (n : Nat) (most : Int) (more : Nat) : List Int := szA n most more ++ List.replicate more ((n : Int) * n)
theorem szt_len (n : Nat) (h : 1 ≤ n) (most : Int) (more : Nat) : (szt n most more).length = 2 * n + 1 + more := by simp [szt, szA_len n h]
theorem szt_at {n : Nat} {most : Int} {more : Nat} (h : 1 ≤ n) {k : Nat} (hk : k < 2 * n + 1 + more) : at' (szt n most more) (k : Nat) = at' (szs n most more) (k : Nat) := by
  have l := szt_len n h most more
  have e : szs n most more = szt n most more ++ List.replicate (n - 1) 3 := rfl
  rw [e]
  unfold at'
  rw [Int.toNat_natCast, List.getD_eq_getElem?_getD, List.getD_eq_getElem?_getD, List.getElem?_append_left (by omega)]
theorem szs_0 {n k : Nat} (h1 : 1 ≤ n) (h : k < n) (most : Int) (more : Nat) : at' (szs n most more) ((n + 1 + k : Nat) : Int) = (n : Int) - k := by
  unfold at' szs szA
  rw [Int.toNat_natCast, List.getD_eq_getElem?_getD, List.append_assoc, List.append_assoc, List.append_assoc, List.getElem?_append_right (by simp; omega)]
  rw [List.getElem?_append_right (by simp; omega), List.getElem?_append_left (by simp; omega)]
  simp
  rw [List.getElem?_eq_getElem (by simp; omega)]
  simp
  omega
theorem szt_pos (n : Nat) (h : 1 ≤ n) (h2 : n ≤ 40) (most : Int) (m1 : 1 ≤ most) (m2 : most ≤ 40) (more : Nat) (h3 : more ≤ 100) : ∀ s ∈ szt n most more, 0 < s ∧ s < 1073741824 := by
  intro s hs
  have hn : (1 : Int) ≤ (n : Int) * n ∧ (n : Int) * n ≤ 1600 := by
    constructor
    · have := Int.mul_le_mul (a := 1) (c := (n : Int)) (b := 1) (d := n) (by omega) (by omega) (by omega) (by omega); omega
    · have := Int.mul_le_mul (a := (n : Int)) (c := 40) (b := n) (d := 40) (by omega) (by omega) (by omega) (by omega); omega
  simp only [szt, szA, List.mem_append, List.mem_map, List.mem_range, List.mem_replicate, List.mem_cons, List.not_mem_nil, or_false] at hs
  rcases hs with (((rfl | rfl) | ⟨k, hk, rfl⟩) | ⟨k, hk, rfl⟩) | ⟨_, rfl⟩ <;> omega
theorem ties_step {c salt most more m S6 X7 D8 N9 L10 X11 : OT} {n : Nat} {os : List Int} (ho : os.Perm (rng n)) {a b : Int} (a0 : 0 ≤ a) (a1 : a < (n : Int)) (b0 : 0 ≤ b) (b1 : b < (n : Int)) {ks : List (Int × Int)} (h1 : ks.Nodup) (hk : ks.length ≤ 100000) (h3 : ∀ p ∈ ks, 0 ≤ p.1 ∧ p.1 < p.2 ∧ p.2 < (n : Int)) {Q : Fl → MR.Env → Prop}
    (q : ∀ ks' : List (Int × Int), ks'.Nodup → ks'.length ≤ ks.length + 1 → (∀ p ∈ ks', 0 ≤ p.1 ∧ p.1 < p.2 ∧ p.2 < (n : Int)) → Q .nx [c, salt, most, more, m, S6, X7, D8, N9, .nd .lst (intsO os), L10, X11, .nd (.dT (ks'.map kO)) (trues ks'.length), .d (.int a), .d (.int b)]) :
    W (sIf (tR (bR (rOp gNeI (rVar 13) (rVar 14)))) (sDPutM 12 (rTup (qCons (rCb gMin2 (qCons (rOp gIxL (rVar 9) (rVar 13)) (qCons (rOp gIxL (rVar 9) (rVar 14)) qNil))) (qCons (rCb gMax2 (qCons (rOp gIxL (rVar 9) (rVar 13)) (qCons (rOp gIxL (rVar 9) (rVar 14)) qNil))) qNil))) (rC (.bool true))) sNext)
      [c, salt, most, more, m, S6, X7, D8, N9, .nd .lst (intsO os), L10, X11, .nd (.dT (ks.map kO)) (trues ks.length), .d (.int a), .d (.int b)] Q := by
  have hlen : os.length = n := pm_len ho
  by_cases hne : a = b
  · have hf : decide (a = b) = true := decide_eq_true hne
    have q' := q ks h1 (by omega) h3
    clear hne q
    refine w_if (c := false) (by walk_at "ev" <;> exact rfl) (fun z => by cases z) (fun _ => ?_)
    exact w_next q'
  · have hf : decide (a = b) = false := by simp [hne]
    refine w_if (c := true) (by walk_at "ev" <;> exact rfl) (fun _ => ?_) (fun z => by cases z)
    have ea := atI_os (os := os) (a := a) a0 (by omega)
    have eb := atI_os (os := os) (a := b) b0 (by omega)
    have ma := pm_in ho a0 a1
    have mb := pm_in ho b0 b1
    have hne2 : at' os a ≠ at' os b := fun z => hne (pm_inj ho a0 a1 b0 b1 z)
    generalize at' os a = u at *
    generalize at' os b = v at *
    have hp := putO_true ks (min u v, max u v)
    have hk' : keyP (.tuple [.int (min u v), .int (max u v)]) = some (kO (min u v, max u v)) := rfl
    have g : ks.length ≤ 1000000 := by omega
    have g2 : (ks.map kO).length = (trues ks.length).length := by simp [trues]
    refine W.of (r := .nx) (by walk_at "ev" <;> exact rfl) (q (insK ks (min u v, max u v)) (insK_nodup h1) (insK_len _ _) ?_)
    intro z hz
    rcases PL.insK_mem hz with hz | rfl
    · exact h3 z hz
    · simp only []
      omega
theorem web_ok (c salt : Int) (hs : 0 ≤ salt ∧ salt ≤ 1000000) (most : Int) (m1 : 1 ≤ most) (m2 : most ≤ 40) (more : Nat) (h3 : more ≤ 81) : ∃ w : Wb, SA.m__law_web [.int c, .int salt, .int most, .int more] = some (wbO w) ∧ WbOk w ∧ (w.1 : Int) ≤ most := by
  obtain ⟨d0, e0, l0, g0⟩ := numbers_ok c salt hs [most] (by simp) (by intro s hs; simp at hs; omega)
  obtain ⟨d, rfl⟩ : ∃ d, d0 = [d] := List.length_eq_one_iff.mp l0
  have g0 := g0 0 (by simp)
  have g0 : 0 ≤ d ∧ d < most := g0
  simp only [List.map_cons, List.map_nil] at e0
  obtain ⟨n, hn⟩ : ∃ n : Nat, 1 + d = (n : Int) := ⟨(1 + d).toNat, by omega⟩
  have n1 : 1 ≤ n := by omega
  have n2 : n ≤ 40 := by omega
  have hn1 : (n : Int) - 1 = ((n - 1 : Nat) : Int) := by omega
  obtain ⟨ds, e1, l1, g1⟩ := numbers_ok c salt hs (szt n most more) (by rw [szt_len n n1]; omega) (szt_pos n n1 n2 most m1 m2 more (by omega))
  rw [szt_len n n1] at l1 g1
  have c1 := rg1_n (n := n - 1) (by omega)
  have c2 := rg1_n (n := n) (by omega)
  have c0 := rg0_n (n := n) (by omega)
  rw [rgD0] at c1 c2
  obtain ⟨r, e, w, rfl, h1, h2⟩ := fin_w (P := fun x => ∃ w : Wb, x = wbO w ∧ WbOk w ∧ (w.1 : Int) ≤ most) (B := SA.B__law_web) (ρ := ini [.int c, .int salt, .int most, .int more] 11) (by
    unfold SA.B__law_web
    refine w_st (by walk_at "ev" <;> exact rfl) ?_
    refine w_seq (w_asg (w_yOp (w_dY (w_yOp (w_dYof (r := .nd .lst (intsO [most, more + 1])) (by walk_at "ev" <;> exact rfl) (toD_ints _) (w_dY (w_lcmT (fun k : Nat => OT.d (.int ((k : Int) + 1))) (as := List.range (n - 1)) (enc := fun k : Nat => PyData.int (k : Int)) (by walk_at "ev" <;> exact rfl) rfl (by simp; omega) (fun k hk => ?_) ?_)))))))
    · refine W.of (by walk_at "ev" <;> exact rfl) ?_
      exact ⟨rfl, rfl⟩
    rw [ints_map]
    refine ⟨_, toD_ints _, _, GCat_ints (by simp; omega), _, toD_ints _, ?_⟩
    simp only [wipeE, rst, List.getElem?_cons_zero, List.getElem?_cons_succ, List.set_cons_zero, List.set_cons_succ]
    refine w_dY (w_lcmT (fun k : Nat => OT.d (.int ((n : Int) - (k : Int)))) (as := List.range n) (enc := fun k : Nat => PyData.int (k : Int)) (by walk_at "ev" <;> exact rfl) rfl (by simp; omega) (fun k hk => ?_) ?_)
    · refine W.of (by walk_at "ev" <;> exact rfl) ?_
      exact ⟨rfl, rfl⟩
    rw [ints_map]
    refine ⟨_, toD_ints _, _, GCat_ints (by simp; omega), ?_⟩
    simp only [sqK, wipeE, rst, List.getElem?_cons_zero, List.getElem?_cons_succ, List.set_cons_zero, List.set_cons_succ]
    rw [show [most, (more : Int) + 1] ++ (List.range (n - 1)).map (fun (k : Nat) => (k : Int) + 1) ++ (List.range n).map (fun (k : Nat) => (n : Int) - (k : Int)) = szA n most more from rfl]
    have la := szA_len n n1 most more
    have es : szt n most more = szA n most more ++ List.replicate more ((n : Int) * n) := rfl
    have k1 := toD_ints (szA n most more)
    have mn : ((-(2 ^ 64) : Int) < (n : Int) ∧ (n : Int) < 2 ^ 64) := by omega
    refine w_seq (w_asg (w_yCall ?_))
    rw [es] at e1
    clear es
    generalize szA n most more = A at *
    have r1 : List.replicate more (PyData.int ((n : Int) * n)) = (List.replicate more ((n : Int) * n)).map .int := by rw [List.map_replicate]
    refine w_lCons (W.of (by walk_at "ev" <;> exact rfl) ?_)
    refine w_lCons (W.of (by walk_at "ev" <;> exact rfl) ?_)
    refine w_lCons (w_dY (w_yOp ?_))
    refine W.of (by walk_at "ev" <;> exact rfl) ?_
    refine w_dYof (yRep_one (k := more) (x := .int ((n : Int) * n)) (by walk_at "ev" <;> exact rfl) (by walk_at "ev" <;> exact rfl) (by omega)) (toD_lstO _) ?_
    rw [r1]
    refine ⟨_, GCat_ints (by simp; omega), _, toD_ints _, ?_⟩
    refine w_lNil ⟨rfl, _, e1, ?_⟩
    clear r1 e1
    simp only [sqK, List.getElem?_cons_zero, List.getElem?_cons_succ, List.set_cons_zero, List.set_cons_succ]
    clear k1
    generalize PyData.list (A.map .int) = S6
    clear la A c1 e0 l0
    refine w_st (by walk_at "ev" <;> exact rfl) ?_
    refine w_st (by walk_at "ev" <;> exact rfl) ?_
    have tn := toD_ints ds
    refine w_seq (w_forT (fun i ρ => ∃ (os ls : List Int) (X : OT), ρ = [.d (.int c), .d (.int salt), .d (.int most), .d (.int more), .d (.int n), .d S6, X, .nd .lst (intsO ds), .nd .lst (intsO ls), .nd .lst (intsO os), .no, .no, .no, .no, .no] ∧ calmAt [X] [0] = true ∧ (os ++ ls).Perm (rng n) ∧ os.length = i) (as := List.range n) (enc := fun k : Nat => PyData.int (k : Int)) (by walk_at "ev" <;> exact rfl) ⟨[], rng n, _, rfl, rfl, .refl _, rfl⟩ ?_ ?_)
    · rintro i k ρ2 hk ⟨os, ls, X, rfl, hX, hp, hi⟩
      have hki : k = i ∧ i < n := by
        have := List.getElem?_eq_some_iff.mp hk
        obtain ⟨h1, h2⟩ := this
        simp at h1 h2
        omega
      obtain ⟨rfl, hkn⟩ := hki
      have hlen : ls.length + k = n := by have := hp.length_eq; rw [List.length_append, rng_len] at this; omega
      have gd := g1 (n + 1 + k) (by omega)
      rw [szt_at n1 (by omega), szs_0 n1 hkn] at gd
      obtain ⟨j, hj⟩ : ∃ j : Nat, at' ds ((n + 1 + k : Nat) : Int) = j := ⟨(at' ds ((n + 1 + k : Nat) : Int)).toNat, by omega⟩
      have hj2 : j < ls.length := by omega
      obtain ⟨k2, xs', p1, p2, p3, p4⟩ := pop_ints hj2
      have c2 := pop1_n hj2 (by omega)
      have c3 : (0 : Int) < (ls.length : Int) := by omega
      have ei := atI_os (os := ds) (a := ((n + 1 + k : Nat) : Int)) (by omega) (by omega)
      rw [hj] at ei
      have b1 : (n : Int) + 1 + (k : Int) = ((n + 1 + k : Nat) : Int) := by omega
      have cl : os.length ≤ 1000000 := by omega
      have sn := intsO_snoc os k2
      have fin : (os ++ [k2] ++ xs').Perm (rng n) := by
        refine List.Perm.trans ?_ hp
        rw [List.append_assoc]
        exact List.Perm.append_left _ p3
      have l2 : (os ++ [k2]).length = k + 1 := by simp; omega
      generalize os ++ [k2] = os2 at *
      clear hp hi gd hj hk
      apply exw
      · walk_at "ev" <;> exact rfl
      apply w_nx
      · walk_at "ev" <;> exact rfl
      exact ⟨os2, xs', _, rfl, rfl, fin, l2⟩
    rintro ρ2 ⟨os, ls, X6, rfl, hX, hp, hi⟩
    have hX : calmAt [.d (.int c), .d (.int salt), .d (.int most), .d (.int more), .d (.int n), .d S6, X6, .nd .lst (intsO ds), .nd .lst (intsO []), .nd .lst (intsO os), .no, .no, .no, .no, .no] [6] = true := hX
    have hlen : ls = [] := by
      have := hp.length_eq; rw [List.length_append, rng_len, hi, List.length_range] at this
      exact List.eq_nil_of_length_eq_zero (by omega)
    subst hlen
    rw [List.append_nil] at hp
    have ho := hp
    clear hi hp
    have c1 := rg1_n (n := n - 1) (by omega)
    rw [rgD0] at c1
    refine w_seq (w_asg (w_lcmT (fun k : Nat => OT.nd .tup [.d (.int ((k : Int) + 1)), .d (.int (at' ds ((2 + k : Nat) : Int)))]) (as := List.range (n - 1)) (enc := fun k : Nat => PyData.int (k : Int)) (by clear hX; walk_at "ev" <;> exact rfl) hX (by simp; omega) (fun k hk => ?_) ?_))
    · clear hX
      have hk := List.mem_range.mp hk
      have b3 : (2 : Int) + (k : Int) = ((2 + k : Nat) : Int) := by omega
      have e4 := atI_os (os := ds) (a := ((2 + k : Nat) : Int)) (by omega) (by omega)
      generalize at' ds ((2 + k : Nat) : Int) = y at *
      refine W.of (by walk_at "ev" <;> exact rfl) ?_
      exact ⟨rfl, rfl⟩
    have us : (List.range (n - 1)).map (fun k : Nat => OT.nd .tup [.d (.int ((k : Int) + 1)), .d (.int (at' ds ((2 + k : Nat) : Int)))]) = prsO ((List.range (n - 1)).map fun k : Nat => ((k : Int) + 1, at' ds ((2 + k : Nat) : Int))) := by simp [prsO]
    rw [us]
    have hq : ∀ p ∈ (List.range (n - 1)).map (fun k : Nat => ((k : Int) + 1, at' ds ((2 + k : Nat) : Int))), 0 ≤ p.1 ∧ p.1 < (n : Int) ∧ 0 ≤ p.2 ∧ p.2 < (n : Int) := by
      intro p hp
      obtain ⟨k, hk, e⟩ := List.mem_map.mp hp
      have hk := List.mem_range.mp hk
      subst e
      have := g1 (2 + k) (by omega)
      rw [szt_at n1 (by omega), szs_2 hk] at this
      exact ⟨by simp only []; omega, by simp only []; omega, this.1, by simp only []; omega⟩
    have lq : ((List.range (n - 1)).map (fun k : Nat => ((k : Int) + 1, at' ds ((2 + k : Nat) : Int)))).length = n - 1 := by simp
    generalize (List.range (n - 1)).map (fun k : Nat => ((k : Int) + 1, at' ds ((2 + k : Nat) : Int))) = qs at *
    simp only [sqK, wipeE, rst, List.getElem?_cons_zero, List.getElem?_cons_succ, List.set_cons_zero, List.set_cons_succ]
    clear us hX
    have d1 := g1 1 (by omega)
    rw [szt_at n1 (by omega), szs_1] at d1
    obtain ⟨j, hj⟩ : ∃ j : Nat, at' ds ((1 : Nat) : Int) = (j : Int) := ⟨(at' ds ((1 : Nat) : Int)).toNat, by omega⟩
    have e3 : atI (ds.map PyData.int) 1 = some (.int (j : Nat)) := by
      have := atI_os (os := ds) (a := 1) (by omega) (by omega)
      rw [this]; congr 2
    have b2 : 2 * (n : Int) + 1 = ((2 * n + 1 : Nat) : Int) := by omega
    have two : ((-(2 ^ 64) : Int) < 2 ∧ (2 : Int) < 2 ^ 64) := by decide
    have b4 : ((2 * n + 1 : Nat) : Int) + (j : Int) = ((2 * n + 1 + j : Nat) : Int) := by omega
    have k2 := cut_mid ds (a := 2 * n + 1) (b := 2 * n + 1 + j) (by omega) (by omega)
    have hU : ∀ d ∈ (ds.drop (2 * n + 1)).take (2 * n + 1 + j - (2 * n + 1)), 0 ≤ d ∧ d < (n : Int) * n := by
      intro d hd
      obtain ⟨k, hk, rfl⟩ := List.getElem_of_mem hd
      have hk' : k < j := by simp at hk; omega
      have := g1 (2 * n + 1 + k) (by omega)
      rw [szt_at n1 (by omega), szs_3 n1 (by omega), at'_nat (by omega)] at this
      simpa using this
    have lU : ((ds.drop (2 * n + 1)).take (2 * n + 1 + j - (2 * n + 1))).length = j := by simp; omega
    generalize (ds.drop (2 * n + 1)).take (2 * n + 1 + j - (2 * n + 1)) = U at *
    have pn : (0 : Int) < (n : Int) ∧ (n : Int) < 1073741824 := by omega
    refine w_seq (w_forT (fun i ρ => ∃ (ps : List (Int × Int)) (X : OT), ρ = [.d (.int c), .d (.int salt), .d (.int most), .d (.int more), .d (.int n), .d S6, X6, .nd .lst (intsO ds), .nd .lst (intsO []), .nd .lst (intsO os), .nd .lst (prsO ps), X, .no, .no, .no] ∧ (∀ p ∈ ps, 0 ≤ p.1 ∧ p.1 < (n : Int) ∧ 0 ≤ p.2 ∧ p.2 < (n : Int)) ∧ ps.length = n - 1 + i) (as := U) (enc := PyData.int) (by walk_at "ev" <;> exact rfl) ⟨qs, _, rfl, hq, by omega⟩ ?_ ?_)
    · rintro i d ρ2 hd ⟨ps, X, rfl, hp, lp⟩
      have hdU := hU d (List.mem_of_getElem? hd)
      have hi : i < U.length := (List.getElem?_eq_some_iff.mp hd).1
      have sn := prsO_snoc ps (d / (n : Int)) (d % (n : Int))
      have cl : ps.length ≤ 1000000 := by omega
      have l2 : (ps ++ [(d / (n : Int), d % (n : Int))]).length = n - 1 + (i + 1) := by simp; omega
      have hp2 : ∀ p ∈ ps ++ [(d / (n : Int), d % (n : Int))], 0 ≤ p.1 ∧ p.1 < (n : Int) ∧ 0 ≤ p.2 ∧ p.2 < (n : Int) := by
        intro p hp'
        rcases List.mem_append.mp hp' with hp' | hp'
        · exact hp p hp'
        · rw [List.mem_singleton.mp hp']
          exact ⟨Int.ediv_nonneg hdU.1 (by omega), Int.ediv_lt_of_lt_mul (by omega) hdU.2, Int.emod_nonneg _ (by omega), Int.emod_lt_of_pos _ (by omega)⟩
      generalize ps ++ [(d / (n : Int), d % (n : Int))] = ps2 at *
      clear hp lp hdU hi hd
      apply exw
      · walk_at "ev" <;> exact rfl
      apply w_nx
      · walk_at "ev" <;> exact rfl
      exact ⟨ps2, _, rfl, hp2, l2⟩
    rintro ρ2 ⟨ps, X, rfl, hq2, lp⟩
    have lq2 : ps.length ≤ 120 := by omega
    clear hU lU k2 b4 e3 hj d1 lq hq b2 two
    refine w_st (by walk_at "ev" <;> exact rfl) ?_
    refine w_seq (w_forT (fun i ρ => ∃ (ks : List (Int × Int)) (Z W : OT), ρ = [.d (.int c), .d (.int salt), .d (.int most), .d (.int more), .d (.int n), .d S6, X6, .nd .lst (intsO ds), .nd .lst (intsO []), .nd .lst (intsO os), .d (.list (ps.map pairD)), X, .nd (.dT (ks.map kO)) (trues ks.length), Z, W] ∧ ks.Nodup ∧ ks.length ≤ i ∧ ∀ p ∈ ks, 0 ≤ p.1 ∧ p.1 < p.2 ∧ p.2 < (n : Int)) (as := ps) (enc := pairD) (by walk_at "ev" <;> exact rfl) ⟨[], _, _, rfl, by simp, by simp, by simp⟩ (fun i p ρ2 hp hs => ?_) ?_)
    · obtain ⟨ks, Z, W, rfl, f1, f2, f3⟩ := hs
      have hp2 := hq2 p (List.mem_of_getElem? hp)
      have hi : i < ps.length := (List.getElem?_eq_some_iff.mp hp).1
      apply exw
      · simp only [pairD]
        walk_at "ev" <;> exact rfl
      refine ties_step ho hp2.1 hp2.2.1 hp2.2.2.1 hp2.2.2.2 f1 (by omega) f3 fun ks' f1 f2 f3 => ?_
      exact ⟨ks', _, _, rfl, f1, by omega, f3⟩
    · rintro ρ2 ⟨ks, Z, W, rfl, f1, f2, f3⟩
      have x1 := trues_all ks.length
      have x2 := asKeyPs_map ks
      have x3 : (ks.map kO).length = (trues ks.length).length := by simp [trues]
      refine w_end (by walk_at "ev" <;> exact rfl) rfl ⟨(n, srtL ks), rfl, ⟨⟨fun p hp => f3 p (srtL_mem.mp hp), srtL_lex ks, srtL_nodup f1⟩, n1, n2, by simp only [srtL_len]; omega⟩, by simp only []; omega⟩)
  exact ⟨w, e, h1, h2⟩
end SA
namespace SA
open PySem L2 PL MR SH SQ SB BF
local macro_rules | `(tactic| walk_at "ev") => `(tactic| simp (config := {decide := true}) only [ini, fin, finI, sSeq, sNext, sAsg, sAsgG, sRet, sRetN, sDrop, sIf, sNever, sSetP, sAppP, sClrP, sRevP, fR, pmVar, pmIx, pmIxT, MR.putAt, OT.put, OT.at, gmName, gmTup, gmLst, gsNil, gsCons, rVar, rC, rOp, rUn, rCb, rCbZ, rOpZ, rCall, rAnd, rOr, rNot, rIf, rIs, rCh, rCh3, rTup, rLst, rSl, cNone, cSome, rRepr, dRepr, rInDct, rIdx, rIdxD, iR3s, small, qNil, qCons, qApp, lApp, bR, bAnd, bOr, bNot, tR, tD, tmAnd, tmOr, tmNot, yVar_eq, yMov, yR, yAuto, dY, yD, dR, dOp, dOpR, dCb, dAnd, dOr, dNot, yCall, yCallA, yCallI, yCallIT, yCb, yCbA, yOp, yOpA, lfO, yTup, yLst, oNil, oCons, isNo, lNil, lCons, asB, asInt, asL, asT, iL, iT, iE, iZ, iV, yRng1_eq, iR1_eq, iR2_eq, lcStep, calmAt, wipeE, rst, sApp, yPop_eq, sDPutM, ySortD, yDNew, gmName, toD_d, toD_tup, toD_lst, toDs_nil, toDs_cons, toDs_ints, toDs_fpr, toDs_prs, lfs_ints, lfs_fpr, intsO_len, prsO_len, fprO_len, rng_len, intsO_snoc, prsO_snoc, lstO_rg, rOpZ, rCbZ, isNo_lstO, toD_dnew, ySl, ySlA, neS_self, eqS_self,  rRevL, yRevL, yRevLA, yPop0, sExt, gStrI,  lstO_prs, lstO_ints, toD_lstO, kp_int, kp_bool, kp_tuple, kp_list, kp_str, isIntB, isBoolB, isTupB, isListB, isStrB, gAdd_i, gSub_i, gLt_i, gLe_i, gGt_i, gGe_i, gMul_r, gMul_l, gMod_i, gDiv_i, gPow_i, gNeg, gEqI, gNeI, gEqS, gNeS, gIsN, gNotN, gIsB, gNotB, gIxL, gIxT, gLen, gMax2, gMin2, gInt, gAll, asBools_map, isN, OT.lf, OT.lfs, flat, atI_0, atI_1, ixN_0, ixN_1, rgD_len, enumD_len, trues_len, Int.toNat_natCast, List.length_map, eq_self, Option.bind_some, Option.bind_none, Option.map_some, Option.map_none, List.getElem?_cons_zero, List.getElem?_cons_succ, List.set_cons_zero, List.set_cons_succ, List.map_cons, List.map_nil, List.replicate, List.nil_append, List.cons_append, List.length_cons, List.length_nil, List.all_cons, List.all_nil, if_true, if_false, reduceIte, tfl_int, tfl_bool, tfl_none, tfl_str, tfl_list, Bool.true_and, Bool.and_true, Bool.false_and, Bool.and_false, Bool.true_or, Bool.or_true, Bool.false_or, Bool.or_false, Bool.not_true, Bool.not_false, Bool.false_eq_true, decide_true, decide_false, true_and, and_true, false_and, and_false, or_true, true_or, *])
theorem far_ok {n : Nat} {nb : Nat → List Nat} (w : NbOk n nb) {p : Nat} (hp : p < n) : SA.m__law_far [besN n nb, .int p] = some (.nd .lst (farO (farF nb p n))) := away_ok w hp
theorem nbsO_rise {n : Nat} {ts : List (Int × Int)} (h : WOk n ts) (p : Int) : (nbsO ts p).Pairwise (· < ·) := by
  unfold nbsO
  rw [List.pairwise_flatMap]
  refine ⟨fun t ht => ?_, ?_⟩
  · have := h.in' t ht
    by_cases a : t.1 = p <;> by_cases b : t.2 = p <;> simp [a, b] <;> omega
  · have nd := h.nodup
    rw [List.nodup_iff_pairwise_ne] at nd
    have both := List.Pairwise.and h.lex nd
    refine List.Pairwise.imp_of_mem (fun {t u} ht hu r => ?_) both
    obtain ⟨r1, r2⟩ := r
    have b1 := h.in' t ht
    have b2 := h.in' u hu
    obtain ⟨t1, t2⟩ := t
    obtain ⟨u1, u2⟩ := u
    simp only [ne_eq, Prod.mk.injEq, not_and] at r1 r2 b1 b2
    intro x hx y hy
    simp only [List.mem_append] at hx hy
    rcases hx with hx | hx <;> rcases hy with hy | hy <;> (split at hx <;> split at hy <;> simp at hx hy <;> omega)
theorem nbN_rise {w : Wb} (h : WbOk w) (p : Nat) : (nbN w p).Pairwise (· < ·) := by
  unfold nbN
  rw [List.pairwise_map]
  refine List.Pairwise.imp_of_mem (fun {a b} ha hb r => ?_) (nbsO_rise h.ok p)
  have b1 := nbsO_ne h.ok ha
  have b2 := nbsO_ne h.ok hb
  omega
theorem rise_nodup {xs : List Nat} (h : xs.Pairwise (· < ·)) : xs.Nodup := by
  rw [List.nodup_iff_pairwise_ne]
  exact h.imp fun {a b} r => Nat.ne_of_lt r
def besA (w : Wb) : OT := .nd .lst ((List.range w.1).map fun k => .nd .lst (natsO (nbN w k)))
theorem toD_besA (w : Wb) : OT.toD (besA w) = some (besN w.1 (nbN w)) := by
  unfold besA besN
  rw [toD_lst, toDs_map' (f := fun k : Nat => OT.nd .lst (natsO (nbN w k))) (g := fun k => natsD (nbN w k)) fun k => by
    rw [toD_lst, toDs_nats]
    rfl]
  rfl
theorem nbs_nbN {w : Wb} (h : WbOk w) (p : Nat) : intsO (nbsO w.2 (p : Nat)) = natsO (nbN w p) := by
  have := nb_row h p
  unfold intsO natsO
  have e : (nbsO w.2 (p : Int)).map (fun i => OT.d (.int i)) = ((nbsO w.2 (p : Int)).map PyData.int).map OT.d := by rw [List.map_map]; rfl
  rw [e, this, List.map_map]
  rfl
theorem law_beside_ok {w : Wb} (h : WbOk w) : SA.m__law_beside [wbD w] = some (besA w) := by
  have rise := fun k : Nat => nbN_rise h k
  have nbs := fun k : Nat => nbs_nbN h k
  have hres : besA w = .nd .lst ((List.range w.1).map fun k => .nd .lst (natsO (nbN w k))) := rfl
  rw [hres]
  clear hres
  generalize hN : nbN w = N at *
  obtain ⟨n, ts⟩ := w
  have k := h.ok
  have k1 := h.hi
  have k2 := h.len
  simp only at k k1 k2 nbs ⊢
  have c1 := rg1_n (n := n) (by omega)
  have c2 := rgD0 n
  generalize rgD 0 n = X at c1 c2
  unfold SA.m__law_beside SA.B__law_beside
  refine fin_eq ?_
  simp only [wbD, WD]
  have tlp : tfl (.list (ts.map pairD)) = false := by simp [tfl]
  clear rise nbs
  refine w_seq (w_asg (w_lcmT (fun _ : Nat => OT.nd .lst []) (as := List.range n) (enc := fun k : Nat => PyData.int (k : Int)) (by rw [← c2]; walk_at "ev" <;> exact rfl) rfl (by simp; omega) (fun r hr => ?_) ?_))
  · refine W.of (by walk_at "ev" <;> exact rfl) ?_
    exact ⟨rfl, rfl⟩
  simp only [sqK, wipeE, rst, ini, List.map_nil, List.nil_append, List.replicate, List.getElem?_cons_zero, List.getElem?_cons_succ, List.set_cons_zero, List.set_cons_succ, List.map_cons, List.cons_append]
  refine w_seq (w_forT (fun i ρ => ∃ X Y, ρ = [.d (.tuple [.int (n : Nat), .list (ts.map pairD)]), .nd .lst ((List.range n).map fun k => .nd .lst (intsO (nbsO (ts.take i) (k : Nat)))), .no, X, Y, .no]) (as := ts) (enc := pairD) (by walk_at "ev" <;> exact rfl) ⟨_, _, rfl⟩ (fun i t ρ2 ht hs => ?_) ?_)
  · obtain ⟨X, Y, rfl⟩ := hs
    have b := k.in' t (List.mem_of_getElem? ht)
    have hi : i < ts.length := (List.getElem?_eq_some_iff.mp ht).1
    simp only [pairD]
    apply exw
    · walk_at "ev" <;> exact rfl
    refine w_st (sAppP_tab (m := n) (g := fun k => intsO (nbsO (ts.take i) (k : Nat))) (p := t.1) (r := .d (.int t.2)) rfl (by walk_at "ev" <;> exact rfl) (by omega) (by omega) (by walk_at "ev" <;> exact rfl) rfl (by rw [intsO_len]; have := nbsO_len (ts.take i) ((t.1.toNat : Nat) : Int); rw [List.length_take] at this; omega)) ?_
    apply w_nx
    · refine sAppP_tab (m := n) (p := t.2) (r := .d (.int t.1)) rfl (by walk_at "ev" <;> exact rfl) (by omega) (by omega) (by walk_at "ev" <;> exact rfl) rfl ?_
      have := nbsO_len (ts.take i) ((t.2.toNat : Nat) : Int)
      rw [List.length_take] at this
      split
      · simp only [List.length_append, intsO_len, List.length_cons, List.length_nil]; omega
      · rw [intsO_len]; omega
    refine ⟨.d (.int t.1), .d (.int t.2), ?_⟩
    simp only [List.set_cons_zero, List.set_cons_succ]
    congr 3
    apply List.map_congr_left
    intro a _
    rw [List.take_add_one, ht]
    show _ = OT.nd .lst (intsO (nbsO (ts.take i ++ [t]) (a : Nat)))
    rw [nbsO_snoc]
    by_cases e1 : (a : Int) = t.1 <;> by_cases e2 : (a : Int) = t.2
    · omega
    · have e2' : ¬ t.2 = (a : Int) := fun z => e2 z.symm
      simp only [e1, e2, e2', if_true, if_false]
      have : ¬ t.1 = t.2 := by omega
      have e3 : ¬ t.2 = t.1 := by omega
      simp [this, e3, intsO]
    · have e1' : ¬ t.1 = (a : Int) := fun z => e1 z.symm
      simp only [e1, e2, e1', if_true, if_false]
      have : ¬ t.1 = t.2 := by omega
      have e3 : ¬ t.2 = t.1 := by omega
      simp [this, e3, intsO]
    · have e1' : ¬ t.1 = (a : Int) := fun z => e1 z.symm
      have e2' : ¬ t.2 = (a : Int) := fun z => e2 z.symm
      simp [e1, e2, e1', e2']
  · rintro ρ2 ⟨X, Y, rfl⟩
    rw [List.take_length]
    have hres : (List.range n).map (fun k => OT.nd .lst (intsO (nbsO ts (k : Nat)))) = (List.range n).map (fun k => OT.nd .lst (natsO (N k))) := List.map_congr_left fun k _ => by rw [← hN]; exact congrArg _ (nbs_nbN h k)
    rw [hres]
    have td : OT.toDs ((List.range n).map fun k => OT.nd .lst (natsO (N k))) = some ((List.range n).map fun k => natsD (N k)) := toDs_map' (f := fun k : Nat => OT.nd .lst (natsO (N k))) (g := fun k => natsD (N k)) (fun k => by
      rw [toD_lst, toDs_nats]
      rfl) _
    have sorts : ∀ k, k < n → GSortI [natsD (N k)] = some (.nd .lst (natsO (N k))) := fun k hk => by
      have r : (N k).Pairwise (· < ·) := by rw [← hN]; exact nbN_rise h k
      exact sort_nats (sortI_of (rise_nodup r) r fun x => Iff.rfl)
    clear hres
    refine w_ret (w_lcmT (fun k : Nat => OT.nd .lst (natsO (N k))) (as := List.range n) (enc := fun k : Nat => natsD (N k)) (by walk_at "ev" <;> exact rfl) rfl (by simp; omega) (fun k hk => ?_) ?_)
    · have s := sorts k (List.mem_range.mp hk)
      have l := lf_nats (N k)
      clear sorts
      generalize natsD (N k) = R at *
      refine W.of (by walk_at "ev" <;> exact rfl) ?_
      exact ⟨rfl, rfl⟩
    rfl
end SA
namespace SA
open PySem L2 PL MR SH SQ SB BF
local macro_rules | `(tactic| walk_at "ev") => `(tactic| simp (config := {decide := true}) only [ini, fin, finI, sSeq, sNext, sAsg, sAsgG, sRet, sRetN, sDrop, sIf, sNever, sSetP, sAppP, sClrP, sRevP, fR, pmVar, pmIx, pmIxT, MR.putAt, OT.put, OT.at, gmName, gmTup, gmLst, gsNil, gsCons, rVar, rC, rOp, rUn, rCb, rCbZ, rOpZ, rCall, rAnd, rOr, rNot, rIf, rIs, rCh, rCh3, rTup, rLst, rSl, cNone, cSome, rRepr, dRepr, rInDct, rIdx, rIdxD, iR3s, small, qNil, qCons, qApp, lApp, bR, bAnd, bOr, bNot, tR, tD, tmAnd, tmOr, tmNot, yVar_eq, yMov, yR, yAuto, dY, yD, dR, dOp, dOpR, dCb, dAnd, dOr, dNot, yCall, yCallA, yCallI, yCallIT, yCb, yCbA, yOp, yOpA, lfO, yTup, yLst, oNil, oCons, isNo, lNil, lCons, asB, asInt, asL, asT, iL, iT, iE, iZ, iV, yRng1_eq, iR1_eq, iR2_eq, lcStep, calmAt, wipeE, rst, sApp, yPop_eq, sDPutM, ySortD, yDNew, gmName, toD_d, toD_tup, toD_lst, toDs_nil, toDs_cons, toDs_ints, toDs_fpr, toDs_prs, lfs_ints, lfs_fpr, intsO_len, prsO_len, fprO_len, rng_len, intsO_snoc, prsO_snoc, lstO_rg, rOpZ, rCbZ, isNo_lstO, toD_dnew, ySl, ySlA, neS_self, eqS_self,  rRevL, yRevL, yRevLA, yPop0, sExt, gStrI,  lstO_prs, lstO_ints, toD_lstO, kp_int, kp_bool, kp_tuple, kp_list, kp_str, isIntB, isBoolB, isTupB, isListB, isStrB, gAdd_i, gSub_i, gLt_i, gLe_i, gGt_i, gGe_i, gMul_r, gMul_l, gMod_i, gDiv_i, gPow_i, gNeg, gEqI, gNeI, gEqS, gNeS, gIsN, gNotN, gIsB, gNotB, gIxL, gIxT, gLen, gMax2, gMin2, gInt, gAll, asBools_map, isN, OT.lf, OT.lfs, flat, atI_0, atI_1, ixN_0, ixN_1, rgD_len, enumD_len, trues_len, Int.toNat_natCast, List.length_map, eq_self, Option.bind_some, Option.bind_none, Option.map_some, Option.map_none, List.getElem?_cons_zero, List.getElem?_cons_succ, List.set_cons_zero, List.set_cons_succ, List.map_cons, List.map_nil, List.replicate, List.nil_append, List.cons_append, List.length_cons, List.length_nil, List.all_cons, List.all_nil, if_true, if_false, reduceIte, tfl_int, tfl_bool, tfl_none, tfl_str, tfl_list, Bool.true_and, Bool.and_true, Bool.false_and, Bool.and_false, Bool.true_or, Bool.or_true, Bool.false_or, Bool.or_false, Bool.not_true, Bool.not_false, Bool.false_eq_true, decide_true, decide_false, true_and, and_true, false_and, and_false, or_true, true_or, *])
theorem WOk.sub {n : Nat} {ts us : List (Int × Int)} (h : WOk n ts) (s : us.Sublist ts) : WOk n us :=
  ⟨fun p hp => h.in' p (s.subset hp), List.Pairwise.sublist s h.lex, List.Nodup.sublist s h.nodup⟩
theorem zip_fst_sub {α β : Type} : ∀ (xs : List α) (ys : List β), ((xs.zip ys).map Prod.fst).Sublist xs
  | [], _ => by simp
  | _ :: _, [] => by simp
  | x :: xs, y :: ys => by
    simp only [List.zip_cons_cons, List.map_cons]
    exact (zip_fst_sub xs ys).cons₂ x
theorem w_ySl {a : Dm} {lo hi : Cm} {ρ : MR.Env} {Q : OT → MR.Env → Prop} (h : W a ρ fun x ρ1 => ∃ xs l h2, x = .list xs ∧ lo ρ1 = some l ∧ hi ρ1 = some h2 ∧ Q (lstO (cutD xs l h2)) ρ1) : W (ySl a lo hi) ρ Q := by
  obtain ⟨x, ρ1, e, xs, l, h2, rfl, e1, e2, q⟩ := h
  refine ⟨_, ρ1, ?_, q⟩
  unfold ySl
  rw [e]
  simp only [Option.bind_some, asL, e1, e2, Option.map_some]
theorem any_web_ok (ns : List Int) (k : Nat) (hk : k ≤ 1000) (salt : Int) (hs : 0 ≤ salt ∧ salt ≤ 900000) : ∃ w : Wb, SA.m__law_any_web [.list (ns.map .int), .int (k : Nat), .int salt] = some (wbO w) ∧ WbOk w := by
  obtain ⟨co, eo⟩ := cell_at_ok ns (2 * k + 1)
  obtain ⟨cc, ec⟩ := cell_at_ok ns (2 * k)
  rw [show ((2 * k + 1 : Nat) : Int) = 2 * (k : Int) + 1 by omega] at eo
  rw [show ((2 * k : Nat) : Int) = 2 * (k : Int) by omega] at ec
  obtain ⟨hd, e1, l1, g1⟩ := numbers_ok co (salt + 1) (by omega) [8, 4] (by simp) (by intro s hs; simp at hs; omega)
  obtain ⟨h0, h1, rfl⟩ : ∃ a b, hd = [a, b] := by
    match hd, l1 with
    | [a, b], _ => exact ⟨a, b, rfl⟩
  simp only [List.map_cons, List.map_nil] at e1
  obtain ⟨r, e, w, rfl, hw⟩ := fin_w (P := fun x => ∃ w : Wb, x = wbO w ∧ WbOk w) (B := SA.B__law_any_web) (ρ := ini [.list (ns.map .int), .int (k : Nat), .int salt] 9) (by
    unfold SA.B__law_any_web
    have two : ((-(2 ^ 64) : Int) < 2 ∧ (2 : Int) < 2 ^ 64) := by decide
    have kk : ((-(2 ^ 64) : Int) < (k : Int) ∧ (k : Int) < 2 ^ 64) := by omega
    have four : (0 : Int) < 4 ∧ (4 : Int) < 1073741824 := by decide
    have tn : OT.toDs (intsO [h0, h1]) = some ([h0, h1].map .int) := toDs_ints _
    refine w_st (by walk_at "ev" <;> exact rfl) ?_
    refine w_st (by walk_at "ev" <;> exact rfl) ?_
    refine w_seq (w_asgG (ρ := _) ?_)
    have key : ∃ most more : Int, (1 ≤ most ∧ most ≤ 40 ∧ 0 ≤ more ∧ more ≤ 81) ∧ dY (yAuto (rOp gIxL (rLst (qCons (rTup (qCons (rC (.int 12)) (qCons (rC (.int 8)) qNil))) (qCons (rTup (qCons (rC (.int 40)) (qCons (rC (.int 81)) qNil))) qNil))) (rCb gInt (qCons (rAnd (rOp gEqI (rOp gIxL (rVar 4) (rC (.int 0))) (rC (.int 7))) (rOp gEqI (rOp gMod (rVar 1) (rC (.int 4))) (rC (.int 0)))) qNil))) (yD (dOpR gIxL (dY (yLst (oCons (yTup (oCons (yR (rC (.int 12))) (oCons (yR (rC (.int 8))) oNil))) (oCons (yTup (oCons (yR (rC (.int 40))) (oCons (yR (rC (.int 81))) oNil))) oNil)))) (rCb gInt (qCons (rAnd (rOp gEqI (rOp gIxL (rVar 4) (rC (.int 0))) (rC (.int 7))) (rOp gEqI (rOp gMod (rVar 1) (rC (.int 4))) (rC (.int 0)))) qNil)))))
        [.d (.list (ns.map .int)), .d (.int (k : Nat)), .d (.int salt), .d (.int co), .nd .lst (intsO [h0, h1]), .no, .no, .no, .no, .no, .no, .no] = some (.tuple [.int most, .int more], [.d (.list (ns.map .int)), .d (.int (k : Nat)), .d (.int salt), .d (.int co), .nd .lst (intsO [h0, h1]), .no, .no, .no, .no, .no, .no, .no]) := by
      clear e1 eo ec
      by_cases a : h0 = 7 <;> by_cases c : (k : Int) % 4 = 0
      · have d1 : decide (h0 = 7) = true := decide_eq_true a
        have d2 : decide ((k : Int) % 4 = 0) = true := decide_eq_true c
        clear a c
        exact ⟨40, 81, by omega, by walk_at "ev"; split <;> simp [toD_d]⟩
      · have d1 : decide (h0 = 7) = true := decide_eq_true a
        have d2 : decide ((k : Int) % 4 = 0) = false := decide_eq_false c
        clear a c
        exact ⟨12, 8, by omega, by walk_at "ev"; split <;> simp [toD_d]⟩
      · have d1 : decide (h0 = 7) = false := decide_eq_false a
        clear a c
        exact ⟨12, 8, by omega, by walk_at "ev"; split <;> simp [toD_d]⟩
      · have d1 : decide (h0 = 7) = false := decide_eq_false a
        clear a c
        exact ⟨12, 8, by omega, by walk_at "ev"; split <;> simp [toD_d]⟩
    obtain ⟨most, more, hm, ek⟩ := key
    refine ⟨_, _, ek, _, rfl, ?_⟩
    clear ek
    obtain ⟨mo, rfl⟩ : ∃ mo : Nat, more = (mo : Int) := ⟨more.toNat, by omega⟩
    obtain ⟨w, ew, hw, hw2⟩ := web_ok cc salt (by omega) most (by omega) (by omega) mo (by omega)
    obtain ⟨n, ts⟩ := w
    have lw : (wbO (n, ts)).lf = true := by simp [wbO, OT.lf, OT.lfs, lfs_fpr, flat]
    have tw := toD_wbO (n, ts)
    simp only [wbD, WD] at tw
    have l7 := hw.len
    simp only [] at l7
    obtain ⟨dr, e2, l2, g2⟩ := numbers_ok co (salt + 1) (by omega) ([8, 4] ++ List.replicate ts.length 4) (by simp; omega) (by
      intro s hs
      rcases List.mem_append.mp hs with hs | hs
      · simp at hs; omega
      · rw [List.eq_of_mem_replicate hs]; omega)
    have r1 : List.replicate ts.length (PyData.int 4) = (List.replicate ts.length (4 : Int)).map .int := by rw [List.map_replicate]
    have tl : (ts.map pairD).length = ts.length := by simp
    generalize wbO (n, ts) = WO at *
    refine w_st (by walk_at "ev" <;> exact rfl) ?_
    have l3 : 2 ≤ dr.length := by rw [l2]; simp
    have k2 := cut_from dr (i := 2) l3
    have four4 : ((-(2 ^ 64) : Int) < 4 ∧ (4 : Int) < 2 ^ 64) := by decide
    have e2' : SQ.m__law_numbers [.int co, .int (salt + 1), .list ([PyData.int 8, .int 4] ++ List.replicate ts.length (.int 4))] = some (.nd .lst (intsO dr)) := by
      rw [r1]
      simpa using e2
    clear e2 e1 eo ec
    have rep : yRep (yLst (oCons (yR (rC (.int 4))) oNil)) (rCb gLen (qCons (rVar 8) qNil)) [.d (.list (ns.map .int)), .d (.int (k : Nat)), .d (.int salt), .d (.int co), .nd .lst (intsO [h0, h1]), .d (.int most), .d (.int mo), .d (.int n), .d (.list (ts.map pairD)), .no, .no, .no] = some (lstO (List.replicate ts.length (.int 4)), [.d (.list (ns.map .int)), .d (.int (k : Nat)), .d (.int salt), .d (.int co), .nd .lst (intsO [h0, h1]), .d (.int most), .d (.int mo), .d (.int n), .d (.list (ts.map pairD)), .no, .no, .no]) := yRep_one (k := ts.length) (x := .int 4) (by clear tw; walk_at "ev" <;> exact rfl) (by clear tw; walk_at "ev" <;> exact rfl) (by omega)
    have ct : GCat (.list [.int 8, .int 4]) (.list (List.replicate ts.length (.int 4))) = some (lstO ([PyData.int 8, .int 4] ++ List.replicate ts.length (.int 4))) := by
      have := GCat_ints (a := [8, 4]) (b := List.replicate ts.length (4 : Int)) (by simp; omega)
      rw [r1]
      simpa [lstO, intsO] using this
    clear r1 tw lw l1 g1
    refine w_seq (w_asg (w_ySl (w_dY (w_yCall ?_))))
    refine w_lCons (W.of (by walk_at "ev" <;> exact rfl) ?_)
    refine w_lCons (W.of (by walk_at "ev" <;> exact rfl) ?_)
    refine w_lCons (w_dY (w_yOp ?_))
    refine w_dYof (r := .nd .lst [.d (.int 8), .d (.int 4)]) (x := .list [.int 8, .int 4]) (by walk_at "ev" <;> exact rfl) (by rw [toD_lst, toDs_cons, toDs_cons, toDs_nil]; rfl) ?_
    refine w_dYof rep (toD_lstO _) ?_
    refine ⟨_, ct, _, toD_lstO _, ?_⟩
    refine w_lNil ⟨rfl, _, e2', ?_⟩
    refine ⟨_, toD_ints _, _, some (2 : Int), Option.none, rfl, rfl, rfl, ?_⟩
    rw [show ((2 : Nat) : Int) = 2 from rfl] at k2
    rw [k2]
    simp only [sqK]
    clear rep ct e2' k2
    generalize dr.drop 2 = ds at *
    clear l2 l3 g2
    have ui : lstO (ds.map PyData.int) = .nd .lst (intsO ds) := lstO_ints ds
    rw [ui]
    have hz := zipD_map pairD PyData.int ts ds
    have lz : (ts.zip ds).length ≤ 1000000 := by rw [List.length_zip]; omega
    clear four4 two kk four hm
    refine w_ret (w_yTup (w_oCons (W.of (by walk_at "ev" <;> exact rfl) ⟨rfl, ?_⟩)))
    refine w_oCons ((w_lcfT (fun p : (Int × Int) × Int => if decide (h1 ≤ p.2) then some (OT.d (pairD p.1)) else Option.none) (as := ts.zip ds) (enc := fun p => PyData.tuple [pairD p.1, .int p.2]) (by walk_at "ev" <;> exact rfl) rfl lz (fun p hp => ?_) ?_))
    · clear hz tl
      obtain ⟨p1, p2⟩ := p
      simp only []
      by_cases c : h1 ≤ p2
      · have d : decide (h1 ≤ p2) = true := decide_eq_true c
        rw [d]
        refine W.of (by walk_at "ev" <;> exact rfl) ?_
        exact ⟨rfl, rfl⟩
      · have d : decide (h1 ≤ p2) = false := decide_eq_false c
        rw [d]
        refine W.of (by walk_at "ev" <;> exact rfl) ?_
        exact ⟨rfl, rfl⟩
    clear hz tl
    rw [fm_if]
    have sub : (((ts.zip ds).filter fun p => decide (h1 ≤ p.2)).map Prod.fst).Sublist ts := (List.Sublist.map Prod.fst (List.filter_sublist)).trans (zip_fst_sub ts ds)
    have el : ((ts.zip ds).filter fun p => decide (h1 ≤ p.2)).map (fun p => OT.d (pairD p.1)) = fprO (((ts.zip ds).filter fun p => decide (h1 ≤ p.2)).map Prod.fst) := by
      unfold fprO
      rw [List.map_map]
      rfl
    rw [el]
    generalize ((ts.zip ds).filter fun p => decide (h1 ≤ p.2)).map Prod.fst = us at *
    have hw3 : WbOk (n, us) := ⟨WOk.sub hw.ok sub, hw.lo, hw.hi, by have := sub.length_le; show us.length ≤ 120; omega⟩
    exact ⟨rfl, w_oNil ⟨by show 2 ≤ 1000000; decide, (n, us), rfl, hw3⟩⟩)
  exact ⟨w, e, hw⟩
end SA
namespace SB
open PySem L2 PL MR SH BF
local macro_rules | `(tactic| walk_at "ev") => `(tactic| simp (config := {decide := true}) only [ini, fin, finI, sSeq, sNext, sAsg, sAsgG, sRet, sRetN, sDrop, sIf, sNever, sSetP, sAppP, sClrP, sRevP, fR, pmVar, pmIx, pmIxT, MR.putAt, OT.put, OT.at, gmName, gmTup, gmLst, gsNil, gsCons, rVar, rC, rOp, rUn, rCb, rCbZ, rOpZ, rCall, rAnd, rOr, rNot, rIf, rIs, rCh, rCh3, rTup, rLst, rSl, cNone, cSome, rRepr, dRepr, rInDct, rIdx, rIdxD, iR3s, small, qNil, qCons, qApp, lApp, bR, bAnd, bOr, bNot, tR, tD, tmAnd, tmOr, tmNot, yVar_eq, yMov, yR, yAuto, dY, yD, dR, dOp, dOpR, dCb, dAnd, dOr, dNot, yCall, yCallA, yCallI, yCallIT, yCb, yCbA, yOp, yOpA, lfO, yTup, yLst, oNil, oCons, isNo, lNil, lCons, asB, asInt, asL, asT, iL, iT, iE, iZ, iV, yRng1_eq, iR1_eq, iR2_eq, lcStep, calmAt, wipeE, rst, sApp, yPop_eq, sDPutM, ySortD, yDNew, gmName, toD_d, toD_tup, toD_lst, toDs_nil, toDs_cons, toDs_ints, toDs_fpr, toDs_prs, lfs_ints, lfs_fpr, intsO_len, prsO_len, fprO_len, rng_len, intsO_snoc, prsO_snoc, lstO_rg, rOpZ, rCbZ, isNo_lstO, toD_dnew, ySl, ySlA, neS_self, eqS_self,  rRevL, yRevL, yRevLA, yPop0, sExt, gStrI,  lstO_prs, lstO_ints, toD_lstO, kp_int, kp_bool, kp_tuple, kp_list, kp_str, isIntB, isBoolB, isTupB, isListB, isStrB, gAdd_i, gSub_i, gLt_i, gLe_i, gGt_i, gGe_i, gMul_r, gMul_l, gMod_i, gDiv_i, gPow_i, gNeg, gEqI, gNeI, gEqS, gNeS, gIsN, gNotN, gIsB, gNotB, gIxL, gIxT, gLen, gMax2, gMin2, gInt, gAll, asBools_map, isN, OT.lf, OT.lfs, flat, atI_0, atI_1, ixN_0, ixN_1, rgD_len, enumD_len, trues_len, Int.toNat_natCast, List.length_map, eq_self, Option.bind_some, Option.bind_none, Option.map_some, Option.map_none, List.getElem?_cons_zero, List.getElem?_cons_succ, List.set_cons_zero, List.set_cons_succ, List.map_cons, List.map_nil, List.replicate, List.nil_append, List.cons_append, List.length_cons, List.length_nil, List.all_cons, List.all_nil, if_true, if_false, reduceIte, tfl_int, tfl_bool, tfl_none, tfl_str, tfl_list, Bool.true_and, Bool.and_true, Bool.false_and, Bool.and_false, Bool.true_or, Bool.or_true, Bool.false_or, Bool.or_false, Bool.not_true, Bool.not_false, Bool.false_eq_true, decide_true, decide_false, true_and, and_true, false_and, and_false, or_true, true_or, *])
theorem shaped_nats (xs : List Nat) : SeqAt.shaped (.list (xs.map fun j => .int (j : Nat))) = true := by
  have := shaped_ints (xs.map fun (j : Nat) => (j : Int))
  rwa [List.map_map] at this
end SB
namespace SB
open PySem L2 PL MR SH BF
local macro_rules | `(tactic| walk_at "ev") => `(tactic| simp (config := {decide := true}) only [ini, fin, finI, sSeq, sNext, sAsg, sAsgG, sRet, sRetN, sDrop, sIf, sNever, sSetP, sAppP, sClrP, sRevP, fR, pmVar, pmIx, pmIxT, MR.putAt, OT.put, OT.at, gmName, gmTup, gmLst, gsNil, gsCons, rVar, rC, rOp, rUn, rCb, rCbZ, rOpZ, rCall, rAnd, rOr, rNot, rIf, rIs, rCh, rCh3, rTup, rLst, rSl, cNone, cSome, rRepr, dRepr, rInDct, rIdx, rIdxD, iR3s, small, qNil, qCons, qApp, lApp, bR, bAnd, bOr, bNot, tR, tD, tmAnd, tmOr, tmNot, yVar_eq, yMov, yR, yAuto, dY, yD, dR, dOp, dOpR, dCb, dAnd, dOr, dNot, yCall, yCallA, yCallI, yCallIT, yCb, yCbA, yOp, yOpA, lfO, yTup, yLst, oNil, oCons, isNo, lNil, lCons, asB, asInt, asL, asT, iL, iT, iE, iZ, iV, yRng1_eq, iR1_eq, iR2_eq, lcStep, calmAt, wipeE, rst, sApp, yPop_eq, sDPutM, ySortD, yDNew, gmName, toD_d, toD_tup, toD_lst, toDs_nil, toDs_cons, toDs_ints, toDs_fpr, toDs_prs, lfs_ints, lfs_fpr, intsO_len, prsO_len, fprO_len, rng_len, intsO_snoc, prsO_snoc, lstO_rg, rOpZ, rCbZ, isNo_lstO, toD_dnew, ySl, ySlA, neS_self, eqS_self,  rRevL, yRevL, yRevLA, yPop0, sExt, gStrI,  lstO_prs, lstO_ints, toD_lstO, kp_int, kp_bool, kp_tuple, kp_list, kp_str, isIntB, isBoolB, isTupB, isListB, isStrB, gAdd_i, gSub_i, gLt_i, gLe_i, gGt_i, gGe_i, gMul_r, gMul_l, gMod_i, gDiv_i, gPow_i, gNeg, gEqI, gNeI, gEqS, gNeS, gIsN, gNotN, gIsB, gNotB, gIxL, gIxT, gLen, gMax2, gMin2, gInt, gAll, asBools_map, isN, OT.lf, OT.lfs, flat, atI_0, atI_1, ixN_0, ixN_1, rgD_len, enumD_len, trues_len, Int.toNat_natCast, List.length_map, eq_self, Option.bind_some, Option.bind_none, Option.map_some, Option.map_none, List.getElem?_cons_zero, List.getElem?_cons_succ, List.set_cons_zero, List.set_cons_succ, List.map_cons, List.map_nil, List.replicate, List.nil_append, List.cons_append, List.length_cons, List.length_nil, List.all_cons, List.all_nil, if_true, if_false, reduceIte, tfl_int, tfl_bool, tfl_none, tfl_str, tfl_list, Bool.true_and, Bool.and_true, Bool.false_and, Bool.and_false, Bool.true_or, Bool.or_true, Bool.false_or, Bool.or_false, Bool.not_true, Bool.not_false, Bool.false_eq_true, decide_true, decide_false, true_and, and_true, false_and, and_false, or_true, true_or, *])
theorem len_of_nodup {S : List Nat} {n : Nat} (nd : S.Nodup) (h : ∀ x ∈ S, x < n) : S.length ≤ n := by
  have hp : S.Perm ((List.range n).filter fun x => decide (x ∈ S)) := (List.perm_ext_iff_of_nodup nd (List.Pairwise.filter _ List.nodup_range)).mpr fun x => by
    rw [List.mem_filter, List.mem_range, decide_eq_true_eq]
    exact ⟨fun z => ⟨h x z, z⟩, fun z => z.2⟩
  rw [hp.length_eq]
  refine Nat.le_trans (List.length_filter_le _ _) ?_
  rw [List.length_range]
  exact Nat.le_refl _
end SB
namespace SA
open PySem L2 PL MR SH SQ SB BF
local macro_rules | `(tactic| walk_at "ev") => `(tactic| simp (config := {decide := true}) only [ini, fin, finI, sSeq, sNext, sAsg, sAsgG, sRet, sRetN, sDrop, sIf, sNever, sSetP, sAppP, sClrP, sRevP, fR, pmVar, pmIx, pmIxT, MR.putAt, OT.put, OT.at, gmName, gmTup, gmLst, gsNil, gsCons, rVar, rC, rOp, rUn, rCb, rCbZ, rOpZ, rCall, rAnd, rOr, rNot, rIf, rIs, rCh, rCh3, rTup, rLst, rSl, cNone, cSome, rRepr, dRepr, rInDct, rIdx, rIdxD, iR3s, small, qNil, qCons, qApp, lApp, bR, bAnd, bOr, bNot, tR, tD, tmAnd, tmOr, tmNot, yVar_eq, yMov, yR, yAuto, dY, yD, dR, dOp, dOpR, dCb, dAnd, dOr, dNot, yCall, yCallA, yCallI, yCallIT, yCb, yCbA, yOp, yOpA, lfO, yTup, yLst, oNil, oCons, isNo, lNil, lCons, asB, asInt, asL, asT, iL, iT, iE, iZ, iV, yRng1_eq, iR1_eq, iR2_eq, lcStep, calmAt, wipeE, rst, sApp, yPop_eq, sDPutM, ySortD, yDNew, gmName, toD_d, toD_tup, toD_lst, toDs_nil, toDs_cons, toDs_ints, toDs_fpr, toDs_prs, lfs_ints, lfs_fpr, intsO_len, prsO_len, fprO_len, rng_len, intsO_snoc, prsO_snoc, lstO_rg, rOpZ, rCbZ, isNo_lstO, toD_dnew, ySl, ySlA, neS_self, eqS_self,  rRevL, yRevL, yRevLA, yPop0, sExt, gStrI,  lstO_prs, lstO_ints, toD_lstO, kp_int, kp_bool, kp_tuple, kp_list, kp_str, isIntB, isBoolB, isTupB, isListB, isStrB, gAdd_i, gSub_i, gLt_i, gLe_i, gGt_i, gGe_i, gMul_r, gMul_l, gMod_i, gDiv_i, gPow_i, gNeg, gEqI, gNeI, gEqS, gNeS, gIsN, gNotN, gIsB, gNotB, gIxL, gIxT, gLen, gMax2, gMin2, gInt, gAll, asBools_map, isN, OT.lf, OT.lfs, flat, atI_0, atI_1, ixN_0, ixN_1, rgD_len, enumD_len, trues_len, Int.toNat_natCast, List.length_map, eq_self, Option.bind_some, Option.bind_none, Option.map_some, Option.map_none, List.getElem?_cons_zero, List.getElem?_cons_succ, List.set_cons_zero, List.set_cons_succ, List.map_cons, List.map_nil, List.replicate, List.nil_append, List.cons_append, List.length_cons, List.length_nil, List.all_cons, List.all_nil, if_true, if_false, reduceIte, tfl_int, tfl_bool, tfl_none, tfl_str, tfl_list, Bool.true_and, Bool.and_true, Bool.false_and, Bool.and_false, Bool.true_or, Bool.or_true, Bool.false_or, Bool.or_false, Bool.not_true, Bool.not_false, Bool.false_eq_true, decide_true, decide_false, true_and, and_true, false_and, and_false, or_true, true_or, *])
/-! the shortest way, each next place the least one that is nearer -/
theorem w_sApp {i : Nat} {y : Ym} {ρ : MR.Env} {Q : Fl → MR.Env → Prop} {us : List OT} (h0 : ρ[i]? = some (.nd .lst us)) (h : W y ρ fun r ρ1 => isNo r = false ∧ ∃ ts, ρ1[i]? = some (.nd .lst ts) ∧ ts.length ≤ 1000000 ∧ Q .nx (ρ1.set i (.nd .lst (ts ++ [r])))) : W (sApp i y) ρ Q := by
  obtain ⟨r, ρ1, e, n, ts, e2, l, q⟩ := h
  refine ⟨_, _, ?_, q⟩
  unfold sApp
  rw [h0]
  simp only [e, Option.bind_some, n, e2, l, if_true, Bool.false_eq_true, if_false]
end SA
namespace SB
open PySem L2 PL MR SH BF
/-! ### two webs multiplied: ways, between, hulls -/
end SB
namespace SB
open PySem L2 PL MR SH BF
local macro_rules | `(tactic| walk_at "ev") => `(tactic| simp (config := {decide := true}) only [ini, fin, finI, sSeq, sNext, sAsg, sAsgG, sRet, sRetN, sDrop, sIf, sNever, sSetP, sAppP, sClrP, sRevP, fR, pmVar, pmIx, pmIxT, MR.putAt, OT.put, OT.at, gmName, gmTup, gmLst, gsNil, gsCons, rVar, rC, rOp, rUn, rCb, rCbZ, rOpZ, rCall, rAnd, rOr, rNot, rIf, rIs, rCh, rCh3, rTup, rLst, rSl, cNone, cSome, rRepr, dRepr, rInDct, rIdx, rIdxD, iR3s, small, qNil, qCons, qApp, lApp, bR, bAnd, bOr, bNot, tR, tD, tmAnd, tmOr, tmNot, yVar_eq, yMov, yR, yAuto, dY, yD, dR, dOp, dOpR, dCb, dAnd, dOr, dNot, yCall, yCallA, yCallI, yCallIT, yCb, yCbA, yOp, yOpA, lfO, yTup, yLst, oNil, oCons, isNo, lNil, lCons, asB, asInt, asL, asT, iL, iT, iE, iZ, iV, yRng1_eq, iR1_eq, iR2_eq, lcStep, calmAt, wipeE, rst, sApp, yPop_eq, sDPutM, ySortD, yDNew, gmName, toD_d, toD_tup, toD_lst, toDs_nil, toDs_cons, toDs_ints, toDs_fpr, toDs_prs, lfs_ints, lfs_fpr, intsO_len, prsO_len, fprO_len, rng_len, intsO_snoc, prsO_snoc, lstO_rg, rOpZ, rCbZ, isNo_lstO, toD_dnew, ySl, ySlA, neS_self, eqS_self,  rRevL, yRevL, yRevLA, yPop0, sExt, gStrI,  lstO_prs, lstO_ints, toD_lstO, kp_int, kp_bool, kp_tuple, kp_list, kp_str, isIntB, isBoolB, isTupB, isListB, isStrB, gAdd_i, gSub_i, gLt_i, gLe_i, gGt_i, gGe_i, gMul_r, gMul_l, gMod_i, gDiv_i, gPow_i, gNeg, gEqI, gNeI, gEqS, gNeS, gIsN, gNotN, gIsB, gNotB, gIxL, gIxT, gLen, gMax2, gMin2, gInt, gAll, asBools_map, isN, OT.lf, OT.lfs, flat, atI_0, atI_1, ixN_0, ixN_1, rgD_len, enumD_len, trues_len, Int.toNat_natCast, List.length_map, eq_self, Option.bind_some, Option.bind_none, Option.map_some, Option.map_none, List.getElem?_cons_zero, List.getElem?_cons_succ, List.set_cons_zero, List.set_cons_succ, List.map_cons, List.map_nil, List.replicate, List.nil_append, List.cons_append, List.length_cons, List.length_nil, List.all_cons, List.all_nil, if_true, if_false, reduceIte, tfl_int, tfl_bool, tfl_none, tfl_str, tfl_list, Bool.true_and, Bool.and_true, Bool.false_and, Bool.and_false, Bool.true_or, Bool.or_true, Bool.false_or, Bool.or_false, Bool.not_true, Bool.not_false, Bool.false_eq_true, decide_true, decide_false, true_and, and_true, false_and, and_false, or_true, true_or, *])
/-! ### webs that may have more ties than a drawn one; lists of webs multiplied -/
/-! rows of the product -/
end SB
namespace SH
open PySem L2 PL MR
local macro_rules | `(tactic| walk_at "ev") => `(tactic| simp (config := {decide := true}) only [ini, fin, finI, sSeq, sNext, sAsg, sAsgG, sRet, sRetN, sDrop, sIf, sNever, sSetP, pmVar, MR.putAt, OT.put, gmName, gmTup, gmLst, gsNil, gsCons, rVar, rC, rOp, rUn, rCb, rCall, rAnd, rOr, rNot, rIf, rIs, rCh, rCh3, rTup, rLst, small, qNil, qCons, bR, bAnd, bOr, bNot, tR, tD, tmAnd, tmOr, tmNot, yVar, yMov, yR, yAuto, dY, yD, dR, dOp, dOpR, dCb, yCall, yCallA, lfO, yTup, yLst, oNil, oCons, isNo, lNil, lCons, asB, asInt, toD_d, toD_tup, toD_lst, toDs_nil, toDs_cons, kp_int, kp_bool, kp_tuple, kp_list, isIntB, isBoolB, isTupB, isListB, gAdd_i, gSub_i, gLt_i, gLe_i, gGt_i, gGe_i, gMul_r, gMul_l, gMod_i, gDiv_i, gPow_i, gNeg, gEqI, gNeI, gIsN, gNotN, gIsB, gNotB, gIxL, gIxT, gLen, gMax2, gMin2, isN, OT.lf, OT.lfs, atI_0, atI_1, ixN_0, ixN_1, Option.bind_some, Option.bind_none, Option.map_some, Option.map_none, List.getElem?_cons_zero, List.getElem?_cons_succ, List.set_cons_zero, List.set_cons_succ, List.map_cons, List.map_nil, List.replicate, List.nil_append, List.cons_append, List.length_cons, List.length_nil, if_true, if_false, reduceIte, tfl_int, tfl_bool, tfl_none, tfl_str, tfl_list, Bool.true_and, Bool.and_true, Bool.false_and, Bool.and_false, Bool.not_true, Bool.not_false, Bool.false_eq_true, decide_true, decide_false, true_and, and_true, false_and, and_false, or_true, true_or, *])
local macro_rules | `(tactic| walk_at "w") => `(tactic| simp (config := {decide := true}) only [ini, fin, finI, sSeq, sNext, sAsg, sAsgG, sRet, sRetN, sDrop, sIf, sNever, sFor, pmVar, gmName, gmTup, gmLst, gsNil, gsCons, rVar, rC, rOp, rUn, rCb, rCall, rTup, rLst, qNil, qCons, bR, bAnd, bOr, bNot, tR, tD, yVar, yMov, yR, yAuto, dY, yD, dR, dOp, dOpR, dCb, yCall, yCallA, yCallI, lfO, yTup, yLst, oNil, oCons, isNo, lNil, lCons, asB, asInt, toD_d, toD_tup, toD_lst, toDs_nil, toDs_cons, gAdd_i, gSub_i, gLt_i, gLe_i, gGt_i, gGe_i, gEqI, gNeI, gLen, gMax2, gMin2, isN, yRng1_eq, iR1_eq, iR2_eq, iL, iE, asL, yLc, calmAt, wipeE, rst, rsts, sApp, yPop_eq, sDPutM, ySortD, yDNew, lcStep, lstO_rg, lstO_prs, lstO_ints, toDs_ints, toDs_fpr, toDs_prs, lfs_ints, lfs_fpr, intsO_len, prsO_len, fprO_len, rng_len, intsO_snoc, prsO_snoc, Int.toNat_natCast, List.length_map, trues_len, eq_self, gIxL, small, flat, rgD_len, List.all_cons, List.all_nil, Option.bind_some, Option.bind_none, Option.map_some, Option.map_none, List.getElem?_cons_zero, List.getElem?_cons_succ, List.set_cons_zero, List.set_cons_succ, List.map_cons, List.map_nil, List.replicate, List.nil_append, List.cons_append, List.length_cons, List.length_nil, if_true, if_false, reduceIte, tfl_int, tfl_bool, tfl_none, tfl_str, tfl_list, Bool.true_and, Bool.and_true, Bool.false_and, Bool.and_false, Bool.not_true, Bool.not_false, Bool.false_eq_true, decide_true, decide_false, true_and, and_true, or_true, true_or, false_and, and_false, *])
local macro_rules | `(tactic| walk_at "st") => `(tactic| (apply seq_nx; (walk_at "w"; exact rfl)))
end SH
namespace SB
open PySem L2 PL MR SH BF
local macro_rules | `(tactic| walk_at "ev") => `(tactic| simp (config := {decide := true}) only [ini, fin, finI, sSeq, sNext, sAsg, sAsgG, sRet, sRetN, sDrop, sIf, sNever, sSetP, sAppP, sClrP, sRevP, fR, pmVar, pmIx, pmIxT, MR.putAt, OT.put, OT.at, gmName, gmTup, gmLst, gsNil, gsCons, rVar, rC, rOp, rUn, rCb, rCbZ, rOpZ, rCall, rAnd, rOr, rNot, rIf, rIs, rCh, rCh3, rTup, rLst, rSl, cNone, cSome, rRepr, dRepr, rInDct, rIdx, rIdxD, iR3s, small, qNil, qCons, qApp, lApp, bR, bAnd, bOr, bNot, tR, tD, tmAnd, tmOr, tmNot, yVar_eq, yMov, yR, yAuto, dY, yD, dR, dOp, dOpR, dCb, dAnd, dOr, dNot, yCall, yCallA, yCallI, yCallIT, yCb, yCbA, yOp, yOpA, lfO, yTup, yLst, oNil, oCons, isNo, lNil, lCons, asB, asInt, asL, asT, iL, iT, iE, iZ, iV, yRng1_eq, iR1_eq, iR2_eq, lcStep, calmAt, wipeE, rst, sApp, yPop_eq, sDPutM, ySortD, yDNew, gmName, toD_d, toD_tup, toD_lst, toDs_nil, toDs_cons, toDs_ints, toDs_fpr, toDs_prs, lfs_ints, lfs_fpr, intsO_len, prsO_len, fprO_len, rng_len, intsO_snoc, prsO_snoc, lstO_rg, rOpZ, rCbZ, isNo_lstO, toD_dnew, ySl, ySlA, neS_self, eqS_self,  rRevL, yRevL, yRevLA, yPop0, sExt, gStrI,  lstO_prs, lstO_ints, toD_lstO, kp_int, kp_bool, kp_tuple, kp_list, kp_str, isIntB, isBoolB, isTupB, isListB, isStrB, gAdd_i, gSub_i, gLt_i, gLe_i, gGt_i, gGe_i, gMul_r, gMul_l, gMod_i, gDiv_i, gPow_i, gNeg, gEqI, gNeI, gEqS, gNeS, gIsN, gNotN, gIsB, gNotB, gIxL, gIxT, gLen, gMax2, gMin2, gInt, gAll, asBools_map, isN, OT.lf, OT.lfs, flat, atI_0, atI_1, ixN_0, ixN_1, rgD_len, enumD_len, trues_len, Int.toNat_natCast, List.length_map, eq_self, Option.bind_some, Option.bind_none, Option.map_some, Option.map_none, List.getElem?_cons_zero, List.getElem?_cons_succ, List.set_cons_zero, List.set_cons_succ, List.map_cons, List.map_nil, List.replicate, List.nil_append, List.cons_append, List.length_cons, List.length_nil, List.all_cons, List.all_nil, if_true, if_false, reduceIte, tfl_int, tfl_bool, tfl_none, tfl_str, tfl_list, Bool.true_and, Bool.and_true, Bool.false_and, Bool.and_false, Bool.true_or, Bool.or_true, Bool.false_or, Bool.or_false, Bool.not_true, Bool.not_false, Bool.false_eq_true, decide_true, decide_false, true_and, and_true, false_and, and_false, or_true, true_or, *])
/-! places of webs in all -/
end SB
namespace SB
open PySem L2 PL MR SH BF
local macro_rules | `(tactic| walk_at "ev") => `(tactic| simp (config := {decide := true}) only [ini, fin, finI, sSeq, sNext, sAsg, sAsgG, sRet, sRetN, sDrop, sIf, sNever, sSetP, sAppP, sClrP, sRevP, fR, pmVar, pmIx, pmIxT, MR.putAt, OT.put, OT.at, gmName, gmTup, gmLst, gsNil, gsCons, rVar, rC, rOp, rUn, rCb, rCbZ, rOpZ, rCall, rAnd, rOr, rNot, rIf, rIs, rCh, rCh3, rTup, rLst, rSl, cNone, cSome, rRepr, dRepr, rInDct, rIdx, rIdxD, iR3s, small, qNil, qCons, qApp, lApp, bR, bAnd, bOr, bNot, tR, tD, tmAnd, tmOr, tmNot, yVar_eq, yMov, yR, yAuto, dY, yD, dR, dOp, dOpR, dCb, dAnd, dOr, dNot, yCall, yCallA, yCallI, yCallIT, yCb, yCbA, yOp, yOpA, lfO, yTup, yLst, oNil, oCons, isNo, lNil, lCons, asB, asInt, asL, asT, iL, iT, iE, iZ, iV, yRng1_eq, iR1_eq, iR2_eq, lcStep, calmAt, wipeE, rst, sApp, yPop_eq, sDPutM, ySortD, yDNew, gmName, toD_d, toD_tup, toD_lst, toDs_nil, toDs_cons, toDs_ints, toDs_fpr, toDs_prs, lfs_ints, lfs_fpr, intsO_len, prsO_len, fprO_len, rng_len, intsO_snoc, prsO_snoc, lstO_rg, rOpZ, rCbZ, isNo_lstO, toD_dnew, ySl, ySlA, neS_self, eqS_self,  rRevL, yRevL, yRevLA, yPop0, sExt, gStrI,  lstO_prs, lstO_ints, toD_lstO, kp_int, kp_bool, kp_tuple, kp_list, kp_str, isIntB, isBoolB, isTupB, isListB, isStrB, gAdd_i, gSub_i, gLt_i, gLe_i, gGt_i, gGe_i, gMul_r, gMul_l, gMod_i, gDiv_i, gPow_i, gNeg, gEqI, gNeI, gEqS, gNeS, gIsN, gNotN, gIsB, gNotB, gIxL, gIxT, gLen, gMax2, gMin2, gInt, gAll, asBools_map, isN, OT.lf, OT.lfs, flat, atI_0, atI_1, ixN_0, ixN_1, rgD_len, enumD_len, trues_len, Int.toNat_natCast, List.length_map, eq_self, Option.bind_some, Option.bind_none, Option.map_some, Option.map_none, List.getElem?_cons_zero, List.getElem?_cons_succ, List.set_cons_zero, List.set_cons_succ, List.map_cons, List.map_nil, List.replicate, List.nil_append, List.cons_append, List.length_cons, List.length_nil, List.all_cons, List.all_nil, if_true, if_false, reduceIte, tfl_int, tfl_bool, tfl_none, tfl_str, tfl_list, Bool.true_and, Bool.and_true, Bool.false_and, Bool.and_false, Bool.true_or, Bool.or_true, Bool.false_or, Bool.or_false, Bool.not_true, Bool.not_false, Bool.false_eq_true, decide_true, decide_false, true_and, and_true, false_and, and_false, or_true, true_or, *])
end SB
namespace SB
open PySem L2 PL MR SH BF
local macro_rules | `(tactic| walk_at "ev") => `(tactic| simp (config := {decide := true}) only [ini, fin, finI, sSeq, sNext, sAsg, sAsgG, sRet, sRetN, sDrop, sIf, sNever, sSetP, sAppP, sClrP, sRevP, fR, pmVar, pmIx, pmIxT, MR.putAt, OT.put, OT.at, gmName, gmTup, gmLst, gsNil, gsCons, rVar, rC, rOp, rUn, rCb, rCbZ, rOpZ, rCall, rAnd, rOr, rNot, rIf, rIs, rCh, rCh3, rTup, rLst, rSl, cNone, cSome, rRepr, dRepr, rInDct, rIdx, rIdxD, iR3s, small, qNil, qCons, qApp, lApp, bR, bAnd, bOr, bNot, tR, tD, tmAnd, tmOr, tmNot, yVar_eq, yMov, yR, yAuto, dY, yD, dR, dOp, dOpR, dCb, dAnd, dOr, dNot, yCall, yCallA, yCallI, yCallIT, yCb, yCbA, yOp, yOpA, lfO, yTup, yLst, oNil, oCons, isNo, lNil, lCons, asB, asInt, asL, asT, iL, iT, iE, iZ, iV, yRng1_eq, iR1_eq, iR2_eq, lcStep, calmAt, wipeE, rst, sApp, yPop_eq, sDPutM, ySortD, yDNew, gmName, toD_d, toD_tup, toD_lst, toDs_nil, toDs_cons, toDs_ints, toDs_fpr, toDs_prs, lfs_ints, lfs_fpr, intsO_len, prsO_len, fprO_len, rng_len, intsO_snoc, prsO_snoc, lstO_rg, rOpZ, rCbZ, isNo_lstO, toD_dnew, ySl, ySlA, neS_self, eqS_self,  rRevL, yRevL, yRevLA, yPop0, sExt, gStrI,  lstO_prs, lstO_ints, toD_lstO, kp_int, kp_bool, kp_tuple, kp_list, kp_str, isIntB, isBoolB, isTupB, isListB, isStrB, gAdd_i, gSub_i, gLt_i, gLe_i, gGt_i, gGe_i, gMul_r, gMul_l, gMod_i, gDiv_i, gPow_i, gNeg, gEqI, gNeI, gEqS, gNeS, gIsN, gNotN, gIsB, gNotB, gIxL, gIxT, gLen, gMax2, gMin2, gInt, gAll, asBools_map, isN, OT.lf, OT.lfs, flat, atI_0, atI_1, ixN_0, ixN_1, rgD_len, enumD_len, trues_len, Int.toNat_natCast, List.length_map, eq_self, Option.bind_some, Option.bind_none, Option.map_some, Option.map_none, List.getElem?_cons_zero, List.getElem?_cons_succ, List.set_cons_zero, List.set_cons_succ, List.map_cons, List.map_nil, List.replicate, List.nil_append, List.cons_append, List.length_cons, List.length_nil, List.all_cons, List.all_nil, if_true, if_false, reduceIte, tfl_int, tfl_bool, tfl_none, tfl_str, tfl_list, Bool.true_and, Bool.and_true, Bool.false_and, Bool.and_false, Bool.true_or, Bool.or_true, Bool.false_or, Bool.or_false, Bool.not_true, Bool.not_false, Bool.false_eq_true, decide_true, decide_false, true_and, and_true, false_and, and_false, or_true, true_or, *])
end SB
namespace SQ
open PySem L2 PL MR SH
local macro_rules | `(tactic| walk_at "ev") => `(tactic| simp (config := {decide := true}) only [ini, fin, finI, sSeq, sNext, sAsg, sAsgG, sRet, sRetN, sDrop, sIf, sNever, sSetP, sAppP, sClrP, sRevP, fR, pmVar, pmIx, pmIxT, MR.putAt, OT.put, OT.at, gmName, gmTup, gmLst, gsNil, gsCons, rVar, rC, rOp, rUn, rCb, rCbZ, rOpZ, rCall, rAnd, rOr, rNot, rIf, rIs, rCh, rCh3, rTup, rLst, rSl, cNone, cSome, rRepr, dRepr, rInDct, rIdx, rIdxD, iR3s, small, qNil, qCons, qApp, lApp, bR, bAnd, bOr, bNot, tR, tD, tmAnd, tmOr, tmNot, yVar_eq, yMov, yR, yAuto, dY, yD, dR, dOp, dOpR, dCb, dAnd, dOr, dNot, yCall, yCallA, yCallI, yCallIT, yCb, yCbA, yOp, yOpA, lfO, yTup, yLst, oNil, oCons, isNo, lNil, lCons, asB, asInt, asL, asT, iL, iT, iE, iZ, iV, yRng1_eq, iR1_eq, iR2_eq, lcStep, calmAt, wipeE, rst, sApp, yPop_eq, sDPutM, ySortD, yDNew, gmName, toD_d, toD_tup, toD_lst, toDs_nil, toDs_cons, toDs_ints, toDs_fpr, toDs_prs, lfs_ints, lfs_fpr, intsO_len, prsO_len, fprO_len, rng_len, intsO_snoc, prsO_snoc, lstO_rg, rOpZ, rCbZ, isNo_lstO, toD_dnew, ySl, ySlA, neS_self, eqS_self,  rRevL, yRevL, yRevLA, yPop0, sExt, gStrI,  lstO_prs, lstO_ints, toD_lstO, kp_int, kp_bool, kp_tuple, kp_list, kp_str, isIntB, isBoolB, isTupB, isListB, isStrB, gAdd_i, gSub_i, gLt_i, gLe_i, gGt_i, gGe_i, gMul_r, gMul_l, gMod_i, gDiv_i, gPow_i, gNeg, gEqI, gNeI, gEqS, gNeS, gIsN, gNotN, gIsB, gNotB, gIxL, gIxT, gLen, gMax2, gMin2, gInt, gAll, asBools_map, isN, OT.lf, OT.lfs, flat, atI_0, atI_1, ixN_0, ixN_1, rgD_len, enumD_len, trues_len, Int.toNat_natCast, List.length_map, eq_self, Option.bind_some, Option.bind_none, Option.map_some, Option.map_none, List.getElem?_cons_zero, List.getElem?_cons_succ, List.set_cons_zero, List.set_cons_succ, List.map_cons, List.map_nil, List.replicate, List.nil_append, List.cons_append, List.length_cons, List.length_nil, List.all_cons, List.all_nil, if_true, if_false, reduceIte, tfl_int, tfl_bool, tfl_none, tfl_str, tfl_list, Bool.true_and, Bool.and_true, Bool.false_and, Bool.and_false, Bool.true_or, Bool.or_true, Bool.false_or, Bool.or_false, Bool.not_true, Bool.not_false, Bool.false_eq_true, decide_true, decide_false, true_and, and_true, false_and, and_false, or_true, true_or, *])
/-! all rows, in order -/
end SQ
namespace SB
open PySem L2 PL MR SH BF
local macro_rules | `(tactic| walk_at "ev") => `(tactic| simp (config := {decide := true}) only [ini, fin, finI, sSeq, sNext, sAsg, sAsgG, sRet, sRetN, sDrop, sIf, sNever, sSetP, sAppP, sClrP, sRevP, fR, pmVar, pmIx, pmIxT, MR.putAt, OT.put, OT.at, gmName, gmTup, gmLst, gsNil, gsCons, rVar, rC, rOp, rUn, rCb, rCbZ, rOpZ, rCall, rAnd, rOr, rNot, rIf, rIs, rCh, rCh3, rTup, rLst, rSl, cNone, cSome, rRepr, dRepr, rInDct, rIdx, rIdxD, iR3s, small, qNil, qCons, qApp, lApp, bR, bAnd, bOr, bNot, tR, tD, tmAnd, tmOr, tmNot, yVar_eq, yMov, yR, yAuto, dY, yD, dR, dOp, dOpR, dCb, dAnd, dOr, dNot, yCall, yCallA, yCallI, yCallIT, yCb, yCbA, yOp, yOpA, lfO, yTup, yLst, oNil, oCons, isNo, lNil, lCons, asB, asInt, asL, asT, iL, iT, iE, iZ, iV, yRng1_eq, iR1_eq, iR2_eq, lcStep, calmAt, wipeE, rst, sApp, yPop_eq, sDPutM, ySortD, yDNew, gmName, toD_d, toD_tup, toD_lst, toDs_nil, toDs_cons, toDs_ints, toDs_fpr, toDs_prs, lfs_ints, lfs_fpr, intsO_len, prsO_len, fprO_len, rng_len, intsO_snoc, prsO_snoc, lstO_rg, rOpZ, rCbZ, isNo_lstO, toD_dnew, ySl, ySlA, neS_self, eqS_self,  rRevL, yRevL, yRevLA, yPop0, sExt, gStrI,  lstO_prs, lstO_ints, toD_lstO, kp_int, kp_bool, kp_tuple, kp_list, kp_str, isIntB, isBoolB, isTupB, isListB, isStrB, gAdd_i, gSub_i, gLt_i, gLe_i, gGt_i, gGe_i, gMul_r, gMul_l, gMod_i, gDiv_i, gPow_i, gNeg, gEqI, gNeI, gEqS, gNeS, gIsN, gNotN, gIsB, gNotB, gIxL, gIxT, gLen, gMax2, gMin2, gInt, gAll, asBools_map, isN, OT.lf, OT.lfs, flat, atI_0, atI_1, ixN_0, ixN_1, rgD_len, enumD_len, trues_len, Int.toNat_natCast, List.length_map, eq_self, Option.bind_some, Option.bind_none, Option.map_some, Option.map_none, List.getElem?_cons_zero, List.getElem?_cons_succ, List.set_cons_zero, List.set_cons_succ, List.map_cons, List.map_nil, List.replicate, List.nil_append, List.cons_append, List.length_cons, List.length_nil, List.all_cons, List.all_nil, if_true, if_false, reduceIte, tfl_int, tfl_bool, tfl_none, tfl_str, tfl_list, Bool.true_and, Bool.and_true, Bool.false_and, Bool.and_false, Bool.true_or, Bool.or_true, Bool.false_or, Bool.or_false, Bool.not_true, Bool.not_false, Bool.false_eq_true, decide_true, decide_false, true_and, and_true, false_and, and_false, or_true, true_or, *])
end SB
namespace SB
open PySem L2 PL MR SH BF
local macro_rules | `(tactic| walk_at "ev") => `(tactic| simp (config := {decide := true}) only [ini, fin, finI, sSeq, sNext, sAsg, sAsgG, sRet, sRetN, sDrop, sIf, sNever, sSetP, sAppP, sClrP, sRevP, fR, pmVar, pmIx, pmIxT, MR.putAt, OT.put, OT.at, gmName, gmTup, gmLst, gsNil, gsCons, rVar, rC, rOp, rUn, rCb, rCbZ, rOpZ, rCall, rAnd, rOr, rNot, rIf, rIs, rCh, rCh3, rTup, rLst, rSl, cNone, cSome, rRepr, dRepr, rInDct, rIdx, rIdxD, iR3s, small, qNil, qCons, qApp, lApp, bR, bAnd, bOr, bNot, tR, tD, tmAnd, tmOr, tmNot, yVar_eq, yMov, yR, yAuto, dY, yD, dR, dOp, dOpR, dCb, dAnd, dOr, dNot, yCall, yCallA, yCallI, yCallIT, yCb, yCbA, yOp, yOpA, lfO, yTup, yLst, oNil, oCons, isNo, lNil, lCons, asB, asInt, asL, asT, iL, iT, iE, iZ, iV, yRng1_eq, iR1_eq, iR2_eq, lcStep, calmAt, wipeE, rst, sApp, yPop_eq, sDPutM, ySortD, yDNew, gmName, toD_d, toD_tup, toD_lst, toDs_nil, toDs_cons, toDs_ints, toDs_fpr, toDs_prs, lfs_ints, lfs_fpr, intsO_len, prsO_len, fprO_len, rng_len, intsO_snoc, prsO_snoc, lstO_rg, rOpZ, rCbZ, isNo_lstO, toD_dnew, ySl, ySlA, neS_self, eqS_self,  rRevL, yRevL, yRevLA, yPop0, sExt, gStrI,  lstO_prs, lstO_ints, toD_lstO, kp_int, kp_bool, kp_tuple, kp_list, kp_str, isIntB, isBoolB, isTupB, isListB, isStrB, gAdd_i, gSub_i, gLt_i, gLe_i, gGt_i, gGe_i, gMul_r, gMul_l, gMod_i, gDiv_i, gPow_i, gNeg, gEqI, gNeI, gEqS, gNeS, gIsN, gNotN, gIsB, gNotB, gIxL, gIxT, gLen, gMax2, gMin2, gInt, gAll, asBools_map, isN, OT.lf, OT.lfs, flat, atI_0, atI_1, ixN_0, ixN_1, rgD_len, enumD_len, trues_len, Int.toNat_natCast, List.length_map, eq_self, Option.bind_some, Option.bind_none, Option.map_some, Option.map_none, List.getElem?_cons_zero, List.getElem?_cons_succ, List.set_cons_zero, List.set_cons_succ, List.map_cons, List.map_nil, List.replicate, List.nil_append, List.cons_append, List.length_cons, List.length_nil, List.all_cons, List.all_nil, if_true, if_false, reduceIte, tfl_int, tfl_bool, tfl_none, tfl_str, tfl_list, Bool.true_and, Bool.and_true, Bool.false_and, Bool.and_false, Bool.true_or, Bool.or_true, Bool.false_or, Bool.or_false, Bool.not_true, Bool.not_false, Bool.false_eq_true, decide_true, decide_false, true_and, and_true, false_and, and_false, or_true, true_or, *])
end SB
namespace SB
open PySem L2 PL MR SH BF
local macro_rules | `(tactic| walk_at "ev") => `(tactic| simp (config := {decide := true}) only [ini, fin, finI, sSeq, sNext, sAsg, sAsgG, sRet, sRetN, sDrop, sIf, sNever, sSetP, sAppP, sClrP, sRevP, fR, pmVar, pmIx, pmIxT, MR.putAt, OT.put, OT.at, gmName, gmTup, gmLst, gsNil, gsCons, rVar, rC, rOp, rUn, rCb, rCbZ, rOpZ, rCall, rAnd, rOr, rNot, rIf, rIs, rCh, rCh3, rTup, rLst, rSl, cNone, cSome, rRepr, dRepr, rInDct, rIdx, rIdxD, iR3s, small, qNil, qCons, qApp, lApp, bR, bAnd, bOr, bNot, tR, tD, tmAnd, tmOr, tmNot, yVar_eq, yMov, yR, yAuto, dY, yD, dR, dOp, dOpR, dCb, dAnd, dOr, dNot, yCall, yCallA, yCallI, yCallIT, yCb, yCbA, yOp, yOpA, lfO, yTup, yLst, oNil, oCons, isNo, lNil, lCons, asB, asInt, asL, asT, iL, iT, iE, iZ, iV, yRng1_eq, iR1_eq, iR2_eq, lcStep, calmAt, wipeE, rst, sApp, yPop_eq, sDPutM, ySortD, yDNew, gmName, toD_d, toD_tup, toD_lst, toDs_nil, toDs_cons, toDs_ints, toDs_fpr, toDs_prs, lfs_ints, lfs_fpr, intsO_len, prsO_len, fprO_len, rng_len, intsO_snoc, prsO_snoc, lstO_rg, rOpZ, rCbZ, isNo_lstO, toD_dnew, ySl, ySlA, neS_self, eqS_self,  rRevL, yRevL, yRevLA, yPop0, sExt, gStrI,  lstO_prs, lstO_ints, toD_lstO, kp_int, kp_bool, kp_tuple, kp_list, kp_str, isIntB, isBoolB, isTupB, isListB, isStrB, gAdd_i, gSub_i, gLt_i, gLe_i, gGt_i, gGe_i, gMul_r, gMul_l, gMod_i, gDiv_i, gPow_i, gNeg, gEqI, gNeI, gEqS, gNeS, gIsN, gNotN, gIsB, gNotB, gIxL, gIxT, gLen, gMax2, gMin2, gInt, gAll, asBools_map, isN, OT.lf, OT.lfs, flat, atI_0, atI_1, ixN_0, ixN_1, rgD_len, enumD_len, trues_len, Int.toNat_natCast, List.length_map, eq_self, Option.bind_some, Option.bind_none, Option.map_some, Option.map_none, List.getElem?_cons_zero, List.getElem?_cons_succ, List.set_cons_zero, List.set_cons_succ, List.map_cons, List.map_nil, List.replicate, List.nil_append, List.cons_append, List.length_cons, List.length_nil, List.all_cons, List.all_nil, if_true, if_false, reduceIte, tfl_int, tfl_bool, tfl_none, tfl_str, tfl_list, Bool.true_and, Bool.and_true, Bool.false_and, Bool.and_false, Bool.true_or, Bool.or_true, Bool.false_or, Bool.or_false, Bool.not_true, Bool.not_false, Bool.false_eq_true, decide_true, decide_false, true_and, and_true, false_and, and_false, or_true, true_or, *])
end SB
namespace SQ
open PySem L2 PL MR SH
local macro_rules | `(tactic| walk_at "ev") => `(tactic| simp (config := {decide := true}) only [ini, fin, finI, sSeq, sNext, sAsg, sAsgG, sRet, sRetN, sDrop, sIf, sNever, sSetP, sAppP, sClrP, sRevP, fR, pmVar, pmIx, pmIxT, MR.putAt, OT.put, OT.at, gmName, gmTup, gmLst, gsNil, gsCons, rVar, rC, rOp, rUn, rCb, rCbZ, rOpZ, rCall, rAnd, rOr, rNot, rIf, rIs, rCh, rCh3, rTup, rLst, rSl, cNone, cSome, rRepr, dRepr, rInDct, rIdx, rIdxD, iR3s, small, qNil, qCons, qApp, lApp, bR, bAnd, bOr, bNot, tR, tD, tmAnd, tmOr, tmNot, yVar_eq, yMov, yR, yAuto, dY, yD, dR, dOp, dOpR, dCb, dAnd, dOr, dNot, yCall, yCallA, yCallI, yCallIT, yCb, yCbA, yOp, yOpA, lfO, yTup, yLst, oNil, oCons, isNo, lNil, lCons, asB, asInt, asL, asT, iL, iT, iE, iZ, iV, yRng1_eq, iR1_eq, iR2_eq, lcStep, calmAt, wipeE, rst, sApp, yPop_eq, sDPutM, ySortD, yDNew, gmName, toD_d, toD_tup, toD_lst, toDs_nil, toDs_cons, toDs_ints, toDs_fpr, toDs_prs, lfs_ints, lfs_fpr, intsO_len, prsO_len, fprO_len, rng_len, intsO_snoc, prsO_snoc, lstO_rg, rOpZ, rCbZ, isNo_lstO, toD_dnew, ySl, ySlA, neS_self, eqS_self,  rRevL, yRevL, yRevLA, yPop0, sExt, gStrI,  lstO_prs, lstO_ints, toD_lstO, kp_int, kp_bool, kp_tuple, kp_list, kp_str, isIntB, isBoolB, isTupB, isListB, isStrB, gAdd_i, gSub_i, gLt_i, gLe_i, gGt_i, gGe_i, gMul_r, gMul_l, gMod_i, gDiv_i, gPow_i, gNeg, gEqI, gNeI, gEqS, gNeS, gIsN, gNotN, gIsB, gNotB, gIxL, gIxT, gLen, gMax2, gMin2, gInt, gAll, asBools_map, isN, OT.lf, OT.lfs, flat, atI_0, atI_1, ixN_0, ixN_1, rgD_len, enumD_len, trues_len, Int.toNat_natCast, List.length_map, eq_self, Option.bind_some, Option.bind_none, Option.map_some, Option.map_none, List.getElem?_cons_zero, List.getElem?_cons_succ, List.set_cons_zero, List.set_cons_succ, List.map_cons, List.map_nil, List.replicate, List.nil_append, List.cons_append, List.length_cons, List.length_nil, List.all_cons, List.all_nil, if_true, if_false, reduceIte, tfl_int, tfl_bool, tfl_none, tfl_str, tfl_list, Bool.true_and, Bool.and_true, Bool.false_and, Bool.and_false, Bool.true_or, Bool.or_true, Bool.false_or, Bool.or_false, Bool.not_true, Bool.not_false, Bool.false_eq_true, decide_true, decide_false, true_and, and_true, false_and, and_false, or_true, true_or, *])
/-! the law's made web -/
/-! the law's made web, told -/
end SQ
namespace SF
open PySem L2 PL MR SH SQ
local macro_rules | `(tactic| walk_at "ev") => `(tactic| simp (config := {decide := true}) only [ini, fin, finI, sSeq, sNext, sAsg, sAsgG, sRet, sRetN, sDrop, sIf, sNever, sSetP, sAppP, sClrP, sRevP, fR, pmVar, pmIx, pmIxT, MR.putAt, OT.put, OT.at, gmName, gmTup, gmLst, gsNil, gsCons, rVar, rC, rOp, rUn, rCb, rCbZ, rOpZ, rCall, rAnd, rOr, rNot, rIf, rIs, rCh, rCh3, rTup, rLst, rSl, cNone, cSome, rRepr, dRepr, rInDct, rIdx, rIdxD, iR3s, small, qNil, qCons, qApp, lApp, bR, bAnd, bOr, bNot, tR, tD, tmAnd, tmOr, tmNot, yVar_eq, yMov, yR, yAuto, dY, yD, dR, dOp, dOpR, dCb, dAnd, dOr, dNot, yCall, yCallA, yCallI, yCallIT, yCb, yCbA, yOp, yOpA, lfO, yTup, yLst, oNil, oCons, isNo, lNil, lCons, asB, asInt, asL, asT, iL, iT, iE, iZ, iV, yRng1_eq, iR1_eq, iR2_eq, lcStep, calmAt, wipeE, rst, sApp, yPop_eq, sDPutM, ySortD, yDNew, gmName, toD_d, toD_tup, toD_lst, toDs_nil, toDs_cons, toDs_ints, toDs_fpr, toDs_prs, lfs_ints, lfs_fpr, intsO_len, prsO_len, fprO_len, rng_len, intsO_snoc, prsO_snoc, lstO_rg, rOpZ, rCbZ, isNo_lstO, toD_dnew, ySl, ySlA, neS_self, eqS_self,  rRevL, yRevL, yRevLA, yPop0, sExt, gStrI,  lstO_prs, lstO_ints, toD_lstO, kp_int, kp_bool, kp_tuple, kp_list, kp_str, isIntB, isBoolB, isTupB, isListB, isStrB, gAdd_i, gSub_i, gLt_i, gLe_i, gGt_i, gGe_i, gMul_r, gMul_l, gMod_i, gDiv_i, gPow_i, gNeg, gEqI, gNeI, gEqS, gNeS, gIsN, gNotN, gIsB, gNotB, gIxL, gIxT, gLen, gMax2, gMin2, gInt, gAll, asBools_map, isN, OT.lf, OT.lfs, flat, atI_0, atI_1, ixN_0, ixN_1, rgD_len, enumD_len, trues_len, Int.toNat_natCast, List.length_map, eq_self, Option.bind_some, Option.bind_none, Option.map_some, Option.map_none, List.getElem?_cons_zero, List.getElem?_cons_succ, List.set_cons_zero, List.set_cons_succ, List.map_cons, List.map_nil, List.replicate, List.nil_append, List.cons_append, List.length_cons, List.length_nil, List.all_cons, List.all_nil, if_true, if_false, reduceIte, tfl_int, tfl_bool, tfl_none, tfl_str, tfl_list, Bool.true_and, Bool.and_true, Bool.false_and, Bool.and_false, Bool.true_or, Bool.or_true, Bool.false_or, Bool.or_false, Bool.not_true, Bool.not_false, Bool.false_eq_true, decide_true, decide_false, true_and, and_true, false_and, and_false, or_true, true_or, *])
/-! ### the set of numbers -/
/-! ### each row once -/
end SF
namespace SF
open PySem L2 PL MR SH SQ
local macro_rules | `(tactic| walk_at "ev") => `(tactic| simp (config := {decide := true}) only [ini, fin, finI, sSeq, sNext, sAsg, sAsgG, sRet, sRetN, sDrop, sIf, sNever, sSetP, sAppP, sClrP, sRevP, fR, pmVar, pmIx, pmIxT, MR.putAt, OT.put, OT.at, gmName, gmTup, gmLst, gsNil, gsCons, rVar, rC, rOp, rUn, rCb, rCbZ, rOpZ, rCall, rAnd, rOr, rNot, rIf, rIs, rCh, rCh3, rTup, rLst, rSl, cNone, cSome, rRepr, dRepr, rInDct, rIdx, rIdxD, iR3s, small, qNil, qCons, qApp, lApp, bR, bAnd, bOr, bNot, tR, tD, tmAnd, tmOr, tmNot, yVar_eq, yMov, yR, yAuto, dY, yD, dR, dOp, dOpR, dCb, dAnd, dOr, dNot, yCall, yCallA, yCallI, yCallIT, yCb, yCbA, yOp, yOpA, lfO, yTup, yLst, oNil, oCons, isNo, lNil, lCons, asB, asInt, asL, asT, iL, iT, iE, iZ, iV, yRng1_eq, iR1_eq, iR2_eq, lcStep, calmAt, wipeE, rst, sApp, yPop_eq, sDPutM, ySortD, yDNew, gmName, toD_d, toD_tup, toD_lst, toDs_nil, toDs_cons, toDs_ints, toDs_fpr, toDs_prs, lfs_ints, lfs_fpr, intsO_len, prsO_len, fprO_len, rng_len, intsO_snoc, prsO_snoc, lstO_rg, rOpZ, rCbZ, isNo_lstO, toD_dnew, ySl, ySlA, neS_self, eqS_self,  rRevL, yRevL, yRevLA, yPop0, sExt, gStrI,  lstO_prs, lstO_ints, toD_lstO, kp_int, kp_bool, kp_tuple, kp_list, kp_str, isIntB, isBoolB, isTupB, isListB, isStrB, gAdd_i, gSub_i, gLt_i, gLe_i, gGt_i, gGe_i, gMul_r, gMul_l, gMod_i, gDiv_i, gPow_i, gNeg, gEqI, gNeI, gEqS, gNeS, gIsN, gNotN, gIsB, gNotB, gIxL, gIxT, gLen, gMax2, gMin2, gInt, gAll, asBools_map, isN, OT.lf, OT.lfs, flat, atI_0, atI_1, ixN_0, ixN_1, rgD_len, enumD_len, trues_len, Int.toNat_natCast, List.length_map, eq_self, Option.bind_some, Option.bind_none, Option.map_some, Option.map_none, List.getElem?_cons_zero, List.getElem?_cons_succ, List.set_cons_zero, List.set_cons_succ, List.map_cons, List.map_nil, List.replicate, List.nil_append, List.cons_append, List.length_cons, List.length_nil, List.all_cons, List.all_nil, if_true, if_false, reduceIte, tfl_int, tfl_bool, tfl_none, tfl_str, tfl_list, Bool.true_and, Bool.and_true, Bool.false_and, Bool.and_false, Bool.true_or, Bool.or_true, Bool.false_or, Bool.or_false, Bool.not_true, Bool.not_false, Bool.false_eq_true, decide_true, decide_false, true_and, and_true, false_and, and_false, or_true, true_or, *])
end SF
namespace SF
open PySem L2 PL MR SH SQ
local macro_rules | `(tactic| walk_at "ev") => `(tactic| simp (config := {decide := true}) only [ini, fin, finI, sSeq, sNext, sAsg, sAsgG, sRet, sRetN, sDrop, sIf, sNever, sSetP, sAppP, sClrP, sRevP, fR, pmVar, pmIx, pmIxT, MR.putAt, OT.put, OT.at, gmName, gmTup, gmLst, gsNil, gsCons, rVar, rC, rOp, rUn, rCb, rCbZ, rOpZ, rCall, rAnd, rOr, rNot, rIf, rIs, rCh, rCh3, rTup, rLst, rSl, cNone, cSome, rRepr, dRepr, rInDct, rIdx, rIdxD, iR3s, small, qNil, qCons, qApp, lApp, bR, bAnd, bOr, bNot, tR, tD, tmAnd, tmOr, tmNot, yVar_eq, yMov, yR, yAuto, dY, yD, dR, dOp, dOpR, dCb, dAnd, dOr, dNot, yCall, yCallA, yCallI, yCallIT, yCb, yCbA, yOp, yOpA, lfO, yTup, yLst, oNil, oCons, isNo, lNil, lCons, asB, asInt, asL, asT, iL, iT, iE, iZ, iV, yRng1_eq, iR1_eq, iR2_eq, lcStep, calmAt, wipeE, rst, sApp, yPop_eq, sDPutM, ySortD, yDNew, gmName, toD_d, toD_tup, toD_lst, toDs_nil, toDs_cons, toDs_ints, toDs_fpr, toDs_prs, lfs_ints, lfs_fpr, intsO_len, prsO_len, fprO_len, rng_len, intsO_snoc, prsO_snoc, lstO_rg, rOpZ, rCbZ, isNo_lstO, toD_dnew, ySl, ySlA, neS_self, eqS_self,  rRevL, yRevL, yRevLA, yPop0, sExt, gStrI,  lstO_prs, lstO_ints, toD_lstO, kp_int, kp_bool, kp_tuple, kp_list, kp_str, isIntB, isBoolB, isTupB, isListB, isStrB, gAdd_i, gSub_i, gLt_i, gLe_i, gGt_i, gGe_i, gMul_r, gMul_l, gMod_i, gDiv_i, gPow_i, gNeg, gEqI, gNeI, gEqS, gNeS, gIsN, gNotN, gIsB, gNotB, gIxL, gIxT, gLen, gMax2, gMin2, gInt, gAll, asBools_map, isN, OT.lf, OT.lfs, flat, atI_0, atI_1, ixN_0, ixN_1, rgD_len, enumD_len, trues_len, Int.toNat_natCast, List.length_map, eq_self, Option.bind_some, Option.bind_none, Option.map_some, Option.map_none, List.getElem?_cons_zero, List.getElem?_cons_succ, List.set_cons_zero, List.set_cons_succ, List.map_cons, List.map_nil, List.replicate, List.nil_append, List.cons_append, List.length_cons, List.length_nil, List.all_cons, List.all_nil, if_true, if_false, reduceIte, tfl_int, tfl_bool, tfl_none, tfl_str, tfl_list, Bool.true_and, Bool.and_true, Bool.false_and, Bool.and_false, Bool.true_or, Bool.or_true, Bool.false_or, Bool.or_false, Bool.not_true, Bool.not_false, Bool.false_eq_true, decide_true, decide_false, true_and, and_true, false_and, and_false, or_true, true_or, *])
end SF
namespace SQ
open PySem L2 PL MR SH
local macro_rules | `(tactic| walk_at "ev") => `(tactic| simp (config := {decide := true}) only [ini, fin, finI, sSeq, sNext, sAsg, sAsgG, sRet, sRetN, sDrop, sIf, sNever, sSetP, sAppP, sClrP, sRevP, fR, pmVar, pmIx, pmIxT, MR.putAt, OT.put, OT.at, gmName, gmTup, gmLst, gsNil, gsCons, rVar, rC, rOp, rUn, rCb, rCbZ, rOpZ, rCall, rAnd, rOr, rNot, rIf, rIs, rCh, rCh3, rTup, rLst, rSl, cNone, cSome, rRepr, dRepr, rInDct, rIdx, rIdxD, iR3s, small, qNil, qCons, qApp, lApp, bR, bAnd, bOr, bNot, tR, tD, tmAnd, tmOr, tmNot, yVar_eq, yMov, yR, yAuto, dY, yD, dR, dOp, dOpR, dCb, dAnd, dOr, dNot, yCall, yCallA, yCallI, yCallIT, yCb, yCbA, yOp, yOpA, lfO, yTup, yLst, oNil, oCons, isNo, lNil, lCons, asB, asInt, asL, asT, iL, iT, iE, iZ, iV, yRng1_eq, iR1_eq, iR2_eq, lcStep, calmAt, wipeE, rst, sApp, yPop_eq, sDPutM, ySortD, yDNew, gmName, toD_d, toD_tup, toD_lst, toDs_nil, toDs_cons, toDs_ints, toDs_fpr, toDs_prs, lfs_ints, lfs_fpr, intsO_len, prsO_len, fprO_len, rng_len, intsO_snoc, prsO_snoc, lstO_rg, rOpZ, rCbZ, isNo_lstO, toD_dnew, ySl, ySlA, neS_self, eqS_self,  rRevL, yRevL, yRevLA, yPop0, sExt, gStrI,  lstO_prs, lstO_ints, toD_lstO, kp_int, kp_bool, kp_tuple, kp_list, kp_str, isIntB, isBoolB, isTupB, isListB, isStrB, gAdd_i, gSub_i, gLt_i, gLe_i, gGt_i, gGe_i, gMul_r, gMul_l, gMod_i, gDiv_i, gPow_i, gNeg, gEqI, gNeI, gEqS, gNeS, gIsN, gNotN, gIsB, gNotB, gIxL, gIxT, gLen, gMax2, gMin2, gInt, gAll, asBools_map, isN, OT.lf, OT.lfs, flat, atI_0, atI_1, ixN_0, ixN_1, rgD_len, enumD_len, trues_len, Int.toNat_natCast, List.length_map, eq_self, Option.bind_some, Option.bind_none, Option.map_some, Option.map_none, List.getElem?_cons_zero, List.getElem?_cons_succ, List.set_cons_zero, List.set_cons_succ, List.map_cons, List.map_nil, List.replicate, List.nil_append, List.cons_append, List.length_cons, List.length_nil, List.all_cons, List.all_nil, if_true, if_false, reduceIte, tfl_int, tfl_bool, tfl_none, tfl_str, tfl_list, Bool.true_and, Bool.and_true, Bool.false_and, Bool.and_false, Bool.true_or, Bool.or_true, Bool.false_or, Bool.or_false, Bool.not_true, Bool.not_false, Bool.false_eq_true, decide_true, decide_false, true_and, and_true, false_and, and_false, or_true, true_or, *])
/-! places by their rows -/
end SQ
namespace SQ
open PySem L2 PL MR SH
local macro_rules | `(tactic| walk_at "ev") => `(tactic| simp (config := {decide := true}) only [ini, fin, finI, sSeq, sNext, sAsg, sAsgG, sRet, sRetN, sDrop, sIf, sNever, sSetP, sAppP, sClrP, sRevP, fR, pmVar, pmIx, pmIxT, MR.putAt, OT.put, OT.at, gmName, gmTup, gmLst, gsNil, gsCons, rVar, rC, rOp, rUn, rCb, rCbZ, rOpZ, rCall, rAnd, rOr, rNot, rIf, rIs, rCh, rCh3, rTup, rLst, rSl, cNone, cSome, rRepr, dRepr, rInDct, rIdx, rIdxD, iR3s, small, qNil, qCons, qApp, lApp, bR, bAnd, bOr, bNot, tR, tD, tmAnd, tmOr, tmNot, yVar_eq, yMov, yR, yAuto, dY, yD, dR, dOp, dOpR, dCb, dAnd, dOr, dNot, yCall, yCallA, yCallI, yCallIT, yCb, yCbA, yOp, yOpA, lfO, yTup, yLst, oNil, oCons, isNo, lNil, lCons, asB, asInt, asL, asT, iL, iT, iE, iZ, iV, yRng1_eq, iR1_eq, iR2_eq, lcStep, calmAt, wipeE, rst, sApp, yPop_eq, sDPutM, ySortD, yDNew, gmName, toD_d, toD_tup, toD_lst, toDs_nil, toDs_cons, toDs_ints, toDs_fpr, toDs_prs, lfs_ints, lfs_fpr, intsO_len, prsO_len, fprO_len, rng_len, intsO_snoc, prsO_snoc, lstO_rg, rOpZ, rCbZ, isNo_lstO, toD_dnew, ySl, ySlA, neS_self, eqS_self,  rRevL, yRevL, yRevLA, yPop0, sExt, gStrI,  lstO_prs, lstO_ints, toD_lstO, kp_int, kp_bool, kp_tuple, kp_list, kp_str, isIntB, isBoolB, isTupB, isListB, isStrB, gAdd_i, gSub_i, gLt_i, gLe_i, gGt_i, gGe_i, gMul_r, gMul_l, gMod_i, gDiv_i, gPow_i, gNeg, gEqI, gNeI, gEqS, gNeS, gIsN, gNotN, gIsB, gNotB, gIxL, gIxT, gLen, gMax2, gMin2, gInt, gAll, asBools_map, isN, OT.lf, OT.lfs, flat, atI_0, atI_1, ixN_0, ixN_1, rgD_len, enumD_len, trues_len, Int.toNat_natCast, List.length_map, eq_self, Option.bind_some, Option.bind_none, Option.map_some, Option.map_none, List.getElem?_cons_zero, List.getElem?_cons_succ, List.set_cons_zero, List.set_cons_succ, List.map_cons, List.map_nil, List.replicate, List.nil_append, List.cons_append, List.length_cons, List.length_nil, List.all_cons, List.all_nil, if_true, if_false, reduceIte, tfl_int, tfl_bool, tfl_none, tfl_str, tfl_list, Bool.true_and, Bool.and_true, Bool.false_and, Bool.and_false, Bool.true_or, Bool.or_true, Bool.false_or, Bool.or_false, Bool.not_true, Bool.not_false, Bool.false_eq_true, decide_true, decide_false, true_and, and_true, false_and, and_false, or_true, true_or, *])
end SQ
namespace SF
open PySem L2 PL MR SH SQ
/-! ### pure: what the made web's factoring is -/
end SF
namespace SQ
open PySem L2 PL MR SH
local macro_rules | `(tactic| walk_at "ev") => `(tactic| simp (config := {decide := true}) only [ini, fin, finI, sSeq, sNext, sAsg, sAsgG, sRet, sRetN, sDrop, sIf, sNever, sSetP, sAppP, sClrP, sRevP, fR, pmVar, pmIx, pmIxT, MR.putAt, OT.put, OT.at, gmName, gmTup, gmLst, gsNil, gsCons, rVar, rC, rOp, rUn, rCb, rCbZ, rOpZ, rCall, rAnd, rOr, rNot, rIf, rIs, rCh, rCh3, rTup, rLst, rSl, cNone, cSome, rRepr, dRepr, rInDct, rIdx, rIdxD, iR3s, small, qNil, qCons, qApp, lApp, bR, bAnd, bOr, bNot, tR, tD, tmAnd, tmOr, tmNot, yVar_eq, yMov, yR, yAuto, dY, yD, dR, dOp, dOpR, dCb, dAnd, dOr, dNot, yCall, yCallA, yCallI, yCallIT, yCb, yCbA, yOp, yOpA, lfO, yTup, yLst, oNil, oCons, isNo, lNil, lCons, asB, asInt, asL, asT, iL, iT, iE, iZ, iV, yRng1_eq, iR1_eq, iR2_eq, lcStep, calmAt, wipeE, rst, sApp, yPop_eq, sDPutM, ySortD, yDNew, gmName, toD_d, toD_tup, toD_lst, toDs_nil, toDs_cons, toDs_ints, toDs_fpr, toDs_prs, lfs_ints, lfs_fpr, intsO_len, prsO_len, fprO_len, rng_len, intsO_snoc, prsO_snoc, lstO_rg, rOpZ, rCbZ, isNo_lstO, toD_dnew, ySl, ySlA, neS_self, eqS_self,  rRevL, yRevL, yRevLA, yPop0, sExt, gStrI,  lstO_prs, lstO_ints, toD_lstO, kp_int, kp_bool, kp_tuple, kp_list, kp_str, isIntB, isBoolB, isTupB, isListB, isStrB, gAdd_i, gSub_i, gLt_i, gLe_i, gGt_i, gGe_i, gMul_r, gMul_l, gMod_i, gDiv_i, gPow_i, gNeg, gEqI, gNeI, gEqS, gNeS, gIsN, gNotN, gIsB, gNotB, gIxL, gIxT, gLen, gMax2, gMin2, gInt, gAll, asBools_map, isN, OT.lf, OT.lfs, flat, atI_0, atI_1, ixN_0, ixN_1, rgD_len, enumD_len, trues_len, Int.toNat_natCast, List.length_map, eq_self, Option.bind_some, Option.bind_none, Option.map_some, Option.map_none, List.getElem?_cons_zero, List.getElem?_cons_succ, List.set_cons_zero, List.set_cons_succ, List.map_cons, List.map_nil, List.replicate, List.nil_append, List.cons_append, List.length_cons, List.length_nil, List.all_cons, List.all_nil, if_true, if_false, reduceIte, tfl_int, tfl_bool, tfl_none, tfl_str, tfl_list, Bool.true_and, Bool.and_true, Bool.false_and, Bool.and_false, Bool.true_or, Bool.or_true, Bool.false_or, Bool.or_false, Bool.not_true, Bool.not_false, Bool.false_eq_true, decide_true, decide_false, true_and, and_true, false_and, and_false, or_true, true_or, *])
/-! webs that are drawn whole hang together: a tree is among the ties -/
end SQ
namespace SB
open PySem L2 PL MR SH BF
local macro_rules | `(tactic| walk_at "ev") => `(tactic| simp (config := {decide := true}) only [ini, fin, finI, sSeq, sNext, sAsg, sAsgG, sRet, sRetN, sDrop, sIf, sNever, sSetP, sAppP, sClrP, sRevP, fR, pmVar, pmIx, pmIxT, MR.putAt, OT.put, OT.at, gmName, gmTup, gmLst, gsNil, gsCons, rVar, rC, rOp, rUn, rCb, rCbZ, rOpZ, rCall, rAnd, rOr, rNot, rIf, rIs, rCh, rCh3, rTup, rLst, rSl, cNone, cSome, rRepr, dRepr, rInDct, rIdx, rIdxD, iR3s, small, qNil, qCons, qApp, lApp, bR, bAnd, bOr, bNot, tR, tD, tmAnd, tmOr, tmNot, yVar_eq, yMov, yR, yAuto, dY, yD, dR, dOp, dOpR, dCb, dAnd, dOr, dNot, yCall, yCallA, yCallI, yCallIT, yCb, yCbA, yOp, yOpA, lfO, yTup, yLst, oNil, oCons, isNo, lNil, lCons, asB, asInt, asL, asT, iL, iT, iE, iZ, iV, yRng1_eq, iR1_eq, iR2_eq, lcStep, calmAt, wipeE, rst, sApp, yPop_eq, sDPutM, ySortD, yDNew, gmName, toD_d, toD_tup, toD_lst, toDs_nil, toDs_cons, toDs_ints, toDs_fpr, toDs_prs, lfs_ints, lfs_fpr, intsO_len, prsO_len, fprO_len, rng_len, intsO_snoc, prsO_snoc, lstO_rg, rOpZ, rCbZ, isNo_lstO, toD_dnew, ySl, ySlA, neS_self, eqS_self,  rRevL, yRevL, yRevLA, yPop0, sExt, gStrI,  lstO_prs, lstO_ints, toD_lstO, kp_int, kp_bool, kp_tuple, kp_list, kp_str, isIntB, isBoolB, isTupB, isListB, isStrB, gAdd_i, gSub_i, gLt_i, gLe_i, gGt_i, gGe_i, gMul_r, gMul_l, gMod_i, gDiv_i, gPow_i, gNeg, gEqI, gNeI, gEqS, gNeS, gIsN, gNotN, gIsB, gNotB, gIxL, gIxT, gLen, gMax2, gMin2, gInt, gAll, asBools_map, isN, OT.lf, OT.lfs, flat, atI_0, atI_1, ixN_0, ixN_1, rgD_len, enumD_len, trues_len, Int.toNat_natCast, List.length_map, eq_self, Option.bind_some, Option.bind_none, Option.map_some, Option.map_none, List.getElem?_cons_zero, List.getElem?_cons_succ, List.set_cons_zero, List.set_cons_succ, List.map_cons, List.map_nil, List.replicate, List.nil_append, List.cons_append, List.length_cons, List.length_nil, List.all_cons, List.all_nil, if_true, if_false, reduceIte, tfl_int, tfl_bool, tfl_none, tfl_str, tfl_list, Bool.true_and, Bool.and_true, Bool.false_and, Bool.and_false, Bool.true_or, Bool.or_true, Bool.false_or, Bool.or_false, Bool.not_true, Bool.not_false, Bool.false_eq_true, decide_true, decide_false, true_and, and_true, false_and, and_false, or_true, true_or, *])
/-! ### distances: sums over the webs; webs called otherwise -/
end SB
namespace SB
open PySem L2 PL MR SH BF
local macro_rules | `(tactic| walk_at "ev") => `(tactic| simp (config := {decide := true}) only [ini, fin, finI, sSeq, sNext, sAsg, sAsgG, sRet, sRetN, sDrop, sIf, sNever, sSetP, sAppP, sClrP, sRevP, fR, pmVar, pmIx, pmIxT, MR.putAt, OT.put, OT.at, gmName, gmTup, gmLst, gsNil, gsCons, rVar, rC, rOp, rUn, rCb, rCbZ, rOpZ, rCall, rAnd, rOr, rNot, rIf, rIs, rCh, rCh3, rTup, rLst, rSl, cNone, cSome, rRepr, dRepr, rInDct, rIdx, rIdxD, iR3s, small, qNil, qCons, qApp, lApp, bR, bAnd, bOr, bNot, tR, tD, tmAnd, tmOr, tmNot, yVar_eq, yMov, yR, yAuto, dY, yD, dR, dOp, dOpR, dCb, dAnd, dOr, dNot, yCall, yCallA, yCallI, yCallIT, yCb, yCbA, yOp, yOpA, lfO, yTup, yLst, oNil, oCons, isNo, lNil, lCons, asB, asInt, asL, asT, iL, iT, iE, iZ, iV, yRng1_eq, iR1_eq, iR2_eq, lcStep, calmAt, wipeE, rst, sApp, yPop_eq, sDPutM, ySortD, yDNew, gmName, toD_d, toD_tup, toD_lst, toDs_nil, toDs_cons, toDs_ints, toDs_fpr, toDs_prs, lfs_ints, lfs_fpr, intsO_len, prsO_len, fprO_len, rng_len, intsO_snoc, prsO_snoc, lstO_rg, rOpZ, rCbZ, isNo_lstO, toD_dnew, ySl, ySlA, neS_self, eqS_self,  rRevL, yRevL, yRevLA, yPop0, sExt, gStrI,  lstO_prs, lstO_ints, toD_lstO, kp_int, kp_bool, kp_tuple, kp_list, kp_str, isIntB, isBoolB, isTupB, isListB, isStrB, gAdd_i, gSub_i, gLt_i, gLe_i, gGt_i, gGe_i, gMul_r, gMul_l, gMod_i, gDiv_i, gPow_i, gNeg, gEqI, gNeI, gEqS, gNeS, gIsN, gNotN, gIsB, gNotB, gIxL, gIxT, gLen, gMax2, gMin2, gInt, gAll, asBools_map, isN, OT.lf, OT.lfs, flat, atI_0, atI_1, ixN_0, ixN_1, rgD_len, enumD_len, trues_len, Int.toNat_natCast, List.length_map, eq_self, Option.bind_some, Option.bind_none, Option.map_some, Option.map_none, List.getElem?_cons_zero, List.getElem?_cons_succ, List.set_cons_zero, List.set_cons_succ, List.map_cons, List.map_nil, List.replicate, List.nil_append, List.cons_append, List.length_cons, List.length_nil, List.all_cons, List.all_nil, if_true, if_false, reduceIte, tfl_int, tfl_bool, tfl_none, tfl_str, tfl_list, Bool.true_and, Bool.and_true, Bool.false_and, Bool.and_false, Bool.true_or, Bool.or_true, Bool.false_or, Bool.or_false, Bool.not_true, Bool.not_false, Bool.false_eq_true, decide_true, decide_false, true_and, and_true, false_and, and_false, or_true, true_or, *])
/-! ### sums over 0 .. n - 1 -/
def sm (f : Nat → Nat) : Nat → Nat
  | 0 => 0
  | n + 1 => sm f n + f n
/-! ### binomials -/
def ch : Nat → Nat → Nat
  | _, 0 => 1
  | 0, _ + 1 => 0
  | n + 1, k + 1 => ch n k + ch n (k + 1)
/-! ### walks -/
def wv (nb : Nat → List Nat) (a : Nat) : Nat → Nat → Nat
  | 0, q => if q = a then 1 else 0
  | k + 1, q => ((nb q).map (wv nb a k)).sum
end SB
namespace SB
open PySem L2 PL MR SH BF
local macro_rules | `(tactic| walk_at "ev") => `(tactic| simp (config := {decide := true}) only [ini, fin, finI, sSeq, sNext, sAsg, sAsgG, sRet, sRetN, sDrop, sIf, sNever, sSetP, sAppP, sClrP, sRevP, fR, pmVar, pmIx, pmIxT, MR.putAt, OT.put, OT.at, gmName, gmTup, gmLst, gsNil, gsCons, rVar, rC, rOp, rUn, rCb, rCbZ, rOpZ, rCall, rAnd, rOr, rNot, rIf, rIs, rCh, rCh3, rTup, rLst, rSl, cNone, cSome, rRepr, dRepr, rInDct, rIdx, rIdxD, iR3s, small, qNil, qCons, qApp, lApp, bR, bAnd, bOr, bNot, tR, tD, tmAnd, tmOr, tmNot, yVar_eq, yMov, yR, yAuto, dY, yD, dR, dOp, dOpR, dCb, dAnd, dOr, dNot, yCall, yCallA, yCallI, yCallIT, yCb, yCbA, yOp, yOpA, lfO, yTup, yLst, oNil, oCons, isNo, lNil, lCons, asB, asInt, asL, asT, iL, iT, iE, iZ, iV, yRng1_eq, iR1_eq, iR2_eq, lcStep, calmAt, wipeE, rst, sApp, yPop_eq, sDPutM, ySortD, yDNew, gmName, toD_d, toD_tup, toD_lst, toDs_nil, toDs_cons, toDs_ints, toDs_fpr, toDs_prs, lfs_ints, lfs_fpr, intsO_len, prsO_len, fprO_len, rng_len, intsO_snoc, prsO_snoc, lstO_rg, rOpZ, rCbZ, isNo_lstO, toD_dnew, ySl, ySlA, neS_self, eqS_self,  rRevL, yRevL, yRevLA, yPop0, sExt, gStrI,  lstO_prs, lstO_ints, toD_lstO, kp_int, kp_bool, kp_tuple, kp_list, kp_str, isIntB, isBoolB, isTupB, isListB, isStrB, gAdd_i, gSub_i, gLt_i, gLe_i, gGt_i, gGe_i, gMul_r, gMul_l, gMod_i, gDiv_i, gPow_i, gNeg, gEqI, gNeI, gEqS, gNeS, gIsN, gNotN, gIsB, gNotB, gIxL, gIxT, gLen, gMax2, gMin2, gInt, gAll, asBools_map, isN, OT.lf, OT.lfs, flat, atI_0, atI_1, ixN_0, ixN_1, rgD_len, enumD_len, trues_len, Int.toNat_natCast, List.length_map, eq_self, Option.bind_some, Option.bind_none, Option.map_some, Option.map_none, List.getElem?_cons_zero, List.getElem?_cons_succ, List.set_cons_zero, List.set_cons_succ, List.map_cons, List.map_nil, List.replicate, List.nil_append, List.cons_append, List.length_cons, List.length_nil, List.all_cons, List.all_nil, if_true, if_false, reduceIte, tfl_int, tfl_bool, tfl_none, tfl_str, tfl_list, Bool.true_and, Bool.and_true, Bool.false_and, Bool.and_false, Bool.true_or, Bool.or_true, Bool.false_or, Bool.or_false, Bool.not_true, Bool.not_false, Bool.false_eq_true, decide_true, decide_false, true_and, and_true, false_and, and_false, or_true, true_or, *])
/-! ### walks in two webs multiplied -/
end SB
namespace SB
open PySem L2 PL MR SH BF
local macro_rules | `(tactic| walk_at "ev") => `(tactic| simp (config := {decide := true}) only [ini, fin, finI, sSeq, sNext, sAsg, sAsgG, sRet, sRetN, sDrop, sIf, sNever, sSetP, sAppP, sClrP, sRevP, fR, pmVar, pmIx, pmIxT, MR.putAt, OT.put, OT.at, gmName, gmTup, gmLst, gsNil, gsCons, rVar, rC, rOp, rUn, rCb, rCbZ, rOpZ, rCall, rAnd, rOr, rNot, rIf, rIs, rCh, rCh3, rTup, rLst, rSl, cNone, cSome, rRepr, dRepr, rInDct, rIdx, rIdxD, iR3s, small, qNil, qCons, qApp, lApp, bR, bAnd, bOr, bNot, tR, tD, tmAnd, tmOr, tmNot, yVar_eq, yMov, yR, yAuto, dY, yD, dR, dOp, dOpR, dCb, dAnd, dOr, dNot, yCall, yCallA, yCallI, yCallIT, yCb, yCbA, yOp, yOpA, lfO, yTup, yLst, oNil, oCons, isNo, lNil, lCons, asB, asInt, asL, asT, iL, iT, iE, iZ, iV, yRng1_eq, iR1_eq, iR2_eq, lcStep, calmAt, wipeE, rst, sApp, yPop_eq, sDPutM, ySortD, yDNew, gmName, toD_d, toD_tup, toD_lst, toDs_nil, toDs_cons, toDs_ints, toDs_fpr, toDs_prs, lfs_ints, lfs_fpr, intsO_len, prsO_len, fprO_len, rng_len, intsO_snoc, prsO_snoc, lstO_rg, rOpZ, rCbZ, isNo_lstO, toD_dnew, ySl, ySlA, neS_self, eqS_self,  rRevL, yRevL, yRevLA, yPop0, sExt, gStrI,  lstO_prs, lstO_ints, toD_lstO, kp_int, kp_bool, kp_tuple, kp_list, kp_str, isIntB, isBoolB, isTupB, isListB, isStrB, gAdd_i, gSub_i, gLt_i, gLe_i, gGt_i, gGe_i, gMul_r, gMul_l, gMod_i, gDiv_i, gPow_i, gNeg, gEqI, gNeI, gEqS, gNeS, gIsN, gNotN, gIsB, gNotB, gIxL, gIxT, gLen, gMax2, gMin2, gInt, gAll, asBools_map, isN, OT.lf, OT.lfs, flat, atI_0, atI_1, ixN_0, ixN_1, rgD_len, enumD_len, trues_len, Int.toNat_natCast, List.length_map, eq_self, Option.bind_some, Option.bind_none, Option.map_some, Option.map_none, List.getElem?_cons_zero, List.getElem?_cons_succ, List.set_cons_zero, List.set_cons_succ, List.map_cons, List.map_nil, List.replicate, List.nil_append, List.cons_append, List.length_cons, List.length_nil, List.all_cons, List.all_nil, if_true, if_false, reduceIte, tfl_int, tfl_bool, tfl_none, tfl_str, tfl_list, Bool.true_and, Bool.and_true, Bool.false_and, Bool.and_false, Bool.true_or, Bool.or_true, Bool.false_or, Bool.or_false, Bool.not_true, Bool.not_false, Bool.false_eq_true, decide_true, decide_false, true_and, and_true, false_and, and_false, or_true, true_or, *])
/-! ### distances in a product, hanging together or not -/
/-! ### greatest and how many -/
def mx (xs : List Nat) : Nat := xs.foldr max 0
/-- how often each number stands in the list, from 0 to the greatest -/
def cnt (xs : List Nat) : List Nat := (List.range (mx xs + 1)).map fun k => xs.count k
end SB
namespace SC
open PySem L2 PL MR SH SB BF
local macro_rules | `(tactic| walk_at "ev") => `(tactic| simp (config := {decide := true}) only [ini, fin, finI, sSeq, sNext, sAsg, sAsgG, sRet, sRetN, sDrop, sIf, sNever, sSetP, sAppP, sClrP, sRevP, fR, pmVar, pmIx, pmIxT, MR.putAt, OT.put, OT.at, gmName, gmTup, gmLst, gsNil, gsCons, rVar, rC, rOp, rUn, rCb, rCbZ, rOpZ, rCall, rAnd, rOr, rNot, rIf, rIs, rCh, rCh3, rTup, rLst, rSl, cNone, cSome, rRepr, dRepr, rInDct, rIdx, rIdxD, iR3s, small, qNil, qCons, qApp, lApp, bR, bAnd, bOr, bNot, tR, tD, tmAnd, tmOr, tmNot, yVar_eq, yMov, yR, yAuto, dY, yD, dR, dOp, dOpR, dCb, dAnd, dOr, dNot, yCall, yCallA, yCallI, yCallIT, yCb, yCbA, yOp, yOpA, lfO, yTup, yLst, oNil, oCons, isNo, lNil, lCons, asB, asInt, asL, asT, iL, iT, iE, iZ, iV, yRng1_eq, iR1_eq, iR2_eq, lcStep, calmAt, wipeE, rst, sApp, yPop_eq, sDPutM, ySortD, yDNew, gmName, toD_d, toD_tup, toD_lst, toDs_nil, toDs_cons, toDs_ints, toDs_fpr, toDs_prs, lfs_ints, lfs_fpr, intsO_len, prsO_len, fprO_len, rng_len, intsO_snoc, prsO_snoc, lstO_rg, rOpZ, rCbZ, isNo_lstO, toD_dnew, ySl, ySlA, neS_self, eqS_self,  rRevL, yRevL, yRevLA, yPop0, sExt, gStrI,  lstO_prs, lstO_ints, toD_lstO, kp_int, kp_bool, kp_tuple, kp_list, kp_str, isIntB, isBoolB, isTupB, isListB, isStrB, gAdd_i, gSub_i, gLt_i, gLe_i, gGt_i, gGe_i, gMul_r, gMul_l, gMod_i, gDiv_i, gPow_i, gNeg, gEqI, gNeI, gEqS, gNeS, gIsN, gNotN, gIsB, gNotB, gIxL, gIxT, gLen, gMax2, gMin2, gInt, gAll, asBools_map, isN, OT.lf, OT.lfs, flat, atI_0, atI_1, ixN_0, ixN_1, rgD_len, enumD_len, trues_len, Int.toNat_natCast, List.length_map, eq_self, Option.bind_some, Option.bind_none, Option.map_some, Option.map_none, List.getElem?_cons_zero, List.getElem?_cons_succ, List.set_cons_zero, List.set_cons_succ, List.map_cons, List.map_nil, List.replicate, List.nil_append, List.cons_append, List.length_cons, List.length_nil, List.all_cons, List.all_nil, if_true, if_false, reduceIte, tfl_int, tfl_bool, tfl_none, tfl_str, tfl_list, Bool.true_and, Bool.and_true, Bool.false_and, Bool.and_false, Bool.true_or, Bool.or_true, Bool.false_or, Bool.or_false, Bool.not_true, Bool.not_false, Bool.false_eq_true, decide_true, decide_false, true_and, and_true, false_and, and_false, or_true, true_or, *])
end SC
namespace SC
open PySem L2 PL MR SH SB BF
local macro_rules | `(tactic| walk_at "ev") => `(tactic| simp (config := {decide := true}) only [ini, fin, finI, sSeq, sNext, sAsg, sAsgG, sRet, sRetN, sDrop, sIf, sNever, sSetP, sAppP, sClrP, sRevP, fR, pmVar, pmIx, pmIxT, MR.putAt, OT.put, OT.at, gmName, gmTup, gmLst, gsNil, gsCons, rVar, rC, rOp, rUn, rCb, rCbZ, rOpZ, rCall, rAnd, rOr, rNot, rIf, rIs, rCh, rCh3, rTup, rLst, rSl, cNone, cSome, rRepr, dRepr, rInDct, rIdx, rIdxD, iR3s, small, qNil, qCons, qApp, lApp, bR, bAnd, bOr, bNot, tR, tD, tmAnd, tmOr, tmNot, yVar_eq, yMov, yR, yAuto, dY, yD, dR, dOp, dOpR, dCb, dAnd, dOr, dNot, yCall, yCallA, yCallI, yCallIT, yCb, yCbA, yOp, yOpA, lfO, yTup, yLst, oNil, oCons, isNo, lNil, lCons, asB, asInt, asL, asT, iL, iT, iE, iZ, iV, yRng1_eq, iR1_eq, iR2_eq, lcStep, calmAt, wipeE, rst, sApp, yPop_eq, sDPutM, ySortD, yDNew, gmName, toD_d, toD_tup, toD_lst, toDs_nil, toDs_cons, toDs_ints, toDs_fpr, toDs_prs, lfs_ints, lfs_fpr, intsO_len, prsO_len, fprO_len, rng_len, intsO_snoc, prsO_snoc, lstO_rg, rOpZ, rCbZ, isNo_lstO, toD_dnew, ySl, ySlA, neS_self, eqS_self,  rRevL, yRevL, yRevLA, yPop0, sExt, gStrI,  lstO_prs, lstO_ints, toD_lstO, kp_int, kp_bool, kp_tuple, kp_list, kp_str, isIntB, isBoolB, isTupB, isListB, isStrB, gAdd_i, gSub_i, gLt_i, gLe_i, gGt_i, gGe_i, gMul_r, gMul_l, gMod_i, gDiv_i, gPow_i, gNeg, gEqI, gNeI, gEqS, gNeS, gIsN, gNotN, gIsB, gNotB, gIxL, gIxT, gLen, gMax2, gMin2, gInt, gAll, asBools_map, isN, OT.lf, OT.lfs, flat, atI_0, atI_1, ixN_0, ixN_1, rgD_len, enumD_len, trues_len, Int.toNat_natCast, List.length_map, eq_self, Option.bind_some, Option.bind_none, Option.map_some, Option.map_none, List.getElem?_cons_zero, List.getElem?_cons_succ, List.set_cons_zero, List.set_cons_succ, List.map_cons, List.map_nil, List.replicate, List.nil_append, List.cons_append, List.length_cons, List.length_nil, List.all_cons, List.all_nil, if_true, if_false, reduceIte, tfl_int, tfl_bool, tfl_none, tfl_str, tfl_list, Bool.true_and, Bool.and_true, Bool.false_and, Bool.and_false, Bool.true_or, Bool.or_true, Bool.false_or, Bool.or_false, Bool.not_true, Bool.not_false, Bool.false_eq_true, decide_true, decide_false, true_and, and_true, false_and, and_false, or_true, true_or, *])
/-- numbers of walks of none to k steps -/
def wl (w : Wb) (a b k : Nat) : List Nat := (List.range (k + 1)).map fun t => wv (nbN w) a t b
end SC
namespace SC
open PySem L2 PL MR SH SB BF
local macro_rules | `(tactic| walk_at "ev") => `(tactic| simp (config := {decide := true}) only [ini, fin, finI, sSeq, sNext, sAsg, sAsgG, sRet, sRetN, sDrop, sIf, sNever, sSetP, sAppP, sClrP, sRevP, fR, pmVar, pmIx, pmIxT, MR.putAt, OT.put, OT.at, gmName, gmTup, gmLst, gsNil, gsCons, rVar, rC, rOp, rUn, rCb, rCbZ, rOpZ, rCall, rAnd, rOr, rNot, rIf, rIs, rCh, rCh3, rTup, rLst, rSl, cNone, cSome, rRepr, dRepr, rInDct, rIdx, rIdxD, iR3s, small, qNil, qCons, qApp, lApp, bR, bAnd, bOr, bNot, tR, tD, tmAnd, tmOr, tmNot, yVar_eq, yMov, yR, yAuto, dY, yD, dR, dOp, dOpR, dCb, dAnd, dOr, dNot, yCall, yCallA, yCallI, yCallIT, yCb, yCbA, yOp, yOpA, lfO, yTup, yLst, oNil, oCons, isNo, lNil, lCons, asB, asInt, asL, asT, iL, iT, iE, iZ, iV, yRng1_eq, iR1_eq, iR2_eq, lcStep, calmAt, wipeE, rst, sApp, yPop_eq, sDPutM, ySortD, yDNew, gmName, toD_d, toD_tup, toD_lst, toDs_nil, toDs_cons, toDs_ints, toDs_fpr, toDs_prs, lfs_ints, lfs_fpr, intsO_len, prsO_len, fprO_len, rng_len, intsO_snoc, prsO_snoc, lstO_rg, rOpZ, rCbZ, isNo_lstO, toD_dnew, ySl, ySlA, neS_self, eqS_self,  rRevL, yRevL, yRevLA, yPop0, sExt, gStrI,  lstO_prs, lstO_ints, toD_lstO, kp_int, kp_bool, kp_tuple, kp_list, kp_str, isIntB, isBoolB, isTupB, isListB, isStrB, gAdd_i, gSub_i, gLt_i, gLe_i, gGt_i, gGe_i, gMul_r, gMul_l, gMod_i, gDiv_i, gPow_i, gNeg, gEqI, gNeI, gEqS, gNeS, gIsN, gNotN, gIsB, gNotB, gIxL, gIxT, gLen, gMax2, gMin2, gInt, gAll, asBools_map, isN, OT.lf, OT.lfs, flat, atI_0, atI_1, ixN_0, ixN_1, rgD_len, enumD_len, trues_len, Int.toNat_natCast, List.length_map, eq_self, Option.bind_some, Option.bind_none, Option.map_some, Option.map_none, List.getElem?_cons_zero, List.getElem?_cons_succ, List.set_cons_zero, List.set_cons_succ, List.map_cons, List.map_nil, List.replicate, List.nil_append, List.cons_append, List.length_cons, List.length_nil, List.all_cons, List.all_nil, if_true, if_false, reduceIte, tfl_int, tfl_bool, tfl_none, tfl_str, tfl_list, Bool.true_and, Bool.and_true, Bool.false_and, Bool.and_false, Bool.true_or, Bool.or_true, Bool.false_or, Bool.or_false, Bool.not_true, Bool.not_false, Bool.false_eq_true, decide_true, decide_false, true_and, and_true, false_and, and_false, or_true, true_or, *])
/-- place of the product of the first webs where the row's first places stand -/
def pl (ws : List Wb) (r : List Int) (i : Nat) : Nat := (numA (ws.take i) (r.take i)).toNat
end SC
namespace SB
open PySem L2 PL MR SH BF
local macro_rules | `(tactic| walk_at "ev") => `(tactic| simp (config := {decide := true}) only [ini, fin, finI, sSeq, sNext, sAsg, sAsgG, sRet, sRetN, sDrop, sIf, sNever, sSetP, sAppP, sClrP, sRevP, fR, pmVar, pmIx, pmIxT, MR.putAt, OT.put, OT.at, gmName, gmTup, gmLst, gsNil, gsCons, rVar, rC, rOp, rUn, rCb, rCbZ, rOpZ, rCall, rAnd, rOr, rNot, rIf, rIs, rCh, rCh3, rTup, rLst, rSl, cNone, cSome, rRepr, dRepr, rInDct, rIdx, rIdxD, iR3s, small, qNil, qCons, qApp, lApp, bR, bAnd, bOr, bNot, tR, tD, tmAnd, tmOr, tmNot, yVar_eq, yMov, yR, yAuto, dY, yD, dR, dOp, dOpR, dCb, dAnd, dOr, dNot, yCall, yCallA, yCallI, yCallIT, yCb, yCbA, yOp, yOpA, lfO, yTup, yLst, oNil, oCons, isNo, lNil, lCons, asB, asInt, asL, asT, iL, iT, iE, iZ, iV, yRng1_eq, iR1_eq, iR2_eq, lcStep, calmAt, wipeE, rst, sApp, yPop_eq, sDPutM, ySortD, yDNew, gmName, toD_d, toD_tup, toD_lst, toDs_nil, toDs_cons, toDs_ints, toDs_fpr, toDs_prs, lfs_ints, lfs_fpr, intsO_len, prsO_len, fprO_len, rng_len, intsO_snoc, prsO_snoc, lstO_rg, rOpZ, rCbZ, isNo_lstO, toD_dnew, ySl, ySlA, neS_self, eqS_self,  rRevL, yRevL, yRevLA, yPop0, sExt, gStrI,  lstO_prs, lstO_ints, toD_lstO, kp_int, kp_bool, kp_tuple, kp_list, kp_str, isIntB, isBoolB, isTupB, isListB, isStrB, gAdd_i, gSub_i, gLt_i, gLe_i, gGt_i, gGe_i, gMul_r, gMul_l, gMod_i, gDiv_i, gPow_i, gNeg, gEqI, gNeI, gEqS, gNeS, gIsN, gNotN, gIsB, gNotB, gIxL, gIxT, gLen, gMax2, gMin2, gInt, gAll, asBools_map, isN, OT.lf, OT.lfs, flat, atI_0, atI_1, ixN_0, ixN_1, rgD_len, enumD_len, trues_len, Int.toNat_natCast, List.length_map, eq_self, Option.bind_some, Option.bind_none, Option.map_some, Option.map_none, List.getElem?_cons_zero, List.getElem?_cons_succ, List.set_cons_zero, List.set_cons_succ, List.map_cons, List.map_nil, List.replicate, List.nil_append, List.cons_append, List.length_cons, List.length_nil, List.all_cons, List.all_nil, if_true, if_false, reduceIte, tfl_int, tfl_bool, tfl_none, tfl_str, tfl_list, Bool.true_and, Bool.and_true, Bool.false_and, Bool.and_false, Bool.true_or, Bool.or_true, Bool.false_or, Bool.or_false, Bool.not_true, Bool.not_false, Bool.false_eq_true, decide_true, decide_false, true_and, and_true, false_and, and_false, or_true, true_or, *])
section
variable {n : Nat} {nb : Nat → List Nat} (w : NbOk n nb)
include w
theorem farF_map {p : Nat} (hp : p < n) : farF nb p n = (List.range n).map (dst nb n p) := by
  apply List.ext_getElem?
  intro q
  by_cases h : q < n
  · rw [dst_at w hp h, List.getElem?_map, List.getElem?_range h]
    rfl
  · rw [List.getElem?_eq_none (by have := (far_is w hp).len; omega), List.getElem?_eq_none (by simp; omega)]
omit w in
theorem rch_split {p : Nat} : ∀ {k j : Nat}, rch nb p k j → ∀ i, i ≤ k → ∃ l, rch nb p i l ∧ rch nb l (k - i) j
  | 0, j, e, i, hi => by
    have : i = 0 := by omega
    subst this
    have e : j = p := e
    subst e
    exact ⟨j, rfl, rfl⟩
  | k + 1, j, ⟨l, h1, h2⟩, i, hi => by
    by_cases z : i = k + 1
    · subst z
      exact ⟨j, ⟨l, h1, h2⟩, by rw [Nat.sub_self]; rfl⟩
    · obtain ⟨l', a, b⟩ := rch_split h1 i (by omega)
      refine ⟨l', a, ?_⟩
      have e : k + 1 - i = (k - i) + 1 := by omega
      rw [e]
      exact ⟨l, b, h2⟩
theorem dst_lt {p q d : Nat} (hp : p < n) (hq : q < n) (h : dst nb n p q = some d) : d < n := by
  obtain ⟨h1, h2⟩ := (dst_some w hp hq).mp h
  have ex : ∀ i, i ≤ d → ∃ l, l < n ∧ dst nb n p l = some i := fun i hi => by
    obtain ⟨l, a, b⟩ := rch_split h1 i hi
    have hl := rch_in w hp a
    refine ⟨l, hl, (dst_some w hp hl).mpr ⟨a, fun e he => ?_⟩⟩
    have := h2 _ (rch_add he b)
    omega
  have ex2 : ∀ i, ∃ l, i ≤ d → l < n ∧ dst nb n p l = some i := fun i => by
    by_cases z : i ≤ d
    · obtain ⟨l, hl⟩ := ex i z; exact ⟨l, fun _ => hl⟩
    · exact ⟨0, fun y => (z y).elim⟩
  let f : Nat → Nat := fun i => (ex2 i).choose
  have hf : ∀ i, i ≤ d → f i < n ∧ dst nb n p (f i) = some i := fun i => (ex2 i).choose_spec
  have nd : ((List.range (d + 1)).map f).Nodup := by
    rw [List.Nodup, List.pairwise_map]
    refine List.Pairwise.imp_of_mem (fun {a b} ha hb ne e => ne ?_) List.nodup_range
    have a1 := (hf a (by have := List.mem_range.mp ha; omega)).2
    have b1 := (hf b (by have := List.mem_range.mp hb; omega)).2
    rw [e, b1] at a1
    exact (Option.some.inj a1).symm
  have := len_of_nodup (n := n) nd fun x hx => by
    obtain ⟨i, hi, rfl⟩ := List.mem_map.mp hx
    exact (hf i (by have := List.mem_range.mp hi; omega)).1
  rw [List.length_map, List.length_range] at this
  omega
end
/-! the operations over lists of numbers -/
end SB
namespace SA
open PySem L2 PL MR SH SQ SB BF
local macro_rules | `(tactic| walk_at "ev") => `(tactic| simp (config := {decide := true}) only [ini, fin, finI, sSeq, sNext, sAsg, sAsgG, sRet, sRetN, sDrop, sIf, sNever, sSetP, sAppP, sClrP, sRevP, fR, pmVar, pmIx, pmIxT, MR.putAt, OT.put, OT.at, gmName, gmTup, gmLst, gsNil, gsCons, rVar, rC, rOp, rUn, rCb, rCbZ, rOpZ, rCall, rAnd, rOr, rNot, rIf, rIs, rCh, rCh3, rTup, rLst, rSl, cNone, cSome, rRepr, dRepr, rInDct, rIdx, rIdxD, iR3s, small, qNil, qCons, qApp, lApp, bR, bAnd, bOr, bNot, tR, tD, tmAnd, tmOr, tmNot, yVar_eq, yMov, yR, yAuto, dY, yD, dR, dOp, dOpR, dCb, dAnd, dOr, dNot, yCall, yCallA, yCallI, yCallIT, yCb, yCbA, yOp, yOpA, lfO, yTup, yLst, oNil, oCons, isNo, lNil, lCons, asB, asInt, asL, asT, iL, iT, iE, iZ, iV, yRng1_eq, iR1_eq, iR2_eq, lcStep, calmAt, wipeE, rst, sApp, yPop_eq, sDPutM, ySortD, yDNew, gmName, toD_d, toD_tup, toD_lst, toDs_nil, toDs_cons, toDs_ints, toDs_fpr, toDs_prs, lfs_ints, lfs_fpr, intsO_len, prsO_len, fprO_len, rng_len, intsO_snoc, prsO_snoc, lstO_rg, rOpZ, rCbZ, isNo_lstO, toD_dnew, ySl, ySlA, neS_self, eqS_self,  rRevL, yRevL, yRevLA, yPop0, sExt, gStrI,  lstO_prs, lstO_ints, toD_lstO, kp_int, kp_bool, kp_tuple, kp_list, kp_str, isIntB, isBoolB, isTupB, isListB, isStrB, gAdd_i, gSub_i, gLt_i, gLe_i, gGt_i, gGe_i, gMul_r, gMul_l, gMod_i, gDiv_i, gPow_i, gNeg, gEqI, gNeI, gEqS, gNeS, gIsN, gNotN, gIsB, gNotB, gIxL, gIxT, gLen, gMax2, gMin2, gInt, gAll, asBools_map, isN, OT.lf, OT.lfs, flat, atI_0, atI_1, ixN_0, ixN_1, rgD_len, enumD_len, trues_len, Int.toNat_natCast, List.length_map, eq_self, Option.bind_some, Option.bind_none, Option.map_some, Option.map_none, List.getElem?_cons_zero, List.getElem?_cons_succ, List.set_cons_zero, List.set_cons_succ, List.map_cons, List.map_nil, List.replicate, List.nil_append, List.cons_append, List.length_cons, List.length_nil, List.all_cons, List.all_nil, if_true, if_false, reduceIte, tfl_int, tfl_bool, tfl_none, tfl_str, tfl_list, Bool.true_and, Bool.and_true, Bool.false_and, Bool.and_false, Bool.true_or, Bool.or_true, Bool.false_or, Bool.or_false, Bool.not_true, Bool.not_false, Bool.false_eq_true, decide_true, decide_false, true_and, and_true, false_and, and_false, or_true, true_or, *])
end SA
namespace z06
open PySem L2 PL MR SH SQ SB BF SA
local macro_rules | `(tactic| walk_at "ev") => `(tactic| simp (config := {decide := true}) only [ini, fin, finI, sSeq, sNext, sAsg, sAsgG, sRet, sRetN, sDrop, sIf, sNever, sSetP, sAppP, sClrP, sRevP, fR, pmVar, pmIx, pmIxT, MR.putAt, OT.put, OT.at, gmName, gmTup, gmLst, gsNil, gsCons, rVar, rC, rOp, rUn, rCb, rCbZ, rOpZ, rCall, rAnd, rOr, rNot, rIf, rIs, rCh, rCh3, rTup, rLst, rSl, cNone, cSome, rRepr, dRepr, rInDct, rIdx, rIdxD, iR3s, small, qNil, qCons, qApp, lApp, bR, bAnd, bOr, bNot, tR, tD, tmAnd, tmOr, tmNot, yVar_eq, yMov, yR, yAuto, dY, yD, dR, dOp, dOpR, dCb, dAnd, dOr, dNot, yCall, yCallA, yCallI, yCallIT, yCb, yCbA, yOp, yOpA, lfO, yTup, yLst, oNil, oCons, isNo, lNil, lCons, asB, asInt, asL, asT, iL, iT, iE, iZ, iV, yRng1_eq, iR1_eq, iR2_eq, lcStep, calmAt, wipeE, rst, sApp, yPop_eq, sDPutM, ySortD, yDNew, gmName, toD_d, toD_tup, toD_lst, toDs_nil, toDs_cons, toDs_ints, toDs_fpr, toDs_prs, lfs_ints, lfs_fpr, intsO_len, prsO_len, fprO_len, rng_len, intsO_snoc, prsO_snoc, lstO_rg, rOpZ, rCbZ, isNo_lstO, toD_dnew, ySl, ySlA, neS_self, eqS_self,  rRevL, yRevL, yRevLA, yPop0, sExt, gStrI,  lstO_prs, lstO_ints, toD_lstO, kp_int, kp_bool, kp_tuple, kp_list, kp_str, isIntB, isBoolB, isTupB, isListB, isStrB, gAdd_i, gSub_i, gLt_i, gLe_i, gGt_i, gGe_i, gMul_r, gMul_l, gMod_i, gDiv_i, gPow_i, gNeg, gEqI, gNeI, gEqS, gNeS, gIsN, gNotN, gIsB, gNotB, gIxL, gIxT, gLen, gMax2, gMin2, gInt, gAll, asBools_map, isN, OT.lf, OT.lfs, flat, atI_0, atI_1, ixN_0, ixN_1, rgD_len, enumD_len, trues_len, Int.toNat_natCast, List.length_map, eq_self, Option.bind_some, Option.bind_none, Option.map_some, Option.map_none, List.getElem?_cons_zero, List.getElem?_cons_succ, List.set_cons_zero, List.set_cons_succ, List.map_cons, List.map_nil, List.replicate, List.nil_append, List.cons_append, List.length_cons, List.length_nil, List.all_cons, List.all_nil, if_true, if_false, reduceIte, tfl_int, tfl_bool, tfl_none, tfl_str, tfl_list, Bool.true_and, Bool.and_true, Bool.false_and, Bool.and_false, Bool.true_or, Bool.or_true, Bool.false_or, Bool.or_false, Bool.not_true, Bool.not_false, Bool.false_eq_true, decide_true, decide_false, true_and, and_true, false_and, and_false, or_true, true_or, *])
section
variable {n : Nat} {nb : Nat → List Nat}
noncomputable def pc (nb : Nat → List Nat) (n p : Nat) : List Nat := (List.range n).filter fun q => (dst nb n p q).isSome
theorem pc_mem {p q : Nat} : q ∈ pc nb n p ↔ q < n ∧ (dst nb n p q).isSome = true := by simp [pc]
theorem pc_rise (p : Nat) : (pc nb n p).Pairwise (· < ·) := List.pairwise_lt_range.sublist List.filter_sublist
theorem pc_len (p : Nat) : (pc nb n p).length ≤ n := by
  have := List.length_filter_le (fun q => (dst nb n p q).isSome) (List.range n)
  simpa [pc] using this
variable (k : NbOk n nb)
include k
theorem pc_self {p : Nat} (hp : p < n) : p ∈ pc nb n p := pc_mem.mpr ⟨hp, by rw [dst_self k hp]; rfl⟩
theorem pc_sym {p q : Nat} (hp : p < n) (h : q ∈ pc nb n p) : p ∈ pc nb n q := by
  obtain ⟨h1, h2⟩ := pc_mem.mp h
  exact pc_mem.mpr ⟨hp, by rw [dst_sym k h1 hp]; exact h2⟩
theorem pc_trans {p q r : Nat} (hp : p < n) (h : q ∈ pc nb n p) (h2 : r ∈ pc nb n q) : r ∈ pc nb n p := by
  obtain ⟨a1, a2⟩ := pc_mem.mp h
  obtain ⟨b1, b2⟩ := pc_mem.mp h2
  obtain ⟨s, hs⟩ := Option.isSome_iff_exists.mp a2
  obtain ⟨t, ht⟩ := Option.isSome_iff_exists.mp b2
  obtain ⟨u, _, hu⟩ := dst_tri k hp a1 b1 hs ht
  exact pc_mem.mpr ⟨b1, by rw [hu]; rfl⟩
theorem pc_eq {p q : Nat} (hp : p < n) (h : q ∈ pc nb n p) : pc nb n q = pc nb n p := by
  have hq := (pc_mem.mp h).1
  have hs := pc_sym k hp h
  unfold pc
  refine List.filter_congr fun r hr => ?_
  have hr : r < n := List.mem_range.mp hr
  apply Bool.eq_iff_iff.mpr
  constructor
  · intro z
    exact (pc_mem.mp (pc_trans k hp h (pc_mem.mpr ⟨hr, z⟩))).2
  · intro z
    exact (pc_mem.mp (pc_trans k hq hs (pc_mem.mpr ⟨hr, z⟩))).2
theorem pc_cons {p : Nat} (hp : p < n) : ∃ m ms, pc nb n p = m :: ms ∧ (m = p ↔ ∀ q, q < p → p ∉ pc nb n q) := by
  have hs := pc_self k hp
  have hr := pc_rise (nb := nb) (n := n) p
  cases e : pc nb n p with
  | nil => rw [e] at hs; cases hs
  | cons m ms =>
    rw [e] at hr
    have hm : m ∈ pc nb n p := by rw [e]; exact List.mem_cons_self
    refine ⟨m, ms, rfl, fun z q hq hz => ?_, fun z => ?_⟩
    · subst z
      have hqn : q < n := by omega
      have := pc_sym k hqn hz
      rw [e] at this
      rcases List.mem_cons.mp this with y | y
      · omega
      · have := List.rel_of_pairwise_cons hr y
        omega
    · rw [e] at hs
      rcases List.mem_cons.mp hs with y | y
      · exact y.symm
      · have lt := List.rel_of_pairwise_cons hr y
        exact absurd (pc_sym k hp hm) (z m lt)
end
noncomputable def hd (nb : Nat → List Nat) (n p : Nat) : Bool := decide ((pc nb n p).head? = some p)
noncomputable def ps (nb : Nat → List Nat) (n : Nat) : List (List Nat) := ((List.range n).filter (hd nb n)).map (pc nb n)
theorem hd_iff {n : Nat} {nb : Nat → List Nat} (k : NbOk n nb) {p : Nat} (hp : p < n) : hd nb n p = true ↔ ∀ q, q < p → p ∉ pc nb n q := by
  obtain ⟨m, ms, e, h⟩ := pc_cons k hp
  unfold hd
  rw [e, decide_eq_true_eq, ← h]
  simp
theorem take_fil {c : Nat → Bool} {f : Nat → List Nat} {n i : Nat} (hi : i < n) : ((List.range (i + 1)).filter c).map f = ((List.range i).filter c).map f ++ (if c i then [f i] else []) := by
  rw [List.range_succ, List.filter_append, List.map_append]
  by_cases h : c i = true
  · simp [h]
  · simp [h]
theorem law_pieces_ok {w : Wb} (h : WbOk w) : m__law_pieces [wbD w] = some (.nd .lst ((ps (nbN w) w.1).map fun xs => .d (natsD xs))) := by
  have k := nb_ok h
  have f1 := SA.law_beside_ok h
  have tb := toD_besA w
  have lfb : (besA w).lf = true := by
    have : ∀ ks : List Nat, OT.lfs (ks.map fun k => OT.nd .lst (natsO (nbN w k))) = true := by
      intro ks
      induction ks with
      | nil => simp [OT.lfs]
      | cons a ks ih =>
        have l0 : ∀ xs : List Nat, OT.lfs (natsO xs) = true := by
          intro xs
          induction xs with
          | nil => simp [OT.lfs, natsO]
          | cons x xs ih => simp [OT.lfs, OT.lf, natsO, tfl_int] at ih ⊢; exact ih
        rw [List.map_cons]
        simp only [OT.lfs, OT.lf, l0, Bool.true_and]
        exact ih
    exact this _
  have hn := h.hi
  have c1 := rg1_n (n := w.1) (by omega)
  rw [rgD0] at c1
  have ff := fun p hp => SA.far_ok k (p := p) hp
  obtain ⟨n, ts⟩ := w
  simp only at *
  rw [wbD_eq] at f1 ⊢
  simp only at f1 ⊢
  generalize PyData.list (ts.map pairD) = TL at *
  generalize nbN (n, ts) = nb at *
  generalize besA (n, ts) = BA at *
  generalize besN n nb = BD at *
  unfold m__law_pieces B__law_pieces
  refine fin_eq ?_
  refine w_st (ρ1 := [.d (.tuple [.int (n : Nat), TL]), BA, .no, .no, .no, .no, .no]) (by clear ff; walk_at "ev" <;> exact rfl) ?_
  refine w_st (ρ1 := [.d (.tuple [.int (n : Nat), TL]), BA, .nd .lst [], .no, .no, .no, .no]) (by clear ff; walk_at "ev" <;> exact rfl) ?_
  refine w_seq (w_forT (fun i ρ => ∃ X3 X4 X5, ρ = [.d (.tuple [.int (n : Nat), TL]), BA, .nd .lst ((((List.range i).filter (hd nb n)).map (pc nb n)).map fun xs => .d (natsD xs)), X3, X4, X5, .no]) (as := List.range n) (enc := fun k : Nat => PyData.int (k : Int)) (ρ1 := [.d (.tuple [.int (n : Nat), TL]), BA, .nd .lst [], .no, .no, .no, .no]) (by clear ff; walk_at "ev" <;> exact rfl) ⟨_, _, _, rfl⟩ (fun i p ρ2 hp hs => ?_) ?_)
  · obtain ⟨X3, X4, X5, rfl⟩ := hs
    obtain ⟨hi, rfl⟩ : i < n ∧ i = p := by
      obtain ⟨h1, h2⟩ := List.getElem?_eq_some_iff.mp hp
      simp at h1 h2
      exact ⟨h1, h2⟩
    have g := ff i hi
    have fl : ∀ q, q < n → atI ((farF nb i n).map oD) (q : Int) = some (oD (dst nb n i q)) := fun q hq => by
      refine atI_at ?_
      rw [List.getElem?_map, dst_at k hi hq]
      rfl
    have tf := toDs_far (farF nb i n)
    have lf := lf_far (farF nb i n)
    clear ff
    generalize (farF nb i n).map oD = FD at *
    generalize farO (farF nb i n) = FO at *
    refine ⟨[.d (.tuple [.int (n : Nat), TL]), BA, .nd .lst ((((List.range i).filter (hd nb n)).map (pc nb n)).map fun xs => .d (natsD xs)), .d (.int (i : Nat)), X4, X5, .no], rfl, ?_⟩
    have tk := take_fil (c := hd nb n) (f := pc nb n) hi
    have lac : ((((List.range i).filter (hd nb n)).map (pc nb n)).map fun xs => OT.d (natsD xs)).length ≤ 1000000 := by
      rw [List.length_map, List.length_map]
      have := List.length_filter_le (hd nb n) (List.range i)
      simp at this
      omega
    rw [tk, List.map_append]
    clear tk
    generalize (((List.range i).filter (hd nb n)).map (pc nb n)).map (fun xs => OT.d (natsD xs)) = AC at *
    refine w_st (ρ1 := [.d (.tuple [.int (n : Nat), TL]), BA, .nd .lst AC, .d (.int (i : Nat)), .nd .lst FO, X5, .no]) (by clear fl; walk_at "ev" <;> exact rfl) ?_
    clear g
    refine w_seq (w_asg (w_lcfT (fun q : Nat => if (dst nb n i q).isSome then some (OT.d (.int (q : Nat))) else Option.none) (as := List.range n) (enc := fun q : Nat => PyData.int (q : Int)) (ρ1 := [.d (.tuple [.int (n : Nat), TL]), BA, .nd .lst AC, .d (.int (i : Nat)), .nd .lst FO, X5, .no]) (by clear fl; walk_at "ev" <;> exact rfl) rfl (by simp; omega) (fun q hq => ?_) ?_))
    · have fq := fl q (List.mem_range.mp hq)
      clear fl
      cases hdq : dst nb n i q with
      | none =>
        rw [hdq] at fq
        have fq : atI FD (q : Int) = some .none := fq
        clear hdq
        refine W.of (by walk_at "ev" <;> exact rfl) ?_
        exact ⟨rfl, rfl⟩
      | some d =>
        rw [hdq] at fq
        have fq : atI FD (q : Int) = some (.int (d : Nat)) := fq
        clear hdq
        refine W.of (by walk_at "ev" <;> exact rfl) ?_
        exact ⟨rfl, rfl⟩
    rw [natsO_fm fun q => (dst nb n i q).isSome, show intsO (((List.range n).filter fun q => (dst nb n i q).isSome).map fun (k : Nat) => (k : Int)) = natsO (pc nb n i) by simp [intsO, natsO, pc]]
    simp only [sqK, rst, wipeE, List.set_cons_zero, List.set_cons_succ, List.getElem?_cons_zero, List.getElem?_cons_succ]
    clear fl
    obtain ⟨m, ms, em, _⟩ := pc_cons k hi
    have tn := toDs_nats (pc nb n i)
    have a0 : atI ((pc nb n i).map fun j => PyData.int (j : Nat)) 0 = some (.int (m : Nat)) := by rw [em, List.map_cons]; exact atI_0 _ _
    have hh : hd nb n i = decide (m = i) := by unfold hd; rw [em]; simp
    have en : natsD (pc nb n i) = .list ((pc nb n i).map fun j => PyData.int (j : Nat)) := rfl
    rw [hh]
    have k' := k
    clear k hh em
    by_cases c : m = i
    · have c' : decide ((m : Int) = (i : Int)) = true := by rw [decide_eq_true_eq]; omega
      rw [if_pos (by rw [decide_eq_true_eq]; exact c)]
      clear c
      simp only [List.map_cons, List.map_nil]
      rw [en]
      clear en
      generalize (pc nb n i).map (fun j => PyData.int (j : Nat)) = PD at *
      generalize natsO (pc nb n i) = PO at *
      refine w_if (c := true) (by walk_at "ev" <;> exact rfl) (fun _ => ?_) (fun z => by cases z)
      refine W.of (r := .nx) (by walk_at "ev" <;> exact rfl) ?_
      exact ⟨_, _, _, rfl⟩
    · have c' : decide ((m : Int) = (i : Int)) = false := by rw [decide_eq_false_iff_not]; omega
      rw [if_neg (by rw [decide_eq_true_eq]; exact c)]
      clear c
      simp only [List.map_nil, List.append_nil]
      clear en
      generalize (pc nb n i).map (fun j => PyData.int (j : Nat)) = PD at *
      generalize natsO (pc nb n i) = PO at *
      refine w_if (c := false) (by walk_at "ev" <;> exact rfl) (fun z => by cases z) (fun _ => ?_)
      exact w_next ⟨_, _, _, rfl⟩
  · rintro ρ2 ⟨X3, X4, X5, rfl⟩
    rw [List.length_range]
    clear ff
    exact w_end (by walk_at "ev" <;> exact rfl) rfl rfl
end z06
namespace MR
open PySem L2 PL
def fwK (P : Env → Prop) : Fl → Env → Prop
  | .nx, ρ => P ρ
  | .ct, ρ => P ρ
  | _, _ => False
theorem w_forW (I : Nat → Env → Prop) {i x : Nat} {b : Sm} {ρ : Env} {ts : List OT} {Q : Fl → Env → Prop} (h : ρ[i]? = some (.nd .lst ts)) (h0 : I 0 ρ)
    (hs : ∀ k ρ2, k < ts.length → I k ρ2 → x < ρ2.length ∧ ∃ us t, ρ2[i]? = some (.nd .lst us) ∧ us[k]? = some t ∧ W b ((ρ2.set i .no).set x t) (fwK (fun ρ3 => ∃ t', ρ3[x]? = some t' ∧ I (k + 1) ((ρ3.set x .no).set i (.nd .lst ((us.set k .no).set k t'))))))
    (hq : ∀ ρ2, I ts.length ρ2 → Q .nx ρ2) : W (sForW i x b) ρ Q := by
  have gen : ∀ (m k : Nat) (ρ2 : Env), k + m = ts.length → I k ρ2 → ∃ fl ρ', mForW i x b k m ρ2 = some (fl, ρ') ∧ Q fl ρ' := by
    intro m
    induction m with
    | zero => intro k ρ2 hk hi; exact ⟨.nx, ρ2, rfl, hq ρ2 (by rw [← hk]; exact hi)⟩
    | succ m ih =>
      intro k ρ2 hk hi
      obtain ⟨hl, us, t, e1, e2, fl, ρ3, e3, q⟩ := hs k ρ2 (by omega) hi
      unfold mForW
      rw [if_neg (by omega), e1]
      simp only []
      rw [e2]
      simp only []
      rw [e3]
      cases fl with
      | nx =>
        obtain ⟨t', g1, g2⟩ := q
        simp only [putW, g1, Option.bind_some]
        exact ih (k + 1) _ (by omega) g2
      | ct =>
        obtain ⟨t', g1, g2⟩ := q
        simp only [putW, g1, Option.bind_some]
        exact ih (k + 1) _ (by omega) g2
      | bk => exact q.elim
      | rt r => exact q.elim
      | xc x => exact q.elim
  obtain ⟨fl, ρ', e, q⟩ := gen ts.length 0 _ (by omega) h0
  refine ⟨fl, ρ', ?_, q⟩
  unfold sForW
  rw [h]
  exact e
theorem w_yOpAP (P : Env → Prop) {G : D → D → Option OT} {a b : Rm} {da db : Dm} {ρ : Env} {x y : D} {r : OT} {Q : OT → Env → Prop} (ha : a ρ = some x) (hb : b ρ = some y) (hG : G x y = some r) (p1 : P ρ) (hd : W da ρ fun x' ρ1 => x' = x ∧ W db ρ1 fun y' ρ2 => y' = y ∧ P ρ2) (k : ∀ ρ', P ρ' → Q r ρ') : W (yOpA G a b da db) ρ Q := by
  obtain ⟨x', ρ1, e1, rfl, y', ρ2, e2, rfl, p2⟩ := hd
  by_cases l : r.lf = true
  · refine ⟨r, ρ, ?_, k _ p1⟩
    unfold yOpA
    rw [ha, Option.bind_some, hb, Option.bind_some, hG]
    simp only [lfO, l, if_true]
  · refine ⟨r, ρ2, ?_, k _ p2⟩
    unfold yOpA
    rw [ha, Option.bind_some, hb, Option.bind_some, hG]
    simp only [lfO, l, if_false]
    unfold yOp
    rw [e1]
    simp only [Option.bind_some, e2, hG]
    rfl
theorem w_ySlAP (P : Env → Prop) {ra : Rm} {a : Dm} {lo hi : Cm} {ρ ρ1 : Env} {xs : List D} {l h : Option Int} {Q : OT → Env → Prop} (h1 : ra ρ = some (.list xs)) (h2 : a ρ = some (.list xs, ρ1)) (h3 : lo ρ = some l) (h4 : hi ρ = some h) (h5 : lo ρ1 = some l) (h6 : hi ρ1 = some h) (p1 : P ρ) (p2 : P ρ1) (k : ∀ ρ', P ρ' → Q (lstO (cutD xs l h)) ρ') : W (ySlA ra a lo hi) ρ Q := by
  by_cases lf : (lstO (cutD xs l h)).lf = true
  · refine ⟨_, ρ, ?_, k _ p1⟩
    unfold ySlA
    rw [h1]
    simp only [Option.bind_some, asL, h3, h4, lfO, lf, if_true]
  · refine ⟨_, ρ1, ?_, k _ p2⟩
    unfold ySlA
    rw [h1]
    simp only [Option.bind_some, asL, h3, h4, lfO, lf, if_false]
    unfold ySl
    rw [h2]
    simp only [Option.bind_some, asL, h5, h6]
    rfl
end MR
namespace z06
open PySem L2 PL MR SH SQ SB BF SA
local macro_rules | `(tactic| walk_at "ev") => `(tactic| simp (config := {decide := true}) only [ini, fin, finI, sSeq, sNext, sAsg, sAsgG, sRet, sRetN, sDrop, sIf, sNever, sSetP, sAppP, sClrP, sRevP, fR, pmVar, pmIx, pmIxT, MR.putAt, OT.put, OT.at, gmName, gmTup, gmLst, gsNil, gsCons, rVar, rC, rOp, rUn, rCb, rCbZ, rOpZ, rCall, rAnd, rOr, rNot, rIf, rIs, rCh, rCh3, rTup, rLst, rSl, cNone, cSome, rRepr, dRepr, rInDct, rIdx, rIdxD, iR3s, small, qNil, qCons, qApp, lApp, bR, bAnd, bOr, bNot, tR, tD, tmAnd, tmOr, tmNot, yVar_eq, yMov, yR, yAuto, dY, yD, dR, dOp, dOpR, dCb, dAnd, dOr, dNot, yCall, yCallA, yCallI, yCallIT, yCb, yCbA, yOp, yOpA, lfO, yTup, yLst, oNil, oCons, isNo, lNil, lCons, asB, asInt, asL, asT, iL, iT, iE, iZ, iV, yRng1_eq, iR1_eq, iR2_eq, lcStep, calmAt, wipeE, rst, sApp, yPop_eq, sDPutM, ySortD, yDNew, gmName, toD_d, toD_tup, toD_lst, toDs_nil, toDs_cons, toDs_ints, toDs_fpr, toDs_prs, lfs_ints, lfs_fpr, intsO_len, prsO_len, fprO_len, rng_len, intsO_snoc, prsO_snoc, lstO_rg, rOpZ, rCbZ, isNo_lstO, toD_dnew, ySl, ySlA, neS_self, eqS_self,  rRevL, yRevL, yRevLA, yPop0, sExt, gStrI,  lstO_prs, lstO_ints, toD_lstO, kp_int, kp_bool, kp_tuple, kp_list, kp_str, isIntB, isBoolB, isTupB, isListB, isStrB, gAdd_i, gSub_i, gLt_i, gLe_i, gGt_i, gGe_i, gMul_r, gMul_l, gMod_i, gDiv_i, gPow_i, gNeg, gEqI, gNeI, gEqS, gNeS, gIsN, gNotN, gIsB, gNotB, gIxL, gIxT, gLen, gMax2, gMin2, gInt, gAll, asBools_map, isN, OT.lf, OT.lfs, flat, atI_0, atI_1, ixN_0, ixN_1, rgD_len, enumD_len, trues_len, Int.toNat_natCast, List.length_map, eq_self, Option.bind_some, Option.bind_none, Option.map_some, Option.map_none, List.getElem?_cons_zero, List.getElem?_cons_succ, List.set_cons_zero, List.set_cons_succ, List.map_cons, List.map_nil, List.replicate, List.nil_append, List.cons_append, List.length_cons, List.length_nil, List.all_cons, List.all_nil, if_true, if_false, reduceIte, tfl_int, tfl_bool, tfl_none, tfl_str, tfl_list, Bool.true_and, Bool.and_true, Bool.false_and, Bool.and_false, Bool.true_or, Bool.or_true, Bool.false_or, Bool.or_false, Bool.not_true, Bool.not_false, Bool.false_eq_true, decide_true, decide_false, true_and, and_true, false_and, and_false, or_true, true_or, *])
theorem zipIdx_range {α : Type} (g : Nat → α) (n : Nat) : ((List.range n).map g).zipIdx = (List.range n).map fun k => (g k, k) := by
  apply List.ext_getElem?
  intro i
  rw [List.getElem?_zipIdx, List.getElem?_map, List.getElem?_map]
  by_cases h : i < n
  · rw [List.getElem?_range h]; simp
  · rw [List.getElem?_eq_none (by simp; omega)]; rfl
theorem far_map {n : Nat} {nb : Nat → List Nat} (k : NbOk n nb) {p : Nat} (hp : p < n) : farF nb p n = (List.range n).map (dst nb n p) := by
  apply List.ext_getElem?
  intro i
  rw [List.getElem?_map]
  by_cases h : i < n
  · rw [List.getElem?_range h, dst_at k hp h]; rfl
  · rw [List.getElem?_eq_none (by rw [(far_is k hp).len]; omega), List.getElem?_eq_none (by simp; omega)]; rfl
theorem reached_ok {n : Nat} {nb : Nat → List Nat} (k : NbOk n nb) {p : Nat} (hp : p < n) : m_reached_from [besN n nb, .int (p : Nat)] = some (.nd .lst (natsO (pc nb n p))) := by
  have g := (far_from_is k.inn k.hi hp).1
  have tf := toDs_far (farF nb p n)
  have lf := lf_far (farF nb p n)
  have hn := k.hi
  have hl : (farF nb p n).length = n := (far_is k hp).len
  have res : (farF nb p n).zipIdx.filterMap (fun q : Option Nat × Nat => if q.1.isSome then some (OT.d (.int (q.2 : Nat))) else Option.none) = natsO (pc nb n p) := by
    rw [far_map k hp, zipIdx_range, List.filterMap_map]
    have := natsO_fm (n := n) fun q => (dst nb n p q).isSome
    have e2 : intsO (((List.range n).filter fun q => (dst nb n p q).isSome).map fun (k : Nat) => (k : Int)) = natsO (pc nb n p) := by simp [intsO, natsO, pc]
    rw [← e2, ← this]
    rfl
  have en : enumD ((farF nb p n).map oD) = ((farF nb p n).zipIdx).map fun q : Option Nat × Nat => PyData.tuple [.int (q.2 : Nat), oD q.1] := enumD_map oD _
  unfold m_reached_from B_reached_from
  refine fin_eq ?_
  generalize besN n nb = BD at *
  rw [← res]
  clear res
  generalize (farF nb p n).map oD = FD at *
  generalize farO (farF nb p n) = FO at *
  generalize farF nb p n = F at *
  have it : iE (lCons (dY (yCallA SH.m_far_from 2 (qCons (rVar 0) (qCons (rVar 1) qNil)) (lCons (dY (yVar 0)) (lCons (dY (yVar 1)) lNil)))) lNil) [.d BD, .d (.int (p : Nat)), .no, .no] = some ((F.zipIdx).map fun q : Option Nat × Nat => PyData.tuple [.int (q.2 : Nat), oD q.1], [.d BD, .d (.int (p : Nat)), .no, .no]) := by
    rw [← en]
    clear en
    walk_at "ev" <;> exact rfl
  refine w_ret (w_lcfT (fun q : Option Nat × Nat => if q.1.isSome then some (OT.d (.int (q.2 : Nat))) else Option.none) it rfl (by simp; omega) (fun q hq => ?_) ?_)
  · obtain ⟨o, j⟩ := q
    clear it en g tf lf
    cases o with
    | none =>
      refine W.of (by simp only [oD]; walk_at "ev" <;> exact rfl) ?_
      exact ⟨rfl, rfl⟩
    | some d =>
      refine W.of (by simp only [oD]; walk_at "ev" <;> exact rfl) ?_
      exact ⟨rfl, rfl⟩
  · exact rfl
theorem sadd_ok {i x : Nat} {ρ : MR.Env} {q : Int} {ms : List Int} (h1 : rVar x ρ = some (.int q)) (h2 : ρ[i]? = some (.si ms)) (h3 : ms.length ≤ 4000) : sSAdd i (rVar x) ρ = some (.nx, ρ.set i (.si (if q ∈ ms then ms else ms ++ [q]))) := by
  unfold sSAdd
  rw [h1, Option.bind_some, h2]
  exact if_pos h3
theorem adds_ok {X0 X2 X3 : OT} {xs : List Nat} {ms : List Int} (hl : ms.length + xs.length ≤ 4000) {Q : Fl → MR.Env → Prop}
    (hQ : ∀ ms', ms'.length ≤ ms.length + xs.length → (∀ j : Int, j ∈ ms' ↔ j ∈ ms ∨ ∃ q ∈ xs, j = (q : Int)) → Q .nx [X0, .si ms', X2, X3, .nd .lst (natsO xs), .no]) :
    W (sForW 4 5 (sSAdd 1 (rVar 5))) [X0, .si ms, X2, X3, .nd .lst (natsO xs), .no] Q := by
  refine w_forW (ts := natsO xs) (fun k ρ => ∃ ms', ρ = [X0, .si ms', X2, X3, .nd .lst (natsO xs), .no] ∧ ms'.length ≤ ms.length + k ∧ ∀ j : Int, j ∈ ms' ↔ j ∈ ms ∨ ∃ q ∈ xs.take k, j = (q : Int)) rfl ⟨ms, rfl, by omega, fun j => by simp⟩ (fun k ρ2 hk hs => ?_) (fun ρ2 hs => ?_)
  · obtain ⟨ms', rfl, l1, m1⟩ := hs
    rw [natsO_len] at hk
    have hw : xs[k]? = some xs[k] := List.getElem?_eq_getElem hk
    have ht : xs.take (k + 1) = xs.take k ++ [xs[k]] := by rw [List.take_add_one, hw]; rfl
    generalize xs[k] = q at *
    have gx : (natsO xs)[k]? = some (.d (.int (q : Nat))) := by unfold natsO; rw [List.getElem?_map, hw]; rfl
    refine ⟨by simp, _, _, rfl, gx, ?_⟩
    refine W.of (sadd_ok (ms := ms') (q := (q : Nat)) rfl rfl (by omega)) ?_
    refine ⟨.d (.int (q : Nat)), rfl, if (q : Int) ∈ ms' then ms' else ms' ++ [(q : Int)], ?_, ?_, fun j => ?_⟩
    · have e : ((natsO xs).set k .no).set k (.d (.int (q : Nat))) = natsO xs := by
        rw [List.set_set]
        exact set_id gx
      simp only [List.set_cons_zero, List.set_cons_succ, e]
    · split
      · omega
      · rw [List.length_append, List.length_singleton]; omega
    · have h1 : (j ∈ if (q : Int) ∈ ms' then ms' else ms' ++ [(q : Int)]) ↔ j ∈ ms' ∨ j = (q : Int) := by
        split
        · rename_i z
          constructor
          · intro y; exact .inl y
          · rintro (y | rfl)
            · exact y
            · exact z
        · simp
      rw [h1, m1 j, ht]
      constructor
      · rintro ((y | ⟨r, y, z⟩) | y)
        · exact .inl y
        · exact .inr ⟨r, List.mem_append_left _ y, z⟩
        · exact .inr ⟨q, by simp, y⟩
      · rintro (y | ⟨r, y, z⟩)
        · exact .inl (.inl y)
        · rcases List.mem_append.mp y with y | y
          · exact .inl (.inr ⟨r, y, z⟩)
          · rw [List.mem_singleton.mp y] at z; exact .inr z
  · obtain ⟨ms', rfl, l1, m1⟩ := hs
    rw [natsO_len] at l1 m1
    rw [List.take_length] at m1
    exact hQ ms' l1 m1
end z06
namespace z06
open PySem L2 PL MR SH SQ SB BF SA
local macro_rules | `(tactic| walk_at "ev") => `(tactic| simp (config := {decide := true}) only [ini, fin, finI, sSeq, sNext, sAsg, sAsgG, sRet, sRetN, sDrop, sIf, sNever, sSetP, sAppP, sClrP, sRevP, fR, pmVar, pmIx, pmIxT, MR.putAt, OT.put, OT.at, gmName, gmTup, gmLst, gsNil, gsCons, rVar, rC, rOp, rUn, rCb, rCbZ, rOpZ, rCall, rAnd, rOr, rNot, rIf, rIs, rCh, rCh3, rTup, rLst, rSl, cNone, cSome, rRepr, dRepr, rInDct, rIdx, rIdxD, iR3s, small, qNil, qCons, qApp, lApp, bR, bAnd, bOr, bNot, tR, tD, tmAnd, tmOr, tmNot, yVar_eq, yMov, yR, yAuto, dY, yD, dR, dOp, dOpR, dCb, dAnd, dOr, dNot, yCall, yCallA, yCallI, yCallIT, yCb, yCbA, yOp, yOpA, lfO, yTup, yLst, oNil, oCons, isNo, lNil, lCons, asB, asInt, asL, asT, iL, iT, iE, iZ, iV, yRng1_eq, iR1_eq, iR2_eq, lcStep, calmAt, wipeE, rst, sApp, yPop_eq, sDPutM, ySortD, yDNew, gmName, toD_d, toD_tup, toD_lst, toDs_nil, toDs_cons, toDs_ints, toDs_fpr, toDs_prs, lfs_ints, lfs_fpr, intsO_len, prsO_len, fprO_len, rng_len, intsO_snoc, prsO_snoc, lstO_rg, rOpZ, rCbZ, isNo_lstO, toD_dnew, ySl, ySlA, neS_self, eqS_self,  rRevL, yRevL, yRevLA, yPop0, sExt, gStrI,  lstO_prs, lstO_ints, toD_lstO, kp_int, kp_bool, kp_tuple, kp_list, kp_str, isIntB, isBoolB, isTupB, isListB, isStrB, gAdd_i, gSub_i, gLt_i, gLe_i, gGt_i, gGe_i, gMul_r, gMul_l, gMod_i, gDiv_i, gPow_i, gNeg, gEqI, gNeI, gEqS, gNeS, gIsN, gNotN, gIsB, gNotB, gIxL, gIxT, gLen, gMax2, gMin2, gInt, gAll, asBools_map, isN, OT.lf, OT.lfs, flat, atI_0, atI_1, ixN_0, ixN_1, rgD_len, enumD_len, trues_len, Int.toNat_natCast, List.length_map, eq_self, Option.bind_some, Option.bind_none, Option.map_some, Option.map_none, List.getElem?_cons_zero, List.getElem?_cons_succ, List.set_cons_zero, List.set_cons_succ, List.map_cons, List.map_nil, List.replicate, List.nil_append, List.cons_append, List.length_cons, List.length_nil, List.all_cons, List.all_nil, if_true, if_false, reduceIte, tfl_int, tfl_bool, tfl_none, tfl_str, tfl_list, Bool.true_and, Bool.and_true, Bool.false_and, Bool.and_false, Bool.true_or, Bool.or_true, Bool.false_or, Bool.or_false, Bool.not_true, Bool.not_false, Bool.false_eq_true, decide_true, decide_false, true_and, and_true, false_and, and_false, or_true, true_or, *])
noncomputable def psI (nb : Nat → List Nat) (n i : Nat) : List (List Nat) := ((List.range i).filter (hd nb n)).map (pc nb n)
noncomputable def B_step : Sm :=
 (sIf (tR (bR (rInS true (rVar 3) 1)))
 (sSeq (sAsg 4 (yCallA m_reached_from 2 (qCons (rVar 0) (qCons (rVar 3) qNil)) (lCons (dY (yVar 0)) (lCons (dY (yVar 3)) lNil))))
 (sSeq (sForW 4 5
 (sSAdd 1 (rVar 5)))
 (sApp 2 (yMov 4))))
 sNext)
theorem step_ok {n : Nat} {nb : Nat → List Nat} (k : NbOk n nb) (h40 : n ≤ 40) {i : Nat} (hi : i < n) {X4 : OT} {ms : List Int} (l1 : ms.length ≤ i * 40) (m1 : ∀ j : Int, j ∈ ms ↔ ∃ p, p < i ∧ ∃ q ∈ pc nb n p, j = (q : Int)) {Q : Fl → MR.Env → Prop}
    (hQ : ∀ ms' X4, ms'.length ≤ (i + 1) * 40 → (∀ j : Int, j ∈ ms' ↔ ∃ p, p < i + 1 ∧ ∃ q ∈ pc nb n p, j = (q : Int)) → Q .nx [.d (besN n nb), .si ms', .nd .lst ((psI nb n (i + 1)).map fun xs => .nd .lst (natsO xs)), .d (.int (i : Nat)), X4, .no]) :
    W B_step [.d (besN n nb), .si ms, .nd .lst ((psI nb n i).map fun xs => .nd .lst (natsO xs)), .d (.int (i : Nat)), X4, .no] Q := by
  have f := reached_ok k hi
  have hm : ((i : Nat) : Int) ∈ ms ↔ ¬ hd nb n i = true := by
    rw [m1, hd_iff k hi]
    constructor
    · rintro ⟨p, hp, q, hq, e⟩ z
      have : q = i := by omega
      subst this
      exact z p hp hq
    · intro z
      by_cases c : ∃ p, p < i ∧ i ∈ pc nb n p
      · obtain ⟨p, h1, h2⟩ := c
        exact ⟨p, h1, i, h2, rfl⟩
      · exact absurd (fun q hq hz => c ⟨q, hq, hz⟩) z
  have tk : psI nb n (i + 1) = psI nb n i ++ (if hd nb n i then [pc nb n i] else []) := take_fil hi
  have lac : ((psI nb n i).map fun xs => OT.nd .lst (natsO xs)).length ≤ 1000000 := by
    rw [List.length_map]
    unfold psI
    rw [List.length_map]
    have := List.length_filter_le (hd nb n) (List.range i)
    simp at this
    omega
  have lp := pc_len (nb := nb) (n := n) i
  have mono : (i + 1) * 40 = i * 40 + 40 := by omega
  have i40 : i * 40 ≤ 1600 := by omega
  unfold B_step
  by_cases c : hd nb n i = true
  · have nm : ¬ ((i : Nat) : Int) ∈ ms := fun z => hm.mp z c
    have tb : rInS true (rVar 3) 1 [.d (besN n nb), .si ms, .nd .lst ((psI nb n i).map fun xs => .nd .lst (natsO xs)), .d (.int (i : Nat)), X4, .no] = some (.bool true) := by
      show some (PyData.bool (if true = true then !decide ((i : Int) ∈ ms) else decide ((i : Int) ∈ ms))) = _
      simp [nm]
    rw [if_pos c] at tk
    have hQ' := fun ms' X4 => hQ ms' X4
    rw [tk, List.map_append] at hQ'
    clear hQ tk
    have hmem : ∀ ms' : List Int, (∀ j : Int, j ∈ ms' ↔ j ∈ ms ∨ ∃ q ∈ pc nb n i, j = (q : Int)) → ∀ j : Int, j ∈ ms' ↔ ∃ p, p < i + 1 ∧ ∃ q ∈ pc nb n p, j = (q : Int) := by
      intro ms' hms j
      rw [hms, m1]
      constructor
      · rintro (⟨p, h1, h2⟩ | h2)
        · exact ⟨p, by omega, h2⟩
        · exact ⟨i, by omega, h2⟩
      · rintro ⟨p, h1, h2⟩
        by_cases z : p = i
        · subst z; exact .inr h2
        · exact .inl ⟨p, by omega, h2⟩
    clear hm m1 nm
    generalize besN n nb = BD at *
    generalize (psI nb n i).map (fun xs => OT.nd .lst (natsO xs)) = AC at *
    have l2 : ms.length + (pc nb n i).length ≤ 4000 := by omega
    have l3 : ms.length + (pc nb n i).length ≤ (i + 1) * 40 := by omega
    simp only [List.map_cons, List.map_nil] at hQ'
    generalize pc nb n i = P at *
    clear c k
    have lf : OT.lfs (natsO P) = true := by
      clear f hQ' hmem l2 l3 lp
      induction P with
      | nil => simp [OT.lfs, natsO]
      | cons x xs ih => simp [OT.lfs, OT.lf, natsO, tfl_int] at ih ⊢; exact ih
    refine w_if (c := true) (ρ1 := [.d BD, .si ms, .nd .lst AC, .d (.int (i : Nat)), X4, .no]) (by unfold tR bR; rw [tb]; rfl) (fun _ => ?_) (fun z => by cases z)
    refine w_st (ρ1 := [.d BD, .si ms, .nd .lst AC, .d (.int (i : Nat)), .nd .lst (natsO P), .no]) (by clear hQ' hmem tb; walk_at "ev" <;> exact rfl) ?_
    refine w_seq (adds_ok l2 fun ms' a1 a2 => ?_)
    have a3 := hmem ms' a2
    simp only [sqK]
    refine W.of (r := .nx) (ρ' := [.d BD, .si ms', .nd .lst (AC ++ [.nd .lst (natsO P)]), .d (.int (i : Nat)), .no, .no]) (by clear hQ' hmem tb a2 a3 f lf; walk_at "ev" <;> exact rfl) ?_
    exact hQ' ms' _ (by omega) a3
  · have nm : ((i : Nat) : Int) ∈ ms := hm.mpr c
    have tb : rInS true (rVar 3) 1 [.d (besN n nb), .si ms, .nd .lst ((psI nb n i).map fun xs => .nd .lst (natsO xs)), .d (.int (i : Nat)), X4, .no] = some (.bool false) := by
      show some (PyData.bool (if true = true then !decide ((i : Int) ∈ ms) else decide ((i : Int) ∈ ms))) = _
      simp [nm]
    rw [if_neg c, List.append_nil] at tk
    have hQ' := hQ ms X4 (by omega) fun j => by
      rw [m1]
      constructor
      · rintro ⟨p, h1, h2⟩
        exact ⟨p, by omega, h2⟩
      · rintro ⟨p, h1, q, h2, h3⟩
        by_cases z : p = i
        · subst z
          obtain ⟨p', y1, q', y2, y3⟩ := (m1 _).mp nm
          have : q' = p := by omega
          subst this
          have e := pc_eq k (by omega) y2
          rw [e] at h2
          exact ⟨p', y1, q, h2, h3⟩
        · exact ⟨p, by omega, q, h2, h3⟩
    rw [tk] at hQ'
    clear hQ tk
    refine w_if (c := false) (ρ1 := [.d (besN n nb), .si ms, .nd .lst ((psI nb n i).map fun xs => .nd .lst (natsO xs)), .d (.int (i : Nat)), X4, .no]) (by unfold tR bR; rw [tb]; rfl) (fun z => by cases z) (fun _ => ?_)
    exact w_next hQ'
theorem pieces_by_ok {n : Nat} {nb : Nat → List Nat} (k : NbOk n nb) (h40 : n ≤ 40) : m_pieces_by [besN n nb] = some (.nd .lst ((ps nb n).map fun xs => .nd .lst (natsO xs))) := by
  have c1 := rg1_n (n := n) (by omega)
  rw [rgD0] at c1
  unfold m_pieces_by B_pieces_by
  refine fin_eq ?_
  refine w_seq (w_asg (W.of (r := .si []) (ρ' := [.d (besN n nb), .no, .no, .no, .no, .no]) rfl ?_))
  simp only [sqK, List.set_cons_zero, List.set_cons_succ]
  refine w_st (ρ1 := [.d (besN n nb), .si [], .nd .lst [], .no, .no, .no]) (by walk_at "ev" <;> exact rfl) ?_
  have it : iR1 (lCons (dR (rCb gLen (qCons (rVar 0) qNil))) lNil) [.d (besN n nb), .si [], .nd .lst [], .no, .no, .no] = some ((List.range n).map fun k : Nat => PyData.int (k : Int), [.d (besN n nb), .si [], .nd .lst [], .no, .no, .no]) := by
    have bl : ((List.range n).map fun k => natsD (nb k)).length = n := by simp
    unfold besN
    generalize (List.range n).map (fun k => natsD (nb k)) = BL at *
    walk_at "ev" <;> exact rfl
  refine w_seq (w_forT (fun i ρ => ∃ ms X3 X4, ρ = [.d (besN n nb), .si ms, .nd .lst ((psI nb n i).map fun xs => .nd .lst (natsO xs)), X3, X4, .no] ∧ ms.length ≤ i * 40 ∧ ∀ j : Int, j ∈ ms ↔ ∃ p, p < i ∧ ∃ q ∈ pc nb n p, j = (q : Int)) (as := List.range n) (enc := fun k : Nat => PyData.int (k : Int)) it ⟨[], _, _, rfl, by simp, fun j => by simp⟩ (fun i p ρ2 hp hs => ?_) ?_)
  · obtain ⟨ms, X3, X4, rfl, l1, m1⟩ := hs
    obtain ⟨hi, rfl⟩ : i < n ∧ i = p := by
      obtain ⟨h1, h2⟩ := List.getElem?_eq_some_iff.mp hp
      simp at h1 h2
      exact ⟨h1, h2⟩
    refine ⟨[.d (besN n nb), .si ms, .nd .lst ((psI nb n i).map fun xs => .nd .lst (natsO xs)), .d (.int (i : Nat)), X4, .no], rfl, step_ok k h40 hi l1 m1 fun ms' X4 a1 a2 => ?_⟩
    exact ⟨ms', _, _, rfl, a1, a2⟩
  · rintro ρ2 ⟨ms, X3, X4, rfl, l1, m1⟩
    rw [List.length_range]
    have e : (ps nb n).map (fun xs => OT.nd .lst (natsO xs)) = (psI nb n n).map fun xs => .nd .lst (natsO xs) := rfl
    rw [e]
    clear it c1 e l1 m1
    generalize (psI nb n n).map (fun xs => OT.nd .lst (natsO xs)) = R
    exact w_end (y := yMov 2) (r := .nd .lst R) rfl rfl rfl
theorem lf_nats (P : List Nat) : OT.lfs (natsO P) = true := by
  induction P with
  | nil => simp [OT.lfs, natsO]
  | cons x xs ih => simp [OT.lfs, OT.lf, natsO, tfl_int] at ih ⊢; exact ih
theorem lf_natss (L : List (List Nat)) : OT.lfs (L.map fun xs => OT.nd .lst (natsO xs)) = true := by
  induction L with
  | nil => simp [OT.lfs]
  | cons x xs ih => rw [List.map_cons]; simp [OT.lfs, OT.lf, lf_nats, ih]
theorem pieces_gen {WD BD : D} {BO : OT} {RO : List OT} (f1 : SH.m_look_at_web [WD] = some (.d .none)) (f2 : SH.m_beside_all [WD] = some BO) (f3 : OT.toD BO = some BD) (f4 : m_pieces_by [BD] = some (.nd .lst RO)) (lf : OT.lfs RO = true) : m_pieces [WD] = some (.nd .lst RO) := by
  unfold m_pieces B_pieces
  refine fin_eq ?_
  refine w_seq (W.of (r := .nx) (ρ' := [.d WD]) (by walk_at "ev" <;> exact rfl) ?_)
  simp only [sqK]
  exact w_end (by walk_at "ev" <;> exact rfl) rfl rfl
theorem pieces_ok {w : Wb} (h : WbOk w) : m_pieces [wbD w] = some (.nd .lst ((ps (nbN w) w.1).map fun xs => .nd .lst (natsO xs))) :=
  pieces_gen (look_ok h.ok h.lo h.hi h.len) (beside_all_ok h) (toD_besO h) (pieces_by_ok (nb_ok h) h.hi) (lf_natss _)
end z06
namespace SC
open PySem L2 PL MR SH SB BF
local macro_rules | `(tactic| walk_at "ev") => `(tactic| simp (config := {decide := true}) only [ini, fin, finI, sSeq, sNext, sAsg, sAsgG, sRet, sRetN, sDrop, sIf, sNever, sSetP, sAppP, sClrP, sRevP, fR, pmVar, pmIx, pmIxT, MR.putAt, OT.put, OT.at, gmName, gmTup, gmLst, gsNil, gsCons, rVar, rC, rOp, rUn, rCb, rCbZ, rOpZ, rCall, rAnd, rOr, rNot, rIf, rIs, rCh, rCh3, rTup, rLst, rSl, cNone, cSome, rRepr, dRepr, rInDct, rIdx, rIdxD, iR3s, small, qNil, qCons, qApp, lApp, bR, bAnd, bOr, bNot, tR, tD, tmAnd, tmOr, tmNot, yVar_eq, yMov, yR, yAuto, dY, yD, dR, dOp, dOpR, dCb, dAnd, dOr, dNot, yCall, yCallA, yCallI, yCallIT, yCb, yCbA, yOp, yOpA, lfO, yTup, yLst, oNil, oCons, isNo, lNil, lCons, asB, asInt, asL, asT, iL, iT, iE, iZ, iV, yRng1_eq, iR1_eq, iR2_eq, lcStep, calmAt, wipeE, rst, sApp, yPop_eq, sDPutM, ySortD, yDNew, gmName, toD_d, toD_tup, toD_lst, toDs_nil, toDs_cons, toDs_ints, toDs_fpr, toDs_prs, lfs_ints, lfs_fpr, intsO_len, prsO_len, fprO_len, rng_len, intsO_snoc, prsO_snoc, lstO_rg, rOpZ, rCbZ, isNo_lstO, toD_dnew, ySl, ySlA, neS_self, eqS_self,  rRevL, yRevL, yRevLA, yPop0, sExt, gStrI,  lstO_prs, lstO_ints, toD_lstO, kp_int, kp_bool, kp_tuple, kp_list, kp_str, isIntB, isBoolB, isTupB, isListB, isStrB, gAdd_i, gSub_i, gLt_i, gLe_i, gGt_i, gGe_i, gMul_r, gMul_l, gMod_i, gDiv_i, gPow_i, gNeg, gEqI, gNeI, gEqS, gNeS, gIsN, gNotN, gIsB, gNotB, gIxL, gIxT, gLen, gMax2, gMin2, gInt, gAll, asBools_map, isN, OT.lf, OT.lfs, flat, atI_0, atI_1, ixN_0, ixN_1, rgD_len, enumD_len, trues_len, Int.toNat_natCast, List.length_map, eq_self, Option.bind_some, Option.bind_none, Option.map_some, Option.map_none, List.getElem?_cons_zero, List.getElem?_cons_succ, List.set_cons_zero, List.set_cons_succ, List.map_cons, List.map_nil, List.replicate, List.nil_append, List.cons_append, List.length_cons, List.length_nil, List.all_cons, List.all_nil, if_true, if_false, reduceIte, tfl_int, tfl_bool, tfl_none, tfl_str, tfl_list, Bool.true_and, Bool.and_true, Bool.false_and, Bool.and_false, Bool.true_or, Bool.or_true, Bool.false_or, Bool.or_false, Bool.not_true, Bool.not_false, Bool.false_eq_true, decide_true, decide_false, true_and, and_true, false_and, and_false, or_true, true_or, *])
/-- walks in the product of the first webs -/
def wt (ws : List Wb) (r s : List Int) (k i : Nat) : List Nat := wl (prodW (ws.take i)) (pl ws r i) (pl ws s i) k
end SC
namespace SE
open PySem L2 PL MR SH SB SC BF
local macro_rules | `(tactic| walk_at "ev") => `(tactic| simp (config := {decide := true}) only [ini, fin, finI, sSeq, sNext, sAsg, sAsgG, sRet, sRetN, sDrop, sIf, sNever, sSetP, sAppP, sClrP, sRevP, fR, pmVar, pmIx, pmIxT, MR.putAt, OT.put, OT.at, gmName, gmTup, gmLst, gsNil, gsCons, rVar, rC, rOp, rUn, rCb, rCbZ, rOpZ, rCall, rAnd, rOr, rNot, rIf, rIs, rCh, rCh3, rTup, rLst, rSl, cNone, cSome, rRepr, dRepr, rInDct, rIdx, rIdxD, iR3s, small, qNil, qCons, qApp, lApp, bR, bAnd, bOr, bNot, tR, tD, tmAnd, tmOr, tmNot, yVar_eq, yMov, yR, yAuto, dY, yD, dR, dOp, dOpR, dCb, dAnd, dOr, dNot, yCall, yCallA, yCallI, yCallIT, yCb, yCbA, yOp, yOpA, lfO, yTup, yLst, oNil, oCons, isNo, lNil, lCons, asB, asInt, asL, asT, iL, iT, iE, iZ, iV, yRng1_eq, iR1_eq, iR2_eq, lcStep, calmAt, wipeE, rst, sApp, yPop_eq, sDPutM, ySortD, yDNew, gmName, toD_d, toD_tup, toD_lst, toDs_nil, toDs_cons, toDs_ints, toDs_fpr, toDs_prs, lfs_ints, lfs_fpr, intsO_len, prsO_len, fprO_len, rng_len, intsO_snoc, prsO_snoc, lstO_rg, rOpZ, rCbZ, isNo_lstO, toD_dnew, ySl, ySlA, neS_self, eqS_self,  rRevL, yRevL, yRevLA, yPop0, sExt, gStrI,  lstO_prs, lstO_ints, toD_lstO, kp_int, kp_bool, kp_tuple, kp_list, kp_str, isIntB, isBoolB, isTupB, isListB, isStrB, gAdd_i, gSub_i, gLt_i, gLe_i, gGt_i, gGe_i, gMul_r, gMul_l, gMod_i, gDiv_i, gPow_i, gNeg, gEqI, gNeI, gEqS, gNeS, gIsN, gNotN, gIsB, gNotB, gIxL, gIxT, gLen, gMax2, gMin2, gInt, gAll, asBools_map, isN, OT.lf, OT.lfs, flat, atI_0, atI_1, ixN_0, ixN_1, rgD_len, enumD_len, trues_len, Int.toNat_natCast, List.length_map, eq_self, Option.bind_some, Option.bind_none, Option.map_some, Option.map_none, List.getElem?_cons_zero, List.getElem?_cons_succ, List.set_cons_zero, List.set_cons_succ, List.map_cons, List.map_nil, List.replicate, List.nil_append, List.cons_append, List.length_cons, List.length_nil, List.all_cons, List.all_nil, if_true, if_false, reduceIte, tfl_int, tfl_bool, tfl_none, tfl_str, tfl_list, Bool.true_and, Bool.and_true, Bool.false_and, Bool.and_false, Bool.true_or, Bool.or_true, Bool.false_or, Bool.or_false, Bool.not_true, Bool.not_false, Bool.false_eq_true, decide_true, decide_false, true_and, and_true, false_and, and_false, or_true, true_or, *])
theorem tR_of {b : Bm} {ρ : MR.Env} {v : Bool} (h : b ρ = some v) : tR b ρ = some (v, ρ) := by
  unfold tR
  rw [h]
  rfl
theorem bR_of {r : Rm} {ρ : MR.Env} {v : Bool} (h : r ρ = some (.bool v)) : bR r ρ = some v := by
  unfold bR
  rw [h]
  rfl
theorem rOp_of {g : D → D → Option D} {a b : Rm} {ρ : MR.Env} {x y z : D} (ha : a ρ = some x) (hb : b ρ = some y) (hg : g x y = some z) : rOp g a b ρ = some z := by
  unfold rOp
  rw [ha, Option.bind_some, hb, Option.bind_some, hg]
theorem rRepr_of {a : Rm} {ρ : MR.Env} {x : D} {s : Str} (ha : a ρ = some x) (hg : gRepr x = some (.str s)) : rRepr a ρ = some (.str s) := by
  unfold rRepr
  rw [ha, Option.bind_some, hg]
theorem rCall_of {f : List D → Option OT} {n : Nat} {q : Qm} {ρ : MR.Env} {ds : List D} {r : OT} {x : D} (hq : q ρ = some ds) (hn : ds.length = n) (hf : f ds = some r) (hr : OT.toD r = some x) : rCall f n q ρ = some x := by
  unfold rCall
  rw [hq]
  simp [hn, hf, hr]
end SE
namespace SE
open PySem L2 PL MR SH SB SC BF
local macro_rules | `(tactic| walk_at "ev") => `(tactic| simp (config := {decide := true}) only [ini, fin, finI, sSeq, sNext, sAsg, sAsgG, sRet, sRetN, sDrop, sIf, sNever, sSetP, sAppP, sClrP, sRevP, fR, pmVar, pmIx, pmIxT, MR.putAt, OT.put, OT.at, gmName, gmTup, gmLst, gsNil, gsCons, rVar, rC, rOp, rUn, rCb, rCbZ, rOpZ, rCall, rAnd, rOr, rNot, rIf, rIs, rCh, rCh3, rTup, rLst, rSl, cNone, cSome, rRepr, dRepr, rInDct, rIdx, rIdxD, iR3s, small, qNil, qCons, qApp, lApp, bR, bAnd, bOr, bNot, tR, tD, tmAnd, tmOr, tmNot, yVar_eq, yMov, yR, yAuto, dY, yD, dR, dOp, dOpR, dCb, dAnd, dOr, dNot, yCall, yCallA, yCallI, yCallIT, yCb, yCbA, yOp, yOpA, lfO, yTup, yLst, oNil, oCons, isNo, lNil, lCons, asB, asInt, asL, asT, iL, iT, iE, iZ, iV, yRng1_eq, iR1_eq, iR2_eq, lcStep, calmAt, wipeE, rst, sApp, yPop_eq, sDPutM, ySortD, yDNew, gmName, toD_d, toD_tup, toD_lst, toDs_nil, toDs_cons, toDs_ints, toDs_fpr, toDs_prs, lfs_ints, lfs_fpr, intsO_len, prsO_len, fprO_len, rng_len, intsO_snoc, prsO_snoc, lstO_rg, rOpZ, rCbZ, isNo_lstO, toD_dnew, ySl, ySlA, neS_self, eqS_self,  rRevL, yRevL, yRevLA, yPop0, sExt, gStrI,  lstO_prs, lstO_ints, toD_lstO, kp_int, kp_bool, kp_tuple, kp_list, kp_str, isIntB, isBoolB, isTupB, isListB, isStrB, gAdd_i, gSub_i, gLt_i, gLe_i, gGt_i, gGe_i, gMul_r, gMul_l, gMod_i, gDiv_i, gPow_i, gNeg, gEqI, gNeI, gEqS, gNeS, gIsN, gNotN, gIsB, gNotB, gIxL, gIxT, gLen, gMax2, gMin2, gInt, gAll, asBools_map, isN, OT.lf, OT.lfs, flat, atI_0, atI_1, ixN_0, ixN_1, rgD_len, enumD_len, trues_len, Int.toNat_natCast, List.length_map, eq_self, Option.bind_some, Option.bind_none, Option.map_some, Option.map_none, List.getElem?_cons_zero, List.getElem?_cons_succ, List.set_cons_zero, List.set_cons_succ, List.map_cons, List.map_nil, List.replicate, List.nil_append, List.cons_append, List.length_cons, List.length_nil, List.all_cons, List.all_nil, if_true, if_false, reduceIte, tfl_int, tfl_bool, tfl_none, tfl_str, tfl_list, Bool.true_and, Bool.and_true, Bool.false_and, Bool.and_false, Bool.true_or, Bool.or_true, Bool.false_or, Bool.or_false, Bool.not_true, Bool.not_false, Bool.false_eq_true, decide_true, decide_false, true_and, and_true, false_and, and_false, or_true, true_or, *])
end SE
namespace SE
open PySem L2 PL MR SH SB SC BF
local macro_rules | `(tactic| walk_at "ev") => `(tactic| simp (config := {decide := true}) only [ini, fin, finI, sSeq, sNext, sAsg, sAsgG, sRet, sRetN, sDrop, sIf, sNever, sSetP, sAppP, sClrP, sRevP, fR, pmVar, pmIx, pmIxT, MR.putAt, OT.put, OT.at, gmName, gmTup, gmLst, gsNil, gsCons, rVar, rC, rOp, rUn, rCb, rCbZ, rOpZ, rCall, rAnd, rOr, rNot, rIf, rIs, rCh, rCh3, rTup, rLst, rSl, cNone, cSome, rRepr, dRepr, rInDct, rIdx, rIdxD, iR3s, small, qNil, qCons, qApp, lApp, bR, bAnd, bOr, bNot, tR, tD, tmAnd, tmOr, tmNot, yVar_eq, yMov, yR, yAuto, dY, yD, dR, dOp, dOpR, dCb, dAnd, dOr, dNot, yCall, yCallA, yCallI, yCallIT, yCb, yCbA, yOp, yOpA, lfO, yTup, yLst, oNil, oCons, isNo, lNil, lCons, asB, asInt, asL, asT, iL, iT, iE, iZ, iV, yRng1_eq, iR1_eq, iR2_eq, lcStep, calmAt, wipeE, rst, sApp, yPop_eq, sDPutM, ySortD, yDNew, gmName, toD_d, toD_tup, toD_lst, toDs_nil, toDs_cons, toDs_ints, toDs_fpr, toDs_prs, lfs_ints, lfs_fpr, intsO_len, prsO_len, fprO_len, rng_len, intsO_snoc, prsO_snoc, lstO_rg, rOpZ, rCbZ, isNo_lstO, toD_dnew, ySl, ySlA, neS_self, eqS_self,  rRevL, yRevL, yRevLA, yPop0, sExt, gStrI,  lstO_prs, lstO_ints, toD_lstO, kp_int, kp_bool, kp_tuple, kp_list, kp_str, isIntB, isBoolB, isTupB, isListB, isStrB, gAdd_i, gSub_i, gLt_i, gLe_i, gGt_i, gGe_i, gMul_r, gMul_l, gMod_i, gDiv_i, gPow_i, gNeg, gEqI, gNeI, gEqS, gNeS, gIsN, gNotN, gIsB, gNotB, gIxL, gIxT, gLen, gMax2, gMin2, gInt, gAll, asBools_map, isN, OT.lf, OT.lfs, flat, atI_0, atI_1, ixN_0, ixN_1, rgD_len, enumD_len, trues_len, Int.toNat_natCast, List.length_map, eq_self, Option.bind_some, Option.bind_none, Option.map_some, Option.map_none, List.getElem?_cons_zero, List.getElem?_cons_succ, List.set_cons_zero, List.set_cons_succ, List.map_cons, List.map_nil, List.replicate, List.nil_append, List.cons_append, List.length_cons, List.length_nil, List.all_cons, List.all_nil, if_true, if_false, reduceIte, tfl_int, tfl_bool, tfl_none, tfl_str, tfl_list, Bool.true_and, Bool.and_true, Bool.false_and, Bool.and_false, Bool.true_or, Bool.or_true, Bool.false_or, Bool.or_false, Bool.not_true, Bool.not_false, Bool.false_eq_true, decide_true, decide_false, true_and, and_true, false_and, and_false, or_true, true_or, *])
end SE
namespace SE
open PySem L2 PL MR SH SB SC BF
local macro_rules | `(tactic| walk_at "ev") => `(tactic| simp (config := {decide := true}) only [ini, fin, finI, sSeq, sNext, sAsg, sAsgG, sRet, sRetN, sDrop, sIf, sNever, sSetP, sAppP, sClrP, sRevP, fR, pmVar, pmIx, pmIxT, MR.putAt, OT.put, OT.at, gmName, gmTup, gmLst, gsNil, gsCons, rVar, rC, rOp, rUn, rCb, rCbZ, rOpZ, rCall, rAnd, rOr, rNot, rIf, rIs, rCh, rCh3, rTup, rLst, rSl, cNone, cSome, rRepr, dRepr, rInDct, rIdx, rIdxD, iR3s, small, qNil, qCons, qApp, lApp, bR, bAnd, bOr, bNot, tR, tD, tmAnd, tmOr, tmNot, yVar_eq, yMov, yR, yAuto, dY, yD, dR, dOp, dOpR, dCb, dAnd, dOr, dNot, yCall, yCallA, yCallI, yCallIT, yCb, yCbA, yOp, yOpA, lfO, yTup, yLst, oNil, oCons, isNo, lNil, lCons, asB, asInt, asL, asT, iL, iT, iE, iZ, iV, yRng1_eq, iR1_eq, iR2_eq, lcStep, calmAt, wipeE, rst, sApp, yPop_eq, sDPutM, ySortD, yDNew, gmName, toD_d, toD_tup, toD_lst, toDs_nil, toDs_cons, toDs_ints, toDs_fpr, toDs_prs, lfs_ints, lfs_fpr, intsO_len, prsO_len, fprO_len, rng_len, intsO_snoc, prsO_snoc, lstO_rg, rOpZ, rCbZ, isNo_lstO, toD_dnew, ySl, ySlA, neS_self, eqS_self,  rRevL, yRevL, yRevLA, yPop0, sExt, gStrI,  lstO_prs, lstO_ints, toD_lstO, kp_int, kp_bool, kp_tuple, kp_list, kp_str, isIntB, isBoolB, isTupB, isListB, isStrB, gAdd_i, gSub_i, gLt_i, gLe_i, gGt_i, gGe_i, gMul_r, gMul_l, gMod_i, gDiv_i, gPow_i, gNeg, gEqI, gNeI, gEqS, gNeS, gIsN, gNotN, gIsB, gNotB, gIxL, gIxT, gLen, gMax2, gMin2, gInt, gAll, asBools_map, isN, OT.lf, OT.lfs, flat, atI_0, atI_1, ixN_0, ixN_1, rgD_len, enumD_len, trues_len, Int.toNat_natCast, List.length_map, eq_self, Option.bind_some, Option.bind_none, Option.map_some, Option.map_none, List.getElem?_cons_zero, List.getElem?_cons_succ, List.set_cons_zero, List.set_cons_succ, List.map_cons, List.map_nil, List.replicate, List.nil_append, List.cons_append, List.length_cons, List.length_nil, List.all_cons, List.all_nil, if_true, if_false, reduceIte, tfl_int, tfl_bool, tfl_none, tfl_str, tfl_list, Bool.true_and, Bool.and_true, Bool.false_and, Bool.and_false, Bool.true_or, Bool.or_true, Bool.false_or, Bool.or_false, Bool.not_true, Bool.not_false, Bool.false_eq_true, decide_true, decide_false, true_and, and_true, false_and, and_false, or_true, true_or, *])
theorem nice_none : Nice (.none : D) 0 0 := ⟨rfl, by simp [PyData.depth], by simp [PyData.bulk]⟩
theorem nice_oD {o : Option Nat} (h : ∀ d, o = some d → d < 1000) : Nice (oD o) 0 0 := by
  cases o with
  | none => exact nice_none
  | some d => exact nice_int (i := (d : Int)) (by have := h d rfl; omega)
theorem nice_far {n : Nat} {nb : Nat → List Nat} (w : NbOk n nb) (n40 : n ≤ 40) {p : Nat} (hp : p < n) : Nice (farD (farF nb p n)) 1 40 := by
  refine nice_list (f := oD) (n := 40) (fun o ho => nice_oD fun d e => ?_) (by have := (far_is w hp).len; omega)
  rw [farF_map w hp] at ho
  obtain ⟨q, hq, e2⟩ := List.mem_map.mp ho
  have := dst_lt w hp (List.mem_range.mp hq) (e2.trans e)
  omega
end SE
namespace z06
open PySem L2 PL MR SH SQ SB BF SA
local macro_rules | `(tactic| walk_at "ev") => `(tactic| simp (config := {decide := true}) only [ini, fin, finI, sSeq, sNext, sAsg, sAsgG, sRet, sRetN, sDrop, sIf, sNever, sSetP, sAppP, sClrP, sRevP, fR, pmVar, pmIx, pmIxT, MR.putAt, OT.put, OT.at, gmName, gmTup, gmLst, gsNil, gsCons, rVar, rC, rOp, rUn, rCb, rCbZ, rOpZ, rCall, rAnd, rOr, rNot, rIf, rIs, rCh, rCh3, rTup, rLst, rSl, cNone, cSome, rRepr, dRepr, rInDct, rIdx, rIdxD, iR3s, small, qNil, qCons, qApp, lApp, bR, bAnd, bOr, bNot, tR, tD, tmAnd, tmOr, tmNot, yVar_eq, yMov, yR, yAuto, dY, yD, dR, dOp, dOpR, dCb, dAnd, dOr, dNot, yCall, yCallA, yCallI, yCallIT, yCb, yCbA, yOp, yOpA, lfO, yTup, yLst, oNil, oCons, isNo, lNil, lCons, asB, asInt, asL, asT, iL, iT, iE, iZ, iV, yRng1_eq, iR1_eq, iR2_eq, lcStep, calmAt, wipeE, rst, sApp, yPop_eq, sDPutM, ySortD, yDNew, gmName, toD_d, toD_tup, toD_lst, toDs_nil, toDs_cons, toDs_ints, toDs_fpr, toDs_prs, lfs_ints, lfs_fpr, intsO_len, prsO_len, fprO_len, rng_len, intsO_snoc, prsO_snoc, lstO_rg, rOpZ, rCbZ, isNo_lstO, toD_dnew, ySl, ySlA, neS_self, eqS_self,  rRevL, yRevL, yRevLA, yPop0, sExt, gStrI,  lstO_prs, lstO_ints, toD_lstO, kp_int, kp_bool, kp_tuple, kp_list, kp_str, isIntB, isBoolB, isTupB, isListB, isStrB, gAdd_i, gSub_i, gLt_i, gLe_i, gGt_i, gGe_i, gMul_r, gMul_l, gMod_i, gDiv_i, gPow_i, gNeg, gEqI, gNeI, gEqS, gNeS, gIsN, gNotN, gIsB, gNotB, gIxL, gIxT, gLen, gMax2, gMin2, gInt, gAll, asBools_map, isN, OT.lf, OT.lfs, flat, atI_0, atI_1, ixN_0, ixN_1, rgD_len, enumD_len, trues_len, Int.toNat_natCast, List.length_map, eq_self, Option.bind_some, Option.bind_none, Option.map_some, Option.map_none, List.getElem?_cons_zero, List.getElem?_cons_succ, List.set_cons_zero, List.set_cons_succ, List.map_cons, List.map_nil, List.replicate, List.nil_append, List.cons_append, List.length_cons, List.length_nil, List.all_cons, List.all_nil, if_true, if_false, reduceIte, tfl_int, tfl_bool, tfl_none, tfl_str, tfl_list, Bool.true_and, Bool.and_true, Bool.false_and, Bool.and_false, Bool.true_or, Bool.or_true, Bool.false_or, Bool.or_false, Bool.not_true, Bool.not_false, Bool.false_eq_true, decide_true, decide_false, true_and, and_true, false_and, and_false, or_true, true_or, *])
theorem ps_one {n : Nat} {nb : Nat → List Nat} (k : NbOk n nb) (h1 : 1 ≤ n) : (∀ q, q < n → (dst nb n 0 q).isSome = true) ↔ (ps nb n).length = 1 := by
  have h0 : hd nb n 0 = true := (hd_iff k (by omega)).mpr fun q hq => by omega
  have m0 : 0 ∈ (List.range n).filter (hd nb n) := List.mem_filter.mpr ⟨List.mem_range.mpr (by omega), h0⟩
  have nd : ((List.range n).filter (hd nb n)).Nodup := List.nodup_range.sublist List.filter_sublist
  unfold ps
  rw [List.length_map]
  constructor
  · intro h
    have e : (List.range n).filter (hd nb n) = [0] := by
      have all : ∀ p ∈ (List.range n).filter (hd nb n), p = 0 := fun p hp => by
        obtain ⟨p1, p2⟩ := List.mem_filter.mp hp
        have pn := List.mem_range.mp p1
        by_cases z : p = 0
        · exact z
        · exact absurd (pc_mem.mpr ⟨pn, h p pn⟩) ((hd_iff k pn).mp p2 0 (by omega))
      generalize (List.range n).filter (hd nb n) = F at *
      cases F with
      | nil => cases m0
      | cons a F =>
        have := all a List.mem_cons_self
        subst this
        cases F with
        | nil => rfl
        | cons b F =>
          have := all b (by simp)
          subst this
          simp at nd
    rw [e]
    rfl
  · intro h q hq
    obtain ⟨a, ea⟩ := List.length_eq_one_iff.mp h
    obtain ⟨m, ms, em, _⟩ := pc_cons k hq
    have hm : m ∈ pc nb n q := by rw [em]; exact List.mem_cons_self
    have mn := (pc_mem.mp hm).1
    have e := pc_eq k hq hm
    have hh : hd nb n m = true := by unfold hd; rw [e, em]; simp
    have mm : m ∈ (List.range n).filter (hd nb n) := List.mem_filter.mpr ⟨List.mem_range.mpr mn, hh⟩
    rw [ea] at m0 mm
    have a0 := List.mem_singleton.mp m0
    have am := List.mem_singleton.mp mm
    have : m = 0 := by omega
    subst this
    exact (pc_mem.mp (pc_sym k hq hm)).2
theorem hangs_gen' {WW BD : D} {BO : OT} {FO : List OT} {DD : List D} {b : Bool} (f1 : SH.m_beside_all [WW] = some BO) (f2 : OT.toD BO = some BD) (f4 : SH.m_far_from [BD, .int 0] = some (.nd .lst FO)) (f5 : OT.toDs FO = some DD) (f7 : gNotInD .none (.list DD) = some (.bool b)) : SH.m_hangs [WW] = some (.d (.bool b)) := by
  unfold SH.m_hangs SH.B_hangs
  refine fin_eq ?_
  exact w_end (by walk_at "ev" <;> exact rfl) rfl rfl
theorem hangs_tog {WW : D} {b : Bool} (f0 : SH.m_look_at_web [WW] = some (.d .none)) (f1 : SH.m_hangs [WW] = some (.d (.bool b))) : m_hangs_together [WW] = some (.d (.bool b)) := by
  unfold m_hangs_together B_hangs_together
  refine fin_eq ?_
  refine w_seq (W.of (r := .nx) (ρ' := [.d WW]) (by walk_at "ev" <;> exact rfl) ?_)
  simp only [sqK]
  exact w_end (by walk_at "ev" <;> exact rfl) rfl rfl
theorem none_far {n : Nat} {nb : Nat → List Nat} (k : NbOk n nb) (h40 : n ≤ 40) (h1 : 1 ≤ n) : gNotInD .none (.list ((farF nb 0 n).map oD)) = some (.bool (decide ((ps nb n).length = 1))) := by
  unfold gNotInD
  have s1 : SeqAt.shaped (.none : D) = true := by simp [SeqAt.shaped, PyData.canLay0, PyData.depth]
  have s2 : SeqAt.shaped (.list ((farF nb 0 n).map oD)) = true := (SE.nice_far k h40 (p := 0) (by omega)).shaped (by omega)
  simp only [s1, s2, Bool.and_true, if_true, Option.some.injEq, PyData.bool.injEq]
  have ev : ∀ o : Option Nat, PyData.eqv (oD o) .none = o.isNone := by
    intro o
    cases o <;> simp [oD, PyData.eqv]
  rw [List.any_map, show ((fun z => PyData.eqv z .none) ∘ oD) = Option.isNone from funext ev, far_map k (by omega)]
  have p1 := ps_one k h1
  apply Bool.eq_iff_iff.mpr
  rw [decide_eq_true_eq, ← p1, Bool.not_eq_true', List.any_map]
  constructor
  · intro h q hq
    have := List.any_eq_false.mp h q (List.mem_range.mpr hq)
    cases hdq : dst nb n 0 q with
    | none => rw [Function.comp, hdq] at this; simp at this
    | some d => rfl
  · intro h
    apply List.any_eq_false.mpr
    intro q hq
    have := h q (List.mem_range.mp hq)
    cases hdq : dst nb n 0 q with
    | none => rw [hdq] at this; cases this
    | some d => simp [Function.comp, hdq]
theorem hangs_all {w : Wb} (h : WbOk w) : m_hangs_together [wbD w] = some (.d (.bool (decide ((ps (nbN w) w.1).length = 1)))) :=
  hangs_tog (look_ok h.ok h.lo h.hi h.len) (hangs_gen' (beside_all_ok h) (toD_besO h) (far_from_is (nb_ok h).inn (nb_ok h).hi (p := 0) (by have := h.lo; omega)).1 (toDs_far _) (none_far (nb_ok h) h.hi h.lo))
theorem nice_nats {xs : List Nat} (h : ∀ x ∈ xs, x < 40) (hl : xs.length ≤ 40) : Nice (natsD xs) 1 40 :=
  nice_list (f := fun j : Nat => (.int (j : Nat) : D)) (n := 40) (b := 0) (fun x hx => nice_int (by have := h x hx; omega)) hl
theorem nice_natss {L : List (List Nat)} (h : ∀ xs ∈ L, (∀ x ∈ xs, x < 40) ∧ xs.length ≤ 40) (hl : L.length ≤ 40) : Nice (.list (L.map natsD)) 2 (40 * 41) :=
  nice_list (f := natsD) (fun xs hx => nice_nats (h xs hx).1 (h xs hx).2) hl
theorem appP_at {i x : Nat} {ρ : MR.Env} {ts us : List OT} {j : Nat} (h0 : ρ[i]? = some (.nd .lst ts)) (h1 : rVar x ρ = some (.int (j : Nat))) (h2 : ts[j]? = some (.nd .lst us)) (h3 : us.length ≤ 1000000) :
    sAppP i (pmIx (pmVar i) (rVar x)) (fR (rC .none)) ρ = some (.nx, ρ.set i (.nd .lst (ts.set j (.nd .lst (us ++ [.d .none]))))) := by
  have hj : j < ts.length := (List.getElem?_eq_some_iff.mp h2).1
  have ix : ixN ts.length (j : Int) = some j := ixN_nat hj
  unfold sAppP pmIx pmVar
  rw [h0]
  simp only [Option.map_some, Option.bind_some, h1, ix, h2, List.nil_append]
  have f : fR (rC .none) ρ = some (.d .none) := by simp [fR, rC]
  rw [f]
  simp only [Option.bind_some, isNo, h3, if_true, Bool.false_eq_true, if_false, MR.putAt, h0, OT.put, h2]
end z06
namespace z06
open PySem L2 PL MR SH SQ SB BF SA
local macro_rules | `(tactic| walk_at "ev") => `(tactic| simp (config := {decide := true}) only [ini, fin, finI, sSeq, sNext, sAsg, sAsgG, sRet, sRetN, sDrop, sIf, sNever, sSetP, sAppP, sClrP, sRevP, fR, pmVar, pmIx, pmIxT, MR.putAt, OT.put, OT.at, gmName, gmTup, gmLst, gsNil, gsCons, rVar, rC, rOp, rUn, rCb, rCbZ, rOpZ, rCall, rAnd, rOr, rNot, rIf, rIs, rCh, rCh3, rTup, rLst, rSl, cNone, cSome, rRepr, dRepr, rInDct, rIdx, rIdxD, iR3s, small, qNil, qCons, qApp, lApp, bR, bAnd, bOr, bNot, tR, tD, tmAnd, tmOr, tmNot, yVar_eq, yMov, yR, yAuto, dY, yD, dR, dOp, dOpR, dCb, dAnd, dOr, dNot, yCall, yCallA, yCallI, yCallIT, yCb, yCbA, yOp, yOpA, lfO, yTup, yLst, oNil, oCons, isNo, lNil, lCons, asB, asInt, asL, asT, iL, iT, iE, iZ, iV, yRng1_eq, iR1_eq, iR2_eq, lcStep, calmAt, wipeE, rst, sApp, yPop_eq, sDPutM, ySortD, yDNew, gmName, toD_d, toD_tup, toD_lst, toDs_nil, toDs_cons, toDs_ints, toDs_fpr, toDs_prs, lfs_ints, lfs_fpr, intsO_len, prsO_len, fprO_len, rng_len, intsO_snoc, prsO_snoc, lstO_rg, rOpZ, rCbZ, isNo_lstO, toD_dnew, ySl, ySlA, neS_self, eqS_self,  rRevL, yRevL, yRevLA, yPop0, sExt, gStrI,  lstO_prs, lstO_ints, toD_lstO, kp_int, kp_bool, kp_tuple, kp_list, kp_str, isIntB, isBoolB, isTupB, isListB, isStrB, gAdd_i, gSub_i, gLt_i, gLe_i, gGt_i, gGe_i, gMul_r, gMul_l, gMod_i, gDiv_i, gPow_i, gNeg, gEqI, gNeI, gEqS, gNeS, gIsN, gNotN, gIsB, gNotB, gIxL, gIxT, gLen, gMax2, gMin2, gInt, gAll, asBools_map, isN, OT.lf, OT.lfs, flat, atI_0, atI_1, ixN_0, ixN_1, rgD_len, enumD_len, trues_len, Int.toNat_natCast, List.length_map, eq_self, Option.bind_some, Option.bind_none, Option.map_some, Option.map_none, List.getElem?_cons_zero, List.getElem?_cons_succ, List.set_cons_zero, List.set_cons_succ, List.map_cons, List.map_nil, List.replicate, List.nil_append, List.cons_append, List.length_cons, List.length_nil, List.all_cons, List.all_nil, if_true, if_false, reduceIte, tfl_int, tfl_bool, tfl_none, tfl_str, tfl_list, Bool.true_and, Bool.and_true, Bool.false_and, Bool.and_false, Bool.true_or, Bool.or_true, Bool.false_or, Bool.or_false, Bool.not_true, Bool.not_false, Bool.false_eq_true, decide_true, decide_false, true_and, and_true, false_and, and_false, or_true, true_or, *])
def nO (xs : List Nat) : OT := .nd .lst (natsO xs)
def nO2 (xs : List Nat) : OT := .nd .lst (natsO xs ++ [.d .none])
def nD2 (xs : List Nat) : D := .list (xs.map (fun j => PyData.int (j : Nat)) ++ [.none])
theorem toD_nO (xs : List Nat) : OT.toD (nO xs) = some (natsD xs) := by unfold nO; rw [toD_lst, toDs_nats]; rfl
theorem toD_nO2 (xs : List Nat) : OT.toD (nO2 xs) = some (nD2 xs) := by
  have h : OT.toDs (natsO xs ++ [.d .none]) = some (xs.map (fun j => PyData.int (j : Nat)) ++ [.none]) := by
    induction xs with
    | nil => simp [natsO, toDs_cons, toDs_nil, toD_d]
    | cons x xs ih =>
      have e : natsO (x :: xs) ++ [OT.d .none] = .d (.int (x : Nat)) :: (natsO xs ++ [.d .none]) := rfl
      rw [e, toDs_cons, toD_d, ih]
      rfl
  unfold nO2
  rw [toD_lst, h]
  rfl
theorem toDs_mix (A B : List (List Nat)) : OT.toDs (A.map nO2 ++ B.map nO) = some (A.map nD2 ++ B.map natsD) := by
  induction A with
  | nil => exact toDs_map' (f := nO) (g := natsD) toD_nO B
  | cons a A ih => rw [List.map_cons, List.cons_append, toDs_cons, toD_nO2, ih]; rfl
theorem cut_from (xs : List D) (i : Nat) : cutD xs (some (i : Int)) Option.none = xs.drop i := by
  unfold cutD
  rw [HT.sIx_nat]
  have e2 : HT.sIx xs.length xs.length Option.none = xs.length := rfl
  rw [e2]
  by_cases h : i ≤ xs.length
  · rw [Nat.min_eq_left h, List.take_of_length_le (by rw [List.length_drop]; omega)]
  · rw [Nat.min_eq_right (by omega), List.drop_eq_nil_of_le (by omega), List.drop_eq_nil_of_le (by omega)]
    simp
theorem right_gen {WD : D} {L : List (List Nat)} (f1 : m_pieces [WD] = some (.nd .lst (L.map nO))) (f2 : m_hangs_together [WD] = some (.d (.bool (decide (L.length = 1))))) (hl : L.length ≤ 40) (hx : ∀ xs ∈ L, (∀ x ∈ xs, x < 40) ∧ xs.length ≤ 40) :
    m__law_pieces_right [WD, .list (L.map natsD)] = some (.d (.bool true)) := by
  have nc := nice_natss hx hl
  have rp := nc.repr (by omega) (by omega)
  have eqd := nc.eqD (by omega)
  have t1 : OT.toDs (L.map nO) = some (L.map natsD) := toDs_map' (f := nO) (g := natsD) toD_nO L
  have lf : OT.lfs (L.map nO) = true := lf_natss L
  have c1 := rg1_n (n := L.length) (by omega)
  rw [rgD0] at c1
  have dl : (L.map natsD).length = L.length := List.length_map _
  have dd : decide (decide (L.length = 1) = decide ((L.length : Int) = 1)) = true := by
    by_cases c : L.length = 1
    · simp [c]
    · have : ¬ ((L.length : Int) = 1) := by omega
      simp [c, this]
  generalize PyData.shown (.list (L.map natsD)) = R at *
  unfold m__law_pieces_right B__law_pieces_right
  refine fin_eq ?_
  refine w_st (ρ1 := [.d WD, .d (.list (L.map natsD)), .nd .lst (L.map nO), .no, .no]) (by clear nc dd hx; walk_at "ev" <;> exact rfl) ?_
  refine w_seq (w_if (c := false) (ρ1 := [.d WD, .d (.list (L.map natsD)), .nd .lst (L.map nO), .no, .no]) (by clear nc dd hx; walk_at "ev" <;> exact rfl) (fun z => by cases z) (fun _ => ?_))
  refine w_next ?_
  simp only [sqK]
  have it : iR1 (lCons (dR (rCb gLen (qCons (rVar 2) qNil))) lNil) [.d WD, .d (.list (L.map natsD)), .nd .lst (L.map nO), .no, .no] = some ((List.range L.length).map fun k : Nat => PyData.int (k : Int), [.d WD, .d (.list (L.map natsD)), .nd .lst (L.map nO), .no, .no]) := by
    clear nc dd hx f1 f2 lf
    walk_at "ev" <;> exact rfl
  refine w_seq (w_forT (fun i ρ => ∃ X3, ρ = [.d WD, .d (.list (L.map natsD)), .nd .lst ((L.take i).map nO2 ++ (L.drop i).map nO), X3, .no]) (as := List.range L.length) (enc := fun k : Nat => PyData.int (k : Int)) it ⟨.no, by simp⟩ (fun i p ρ2 hp hs => ?_) ?_)
  · obtain ⟨X3, rfl⟩ := hs
    obtain ⟨hi, rfl⟩ : i < L.length ∧ i = p := by
      obtain ⟨h1, h2⟩ := List.getElem?_eq_some_iff.mp hp
      simp at h1 h2
      exact ⟨h1, h2⟩
    refine ⟨[.d WD, .d (.list (L.map natsD)), .nd .lst ((L.take i).map nO2 ++ (L.drop i).map nO), .d (.int (i : Nat)), .no], rfl, ?_⟩
    have hw : L[i]? = some L[i] := List.getElem?_eq_getElem hi
    have hm := hx L[i] (List.getElem_mem hi)
    have hd : L.drop i = L[i] :: L.drop (i + 1) := List.drop_eq_getElem_cons hi
    have ht : L.take (i + 1) = L.take i ++ [L[i]] := by rw [List.take_add_one, hw]; rfl
    have hD : cutD ((L.map natsD)) (some ((i : Int) + 1)) Option.none = (L.drop (i + 1)).map natsD := by
      have := cut_from (L.map natsD) (i + 1)
      rw [List.map_drop]
      exact this
    have hE : cutD ((L.take (i + 1)).map nD2 ++ (L.drop (i + 1)).map natsD) (some ((i : Int) + 1)) Option.none = (L.drop (i + 1)).map natsD := by
      have := cut_from ((L.take (i + 1)).map nD2 ++ (L.drop (i + 1)).map natsD) (i + 1)
      have l1 : ((L.take (i + 1)).map nD2).length = i + 1 := by rw [List.length_map, List.length_take]; omega
      rw [List.drop_append, List.drop_eq_nil_of_le (Nat.le_of_eq l1), List.nil_append, l1, Nat.sub_self, List.drop_zero] at this
      exact this
    have ne := (nice_natss (L := L.drop (i + 1)) (fun xs hxs => hx xs (List.mem_of_mem_drop hxs)) (by rw [List.length_drop]; omega)).neD (by omega)
    have tm := toDs_mix (L.take (i + 1)) (L.drop (i + 1))
    have lk : ((L.take i).map nO2).length = i := by simp; omega
    have set1 : ((L.take i).map nO2 ++ (L.drop i).map nO).set i (nO2 L[i]) = (L.take (i + 1)).map nO2 ++ (L.drop (i + 1)).map nO := by
      rw [hd, ht, List.map_cons, List.map_append, List.set_append_right _ _ (by omega), lk, Nat.sub_self, List.set_cons_zero, List.append_assoc]
      rfl
    have get1 : ((L.take i).map nO2 ++ (L.drop i).map nO)[i]? = some (nO L[i]) := by
      rw [hd, List.map_cons, List.getElem?_append_right (by omega), lk, Nat.sub_self]
      rfl
    have e := appP_at (i := 2) (x := 3) (ρ := [.d WD, .d (.list (L.map natsD)), .nd .lst ((L.take i).map nO2 ++ (L.drop i).map nO), .d (.int (i : Nat)), .no]) (us := natsO L[i]) rfl rfl get1 (by rw [natsO_len]; omega)
    rw [show (OT.nd Kd.lst (natsO L[i] ++ [.d .none])) = nO2 L[i] from rfl, set1] at e
    simp only [List.set_cons_zero, List.set_cons_succ] at e
    refine w_seq (W.of e ?_)
    clear e get1 set1 lk hm hw ht hd it rp eqd t1 lf c1 dl dd f1 f2 nc
    simp only [sqK]
    generalize (L.take (i + 1)).map nO2 ++ (L.drop (i + 1)).map nO = ZO at *
    generalize (L.take (i + 1)).map nD2 ++ (L.drop (i + 1)).map natsD = ZD at *
    generalize (L.drop (i + 1)).map natsD = YD at *
    clear hx hl
    generalize L.map natsD = LD at *
    refine w_if (c := false) (ρ1 := [.d WD, .d (.list LD), .nd .lst ZO, .d (.int (i : Nat)), .no]) (by walk_at "ev" <;> exact rfl) (fun z => by cases z) (fun _ => ?_)
    exact w_next ⟨_, rfl⟩
  · rintro ρ2 ⟨X3, rfl⟩
    rw [List.length_range, List.take_length, List.drop_length, List.map_nil, List.append_nil]
    simp only [sqK]
    clear it nc hx c1 rp
    generalize L.map nO2 = ZO at *
    refine w_st (ρ1 := [.d WD, .d (.list (L.map natsD)), .nd .lst [], X3, .no]) (by clear dd lf; walk_at "ev" <;> exact rfl) ?_
    refine w_st (ρ1 := [.d WD, .d (.list (L.map natsD)), .nd .lst [], X3, .d (.bool (decide (L.length = 1)))]) (by clear dd lf; walk_at "ev" <;> exact rfl) ?_
    exact w_end (by walk_at "ev" <;> exact rfl) rfl rfl
theorem right_ok {w : Wb} (h : WbOk w) : m__law_pieces_right [wbD w, .list ((ps (nbN w) w.1).map natsD)] = some (.d (.bool true)) := by
  have pl : (ps (nbN w) w.1).length ≤ 40 := by
    unfold ps
    rw [List.length_map]
    have := List.length_filter_le (hd (nbN w) w.1) (List.range w.1)
    simp at this
    have := h.hi
    omega
  refine right_gen (pieces_ok h) (hangs_all h) pl fun xs hx => ?_
  unfold ps at hx
  obtain ⟨p, _, rfl⟩ := List.mem_map.mp hx
  have := h.hi
  refine ⟨fun x hx => ?_, by have := pc_len (nb := nbN w) (n := w.1) p; omega⟩
  have := (pc_mem.mp hx).1
  omega
end z06
namespace z06
open PySem L2 PL MR SH SQ SB BF SA
local macro_rules | `(tactic| walk_at "ev") => `(tactic| simp (config := {decide := true}) only [ini, fin, finI, sSeq, sNext, sAsg, sAsgG, sRet, sRetN, sDrop, sIf, sNever, sSetP, sAppP, sClrP, sRevP, fR, pmVar, pmIx, pmIxT, MR.putAt, OT.put, OT.at, gmName, gmTup, gmLst, gsNil, gsCons, rVar, rC, rOp, rUn, rCb, rCbZ, rOpZ, rCall, rAnd, rOr, rNot, rIf, rIs, rCh, rCh3, rTup, rLst, rSl, cNone, cSome, rRepr, dRepr, rInDct, rIdx, rIdxD, iR3s, small, qNil, qCons, qApp, lApp, bR, bAnd, bOr, bNot, tR, tD, tmAnd, tmOr, tmNot, yVar_eq, yMov, yR, yAuto, dY, yD, dR, dOp, dOpR, dCb, dAnd, dOr, dNot, yCall, yCallA, yCallI, yCallIT, yCb, yCbA, yOp, yOpA, lfO, yTup, yLst, oNil, oCons, isNo, lNil, lCons, asB, asInt, asL, asT, iL, iT, iE, iZ, iV, yRng1_eq, iR1_eq, iR2_eq, lcStep, calmAt, wipeE, rst, sApp, yPop_eq, sDPutM, ySortD, yDNew, gmName, toD_d, toD_tup, toD_lst, toDs_nil, toDs_cons, toDs_ints, toDs_fpr, toDs_prs, lfs_ints, lfs_fpr, intsO_len, prsO_len, fprO_len, rng_len, intsO_snoc, prsO_snoc, lstO_rg, rOpZ, rCbZ, isNo_lstO, toD_dnew, ySl, ySlA, neS_self, eqS_self,  rRevL, yRevL, yRevLA, yPop0, sExt, gStrI,  lstO_prs, lstO_ints, toD_lstO, kp_int, kp_bool, kp_tuple, kp_list, kp_str, isIntB, isBoolB, isTupB, isListB, isStrB, gAdd_i, gSub_i, gLt_i, gLe_i, gGt_i, gGe_i, gMul_r, gMul_l, gMod_i, gDiv_i, gPow_i, gNeg, gEqI, gNeI, gEqS, gNeS, gIsN, gNotN, gIsB, gNotB, gIxL, gIxT, gLen, gMax2, gMin2, gInt, gAll, asBools_map, isN, OT.lf, OT.lfs, flat, atI_0, atI_1, ixN_0, ixN_1, rgD_len, enumD_len, trues_len, Int.toNat_natCast, List.length_map, eq_self, Option.bind_some, Option.bind_none, Option.map_some, Option.map_none, List.getElem?_cons_zero, List.getElem?_cons_succ, List.set_cons_zero, List.set_cons_succ, List.map_cons, List.map_nil, List.replicate, List.nil_append, List.cons_append, List.length_cons, List.length_nil, List.all_cons, List.all_nil, if_true, if_false, reduceIte, tfl_int, tfl_bool, tfl_none, tfl_str, tfl_list, Bool.true_and, Bool.and_true, Bool.false_and, Bool.and_false, Bool.true_or, Bool.or_true, Bool.false_or, Bool.or_false, Bool.not_true, Bool.not_false, Bool.false_eq_true, decide_true, decide_false, true_and, and_true, false_and, and_false, or_true, true_or, *])
theorem getKD_nats (f : Nat → Nat) (z : Nat) : ∀ ks : List Nat, getKD (ks.map fun z : Nat => .inl (z : Int)) (ks.map fun z => PyData.int (f z : Nat)) (.inl (z : Int)) = if z ∈ ks then some (.int (f z : Nat)) else none
  | [] => rfl
  | k :: ks => by
    have ih := getKD_nats f z ks
    unfold getKD at ih ⊢
    rw [List.map_cons, List.map_cons, List.zip_cons_cons, List.find?_cons]
    by_cases e : k = z
    · subst e
      simp
    · have ne : (decide ((Sum.inl (k : Int) : Key) = Sum.inl (z : Int))) = false := by
        refine decide_eq_false fun q => e ?_
        have := Sum.inl.inj q
        omega
      simp only [ne]
      rw [ih]
      by_cases m : z ∈ ks
      · rw [if_pos m, if_pos (List.mem_cons_of_mem _ m)]
      · rw [if_neg m, if_neg (fun q => by rcases List.mem_cons.mp q with y | y; exact e y.symm; exact m y)]
theorem any_nats (z : Nat) (ks : List Nat) : ((ks.map fun z : Nat => (.inl (z : Int) : Key)).any fun x => decide (x = .inl (z : Int))) = decide (z ∈ ks) := by
  induction ks with
  | nil => rfl
  | cons k ks ih =>
    rw [List.map_cons, List.any_cons, ih]
    by_cases e : k = z
    · subst e; simp
    · have ne : (decide ((Sum.inl (k : Int) : Key) = Sum.inl (z : Int))) = false := by
        refine decide_eq_false fun q => e ?_
        have := Sum.inl.inj q
        omega
      rw [ne]
      have : ¬ z = k := fun y => e y.symm
      simp [this]
theorem flat_nats (f : Nat → Nat) (ks : List Nat) : flatDs (ks.map fun z => OT.d (.int (f z : Nat))) = some (ks.map fun z => PyData.int (f z : Nat)) := by
  induction ks with
  | nil => rfl
  | cons k ks ih => rw [List.map_cons]; unfold flatDs; rw [ih]; rfl
theorem dcK_gen {α : Type} {kf : α → Int} {vf : α → D} {enc : α → D} {vs : List Nat} {step : D → MR.Env → Option (D × D × MR.Env)} {ρ : MR.Env} (ff : ∀ x, flat (vf x) = true) :
    ∀ (xs ys : List α), (∀ x ∈ xs, ∃ ρ', step (enc x) ρ = some (.int (kf x), vf x, ρ') ∧ wipeE ρ' vs = ρ) → ((ys ++ xs).map kf).Nodup → mDcK vs step (xs.map enc) (ys.map (fun x => .inl (kf x)), ys.map fun x => .d (vf x)) ρ = some (((ys ++ xs).map (fun x => .inl (kf x)), (ys ++ xs).map fun x => .d (vf x)), ρ)
  | [], ys, _, _ => by simp [mDcK]
  | x :: xs, ys, hs, nd => by
    obtain ⟨ρ', e1, e2⟩ := hs x List.mem_cons_self
    have ap : ys ++ x :: xs = (ys ++ [x]) ++ xs := by simp
    have ih := dcK_gen ff xs (ys ++ [x]) (fun y hy => hs y (List.mem_cons_of_mem _ hy)) (by rw [← ap]; exact nd)
    have na : ¬ ((ys.map fun x => (.inl (kf x) : Key)).any fun y => decide (y = .inl (kf x))) = true := by
      intro z
      rw [List.any_map, List.any_eq_true] at z
      obtain ⟨y, hy, e⟩ := z
      have e : (Sum.inl (kf y) : Key) = Sum.inl (kf x) := by simpa using e
      have e := Sum.inl.inj e
      rw [List.map_append, List.map_cons] at nd
      have := (List.nodup_append.mp nd).2.2 (kf y) (List.mem_map.mpr ⟨y, hy, rfl⟩) (kf x) List.mem_cons_self
      exact this e
    rw [List.map_cons, mDcK, e1]
    simp only [keyK, ff, if_true, e2]
    have pk : putKO (ys.map fun x => (.inl (kf x) : Key)) (ys.map fun x => OT.d (vf x)) (.inl (kf x)) (.d (vf x)) = ((ys ++ [x]).map (fun x => .inl (kf x)), (ys ++ [x]).map fun x => .d (vf x)) := by
      unfold putKO
      rw [if_neg na]
      simp
    rw [pk, ih, ap]
theorem dcK_of {α : Type} {kf : α → Int} {vf : α → D} {enc : α → D} {vs : List Nat} {it : Lm} {g : Gm} {k v : Rm} {ρ ρ1 : MR.Env} {xs : List α} (ff : ∀ x, flat (vf x) = true) (h : it ρ = some (xs.map enc, ρ1)) (hc : calmAt ρ1 vs = true) (hl : xs.length ≤ 1000000)
    (hs : ∀ x ∈ xs, ∃ ρ', dcStep g k v (enc x) (wipeE ρ1 vs) = some (.int (kf x), vf x, ρ') ∧ wipeE ρ' vs = wipeE ρ1 vs) (nd : (xs.map kf).Nodup) :
    yDcK vs it g k v ρ = some (.nd (.dK (xs.map fun x => .inl (kf x))) (xs.map fun x => .d (vf x)), rst (wipeE ρ1 vs) ρ1 vs) := by
  unfold yDcK
  rw [h]
  simp only [Option.bind_some, hc, Bool.true_and, List.length_map, hl, decide_true, if_true]
  have := dcK_gen ff xs [] hs nd
  simp only [List.map_nil, List.nil_append] at this
  rw [this]
def wt (P : List Nat) (ts : List (Int × Int)) : List (Int × Int) := (ts.filter fun t => decide (t.1.toNat ∈ P) && decide (t.2.toNat ∈ P)).map fun t => ((P.idxOf t.1.toNat : Int), (P.idxOf t.2.toNat : Int))
theorem zipIdx_idx {P : List Nat} (nd : P.Nodup) : P.zipIdx.map (fun q : Nat × Nat => OT.d (.int (q.2 : Nat))) = P.map fun z => OT.d (.int (P.idxOf z : Nat)) := by
  apply List.ext_getElem?
  intro i
  rw [List.getElem?_map, List.getElem?_map, List.getElem?_zipIdx]
  by_cases h : i < P.length
  · rw [List.getElem?_eq_getElem h]
    have : P.idxOf P[i] = i := List.Nodup.idxOf_getElem nd i h
    simp [this]
  · rw [List.getElem?_eq_none (by omega)]; rfl
theorem inK_of {ρ : MR.Env} {a : Rm} {i z : Nat} {P : List Nat} {f : Nat → Nat} (ha : a ρ = some (.int (z : Nat))) (h : ρ[i]? = some (.nd (.dK (P.map fun z : Nat => .inl (z : Int))) (P.map fun z => .d (.int (f z : Nat))))) : rInK false a i ρ = some (.bool (decide (z ∈ P))) := by
  unfold rInK
  rw [ha, Option.bind_some]
  simp only [keyK, Option.bind_some, h, List.length_map, if_true, Bool.false_eq_true, if_false]
  rw [any_nats]
theorem ixK_of {ρ : MR.Env} {a : Rm} {i z : Nat} {P : List Nat} {f : Nat → Nat} (ha : a ρ = some (.int (z : Nat))) (h : ρ[i]? = some (.nd (.dK (P.map fun z : Nat => .inl (z : Int))) (P.map fun z => .d (.int (f z : Nat))))) (hz : z ∈ P) : rIxK i a ρ = some (.int (f z : Nat)) := by
  unfold rIxK
  rw [ha, Option.bind_some]
  simp only [keyK, Option.bind_some, h, List.length_map, if_true, flat_nats, getKD_nats, if_pos hz]
end z06
namespace z06
open PySem L2 PL MR SH SQ SB BF SA
local macro_rules | `(tactic| walk_at "ev") => `(tactic| simp (config := {decide := true}) only [ini, fin, finI, sSeq, sNext, sAsg, sAsgG, sRet, sRetN, sDrop, sIf, sNever, sSetP, sAppP, sClrP, sRevP, fR, pmVar, pmIx, pmIxT, MR.putAt, OT.put, OT.at, gmName, gmTup, gmLst, gsNil, gsCons, rVar, rC, rOp, rUn, rCb, rCbZ, rOpZ, rCall, rAnd, rOr, rNot, rIf, rIs, rCh, rCh3, rTup, rLst, rSl, cNone, cSome, rRepr, dRepr, rInDct, rIdx, rIdxD, iR3s, small, qNil, qCons, qApp, lApp, bR, bAnd, bOr, bNot, tR, tD, tmAnd, tmOr, tmNot, yVar_eq, yMov, yR, yAuto, dY, yD, dR, dOp, dOpR, dCb, dAnd, dOr, dNot, yCall, yCallA, yCallI, yCallIT, yCb, yCbA, yOp, yOpA, lfO, yTup, yLst, oNil, oCons, isNo, lNil, lCons, asB, asInt, asL, asT, iL, iT, iE, iZ, iV, yRng1_eq, iR1_eq, iR2_eq, lcStep, calmAt, wipeE, rst, sApp, yPop_eq, sDPutM, ySortD, yDNew, gmName, toD_d, toD_tup, toD_lst, toDs_nil, toDs_cons, toDs_ints, toDs_fpr, toDs_prs, lfs_ints, lfs_fpr, intsO_len, prsO_len, fprO_len, rng_len, intsO_snoc, prsO_snoc, lstO_rg, rOpZ, rCbZ, isNo_lstO, toD_dnew, ySl, ySlA, neS_self, eqS_self,  rRevL, yRevL, yRevLA, yPop0, sExt, gStrI,  lstO_prs, lstO_ints, toD_lstO, kp_int, kp_bool, kp_tuple, kp_list, kp_str, isIntB, isBoolB, isTupB, isListB, isStrB, gAdd_i, gSub_i, gLt_i, gLe_i, gGt_i, gGe_i, gMul_r, gMul_l, gMod_i, gDiv_i, gPow_i, gNeg, gEqI, gNeI, gEqS, gNeS, gIsN, gNotN, gIsB, gNotB, gIxL, gIxT, gLen, gMax2, gMin2, gInt, gAll, asBools_map, isN, OT.lf, OT.lfs, flat, atI_0, atI_1, ixN_0, ixN_1, rgD_len, enumD_len, trues_len, Int.toNat_natCast, List.length_map, eq_self, Option.bind_some, Option.bind_none, Option.map_some, Option.map_none, List.getElem?_cons_zero, List.getElem?_cons_succ, List.set_cons_zero, List.set_cons_succ, List.map_cons, List.map_nil, List.replicate, List.nil_append, List.cons_append, List.length_cons, List.length_nil, List.all_cons, List.all_nil, if_true, if_false, reduceIte, tfl_int, tfl_bool, tfl_none, tfl_str, tfl_list, Bool.true_and, Bool.and_true, Bool.false_and, Bool.and_false, Bool.true_or, Bool.or_true, Bool.false_or, Bool.or_false, Bool.not_true, Bool.not_false, Bool.false_eq_true, decide_true, decide_false, true_and, and_true, false_and, and_false, or_true, true_or, *])
theorem wt_lex {P : List Nat} (hr : P.Pairwise (· < ·)) {n : Nat} {ts : List (Int × Int)} (h : WOk n ts) : Lex (wt P ts) := by
  have mono : ∀ {x y : Nat}, x ∈ P → y ∈ P → x < y → P.idxOf x < P.idxOf y := by
    intro x y hx hy hxy
    have ix := List.idxOf_lt_length_of_mem hx
    have iy := List.idxOf_lt_length_of_mem hy
    by_cases c : P.idxOf x < P.idxOf y
    · exact c
    · exfalso
      by_cases e : P.idxOf x = P.idxOf y
      · have e1 := List.getElem_idxOf ix
        have e2 := List.getElem_idxOf iy
        have : P[P.idxOf x] = P[P.idxOf y] := by congr 1
        omega
      · have := List.pairwise_iff_getElem.mp hr (P.idxOf y) (P.idxOf x) iy ix (by omega)
        rw [List.getElem_idxOf, List.getElem_idxOf] at this
        omega
  unfold wt Lex
  rw [List.pairwise_map]
  have sub : (ts.filter fun t => decide (t.1.toNat ∈ P) && decide (t.2.toNat ∈ P)).Pairwise fun p q => p.1 < q.1 ∨ (p.1 = q.1 ∧ p.2 ≤ q.2) := List.Pairwise.sublist List.filter_sublist h.lex
  refine List.Pairwise.imp_of_mem (fun {a b} ha hb hab => ?_) sub
  obtain ⟨a1, a2⟩ := List.mem_filter.mp ha
  obtain ⟨b1, b2⟩ := List.mem_filter.mp hb
  simp only [Bool.and_eq_true, decide_eq_true_eq] at a2 b2
  have ia := h.in' a a1
  have ib := h.in' b b1
  rcases hab with z | ⟨z1, z2⟩
  · left
    have := mono a2.1 b2.1 (by omega)
    show ((P.idxOf a.1.toNat : Nat) : Int) < ((P.idxOf b.1.toNat : Nat) : Int)
    omega
  · right
    refine ⟨by rw [z1], ?_⟩
    show ((P.idxOf a.2.toNat : Nat) : Int) ≤ ((P.idxOf b.2.toNat : Nat) : Int)
    by_cases e : a.2 = b.2
    · rw [e]; exact Int.le_refl _
    · have := mono a2.2 b2.2 (by omega)
      omega
def inP (P : List Nat) (t : Int × Int) : Bool := decide (t.1.toNat ∈ P) && decide (t.2.toNat ∈ P)
def itm (P : List Nat) (t : Int × Int) : OT := .nd .tup [.d (.int (P.idxOf t.1.toNat : Nat)), .d (.int (P.idxOf t.2.toNat : Nat))]
theorem fm_wt (P : List Nat) (ts : List (Int × Int)) : ts.filterMap (fun t => if inP P t then some (itm P t) else none) = prsO (wt P ts) := by
  unfold wt prsO
  induction ts with
  | nil => rfl
  | cons t ts ih =>
    rw [List.filterMap_cons, List.filter_cons]
    by_cases c : inP P t = true
    · have c' : (decide (t.1.toNat ∈ P) && decide (t.2.toNat ∈ P)) = true := c
      rw [if_pos c, if_pos c', List.map_cons, List.map_cons, ← ih]
      rfl
    · have c' : ¬ (decide (t.1.toNat ∈ P) && decide (t.2.toNat ∈ P)) = true := c
      rw [if_neg c, if_neg c']
      exact ih
theorem web_within_ok {n : Nat} {ts : List (Int × Int)} (h : WOk n ts) (ht : ts.length ≤ 120) {P : List Nat} (nd : P.Nodup) (hl : P.length ≤ 40) : m_web_within [.list (ts.map pairD), natsD P] = some (.nd .tup [.d (.int (P.length : Nat)), .nd .lst (prsO (wt P ts))]) := by
  have en : enumD (P.map fun j => PyData.int (j : Nat)) = P.zipIdx.map fun q : Nat × Nat => PyData.tuple [.int (q.2 : Nat), .int (q.1 : Nat)] := enumD_map (fun j : Nat => PyData.int (j : Nat)) _
  have zf : (P.zipIdx.map fun q : Nat × Nat => q.1) = P := by simp
  have zk : (P.zipIdx.map fun q : Nat × Nat => (.inl (q.1 : Int) : Key)) = P.map fun z : Nat => .inl (z : Int) := by
    have := congrArg (fun l : List Nat => l.map fun z : Nat => (.inl (z : Int) : Key)) zf
    simp only [List.map_map] at this
    exact this
  have zn : (P.zipIdx.map fun q : Nat × Nat => (q.1 : Int)).Nodup := by
    have e : (P.zipIdx.map fun q : Nat × Nat => (q.1 : Int)) = P.map fun z : Nat => (z : Int) := by
      have := congrArg (fun l : List Nat => l.map fun z : Nat => (z : Int)) zf
      simp only [List.map_map] at this
      exact this
    rw [e, List.nodup_iff_pairwise_ne, List.pairwise_map]
    exact (List.nodup_iff_pairwise_ne.mp nd).imp fun {a b} z y => z (by omega)
  have zv := zipIdx_idx nd
  unfold m_web_within B_web_within
  refine fin_eq ?_
  rw [show natsD P = .list (P.map fun j => PyData.int (j : Nat)) from rfl]
  have it : iE (lCons (dY (yVar 1)) lNil) [.d (.list (ts.map pairD)), .d (.list (P.map fun j => PyData.int (j : Nat))), .no, .no, .no, .no, .no] = some (P.zipIdx.map fun q : Nat × Nat => PyData.tuple [.int (q.2 : Nat), .int (q.1 : Nat)], [.d (.list (ts.map pairD)), .d (.list (P.map fun j => PyData.int (j : Nat))), .no, .no, .no, .no, .no]) := by
    rw [← en]
    clear en zf zk zn zv
    walk_at "ev" <;> exact rfl
  have dk := dcK_of (g := gmTup (gsCons (gmName 3) (gsCons (gmName 4) gsNil))) (k := rVar 4) (v := rVar 3) (vs := [3, 4]) (kf := fun q : Nat × Nat => (q.1 : Int)) (vf := fun q : Nat × Nat => .int (q.2 : Nat)) (fun _ => rfl) it rfl (by simp; omega) (fun q hq => by
    refine ⟨[.d (.list (ts.map pairD)), .d (.list (P.map fun j => PyData.int (j : Nat))), .no, .d (.int (q.2 : Nat)), .d (.int (q.1 : Nat)), .no, .no], ?_, rfl⟩
    clear it en zf zk zn zv
    simp only [dcStep]
    walk_at "ev" <;> exact rfl) zn
  rw [zk, zv] at dk
  clear it en zf zk zn zv
  refine w_seq (w_asg (W.of dk ?_))
  clear dk
  simp only [sqK, rst, wipeE, List.set_cons_zero, List.set_cons_succ, List.getElem?_cons_zero, List.getElem?_cons_succ]
  have pl : (P.map fun j => PyData.int (j : Nat)).length = P.length := List.length_map _
  generalize (P.map fun j => PyData.int (j : Nat)) = PD at *
  have nx : ∀ (X : OT), W (yLc [5, 6] (iL (dY (yVar 0))) (gmTup (gsCons (gmName 5) (gsCons (gmName 6) gsNil))) (tR (bAnd (bR (rInK false (rVar 5) 2)) (bR (rInK false (rVar 6) 2)))) (yTup (oCons (yR (rIxK 2 (rVar 5))) (oCons (yR (rIxK 2 (rVar 6))) oNil)))) [.d (.list (ts.map pairD)), .d (.list PD), .nd (.dK (P.map fun z : Nat => .inl (z : Int))) (P.map fun z => .d (.int (P.idxOf z : Nat))), .no, .no, .no, .no] fun r ρ' => r = .nd .lst (prsO (wt P ts)) ∧ ρ' = [.d (.list (ts.map pairD)), .d (.list PD), .nd (.dK (P.map fun z : Nat => .inl (z : Int))) (P.map fun z => .d (.int (P.idxOf z : Nat))), .no, .no, .no, .no] := by
    intro _
    refine w_lcfT (fun t => if inP P t then some (itm P t) else none) (as := ts) (enc := pairD) (ρ1 := [.d (.list (ts.map pairD)), .d (.list PD), .nd (.dK (P.map fun z : Nat => .inl (z : Int))) (P.map fun z => .d (.int (P.idxOf z : Nat))), .no, .no, .no, .no]) (by walk_at "ev" <;> exact rfl) rfl (by omega) (fun t hm => ?_) ?_
    · obtain ⟨a1, a2, _⟩ := h.in' t hm
      obtain ⟨a, b⟩ := t
      simp only at a1 a2
      obtain ⟨a, rfl⟩ : ∃ k : Nat, a = (k : Int) := ⟨a.toNat, by omega⟩
      obtain ⟨b, rfl⟩ : ∃ k : Nat, b = (k : Int) := ⟨b.toNat, by omega⟩
      clear a1 a2 hm
      have i1 := inK_of (ρ := [.d (.list (ts.map pairD)), .d (.list PD), .nd (.dK (P.map fun z : Nat => .inl (z : Int))) (P.map fun z => .d (.int (P.idxOf z : Nat))), .no, .no, .d (.int (a : Nat)), .d (.int (b : Nat))]) (a := rVar 5) (i := 2) (z := a) (P := P) (f := fun z => P.idxOf z) rfl rfl
      have i2 := inK_of (ρ := [.d (.list (ts.map pairD)), .d (.list PD), .nd (.dK (P.map fun z : Nat => .inl (z : Int))) (P.map fun z => .d (.int (P.idxOf z : Nat))), .no, .no, .d (.int (a : Nat)), .d (.int (b : Nat))]) (a := rVar 6) (i := 2) (z := b) (P := P) (f := fun z => P.idxOf z) rfl rfl
      have x1 := fun hz => ixK_of (ρ := [.d (.list (ts.map pairD)), .d (.list PD), .nd (.dK (P.map fun z : Nat => .inl (z : Int))) (P.map fun z => .d (.int (P.idxOf z : Nat))), .no, .no, .d (.int (a : Nat)), .d (.int (b : Nat))]) (a := rVar 5) (i := 2) (z := a) (P := P) (f := fun z => P.idxOf z) rfl rfl hz
      have x2 := fun hz => ixK_of (ρ := [.d (.list (ts.map pairD)), .d (.list PD), .nd (.dK (P.map fun z : Nat => .inl (z : Int))) (P.map fun z => .d (.int (P.idxOf z : Nat))), .no, .no, .d (.int (a : Nat)), .d (.int (b : Nat))]) (a := rVar 6) (i := 2) (z := b) (P := P) (f := fun z => P.idxOf z) rfl rfl hz
      have inp : inP P ((a : Int), (b : Int)) = (decide (a ∈ P) && decide (b ∈ P)) := rfl
      have im : itm P ((a : Int), (b : Int)) = .nd .tup [.d (.int (P.idxOf a : Nat)), .d (.int (P.idxOf b : Nat))] := rfl
      rw [inp, im]
      clear inp im h nd
      generalize P.map (fun z : Nat => (.inl (z : Int) : Key)) = KS at *
      generalize P.map (fun z => OT.d (.int (P.idxOf z : Nat))) = VS at *
      generalize ts.map pairD = TD at *
      simp only [pairD]
      by_cases ca : a ∈ P
      · have x1 := x1 ca
        by_cases cb : b ∈ P
        · have x2 := x2 cb
          simp only [ca, cb, decide_true] at i1 i2 ⊢
          clear ca cb
          refine W.of (by walk_at "ev" <;> exact rfl) ?_
          exact ⟨rfl, rfl⟩
        · clear x1 x2
          simp only [ca, cb, decide_true, decide_false] at i1 i2 ⊢
          clear ca cb
          refine W.of (by walk_at "ev" <;> exact rfl) ?_
          exact ⟨rfl, rfl⟩
      · clear x1 x2
        simp only [ca, decide_false, Bool.false_and] at i1 ⊢
        clear ca i2
        refine W.of (by walk_at "ev" <;> exact rfl) ?_
        exact ⟨rfl, rfl⟩
    · rw [fm_wt]
      exact ⟨rfl, rfl⟩
  obtain ⟨r, ρ', e, rfl, rfl⟩ := nx .no
  clear nx
  generalize P.map (fun z : Nat => (.inl (z : Int) : Key)) = KS at *
  generalize P.map (fun z => OT.d (.int (P.idxOf z : Nat))) = VS at *
  generalize ts.map pairD = TD at *
  generalize prsO (wt P ts) = R at *
  clear h nd
  generalize yLc [5, 6] _ _ _ _ = YY at *
  exact w_end (by walk_at "ev" <;> exact rfl) rfl rfl
end z06
namespace z06
open PySem L2 PL MR SH SQ SB BF SA
local macro_rules | `(tactic| walk_at "ev") => `(tactic| simp (config := {decide := true}) only [ini, fin, finI, sSeq, sNext, sAsg, sAsgG, sRet, sRetN, sDrop, sIf, sNever, sSetP, sAppP, sClrP, sRevP, fR, pmVar, pmIx, pmIxT, MR.putAt, OT.put, OT.at, gmName, gmTup, gmLst, gsNil, gsCons, rVar, rC, rOp, rUn, rCb, rCbZ, rOpZ, rCall, rAnd, rOr, rNot, rIf, rIs, rCh, rCh3, rTup, rLst, rSl, cNone, cSome, rRepr, dRepr, rInDct, rIdx, rIdxD, iR3s, small, qNil, qCons, qApp, lApp, bR, bAnd, bOr, bNot, tR, tD, tmAnd, tmOr, tmNot, yVar_eq, yMov, yR, yAuto, dY, yD, dR, dOp, dOpR, dCb, dAnd, dOr, dNot, yCall, yCallA, yCallI, yCallIT, yCb, yCbA, yOp, yOpA, lfO, yTup, yLst, oNil, oCons, isNo, lNil, lCons, asB, asInt, asL, asT, iL, iT, iE, iZ, iV, yRng1_eq, iR1_eq, iR2_eq, lcStep, calmAt, wipeE, rst, sApp, yPop_eq, sDPutM, ySortD, yDNew, gmName, toD_d, toD_tup, toD_lst, toDs_nil, toDs_cons, toDs_ints, toDs_fpr, toDs_prs, lfs_ints, lfs_fpr, intsO_len, prsO_len, fprO_len, rng_len, intsO_snoc, prsO_snoc, lstO_rg, rOpZ, rCbZ, isNo_lstO, toD_dnew, ySl, ySlA, neS_self, eqS_self,  rRevL, yRevL, yRevLA, yPop0, sExt, gStrI,  lstO_prs, lstO_ints, toD_lstO, kp_int, kp_bool, kp_tuple, kp_list, kp_str, isIntB, isBoolB, isTupB, isListB, isStrB, gAdd_i, gSub_i, gLt_i, gLe_i, gGt_i, gGe_i, gMul_r, gMul_l, gMod_i, gDiv_i, gPow_i, gNeg, gEqI, gNeI, gEqS, gNeS, gIsN, gNotN, gIsB, gNotB, gIxL, gIxT, gLen, gMax2, gMin2, gInt, gAll, asBools_map, isN, OT.lf, OT.lfs, flat, atI_0, atI_1, ixN_0, ixN_1, rgD_len, enumD_len, trues_len, Int.toNat_natCast, List.length_map, eq_self, Option.bind_some, Option.bind_none, Option.map_some, Option.map_none, List.getElem?_cons_zero, List.getElem?_cons_succ, List.set_cons_zero, List.set_cons_succ, List.map_cons, List.map_nil, List.replicate, List.nil_append, List.cons_append, List.length_cons, List.length_nil, List.all_cons, List.all_nil, if_true, if_false, reduceIte, tfl_int, tfl_bool, tfl_none, tfl_str, tfl_list, Bool.true_and, Bool.and_true, Bool.false_and, Bool.and_false, Bool.true_or, Bool.or_true, Bool.false_or, Bool.or_false, Bool.not_true, Bool.not_false, Bool.false_eq_true, decide_true, decide_false, true_and, and_true, false_and, and_false, or_true, true_or, *])
/-- a rising list of places -/
structure Rs (n : Nat) (P : List Nat) : Prop where
  ne : P ≠ []
  rise : P.Pairwise (· < ·)
  inn : ∀ x ∈ P, x < n
theorem Rs.nd {n : Nat} {P : List Nat} (r : Rs n P) : P.Nodup := r.rise.imp fun {a b} h e => by omega
theorem Rs.len {n : Nat} {P : List Nat} (r : Rs n P) : P.length ≤ n := by
  have gen : ∀ (Q : List Nat) (lo : Nat), Q.Pairwise (· < ·) → (∀ x ∈ Q, lo ≤ x ∧ x < n) → Q.length ≤ n - lo := by
    intro Q
    induction Q with
    | nil => intro lo _ _; simp
    | cons a t ih =>
      intro lo hp hx
      have ha := hx a List.mem_cons_self
      have := ih (a + 1) (List.pairwise_cons.mp hp).2 fun x hx' => ⟨List.rel_of_pairwise_cons hp hx', (hx x (List.mem_cons_of_mem _ hx')).2⟩
      rw [List.length_cons]
      omega
  exact gen P 0 r.rise fun x hx => ⟨Nat.zero_le _, r.inn x hx⟩
theorem all_true {α : Type} (as : List α) : gAll [.list (as.map fun _ => PyData.bool true)] = some (.bool true) := by
  have e : (as.map fun _ => PyData.bool true) = (as.map fun _ => true).map .bool := by rw [List.map_map]; rfl
  unfold gAll
  simp only [e, asBools_map, Option.map_some]
  congr 2
  rw [List.all_eq_true]
  intro x hx
  obtain ⟨_, _, rfl⟩ := List.mem_map.mp hx
  rfl
theorem rising_ok {n : Nat} {Z : D} {P : List Nat} (r : Rs n P) (h40 : n ≤ 40) : m_are_rising [.tuple [.int (n : Nat), Z], natsD P] = some (.d (.bool true)) := by
  have hl := r.len
  have pl : (P.map fun j => PyData.int (j : Nat)).length = P.length := List.length_map _
  have bl : bList (rVar 1) [.d (.tuple [.int (n : Nat), Z]), .d (.list (P.map fun j => PyData.int (j : Nat))), .no, .no] = some true := by
    have : (P.map fun j => PyData.int (j : Nat)).isEmpty = false := by
      cases hP : P with
      | nil => exact absurd hP r.ne
      | cons a b => rfl
    show some (!(P.map fun j => PyData.int (j : Nat)).isEmpty) = _
    rw [this]
    rfl
  have pla : ∀ x ∈ P, SH.m_is_place [.int (n : Nat), .int (x : Nat)] = some (.d (.bool true)) := fun x hx => by
    have d1 : decide ((0 : Int) ≤ (x : Int) ∧ (x : Int) < (n : Int)) = true := by have := r.inn x hx; simp; omega
    rw [is_place_any]
    simp only [plB, d1]
  have c2 := rg2_1n (n := P.length) (by omega)
  have ix : ∀ i, (h : i < P.length) → atI (P.map fun j => PyData.int (j : Nat)) (i : Int) = some (.int (P[i] : Nat)) := fun i h => atI_at (by rw [List.getElem?_map, List.getElem?_eq_getElem h]; rfl)
  have at1 := all_true P
  have at2 := all_true (List.range (P.length - 1))
  have hr := r.rise
  have inn := r.inn
  unfold m_are_rising B_are_rising
  refine fin_eq ?_
  rw [show natsD P = .list (P.map fun j => PyData.int (j : Nat)) from rfl]
  clear r
  refine w_seq (w_if (c := false) (ρ1 := [.d (.tuple [.int (n : Nat), Z]), .d (.list (P.map fun j => PyData.int (j : Nat))), .no, .no]) (by clear ix pla hr inn c2 at1 at2; walk_at "ev" <;> exact rfl) (fun z => by cases z) (fun _ => ?_))
  refine w_next ?_
  clear bl
  simp only [sqK]
  refine w_seq (w_sif (w_tNot (w_tD (w_dCb (w_lCons (w_dY (w_lcmT (fun _ : Nat => OT.d (.bool true)) (as := P) (enc := fun j : Nat => PyData.int (j : Nat)) (ρ1 := [.d (.tuple [.int (n : Nat), Z]), .d (.list (P.map fun j => PyData.int (j : Nat))), .no, .no]) (by clear ix pla hr inn c2 at1 at2; walk_at "ev" <;> exact rfl) rfl (by omega) (fun x hx => ?_) ?_)))))))
  · have px := pla x hx
    clear ix pla hr inn c2 at1 at2 pl
    generalize P.map (fun j => PyData.int (j : Nat)) = PD at *
    refine W.of (by walk_at "ev" <;> exact rfl) ?_
    exact ⟨rfl, rfl⟩
  refine ⟨_, (by rw [toD_lst, toDs_mapD (fun _ : Nat => PyData.bool true)]; rfl), w_lNil ⟨_, at1, _, rfl, (fun z => by cases z), fun _ => w_next ?_⟩⟩
  simp only [sqK, rst, wipeE, List.set_cons_zero, List.set_cons_succ, List.getElem?_cons_zero, List.getElem?_cons_succ]
  have it : iR2 (lCons (dR (rC (.int 1))) (lCons (dR (rCb gLen (qCons (rVar 1) qNil))) lNil)) [.d (.tuple [.int (n : Nat), Z]), .d (.list (P.map fun j => PyData.int (j : Nat))), .no, .no] = some ((List.range (P.length - 1)).map fun k : Nat => PyData.int (1 + (k : Int)), [.d (.tuple [.int (n : Nat), Z]), .d (.list (P.map fun j => PyData.int (j : Nat))), .no, .no]) := by
    rw [show rgD 1 (P.length - 1) = (List.range (P.length - 1)).map fun k : Nat => PyData.int (1 + (k : Int)) from rfl] at c2
    clear ix pla hr inn at1 at2
    walk_at "ev" <;> exact rfl
  refine w_ret (w_yD (w_dCb (w_lCons (w_dY (w_lcmT (fun _ : Nat => OT.d (.bool true)) (as := List.range (P.length - 1)) (enc := fun k : Nat => PyData.int (1 + (k : Int))) it rfl (by simp; omega) (fun k hk => ?_) ?_)))))
  · have hk : k < P.length - 1 := List.mem_range.mp hk
    have i1 : atI (P.map fun j => PyData.int (j : Nat)) (1 + (k : Int) - 1) = some (.int (P[k]'(by omega) : Nat)) := by
      rw [show (1 + (k : Int) - 1) = (k : Int) by omega]
      exact ix k (by omega)
    have i2 : atI (P.map fun j => PyData.int (j : Nat)) (1 + (k : Int)) = some (.int (P[k + 1]'(by omega) : Nat)) := by
      rw [show (1 + (k : Int)) = ((k + 1 : Nat) : Int) by omega]
      exact ix (k + 1) (by omega)
    have lt : decide (((P[k]'(by omega) : Nat) : Int) < ((P[k + 1]'(by omega) : Nat) : Int)) = true := by
      rw [decide_eq_true_eq]
      have := List.pairwise_iff_getElem.mp hr k (k + 1) (by omega) (by omega) (by omega)
      omega
    clear ix it pla hr inn c2 at1 at2
    generalize P[k]'(by omega) = a at *
    generalize P[k + 1]'(by omega) = b at *
    generalize P.map (fun j => PyData.int (j : Nat)) = PD at *
    clear hk
    refine W.of (by walk_at "ev" <;> exact rfl) ?_
    exact ⟨rfl, rfl⟩
  refine ⟨_, (by rw [toD_lst, toDs_mapD (fun _ : Nat => PyData.bool true)]; rfl), w_lNil ⟨_, at2, rfl⟩⟩
theorem within_gen {n m : Nat} {TS PD : D} {WO : List OT} (f1 : SH.m_look_at_web [.tuple [.int (n : Nat), TS]] = some (.d .none)) (f2 : m_are_rising [.tuple [.int (n : Nat), TS], PD] = some (.d (.bool true))) (f3 : m_web_within [TS, PD] = some (.nd .tup [.d (.int (m : Nat)), .nd .lst WO])) (lf : OT.lfs WO = true) :
    m_within [.tuple [.int (n : Nat), TS], PD] = some (.nd .tup [.d (.int (m : Nat)), .nd .lst WO]) := by
  unfold m_within B_within
  refine fin_eq ?_
  refine w_seq (W.of (r := .nx) (ρ' := [.d (.tuple [.int (n : Nat), TS]), .d PD]) (by walk_at "ev" <;> exact rfl) ?_)
  simp only [sqK]
  refine w_seq (w_if (c := false) (ρ1 := [.d (.tuple [.int (n : Nat), TS]), .d PD]) (by walk_at "ev" <;> exact rfl) (fun z => by cases z) (fun _ => ?_))
  refine w_next ?_
  simp only [sqK]
  exact w_end (by walk_at "ev" <;> exact rfl) rfl rfl
theorem lf_prs (ts : List (Int × Int)) : OT.lfs (prsO ts) = true := by
  induction ts with
  | nil => simp [OT.lfs, prsO]
  | cons t ts ih => simp [OT.lfs, OT.lf, prsO, tfl_int] at ih ⊢; exact ih
theorem within_ok {w : Wb} (h : WbOk w) {P : List Nat} (r : Rs w.1 P) : m_within [wbD w, natsD P] = some (.nd .tup [.d (.int (P.length : Nat)), .nd .lst (prsO (wt P w.2))]) := by
  have hl := r.len
  have hh := h.hi
  exact within_gen (look_ok h.ok h.lo h.hi h.len) (rising_ok r h.hi) (web_within_ok h.ok h.len r.nd (by omega)) (lf_prs _)
end z06
namespace z06
open PySem L2 PL MR SH SQ SB BF SA
local macro_rules | `(tactic| walk_at "ev") => `(tactic| simp (config := {decide := true}) only [ini, fin, finI, sSeq, sNext, sAsg, sAsgG, sRet, sRetN, sDrop, sIf, sNever, sSetP, sAppP, sClrP, sRevP, fR, pmVar, pmIx, pmIxT, MR.putAt, OT.put, OT.at, gmName, gmTup, gmLst, gsNil, gsCons, rVar, rC, rOp, rUn, rCb, rCbZ, rOpZ, rCall, rAnd, rOr, rNot, rIf, rIs, rCh, rCh3, rTup, rLst, rSl, cNone, cSome, rRepr, dRepr, rInDct, rIdx, rIdxD, iR3s, small, qNil, qCons, qApp, lApp, bR, bAnd, bOr, bNot, tR, tD, tmAnd, tmOr, tmNot, yVar_eq, yMov, yR, yAuto, dY, yD, dR, dOp, dOpR, dCb, dAnd, dOr, dNot, yCall, yCallA, yCallI, yCallIT, yCb, yCbA, yOp, yOpA, lfO, yTup, yLst, oNil, oCons, isNo, lNil, lCons, asB, asInt, asL, asT, iL, iT, iE, iZ, iV, yRng1_eq, iR1_eq, iR2_eq, lcStep, calmAt, wipeE, rst, sApp, yPop_eq, sDPutM, ySortD, yDNew, gmName, toD_d, toD_tup, toD_lst, toDs_nil, toDs_cons, toDs_ints, toDs_fpr, toDs_prs, lfs_ints, lfs_fpr, intsO_len, prsO_len, fprO_len, rng_len, intsO_snoc, prsO_snoc, lstO_rg, rOpZ, rCbZ, isNo_lstO, toD_dnew, ySl, ySlA, neS_self, eqS_self,  rRevL, yRevL, yRevLA, yPop0, sExt, gStrI,  lstO_prs, lstO_ints, toD_lstO, kp_int, kp_bool, kp_tuple, kp_list, kp_str, isIntB, isBoolB, isTupB, isListB, isStrB, gAdd_i, gSub_i, gLt_i, gLe_i, gGt_i, gGe_i, gMul_r, gMul_l, gMod_i, gDiv_i, gPow_i, gNeg, gEqI, gNeI, gEqS, gNeS, gIsN, gNotN, gIsB, gNotB, gIxL, gIxT, gLen, gMax2, gMin2, gInt, gAll, asBools_map, isN, OT.lf, OT.lfs, flat, atI_0, atI_1, ixN_0, ixN_1, rgD_len, enumD_len, trues_len, Int.toNat_natCast, List.length_map, eq_self, Option.bind_some, Option.bind_none, Option.map_some, Option.map_none, List.getElem?_cons_zero, List.getElem?_cons_succ, List.set_cons_zero, List.set_cons_succ, List.map_cons, List.map_nil, List.replicate, List.nil_append, List.cons_append, List.length_cons, List.length_nil, List.all_cons, List.all_nil, if_true, if_false, reduceIte, tfl_int, tfl_bool, tfl_none, tfl_str, tfl_list, Bool.true_and, Bool.and_true, Bool.false_and, Bool.and_false, Bool.true_or, Bool.or_true, Bool.false_or, Bool.or_false, Bool.not_true, Bool.not_false, Bool.false_eq_true, decide_true, decide_false, true_and, and_true, false_and, and_false, or_true, true_or, *])
theorem idx_ok {P : List Nat} (nd : P.Nodup) {a : Nat} (ha : a ∈ P) : gIndex (.list (P.map fun j => PyData.int (j : Nat))) (.int (a : Nat)) = some (.int (P.idxOf a : Nat)) := by
  have e : (P.map fun j => PyData.int (j : Nat)) = (P.map fun j : Nat => (j : Int)).map .int := by rw [List.map_map]; rfl
  have nd2 : (P.map fun j : Nat => (j : Int)).Nodup := by
    rw [List.nodup_iff_pairwise_ne, List.pairwise_map]
    exact (List.nodup_iff_pairwise_ne.mp nd).imp fun {a b} z y => z (by omega)
  have il := List.idxOf_lt_length_of_mem ha
  have g : (P.map fun j : Nat => (j : Int))[P.idxOf a]? = some (a : Int) := by
    rw [List.getElem?_map, List.getElem?_eq_getElem il, List.getElem_idxOf]
    rfl
  have f := firstAt_of (j := 0) nd2 g
  rw [Nat.zero_add] at f
  rw [e]
  unfold gIndex
  simp only [asInts_map, Option.bind_some, f, Option.map_some]
theorem wt_snoc (P : List Nat) (ts : List (Int × Int)) (t : Int × Int) : prsO (wt P (ts ++ [t])) = prsO (wt P ts) ++ (if inP P t then [itm P t] else []) := by
  rw [← fm_wt, ← fm_wt, List.filterMap_append]
  congr 1
  by_cases c : inP P t = true
  · simp [c]
  · simp [c]
theorem wt_len (P : List Nat) (ts : List (Int × Int)) : (wt P ts).length ≤ ts.length := by
  unfold wt
  rw [List.length_map]
  exact List.length_filter_le _ _
theorem law_within_ok {w : Wb} (h : WbOk w) {P : List Nat} (r : Rs w.1 P) : m__law_within [wbD w, natsD P] = some (.nd .tup [.d (.int (P.length : Nat)), .nd .lst (fprO (wt P w.2))]) := by
  have nd := r.nd
  have hlen := h.len
  have hok := h.ok
  have lx := wt_lex r.rise hok
  have so := sortA_prs (wt P w.2)
  rw [srt_id lx] at so
  have tl := fun i => wt_len P (w.2.take i)
  obtain ⟨n, ts⟩ := w
  rw [wbD_eq]
  simp only at *
  clear lx r h
  have pl : (P.map fun j => PyData.int (j : Nat)).length = P.length := List.length_map _
  have tp := toDs_prs (wt P ts)
  have lff : OT.lfs (fprO (wt P ts)) = true := lfs_fpr _
  unfold m__law_within B__law_within
  refine fin_eq ?_
  rw [show natsD P = .list (P.map fun j => PyData.int (j : Nat)) from rfl]
  refine w_st (ρ1 := [.d (.tuple [.int (n : Nat), .list (ts.map pairD)]), .d (.list (P.map fun j => PyData.int (j : Nat))), .nd .lst [], .no, .no]) (by clear so tl tp lff; walk_at "ev" <;> exact rfl) ?_
  refine w_seq (w_forT (fun i ρ => ∃ X3 X4, ρ = [.d (.tuple [.int (n : Nat), .list (ts.map pairD)]), .d (.list (P.map fun j => PyData.int (j : Nat))), .nd .lst (prsO (wt P (ts.take i))), X3, X4]) (as := ts) (enc := pairD) (ρ1 := [.d (.tuple [.int (n : Nat), .list (ts.map pairD)]), .d (.list (P.map fun j => PyData.int (j : Nat))), .nd .lst [], .no, .no]) (by clear so tl tp lff; walk_at "ev" <;> exact rfl) ⟨_, _, rfl⟩ (fun i t ρ2 hp hs => ?_) ?_)
  · obtain ⟨X3, X4, rfl⟩ := hs
    clear so tp lff
    have li : (prsO (wt P (ts.take i))).length ≤ 1000000 := by
      rw [prsO_len]
      have := tl i
      rw [List.length_take] at this
      omega
    have tk : ts.take (i + 1) = ts.take i ++ [t] := by rw [List.take_add_one, hp]; rfl
    rw [tk, wt_snoc]
    obtain ⟨a1, a2, _⟩ := hok.in' t (List.mem_of_getElem? hp)
    obtain ⟨a, b⟩ := t
    simp only at a1 a2
    obtain ⟨a, rfl⟩ : ∃ k : Nat, a = (k : Int) := ⟨a.toNat, by omega⟩
    obtain ⟨b, rfl⟩ : ∃ k : Nat, b = (k : Int) := ⟨b.toNat, by omega⟩
    have i1 := inI_nats false a P
    have i2 := inI_nats false b P
    have x1 := fun hz => idx_ok nd (a := a) hz
    have x2 := fun hz => idx_ok nd (a := b) hz
    have inp : inP P ((a : Int), (b : Int)) = (decide (a ∈ P) && decide (b ∈ P)) := rfl
    have im : itm P ((a : Int), (b : Int)) = .nd .tup [.d (.int (P.idxOf a : Nat)), .d (.int (P.idxOf b : Nat))] := rfl
    rw [inp, im]
    clear inp im a1 a2 hp tk tl hok nd pl
    generalize prsO (wt P (ts.take i)) = AC at *
    generalize (P.map fun j => PyData.int (j : Nat)) = PD at *
    generalize ts.map pairD = TD at *
    refine ⟨[.d (.tuple [.int (n : Nat), .list TD]), .d (.list PD), .nd .lst AC, .d (.int (a : Nat)), .d (.int (b : Nat))], rfl, ?_⟩
    by_cases ca : a ∈ P
    · have x1 := x1 ca
      by_cases cb : b ∈ P
      · have x2 := x2 cb
        simp only [ca, cb, decide_true, Bool.false_eq_true, if_false] at i1 i2 ⊢
        clear ca cb
        refine w_if (c := true) (ρ1 := [.d (.tuple [.int (n : Nat), .list TD]), .d (.list PD), .nd .lst AC, .d (.int (a : Nat)), .d (.int (b : Nat))]) (by walk_at "ev" <;> exact rfl) (fun _ => ?_) (fun z => by cases z)
        refine W.of (r := .nx) (ρ' := [.d (.tuple [.int (n : Nat), .list TD]), .d (.list PD), .nd .lst (AC ++ [.nd .tup [.d (.int (P.idxOf a : Nat)), .d (.int (P.idxOf b : Nat))]]), .d (.int (a : Nat)), .d (.int (b : Nat))]) (by unfold rIdx; walk_at "ev" <;> exact rfl) ?_
        exact ⟨_, _, rfl⟩
      · clear x1 x2
        simp only [ca, cb, decide_true, decide_false, Bool.false_eq_true, if_false, Bool.and_false, List.append_nil] at i1 i2 ⊢
        clear ca cb
        refine w_if (c := false) (ρ1 := [.d (.tuple [.int (n : Nat), .list TD]), .d (.list PD), .nd .lst AC, .d (.int (a : Nat)), .d (.int (b : Nat))]) (by walk_at "ev" <;> exact rfl) (fun z => by cases z) (fun _ => ?_)
        exact w_next ⟨_, _, rfl⟩
    · clear x1 x2
      simp only [ca, decide_false, Bool.false_eq_true, if_false, Bool.false_and, List.append_nil] at i1 ⊢
      clear ca i2
      refine w_if (c := false) (ρ1 := [.d (.tuple [.int (n : Nat), .list TD]), .d (.list PD), .nd .lst AC, .d (.int (a : Nat)), .d (.int (b : Nat))]) (by walk_at "ev" <;> exact rfl) (fun z => by cases z) (fun _ => ?_)
      exact w_next ⟨_, _, rfl⟩
  · rintro ρ2 ⟨X3, X4, rfl⟩
    rw [List.take_length]
    simp only [sqK]
    clear tl hok nd
    generalize prsO (wt P ts) = AC at *
    generalize fprO (wt P ts) = FC at *
    generalize (wt P ts).map pairD = WD at *
    generalize (P.map fun j => PyData.int (j : Nat)) = PD at *
    generalize ts.map pairD = TD at *
    exact w_end (by walk_at "ev" <;> exact rfl) rfl rfl
theorem right_within_gen {n m : Nat} {TS PD : List D} {WO VO PO : List OT} {WD : List D} {R : Str} (f1 : m_within [.tuple [.int (n : Nat), .list TS], .list PD] = some (.nd .tup [.d (.int (m : Nat)), .nd .lst WO])) (f2 : m__law_within [.tuple [.int (n : Nat), .list TS], .list PD] = some (.nd .tup [.d (.int (m : Nat)), .nd .lst VO])) (t1 : OT.toDs WO = some WD) (t2 : OT.toDs VO = some WD) (l1 : OT.lfs WO = true) (l2 : WO.length ≤ 1000000)
    (gl : GList [.list PD] = some (.nd .lst PO)) (tp : OT.toDs PO = some PD) (lp : OT.lfs PO = true) (wh : m__law_whole [.int (m : Nat)] = some (.d (.bool true))) (rp : gRepr (.tuple [.int (m : Nat), .list WD]) = some (.str R)) (ne : gNeD (.list PD) (.list PD) = some (.bool false)) (eq : gEqD (.tuple [.int (m : Nat), .list WD]) (.tuple [.int (m : Nat), .list WD]) = some (.bool true)) :
    m__law_within_right [.tuple [.int (n : Nat), .list TS], .list PD] = some (.d (.bool true)) := by
  unfold m__law_within_right B__law_within_right
  refine fin_eq ?_
  refine w_st (ρ1 := [.d (.tuple [.int (n : Nat), .list TS]), .d (.list PD), .nd .lst PO, .no]) (by clear rp ne eq; walk_at "ev" <;> exact rfl) ?_
  refine w_st (ρ1 := [.d (.tuple [.int (n : Nat), .list TS]), .d (.list PD), .nd .lst PO, .nd .tup [.d (.int (m : Nat)), .nd .lst WO]]) (by clear rp ne eq f2 gl; walk_at "ev" <;> exact rfl) ?_
  refine w_seq (w_if (c := false) (ρ1 := [.d (.tuple [.int (n : Nat), .list TS]), .d (.list PD), .nd .lst PO, .nd .tup [.d (.int (m : Nat)), .nd .lst WO]]) (by clear rp ne eq f1 f2 gl; walk_at "ev" <;> exact rfl) (fun z => by cases z) (fun _ => ?_))
  refine w_next ?_
  simp only [sqK]
  refine w_seq (w_if (c := false) (ρ1 := [.d (.tuple [.int (n : Nat), .list TS]), .d (.list PD), .nd .lst PO, .nd .tup [.d (.int (m : Nat)), .nd .lst WO]]) (by clear eq f1 gl wh; walk_at "ev" <;> exact rfl) (fun z => by cases z) (fun _ => ?_))
  refine w_next ?_
  simp only [sqK]
  refine w_st (ρ1 := [.d (.tuple [.int (n : Nat), .list TS]), .d (.list PD), .nd .lst PO, .nd .tup [.d (.int (m : Nat)), .nd .lst (WO ++ [.d .none])]]) (by clear rp ne eq f1 f2 gl; walk_at "ev" <;> exact rfl) ?_
  exact w_end (by walk_at "ev" <;> exact rfl) rfl rfl
theorem nice_wt {m : Nat} {us : List (Int × Int)} (hm : m ≤ 1000) (hu : us.length ≤ 200) (h : ∀ t ∈ us, 0 ≤ t.1 ∧ t.1 ≤ 1000 ∧ 0 ≤ t.2 ∧ t.2 ≤ 1000) : Nice (.tuple [.int (m : Nat), .list (us.map pairD)]) 3 (0 + 200 * 3 + 2) :=
  nice_tup2 (k := 2) ((nice_int (by omega)).up (by omega) (by omega)) (nice_list (f := pairD) (n := 200) (fun t ht => nice_pr (by have := h t ht; omega)) hu)
theorem whole_int (m : Nat) : m__law_whole [.int (m : Nat)] = some (.d (.bool true)) := by
  unfold m__law_whole B__law_whole
  refine fin_eq ?_
  exact w_end (by walk_at "ev" <;> exact rfl) rfl rfl
theorem right_within_ok {w : Wb} (h : WbOk w) {P : List Nat} (r : Rs w.1 P) : m__law_within_right [wbD w, natsD P] = some (.d (.bool true)) := by
  have hl := r.len
  have h40 := h.hi
  have f1 := within_ok h r
  have f2 := law_within_ok h r
  have wl := wt_len P w.2
  have h120 := h.len
  have nc := nice_wt (m := P.length) (us := wt P w.2) (by omega) (by omega) fun t ht => by
    unfold wt at ht
    obtain ⟨s, _, rfl⟩ := List.mem_map.mp ht
    have e1 := List.idxOf_le_length (a := s.1.toNat) (l := P)
    have e2 := List.idxOf_le_length (a := s.2.toNat) (l := P)
    refine ⟨by omega, ?_, by omega, ?_⟩
    · show ((P.idxOf s.1.toNat : Nat) : Int) ≤ 1000
      omega
    · show ((P.idxOf s.2.toNat : Nat) : Int) ≤ 1000
      omega
  have np := nice_nats (xs := P) (fun x hx => by have := r.inn x hx; omega) (by omega)
  exact right_within_gen f1 f2 (toDs_prs _) (toDs_fpr _) (lf_prs _) (by rw [prsO_len]; omega) (PO := natsO P) (gl := by simp [GList, natsO, lstO]) (toDs_nats P) (lf_nats P) (whole_int _) (nc.repr (by omega) (by omega)) (np.neD (by omega)) (nc.eqD (by omega))
end z06
namespace z06
open PySem L2 PL MR SH SQ SB BF SA
local macro_rules | `(tactic| walk_at "ev") => `(tactic| simp (config := {decide := true}) only [ini, fin, finI, sSeq, sNext, sAsg, sAsgG, sRet, sRetN, sDrop, sIf, sNever, sSetP, sAppP, sClrP, sRevP, fR, pmVar, pmIx, pmIxT, MR.putAt, OT.put, OT.at, gmName, gmTup, gmLst, gsNil, gsCons, rVar, rC, rOp, rUn, rCb, rCbZ, rOpZ, rCall, rAnd, rOr, rNot, rIf, rIs, rCh, rCh3, rTup, rLst, rSl, cNone, cSome, rRepr, dRepr, rInDct, rIdx, rIdxD, iR3s, small, qNil, qCons, qApp, lApp, bR, bAnd, bOr, bNot, tR, tD, tmAnd, tmOr, tmNot, yVar_eq, yMov, yR, yAuto, dY, yD, dR, dOp, dOpR, dCb, dAnd, dOr, dNot, yCall, yCallA, yCallI, yCallIT, yCb, yCbA, yOp, yOpA, lfO, yTup, yLst, oNil, oCons, isNo, lNil, lCons, asB, asInt, asL, asT, iL, iT, iE, iZ, iV, yRng1_eq, iR1_eq, iR2_eq, lcStep, calmAt, wipeE, rst, sApp, yPop_eq, sDPutM, ySortD, yDNew, gmName, toD_d, toD_tup, toD_lst, toDs_nil, toDs_cons, toDs_ints, toDs_fpr, toDs_prs, lfs_ints, lfs_fpr, intsO_len, prsO_len, fprO_len, rng_len, intsO_snoc, prsO_snoc, lstO_rg, rOpZ, rCbZ, isNo_lstO, toD_dnew, ySl, ySlA, neS_self, eqS_self,  rRevL, yRevL, yRevLA, yPop0, sExt, gStrI,  lstO_prs, lstO_ints, toD_lstO, kp_int, kp_bool, kp_tuple, kp_list, kp_str, isIntB, isBoolB, isTupB, isListB, isStrB, gAdd_i, gSub_i, gLt_i, gLe_i, gGt_i, gGe_i, gMul_r, gMul_l, gMod_i, gDiv_i, gPow_i, gNeg, gEqI, gNeI, gEqS, gNeS, gIsN, gNotN, gIsB, gNotB, gIxL, gIxT, gLen, gMax2, gMin2, gInt, gAll, asBools_map, isN, OT.lf, OT.lfs, flat, atI_0, atI_1, ixN_0, ixN_1, rgD_len, enumD_len, trues_len, Int.toNat_natCast, List.length_map, eq_self, Option.bind_some, Option.bind_none, Option.map_some, Option.map_none, List.getElem?_cons_zero, List.getElem?_cons_succ, List.set_cons_zero, List.set_cons_succ, List.map_cons, List.map_nil, List.replicate, List.nil_append, List.cons_append, List.length_cons, List.length_nil, List.all_cons, List.all_nil, if_true, if_false, reduceIte, tfl_int, tfl_bool, tfl_none, tfl_str, tfl_list, Bool.true_and, Bool.and_true, Bool.false_and, Bool.and_false, Bool.true_or, Bool.or_true, Bool.false_or, Bool.or_false, Bool.not_true, Bool.not_false, Bool.false_eq_true, decide_true, decide_false, true_and, and_true, false_and, and_false, or_true, true_or, *])
theorem w_yAutoN {a : Rm} {y : Ym} {ρ : MR.Env} {x : D} {Q : OT → MR.Env → Prop} (h : a ρ = some x) (f : tfl x = false) (q : W y ρ Q) : W (yAuto a y) ρ Q := by
  obtain ⟨r, ρ', e, q⟩ := q
  refine ⟨r, ρ', ?_, q⟩
  unfold yAuto
  rw [h]
  simp only [f, Bool.false_eq_true, if_false]
  exact e
theorem eq_nilN (P : List Nat) : gEqD (.list (P.map fun j => PyData.int (j : Nat))) (.list []) = some (.bool (decide (P = []))) := by
  have s : SeqAt.shaped (.list (P.map fun j => PyData.int (j : Nat))) = true := shaped_nats P
  have s2 : SeqAt.shaped (.list []) = true := rfl
  unfold gEqD
  rw [s, s2]
  cases P with
  | nil => rfl
  | cons n ns => rfl
noncomputable def B_one : Sm :=
 (sSeq (sAsg 5 (yCallA SQ.m__law_cell_at 2 (qCons (rVar 0) (qCons (rOp gAdd (rOp gMul (rC (.int 2)) (rVar 1)) (rOp gMod (rVar 4) (rC (.int 2)))) qNil)) (lCons (dY (yVar 0)) (lCons (dR (rOp gAdd (rOp gMul (rC (.int 2)) (rVar 1)) (rOp gMod (rVar 4) (rC (.int 2))))) lNil))))
 (sSeq (sAsg 6 (yCall SQ.m__law_numbers 3 (lCons (dY (yVar 5)) (lCons (dR (rOp gAdd (rOp gAdd (rC (.int 1700)) (rOp gMul (rC (.int 4)) (rVar 1))) (rVar 4))) (lCons (dY (yOp GCat (dY (yLst (oCons (yVar 2) oNil))) (dY (yRep (yLst (oCons (yR (rOp gAdd (rC (.int 2)) (rVar 4))) oNil)) (rVar 2))))) lNil)))))
 (sSeq (sAsg 7 (yLc [8] (iR1 (lCons (dY (yVar 2)) lNil)) (gmName 8) (tR (bR (rOp gEqI (rOp gIxL (rVar 6) (rOp gAdd (rC (.int 1)) (rVar 8))) (rC (.int 0))))) (yVar 8)))
 (sApp 3 (yAuto (rOp gIxL (rLst (qCons (rVar 7) (qCons (rLst (qCons (rOp gIxL (rVar 6) (rC (.int 0))) qNil)) qNil))) (rCb gInt (qCons (rOp gEqD (rVar 7) (rLst qNil)) qNil))) (yD (dOpR gIxL (dY (yLst (oCons (yVar 7) (oCons (yLst (oCons (yAuto (rOp gIxL (rVar 6) (rC (.int 0))) (yD (dOpR gIxL (dY (yVar 6)) (rC (.int 0))))) oNil)) oNil)))) (rCb gInt (qCons (rOp gEqD (rVar 7) (rLst qNil)) qNil)))))))))
theorem one_gen {NS : D} {k n turn : Nat} {cell d0 : Int} {AC : List OT} {X5 X6 X7 : OT} {SZ : List D} {DO : List OT} {DD : List D} (dg : Nat → Int) {P : List Nat} (hP : P = (List.range n).filter fun p => decide (dg p = 0)) (hk : k ≤ 1000) (ht : turn < 4) (hn : n ≤ 40)
    (e1 : SQ.m__law_cell_at [NS, .int (2 * (k : Int) + (turn : Int) % 2)] = some (.d (.int cell)))
    (sz : SZ = .int (n : Nat) :: List.replicate n (.int (2 + (turn : Int))))
    (e2 : SQ.m__law_numbers [.int cell, .int (1700 + 4 * (k : Int) + (turn : Int)), .list SZ] = some (.nd .lst DO)) (td : OT.toDs DO = some DD) (ld : OT.lfs DO = true)
    (a0 : atI DD 0 = some (.int d0)) (ap : ∀ p, p < n → atI DD (1 + (p : Int)) = some (.int (dg p)))
    (lac : AC.length ≤ 1000) {Q : Fl → MR.Env → Prop} (hQ : ∀ X5 X6 X7, Q .nx [.d NS, .d (.int (k : Nat)), .d (.int (n : Nat)), .nd .lst (AC ++ [.d (if P = [] then .list [.int d0] else natsD P)]), .d (.int (turn : Nat)), X5, X6, X7, .no]) :
    W B_one [.d NS, .d (.int (k : Nat)), .d (.int (n : Nat)), .nd .lst AC, .d (.int (turn : Nat)), X5, X6, X7, .no] Q := by
  have two : (0 : Int) < 2 ∧ (2 : Int) < 1073741824 := by decide
  have two' : (0 : Int) < 2 := by decide
  have b2 : ((-(2 ^ 64) : Int) < 2 ∧ (2 : Int) < 2 ^ 64) := by decide
  have b4 : ((-(2 ^ 64) : Int) < 4 ∧ (4 : Int) < 2 ^ 64) := by decide
  have bk : ((-(2 ^ 64) : Int) < (k : Int) ∧ (k : Int) < 2 ^ 64) := by omega
  have lacb : AC.length ≤ 1000000 := by omega
  unfold B_one
  refine w_st (ρ1 := [.d NS, .d (.int (k : Nat)), .d (.int (n : Nat)), .nd .lst AC, .d (.int (turn : Nat)), .d (.int cell), X6, X7, .no]) (by clear hQ e2 sz hP ap; walk_at "ev" <;> exact rfl) ?_
  have rp : yRep (yLst (oCons (yR (rOp gAdd (rC (.int 2)) (rVar 4))) oNil)) (rVar 2) [.d NS, .d (.int (k : Nat)), .d (.int (n : Nat)), .nd .lst AC, .d (.int (turn : Nat)), .d (.int cell), X6, X7, .no] = some (lstO (List.replicate n (.int (2 + (turn : Int)))), [.d NS, .d (.int (k : Nat)), .d (.int (n : Nat)), .nd .lst AC, .d (.int (turn : Nat)), .d (.int cell), X6, X7, .no]) :=
    yRep_one (k := n) (by clear hQ e1 e2 sz hP ap; walk_at "ev" <;> exact rfl) (by clear hQ e1 e2 sz hP ap; walk_at "ev" <;> exact rfl) (by omega)
  have hB := dY_of rp (toD_lstO _)
  have hA : dY (yLst (oCons (yVar 2) oNil)) [.d NS, .d (.int (k : Nat)), .d (.int (n : Nat)), .nd .lst AC, .d (.int (turn : Nat)), .d (.int cell), X6, X7, .no] = some (.list [.int (n : Nat)], [.d NS, .d (.int (k : Nat)), .d (.int (n : Nat)), .nd .lst AC, .d (.int (turn : Nat)), .d (.int cell), X6, X7, .no]) := by clear hQ e1 e2 sz hP ap rp hB; walk_at "ev" <;> exact rfl
  have hC := dY_of (yOp_of hA hB (GCat_ok (by simp; omega))) (toD_lstO _)
  rw [show [PyData.int (n : Nat)] ++ List.replicate n (PyData.int (2 + (turn : Int))) = SZ from sz.symm] at hC
  clear rp hA hB sz e1
  generalize dY (yOp GCat _ _) = YY at *
  refine w_st (ρ1 := [.d NS, .d (.int (k : Nat)), .d (.int (n : Nat)), .nd .lst AC, .d (.int (turn : Nat)), .d (.int cell), .nd .lst DO, X7, .no]) (by clear hQ hP ap; walk_at "ev" <;> exact rfl) ?_
  clear e2 hC
  have c1 := rg1_n (n := n) (by omega)
  rw [rgD0] at c1
  refine w_seq (w_asg (w_lcfT (fun p : Nat => if decide (dg p = 0) then some (OT.d (.int (p : Nat))) else Option.none) (as := List.range n) (enc := fun q : Nat => PyData.int (q : Int)) (ρ1 := [.d NS, .d (.int (k : Nat)), .d (.int (n : Nat)), .nd .lst AC, .d (.int (turn : Nat)), .d (.int cell), .nd .lst DO, X7, .no]) (by clear hQ hP ap; walk_at "ev" <;> exact rfl) rfl (by simp; omega) (fun q hq => ?_) ?_))
  · have fq := ap q (List.mem_range.mp hq)
    clear hQ hP ap c1
    by_cases c : dg q = 0
    · have c' : decide (dg q = 0) = true := decide_eq_true c
      clear c
      refine W.of (by walk_at "ev" <;> exact rfl) ?_
      exact ⟨by rw [if_pos c'], rfl⟩
    · have c' : decide (dg q = 0) = false := decide_eq_false c
      clear c
      refine W.of (by walk_at "ev" <;> exact rfl) ?_
      exact ⟨by rw [c']; rfl, rfl⟩
  rw [natsO_fm fun p => decide (dg p = 0), ← hP, show intsO (P.map fun (k : Nat) => (k : Int)) = natsO P by simp [intsO, natsO]]
  simp only [sqK, rst, wipeE, List.set_cons_zero, List.set_cons_succ, List.getElem?_cons_zero, List.getElem?_cons_succ]
  clear hP ap c1
  have en := eq_nilN P
  have tn := toDs_nats P
  have lt : tfl (.list (P.map fun j => PyData.int (j : Nat))) = false := by simp [tfl]
  have lt2 : tfl (.list [.int d0]) = false := by simp [tfl]
  by_cases c : P = []
  · have c' : decide (P = []) = true := decide_eq_true c
    rw [c'] at en
    simp only [if_pos c] at hQ
    clear c c'
    generalize natsO P = PO at *
    generalize (P.map fun j => PyData.int (j : Nat)) = PD at *
    refine w_sApp rfl (w_yAutoN (x := .list [.int d0]) (by clear hQ; walk_at "ev" <;> exact rfl) lt2 (W.of (r := .d (.list [.int d0])) (ρ' := [.d NS, .d (.int (k : Nat)), .d (.int (n : Nat)), .nd .lst AC, .d (.int (turn : Nat)), .d (.int cell), .nd .lst DO, .d (.list PD), .no]) (by clear hQ; walk_at "ev" <;> exact rfl) ?_))
    exact ⟨rfl, AC, rfl, lacb, hQ _ _ _⟩
  · have c' : decide (P = []) = false := decide_eq_false c
    rw [c'] at en
    simp only [if_neg c] at hQ
    clear c c'
    rw [show natsD P = .list (P.map fun j => PyData.int (j : Nat)) from rfl] at hQ
    generalize natsO P = PO at *
    generalize (P.map fun j => PyData.int (j : Nat)) = PD at *
    refine w_sApp rfl (w_yAutoN (x := .list PD) (by clear hQ; walk_at "ev" <;> exact rfl) lt (W.of (r := .d (.list PD)) (ρ' := [.d NS, .d (.int (k : Nat)), .d (.int (n : Nat)), .nd .lst AC, .d (.int (turn : Nat)), .d (.int cell), .nd .lst DO, .d (.list PD), .no]) (by clear hQ; walk_at "ev" <;> exact rfl) ?_))
    exact ⟨rfl, AC, rfl, lacb, hQ _ _ _⟩
end z06
namespace z06
open PySem L2 PL MR SH SQ SB BF SA
local macro_rules | `(tactic| walk_at "ev") => `(tactic| simp (config := {decide := true}) only [ini, fin, finI, sSeq, sNext, sAsg, sAsgG, sRet, sRetN, sDrop, sIf, sNever, sSetP, sAppP, sClrP, sRevP, fR, pmVar, pmIx, pmIxT, MR.putAt, OT.put, OT.at, gmName, gmTup, gmLst, gsNil, gsCons, rVar, rC, rOp, rUn, rCb, rCbZ, rOpZ, rCall, rAnd, rOr, rNot, rIf, rIs, rCh, rCh3, rTup, rLst, rSl, cNone, cSome, rRepr, dRepr, rInDct, rIdx, rIdxD, iR3s, small, qNil, qCons, qApp, lApp, bR, bAnd, bOr, bNot, tR, tD, tmAnd, tmOr, tmNot, yVar_eq, yMov, yR, yAuto, dY, yD, dR, dOp, dOpR, dCb, dAnd, dOr, dNot, yCall, yCallA, yCallI, yCallIT, yCb, yCbA, yOp, yOpA, lfO, yTup, yLst, oNil, oCons, isNo, lNil, lCons, asB, asInt, asL, asT, iL, iT, iE, iZ, iV, yRng1_eq, iR1_eq, iR2_eq, lcStep, calmAt, wipeE, rst, sApp, yPop_eq, sDPutM, ySortD, yDNew, gmName, toD_d, toD_tup, toD_lst, toDs_nil, toDs_cons, toDs_ints, toDs_fpr, toDs_prs, lfs_ints, lfs_fpr, intsO_len, prsO_len, fprO_len, rng_len, intsO_snoc, prsO_snoc, lstO_rg, rOpZ, rCbZ, isNo_lstO, toD_dnew, ySl, ySlA, neS_self, eqS_self,  rRevL, yRevL, yRevLA, yPop0, sExt, gStrI,  lstO_prs, lstO_ints, toD_lstO, kp_int, kp_bool, kp_tuple, kp_list, kp_str, isIntB, isBoolB, isTupB, isListB, isStrB, gAdd_i, gSub_i, gLt_i, gLe_i, gGt_i, gGe_i, gMul_r, gMul_l, gMod_i, gDiv_i, gPow_i, gNeg, gEqI, gNeI, gEqS, gNeS, gIsN, gNotN, gIsB, gNotB, gIxL, gIxT, gLen, gMax2, gMin2, gInt, gAll, asBools_map, isN, OT.lf, OT.lfs, flat, atI_0, atI_1, ixN_0, ixN_1, rgD_len, enumD_len, trues_len, Int.toNat_natCast, List.length_map, eq_self, Option.bind_some, Option.bind_none, Option.map_some, Option.map_none, List.getElem?_cons_zero, List.getElem?_cons_succ, List.set_cons_zero, List.set_cons_succ, List.map_cons, List.map_nil, List.replicate, List.nil_append, List.cons_append, List.length_cons, List.length_nil, List.all_cons, List.all_nil, if_true, if_false, reduceIte, tfl_int, tfl_bool, tfl_none, tfl_str, tfl_list, Bool.true_and, Bool.and_true, Bool.false_and, Bool.and_false, Bool.true_or, Bool.or_true, Bool.false_or, Bool.or_false, Bool.not_true, Bool.not_false, Bool.false_eq_true, decide_true, decide_false, true_and, and_true, false_and, and_false, or_true, true_or, *])
theorem lists_ok (ns : List Int) {k n : Nat} (hk : k ≤ 1000) (h1 : 1 ≤ n) (hn : n ≤ 40) : ∃ Ls : List (List Nat), m__law_lists [.list (ns.map .int), .int (k : Nat), .int (n : Nat)] = some (lstO (Ls.map natsD)) ∧ Ls.length ≤ 5 ∧ ∀ P ∈ Ls, Rs n P := by
  have c4 := rg1_n (n := 4) (by omega)
  rw [rgD0, show ((4 : Nat) : Int) = 4 from rfl] at c4
  have c0 := rg0_n (n := n) (by omega)
  rw [rgD0] at c0
  obtain ⟨r, e, Ls, rfl, l5, hall⟩ := fin_w (P := fun x => ∃ Ls : List (List Nat), x = lstO (Ls.map natsD) ∧ Ls.length ≤ 5 ∧ ∀ P ∈ Ls, Rs n P) (B := B__law_lists) (ρ := ini [.list (ns.map .int), .int (k : Nat), .int (n : Nat)] 6) (by
    unfold B__law_lists
    generalize hNS : PyData.list (ns.map .int) = NS at *
    refine w_st (ρ1 := [.d NS, .d (.int (k : Nat)), .d (.int (n : Nat)), .nd .lst [], .no, .no, .no, .no, .no]) (by clear hNS; walk_at "ev" <;> exact rfl) ?_
    refine w_seq (w_forT (fun i ρ => ∃ (Ls : List (List Nat)) (X4 X5 X6 X7 : OT), ρ = [.d NS, .d (.int (k : Nat)), .d (.int (n : Nat)), .nd .lst (Ls.map fun xs => .d (natsD xs)), X4, X5, X6, X7, .no] ∧ Ls.length = i ∧ ∀ P ∈ Ls, Rs n P) (as := List.range 4) (enc := fun k : Nat => PyData.int (k : Int)) (ρ1 := [.d NS, .d (.int (k : Nat)), .d (.int (n : Nat)), .nd .lst [], .no, .no, .no, .no, .no]) (by clear hNS; walk_at "ev" <;> exact rfl) ⟨[], _, _, _, _, rfl, rfl, fun P hP => by cases hP⟩ (fun i p ρ2 hp hs => ?_) ?_)
    · obtain ⟨Ls, X4, X5, X6, X7, rfl, hl, hall⟩ := hs
      obtain ⟨hi, rfl⟩ : i < 4 ∧ i = p := by
        obtain ⟨h1, h2⟩ := List.getElem?_eq_some_iff.mp hp
        simp at h1 h2
        exact ⟨h1, h2⟩
      obtain ⟨cell, e1⟩ := cell_at_ok ns (2 * k + i % 2)
      rw [hNS, show ((2 * k + i % 2 : Nat) : Int) = 2 * (k : Int) + (i : Int) % 2 by omega] at e1
      obtain ⟨ds, e2, l2, g2⟩ := numbers_ok cell (1700 + 4 * (k : Int) + (i : Int)) (by omega) ((n : Int) :: List.replicate n (2 + (i : Int))) (by simp; omega) (by
        intro s hs
        rcases List.mem_cons.mp hs with rfl | hs
        · omega
        · rw [List.eq_of_mem_replicate hs]; omega)
      have lds : ds.length = n + 1 := by rw [l2]; simp
      have at1 : ∀ j, j < n + 1 → atI (ds.map PyData.int) (j : Int) = some (.int (at' ds (j : Nat))) := fun j hj => by
        refine atI_at ?_
        rw [List.getElem?_map, List.getElem?_eq_getElem (by omega)]
        unfold at'
        rw [Int.toNat_natCast, List.getD_eq_getElem?_getD, List.getElem?_eq_getElem (by omega)]
        rfl
      have d0 := g2 0 (by simp)
      have d0' : 0 ≤ at' ds ((0 : Nat) : Int) ∧ at' ds ((0 : Nat) : Int) < (n : Int) := d0
      refine ⟨[.d NS, .d (.int (k : Nat)), .d (.int (n : Nat)), .nd .lst (Ls.map fun xs => .d (natsD xs)), .d (.int (i : Nat)), X5, X6, X7, .no], rfl, ?_⟩
      refine one_gen (SZ := ((n : Int) :: List.replicate n (2 + (i : Int))).map .int) (DD := ds.map .int) (DO := intsO ds) (d0 := at' ds ((0 : Nat) : Int)) (fun p => at' ds ((1 + p : Nat) : Int)) rfl (by omega) hi hn e1 (by simp) e2 (toDs_ints ds) (lfs_ints ds) (at1 0 (by omega)) (fun p hp => ?_) (by rw [List.length_map]; omega) (fun X5 X6 X7 => ?_)
      · have := at1 (1 + p) (by omega)
        rw [show ((1 + p : Nat) : Int) = 1 + (p : Int) by omega] at this ⊢
        exact this
      · generalize hP : (List.range n).filter (fun p => decide (at' ds ((1 + p : Nat) : Int) = 0)) = P
        refine ⟨Ls ++ [if P = [] then [(at' ds ((0 : Nat) : Int)).toNat] else P], .d (.int (i : Nat)), X5, X6, X7, ?_, by rw [List.length_append, hl]; rfl, fun Q hQ => ?_⟩
        · have e : (if P = [] then PyData.list [.int (at' ds ((0 : Nat) : Int))] else natsD P) = natsD (if P = [] then [(at' ds ((0 : Nat) : Int)).toNat] else P) := by
            by_cases c : P = []
            · rw [if_pos c, if_pos c]
              unfold natsD
              simp only [List.map_cons, List.map_nil]
              rw [Int.toNat_of_nonneg d0'.1]
            · rw [if_neg c, if_neg c]
          rw [e, List.map_append]
          rfl
        · rcases List.mem_append.mp hQ with hQ | hQ
          · exact hall Q hQ
          · rw [List.mem_singleton.mp hQ]
            by_cases c : P = []
            · rw [if_pos c]
              exact ⟨by simp, by simp, fun x hx => by rw [List.mem_singleton.mp hx]; omega⟩
            · rw [if_neg c]
              refine ⟨c, by rw [← hP]; exact List.pairwise_lt_range.sublist List.filter_sublist, fun x hx => ?_⟩
              rw [← hP] at hx
              exact List.mem_range.mp (List.mem_filter.mp hx).1
    · rintro ρ2 ⟨Ls, X4, X5, X6, X7, rfl, hl, hall⟩
      simp only [sqK]
      rw [List.length_range] at hl
      have td : OT.toDs (Ls.map fun xs => OT.d (natsD xs)) = some (Ls.map natsD) := toDs_mapD natsD _
      generalize Ls.map (fun xs => OT.d (natsD xs)) = LO at *
      have hB : dY (yLst (oCons (yRng1 (dY (yVar 2))) oNil)) [.d NS, .d (.int (k : Nat)), .d (.int (n : Nat)), .d (.list (Ls.map natsD)), X4, X5, X6, X7, .no] = some (.list [natsD (List.range n)], [.d NS, .d (.int (k : Nat)), .d (.int (n : Nat)), .d (.list (Ls.map natsD)), X4, X5, X6, X7, .no]) := by
        clear hNS td c4 hall hl
        have yr : yRng1 (dY (yVar 2)) [.d NS, .d (.int (k : Nat)), .d (.int (n : Nat)), .d (.list (Ls.map natsD)), X4, X5, X6, X7, .no] = some (lstO ((List.range n).map fun j => PyData.int (j : Nat)), [.d NS, .d (.int (k : Nat)), .d (.int (n : Nat)), .d (.list (Ls.map natsD)), X4, X5, X6, X7, .no]) := by walk_at "ev" <;> exact rfl
        exact dY_of (r := .nd .lst [lstO ((List.range n).map fun j => PyData.int (j : Nat))]) (by unfold yLst oCons oNil; rw [yr]; rfl) (by rw [toD_lst, toDs_cons, toD_lstO, toDs_nil]; rfl)
      have hA : dY (yVar 3) [.d NS, .d (.int (k : Nat)), .d (.int (n : Nat)), .nd .lst LO, X4, X5, X6, X7, .no] = some (.list (Ls.map natsD), [.d NS, .d (.int (k : Nat)), .d (.int (n : Nat)), .d (.list (Ls.map natsD)), X4, X5, X6, X7, .no]) := by
        clear hNS hB c4 c0 hall
        walk_at "ev" <;> exact rfl
      refine w_ret (W.of (yOp_of hA hB (GCat_ok (by simp; omega))) ?_)
      refine ⟨Ls ++ [List.range n], congrArg lstO (by simp), by rw [List.length_append, hl]; simp, fun P hP => ?_⟩
      rcases List.mem_append.mp hP with hP | hP
      · exact hall P hP
      · rw [List.mem_singleton.mp hP]
        exact ⟨fun z => by have := congrArg List.length z; simp at this; omega, List.pairwise_lt_range, fun x hx => List.mem_range.mp hx⟩)
  exact ⟨Ls, e, l5, hall⟩
end z06
namespace z06
open PySem L2 PL MR SH SQ SB BF SA
local macro_rules | `(tactic| walk_at "ev") => `(tactic| simp (config := {decide := true}) only [ini, fin, finI, sSeq, sNext, sAsg, sAsgG, sRet, sRetN, sDrop, sIf, sNever, sSetP, sAppP, sClrP, sRevP, fR, pmVar, pmIx, pmIxT, MR.putAt, OT.put, OT.at, gmName, gmTup, gmLst, gsNil, gsCons, rVar, rC, rOp, rUn, rCb, rCbZ, rOpZ, rCall, rAnd, rOr, rNot, rIf, rIs, rCh, rCh3, rTup, rLst, rSl, cNone, cSome, rRepr, dRepr, rInDct, rIdx, rIdxD, iR3s, small, qNil, qCons, qApp, lApp, bR, bAnd, bOr, bNot, tR, tD, tmAnd, tmOr, tmNot, yVar_eq, yMov, yR, yAuto, dY, yD, dR, dOp, dOpR, dCb, dAnd, dOr, dNot, yCall, yCallA, yCallI, yCallIT, yCb, yCbA, yOp, yOpA, lfO, yTup, yLst, oNil, oCons, isNo, lNil, lCons, asB, asInt, asL, asT, iL, iT, iE, iZ, iV, yRng1_eq, iR1_eq, iR2_eq, lcStep, calmAt, wipeE, rst, sApp, yPop_eq, sDPutM, ySortD, yDNew, gmName, toD_d, toD_tup, toD_lst, toDs_nil, toDs_cons, toDs_ints, toDs_fpr, toDs_prs, lfs_ints, lfs_fpr, intsO_len, prsO_len, fprO_len, rng_len, intsO_snoc, prsO_snoc, lstO_rg, rOpZ, rCbZ, isNo_lstO, toD_dnew, ySl, ySlA, neS_self, eqS_self,  rRevL, yRevL, yRevLA, yPop0, sExt, gStrI,  lstO_prs, lstO_ints, toD_lstO, kp_int, kp_bool, kp_tuple, kp_list, kp_str, isIntB, isBoolB, isTupB, isListB, isStrB, gAdd_i, gSub_i, gLt_i, gLe_i, gGt_i, gGe_i, gMul_r, gMul_l, gMod_i, gDiv_i, gPow_i, gNeg, gEqI, gNeI, gEqS, gNeS, gIsN, gNotN, gIsB, gNotB, gIxL, gIxT, gLen, gMax2, gMin2, gInt, gAll, asBools_map, isN, OT.lf, OT.lfs, flat, atI_0, atI_1, ixN_0, ixN_1, rgD_len, enumD_len, trues_len, Int.toNat_natCast, List.length_map, eq_self, Option.bind_some, Option.bind_none, Option.map_some, Option.map_none, List.getElem?_cons_zero, List.getElem?_cons_succ, List.set_cons_zero, List.set_cons_succ, List.map_cons, List.map_nil, List.replicate, List.nil_append, List.cons_append, List.length_cons, List.length_nil, List.all_cons, List.all_nil, if_true, if_false, reduceIte, tfl_int, tfl_bool, tfl_none, tfl_str, tfl_list, Bool.true_and, Bool.and_true, Bool.false_and, Bool.and_false, Bool.true_or, Bool.or_true, Bool.false_or, Bool.or_false, Bool.not_true, Bool.not_false, Bool.false_eq_true, decide_true, decide_false, true_and, and_true, false_and, and_false, or_true, true_or, *])
noncomputable def B_turn : Sm :=
  (sSeq (sAsg 2 (yCallA SA.m__law_any_web 3 (qCons (rVar 0) (qCons (rVar 1) (qCons (rOp gAdd (rC (.int 1800)) (rOp gMul (rC (.int 2)) (rVar 1))) qNil))) (lCons (dY (yVar 0)) (lCons (dY (yVar 1)) (lCons (dR (rOp gAdd (rC (.int 1800)) (rOp gMul (rC (.int 2)) (rVar 1)))) lNil)))))
 (sSeq (sAsg 3 (yTup (oCons (yAuto (rOp gIxT (rVar 2) (rC (.int 0))) (yD (dOpR gIxT (dY (yVar 2)) (rC (.int 0))))) (oCons (yCbA GList (qCons (rOp gIxT (rVar 2) (rC (.int 1))) qNil) (lCons (dY (yAuto (rOp gIxT (rVar 2) (rC (.int 1))) (yD (dOpR gIxT (dY (yVar 2)) (rC (.int 1)))))) lNil)) oNil))))
 (sSeq (sAsg 4 (yCallA m__law_pieces 1 (qCons (rVar 2) qNil) (lCons (dY (yVar 2)) lNil)))
 (sSeq (sIf (tR (bNot (bR (rCall m__law_pieces_right 2 (qCons (rVar 3) (qCons (rVar 4) qNil))))))
 (sRet (yR (rC (.bool false))))
 sNext)
 (sSeq (sFor (iL (dY (yOpA GCat (rCall m__law_lists 3 (qCons (rVar 0) (qCons (rVar 1) (qCons (rOp gIxT (rVar 2) (rC (.int 0))) qNil)))) (rSl (rVar 4) cNone (cSome (rC (.int 4)))) (dY (yCallA m__law_lists 3 (qCons (rVar 0) (qCons (rVar 1) (qCons (rOp gIxT (rVar 2) (rC (.int 0))) qNil))) (lCons (dY (yVar 0)) (lCons (dY (yVar 1)) (lCons (dY (yAuto (rOp gIxT (rVar 2) (rC (.int 0))) (yD (dOpR gIxT (dY (yVar 2)) (rC (.int 0)))))) lNil))))) (dY (ySlA (rVar 4) (dY (yVar 4)) cNone (cSome (rC (.int 4)))))))) (gmName 5)
 (sIf (tR (bNot (bR (rCall m__law_within_right 2 (qCons (rVar 3) (qCons (rVar 5) qNil))))))
 (sRet (yR (rC (.bool false))))
 sNext))
 (sIf (tR (bR (rOp gNeD (rVar 3) (rVar 2))))
 (sRet (yR (rC (.bool false))))
 sNext))))))
theorem cut_to (xs : List D) : cutD xs Option.none (some 4) = xs.take 4 := by
  unfold cutD
  rw [show (4 : Int) = ((4 : Nat) : Int) from rfl, HT.sIx_nat]
  have e0 : HT.sIx xs.length 0 Option.none = 0 := rfl
  rw [e0, List.drop_zero, Nat.sub_zero]
  apply List.take_eq_take_iff.mpr
  omega
theorem turn_gen {NS : D} {k n : Nat} {TS : List D} {WO TO DO : List OT} {DD : List D} {AL LS : List (List Nat)} {X2 X3 X4 X5 : OT} (hk : k ≤ 1000)
    (e2 : SA.m__law_any_web [NS, .int (k : Nat), .int (1800 + 2 * (k : Int))] = some (.nd .tup [.d (.int (n : Nat)), .nd .lst WO])) (tw : OT.toDs WO = some TS) (lw : OT.lfs WO = true)
    (gl : GList [.list TS] = some (.nd .lst TO)) (tt : OT.toDs TO = some TS) (lt : OT.lfs TO = true)
    (e4 : m__law_pieces [.tuple [.int (n : Nat), .list TS]] = some (.nd .lst DO)) (td : OT.toDs DO = some DD)
    (pr : m__law_pieces_right [.tuple [.int (n : Nat), .list TS], .list DD] = some (.d (.bool true)))
    (ll : m__law_lists [NS, .int (k : Nat), .int (n : Nat)] = some (lstO (LS.map natsD))) (ct : (LS.map natsD).length + (DD.take 4).length ≤ 1000000) (al : LS.map natsD ++ DD.take 4 = AL.map natsD)
    (wr : ∀ P ∈ AL, m__law_within_right [.tuple [.int (n : Nat), .list TS], natsD P] = some (.d (.bool true))) (ne : gNeD (.tuple [.int (n : Nat), .list TS]) (.tuple [.int (n : Nat), .list TS]) = some (.bool false))
    {Q : Fl → MR.Env → Prop} (hQ : ∀ X2 X3 X4 X5, Q .nx [.d NS, .d (.int (k : Nat)), X2, X3, X4, X5]) :
    W B_turn [.d NS, .d (.int (k : Nat)), X2, X3, X4, X5] Q := by
  have b2 : ((-(2 ^ 64) : Int) < 2 ∧ (2 : Int) < 2 ^ 64) := by decide
  have bk : ((-(2 ^ 64) : Int) < (k : Int) ∧ (k : Int) < 2 ^ 64) := by omega
  unfold B_turn
  refine w_st (ρ1 := [.d NS, .d (.int (k : Nat)), .nd .tup [.d (.int (n : Nat)), .nd .lst WO], X3, X4, X5]) (by clear hQ wr ne al ll ct pr e4 gl; walk_at "ev" <;> exact rfl) ?_
  clear e2
  refine w_st (ρ1 := [.d NS, .d (.int (k : Nat)), .nd .tup [.d (.int (n : Nat)), .nd .lst WO], .nd .tup [.d (.int (n : Nat)), .nd .lst TO], X4, X5]) (by clear hQ wr ne al ll ct pr e4; walk_at "ev" <;> exact rfl) ?_
  clear gl
  have hW : ∃ V2, yCallA m__law_pieces 1 (qCons (rVar 2) qNil) (lCons (dY (yVar 2)) lNil) [.d NS, .d (.int (k : Nat)), .nd .tup [.d (.int (n : Nat)), .nd .lst WO], .nd .tup [.d (.int (n : Nat)), .nd .lst TO], X4, X5] = some (.nd .lst DO, [.d NS, .d (.int (k : Nat)), V2, .nd .tup [.d (.int (n : Nat)), .nd .lst TO], X4, X5]) ∧ OT.toD V2 = some (.tuple [.int (n : Nat), .list TS]) := by
    by_cases c : OT.lfs DO = true
    · exact ⟨.nd .tup [.d (.int (n : Nat)), .nd .lst WO], by clear hQ wr ne al ll ct pr; walk_at "ev" <;> exact rfl, by simp [toD_tup, toDs_cons, toD_d, toD_lst, tw, toDs_nil]⟩
    · have c' : OT.lfs DO = false := by simpa using c
      exact ⟨.d (.tuple [.int (n : Nat), .list TS]), by clear c hQ wr ne al ll ct pr; walk_at "ev" <;> exact rfl, toD_d _⟩
  obtain ⟨V2, hW, tV⟩ := hW
  refine w_seq (w_asg (W.of hW ?_))
  clear hW e4 tw lw
  simp only [sqK, List.set_cons_zero, List.set_cons_succ]
  refine w_seq (w_if (c := false) (ρ1 := [.d NS, .d (.int (k : Nat)), V2, .nd .tup [.d (.int (n : Nat)), .nd .lst TO], .nd .lst DO, X5]) (by clear hQ wr ne al ll ct; walk_at "ev" <;> exact rfl) (fun z => by cases z) (fun _ => ?_))
  refine w_next ?_
  clear pr
  simp only [sqK]
  have cd := cut_to DD
  generalize cutD DD none (some 4) = D4 at *
  subst cd
  have gc : GCat (.list (LS.map natsD)) (.list (DD.take 4)) = some (lstO (AL.map natsD)) := by rw [GCat_ok ct, al]
  have tl : OT.toD (lstO (LS.map natsD)) = some (.list (LS.map natsD)) := toD_lstO _
  have pw : W (yOpA GCat (rCall m__law_lists 3 (qCons (rVar 0) (qCons (rVar 1) (qCons (rOp gIxT (rVar 2) (rC (.int 0))) qNil)))) (rSl (rVar 4) cNone (cSome (rC (.int 4)))) (dY (yCallA m__law_lists 3 (qCons (rVar 0) (qCons (rVar 1) (qCons (rOp gIxT (rVar 2) (rC (.int 0))) qNil))) (lCons (dY (yVar 0)) (lCons (dY (yVar 1)) (lCons (dY (yAuto (rOp gIxT (rVar 2) (rC (.int 0))) (yD (dOpR gIxT (dY (yVar 2)) (rC (.int 0)))))) lNil))))) (dY (ySlA (rVar 4) (dY (yVar 4)) cNone (cSome (rC (.int 4))))))
      [.d NS, .d (.int (k : Nat)), V2, .nd .tup [.d (.int (n : Nat)), .nd .lst TO], .nd .lst DO, X5] (fun r ρ' => r = lstO (AL.map natsD) ∧ ∃ V2 V4, ρ' = [.d NS, .d (.int (k : Nat)), V2, .nd .tup [.d (.int (n : Nat)), .nd .lst TO], V4, X5] ∧ OT.toD V2 = some (.tuple [.int (n : Nat), .list TS]) ∧ OT.toD V4 = some (.list DD)) := by
    have td4 : OT.toD (.nd .lst DO) = some (.list DD) := by rw [toD_lst, td]; rfl
    generalize lstO (LS.map natsD) = LO at *
    generalize LS.map natsD = LD at *
    refine w_yOpAP (fun ρ' => ∃ V2 V4, ρ' = [.d NS, .d (.int (k : Nat)), V2, .nd .tup [.d (.int (n : Nat)), .nd .lst TO], V4, X5] ∧ OT.toD V2 = some (.tuple [.int (n : Nat), .list TS]) ∧ OT.toD V4 = some (.list DD)) (x := .list LD) (y := .list (DD.take 4)) (r := lstO (AL.map natsD)) (by clear hQ wr ne ct al gc; walk_at "ev" <;> exact rfl) ?_ gc ⟨V2, _, rfl, tV, td4⟩ ?_ fun ρ' hp => ⟨rfl, hp⟩
    · have rs : rSl (rVar 4) cNone (cSome (rC (.int 4))) [.d NS, .d (.int (k : Nat)), V2, .nd .tup [.d (.int (n : Nat)), .nd .lst TO], .nd .lst DO, X5] = some (.list (cutD DD Option.none (some 4))) := by clear hQ wr ne ct al gc ll; walk_at "ev" <;> exact rfl
      rw [rs, cut_to]
    · have wa : W (yCallA m__law_lists 3 (qCons (rVar 0) (qCons (rVar 1) (qCons (rOp gIxT (rVar 2) (rC (.int 0))) qNil))) (lCons (dY (yVar 0)) (lCons (dY (yVar 1)) (lCons (dY (yAuto (rOp gIxT (rVar 2) (rC (.int 0))) (yD (dOpR gIxT (dY (yVar 2)) (rC (.int 0)))))) lNil)))) [.d NS, .d (.int (k : Nat)), V2, .nd .tup [.d (.int (n : Nat)), .nd .lst TO], .nd .lst DO, X5] (fun r ρ' => r = LO ∧ ρ' = [.d NS, .d (.int (k : Nat)), V2, .nd .tup [.d (.int (n : Nat)), .nd .lst TO], .nd .lst DO, X5]) := by
        by_cases c : LO.lf = true
        · exact W.of (by clear hQ wr ne ct al gc; walk_at "ev" <;> exact rfl) ⟨rfl, rfl⟩
        · have c' : LO.lf = false := by simpa using c
          exact W.of (by clear c hQ wr ne ct al gc; walk_at "ev" <;> exact rfl) ⟨rfl, rfl⟩
      obtain ⟨r, ρ', e, rfl, rfl⟩ := wa
      refine w_dYof e tl ⟨rfl, ?_⟩
      clear e
      refine w_dY (w_ySlAP (fun ρ' => ∃ V2 V4, ρ' = [.d NS, .d (.int (k : Nat)), V2, .nd .tup [.d (.int (n : Nat)), .nd .lst TO], V4, X5] ∧ OT.toD V2 = some (.tuple [.int (n : Nat), .list TS]) ∧ OT.toD V4 = some (.list DD)) (xs := DD) (l := Option.none) (h := some 4) (by clear hQ wr ne ct al gc ll; walk_at "ev" <;> exact rfl) (ρ1 := [.d NS, .d (.int (k : Nat)), V2, .nd .tup [.d (.int (n : Nat)), .nd .lst TO], .d (.list DD), X5]) (by clear hQ wr ne ct al gc ll; walk_at "ev" <;> exact rfl) rfl rfl rfl rfl ⟨V2, _, rfl, tV, td4⟩ ⟨V2, _, rfl, tV, toD_d _⟩ fun ρ' hp => ?_)
      exact ⟨_, toD_lstO _, by rw [cut_to], hp⟩
  obtain ⟨r, ρ1, pe, rfl, V2', V4, rfl, tV2, tV4⟩ := pw
  have it := dY_of pe (toD_lstO _)
  clear pe tV td gc ct al ll tl
  have itl : iL (dY (yOpA GCat (rCall m__law_lists 3 (qCons (rVar 0) (qCons (rVar 1) (qCons (rOp gIxT (rVar 2) (rC (.int 0))) qNil)))) (rSl (rVar 4) cNone (cSome (rC (.int 4)))) (dY (yCallA m__law_lists 3 (qCons (rVar 0) (qCons (rVar 1) (qCons (rOp gIxT (rVar 2) (rC (.int 0))) qNil))) (lCons (dY (yVar 0)) (lCons (dY (yVar 1)) (lCons (dY (yAuto (rOp gIxT (rVar 2) (rC (.int 0))) (yD (dOpR gIxT (dY (yVar 2)) (rC (.int 0)))))) lNil))))) (dY (ySlA (rVar 4) (dY (yVar 4)) cNone (cSome (rC (.int 4))))))) [.d NS, .d (.int (k : Nat)), V2, .nd .tup [.d (.int (n : Nat)), .nd .lst TO], .nd .lst DO, X5] = some (AL.map natsD, [.d NS, .d (.int (k : Nat)), V2', .nd .tup [.d (.int (n : Nat)), .nd .lst TO], V4, X5]) := by
    unfold iL
    rw [it]
    rfl
  clear it
  refine w_seq (w_forT (fun i ρ => ∃ X5, ρ = [.d NS, .d (.int (k : Nat)), V2', .nd .tup [.d (.int (n : Nat)), .nd .lst TO], V4, X5]) (as := AL) (enc := natsD) itl ⟨_, rfl⟩ (fun i P ρ2 hp hs => ?_) ?_)
  · obtain ⟨X5, rfl⟩ := hs
    have w := wr P (List.mem_of_getElem? hp)
    clear itl wr hQ ne
    refine ⟨[.d NS, .d (.int (k : Nat)), V2', .nd .tup [.d (.int (n : Nat)), .nd .lst TO], V4, .d (natsD P)], rfl, ?_⟩
    generalize natsD P = PD at *
    refine w_if (c := false) (ρ1 := [.d NS, .d (.int (k : Nat)), V2', .nd .tup [.d (.int (n : Nat)), .nd .lst TO], V4, .d PD]) (by walk_at "ev" <;> exact rfl) (fun z => by cases z) (fun _ => ?_)
    exact w_next ⟨_, rfl⟩
  · rintro ρ2 ⟨X5, rfl⟩
    simp only [sqK]
    clear itl wr
    refine w_if (c := false) (ρ1 := [.d NS, .d (.int (k : Nat)), V2', .nd .tup [.d (.int (n : Nat)), .nd .lst TO], V4, X5]) (by clear hQ; walk_at "ev" <;> exact rfl) (fun z => by cases z) (fun _ => ?_)
    exact w_next (hQ _ _ _ _)
end z06
namespace z06
open PySem L2 PL MR SH SQ SB BF SA
local macro_rules | `(tactic| walk_at "ev") => `(tactic| simp (config := {decide := true}) only [ini, fin, finI, sSeq, sNext, sAsg, sAsgG, sRet, sRetN, sDrop, sIf, sNever, sSetP, sAppP, sClrP, sRevP, fR, pmVar, pmIx, pmIxT, MR.putAt, OT.put, OT.at, gmName, gmTup, gmLst, gsNil, gsCons, rVar, rC, rOp, rUn, rCb, rCbZ, rOpZ, rCall, rAnd, rOr, rNot, rIf, rIs, rCh, rCh3, rTup, rLst, rSl, cNone, cSome, rRepr, dRepr, rInDct, rIdx, rIdxD, iR3s, small, qNil, qCons, qApp, lApp, bR, bAnd, bOr, bNot, tR, tD, tmAnd, tmOr, tmNot, yVar_eq, yMov, yR, yAuto, dY, yD, dR, dOp, dOpR, dCb, dAnd, dOr, dNot, yCall, yCallA, yCallI, yCallIT, yCb, yCbA, yOp, yOpA, lfO, yTup, yLst, oNil, oCons, isNo, lNil, lCons, asB, asInt, asL, asT, iL, iT, iE, iZ, iV, yRng1_eq, iR1_eq, iR2_eq, lcStep, calmAt, wipeE, rst, sApp, yPop_eq, sDPutM, ySortD, yDNew, gmName, toD_d, toD_tup, toD_lst, toDs_nil, toDs_cons, toDs_ints, toDs_fpr, toDs_prs, lfs_ints, lfs_fpr, intsO_len, prsO_len, fprO_len, rng_len, intsO_snoc, prsO_snoc, lstO_rg, rOpZ, rCbZ, isNo_lstO, toD_dnew, ySl, ySlA, neS_self, eqS_self,  rRevL, yRevL, yRevLA, yPop0, sExt, gStrI,  lstO_prs, lstO_ints, toD_lstO, kp_int, kp_bool, kp_tuple, kp_list, kp_str, isIntB, isBoolB, isTupB, isListB, isStrB, gAdd_i, gSub_i, gLt_i, gLe_i, gGt_i, gGe_i, gMul_r, gMul_l, gMod_i, gDiv_i, gPow_i, gNeg, gEqI, gNeI, gEqS, gNeS, gIsN, gNotN, gIsB, gNotB, gIxL, gIxT, gLen, gMax2, gMin2, gInt, gAll, asBools_map, isN, OT.lf, OT.lfs, flat, atI_0, atI_1, ixN_0, ixN_1, rgD_len, enumD_len, trues_len, Int.toNat_natCast, List.length_map, eq_self, Option.bind_some, Option.bind_none, Option.map_some, Option.map_none, List.getElem?_cons_zero, List.getElem?_cons_succ, List.set_cons_zero, List.set_cons_succ, List.map_cons, List.map_nil, List.replicate, List.nil_append, List.cons_append, List.length_cons, List.length_nil, List.all_cons, List.all_nil, if_true, if_false, reduceIte, tfl_int, tfl_bool, tfl_none, tfl_str, tfl_list, Bool.true_and, Bool.and_true, Bool.false_and, Bool.and_false, Bool.true_or, Bool.or_true, Bool.false_or, Bool.or_false, Bool.not_true, Bool.not_false, Bool.false_eq_true, decide_true, decide_false, true_and, and_true, false_and, and_false, or_true, true_or, *])
theorem ps_rs {w : Wb} (h : WbOk w) : ∀ P ∈ ps (nbN w) w.1, Rs w.1 P := by
  intro P hP
  unfold ps at hP
  obtain ⟨p, hp, rfl⟩ := List.mem_map.mp hP
  have hpn := List.mem_range.mp (List.mem_filter.mp hp).1
  refine ⟨fun z => ?_, pc_rise p, fun x hx => (pc_mem.mp hx).1⟩
  have := pc_self (nb_ok h) hpn
  rw [z] at this
  cases this
theorem turn_ok (ns : List Int) {k : Nat} (hk : k ≤ 1000) {X2 X3 X4 X5 : OT} {Q : Fl → MR.Env → Prop} (hQ : ∀ X2 X3 X4 X5, Q .nx [.d (.list (ns.map .int)), .d (.int (k : Nat)), X2, X3, X4, X5]) :
    W B_turn [.d (.list (ns.map .int)), .d (.int (k : Nat)), X2, X3, X4, X5] Q := by
  obtain ⟨w, e2, h⟩ := SA.any_web_ok ns k hk (1800 + 2 * (k : Int)) (by omega)
  obtain ⟨LS, ll, l5, hr⟩ := lists_ok ns (k := k) (n := w.1) hk h.lo h.hi
  have pr := ps_rs h
  have pl : (ps (nbN w) w.1).length ≤ 40 := by
    unfold ps
    rw [List.length_map]
    have := List.length_filter_le (hd (nbN w) w.1) (List.range w.1)
    simp at this
    have := h.hi
    omega
  refine turn_gen (TS := w.2.map pairD) (WO := fprO w.2) (TO := (w.2.map pairD).map .d) (DO := (ps (nbN w) w.1).map fun xs => .d (natsD xs)) (DD := (ps (nbN w) w.1).map natsD) (AL := LS ++ (ps (nbN w) w.1).take 4) (LS := LS) hk e2 (toDs_fpr _) (lfs_fpr _) rfl (toDs_mapD pairD w.2 ▸ (by rw [List.map_map]; rfl)) ?_ (law_pieces_ok h) (toDs_mapD natsD _) (right_ok h) ll (by simp; omega) (by rw [List.map_append, List.map_take]) (fun P hP => ?_) ((nice_wb h).neD (by omega)) hQ
  · rw [List.map_map]
    exact lfs_fpr w.2
  · rcases List.mem_append.mp hP with hP | hP
    · exact right_within_ok h (hr P hP)
    · exact right_within_ok h (pr P (List.mem_of_mem_take hP))
theorem wok2 : WbOk (2, []) := ⟨⟨by decide, by unfold Lex; decide, by decide⟩, by decide, by decide, by decide⟩
theorem wok1 : WbOk (1, []) := ⟨⟨by decide, by unfold Lex; decide, by decide⟩, by decide, by decide, by decide⟩
theorem wok3 : WbOk (3, [(0, 2)]) := ⟨⟨by decide, by unfold Lex; decide, by decide⟩, by decide, by decide, by decide⟩
theorem nb_nil (n : Nat) (p : Nat) : nbN (n, []) p = [] := rfl
theorem pc_nil {n p : Nat} (k : NbOk n (nbN (n, []))) (hp : p < n) : ∀ q, q ∈ pc (nbN (n, [])) n p ↔ q = p := by
  intro q
  constructor
  · intro hq
    obtain ⟨q1, q2⟩ := pc_mem.mp hq
    obtain ⟨d, hd⟩ := Option.isSome_iff_exists.mp q2
    have r := ((dst_some k hp q1).mp hd).1
    cases d with
    | zero => exact r
    | succ d =>
      obtain ⟨i, _, hi⟩ := r
      rw [nb_nil] at hi
      cases hi
  · rintro rfl
    exact pc_self k hp
theorem rise_one {P : List Nat} {p : Nat} (hr : P.Pairwise (· < ·)) (h : ∀ q, q ∈ P ↔ q = p) : P = [p] := by
  cases P with
  | nil => exact absurd ((h p).mpr rfl) (by simp)
  | cons a t =>
    have ha := (h a).mp List.mem_cons_self
    subst ha
    cases t with
    | nil => rfl
    | cons b t =>
      have hb := (h b).mp (by simp)
      have := List.rel_of_pairwise_cons hr (a' := b) (by simp)
      omega
theorem ps_two : ps (nbN (2, [])) 2 = [[0], [1]] := by
  have k := nb_ok wok2
  have p0 : pc (nbN (2, [])) 2 0 = [0] := rise_one (pc_rise 0) (pc_nil k (by decide))
  have p1 : pc (nbN (2, [])) 2 1 = [1] := rise_one (pc_rise 1) (pc_nil k (by decide))
  have h0 : hd (nbN (2, [])) 2 0 = true := by unfold hd; rw [p0]; rfl
  have h1 : hd (nbN (2, [])) 2 1 = true := by unfold hd; rw [p1]; rfl
  unfold ps
  rw [show List.range 2 = [0, 1] from rfl]
  simp only [List.filter_cons, h0, h1, if_true, List.filter_nil, List.map_cons, List.map_nil, p0, p1]
theorem last1 : m_pieces [.tuple [.int 2, .list []]] = some (.nd .lst [.nd .lst [.d (.int 0)], .nd .lst [.d (.int 1)]]) := by
  have := pieces_ok wok2
  rw [ps_two] at this
  exact this
theorem last2 : m_hangs_together [.tuple [.int 1, .list []]] = some (.d (.bool true)) := by
  have a := hangs_all wok1
  have p : (ps (nbN (1, [])) 1).length = 1 := (ps_one (nb_ok wok1) (by decide)).mp fun q hq => by
    have : q = 0 := by omega
    subst this
    rw [dst_self (nb_ok wok1) (by decide)]
    rfl
  have e : decide ((ps (nbN (1, [])) 1).length = 1) = true := decide_eq_true p
  rw [e] at a
  exact a
theorem last3 : m_within [.tuple [.int 3, .list [.tuple [.int 0, .int 2]]], .list [.int 2]] = some (.nd .tup [.d (.int 1), .nd .lst []]) :=
  within_ok wok3 (P := [2]) ⟨by simp, by simp, by simp⟩
theorem goal (ns : List Int) (hl : ns.length ≤ 63) : z06.m_law [.list (ns.map .int)] = some (.d (.bool true)) := by
  have l1 := last1
  have l2 := last2
  have l3 := last3
  have q1 : gEqD (.list [.list [.int 0], .list [.int 1]]) (.list [.list [.int 0], .list [.int 1]]) = some (.bool true) := by rfl
  have q3 : gEqD (.tuple [.int 1, .list []]) (.tuple [.int 1, .list []]) = some (.bool true) := by rfl
  obtain ⟨m, hm, hm2⟩ : ∃ m : Nat, max (1 : Int) ((min ((ns.length : Nat) : Int) 32 + 1) / 2) = (m : Nat) ∧ m ≤ 32 := ⟨(max (1 : Int) ((min ((ns.length : Nat) : Int) 32 + 1) / 2)).toNat, by omega, by omega⟩
  have c1 := rg1_n (n := m) (by omega)
  rw [rgD0] at c1
  unfold z06.m_law B_law
  refine fin_eq ?_
  refine w_seq (w_forT (fun i ρ => ∃ X1 X2 X3 X4 X5, ρ = [.d (.list (ns.map .int)), X1, X2, X3, X4, X5]) (as := List.range m) (enc := fun k : Nat => PyData.int (k : Int)) (ρ1 := [.d (.list (ns.map .int)), .no, .no, .no, .no, .no]) (by clear l1 l2 l3 q1 q3; walk_at "ev" <;> exact rfl) ⟨_, _, _, _, _, rfl⟩ (fun i k ρ2 hk hs => ?_) ?_)
  · obtain ⟨X1, X2, X3, X4, X5, rfl⟩ := hs
    have hkm : k < m := by
      obtain ⟨h1, h2⟩ := List.getElem?_eq_some_iff.mp hk
      simp at h1 h2
      omega
    refine ⟨_, rfl, turn_ok ns (k := k) (by omega) fun X2 X3 X4 X5 => ?_⟩
    exact ⟨_, _, _, _, _, rfl⟩
  · rintro ρ2 ⟨X1, X2, X3, X4, X5, rfl⟩
    clear c1 hm
    exact w_end (by walk_at "ev" <;> exact rfl) rfl rfl
end z06
open PySem PySem.W PyProof.Rows in
set_option maxHeartbeats 0 in
theorem PySem.Challenge.cw_webtimes_k06_pieces_and_parts_holds : PySem.Challenge.rw_webtimes_k06_pieces_and_parts.Holds := by
  w_on; o_law; k_head; (case hw => w_witness2)
  k_fill
  refine MR.walkQ (l := PySem.Challenge.rw_webtimes_k06_pieces_and_parts) (n := 63) (k := 7) (x := "_law_script") (CX := fun _ => L2.CX0) (sp := fun w => @MR.spP ⟨_, w⟩ 1 z06.m_law) rfl (by decide) rfl ⟨rfl, by decide, by decide⟩ (fun w h Y => PySem.W.kIn_of Y) ?F (fun w G a ns hl hS => z06.law_sp z06.goal hl hS) (fun _ _ _ _ _ h => h)
  case F =>
    intro w mg fa h KX G hmg
    refine' z06.all_mk KX G hmg ?a0 ?l0 ?c0 ?k0 ?a1 ?l1 ?c1 ?k1 ?a2 ?l2 ?c2 ?k2 ?a3 ?l3 ?c3 ?k3 ?a4 ?l4 ?c4 ?k4 ?a5 ?l5 ?c5 ?k5 ?a6 ?l6 ?c6 ?k6 ?a7 ?l7 ?c7 ?k7 ?a8 ?l8 ?c8 ?k8 ?a9 ?l9 ?c9 ?k9 ?a10 ?l10 ?c10 ?k10 ?a11 ?l11 ?c11 ?k11 ?a12 ?l12 ?c12 ?k12 ?a13 ?l13 ?c13 ?k13 ?a14 ?l14 ?c14 ?k14 ?a15 ?l15 ?c15 ?k15 ?a16 ?l16 ?c16 ?k16 ?a17 ?l17 ?c17 ?k17 ?a18 ?l18 ?c18 ?k18 ?a19 ?l19 ?c19 ?k19 ?a20 ?l20 ?c20 ?k20 ?a21 ?l21 ?c21 ?k21 ?a22 ?l22 ?c22 ?k22 ?a23 ?l23 ?c23 ?k23 ?a24 ?l24 ?c24 ?k24 ?a25 ?l25 ?c25 ?k25 ?a26 ?l26 ?c26 ?k26 ?a27 ?l27 ?c27 ?k27 ?z0 ?z1 ?z2 ?z3 ?z4 ?z5 ?z6 ?z7 ?z8 ?z9 ?z10 ?z11 ?z12 ?z13 ?z14 ?z15 ?z16
    (case a0 => k_is)
    (case l0 => k_is)
    (case c0 => k_is)
    (case k0 => k_is)
    (case a1 => k_is)
    (case l1 => k_is)
    (case c1 => k_is)
    (case k1 => k_is)
    (case a2 => k_is)
    (case l2 => k_is)
    (case c2 => k_is)
    (case k2 => k_is)
    (case a3 => k_is)
    (case l3 => k_is)
    (case c3 => k_is)
    (case k3 => k_is)
    (case a4 => k_is)
    (case l4 => k_is)
    (case c4 => k_is)
    (case k4 => k_is)
    (case a5 => k_is)
    (case l5 => k_is)
    (case c5 => k_is)
    (case k5 => k_is)
    (case a6 => k_is)
    (case l6 => k_is)
    (case c6 => k_is)
    (case k6 => k_is)
    (case a7 => k_is)
    (case l7 => k_is)
    (case c7 => k_is)
    (case k7 => k_is)
    (case a8 => k_is)
    (case l8 => k_is)
    (case c8 => k_is)
    (case k8 => k_is)
    (case a9 => k_is)
    (case l9 => k_is)
    (case c9 => k_is)
    (case k9 => k_is)
    (case a10 => k_is)
    (case l10 => k_is)
    (case c10 => k_is)
    (case k10 => k_is)
    (case a11 => k_is)
    (case l11 => k_is)
    (case c11 => k_is)
    (case k11 => k_is)
    (case a12 => k_is)
    (case l12 => k_is)
    (case c12 => k_is)
    (case k12 => k_is)
    (case a13 => k_is)
    (case l13 => k_is)
    (case c13 => k_is)
    (case k13 => k_is)
    (case a14 => k_is)
    (case l14 => k_is)
    (case c14 => k_is)
    (case k14 => k_is)
    (case a15 => k_is)
    (case l15 => k_is)
    (case c15 => k_is)
    (case k15 => k_is)
    (case a16 => k_is)
    (case l16 => k_is)
    (case c16 => k_is)
    (case k16 => k_is)
    (case a17 => k_is)
    (case l17 => k_is)
    (case c17 => k_is)
    (case k17 => k_is)
    (case a18 => k_is)
    (case l18 => k_is)
    (case c18 => k_is)
    (case k18 => k_is)
    (case a19 => k_is)
    (case l19 => k_is)
    (case c19 => k_is)
    (case k19 => k_is)
    (case a20 => k_is)
    (case l20 => k_is)
    (case c20 => k_is)
    (case k20 => k_is)
    (case a21 => k_is)
    (case l21 => k_is)
    (case c21 => k_is)
    (case k21 => k_is)
    (case a22 => k_is)
    (case l22 => k_is)
    (case c22 => k_is)
    (case k22 => k_is)
    (case a23 => k_is)
    (case l23 => k_is)
    (case c23 => k_is)
    (case k23 => k_is)
    (case a24 => k_is)
    (case l24 => k_is)
    (case c24 => k_is)
    (case k24 => k_is)
    (case a25 => k_is)
    (case l25 => k_is)
    (case c25 => k_is)
    (case k25 => k_is)
    (case a26 => k_is)
    (case l26 => k_is)
    (case c26 => k_is)
    (case k26 => k_is)
    (case a27 => k_is)
    (case l27 => k_is)
    (case c27 => k_is)
    (case k27 => k_is)
    (case z0 => k_is)
    (case z1 => k_is)
    (case z2 => k_is)
    (case z3 => k_is)
    (case z4 => k_is)
    (case z5 => k_is)
    (case z6 => k_is)
    (case z7 => k_is)
    (case z8 => k_is)
    (case z9 => k_is)
    (case z10 => k_is)
    (case z11 => k_is)
    (case z12 => k_is)
    (case z13 => k_is)
    (case z14 => k_is)
    (case z15 => k_is)
    (case z16 => k_is)
