import PyProof.Rows.All
import Wide.All
import OpenK.AllK
import Wide.FinOn
import HandS.ForMost
import HandS.Deep
import HandS.IsInst
import HandS.Walk
import HandS.TupLe
import HandS.Conv
import HandS.SortRule
import HandS.SortInts
import KE.KDictCopyH
import HandS.SetFor
import HandS.Strs
import HandS.NoneIn
import HandS.Defaults
import HandS.TupSets
import HandS.Wide
import PyProof.ReprRoads
import KE.SortData
import KE.DataCmp
import HandS.DictComp
import HandS.Style
import HandS.SetBool
import KE.KMathGC
import KE.GoesMore
import KE.GoesEnum
import HandS.Iter
import PyProof.ListIndex
import HandS.Dict
import KE.KDictZip
import HandS.ListItems
import KE.DataMinMax
import HandS.SortKw
import HandS.Exc
import HandS.TryOnly
import HandS.ExcOwn
import HandS.ExcIs
import HandS.WordsExc
import HandS.ExcInit
import HandS.FStr
import KE.KExcSuper
import PyProof.FString2
import HandS.Text
import HandS.Call
import HandS.ExcField
import PySem.Challenge.RW_webtimes_k09_webs_let_in
set_option Elab.async false
set_option linter.all false
set_option maxRecDepth 100000
set_option maxHeartbeats 4000000
/-! PL: webs and other plain data told over slots, without the heap -/
namespace PL
open PySem L2
class KF where
  K : PySem.W.Frag
  w : World
abbrev D := PyData
abbrev Sg := List (Option V)
/-! ### what is stable (S) within what is tracked (H) -/
structure Xt (S H S' H' : Hp) : Prop where
  hh : Same H H'
  ss : Same S S'
  sh : Same S' H'
  nw : ∀ b o, S' b = some o → S b = some o ∨ ∀ u, H b = some u → ∃ xs, u = .tup xs
theorem Xt.refl {S H : Hp} (h : Same S H) : Xt S H S H := ⟨Same.refl H, Same.refl S, h, fun _ _ e => .inl e⟩
theorem Xt.trans {S H S1 H1 S2 H2 : Hp} (a : Xt S H S1 H1) (b : Xt S1 H1 S2 H2) : Xt S H S2 H2 :=
  ⟨a.hh.trans b.hh, a.ss.trans b.ss, b.sh, fun c o e => by
    rcases b.nw c o e with q | q
    · exact a.nw c o q
    · exact .inr fun u hu => q u (a.hh c u hu)⟩
/-- over the stable part alone -/
theorem Xt.self {S S' H' : Hp} (ss : Same S S') (sh : Same S' H') : Xt S S S' H' :=
  ⟨ss.trans sh, ss, sh, fun b o e => by
    cases q : S b with
    | none => exact .inr fun u hu => by cases hu
    | some u =>
      have := ss b u q
      rw [e] at this
      exact .inl this.symm⟩
/-- a new object, not stable -/
theorem Xt.new {S H : Hp} {p : Addr} {o : HO} (h : Same S H) (n : H p = none) : Xt S H S (upd H p o) :=
  ⟨fun b u e => by rw [upd_ne (ne_of_none e n)]; exact e, Same.refl S, fun b u e => by rw [upd_ne (ne_of_none (h b u e) n)]; exact h b u e, fun _ _ e => .inl e⟩
/-- a new object, stable -/
theorem Xt.newS {S H : Hp} {p : Addr} {o : HO} (h : Same S H) (n : H p = none) : Xt S H (upd S p o) (upd H p o) :=
  ⟨fun b u e => by rw [upd_ne (ne_of_none e n)]; exact e, fun b u e => by rw [upd_ne (ne_of_none (h b u e) n)]; exact e, fun b u e => by
    by_cases hb : b = p
    · subst hb; rw [upd_same] at e ⊢; exact e
    · rw [upd_ne hb] at e ⊢; exact h b u e, fun b u e => by
    by_cases hb : b = p
    · subst hb; exact .inr fun u hu => by rw [n] at hu; cases hu
    · rw [upd_ne hb] at e; exact .inl e⟩
/-- what is not of the stable part and no tuple stays out of it -/
theorem Xt.out {S H S' H' : Hp} (x : Xt S H S' H') {a : Addr} {u : HO} (hs : S a = none) (hu : H a = some u) (nt : ∀ xs, u ≠ .tup xs) : S' a = none := by
  cases q : S' a with
  | none => rfl
  | some o =>
    rcases x.nw a o q with e | e
    · rw [hs] at e; cases e
    · obtain ⟨xs, e⟩ := e u hu; exact absurd e (nt xs)
/-- list + list, both to be read -/
def rCatR (K : PySem.W.Frag) : R2 := fun x y H Q => ∃ l b xs zs, x = .ref l ∧ y = .ref b ∧ SqL K H l xs ∧ SqL K H b zs ∧ xs.length + zs.length ≤ sizeLine ∧ ∀ p, H p = none → Q (.ref p) (upd H p (.lst (xs ++ zs)))
theorem op_catR {X : Cx} : OpR X (binaryOp .Add) (rCatR X.K) := by
  intro pins s σ H x y v u Q I rx ry h
  obtain ⟨l, b, xs, zs, rfl, rfl, hH, hB, hz, q⟩ := h
  cases rx
  cases ry
  obtain ⟨its, r, ⟨⟨c1, d1, dt1, sl1⟩, n1, g1, k1, m1, t1⟩, z1⟩ := I.list hH
  obtain ⟨its2, r2, ⟨⟨c2, d2, dt2, sl2⟩, n2, g2, k2, m2, t2⟩, z2⟩ := I.list hB
  simp only at k1 m1 t1 k2 m2 t2
  subst k1 m1 t1 k2 m2 t2
  have e1 := r.length
  have e2 := r2.length
  refine concat_meets ⟨_, g1, rfl⟩ ⟨_, g2, rfl⟩ PySem.noFill_list_add PySem.seq_list_add PySem.F.slot_list_add PySem.F.entry_list_add (PySem.F.args_list_add_2 _ _)
    (PyProof.Rows.list_addW l b its.toArray its2.toArray n1 n2 none none sl1 sl2 (by simp; omega)) ⟨g1, g2, ?_⟩
  have ea : its.toArray ++ its2.toArray = (its ++ its2).toArray := by simp
  rw [ea]
  exact ⟨.ref _, _, I.lnew (t' := s.toks) (r.append r2) (by rw [List.length_append]; omega), rfl, q _ I.fresh⟩
/-- a constant as data -/
def vD : V → Option D
  | .non => some .none
  | .bl b => some (.bool b)
  | .int i => some (.int i)
  | .str x => some (.str x)
  | _ => none
/-- keys as data; a dict of flat values -/
def keyD : Key → D
  | .inl i => .int i
  | .inr s => .str s
def keyTD (k : List Key) : D := .tuple (k.map keyD)
def dctD {κ : Type} (f : κ → D) : List (κ × V) → Option (List (D × D))
  | [] => some []
  | (k, v) :: r => (vD v).bind fun x => (dctD f r).map fun xs => (f k, x) :: xs
mutual
/-- no dict within -/
def noDc : D → Bool
  | .none => true
  | .bool _ => true
  | .int _ => true
  | .str _ => true
  | .list xs => noDcs xs
  | .tuple xs => noDcs xs
  | .dict _ => false
def noDcs : List D → Bool
  | [] => true
  | x :: xs => noDc x && noDcs xs
end
mutual
theorem noDc_lay : ∀ d : D, d.canLay0 = true → noDc d = true
  | .none, _ => by simp [noDc]
  | .bool _, _ => by simp [noDc]
  | .int _, _ => by simp [noDc]
  | .str _, _ => by simp [noDc]
  | .list xs, h => by
    simp only [noDc]
    exact noDcs_lay xs (by simpa only [PyData.canLay0] using h)
  | .tuple xs, h => by
    simp only [noDc]
    exact noDcs_lay xs (by simpa only [PyData.canLay0] using h)
  | .dict _, h => by simp [PyData.canLay0] at h
theorem noDcs_lay : ∀ ds : List D, PyData.canLayAll0 ds = true → noDcs ds = true
  | [], _ => by simp [noDcs]
  | x :: xs, h => by
    have h' : x.canLay0 = true ∧ PyData.canLayAll0 xs = true := by simpa only [PyData.canLayAll0, Bool.and_eq_true] using h
    simp only [noDcs, noDc_lay x h'.1, noDcs_lay xs h'.2, Bool.and_self]
end
variable [kf : KF]
/-! ### data -/
mutual
/-- v is d, all of it tracked -/
inductive Rp (H : Hp) : V → D → Prop
  | non : Rp H .non .none
  | bl (b : Bool) : Rp H (.bl b) (.bool b)
  | int (i : Int) : Rp H (.int i) (.int i)
  | str (x : Str) : Rp H (.str x) (.str x)
  | lst {a : Addr} {xs : List V} {ds : List D} : SqL kf.K H a xs → RpAll H xs ds → Rp H (.ref a) (.list ds)
  | tup {a : Addr} {xs : List V} {ds : List D} : H a = some (.tup xs) → RpAll H xs ds → Rp H (.ref a) (.tuple ds)
  | dcT {a : Addr} {kvs : List (List Key × V)} {ds : List (D × D)} : H a = some (.dT kvs) → dctD keyTD kvs = some ds → Rp H (.ref a) (.dict ds)
  | dcK {a : Addr} {kvs : List (Key × V)} {ds : List (D × D)} : H a = some (.dK kvs) → ds ≠ [] → dctD keyD kvs = some ds → Rp H (.ref a) (.dict ds)
inductive RpAll (H : Hp) : List V → List D → Prop
  | nil : RpAll H [] []
  | cons {v : V} {vs : List V} {d : D} {ds : List D} : Rp H v d → RpAll H vs ds → RpAll H (v :: vs) (d :: ds)
end
mutual
theorem dp_mono {H H' : Hp} (e : Same H H') : ∀ (d : D) (v : V), Rp H v d → Rp H' v d
  | .none, _, h => by cases h; exact .non
  | .bool b, _, h => by cases h; exact .bl b
  | .int i, _, h => by cases h; exact .int i
  | .str x, _, h => by cases h; exact .str x
  | .list ds, _, h => by
    cases h with
    | lst hs ha => exact .lst (e.seq hs) (dpa_mono e ds _ ha)
  | .tuple ds, _, h => by
    cases h with
    | tup hs ha => exact .tup (e _ _ hs) (dpa_mono e ds _ ha)
  | .dict _, _, h => by
    cases h with
    | dcT hs ha => exact .dcT (e _ _ hs) ha
    | dcK hs ne ha => exact .dcK (e _ _ hs) ne ha
theorem dpa_mono {H H' : Hp} (e : Same H H') : ∀ (ds : List D) (vs : List V), RpAll H vs ds → RpAll H' vs ds
  | [], _, h => by cases h; exact .nil
  | d :: ds, _, h => by
    cases h with
    | cons h t => exact .cons (dp_mono e d _ h) (dpa_mono e ds _ t)
end
mutual
theorem rp_dp {H : Hp} : ∀ (d : D) (v : V), noDc d = true → Rp H v d → Dp kf.K H v d
  | .none, _, _, h => by cases h; exact .non
  | .bool b, _, _, h => by cases h; exact .bl b
  | .int i, _, _, h => by cases h; exact .int i
  | .str x, _, _, h => by cases h; exact .str x
  | .list ds, _, c, h => by
    cases h with
    | lst hs ha => exact .lst hs (rpa_dp ds _ (by simpa only [noDc] using c) ha)
  | .tuple ds, _, c, h => by
    cases h with
    | tup hs ha => exact .tup (.inl (.inl hs)) (rpa_dp ds _ (by simpa only [noDc] using c) ha)
  | .dict _, _, c, h => by simp [noDc] at c
theorem rpa_dp {H : Hp} : ∀ (ds : List D) (vs : List V), noDcs ds = true → RpAll H vs ds → DpAll kf.K H vs ds
  | [], _, _, h => by cases h; exact .nil
  | d :: ds, _, c, h => by
    have c' : noDc d = true ∧ noDcs ds = true := by simpa only [noDcs, Bool.and_eq_true] using c
    cases h with
    | cons h t => exact .cons (rp_dp d _ c'.1 h) (rpa_dp ds _ c'.2 t)
end
theorem dpa_length {H : Hp} : ∀ {vs : List V} {ds : List D}, RpAll H vs ds → vs.length = ds.length
  | _, _, .nil => rfl
  | _, _, .cons _ t => by rw [List.length_cons, List.length_cons, dpa_length t]
theorem dpa_get {H : Hp} : ∀ {vs : List V} {ds : List D} {i : Nat} {d : D}, RpAll H vs ds → ds[i]? = some d → ∃ v, vs[i]? = some v ∧ Rp H v d
  | _, _, _, _, .nil, e => by simp at e
  | _, _, 0, _, .cons h _, e => by simp at e; subst e; exact ⟨_, rfl, h⟩
  | _, _, i + 1, d, .cons _ t, e => by
    obtain ⟨v, h1, h2⟩ := dpa_get (i := i) (d := d) t (by simpa using e)
    exact ⟨v, by simpa using h1, h2⟩
theorem dpa_append {H : Hp} : ∀ {vs ws : List V} {ds es : List D}, RpAll H vs ds → RpAll H ws es → RpAll H (vs ++ ws) (ds ++ es)
  | _, _, _, _, .nil, h => h
  | _, _, _, _, .cons a t, h => .cons a (dpa_append t h)
theorem dpa_set {H : Hp} {v : V} {d : D} (r : Rp H v d) : ∀ {vs : List V} {ds : List D} (i : Nat), RpAll H vs ds → RpAll H (vs.set i v) (ds.set i d)
  | _, _, _, .nil => .nil
  | _, _, 0, .cons _ t => .cons r t
  | _, _, i + 1, .cons q t => .cons q (dpa_set r i t)
theorem dpa_take {H : Hp} : ∀ {vs : List V} {ds : List D} (n : Nat), RpAll H vs ds → RpAll H (vs.take n) (ds.take n)
  | _, _, 0, _ => .nil
  | _, _, _ + 1, .nil => .nil
  | _, _, n + 1, .cons r t => .cons r (dpa_take n t)
theorem dpa_drop {H : Hp} : ∀ {vs : List V} {ds : List D} (n : Nat), RpAll H vs ds → RpAll H (vs.drop n) (ds.drop n)
  | _, _, 0, r => r
  | _, _, _ + 1, .nil => .nil
  | _, _, n + 1, .cons _ t => dpa_drop n t
theorem dpa_of_ints {H : Hp} : ∀ (ns : List Int), RpAll H (ns.map V.int) (ns.map PyData.int)
  | [] => .nil
  | n :: ns => .cons (.int n) (dpa_of_ints ns)
theorem atD {H : Hp} {vs : List V} {ds : List D} {i : Int} {d : D} (h : RpAll H vs ds) (e : atI ds i = some d) : ∃ v, atI vs i = some v ∧ Rp H v d := by
  unfold atI at e
  cases q : ixN ds.length i with
  | none => rw [q] at e; cases e
  | some j =>
    rw [q] at e
    obtain ⟨v, h1, h2⟩ := dpa_get h e
    refine ⟨v, ?_, h2⟩
    unfold atI
    rw [dpa_length h, q]
    exact h1
/-- no heap within -/
def flat : D → Bool
  | .none | .bool _ | .int _ | .str _ => true
  | _ => false
theorem dp_flat {H H' : Hp} {v : V} {d : D} (f : flat d = true) (h : Rp H v d) : Rp H' v d := by
  cases h with
  | non => exact .non
  | bl b => exact .bl b
  | int i => exact .int i
  | str x => exact .str x
  | lst _ _ => cases f
  | tup _ _ => cases f
  | dcT _ _ => cases f
  | dcK _ _ _ => cases f
theorem vD_dp {H : Hp} {v : V} {d : D} (h : vD v = some d) : Rp H v d := by
  cases v <;> simp [vD] at h <;> subst h <;> constructor
/-! ### slots -/
inductive Sl where
  | no
  | d (x : D)
  | own (xs : List D)
  | own2 (xss : List (List D))
  | dct (ks : List (Int × Int))
def Sl.toD : Sl → Option D
  | .d x => some x
  | .own xs => some (.list xs)
  | .own2 xss => some (.list (xss.map .list))
  | _ => none
inductive Own2 (S H : Hp) : List Addr → List (List D) → Prop
  | nil : Own2 S H [] []
  | cons {b : Addr} {vs : List V} {xs : List D} {bs : List Addr} {xss : List (List D)} : S b = none → H b = some (.lst vs) → RpAll S vs xs → Own2 S H bs xss → Own2 S H (b :: bs) (xs :: xss)
def keyOf (k : Int × Int) : List Key × V := ([.inl k.1, .inl k.2], .bl true)
inductive SlOk (S H : Hp) : Option V → Sl → List Addr → Prop
  | no {v : Option V} : SlOk S H v .no []
  | d {v : V} {x : D} : Rp S v x → SlOk S H (some v) (.d x) []
  | own {a : Addr} {vs : List V} {xs : List D} : S a = none → H a = some (.lst vs) → RpAll S vs xs → SlOk S H (some (.ref a)) (.own xs) [a]
  | own2 {a : Addr} {bs : List Addr} {xss : List (List D)} : S a = none → H a = some (.lst (bs.map V.ref)) → Own2 S H bs xss → SlOk S H (some (.ref a)) (.own2 xss) (a :: bs)
  | dct {a : Addr} {ks : List (Int × Int)} : S a = none → H a = some (.dT (ks.map keyOf)) → SlOk S H (some (.ref a)) (.dct ks) [a]
section
variable {S H S' H' S0 H0 S1 H1 : Hp}
theorem Own2.keep {bs : List Addr} {xss : List (List D)} (h : Own2 S H bs xss) (ss : Same S S') (k : ∀ a ∈ bs, S' a = none ∧ H' a = H a) : Own2 S' H' bs xss := by
  induction h with
  | nil => exact .nil
  | cons h1 h2 h3 _ ih =>
    obtain ⟨e1, e2⟩ := k _ List.mem_cons_self
    exact .cons e1 (e2.trans h2) (dpa_mono ss _ _ h3) (ih fun a ha => k a (List.mem_cons_of_mem _ ha))
theorem SlOk.keep {v : Option V} {s : Sl} {A : List Addr} (h : SlOk S H v s A) (ss : Same S S') (k : ∀ a ∈ A, S' a = none ∧ H' a = H a) : SlOk S' H' v s A := by
  cases h with
  | no => exact .no
  | d h => exact .d (dp_mono ss _ _ h)
  | own h1 h2 h3 =>
    obtain ⟨e1, e2⟩ := k _ List.mem_cons_self
    exact .own e1 (e2.trans h2) (dpa_mono ss _ _ h3)
  | own2 h1 h2 h3 =>
    obtain ⟨e1, e2⟩ := k _ List.mem_cons_self
    exact .own2 e1 (e2.trans h2) (h3.keep ss fun a ha => k a (List.mem_cons_of_mem _ ha))
  | dct h1 h2 =>
    obtain ⟨e1, e2⟩ := k _ List.mem_cons_self
    exact .dct e1 (e2.trans h2)
theorem Own2.at {bs : List Addr} {xss : List (List D)} (h : Own2 S H bs xss) : ∀ a ∈ bs, S a = none ∧ ∃ u, H a = some u ∧ ∀ xs, u ≠ .tup xs := by
  induction h with
  | nil => intro a ha; cases ha
  | cons h1 h2 h3 _ ih =>
    intro a ha
    rcases List.mem_cons.mp ha with rfl | ha
    · exact ⟨h1, _, h2, fun _ e => by cases e⟩
    · exact ih a ha
theorem SlOk.at {v : Option V} {s : Sl} {A : List Addr} (h : SlOk S H v s A) : ∀ a ∈ A, S a = none ∧ ∃ u, H a = some u ∧ ∀ xs, u ≠ .tup xs := by
  cases h with
  | no => intro a ha; cases ha
  | d h => intro a ha; cases ha
  | own h1 h2 h3 =>
    intro a ha
    have e := List.mem_singleton.mp ha
    subst e
    exact ⟨h1, _, h2, fun _ e => by cases e⟩
  | own2 h1 h2 h3 =>
    intro a ha
    rcases List.mem_cons.mp ha with rfl | ha
    · exact ⟨h1, _, h2, fun _ e => by cases e⟩
    · exact h3.at a ha
  | dct h1 h2 =>
    intro a ha
    have e := List.mem_singleton.mp ha
    subst e
    exact ⟨h1, _, h2, fun _ e => by cases e⟩
theorem SlOk.ext {v : Option V} {s : Sl} {A : List Addr} (h : SlOk S H v s A) (x : Xt S H S' H') : SlOk S' H' v s A :=
  h.keep x.ss fun a ha => by
    obtain ⟨h1, u, h2, h3⟩ := h.at a ha
    exact ⟨x.out h1 h2 h3, by rw [h2]; exact x.hh a u h2⟩
inductive EnvOk (S H : Hp) : List (Option V) → List Sl → List Addr → Prop
  | nil : EnvOk S H [] [] []
  | cons {v : Option V} {s : Sl} {A : List Addr} {σ : List (Option V)} {ρ : List Sl} {B : List Addr} : SlOk S H v s A → EnvOk S H σ ρ B → EnvOk S H (v :: σ) (s :: ρ) (A ++ B)
theorem EnvOk.keep {σ : Sg} {ρ : List Sl} {A : List Addr} (h : EnvOk S H σ ρ A) (ss : Same S S') (k : ∀ a ∈ A, S' a = none ∧ H' a = H a) : EnvOk S' H' σ ρ A := by
  induction h with
  | nil => exact .nil
  | cons h _ ih => exact .cons (h.keep ss fun a ha => k a (List.mem_append_left _ ha)) (ih fun a ha => k a (List.mem_append_right _ ha))
theorem EnvOk.at {σ : Sg} {ρ : List Sl} {A : List Addr} (h : EnvOk S H σ ρ A) : ∀ a ∈ A, S a = none ∧ ∃ u, H a = some u ∧ ∀ xs, u ≠ .tup xs := by
  induction h with
  | nil => intro a ha; cases ha
  | cons h _ ih =>
    intro a ha
    rcases List.mem_append.mp ha with ha | ha
    · exact h.at a ha
    · exact ih a ha
theorem EnvOk.ext {σ : Sg} {ρ : List Sl} {A : List Addr} (h : EnvOk S H σ ρ A) (x : Xt S H S' H') : EnvOk S' H' σ ρ A :=
  h.keep x.ss fun a ha => by
    obtain ⟨h1, u, h2, h3⟩ := h.at a ha
    exact ⟨x.out h1 h2 h3, by rw [h2]; exact x.hh a u h2⟩
theorem EnvOk.len {σ : Sg} {ρ : List Sl} {A : List Addr} (h : EnvOk S H σ ρ A) : σ.length = ρ.length := by
  induction h with
  | nil => rfl
  | cons _ _ ih => rw [List.length_cons, List.length_cons, ih]
/-- one slot taken out of the rest: at i stands v as s over A; with anything in its place the rest stays -/
theorem EnvOk.pick {σ : Sg} {ρ : List Sl} {B : List Addr} (h : EnvOk S H σ ρ B) (nd : B.Nodup) : ∀ {i : Nat} {s : Sl}, ρ[i]? = some s → ∃ v A, σ[i]? = some v ∧ SlOk S H v s A ∧ A.Nodup ∧ (∀ a ∈ A, a ∈ B) ∧
    ∀ {S' H' : Hp} {v' : Option V} {s' : Sl} {A' : List Addr}, Same S S' → (∀ a ∈ B, a ∉ A → S' a = none ∧ H' a = H a) → SlOk S' H' v' s' A' → A'.Nodup → (∀ a ∈ A', a ∈ A ∨ a ∉ B) →
      ∃ B', EnvOk S' H' (σ.set i v') (ρ.set i s') B' ∧ B'.Nodup ∧ ∀ a ∈ B', a ∈ A' ∨ a ∈ B := by
  induction h with
  | nil => intro i s e; simp at e
  | @cons v0 s0 A0 σ ρ B h0 ht ih =>
    have nd1 : A0.Nodup := (List.nodup_append.mp nd).1
    have nd2 : B.Nodup := (List.nodup_append.mp nd).2.1
    have dj : ∀ a ∈ A0, a ∉ B := fun a ha hb => (List.nodup_append.mp nd).2.2 a ha a hb rfl
    intro i s e
    cases i with
    | zero =>
      have e' : s0 = s := by simpa using e
      subst e'
      refine ⟨v0, A0, rfl, h0, nd1, fun a ha => List.mem_append_left _ ha, fun {S' H' v' s' A'} ss k h' n' m' => ?_⟩
      refine ⟨A' ++ B, .cons h' (ht.keep ss fun a ha => k a (List.mem_append_right _ ha) fun z => dj a z ha), ?_, fun a ha => ?_⟩
      · refine List.nodup_append.mpr ⟨n', nd2, fun a ha b hb e => ?_⟩
        subst e
        rcases m' a ha with z | z
        · exact dj a z hb
        · exact z (List.mem_append_right _ hb)
      · rcases List.mem_append.mp ha with z | z
        · exact .inl z
        · exact .inr (List.mem_append_right _ z)
    | succ i =>
      obtain ⟨v, A, e1, e2, e3, e4, e5⟩ := ih nd2 (i := i) (s := s) (by simpa using e)
      refine ⟨v, A, by simpa using e1, e2, e3, fun a ha => List.mem_append_right _ (e4 a ha), fun {S' H' v' s' A'} ss k h' n' m' => ?_⟩
      obtain ⟨B', q1, q2, q3⟩ := e5 (v' := v') ss (fun a ha na => k a (List.mem_append_right _ ha) na) h' n' (fun a ha => by
        rcases m' a ha with z | z
        · exact .inl z
        · exact .inr fun hb => z (List.mem_append_right _ hb))
      refine ⟨A0 ++ B', .cons (h0.keep ss fun a ha => k a (List.mem_append_left _ ha) fun z => dj a ha (e4 a z)) q1, ?_, fun a ha => ?_⟩
      · refine List.nodup_append.mpr ⟨nd1, q2, fun a ha b hb e => ?_⟩
        subst e
        rcases q3 a hb with z | z
        · rcases m' a z with y | y
          · exact dj a ha (e4 a y)
          · exact y (List.mem_append_left _ ha)
        · exact dj a ha z
      · rcases List.mem_append.mp ha with z | z
        · exact .inr (List.mem_append_left _ z)
        · rcases q3 a z with y | y
          · exact .inl y
          · exact .inr (List.mem_append_right _ y)
structure Ok (S0 H0 S H : Hp) (σ : Sg) (ρ : List Sl) : Prop where
  xt : Xt S0 H0 S H
  env : ∃ A, EnvOk S H σ ρ A ∧ A.Nodup ∧ ∀ a ∈ A, H0 a = none
theorem Ok.sh {σ : Sg} {ρ : List Sl} (o : Ok S0 H0 S H σ ρ) : Same S H := o.xt.sh
theorem Ok.ext {σ : Sg} {ρ : List Sl} (o : Ok S0 H0 S H σ ρ) (x : Xt S H S' H') : Ok S0 H0 S' H' σ ρ := by
  obtain ⟨A, h1, h2, h3⟩ := o.env
  exact ⟨o.xt.trans x, A, h1.ext x, h2, h3⟩
theorem Ok.len {σ : Sg} {ρ : List Sl} (o : Ok S0 H0 S H σ ρ) : σ.length = ρ.length := let ⟨_, h, _⟩ := o.env; h.len
/-- a slot stored: what is stored is new to H -/
theorem Ok.set {σ : Sg} {ρ : List Sl} (o : Ok S0 H0 S H σ ρ) (x : Xt S H S' H') {v : Option V} {s : Sl} {A : List Addr} (h : SlOk S' H' v s A) (nd : A.Nodup) (fr : ∀ a ∈ A, H a = none) (i : Nat) : Ok S0 H0 S' H' (σ.set i v) (ρ.set i s) := by
  obtain ⟨B, h1, h2, h3⟩ := o.env
  have h1' := h1.ext x
  by_cases hi : i < ρ.length
  · obtain ⟨v0, A0, e1, e2, e3, e4, e5⟩ := h1'.pick h2 (i := i) (s := ρ[i]) (by simp [hi])
    obtain ⟨B', q1, q2, q3⟩ := e5 (v' := v) (Same.refl S') (fun a ha _ => ⟨(h1'.at a ha).1, rfl⟩) h nd (fun a ha => .inr fun hb => by
      obtain ⟨_, u, hu, _⟩ := h1.at a hb
      rw [fr a ha] at hu; cases hu)
    refine ⟨o.xt.trans x, B', q1, q2, fun a ha => ?_⟩
    rcases q3 a ha with z | z
    · exact o.xt.hh.free (fr a z)
    · exact h3 a z
  · have l := o.len
    rw [List.set_eq_of_length_le (by omega), List.set_eq_of_length_le (by omega)]
    exact ⟨o.xt.trans x, B, h1', h2, h3⟩
end
end PL
namespace PL
open PySem L2
variable [kf : KF]
/-! ### judgements -/
def EvP (te : TE) (ρ : List Sl) (P : Sl → Prop) : Prop := ∀ (S0 H0 S H : Hp) (σ : Sg) (Q : VK), Ok S0 H0 S H σ ρ →
  (∀ v S' H' r A, P r → Xt S H S' H' → SlOk S' H' (some v) r A → A.Nodup → (∀ a ∈ A, H a = none) → Q v H') → te σ H Q
def EvO (te : TE) (ρ : List Sl) (r : Sl) : Prop := EvP te ρ (fun r' => r' = r)
def EvT (te : TE) (ρ : List Sl) (d : D) : Prop := ∀ (S0 H0 S H : Hp) (σ : Sg) (Q : VK), Ok S0 H0 S H σ ρ → (∀ v S' H', Xt S H S' H' → Rp H' v d → Q v H') → te σ H Q
def EvB (tt : TT) (ρ : List Sl) (b : Bool) : Prop := ∀ (S0 H0 S H : Hp) (σ : Sg) (Q : Bool → Hp → Prop), Ok S0 H0 S H σ ρ → (∀ S' H', Xt S H S' H' → Q b H') → tt σ H Q
def EvL (ta : TA) (ρ : List Sl) (ds : List D) : Prop := ∀ (S0 H0 S H : Hp) (σ : Sg) (Q : List V → Hp → Prop), Ok S0 H0 S H σ ρ → (∀ vs S' H', Xt S H S' H' → RpAll S' vs ds → Q vs H') → ta σ H Q
section
variable {ρ : List Sl} {ta tb tc te : TE} {t u : TT} {d e x y : D} {r : Sl} {P : Sl → Prop}
theorem Ok.get {S0 H0 S H : Hp} {σ : Sg} {s : Sl} {i : Nat} (o : Ok S0 H0 S H σ ρ) (h : ρ[i]? = some s) : ∃ v A, σ[i]? = some v ∧ SlOk S H v s A := by
  obtain ⟨A, he, hn, _⟩ := o.env
  obtain ⟨v, A', e1, e2, _⟩ := he.pick hn h
  exact ⟨v, A', e1, e2⟩
/-! ### operators -/
def isN : D → Bool
  | .none => true
  | _ => false
theorem rp_isN {H : Hp} {v : V} (h : Rp H v d) : decide (v = .non) = isN d := by
  cases h <;> simp [isN]
/-! ### subscripts, len -/
/-! ### kinds -/
def tyN : D → String
  | .none => "NoneType" | .bool _ => "bool" | .int _ => "int" | .str _ => "str" | .list _ => "list" | .tuple _ => "tuple" | .dict _ => "dict"
theorem rp_ty {H : Hp} {v : V} (h : Rp H v d) : TyX kf.K H v (.type (tyN d)) := by
  cases h with
  | non => exact .base .non
  | bl b => exact .base (.bl b)
  | int i => exact .base (.int i)
  | str x => exact .base (.str x)
  | lst r _ =>
    rcases r with (r | ⟨o, r⟩) | ⟨o, its, n, hk, hc, _⟩
    · exact .base (.lst r)
    · exact .base (.frz r)
    · exact .kList hk hc
  | tup r _ => exact .base (.tup r)
  | dcT r _ => exact .base (.dT r)
  | dcK r _ _ => exact .base (.dK r)
/-! ### arguments, displays -/
theorem evl_nil : EvL tNil ρ [] := fun S0 H0 S H σ Q o q => q [] S H (.refl o.sh) .nil
theorem evl_cons {tr : TA} {xs : List D} (ha : EvO ta ρ (.d x)) (hr : EvL tr ρ xs) : EvL (tCons ta tr) ρ (x :: xs) := fun S0 H0 S H σ Q o q =>
  ha S0 H0 S H σ _ o fun v S1 H1 r A er x1 h1 _ _ => hr S0 H0 S1 H1 σ _ (o.ext x1) fun vs S2 H2 x2 h2 => by
    subst er
    cases h1 with
    | d h1 => exact q _ S2 H2 (x1.trans x2) (.cons (dp_mono x2.ss _ _ h1) h2)
theorem sz_of {n : Nat} (h : n ≤ 1000000) : n ≤ sizeLine := Nat.le_trans h (by decide)
theorem sz_lt {n : Nat} (h : n ≤ 1000000) : n < sizeLine := Nat.lt_of_le_of_lt h (by decide)
/-! ### tests -/
/-! ### calls -/
def spF (n : Nat) (pre : List D → Prop) (post : List D → Sl → Prop) : Sp := fun vs H Q _ => ∃ S ds, ds.length = n ∧ Same S H ∧ RpAll S vs ds ∧ pre ds ∧
  ∀ r v H' S' A, post ds r → Xt S H S' H' → SlOk S' H' (some v) r A → A.Nodup → (∀ a ∈ A, H a = none) → Q v H'
end
end PL
namespace PL
open PySem L2
variable [kf : KF]
/-! ### statements -/
structure DE where
  nx : List Sl → Prop
  rt : Sl → Prop
  bk : List Sl → Prop := fun _ => False
  ct : List Sl → Prop := fun _ => False
def Run (t : TS) (Dn : DE) (ρ : List Sl) : Prop := ∀ (S0 H0 S H : Hp) (σ : Sg) (E : Ends), Ok S0 H0 S H σ ρ →
  (∀ S' H' σ' ρ', Same S S' → Ok S0 H0 S' H' σ' ρ' → Dn.nx ρ' → E.nx σ' H') →
  (∀ v S' H' r A, Xt S0 H0 S' H' → SlOk S' H' (some v) r A → A.Nodup → (∀ a ∈ A, H0 a = none) → Dn.rt r → E.rt v H') →
  (∀ S' H' σ' ρ', Same S S' → Ok S0 H0 S' H' σ' ρ' → Dn.bk ρ' → E.bk σ' H') →
  (∀ S' H' σ' ρ', Same S S' → Ok S0 H0 S' H' σ' ρ' → Dn.ct ρ' → E.ct σ' H') → t E σ H
section
variable {ρ : List Sl} {ta tb tc te : TE} {c : TT} {t u : TS} {d x y : D} {r : Sl} {Dn : DE}
theorem run_seq (h : Run t { Dn with nx := Run u Dn } ρ) : Run (tSeq t u) Dn ρ := fun S0 H0 S H σ E o q1 q2 q3 q4 =>
  h S0 H0 S H σ { E with nx := u E } o (fun S' H' σ' ρ' ss o' n => n S0 H0 S' H' σ' E o' (fun S2 H2 σ2 ρ2 s2 => q1 S2 H2 σ2 ρ2 (ss.trans s2)) q2 (fun S2 H2 σ2 ρ2 s2 => q3 S2 H2 σ2 ρ2 (ss.trans s2)) fun S2 H2 σ2 ρ2 s2 => q4 S2 H2 σ2 ρ2 (ss.trans s2)) q2 q3 q4
theorem run_next (h : Dn.nx ρ) : Run tNext Dn ρ := fun S0 H0 S H σ E o q1 q2 q3 q4 => q1 S H σ ρ (Same.refl S) o h
theorem run_asgP {i : Nat} {P : Sl → Prop} (h : EvP te ρ P) (k : ∀ r, P r → Dn.nx (ρ.set i r)) : Run (tAsg te (gName i)) Dn ρ := fun S0 H0 S H σ E o q1 q2 q3 q4 =>
  h S0 H0 S H σ _ o fun v S' H' r A p xt hs nd fr => q1 S' H' _ _ xt.ss (o.set xt hs nd fr i) (k r p)
theorem run_asg {i : Nat} (h : EvO te ρ r) (k : Dn.nx (ρ.set i r)) : Run (tAsg te (gName i)) Dn ρ := run_asgP h fun r' e => by rw [e]; exact k
theorem run_if {b : Bool} (h : EvB c ρ b) (h1 : b = true → Run t Dn ρ) (h2 : b = false → Run u Dn ρ) : Run (tIfS c t u) Dn ρ := fun S0 H0 S H σ E o q1 q2 q3 q4 =>
  h S0 H0 S H σ _ o fun S1 H1 x1 => by
    cases b with
    | true => exact iteT (h1 rfl S0 H0 S1 H1 σ E (o.ext x1) (fun S2 H2 σ2 ρ2 s2 => q1 S2 H2 σ2 ρ2 (x1.ss.trans s2)) q2 (fun S2 H2 σ2 ρ2 s2 => q3 S2 H2 σ2 ρ2 (x1.ss.trans s2)) fun S2 H2 σ2 ρ2 s2 => q4 S2 H2 σ2 ρ2 (x1.ss.trans s2))
    | false => exact iteF (h2 rfl S0 H0 S1 H1 σ E (o.ext x1) (fun S2 H2 σ2 ρ2 s2 => q1 S2 H2 σ2 ρ2 (x1.ss.trans s2)) q2 (fun S2 H2 σ2 ρ2 s2 => q3 S2 H2 σ2 ρ2 (x1.ss.trans s2)) fun S2 H2 σ2 ρ2 s2 => q4 S2 H2 σ2 ρ2 (x1.ss.trans s2))
theorem run_retP {P : Sl → Prop} (h : EvP te ρ P) (k : ∀ r, P r → Dn.rt r) : Run (tRet te) Dn ρ := fun S0 H0 S H σ E o q1 q2 q3 q4 =>
  h S0 H0 S H σ _ o fun v S' H' r A p xt hs nd fr => q2 v S' H' r A (o.xt.trans xt) hs nd (fun a ha => o.xt.hh.free (fr a ha)) (k r p)
theorem run_ret (h : EvO te ρ r) (k : Dn.rt r) : Run (tRet te) Dn ρ := run_retP h fun r' e => by rw [e]; exact k
theorem set_self {α : Type} {xs : List α} {i : Nat} {v : α} (h : xs[i]? = some v) : xs.set i v = xs := by
  apply List.ext_getElem?
  intro j
  by_cases e : i = j
  · subst e
    rw [List.getElem?_set_self (by have := List.getElem?_eq_some_iff.mp h; exact this.1), h]
  · rw [List.getElem?_set_ne e]
/-- a slot changed in place -/
theorem ok_write {i : Nat} {S0 H0 S H S' H' : Hp} {σ : Sg} {s' : Sl} {v : Option V} {B : List Addr} (o : Ok S0 H0 S H σ ρ)
    (x : Xt S0 H0 S' H') (e1 : σ[i]? = some v) (b : EnvOk S' H' (σ.set i v) (ρ.set i s') B) (nd : B.Nodup) (fr : ∀ a ∈ B, H0 a = none) : Ok S0 H0 S' H' σ (ρ.set i s') := by
  rw [set_self e1] at b
  exact ⟨x, B, b, nd, fr⟩
theorem upd_same' {S H : Hp} {a : Addr} {o : HO} (sh : Same S H) (n : S a = none) : Same S (upd H a o) := fun b u e => by
  rw [upd_ne (ne_of_none e n)]; exact sh b u e
/-- an owned list changed: at slot i stands xs; what is written is ys -/
theorem ok_set {i : Nat} {S0 H0 S H : Hp} {σ : Sg} {xs : List D} (o : Ok S0 H0 S H σ ρ) (h : ρ[i]? = some (.own xs)) :
    ∃ a vs, σ[i]? = some (some (.ref a)) ∧ H a = some (.lst vs) ∧ S a = none ∧ RpAll S vs xs ∧ ∀ {S' H' : Hp} {ws : List V} {ys : List D}, Xt S H S' H' → RpAll S' ws ys → Ok S0 H0 S' (upd H' a (.lst ws)) σ (ρ.set i (.own ys)) := by
  obtain ⟨B, he, nd, fr⟩ := o.env
  obtain ⟨v, A, e1, e2, e3, e4, e5⟩ := he.pick nd h
  cases e2 with
  | @own a vs _ h1 h2 h3 =>
    refine ⟨a, vs, e1, h2, h1, h3, fun {S' H' ws ys} xt hr => ?_⟩
    have hb : a ∈ B := e4 a List.mem_cons_self
    have sa : S' a = none := xt.out h1 h2 fun _ z => by cases z
    obtain ⟨B', q1, q2, q3⟩ := e5 (S' := S') (H' := upd H' a (.lst ws)) (v' := some (.ref a)) (s' := .own ys) (A' := [a]) xt.ss (fun b hbB nb => by
      have ne : b ≠ a := fun z => nb (by rw [z]; exact List.mem_cons_self)
      obtain ⟨g1, w, g2, g3⟩ := he.at b hbB
      refine ⟨xt.out g1 g2 g3, ?_⟩
      rw [upd_ne ne, g2]
      exact xt.hh b w g2) (.own sa upd_same hr) (by simp) (fun b hb' => .inl hb')
    have x0 := o.xt.trans xt
    refine ok_write o ⟨fun b u e => ?_, x0.ss, upd_same' x0.sh sa, x0.nw⟩ e1 q1 q2 fun b hb' => ?_
    · rw [upd_ne (ne_of_none e (fr a hb))]; exact x0.hh b u e
    · rcases q3 b hb' with z | z
      · rw [List.mem_singleton.mp z]; exact fr a hb
      · exact fr b z
theorem run_setitem {i : Nat} {j : Nat} {xs : List D} (h : ρ[i]? = some (.own xs)) (he : EvO te ρ (.d x)) (hj : EvT tb ρ (.int (j : Int))) (hl : j < xs.length) (k : Dn.nx (ρ.set i (.own (xs.set j x)))) :
    Run (tAsg te (gSub (tVar i) tb rSetL)) Dn ρ := fun S0 H0 S H σ E o q1 q2 q3 q4 => by
  obtain ⟨a, vs, e1, e2, e3, e4, e5⟩ := ok_set o h
  refine he S0 H0 S H σ _ o fun v S1 H1 r A er x1 h1 _ _ => ?_
  subst er
  cases h1 with
  | d h1 =>
    refine ⟨_, e1, hj S0 H0 S1 H1 σ _ (o.ext x1) fun w S2 H2 x2 h2 => ?_⟩
    cases h2
    have hl' : j < vs.length := by rw [dpa_length e4]; exact hl
    have hx : ixN vs.length (j : Int) = some j := by
      unfold ixN
      simp [hl']
    refine ⟨a, vs, (j : Int), j, rfl, rfl, x2.hh _ _ (x1.hh _ _ e2), hx, ?_⟩
    exact q1 S2 _ σ _ (x1.ss.trans x2.ss) (e5 (x1.trans x2) (dpa_set (dp_mono x2.ss _ _ h1) j (dpa_mono (x1.trans x2).ss _ _ e4))) k
/-! ### targets -/
/-- data x stored to the target: the slots become ρ', those not at js are as they were -/
def TgD (g : TG) (x : D) (ρ ρ' : List Sl) (js : List Nat) : Prop := ∀ (S0 H0 S H : Hp) (σ : Sg) (Q : Sg → Hp → Prop) (v : V), Ok S0 H0 S H σ ρ → Rp S v x →
  (∀ σ', Ok S0 H0 S H σ' ρ' → σ'.length = σ.length → (∀ k, k ∉ js → σ'[k]? = σ[k]?) → Q σ' H) → g v σ H Q
theorem tg_name {i : Nat} : TgD (gName i) x ρ (ρ.set i (.d x)) [i] := fun S0 H0 S H σ Q v o hv q =>
  q _ (o.set (.refl o.sh) (.d hv) List.nodup_nil (fun a ha => by cases ha) i) (by rw [List.length_set]) fun k hk => by rw [List.getElem?_set_ne (fun z => hk (by rw [z]; exact List.mem_cons_self))]
def TgDs (g : TGs) (xs : List D) (ρ ρ' : List Sl) (js : List Nat) : Prop := ∀ (S0 H0 S H : Hp) (σ : Sg) (Q : Sg → Hp → Prop) (vs : List V), Ok S0 H0 S H σ ρ → RpAll S vs xs →
  (∀ σ', Ok S0 H0 S H σ' ρ' → σ'.length = σ.length → (∀ k, k ∉ js → σ'[k]? = σ[k]?) → Q σ' H) → g vs σ H Q
theorem tgs_nil : TgDs gNil [] ρ ρ [] := fun S0 H0 S H σ Q vs o hv q => by
  cases hv
  exact ⟨rfl, q σ o rfl fun _ _ => rfl⟩
theorem tgs_cons {g : TG} {gs : TGs} {xs : List D} {ρ1 ρ2 : List Sl} {js ks : List Nat} (h1 : TgD g x ρ ρ1 js) (h2 : TgDs gs xs ρ1 ρ2 ks) : TgDs (gCons g gs) (x :: xs) ρ ρ2 (js ++ ks) := fun S0 H0 S H σ Q vs o hv q => by
  cases hv with
  | cons hv ht =>
    refine ⟨_, _, rfl, h1 S0 H0 S H σ _ _ o hv fun σ1 o1 l1 k1 => h2 S0 H0 S H σ1 _ _ o1 ht fun σ2 o2 l2 k2 => q σ2 o2 (l2.trans l1) fun k hk => ?_⟩
    rw [k2 k (fun z => hk (List.mem_append_right _ z)), k1 k (fun z => hk (List.mem_append_left _ z))]
theorem tg_tup {gs : TGs} {xs : List D} {ρ' : List Sl} {js : List Nat} {n : Nat} (h : TgDs gs xs ρ ρ' js) (hn : xs.length = n) : TgD (gTup kf.K n gs) (.tuple xs) ρ ρ' js := fun S0 H0 S H σ Q v o hv q => by
  cases hv with
  | tup r1 r2 => exact ⟨_, _, rfl, .inl (.of (o.sh _ _ r1)), (dpa_length r2).trans hn, h S0 H0 S H σ Q _ o r2 q⟩
/-- a, b = e -/
theorem run_asgT {g : TG} {ρ' : List Sl} {js : List Nat} (h : EvO te ρ (.d x)) (ht : TgD g x ρ ρ' js) (k : Dn.nx ρ') : Run (tAsg te g) Dn ρ := fun S0 H0 S H σ E o q1 q2 q3 q4 =>
  h S0 H0 S H σ _ o fun v S' H' r A er xt hs _ _ => by
    subst er
    cases hs with
    | d hs => exact ht S0 H0 S' H' σ _ v (o.ext xt) hs fun σ' o' _ _ => q1 S' H' σ' ρ' xt.ss o' k
/-! ### what is walked -/
def JD (S : Hp) (J : It) (ds : List D) : Prop := ∀ S1 H1, Same S S1 → Same S1 H1 → J.stop ds.length H1 ∧ ∀ i x, ds[i]? = some x → J.go i H1 ∧ ∀ v H2, J.yld i H1 v H2 → ∃ S2, Xt S1 H1 S2 H2 ∧ Rp S2 v x
def IterD (wi : TI) (ρ : List Sl) (ds : List D) : Prop := ∀ (S0 H0 S H : Hp) (σ : Sg) (R : It → Hp → Prop), Ok S0 H0 S H σ ρ → (∀ J S' H', Xt S H S' H' → JD S' J ds → R J H') → wi σ H R
theorem jd_list {S : Hp} {a : Addr} {vs : List V} {ds : List D} (h : SqL kf.K S a vs) (hr : RpAll S vs ds) : JD S (Itl kf.K a) ds := fun S1 H1 s1 sh => by
  have h1 : SqL kf.K H1 a vs := (s1.trans sh).seq h
  refine ⟨⟨vs, h1, by rw [dpa_length hr]; exact Nat.le_refl _⟩, fun i x e => ?_⟩
  obtain ⟨v, e1, e2⟩ := dpa_get hr e
  refine ⟨⟨vs, v, h1, e1⟩, fun w H2 y => ?_⟩
  obtain ⟨rfl, y⟩ := y
  have : some w = some v := (y vs h1).symm.trans e1
  cases this
  exact ⟨S1, .refl sh, dp_mono s1 _ _ e2⟩
theorem it_list {ds : List D} (h : EvO te ρ (.d (.list ds))) : IterD (iList kf.K te) ρ ds := fun S0 H0 S H σ R o q =>
  h S0 H0 S H σ _ o fun v S' H' r A er xt hs _ _ => by
    subst er
    cases hs with
    | d hs =>
      cases hs with
      | lst r1 r2 => exact ⟨_, rfl, ⟨_, xt.sh.seq r1⟩, q _ S' H' xt (jd_list r1 r2)⟩
theorem jd_range {S : Hp} {lo : Int} {n : Nat} : JD S (Itr lo n) ((List.range n).map fun (i : Nat) => PyData.int (lo + (i : Int))) := fun S1 H1 s1 sh => by
  refine ⟨by show n ≤ _; simp, fun i x e => ?_⟩
  rw [List.getElem?_map] at e
  have hi : i < n := by
    cases q : (List.range n)[i]? with
    | none => rw [q] at e; cases e
    | some j => have := (List.getElem?_eq_some_iff.mp q).1; simpa using this
  rw [List.getElem?_range hi] at e
  cases e
  refine ⟨hi, fun v H2 y => ?_⟩
  obtain ⟨rfl, rfl⟩ := y
  exact ⟨S1, .refl sh, .int _⟩
theorem it_range1 {n : Int} (h : EvT te ρ (.int n)) (hn : n < 2 ^ 62) (hn0 : -(2 ^ 62) ≤ n) : IterD (iRng1 (tCons te tNil)) ρ ((List.range n.toNat).map fun (i : Nat) => PyData.int (0 + (i : Int))) := fun S0 H0 S H σ R o q =>
  h S0 H0 S H σ _ o fun v S' H' xt hs => by
    cases hs
    exact ⟨n, rfl, hn0, hn, q _ S' H' xt jd_range⟩
theorem it_range2 {m n : Int} (h : EvT ta ρ (.int m)) (h' : EvT tb ρ (.int n)) (hb : -(2 ^ 62) ≤ m ∧ m < 2 ^ 62 ∧ -(2 ^ 62) ≤ n ∧ n < 2 ^ 62) : IterD (iRng2 (tCons ta (tCons tb tNil))) ρ ((List.range (n - m).toNat).map fun (i : Nat) => PyData.int (m + (i : Int))) := fun S0 H0 S H σ R o q =>
  h S0 H0 S H σ _ o fun v S1 H1 x1 h1 => h' S0 H0 S1 H1 σ _ (o.ext x1) fun u S2 H2 x2 h2 => by
    cases h1; cases h2
    exact ⟨m, n, rfl, hb, q _ S2 H2 (x1.trans x2) jd_range⟩
theorem it_enum {ds : List D} (h : EvO te ρ (.d (.list ds))) : IterD (iEnum kf.K (tCons te tNil)) ρ (ds.zipIdx.map fun p => PyData.tuple [.int (p.2 : Nat), p.1]) := fun S0 H0 S H σ R o q =>
  h S0 H0 S H σ _ o fun v S' H' r A er xt hs _ _ => by
    subst er
    cases hs with
    | d hs =>
      cases hs with
      | @lst a vs _ r1 r2 =>
        refine ⟨a, vs, rfl, xt.sh.seq r1, q _ S' H' xt fun S1 H1 s1 sh => ?_⟩
        have h1 : SqL kf.K H1 a vs := (s1.trans sh).seq r1
        refine ⟨⟨vs, h1, by rw [dpa_length r2]; simp⟩, fun i x e => ?_⟩
        rw [List.getElem?_map, List.getElem?_zipIdx] at e
        cases qd : ds[i]? with
        | none => rw [qd] at e; cases e
        | some d =>
          rw [qd] at e
          simp at e
          subst e
          obtain ⟨v, e1, e2⟩ := dpa_get r2 qd
          refine ⟨⟨vs, v, h1, e1⟩, fun w H2 y => ?_⟩
          obtain ⟨T, x, rfl, nT, rfl, y⟩ := y
          have : some x = some v := (y vs h1).symm.trans e1
          cases this
          have xn := Xt.newS (o := .tup [.int (i : Nat), v]) sh nT
          exact ⟨_, xn, .tup upd_same (.cons (.int _) (.cons (dp_mono (s1.trans xn.ss) _ _ e2) .nil))⟩
/-! ### loops -/
theorem run_for {wi : TI} {g : TG} {ds : List D} (hi : IterD wi ρ ds) (I : Nat → List Sl → Prop) (h0 : I 0 ρ)
    (hs : ∀ i x ρ', ds[i]? = some x → I i ρ' → ∃ ρ2 js, TgD g x ρ' ρ2 js ∧ Run t { nx := I (i + 1), ct := I (i + 1), bk := Dn.nx, rt := Dn.rt } ρ2) (hd : ∀ ρ', I ds.length ρ' → Dn.nx ρ') : Run (tFor wi g t) Dn ρ := fun S0 H0 S H σ E o q1 q2 q3 q4 =>
  hi S0 H0 S H σ _ o fun J S1 H1 x1 hJ => by
    refine ⟨fun i m σ' H' => m = ds.length - i ∧ i ≤ ds.length ∧ ∃ S' ρ', Same S1 S' ∧ Ok S0 H0 S' H' σ' ρ' ∧ I i ρ', ⟨_, rfl, Nat.zero_le _, S1, ρ, Same.refl _, o.ext x1, h0⟩, ?_⟩
    rintro i m σ' H' ⟨rfl, hi, S', ρ', s1, o', hI⟩
    obtain ⟨st, go⟩ := hJ S' H' s1 o'.sh
    by_cases hl : i < ds.length
    · obtain ⟨g1, g2⟩ := go i ds[i] (List.getElem?_eq_getElem hl)
      obtain ⟨ρ2, js, ht, hb⟩ := hs i ds[i] ρ' (List.getElem?_eq_getElem hl) hI
      refine .inr ⟨g1, fun σ2 H2 => ∃ S2 ρ2, Same S1 S2 ∧ Ok S0 H0 S2 H2 σ2 ρ2 ∧ I (i + 1) ρ2, fun σ2 H2 hN => ?_, fun v H2 hy => ?_⟩
      · exact ⟨_, by omega, rfl, hl, hN⟩
      · obtain ⟨S2, x2, hv⟩ := g2 v H2 hy
        refine ht S0 H0 S2 H2 σ' _ v (o'.ext x2) hv fun σ3 o3 _ _ => ?_
        refine hb S0 H0 S2 H2 σ3 _ o3 (fun S4 H4 σ4 ρ4 s4 o4 n4 => ⟨S4, ρ4, s1.trans (x2.ss.trans s4), o4, n4⟩) q2 (fun S4 H4 σ4 ρ4 s4 o4 n4 => q1 S4 H4 σ4 ρ4 (x1.ss.trans (s1.trans (x2.ss.trans s4))) o4 n4) (fun S4 H4 σ4 ρ4 s4 o4 n4 => ⟨S4, ρ4, s1.trans (x2.ss.trans s4), o4, n4⟩)
    · have e : i = ds.length := by omega
      subst e
      exact .inl ⟨st, q1 S' H' σ' ρ' (x1.ss.trans s1) o' (hd ρ' hI)⟩
end
end PL
namespace PL
open PySem L2
variable [kf : KF]
/-! ### comprehensions -/
def wipeS (ρ : List Sl) : List Nat → List Sl
  | [] => ρ
  | v :: vs => (wipeS ρ vs).set v .no
theorem Ok.wipe {S0 H0 S H : Hp} {σ : Sg} {ρ : List Sl} (o : Ok S0 H0 S H σ ρ) : ∀ vs : List Nat, Ok S0 H0 S H (L2.wipe σ vs) (wipeS ρ vs)
  | [] => o
  | v :: vs => (Ok.wipe o vs).set (.refl o.sh) .no List.nodup_nil (fun a ha => by cases ha) v
theorem wipe_get (σ : Sg) (k : Nat) : ∀ vs : List Nat, (L2.wipe σ vs)[k]? = if k ∈ vs then (if k < σ.length then some none else none) else σ[k]?
  | [] => by simp [L2.wipe]
  | v :: vs => by
    unfold L2.wipe
    have ih := wipe_get σ k vs
    have hl := L2.wipe_length σ vs
    by_cases e : v = k
    · subst e
      rw [if_pos List.mem_cons_self]
      by_cases h : v < σ.length
      · rw [if_pos h, List.getElem?_set_self (by omega)]
      · rw [if_neg h]
        exact List.getElem?_eq_none (by rw [List.length_set]; omega)
    · rw [List.getElem?_set_ne e, ih]
      by_cases h : k ∈ vs
      · rw [if_pos h, if_pos (List.mem_cons_of_mem _ h)]
      · rw [if_neg h, if_neg (fun z => by rcases List.mem_cons.mp z with z | z; exact e z.symm; exact h z)]
theorem wipe_eq {σ σ' : Sg} {vs : List Nat} (hl : σ'.length = (L2.wipe σ vs).length) (h : ∀ k, k ∉ vs → σ'[k]? = (L2.wipe σ vs)[k]?) : L2.wipe σ' vs = L2.wipe σ vs := by
  apply List.ext_getElem?
  intro k
  have l2 := L2.wipe_length σ vs
  rw [wipe_get, wipe_get]
  by_cases hk : k ∈ vs
  · rw [if_pos hk, if_pos hk, show σ'.length = σ.length by omega]
  · rw [if_neg hk, if_neg hk, h k hk, wipe_get, if_neg hk]
/-- the picked ones -/
def pick {α : Type} (n : Nat) (f : Nat → Bool) (v : Nat → α) : List α := ((List.range n).filter f).map v
section
variable {ρ : List Sl} {ta tb tc te : TE} {c : TT} {t u : TS} {d x y : D} {r : Sl} {Dn : DE}
theorem Own2.ext {S H S' H' : Hp} {bs : List Addr} {xss : List (List D)} (h : Own2 S H bs xss) (x : Xt S H S' H') : Own2 S' H' bs xss :=
  h.keep x.ss fun a ha => by
    obtain ⟨h1, u, h2, h3⟩ := h.at a ha
    exact ⟨x.out h1 h2 h3, by rw [h2]; exact x.hh a u h2⟩
/-! ### whole lists -/
/-- list * int: rRep wants the list tracked; a written one is -/
theorem dpa_rep {H : Hp} {vs : List V} {ds : List D} (h : RpAll H vs ds) : ∀ n : Nat, RpAll H (List.replicate n vs).flatten (List.replicate n ds).flatten
  | 0 => .nil
  | n + 1 => by
    rw [List.replicate_succ, List.replicate_succ, List.flatten_cons, List.flatten_cons]
    exact dpa_append h (dpa_rep h n)
/-- a slice of data -/
def cutD (xs : List D) (lo hi : Option Int) : List D := (xs.drop (HT.sIx xs.length 0 lo)).take (HT.sIx xs.length xs.length hi - HT.sIx xs.length 0 lo)
/-- list(range(n)) -/
def intsD (lo : Int) (n : Nat) : List D := (List.range n).map fun (i : Nat) => PyData.int (lo + (i : Int))
theorem dpa_rg {H : Hp} (a b : Int) : RpAll H (rgV a b) (intsD a (b - a).toNat) := by
  have gen : ∀ l : List Nat, RpAll H (l.map fun i => V.int (a + (i : Nat))) (l.map fun (i : Nat) => PyData.int (a + (i : Int))) := by
    intro l
    induction l with
    | nil => exact .nil
    | cons x l ih => exact .cons (.int _) ih
  exact gen _
end
end PL
namespace PL
open PySem L2
variable [kf : KF]
open PyProof.Rows (seqObj)
/-! ### sorted(d), the keys pairs of ints -/
def pairAt (H : Hp) : Value → Int × Int
  | .ref q => match H q with
    | some (.tup [.int i, .int j]) => (i, j)
    | _ => (0, 0)
  | _ => (0, 0)
theorem pairAt_of {H : Hp} {q : Addr} {i j : Int} (e : H q = some (.tup [.int i, .int j])) : pairAt H (.ref q) = (i, j) := by
  simp [pairAt, e]
def addrOf : Value → Addr
  | .ref q => q
  | _ => 0
/-- rising by the first, then by the second -/
def Lex (ps : List (Int × Int)) : Prop := ps.Pairwise fun p q => p.1 < q.1 ∨ (p.1 = q.1 ∧ p.2 ≤ q.2)
def rSortedDT : List V → Hp → VK → Prop := fun vs H Q => ∃ (a : Addr) (ks : List (Int × Int)), vs = [V.ref a] ∧ H a = some (.dT (ks.map keyOf)) ∧
  ∀ (ps : List (Addr × (Int × Int))) (p : Addr), Lex (ps.map (·.2)) → (ps.map (·.2)).Perm ks → (∀ q ∈ ps, H q.1 = some (.tup [.int q.2.1, .int q.2.2])) → H p = none → Q (.ref p) (upd H p (.lst (ps.map fun q => V.ref q.1)))
theorem keys_at {H : Hp} : ∀ {ks : List (Int × Int)} {xs : List (List Key × Addr × Value)}, Paired (fun (p : List Key × V) (q : List Key × Addr × Value) => p.1 = q.1 ∧ H q.2.1 = some (.tup (p.1.map kV)) ∧ RelV p.2 q.2.2) (ks.map keyOf) xs →
    xs.map (fun x => pairAt H (.ref x.2.1)) = ks ∧ ∀ x ∈ xs, ∃ i j, H x.2.1 = some (.tup [.int i, .int j])
  | [], _, h => by
    cases h
    exact ⟨rfl, fun x hx => by cases hx⟩
  | k :: ks, _, h => by
    rw [List.map_cons] at h
    cases h with
    | cons a t =>
      rename_i x xs
      obtain ⟨h1, h2⟩ := keys_at t
      have e : H x.2.1 = some (.tup [.int k.1, .int k.2]) := a.2.1
      refine ⟨?_, fun y hy => ?_⟩
      · rw [List.map_cons, h1]
        rw [pairAt_of e]
      · rcases List.mem_cons.mp hy with rfl | hy
        · exact ⟨_, _, e⟩
        · exact h2 y hy
theorem acc_keys {es : Array DictEntry} {xs : List (List Key × Addr × Value)} {knd : List Key × Addr × Value → DictEntry} (he : es.toList = xs.map knd) (hk : ∀ x, (knd x).key = .ref x.2.1) {acc : Array Value} (hacc : ItemsOf (fun i v => ∃ hi : i < es.size, v = es[i].key) acc es.size) :
    acc.toList = xs.map fun x => Value.ref x.2.1 := by
  obtain ⟨h1, h2⟩ := hacc
  have hl : es.size = xs.length := by rw [← Array.length_toList, he, List.length_map]
  apply List.ext_getElem?
  intro j
  by_cases hj : j < xs.length
  · have hj2 : j < acc.toList.length := by rw [Array.length_toList, h1, hl]; exact hj
    rw [List.getElem?_eq_getElem hj2, List.getElem?_map, List.getElem?_eq_getElem hj]
    obtain ⟨hi, e⟩ := h2 j acc.toList[j] (by rw [← Array.getElem?_toList, List.getElem?_eq_getElem hj2])
    rw [e]
    have e2 : es[j] = knd xs[j] := by
      have e3 : es.toList[j]'(by rw [Array.length_toList]; exact hi) = knd xs[j] := by
        have : es.toList[j]? = some (knd xs[j]) := by rw [he, List.getElem?_map, List.getElem?_eq_getElem hj]; rfl
        rw [List.getElem?_eq_getElem (by rw [Array.length_toList]; exact hi)] at this
        exact Option.some.inj this
      rw [← e3, Array.getElem_toList]
    rw [e2, hk]
    rfl
  · rw [List.getElem?_eq_none (by rw [Array.length_toList, h1, hl]; omega), List.getElem?_eq_none (by rw [List.length_map]; omega)]
theorem cr_sortedDT {X : Cx} (hc : X.calm = true) : CallR X (.builtin "sorted") rSortedDT := by
  intro pins s σ H vs us Q I r h
  obtain ⟨a, ks, rfl, ha, q⟩ := h
  obtain ⟨u, rfl, ru⟩ := vals1 r
  obtain rfl : u = Value.ref a := ru
  obtain ⟨hz, lo, xs, pr, o, es, ep, ho, hx, hdt, he, nd⟩ := I.hok a _ ha
  obtain ⟨k1, k2⟩ := keys_at pr
  have hl : xs.length = es.size := by rw [← Array.length_toList, he, List.length_map]
  have hz' : es.size ≤ sizeLine := by
    have := Paired.length pr
    rw [← hl, ← this]; exact hz
  refine Calls.call_function_entry PyProof.Rows.kind_sorted PyProof.Rows.plain_sorted PyProof.Rows.entry_sorted (PyProof.Rows.args_sorted1 _) ?_
  unfold Builtin.«sorted»
  refine wpAny_bind (m := checkCount "sorted" 1 1 _) (wpAny_pure ?_)
  refine wpAny_bind (PySem.W.kdu_collect (A := X.A.in1) (KdlSrc.rawDict (es := es) (ep := ep) lo) (I.ok.hd hc) ⟨o, ho, hx, hdt⟩ hz' fun h' tk acc hk hacc => ?_)
  have eacc : acc.toList = xs.map fun x => Value.ref x.2.1 := acc_keys he (fun _ => rfl) hacc
  have I1 : Inv X pins σ H { s with heap := h', toks := tk } := I.kept hk
  have hal : acc.toList.length ≤ sizeLine := by rw [eacc, List.length_map, hl]; exact hz'
  refine wpAny_bind (wpAny_newList ?_ hal)
  have hoL : (h'.push (seqObj "list" acc.toList.toArray 0)).get? h'.objs.size = some (seqObj "list" acc.toList.toArray 0) := Heap.get?_push_size _ rfl
  show wpAny _ _ _ _ _ { s with heap := h'.push (seqObj "list" acc.toList.toArray 0), toks := tk }
  have hp : ∀ v ∈ acc.toList, Srt.IsPair (h'.push (seqObj "list" acc.toList.toArray 0)) v (pairAt H v).1 (pairAt H v).2 := fun v hv => by
    rw [eacc] at hv
    obtain ⟨x, hx, rfl⟩ := List.mem_map.mp hv
    obtain ⟨i, j, hq⟩ := k2 x hx
    obtain ⟨_, its2, r2, o2, ho2, hc2, n2, hd2⟩ := I1.hok _ _ hq
    obtain ⟨u1, u2, rfl, ri, rj⟩ := vals2 r2
    obtain ⟨t1, rfl⟩ := ri
    obtain ⟨t2, rfl⟩ := rj
    have e : pairAt H (.ref x.2.1) = (i, j) := pairAt_of hq
    rw [e]
    exact ⟨x.2.1, o2, t1, t2, n2, rfl, Heap.get?_push_of_some _ ho2, hc2, hd2⟩
  refine wpAny_bind (wpAny_holding (wpAny_call_entry PyProof.Rows.slot_list_sort ⟨_, hoL, rfl⟩ PyProof.Rows.entry_list_sort
    (SrtO.list_sort_ord (s := { s with heap := h'.push (seqObj "list" acc.toList.toArray 0), toks := tk }) (SrtO.swo_lex (pairAt H)) hoL hal (fun h2 => SrtO.pairs_sortableO (by omega) hp fun o e => ?_) fun out h1 h2 => ⟨_, rfl, ?_⟩) (PyProof.Rows.args_list_sort _)))
  · have e' : some o = some (seqObj "list" acc.toList.toArray 0) := e.symm.trans hoL
    cases e'
    intro c
    exact absurd (Value.type.inj c) (by decide)
  · obtain ⟨e', he'⟩ := PyProof.Rows.sortedHeap_at (vs := acc.toList) (out := out.toArray) hoL
    have hmem : ∀ v ∈ out, ∃ x ∈ xs, v = .ref x.2.1 := fun v hv => by
      have := h2.perm.mem_iff.mp hv
      rw [eacc] at this
      obtain ⟨x, hx, rfl⟩ := List.mem_map.mp this
      exact ⟨x, hx, rfl⟩
    have hval : Vals (out.map fun v => V.ref (addrOf v)) out := by
      have gen : ∀ l : List Value, (∀ v ∈ l, ∃ x ∈ xs, v = .ref x.2.1) → Vals (l.map fun v => V.ref (addrOf v)) l := by
        intro l
        induction l with
        | nil => intro _; exact .nil
        | cons v l ih =>
          intro hm
          obtain ⟨x, _, rfl⟩ := hm v List.mem_cons_self
          exact .cons rfl (ih fun w hw => hm w (List.mem_cons_of_mem _ hw))
      exact gen out hmem
    have hlo : out.length ≤ sizeLine := by rw [h2.perm.length_eq]; exact hal
    have hps : (out.map fun v => (addrOf v, pairAt H v)).map (fun q => V.ref q.1) = out.map fun v => V.ref (addrOf v) := by rw [List.map_map]; rfl
    have hps2 : (out.map fun v => (addrOf v, pairAt H v)).map (·.2) = out.map (pairAt H) := by rw [List.map_map]; rfl
    have fresh := I1.hok.fresh (Nat.le_refl h'.objs.size)
    have qq := q (out.map fun v => (addrOf v, pairAt H v)) h'.objs.size ?_ ?_ ?_ fresh
    · rw [hps] at qq
      refine wpAny_pure ⟨_, rfl, .ref h'.objs.size, upd H h'.objs.size (.lst (out.map fun v => V.ref (addrOf v))), I1.laid (t' := tk) (fun b u e => ?_) (Nat.le_refl _)
        (show ObjOk X.prog X.w _ _ _ (.lst (out.map fun v => V.ref (addrOf v))) from ⟨by rw [List.length_map]; exact hlo, out, e', hval, he'⟩), rfl, qq⟩
      have hb : b < h'.objs.size := Heap.lt_size e
      rw [PyProof.Rows.sortedHeap_old (Nat.ne_of_lt hb) (by rw [PyProof.Rows.size_push']; exact Nat.lt_succ_of_lt hb)]
      exact Heap.get?_push_of_some _ e
    · rw [hps2]
      refine List.pairwise_map.mpr (List.Pairwise.imp (fun {v u} z => ?_) h1)
      have := SrtO.lexB_no.mp z
      omega
    · rw [hps2]
      refine (h2.perm.map (pairAt H)).trans ?_
      rw [eacc, List.map_map]
      exact List.Perm.of_eq k1
    · intro p hp
      obtain ⟨v, hv, rfl⟩ := List.mem_map.mp hp
      obtain ⟨x, hx, rfl⟩ := hmem v hv
      obtain ⟨i, j, hq⟩ := k2 x hx
      show H x.2.1 = some (.tup [.int (pairAt H (.ref x.2.1)).1, .int (pairAt H (.ref x.2.1)).2])
      have e : pairAt H (.ref x.2.1) = (i, j) := pairAt_of hq
      rw [e, hq]
def pairD (p : Int × Int) : D := .tuple [.int p.1, .int p.2]
section
variable {ρ : List Sl} {ta tb tc te : TE} {c : TT} {t u : TS} {d x y : D} {r : Sl} {Dn : DE}
def insK (ks : List (Int × Int)) (k : Int × Int) : List (Int × Int) := if k ∈ ks then ks else ks ++ [k]
/-! ### expressions that change an owned list -/
def EvX (te : TE) (ρ : List Sl) (x : D) (ρ' : List Sl) : Prop := ∀ (S0 H0 S H : Hp) (σ : Sg) (Q : VK), Ok S0 H0 S H σ ρ → (∀ v S' H', Same S S' → Ok S0 H0 S' H' σ ρ' → Rp S' v x → Q v H') → te σ H Q
/-! ### lists of lists -/
end
/-! ### a def -/
end PL
namespace PL
open PySem L2
variable [kf : KF]
def isIntB : D → Bool
  | .bool _ => true
  | .int _ => true
  | _ => false
def isBoolB : D → Bool
  | .bool _ => true
  | _ => false
def isListB : D → Bool
  | .list _ => true
  | _ => false
def isTupB : D → Bool
  | .tuple _ => true
  | _ => false
def isStrB : D → Bool
  | .str _ => true
  | _ => false
/-- a def of the top -/
structure Tp (K : PySem.W.Frag) (mg : Str → Option Value) (x : Str) (st : Stmt) where
  a : Addr
  fd : FuncData
  F : Fun K x x st a fd
  g : mg x = some (.ref a)
section
variable {ρ : List Sl} {ta tb tc te : TE} {c : TT} {t u : TS} {d x y : D} {r : Sl} {Dn : DE}
def lexLe (p q : Int × Int) : Bool := decide (p.1 < q.1 ∨ (p.1 = q.1 ∧ p.2 ≤ q.2))
theorem rp_pair {H : Hp} {v : V} {p : Int × Int} (h : Rp H v (pairD p)) : ∃ a, v = .ref a ∧ H a = some (.tup ([p.1, p.2].map V.int)) := by
  cases h with
  | @tup a us _ g1 g2 =>
    cases g2 with
    | cons a1 a2 => cases a2 with
      | cons b1 b2 => cases a1; cases b1; cases b2; exact ⟨a, rfl, g1⟩
end
end PL
namespace PL
open PySem L2
/-! ### plain data: None, ints, lists and tuples of such, at most n deep -/
def pl : Nat → D → Bool
  | _, .none => true
  | _, .int _ => true
  | n + 1, .list xs => xs.all (pl n)
  | n + 1, .tuple xs => xs.all (pl n)
  | _, _ => false
end PL
namespace PL
open PySem L2
end PL
namespace PL
open PySem L2
theorem lex_uniq : ∀ {a b : List (Int × Int)}, Lex a → Lex b → a.Perm b → a = b
  | [], b, _, _, h => h.nil_eq
  | x :: a, [], _, _, h => absurd h.length_eq (by simp)
  | x :: a, y :: b, ha, hb, h => by
    have ha' := List.pairwise_cons.mp ha
    have hb' := List.pairwise_cons.mp hb
    have e : x = y := by
      rcases List.mem_cons.mp (h.mem_iff.mp (List.mem_cons_self (a := x) (l := a))) with e | hx
      · exact e
      · rcases List.mem_cons.mp (h.mem_iff.mpr (List.mem_cons_self (a := y) (l := b))) with e | hy
        · exact e.symm
        · have c1 := hb'.1 x hx
          have c2 := ha'.1 y hy
          have h1 : x.1 = y.1 := by omega
          have h2 : x.2 = y.2 := by omega
          exact Prod.ext h1 h2
    subst e
    rw [lex_uniq ha'.2 hb'.2 h.cons_inv]
def insL (x : Int × Int) : List (Int × Int) → List (Int × Int)
  | [] => [x]
  | y :: ys => if lexLe x y then x :: y :: ys else y :: insL x ys
theorem insL_perm (x : Int × Int) : ∀ ys, (insL x ys).Perm (x :: ys)
  | [] => .refl _
  | y :: ys => by
    unfold insL
    split
    · exact .refl _
    · exact ((insL_perm x ys).cons y).trans (List.Perm.swap x y ys)
theorem insL_lex (x : Int × Int) : ∀ ys, Lex ys → Lex (insL x ys)
  | [], _ => List.pairwise_singleton _ _
  | y :: ys, h => by
    have h' := List.pairwise_cons.mp h
    unfold insL
    split
    · rename_i c
      have c := of_decide_eq_true c
      refine List.pairwise_cons.mpr ⟨fun z hz => ?_, h⟩
      rcases List.mem_cons.mp hz with rfl | hz
      · exact c
      · have := h'.1 z hz
        omega
    · rename_i c
      have c : ¬ (x.1 < y.1 ∨ x.1 = y.1 ∧ x.2 ≤ y.2) := fun z => c (decide_eq_true z)
      refine List.pairwise_cons.mpr ⟨fun z hz => ?_, insL_lex x ys h'.2⟩
      rcases List.mem_cons.mp ((insL_perm x ys).mem_iff.mp hz) with rfl | hz
      · omega
      · exact h'.1 z hz
def srtL : List (Int × Int) → List (Int × Int)
  | [] => []
  | x :: xs => insL x (srtL xs)
theorem srtL_perm : ∀ xs, (srtL xs).Perm xs
  | [] => .refl _
  | x :: xs => (insL_perm x (srtL xs)).trans ((srtL_perm xs).cons x)
theorem srtL_lex : ∀ xs, Lex (srtL xs)
  | [] => .nil
  | x :: xs => insL_lex x _ (srtL_lex xs)
theorem insK_nodup {ks : List (Int × Int)} {k : Int × Int} (h : ks.Nodup) : (insK ks k).Nodup := by
  unfold insK
  split
  · exact h
  · rename_i c
    refine List.nodup_append.mpr ⟨h, by simp, fun a ha b hb e => ?_⟩
    subst e
    rw [List.mem_singleton.mp hb] at ha
    exact c ha
theorem insK_len (ks : List (Int × Int)) (k : Int × Int) : (insK ks k).length ≤ ks.length + 1 := by
  unfold insK
  split
  · omega
  · simp
theorem insK_mem {ks : List (Int × Int)} {k q : Int × Int} (h : q ∈ insK ks k) : q ∈ ks ∨ q = k := by
  unfold insK at h
  split at h
  · exact .inl h
  · rcases List.mem_append.mp h with h | h
    · exact .inl h
    · exact .inr (List.mem_singleton.mp h)
/-! ### rules with the written part named (within a comprehension's block) -/
section
variable {X : Cx} {K : PySem.W.Frag} (hK : X.K = K)
include hK
theorem ix_listK : IxR X (rIxL K) := by subst hK; exact ix_list
theorem ix_tupK : IxR X (rIxT K) := by subst hK; exact ix_tup
theorem sl_listK : SlR X (rSlL K) := by subst hK; exact sl_list
theorem call_len_seqK : CallR X (.builtin "len") (fun xs H Q => ∃ p ys, xs = [V.ref p] ∧ (SqL K H p ys ∨ SqT K H p ys) ∧ Q (.int ys.length) H) := by subst hK; exact call_len_seq
theorem call_list_ofK : CallR X (.type "list") (fun xs H Q => ∃ p ys, xs = [V.ref p] ∧ (SqL K H p ys ∨ SqT K H p ys) ∧ ∀ l, H l = none → Q (.ref l) (upd H l (.lst ys))) := by subst hK; exact call_list_of
theorem call_isiKK : CallR X (.builtin "isinstance") (rIsi K) := by subst hK; exact call_isi
theorem op_eqDK (hu : X.A.units + 64 < cLine) : OpR X (compareOp .Eq) (rEqD K) := by subst hK; exact op_eqD hu
theorem op_neDK (hu : X.A.units + 64 < cLine) : OpR X (compareOp .NotEq) (rNeD K) := by subst hK; exact op_neD hu
theorem op_catRK : OpR X (binaryOp .Add) (rCatR K) := by subst hK; exact op_catR
theorem op_leTK (hu : X.A.units < cLine) : OpR X (compareOp .LtE) (rLeT K) := by subst hK; exact op_leT hu
theorem pi_listK {tg l : Expr} {tl : TE} (hl : PE X l tl) : PI X tg l (iList K tl) := by subst hK; exact pi_list hl
theorem pg_tupK {pos : Pos} {es : List Expr} {k : Nat} {t : TGs} {n : Nat} (hc : X.calm = true) (h : PGs X es t)
    (hn : (assignEach es X.env).length = n := by rfl) (hst : (assignEach es X.env).findIdx? (·.1) = none := by rfl) : PG X (.Tuple es k pos) (gTup K n t) := by subst hK; exact pg_tup hc h hn hst
end
end PL
namespace PL
open PySem PySem.Spec PyProof.Rows L2
/-! tuples walked, joined, looked through; a list unpacked; set(tuple) and its sorted list -/
end PL
namespace PL
open PySem PySem.Spec PyProof.Rows L2
section
variable {X : Cx} {a b c d : Expr} {pos : Pos} {ta tb tc td : TE}
/-- a op1 b op2 c op3 d -/
def tCh3 (r r' r'' : R2) (ta tb tc td : TE) : TE := fun σ H Q => ta σ H fun x H1 => tb σ H1 fun y H2 => r x y H2 fun z H3 => ∃ k, z = .bl k ∧
  (if k = true then tc σ H3 fun w H4 => r' y w H4 fun z' H5 => ∃ k', z' = .bl k' ∧ (if k' = true then td σ H5 fun u H6 => r'' w u H6 Q else Q (.bl false) H5) else Q (.bl false) H3)
theorem pe_ch3 {op op' op'' : CmpOp} {r r' r'' : R2} (ho : OpR X (compareOp op) r) (ho' : OpR X (compareOp op') r') (ho'' : OpR X (compareOp op'') r'') (ha : PE X a ta) (hb : PE X b tb) (hc : PE X c tc) (hd : PE X d td)
    (hm : lastMarks [op, op', op''] [b, c, d] = false := by with_unfolding_all rfl) : PE X (.Compare a [op, op', op''] [b, c, d] pos) (tCh3 r r' r'' ta tb tc td) := by
  refine ⟨fun pins s σ H Q I h => ?_⟩
  refine Compare_chain (thn (ha.run pins s σ H _ I h) fun v1 s1 ⟨x, H1, I1, r1, q1⟩ => chain_link (thn (hb.run pins s1 σ H1 _ I1 q1) fun v2 s2 ⟨y, H2, I2, r2, q2⟩ =>
    thn (ho pins s2 σ H2 x y v1 v2 _ I2 r1 r2 q2) fun v3 s3 ⟨z, H3, I3, r3, k, e, q3⟩ => ?_)) hm
  subst e
  cases r3
  refine wpAny_truthy_bool ?_
  cases k with
  | false => exact ite_ff ⟨.bl false, H3, I3, rfl, q3⟩
  | true =>
    refine ite_tt (chain_link (thn (hc.run pins s3 σ H3 _ I3 q3) fun v4 s4 ⟨z4, H4, I4, r4, q4⟩ =>
      thn (ho' pins s4 σ H4 y z4 v2 v4 _ I4 r2 r4 q4) fun v5 s5 ⟨z5, H5, I5, r5, k5, e5, q5⟩ => ?_))
    subst e5
    cases r5
    refine wpAny_truthy_bool ?_
    cases k5 with
    | false => exact ite_ff ⟨.bl false, H5, I5, rfl, q5⟩
    | true => exact ite_tt (chain_last (thn (hd.run pins s5 σ H5 _ I5 q5) fun v6 s6 ⟨z6, H6, I6, r6, q6⟩ => ho'' pins s6 σ H6 z4 z6 v4 v6 Q I6 r4 r6 q6))
end
variable [kf : KF]
end PL
/-! MR: owned trees over the heap; slots and what is held ahead of them in one list of apart footprints -/
namespace MR
open PySem L2 PL
inductive Kd where
  | lst | tup | dK (ks : List Key) | dT (ks : List (List Key))
def shape : Kd → List V → HO
  | .lst, vs => .lst vs
  | .tup, vs => .tup vs
  | .dK ks, vs => .dK (ks.zip vs)
  | .dT ks, vs => .dT (ks.zip vs)
def Kd.fits : Kd → Nat → Prop
  | .lst, _ => True
  | .tup, _ => True
  | .dK ks, n => ks.length = n
  | .dT ks, n => ks.length = n
def Kd.isTup : Kd → Bool
  | .tup => true
  | _ => false
/-- what is raised: the class's name, its fields, flat -/
structure Xc where
  cls : Str
  fs : List (Str × D)
/-- what a slot holds: nothing known, frozen data, a node of one's own -/
inductive OT where
  | no
  | d (x : D)
  | nd (k : Kd) (ts : List OT)
  /-- a list that stays as it is, its items one's own -/
  | fl (ts : List OT)
  /-- a caught exception -/
  | ex (x : Xc)
  /-- a set of whole numbers -/
  | si (ms : List Int)
def flatDs : List OT → Option (List D)
  | [] => some []
  | .d x :: ts => if flat x then (flatDs ts).map fun xs => x :: xs else Option.none
  | _ => Option.none
mutual
def OT.toD : OT → Option D
  | .no => Option.none
  | .d x => some x
  | .nd .lst ts => (OT.toDs ts).map .list
  | .nd .tup ts => (OT.toDs ts).map .tuple
  | .fl ts => (OT.toDs ts).map .list
  | .ex _ => Option.none
  | .si _ => Option.none
  | .nd (.dK ks) ts => if ks.length = ts.length then (flatDs ts).bind fun xs => if ((ks.map keyD).zip xs) = [] then Option.none else some (.dict ((ks.map keyD).zip xs)) else Option.none
  | .nd (.dT ks) ts => if ks.length = ts.length then (flatDs ts).map fun xs => .dict ((ks.map keyTD).zip xs) else Option.none
def OT.toDs : List OT → Option (List D)
  | [] => some []
  | t :: ts => match OT.toD t, OT.toDs ts with
    | some x, some xs => some (x :: xs)
    | _, _ => Option.none
end
theorem shape_tup {k : Kd} {vs : List V} (h : k.isTup = false) : ∀ xs, shape k vs ≠ .tup xs := by
  intro xs e
  cases k <;> simp [shape, Kd.isTup] at e h
/-! ### what changes: only at A -/
structure Xa (A : List Addr) (S H S' H' : Hp) : Prop where
  hh : ∀ b o, b ∉ A → H b = some o → H' b = some o
  dm : ∀ b, H' b = none → H b = none
  tp : ∀ b xs, H b = some (.tup xs) → H' b = some (.tup xs)
  ss : Same S S'
  sh : Same S' H'
  nw : ∀ b o, S' b = some o → S b = some o ∨ b ∈ A ∨ ∀ u, H b = some u → ∃ xs, u = .tup xs
section
variable {S H S' H' S1 H1 S2 H2 S0 H0 : Hp} {A A0 : List Addr}
theorem Xa.of (x : Xt S H S' H') : Xa A S H S' H' :=
  ⟨fun b o _ e => x.hh b o e, fun b e => x.hh.free e, fun b xs e => x.hh b _ e, x.ss, x.sh, fun b o e => by
    rcases x.nw b o e with q | q
    · exact .inl q
    · exact .inr (.inr q)⟩
theorem Xa.refl (h : Same S H) : Xa A S H S H := .of (.refl h)
theorem Xa.trans (x : Xa A S H S1 H1) (y : Xa A S1 H1 S2 H2) : Xa A S H S2 H2 :=
  ⟨fun b o n e => y.hh b o n (x.hh b o n e), fun b e => x.dm b (y.dm b e), fun b xs e => y.tp b xs (x.tp b xs e), x.ss.trans y.ss, y.sh, fun b o e => by
    rcases y.nw b o e with q | q | q
    · exact x.nw b o q
    · exact .inr (.inl q)
    · by_cases hb : b ∈ A
      · exact .inr (.inl hb)
      · exact .inr (.inr fun u hu => q u (x.hh b u hb hu))⟩
theorem Xa.xt (x : Xa [] S H S' H') : Xt S H S' H' :=
  ⟨fun b o e => x.hh b o (by simp) e, x.ss, x.sh, fun b o e => by
    rcases x.nw b o e with q | q | q
    · exact .inl q
    · cases q
    · exact .inr q⟩
/-- all tuples, and A, become stable -/
noncomputable def frz (S H : Hp) (A : List Addr) : Hp := by
  classical exact fun b => if b ∈ A ∨ ∃ xs, H b = some (.tup xs) then H b else S b
theorem frz_in {b : Addr} (h : b ∈ A) : frz S H A b = H b := by unfold frz; exact if_pos (.inl h)
theorem frz_tup {b : Addr} {xs : List V} (h : H b = some (.tup xs)) : frz S H A b = some (.tup xs) := by unfold frz; exact (if_pos (.inr ⟨xs, h⟩)).trans h
theorem frz_out {b : Addr} (h : b ∉ A) (ht : ∀ xs, H b ≠ some (.tup xs)) : frz S H A b = S b := by
  unfold frz; exact if_neg (fun z => by rcases z with z | ⟨xs, z⟩; exact h z; exact ht xs z)
theorem frz_same (sh : Same S H) : Same S (frz S H A) := fun b o e => by
  by_cases h : b ∈ A
  · rw [frz_in h]; exact sh b o e
  · by_cases ht : ∃ xs, H b = some (.tup xs)
    · obtain ⟨xs, ht⟩ := ht
      rw [frz_tup ht, ← ht]; exact sh b o e
    · rw [frz_out h fun xs z => ht ⟨xs, z⟩]; exact e
theorem frz_sub (sh : Same S H) : Same (frz S H A) H := fun b o e => by
  by_cases h : b ∈ A
  · rw [frz_in h] at e; exact e
  · by_cases ht : ∃ xs, H b = some (.tup xs)
    · obtain ⟨xs, ht⟩ := ht
      rw [frz_tup ht] at e; rw [ht]; exact e
    · rw [frz_out h fun xs z => ht ⟨xs, z⟩] at e; exact sh b o e
theorem frz_nw {b : Addr} {o : HO} (e : frz S H A b = some o) : S b = some o ∨ b ∈ A ∨ ∃ xs, H b = some (.tup xs) := by
  by_cases h : b ∈ A
  · exact .inr (.inl h)
  · by_cases ht : ∃ xs, H b = some (.tup xs)
    · exact .inr (.inr ht)
    · rw [frz_out h fun xs z => ht ⟨xs, z⟩] at e; exact .inl e
end
/-- the class that the text calls so -/
def clsOf (K : PySem.W.Frag) (x : Str) : Option Addr := match PySem.W.nsIn K mainGlobals x with
  | some (some (.ref C)) => some C
  | _ => Option.none
/-- at a: an exception of the class at C -/
def exHO (a C : Addr) (d : Option Addr) : HO := .ext fun h => ∃ o vs, h.get? a = some o ∧ o.cls = .ref C ∧ o.dict = d ∧ o.data = .fields vs
/-- its fields -/
def FsOk (S : Hp) (d : Option Addr) (fs : List (Str × D)) : Prop := (fs = [] ∧ d = none) ∨ (fs ≠ [] ∧ ∃ dd vfs, d = some dd ∧ S dd = some (.xd vfs) ∧ vfs.map (fun p => (p.1, vD p.2)) = fs.map fun p => (p.1, some p.2))
theorem FsOk.mono {S S' : Hp} {d : Option Addr} {fs : List (Str × D)} (h : FsOk S d fs) (ss : Same S S') : FsOk S' d fs := by
  rcases h with h | ⟨h1, dd, vfs, h2, h3, h4⟩
  · exact .inl h
  · exact .inr ⟨h1, dd, vfs, h2, ss _ _ h3, h4⟩
variable [kf : KF]
mutual
inductive OOk (S H : Hp) : V → OT → List Addr → Prop
  | no {v : V} : OOk S H v .no []
  | d {v : V} {x : D} : Rp S v x → OOk S H v (.d x) []
  | tup {a : Addr} {vs : List V} {ts : List OT} {B : List Addr} : H a = some (.tup vs) → OAll S H vs ts B → OOk S H (.ref a) (.nd .tup ts) B
  | nd {a : Addr} {k : Kd} {vs : List V} {ts : List OT} {B : List Addr} : k.isTup = false → k.fits ts.length → S a = none → H a = some (shape k vs) → OAll S H vs ts B → OOk S H (.ref a) (.nd k ts) (a :: B)
  | fl {a : Addr} {vs : List V} {ts : List OT} {B : List Addr} : S a = some (.lst vs) → OAll S H vs ts B → OOk S H (.ref a) (.fl ts) B
  | ex {a C : Addr} {d : Option Addr} {x : Xc} : clsOf kf.K x.cls = some C → S a = some (exHO a C d) → FsOk S d x.fs → OOk S H (.ref a) (.ex x) []
  | si {a : Addr} {ms : List Int} : S a = none → H a = some (SetO kf.w a (fun j => decide (j ∈ ms)) ms.length) → OOk S H (.ref a) (.si ms) [a]
inductive OAll (S H : Hp) : List V → List OT → List Addr → Prop
  | nil : OAll S H [] [] []
  | cons {v : V} {vs : List V} {t : OT} {ts : List OT} {A B : List Addr} : OOk S H v t A → OAll S H vs ts B → OAll S H (v :: vs) (t :: ts) (A ++ B)
end
section
variable {S H S' H' S0 H0 S1 H1 : Hp}
theorem OAll.len {vs : List V} : ∀ {ts : List OT} {A : List Addr}, OAll S H vs ts A → vs.length = ts.length := by
  intro ts
  induction ts generalizing vs with
  | nil => intro A h; cases h; rfl
  | cons t ts ih => intro A h; cases h with | cons _ h => rw [List.length_cons, List.length_cons, ih h]
mutual
theorem ook_keep (ss : Same S S') (tp : ∀ b xs, H b = some (.tup xs) → H' b = some (.tup xs)) : ∀ (t : OT) (v : V) (A : List Addr), OOk S H v t A → (∀ a ∈ A, S' a = none ∧ H' a = H a) → OOk S' H' v t A
  | .no, _, _, h, _ => by cases h; exact .no
  | .d x, _, _, h, _ => by cases h with | d h => exact .d (dp_mono ss _ _ h)
  | .nd k ts, _, _, h, hk => by
    cases h with
    | tup h1 h2 => exact .tup (tp _ _ h1) (oall_keep ss tp ts _ _ h2 hk)
    | nd h0 h1 h2 h3 h4 =>
      obtain ⟨e1, e2⟩ := hk _ List.mem_cons_self
      exact .nd h0 h1 e1 (e2.trans h3) (oall_keep ss tp ts _ _ h4 fun a ha => hk a (List.mem_cons_of_mem _ ha))
  | .fl ts, _, _, h, hk => by cases h with | fl h1 h2 => exact .fl (ss _ _ h1) (oall_keep ss tp ts _ _ h2 hk)
  | .ex x, _, _, h, _ => by cases h with | ex h1 h2 h3 => exact .ex h1 (ss _ _ h2) (h3.mono ss)
  | .si ms, _, _, h, hk => by
    cases h with
    | si h1 h2 =>
      obtain ⟨e1, e2⟩ := hk _ List.mem_cons_self
      exact .si e1 (e2.trans h2)
theorem oall_keep (ss : Same S S') (tp : ∀ b xs, H b = some (.tup xs) → H' b = some (.tup xs)) : ∀ (ts : List OT) (vs : List V) (A : List Addr), OAll S H vs ts A → (∀ a ∈ A, S' a = none ∧ H' a = H a) → OAll S' H' vs ts A
  | [], _, _, h, _ => by cases h; exact .nil
  | t :: ts, _, _, h, hk => by
    cases h with
    | cons h1 h2 => exact .cons (ook_keep ss tp t _ _ h1 fun a ha => hk a (List.mem_append_left _ ha)) (oall_keep ss tp ts _ _ h2 fun a ha => hk a (List.mem_append_right _ ha))
end
mutual
theorem ook_at : ∀ (t : OT) (v : V) (A : List Addr), OOk S H v t A → ∀ a ∈ A, S a = none ∧ ∃ u, H a = some u ∧ ∀ xs, u ≠ .tup xs
  | .no, _, _, h => by cases h; intro a ha; cases ha
  | .d x, _, _, h => by cases h with | d h => intro a ha; cases ha
  | .nd k ts, _, _, h => by
    cases h with
    | tup h1 h2 => exact oall_at ts _ _ h2
    | nd h0 h1 h2 h3 h4 =>
      intro a ha
      rcases List.mem_cons.mp ha with rfl | ha
      · exact ⟨h2, _, h3, shape_tup h0⟩
      · exact oall_at ts _ _ h4 a ha
  | .fl ts, _, _, h => by cases h with | fl h1 h2 => exact oall_at ts _ _ h2
  | .ex x, _, _, h => by cases h with | ex _ _ _ => intro a ha; cases ha
  | .si ms, _, _, h => by
    cases h with
    | si h1 h2 =>
      intro a ha
      cases List.mem_singleton.mp ha
      exact ⟨h1, _, h2, fun xs e => by cases e⟩
theorem oall_at : ∀ (ts : List OT) (vs : List V) (A : List Addr), OAll S H vs ts A → ∀ a ∈ A, S a = none ∧ ∃ u, H a = some u ∧ ∀ xs, u ≠ .tup xs
  | [], _, _, h => by cases h; intro a ha; cases ha
  | t :: ts, _, _, h => by
    cases h with
    | cons h1 h2 =>
      intro a ha
      rcases List.mem_append.mp ha with ha | ha
      · exact ook_at t _ _ h1 a ha
      · exact oall_at ts _ _ h2 a ha
end
theorem vDf {v : V} {x : D} (f : flat x = true) (h : Rp S v x) : vD v = some x := by
  cases h with
  | non => rfl
  | bl b => rfl
  | int i => rfl
  | str x => rfl
  | lst _ _ => cases f
  | tup _ _ => cases f
  | dcT _ _ => cases f
  | dcK _ _ _ => cases f
theorem dct_flat {κ : Type} (f : κ → D) : ∀ {ks : List κ} {ts : List OT} {vs : List V} {A : List Addr} {xs : List D}, ks.length = ts.length → OAll S H vs ts A → flatDs ts = some xs → dctD f (ks.zip vs) = some ((ks.map f).zip xs)
  | [], [], _, _, xs, _, h, e => by cases h; simp [flatDs] at e; subst e; rfl
  | k :: ks, .d x :: ts, _, _, xs, hl, h, e => by
    cases h with
    | cons a b =>
      simp only [flatDs] at e
      split at e
      · rename_i hf
        simp only [Option.map_eq_some_iff] at e
        obtain ⟨ys, e, rfl⟩ := e
        cases a with
        | d a => simp [dctD, vDf hf a, dct_flat f (by simpa using hl) b e]
      · cases e
  | k :: ks, .no :: ts, _, _, xs, _, h, e => by simp [flatDs] at e
  | k :: ks, .nd _ _ :: ts, _, _, xs, _, h, e => by simp [flatDs] at e
  | k :: ks, .fl _ :: ts, _, _, xs, _, h, e => by simp [flatDs] at e
  | k :: ks, .ex _ :: ts, _, _, xs, _, h, e => by simp [flatDs] at e
mutual
/-- read as data -/
theorem ook_rp (sh : Same S H) : ∀ (t : OT) (v : V) (A : List Addr) (x : D), OOk S H v t A → t.toD = some x → Rp H v x
  | .no, _, _, _, h, e => by simp [OT.toD] at e
  | .d y, _, _, x, h, e => by
    cases h with
    | d h => simp only [OT.toD, Option.some.injEq] at e; subst e; exact dp_mono sh _ _ h
  | .nd k ts, _, _, x, h, e => by
    cases h with
    | tup h1 h2 =>
      simp only [OT.toD, Option.map_eq_some_iff] at e
      obtain ⟨xs, e, rfl⟩ := e
      exact .tup h1 (oall_rp sh ts _ _ xs h2 e)
    | nd h0 h1 h2 h3 h4 =>
      cases k with
      | lst =>
        simp only [OT.toD, Option.map_eq_some_iff] at e
        obtain ⟨xs, e, rfl⟩ := e
        exact .lst (SqL.of h3) (oall_rp sh ts _ _ xs h4 e)
      | tup => simp [Kd.isTup] at h0
      | dK ks =>
        simp only [OT.toD] at e
        split at e
        · rename_i hl
          simp only [Option.bind_eq_some_iff] at e
          obtain ⟨xs, e, e2⟩ := e
          split at e2
          · cases e2
          · rename_i ne
            cases e2
            exact .dcK h3 ne (dct_flat keyD hl h4 e)
        · cases e
      | dT ks =>
        simp only [OT.toD] at e
        split at e
        · rename_i hl
          simp only [Option.map_eq_some_iff] at e
          obtain ⟨xs, e, rfl⟩ := e
          exact .dcT h3 (dct_flat keyTD hl h4 e)
        · cases e
  | .fl ts, _, _, x, h, e => by
    cases h with
    | fl h1 h2 =>
      simp only [OT.toD, Option.map_eq_some_iff] at e
      obtain ⟨xs, e, rfl⟩ := e
      exact .lst (SqL.of (sh _ _ h1)) (oall_rp sh ts _ _ xs h2 e)
  | .ex x, _, _, _, h, e => by simp [OT.toD] at e
  | .si x, _, _, _, h, e => by simp [OT.toD] at e
theorem oall_rp (sh : Same S H) : ∀ (ts : List OT) (vs : List V) (A : List Addr) (xs : List D), OAll S H vs ts A → OT.toDs ts = some xs → RpAll H vs xs
  | [], _, _, _, h, e => by cases h; simp only [OT.toDs, Option.some.injEq] at e; subst e; exact .nil
  | t :: ts, _, _, xs, h, e => by
    cases h with
    | cons h1 h2 =>
      cases e1 : t.toD with
      | none => simp [OT.toDs, e1] at e
      | some y =>
        cases e2 : OT.toDs ts with
        | none => simp [OT.toDs, e1, e2] at e
        | some ys =>
          simp only [OT.toDs, e1, e2, Option.some.injEq] at e
          subst e
          exact .cons (ook_rp sh t _ _ y h1 e1) (oall_rp sh ts _ _ ys h2 e2)
end
mutual
/-- frozen -/
theorem ook_frz (sh : Same S H) {C : List Addr} : ∀ (t : OT) (v : V) (A : List Addr) (x : D), OOk S H v t A → (∀ a ∈ A, a ∈ C) → t.toD = some x → Rp (frz S H C) v x
  | .no, _, _, _, h, _, e => by simp [OT.toD] at e
  | .d y, _, _, x, h, _, e => by
    cases h with
    | d h => simp only [OT.toD, Option.some.injEq] at e; subst e; exact dp_mono (frz_same sh) _ _ h
  | .nd k ts, _, _, x, h, hc, e => by
    cases h with
    | tup h1 h2 =>
      simp only [OT.toD, Option.map_eq_some_iff] at e
      obtain ⟨xs, e, rfl⟩ := e
      exact .tup (frz_tup h1) (oall_frz sh ts _ _ xs h2 hc e)
    | nd h0 h1 h2 h3 h4 =>
      cases k with
      | lst =>
        simp only [OT.toD, Option.map_eq_some_iff] at e
        obtain ⟨xs, e, rfl⟩ := e
        exact .lst (SqL.of ((frz_in (hc _ List.mem_cons_self)).trans h3)) (oall_frz sh ts _ _ xs h4 (fun a ha => hc a (List.mem_cons_of_mem _ ha)) e)
      | tup => simp [Kd.isTup] at h0
      | dK ks =>
        simp only [OT.toD] at e
        split at e
        · rename_i hl
          simp only [Option.bind_eq_some_iff] at e
          obtain ⟨xs, e, e2⟩ := e
          split at e2
          · cases e2
          · rename_i ne
            cases e2
            exact .dcK ((frz_in (hc _ List.mem_cons_self)).trans h3) ne (dct_flat keyD hl h4 e)
        · cases e
      | dT ks =>
        simp only [OT.toD] at e
        split at e
        · rename_i hl
          simp only [Option.map_eq_some_iff] at e
          obtain ⟨xs, e, rfl⟩ := e
          exact .dcT ((frz_in (hc _ List.mem_cons_self)).trans h3) (dct_flat keyTD hl h4 e)
        · cases e
  | .fl ts, _, _, x, h, hc, e => by
    cases h with
    | fl h1 h2 =>
      simp only [OT.toD, Option.map_eq_some_iff] at e
      obtain ⟨xs, e, rfl⟩ := e
      exact .lst (SqL.of (frz_same sh _ _ h1)) (oall_frz sh ts _ _ xs h2 hc e)
  | .ex x, _, _, _, h, _, e => by simp [OT.toD] at e
  | .si x, _, _, _, h, _, e => by simp [OT.toD] at e
theorem oall_frz (sh : Same S H) {C : List Addr} : ∀ (ts : List OT) (vs : List V) (A : List Addr) (xs : List D), OAll S H vs ts A → (∀ a ∈ A, a ∈ C) → OT.toDs ts = some xs → RpAll (frz S H C) vs xs
  | [], _, _, _, h, _, e => by cases h; simp only [OT.toDs, Option.some.injEq] at e; subst e; exact .nil
  | t :: ts, _, _, xs, h, hc, e => by
    cases h with
    | cons h1 h2 =>
      cases e1 : t.toD with
      | none => simp [OT.toDs, e1] at e
      | some y =>
        cases e2 : OT.toDs ts with
        | none => simp [OT.toDs, e1, e2] at e
        | some ys =>
          simp only [OT.toDs, e1, e2, Option.some.injEq] at e
          subst e
          exact .cons (ook_frz sh t _ _ y h1 (fun a ha => hc a (List.mem_append_left _ ha)) e1) (oall_frz sh ts _ _ ys h2 (fun a ha => hc a (List.mem_append_right _ ha)) e2)
end
/-- no list within -/
def tfl : D → Bool
  | .none => true
  | .bool _ => true
  | .int _ => true
  | .str _ => true
  | .tuple xs => xs.attach.all fun ⟨x, _⟩ => tfl x
  | .list _ => false
  | .dict _ => false
theorem tfl_tup {xs : List D} (h : tfl (.tuple xs) = true) : ∀ x ∈ xs, tfl x = true := by
  unfold tfl at h
  rw [List.all_eq_true] at h
  exact fun x hx => h ⟨x, hx⟩ (List.mem_attach _ _)
mutual
theorem rp_tfl (C : List Addr) : ∀ (x : D) (v : V), tfl x = true → Rp H v x → Rp (frz S H C) v x
  | .none, _, _, h => by cases h; exact .non
  | .bool b, _, _, h => by cases h; exact .bl b
  | .int i, _, _, h => by cases h; exact .int i
  | .str x, _, _, h => by cases h; exact .str x
  | .list ds, _, f, _ => by simp [tfl] at f
  | .tuple ds, _, f, h => by
    cases h with
    | tup hs ha => exact .tup (frz_tup hs) (rpa_tfl C ds _ (tfl_tup f) ha)
  | .dict _, _, f, _ => by simp [tfl] at f
theorem rpa_tfl (C : List Addr) : ∀ (xs : List D) (vs : List V), (∀ x ∈ xs, tfl x = true) → RpAll H vs xs → RpAll (frz S H C) vs xs
  | [], _, _, h => by cases h; exact .nil
  | x :: xs, _, f, h => by
    cases h with
    | cons a b => exact .cons (rp_tfl C x _ (f x List.mem_cons_self) a) (rpa_tfl C xs _ (fun y hy => f y (List.mem_cons_of_mem _ hy)) b)
end
theorem xt_frz (sh : Same S H) : Xt S H (frz S H []) H :=
  ⟨Same.refl H, frz_same sh, frz_sub sh, fun b o e => by
    rcases frz_nw e with z | z | ⟨xs, z⟩
    · exact .inl z
    · cases z
    · exact .inr fun u hu => ⟨xs, by rw [z] at hu; exact (Option.some.inj hu).symm⟩⟩
theorem oall_of_rp {vs : List V} {ds : List D} (h : RpAll S vs ds) : OAll S H vs (ds.map .d) [] := by
  induction ds generalizing vs with
  | nil => cases h; exact .nil
  | cons x ds ih => cases h with | cons a t => exact (OAll.cons (.d a) (ih t) : OAll S H _ _ ([] ++ []))
/-! ### slots -/
inductive OSl (S H : Hp) : Option V → OT → List Addr → Prop
  | no {v : Option V} : OSl S H v .no []
  | is {v : V} {t : OT} {A : List Addr} : OOk S H v t A → OSl S H (some v) t A
theorem OSl.keep {v : Option V} {t : OT} {A : List Addr} (h : OSl S H v t A) (ss : Same S S') (tp : ∀ b xs, H b = some (.tup xs) → H' b = some (.tup xs)) (k : ∀ a ∈ A, S' a = none ∧ H' a = H a) : OSl S' H' v t A := by
  cases h with
  | no => exact .no
  | is h => exact .is (ook_keep ss tp _ _ _ h k)
theorem OSl.at {v : Option V} {t : OT} {A : List Addr} (h : OSl S H v t A) : ∀ a ∈ A, S a = none ∧ ∃ u, H a = some u ∧ ∀ xs, u ≠ .tup xs := by
  cases h with
  | no => intro a ha; cases ha
  | is h => exact ook_at _ _ _ h
inductive EOk (S H : Hp) : List (Option V) → List OT → List Addr → Prop
  | nil : EOk S H [] [] []
  | cons {v : Option V} {s : OT} {A : List Addr} {σ : List (Option V)} {ρ : List OT} {B : List Addr} : OSl S H v s A → EOk S H σ ρ B → EOk S H (v :: σ) (s :: ρ) (A ++ B)
theorem EOk.keep {σ : List (Option V)} {ρ : List OT} {A : List Addr} (h : EOk S H σ ρ A) (ss : Same S S') (tp : ∀ b xs, H b = some (.tup xs) → H' b = some (.tup xs)) (k : ∀ a ∈ A, S' a = none ∧ H' a = H a) : EOk S' H' σ ρ A := by
  induction h with
  | nil => exact .nil
  | cons h _ ih => exact .cons (h.keep ss tp fun a ha => k a (List.mem_append_left _ ha)) (ih fun a ha => k a (List.mem_append_right _ ha))
theorem EOk.at {σ : List (Option V)} {ρ : List OT} {A : List Addr} (h : EOk S H σ ρ A) : ∀ a ∈ A, S a = none ∧ ∃ u, H a = some u ∧ ∀ xs, u ≠ .tup xs := by
  induction h with
  | nil => intro a ha; cases ha
  | cons h _ ih =>
    intro a ha
    rcases List.mem_append.mp ha with ha | ha
    · exact h.at a ha
    · exact ih a ha
theorem EOk.ext {σ : List (Option V)} {ρ : List OT} {A : List Addr} (h : EOk S H σ ρ A) (x : Xt S H S' H') : EOk S' H' σ ρ A :=
  h.keep x.ss (fun b xs e => x.hh b _ e) fun a ha => by
    obtain ⟨h1, u, h2, h3⟩ := h.at a ha
    exact ⟨x.out h1 h2 h3, by rw [h2]; exact x.hh a u h2⟩
theorem EOk.len {σ : List (Option V)} {ρ : List OT} {A : List Addr} (h : EOk S H σ ρ A) : σ.length = ρ.length := by
  induction h with
  | nil => rfl
  | cons _ _ ih => rw [List.length_cons, List.length_cons, ih]
/-- one slot taken out of the rest; with anything in its place the rest stays -/
theorem EOk.pick {σ : List (Option V)} {ρ : List OT} {B : List Addr} (h : EOk S H σ ρ B) (nd : B.Nodup) : ∀ {i : Nat} {s : OT}, ρ[i]? = some s → ∃ v A, σ[i]? = some v ∧ OSl S H v s A ∧ A.Nodup ∧ (∀ a ∈ A, a ∈ B) ∧
    ∀ {S' H' : Hp} {v' : Option V} {s' : OT} {A' : List Addr}, Same S S' → (∀ b xs, H b = some (.tup xs) → H' b = some (.tup xs)) → (∀ a ∈ B, a ∉ A → S' a = none ∧ H' a = H a) → OSl S' H' v' s' A' → A'.Nodup → (∀ a ∈ A', a ∈ A ∨ a ∉ B) →
      ∃ B', EOk S' H' (σ.set i v') (ρ.set i s') B' ∧ B'.Nodup ∧ ∀ a ∈ B', a ∈ A' ∨ (a ∈ B ∧ a ∉ A) := by
  induction h with
  | nil => intro i s e; simp at e
  | @cons v0 s0 A0 σ ρ B h0 ht ih =>
    have nd1 : A0.Nodup := (List.nodup_append.mp nd).1
    have nd2 : B.Nodup := (List.nodup_append.mp nd).2.1
    have dj : ∀ a ∈ A0, a ∉ B := fun a ha hb => (List.nodup_append.mp nd).2.2 a ha a hb rfl
    intro i s e
    cases i with
    | zero =>
      have e' : s0 = s := by simpa using e
      subst e'
      refine ⟨v0, A0, rfl, h0, nd1, fun a ha => List.mem_append_left _ ha, fun {S' H' v' s' A'} ss tp k h' n' m' => ?_⟩
      refine ⟨A' ++ B, .cons h' (ht.keep ss tp fun a ha => k a (List.mem_append_right _ ha) fun z => dj a z ha), ?_, fun a ha => ?_⟩
      · refine List.nodup_append.mpr ⟨n', nd2, fun a ha b hb e => ?_⟩
        subst e
        rcases m' a ha with z | z
        · exact dj a z hb
        · exact z (List.mem_append_right _ hb)
      · rcases List.mem_append.mp ha with z | z
        · exact .inl z
        · exact .inr ⟨List.mem_append_right _ z, fun y => dj a y z⟩
    | succ i =>
      obtain ⟨v, A, e1, e2, e3, e4, e5⟩ := ih nd2 (i := i) (s := s) (by simpa using e)
      refine ⟨v, A, by simpa using e1, e2, e3, fun a ha => List.mem_append_right _ (e4 a ha), fun {S' H' v' s' A'} ss tp k h' n' m' => ?_⟩
      obtain ⟨B', q1, q2, q3⟩ := e5 (v' := v') ss tp (fun a ha na => k a (List.mem_append_right _ ha) na) h' n' (fun a ha => by
        rcases m' a ha with z | z
        · exact .inl z
        · exact .inr fun hb => z (List.mem_append_right _ hb))
      refine ⟨A0 ++ B', .cons (h0.keep ss tp fun a ha => k a (List.mem_append_left _ ha) fun z => dj a ha (e4 a z)) q1, ?_, fun a ha => ?_⟩
      · refine List.nodup_append.mpr ⟨nd1, q2, fun a ha b hb e => ?_⟩
        subst e
        rcases q3 a hb with z | z
        · rcases m' a z with y | y
          · exact dj a ha (e4 a y)
          · exact y (List.mem_append_left _ ha)
        · exact dj a ha z.1
      · rcases List.mem_append.mp ha with z | z
        · exact .inr ⟨List.mem_append_left _ z, fun y => dj a z (e4 a y)⟩
        · rcases q3 a z with y | y
          · exact .inl y
          · exact .inr ⟨List.mem_append_right _ y.1, y.2⟩
theorem set_same {α : Type} {xs : List α} {i : Nat} {v : α} (h : xs[i]? = some v) : xs.set i v = xs := set_self h
structure Ok (S0 H0 : Hp) (A0 : List Addr) (S H : Hp) (σ : List (Option V)) (ρ : List OT) : Prop where
  xt : Xa A0 S0 H0 S H
  env : ∃ A, EOk S H σ ρ A ∧ A.Nodup ∧ ∀ a ∈ A, a ∈ A0 ∨ H0 a = none
variable {A0 : List Addr} {σ : List (Option V)} {ρ : List OT}
theorem Ok.sh (o : Ok S0 H0 A0 S H σ ρ) : Same S H := o.xt.sh
theorem Ok.ext (o : Ok S0 H0 A0 S H σ ρ) (x : Xt S H S' H') : Ok S0 H0 A0 S' H' σ ρ := by
  obtain ⟨A, h1, h2, h3⟩ := o.env
  exact ⟨o.xt.trans (.of x), A, h1.ext x, h2, h3⟩
theorem Ok.len (o : Ok S0 H0 A0 S H σ ρ) : σ.length = ρ.length := let ⟨_, h, _⟩ := o.env; h.len
/-- something new is held on top -/
theorem Ok.push (o : Ok S0 H0 A0 S H σ ρ) (x : Xt S H S' H') {v : V} {t : OT} {A : List Addr} (h : OOk S' H' v t A) (nd : A.Nodup) (fr : ∀ a ∈ A, H a = none) : Ok S0 H0 A0 S' H' (some v :: σ) (t :: ρ) := by
  obtain ⟨B, h1, h2, h3⟩ := o.env
  refine ⟨o.xt.trans (.of x), A ++ B, .cons (.is h) (h1.ext x), List.nodup_append.mpr ⟨nd, h2, fun a ha b hb e => ?_⟩, fun a ha => ?_⟩
  · subst e
    obtain ⟨_, u, hu, _⟩ := h1.at a hb
    rw [fr a ha] at hu; cases hu
  · rcases List.mem_append.mp ha with z | z
    · exact .inr (o.xt.dm a (fr a z))
    · exact h3 a z
theorem Ok.pushD (o : Ok S0 H0 A0 S H σ ρ) {v : V} {x : D} (h : Rp S v x) : Ok S0 H0 A0 S H (some v :: σ) (.d x :: ρ) := o.push (.refl o.sh) (.d h) List.nodup_nil (fun a ha => by cases ha)
/-- what is on top is let go -/
theorem Ok.drop {v : Option V} {t : OT} (o : Ok S0 H0 A0 S H (v :: σ) (t :: ρ)) : Ok S0 H0 A0 S H σ ρ := by
  obtain ⟨A, h1, h2, h3⟩ := o.env
  cases h1 with
  | cons h ht => exact ⟨o.xt, _, ht, (List.nodup_append.mp h2).2.1, fun a ha => h3 a (List.mem_append_right _ ha)⟩
/-- the top put into slot i of what is below it -/
theorem Ok.store {v : Option V} {t : OT} (o : Ok S0 H0 A0 S H (v :: σ) (t :: ρ)) (i : Nat) : Ok S0 H0 A0 S H (σ.set i v) (ρ.set i t) := by
  obtain ⟨A, h1, h2, h3⟩ := o.env
  cases h1 with
  | @cons _ _ A1 _ _ B h ht =>
    have nd := List.nodup_append.mp h2
    by_cases hi : i < ρ.length
    · obtain ⟨v0, C, e1, e2, e3, e4, e5⟩ := ht.pick nd.2.1 (i := i) (s := ρ[i]) (by simp [hi])
      obtain ⟨B', q1, q2, q3⟩ := e5 (v' := v) (Same.refl S) (fun _ _ z => z) (fun a ha _ => ⟨(ht.at a ha).1, rfl⟩) h nd.1 (fun a ha => .inr fun hb => nd.2.2 a ha a hb rfl)
      refine ⟨o.xt, B', q1, q2, fun a ha => ?_⟩
      rcases q3 a ha with z | z
      · exact h3 a (List.mem_append_left _ z)
      · exact h3 a (List.mem_append_right _ z.1)
    · have l := ht.len
      rw [List.set_eq_of_length_le (by omega), List.set_eq_of_length_le (by omega)]
      exact o.drop
/-- a slot's reading -/
theorem Ok.get (o : Ok S0 H0 A0 S H σ ρ) {i : Nat} {t : OT} (h : ρ[i]? = some t) : ∃ v A, σ[i]? = some v ∧ OSl S H v t A := by
  obtain ⟨A, he, hn, _⟩ := o.env
  obtain ⟨v, A', e1, e2, _⟩ := he.pick hn h
  exact ⟨v, A', e1, e2⟩
/-- slot i frozen -/
theorem Ok.freeze (o : Ok S0 H0 A0 S H σ ρ) {i : Nat} {t : OT} {x : D} (h : ρ[i]? = some t) (e : t.toD = some x) : ∃ S', Same S S' ∧ Ok S0 H0 A0 S' H σ (ρ.set i (.d x)) := by
  obtain ⟨B, he, nd, fr⟩ := o.env
  obtain ⟨v, A, e1, e2, e3, e4, e5⟩ := he.pick nd h
  cases e2 with
  | no => simp [OT.toD] at e
  | @is v _ _ h2 =>
    obtain ⟨B', q1, q2, q3⟩ := e5 (S' := frz S H A) (H' := H) (v' := some v) (s' := .d x) (A' := []) (frz_same o.sh) (fun _ _ z => z) (fun a ha na => ⟨by
      obtain ⟨z1, u, z2, z3⟩ := he.at a ha
      rw [frz_out na fun xs z => by rw [z2] at z; exact z3 xs (Option.some.inj z)]
      exact z1, rfl⟩) (.is (.d (ook_frz o.sh _ _ _ _ h2 (fun _ z => z) e))) List.nodup_nil (fun a ha => by cases ha)
    rw [set_same e1] at q1
    refine ⟨frz S H A, frz_same o.sh, ⟨o.xt.hh, o.xt.dm, o.xt.tp, o.xt.ss.trans (frz_same o.sh), frz_sub o.sh, fun b u eb => ?_⟩, B', q1, q2, fun a ha => ?_⟩
    · rcases frz_nw eb with z | z | ⟨xs, z⟩
      · exact o.xt.nw b u z
      · rcases fr b (e4 b z) with y | y
        · exact .inr (.inl y)
        · exact .inr (.inr fun w hw => by rw [y] at hw; cases hw)
      · by_cases hb : b ∈ A0
        · exact .inr (.inl hb)
        · exact .inr (.inr fun w hw => by
            have := o.xt.hh b w hb hw
            rw [z] at this
            exact ⟨xs, (Option.some.inj this).symm⟩)
    · rcases q3 a ha with z | z
      · cases z
      · exact fr a z.1
end
end MR
namespace MR
open PySem L2 PL
abbrev Env := List OT
variable [kf : KF]
/-! ### judgements: te run at the slots ρ -/
/-- a result of its own, held on top; the slots are ρ' then -/
def EvY (te : TE) (ρ : Env) (r : OT) (ρ' : Env) : Prop := ∀ (S0 H0 : Hp) (A0 : List Addr) (S H : Hp) (τσ : List (Option V)) (τρ : List OT) (σ : St) (Q : VK), τσ.length = τρ.length → Ok S0 H0 A0 S H (τσ ++ σ) (τρ ++ ρ) →
  (∀ v S' H', Same S S' → Ok S0 H0 A0 S' H' (some v :: (τσ ++ σ)) (r :: (τρ ++ ρ')) → Q v H') → te σ H Q
/-- a frozen result -/
def EvD (te : TE) (ρ : Env) (x : D) (ρ' : Env) : Prop := ∀ (S0 H0 : Hp) (A0 : List Addr) (S H : Hp) (τσ : List (Option V)) (τρ : List OT) (σ : St) (Q : VK), τσ.length = τρ.length → Ok S0 H0 A0 S H (τσ ++ σ) (τρ ++ ρ) →
  (∀ v S' H', Same S S' → Ok S0 H0 A0 S' H' (τσ ++ σ) (τρ ++ ρ') → Rp S' v x → Q v H') → te σ H Q
/-- read: nothing changes -/
def RdE (te : TE) (ρ : Env) (x : D) : Prop := ∀ (S0 H0 : Hp) (A0 : List Addr) (S H : Hp) (τσ : List (Option V)) (τρ : List OT) (σ : St) (Q : VK), τσ.length = τρ.length → Ok S0 H0 A0 S H (τσ ++ σ) (τρ ++ ρ) →
  (∀ v S' H', Xt S H S' H' → Rp H' v x → Q v H') → te σ H Q
def RdB (tt : TT) (ρ : Env) (b : Bool) : Prop := ∀ (S0 H0 : Hp) (A0 : List Addr) (S H : Hp) (τσ : List (Option V)) (τρ : List OT) (σ : St) (Q : Bool → Hp → Prop), τσ.length = τρ.length → Ok S0 H0 A0 S H (τσ ++ σ) (τρ ++ ρ) →
  (∀ S' H', Xt S H S' H' → Q b H') → tt σ H Q
def EvT (tt : TT) (ρ : Env) (b : Bool) (ρ' : Env) : Prop := ∀ (S0 H0 : Hp) (A0 : List Addr) (S H : Hp) (τσ : List (Option V)) (τρ : List OT) (σ : St) (Q : Bool → Hp → Prop), τσ.length = τρ.length → Ok S0 H0 A0 S H (τσ ++ σ) (τρ ++ ρ) →
  (∀ S' H', Same S S' → Ok S0 H0 A0 S' H' (τσ ++ σ) (τρ ++ ρ') → Q b H') → tt σ H Q
/-- arguments, frozen -/
def EvL (ta : TA) (ρ : Env) (xs : List D) (ρ' : Env) : Prop := ∀ (S0 H0 : Hp) (A0 : List Addr) (S H : Hp) (τσ : List (Option V)) (τρ : List OT) (σ : St) (Q : List V → Hp → Prop), τσ.length = τρ.length → Ok S0 H0 A0 S H (τσ ++ σ) (τρ ++ ρ) →
  (∀ vs S' H', Same S S' → Ok S0 H0 A0 S' H' (τσ ++ σ) (τρ ++ ρ') → RpAll S' vs xs → Q vs H') → ta σ H Q
def RdL (ta : TA) (ρ : Env) (xs : List D) : Prop := ∀ (S0 H0 : Hp) (A0 : List Addr) (S H : Hp) (τσ : List (Option V)) (τρ : List OT) (σ : St) (Q : List V → Hp → Prop), τσ.length = τρ.length → Ok S0 H0 A0 S H (τσ ++ σ) (τρ ++ ρ) →
  (∀ vs S' H', Xt S H S' H' → RpAll H' vs xs → Q vs H') → ta σ H Q
/-- items of one's own, the last on top -/
def EvYs (ta : TA) (ρ : Env) (rs : List OT) (ρ' : Env) : Prop := ∀ (S0 H0 : Hp) (A0 : List Addr) (S H : Hp) (τσ : List (Option V)) (τρ : List OT) (σ : St) (Q : List V → Hp → Prop), τσ.length = τρ.length → Ok S0 H0 A0 S H (τσ ++ σ) (τρ ++ ρ) →
  (∀ vs S' H', Same S S' → vs.length = rs.length → Ok S0 H0 A0 S' H' ((vs.map some).reverse ++ (τσ ++ σ)) (rs.reverse ++ (τρ ++ ρ')) → Q vs H') → ta σ H Q
section
variable {ρ ρ1 ρ2 ρ' : Env} {ta tb tc te : TE} {t u : TT} {d e x y : D} {r s : OT} {S H S' H' S0 H0 : Hp} {A0 : List Addr} {σ τσ : St} {τρ : List OT}
theorem Ok.same1 {v : V} (o : Ok S0 H0 A0 S H (some v :: σ) (.d x :: ρ)) : Rp S v x := by
  obtain ⟨A, h1, _, _⟩ := o.env
  cases h1 with
  | cons h _ => cases h with | is h => cases h with | d h => exact h
/-- frozen on top -/
theorem evy_of (h : EvD te ρ x ρ') : EvY te ρ (.d x) ρ' := fun S0 H0 A0 S H τσ τρ σ Q l o q => h S0 H0 A0 S H τσ τρ σ Q l o fun v S' H' ss o' hr => q v S' H' ss (o'.pushD hr)
theorem evd_of (h : EvY te ρ r ρ') (e : r.toD = some x) : EvD te ρ x ρ' := fun S0 H0 A0 S H τσ τρ σ Q l o q => h S0 H0 A0 S H τσ τρ σ Q l o fun v S' H' ss o' => by
  obtain ⟨S2, s2, o2⟩ := o'.freeze (i := 0) rfl e
  exact q v S2 H' (ss.trans s2) o2.drop o2.same1
theorem evd_flat (h : RdE te ρ x) (f : tfl x = true) : EvD te ρ x ρ := fun S0 H0 A0 S H τσ τρ σ Q l o q => h S0 H0 A0 S H τσ τρ σ Q l o fun v S' H' xt hr =>
  q v _ H' (xt.trans (xt_frz xt.sh)).ss (o.ext (xt.trans (xt_frz xt.sh))) (rp_tfl [] x v f hr)
theorem get_app {α β : Type} {xs ys : List α} {as : List β} {i : Nat} (l : xs.length = as.length) : (xs ++ ys)[as.length + i]? = ys[i]? := by
  rw [List.getElem?_append_right (by omega)]; congr 1; omega
theorem set_app {α β : Type} {xs ys : List α} {as : List β} {i : Nat} {v : α} (l : xs.length = as.length) : (xs ++ ys).set (as.length + i) v = xs ++ ys.set i v := by
  rw [List.set_append_right _ _ (by omega)]; congr 2; omega
/-- slot i as it stands -/
theorem Ok.slot (l : τσ.length = τρ.length) (o : Ok S0 H0 A0 S H (τσ ++ σ) (τρ ++ ρ)) {i : Nat} (h : ρ[i]? = some r) (hn : r ≠ .no) : ∃ v A, σ[i]? = some (some v) ∧ OOk S H v r A := by
  obtain ⟨v, A, e1, e2⟩ := o.get (i := τρ.length + i) (t := r) (by rw [get_app rfl]; exact h)
  rw [get_app l] at e1
  cases e2 with
  | no => exact (hn rfl).elim
  | is e2 => exact ⟨_, A, e1, e2⟩
theorem toD_no (e : r.toD = some x) : r ≠ .no := by rintro rfl; simp [OT.toD] at e
theorem rd_var {i : Nat} (h : ρ[i]? = some r) (e : r.toD = some x) : RdE (tVar i) ρ x := fun S0 H0 A0 S H τσ τρ σ Q l o q => by
  obtain ⟨v, A, e1, e2⟩ := o.slot l h (toD_no e)
  exact ⟨v, e1, q v S H (.refl o.sh) (ook_rp o.sh _ _ _ _ e2 e)⟩
/-- a slot handed on: frozen -/
theorem evd_var {i : Nat} (h : ρ[i]? = some r) (e : r.toD = some x) : EvD (tVar i) ρ x (ρ.set i (.d x)) := fun S0 H0 A0 S H τσ τρ σ Q l o q => by
  obtain ⟨S', ss, o'⟩ := o.freeze (i := τρ.length + i) (t := r) (by rw [get_app rfl]; exact h) e
  rw [set_app rfl] at o'
  have hi : i < ρ.length := (List.getElem?_eq_some_iff.mp h).1
  obtain ⟨v, A, e1, e2⟩ := o'.slot l (i := i) (r := .d x) (by rw [List.getElem?_set_self hi]) (by intro z; cases z)
  cases e2 with
  | d e2 => exact ⟨v, e1, q v S' H ss o' e2⟩
theorem evd_varD {i : Nat} (h : ρ[i]? = some (.d x)) : EvD (tVar i) ρ x ρ := fun S0 H0 A0 S H τσ τρ σ Q l o q => by
  obtain ⟨v, A, e1, e2⟩ := o.slot l (i := i) (r := .d x) h (by intro z; cases z)
  cases e2 with
  | d e2 => exact ⟨v, e1, q v S H (Same.refl S) o e2⟩
/-- a slot moved out -/
theorem Ok.move (o : Ok S0 H0 A0 S H σ ρ) {i : Nat} {v : V} (h : ρ[i]? = some r) (hv : σ[i]? = some (some v)) (hn : r ≠ .no) : Ok S0 H0 A0 S H (some v :: σ) (r :: ρ.set i .no) := by
  obtain ⟨B, he, nd, fr⟩ := o.env
  obtain ⟨v', A, e1, e2, e3, e4, e5⟩ := he.pick nd h
  rw [hv] at e1
  cases e1
  have key : ∀ {σ : St} {ρ : Env} {B : List Addr}, EOk S H σ ρ B → B.Nodup → ∀ {i : Nat}, ρ[i]? = some r → σ[i]? = some (some v) → ∃ A C, OOk S H v r A ∧ EOk S H σ (ρ.set i .no) C ∧ (A ++ C).Nodup ∧ ∀ a ∈ A ++ C, a ∈ B := by
    intro σ ρ B h
    induction h with
    | nil => intro _ i e; simp at e
    | @cons v0 s0 A0 σ ρ B h0 ht ih =>
      intro nd i e e'
      have nd' := List.nodup_append.mp nd
      cases i with
      | zero =>
        have e : s0 = r := by simpa using e
        have e' : v0 = some v := by simpa using e'
        subst e e'
        cases h0 with
        | no => exact (hn rfl).elim
        | is h0 => exact ⟨A0, [] ++ B, h0, .cons .no ht, nd, fun a ha => ha⟩
      | succ i =>
        obtain ⟨A, C, q1, q2, q3, q4⟩ := ih nd'.2.1 (i := i) (by simpa using e) (by simpa using e')
        refine ⟨A, A0 ++ C, q1, .cons h0 q2, ?_, ?_⟩
        · have q3' := List.nodup_append.mp q3
          refine List.nodup_append.mpr ⟨q3'.1, List.nodup_append.mpr ⟨nd'.1, q3'.2.1, fun a ha b hb => nd'.2.2 a ha b (q4 b (List.mem_append_right _ hb))⟩, fun a ha b hb z => ?_⟩
          subst z
          rcases List.mem_append.mp hb with hb | hb
          · exact nd'.2.2 a hb a (q4 a (List.mem_append_left _ ha)) rfl
          · exact q3'.2.2 a ha a hb rfl
        · intro a ha
          rcases List.mem_append.mp ha with z | z
          · exact List.mem_append_right _ (q4 a (List.mem_append_left _ z))
          · rcases List.mem_append.mp z with z | z
            · exact List.mem_append_left _ z
            · exact List.mem_append_right _ (q4 a (List.mem_append_right _ z))
  obtain ⟨A, C, q1, q2, q3, q4⟩ := key he nd h hv
  exact ⟨o.xt, A ++ C, .cons (.is q1) q2, q3, fun a ha => fr a (q4 a ha)⟩
theorem evy_mov {i : Nat} (h : ρ[i]? = some r) (hn : r ≠ .no) : EvY (tVar i) ρ r (ρ.set i .no) := fun S0 H0 A0 S H τσ τρ σ Q l o q => by
  obtain ⟨v, A, e1, e2⟩ := o.slot l h hn
  have o' := o.move (i := τρ.length + i) (r := r) (v := v) (by rw [get_app rfl]; exact h) (by rw [get_app l]; exact e1) hn
  rw [set_app rfl] at o'
  exact ⟨v, e1, q v S H (Same.refl S) o'⟩
theorem oall_rpS : ∀ (ts : List D) (vs : List V) (A : List Addr), OAll S H vs (ts.map .d) A → RpAll S vs ts
  | [], _, _, h => by cases h; exact .nil
  | t :: ts, _, _, h => by cases h with | cons a b => cases a with | d a => exact .cons a (oall_rpS ts _ _ b)
theorem rd_c {v : V} (h : vD v = some x) : RdE (tC v) ρ x := fun S0 H0 A0 S H τσ τρ σ Q l o q => q v S H (.refl o.sh) (vD_dp h)
/-! ### operators: of read operands -/
/-- R tells x, flat -/
def OpF (R : R2) (d e x : D) : Prop := ∀ (H : Hp) (v u : V) (Q : VK), Rp H v d → Rp H u e → (∀ w, vD w = some x → Q w H) → R v u H Q
theorem rd_op {R : R2} (ha : RdE ta ρ d) (hb : RdE tb ρ e) (hR : OpF R d e x) : RdE (tOp R ta tb) ρ x := fun S0 H0 A0 S H τσ τρ σ Q l o q =>
  ha S0 H0 A0 S H τσ τρ σ _ l o fun v S1 H1 x1 h1 => hb S0 H0 A0 S1 H1 τσ τρ σ _ l (o.ext x1) fun u S2 H2 x2 h2 => hR H2 v u Q (dp_mono x2.hh _ _ h1) h2 fun w hw => q w S2 H2 (x1.trans x2) (vD_dp hw)
theorem evd_op {R : R2} (ha : EvD ta ρ d ρ1) (hb : EvD tb ρ1 e ρ2) (hR : OpF R d e x) : EvD (tOp R ta tb) ρ x ρ2 := fun S0 H0 A0 S H τσ τρ σ Q l o q =>
  ha S0 H0 A0 S H τσ τρ σ _ l o fun v S1 H1 s1 o1 h1 => hb S0 H0 A0 S1 H1 τσ τρ σ _ l o1 fun u S2 H2 s2 o2 h2 => hR H2 v u Q (dp_mono (s2.trans o2.sh) _ _ h1) (dp_mono o2.sh _ _ h2) fun w hw => q w S2 H2 (s1.trans s2) o2 (vD_dp hw)
theorem evd_opR {R : R2} (ha : EvD ta ρ d ρ1) (hb : RdE tb ρ1 e) (hR : OpF R d e x) : EvD (tOp R ta tb) ρ x ρ1 := fun S0 H0 A0 S H τσ τρ σ Q l o q =>
  ha S0 H0 A0 S H τσ τρ σ _ l o fun v S1 H1 s1 o1 h1 => hb S0 H0 A0 S1 H1 τσ τρ σ _ l o1 fun u S2 H2 x2 h2 => hR H2 v u Q (dp_mono (o1.sh.trans x2.hh) _ _ h1) h2 fun w hw => q w S2 H2 (s1.trans x2.ss) (o1.ext x2) (vD_dp hw)
theorem rd_un {R : V → Hp → VK → Prop} (ha : RdE ta ρ d) (hR : ∀ (H : Hp) (v : V) (Q : VK), Rp H v d → (∀ w, vD w = some x → Q w H) → R v H Q) : RdE (tUn R ta) ρ x := fun S0 H0 A0 S H τσ τρ σ Q l o q =>
  ha S0 H0 A0 S H τσ τρ σ _ l o fun v S1 H1 x1 h1 => hR H1 v Q h1 fun w hw => q w S1 H1 x1 (vD_dp hw)
/-! ### data under a subscript -/
/-- the item of read data -/
def IxS (R : R2) (d e x : D) : Prop := ∀ (H : Hp) (v u : V) (Q : VK), Rp H v d → Rp H u e → (∀ w, Rp H w x → Q w H) → R v u H Q
/-- the item of frozen data -/
def IxZ (R : R2) (d e x : D) : Prop := ∀ (S H : Hp) (v u : V) (Q : VK), Same S H → Rp S v d → Rp H u e → (∀ w, Rp S w x → Q w H) → R v u H Q
theorem rd_ix {R : R2} (ha : RdE ta ρ d) (hb : RdE tb ρ e) (hR : IxS R d e x) : RdE (tOp R ta tb) ρ x := fun S0 H0 A0 S H τσ τρ σ Q l o q =>
  ha S0 H0 A0 S H τσ τρ σ _ l o fun v S1 H1 x1 h1 => hb S0 H0 A0 S1 H1 τσ τρ σ _ l (o.ext x1) fun u S2 H2 x2 h2 => hR H2 v u Q (dp_mono x2.hh _ _ h1) h2 fun w hw => q w S2 H2 (x1.trans x2) hw
theorem evd_ixR {R : R2} (ha : EvD ta ρ d ρ1) (hb : RdE tb ρ1 e) (hR : IxZ R d e x) : EvD (tOp R ta tb) ρ x ρ1 := fun S0 H0 A0 S H τσ τρ σ Q l o q =>
  ha S0 H0 A0 S H τσ τρ σ _ l o fun v S1 H1 s1 o1 h1 => hb S0 H0 A0 S1 H1 τσ τρ σ _ l o1 fun u S2 H2 x2 h2 => hR S2 H2 v u Q x2.sh (dp_mono x2.ss _ _ h1) h2 fun w hw => q w S2 H2 (s1.trans x2.ss) (o1.ext x2) hw
theorem evd_ix {R : R2} (ha : EvD ta ρ d ρ1) (hb : EvD tb ρ1 e ρ2) (hR : IxZ R d e x) : EvD (tOp R ta tb) ρ x ρ2 := fun S0 H0 A0 S H τσ τρ σ Q l o q =>
  ha S0 H0 A0 S H τσ τρ σ _ l o fun v S1 H1 s1 o1 h1 => hb S0 H0 A0 S1 H1 τσ τρ σ _ l o1 fun u S2 H2 s2 o2 h2 => hR S2 H2 v u Q o2.sh (dp_mono s2 _ _ h1) (dp_mono o2.sh _ _ h2) fun w hw => q w S2 H2 (s1.trans s2) o2 hw
theorem ixz_list {ds : List D} {n : Int} (e : atI ds n = some x) : IxZ (rIxL kf.K) (.list ds) (.int n) x := fun S H v u Q sh h1 h2 q => by
  cases h2
  cases h1 with
  | lst r1 r2 =>
    obtain ⟨w, e1, e2⟩ := atD r2 e
    exact ⟨_, _, n, w, rfl, rfl, sh.seq r1, e1, q w e2⟩
theorem ixz_tup {ds : List D} {n : Int} (e : atI ds n = some x) : IxZ (rIxT kf.K) (.tuple ds) (.int n) x := fun S H v u Q sh h1 h2 q => by
  cases h2
  cases h1 with
  | tup r1 r2 =>
    obtain ⟨w, e1, e2⟩ := atD r2 e
    exact ⟨_, _, n, w, rfl, rfl, .inl (.of (sh _ _ r1)), e1, q w e2⟩
theorem ixs_of {R : R2} (h : IxZ R d e x) : IxS R d e x := fun H v u Q h1 h2 q => h H H v u Q (Same.refl H) h1 h2 q
/-! ### built-in calls on read arguments -/
def CbF (R : List V → Hp → VK → Prop) (ds : List D) (x : D) : Prop := ∀ (H : Hp) (vs : List V) (Q : VK), RpAll H vs ds → (∀ w, vD w = some x → Q w H) → R vs H Q
theorem rd_cb {R : List V → Hp → VK → Prop} {tr : TA} {ds : List D} (h : RdL tr ρ ds) (hR : CbF R ds x) : RdE (tCB R tr) ρ x := fun S0 H0 A0 S H τσ τρ σ Q l o q =>
  h S0 H0 A0 S H τσ τρ σ _ l o fun vs S1 H1 x1 h1 => hR H1 vs Q h1 fun w hw => q w S1 H1 x1 (vD_dp hw)
/-! ### argument lists -/
theorem rdl_nil : RdL tNil ρ [] := fun S0 H0 A0 S H τσ τρ σ Q l o q => q [] S H (.refl o.sh) .nil
theorem rdl_cons {tr : TA} {xs : List D} (ha : RdE ta ρ x) (hr : RdL tr ρ xs) : RdL (tCons ta tr) ρ (x :: xs) := fun S0 H0 A0 S H τσ τρ σ Q l o q =>
  ha S0 H0 A0 S H τσ τρ σ _ l o fun v S1 H1 x1 h1 => hr S0 H0 A0 S1 H1 τσ τρ σ _ l (o.ext x1) fun vs S2 H2 x2 h2 => q _ S2 H2 (x1.trans x2) (.cons (dp_mono x2.hh _ _ h1) h2)
theorem evl_nil : EvL tNil ρ [] ρ := fun S0 H0 A0 S H τσ τρ σ Q l o q => q [] S H (Same.refl S) o .nil
theorem evl_cons {tr : TA} {xs : List D} (ha : EvD ta ρ x ρ1) (hr : EvL tr ρ1 xs ρ2) : EvL (tCons ta tr) ρ (x :: xs) ρ2 := fun S0 H0 A0 S H τσ τρ σ Q l o q =>
  ha S0 H0 A0 S H τσ τρ σ _ l o fun v S1 H1 s1 o1 h1 => hr S0 H0 A0 S1 H1 τσ τρ σ _ l o1 fun vs S2 H2 s2 o2 h2 => q _ S2 H2 (s1.trans s2) o2 (.cons (dp_mono s2 _ _ h1) h2)
theorem evys_nil : EvYs tNil ρ [] ρ := fun S0 H0 A0 S H τσ τρ σ Q l o q => q [] S H (Same.refl S) rfl o
theorem evys_cons {tr : TA} {rs : List OT} (ha : EvY ta ρ r ρ1) (hr : EvYs tr ρ1 rs ρ2) : EvYs (tCons ta tr) ρ (r :: rs) ρ2 := fun S0 H0 A0 S H τσ τρ σ Q l o q =>
  ha S0 H0 A0 S H τσ τρ σ _ l o fun v S1 H1 s1 o1 => hr S0 H0 A0 S1 H1 (some v :: τσ) (r :: τρ) σ _ (by simp [l]) o1 fun vs S2 H2 s2 l2 o2 => q _ S2 H2 (s1.trans s2) (by simp [l2]) (by
    simpa [List.map_cons, List.reverse_cons, List.append_assoc] using o2)
/-- what is held on top taken as items -/
theorem Ok.items : ∀ {vs : List V} {rs : List OT} {σ : St} {ρ : Env}, vs.length = rs.length → Ok S0 H0 A0 S H ((vs.map some).reverse ++ σ) (rs.reverse ++ ρ) → (∀ r ∈ rs, r ≠ .no) →
    ∃ A B, OAll S H vs rs A ∧ EOk S H σ ρ B ∧ (A ++ B).Nodup ∧ ∀ a ∈ A ++ B, a ∈ A0 ∨ H0 a = none
  | [], [], σ, ρ, _, o, _ => by
    obtain ⟨B, h1, h2, h3⟩ := o.env
    exact ⟨[], B, .nil, h1, h2, h3⟩
  | v :: vs, r :: rs, σ, ρ, l, o, hn => by
    have o' : Ok S0 H0 A0 S H ((vs.map some).reverse ++ (some v :: σ)) (rs.reverse ++ (r :: ρ)) := by
      simpa [List.map_cons, List.reverse_cons, List.append_assoc] using o
    obtain ⟨A, B, h1, h2, h3, h4⟩ := Ok.items (by simpa using l) o' fun r' hr => hn r' (List.mem_cons_of_mem _ hr)
    cases h2 with
    | @cons _ _ A1 _ _ B1 p1 p2 =>
      cases p1 with
      | no => exact (hn .no List.mem_cons_self rfl).elim
      | is p1 =>
        refine ⟨A1 ++ A, B1, .cons p1 h1, p2, ?_, ?_⟩
        · have h3' := List.nodup_append.mp h3
          have h5 := List.nodup_append.mp h3'.2.1
          refine List.nodup_append.mpr ⟨List.nodup_append.mpr ⟨h5.1, h3'.1, fun a ha b hb e => h3'.2.2 b hb a (List.mem_append_left _ ha) e.symm⟩, h5.2.1, fun a ha b hb e => ?_⟩
          rcases List.mem_append.mp ha with z | z
          · exact h5.2.2 a z b hb e
          · exact h3'.2.2 a z b (List.mem_append_right _ hb) e
        · intro a ha
          apply h4
          rcases List.mem_append.mp ha with z | z
          · rcases List.mem_append.mp z with z | z
            · exact List.mem_append_right _ (List.mem_append_left _ z)
            · exact List.mem_append_left _ z
          · exact List.mem_append_right _ (List.mem_append_right _ z)
/-- a new object over items that are held -/
theorem Ok.node {k : Kd} {vs : List V} {rs : List OT} {B C : List Addr} {p : Addr} (xt : Xa A0 S0 H0 S H) (h1 : OAll S H vs rs B) (h2 : EOk S H σ ρ C) (nd : (B ++ C).Nodup) (fr : ∀ a ∈ B ++ C, a ∈ A0 ∨ H0 a = none) (hp : H p = none) (hf : k.fits rs.length) :
    Ok S0 H0 A0 S (upd H p (shape k vs)) (some (.ref p) :: σ) (.nd k rs :: ρ) := by
  have x : Xt S H S (upd H p (shape k vs)) := .new xt.sh hp
  have at1 := oall_at _ _ _ h1
  have at2 := h2.at
  have keep : ∀ a, (∃ u, H a = some u) → upd H p (shape k vs) a = H a := fun a ⟨u, hu⟩ => upd_ne (ne_of_none hu hp)
  have h1' : OAll S (upd H p (shape k vs)) vs rs B := oall_keep (Same.refl S) (fun b xs e => x.hh b _ e) _ _ _ h1 fun a ha => by
    obtain ⟨z1, u, z2, _⟩ := at1 a ha
    exact ⟨z1, keep a ⟨u, z2⟩⟩
  have h2' : EOk S (upd H p (shape k vs)) σ ρ C := h2.keep (Same.refl S) (fun b xs e => x.hh b _ e) fun a ha => by
    obtain ⟨z1, u, z2, _⟩ := at2 a ha
    exact ⟨z1, keep a ⟨u, z2⟩⟩
  have pB : p ∉ B ++ C := fun z => by
    rcases List.mem_append.mp z with z | z
    · obtain ⟨_, u, z2, _⟩ := at1 p z; rw [hp] at z2; cases z2
    · obtain ⟨_, u, z2, _⟩ := at2 p z; rw [hp] at z2; cases z2
  by_cases hk : k.isTup = true
  · cases k with
    | tup => exact ⟨xt.trans (.of x), B ++ C, .cons (.is (.tup upd_same h1')) h2', nd, fr⟩
    | lst => cases hk
    | dK ks => cases hk
    | dT ks => cases hk
  · have hk : k.isTup = false := by simpa using hk
    refine ⟨xt.trans (.of x), (p :: B) ++ C, .cons (.is (.nd hk hf (xt.sh.free hp) upd_same h1')) h2', by rw [List.cons_append]; exact List.nodup_cons.mpr ⟨pB, nd⟩, fun a ha => ?_⟩
    rw [List.cons_append] at ha
    rcases List.mem_cons.mp ha with z | z
    · rw [z]; exact .inr (xt.dm p hp)
    · exact fr a z
theorem evy_lst {tr : TA} {rs : List OT} (h : EvYs tr ρ rs ρ1) (hn : ∀ r ∈ rs, r ≠ .no) (hz : rs.length ≤ 1000000) : EvY (tLst tr) ρ (.nd .lst rs) ρ1 := fun S0 H0 A0 S H τσ τρ σ Q l o q =>
  h S0 H0 A0 S H τσ τρ σ _ l o fun vs S1 H1 s1 l1 o1 => ⟨by rw [l1]; exact sz_of hz, fun p hp => by
    obtain ⟨A, B, h1, h2, h3, h4⟩ := o1.items l1 hn
    exact q _ S1 _ s1 (Ok.node (k := .lst) o1.xt h1 h2 h3 h4 hp trivial)⟩
theorem evy_tup {tr : TA} {rs : List OT} (h : EvYs tr ρ rs ρ1) (hn : ∀ r ∈ rs, r ≠ .no) (hz : rs.length ≤ 1000000) : EvY (tTup tr) ρ (.nd .tup rs) ρ1 := fun S0 H0 A0 S H τσ τρ σ Q l o q =>
  h S0 H0 A0 S H τσ τρ σ _ l o fun vs S1 H1 s1 l1 o1 => ⟨by rw [l1]; exact sz_of hz, fun p hp => by
    obtain ⟨A, B, h1, h2, h3, h4⟩ := o1.items l1 hn
    exact q _ S1 _ s1 (Ok.node (k := .tup) o1.xt h1 h2 h3 h4 hp trivial)⟩
/-- read displays -/
theorem rd_tup {tr : TA} {xs : List D} (h : RdL tr ρ xs) (hz : xs.length ≤ 1000000) : RdE (tTup tr) ρ (.tuple xs) := fun S0 H0 A0 S H τσ τρ σ Q l o q =>
  h S0 H0 A0 S H τσ τρ σ _ l o fun vs S1 H1 x1 h1 => ⟨by rw [dpa_length h1]; exact sz_of hz, fun p hp =>
    q _ S1 _ (x1.trans (.new x1.sh hp)) (.tup upd_same (dpa_mono (Xt.new (o := .tup vs) x1.sh hp).hh _ _ h1))⟩
theorem rd_lst {tr : TA} {xs : List D} (h : RdL tr ρ xs) (hz : xs.length ≤ 1000000) : RdE (tLst tr) ρ (.list xs) := fun S0 H0 A0 S H τσ τρ σ Q l o q =>
  h S0 H0 A0 S H τσ τρ σ _ l o fun vs S1 H1 x1 h1 => ⟨by rw [dpa_length h1]; exact sz_of hz, fun p hp =>
    q _ S1 _ (x1.trans (.new x1.sh hp)) (.lst (SqL.of upd_same) (dpa_mono (Xt.new (o := .lst vs) x1.sh hp).hh _ _ h1))⟩
end
end MR
namespace MR
open PySem L2 PL
/-- what is wished of an exception that leaves the body -/
class WXI where
  W : Value → Option Addr → St → Hp → Prop
instance (priority := low) wx0 : WXI := ⟨fun _ _ _ _ => False⟩
variable [kf : KF] [wx : WXI]
/-! ### statements -/
inductive Fl where
  | nx | bk | ct | rt (r : OT) | xc (x : Xc)
/-- x lies in the air -/
def XcAt (H0 H' : Hp) (cls : Value) (d : Option Addr) (x : Xc) : Prop := ∃ C, cls = .ref C ∧ clsOf kf.K x.cls = some C ∧ FsOk H' d x.fs ∧ ∀ dd, d = some dd → H0 dd = none
/-- these slots hold these values -/
def Fx (F : List (Nat × V)) (σ : St) : Prop := ∀ p ∈ F, σ[p.1]? = some (some p.2)
def Kont (F : List (Nat × V)) (S S0 H0 : Hp) (A0 : List Addr) (E : Ends) : Fl → Env → Prop
  | .nx, ρ' => ∀ S' H' σ', Same S S' → Fx F σ' → Ok S0 H0 A0 S' H' σ' ρ' → E.nx σ' H'
  | .bk, ρ' => ∀ S' H' σ', Same S S' → Fx F σ' → Ok S0 H0 A0 S' H' σ' ρ' → E.bk σ' H'
  | .ct, ρ' => ∀ S' H' σ', Same S S' → Fx F σ' → Ok S0 H0 A0 S' H' σ' ρ' → E.ct σ' H'
  | .rt r, ρ' => ∀ v S' H' σ', Same S S' → Fx F σ' → Ok S0 H0 A0 S' H' (some v :: σ') (r :: ρ') → E.rt v H'
  | .xc x, ρ' => ∀ cls d S' H' σ', Same S S' → Fx F σ' → Ok S0 H0 A0 S' H' σ' ρ' → XcAt H0 H' cls d x → wx.W cls d σ' H'
theorem Kont.mono {F : List (Nat × V)} {S S1 S0 H0 : Hp} {A0 : List Addr} {E : Ends} {fl : Fl} {ρ' : Env} (k : Kont F S S0 H0 A0 E fl ρ') (s : Same S S1) : Kont F S1 S0 H0 A0 E fl ρ' := by
  cases fl with
  | nx => exact fun S' H' σ' ss => k S' H' σ' (s.trans ss)
  | bk => exact fun S' H' σ' ss => k S' H' σ' (s.trans ss)
  | ct => exact fun S' H' σ' ss => k S' H' σ' (s.trans ss)
  | rt r => exact fun v S' H' σ' ss => k v S' H' σ' (s.trans ss)
  | xc x => exact fun cls d S' H' σ' ss => k cls d S' H' σ' (s.trans ss)
def RunS (js : List Nat) (t : TS) (ρ : Env) (fl : Fl) (ρ' : Env) : Prop := ∀ (S0 H0 : Hp) (A0 : List Addr) (S H : Hp) (σ : St) (F : List (Nat × V)) (E : Ends), F.map (·.1) = js → Fx F σ → Ok S0 H0 A0 S H σ ρ → Kont F S S0 H0 A0 E fl ρ' → t E σ H
section
variable {ρ ρ1 ρ2 ρ' : Env} {ta tb tc te : TE} {c : TT} {t u : TS} {d e x y : D} {r s : OT} {S H S' H' S0 H0 : Hp} {A0 : List Addr} {σ : St} {js : List Nat} {fl : Fl}
theorem Fx.set {F : List (Nat × V)} {i : Nat} {v : Option V} (h : Fx F σ) (hi : i ∉ F.map (·.1)) : Fx F (σ.set i v) := fun p hp => by
  rw [List.getElem?_set_ne (fun z => hi (List.mem_map.mpr ⟨p, hp, z.symm⟩))]
  exact h p hp
theorem run_seq (h : RunS js t ρ .nx ρ1) (h2 : RunS js u ρ1 fl ρ') : RunS js (tSeq t u) ρ fl ρ' := fun S0 H0 A0 S H σ F E hF hx o k =>
  h S0 H0 A0 S H σ F { E with nx := u E } hF hx o fun S' H' σ' ss hx' o' => h2 S0 H0 A0 S' H' σ' F E hF hx' o' (k.mono ss)
theorem run_seqB (h : RunS js t ρ .bk ρ') : RunS js (tSeq t u) ρ .bk ρ' := fun S0 H0 A0 S H σ F E hF hx o k => h S0 H0 A0 S H σ F { E with nx := u E } hF hx o k
theorem run_seqC (h : RunS js t ρ .ct ρ') : RunS js (tSeq t u) ρ .ct ρ' := fun S0 H0 A0 S H σ F E hF hx o k => h S0 H0 A0 S H σ F { E with nx := u E } hF hx o k
theorem run_seqR (h : RunS js t ρ (.rt r) ρ') : RunS js (tSeq t u) ρ (.rt r) ρ' := fun S0 H0 A0 S H σ F E hF hx o k => h S0 H0 A0 S H σ F { E with nx := u E } hF hx o k
theorem run_seqX {x : Xc} (h : RunS js t ρ (.xc x) ρ') : RunS js (tSeq t u) ρ (.xc x) ρ' := fun S0 H0 A0 S H σ F E hF hx o k => h S0 H0 A0 S H σ F { E with nx := u E } hF hx o k
theorem run_next : RunS js tNext ρ .nx ρ := fun S0 H0 A0 S H σ F E hF hx o k => k S H σ (Same.refl S) hx o
theorem run_ret (h : EvY te ρ r ρ1) : RunS js (tRet te) ρ (.rt r) ρ1 := fun S0 H0 A0 S H σ F E hF hx o k =>
  h S0 H0 A0 S H [] [] σ _ rfl o fun v S' H' ss o' => k v S' H' σ ss hx o'
theorem run_if {b : Bool} (h : EvT c ρ b ρ1) (h1 : b = true → RunS js t ρ1 fl ρ') (h2 : b = false → RunS js u ρ1 fl ρ') : RunS js (tIfS c t u) ρ fl ρ' := fun S0 H0 A0 S H σ F E hF hx o k =>
  h S0 H0 A0 S H [] [] σ _ rfl o fun S1 H1 s1 o1 => by
    cases b with
    | true => exact iteT (h1 rfl S0 H0 A0 S1 H1 σ F E hF hx o1 (k.mono s1))
    | false => exact iteF (h2 rfl S0 H0 A0 S1 H1 σ F E hF hx o1 (k.mono s1))
theorem run_asg {i : Nat} (h : EvY te ρ r ρ1) (hi : i ∉ js) : RunS js (tAsg te (gName i)) ρ .nx (ρ1.set i r) := fun S0 H0 A0 S H σ F E hF hx o k =>
  h S0 H0 A0 S H [] [] σ _ rfl o fun v S' H' ss o' => k S' H' _ ss (hx.set (by rw [hF]; exact hi)) (o'.store i)
/-! ### targets -/
def TgM (g : TG) (x : D) (ρ ρ' : Env) (is : List Nat) : Prop := ∀ (S0 H0 : Hp) (A0 : List Addr) (S H : Hp) (τσ : List (Option V)) (τρ : List OT) (σ : St) (Q : St → Hp → Prop) (v : V), τσ.length = τρ.length → Ok S0 H0 A0 S H (τσ ++ σ) (τρ ++ ρ) → Rp S v x →
  (∀ σ', Ok S0 H0 A0 S H (τσ ++ σ') (τρ ++ ρ') → σ'.length = σ.length → (∀ k, k ∉ is → σ'[k]? = σ[k]?) → Q σ' H) → g v σ H Q
def TgMs (g : TGs) (xs : List D) (ρ ρ' : Env) (is : List Nat) : Prop := ∀ (S0 H0 : Hp) (A0 : List Addr) (S H : Hp) (τσ : List (Option V)) (τρ : List OT) (σ : St) (Q : St → Hp → Prop) (vs : List V), τσ.length = τρ.length → Ok S0 H0 A0 S H (τσ ++ σ) (τρ ++ ρ) → RpAll S vs xs →
  (∀ σ', Ok S0 H0 A0 S H (τσ ++ σ') (τρ ++ ρ') → σ'.length = σ.length → (∀ k, k ∉ is → σ'[k]? = σ[k]?) → Q σ' H) → g vs σ H Q
theorem tg_name {i : Nat} : TgM (gName i) x ρ (ρ.set i (.d x)) [i] := fun S0 H0 A0 S H τσ τρ σ Q v l o hv q => by
  have o' := (o.pushD hv).store (τρ.length + i)
  rw [set_app l, set_app rfl] at o'
  exact q _ o' (by rw [List.length_set]) fun k hk => by rw [List.getElem?_set_ne (fun z => hk (by rw [z]; exact List.mem_cons_self))]
theorem tgs_nil : TgMs gNil [] ρ ρ [] := fun S0 H0 A0 S H τσ τρ σ Q vs l o hv q => by
  cases hv
  exact ⟨rfl, q σ o rfl fun _ _ => rfl⟩
theorem tgs_cons {g : TG} {gs : TGs} {xs : List D} {is ks : List Nat} (h1 : TgM g x ρ ρ1 is) (h2 : TgMs gs xs ρ1 ρ2 ks) : TgMs (gCons g gs) (x :: xs) ρ ρ2 (is ++ ks) := fun S0 H0 A0 S H τσ τρ σ Q vs l o hv q => by
  cases hv with
  | cons hv ht =>
    refine ⟨_, _, rfl, h1 S0 H0 A0 S H τσ τρ σ _ _ l o hv fun σ1 o1 l1 k1 => h2 S0 H0 A0 S H τσ τρ σ1 _ _ l o1 ht fun σ2 o2 l2 k2 => q σ2 o2 (l2.trans l1) fun k hk => ?_⟩
    rw [k2 k (fun z => hk (List.mem_append_right _ z)), k1 k (fun z => hk (List.mem_append_left _ z))]
theorem tg_tup {gs : TGs} {xs : List D} {is : List Nat} {n : Nat} (h : TgMs gs xs ρ ρ' is) (hn : xs.length = n) : TgM (gTup kf.K n gs) (.tuple xs) ρ ρ' is := fun S0 H0 A0 S H τσ τρ σ Q v l o hv q => by
  cases hv with
  | tup r1 r2 => exact ⟨_, _, rfl, .inl (.of (o.sh _ _ r1)), (dpa_length r2).trans hn, h S0 H0 A0 S H τσ τρ σ Q _ l o r2 q⟩
theorem run_asgT {g : TG} {is : List Nat} (h : EvD te ρ x ρ1) (ht : TgM g x ρ1 ρ2 is) (hi : ∀ j ∈ js, j ∉ is) : RunS js (tAsg te g) ρ .nx ρ2 := fun S0 H0 A0 S H σ F E hF hx o k =>
  h S0 H0 A0 S H [] [] σ _ rfl o fun v S' H' ss o' hv => ht S0 H0 A0 S' H' [] [] σ _ v rfl o' hv fun σ' o2 l2 k2 => k S' H' σ' ss (fun p hp => by
    rw [k2 p.1 (hi p.1 (by rw [← hF]; exact List.mem_map_of_mem hp))]; exact hx p hp) o2
/-! ### what is walked -/
def IterM (wi : TI) (ρ : Env) (ds : List D) (ρ' : Env) : Prop := ∀ (S0 H0 : Hp) (A0 : List Addr) (S H : Hp) (τσ : List (Option V)) (τρ : List OT) (σ : St) (R : It → Hp → Prop), τσ.length = τρ.length → Ok S0 H0 A0 S H (τσ ++ σ) (τρ ++ ρ) →
  (∀ J S' H', Same S S' → Ok S0 H0 A0 S' H' (τσ ++ σ) (τρ ++ ρ') → JD S' J ds → R J H') → wi σ H R
theorem it_list {ds : List D} (h : EvD te ρ (.list ds) ρ1) : IterM (iList kf.K te) ρ ds ρ1 := fun S0 H0 A0 S H τσ τρ σ R l o q =>
  h S0 H0 A0 S H τσ τρ σ _ l o fun v S' H' ss o' hs => by
    cases hs with
    | lst r1 r2 => exact ⟨_, rfl, ⟨_, o'.sh.seq r1⟩, q _ S' H' ss o' (jd_list r1 r2)⟩
def rgD (lo : Int) (n : Nat) : List D := (List.range n).map fun (i : Nat) => PyData.int (lo + (i : Int))
theorem it_range1 {n : Int} (h : EvL ta' ρ [.int n] ρ1) (hn : n < 2 ^ 62) (hn0 : -(2 ^ 62) ≤ n) : IterM (iRng1 ta') ρ (rgD 0 n.toNat) ρ1 := fun S0 H0 A0 S H τσ τρ σ R l o q =>
  h S0 H0 A0 S H τσ τρ σ _ l o fun v S' H' ss o' hs => by
    cases hs with | cons a b => cases a; cases b; exact ⟨n, rfl, hn0, hn, q _ S' H' ss o' jd_range⟩
theorem it_range2 {m n : Int} (h : EvL ta' ρ [.int m, .int n] ρ1) (hb : -(2 ^ 62) ≤ m ∧ m < 2 ^ 62 ∧ -(2 ^ 62) ≤ n ∧ n < 2 ^ 62) : IterM (iRng2 ta') ρ (rgD m (n - m).toNat) ρ1 := fun S0 H0 A0 S H τσ τρ σ R l o q =>
  h S0 H0 A0 S H τσ τρ σ _ l o fun v S' H' ss o' hs => by
    cases hs with | cons a b => cases b with | cons b c => cases a; cases b; cases c; exact ⟨m, n, rfl, hb, q _ S' H' ss o' jd_range⟩
end
end MR
namespace MR
open PySem L2 PL
variable [kf : KF] [wx : WXI]
theorem jd_enum {S : Hp} {a : Addr} {vs : List V} {ds : List D} (r1 : SqL kf.K S a vs) (r2 : RpAll S vs ds) : JD S (Ite kf.K a) (ds.zipIdx.map fun p => PyData.tuple [.int (p.2 : Nat), p.1]) := fun S1 H1 s1 sh => by
  have h1 : SqL kf.K H1 a vs := (s1.trans sh).seq r1
  refine ⟨⟨vs, h1, by rw [dpa_length r2]; simp⟩, fun i x e => ?_⟩
  rw [List.getElem?_map, List.getElem?_zipIdx] at e
  cases qd : ds[i]? with
  | none => rw [qd] at e; cases e
  | some d =>
    rw [qd] at e
    simp at e
    subst e
    obtain ⟨v, e1, e2⟩ := dpa_get r2 qd
    refine ⟨⟨vs, v, h1, e1⟩, fun w H2 y => ?_⟩
    obtain ⟨T, x, rfl, nT, rfl, y⟩ := y
    have : some x = some v := (y vs h1).symm.trans e1
    cases this
    have xn := Xt.newS (o := .tup [.int (i : Nat), v]) sh nT
    exact ⟨_, xn, .tup upd_same (.cons (.int _) (.cons (dp_mono (s1.trans xn.ss) _ _ e2) .nil))⟩
def enumD (ds : List D) : List D := ds.zipIdx.map fun p => PyData.tuple [.int (p.2 : Nat), p.1]
def zipD (ds es : List D) : List D := (ds.zip es).map fun p => PyData.tuple [p.1, p.2]
section
variable {ρ ρ1 ρ2 ρ' : Env} {ta tb tc te : TE} {tl : TA} {c : TT} {t u : TS} {d e x y : D} {r s : OT} {S H S' H' S0 H0 : Hp} {A0 : List Addr} {σ : St} {js : List Nat} {fl : Fl}
theorem it_enum {ds : List D} (h : EvL tl ρ [.list ds] ρ1) : IterM (iEnum kf.K tl) ρ (enumD ds) ρ1 := fun S0 H0 A0 S H τσ τρ σ R l o q =>
  h S0 H0 A0 S H τσ τρ σ _ l o fun vs S' H' ss o' hs => by
    cases hs with
    | cons a b =>
      cases b
      cases a with
      | lst r1 r2 => exact ⟨_, _, rfl, o'.sh.seq r1, q _ S' H' ss o' (jd_enum r1 r2)⟩
/-! ### loops -/
def mFor (step : D → Env → Option (Fl × Env)) : List D → Env → Option (Fl × Env)
  | [], ρ => some (.nx, ρ)
  | x :: xs, ρ => match step x ρ with
    | some (.nx, ρ') => mFor step xs ρ'
    | some (.ct, ρ') => mFor step xs ρ'
    | some (.bk, ρ') => some (.nx, ρ')
    | some (.rt r, ρ') => some (.rt r, ρ')
    | some (.xc x, ρ') => some (.xc x, ρ')
    | Option.none => Option.none
theorem run_for {wi : TI} {g : TG} {ds : List D} {step : D → Env → Option (Fl × Env)} (hi : IterM wi ρ ds ρ1)
    (hs : ∀ x ρa fl ρb, step x ρa = some (fl, ρb) → ∃ ρm is, TgM g x ρa ρm is ∧ (∀ j ∈ js, j ∉ is) ∧ RunS js t ρm fl ρb) (hf : mFor step ds ρ1 = some (fl, ρ')) : RunS js (tFor wi g t) ρ fl ρ' := fun S0 H0 A0 S H σ F E hF hx o k =>
  hi S0 H0 A0 S H [] [] σ _ rfl o fun J S1 H1 ss1 o1 hJ => by
    refine ⟨fun i m σ' H' => m = ds.length - i ∧ i ≤ ds.length ∧ ∃ S' ρi, Same S1 S' ∧ Fx F σ' ∧ Ok S0 H0 A0 S' H' σ' ρi ∧ mFor step (ds.drop i) ρi = some (fl, ρ'), ⟨_, rfl, Nat.zero_le _, S1, ρ1, Same.refl _, hx, o1, hf⟩, ?_⟩
    rintro i m σ' H' ⟨rfl, hi, S', ρi, s1, hx', o', hf'⟩
    obtain ⟨st, go⟩ := hJ S' H' s1 o'.sh
    by_cases hl : i < ds.length
    · obtain ⟨g1, g2⟩ := go i ds[i] (List.getElem?_eq_getElem hl)
      rw [List.drop_eq_getElem_cons hl] at hf'
      unfold mFor at hf'
      cases hst : step ds[i] ρi with
      | none => rw [hst] at hf'; cases hf'
      | some p =>
        obtain ⟨fl1, ρb⟩ := p
        rw [hst] at hf'
        obtain ⟨ρm, is, ht, hjs, hb⟩ := hs _ _ _ _ hst
        refine .inr ⟨g1, fun σ2 H2 => ∃ S2, Same S1 S2 ∧ Fx F σ2 ∧ Ok S0 H0 A0 S2 H2 σ2 ρb ∧ mFor step (ds.drop (i + 1)) ρb = some (fl, ρ'), fun σ2 H2 ⟨S2, b1, b2, b3, b4⟩ => ⟨_, by omega, rfl, hl, S2, ρb, b1, b2, b3, b4⟩, fun v H2 hy => ?_⟩
        obtain ⟨S2, x2, hv⟩ := g2 v H2 hy
        refine ht S0 H0 A0 S2 H2 [] [] σ' _ v rfl (o'.ext x2) hv fun σ3 o3 l3 k3 => ?_
        have hx3 : Fx F σ3 := fun p hp => by rw [k3 p.1 (hjs p.1 (by rw [← hF]; exact List.mem_map_of_mem hp))]; exact hx' p hp
        refine hb S0 H0 A0 S2 H2 σ3 F _ hF hx3 o3 ?_
        have sa : Same S S2 := ss1.trans (s1.trans x2.ss)
        cases fl1 with
        | nx => exact fun S4 H4 σ4 s4 hx4 o4 => ⟨S4, s1.trans (x2.ss.trans s4), hx4, o4, hf'⟩
        | ct => exact fun S4 H4 σ4 s4 hx4 o4 => ⟨S4, s1.trans (x2.ss.trans s4), hx4, o4, hf'⟩
        | bk =>
          simp only [Option.some.injEq, Prod.mk.injEq] at hf'
          obtain ⟨rfl, rfl⟩ := hf'
          exact fun S4 H4 σ4 s4 hx4 o4 => k S4 H4 σ4 (sa.trans s4) hx4 o4
        | rt r =>
          simp only [Option.some.injEq, Prod.mk.injEq] at hf'
          obtain ⟨rfl, rfl⟩ := hf'
          exact fun v4 S4 H4 σ4 s4 hx4 o4 => k v4 S4 H4 σ4 (sa.trans s4) hx4 o4
        | xc x =>
          simp only [Option.some.injEq, Prod.mk.injEq] at hf'
          obtain ⟨rfl, rfl⟩ := hf'
          exact fun cls4 d4 S4 H4 σ4 s4 hx4 o4 => k cls4 d4 S4 H4 σ4 (sa.trans s4) hx4 o4
    · have e : i = ds.length := by omega
      subst e
      rw [List.drop_length] at hf'
      simp only [mFor, Option.some.injEq, Prod.mk.injEq] at hf'
      obtain ⟨rfl, rfl⟩ := hf'
      exact .inl ⟨st, k S' H' σ' (ss1.trans s1) hx' o'⟩
end
end MR
namespace MR
open PySem L2 PL
variable [kf : KF]
/-! ### comprehensions -/
def wipeE (ρ : Env) : List Nat → Env
  | [] => ρ
  | v :: vs => (wipeE ρ vs).set v .no
def rst {α : Type} (xs orig : List α) : List Nat → List α
  | [] => xs
  | v :: vs => match orig[v]? with
    | some a => (rst xs orig vs).set v a
    | Option.none => rst xs orig vs
theorem rst_some {α : Type} {xs orig : List α} {v : Nat} {vs : List Nat} {a : α} (h : orig[v]? = some a) : rst xs orig (v :: vs) = (rst xs orig vs).set v a := by simp only [rst, h]
theorem rst_none {α : Type} {xs orig : List α} {v : Nat} {vs : List Nat} (h : orig[v]? = Option.none) : rst xs orig (v :: vs) = rst xs orig vs := by simp only [rst, h]
def calmAt (ρ : Env) (vs : List Nat) : Bool := vs.all fun v => match ρ[v]? with
  | some (.nd _ _) => false
  | some (.fl _) => false
  | some (.si _) => false
  | _ => true
def mLc (vs : List Nat) (step : D → Env → Option (Option OT × Env)) : List D → List OT → Env → Option (List OT × Env)
  | [], acc, ρ => some (acc, ρ)
  | x :: xs, acc, ρ => match step x ρ with
    | some (some r, ρ') => mLc vs step xs (acc ++ [r]) (wipeE ρ' vs)
    | some (Option.none, ρ') => mLc vs step xs acc (wipeE ρ' vs)
    | Option.none => Option.none
section
variable {ρ ρ1 ρ2 ρ' : Env} {ta tb tc te : TE} {tl : TA} {c : TT} {t u : TS} {d e x y : D} {r s : OT} {S H S' H' S0 H0 : Hp} {A0 : List Addr} {σ τσ : St} {τρ : List OT} {js : List Nat} {fl : Fl}
/-- slot i written, with nothing owned -/
theorem Ok.put (o : Ok S0 H0 A0 S H σ ρ) (i : Nat) {v : Option V} {t : OT} (h : OSl S H v t []) : Ok S0 H0 A0 S H (σ.set i v) (ρ.set i t) := by
  obtain ⟨B, h1, h2, h3⟩ := o.env
  exact Ok.store (v := v) (t := t) ⟨o.xt, [] ++ B, .cons h h1, by simpa using h2, by simpa using h3⟩ i
theorem Ok.wipe (l : τσ.length = τρ.length) (o : Ok S0 H0 A0 S H (τσ ++ σ) (τρ ++ ρ)) : ∀ vs : List Nat, Ok S0 H0 A0 S H (τσ ++ L2.wipe σ vs) (τρ ++ wipeE ρ vs)
  | [] => o
  | v :: vs => by
    have o' := (Ok.wipe l o vs).put (τρ.length + v) (.no (v := Option.none))
    rw [set_app l, set_app rfl] at o'
    exact o'
theorem rst_wipe (σ : St) (vs : List Nat) : rst (L2.wipe σ vs) σ vs = σ := by
  have gen : ∀ (us : List Nat) (xs : St), xs.length = σ.length → (∀ k, k ∉ us → xs[k]? = σ[k]?) → rst xs σ us = σ := by
    intro us
    induction us with
    | nil =>
      intro xs hl h
      exact List.ext_getElem? fun k => h k (by simp)
    | cons v us ih =>
      intro xs hl h
      have len : ∀ (us : List Nat) (xs : St), (rst xs σ us).length = xs.length := by
        intro us
        induction us with
        | nil => intro xs; rfl
        | cons w us ih2 =>
          intro xs
          cases q : σ[w]? with
          | some a => rw [rst_some q, List.length_set]; exact ih2 xs
          | none => rw [rst_none q]; exact ih2 xs
      have out : ∀ (us : List Nat) (xs : St) (k : Nat), xs.length = σ.length → (k ∈ us ∨ xs[k]? = σ[k]?) → (rst xs σ us)[k]? = σ[k]? := by
        intro us
        induction us with
        | nil =>
          intro xs k _ hk
          rcases hk with hk | hk
          · cases hk
          · exact hk
        | cons w us ih2 =>
          intro xs k hl hk
          have l2 := len us xs
          by_cases e : w = k
          · subst e
            cases q : σ[w]? with
            | some a =>
              rw [rst_some q]
              have := (List.getElem?_eq_some_iff.mp q).1
              rw [List.getElem?_set_self (by omega)]
            | none =>
              rw [rst_none q]
              have := List.getElem?_eq_none_iff.mp q
              exact List.getElem?_eq_none (by omega)
          · have hk' : k ∈ us ∨ xs[k]? = σ[k]? := by
              rcases hk with hk | hk
              · rcases List.mem_cons.mp hk with z | z
                · exact absurd z.symm e
                · exact .inl z
              · exact .inr hk
            cases q : σ[w]? with
            | some a => rw [rst_some q, List.getElem?_set_ne e]; exact ih2 xs k hl hk'
            | none => rw [rst_none q]; exact ih2 xs k hl hk'
      apply List.ext_getElem?
      intro k
      have := out (v :: us) xs k hl (by
        by_cases hk : k ∈ v :: us
        · exact .inl hk
        · exact .inr (h k hk))
      exact this
  exact gen vs _ (L2.wipe_length σ vs) fun k hk => by rw [wipe_get, if_neg hk]
theorem Ok.restore {S1 H1 : Hp} (l : τσ.length = τρ.length) {σ0 τσ0 : St} {ρ0 τρ0 : Env} {ρe : Env} (l0 : τσ0.length = τρ0.length) (o0 : Ok S0 H0 A0 S1 H1 (τσ0 ++ σ0) (τρ0 ++ ρ0)) (ss : Same S1 S) : ∀ (vs : List Nat) (σe : St), calmAt ρ0 vs = true → Ok S0 H0 A0 S H (τσ ++ σe) (τρ ++ ρe) → σ0.length = ρ0.length →
    Ok S0 H0 A0 S H (τσ ++ rst σe σ0 vs) (τρ ++ rst ρe ρ0 vs)
  | [], σe, _, o, _ => o
  | v :: vs, σe, hc, o, hl => by
    unfold calmAt at hc
    rw [List.all_cons, Bool.and_eq_true] at hc
    have ih := Ok.restore l l0 o0 ss vs σe hc.2 o hl
    by_cases hv : v < σ0.length
    · obtain ⟨val, hval⟩ : ∃ val, σ0[v]? = some val := ⟨_, List.getElem?_eq_getElem hv⟩
      obtain ⟨t, ht⟩ : ∃ t, ρ0[v]? = some t := ⟨_, List.getElem?_eq_getElem (by omega)⟩
      rw [rst_some hval, rst_some ht]
      obtain ⟨w, A, e1, e2⟩ := o0.get (i := τρ0.length + v) (t := t) (by rw [get_app rfl]; exact ht)
      rw [get_app l0, hval] at e1
      cases e1
      have hs : OSl S H val t [] := by
        cases t with
        | no => exact .no
        | d x =>
          cases e2 with
          | is e2 => cases e2 with | d e2 => exact .is (.d (dp_mono ss _ _ e2))
        | nd k ts => rw [ht] at hc; simp at hc
        | fl ts => rw [ht] at hc; simp at hc
        | ex x =>
          cases e2 with
          | is e2 => cases e2 with | ex q1 q2 q3 => exact .is (.ex q1 (ss _ _ q2) (q3.mono ss))
        | si ms => rw [ht] at hc; simp at hc
      have o' := ih.put (τρ.length + v) hs
      rw [set_app l, set_app rfl] at o'
      exact o'
    · rw [rst_none (List.getElem?_eq_none (by omega)), rst_none (List.getElem?_eq_none (by omega))]
      exact ih
/-- y, on top of a list, becomes its last item -/
theorem Ok.append {y : V} {p : Addr} {ts : List OT} (o : Ok S0 H0 A0 S H (some y :: some (.ref p) :: σ) (r :: .nd .lst ts :: ρ)) (hn : r ≠ .no) :
    ∃ acc, H p = some (.lst acc) ∧ acc.length = ts.length ∧ Ok S0 H0 A0 S (upd H p (.lst (acc ++ [y]))) (some (.ref p) :: σ) (.nd .lst (ts ++ [r]) :: ρ) := by
  obtain ⟨B, h1, h2, h3⟩ := o.env
  cases h1 with
  | @cons _ _ A1 _ _ B1 p1 p2 =>
    cases p2 with
    | @cons _ _ A2 _ _ B2 q1 q2 =>
      cases q1 with
      | is q1 =>
        cases p1 with
        | no => exact (hn rfl).elim
        | is p1 =>
          cases q1 with
          | @nd _ _ vs _ C k1 k2 k3 k4 k5 =>
            have nd := List.nodup_append.mp h2
            have nd2 := List.nodup_append.mp nd.2.1
            have nd3 := List.nodup_cons.mp nd2.1
            have pA1 : p ∉ A1 := fun z => nd.2.2 p z p (List.mem_append_left _ List.mem_cons_self) rfl
            have pB2 : p ∉ B2 := fun z => nd2.2.2 p List.mem_cons_self p z rfl
            have pH : p ∈ A0 ∨ H0 p = none := h3 p (List.mem_append_right _ (List.mem_append_left _ List.mem_cons_self))
            have tp : ∀ b xs, H b = some (.tup xs) → upd H p (.lst (vs ++ [y])) b = some (.tup xs) := fun b xs e => by
              rw [upd_ne]; exact e
              intro z; subst z; rw [k4] at e; cases e
            have g1 := ook_keep (H' := upd H p (.lst (vs ++ [y]))) (Same.refl S) tp _ _ _ p1 fun a ha => ⟨(ook_at _ _ _ p1 a ha).1, upd_ne fun z => pA1 (z ▸ ha)⟩
            have g2 := oall_keep (H' := upd H p (.lst (vs ++ [y]))) (Same.refl S) tp _ _ _ k5 fun a ha => ⟨(oall_at _ _ _ k5 a ha).1, upd_ne fun z => nd3.1 (z ▸ ha)⟩
            have g3 := q2.keep (H' := upd H p (.lst (vs ++ [y]))) (Same.refl S) tp fun a ha => ⟨(q2.at a ha).1, upd_ne fun z => pB2 (z ▸ ha)⟩
            have app : ∀ {vs : List V} {ts : List OT} {C : List Addr} {H : Hp}, OAll S H vs ts C → OOk S H y r A1 → OAll S H (vs ++ [y]) (ts ++ [r]) (C ++ A1) := by
              intro vs ts C H h
              induction ts generalizing vs C with
              | nil => intro h2; cases h; have := OAll.cons h2 .nil; simpa using this
              | cons t ts ih => intro h2; cases h with | cons a b => have := OAll.cons a (ih b h2); simpa [List.append_assoc] using this
            refine ⟨vs, k4, k5.len, ⟨⟨fun b o' hb e => ?_, fun b e => ?_, fun b xs e => tp b xs (o.xt.tp b xs e), o.xt.ss, fun b o' e => ?_, o.xt.nw⟩, _, .cons (.is (.nd rfl trivial k3 upd_same (app g2 g1))) g3, ?_, ?_⟩⟩
            · have e1 := o.xt.hh b o' hb e
              rw [upd_ne]; exact e1
              intro z; subst z
              rcases pH with z | z
              · exact hb z
              · rw [z] at e; cases e
            · by_cases z : b = p
              · subst z; rw [upd_same] at e; cases e
              · rw [upd_ne z] at e; exact o.xt.dm b e
            · rw [upd_ne]; exact o.sh b o' e
              intro z; subst z; rw [k3] at e; cases e
            · refine List.nodup_append.mpr ⟨?_, nd2.2.1, ?_⟩
              · refine List.nodup_cons.mpr ⟨fun z => ?_, List.nodup_append.mpr ⟨nd3.2, nd.1, fun a ha b hb e => ?_⟩⟩
                · rcases List.mem_append.mp z with z | z
                  · exact nd3.1 z
                  · exact pA1 z
                · subst e
                  exact nd.2.2 a hb a (List.mem_append_left _ (List.mem_cons_of_mem _ ha)) rfl
              · intro a ha b hb e
                subst e
                rcases List.mem_cons.mp ha with z | z
                · subst z; exact pB2 hb
                · rcases List.mem_append.mp z with z | z
                  · exact nd2.2.2 a (List.mem_cons_of_mem _ z) a hb rfl
                  · exact nd.2.2 a z a (List.mem_append_right _ hb) rfl
            · intro a ha
              apply h3
              rcases List.mem_append.mp ha with z | z
              · rcases List.mem_cons.mp z with z | z
                · exact List.mem_append_right _ (List.mem_append_left _ (z ▸ List.mem_cons_self))
                · rcases List.mem_append.mp z with z | z
                  · exact List.mem_append_right _ (List.mem_append_left _ (List.mem_cons_of_mem _ z))
                  · exact List.mem_append_left _ z
              · exact List.mem_append_right _ (List.mem_append_right _ z)
theorem evy_lc {wi : TI} {g : TG} {tt : TT} {vs : List Nat} {ds : List D} {step : D → Env → Option (Option OT × Env)} {rs : List OT} (hi : IterM wi ρ ds ρ1)
    (hs : ∀ x ρa o ρb, step x ρa = some (o, ρb) → ∃ ρm is b ρt, TgM g x ρa ρm is ∧ (∀ j ∈ is, j ∈ vs) ∧ EvT tt ρm b ρt ∧ (match o with
      | some r => b = true ∧ r ≠ .no ∧ EvY te ρt r ρb
      | Option.none => b = false ∧ ρb = ρt))
    (hf : mLc vs step ds [] (wipeE ρ1 vs) = some (rs, ρ2)) (hc : calmAt ρ1 vs = true) (hz : ds.length ≤ 1000000) : EvY (tLc wi g tt te vs) ρ (.nd .lst rs) (rst ρ2 ρ1 vs) := fun S0 H0 A0 S H τσ τρ σ Q l o q =>
  hi S0 H0 A0 S H τσ τρ σ _ l o fun J S1 H1 ss1 o1 hJ Dl hD => by
    have lσ : σ.length = ρ1.length := by have := o1.len; simp at this; omega
    have start : Ok S0 H0 A0 S1 (upd H1 Dl (.lst [])) (some (.ref Dl) :: (τσ ++ L2.wipe σ vs)) (.nd .lst [] :: (τρ ++ wipeE ρ1 vs)) := by
      obtain ⟨B, h1, h2, h3⟩ := (o1.wipe l vs).env
      exact Ok.node (k := .lst) (vs := []) (rs := []) (B := []) o1.xt .nil h1 (by simpa using h2) (by simpa using h3) hD trivial
    refine ⟨fun i m H' => m = ds.length - i ∧ i ≤ ds.length ∧ ∃ S' acc ρi, Same S1 S' ∧ Ok S0 H0 A0 S' H' (some (.ref Dl) :: (τσ ++ L2.wipe σ vs)) (.nd .lst acc :: (τρ ++ ρi)) ∧ mLc vs step (ds.drop i) acc ρi = some (rs, ρ2) ∧ acc.length ≤ i,
      ⟨_, rfl, Nat.zero_le _, S1, [], _, Same.refl _, start, hf, Nat.le_refl _⟩, ?_⟩
    rintro i m H' ⟨rfl, hi, S', acc, ρi, s1, o', hf', hacc⟩
    obtain ⟨st, go⟩ := hJ S' H' s1 o'.sh
    by_cases hl : i < ds.length
    · obtain ⟨g1, g2⟩ := go i ds[i] (List.getElem?_eq_getElem hl)
      rw [List.drop_eq_getElem_cons hl] at hf'
      unfold mLc at hf'
      cases hst : step ds[i] ρi with
      | none => rw [hst] at hf'; cases hf'
      | some p =>
        obtain ⟨oo, ρb⟩ := p
        rw [hst] at hf'
        obtain ⟨ρm, is, b, ρt, ht, hjs, hb, he⟩ := hs _ _ _ _ hst
        refine .inr ⟨g1, fun H2 => ∃ S2 acc2, Same S1 S2 ∧ Ok S0 H0 A0 S2 H2 (some (.ref Dl) :: (τσ ++ L2.wipe σ vs)) (.nd .lst acc2 :: (τρ ++ wipeE ρb vs)) ∧ mLc vs step (ds.drop (i + 1)) acc2 (wipeE ρb vs) = some (rs, ρ2) ∧ acc2.length ≤ i + 1,
          fun H2 ⟨S2, acc2, b1, b2, b3, b4⟩ => ⟨_, by omega, rfl, hl, S2, acc2, _, b1, b2, b3, b4⟩, fun w H2 hy => ?_⟩
        obtain ⟨S2, x2, hv⟩ := g2 w H2 hy
        have o2 := o'.ext x2
        refine ht S0 H0 A0 S2 H2 (some (.ref Dl) :: τσ) (.nd .lst acc :: τρ) (L2.wipe σ vs) _ w (by simp [l]) o2 hv fun σ3 o3 l3 k3 => ?_
        have we : L2.wipe σ3 vs = L2.wipe σ vs := wipe_eq l3 fun k hk => k3 k fun z => hk (hjs k z)
        refine ⟨we, ?_⟩
        refine hb S0 H0 A0 S2 H2 (some (.ref Dl) :: τσ) (.nd .lst acc :: τρ) σ3 _ (by simp [l]) o3 fun S3 H3 s3 o4 => ?_
        have sa : Same S1 S3 := s1.trans (x2.ss.trans s3)
        cases oo with
        | none =>
          obtain ⟨rfl, rfl⟩ := he
          have o5 := Ok.wipe (τσ := some (.ref Dl) :: τσ) (τρ := .nd .lst acc :: τρ) (by simp [l]) o4 vs
          rw [we] at o5
          exact iteF ⟨S3, acc, sa, o5, hf', by omega⟩
        | some r =>
          obtain ⟨rfl, hn, he⟩ := he
          refine iteT (he S0 H0 A0 S3 H3 (some (.ref Dl) :: τσ) (.nd .lst acc :: τρ) σ3 _ (by simp [l]) o4 fun y S4 H4 s4 o5 => ?_)
          obtain ⟨ac, e1, e2, o6⟩ := Ok.append o5 hn
          have o7 := Ok.wipe (τσ := some (.ref Dl) :: τσ) (τρ := .nd .lst (acc ++ [r]) :: τρ) (by simp [l]) o6 vs
          rw [we] at o7
          exact ⟨ac, e1, sz_lt (by omega), S4, acc ++ [r], sa.trans s4, o7, hf', by simp; omega⟩
    · have e : i = ds.length := by omega
      subst e
      rw [List.drop_length] at hf'
      simp only [mLc, Option.some.injEq, Prod.mk.injEq] at hf'
      obtain ⟨rfl, rfl⟩ := hf'
      refine .inl ⟨st, q _ S' H' (ss1.trans s1) ?_⟩
      have := Ok.restore (τσ := some (.ref Dl) :: τσ) (τρ := .nd .lst acc :: τρ) (σ0 := σ) (ρ0 := ρ1) (ρe := ρi) (by simp [l]) l o1 s1 vs (L2.wipe σ vs) hc o' lσ
      rw [rst_wipe] at this
      exact this
end
end MR
namespace MR
open PySem PySem.Spec PyProof.Rows L2 PL
/-! ### a def's promise, where no guard stands on the stack -/
structure FnQ (P : Program) (w : World) (K : PySem.W.Frag) (mg : Str → Option Value) (base : Heap) (CX : CXT) (k : Nat) (f : Addr) (fd : FuncData) (ps : List Str) (sp : Sp) : Prop where
  ln : ∀ xs G Z W, sp xs G Z W → xs.length = ps.length
  go : ∀ (B : Around) (out : List PySem.Env) (st : Shared) (G : Hp) (ar : Args) (us : List Value) (xs : List V) (Z : VK) (W : XK), Room k B → B.guards = some [] → Env0 P w K mg base B out st G →
    BindsTo st fd ar (ps.zip us) → Vals xs us → sp xs G Z W → codeAny (model P w) B (.call (.ref f) ar) (CR CX out P w G st Z W) st
section
variable {P : Program} {w : World} {K : PySem.W.Frag} {mg : Str → Option Value} {base : Heap} {CX : CXT}
theorem FnQ.up {j k : Nat} {f : Addr} {fd : FuncData} {ps : List Str} {sp : Sp} (F : FnQ P w K mg base CX j f fd ps sp) (h : j ≤ k) : FnQ P w K mg base CX k f fd ps sp :=
  ⟨F.ln, fun B out st G ar us xs Z W r => F.go B out st G ar us xs Z W (r.mono h)⟩
/-- a def of the text, its defaults whatever they are -/
structure FunV (K : PySem.W.Frag) (x : Str) (st : Stmt) (f : Addr) (fd : FuncData) : Prop where
  ex : ∃ (oc : Value) (od : Option Addr) (dV kV doc pm : Value) (an : Option Addr) (cdv ct : Value) (osl : Array (Option Value)),
    fd = PySem.W.fnOf x x (defArgs st) (defBody st) (defScope st) dV kV doc pm an cdv ct ∧ K.lookup f = some ⟨oc, od, .func fd, osl⟩ ∧ PySem.W.codeIn K cdv x = true
  kp : PySem.W.keepIn K (.ref f) = true
theorem funV_of {x : Str} {st : Stmt} {f : Addr} {fd : FuncData} (F : Fun K x x st f fd) : FunV K x st f fd := by
  obtain ⟨oc, od, kV, doc, pm, an, cv, ct, sl, e, lk, cd⟩ := F.ex
  exact ⟨⟨oc, od, .none, kV, doc, pm, an, cv, ct, sl, e, lk, cd⟩, F.kp⟩
/-- one with m defaults -/
structure FunD1 (K : PySem.W.Frag) (x : Str) (st : Stmt) (m : Nat) (f : Addr) (fd : FuncData) : Prop where
  ex : ∃ (oc : Value) (od : Option Addr) (T : Addr) (kV doc pm : Value) (an : Option Addr) (cdv ct : Value) (osl : Array (Option Value)) (o : Obj) (its : List Value) (n : Nat),
    fd = PySem.W.fnOf x x (defArgs st) (defBody st) (defScope st) (.ref T) kV doc pm an cdv ct ∧ K.lookup f = some ⟨oc, od, .func fd, osl⟩ ∧ PySem.W.codeIn K cdv x = true ∧ K.lookup T = some o ∧ o.data = .seq its.toArray n ∧ its.length = m
  kp : PySem.W.keepIn K (.ref f) = true
theorem FunD1.binds {x : Str} {st : Stmt} {m : Nat} {f : Addr} {fd : FuncData} {ps : List Str} (F : FunD1 K x st m f fd)
    (h : ∀ (T : Addr) (kV doc pm : Value) (an : Option Addr) (cdv ct : Value) (us its : List Value), us.length = ps.length → its.length = m →
      ∃ k, bindArgs (PySem.W.fnOf x x (defArgs st) (defBody st) (defScope st) (.ref T) kV doc pm an cdv ct) ⟨us, []⟩ = seqItems? (.ref T) >>= k ∧ k (some its.toArray) = pure (ps.zip us)) : Binds K fd ps [] := fun s us X hl => by
  obtain ⟨oc, od, T, kV, doc, pm, an, cdv, ct, osl, o, its, n, rfl, lk, cd, lT, oT, hm⟩ := F.ex
  rw [List.append_nil] at hl ⊢
  obtain ⟨k, e1, e2⟩ := h T kV doc pm an cdv ct us its hl hm
  refine L2.BindsTo.of_looks fun M => ?_
  rw [e1]
  exact L2.looks_items X lT oT (.of_pure e2)
/-- by its body -/
theorem fnq_ofV {x : Str} {st : Stmt} {f : Addr} {fd : FuncData} {N ps : List Str} {k : Nat} {sp : Sp} (F : FunV K x st f fd) (S : FnScope N ps (defScope st)) (ln : ∀ xs G Z W, sp xs G Z W → xs.length = ps.length)
    (body : ∀ (cv : Value) (B : Around) (out : List PySem.Env) (s0 : Shared) (G : Hp) (xs : List V) (Z : VK) (W : XK), Room k (B.deeper (envOfC x (defScope st) s0.heap.objs.size f cv)) → B.guards = some [] → sp xs G Z W →
      ∃ t, PSs (cxOf CX P w K mg base N x (defScope st) f cv B out s0 G W) (defBody st) t ∧ t { nx := fun _ G' => Z .non G', rt := Z } (start N xs) G) : FnQ P w K mg base CX (k + 1) f fd ps sp := by
  obtain ⟨oc, od, dV, kV, doc, pm, an, cv, ct, sl, rfl, lk, cd⟩ := F.ex
  refine ⟨ln, fun B out s0 G ar us xs Z W rm gd e0 bd vs hs => ?_⟩
  have same := ln _ _ _ _ hs
  have up : ∀ b o, base.get? b = some o → s0.heap.get? b = some o := fun b o e => (e0.bs b o e).1
  have kin : K.In s0.heap := e0.mod.kin.keeps up
  have nol : s0.heap.NoLimit := e0.mod.nolimit.keeps up
  have kinds : ∀ y ∈ ps.zip us, (defScope st).names.lookup y.1 = some .local ∨ ((defScope st).names.lookup y.1 = some .cell ∧ ((cellsFrom (s0.heap.objs.size + 1) (defScope st).names []).lookup y.1).isSome = true) := by
    intro y hy
    obtain ⟨n, v⟩ := y
    have hn := (List.of_mem_zip hy).1
    cases S.par n hn with
    | inl q => exact .inl q
    | inr q => exact .inr ⟨q, PySem.W.cellsFrom_some _ _ _ (.inl q)⟩
  refine codeAny_call_function rm.depth (kin _ _ lk) rfl S.co S.gen rfl (PySem.W.codeRec_of kin cd) (bd _ _ _ _ (wpAny_newFunctionEnv_cells S.kind kinds fun env ee s1 xx => ?_))
  subst ee
  obtain ⟨t, pt, tq⟩ := body cv B out s0 G xs Z W (rm.deeper _) gd hs
  have inv := inv_start (CX := CX) (E := W) S rm.hd e0 same vs xx
  refine ⟨nol.keeps xx.toInCall.keep, codeAny_func (wpAny_mono (pt.run [] s1 (start N xs) G _ inv tq) (fun fl s2 h2 => ?_) fun e s2 h2 => h2)⟩
  have stop : ∀ {τ : L2.St} {G' : Hp} {v : V} {u : Value}, Inv (cxOf CX P w K mg base N x (defScope st) f cv B out s0 G W) [] τ G' s2 → RelV v u → Z v G' → CE out P w G s0 Z u s2 := by
    intro τ G' v u J rv q
    exact ⟨v, G', J.os, J.bare, J.base, J.hok, rv, q⟩
  match fl, h2 with
  | .ret u, h2 => obtain ⟨v, τ, G', J, rv, q⟩ := h2; exact stop J rv q
  | .next, h2 => obtain ⟨τ, G', J, q⟩ := h2; exact stop (v := V.non) (u := Value.none) J rfl q
  | .brk, h2 => obtain ⟨_, _, _, q⟩ := h2; cases q
  | .cont, h2 => obtain ⟨_, _, _, q⟩ := h2; cases q
/-- by its body -/
theorem fnq_of {x : Str} {st : Stmt} {f : Addr} {fd : FuncData} {N ps : List Str} {k : Nat} {sp : Sp} (F : Fun K x x st f fd) (S : FnScope N ps (defScope st)) (ln : ∀ xs G Z W, sp xs G Z W → xs.length = ps.length)
    (body : ∀ (cv : Value) (B : Around) (out : List PySem.Env) (s0 : Shared) (G : Hp) (xs : List V) (Z : VK) (W : XK), Room k (B.deeper (envOfC x (defScope st) s0.heap.objs.size f cv)) → B.guards = some [] → sp xs G Z W →
      ∃ t, PSs (cxOf CX P w K mg base N x (defScope st) f cv B out s0 G W) (defBody st) t ∧ t { nx := fun _ G' => Z .non G', rt := Z } (start N xs) G) : FnQ P w K mg base CX (k + 1) f fd ps sp := fnq_ofV (funV_of F) S ln body
end
section
variable {X : Cx} {CX : CXT} {k : Nat} {f : Addr} {fd : FuncData} {ps : List Str} {sp : Sp} {E : XK} {x : Str} {p pos : Pos} {e : Expr} {es : List Expr} {t : TA}
theorem go_fn {pins : List (Addr × Obj)} {σ : L2.St} {H : Hp} {s : Shared} {Q : VK} {us : List Value} {vs : List V} (F : FnQ X.prog X.w X.K X.mg X.base CX k f fd ps sp) (hr : Room k X.A) (hg : X.A.guards = some []) (hb : Binds X.K fd ps [])
    (hx : Passes CX X E) (I : Inv X pins σ H s) (r : Vals vs us) (h : sp vs H Q E) : wpAny (model X.prog X.w) X.A (call (.ref f) us) (EP X pins σ Q) X.xe s := by
  have hl : us.length = ps.length := by rw [← r.length]; exact F.ln _ _ _ _ h
  have bd := hb s us I.kIn (by simpa using hl)
  rw [List.append_nil] at bd
  refine wpAny_call (codeAny_mono (F.go X.A X.stack s H ⟨us, []⟩ us vs Q E hr hg I.env0 bd r h) fun rr s' hq => ?_)
  match rr, hq with
  | .error e, hq => exact hx pins σ H s e s' I hq
  | .ok (.ret u), hq => exact I.after hq
  | .ok .next, hq => cases hq
  | .ok .brk, hq => cases hq
  | .ok .cont, hq => cases hq
theorem pe_callQ (F : FnQ X.prog X.w X.K X.mg X.base CX k f fd ps sp) (hr : Room k X.A) (gd : X.A.guards = some []) (hg : Gl X x) (hm : X.mg x = some (.ref f)) (hk : PySem.W.keepIn X.K (.ref f) = true) (hb : Binds X.K fd ps [])
    (hx : Passes CX X E) (ha : PA X (e :: es) t) (hdb : (x == ("__debug__" : Str)) = false := by decide) (he : starEach (e :: es) X.env = (false, eval e X.env) :: starEach es X.env := by rfl)
    (hpl : (backTo pos (starEach es X.env)).any (·.1) = false := by rfl) : PE X (.Call (.Name x p) (e :: es) [] pos) (tCall sp [] E t) := by
  refine ⟨fun pins s σ H Q I h => wpAny_Call_Name_kw (ld_glob I hg hm ?_ hdb)⟩
  refine PySem.W.callWith_K (h₀ := X.base) I.ok.mod.kin hk (thn (ha.run pos pins s σ H _ I h) ?_) he hpl
  rintro us s1 ⟨vs, H1, I1, r, q⟩
  rw [List.append_nil] at q
  exact ⟨I1.kIn, go_fn F hr gd hb hx I1 r q⟩
end
/-! ### the law's call -/
theorem law_goes {P : Program} {w : World} {K : PySem.W.Frag} {mg mb : Str → Option Value} {CX : CXT} {k : Nat} {fa a : Addr} {fd : FuncData} {x : Str} {sp : Sp} {st : Shared} {us : List Value} {ns : List Int}
    (kin : K.In st.heap) (nsm : st.heap.Ns mainGlobals mg) (nsb : st.heap.Ns builtinsNs mb) (boot : ∀ y : Str, y ≠ "__name__" → mb y = bootBuiltins y) (nol : st.heap.NoLimit) (gens : st.gens = #[])
    (obj : st.heap.get? a = some { cls := .type "list", data := .seq us.toArray }) (hin : IntsAre us ns) (most : ns.length ≤ sizeLine) (rm : Room k callerA)
    (F : ∀ base : Heap, K.In base → base.Ns mainGlobals mg → FnQ P w K mg base CX k fa fd [x] sp) (bd : ∀ (s : Shared) (u : Value), BindsTo s fd ⟨[u], []⟩ [(x, u)])
    (hsp : ∀ G : Hp, SqL K G a (ns.map V.int) → sp [.ref a] G (fun v _ => v = .bl true) fun _ _ _ => False) (noX : ∀ G e s', CX [] G st (fun _ _ _ => False) e s' → False) :
    codeAny (model P w) callerA (.call (.ref fa) ⟨[.ref a], []⟩) (fun r s' => r = .ok (.ret (.bool true)) ∧ OldK st.heap s'.heap ∧ s'.os = st.os ∧ AllBare s'.gens) st := by
  -- G: either nothing is tracked, or the script alone, frozen
  suffices main : ∀ G : Hp, (∀ b u, G b = some u → b = a ∧ K.lookup a = none ∧ ∃ o zs, u = .frz o (.lst zs)) → SqL K G a (ns.map V.int) → HOk P w G st.heap →
      codeAny (model P w) callerA (.call (.ref fa) ⟨[.ref a], []⟩) (fun r s' => r = .ok (.ret (.bool true)) ∧ OldK st.heap s'.heap ∧ s'.os = st.os ∧ AllBare s'.gens) st by
    cases hk : K.lookup a with
    | some o =>
      have e := kin a o hk
      rw [obj] at e
      cases e
      refine main (fun _ => none) (fun b u z => by cases z) (.inr ⟨_, us.toArray, _, hk, rfl, rfl, rfl, ?_, ?_⟩) (fun b u z => by cases z)
      · rw [List.size_toArray, hin.length]; exact most
      · simpa using vals_ints hin
    | none =>
      let G : Hp := fun b => if b = a then some (.frz { cls := .type "list", data := .seq us.toArray } (.lst (ns.map V.int))) else none
      have Ga : G a = some (.frz { cls := .type "list", data := .seq us.toArray } (.lst (ns.map V.int))) := if_pos rfl
      have Gn : ∀ b u, G b = some u → b = a := fun b u z => by
        by_cases hb : b = a
        · exact hb
        · have : G b = none := if_neg hb
          rw [this] at z; cases z
      refine main G (fun b u z => ?_) (.inl (.inr ⟨_, Ga⟩)) (fun b u z => ?_)
      · have hb := Gn b u z
        subst hb
        rw [Ga] at z
        exact ⟨rfl, hk, _, _, (Option.some.inj z).symm⟩
      · have hb := Gn b u z
        subst hb
        rw [Ga] at z
        cases z
        exact ⟨obj, by rw [List.length_map]; exact most, us, _, vals_ints hin, obj⟩
  intro G hG sq hok
  have there : ∀ {b : Addr} {o : Obj}, st.heap.get? b = some o → G b = none → (hidT st.heap G).get? b = some o := fun e n => hidT_get e n
  have notd : ∀ {b : Addr} {o : Obj} {es : Array DictEntry} {n : Nat}, st.heap.get? b = some o → o.data = .dict es n → G b = none := by
    intro b o es n e dd
    cases q : G b with
    | none => rfl
    | some u =>
      obtain ⟨rfl, _, _⟩ := hG b u q
      rw [obj] at e
      cases e
      cases (dd : Data.seq us.toArray _ = Data.dict es n)
  have nsAt : ∀ {b : Addr} {m : Str → Option Value}, st.heap.Ns b m → (hidT st.heap G).Ns b m := by
    rintro b m ⟨o, es, ep, e, dd, r⟩
    exact ⟨o, es, ep, there e (notd e dd), dd, r⟩
  have kinT : K.In (hidT st.heap G) := by
    intro b o e
    refine there (kin b o e) ?_
    cases q : G b with
    | none => rfl
    | some u =>
      obtain ⟨rfl, hn, _⟩ := hG b u q
      rw [hn] at e; cases e
  have md : Mod K mg (hidT st.heap G) := by
    obtain ⟨mc, n1, n2⟩ := nol
    exact ⟨kinT, nsAt nsm, ⟨mb, nsAt nsb, boot⟩, ⟨mc, nsAt n1, n2⟩⟩
  have env0 : Env0 P w K mg (hidT st.heap G) callerA [] st G :=
    ⟨rfl, md, fun b o e => of_hidT e, Nat.le_of_eq (hidT_size _ _), trivial, fun b hb => (List.not_mem_nil hb).elim, hok, .of_eq gens⟩
  refine codeAny_mono ((F _ kinT (nsAt nsm)).go callerA [] st G ⟨[.ref a], []⟩ [.ref a] [.ref a] _ _ rm rfl env0 (bd st (.ref a)) (.cons rfl .nil) (hsp G sq)) fun r s' h => ?_
  match r, h with
  | .error e, h => exact (noX G e s' h).elim
  | .ok .next, h => cases h
  | .ok .brk, h => cases h
  | .ok .cont, h => cases h
  | .ok (.ret u), h =>
    obtain ⟨v, G', os, bare, un, hok', rv, q⟩ := h
    have q : v = .bl true := q
    subst q
    obtain rfl : u = Value.bool true := rv
    refine ⟨rfl, OldK.of_keep fun b o e => ?_, os, bare⟩
    cases q : G b with
    | none => exact un.keep b o e q (by intro z; cases (show b ∈ ([] : List Addr) from z)) (by simp)
    | some u =>
      obtain ⟨rfl, _, ob, zs, rfl⟩ := hG b u q
      obtain ⟨e1, _⟩ := hok _ _ q
      obtain ⟨e2, _⟩ := hok' _ _ (un.frzs _ ob _ q)
      rw [e] at e1
      cases e1
      exact e2
theorem walkQ {l : PySem.W.OpenLaw} {n k : Nat} {q : Program} {loose : List Str} {XP : (Str → Option Value) → Heap → Prop} {YP : World → Heap → Prop} {d : DefRec} {K : Params → PySem.W.Frag} {CX : World → CXT} {sp : World → Sp} {x : Str}
    (hmo : l.most = some n) (le : n ≤ sizeLine) (dflt : d.params.defaults = []) (rm : Room k callerA) (kin : ∀ (w : World) (h : Heap), YP w h → (K w.params).In h)
    (F : ∀ (w : World) (mg : Str → Option Value) (fa : Addr) (h : Heap), (K w.params).In h → h.Ns mainGlobals mg → mg d.name = some (.ref fa) →
      ∃ fd : FuncData, (∀ (s : Shared) (u : Value), BindsTo s fd ⟨[u], []⟩ [(x, u)]) ∧ ∀ base : Heap, (K w.params).In base → base.Ns mainGlobals mg → FnQ l.prog w (K w.params) mg base (CX w) k fa fd [x] (sp w))
    (hsp : ∀ (w : World) (G : Hp) (a : Addr) (ns : List Int), ns.length ≤ n → SqL (K w.params) G a (ns.map V.int) → sp w [.ref a] G (fun v _ => v = .bl true) fun _ _ _ => False)
    (noX : ∀ (w : World) (G : Hp) (s : Shared) (e : Value) (s' : Shared), CX w [] G s (fun _ _ _ => False) e s' → False) : PySem.W.WalkO q loose XP YP l.row.toRowW d [] (fun f vs => PySem.call f vs) := by
  refine Att.attach_call hmo dflt ?_
  intro w s0 s1 mg mb fa o pm cd doc a us ns G Y hobj hdat hcd hmg hlist hints hlen hgens
  obtain ⟨fd, bd, FF⟩ := F w mg fa _ (kin w _ Y) G.T.g hmg
  exact law_goes (kin w _ Y) G.T.g G.T.b G.T.builtins G.T.nolimit hgens hlist hints (Nat.le_trans hlen le) rm FF bd (fun H hS => hsp w H a ns hlen hS) fun H e s' => noX w H s1 e s'
end MR
namespace MR
open PySem L2 PL
variable [kf : KF] [wx : WXI]
/-! ### promises by functions -/
/-- frozen arguments; f tells the result -/
def spP (n : Nat) (f : List D → Option OT) : Sp := fun vs H Q _ => ∃ S ds r, ds.length = n ∧ Same S H ∧ RpAll S vs ds ∧ f ds = some r ∧
  ∀ v S' H' B, Xt S H S' H' → OOk S' H' v r B → B.Nodup → (∀ a ∈ B, H a = none) → Q v H'
/-- the first argument is changed in place -/
def spI (n : Nat) (f : OT → List D → Option (OT × OT)) : Sp := fun vs H Q _ => ∃ v0 us S A t ds r t', vs = v0 :: us ∧ ds.length + 1 = n ∧ Same S H ∧ OOk S H v0 t A ∧ A.Nodup ∧ RpAll S us ds ∧ f t ds = some (r, t') ∧
  ∀ v S' H' B, Xa A S H S' H' → EOk S' H' [some v, some v0] [r, t'] B → B.Nodup → (∀ a ∈ B, a ∈ A ∨ H a = none) → Q v H'
theorem spP_len {n : Nat} {f : List D → Option OT} {ps : List Str} (e : ps.length = n) : ∀ vs H Q E, spP n f vs H Q E → vs.length = ps.length := fun vs H Q E h => by
  obtain ⟨S, ds, r, h1, _, h2, _⟩ := h
  rw [e, ← h1]; exact dpa_length h2
theorem spI_len {n : Nat} {f : OT → List D → Option (OT × OT)} {ps : List Str} (e : ps.length = n) : ∀ vs H Q E, spI n f vs H Q E → vs.length = ps.length := fun vs H Q E h => by
  obtain ⟨v0, us, S, A, t, ds, r, t', rfl, h1, _, _, _, h2, _⟩ := h
  rw [e, List.length_cons, dpa_length h2]; omega
def fin : Option (Fl × Env) → Option OT
  | some (.rt .no, _) => Option.none
  | some (.rt r, _) => some r
  | some (.nx, _) => some (.d .none)
  | _ => Option.none
def finI : Option (Fl × Env) → Option (OT × OT)
  | some (.rt .no, _) => Option.none
  | some (.rt r, t :: _) => some (r, t)
  | some (.nx, t :: _) => some (.d .none, t)
  | _ => Option.none
section
variable {S H S' H' S0 H0 : Hp}
theorem eok_start {vs : List V} {ds : List D} (h : RpAll S vs ds) (k : Nat) : EOk S H (vs.map some ++ List.replicate k Option.none) (ds.map .d ++ List.replicate k .no) [] := by
  have nos : ∀ k, EOk S H (List.replicate k Option.none) (List.replicate k .no) [] := by
    intro k
    induction k with
    | zero => exact .nil
    | succ k ih => exact (EOk.cons .no ih : EOk S H _ _ ([] ++ []))
  induction ds generalizing vs with
  | nil => cases h; exact nos k
  | cons x ds ih => cases h with | cons a t => exact (EOk.cons (.is (.d a)) (ih t) : EOk S H _ _ ([] ++ []))
theorem def_plain {n : Nat} {f : List D → Option OT} {vs : List V} {H : Hp} {Q : VK} {E : XK} {N : List Str} {t : TS} (h : spP n f vs H Q E)
    (hb : ∀ ds r, ds.length = n → f ds = some r → ∃ o, fin o = some r ∧ ∀ fl ρ', o = some (fl, ρ') → RunS [] t (ds.map .d ++ List.replicate (N.length - n) .no) fl ρ') :
    t { nx := fun _ H' => Q .non H', rt := Q } (L2.start N vs) H := by
  obtain ⟨S, ds, r, hn, sh, hr, hf, q⟩ := h
  obtain ⟨o, ho, hR⟩ := hb ds r hn hf
  have hl : vs.length = n := by rw [dpa_length hr, hn]
  have ok0 : Ok S H [] S H (L2.start N vs) (ds.map .d ++ List.replicate (N.length - n) .no) := by
    refine ⟨Xa.refl sh, [], ?_, List.nodup_nil, fun a ha => by cases ha⟩
    show EOk S H (vs.map some ++ List.replicate (N.length - vs.length) Option.none) _ _
    rw [hl]; exact eok_start hr _
  cases o with
  | none => cases ho
  | some p =>
    obtain ⟨fl, ρ'⟩ := p
    refine hR fl ρ' rfl S H [] S H _ [] _ rfl (fun p hp => by cases hp) ok0 ?_
    cases fl with
    | nx =>
      cases ho
      exact fun S' H' σ' ss _ o' => q .non S' H' [] o'.xt.xt (.d .non) List.nodup_nil fun a ha => by cases ha
    | bk => cases ho
    | ct => cases ho
    | xc x => cases ho
    | rt r' =>
      have hr' : r' = r ∧ r ≠ .no := by
        cases r' with
        | no => cases ho
        | d x => cases ho; exact ⟨rfl, by intro z; cases z⟩
        | nd k ts => cases ho; exact ⟨rfl, by intro z; cases z⟩
        | fl ts => cases ho; exact ⟨rfl, by intro z; cases z⟩
        | ex x => cases ho; exact ⟨rfl, by intro z; cases z⟩
        | si x => cases ho; exact ⟨rfl, by intro z; cases z⟩
      obtain ⟨rfl, hn'⟩ := hr'
      intro v S' H' σ' ss _ o'
      obtain ⟨B, h1, h2, h3⟩ := o'.env
      cases h1 with
      | @cons _ _ A1 _ _ B1 p1 p2 =>
        cases p1 with
        | no => exact (hn' rfl).elim
        | is p1 =>
          refine q v S' H' A1 o'.xt.xt p1 (List.nodup_append.mp h2).1 fun a ha => ?_
          rcases h3 a (List.mem_append_left _ ha) with z | z
          · cases z
          · exact z
theorem def_io {n : Nat} {f : OT → List D → Option (OT × OT)} {vs : List V} {H : Hp} {Q : VK} {E : XK} {N : List Str} {t : TS} (h : spI n f vs H Q E)
    (hb : ∀ t0 ds r t', ds.length + 1 = n → f t0 ds = some (r, t') → ∃ o, finI o = some (r, t') ∧ ∀ fl ρ', o = some (fl, ρ') → RunS [0] t (t0 :: (ds.map .d ++ List.replicate (N.length - n) .no)) fl ρ') :
    t { nx := fun _ H' => Q .non H', rt := Q } (L2.start N vs) H := by
  obtain ⟨v0, us, S, A, t0, ds, r, t', rfl, hn, sh, h0, hA, hr, hf, q⟩ := h
  obtain ⟨o, ho, hR⟩ := hb t0 ds r t' hn hf
  have hl : us.length + 1 = n := by rw [dpa_length hr, hn]
  have ok0 : Ok S H A S H (L2.start N (v0 :: us)) (t0 :: (ds.map .d ++ List.replicate (N.length - n) .no)) := by
    refine ⟨Xa.refl sh, A ++ [], ?_, by simpa using hA, fun a ha => .inl (by simpa using ha)⟩
    show EOk S H (some v0 :: (us.map some ++ List.replicate (N.length - (us.length + 1)) Option.none)) _ _
    rw [hl]
    exact .cons (.is h0) (eok_start hr _)
  have fx0 : Fx [(0, v0)] (L2.start N (v0 :: us)) := fun p hp => by
    rw [List.mem_singleton.mp hp]; rfl
  cases o with
  | none => cases ho
  | some p =>
    obtain ⟨fl, ρ'⟩ := p
    refine hR fl ρ' rfl S H A S H _ [(0, v0)] _ rfl fx0 ok0 ?_
    cases fl with
    | bk => cases ho
    | ct => cases ho
    | xc x => cases ρ' <;> cases ho
    | nx =>
      intro S' H' σ' ss fx o'
      cases ρ' with
      | nil => cases ho
      | cons t1 ρ' =>
        cases ho
        have fx := fx _ List.mem_cons_self
        obtain ⟨B, h1, h2, h3⟩ := o'.env
        cases h1 with
        | @cons w _ A1 σ1 _ B1 p1 p2 =>
          have e : w = some v0 := by simpa using fx
          subst e
          refine q .non S' H' ([] ++ (A1 ++ [])) o'.xt (.cons (.is (.d .non)) (.cons p1 .nil)) (by simpa using (List.nodup_append.mp h2).1) fun a ha => ?_
          exact h3 a (List.mem_append_left _ (by simpa using ha))
    | rt r' =>
      have hr' : r' = r ∧ ∃ ρ1, ρ' = t' :: ρ1 := by
        cases r' with
        | no => cases ho
        | d x => cases ρ' with
          | nil => cases ho
          | cons a b => cases ho; exact ⟨rfl, _, rfl⟩
        | nd k ts => cases ρ' with
          | nil => cases ho
          | cons a b => cases ho; exact ⟨rfl, _, rfl⟩
        | fl ts => cases ρ' with
          | nil => cases ho
          | cons a b => cases ho; exact ⟨rfl, _, rfl⟩
        | ex x => cases ρ' with
          | nil => cases ho
          | cons a b => cases ho; exact ⟨rfl, _, rfl⟩
        | si x => cases ρ' with
          | nil => cases ho
          | cons a b => cases ho; exact ⟨rfl, _, rfl⟩
      obtain ⟨rfl, ρ1, rfl⟩ := hr'
      intro v S' H' σ' ss fx o'
      have fx := fx _ List.mem_cons_self
      obtain ⟨B, h1, h2, h3⟩ := o'.env
      cases h1 with
      | @cons _ _ A1 _ _ B1 p1 p2 =>
        cases p2 with
        | @cons w _ A2 σ1 _ B2 q1 q2 =>
          have e : w = some v0 := by simpa using fx
          subst e
          have nd := List.nodup_append.mp h2
          have nd2 := List.nodup_append.mp nd.2.1
          refine q v S' H' (A1 ++ (A2 ++ [])) o'.xt (.cons p1 (.cons q1 .nil)) ?_ fun a ha => ?_
          · rw [List.append_nil]
            exact List.nodup_append.mpr ⟨nd.1, nd2.1, fun a ha b hb => nd.2.2 a ha b (List.mem_append_left _ hb)⟩
          · rw [List.append_nil] at ha
            rcases List.mem_append.mp ha with z | z
            · exact h3 a (List.mem_append_left _ z)
            · exact h3 a (List.mem_append_right _ (List.mem_append_left _ z))
end
/-! ### calls -/
mutual
def OT.lf : OT → Bool
  | .no => false
  | .d x => tfl x
  | .nd _ ts => OT.lfs ts
  | .fl _ => false
  | .ex _ => false
  | .si _ => false
def OT.lfs : List OT → Bool
  | [] => true
  | t :: ts => OT.lf t && OT.lfs ts
end
section
variable {S S1 H : Hp}
theorem frz_none {a : Addr} {u : HO} (h : S1 a = none) (hu : H a = some u) (nt : ∀ xs, u ≠ .tup xs) : frz S1 H [] a = none := by
  rw [frz_out (by simp) fun xs z => nt xs (by rw [hu] at z; exact Option.some.inj z)]; exact h
mutual
theorem ook_lf (sh : Same S H) : ∀ (t : OT) (v : V) (A : List Addr), OOk S H v t A → t.lf = true → (∀ a ∈ A, S1 a = none) → OOk (frz S1 H []) H v t A
  | .no, _, _, h, _, _ => by cases h; exact .no
  | .d x, _, _, h, f, _ => by
    simp only [OT.lf] at f
    cases h with | d h => exact .d (rp_tfl [] x _ f (dp_mono sh _ _ h))
  | .nd k ts, _, _, h, f, hs => by
    simp only [OT.lf] at f
    cases h with
    | tup h1 h2 => exact .tup h1 (oall_lf sh ts _ _ h2 f hs)
    | nd h0 h1 h2 h3 h4 => exact .nd h0 h1 (frz_none (hs _ List.mem_cons_self) h3 (shape_tup h0)) h3 (oall_lf sh ts _ _ h4 f fun a ha => hs a (List.mem_cons_of_mem _ ha))
  | .fl ts, _, _, h, f, hs => by simp [OT.lf] at f
  | .ex x, _, _, h, f, hs => by simp [OT.lf] at f
  | .si x, _, _, h, f, hs => by simp [OT.lf] at f
theorem oall_lf (sh : Same S H) : ∀ (ts : List OT) (vs : List V) (A : List Addr), OAll S H vs ts A → OT.lfs ts = true → (∀ a ∈ A, S1 a = none) → OAll (frz S1 H []) H vs ts A
  | [], _, _, h, _, _ => by cases h; exact .nil
  | t :: ts, _, _, h, f, hs => by
    simp only [OT.lfs, Bool.and_eq_true] at f
    cases h with
    | cons h1 h2 => exact .cons (ook_lf sh t _ _ h1 f.1 fun a ha => hs a (List.mem_append_left _ ha)) (oall_lf sh ts _ _ h2 f.2 fun a ha => hs a (List.mem_append_right _ ha))
end
/-- with everything stable ahead of it; then with what was stable, and the tuples -/
theorem xt_low {S1 H1 S' H' : Hp} (sh : Same S1 H1) (xt : Xt H1 H1 S' H') : Xt S1 H1 (frz S1 H' []) H' :=
  Xt.trans ⟨xt.hh, Same.refl S1, sh.trans xt.hh, fun _ _ e => .inl e⟩ (xt_frz (sh.trans xt.hh))
end
section
variable {ρ ρ1 ρ2 ρ' : Env} {ta tb tc te : TE} {tl : TA} {d e x y : D} {r s t : OT} {S H S' H' S0 H0 : Hp} {A0 : List Addr} {n : Nat} {f : List D → Option OT} {ds : List D} {E : XK}
theorem evy_call (h : EvL tl ρ ds ρ1) (hn : ds.length = n) (hf : f ds = some r) : EvY (tCall (spP n f) [] E tl) ρ r ρ1 := fun S0 H0 A0 S H τσ τρ σ Q l o q =>
  h S0 H0 A0 S H τσ τρ σ _ l o fun vs S1 H1 s1 o1 h1 => by
    rw [List.append_nil]
    exact ⟨S1, ds, r, hn, o1.sh, h1, hf, fun v S' H' B xt hr nd fr => q v S' H' (s1.trans xt.ss) (o1.push xt hr nd fr)⟩
theorem rd_call (h : RdL tl ρ ds) (hn : ds.length = n) (hf : f ds = some r) (hx : r.toD = some x) : RdE (tCall (spP n f) [] E tl) ρ x := fun S0 H0 A0 S H τσ τρ σ Q l o q =>
  h S0 H0 A0 S H τσ τρ σ _ l o fun vs S1 H1 x1 h1 => by
    rw [List.append_nil]
    refine ⟨H1, ds, r, hn, Same.refl H1, h1, hf, fun v S' H' B xt hr nd fr => ?_⟩
    exact q v S1 H' (x1.trans ⟨xt.hh, Same.refl S1, x1.sh.trans xt.hh, fun _ _ e => .inl e⟩) (ook_rp xt.sh _ _ _ _ hr hx)
theorem evy_callR (h : RdL tl ρ ds) (hn : ds.length = n) (hf : f ds = some r) (hx : r.lf = true) : EvY (tCall (spP n f) [] E tl) ρ r ρ := fun S0 H0 A0 S H τσ τρ σ Q l o q =>
  h S0 H0 A0 S H τσ τρ σ _ l o fun vs S1 H1 x1 h1 => by
    rw [List.append_nil]
    refine ⟨H1, ds, r, hn, Same.refl H1, h1, hf, fun v S' H' B xt hr nd fr => ?_⟩
    have x2 := xt_low x1.sh xt
    exact q v _ H' (x1.ss.trans x2.ss) ((o.ext x1).push x2 (ook_lf xt.sh _ _ _ hr hx fun a ha => x1.sh.free (fr a ha)) nd fr)
theorem xa_sub {A : List Addr} {S1 H1 : Hp} (x : Xa A0 S0 H0 S1 H1) (y : Xa A S1 H1 S' H') (h : ∀ a ∈ A, a ∈ A0 ∨ H0 a = none) : Xa A0 S0 H0 S' H' :=
  ⟨fun b o n e => y.hh b o (fun z => by
      rcases h b z with w | w
      · exact n w
      · rw [w] at e; cases e) (x.hh b o n e), fun b e => x.dm b (y.dm b e), fun b xs e => y.tp b xs (x.tp b xs e), x.ss.trans y.ss, y.sh, fun b o e => by
    rcases y.nw b o e with q | q | q
    · exact x.nw b o q
    · rcases h b q with w | w
      · exact .inr (.inl w)
      · exact .inr (.inr fun u hu => by rw [w] at hu; cases hu)
    · by_cases hb : b ∈ A0
      · exact .inr (.inl hb)
      · exact .inr (.inr fun u hu => q u (x.hh b u hb hu))⟩
/-- f(x, ..), x's slot changed in place -/
theorem evy_callI {i : Nat} {g : OT → List D → Option (OT × OT)} {t0 t' : OT} (h0 : ρ[i]? = some t0) (hn0 : t0 ≠ .no) (h : EvL tl ρ ds ρ1) (ht : ρ1[i]? = some t) (hnt : t ≠ .no) (hn : ds.length + 1 = n) (hf : g t ds = some (r, t')) :
    EvY (tCall (spI n g) [] E (tCons (tVar i) tl)) ρ r (ρ1.set i t') := fun S0 H0 A0 S H τσ τρ σ Q l o q => by
  obtain ⟨v0, _, e1, _⟩ := o.slot l h0 hn0
  refine ⟨v0, e1, h S0 H0 A0 S H τσ τρ σ _ l o fun us S1 H1 s1 o1 h1 => ?_⟩
  show spI n g ((v0 :: us) ++ []) H1 Q E
  rw [List.append_nil]
  obtain ⟨B, he, nd, fr⟩ := o1.env
  obtain ⟨w, A, p1, p2, p3, p4, p5⟩ := he.pick nd (i := τρ.length + i) (s := t) (by rw [get_app rfl]; exact ht)
  rw [get_app l, e1] at p1
  cases p1
  cases p2 with
  | no => exact (hnt rfl).elim
  | is p2 =>
    refine ⟨v0, us, S1, A, t, ds, r, t', rfl, hn, o1.sh, p2, p3, h1, hf, fun v S' H' C xa ec ndC frC => ?_⟩
    cases ec with
    | @cons _ _ C1 _ _ C2' c1 c2 =>
      cases c2 with
      | @cons _ _ C2 _ _ C3 c2 c3 =>
        cases c3
        rw [List.append_nil] at ndC frC
        have ndC' := List.nodup_append.mp ndC
        have inB : ∀ a, a ∈ B → ∃ u, H1 a = some u ∧ ∀ xs, u ≠ .tup xs := fun a ha => (he.at a ha).2
        have dis : ∀ a, (a ∈ A ∨ H1 a = none) → a ∈ B → a ∈ A := fun a h hb => by
          rcases h with z | z
          · exact z
          · obtain ⟨u, hu, _⟩ := inB a hb
            rw [z] at hu; cases hu
        obtain ⟨B', q1, q2, q3⟩ := p5 (S' := S') (H' := H') (v' := some v0) (s' := t') (A' := C2) xa.ss xa.tp (fun a ha na => by
          obtain ⟨z1, u, z2, z3⟩ := he.at a ha
          refine ⟨?_, by rw [z2]; exact xa.hh a u na z2⟩
          cases qq : S' a with
          | none => rfl
          | some o' =>
            rcases xa.nw a o' qq with y | y | y
            · rw [z1] at y; cases y
            · exact (na y).elim
            · obtain ⟨xs, y⟩ := y u z2; exact (z3 xs y).elim) c2 ndC'.2.1 (fun a ha => by
          by_cases hb : a ∈ B
          · exact .inl (dis a (frC a (List.mem_append_right _ ha)) hb)
          · exact .inr hb)
        rw [set_app l, set_app rfl, set_same e1] at q1
        refine q v S' H' (s1.trans xa.ss) ⟨xa_sub o1.xt xa fun a ha => fr a (p4 a ha), C1 ++ B', .cons c1 q1, ?_, fun a ha => ?_⟩
        · refine List.nodup_append.mpr ⟨ndC'.1, q2, fun a ha b hb e => ?_⟩
          subst e
          rcases q3 a hb with z | ⟨z1, z2⟩
          · exact ndC'.2.2 a ha a z rfl
          · exact z2 (dis a (frC a (List.mem_append_left _ ha)) z1)
        · have sub : ∀ a, a ∈ A ∨ H1 a = none → a ∈ A0 ∨ H0 a = none := fun a h => by
            rcases h with z | z
            · exact fr a (p4 a z)
            · exact .inr (o1.xt.dm a z)
          rcases List.mem_append.mp ha with z | z
          · exact sub a (frC a (List.mem_append_left _ z))
          · rcases q3 a z with y | y
            · exact sub a (frC a (List.mem_append_right _ y))
            · exact fr a y.1
end
end MR
namespace MR
open PySem L2 PL
variable [kf : KF]
/-! ### paths into owned trees -/
def OT.at : OT → List Nat → Option OT
  | t, [] => some t
  | .nd _ ts, i :: p => match ts[i]? with
    | some t => OT.at t p
    | Option.none => Option.none
  | _, _ :: _ => Option.none
def OT.put : OT → List Nat → OT → OT
  | _, [], s => s
  | .nd k ts, i :: p, s => match ts[i]? with
    | some t => .nd k (ts.set i (OT.put t p s))
    | Option.none => .nd k ts
  | t, _ :: _, _ => t
def kids : Option HO → List V
  | some (.lst vs) => vs
  | some (.tup vs) => vs
  | some (.dK kvs) => kvs.map (·.2)
  | some (.dT kvs) => kvs.map (·.2)
  | _ => []
/-- where a path leads, in the heap -/
def follow (H : Hp) : V → List Nat → Option V
  | v, [] => some v
  | .ref a, i :: p => match (kids (H a))[i]? with
    | some v => follow H v p
    | Option.none => Option.none
  | _, _ :: _ => Option.none
section
variable {S H S' H' S0 H0 : Hp}
theorem kids_shape {k : Kd} {vs : List V} {n : Nat} (h : k.fits n) (hn : vs.length = n) : kids (some (shape k vs)) = vs := by
  cases k with
  | lst => rfl
  | tup => rfl
  | dK ks =>
    show (ks.zip vs).map (·.2) = vs
    rw [List.map_snd_zip]; have h : ks.length = n := h; omega
  | dT ks =>
    show (ks.zip vs).map (·.2) = vs
    rw [List.map_snd_zip]; have h : ks.length = n := h; omega
theorem OAll.pick : ∀ {ts : List OT} {vs : List V} {B : List Addr}, OAll S H vs ts B → B.Nodup → ∀ {i : Nat} {s : OT}, ts[i]? = some s → ∃ v A, vs[i]? = some v ∧ OOk S H v s A ∧ A.Nodup ∧ (∀ a ∈ A, a ∈ B) ∧
    ∀ {S' H' : Hp} {s' : OT} {A' : List Addr}, Same S S' → (∀ b xs, H b = some (.tup xs) → H' b = some (.tup xs)) → (∀ a ∈ B, a ∉ A → S' a = none ∧ H' a = H a) → OOk S' H' v s' A' → A'.Nodup → (∀ a ∈ A', a ∈ A ∨ a ∉ B) →
      ∃ B', OAll S' H' vs (ts.set i s') B' ∧ B'.Nodup ∧ ∀ a ∈ B', a ∈ A' ∨ (a ∈ B ∧ a ∉ A)
  | [], _, _, h, _, i, s, e => by simp at e
  | t :: ts, _, _, h, nd, i, s, e => by
    cases h with
    | @cons v vs _ _ A0 B h0 ht =>
      have nd1 : A0.Nodup := (List.nodup_append.mp nd).1
      have nd2 : B.Nodup := (List.nodup_append.mp nd).2.1
      have dj : ∀ a ∈ A0, a ∉ B := fun a ha hb => (List.nodup_append.mp nd).2.2 a ha a hb rfl
      cases i with
      | zero =>
        have e' : t = s := by simpa using e
        subst e'
        refine ⟨v, A0, rfl, h0, nd1, fun a ha => List.mem_append_left _ ha, fun {S' H' s' A'} ss tp k h' n' m' => ?_⟩
        refine ⟨A' ++ B, .cons h' (oall_keep ss tp _ _ _ ht fun a ha => k a (List.mem_append_right _ ha) fun z => dj a z ha), ?_, fun a ha => ?_⟩
        · refine List.nodup_append.mpr ⟨n', nd2, fun a ha b hb e => ?_⟩
          subst e
          rcases m' a ha with z | z
          · exact dj a z hb
          · exact z (List.mem_append_right _ hb)
        · rcases List.mem_append.mp ha with z | z
          · exact .inl z
          · exact .inr ⟨List.mem_append_right _ z, fun y => dj a y z⟩
      | succ i =>
        obtain ⟨w, A, e1, e2, e3, e4, e5⟩ := OAll.pick ht nd2 (i := i) (s := s) (by simpa using e)
        refine ⟨w, A, by simpa using e1, e2, e3, fun a ha => List.mem_append_right _ (e4 a ha), fun {S' H' s' A'} ss tp k h' n' m' => ?_⟩
        obtain ⟨B', q1, q2, q3⟩ := e5 ss tp (fun a ha na => k a (List.mem_append_right _ ha) na) h' n' (fun a ha => by
          rcases m' a ha with z | z
          · exact .inl z
          · exact .inr fun hb => z (List.mem_append_right _ hb))
        refine ⟨A0 ++ B', .cons (ook_keep ss tp _ _ _ h0 fun a ha => k a (List.mem_append_left _ ha) fun z => dj a ha (e4 a z)) q1, ?_, fun a ha => ?_⟩
        · refine List.nodup_append.mpr ⟨nd1, q2, fun a ha b hb e => ?_⟩
          subst e
          rcases q3 a hb with z | z
          · rcases m' a z with y | y
            · exact dj a ha (e4 a y)
            · exact y (List.mem_append_left _ ha)
          · exact dj a ha z.1
        · rcases List.mem_append.mp ha with z | z
          · exact .inr ⟨List.mem_append_left _ z, fun y => dj a z (e4 a y)⟩
          · rcases q3 a z with y | y
            · exact .inl y
            · exact .inr ⟨List.mem_append_right _ y.1, y.2⟩
/-- a subtree taken, and put back changed in place -/
theorem ook_path : ∀ (p : List Nat) {t s : OT} {v : V} {A : List Addr}, OOk S H v t A → A.Nodup → t.at p = some s → ∃ w A1, follow H v p = some w ∧ OOk S H w s A1 ∧ A1.Nodup ∧ (∀ a ∈ A1, a ∈ A) ∧
    ∀ {S' H' : Hp} {s' : OT} {A' : List Addr}, Same S S' → (∀ b xs, H b = some (.tup xs) → H' b = some (.tup xs)) → (∀ a ∈ A, a ∉ A1 → S' a = none ∧ H' a = H a) → OOk S' H' w s' A' → A'.Nodup → (∀ a ∈ A', a ∈ A1 ∨ a ∉ A) →
      ∃ B', OOk S' H' v (t.put p s') B' ∧ B'.Nodup ∧ ∀ a ∈ B', a ∈ A' ∨ (a ∈ A ∧ a ∉ A1)
  | [], t, s, v, A, h, nd, e => by
    simp only [OT.at, Option.some.injEq] at e
    subst e
    exact ⟨v, A, rfl, h, nd, fun _ z => z, fun {S' H' s' A'} ss tp k h' n' m' => ⟨A', h', n', fun a ha => .inl ha⟩⟩
  | i :: p, .no, s, v, A, h, nd, e => by simp [OT.at] at e
  | i :: p, .d x, s, v, A, h, nd, e => by simp [OT.at] at e
  | i :: p, .fl ts, s, v, A, h, nd, e => by simp [OT.at] at e
  | i :: p, .ex x, s, v, A, h, nd, e => by simp [OT.at] at e
  | i :: p, .nd k ts, s, v, A, h, nd, e => by
    cases ht : ts[i]? with
    | none => simp [OT.at, ht] at e
    | some t =>
      simp only [OT.at, ht] at e
      cases h with
      | @tup a vs _ _ g1 g2 =>
        obtain ⟨u, A2, e1, e2, e3, e4, e5⟩ := g2.pick nd ht
        obtain ⟨w, A1, f1, f2, f3, f4, f5⟩ := ook_path p e2 e3 e
        refine ⟨w, A1, ?_, f2, f3, fun a ha => e4 a (f4 a ha), fun {S' H' s' A'} ss tp kk h' n' m' => ?_⟩
        · show (match (kids (H a))[i]? with | some v => follow H v p | Option.none => Option.none) = _
          rw [g1]; show (match vs[i]? with | some v => follow H v p | Option.none => Option.none) = _
          rw [e1]; exact f1
        · obtain ⟨B1, q1, q2, q3⟩ := f5 ss tp (fun a ha na => kk a (e4 a ha) na) h' n' (fun a ha => by
            rcases m' a ha with z | z
            · exact .inl z
            · exact .inr fun y => z (e4 a y))
          obtain ⟨B2, r1, r2, r3⟩ := e5 ss tp (fun a ha na => kk a ha fun z => na (f4 a z)) q1 q2 (fun a ha => by
            rcases q3 a ha with z | z
            · rcases m' a z with y | y
              · exact .inl (f4 a y)
              · exact .inr y
            · exact .inl z.1)
          refine ⟨B2, by simp only [OT.put, ht]; exact .tup (tp _ _ g1) r1, r2, fun a ha => ?_⟩
          rcases r3 a ha with z | z
          · rcases q3 a z with y | y
            · exact .inl y
            · exact .inr ⟨e4 a y.1, y.2⟩
          · exact .inr ⟨z.1, fun y => z.2 (f4 a y)⟩
      | @nd a _ vs _ B g0 g1 g2 g3 g4 =>
        have ndc := List.nodup_cons.mp nd
        obtain ⟨u, A2, e1, e2, e3, e4, e5⟩ := g4.pick ndc.2 ht
        obtain ⟨w, A1, f1, f2, f3, f4, f5⟩ := ook_path p e2 e3 e
        have aA1 : a ∉ A1 := fun z => ndc.1 (e4 a (f4 a z))
        refine ⟨w, A1, ?_, f2, f3, fun b hb => List.mem_cons_of_mem _ (e4 b (f4 b hb)), fun {S' H' s' A'} ss tp kk h' n' m' => ?_⟩
        · show (match (kids (H a))[i]? with | some v => follow H v p | Option.none => Option.none) = _
          rw [g3, kids_shape g1 g4.len, e1]; exact f1
        · obtain ⟨B1, q1, q2, q3⟩ := f5 ss tp (fun b hb na => kk b (List.mem_cons_of_mem _ (e4 b hb)) na) h' n' (fun b hb => by
            rcases m' b hb with z | z
            · exact .inl z
            · exact .inr fun y => z (List.mem_cons_of_mem _ (e4 b y)))
          obtain ⟨B2, r1, r2, r3⟩ := e5 ss tp (fun b hb na => kk b (List.mem_cons_of_mem _ hb) fun z => na (f4 b z)) q1 q2 (fun b hb => by
            rcases q3 b hb with z | z
            · rcases m' b z with y | y
              · exact .inl (f4 b y)
              · exact .inr fun x => y (List.mem_cons_of_mem _ x)
            · exact .inl z.1)
          obtain ⟨k1, k2⟩ := kk a List.mem_cons_self aA1
          have aB2 : a ∉ B2 := fun z => by
            rcases r3 a z with y | y
            · rcases q3 a y with x | x
              · rcases m' a x with w | w
                · exact aA1 w
                · exact w List.mem_cons_self
              · exact ndc.1 (e4 a x.1)
            · exact ndc.1 y.1
          refine ⟨a :: B2, by simp only [OT.put, ht]; exact .nd g0 (by rw [List.length_set]; exact g1) k1 (k2.trans g3) r1, List.nodup_cons.mpr ⟨aB2, r2⟩, fun b hb => ?_⟩
          rcases List.mem_cons.mp hb with z | hb
          · subst z; exact .inr ⟨List.mem_cons_self, aA1⟩
          · rcases r3 b hb with z | z
            · rcases q3 b z with y | y
              · exact .inl y
              · exact .inr ⟨List.mem_cons_of_mem _ (e4 b y.1), y.2⟩
            · exact .inr ⟨List.mem_cons_of_mem _ z.1, fun y => z.2 (f4 b y)⟩
end
/-! ### what stands at a path of a slot -/
def PtE (te : TE) (ρ : Env) (i : Nat) (p : List Nat) : Prop := ∀ (S0 H0 : Hp) (A0 : List Addr) (S H : Hp) (τσ : List (Option V)) (τρ : List OT) (σ : St) (Q : VK), τσ.length = τρ.length → Ok S0 H0 A0 S H (τσ ++ σ) (τρ ++ ρ) →
  (∀ v0 v S' H', Xt S H S' H' → σ[i]? = some (some v0) → follow H' v0 p = some v → Q v H') → te σ H Q
section
variable {ρ ρ1 ρ2 ρ' : Env} {ta tb tc te : TE} {tl : TA} {d e x y : D} {r s t t0 : OT} {S H S' H' S0 H0 : Hp} {A0 : List Addr} {σ τσ : St} {τρ : List OT} {ts : List OT} {js : List Nat} {i : Nat} {p : List Nat}
theorem pt_var (h : ρ[i]? = some t) (hn : t ≠ .no) : PtE (tVar i) ρ i [] := fun S0 H0 A0 S H τσ τρ σ Q l o q => by
  obtain ⟨v, A, e1, e2⟩ := o.slot l h hn
  exact ⟨v, e1, q v v S H (.refl o.sh) e1 rfl⟩
end
end MR
namespace MR
open PySem L2 PL
variable [kf : KF] [wx : WXI]
section
variable {ρ ρ1 ρ2 ρ' : Env} {ta tb tc te : TE} {tl : TA} {d e x : D} {r s t t0 : OT} {S H S' H' S0 H0 : Hp} {A0 : List Addr} {σ τσ : St} {τρ : List OT} {ts : List OT} {js : List Nat} {i : Nat} {p : List Nat} {k : Kd}
theorem OOk.inv_nd {v : V} {A : List Addr} (h : OOk S H v (.nd k ts) A) (hk : k.isTup = false) : ∃ a vs B, v = .ref a ∧ A = a :: B ∧ k.fits ts.length ∧ S a = none ∧ H a = some (shape k vs) ∧ OAll S H vs ts B := by
  cases h with
  | tup h1 h2 => cases hk
  | nd h0 h1 h2 h3 h4 => exact ⟨_, _, _, rfl, rfl, h1, h2, h3, h4⟩
/-- a node of slot i is written anew, with what was held on top -/
theorem Ok.rewrite {y : Option V} (l : τσ.length = τρ.length) (o : Ok S0 H0 A0 S H (y :: (τσ ++ σ)) (r :: (τρ ++ ρ))) (ht : ρ[i]? = some t) (hs : t.at p = some (.nd k ts)) (hk : k.isTup = false) :
    ∃ v0 a vs B C, σ[i]? = some (some v0) ∧ follow H v0 p = some (.ref a) ∧ S a = none ∧ H a = some (shape k vs) ∧ k.fits ts.length ∧ OAll S H vs ts B ∧ OSl S H y r C ∧ (B ++ C).Nodup ∧
      ∀ {k' : Kd} {vs' : List V} {ts' : List OT} {B' : List Addr} {y' : Option V} {r' : OT} {C' : List Addr}, k'.isTup = false → k'.fits ts'.length → OAll S H vs' ts' B' → OSl S H y' r' C' → (B' ++ C').Nodup → (∀ b ∈ B' ++ C', b ∈ B ++ C) →
        Ok S0 H0 A0 S (upd H a (shape k' vs')) (y' :: (τσ ++ σ)) (r' :: (τρ ++ ρ.set i (t.put p (.nd k' ts')))) := by
  obtain ⟨A, he, nd, fr⟩ := o.env
  cases he with
  | @cons _ _ C _ _ D pC pD =>
    have ndA := List.nodup_append.mp nd
    have hn : t ≠ .no := by rintro rfl; cases p <;> simp [OT.at] at hs
    obtain ⟨w, Ai, p1, p2, p3, p4, p5⟩ := pD.pick ndA.2.1 (i := τρ.length + i) (s := t) (by rw [get_app rfl]; exact ht)
    rw [get_app l] at p1
    cases p2 with
    | no => exact (hn rfl).elim
    | @is v0 _ _ p2 =>
      obtain ⟨w, A1, f1, f2, f3, f4, f5⟩ := ook_path p p2 p3 hs
      obtain ⟨a, vs, B, rfl, rfl, g1, g2, g3, g4⟩ := f2.inv_nd hk
      have aB : a ∉ B := (List.nodup_cons.mp f3).1
      have ndB : B.Nodup := (List.nodup_cons.mp f3).2
      have aAi : a ∈ Ai := f4 a List.mem_cons_self
      have aD : a ∈ D := p4 a aAi
      have CD : ∀ b, b ∈ C → b ∉ D := fun b hb hd => ndA.2.2 b hb b hd rfl
      have BAi : ∀ b ∈ B, b ∈ Ai := fun b hb => f4 b (List.mem_cons_of_mem _ hb)
      have ndBC : (B ++ C).Nodup := List.nodup_append.mpr ⟨ndB, ndA.1, fun b hb c hc e => by subst e; exact CD b hc (p4 b (BAi b hb))⟩
      refine ⟨v0, a, vs, B, C, p1, f1, g2, g3, g1, g4, pC, ndBC, fun {k' vs' ts' B' y' r' C'} hk' hf' hB' hC' nd' sub => ?_⟩
      have ne : ∀ b ∈ B ++ C, b ≠ a := fun b hb e => by
        subst e
        rcases List.mem_append.mp hb with z | z
        · exact aB z
        · exact CD b z aD
      have nda' := List.nodup_append.mp nd'
      have tp : ∀ b xs, H b = some (.tup xs) → upd H a (shape k' vs') b = some (.tup xs) := fun b xs e => by
        rw [upd_ne]; exact e
        intro z; subst z; rw [g3] at e; exact shape_tup hk xs (Option.some.inj e)
      have n1 : OOk S (upd H a (shape k' vs')) (.ref a) (.nd k' ts') (a :: B') :=
        .nd hk' hf' g2 upd_same (oall_keep (Same.refl S) tp _ _ _ hB' fun b hb => ⟨(oall_at _ _ _ hB' b hb).1, upd_ne (ne b (sub b (List.mem_append_left _ hb)))⟩)
      have ndaB' : (a :: B').Nodup := List.nodup_cons.mpr ⟨fun z => ne a (sub a (List.mem_append_left _ z)) rfl, nda'.1⟩
      have up : ∀ b, b ≠ a → S b = none → S b = none ∧ upd H a (shape k' vs') b = H b := fun b hb hs => ⟨hs, upd_ne hb⟩
      obtain ⟨B2, q1, q2, q3⟩ := f5 (S' := S) (H' := upd H a (shape k' vs')) (s' := .nd k' ts') (A' := a :: B') (Same.refl S) tp (fun b hb na => up b (fun z => na (z ▸ List.mem_cons_self)) (ook_at _ _ _ p2 b hb).1) n1 ndaB' (fun b hb => by
        rcases List.mem_cons.mp hb with z | z
        · subst z; exact .inl List.mem_cons_self
        · rcases List.mem_append.mp (sub b (List.mem_append_left _ z)) with w | w
          · exact .inl (List.mem_cons_of_mem _ w)
          · exact .inr fun hd => CD b w (p4 b hd))
      obtain ⟨B3, r1, r2, r3⟩ := p5 (S' := S) (H' := upd H a (shape k' vs')) (v' := some v0) (s' := t.put p (.nd k' ts')) (A' := B2) (Same.refl S) tp (fun b hb na => up b (fun z => na (z ▸ aAi)) (pD.at b hb).1) (.is q1) q2 (fun b hb => by
        rcases q3 b hb with z | z
        · rcases List.mem_cons.mp z with z | z
          · subst z; exact .inl aAi
          · rcases List.mem_append.mp (sub b (List.mem_append_left _ z)) with w | w
            · exact .inl (BAi b w)
            · exact .inr (CD b w)
        · exact .inl z.1)
      rw [set_app l, set_app rfl, set_same p1] at r1
      have aF : a ∈ A0 ∨ H0 a = none := fr a (List.mem_append_right _ aD)
      refine ⟨⟨fun b o' hb e => ?_, fun b e => ?_, fun b xs e => tp b xs (o.xt.tp b xs e), o.xt.ss, fun b o' e => ?_, o.xt.nw⟩, C' ++ B3, .cons (hC'.keep (Same.refl S) tp fun b hb => ⟨(hC'.at b hb).1, upd_ne (ne b (sub b (List.mem_append_right _ hb)))⟩) r1, ?_, fun b hb => ?_⟩
      · rw [upd_ne]; exact o.xt.hh b o' hb e
        intro z; subst z
        rcases aF with z | z
        · exact hb z
        · rw [z] at e; cases e
      · by_cases z : b = a
        · subst z; rw [upd_same] at e; cases e
        · rw [upd_ne z] at e; exact o.xt.dm b e
      · rw [upd_ne]; exact o.sh b o' e
        intro z; subst z; rw [g2] at e; cases e
      · refine List.nodup_append.mpr ⟨nda'.2.1, r2, fun b hb c hc e => ?_⟩
        subst e
        have inBC := sub b (List.mem_append_right _ hb)
        rcases r3 b hc with z | z
        · rcases q3 b z with w | w
          · rcases List.mem_cons.mp w with v | v
            · exact ne b inBC v
            · exact nda'.2.2 b v b hb rfl
          · rcases List.mem_append.mp inBC with v | v
            · exact w.2 (List.mem_cons_of_mem _ v)
            · exact CD b v (p4 b w.1)
        · rcases List.mem_append.mp inBC with v | v
          · exact z.2 (BAi b v)
          · exact CD b v z.1
      · have fromBC : ∀ b, b ∈ B ++ C → b ∈ A0 ∨ H0 b = none := fun b hb => by
          rcases List.mem_append.mp hb with z | z
          · exact fr b (List.mem_append_right _ (p4 b (BAi b z)))
          · exact fr b (List.mem_append_left _ z)
        rcases List.mem_append.mp hb with z | z
        · exact fromBC b (sub b (List.mem_append_right _ z))
        · rcases r3 b z with w | w
          · rcases q3 b w with v | v
            · rcases List.mem_cons.mp v with u | u
              · subst u; exact aF
              · exact fromBC b (sub b (List.mem_append_left _ u))
            · exact fr b (List.mem_append_right _ (p4 b v.1))
          · exact fr b (List.mem_append_right _ w.1)
theorem OAll.app : ∀ {ts us : List OT} {vs ws : List V} {A B : List Addr}, OAll S H vs ts A → OAll S H ws us B → OAll S H (vs ++ ws) (ts ++ us) (A ++ B)
  | [], us, _, ws, _, B, h, h' => by cases h; exact h'
  | t :: ts, us, _, ws, _, B, h, h' => by cases h with | cons a b => have := OAll.cons a (b.app h'); simpa [List.append_assoc] using this
theorem OAll.one {v : V} {A : List Addr} (h : OOk S H v t A) : OAll S H [v] [t] A := by have := OAll.cons h .nil; simpa using this
theorem OAll.put {y : V} : ∀ {ts : List OT} {vs : List V} {B C : List Addr} {j : Nat}, OAll S H vs ts B → OOk S H y r C → (B ++ C).Nodup → ∃ B', OAll S H (vs.set j y) (ts.set j r) B' ∧ B'.Nodup ∧ ∀ b ∈ B', b ∈ B ++ C
  | [], _, _, C, j, h, h', nd => by
    cases h; exact ⟨[], .nil, List.nodup_nil, fun b hb => by cases hb⟩
  | t :: ts, _, _, C, 0, h, h', nd => by
    cases h with
    | @cons v vs _ _ A B a b =>
      have nd1 := List.nodup_append.mp nd
      have nd2 := List.nodup_append.mp nd1.1
      refine ⟨C ++ B, .cons h' b, List.nodup_append.mpr ⟨nd1.2.1, nd2.2.1, fun x hx y hy e => ?_⟩, fun x hx => ?_⟩
      · subst e; exact nd1.2.2 x (List.mem_append_right _ hy) x hx rfl
      · rcases List.mem_append.mp hx with z | z
        · exact List.mem_append_right _ z
        · exact List.mem_append_left _ (List.mem_append_right _ z)
  | t :: ts, _, _, C, j + 1, h, h', nd => by
    cases h with
    | @cons v vs _ _ A B a b =>
      have nd1 := List.nodup_append.mp nd
      have nd2 := List.nodup_append.mp nd1.1
      obtain ⟨B', q1, q2, q3⟩ := b.put (j := j) h' (List.nodup_append.mpr ⟨nd2.2.1, nd1.2.1, fun x hx y hy => nd1.2.2 x (List.mem_append_right _ hx) y hy⟩)
      refine ⟨A ++ B', .cons a q1, List.nodup_append.mpr ⟨nd2.1, q2, fun x hx y hy e => ?_⟩, fun x hx => ?_⟩
      · subst e
        rcases List.mem_append.mp (q3 x hy) with z | z
        · exact nd2.2.2 x hx x z rfl
        · exact nd1.2.2 x (List.mem_append_left _ hx) x z rfl
      · rcases List.mem_append.mp hx with z | z
        · exact List.mem_append_left _ (List.mem_append_left _ z)
        · rcases List.mem_append.mp (q3 x z) with w | w
          · exact List.mem_append_left _ (List.mem_append_right _ w)
          · exact List.mem_append_right _ w
theorem OAll.out : ∀ {ts : List OT} {vs : List V} {B : List Addr} {j : Nat}, OAll S H vs ts B → B.Nodup → ts[j]? = some s → ∃ v B' C', vs[j]? = some v ∧ OAll S H (vs.eraseIdx j) (ts.eraseIdx j) B' ∧ OOk S H v s C' ∧ (B' ++ C').Nodup ∧ ∀ b ∈ B' ++ C', b ∈ B
  | [], _, _, j, h, nd, e => by simp at e
  | t :: ts, _, _, 0, h, nd, e => by
    have e : t = s := by simpa using e
    subst e
    cases h with
    | @cons v vs _ _ A B a b =>
      have nd1 := List.nodup_append.mp nd
      exact ⟨v, B, A, rfl, b, a, List.nodup_append.mpr ⟨nd1.2.1, nd1.1, fun x hx y hy e => nd1.2.2 y hy x hx e.symm⟩, fun x hx => by
        rcases List.mem_append.mp hx with z | z
        · exact List.mem_append_right _ z
        · exact List.mem_append_left _ z⟩
  | t :: ts, _, _, j + 1, h, nd, e => by
    cases h with
    | @cons v vs _ _ A B a b =>
      have nd1 := List.nodup_append.mp nd
      obtain ⟨w, B', C', q0, q1, q2, q3, q4⟩ := b.out (j := j) nd1.2.1 (by simpa using e)
      have nd3 := List.nodup_append.mp q3
      refine ⟨w, A ++ B', C', by simpa using q0, .cons a q1, q2, List.nodup_append.mpr ⟨List.nodup_append.mpr ⟨nd1.1, nd3.1, fun x hx y hy e => by subst e; exact nd1.2.2 x hx x (q4 x (List.mem_append_left _ hy)) rfl⟩, nd3.2.1, fun x hx y hy e => ?_⟩, fun x hx => ?_⟩
      · subst e
        rcases List.mem_append.mp hx with z | z
        · exact nd1.2.2 x z x (q4 x (List.mem_append_right _ hy)) rfl
        · exact nd3.2.2 x z x hy rfl
      · rcases List.mem_append.mp hx with z | z
        · rcases List.mem_append.mp z with z | z
          · exact List.mem_append_left _ z
          · exact List.mem_append_right _ (q4 x (List.mem_append_left _ z))
        · exact List.mem_append_right _ (q4 x (List.mem_append_right _ z))
theorem Ok.dummy (o : Ok S0 H0 A0 S H σ ρ) : Ok S0 H0 A0 S H (Option.none :: σ) (.no :: ρ) := by
  obtain ⟨A, h1, h2, h3⟩ := o.env
  exact ⟨o.xt, [] ++ A, .cons .no h1, by simpa using h2, by simpa using h3⟩
/-- the pointer stays where it is as long as the heap only grows -/
theorem follow_mono (x : Xt S H S' H') : ∀ (p : List Nat) (v w : V), follow H v p = some w → follow H' v p = some w := by
  intro p
  induction p with
  | nil => intro v w h; exact h
  | cons i p ih =>
    intro v w h
    cases v with
    | ref a =>
      simp only [follow] at h ⊢
      cases hk : (kids (H a))[i]? with
      | none => rw [hk] at h; cases h
      | some u =>
        rw [hk] at h
        have e : kids (H' a) = kids (H a) := by
          cases hh : H a with
          | none => rw [hh] at hk; simp [kids] at hk
          | some o' => rw [x.hh a o' hh]
        rw [e, hk]
        exact ih u w h
    | _ => simp [follow] at h
/-- .. of a slot, whatever e does -/
theorem run_appendY (h0 : ρ[i]? = some t0) (h0n : ∃ us, t0 = .nd .lst us) (he : EvY te ρ r ρ1) (ht : ρ1[i]? = some (.nd .lst ts)) (hn : r ≠ .no) (hz : ts.length ≤ 1000000) :
    RunS js (tDrop (tBM kf.K "list" rAppend (tVar i) (tCons te tNil))) ρ .nx (ρ1.set i (.nd .lst (ts ++ [r]))) := fun S0 H0 A0 S H σ F E hF hx o kk => by
  obtain ⟨us, rfl⟩ := h0n
  obtain ⟨w0, a, vs, B, C, g1, g2, _, g3, _⟩ := Ok.rewrite (τσ := []) (τρ := []) (p := []) rfl o.dummy h0 rfl rfl
  simp only [follow, Option.some.injEq] at g2
  subst g2
  refine ⟨_, g1, .inl ⟨rfl, vs, .inl (.inl g3)⟩, he S0 H0 A0 S H [] [] σ _ rfl o fun y S2 H2 s2 o2 => ?_⟩
  obtain ⟨w0', a', vs', B', C', g1', g2', g5, g3', g6, g7, g8, g9, g10⟩ := Ok.rewrite (τσ := []) (τρ := []) (p := []) rfl o2 ht rfl rfl
  rw [g1] at g1'; cases g1'
  simp only [follow, Option.some.injEq] at g2'
  cases g2'
  refine ⟨a, vs', y, rfl, rfl, g3', sz_lt (by rw [g7.len]; exact hz), ?_⟩
  cases g8 with
  | no => exact (hn rfl).elim
  | is g8 =>
    have := g10 (k' := .lst) (y' := Option.none) (r' := .no) (C' := []) rfl trivial (g7.app (.one g8)) .no (by simpa using g9) (by simp)
    exact kk S2 _ σ s2 hx this.drop
/-- xs[j] = e -/
theorem run_setitem {tp : TE} {t : OT} {n : Int} {j : Nat} (he : EvY te ρ r ρ1) (hp : PtE tp ρ1 i p) (ht : ρ1[i]? = some t) (hs : t.at p = some (.nd .lst ts)) (hi : RdE tb ρ1 (.int n)) (hj : ixN ts.length n = some j) (hn : r ≠ .no) :
    RunS js (tAsg te (gSub tp tb rSetL)) ρ .nx (ρ1.set i (t.put p (.nd .lst (ts.set j r)))) := fun S0 H0 A0 S H σ F E hF hx o kk =>
  he S0 H0 A0 S H [] [] σ _ rfl o fun y S1 H1 s1 o1 => hp S0 H0 A0 S1 H1 [some y] [r] σ _ rfl o1 fun v0 v S2 H2 x2 e1 f1 => hi S0 H0 A0 S2 H2 [some y] [r] σ _ rfl (o1.ext x2) fun u S3 H3 x3 h3 => by
    cases h3
    have o3 := (o1.ext x2).ext x3
    obtain ⟨w0', a', vs', B', C', g1', g2', g5, g3', g6, g7, g8, g9, g10⟩ := Ok.rewrite (τσ := []) (τρ := []) rfl o3 ht hs rfl
    rw [e1] at g1'; cases g1'
    rw [follow_mono x3 p _ _ f1] at g2'
    cases g2'
    cases g8 with
    | no => exact (hn rfl).elim
    | is g8 =>
      obtain ⟨B2, q1, q2, q3⟩ := g7.put (j := j) g8 g9
      refine ⟨a', vs', n, j, rfl, rfl, g3', by rw [g7.len]; exact hj, ?_⟩
      have := g10 (k' := .lst) (y' := Option.none) (r' := .no) (C' := []) rfl trivial q1 .no (by simpa using q2) (by simpa using q3)
      exact kk S3 _ σ (s1.trans (x2.ss.trans x3.ss)) hx this.drop
/-- xs.pop(e) of a slot -/
theorem evy_pop {n : Int} {j : Nat} (h0 : ρ[i]? = some t0) (h0n : ∃ us, t0 = .nd .lst us) (he : EvD te ρ (.int n) ρ1) (ht : ρ1[i]? = some (.nd .lst ts)) (hj : seqIndex? n ts.length = some j) (hs : ts[j]? = some s) (hb : -(2 ^ 63) ≤ n ∧ n < 2 ^ 63) :
    EvY (tBM kf.K "list" rPopAt (tVar i) (tCons te tNil)) ρ s (ρ1.set i (.nd .lst (ts.eraseIdx j))) := fun S0 H0 A0 S H τσ τρ σ Q l o q => by
  obtain ⟨us, rfl⟩ := h0n
  obtain ⟨w0, a, vs, B, C, g1, g2, _, g3, _⟩ := Ok.rewrite (p := []) l o.dummy h0 rfl rfl
  simp only [follow, Option.some.injEq] at g2
  subst g2
  refine ⟨_, g1, .inl ⟨rfl, vs, .inl (.inl g3)⟩, he S0 H0 A0 S H τσ τρ σ _ l o fun y S2 H2 s2 o2 hy => ?_⟩
  cases hy
  obtain ⟨w0', a', vs', B', C', g1', g2', g5, g3', g6, g7, g8, g9, g10⟩ := Ok.rewrite (p := []) l o2.dummy ht rfl rfl
  rw [g1] at g1'; cases g1'
  simp only [follow, Option.some.injEq] at g2'
  cases g2'
  obtain ⟨v, B2, C2, q0, q1, q2, q3, q4⟩ := g7.out (j := j) (List.nodup_append.mp g9).1 hs
  refine ⟨a, vs', n, j, v, rfl, rfl, g3', hb.1, hb.2, by rw [g7.len]; exact hj, q0, ?_⟩
  have := g10 (k' := .lst) (y' := some v) (r' := s) (C' := C2) rfl trivial q1 (.is q2) q3 (fun b hb => List.mem_append_left _ (q4 b hb))
  exact q v S2 _ s2 this
end
end MR
/-! MR: the mirror: pure functions over slots, told by the terms -/
namespace MR
open PySem L2 PL
abbrev Rm := Env → Option D
abbrev Ym := Env → Option (OT × Env)
abbrev Dm := Env → Option (D × Env)
abbrev Bm := Env → Option Bool
abbrev Tm := Env → Option (Bool × Env)
abbrev Lm := Env → Option (List D × Env)
abbrev Qm := Env → Option (List D)
abbrev Om := Env → Option (List OT × Env)
abbrev Sm := Env → Option (Fl × Env)
abbrev Gm := D → Env → Option Env
abbrev Gms := List D → Env → Option Env
variable [kf : KF] [wx : WXI]
def CR (te : TE) (m : Rm) : Prop := ∀ ρ x, m ρ = some x → RdE te ρ x
def CY (te : TE) (m : Ym) : Prop := ∀ ρ r ρ', m ρ = some (r, ρ') → EvY te ρ r ρ'
def CD (te : TE) (m : Dm) : Prop := ∀ ρ x ρ', m ρ = some (x, ρ') → EvD te ρ x ρ'
def CB (tt : TT) (m : Bm) : Prop := ∀ ρ b, m ρ = some b → RdB tt ρ b
def CT (tt : TT) (m : Tm) : Prop := ∀ ρ b ρ', m ρ = some (b, ρ') → EvT tt ρ b ρ'
def CL (ta : TA) (m : Lm) : Prop := ∀ ρ xs ρ', m ρ = some (xs, ρ') → EvL ta ρ xs ρ'
def CQ (ta : TA) (m : Qm) : Prop := ∀ ρ xs, m ρ = some xs → RdL ta ρ xs
def CO (ta : TA) (m : Om) : Prop := ∀ ρ rs ρ', m ρ = some (rs, ρ') → EvYs ta ρ rs ρ' ∧ ∀ r ∈ rs, r ≠ .no
def CI (wi : TI) (m : Lm) : Prop := ∀ ρ xs ρ', m ρ = some (xs, ρ') → IterM wi ρ xs ρ'
def CS (js : List Nat) (t : TS) (m : Sm) : Prop := ∀ ρ fl ρ', m ρ = some (fl, ρ') → RunS js t ρ fl ρ'
def CG (g : TG) (m : Gm) (is : List Nat) : Prop := ∀ ρ x ρ', m x ρ = some ρ' → TgM g x ρ ρ' is
def CGs (g : TGs) (m : Gms) (is : List Nat) : Prop := ∀ ρ xs ρ', m xs ρ = some ρ' → TgMs g xs ρ ρ' is
/-- at the slot i the path that is told, and what stands there -/
abbrev Pm := Env → Option (List Nat × OT)
def CP (te : TE) (i : Nat) (m : Pm) : Prop := ∀ ρ p s, m ρ = some (p, s) → PtE te ρ i p ∧ ∃ t, ρ[i]? = some t ∧ t.at p = some s
/-! ### reading -/
def rVar (i : Nat) : Rm := fun ρ => (ρ[i]?).bind OT.toD
def rC (x : D) : Rm := fun _ => some x
def rOp (g : D → D → Option D) (a b : Rm) : Rm := fun ρ => (a ρ).bind fun d => (b ρ).bind fun e => g d e
def rUn (g : D → Option D) (a : Rm) : Rm := fun ρ => (a ρ).bind g
def rCb (g : List D → Option D) (a : Qm) : Rm := fun ρ => (a ρ).bind g
def rCall (f : List D → Option OT) (n : Nat) (a : Qm) : Rm := fun ρ => (a ρ).bind fun ds => if ds.length = n then (f ds).bind OT.toD else Option.none
def asB : D → Option Bool
  | .bool b => some b
  | _ => Option.none
def rAnd (a b : Rm) : Rm := fun ρ => ((a ρ).bind asB).bind fun c => if c then ((b ρ).bind asB).map .bool else some (.bool false)
def rOr (a b : Rm) : Rm := fun ρ => ((a ρ).bind asB).bind fun c => if c then some (.bool true) else ((b ρ).bind asB).map .bool
def rNot (a : Rm) : Rm := fun ρ => ((a ρ).bind asB).map fun b => .bool (!b)
def rIf (t : Bm) (a b : Rm) : Rm := fun ρ => (t ρ).bind fun c => if c then a ρ else b ρ
def small (xs : List D) : Option (List D) := if xs.length ≤ 1000000 then some xs else Option.none
def rTup (a : Qm) : Rm := fun ρ => ((a ρ).bind small).map .tuple
def rLst (a : Qm) : Rm := fun ρ => ((a ρ).bind small).map .list
def qNil : Qm := fun _ => some []
def qCons (a : Rm) (b : Qm) : Qm := fun ρ => (a ρ).bind fun x => (b ρ).map fun xs => x :: xs
def bR (a : Rm) : Bm := fun ρ => (a ρ).bind asB
def bAnd (a b : Bm) : Bm := fun ρ => (a ρ).bind fun c => if c then b ρ else some false
def bOr (a b : Bm) : Bm := fun ρ => (a ρ).bind fun c => if c then some true else b ρ
def bNot (a : Bm) : Bm := fun ρ => (a ρ).map not
section
variable {ta tb tc te : TE} {tl tr : TA} {t u : TT} {a b c : Rm} {q p : Qm} {m k : Bm} {R : R2} {E : XK}
theorem c_var (i : Nat) : CR (tVar i) (rVar i) := fun ρ x h => by
  simp only [rVar, Option.bind_eq_some_iff] at h
  obtain ⟨t, h1, h2⟩ := h
  exact rd_var h1 h2
theorem c_c {v : V} {x : D} (h : vD v = some x) : CR (tC v) (rC x) := fun ρ y e => by cases e; exact rd_c h
/-- an operator that tells flat data -/
def OpM (R : R2) (g : D → D → Option D) : Prop := ∀ d e x, g d e = some x → OpF R d e x
theorem c_op {g : D → D → Option D} (hR : OpM R g) (ha : CR ta a) (hb : CR tb b) : CR (tOp R ta tb) (rOp g a b) := fun ρ x h => by
  simp only [rOp, Option.bind_eq_some_iff] at h
  obtain ⟨d, h1, e, h2, h3⟩ := h
  exact rd_op (ha _ _ h1) (hb _ _ h2) (hR _ _ _ h3)
def IxM (R : R2) (g : D → D → Option D) : Prop := ∀ d e x, g d e = some x → IxZ R d e x
theorem c_ix {g : D → D → Option D} (hR : IxM R g) (ha : CR ta a) (hb : CR tb b) : CR (tOp R ta tb) (rOp g a b) := fun ρ x h => by
  simp only [rOp, Option.bind_eq_some_iff] at h
  obtain ⟨d, h1, e, h2, h3⟩ := h
  exact rd_ix (ha _ _ h1) (hb _ _ h2) (ixs_of (hR _ _ _ h3))
def UnM (R : V → Hp → VK → Prop) (g : D → Option D) : Prop := ∀ d x, g d = some x → ∀ (H : Hp) (v : V) (Q : VK), Rp H v d → (∀ w, vD w = some x → Q w H) → R v H Q
theorem c_un {R : V → Hp → VK → Prop} {g : D → Option D} (hR : UnM R g) (ha : CR ta a) : CR (tUn R ta) (rUn g a) := fun ρ x h => by
  simp only [rUn, Option.bind_eq_some_iff] at h
  obtain ⟨d, h1, h2⟩ := h
  exact rd_un (ha _ _ h1) (hR _ _ h2)
def CbM (R : List V → Hp → VK → Prop) (g : List D → Option D) : Prop := ∀ ds x, g ds = some x → CbF R ds x
theorem c_cb {R : List V → Hp → VK → Prop} {g : List D → Option D} (hR : CbM R g) (ha : CQ tl q) : CR (tCB R tl) (rCb g q) := fun ρ x h => by
  simp only [rCb, Option.bind_eq_some_iff] at h
  obtain ⟨d, h1, h2⟩ := h
  exact rd_cb (ha _ _ h1) (hR _ _ h2)
theorem c_call {f : List D → Option OT} {n : Nat} (ha : CQ tl q) : CR (tCall (spP n f) [] E tl) (rCall f n q) := fun ρ x h => by
  simp only [rCall, Option.bind_eq_some_iff] at h
  obtain ⟨d, h1, h2⟩ := h
  split at h2
  · rename_i hn
    simp only [Option.bind_eq_some_iff] at h2
    obtain ⟨r, h3, h4⟩ := h2
    exact rd_call (ha _ _ h1) hn h3 h4
  · cases h2
theorem asB_some {x : D} {b : Bool} (h : asB x = some b) : x = .bool b := by cases x <;> simp [asB] at h; rw [h]
theorem c_and (ha : CR ta a) (hb : CR tb b) : CR (tAndV ta tb) (rAnd a b) := fun ρ x h => by
  simp only [rAnd, Option.bind_eq_some_iff] at h
  obtain ⟨cc, ⟨d, h1, h2⟩, h3⟩ := h
  have e := asB_some h2
  subst e
  refine fun S0 H0 A0 S H τσ τρ σ Q l o q => ha _ _ h1 S0 H0 A0 S H τσ τρ σ _ l o fun v S1 H1 x1 r1 => ?_
  cases r1
  refine ⟨cc, rfl, ?_⟩
  cases cc with
  | true =>
    simp only [if_true, Option.map_eq_some_iff, Option.bind_eq_some_iff] at h3
    obtain ⟨b', ⟨d', g1, g2⟩, rfl⟩ := h3
    have e := asB_some g2
    subst e
    exact iteT (hb _ _ g1 S0 H0 A0 S1 H1 τσ τρ σ _ l (o.ext x1) fun v S2 H2 x2 r2 => q v S2 H2 (x1.trans x2) r2)
  | false =>
    simp at h3
    subst h3
    exact iteF (q _ S1 H1 x1 (.bl false))
theorem c_not (ha : CR ta a) : CR (tNotV ta) (rNot a) := fun ρ x h => by
  simp only [rNot, Option.map_eq_some_iff, Option.bind_eq_some_iff] at h
  obtain ⟨cc, ⟨d, h1, h2⟩, rfl⟩ := h
  have e := asB_some h2
  subst e
  refine fun S0 H0 A0 S H τσ τρ σ Q l o q => ha _ _ h1 S0 H0 A0 S H τσ τρ σ _ l o fun v S1 H1 x1 r1 => ?_
  cases r1
  exact ⟨cc, rfl, q _ S1 H1 x1 (.bl _)⟩
theorem small_some {xs ys : List D} (h : small xs = some ys) : xs = ys ∧ ys.length ≤ 1000000 := by
  unfold small at h
  split at h
  · cases h; exact ⟨rfl, by assumption⟩
  · cases h
theorem c_tup (ha : CQ tl q) : CR (tTup tl) (rTup q) := fun ρ x h => by
  simp only [rTup, Option.map_eq_some_iff, Option.bind_eq_some_iff] at h
  obtain ⟨xs, ⟨ys, h1, h2⟩, rfl⟩ := h
  obtain ⟨rfl, h3⟩ := small_some h2
  exact rd_tup (ha _ _ h1) h3
theorem c_lst (ha : CQ tl q) : CR (tLst tl) (rLst q) := fun ρ x h => by
  simp only [rLst, Option.map_eq_some_iff, Option.bind_eq_some_iff] at h
  obtain ⟨xs, ⟨ys, h1, h2⟩, rfl⟩ := h
  obtain ⟨rfl, h3⟩ := small_some h2
  exact rd_lst (ha _ _ h1) h3
theorem c_qnil : CQ tNil qNil := fun ρ x h => by cases h; exact rdl_nil
theorem c_qcons (ha : CR ta a) (hb : CQ tr q) : CQ (tCons ta tr) (qCons a q) := fun ρ x h => by
  simp only [qCons, Option.bind_eq_some_iff, Option.map_eq_some_iff] at h
  obtain ⟨d, h1, xs, h2, rfl⟩ := h
  exact rdl_cons (ha _ _ h1) (hb _ _ h2)
/-! tests -/
theorem c_bR (ha : CR ta a) : CB (tTest ta) (bR a) := fun ρ b h => by
  simp only [bR, Option.bind_eq_some_iff] at h
  obtain ⟨d, h1, h2⟩ := h
  have e := asB_some h2
  subst e
  refine fun S0 H0 A0 S H τσ τρ σ Q l o q => ha _ _ h1 S0 H0 A0 S H τσ τρ σ _ l o fun v S1 H1 x1 r1 => ?_
  cases r1
  exact ⟨b, rfl, q S1 H1 x1⟩
theorem c_bB (ha : CR ta a) : CB (tB ta) (bR a) := fun ρ b h => by
  simp only [bR, Option.bind_eq_some_iff] at h
  obtain ⟨d, h1, h2⟩ := h
  have e := asB_some h2
  subst e
  refine fun S0 H0 A0 S H τσ τρ σ Q l o q => ha _ _ h1 S0 H0 A0 S H τσ τρ σ _ l o fun v S1 H1 x1 r1 => ?_
  cases r1
  exact ⟨b, rfl, q S1 H1 x1⟩
theorem c_bAnd (ha : CB t m) (hb : CB u k) : CB (tAnd t u) (bAnd m k) := fun ρ b h => by
  simp only [bAnd, Option.bind_eq_some_iff] at h
  obtain ⟨cc, h1, h2⟩ := h
  refine fun S0 H0 A0 S H τσ τρ σ Q l o q => ha _ _ h1 S0 H0 A0 S H τσ τρ σ _ l o fun S1 H1 x1 => ?_
  cases cc with
  | true => exact iteT (hb _ _ h2 S0 H0 A0 S1 H1 τσ τρ σ _ l (o.ext x1) fun S2 H2 x2 => q S2 H2 (x1.trans x2))
  | false => simp at h2; subst h2; exact iteF (q S1 H1 x1)
theorem c_bOr (ha : CB t m) (hb : CB u k) : CB (tOr t u) (bOr m k) := fun ρ b h => by
  simp only [bOr, Option.bind_eq_some_iff] at h
  obtain ⟨cc, h1, h2⟩ := h
  refine fun S0 H0 A0 S H τσ τρ σ Q l o q => ha _ _ h1 S0 H0 A0 S H τσ τρ σ _ l o fun S1 H1 x1 => ?_
  cases cc with
  | false => exact iteF (hb _ _ h2 S0 H0 A0 S1 H1 τσ τρ σ _ l (o.ext x1) fun S2 H2 x2 => q S2 H2 (x1.trans x2))
  | true => simp at h2; subst h2; exact iteT (q S1 H1 x1)
theorem c_bNot (ha : CB t m) : CB (tNot t) (bNot m) := fun ρ b h => by
  simp only [bNot, Option.map_eq_some_iff] at h
  obtain ⟨cc, h1, rfl⟩ := h
  exact fun S0 H0 A0 S H τσ τρ σ Q l o q => ha _ _ h1 S0 H0 A0 S H τσ τρ σ _ l o fun S1 H1 x1 => q S1 H1 x1
end
/-! ### whatever is told -/
def yVar (i : Nat) : Ym := fun ρ => match ρ[i]? with
  | some (.d x) => some (.d x, ρ)
  | some t => (OT.toD t).map fun x => (.d x, ρ.set i (.d x))
  | Option.none => Option.none
def yMov (i : Nat) : Ym := fun ρ => match ρ[i]? with
  | some .no => Option.none
  | some t => some (t, ρ.set i .no)
  | Option.none => Option.none
/-- read, where it is flat -/
def yR (a : Rm) : Ym := fun ρ => (a ρ).bind fun x => if tfl x then some (.d x, ρ) else Option.none
/-- read, where it is flat; else by the other way -/
def yAuto (a : Rm) (y : Ym) : Ym := fun ρ => match a ρ with
  | some x => if tfl x then some (.d x, ρ) else y ρ
  | Option.none => y ρ
/-- frozen -/
def dY (y : Ym) : Dm := fun ρ => (y ρ).bind fun p => (OT.toD p.1).map fun x => (x, p.2)
def yD (y : Dm) : Ym := fun ρ => (y ρ).map fun p => (.d p.1, p.2)
def dR (a : Rm) : Dm := fun ρ => (a ρ).bind fun x => if tfl x then some (x, ρ) else Option.none
def dOp (g : D → D → Option D) (a b : Dm) : Dm := fun ρ => (a ρ).bind fun p => (b p.2).bind fun q => (g p.1 q.1).map fun x => (x, q.2)
def dOpR (g : D → D → Option D) (a : Dm) (b : Rm) : Dm := fun ρ => (a ρ).bind fun p => (b p.2).bind fun e => (g p.1 e).map fun x => (x, p.2)
def dCb (g : List D → Option D) (a : Lm) : Dm := fun ρ => (a ρ).bind fun p => (g p.1).map fun x => (x, p.2)
def yCall (f : List D → Option OT) (n : Nat) (a : Lm) : Ym := fun ρ => (a ρ).bind fun p => if p.1.length = n then (f p.1).map fun r => (r, p.2) else Option.none
def lfO : Option OT → Option OT
  | some r => if r.lf then some r else Option.none
  | Option.none => Option.none
/-- with read arguments, where what is told is flat within; else with frozen ones -/
def yCallA (f : List D → Option OT) (n : Nat) (q : Qm) (a : Lm) : Ym := fun ρ => match (q ρ).bind fun ds => if ds.length = n then lfO (f ds) else Option.none with
  | some r => some (r, ρ)
  | Option.none => yCall f n a ρ
def yCallI (f : OT → List D → Option (OT × OT)) (n i : Nat) (a : Lm) : Ym := fun ρ => match ρ[i]? with
  | some .no => Option.none
  | some _ => (a ρ).bind fun p => match p.2[i]? with
    | some .no => Option.none
    | some t => if p.1.length + 1 = n then (f t p.1).map fun q => (q.1, p.2.set i q.2) else Option.none
    | Option.none => Option.none
  | Option.none => Option.none
def yCb (G : List D → Option OT) (a : Lm) : Ym := fun ρ => (a ρ).bind fun p => (G p.1).map fun r => (r, p.2)
def yCbA (G : List D → Option OT) (q : Qm) (a : Lm) : Ym := fun ρ => match (q ρ).bind fun ds => lfO (G ds) with
  | some r => some (r, ρ)
  | Option.none => yCb G a ρ
def yOp (G : D → D → Option OT) (a b : Dm) : Ym := fun ρ => (a ρ).bind fun p => (b p.2).bind fun q => (G p.1 q.1).map fun r => (r, q.2)
def yOpA (G : D → D → Option OT) (ra rb : Rm) (a b : Dm) : Ym := fun ρ => match (ra ρ).bind fun d => (rb ρ).bind fun e => lfO (G d e) with
  | some r => some (r, ρ)
  | Option.none => yOp G a b ρ
def lNil : Lm := fun ρ => some ([], ρ)
def lCons (a : Dm) (b : Lm) : Lm := fun ρ => (a ρ).bind fun p => (b p.2).map fun q => (p.1 :: q.1, q.2)
def oNil : Om := fun ρ => some ([], ρ)
def isNo : OT → Bool
  | .no => true
  | _ => false
def oCons (a : Ym) (b : Om) : Om := fun ρ => (a ρ).bind fun p => if isNo p.1 then Option.none else (b p.2).map fun q => (p.1 :: q.1, q.2)
def yTup (a : Om) : Ym := fun ρ => (a ρ).bind fun p => if p.1.length ≤ 1000000 then some (.nd .tup p.1, p.2) else Option.none
def yLst (a : Om) : Ym := fun ρ => (a ρ).bind fun p => if p.1.length ≤ 1000000 then some (.nd .lst p.1, p.2) else Option.none
def tR (a : Bm) : Tm := fun ρ => (a ρ).map fun b => (b, ρ)
def tD (a : Dm) : Tm := fun ρ => (a ρ).bind fun p => (asB p.1).map fun b => (b, p.2)
def tmAnd (a b : Tm) : Tm := fun ρ => (a ρ).bind fun p => if p.1 then b p.2 else some (false, p.2)
def tmOr (a b : Tm) : Tm := fun ρ => (a ρ).bind fun p => if p.1 then some (true, p.2) else b p.2
def tmNot (a : Tm) : Tm := fun ρ => (a ρ).map fun p => (!p.1, p.2)
def yIf (t : Tm) (a b : Ym) : Ym := fun ρ => (t ρ).bind fun p => if p.1 then a p.2 else b p.2
def dAnd (a b : Dm) : Dm := fun ρ => (a ρ).bind fun p => (asB p.1).bind fun c => if c then (b p.2).bind fun q => (asB q.1).map fun e => (.bool e, q.2) else some (.bool false, p.2)
def dOr (a b : Dm) : Dm := fun ρ => (a ρ).bind fun p => (asB p.1).bind fun c => if c then some (.bool true, p.2) else (b p.2).bind fun q => (asB q.1).map fun e => (.bool e, q.2)
def dNot (a : Dm) : Dm := fun ρ => (a ρ).bind fun p => (asB p.1).map fun c => (.bool (!c), p.2)
def rsts (vs : List Nat) (ρ1 : Env) : Option (List OT × Env) → Option (OT × Env)
  | some (rs, ρ2) => some (.nd .lst rs, rst ρ2 ρ1 vs)
  | Option.none => Option.none
def lcStep (g : Gm) (t : Tm) (e : Ym) : D → Env → Option (Option OT × Env) := fun x ρ => (g x ρ).bind fun ρm => (t ρm).bind fun p => if p.1 then (e p.2).bind fun q => if isNo q.1 then Option.none else some (some q.1, q.2) else some (Option.none, p.2)
def yLc (vs : List Nat) (it : Lm) (g : Gm) (t : Tm) (e : Ym) : Ym := fun ρ => (it ρ).bind fun p => if calmAt p.2 vs && decide (p.1.length ≤ 1000000) then rsts vs p.2 (mLc vs (lcStep g t e) p.1 [] (wipeE p.2 vs)) else Option.none
section
variable {ta tb tc te : TE} {tl tr : TA} {t u : TT} {a b c : Rm} {q p : Qm} {m k : Bm} {R : R2} {E : XK} {y z : Ym} {dm dn : Dm} {lm ln : Lm} {om on : Om} {tm tn : Tm}
theorem c_yvar (i : Nat) : CY (tVar i) (yVar i) := fun ρ r ρ' h => by
  unfold yVar at h
  split at h
  · cases h; exact evy_of (evd_varD (by assumption))
  · simp only [Option.map_eq_some_iff] at h
    obtain ⟨x, h1, h2⟩ := h
    cases h2
    exact evy_of (evd_var (by assumption) h1)
  · cases h
theorem c_ymov (i : Nat) : CY (tVar i) (yMov i) := fun ρ r ρ' h => by
  unfold yMov at h
  split at h
  · cases h
  · rename_i t hn ht
    cases h
    exact evy_mov ht hn
  · cases h
theorem c_yR (ha : CR ta a) : CY ta (yR a) := fun ρ r ρ' h => by
  simp only [yR, Option.bind_eq_some_iff] at h
  obtain ⟨x, h1, h2⟩ := h
  split at h2
  · cases h2; exact evy_of (evd_flat (ha _ _ h1) (by assumption))
  · cases h2
theorem c_yauto (ha : CR ta a) (hy : CY ta y) : CY ta (yAuto a y) := fun ρ r ρ' h => by
  unfold yAuto at h
  split at h
  · rename_i x hx
    split at h
    · cases h; exact evy_of (evd_flat (ha _ _ hx) (by assumption))
    · exact hy _ _ _ h
  · exact hy _ _ _ h
theorem c_dY (hy : CY ta y) : CD ta (dY y) := fun ρ r ρ' h => by
  simp only [dY, Option.bind_eq_some_iff, Option.map_eq_some_iff] at h
  obtain ⟨⟨s, ρ1⟩, h1, x, h2, h3⟩ := h
  cases h3
  exact evd_of (hy _ _ _ h1) h2
theorem c_yD (hy : CD ta dm) : CY ta (yD dm) := fun ρ r ρ' h => by
  simp only [yD, Option.map_eq_some_iff] at h
  obtain ⟨⟨x, ρ1⟩, h1, h3⟩ := h
  cases h3
  exact evy_of (hy _ _ _ h1)
theorem c_dR (ha : CR ta a) : CD ta (dR a) := fun ρ r ρ' h => by
  simp only [dR, Option.bind_eq_some_iff] at h
  obtain ⟨x, h1, h2⟩ := h
  split at h2
  · cases h2; exact evd_flat (ha _ _ h1) (by assumption)
  · cases h2
theorem c_dop {g : D → D → Option D} (hR : OpM R g) (ha : CD ta dm) (hb : CD tb dn) : CD (tOp R ta tb) (dOp g dm dn) := fun ρ r ρ' h => by
  simp only [dOp, Option.bind_eq_some_iff, Option.map_eq_some_iff] at h
  obtain ⟨⟨d, ρ1⟩, h1, ⟨e, ρ2⟩, h2, x, h3, h4⟩ := h
  cases h4
  exact evd_op (ha _ _ _ h1) (hb _ _ _ h2) (hR _ _ _ h3)
theorem c_dopR {g : D → D → Option D} (hR : OpM R g) (ha : CD ta dm) (hb : CR tb b) : CD (tOp R ta tb) (dOpR g dm b) := fun ρ r ρ' h => by
  simp only [dOpR, Option.bind_eq_some_iff, Option.map_eq_some_iff] at h
  obtain ⟨⟨d, ρ1⟩, h1, e, h2, x, h3, h4⟩ := h
  cases h4
  exact evd_opR (ha _ _ _ h1) (hb _ _ h2) (hR _ _ _ h3)
theorem c_dix {g : D → D → Option D} (hR : IxM R g) (ha : CD ta dm) (hb : CD tb dn) : CD (tOp R ta tb) (dOp g dm dn) := fun ρ r ρ' h => by
  simp only [dOp, Option.bind_eq_some_iff, Option.map_eq_some_iff] at h
  obtain ⟨⟨d, ρ1⟩, h1, ⟨e, ρ2⟩, h2, x, h3, h4⟩ := h
  cases h4
  exact evd_ix (ha _ _ _ h1) (hb _ _ _ h2) (hR _ _ _ h3)
theorem c_dixR {g : D → D → Option D} (hR : IxM R g) (ha : CD ta dm) (hb : CR tb b) : CD (tOp R ta tb) (dOpR g dm b) := fun ρ r ρ' h => by
  simp only [dOpR, Option.bind_eq_some_iff, Option.map_eq_some_iff] at h
  obtain ⟨⟨d, ρ1⟩, h1, e, h2, x, h3, h4⟩ := h
  cases h4
  exact evd_ixR (ha _ _ _ h1) (hb _ _ h2) (hR _ _ _ h3)
theorem c_ycall {f : List D → Option OT} {n : Nat} (ha : CL tl lm) : CY (tCall (spP n f) [] E tl) (yCall f n lm) := fun ρ r ρ' h => by
  simp only [yCall, Option.bind_eq_some_iff] at h
  obtain ⟨⟨ds, ρ1⟩, h1, h2⟩ := h
  split at h2
  · rename_i hn
    simp only [Option.map_eq_some_iff] at h2
    obtain ⟨r', h3, h4⟩ := h2
    cases h4
    exact evy_call (ha _ _ _ h1) hn h3
  · cases h2
theorem lfO_some {o : Option OT} {r : OT} (h : lfO o = some r) : o = some r ∧ r.lf = true := by
  cases o with
  | none => cases h
  | some t =>
    simp only [lfO] at h
    split at h
    · cases h; exact ⟨rfl, by assumption⟩
    · cases h
theorem c_ycallA {f : List D → Option OT} {n : Nat} (hq : CQ tl q) (ha : CL tl lm) : CY (tCall (spP n f) [] E tl) (yCallA f n q lm) := fun ρ r ρ' h => by
  unfold yCallA at h
  split at h
  · rename_i r' hr
    cases h
    simp only [Option.bind_eq_some_iff] at hr
    obtain ⟨ds, h1, h2⟩ := hr
    split at h2
    · rename_i hn
      obtain ⟨h3, h4⟩ := lfO_some h2
      exact evy_callR (hq _ _ h1) hn h3 h4
    · cases h2
  · exact c_ycall ha _ _ _ h
theorem c_ycallI {f : OT → List D → Option (OT × OT)} {n i : Nat} (ha : CL tl lm) : CY (tCall (spI n f) [] E (tCons (tVar i) tl)) (yCallI f n i lm) := fun ρ r ρ' h => by
  unfold yCallI at h
  split at h
  · cases h
  · rename_i t0 hn0 h0
    simp only [Option.bind_eq_some_iff] at h
    obtain ⟨⟨ds, ρ1⟩, h1, h2⟩ := h
    split at h2
    · cases h2
    · rename_i t hn ht
      split at h2
      · rename_i hl
        simp only [Option.map_eq_some_iff] at h2
        obtain ⟨⟨r', t'⟩, h3, h4⟩ := h2
        cases h4
        exact evy_callI h0 hn0 (ha _ _ _ h1) ht hn hl h3
      · cases h2
    · cases h2
  · cases h
/-- a built-in that tells something of its own, of frozen arguments -/
def CbZ (R : List V → Hp → VK → Prop) (G : List D → Option OT) : Prop := ∀ ds r, G ds = some r → ∀ (S H : Hp) (vs : List V) (Q : VK), Same S H → RpAll S vs ds → (∀ v' S' H' A, Xt S H S' H' → OOk S' H' v' r A → A.Nodup → (∀ a ∈ A, H a = none) → Q v' H') → R vs H Q
theorem c_ycb {R : List V → Hp → VK → Prop} {G : List D → Option OT} (hR : CbZ R G) (ha : CL tl lm) : CY (tCB R tl) (yCb G lm) := fun ρ r ρ' h => by
  simp only [yCb, Option.bind_eq_some_iff, Option.map_eq_some_iff] at h
  obtain ⟨⟨ds, ρ1⟩, h1, r', h2, h3⟩ := h
  cases h3
  exact fun S0 H0 A0 S H τσ τρ σ Q l o q => ha _ _ _ h1 S0 H0 A0 S H τσ τρ σ _ l o fun vs S1 H1 s1 o1 g1 => hR _ _ h2 S1 H1 vs Q o1.sh g1 fun v' S' H' A xt g2 nd fr => q v' S' H' (s1.trans xt.ss) (o1.push xt g2 nd fr)
theorem c_ycbA {R : List V → Hp → VK → Prop} {G : List D → Option OT} (hR : CbZ R G) (hq : CQ tl q) (ha : CL tl lm) : CY (tCB R tl) (yCbA G q lm) := fun ρ r ρ' h => by
  unfold yCbA at h
  split at h
  · rename_i r' hr
    cases h
    simp only [Option.bind_eq_some_iff] at hr
    obtain ⟨ds, h1, h2⟩ := hr
    obtain ⟨h3, h4⟩ := lfO_some h2
    exact fun S0 H0 A0 S H τσ τρ σ Q l o q => hq _ _ h1 S0 H0 A0 S H τσ τρ σ _ l o fun vs S1 H1 x1 g1 => hR _ _ h3 H1 H1 vs Q (Same.refl H1) g1 fun v' S' H' A xt g2 nd fr =>
      q v' _ H' (x1.trans (xt_low x1.sh xt)).ss ((o.ext x1).push (xt_low x1.sh xt) (ook_lf xt.sh _ _ _ g2 h4 fun a ha => x1.sh.free (fr a ha)) nd fr)
  · exact c_ycb hR ha _ _ _ h
def OpZ (R : R2) (G : D → D → Option OT) : Prop := ∀ d e r, G d e = some r → ∀ (S H : Hp) (v u : V) (Q : VK), Same S H → Rp S v d → Rp S u e → (∀ v' S' H' A, Xt S H S' H' → OOk S' H' v' r A → A.Nodup → (∀ a ∈ A, H a = none) → Q v' H') → R v u H Q
theorem c_yop {G : D → D → Option OT} (hR : OpZ R G) (ha : CD ta dm) (hb : CD tb dn) : CY (tOp R ta tb) (yOp G dm dn) := fun ρ r ρ' h => by
  simp only [yOp, Option.bind_eq_some_iff, Option.map_eq_some_iff] at h
  obtain ⟨⟨d, ρ1⟩, h1, ⟨e, ρ2⟩, h2, r', h3, h4⟩ := h
  cases h4
  exact fun S0 H0 A0 S H τσ τρ σ Q l o q => ha _ _ _ h1 S0 H0 A0 S H τσ τρ σ _ l o fun v S1 H1 s1 o1 g1 => hb _ _ _ h2 S0 H0 A0 S1 H1 τσ τρ σ _ l o1 fun u S2 H2 s2 o2 g2 =>
    hR _ _ _ h3 S2 H2 v u Q o2.sh (dp_mono s2 _ _ g1) g2 fun v' S' H' A xt g3 nd fr => q v' S' H' ((s1.trans s2).trans xt.ss) (o2.push xt g3 nd fr)
theorem c_yopA {G : D → D → Option OT} (hR : OpZ R G) (hra : CR ta a) (hrb : CR tb b) (ha : CD ta dm) (hb : CD tb dn) : CY (tOp R ta tb) (yOpA G a b dm dn) := fun ρ r ρ' h => by
  unfold yOpA at h
  split at h
  · rename_i r' hr
    cases h
    simp only [Option.bind_eq_some_iff] at hr
    obtain ⟨d, h1, e, h2, h3⟩ := hr
    obtain ⟨h3, h4⟩ := lfO_some h3
    exact fun S0 H0 A0 S H τσ τρ σ Q l o q => hra _ _ h1 S0 H0 A0 S H τσ τρ σ _ l o fun v S1 H1 x1 g1 => hrb _ _ h2 S0 H0 A0 S1 H1 τσ τρ σ _ l (o.ext x1) fun u S2 H2 x2 g2 =>
      hR _ _ _ h3 H2 H2 v u Q (Same.refl H2) (dp_mono x2.hh _ _ g1) g2 fun v' S' H' A xt g3 nd fr =>
        q v' _ H' ((x1.trans x2).trans (xt_low x2.sh xt)).ss (((o.ext x1).ext x2).push (xt_low x2.sh xt) (ook_lf xt.sh _ _ _ g3 h4 fun a ha => x2.sh.free (fr a ha)) nd fr)
  · exact c_yop hR ha hb _ _ _ h
theorem c_lnil : CL tNil lNil := fun ρ x ρ' h => by cases h; exact evl_nil
theorem c_lcons (ha : CD ta dm) (hb : CL tr lm) : CL (tCons ta tr) (lCons dm lm) := fun ρ x ρ' h => by
  simp only [lCons, Option.bind_eq_some_iff, Option.map_eq_some_iff] at h
  obtain ⟨⟨d, ρ1⟩, h1, ⟨xs, ρ2⟩, h2, h3⟩ := h
  cases h3
  exact evl_cons (ha _ _ _ h1) (hb _ _ _ h2)
theorem c_onil : CO tNil oNil := fun ρ x ρ' h => by cases h; exact ⟨evys_nil, by simp⟩
theorem isNo_false {r : OT} (h : ¬ isNo r = true) : r ≠ .no := by rintro rfl; exact h rfl
theorem c_ocons (ha : CY ta y) (hb : CO tr om) : CO (tCons ta tr) (oCons y om) := fun ρ x ρ' h => by
  simp only [oCons, Option.bind_eq_some_iff] at h
  obtain ⟨⟨r, ρ1⟩, h1, h2⟩ := h
  split at h2
  · cases h2
  · rename_i hn
    simp only [Option.map_eq_some_iff] at h2
    obtain ⟨⟨rs, ρ2⟩, h3, h4⟩ := h2
    cases h4
    obtain ⟨g1, g2⟩ := hb _ _ _ h3
    exact ⟨evys_cons (ha _ _ _ h1) g1, fun r' hr => by
      rcases List.mem_cons.mp hr with z | z
      · rw [z]; exact isNo_false hn
      · exact g2 r' z⟩
theorem c_ytup (ha : CO tl om) : CY (tTup tl) (yTup om) := fun ρ r ρ' h => by
  simp only [yTup, Option.bind_eq_some_iff] at h
  obtain ⟨⟨rs, ρ1⟩, h1, h2⟩ := h
  split at h2
  · cases h2; exact evy_tup (ha _ _ _ h1).1 (ha _ _ _ h1).2 (by assumption)
  · cases h2
theorem c_ylst (ha : CO tl om) : CY (tLst tl) (yLst om) := fun ρ r ρ' h => by
  simp only [yLst, Option.bind_eq_some_iff] at h
  obtain ⟨⟨rs, ρ1⟩, h1, h2⟩ := h
  split at h2
  · cases h2; exact evy_lst (ha _ _ _ h1).1 (ha _ _ _ h1).2 (by assumption)
  · cases h2
theorem c_tR (ha : CB t m) : CT t (tR m) := fun ρ b ρ' h => by
  simp only [tR, Option.map_eq_some_iff] at h
  obtain ⟨c, h1, h2⟩ := h
  cases h2
  exact fun S0 H0 A0 S H τσ τρ σ Q l o q => ha _ _ h1 S0 H0 A0 S H τσ τρ σ _ l o fun S1 H1 x1 => q S1 H1 x1.ss (o.ext x1)
theorem c_tD (ha : CD ta dm) : CT (tTest ta) (tD dm) := fun ρ b ρ' h => by
  simp only [tD, Option.bind_eq_some_iff, Option.map_eq_some_iff] at h
  obtain ⟨⟨d, ρ1⟩, h1, c, h2, h3⟩ := h
  cases h3
  have e := asB_some h2
  simp only at e
  subst e
  exact fun S0 H0 A0 S H τσ τρ σ Q l o q => ha _ _ _ h1 S0 H0 A0 S H τσ τρ σ _ l o fun v S1 H1 s1 o1 r1 => by cases r1; exact ⟨b, rfl, q S1 H1 s1 o1⟩
theorem c_tyes : CT tYes (fun ρ => some (true, ρ)) := fun ρ b ρ' h => by
  cases h
  exact fun S0 H0 A0 S H τσ τρ σ Q l o q => q S H (Same.refl S) o
theorem c_yif (ht : CT t tm) (ha : CY ta y) (hb : CY tb z) : CY (tIf t ta tb) (yIf tm y z) := fun ρ r ρ' h => by
  simp only [yIf, Option.bind_eq_some_iff] at h
  obtain ⟨⟨c, ρ1⟩, h1, h2⟩ := h
  refine fun S0 H0 A0 S H τσ τρ σ Q l o q => ht _ _ _ h1 S0 H0 A0 S H τσ τρ σ _ l o fun S1 H1 s1 o1 => ?_
  cases c with
  | true => exact iteT (ha _ _ _ h2 S0 H0 A0 S1 H1 τσ τρ σ _ l o1 fun v S2 H2 s2 o2 => q v S2 H2 (s1.trans s2) o2)
  | false => exact iteF (hb _ _ _ h2 S0 H0 A0 S1 H1 τσ τρ σ _ l o1 fun v S2 H2 s2 o2 => q v S2 H2 (s1.trans s2) o2)
theorem c_ylc {wi : TI} {g : TG} {gm : Gm} {is vs : List Nat} (hi : CI wi lm) (hg : CG g gm is) (hs : ∀ j ∈ is, j ∈ vs) (ht : CT t tm) (he : CY te y) : CY (tLc wi g t te vs) (yLc vs lm gm tm y) := fun ρ r ρ' h => by
  simp only [yLc, Option.bind_eq_some_iff] at h
  obtain ⟨⟨ds, ρ1⟩, h1, h2⟩ := h
  split at h2
  · rename_i hc
    simp only [Bool.and_eq_true, decide_eq_true_eq] at hc
    cases hm : mLc vs (lcStep gm tm y) ds [] (wipeE ρ1 vs) with
    | none => simp only at h2; rw [hm] at h2; cases h2
    | some p =>
      obtain ⟨rs, ρ2⟩ := p
      simp only at h2
      rw [hm] at h2
      cases h2
      refine evy_lc (hi _ _ _ h1) (fun x ρa o ρb hst => ?_) hm hc.1 hc.2
      simp only [lcStep, Option.bind_eq_some_iff] at hst
      obtain ⟨ρm, g1, ⟨b, ρt⟩, g2, g3⟩ := hst
      refine ⟨ρm, is, b, ρt, hg _ _ _ g1, hs, ht _ _ _ g2, ?_⟩
      cases b with
      | false => simp at g3; obtain ⟨rfl, rfl⟩ := g3; exact ⟨rfl, rfl⟩
      | true =>
        simp only [if_true, Option.bind_eq_some_iff] at g3
        obtain ⟨⟨s, ρs⟩, g4, g5⟩ := g3
        split at g5
        · cases g5
        · rename_i hn
          cases g5
          exact ⟨rfl, isNo_false hn, he _ _ _ g4⟩
  · cases h2
end
/-! ### targets -/
def gmName (i : Nat) : Gm := fun x ρ => some (ρ.set i (.d x))
def gmTup (g : Gms) : Gm := fun x ρ => match x with
  | .tuple xs => g xs ρ
  | _ => Option.none
def gmLst (g : Gms) : Gm := fun x ρ => match x with
  | .list xs => g xs ρ
  | _ => Option.none
def gsNil : Gms := fun xs ρ => match xs with
  | [] => some ρ
  | _ => Option.none
def gsCons (g : Gm) (h : Gms) : Gms := fun xs ρ => match xs with
  | x :: xs => (g x ρ).bind fun ρ1 => h xs ρ1
  | _ => Option.none
section
variable {g : TG} {gs : TGs} {gm : Gm} {gms : Gms} {is ks : List Nat}
theorem c_gname (i : Nat) : CG (gName i) (gmName i) [i] := fun ρ x ρ' h => by cases h; exact tg_name
/-- as many as the length says -/
def CGn (n : Nat) (g : TGs) (m : Gms) (is : List Nat) : Prop := CGs g m is ∧ ∀ ρ xs ρ', m xs ρ = some ρ' → xs.length = n
theorem c_gsnil : CGn 0 gNil gsNil [] := by
  refine ⟨fun ρ xs ρ' h => ?_, fun ρ xs ρ' h => ?_⟩
  · cases xs with
    | nil => cases h; exact tgs_nil
    | cons => cases h
  · cases xs with
    | nil => rfl
    | cons => cases h
theorem c_gscons {n : Nat} (h1 : CG g gm is) (h2 : CGn n gs gms ks) : CGn (n + 1) (gCons g gs) (gsCons gm gms) (is ++ ks) := by
  refine ⟨fun ρ xs ρ' h => ?_, fun ρ xs ρ' h => ?_⟩
  · cases xs with
    | nil => cases h
    | cons x xs =>
      simp only [gsCons, Option.bind_eq_some_iff] at h
      obtain ⟨ρ1, g1, g2⟩ := h
      exact tgs_cons (h1 _ _ _ g1) (h2.1 _ _ _ g2)
  · cases xs with
    | nil => cases h
    | cons x xs =>
      simp only [gsCons, Option.bind_eq_some_iff] at h
      obtain ⟨ρ1, g1, g2⟩ := h
      rw [List.length_cons, h2.2 _ _ _ g2]
theorem c_gtup {n : Nat} (h : CGn n gs gms is) : CG (gTup kf.K n gs) (gmTup gms) is := fun ρ x ρ' e => by
  cases x with
  | tuple xs => exact tg_tup (h.1 _ _ _ e) (h.2 _ _ _ e)
  | _ => cases e
end
end MR
namespace MR
open PySem L2 PL
/-! ### statements -/
def sSeq (a b : Sm) : Sm := fun ρ => match a ρ with
  | some (.nx, ρ1) => b ρ1
  | o => o
def sNext : Sm := fun ρ => some (.nx, ρ)
def sAsg (i : Nat) (y : Ym) : Sm := fun ρ => (y ρ).map fun p => (.nx, p.2.set i p.1)
def sAsgG (g : Gm) (y : Dm) : Sm := fun ρ => (y ρ).bind fun p => (g p.1 p.2).map fun ρ' => (.nx, ρ')
def sRet (y : Ym) : Sm := fun ρ => (y ρ).map fun p => (.rt p.1, p.2)
def sRetN : Sm := fun ρ => some (.rt (.d .none), ρ)
def sDrop (y : Ym) : Sm := fun ρ => (y ρ).map fun p => (.nx, p.2)
def sIf (t : Tm) (a b : Sm) : Sm := fun ρ => (t ρ).bind fun p => if p.1 then a p.2 else b p.2
def sFor (it : Lm) (g : Gm) (b : Sm) : Sm := fun ρ => (it ρ).bind fun p => mFor (fun x ρ => (g x ρ).bind b) p.1 p.2
def sNever : Sm := fun _ => Option.none
/-- x.append(e), whatever e does -/
def sApp (i : Nat) (y : Ym) : Sm := fun ρ => match ρ[i]? with
  | some (.nd .lst _) => (y ρ).bind fun p => if isNo p.1 then Option.none else match p.2[i]? with
    | some (.nd .lst ts) => if ts.length ≤ 1000000 then some (.nx, p.2.set i (.nd .lst (ts ++ [p.1]))) else Option.none
    | _ => Option.none
  | _ => Option.none
/-- .. at a path, e read alone -/
abbrev Fm := Env → Option OT
def fR (a : Rm) : Fm := fun ρ => (a ρ).bind fun x => if tfl x then some (.d x) else Option.none
def putAt (i : Nat) (p : List Nat) (s : OT) (ρ : Env) : Env := match ρ[i]? with
  | some t => ρ.set i (t.put p s)
  | Option.none => ρ
def sAppP (i : Nat) (pm : Pm) (f : Fm) : Sm := fun ρ => (pm ρ).bind fun q => match q.2 with
  | .nd .lst ts => (f ρ).bind fun r => if isNo r then Option.none else if ts.length ≤ 1000000 then some (.nx, putAt i q.1 (.nd .lst (ts ++ [r])) ρ) else Option.none
  | _ => Option.none
def sSetP (i : Nat) (pm : Pm) (ix : Rm) (y : Ym) : Sm := fun ρ => (y ρ).bind fun p => if isNo p.1 then Option.none else (pm p.2).bind fun q => match q.2 with
  | .nd .lst ts => (ix p.2).bind fun d => match d with
    | .int n => (ixN ts.length n).map fun j => (.nx, putAt i q.1 (.nd .lst (ts.set j p.1)) p.2)
    | _ => Option.none
  | _ => Option.none
def sRevP (i : Nat) (pm : Pm) : Sm := fun ρ => (pm ρ).bind fun q => match q.2 with
  | .nd .lst ts => some (.nx, putAt i q.1 (.nd .lst ts.reverse) ρ)
  | _ => Option.none
def sClrP (i : Nat) (pm : Pm) : Sm := fun ρ => (pm ρ).bind fun q => match q.2 with
  | .nd .lst _ => some (.nx, putAt i q.1 (.nd .lst []) ρ)
  | _ => Option.none
def yPop (i : Nat) (dm : Dm) : Ym := fun ρ => match ρ[i]? with
  | some (.nd .lst _) => (dm ρ).bind fun p => match p.1 with
    | .int n => match p.2[i]? with
      | some (.nd .lst ts) => if -(2 ^ 63) ≤ n ∧ n < 2 ^ 63 then (seqIndex? n ts.length).bind fun j => (ts[j]?).map fun s => (s, p.2.set i (.nd .lst (ts.eraseIdx j))) else Option.none
      | _ => Option.none
    | _ => Option.none
  | _ => Option.none
def pmVar (i : Nat) : Pm := fun ρ => match ρ[i]? with
  | some (.nd k ts) => some ([], .nd k ts)
  | _ => Option.none
def pmIx (pm : Pm) (ix : Rm) : Pm := fun ρ => (pm ρ).bind fun q => match q.2 with
  | .nd .lst ts => (ix ρ).bind fun d => match d with
    | .int n => (ixN ts.length n).bind fun j => (ts[j]?).map fun s => (q.1 ++ [j], s)
    | _ => Option.none
  | _ => Option.none
variable [kf : KF] [wx : WXI]
section
variable {ta tb tc te tp : TE} {tl tr : TA} {t u : TT} {ts us : TS} {a b c : Rm} {q p : Qm} {m k : Bm} {R : R2} {E : XK} {y z : Ym} {dm dn : Dm} {lm ln : Lm} {om on : Om} {tm tn : Tm} {s1 s2 : Sm} {js : List Nat} {i : Nat} {pm : Pm} {fm : Fm}
theorem c_seq (h1 : CS js ts s1) (h2 : CS js us s2) : CS js (tSeq ts us) (sSeq s1 s2) := fun ρ fl ρ' h => by
  unfold sSeq at h
  cases e : s1 ρ with
  | none => rw [e] at h; cases h
  | some p =>
    obtain ⟨f, ρ1⟩ := p
    rw [e] at h
    cases f with
    | nx => exact run_seq (h1 _ _ _ e) (h2 _ _ _ h)
    | bk => cases h; exact run_seqB (h1 _ _ _ e)
    | ct => cases h; exact run_seqC (h1 _ _ _ e)
    | rt r => cases h; exact run_seqR (h1 _ _ _ e)
    | xc x => cases h; exact run_seqX (h1 _ _ _ e)
theorem c_next : CS js tNext sNext := fun ρ fl ρ' h => by cases h; exact run_next
theorem c_asg (h : CY te y) (hi : i ∉ js := by decide) : CS js (tAsg te (gName i)) (sAsg i y) := fun ρ fl ρ' e => by
  simp only [sAsg, Option.map_eq_some_iff] at e
  obtain ⟨⟨r, ρ1⟩, e1, e2⟩ := e
  cases e2
  exact run_asg (h _ _ _ e1) hi
theorem c_asgG {g : TG} {gm : Gm} {is : List Nat} (h : CD te dm) (hg : CG g gm is) (hi : ∀ j ∈ js, j ∉ is := by decide) : CS js (tAsg te g) (sAsgG gm dm) := fun ρ fl ρ' e => by
  simp only [sAsgG, Option.bind_eq_some_iff, Option.map_eq_some_iff] at e
  obtain ⟨⟨x, ρ1⟩, e1, ρ2, e2, e3⟩ := e
  cases e3
  exact run_asgT (h _ _ _ e1) (hg _ _ _ e2) hi
theorem c_ret (h : CY te y) : CS js (tRet te) (sRet y) := fun ρ fl ρ' e => by
  simp only [sRet, Option.map_eq_some_iff] at e
  obtain ⟨⟨r, ρ1⟩, e1, e2⟩ := e
  cases e2
  exact run_ret (h _ _ _ e1)
theorem c_sif (ht : CT t tm) (h1 : CS js ts s1) (h2 : CS js us s2) : CS js (tIfS t ts us) (sIf tm s1 s2) := fun ρ fl ρ' e => by
  simp only [sIf, Option.bind_eq_some_iff] at e
  obtain ⟨⟨b, ρ1⟩, e1, e2⟩ := e
  refine run_if (ht _ _ _ e1) (fun hb => ?_) (fun hb => ?_)
  · subst hb; exact h1 _ _ _ e2
  · subst hb; exact h2 _ _ _ e2
theorem c_for {wi : TI} {g : TG} {gm : Gm} {is : List Nat} (hi : CI wi lm) (hg : CG g gm is) (hb : CS js ts s1) (hj : ∀ j ∈ js, j ∉ is := by decide) : CS js (tFor wi g ts) (sFor lm gm s1) := fun ρ fl ρ' e => by
  simp only [sFor, Option.bind_eq_some_iff] at e
  obtain ⟨⟨ds, ρ1⟩, e1, e2⟩ := e
  refine run_for (hi _ _ _ e1) (fun x ρa fl ρb h => ?_) e2
  simp only [Option.bind_eq_some_iff] at h
  obtain ⟨ρm, h1, h2⟩ := h
  exact ⟨ρm, is, hg _ _ _ h1, hj, hb _ _ _ h2⟩
theorem c_app (he : CY te y) : CS js (tDrop (tBM kf.K "list" rAppend (tVar i) (tCons te tNil))) (sApp i y) := fun ρ fl ρ' e => by
  unfold sApp at e
  split at e
  · rename_i us h0
    simp only [Option.bind_eq_some_iff] at e
    obtain ⟨⟨r, ρ1⟩, e1, e2⟩ := e
    split at e2
    · cases e2
    · rename_i hn
      split at e2
      · rename_i vs h1
        split at e2
        · cases e2
          exact run_appendY h0 ⟨_, rfl⟩ (he _ _ _ e1) h1 (isNo_false hn) (by assumption)
        · cases e2
      · cases e2
  · cases e
theorem c_pvar (i : Nat) : CP (tVar i) i (pmVar i) := fun ρ p s h => by
  unfold pmVar at h
  split at h
  · rename_i k ts ht
    cases h
    exact ⟨pt_var ht (by intro z; cases z), _, ht, rfl⟩
  · cases h
theorem c_setP (hp : CP tp i pm) (hx : CR tb b) (he : CY te y) : CS js (tAsg te (gSub tp tb rSetL)) (sSetP i pm b y) := fun ρ fl ρ' e => by
  simp only [sSetP, Option.bind_eq_some_iff] at e
  obtain ⟨⟨r, ρ1⟩, h0, e⟩ := e
  split at e
  · cases e
  · rename_i hn
    simp only [Option.bind_eq_some_iff] at e
    obtain ⟨⟨p0, s0⟩, h1, h2⟩ := e
    obtain ⟨g1, t, g2, g3⟩ := hp _ _ _ h1
    simp only at h2
    split at h2
    · simp only [Option.bind_eq_some_iff] at h2
      obtain ⟨d, h3, h4⟩ := h2
      split at h4
      · simp only [Option.map_eq_some_iff] at h4
        obtain ⟨j, h5, h6⟩ := h4
        cases h6
        have := run_setitem (js := js) (he _ _ _ h0) g1 g2 g3 (hx _ _ h3) h5 (isNo_false hn)
        unfold putAt
        rw [g2]
        exact this
      · cases h4
    · cases h2
theorem c_pop (he : CD te dm) : CY (tBM kf.K "list" rPopAt (tVar i) (tCons te tNil)) (yPop i dm) := fun ρ r ρ' e => by
  unfold yPop at e
  split at e
  · rename_i us h0
    simp only [Option.bind_eq_some_iff] at e
    obtain ⟨⟨x, ρ1⟩, e1, e2⟩ := e
    simp only at e2
    split at e2
    · split at e2
      · rename_i vs h1
        split at e2
        · simp only [Option.bind_eq_some_iff, Option.map_eq_some_iff] at e2
          obtain ⟨j, e3, s, e4, e5⟩ := e2
          cases e5
          exact evy_pop h0 ⟨_, rfl⟩ (he _ _ _ e1) h1 e3 e4 (by assumption)
        · cases e2
      · cases e2
    · cases e2
  · cases e
end
/-! ### what is walked -/
def asL : D → Option (List D)
  | .list xs => some xs
  | _ => Option.none
def asT : D → Option (List D)
  | .tuple xs => some xs
  | _ => Option.none
def iL (a : Dm) : Lm := fun ρ => (a ρ).bind fun p => (asL p.1).map fun xs => (xs, p.2)
def iT (a : Dm) : Lm := fun ρ => (a ρ).bind fun p => (asT p.1).map fun xs => (xs, p.2)
def iR1 (a : Lm) : Lm := fun ρ => (a ρ).bind fun p => match p.1 with
  | [.int n] => if -(2 ^ 62) ≤ n ∧ n < 2 ^ 62 then some (rgD 0 n.toNat, p.2) else Option.none
  | _ => Option.none
def iR2 (a : Lm) : Lm := fun ρ => (a ρ).bind fun p => match p.1 with
  | [.int m, .int n] => if -(2 ^ 62) ≤ m ∧ m < 2 ^ 62 ∧ -(2 ^ 62) ≤ n ∧ n < 2 ^ 62 then some (rgD m (n - m).toNat, p.2) else Option.none
  | _ => Option.none
def iE (a : Lm) : Lm := fun ρ => (a ρ).bind fun p => match p.1 with
  | [.list ds] => some (enumD ds, p.2)
  | _ => Option.none
def iZ (a : Lm) : Lm := fun ρ => (a ρ).bind fun p => match p.1 with
  | [.list ds, .list es] => some (zipD ds es, p.2)
  | _ => Option.none
def iV (a : Lm) : Lm := fun ρ => (a ρ).bind fun p => match p.1 with
  | [.list ds] => some (ds.reverse, p.2)
  | _ => Option.none
section
variable {te : TE} {tl : TA} {dm : Dm} {lm : Lm}
theorem c_iL (h : CD te dm) : CI (iList kf.K te) (iL dm) := fun ρ xs ρ' e => by
  simp only [iL, Option.bind_eq_some_iff, Option.map_eq_some_iff] at e
  obtain ⟨⟨d, ρ1⟩, e1, ys, e2, e3⟩ := e
  cases e3
  cases d with
  | list zs => cases e2; exact it_list (h _ _ _ e1)
  | _ => cases e2
theorem c_iR1 (h : CL tl lm) : CI (iRng1 tl) (iR1 lm) := fun ρ xs ρ' e => by
  simp only [iR1, Option.bind_eq_some_iff] at e
  obtain ⟨⟨d, ρ1⟩, e1, e2⟩ := e
  simp only at e2
  split at e2
  · split at e2
    · rename_i hh
      cases e2; exact it_range1 (h _ _ _ e1) hh.2 hh.1
    · cases e2
  · cases e2
theorem c_iR2 (h : CL tl lm) : CI (iRng2 tl) (iR2 lm) := fun ρ xs ρ' e => by
  simp only [iR2, Option.bind_eq_some_iff] at e
  obtain ⟨⟨d, ρ1⟩, e1, e2⟩ := e
  simp only at e2
  split at e2
  · split at e2
    · cases e2; exact it_range2 (h _ _ _ e1) (by assumption)
    · cases e2
  · cases e2
theorem c_iE (h : CL tl lm) : CI (iEnum kf.K tl) (iE lm) := fun ρ xs ρ' e => by
  simp only [iE, Option.bind_eq_some_iff] at e
  obtain ⟨⟨d, ρ1⟩, e1, e2⟩ := e
  simp only at e2
  split at e2
  · cases e2; exact it_enum (h _ _ _ e1)
  · cases e2
end
end MR
namespace MR
open PySem L2 PL
/-! ### operators on data -/
def gI (f : Int → Int → D) : D → D → Option D
  | .int i, .int j => some (f i j)
  | _, _ => Option.none
def gAdd := gI fun i j => .int (i + j)
def gSub := gI fun i j => .int (i - j)
def gLt := gI fun i j => .bool (decide (i < j))
def gLe := gI fun i j => .bool (decide (i ≤ j))
def gGt := gI fun i j => .bool (decide (j < i))
def gGe := gI fun i j => .bool (decide (j ≤ i))
def gMulF : D → D → Option D
  | .int i, .int j => if (-(2 ^ 64) < i ∧ i < 2 ^ 64) ∨ (-(2 ^ 64) < j ∧ j < 2 ^ 64) then some (.int (i * j)) else Option.none
  | _, _ => Option.none
def gModF : D → D → Option D
  | .int i, .int j => if 0 < j then some (.int (i % j)) else Option.none
  | _, _ => Option.none
def gDivF : D → D → Option D
  | .int i, .int j => if 0 < j ∧ j.natAbs < 2 ^ 250 then some (.int (i / j)) else Option.none
  | _, _ => Option.none
def gPowF : D → D → Option D
  | .int i, .int j => if 0 ≤ j ∧ j ≤ 1000000 ∧ i.natAbs < 2 ^ 64 then some (.int (i ^ j.toNat)) else Option.none
  | _, _ => Option.none
theorem gMul_ex : ∃ f : D → D → Option D, f = gMulF := ⟨_, rfl⟩
noncomputable def gMul : D → D → Option D := gMul_ex.choose
theorem gMul_F : gMul = gMulF := gMul_ex.choose_spec
theorem gMod_ex : ∃ f : D → D → Option D, f = gModF := ⟨_, rfl⟩
noncomputable def gMod : D → D → Option D := gMod_ex.choose
theorem gMod_F : gMod = gModF := gMod_ex.choose_spec
theorem gDiv_ex : ∃ f : D → D → Option D, f = gDivF := ⟨_, rfl⟩
noncomputable def gDiv : D → D → Option D := gDiv_ex.choose
theorem gDiv_F : gDiv = gDivF := gDiv_ex.choose_spec
theorem gPow_ex : ∃ f : D → D → Option D, f = gPowF := ⟨_, rfl⟩
noncomputable def gPow : D → D → Option D := gPow_ex.choose
theorem gPow_F : gPow = gPowF := gPow_ex.choose_spec
theorem gMul_l {i j : Int} (h1 : -(2 ^ 64) < i) (h2 : i < 2 ^ 64) : gMul (.int i) (.int j) = some (.int (i * j)) := by
  rw [gMul_F]
  unfold gMulF
  simp only []
  rw [if_pos (.inl ⟨h1, h2⟩)]
theorem gMul_r {i j : Int} (h1 : -(2 ^ 64) < j) (h2 : j < 2 ^ 64) : gMul (.int i) (.int j) = some (.int (i * j)) := by
  rw [gMul_F]
  unfold gMulF
  simp only []
  rw [if_pos (.inr ⟨h1, h2⟩)]
theorem gMod_i {i j : Int} (h : 0 < j) : gMod (.int i) (.int j) = some (.int (i % j)) := by
  rw [gMod_F]
  unfold gModF
  simp only []
  rw [if_pos h]
theorem gDiv_w {i j : Int} (h1 : 0 < j) (h2 : j.natAbs < 2 ^ 250) : gDiv (.int i) (.int j) = some (.int (i / j)) := by
  rw [gDiv_F]
  unfold gDivF
  simp only []
  rw [if_pos ⟨h1, h2⟩]
theorem gDiv_i {i j : Int} (h1 : 0 < j) (h2 : j < 1073741824) : gDiv (.int i) (.int j) = some (.int (i / j)) :=
  gDiv_w h1 (Nat.lt_of_lt_of_le (show j.natAbs < 2 ^ 30 by omega) (Nat.pow_le_pow_right (by decide) (by decide)))
theorem gPow_i {i j : Int} (h1 : 0 ≤ j) (h2 : j ≤ 1000000) (h3 : i.natAbs < 2 ^ 64) : gPow (.int i) (.int j) = some (.int (i ^ j.toNat)) := by
  rw [gPow_F]
  unfold gPowF
  simp only []
  rw [if_pos ⟨h1, h2, h3⟩]
def gNeg : D → Option D
  | .int i => some (.int (-i))
  | _ => Option.none
def gEqD (d e : D) : Option D := if SeqAt.shaped d && SeqAt.shaped e then some (.bool (PyData.eqv d e)) else Option.none
def gNeD (d e : D) : Option D := if SeqAt.shaped d && SeqAt.shaped e then some (.bool (!PyData.eqv d e)) else Option.none
/-- of texts -/
def gEqS : D → D → Option D
  | .str x, .str y => some (.bool (decide (x = y)))
  | _, _ => Option.none
def gNeS : D → D → Option D
  | .str x, .str y => some (.bool (!decide (x = y)))
  | _, _ => Option.none
/-- of ints, of truths -/
def gEqI : D → D → Option D
  | .int x, .int y => some (.bool (decide (x = y)))
  | .bool x, .bool y => some (.bool (decide (x = y)))
  | _, _ => Option.none
def gNeI : D → D → Option D
  | .int x, .int y => some (.bool (!decide (x = y)))
  | .bool x, .bool y => some (.bool (!decide (x = y)))
  | _, _ => Option.none
def gIsN : D → D → Option D
  | d, .none => some (.bool (isN d))
  | _, _ => Option.none
def gNotN : D → D → Option D
  | d, .none => some (.bool (!isN d))
  | _, _ => Option.none
def gIsB : D → D → Option D
  | .bool a, .bool b => some (.bool (decide (a = b)))
  | _, _ => Option.none
def gNotB : D → D → Option D
  | .bool a, .bool b => some (.bool (!decide (a = b)))
  | _, _ => Option.none
def asInt : D → Option Int
  | .int i => some i
  | _ => Option.none
def asInts : List D → Option (List Int)
  | [] => some []
  | x :: xs => (asInt x).bind fun i => (asInts xs).map fun is => i :: is
def asBools : List D → Option (List Bool)
  | [] => some []
  | x :: xs => (asB x).bind fun i => (asBools xs).map fun is => i :: is
def gIxL : D → D → Option D
  | .list ds, .int n => atI ds n
  | _, _ => Option.none
def gIxT : D → D → Option D
  | .tuple ds, .int n => atI ds n
  | _, _ => Option.none
def gLeT : D → D → Option D
  | .tuple [.int a, .int b], .tuple [.int c, .int d] => some (.bool (lexLe (a, b) (c, d)))
  | _, _ => Option.none
theorem asBools_map (ns : List Bool) : asBools (ns.map .bool) = some ns := by
  induction ns with
  | nil => rfl
  | cons n ns ih => simp [asBools, asB, ih]
variable [kf : KF]
theorem gI_some {f : Int → Int → D} {d e x : D} (h : gI f d e = some x) : ∃ i j, d = .int i ∧ e = .int j ∧ x = f i j := by
  unfold gI at h
  split at h
  · cases h; exact ⟨_, _, rfl, rfl, rfl⟩
  · cases h
theorem o_I0 {g : Int → Int → V} {f : Int → Int → D} (hg : ∀ i j, vD (g i j) = some (f i j)) : OpM (rI0 g) (gI f) := fun d e x h => by
  obtain ⟨i, j, rfl, rfl, rfl⟩ := gI_some h
  exact fun H v u Q h1 h2 q => by cases h1; cases h2; exact ⟨i, j, rfl, rfl, q _ (hg i j)⟩
theorem o_add : OpM (rI0 fun i j => .int (i + j)) gAdd := o_I0 fun _ _ => rfl
theorem o_sub : OpM (rI0 fun i j => .int (i - j)) gSub := o_I0 fun _ _ => rfl
theorem o_lt : OpM (rI0 fun i j => .bl (decide (i < j))) gLt := o_I0 fun _ _ => rfl
theorem o_gt : OpM (rI0 fun i j => .bl (decide (j < i))) gGt := o_I0 fun _ _ => rfl
theorem o_ge : OpM (rI0 fun i j => .bl (decide (j ≤ i))) gGe := o_I0 fun _ _ => rfl
theorem o_mul : OpM (rI CMul fun i j => .int (i * j)) gMul := fun d e x h => by
  rw [gMul_F] at h
  unfold gMulF at h
  split at h
  · split at h
    · rename_i hc
      cases h
      exact fun H v u Q h1 h2 q => by cases h1; cases h2; exact ⟨_, _, rfl, rfl, hc, q _ rfl⟩
    · cases h
  · cases h
theorem o_mod : OpM (rI (fun _ j => 0 < j) fun i j => .int (i % j)) gMod := fun d e x h => by
  rw [gMod_F] at h
  unfold gModF at h
  split at h
  · split at h
    · rename_i hc
      cases h
      exact fun H v u Q h1 h2 q => by cases h1; cases h2; exact ⟨_, _, rfl, rfl, hc, q _ rfl⟩
    · cases h
  · cases h
theorem o_div : OpM (rI CDivW fun i j => .int (i / j)) gDiv := fun d e x h => by
  rw [gDiv_F] at h
  unfold gDivF at h
  split at h
  · split at h
    · rename_i hc
      cases h
      exact fun H v u Q h1 h2 q => by cases h1; cases h2; exact ⟨_, _, rfl, rfl, wide_div hc.1 hc.2 (by decide) (by decide), q _ rfl⟩
    · cases h
  · cases h
theorem o_pow : OpM (rI CPow fun i j => .int (i ^ j.toNat)) gPow := fun d e x h => by
  rw [gPow_F] at h
  unfold gPowF at h
  split at h
  · split at h
    · rename_i hc
      cases h
      exact fun H v u Q h1 h2 q => by cases h1; cases h2; exact ⟨_, _, rfl, rfl, hc, q _ rfl⟩
    · cases h
  · cases h
theorem o_neg : UnM (rU fun i => .int (-i)) gNeg := fun d x h => by
  unfold gNeg at h
  split at h
  · cases h
    exact fun H v Q h1 q => by cases h1; exact ⟨_, rfl, q _ rfl⟩
  · cases h
theorem o_eqD : OpM (rEqD kf.K) gEqD := fun d e x h => by
  unfold gEqD at h
  split at h
  · rename_i hc
    simp only [Bool.and_eq_true] at hc
    cases h
    exact fun H v u Q h1 h2 q => ⟨d, e, rp_dp _ _ (noDc_lay _ (SeqAt.canLay_of_shaped hc.1)) h1, rp_dp _ _ (noDc_lay _ (SeqAt.canLay_of_shaped hc.2)) h2, hc.1, hc.2, q _ rfl⟩
  · cases h
theorem o_neD : OpM (rNeD kf.K) gNeD := fun d e x h => by
  unfold gNeD at h
  split at h
  · rename_i hc
    simp only [Bool.and_eq_true] at hc
    cases h
    exact fun H v u Q h1 h2 q => ⟨d, e, rp_dp _ _ (noDc_lay _ (SeqAt.canLay_of_shaped hc.1)) h1, rp_dp _ _ (noDc_lay _ (SeqAt.canLay_of_shaped hc.2)) h2, hc.1, hc.2, q _ rfl⟩
  · cases h
theorem o_eqS : OpM rEq gEqS := fun d e x h => by
  unfold gEqS at h
  split at h
  · cases h
    exact fun H v u Q h1 h2 q => by
      cases h1; cases h2
      exact ⟨rfl, q _ (by simp [vD])⟩
  · cases h
theorem o_eqI : OpM rEq gEqI := fun d e x h => by
  unfold gEqI at h
  split at h
  · cases h
    exact fun H v u Q h1 h2 q => by cases h1; cases h2; exact ⟨rfl, q _ (by simp [vD])⟩
  · cases h
    exact fun H v u Q h1 h2 q => by cases h1; cases h2; exact ⟨rfl, q _ (by simp [vD])⟩
  · cases h
theorem o_neI : OpM rNe gNeI := fun d e x h => by
  unfold gNeI at h
  split at h
  · cases h
    exact fun H v u Q h1 h2 q => by cases h1; cases h2; exact ⟨rfl, q _ (by simp [vD])⟩
  · cases h
    exact fun H v u Q h1 h2 q => by cases h1; cases h2; exact ⟨rfl, q _ (by simp [vD])⟩
  · cases h
theorem o_notN : OpM (fun x y H Q => y = V.non ∧ Q (.bl (!decide (x = .non))) H) gNotN := fun d e x h => by
  unfold gNotN at h
  split at h
  · cases h
    exact fun H v u Q h1 h2 q => by cases h2; exact ⟨rfl, by rw [rp_isN h1]; exact q _ rfl⟩
  · cases h
theorem x_list : IxM (rIxL kf.K) gIxL := fun d e x h => by
  unfold gIxL at h
  split at h
  · exact ixz_list h
  · cases h
theorem x_tup : IxM (rIxT kf.K) gIxT := fun d e x h => by
  unfold gIxT at h
  split at h
  · exact ixz_tup h
  · cases h
theorem o_leT : OpM (rLeT kf.K) gLeT := fun d e x h => by
  unfold gLeT at h
  split at h
  · rename_i a b c d'
    cases h
    intro H v u Q r1 r2 q'
    obtain ⟨p, rfl, e1⟩ := rp_pair (p := (a, b)) r1
    obtain ⟨q, rfl, e2⟩ := rp_pair (p := (c, d')) r2
    refine ⟨p, q, _, _, rfl, rfl, .inl (.of e1), .inl (.of e2), ?_⟩
    refine q' _ ?_
    show some (PyData.bool _) = some (PyData.bool _)
    congr 2
    simp only [List.length_cons, List.length_nil, Nat.min_self, Ob.lexAt_succ, Ob.lexAt_zero, List.getD_cons_zero, List.getD_cons_succ, lexLe, decide_eq_true_eq, Nat.le_refl, decide_true, Nat.zero_add]
    by_cases c1 : a = c
    · by_cases c2 : b = d'
      · simp [c1, c2]
      · simp [c1, c2]
    · simp only [c1, if_false, false_and, or_false]
      congr 1
      apply propext
      omega
  · cases h
/-! ### built-ins that tell flat data -/
def gLen : List D → Option D
  | [.list ds] => some (.int (ds.length : Nat))
  | [.tuple ds] => some (.int (ds.length : Nat))
  | _ => Option.none
def gMax2 : List D → Option D
  | [.int i, .int j] => some (.int (max i j))
  | _ => Option.none
def gMin2 : List D → Option D
  | [.int i, .int j] => some (.int (min i j))
  | _ => Option.none
def gInt : List D → Option D
  | [.int i] => some (.int i)
  | [.bool b] => some (.int (if b then 1 else 0))
  | _ => Option.none
def gAll : List D → Option D
  | [.list ds] => (asBools ds).map fun bs => .bool (bs.all id)
  | _ => Option.none
theorem b_len : CbM (fun xs H Q => ∃ p ys, xs = [V.ref p] ∧ (SqL kf.K H p ys ∨ SqT kf.K H p ys) ∧ Q (.int ys.length) H) gLen := fun ds x h => by
  unfold gLen at h
  split at h
  · cases h
    intro H vs Q r q
    cases r with | cons a b => cases b; cases a with | lst r1 r2 => exact ⟨_, _, rfl, .inl r1, q _ (by rw [dpa_length r2]; rfl)⟩
  · cases h
    intro H vs Q r q
    cases r with | cons a b => cases b; cases a with | tup r1 r2 => exact ⟨_, _, rfl, .inr (.inl (.of r1)), q _ (by rw [dpa_length r2]; rfl)⟩
  · cases h
theorem b_max2 : CbM (fun xs H Q => ∃ i j, xs = [V.int i, .int j] ∧ Q (.int (if j > i then j else i)) H) gMax2 := fun ds x h => by
  unfold gMax2 at h
  split at h
  · cases h
    intro H vs Q r q
    cases r with | cons a b => cases b with | cons b c => cases c; cases a; cases b; exact ⟨_, _, rfl, q _ (by show some (PyData.int _) = _; congr 2; split <;> omega)⟩
  · cases h
theorem b_min2 : CbM (fun xs H Q => ∃ i j, xs = [V.int i, .int j] ∧ Q (.int (if j < i then j else i)) H) gMin2 := fun ds x h => by
  unfold gMin2 at h
  split at h
  · cases h
    intro H vs Q r q
    cases r with | cons a b => cases b with | cons b c => cases c; cases a; cases b; exact ⟨_, _, rfl, q _ (by show some (PyData.int _) = _; congr 2; split <;> omega)⟩
  · cases h
theorem b_int : CbM (fun xs H Q => (∃ i, xs = [V.int i] ∧ Q (.int i) H) ∨ ∃ k, xs = [V.bl k] ∧ Q (.int (if k then 1 else 0)) H) gInt := fun ds x h => by
  unfold gInt at h
  split at h
  · cases h
    intro H vs Q r q
    cases r with | cons a b => cases b; cases a; exact .inl ⟨_, rfl, q _ rfl⟩
  · cases h
    intro H vs Q r q
    cases r with | cons a b => cases b; cases a; exact .inr ⟨_, rfl, q _ rfl⟩
  · cases h
/-- isinstance(e, T), T written -/
def rIs (T : String) (a : Rm) : Rm := fun ρ => (a ρ).bind fun d => (kitB (tyN d) T).map .bool
theorem c_is {te : TE} {a : Rm} {T : String} (ha : CR te a) : CR (tCB (rIsi kf.K) (tCons te (tCons (tC (.ty T)) tNil))) (rIs T a) := fun ρ x h => by
  simp only [rIs, Option.bind_eq_some_iff, Option.map_eq_some_iff] at h
  obtain ⟨d, h1, b, h2, rfl⟩ := h
  exact fun S0 H0 A0 S H τσ τρ σ Q l o q => ha _ _ h1 S0 H0 A0 S H τσ τρ σ _ l o fun v S1 H1 x1 r1 => ⟨v, .ty T, _, _, b, rfl, .ty T, rp_ty r1, kit_ty h2, q _ S1 H1 x1 (.bl b)⟩
/-- a <= b < c, ints -/
def rCh (f g : Int → Int → Bool) (a b c : Rm) : Rm := fun ρ => (a ρ).bind fun x => (b ρ).bind fun y => match x, y with
  | .int i, .int j => if f i j then (c ρ).bind fun z => match z with
    | .int k => some (.bool (g j k))
    | _ => Option.none
    else some (.bool false)
  | _, _ => Option.none
theorem c_ch {ta tb tc : TE} {a b c : Rm} {f g : Int → Int → Bool} (ha : CR ta a) (hb : CR tb b) (hc : CR tc c) : CR (tChain (rI0 fun i j => .bl (f i j)) (rI0 fun i j => .bl (g i j)) ta tb tc) (rCh f g a b c) := fun ρ x h => by
  simp only [rCh, Option.bind_eq_some_iff] at h
  obtain ⟨d, h1, e, h2, h3⟩ := h
  split at h3
  · rename_i i j
    refine fun S0 H0 A0 S H τσ τρ σ Q l o q => ha _ _ h1 S0 H0 A0 S H τσ τρ σ _ l o fun v S1 H1 x1 r1 => hb _ _ h2 S0 H0 A0 S1 H1 τσ τρ σ _ l (o.ext x1) fun u S2 H2 x2 r2 => ?_
    cases r1; cases r2
    refine ⟨i, j, rfl, rfl, f i j, rfl, ?_⟩
    split at h3
    · rename_i hf
      simp only [Option.bind_eq_some_iff] at h3
      obtain ⟨z, h4, h5⟩ := h3
      split at h5
      · cases h5
        rw [hf]
        refine iteT (hc _ _ h4 S0 H0 A0 S2 H2 τσ τρ σ _ l ((o.ext x1).ext x2) fun w S3 H3 x3 r3 => ?_)
        cases r3
        exact ⟨j, _, rfl, rfl, q _ S3 H3 ((x1.trans x2).trans x3) (.bl _)⟩
      · cases h5
    · rename_i hf
      cases h3
      rw [show f i j = false by simpa using hf]
      exact iteF (q _ S2 H2 (x1.trans x2) (.bl false))
  · cases h3
/-! ### built-ins that tell something of their own -/
def lstO (ds : List D) : OT := .nd .lst (ds.map .d)
def GList : List D → Option OT
  | [.list ds] => some (lstO ds)
  | [.tuple ds] => some (lstO ds)
  | _ => Option.none
def GTuple : List D → Option OT
  | [.list ds] => some (.nd .tup (ds.map .d))
  | [.tuple ds] => some (.d (.tuple ds))
  | _ => Option.none
theorem own_lst {S H : Hp} {p : Addr} {vs : List V} {ds : List D} {Q : VK} (sh : Same S H) (hp : H p = none) (h : RpAll S vs ds) (q : ∀ v' S' H' A, Xt S H S' H' → OOk S' H' v' (lstO ds) A → A.Nodup → (∀ a ∈ A, H a = none) → Q v' H') : Q (.ref p) (upd H p (.lst vs)) :=
  q _ S _ [p] (.new sh hp) (.nd (k := .lst) rfl trivial (sh.free hp) upd_same (oall_of_rp h)) (by simp) fun a ha => by rw [List.mem_singleton.mp ha]; exact hp
theorem z_list : CbZ (fun xs H Q => ∃ p ys, xs = [V.ref p] ∧ (SqL kf.K H p ys ∨ SqT kf.K H p ys) ∧ ∀ l, H l = none → Q (.ref l) (upd H l (.lst ys))) GList := fun ds r h => by
  unfold GList at h
  split at h
  · cases h
    intro S H vs Q sh hr q
    cases hr with | cons a b => cases b; cases a with | lst r1 r2 => exact ⟨_, _, rfl, .inl (sh.seq r1), fun p hp => own_lst sh hp r2 q⟩
  · cases h
    intro S H vs Q sh hr q
    cases hr with | cons a b => cases b; cases a with | tup r1 r2 => exact ⟨_, _, rfl, .inr (.inl (.of (sh _ _ r1))), fun p hp => own_lst sh hp r2 q⟩
  · cases h
theorem z_tuple : CbZ (fun xs H Q => ∃ p ys, xs = [V.ref p] ∧ ((SqL kf.K H p ys ∧ ∀ l, H l = none → Q (.ref l) (upd H l (.tup ys))) ∨ (SqT kf.K H p ys ∧ Q (.ref p) H))) GTuple := fun ds r h => by
  unfold GTuple at h
  split at h
  · cases h
    intro S H vs Q sh hr q
    cases hr with
    | cons a b =>
      cases b
      cases a with
      | lst r1 r2 => exact ⟨_, _, rfl, .inl ⟨sh.seq r1, fun p hp => q _ S _ [] (.new sh hp) (.tup upd_same (oall_of_rp r2)) List.nodup_nil fun a ha => by cases ha⟩⟩
  · cases h
    intro S H vs Q sh hr q
    cases hr with
    | cons a b =>
      cases b
      cases a with
      | tup r1 r2 => exact ⟨_, _, rfl, .inr ⟨.inl (.of (sh _ _ r1)), q _ S H [] (.refl sh) (.d (.tup r1 r2)) List.nodup_nil fun a ha => by cases ha⟩⟩
  · cases h
end MR
namespace MR
open PySem L2 PL
/-! ### fresh things read -/
def rOpZ (G : D → D → Option OT) (a b : Rm) : Rm := fun ρ => (a ρ).bind fun d => (b ρ).bind fun e => (G d e).bind OT.toD
def rCbZ (G : List D → Option OT) (q : Qm) : Rm := fun ρ => (q ρ).bind fun ds => (G ds).bind OT.toD
/-- a list and a list -/
def GCat : D → D → Option OT
  | .list a, .list b => if a.length + b.length ≤ 1000000 then some (lstO (a ++ b)) else Option.none
  | _, _ => Option.none
/-- slices -/
abbrev Cm := Env → Option (Option Int)
def cNone : Cm := fun _ => some Option.none
def cSome (a : Rm) : Cm := fun ρ => (a ρ).bind fun d => (asInt d).map some
def rSl (a : Rm) (lo hi : Cm) : Rm := fun ρ => (a ρ).bind fun d => (asL d).bind fun xs => (lo ρ).bind fun l => (hi ρ).map fun h => .list (cutD xs l h)
def ySl (a : Dm) (lo hi : Cm) : Ym := fun ρ => (a ρ).bind fun p => (asL p.1).bind fun xs => (lo p.2).bind fun l => (hi p.2).map fun h => (lstO (cutD xs l h), p.2)
def ySlA (ra : Rm) (a : Dm) (lo hi : Cm) : Ym := fun ρ => match (ra ρ).bind fun d => (asL d).bind fun xs => (lo ρ).bind fun l => (hi ρ).bind fun h => lfO (some (lstO (cutD xs l h))) with
  | some r => some (r, ρ)
  | Option.none => ySl a lo hi ρ
/-- [..] * n, of a fresh list of flat items -/
def allD : List OT → Option (List D)
  | [] => some []
  | .d x :: ts => (allD ts).map fun xs => x :: xs
  | _ => Option.none
def yRep (y : Ym) (n : Rm) : Ym := fun ρ => (y ρ).bind fun p => match p.1 with
  | .nd .lst ts => (allD ts).bind fun xs => (n p.2).bind fun d => match d with
    | .int k => if -(2 ^ 63) ≤ k ∧ k < 2 ^ 63 ∧ xs.length * k.toNat ≤ 1000000 then some (lstO (List.replicate k.toNat xs).flatten, p.2) else Option.none
    | _ => Option.none
  | _ => Option.none
def yRng1 (n : Dm) : Ym := fun ρ => (n ρ).bind fun p => match p.1 with
  | .int k => if 0 ≤ k ∧ k ≤ 1000000 then some (lstO (rgD 0 k.toNat), p.2) else Option.none
  | _ => Option.none
def gRepr (d : D) : Option D := if d.canLay0 && decide (d.depth ≤ 60) && d.showable && decide (d.shown.length ≤ sizeLine) then some (.str d.shown) else Option.none
def rRepr (a : Rm) : Rm := fun ρ => (a ρ).bind gRepr
def dRepr (a : Dm) : Dm := fun ρ => (a ρ).bind fun p => (gRepr p.1).map fun x => (x, p.2)
def firstAt : List Int → Int → Nat → Option Nat
  | [], _, _ => Option.none
  | n :: ns, k, j => if n = k then some j else firstAt ns k (j + 1)
def gIndex : D → D → Option D
  | .list ds, .int k => (asInts ds).bind fun ns => (firstAt ns k 0).map fun j => .int (j : Nat)
  | _, _ => Option.none
def rIdx (a b : Rm) : Rm := fun ρ => (a ρ).bind fun d => (b ρ).bind fun e => gIndex d e
/-- dicts by pairs -/
def keyP : D → Option (List Key)
  | .tuple [.int i, .int j] => some [.inl i, .inl j]
  | _ => Option.none
def yDNew : Ym := fun ρ => some (.nd (.dT []) [], ρ)
def putO (ks : List (List Key)) (ts : List OT) (k : List Key) (v : OT) : Kd × List OT :=
  if (ks.any fun x => decide (x = k)) = true then (.dT ks, (ks.zip ts).map fun p => if p.1 = k then v else p.2) else (.dT (ks ++ [k]), ts ++ [v])
def sDPutM (i : Nat) (key val : Rm) : Sm := fun ρ => (val ρ).bind fun v => if !flat v then Option.none else (key ρ).bind fun d => (keyP d).bind fun k => match ρ[i]? with
  | some (.nd (.dT ks) ts) => if ks.length = ts.length ∧ ks.length ≤ 1000000 then some (.nx, ρ.set i (.nd (putO ks ts k (.d v)).1 (putO ks ts k (.d v)).2)) else Option.none
  | _ => Option.none
def asKeyP : List Key → Option (Int × Int)
  | [.inl i, .inl j] => some (i, j)
  | _ => Option.none
def asKeyPs : List (List Key) → Option (List (Int × Int))
  | [] => some []
  | k :: ks => (asKeyP k).bind fun p => (asKeyPs ks).map fun ps => p :: ps
def isTrueO : OT → Bool
  | .d (.bool true) => true
  | _ => false
def ySortD (i : Nat) : Ym := fun ρ => match ρ[i]? with
  | some (.nd (.dT ks) ts) => if ts.all isTrueO && decide (ks.length = ts.length) then (asKeyPs ks).map fun ps => (lstO ((srtL ps).map pairD), ρ) else Option.none
  | _ => Option.none
variable [kf : KF]
section
variable {ta tb tc te : TE} {tl tr : TA} {t u : TT} {a b c : Rm} {q p : Qm} {R : R2} {y z : Ym} {dm dn : Dm} {lm ln : Lm} {tol toh : TO} {lo hi : Cm} {js : List Nat} {i : Nat}
theorem c_rOpZ {G : D → D → Option OT} (hR : OpZ R G) (ha : CR ta a) (hb : CR tb b) : CR (tOp R ta tb) (rOpZ G a b) := fun ρ x h => by
  simp only [rOpZ, Option.bind_eq_some_iff] at h
  obtain ⟨d, h1, e, h2, r, h3, h4⟩ := h
  exact fun S0 H0 A0 S H τσ τρ σ Q l o q => ha _ _ h1 S0 H0 A0 S H τσ τρ σ _ l o fun v S1 H1 x1 g1 => hb _ _ h2 S0 H0 A0 S1 H1 τσ τρ σ _ l (o.ext x1) fun u S2 H2 x2 g2 =>
    hR _ _ _ h3 H2 H2 v u Q (Same.refl H2) (dp_mono x2.hh _ _ g1) g2 fun v' S' H' A xt g3 nd fr => q v' _ H' ((x1.trans x2).trans (xt_low x2.sh xt)) (ook_rp xt.sh _ _ _ _ g3 h4)
theorem z_cat : OpZ (rCatR kf.K) GCat := fun d e r h => by
  unfold GCat at h
  split at h
  · split at h
    · rename_i hl
      cases h
      intro S H v u Q sh h1 h2 q
      cases h1 with
      | lst r1 r2 =>
        cases h2 with
        | lst p1 p2 => exact ⟨_, _, _, _, rfl, rfl, sh.seq r1, sh.seq p1, sz_of (by rw [dpa_length r2, dpa_length p2]; exact hl), fun p hp => own_lst sh hp (dpa_append r2 p2) q⟩
    · cases h
  · cases h
/-! slices -/
def CC (to : TO) (m : Cm) : Prop := ∀ ρ i, m ρ = some i → ∀ (S0 H0 : Hp) (A0 : List Addr) (S H : Hp) (τσ : List (Option V)) (τρ : List OT) (σ : St) (Q : Option Int → Hp → Prop), τσ.length = τρ.length → Ok S0 H0 A0 S H (τσ ++ σ) (τρ ++ ρ) → (∀ S' H', Xt S H S' H' → Q i H') → to σ H Q
theorem c_cnone : CC tNoPart cNone := fun ρ i h => by cases h; exact fun S0 H0 A0 S H τσ τρ σ Q l o q => q S H (.refl o.sh)
theorem c_csome (ha : CR ta a) : CC (tPart ta) (cSome a) := fun ρ i h => by
  simp only [cSome, Option.bind_eq_some_iff, Option.map_eq_some_iff] at h
  obtain ⟨d, h1, n, h2, rfl⟩ := h
  cases d <;> simp [asInt] at h2
  subst h2
  exact fun S0 H0 A0 S H τσ τρ σ Q l o q => ha _ _ h1 S0 H0 A0 S H τσ τρ σ _ l o fun v S1 H1 x1 r1 => by cases r1; exact ⟨_, rfl, q S1 H1 x1⟩
theorem asL_some {d : D} {xs : List D} (h : asL d = some xs) : d = .list xs := by cases d <;> simp [asL] at h; rw [h]
theorem cut_rp {S : Hp} {vs : List V} {xs : List D} (r2 : RpAll S vs xs) (lo hi : Option Int) : RpAll S (cutV vs lo hi) (cutD xs lo hi) := by
  unfold cutV cutD
  rw [dpa_length r2]
  exact dpa_take _ (dpa_drop _ r2)
theorem c_rsl (ha : CR ta a) (hl : CC tol lo) (hh : CC toh hi) : CR (tSl (rSlL kf.K) ta tol toh) (rSl a lo hi) := fun ρ x h => by
  simp only [rSl, Option.bind_eq_some_iff, Option.map_eq_some_iff] at h
  obtain ⟨d, h1, xs, h2, i, h3, j, h4, rfl⟩ := h
  have e := asL_some h2
  subst e
  refine fun S0 H0 A0 S H τσ τρ σ Q l o q => ha _ _ h1 S0 H0 A0 S H τσ τρ σ _ l o fun v S1 H1 x1 r1 => hl _ _ h3 S0 H0 A0 S1 H1 τσ τρ σ _ l (o.ext x1) fun S2 H2 x2 => hh _ _ h4 S0 H0 A0 S2 H2 τσ τρ σ _ l ((o.ext x1).ext x2) fun S3 H3 x3 => ?_
  cases r1 with
  | lst r1 r2 =>
    have xa := x2.trans x3
    have r3 := cut_rp (dpa_mono xa.hh _ _ r2) i j
    refine ⟨_, _, rfl, xa.hh.seq r1, fun p hp => ?_⟩
    exact q _ S3 _ ((x1.trans xa).trans (.new x3.sh hp)) (.lst (SqL.of upd_same) (dpa_mono (Xt.new (o := .lst _) x3.sh hp).hh _ _ r3))
theorem c_ysl (ha : CD ta dm) (hl : CC tol lo) (hh : CC toh hi) : CY (tSl (rSlL kf.K) ta tol toh) (ySl dm lo hi) := fun ρ r ρ' h => by
  simp only [ySl, Option.bind_eq_some_iff, Option.map_eq_some_iff] at h
  obtain ⟨⟨d, ρ1⟩, h1, xs, h2, i, h3, j, h4, h5⟩ := h
  cases h5
  have e := asL_some h2
  simp only at e
  subst e
  refine fun S0 H0 A0 S H τσ τρ σ Q l o q => ha _ _ _ h1 S0 H0 A0 S H τσ τρ σ _ l o fun v S1 H1 s1 o1 r1 => hl _ _ h3 S0 H0 A0 S1 H1 τσ τρ σ _ l o1 fun S2 H2 x2 => hh _ _ h4 S0 H0 A0 S2 H2 τσ τρ σ _ l (o1.ext x2) fun S3 H3 x3 => ?_
  cases r1 with
  | lst r1 r2 =>
    have xa := x2.trans x3
    exact ⟨_, _, rfl, (o1.sh.trans xa.hh).seq r1, fun p hp => own_lst x3.sh hp (cut_rp (dpa_mono xa.ss _ _ r2) i j) fun v' S' H' A xt g nd fr => q v' S' H' (s1.trans (xa.ss.trans xt.ss)) (((o1.ext x2).ext x3).push xt g nd fr)⟩
theorem c_yslA (hra : CR ta a) (ha : CD ta dm) (hl : CC tol lo) (hh : CC toh hi) : CY (tSl (rSlL kf.K) ta tol toh) (ySlA a dm lo hi) := fun ρ r ρ' h => by
  unfold ySlA at h
  split at h
  · rename_i r' hr
    cases h
    simp only [Option.bind_eq_some_iff] at hr
    obtain ⟨d, h1, xs, h2, i, h3, j, h4, h5⟩ := hr
    obtain ⟨h6, h7⟩ := lfO_some h5
    cases h6
    have e := asL_some h2
    subst e
    refine fun S0 H0 A0 S H τσ τρ σ Q l o q => hra _ _ h1 S0 H0 A0 S H τσ τρ σ _ l o fun v S1 H1 x1 r1 => hl _ _ h3 S0 H0 A0 S1 H1 τσ τρ σ _ l (o.ext x1) fun S2 H2 x2 => hh _ _ h4 S0 H0 A0 S2 H2 τσ τρ σ _ l ((o.ext x1).ext x2) fun S3 H3 x3 => ?_
    cases r1 with
    | lst r1 r2 =>
      have xa := x2.trans x3
      refine ⟨_, _, rfl, xa.hh.seq r1, fun p hp => own_lst (Same.refl H3) hp (cut_rp (dpa_mono xa.hh _ _ r2) i j) fun v' S' H' A xt g nd fr => ?_⟩
      exact q v' _ H' ((x1.trans xa).trans (xt_low x3.sh xt)).ss ((((o.ext x1).ext x2).ext x3).push (xt_low x3.sh xt) (ook_lf xt.sh _ _ _ g h7 fun a ha => x3.sh.free (fr a ha)) nd fr)
  · exact c_ysl ha hl hh _ _ _ h
theorem allD_some : ∀ {ts : List OT} {xs : List D}, allD ts = some xs → ts = xs.map .d
  | [], xs, h => by cases h; rfl
  | .d x :: ts, xs, h => by
    simp only [allD, Option.map_eq_some_iff] at h
    obtain ⟨ys, h1, rfl⟩ := h
    rw [List.map_cons, ← allD_some h1]
  | .no :: ts, xs, h => by simp [allD] at h
  | .nd _ _ :: ts, xs, h => by simp [allD] at h
theorem c_yrep (hy : CY ta y) (hn : CR tb b) : CY (tOp rRep ta tb) (yRep y b) := fun ρ r ρ' h => by
  simp only [yRep, Option.bind_eq_some_iff] at h
  obtain ⟨⟨s, ρ1⟩, h1, h2⟩ := h
  simp only at h2
  split at h2
  · simp only [Option.bind_eq_some_iff] at h2
    obtain ⟨xs, h3, d, h4, h5⟩ := h2
    split at h5
    · split at h5
      · rename_i ts _ k hk
        cases h5
        have e := allD_some h3
        subst e
        refine fun S0 H0 A0 S H τσ τρ σ Q l o q => hy _ _ _ h1 S0 H0 A0 S H τσ τρ σ _ l o fun v S1 H1 s1 o1 => hn _ _ h4 S0 H0 A0 S1 H1 (some v :: τσ) (.nd .lst (xs.map .d) :: τρ) σ _ (by simp [l]) o1 fun u S2 H2 x2 r2 => ?_
        cases r2
        have o2 := o1.ext x2
        obtain ⟨B, e1, e2, e3⟩ := o2.env
        cases e1 with
        | cons p1 p2 =>
          cases p1 with
          | is p1 =>
            obtain ⟨a, vs, C, rfl, rfl, g1, g2, g3, g4⟩ := p1.inv_nd rfl
            have g5 := oall_rpS _ _ _ g4
            have len := dpa_length g5
            refine ⟨a, k, vs, rfl, rfl, g3, hk.1, hk.2.1, sz_of (by rw [len]; exact hk.2.2), fun p hp => ?_⟩
            exact own_lst x2.sh hp (dpa_rep g5 _) fun v' S' H' A xt g nd fr => q v' S' H' (s1.trans (x2.ss.trans xt.ss)) (o2.drop.push xt g nd fr)
      · cases h5
    · cases h5
  · cases h2
theorem c_yrng (hn : CD ta dm) : CY (tLstRg (tRg1 ta)) (yRng1 dm) := fun ρ r ρ' h => by
  simp only [yRng1, Option.bind_eq_some_iff] at h
  obtain ⟨⟨d, ρ1⟩, h1, h2⟩ := h
  simp only at h2
  split at h2
  · split at h2
    · rename_i n hk
      cases h2
      refine fun S0 H0 A0 S H τσ τρ σ Q l o q => hn _ _ _ h1 S0 H0 A0 S H τσ τρ σ _ l o fun v S1 H1 s1 o1 r1 => ?_
      cases r1
      refine ⟨_, rfl, RgOk.of_le (by omega) (by omega) (by omega) hk.1, fun p hp => ?_⟩
      have e := dpa_rg (H := S1) 0 n
      rw [show (n - 0).toNat = n.toNat by rw [Int.sub_zero]] at e
      exact own_lst o1.sh hp e fun v' S' H' A xt g nd fr => q v' S' H' (s1.trans xt.ss) (o1.push xt g nd fr)
    · cases h2
  · cases h2
/-! repr -/
def rReprV (K : PySem.W.Frag) : List V → Hp → VK → Prop := fun xs H Q => ∃ x d, xs = [x] ∧ Dp K H x d ∧ d.canLay0 = true ∧ d.depth ≤ 60 ∧ d.showable = true ∧ d.shown.length ≤ sizeLine ∧ Q (.str d.shown) H
end
theorem cr_repr {X : Cx} (hg : X.A.guards = some []) (hu : X.A.units + 64 < cLine) : CallR X (.builtin "repr") (rReprV X.K) := by
  intro pins s σ H xs us Q I r h
  obtain ⟨x, d, rfl, hd, hl, hdep, hs, hz, q⟩ := h
  obtain ⟨u, rfl, ru⟩ := vals1 r
  obtain ⟨as, hr⟩ := Dp.reads I d x u hd ru
  have fin : ∀ h' tk tk', (∀ b o, s.heap.get? b = some o → h'.get? b = some o) → EP X pins σ Q (.str d.shown tk') { s with heap := h', toks := tk } := fun h' tk tk' k => ⟨.str d.shown, H, I.kept k, ⟨tk', rfl⟩, q⟩
  have fin0 : ∀ tk', EP X pins σ Q (.str d.shown tk') { s with toks := s.toks + 1 } := fun tk' => ⟨.str d.shown, H, I.tok _, ⟨tk', rfl⟩, q⟩
  have fin1 : ∀ tk', EP X pins σ Q (.str d.shown tk') s := fun tk' => ⟨.str d.shown, H, I, ⟨tk', rfl⟩, q⟩
  cases hr with
  | none =>
    refine PySem.P.repr_of_none ?_
    simpa [PyData.shown_none] using fin0 s.toks
  | bool b =>
    refine PySem.P.repr_of_bool ?_
    simpa [PyData.shown_bool] using fin0 s.toks
  | int i t =>
    refine PySem.P.repr_of_int (by simpa [PyData.showable] using hs) ?_
    simpa [PyData.shown_int] using fin0 s.toks
  | str x t =>
    refine PySem.P.repr_of_str ?_ ?_
    · simpa [PyData.shown_str] using fin0 s.toks
    · simpa [PyData.shown_str] using hz
  | list h1 h2 h3 h4 =>
    exact PySem.repr_of_reads' (.list h1 h2 h3 h4) hs (PyData.noDict_hsm (PyData.hasDict_of_canLay _ hl)) hg (by omega) (fun _ _ e => e) (fun h' u tk k => fin h' tk u k) hz
  | tuple h1 h2 h3 h4 =>
    exact PySem.repr_of_reads' (.tuple h1 h2 h3 h4) hs (PyData.noDict_hsm (PyData.hasDict_of_canLay _ hl)) hg (by omega) (fun _ _ e => e) (fun h' u tk k => fin h' tk u k) hz
  | dict => simp [PyData.canLay0] at hl
end MR
namespace MR
open PySem L2 PL
variable [kf : KF]
section
variable {ta tb tc te : TE} {tl tr tk : TA} {t u : TT} {a b c : Rm} {q p : Qm} {R : R2} {y z : Ym} {dm dn : Dm} {lm ln : Lm} {js : List Nat} {i : Nat} {E : XK}
theorem c_dnew : CY tDNewT yDNew := fun ρ r ρ' h => by
  cases h
  exact fun S0 H0 A0 S H τσ τρ σ Q l o q p hp => q _ S _ (Same.refl S) (o.push (.new o.sh hp) (.nd (k := .dT []) (vs := []) (B := []) rfl rfl (o.sh.free hp) upd_same .nil) (by simp) fun a ha => by rw [List.mem_singleton.mp ha]; exact hp)
theorem putK_zip {ks : List (List Key)} {vs : List V} {k : List Key} {v : V} (hl : ks.length = vs.length) :
    putK (ks.zip vs) k v = if (ks.any fun x => decide (x = k)) = true then ks.zip ((ks.zip vs).map fun p => if p.1 = k then v else p.2) else (ks ++ [k]).zip (vs ++ [v]) := by
  have e : ((ks.zip vs).any fun kv => decide (kv.1 = k)) = ks.any fun x => decide (x = k) := by
    have h1 : (ks.zip vs).map (·.1) = ks := List.map_fst_zip (by omega)
    have h2 : ((ks.zip vs).map (·.1)).any (fun x => decide (x = k)) = (ks.zip vs).any fun kv => decide (kv.1 = k) := by rw [List.any_map]; rfl
    rw [h1] at h2
    exact h2.symm
  unfold putK
  rw [e]
  split
  · have gen : ∀ (ks : List (List Key)) (vs : List V), ks.length = vs.length → (ks.zip vs).map (fun kv => if kv.1 = k then (kv.1, v) else kv) = ks.zip ((ks.zip vs).map fun p => if p.1 = k then v else p.2) := by
      intro ks
      induction ks with
      | nil => intro vs _; rfl
      | cons x ks ih =>
        intro vs hl
        cases vs with
        | nil => simp at hl
        | cons w vs =>
          simp only [List.zip_cons_cons, List.map_cons]
          rw [ih vs (by simpa using hl)]
          split <;> rfl
    exact gen ks vs hl
  · rw [List.zip_append hl]; rfl
theorem c_dput (hk : CR tb b) (hv : CR tc c) : CS js (sDPut (tVar i) tb tc) (sDPutM i b c) := fun ρ fl ρ' h => by
  simp only [sDPutM, Option.bind_eq_some_iff] at h
  obtain ⟨v, h1, h2⟩ := h
  split at h2
  · cases h2
  · rename_i hfl
    have hfl : flat v = true := by simpa using hfl
    simp only [Option.bind_eq_some_iff] at h2
    obtain ⟨d, h3, k, h4, h5⟩ := h2
    split at h5
    · rename_i ks ts ht
      split at h5
      · rename_i hc
        cases h5
        refine fun S0 H0 A0 S H σ F E hF hx o kk => hv _ _ h1 S0 H0 A0 S H [] [] σ _ rfl o fun w S1 H1 x1 r1 => ?_
        have o1 := o.ext x1
        obtain ⟨w0, a, vs, B, C, g1, g2, g5, g3, g6, g7, g8, g9, g10⟩ := Ok.rewrite (τσ := []) (τρ := []) (p := []) rfl o1.dummy ht rfl rfl
        simp only [follow, Option.some.injEq] at g2
        subst g2
        refine ⟨_, g1, hk _ _ h3 S0 H0 A0 S1 H1 [] [] σ _ rfl o1 fun u S2 H2 x2 r2 => ?_⟩
        have o2 := o1.ext x2
        obtain ⟨w0', a', vs', B', C', g1', g2', g5', g3', g6', g7', g8', g9', g10'⟩ := Ok.rewrite (τσ := []) (τρ := []) (p := []) rfl o2.dummy ht rfl rfl
        rw [g1] at g1'; cases g1'
        simp only [follow, Option.some.injEq] at g2'
        cases g2'
        unfold keyP at h4
        split at h4
        · rename_i i1 j1
          cases h4
          obtain ⟨ka, rfl, ke⟩ := rp_pair (p := (i1, j1)) r2
          have len := g7'.len
          refine ⟨a, _, rfl, DPut.t (k := [.inl i1, .inl j1]) g3' ke (sz_lt (by rw [List.length_zip]; omega)), ?_⟩
          rw [putK_zip (by omega)]
          have vw : OOk S2 H2 w (.d v) [] := .d (dp_flat hfl r1)
          have fin : ∀ {k' : Kd} {us : List V} {ts' : List OT} {B2 : List Addr}, k'.isTup = false → k'.fits ts'.length → OAll S2 H2 us ts' B2 → B2.Nodup → (∀ b ∈ B2, b ∈ B') → E.nx σ (upd H2 a (shape k' us)) → True := fun _ _ _ _ _ _ => trivial
          have done : ∀ {k' : Kd} {us : List V} {ts' : List OT} {B2 : List Addr}, k'.isTup = false → k'.fits ts'.length → OAll S2 H2 us ts' B2 → B2.Nodup → (∀ b ∈ B2, b ∈ B') → (.nd k' ts' = OT.nd (putO ks ts [.inl i1, .inl j1] (.d v)).1 (putO ks ts [.inl i1, .inl j1] (.d v)).2) → E.nx σ (upd H2 a (shape k' us)) := by
            intro k' us ts' B2 z1 z2 z3 z4 z5 z6
            have := g10' (k' := k') (y' := Option.none) (r' := .no) (C' := []) z1 z2 z3 .no (by simpa using z4) (fun b hb => List.mem_append_left _ (z5 b (by simpa using hb)))
            have := this.drop
            simp only [OT.put] at this
            rw [z6] at this
            exact kk S2 _ σ (x1.ss.trans x2.ss) hx this
          have ndB := (List.nodup_append.mp g9').1
          split
          · rename_i hany
            -- the values under that key are the new one
            have gen : ∀ (ks : List (List Key)) (vs : List V) (ts : List OT) (B : List Addr), ks.length = ts.length → OAll S2 H2 vs ts B → B.Nodup → ∃ B2, OAll S2 H2 ((ks.zip vs).map fun p => if p.1 = [Sum.inl i1, Sum.inl j1] then w else p.2) ((ks.zip ts).map fun p => if p.1 = [Sum.inl i1, Sum.inl j1] then OT.d v else p.2) B2 ∧ B2.Nodup ∧ ∀ b ∈ B2, b ∈ B := by
              intro ks
              induction ks with
              | nil => intro vs ts B hl h nd; exact ⟨[], .nil, List.nodup_nil, fun b hb => by cases hb⟩
              | cons x ks ih =>
                intro vs ts B hl h nd
                cases ts with
                | nil => simp at hl
                | cons t ts =>
                  cases h with
                  | @cons v0 vs _ _ A B h1 h2 =>
                    have nd' := List.nodup_append.mp nd
                    obtain ⟨B2, q1, q2, q3⟩ := ih vs ts B (by simpa using hl) h2 nd'.2.1
                    simp only [List.zip_cons_cons, List.map_cons]
                    by_cases e : x = [Sum.inl i1, Sum.inl j1]
                    · rw [if_pos e, if_pos e]
                      exact ⟨[] ++ B2, .cons vw q1, by simpa using q2, fun b hb => List.mem_append_right _ (q3 b (by simpa using hb))⟩
                    · rw [if_neg e, if_neg e]
                      refine ⟨A ++ B2, .cons h1 q1, List.nodup_append.mpr ⟨nd'.1, q2, fun a ha b hb => nd'.2.2 a ha b (q3 b hb)⟩, fun b hb => ?_⟩
                      rcases List.mem_append.mp hb with z | z
                      · exact List.mem_append_left _ z
                      · exact List.mem_append_right _ (q3 b z)
            obtain ⟨B2, q1, q2, q3⟩ := gen ks vs' ts B' hc.1 g7' ndB
            refine done (k' := .dT ks) rfl ?_ q1 q2 q3 ?_
            · show ks.length = _
              rw [List.length_map, List.length_zip]; omega
            · unfold putO; rw [if_pos hany]
          · rename_i hany
            refine done (k' := .dT (ks ++ [[.inl i1, .inl j1]])) rfl ?_ (g7'.app (.one vw)) (by simpa using ndB) (fun b hb => by simpa using hb) ?_
            · show (ks ++ [[Sum.inl i1, Sum.inl j1]]).length = (ts ++ [OT.d v]).length
              simp [hc.1]
            · unfold putO; rw [if_neg hany]
        · cases h4
      · cases h5
    · cases h5
theorem asKeyPs_some : ∀ {ks : List (List Key)} {ps : List (Int × Int)}, asKeyPs ks = some ps → ks = ps.map fun p => (PL.keyOf p).1
  | [], ps, h => by cases h; rfl
  | k :: ks, ps, h => by
    simp only [asKeyPs, Option.bind_eq_some_iff, Option.map_eq_some_iff] at h
    obtain ⟨p, h1, qs, h2, rfl⟩ := h
    rw [List.map_cons, ← asKeyPs_some h2]
    unfold asKeyP at h1
    split at h1
    · cases h1; rfl
    · cases h1
theorem c_sortD : CY (tCB rSortedDT (tCons (tVar i) tNil)) (ySortD i) := fun ρ r ρ' h => by
  unfold ySortD at h
  split at h
  · rename_i ks ts ht
    split at h
    · rename_i hc
      simp only [Bool.and_eq_true, decide_eq_true_eq] at hc
      simp only [Option.map_eq_some_iff] at h
      obtain ⟨ps, h1, h2⟩ := h
      cases h2
      have e := asKeyPs_some h1
      refine fun S0 H0 A0 S H τσ τρ σ Q l o q => ?_
      obtain ⟨v, A, e1, e2⟩ := o.slot l ht (by intro z; cases z)
      obtain ⟨a, vs, B, rfl, rfl, g1, g2, g3, g4⟩ := e2.inv_nd rfl
      have trues : ∀ (ts : List OT) (vs : List V) (B : List Addr), OAll S H vs ts B → ts.all isTrueO = true → ∀ ps : List (Int × Int), ps.length = ts.length → (ps.map fun p => (PL.keyOf p).1).zip vs = ps.map PL.keyOf := by
        intro ts
        induction ts with
        | nil => intro vs B h _ ps hl; cases h; cases ps with
          | nil => rfl
          | cons => simp at hl
        | cons t ts ih =>
          intro vs B h hall ps hl
          rw [List.all_cons, Bool.and_eq_true] at hall
          cases h with
          | cons h1 h2 =>
            cases ps with
            | nil => simp at hl
            | cons p ps =>
              have et : t = .d (.bool true) := by
                have := hall.1
                unfold isTrueO at this
                split at this
                · rfl
                · cases this
              subst et
              cases h1 with
              | d h1 =>
                cases h1
                simp only [List.map_cons, List.zip_cons_cons]
                rw [ih _ _ h2 hall.2 ps (by simpa using hl)]
                rfl
      have g3' : H a = some (.dT (ps.map PL.keyOf)) := by
        rw [g3]
        show some (HO.dT (ks.zip vs)) = _
        rw [e, trues ts vs B g4 hc.1 ps (by rw [← hc.2, e, List.length_map])]
      refine ⟨_, e1, a, ps, rfl, g3', fun qs p q1 q2 q3 hp => ?_⟩
      have eq : srtL ps = qs.map (·.2) := lex_uniq (srtL_lex ps) q1 ((srtL_perm ps).trans q2.symm)
      have rp : ∀ l : List (Addr × (Int × Int)), (∀ z ∈ l, z ∈ qs) → RpAll (frz S H []) (l.map fun q => V.ref q.1) ((l.map (·.2)).map pairD) := by
        intro l
        induction l with
        | nil => intro _; exact .nil
        | cons z l ih =>
          intro hm
          exact .cons (.tup (frz_tup (q3 z (hm z List.mem_cons_self))) (.cons (.int _) (.cons (.int _) .nil))) (ih fun w hw => hm w (List.mem_cons_of_mem _ hw))
      rw [eq] at q
      have xf := xt_frz (S := S) (H := H) o.sh
      exact own_lst xf.sh hp (rp qs fun _ z => z) fun v' S' H' A xt g nd fr => q v' S' H' (xf.ss.trans xt.ss) ((o.ext xf).push xt g nd fr)
    · cases h
  · cases h
/-! ### keywords in the parameters' order -/
def lApp (m k : Nat) (a b : Lm) : Lm := fun ρ => (a ρ).bind fun p => (b p.2).bind fun q => if p.1.length = m ∧ q.1.length = k then some (p.1 ++ q.1, q.2) else Option.none
def qApp (m k : Nat) (a b : Qm) : Qm := fun ρ => (a ρ).bind fun p => (b ρ).bind fun q => if p.length = m ∧ q.length = k then some (p ++ q) else Option.none
end
/-- a def with what it promises -/
structure Dq (P : Program) (w : World) (K : PySem.W.Frag) (mg : Str → Option Value) (base : Heap) (x : Str) (k : Nat) (ps : List Str) (sp : Sp) where
  a : Addr
  fd : FuncData
  kp : PySem.W.keepIn K (.ref a) = true
  g : mg x = some (.ref a)
  G : FnQ P w K mg base CX0 k a fd ps sp
  b : Binds K fd ps []
section
variable {X : Cx} {K : PySem.W.Frag} (hK : X.K = K)
include hK
theorem call_tuple_ofK : CallR X (.type "tuple") (fun xs H Q => ∃ p ys, xs = [.ref p] ∧ ((SqL K H p ys ∧ ∀ l, H l = none → Q (.ref l) (upd H l (.tup ys))) ∨ (SqT K H p ys ∧ Q (.ref p) H))) := by subst hK; exact call_tuple_of
end
end MR
namespace MR
open PySem L2 PL
/-- f(x, ..), x made anew and let go -/
def yCallIT (f : OT → List D → Option (OT × OT)) (n : Nat) (y : Ym) (a : Lm) : Ym := fun ρ => (y ρ).bind fun p => if isNo p.1 then Option.none else (a p.2).bind fun q => if q.1.length + 1 = n then (f p.1 q.1).map fun s => (s.1, q.2) else Option.none
variable [kf : KF] [wx : WXI]
end MR
namespace MR
open PySem L2 PL
def ini (ds : List D) (k : Nat) : Env := ds.map OT.d ++ List.replicate k OT.no
variable [kf : KF] [wx : WXI]
theorem tie_plain {n k : Nat} {B : Sm} {vs : List V} {H : Hp} {Q : VK} {E : XK} {N : List Str} {t : TS} (hk : N.length - n = k) (hc : CS [] t B) (h : spP n (fun ds => fin (B (ini ds k))) vs H Q E) : t { nx := fun _ H' => Q .non H', rt := Q } (L2.start N vs) H := by
  subst hk
  exact def_plain h fun ds r hn hf => ⟨B (ini ds _), hf, fun fl ρ' e => hc _ _ _ e⟩
theorem tie_io {n k : Nat} {B : Sm} {vs : List V} {H : Hp} {Q : VK} {E : XK} {N : List Str} {t : TS} (hk : N.length - n = k) (hc : CS [0] t B) (h : spI n (fun t ds => finI (B (t :: ini ds k))) vs H Q E) : t { nx := fun _ H' => Q .non H', rt := Q } (L2.start N vs) H := by
  subst hk
  exact def_io h fun t0 ds r t1 hn hf => ⟨B (t0 :: ini ds _), hf, fun fl ρ' e => hc _ _ _ e⟩
end MR
namespace MR
open PySem L2 PL
variable [kf : KF] [wx : WXI]
def pmIxT (pm : Pm) (ix : Rm) : Pm := fun ρ => (pm ρ).bind fun q => match q.2 with
  | .nd .tup ts => (ix ρ).bind fun d => match d with
    | .int n => (ixN ts.length n).bind fun j => (ts[j]?).map fun s => (q.1 ++ [j], s)
    | _ => Option.none
  | _ => Option.none
end MR
namespace MR
open PySem L2 PL
section
variable {X : Cx} {K : PySem.W.Frag} (hK : X.K = K) {T : String} {name : Str} {id : String} {r : V → List V → Hp → VK → Prop} {o e : Expr} {es : List Expr} {to : TE} {t : TA} {apos cpos : Pos}
include hK
theorem pe_bmK (pa : PlainAttrs T) (slot : Slot T name id) (hty : typeOf (.builtin id) = pure (.type "method_descriptor")) (hm : MtR X id r) (ho : PE X o to) (ha : PA X (e :: es) t)
    (hbase : attributeBase o name X.env (eval o X.env) = eval o X.env := by rfl)
    (hfew : ((backTo cpos (starEach (e :: es) X.env)).all (fun x => !x.1) && (backToKw cpos (keywordEach [] X.env)).all (fun x => x.1.isSome) && decide ((e :: es).length + ([] : List Keyword).length + (if ([] : List Keyword).isEmpty then 0 else 1) < 30)) = true := by rfl)
    (hline : (apos.endLine == cpos.line) = true := by rfl) (hs : starEach (e :: es) X.env = (false, eval e X.env) :: starEach es X.env := by rfl) (hp : (backTo cpos (starEach es X.env)).any (·.1) = false := by rfl) :
    PE X (.Call (.Attribute o name apos) (e :: es) [] cpos) (tBM K T r to t) := by
  subst hK
  exact pe_bm pa slot hty hm ho ha hbase hfew hline hs hp
end
end MR
namespace MR
open PySem L2 PL
/-- a <= b < c < d, ints -/
def rCh3 (f g h : Int → Int → Bool) (a b c d : Rm) : Rm := fun ρ => (a ρ).bind fun x => (b ρ).bind fun y => match x, y with
  | .int i, .int j => if f i j then (c ρ).bind fun z => match z with
    | .int k => if g j k then (d ρ).bind fun u => match u with
      | .int l => some (.bool (h k l))
      | _ => Option.none
      else some (.bool false)
    | _ => Option.none
    else some (.bool false)
  | _, _ => Option.none
variable [kf : KF]
theorem c_ch3 {ta tb tc td : TE} {a b c d : Rm} {f g h : Int → Int → Bool} (ha : CR ta a) (hb : CR tb b) (hc : CR tc c) (hd : CR td d) :
    CR (tCh3 (rI0 fun i j => .bl (f i j)) (rI0 fun i j => .bl (g i j)) (rI0 fun i j => .bl (h i j)) ta tb tc td) (rCh3 f g h a b c d) := fun ρ x hh => by
  simp only [rCh3, Option.bind_eq_some_iff] at hh
  obtain ⟨d1, h1, e1, h2, h3⟩ := hh
  split at h3
  · rename_i i j
    refine fun S0 H0 A0 S H τσ τρ σ Q l o q => ha _ _ h1 S0 H0 A0 S H τσ τρ σ _ l o fun v S1 H1 x1 r1 => hb _ _ h2 S0 H0 A0 S1 H1 τσ τρ σ _ l (o.ext x1) fun u S2 H2 x2 r2 => ?_
    cases r1; cases r2
    refine ⟨i, j, rfl, rfl, f i j, rfl, ?_⟩
    split at h3
    · rename_i hf
      simp only [Option.bind_eq_some_iff] at h3
      obtain ⟨z, h4, h5⟩ := h3
      split at h5
      · rename_i k
        rw [hf]
        refine iteT (hc _ _ h4 S0 H0 A0 S2 H2 τσ τρ σ _ l ((o.ext x1).ext x2) fun w S3 H3 x3 r3 => ?_)
        cases r3
        refine ⟨j, k, rfl, rfl, g j k, rfl, ?_⟩
        split at h5
        · rename_i hg
          simp only [Option.bind_eq_some_iff] at h5
          obtain ⟨u, h6, h7⟩ := h5
          split at h7
          · cases h7
            rw [hg]
            refine iteT (hd _ _ h6 S0 H0 A0 S3 H3 τσ τρ σ _ l (((o.ext x1).ext x2).ext x3) fun w S4 H4 x4 r4 => ?_)
            cases r4
            exact ⟨k, _, rfl, rfl, q _ S4 H4 (((x1.trans x2).trans x3).trans x4) (.bl _)⟩
          · cases h7
        · rename_i hg
          cases h5
          rw [show g j k = false by simpa using hg]
          exact iteF (q _ S3 H3 ((x1.trans x2).trans x3) (.bl false))
      · cases h5
    · rename_i hf
      cases h3
      rw [show f i j = false by simpa using hf]
      exact iteF (q _ S2 H2 (x1.trans x2) (.bl false))
  · cases h3
end MR
namespace MR
open PySem PySem.Spec PyProof.Rows L2 PL
/-! ### sorted and < over data of any depth -/
end MR
namespace MR
open PySem PySem.Spec PyProof.Rows L2 PL
/-! ### {k: v for .. in ..}, the keys tuples -/
end MR
namespace MR
open PySem L2 PL
variable [kf : KF]
/-- t in d, d an owned dict by pairs -/
def rInDct (neg : Bool) (a : Rm) (i : Nat) : Rm := fun ρ => (a ρ).bind fun d => (keyP d).bind fun k => match ρ[i]? with
  | some (.nd (.dT ks) ts) => if ks.length = ts.length then some (.bool (if neg then !(ks.any fun x => decide (x = k)) else ks.any fun x => decide (x = k))) else Option.none
  | _ => Option.none
end MR
/-! MR: further constructs -/
namespace MR
open PySem L2 PL
/-! ### xs[::-1] -/
def rRevL (a : Rm) : Rm := fun ρ => (a ρ).bind fun d => (asL d).map fun xs => .list xs.reverse
def yRevL (a : Dm) : Ym := fun ρ => (a ρ).bind fun p => (asL p.1).map fun xs => (lstO xs.reverse, p.2)
def yRevLA (ra : Rm) (a : Dm) : Ym := fun ρ => match (ra ρ).bind fun d => (asL d).bind fun xs => lfO (some (lstO xs.reverse)) with
  | some r => some (r, ρ)
  | Option.none => yRevL a ρ
theorem pe_revLK {K : PySem.W.Frag} {X : Cx} (hK : X.K = K) {e : Expr} {te : TE} {k : Nat} {p1 p2 p3 pos : Pos} (he : PE X e te) : PE X (.Subscript e (.Slice none none (some (.UnaryOp .USub (.Constant (.int 1) k p1) p2)) p3) pos) (tRevL K te) := by subst hK; exact pe_revL he
theorem dpa_rev {S : Hp} [kf : KF] : ∀ {vs : List V} {xs : List D}, RpAll S vs xs → RpAll S vs.reverse xs.reverse
  | [], _, h => by cases h; exact .nil
  | v :: vs, _, h => by
    cases h with
    | cons a b => rw [List.reverse_cons, List.reverse_cons]; exact dpa_append (dpa_rev b) (.cons a .nil)
variable [kf : KF] [wx : WXI]
variable {ta : TE} {a : Rm} {dm : Dm}
theorem c_rRevL (ha : CR ta a) : CR (tRevL kf.K ta) (rRevL a) := fun ρ x h => by
  simp only [rRevL, Option.bind_eq_some_iff, Option.map_eq_some_iff] at h
  obtain ⟨d, h1, xs, h2, rfl⟩ := h
  have e := asL_some h2
  subst e
  refine fun S0 H0 A0 S H τσ τρ σ Q l o q => ha _ _ h1 S0 H0 A0 S H τσ τρ σ _ l o fun v S1 H1 x1 r1 => ?_
  cases r1 with
  | lst r1 r2 =>
    have r3 := dpa_rev r2
    refine ⟨_, _, rfl, r1, fun p hp => ?_⟩
    exact q _ S1 _ (x1.trans (.new x1.sh hp)) (.lst (SqL.of upd_same) (dpa_mono (Xt.new (o := .lst _) x1.sh hp).hh _ _ r3))
theorem c_yRevL (ha : CD ta dm) : CY (tRevL kf.K ta) (yRevL dm) := fun ρ r ρ' h => by
  simp only [yRevL, Option.bind_eq_some_iff, Option.map_eq_some_iff] at h
  obtain ⟨⟨d, ρ1⟩, h1, xs, h2, h5⟩ := h
  cases h5
  have e := asL_some h2
  simp only at e
  subst e
  refine fun S0 H0 A0 S H τσ τρ σ Q l o q => ha _ _ _ h1 S0 H0 A0 S H τσ τρ σ _ l o fun v S1 H1 s1 o1 r1 => ?_
  cases r1 with
  | lst r1 r2 =>
    exact ⟨_, _, rfl, (o1.sh).seq r1, fun p hp => own_lst o1.sh hp (dpa_rev r2) fun v' S' H' A xt g nd fr => q v' S' H' (s1.trans xt.ss) (o1.push xt g nd fr)⟩
theorem c_yRevLA (hra : CR ta a) (ha : CD ta dm) : CY (tRevL kf.K ta) (yRevLA a dm) := fun ρ r ρ' h => by
  unfold yRevLA at h
  split at h
  · rename_i r' hr
    cases h
    simp only [Option.bind_eq_some_iff] at hr
    obtain ⟨d, h1, xs, h2, h5⟩ := hr
    obtain ⟨h6, h7⟩ := lfO_some h5
    cases h6
    have e := asL_some h2
    subst e
    refine fun S0 H0 A0 S H τσ τρ σ Q l o q => hra _ _ h1 S0 H0 A0 S H τσ τρ σ _ l o fun v S1 H1 x1 r1 => ?_
    cases r1 with
    | lst r1 r2 =>
      refine ⟨_, _, rfl, r1, fun p hp => own_lst (Same.refl H1) hp (dpa_rev r2) fun v' S' H' A xt g nd fr => ?_⟩
      exact q v' _ H' (x1.trans (xt_low x1.sh xt)).ss ((o.ext x1).push (xt_low x1.sh xt) (ook_lf xt.sh _ _ _ g h7 fun a ha => x1.sh.free (fr a ha)) nd fr)
  · exact c_yRevL ha _ _ _ h
/-! ### comprehensions with two fors -/
/-! ### range downwards -/
/-! ### x += e -/
/-! ### xs.extend(ys), ys fresh; xs.pop() -/
omit kf wx in
def sExt (i : Nat) (y : Ym) : Sm := fun ρ => match ρ[i]? with
  | some (.nd .lst _) => (y ρ).bind fun p => match p.1 with
    | .nd .lst us => match p.2[i]? with
      | some (.nd .lst ts) => if ts.length + us.length ≤ 1000000 then some (.nx, p.2.set i (.nd .lst (ts ++ us))) else Option.none
      | _ => Option.none
    | _ => Option.none
  | _ => Option.none
omit kf wx in
def yPop0 (i : Nat) : Ym := fun ρ => match ρ[i]? with
  | some (.nd .lst ts) => (ts[ts.length - 1]?).map fun s => (s, ρ.set i (.nd .lst (ts.eraseIdx (ts.length - 1))))
  | _ => Option.none
/-! ### str of an int -/
omit kf wx in
def gStrI : List D → Option D
  | [.int i] => if i.natAbs.log2 < 1920 then some (.str (toString i)) else Option.none
  | _ => Option.none
theorem b_strI : CbM (fun xs H Q => ∃ i : Int, xs = [V.int i] ∧ i.natAbs.log2 < 1920 ∧ Q (.str (toString i)) H) gStrI := fun ds x h => by
  unfold gStrI at h
  split at h
  · rename_i i
    split at h
    · rename_i hi
      cases h
      intro H vs Q hr q
      cases hr with | cons a b => cases a; cases b; exact ⟨i, rfl, hi, q _ rfl⟩
    · cases h
  · cases h
end MR
/-! MR: for x in xs, the items one's own and put back -/
namespace MR
open PySem L2 PL
end MR
/-! MR: slots frozen for one statement alone -/
namespace MR
open PySem L2 PL
end MR
/-! MR: sorted of a slot whose items go on being one's own -/
namespace MR
open PySem L2 PL
end MR
/-! MR: xs.index(y) of data; range with a step upwards -/
namespace MR
open PySem L2 PL
def firstD : List D → D → Nat → Option Nat
  | [], _, _ => Option.none
  | n :: ns, k, j => if PyData.eqv n k = true then some j else firstD ns k (j + 1)
def gIndexD : D → D → Option D
  | .list ds, d => if SeqAt.shaped (.list ds) && SeqAt.shaped d then (firstD ds d 0).map fun j => .int (j : Nat) else Option.none
  | _, _ => Option.none
def rIdxD (a b : Rm) : Rm := fun ρ => (a ρ).bind fun d => (b ρ).bind fun e => gIndexD d e
variable [kf : KF]
/-! ### range upwards by a step -/
omit kf in
def rgS (lo c : Int) (n : Nat) : List D := (List.range n).map fun (k : Nat) => PyData.int (lo + (k : Int) * c)
omit kf in
def rgNum (m n c : Int) : Nat := if m < n then ((n - m - 1) / c + 1).toNat else 0
def rg3F : List D → Option (List D)
  | [.int m, .int n, .int c] => if (-1000000 ≤ m ∧ m ≤ 1000000) ∧ (-1000000 ≤ n ∧ n ≤ 1000000) ∧ (1 ≤ c ∧ c ≤ 1000000) then some (rgS m c (rgNum m n c)) else Option.none
  | _ => Option.none
omit kf in
theorem rg3_ex : ∃ f : List D → Option (List D), f = rg3F := ⟨rg3F, rfl⟩
noncomputable def rg3 : List D → Option (List D) := rg3_ex.choose
noncomputable def iR3s (a : Lm) : Lm := fun ρ => (a ρ).bind fun p => (rg3 p.1).map fun xs => (xs, p.2)
end MR
/-! MR: len({e for .. in ..}), e whole numbers -/
namespace MR
open PySem PySem.Spec PyProof.Rows L2 PL
end MR
namespace MR
open PySem L2 PL
variable [kf : KF]
section
variable {S H S0 H0 : Hp} {A0 : List Addr} {σ : List (Option V)} {ρ : List OT}
mutual
theorem ook_kind : ∀ (t : OT) (v : V) (A : List Addr), OOk S H v t A → ∀ a ∈ A, (∃ k vs, H a = some (shape k vs)) ∨ ∃ T n, H a = some (SetO kf.w a T n)
  | .no, _, _, h => by cases h; intro a ha; cases ha
  | .d x, _, _, h => by cases h with | d h => intro a ha; cases ha
  | .nd k ts, _, _, h => by
    cases h with
    | tup h1 h2 => exact oall_kind ts _ _ h2
    | nd h0 h1 h2 h3 h4 =>
      intro a ha
      rcases List.mem_cons.mp ha with rfl | ha
      · exact .inl ⟨_, _, h3⟩
      · exact oall_kind ts _ _ h4 a ha
  | .fl ts, _, _, h => by cases h with | fl h1 h2 => exact oall_kind ts _ _ h2
  | .ex x, _, _, h => by cases h; intro a ha; cases ha
  | .si ms, _, _, h => by
    cases h with
    | si h1 h2 =>
      intro a ha
      cases List.mem_singleton.mp ha
      exact .inr ⟨_, _, h2⟩
theorem oall_kind : ∀ (ts : List OT) (vs : List V) (A : List Addr), OAll S H vs ts A → ∀ a ∈ A, (∃ k vs, H a = some (shape k vs)) ∨ ∃ T n, H a = some (SetO kf.w a T n)
  | [], _, _, h => by cases h; intro a ha; cases ha
  | t :: ts, _, _, h => by
    cases h with
    | cons h1 h2 =>
      intro a ha
      rcases List.mem_append.mp ha with ha | ha
      · exact ook_kind t _ _ h1 a ha
      · exact oall_kind ts _ _ h2 a ha
end
theorem eok_kind {A : List Addr} (h : EOk S H σ ρ A) : ∀ a ∈ A, (∃ k vs, H a = some (shape k vs)) ∨ ∃ T n, H a = some (SetO kf.w a T n) := by
  induction h with
  | nil => intro a ha; cases ha
  | cons h _ ih =>
    intro a ha
    rcases List.mem_append.mp ha with ha | ha
    · cases h with
      | no => cases ha
      | is h => exact ook_kind _ _ _ h a ha
    · exact ih a ha
end
end MR
/-! MR: x in a list, or in a dict by pairs that is data -/
namespace MR
open PySem L2 PL
end MR
/-! MR: a comprehension within another one's block -/
namespace MR
open PySem PySem.Spec PyProof.Rows L2 PL
end MR
/-! MR: slots forgotten ahead of a row -/
namespace MR
open PySem L2 PL
end MR
namespace MR
open PySem L2 PL
/-! ### pure: what the mirror's functions tell -/
theorem kp_int : ∀ d : D, kitB (tyN d) "int" = some (isIntB d)
  | .none => (by decide +kernel : kitB "NoneType" "int" = some false)
  | .bool _ => (by decide +kernel : kitB "bool" "int" = some true)
  | .int _ => (by decide +kernel : kitB "int" "int" = some true)
  | .str _ => (by decide +kernel : kitB "str" "int" = some false)
  | .list _ => (by decide +kernel : kitB "list" "int" = some false)
  | .tuple _ => (by decide +kernel : kitB "tuple" "int" = some false)
  | .dict _ => (by decide +kernel : kitB "dict" "int" = some false)
theorem kp_bool : ∀ d : D, kitB (tyN d) "bool" = some (isBoolB d)
  | .none => (by decide +kernel : kitB "NoneType" "bool" = some false)
  | .bool _ => (by decide +kernel : kitB "bool" "bool" = some true)
  | .int _ => (by decide +kernel : kitB "int" "bool" = some false)
  | .str _ => (by decide +kernel : kitB "str" "bool" = some false)
  | .list _ => (by decide +kernel : kitB "list" "bool" = some false)
  | .tuple _ => (by decide +kernel : kitB "tuple" "bool" = some false)
  | .dict _ => (by decide +kernel : kitB "dict" "bool" = some false)
theorem kp_list : ∀ d : D, kitB (tyN d) "list" = some (isListB d)
  | .none => (by decide +kernel : kitB "NoneType" "list" = some false)
  | .bool _ => (by decide +kernel : kitB "bool" "list" = some false)
  | .int _ => (by decide +kernel : kitB "int" "list" = some false)
  | .str _ => (by decide +kernel : kitB "str" "list" = some false)
  | .list _ => (by decide +kernel : kitB "list" "list" = some true)
  | .tuple _ => (by decide +kernel : kitB "tuple" "list" = some false)
  | .dict _ => (by decide +kernel : kitB "dict" "list" = some false)
theorem kp_tuple : ∀ d : D, kitB (tyN d) "tuple" = some (isTupB d)
  | .none => (by decide +kernel : kitB "NoneType" "tuple" = some false)
  | .bool _ => (by decide +kernel : kitB "bool" "tuple" = some false)
  | .int _ => (by decide +kernel : kitB "int" "tuple" = some false)
  | .str _ => (by decide +kernel : kitB "str" "tuple" = some false)
  | .list _ => (by decide +kernel : kitB "list" "tuple" = some false)
  | .tuple _ => (by decide +kernel : kitB "tuple" "tuple" = some true)
  | .dict _ => (by decide +kernel : kitB "dict" "tuple" = some false)
theorem kp_str : ∀ d : D, kitB (tyN d) "str" = some (isStrB d)
  | .none => (by decide +kernel : kitB "NoneType" "str" = some false)
  | .bool _ => (by decide +kernel : kitB "bool" "str" = some false)
  | .int _ => (by decide +kernel : kitB "int" "str" = some false)
  | .str _ => (by decide +kernel : kitB "str" "str" = some true)
  | .list _ => (by decide +kernel : kitB "list" "str" = some false)
  | .tuple _ => (by decide +kernel : kitB "tuple" "str" = some false)
  | .dict _ => (by decide +kernel : kitB "dict" "str" = some false)
theorem toD_d (x : D) : OT.toD (.d x) = some x := by simp [OT.toD]
theorem toD_lst (ts : List OT) : OT.toD (.nd .lst ts) = (OT.toDs ts).map .list := by simp [OT.toD]
theorem toD_tup (ts : List OT) : OT.toD (.nd .tup ts) = (OT.toDs ts).map .tuple := by simp [OT.toD]
theorem toDs_nil : OT.toDs [] = some [] := by simp [OT.toDs]
theorem toDs_cons (t : OT) (ts : List OT) : OT.toDs (t :: ts) = (OT.toD t).bind fun x => (OT.toDs ts).map fun xs => x :: xs := by
  cases h : OT.toD t <;> cases h2 : OT.toDs ts <;> simp [OT.toDs, h, h2]
theorem toDs_mapd (xs : List D) : OT.toDs (xs.map .d) = some xs := by
  induction xs with
  | nil => simp [toDs_nil]
  | cons x xs ih => simp [toDs_cons, toD_d, ih]
theorem toD_lstO (xs : List D) : OT.toD (lstO xs) = some (.list xs) := by simp [lstO, toD_lst, toDs_mapd]
theorem lfs_mapd {xs : List D} (h : ∀ x ∈ xs, tfl x = true) : OT.lfs (xs.map .d) = true := by
  induction xs with
  | nil => simp [OT.lfs]
  | cons x xs ih => simp [OT.lfs, OT.lf, h x List.mem_cons_self, ih fun y hy => h y (List.mem_cons_of_mem _ hy)]
@[simp] theorem tfl_int (i : Int) : tfl (.int i) = true := by simp [tfl]
@[simp] theorem tfl_bool (b : Bool) : tfl (.bool b) = true := by simp [tfl]
@[simp] theorem tfl_none : tfl .none = true := by simp [tfl]
@[simp] theorem tfl_str (s : Str) : tfl (.str s) = true := by simp [tfl]
theorem tfl_pair (p : Int × Int) : tfl (pairD p) = true := by simp [tfl, pairD]
@[simp] theorem tfl_list (xs : List D) : tfl (.list xs) = false := by simp [tfl]
/-- loops -/
theorem mFor_inv {step : D → Env → Option (Fl × Env)} : ∀ (ds : List D) (ρ : Env) (I : Nat → Env → Prop), I 0 ρ → (∀ i x ρ, ds[i]? = some x → I i ρ → ∃ ρ', (step x ρ = some (.nx, ρ') ∨ step x ρ = some (.ct, ρ')) ∧ I (i + 1) ρ') → ∃ ρ', mFor step ds ρ = some (.nx, ρ') ∧ I ds.length ρ'
  | [], ρ, I, h0, _ => ⟨ρ, rfl, h0⟩
  | x :: xs, ρ, I, h0, hs => by
    obtain ⟨ρ1, h1, h2⟩ := hs 0 x ρ rfl h0
    obtain ⟨ρ2, h3, h4⟩ := mFor_inv xs ρ1 (fun i => I (i + 1)) h2 fun i y ρ e h => hs (i + 1) y ρ (by simpa using e) h
    refine ⟨ρ2, ?_, h4⟩
    unfold mFor
    rcases h1 with h1 | h1 <;> rw [h1] <;> exact h3
theorem mLc_inv {vs : List Nat} {step : D → Env → Option (Option OT × Env)} : ∀ (ds : List D) (acc : List OT) (ρ : Env) (I : Nat → List OT → Env → Prop), I 0 acc ρ → (∀ i x acc ρ, ds[i]? = some x → I i acc ρ → ∃ o ρ', step x ρ = some (o, ρ') ∧ I (i + 1) (acc ++ o.toList) (wipeE ρ' vs)) → ∃ rs ρ', mLc vs step ds acc ρ = some (rs, ρ') ∧ I ds.length rs ρ'
  | [], acc, ρ, I, h0, _ => ⟨acc, ρ, rfl, h0⟩
  | x :: xs, acc, ρ, I, h0, hs => by
    obtain ⟨o, ρ1, h1, h2⟩ := hs 0 x acc ρ rfl h0
    obtain ⟨rs, ρ2, h3, h4⟩ := mLc_inv xs (acc ++ o.toList) (wipeE ρ1 vs) (fun i => I (i + 1)) h2 fun i y acc ρ e h => hs (i + 1) y acc ρ (by simpa using e) h
    refine ⟨rs, ρ2, ?_, h4⟩
    unfold mLc
    rw [h1]
    cases o with
    | none => simpa using h3
    | some r => simpa using h3
theorem rgD_len (lo : Int) (n : Nat) : (rgD lo n).length = n := by simp [rgD]
theorem rgD_at {lo : Int} {n i : Nat} {x : D} (h : (rgD lo n)[i]? = some x) : i < n ∧ x = .int (lo + (i : Int)) := by
  unfold rgD at h
  rw [List.getElem?_map] at h
  by_cases hi : i < n
  · rw [List.getElem?_range hi] at h
    exact ⟨hi, by simpa using h.symm⟩
  · rw [List.getElem?_eq_none (by simpa using hi)] at h
    cases h
theorem atI_at {α : Type} {xs : List α} {i : Nat} {x : α} (h : xs[i]? = some x) : atI xs (i : Int) = some x := atI_nat h
theorem ixN_nat {n i : Nat} (h : i < n) : ixN n (i : Int) = some i := by unfold ixN; simp [h]
theorem seqIx_nat {n i : Nat} (h : i < n) : seqIndex? (i : Int) n = some i := by
  unfold seqIndex?
  have h0 : ¬ ((i : Int) < 0) := by omega
  simp [h, h0]
end MR
namespace MR
open PySem L2 PL
theorem atI_0 {α : Type} (x : α) (xs : List α) : atI (x :: xs) 0 = some x := by simpa using atI_at (i := 0) (xs := x :: xs) (x := x) rfl
theorem atI_1 {α : Type} (x y : α) (xs : List α) : atI (x :: y :: xs) 1 = some y := by simpa using atI_at (i := 1) (xs := x :: y :: xs) (x := y) rfl
theorem ixN_0 (n : Nat) : ixN (n + 1) 0 = some 0 := by simpa using ixN_nat (n := n + 1) (i := 0) (by omega)
theorem ixN_1 (n : Nat) : ixN (n + 1 + 1) 1 = some 1 := by simpa using ixN_nat (n := n + 1 + 1) (i := 1) (by omega)
end MR
namespace MR
open PySem L2 PL
/-! ### pure: lists of ints, of pairs; statement by statement -/
theorem seq_nx {a b : Sm} {ρ ρ1 : Env} {o : Option (Fl × Env)} (h : a ρ = some (.nx, ρ1)) (h2 : b ρ1 = o) : sSeq a b ρ = o := by unfold sSeq; rw [h]; exact h2
def intsO (ns : List Int) : List OT := ns.map fun i => .d (.int i)
def prsO (ps : List (Int × Int)) : List OT := ps.map fun p => .nd .tup [.d (.int p.1), .d (.int p.2)]
def fprO (ps : List (Int × Int)) : List OT := ps.map fun p => .d (pairD p)
def rng (n : Nat) : List Int := (List.range n).map fun (i : Nat) => (i : Int)
theorem lstO_ints (ns : List Int) : lstO (ns.map .int) = .nd .lst (intsO ns) := by simp [lstO, intsO, Function.comp_def]
theorem lstO_prs (ps : List (Int × Int)) : lstO (ps.map pairD) = .nd .lst (fprO ps) := by simp [lstO, fprO, Function.comp_def]
theorem rgD_rng (n : Nat) : rgD 0 n = (rng n).map .int := by simp [rgD, rng, Function.comp_def]
theorem lstO_rg (n : Nat) : lstO (rgD 0 n) = .nd .lst (intsO (rng n)) := by rw [rgD_rng, lstO_ints]
theorem rng_len (n : Nat) : (rng n).length = n := by simp [rng]
theorem rng_mem {n : Nat} {k : Int} : k ∈ rng n ↔ 0 ≤ k ∧ k < (n : Int) := by
  unfold rng
  rw [List.mem_map]
  constructor
  · rintro ⟨a, h, rfl⟩
    have := List.mem_range.mp h
    omega
  · intro h
    exact ⟨k.toNat, List.mem_range.mpr (by omega), by omega⟩
theorem rng_nodup (n : Nat) : (rng n).Nodup := List.nodup_range.map (f := fun (i : Nat) => (i : Int)) fun a b h => by omega
theorem intsO_len (ns : List Int) : (intsO ns).length = ns.length := by simp [intsO]
theorem fprO_len (ns : List (Int × Int)) : (fprO ns).length = ns.length := by simp [fprO]
theorem prsO_len (ns : List (Int × Int)) : (prsO ns).length = ns.length := by simp [prsO]
theorem intsO_snoc (ns : List Int) (k : Int) : intsO ns ++ [OT.d (.int k)] = intsO (ns ++ [k]) := by simp [intsO]
theorem prsO_snoc (ns : List (Int × Int)) (a b : Int) : prsO ns ++ [OT.nd .tup [.d (.int a), .d (.int b)]] = prsO (ns ++ [(a, b)]) := by simp [prsO]
theorem toDs_ints (ns : List Int) : OT.toDs (intsO ns) = some (ns.map .int) := by
  have : intsO ns = (ns.map PyData.int).map OT.d := by simp [intsO, Function.comp_def]
  rw [this, toDs_mapd]
theorem toDs_fpr (ns : List (Int × Int)) : OT.toDs (fprO ns) = some (ns.map pairD) := by
  have : fprO ns = (ns.map pairD).map OT.d := by simp [fprO, Function.comp_def]
  rw [this, toDs_mapd]
theorem toDs_prs (ns : List (Int × Int)) : OT.toDs (prsO ns) = some (ns.map pairD) := by
  induction ns with
  | nil => simp [prsO, toDs_nil]
  | cons p ns ih =>
    have : prsO (p :: ns) = .nd .tup [.d (.int p.1), .d (.int p.2)] :: prsO ns := rfl
    rw [this, toDs_cons, ih]
    simp [toD_tup, toDs_cons, toDs_nil, toD_d, pairD]
theorem lfs_ints (ns : List Int) : OT.lfs (intsO ns) = true := by
  have : intsO ns = (ns.map PyData.int).map OT.d := by simp [intsO, Function.comp_def]
  rw [this]
  exact lfs_mapd fun x hx => by obtain ⟨i, _, rfl⟩ := List.mem_map.mp hx; simp
theorem lfs_fpr (ns : List (Int × Int)) : OT.lfs (fprO ns) = true := by
  have : fprO ns = (ns.map pairD).map OT.d := by simp [fprO, Function.comp_def]
  rw [this]
  exact lfs_mapd fun x hx => by obtain ⟨i, _, rfl⟩ := List.mem_map.mp hx; exact tfl_pair i
theorem ers_map {α β : Type} (f : α → β) : ∀ (xs : List α) (j : Nat), (xs.map f).eraseIdx j = (xs.eraseIdx j).map f
  | [], _ => rfl
  | x :: xs, 0 => rfl
  | x :: xs, j + 1 => by simp [ers_map f xs j]
theorem pop_ints {xs : List Int} {j : Nat} (h : j < xs.length) : ∃ k xs', (intsO xs)[j]? = some (.d (.int k)) ∧ (intsO xs).eraseIdx j = intsO xs' ∧ (k :: xs').Perm xs ∧ xs'.length + 1 = xs.length := by
  refine ⟨xs[j], xs.eraseIdx j, by simp [intsO, h], by rw [intsO, intsO, ers_map], ?_, ?_⟩
  · induction xs generalizing j with
    | nil => simp at h
    | cons x xs ih =>
      cases j with
      | zero => simp
      | succ j =>
        have := ih (j := j) (by simpa using h)
        simp only [List.getElem_cons_succ, List.eraseIdx_cons_succ]
        exact (List.Perm.swap _ _ _).trans (this.cons x)
  · rw [List.length_eraseIdx]; simp [h]; omega
theorem atI_int {xs : List Int} {i : Nat} {k : Int} (h : xs[i]? = some k) : atI (xs.map PyData.int) (i : Int) = some (.int k) := atI_at (by rw [List.getElem?_map, h]; rfl)
/-- dicts by pairs, all True -/
def kO (p : Int × Int) : List Key := [.inl p.1, .inl p.2]
def trues (n : Nat) : List OT := List.replicate n (.d (.bool true))
theorem kO_inj {p q : Int × Int} : kO p = kO q ↔ p = q := by
  obtain ⟨a, b⟩ := p; obtain ⟨c, d⟩ := q
  simp [kO]
theorem putO_true (ks : List (Int × Int)) (p : Int × Int) : putO (ks.map kO) (trues ks.length) (kO p) (.d (.bool true)) = (.dT ((insK ks p).map kO), trues (insK ks p).length) := by
  have e : ((ks.map kO).any fun x => decide (x = kO p)) = decide (p ∈ ks) := by
    rw [List.any_map, Bool.eq_iff_iff]
    simp only [List.any_eq_true, Function.comp, decide_eq_true_eq, kO_inj]
    exact ⟨fun ⟨x, h, e⟩ => e ▸ h, fun h => ⟨p, h, rfl⟩⟩
  unfold putO insK
  rw [e]
  by_cases h : p ∈ ks
  · simp only [h, decide_true, if_true]
    congr 1
    have gen : ∀ (l : List (List Key)) (n : Nat), l.length = n → (l.zip (trues n)).map (fun q => if q.1 = kO p then OT.d (.bool true) else q.2) = trues n := by
      intro l
      induction l with
      | nil => intro n hn; subst hn; rfl
      | cons x l ih =>
        intro n hn
        cases n with
        | zero => simp at hn
        | succ n =>
          have := ih n (by simpa using hn)
          simp only [trues, List.replicate_succ, List.zip_cons_cons, List.map_cons] at this ⊢
          rw [this]
          split <;> rfl
    exact gen _ _ (by simp)
  · simp [h, trues, List.replicate_succ']
theorem asKeyPs_map (ks : List (Int × Int)) : asKeyPs (ks.map kO) = some ks := by
  induction ks with
  | nil => rfl
  | cons k ks ih => simp [asKeyPs, ih, kO, asKeyP]
theorem trues_all (n : Nat) : (trues n).all isTrueO = true := by
  unfold trues
  rw [List.all_eq_true]
  intro x hx
  rw [(List.mem_replicate.mp hx).2]
  rfl
theorem trues_len (n : Nat) : (trues n).length = n := by simp [trues]
theorem srtL_len (ks : List (Int × Int)) : (srtL ks).length = ks.length := (srtL_perm ks).length_eq
theorem srtL_mem {ks : List (Int × Int)} {p : Int × Int} : p ∈ srtL ks ↔ p ∈ ks := (srtL_perm ks).mem_iff
theorem srtL_nodup {ks : List (Int × Int)} (h : ks.Nodup) : (srtL ks).Nodup := (srtL_perm ks).nodup_iff.mpr h
theorem lcmk {f : Option (Option OT × Env)} {o : Option OT} {ρ' : Env} {P : Option OT → Env → Prop} (h : f = some (o, ρ')) (h2 : P o ρ') : ∃ o ρ', f = some (o, ρ') ∧ P o ρ' := ⟨o, ρ', h, h2⟩
theorem fmk {f : Option (Fl × Env)} {ρ' : Env} {P : Env → Prop} (h : f = some (.nx, ρ')) (h2 : P ρ') : ∃ ρ', (f = some (.nx, ρ') ∨ f = some (.ct, ρ')) ∧ P ρ' := ⟨ρ', .inl h, h2⟩
theorem finI_rt {o : Option (Fl × Env)} {k : Kd} {ts : List OT} {t : OT} {ρ : Env} (h : o = some (.rt (.nd k ts), t :: ρ)) : finI o = some (.nd k ts, t) := by rw [h]; rfl
/-- great bounds are kept from the kernel's eyes -/
def rg0F (z : Int) : Option (List D) := if 0 ≤ z ∧ z ≤ 1000000 then some (rgD 0 z.toNat) else Option.none
def rg1F : List D → Option (List D)
  | [.int n] => if -(2 ^ 62) ≤ n ∧ n < 2 ^ 62 then some (rgD 0 n.toNat) else Option.none
  | _ => Option.none
def rg2F : List D → Option (List D)
  | [.int m, .int n] => if -(2 ^ 62) ≤ m ∧ m < 2 ^ 62 ∧ -(2 ^ 62) ≤ n ∧ n < 2 ^ 62 then some (rgD m (n - m).toNat) else Option.none
  | _ => Option.none
def pop1F (z : Int) (n : Nat) : Option Nat := if -(2 ^ 63) ≤ z ∧ z < 2 ^ 63 then seqIndex? z n else Option.none
theorem rg0_ex : ∃ f : Int → Option (List D), f = rg0F := ⟨rg0F, rfl⟩
theorem rg1_ex : ∃ f : List D → Option (List D), f = rg1F := ⟨rg1F, rfl⟩
theorem rg2_ex : ∃ f : List D → Option (List D), f = rg2F := ⟨rg2F, rfl⟩
theorem pop1_ex : ∃ f : Int → Nat → Option Nat, f = pop1F := ⟨pop1F, rfl⟩
noncomputable def rg0 : Int → Option (List D) := rg0_ex.choose
noncomputable def rg1 : List D → Option (List D) := rg1_ex.choose
noncomputable def rg2 : List D → Option (List D) := rg2_ex.choose
noncomputable def pop1 : Int → Nat → Option Nat := pop1_ex.choose
theorem rg0_F : rg0 = rg0F := rg0_ex.choose_spec
theorem rg1_F : rg1 = rg1F := rg1_ex.choose_spec
theorem rg2_F : rg2 = rg2F := rg2_ex.choose_spec
theorem pop1_F : pop1 = pop1F := pop1_ex.choose_spec
theorem rg0_z {z : Int} (a : 0 ≤ z) (b : z ≤ 1000000) : rg0 z = some (rgD 0 z.toNat) := by rw [rg0_F]; exact if_pos ⟨a, b⟩
theorem rg1_z {z : Int} (a : 0 ≤ z) (b : z ≤ 1000000) : rg1 [.int z] = some (rgD 0 z.toNat) := by
  have b2 : -(2 ^ 62) ≤ z ∧ z < 2 ^ 62 := ⟨by omega, by omega⟩
  rw [rg1_F]
  unfold rg1F
  simp only []
  rw [if_pos b2]
theorem rg2_z {y z : Int} (a : 0 ≤ y) (b : y ≤ 1000000) (c : 0 ≤ z) (d : z ≤ 1000000) : rg2 [.int y, .int z] = some (rgD y (z - y).toNat) := by
  have b2 : -(2 ^ 62) ≤ y ∧ y < 2 ^ 62 ∧ -(2 ^ 62) ≤ z ∧ z < 2 ^ 62 := ⟨by omega, by omega, by omega, by omega⟩
  rw [rg2_F]
  unfold rg2F
  simp only []
  rw [if_pos b2]
theorem pop1_z {z : Int} {n : Nat} (a : 0 ≤ z) (b : z ≤ 1000000) : pop1 z n = seqIndex? z n := by
  have b2 : -(2 ^ 63) ≤ z ∧ z < 2 ^ 63 := ⟨by omega, by omega⟩
  rw [pop1_F]
  unfold pop1F
  rw [if_pos b2]
theorem rg0_n {n : Nat} (b : n ≤ 1000000) : rg0 (n : Int) = some (rgD 0 n) := by
  have h := rg0_z (z := (n : Int)) (by omega) (by omega)
  rwa [Int.toNat_natCast] at h
theorem rg1_n {n : Nat} (b : n ≤ 1000000) : rg1 [.int (n : Int)] = some (rgD 0 n) := by
  have h := rg1_z (z := (n : Int)) (by omega) (by omega)
  rwa [Int.toNat_natCast] at h
theorem rg2_1n {n : Nat} (b : n ≤ 1000000) : rg2 [.int 1, .int (n : Int)] = some (rgD 1 (n - 1)) := by
  have b' : (n : Int) ≤ 1000000 := by omega
  have b0 : (0 : Int) ≤ n := by omega
  have e : ((n : Int) - 1).toNat = n - 1 := by omega
  generalize (n : Int) = z at *
  rw [rg2_z (y := 1) (z := z) (by decide) (by decide) b0 b', e]
theorem pop1_n {i n : Nat} (h : i < n) (b : n ≤ 1000000) : pop1 (i : Int) n = some i := by
  rw [pop1_z (z := (i : Int)) (by omega) (by omega)]
  exact seqIx_nat h
theorem yRng1_eq (n : Dm) (ρ : Env) : yRng1 n ρ = (n ρ).bind fun p => match p.1 with
    | .int k => (rg0 k).map fun xs => (lstO xs, p.2)
    | _ => Option.none := by
  rw [rg0_F]
  unfold yRng1
  congr 1
  funext p
  obtain ⟨d, ρ1⟩ := p
  cases d <;> try rfl
  rename_i k
  simp only [rg0F]
  split <;> rfl
theorem iR1_eq (a : Lm) (ρ : Env) : iR1 a ρ = (a ρ).bind fun p => (rg1 p.1).map fun xs => (xs, p.2) := by
  rw [rg1_F]
  unfold iR1
  congr 1
  funext p
  obtain ⟨d, ρ1⟩ := p
  rcases d with _ | ⟨x, _ | ⟨y, d⟩⟩
  · rfl
  · cases x <;> try rfl
    simp only [rg1F]
    split <;> rfl
  · cases x <;> rfl
theorem iR2_eq (a : Lm) (ρ : Env) : iR2 a ρ = (a ρ).bind fun p => (rg2 p.1).map fun xs => (xs, p.2) := by
  rw [rg2_F]
  unfold iR2
  congr 1
  funext p
  obtain ⟨d, ρ1⟩ := p
  rcases d with _ | ⟨x, _ | ⟨y, _ | ⟨z, d⟩⟩⟩
  · rfl
  · cases x <;> rfl
  · cases x <;> try rfl
    cases y <;> try rfl
    simp only [rg2F]
    split <;> rfl
  · cases x <;> try rfl
    cases y <;> rfl
theorem yPop_eq (i : Nat) (dm : Dm) (ρ : Env) : yPop i dm ρ = match ρ[i]? with
    | some (.nd .lst _) => (dm ρ).bind fun p => match p.1 with
      | .int n => match p.2[i]? with
        | some (.nd .lst ts) => (pop1 n ts.length).bind fun j => (ts[j]?).map fun s => (s, p.2.set i (.nd .lst (ts.eraseIdx j)))
        | _ => Option.none
      | _ => Option.none
    | _ => Option.none := by
  rw [pop1_F]
  unfold yPop
  generalize ρ[i]? = o
  rcases o with _ | (_ | x | ⟨k, ts⟩) <;> try rfl
  cases k <;> try rfl
  simp only []
  congr 1
  funext p
  obtain ⟨d, ρ1⟩ := p
  cases d <;> try rfl
  rename_i z
  simp only []
  generalize ρ1[i]? = o2
  rcases o2 with _ | (_ | x | ⟨k, ts⟩) <;> try rfl
  cases k <;> try rfl
  simp only []
  unfold pop1F
  split <;> rfl
theorem sFor_ok {it : Lm} {g : Gm} {b : Sm} {ρ ρ1 ρ2 : Env} {xs : List D} (h : it ρ = some (xs, ρ1)) (h2 : mFor (fun x ρ => (g x ρ).bind b) xs ρ1 = some (.nx, ρ2)) : sFor it g b ρ = some (.nx, ρ2) := by unfold sFor; rw [h]; exact h2
theorem gAdd_i (i j : Int) : MR.gAdd (.int i) (.int j) = some (.int (i + j)) := rfl
theorem gSub_i (i j : Int) : MR.gSub (.int i) (.int j) = some (.int (i - j)) := rfl
theorem gLt_i (i j : Int) : gLt (.int i) (.int j) = some (.bool (decide (i < j))) := rfl
theorem gLe_i (i j : Int) : gLe (.int i) (.int j) = some (.bool (decide (i ≤ j))) := rfl
theorem gGt_i (i j : Int) : gGt (.int i) (.int j) = some (.bool (decide (j < i))) := rfl
theorem gGe_i (i j : Int) : gGe (.int i) (.int j) = some (.bool (decide (j ≤ i))) := rfl
theorem enumD_at {ds : List D} {i : Nat} {x : D} (h : (enumD ds)[i]? = some x) : ∃ d, ds[i]? = some d ∧ x = .tuple [.int (i : Nat), d] := by
  unfold enumD at h
  rw [List.getElem?_map, List.getElem?_zipIdx] at h
  cases hd : ds[i]? with
  | none => rw [hd] at h; cases h
  | some d =>
    rw [hd] at h
    simp at h
    exact ⟨d, rfl, h.symm⟩
theorem enumD_len (ds : List D) : (enumD ds).length = ds.length := by simp [enumD]
/-- the number at a place -/
def at' (os : List Int) (a : Int) : Int := os.getD a.toNat 0
theorem atI_os {os : List Int} {a : Int} (h : 0 ≤ a) (h2 : a < (os.length : Int)) : atI (os.map PyData.int) a = some (.int (at' os a)) := by
  obtain ⟨n, rfl⟩ : ∃ n : Nat, a = (n : Int) := ⟨a.toNat, by omega⟩
  have : n < os.length := by omega
  rw [atI_int (k := os[n]) (by simp [this])]
  simp [at', this]
theorem at'_mem {os : List Int} {a : Int} (h : 0 ≤ a) (h2 : a < (os.length : Int)) : at' os a ∈ os := by
  have : a.toNat < os.length := by omega
  simp [at', this]
theorem at'_inj {os : List Int} (hn : os.Nodup) {a b : Int} (h : 0 ≤ a) (h2 : a < (os.length : Int)) (h3 : 0 ≤ b) (h4 : b < (os.length : Int)) (e : at' os a = at' os b) : a = b := by
  have la : a.toNat < os.length := by omega
  have lb : b.toNat < os.length := by omega
  simp only [at', List.getD_eq_getElem?_getD, List.getElem?_eq_getElem la, List.getElem?_eq_getElem lb, Option.getD_some] at e
  have := (List.getElem_inj hn).mp e
  omega
def WD (n : Nat) (ts : List (Int × Int)) : D := .tuple [.int (n : Nat), .list (ts.map pairD)]
/-- a proper web's ties -/
structure WOk (n : Nat) (ts : List (Int × Int)) : Prop where
  in' : ∀ p ∈ ts, 0 ≤ p.1 ∧ p.1 < p.2 ∧ p.2 < (n : Int)
  lex : Lex ts
  nodup : ts.Nodup
end MR
namespace MR
open PySem L2 PL
/-! ### walking a def from above: what holds behind it -/
def W {α : Type} (m : Env → Option (α × Env)) (ρ : Env) (Q : α → Env → Prop) : Prop := ∃ r ρ', m ρ = some (r, ρ') ∧ Q r ρ'
theorem W.of {α : Type} {m : Env → Option (α × Env)} {ρ ρ' : Env} {r : α} {Q : α → Env → Prop} (h : m ρ = some (r, ρ')) (q : Q r ρ') : W m ρ Q := ⟨r, ρ', h, q⟩
theorem W.mono {α : Type} {m : Env → Option (α × Env)} {ρ : Env} {Q Q' : α → Env → Prop} (h : W m ρ Q) (f : ∀ r ρ', Q r ρ' → Q' r ρ') : W m ρ Q' := by
  obtain ⟨r, ρ', e, q⟩ := h
  exact ⟨r, ρ', e, f _ _ q⟩
def sqK (b : Sm) (Q : Fl → Env → Prop) : Fl → Env → Prop
  | .nx, ρ => W b ρ Q
  | .bk, ρ => Q .bk ρ
  | .ct, ρ => Q .ct ρ
  | .rt r, ρ => Q (.rt r) ρ
  | .xc x, ρ => Q (.xc x) ρ
theorem w_seq {a b : Sm} {ρ : Env} {Q : Fl → Env → Prop} (h : W a ρ (sqK b Q)) : W (sSeq a b) ρ Q := by
  obtain ⟨fl, ρ1, e, q⟩ := h
  unfold W sSeq
  rw [e]
  cases fl with
  | nx => exact q
  | bk => exact ⟨_, _, rfl, q⟩
  | ct => exact ⟨_, _, rfl, q⟩
  | rt r => exact ⟨_, _, rfl, q⟩
  | xc x => exact ⟨_, _, rfl, q⟩
/-- one row that goes on, reckoned -/
theorem w_st {a b : Sm} {ρ ρ1 : Env} {Q : Fl → Env → Prop} (h : a ρ = some (.nx, ρ1)) (q : W b ρ1 Q) : W (sSeq a b) ρ Q := w_seq (.of h q)
theorem w_asg {i : Nat} {y : Ym} {ρ : Env} {Q : Fl → Env → Prop} (h : W y ρ fun r ρ' => Q .nx (ρ'.set i r)) : W (sAsg i y) ρ Q := by
  obtain ⟨r, ρ1, e, q⟩ := h
  exact ⟨_, _, by unfold sAsg; rw [e]; rfl, q⟩
theorem w_ret {y : Ym} {ρ : Env} {Q : Fl → Env → Prop} (h : W y ρ fun r ρ' => Q (.rt r) ρ') : W (sRet y) ρ Q := by
  obtain ⟨r, ρ1, e, q⟩ := h
  exact ⟨_, _, by unfold sRet; rw [e]; rfl, q⟩
theorem w_next {ρ : Env} {Q : Fl → Env → Prop} (q : Q .nx ρ) : W sNext ρ Q := ⟨_, _, rfl, q⟩
theorem w_if {t : Tm} {a b : Sm} {ρ ρ1 : Env} {c : Bool} {Q : Fl → Env → Prop} (h : t ρ = some (c, ρ1)) (q1 : c = true → W a ρ1 Q) (q2 : c = false → W b ρ1 Q) : W (sIf t a b) ρ Q := by
  have e : sIf t a b ρ = if c then a ρ1 else b ρ1 := by unfold sIf; rw [h]; rfl
  unfold W
  rw [e]
  cases c with
  | true => exact q1 rfl
  | false => exact q2 rfl
/-- a loop by what holds ahead of each turn -/
def lpK (n : Env → Prop) (Q : Fl → Env → Prop) : Fl → Env → Prop
  | .nx, ρ => n ρ
  | .ct, ρ => n ρ
  | .bk, ρ => Q .nx ρ
  | .rt r, ρ => Q (.rt r) ρ
  | .xc x, ρ => Q (.xc x) ρ
theorem mFor_w {step : D → Env → Option (Fl × Env)} {Q : Fl → Env → Prop} : ∀ (ds : List D) (ρ : Env) (I : Nat → Env → Prop), I 0 ρ → (∀ i x ρ, ds[i]? = some x → I i ρ → W (step x) ρ (lpK (I (i + 1)) Q)) → (∀ ρ, I ds.length ρ → Q .nx ρ) → W (mFor step ds) ρ Q
  | [], ρ, I, h0, _, hq => ⟨_, _, rfl, hq ρ h0⟩
  | x :: xs, ρ, I, h0, hs, hq => by
    obtain ⟨fl, ρ1, e, q⟩ := hs 0 x ρ rfl h0
    have next : I 1 ρ1 → W (mFor step xs) ρ1 Q := fun q => mFor_w xs ρ1 (fun i => I (i + 1)) q (fun i y ρ e h => hs (i + 1) y ρ (by simpa using e) h) hq
    unfold W mFor
    rw [e]
    cases fl with
    | nx => exact next q
    | ct => exact next q
    | bk => exact ⟨_, _, rfl, q⟩
    | rt r => exact ⟨_, _, rfl, q⟩
    | xc x => exact ⟨_, _, rfl, q⟩
theorem w_for (I : Nat → Env → Prop) {it : Lm} {g : Gm} {b : Sm} {ρ ρ1 : Env} {xs : List D} {Q : Fl → Env → Prop} (h : it ρ = some (xs, ρ1)) (h0 : I 0 ρ1)
    (hs : ∀ i x ρ2, xs[i]? = some x → I i ρ2 → ∃ ρ3, g x ρ2 = some ρ3 ∧ W b ρ3 (lpK (I (i + 1)) Q)) (hq : ∀ ρ2, I xs.length ρ2 → Q .nx ρ2) : W (sFor it g b) ρ Q := by
  have e : sFor it g b ρ = mFor (fun x ρ => (g x ρ).bind b) xs ρ1 := by unfold sFor; rw [h]; rfl
  unfold W
  rw [e]
  refine mFor_w xs ρ1 I h0 (fun i x ρ2 hx hi => ?_) hq
  obtain ⟨ρ3, e1, q⟩ := hs i x ρ2 hx hi
  obtain ⟨r, ρ4, e2, q2⟩ := q
  exact ⟨r, ρ4, by simp only [e1, Option.bind_some]; exact e2, q2⟩
/-- a comprehension by what holds ahead of each turn -/
theorem w_lc (I : Nat → List OT → Env → Prop) {vs : List Nat} {it : Lm} {g : Gm} {t : Tm} {e : Ym} {ρ ρ1 : Env} {xs : List D} {Q : OT → Env → Prop} (h : it ρ = some (xs, ρ1)) (hc : calmAt ρ1 vs = true) (hl : xs.length ≤ 1000000) (h0 : I 0 [] (wipeE ρ1 vs))
    (hs : ∀ i x acc ρ2, xs[i]? = some x → I i acc ρ2 → W (lcStep g t e x) ρ2 fun o ρ3 => I (i + 1) (acc ++ o.toList) (wipeE ρ3 vs)) (hq : ∀ acc ρ2, I xs.length acc ρ2 → Q (.nd .lst acc) (rst ρ2 ρ1 vs)) : W (yLc vs it g t e) ρ Q := by
  obtain ⟨rs, ρ2, e1, q⟩ := mLc_inv xs [] (wipeE ρ1 vs) I h0 fun i x acc ρ2 hx hi => hs i x acc ρ2 hx hi
  refine ⟨_, _, ?_, hq _ _ q⟩
  unfold yLc
  rw [h]
  simp [hc, hl, e1, rsts]
/-- one that changes nothing: each item is told, or left out -/
theorem w_lcf (f : D → Option OT) {vs : List Nat} {it : Lm} {g : Gm} {t : Tm} {e : Ym} {ρ ρ1 : Env} {xs : List D} {Q : OT → Env → Prop} (h : it ρ = some (xs, ρ1)) (hc : calmAt ρ1 vs = true) (hl : xs.length ≤ 1000000)
    (hs : ∀ x ∈ xs, W (lcStep g t e x) (wipeE ρ1 vs) fun o ρ3 => o = f x ∧ wipeE ρ3 vs = wipeE ρ1 vs) (hq : Q (.nd .lst (xs.filterMap f)) (rst (wipeE ρ1 vs) ρ1 vs)) : W (yLc vs it g t e) ρ Q := by
  refine w_lc (fun i acc ρ2 => acc = (xs.take i).filterMap f ∧ ρ2 = wipeE ρ1 vs) h hc hl ⟨by simp, rfl⟩ (fun i x acc ρ2 hx hi => ?_) fun acc ρ2 hi => ?_
  · obtain ⟨rfl, rfl⟩ := hi
    refine (hs x (List.mem_of_getElem? hx)).mono fun o ρ3 q => ?_
    obtain ⟨rfl, q⟩ := q
    refine ⟨?_, q⟩
    rw [List.take_add_one, hx, List.filterMap_append]
    refine congrArg _ ?_
    show (f x).toList = [x].filterMap f
    cases c : f x <;> simp [c]
  · obtain ⟨rfl, rfl⟩ := hi
    rw [List.take_length]
    exact hq
/-- what a def hands back -/
def endK (P : OT → Prop) : Fl → Env → Prop
  | .rt .no, _ => False
  | .rt (.d x), _ => P (.d x)
  | .rt (.nd k ts), _ => P (.nd k ts)
  | .rt (.fl ts), _ => P (.fl ts)
  | .rt (.ex x), _ => P (.ex x)
  | .rt (.si x), _ => P (.si x)
  | .xc _, _ => False
  | .nx, _ => P (.d .none)
  | .bk, _ => False
  | .ct, _ => False
theorem fin_w {B : Sm} {ρ : Env} {P : OT → Prop} (h : W B ρ (endK P)) : ∃ r, fin (B ρ) = some r ∧ P r := by
  obtain ⟨fl, ρ', e, q⟩ := h
  rw [e]
  cases fl with
  | nx => exact ⟨_, rfl, q⟩
  | bk => exact q.elim
  | ct => exact q.elim
  | xc x => exact q.elim
  | rt r =>
    cases r with
    | no => exact q.elim
    | d x => exact ⟨_, rfl, q⟩
    | nd k ts => exact ⟨_, rfl, q⟩
    | fl ts => exact ⟨_, rfl, q⟩
    | ex x => exact ⟨_, rfl, q⟩
    | si x => exact ⟨_, rfl, q⟩
def endIK (P : OT → OT → Prop) : Fl → Env → Prop
  | .rt .no, _ => False
  | .rt (.d x), t :: _ => P (.d x) t
  | .rt (.nd k ts), t :: _ => P (.nd k ts) t
  | .rt (.fl ts), t :: _ => P (.fl ts) t
  | .rt (.ex x), t :: _ => P (.ex x) t
  | .rt (.si x), t :: _ => P (.si x) t
  | .nx, t :: _ => P (.d .none) t
  | _, _ => False
theorem finI_w {B : Sm} {ρ : Env} {P : OT → OT → Prop} (h : W B ρ (endIK P)) : ∃ r t, finI (B ρ) = some (r, t) ∧ P r t := by
  obtain ⟨fl, ρ', e, q⟩ := h
  rw [e]
  cases fl with
  | nx => cases ρ' with
    | nil => exact q.elim
    | cons t ρ' => exact ⟨_, _, rfl, q⟩
  | bk => cases ρ' <;> exact q.elim
  | ct => cases ρ' <;> exact q.elim
  | xc x => cases ρ' <;> exact q.elim
  | rt r =>
    cases r with
    | no => cases ρ' <;> exact q.elim
    | d x => cases ρ' with
      | nil => exact q.elim
      | cons t ρ' => exact ⟨_, _, rfl, q⟩
    | nd k ts => cases ρ' with
      | nil => exact q.elim
      | cons t ρ' => exact ⟨_, _, rfl, q⟩
    | fl ts => cases ρ' with
      | nil => exact q.elim
      | cons t ρ' => exact ⟨_, _, rfl, q⟩
    | ex x => cases ρ' with
      | nil => exact q.elim
      | cons t ρ' => exact ⟨_, _, rfl, q⟩
    | si x => cases ρ' with
      | nil => exact q.elim
      | cons t ρ' => exact ⟨_, _, rfl, q⟩
end MR
namespace SH
open PySem L2 PL MR
/-- _law_take: 0 _law_pool_here 1 _law_many 2 _law_found -/
noncomputable def B__law_take : Sm :=
 (sSeq (sIf (tR (bR (rOp gGt (rOp gIxL (rVar 0) (rC (.int 0))) (rC (.int 0)))))
 (sSeq (sAsg 2 (yR (rOp gMod (rOp gIxL (rVar 0) (rC (.int 0))) (rVar 1))))
 (sSeq (sSetP 0 (pmVar 0) (rC (.int 0)) (yR (rOp gDiv (rOp gIxL (rVar 0) (rC (.int 0))) (rVar 1))))
 (sRet (yMov 2))))
 sNext)
 (sSeq (sSetP 0 (pmVar 0) (rC (.int 1)) (yR (rOp gMod (rOp gAdd (rOp gMul (rOp gIxL (rVar 0) (rC (.int 1))) (rC (.int 48271))) (rC (.int 11))) (rC (.int 2147483647)))))
 (sRet (yR (rOp gMod (rOp gDiv (rOp gMod (rOp gMul (rOp gIxL (rVar 0) (rC (.int 1))) (rOp gIxL (rVar 0) (rC (.int 1)))) (rC (.int 2147483629))) (rC (.int 16))) (rVar 1))))))
noncomputable def m__law_take : OT → List D → Option (OT × OT) := fun t ds => finI (B__law_take (t :: ini ds 1))
/-- is_whole: 0 thing -/
noncomputable def B_is_whole : Sm :=
 (sRet (yR (rAnd (rIs "int" (rVar 0)) (rNot (rIs "bool" (rVar 0))))))
noncomputable def m_is_whole : List D → Option OT := fun ds => fin (B_is_whole (ini ds 0))
/-- joins_places: 0 many 1 thing 2 one 3 other -/
noncomputable def B_joins_places : Sm :=
 (sSeq (sIf (tR (bOr (bNot (bR (rIs "tuple" (rVar 1)))) (bR (rOp gNeI (rCb gLen (qCons (rVar 1) qNil)) (rC (.int 2))))))
 (sRet (yR (rC (.bool false))))
 sNext)
 (sSeq (sAsgG (gmTup (gsCons (gmName 2) (gsCons (gmName 3) gsNil))) (dY (yVar 1)))
 (sRet (yR (rAnd (rCall m_is_whole 1 (qCons (rVar 2) qNil)) (rAnd (rCall m_is_whole 1 (qCons (rVar 3) qNil)) (rCh3 (fun i j => decide (i ≤ j)) (fun i j => decide (i < j)) (fun i j => decide (i < j)) (rC (.int 0)) (rVar 2) (rVar 3) (rVar 0))))))))
noncomputable def m_joins_places : List D → Option OT := fun ds => fin (B_joins_places (ini ds 2))
/-- web_fault: 0 thing 1 many 2 ties 3 at 4 tie -/
noncomputable def B_web_fault : Sm :=
 (sSeq (sIf (tR (bOr (bNot (bR (rIs "tuple" (rVar 0)))) (bR (rOp gNeI (rCb gLen (qCons (rVar 0) qNil)) (rC (.int 2))))))
 (sRet (yTup (oCons (yR (rC (.str "web"))) (oCons (yR (rC .none)) oNil))))
 sNext)
 (sSeq (sAsgG (gmTup (gsCons (gmName 1) (gsCons (gmName 2) gsNil))) (dY (yVar 0)))
 (sSeq (sIf (tR (bOr (bNot (bR (rCall m_is_whole 1 (qCons (rVar 1) qNil)))) (bNot (bR (rCh (fun i j => decide (i ≤ j)) (fun i j => decide (i ≤ j)) (rC (.int 1)) (rVar 1) (rC (.int 40)))))))
 (sRet (yTup (oCons (yR (rC (.str "places"))) (oCons (yR (rC .none)) oNil))))
 sNext)
 (sSeq (sIf (tR (bOr (bNot (bR (rIs "list" (rVar 2)))) (bR (rOp gGt (rCb gLen (qCons (rVar 2) qNil)) (rC (.int 120))))))
 (sRet (yTup (oCons (yR (rC (.str "ties"))) (oCons (yR (rC .none)) oNil))))
 sNext)
 (sSeq (sFor (iE (lCons (dY (yVar 2)) lNil)) (gmTup (gsCons (gmName 3) (gsCons (gmName 4) gsNil)))
 (sIf (tR (bOr (bNot (bR (rCall m_joins_places 2 (qCons (rVar 1) (qCons (rVar 4) qNil))))) (bAnd (bR (rOp gGt (rVar 3) (rC (.int 0)))) (bR (rOp gLeT (rVar 4) (rOp gIxL (rVar 2) (rOp gSub (rVar 3) (rC (.int 1)))))))))
 (sRet (yTup (oCons (yR (rC (.str "ties"))) (oCons (yMov 3) oNil))))
 sNext))
 (sRet (yR (rC .none))))))))
noncomputable def m_web_fault : List D → Option OT := fun ds => fin (B_web_fault (ini ds 4))
/-- _law_pool: 0 _law_script 1 _law_k 2 _law_cell 3 _law_number_here 4 _law_great -/
noncomputable def B__law_pool : Sm :=
 (sSeq (sAsg 2 (yR (rC (.int 0))))
 (sSeq (sIf (tR (bR (rOp gLt (rVar 1) (rCb gLen (qCons (rVar 0) qNil)))))
 (sAsg 2 (yAuto (rOp gIxL (rVar 0) (rVar 1)) (yD (dOpR gIxL (dY (yVar 0)) (rVar 1)))))
 sNext)
 (sSeq (sAsg 3 (yR (rOp gMod (rOp gAdd (rOp gAdd (rOp gAdd (rCb gMax2 (qCons (rVar 2) (qCons (rOp gSub (rUn gNeg (rC (.int 1))) (rVar 2)) qNil))) (rOp gMul (rOp gMul (rC (.int 7919)) (rVar 1)) (rVar 1))) (rOp gMul (rC (.int 104729)) (rVar 1))) (rC (.int 17))) (rC (.int 2147483629)))))
 (sSeq (sAsg 4 (yR (rC (.int 0))))
 (sSeq (sIf (tR (bR (rOp gGe (rVar 2) (rOp gPow (rC (.int 10)) (rC (.int 18))))))
 (sAsg 4 (yVar 2))
 sNext)
 (sRet (yLst (oCons (yMov 4) (oCons (yR (rOp gMod (rOp gMul (rVar 3) (rC (.int 48271))) (rC (.int 2147483647)))) oNil)))))))))
noncomputable def m__law_pool : List D → Option OT := fun ds => fin (B__law_pool (ini ds 3))
/-- _law_web: 0 _law_pool_here 1 _law_most 2 _law_more 3 _law_many 4 _law_names 5 _law_order 6 _law_k 7 _law_pairs 8 _law_ties 9 _law_one 10 _law_other -/
noncomputable def B__law_web : Sm :=
 (sSeq (sAsg 3 (yD (dOp gAdd (dR (rC (.int 1))) (dY (yCallI m__law_take 2 0 (lCons (dY (yVar 1)) lNil))))))
 (sSeq (sAsg 4 (yRng1 (dY (yVar 3))))
 (sSeq (sAsg 5 (yLc [6] (iR1 (lCons (dY (yVar 3)) lNil)) (gmName 6) (fun ρ => some (true, ρ)) (yPop 4 (dY (yCallI m__law_take 2 0 (lCons (dR (rCb gLen (qCons (rVar 4) qNil))) lNil))))))
 (sSeq (sAsg 7 (yLc [6] (iR2 (lCons (dR (rC (.int 1))) (lCons (dY (yVar 3)) lNil))) (gmName 6) (fun ρ => some (true, ρ)) (yTup (oCons (yVar 6) (oCons (yCallI m__law_take 2 0 (lCons (dY (yVar 6)) lNil)) oNil)))))
 (sSeq (sFor (iR1 (lCons (dY (yCallI m__law_take 2 0 (lCons (dR (rOp gAdd (rVar 2) (rC (.int 1)))) lNil))) lNil)) (gmName 6)
 (sApp 7 (yTup (oCons (yCallI m__law_take 2 0 (lCons (dY (yVar 3)) lNil)) (oCons (yCallI m__law_take 2 0 (lCons (dY (yVar 3)) lNil)) oNil)))))
 (sSeq (sAsg 8 yDNew)
 (sSeq (sFor (iL (dY (yVar 7))) (gmTup (gsCons (gmName 9) (gsCons (gmName 10) gsNil)))
 (sIf (tR (bR (rOp gNeI (rVar 9) (rVar 10))))
 (sDPutM 8 (rTup (qCons (rCb gMin2 (qCons (rOp gIxL (rVar 5) (rVar 9)) (qCons (rOp gIxL (rVar 5) (rVar 10)) qNil))) (qCons (rCb gMax2 (qCons (rOp gIxL (rVar 5) (rVar 9)) (qCons (rOp gIxL (rVar 5) (rVar 10)) qNil))) qNil))) (rC (.bool true)))
 sNext))
 (sRet (yTup (oCons (yMov 3) (oCons (ySortD 8) oNil)))))))))))
noncomputable def m__law_web : OT → List D → Option (OT × OT) := fun t ds => finI (B__law_web (t :: ini ds 8))
/-- _law_loose: 0 _law_pool_here 1 _law_most 2 _law_more 3 _law_many 4 _law_ties 5 _law_tie -/
noncomputable def B__law_loose : Sm :=
 (sSeq (sAsgG (gmTup (gsCons (gmName 3) (gsCons (gmName 4) gsNil))) (dY (yCallI m__law_web 3 0 (lCons (dY (yVar 1)) (lCons (dY (yVar 2)) lNil)))))
 (sSeq (sIf (tD (dOpR gEqI (dY (yCallI m__law_take 2 0 (lCons (dR (rC (.int 4))) lNil))) (rC (.int 0))))
 (sAsg 4 (yLc [5] (iL (dY (yVar 4))) (gmName 5) (tD (dOpR gGt (dY (yCallI m__law_take 2 0 (lCons (dR (rC (.int 3))) lNil))) (rC (.int 0)))) (yVar 5)))
 sNext)
 (sRet (yTup (oCons (yMov 3) (oCons (yMov 4) oNil))))))
noncomputable def m__law_loose : OT → List D → Option (OT × OT) := fun t ds => finI (B__law_loose (t :: ini ds 3))
end SH
namespace SQ
open PySem L2 PL MR
/-- _law_numbers: 0 _law_cell 1 _law_salt 2 _law_sizes 3 _law_number 4 _law_left 5 _law_found 6 _law_k 7 _law_one -/
noncomputable def B__law_numbers : Sm :=
 (sSeq (sAsg 3 (yR (rCb gMax2 (qCons (rVar 0) (qCons (rOp gSub (rUn gNeg (rC (.int 1))) (rVar 0)) qNil)))))
 (sSeq (sAsg 4 (yVar 3))
 (sSeq (sAsg 5 (yLst oNil))
 (sSeq (sFor (iR1 (lCons (dR (rCb gLen (qCons (rVar 2) qNil))) lNil)) (gmName 6)
 (sIf (tR (bAnd (bR (rOp gGe (rVar 3) (rOp gPow (rC (.int 10)) (rC (.int 18))))) (bR (rOp gGt (rVar 4) (rC (.int 0))))))
 (sSeq (sApp 5 (yR (rOp gMod (rVar 4) (rOp gIxL (rVar 2) (rVar 6)))))
 (sAsg 4 (yR (rOp gDiv (rVar 4) (rOp gIxL (rVar 2) (rVar 6))))))
 (sSeq (sAsg 7 (yR (rOp gMod (rOp gAdd (rOp gAdd (rOp gAdd (rVar 3) (rOp gMul (rC (.int 7919)) (rVar 1))) (rOp gMul (rOp gMul (rC (.int 101)) (rVar 6)) (rVar 6))) (rVar 6)) (rC (.int 2147483647)))))
 (sSeq (sAsg 7 (yR (rOp gMod (rOp gMul (rVar 7) (rC (.int 48271))) (rC (.int 2147483647)))))
 (sSeq (sAsg 7 (yR (rOp gMod (rOp gMul (rOp gMod (rOp gMul (rVar 7) (rVar 7)) (rC (.int 2147483629))) (rC (.int 48271))) (rC (.int 2147483647)))))
 (sApp 5 (yR (rOp gMod (rOp gDiv (rVar 7) (rC (.int 16))) (rOp gIxL (rVar 2) (rVar 6))))))))))
 (sRet (yMov 5))))))
noncomputable def m__law_numbers : List D → Option OT := fun ds => fin (B__law_numbers (ini ds 5))
/-- _law_cell_at: 0 _law_script 1 _law_k -/
noncomputable def B__law_cell_at : Sm :=
 (sSeq (sIf (tR (bR (rOp gLt (rVar 1) (rCb gLen (qCons (rVar 0) qNil)))))
 (sRet (yAuto (rOp gIxL (rVar 0) (rVar 1)) (yD (dOpR gIxL (dY (yVar 0)) (rVar 1)))))
 sNext)
 (sRet (yR (rC (.int 0)))))
noncomputable def m__law_cell_at : List D → Option OT := fun ds => fin (B__law_cell_at (ini ds 0))
/-- _law_order: 0 _law_digits 1 _law_names 2 _law_digit -/
noncomputable def B__law_order : Sm :=
 (sSeq (sAsg 1 (yRng1 (dR (rCb gLen (qCons (rVar 0) qNil)))))
 (sRet (yLc [2] (iL (dY (yVar 0))) (gmName 2) (fun ρ => some (true, ρ)) (yPop 1 (dR (rOp gMod (rVar 2) (rCb gLen (qCons (rVar 1) qNil))))))))
noncomputable def m__law_order : List D → Option OT := fun ds => fin (B__law_order (ini ds 2))
/-- _law_web: 0 _law_cell 1 _law_salt 2 _law_most 3 _law_more 4 _law_loose 5 _law_many 6 _law_sizes 7 _law_k 8 _law_digits 9 _law_order_here 10 _law_pairs 11 _law_digit 12 _law_ties 13 _law_one 14 _law_other -/
noncomputable def B__law_web : Sm :=
 (sSeq (sAsg 5 (yR (rOp gAdd (rC (.int 1)) (rOp gIxL (rCall m__law_numbers 3 (qCons (rVar 0) (qCons (rVar 1) (qCons (rLst (qCons (rVar 2) qNil)) qNil)))) (rC (.int 0))))))
 (sSeq (sAsg 6 (yOp GCat (dY (yOp GCat (dY (yLst (oCons (yVar 2) (oCons (yR (rOp gAdd (rVar 3) (rC (.int 1)))) oNil)))) (dY (yLc [7] (iR1 (lCons (dR (rOp gSub (rVar 5) (rC (.int 1)))) lNil)) (gmName 7) (fun ρ => some (true, ρ)) (yR (rOp gAdd (rVar 7) (rC (.int 1)))))))) (dY (yLc [7] (iR1 (lCons (dY (yVar 5)) lNil)) (gmName 7) (fun ρ => some (true, ρ)) (yR (rOp gSub (rVar 5) (rVar 7)))))))
 (sSeq (sAsg 8 (yCall m__law_numbers 3 (lCons (dY (yVar 0)) (lCons (dY (yVar 1)) (lCons (dY (yOp GCat (dY (yOp GCat (dY (yVar 6)) (dY (yRep (yLst (oCons (yR (rOp gMul (rVar 5) (rVar 5))) oNil)) (rVar 3))))) (dY (yRep (yLst (oCons (yR (rC (.int 3))) oNil)) (rOp gSub (rVar 5) (rC (.int 1))))))) lNil)))))
 (sSeq (sAsg 9 (yCallA m__law_order 1 (qCons (rSl (rVar 8) (cSome (rOp gAdd (rVar 5) (rC (.int 1)))) (cSome (rOp gAdd (rOp gMul (rC (.int 2)) (rVar 5)) (rC (.int 1))))) qNil) (lCons (dY (ySlA (rVar 8) (dY (yVar 8)) (cSome (rOp gAdd (rVar 5) (rC (.int 1)))) (cSome (rOp gAdd (rOp gMul (rC (.int 2)) (rVar 5)) (rC (.int 1)))))) lNil)))
 (sSeq (sAsg 10 (yLc [7] (iR1 (lCons (dR (rOp gSub (rVar 5) (rC (.int 1)))) lNil)) (gmName 7) (tR (bOr (bNot (bR (rVar 4))) (bR (rOp gGt (rOp gIxL (rVar 8) (rOp gSub (rUn gNeg (rC (.int 1))) (rVar 7))) (rC (.int 0)))))) (yTup (oCons (yR (rOp gAdd (rVar 7) (rC (.int 1)))) (oCons (yAuto (rOp gIxL (rVar 8) (rOp gAdd (rC (.int 2)) (rVar 7))) (yD (dOpR gIxL (dY (yVar 8)) (rOp gAdd (rC (.int 2)) (rVar 7))))) oNil)))))
 (sSeq (sExt 10 (yLc [11] (iL (dY (ySlA (rVar 8) (dY (yVar 8)) (cSome (rOp gAdd (rOp gMul (rC (.int 2)) (rVar 5)) (rC (.int 1)))) (cSome (rOp gAdd (rOp gAdd (rOp gMul (rC (.int 2)) (rVar 5)) (rC (.int 1))) (rOp gIxL (rVar 8) (rC (.int 1)))))))) (gmName 11) (fun ρ => some (true, ρ)) (yTup (oCons (yR (rOp gDiv (rVar 11) (rVar 5))) (oCons (yR (rOp gMod (rVar 11) (rVar 5))) oNil)))))
 (sSeq (sAsg 12 yDNew)
 (sSeq (sFor (iL (dY (yVar 10))) (gmTup (gsCons (gmName 13) (gsCons (gmName 14) gsNil)))
 (sIf (tR (bR (rOp gNeI (rVar 13) (rVar 14))))
 (sDPutM 12 (rTup (qCons (rCb gMin2 (qCons (rOp gIxL (rVar 9) (rVar 13)) (qCons (rOp gIxL (rVar 9) (rVar 14)) qNil))) (qCons (rCb gMax2 (qCons (rOp gIxL (rVar 9) (rVar 13)) (qCons (rOp gIxL (rVar 9) (rVar 14)) qNil))) qNil))) (rC (.bool true)))
 sNext))
 (sRet (yTup (oCons (yMov 5) (oCons (ySortD 12) oNil))))))))))))
noncomputable def m__law_web : List D → Option OT := fun ds => fin (B__law_web (ini ds 10))
/-- _law_fits: 0 _law_webs_here 1 _law_places 2 _law_ties 3 _law_many 4 _law_pairs -/
noncomputable def B__law_fits : Sm :=
 (sSeq (sAsg 1 (yR (rC (.int 1))))
 (sSeq (sAsg 2 (yR (rC (.int 0))))
 (sSeq (sFor (iL (dY (yVar 0))) (gmTup (gsCons (gmName 3) (gsCons (gmName 4) gsNil)))
 (sSeq (sAsg 2 (yR (rOp gAdd (rOp gMul (rVar 2) (rVar 3)) (rOp gMul (rCb gLen (qCons (rVar 4) qNil)) (rVar 1)))))
 (sAsg 1 (yR (rOp gMul (rVar 1) (rVar 3))))))
 (sRet (yR (rAnd (rOp gLe (rVar 1) (rC (.int 40))) (rOp gLe (rVar 2) (rC (.int 120)))))))))
noncomputable def m__law_fits : List D → Option OT := fun ds => fin (B__law_fits (ini ds 4))
/-- _law_webs: 0 _law_script 1 _law_at 2 _law_loose 3 _law_most 4 _law_webs_here 5 _law_k 6 _law_one -/
noncomputable def B__law_webs : Sm :=
 (sSeq (sAsg 3 (yAuto (rOp gIxL (rLst (qCons (rC (.int 4)) (qCons (rC (.int 6)) (qCons (rC (.int 12)) (qCons (rC (.int 40)) qNil))))) (rOp gIxL (rCall m__law_numbers 3 (qCons (rCall m__law_cell_at 2 (qCons (rVar 0) (qCons (rOp gAdd (rVar 1) (rC (.int 5))) qNil))) (qCons (rOp gAdd (rOp gMul (rC (.int 3)) (rVar 1)) (rC (.int 1))) (qCons (rLst (qCons (rC (.int 4)) qNil)) qNil)))) (rC (.int 0)))) (yD (dOpR gIxL (dY (yLst (oCons (yR (rC (.int 4))) (oCons (yR (rC (.int 6))) (oCons (yR (rC (.int 12))) (oCons (yR (rC (.int 40))) oNil)))))) (rOp gIxL (rCall m__law_numbers 3 (qCons (rCall m__law_cell_at 2 (qCons (rVar 0) (qCons (rOp gAdd (rVar 1) (rC (.int 5))) qNil))) (qCons (rOp gAdd (rOp gMul (rC (.int 3)) (rVar 1)) (rC (.int 1))) (qCons (rLst (qCons (rC (.int 4)) qNil)) qNil)))) (rC (.int 0)))))))
 (sSeq (sAsg 4 (yLst oNil))
 (sSeq (sFor (iR1 (lCons (dR (rC (.int 5))) lNil)) (gmName 5)
 (sSeq (sAsg 6 (yCallA m__law_web 5 (qCons (rCall m__law_cell_at 2 (qCons (rVar 0) (qCons (rOp gAdd (rVar 1) (rVar 5)) qNil))) (qCons (rOp gAdd (rVar 1) (rVar 5)) (qCons (rOp gIxL (rLst (qCons (rVar 3) (qCons (rC (.int 6)) (qCons (rC (.int 4)) (qCons (rC (.int 3)) (qCons (rC (.int 2)) qNil)))))) (rVar 5)) (qCons (rOp gIxL (rLst (qCons (rC (.int 9)) (qCons (rC (.int 4)) (qCons (rC (.int 2)) (qCons (rC (.int 1)) (qCons (rC (.int 0)) qNil)))))) (rVar 5)) (qCons (rVar 2) qNil))))) (lCons (dY (yCallA m__law_cell_at 2 (qCons (rVar 0) (qCons (rOp gAdd (rVar 1) (rVar 5)) qNil)) (lCons (dY (yVar 0)) (lCons (dR (rOp gAdd (rVar 1) (rVar 5))) lNil)))) (lCons (dR (rOp gAdd (rVar 1) (rVar 5))) (lCons (dY (yAuto (rOp gIxL (rLst (qCons (rVar 3) (qCons (rC (.int 6)) (qCons (rC (.int 4)) (qCons (rC (.int 3)) (qCons (rC (.int 2)) qNil)))))) (rVar 5)) (yD (dOpR gIxL (dY (yLst (oCons (yVar 3) (oCons (yR (rC (.int 6))) (oCons (yR (rC (.int 4))) (oCons (yR (rC (.int 3))) (oCons (yR (rC (.int 2))) oNil))))))) (rVar 5))))) (lCons (dY (yAuto (rOp gIxL (rLst (qCons (rC (.int 9)) (qCons (rC (.int 4)) (qCons (rC (.int 2)) (qCons (rC (.int 1)) (qCons (rC (.int 0)) qNil)))))) (rVar 5)) (yD (dOpR gIxL (dY (yLst (oCons (yR (rC (.int 9))) (oCons (yR (rC (.int 4))) (oCons (yR (rC (.int 2))) (oCons (yR (rC (.int 1))) (oCons (yR (rC (.int 0))) oNil))))))) (rVar 5))))) (lCons (dY (yVar 2)) lNil)))))))
 (sIf (tR (bAnd (bR (rOp gGt (rOp gIxT (rVar 6) (rC (.int 0))) (rC (.int 1)))) (bR (rCall m__law_fits 1 (qCons (rOpZ GCat (rVar 4) (rLst (qCons (rVar 6) qNil))) qNil)))))
 (sApp 4 (yVar 6))
 sNext)))
 (sRet (yMov 4)))))
noncomputable def m__law_webs : List D → Option OT := fun ds => fin (B__law_webs (ini ds 4))
end SQ
namespace SB
open PySem L2 PL MR SH SQ
end SB
/-! MR: math.comb -/
namespace MR
open PySem L2 PL PySem.Spec PyProof.Rows
end MR
/-! MR: products of great numbers -/
namespace MR
open PySem L2 PL PySem.Spec PyProof.Rows
end MR
/-! MR: zip of three lists -/
namespace MR
open PySem L2 PL PySem.Spec PyProof.Rows
end MR
/-! MR: max of a list of ints, xs.count(k), xs[i] += e -/
namespace MR
open PySem L2 PL PySem.Spec PyProof.Rows
end MR
/-! MR: dicts by ints and texts: {}, {k: v}, d[k], d.get(k, e), d[k] = v, for k, v in d.items() -/
namespace MR
open PySem L2 PL PySem.Spec PyProof.Rows
end MR
/-! MR: list(zip(xs, ys)) of two lists -/
namespace MR.Lz
open PySem PySem.Calls PyProof.Rows PyProof.V PySem.Spec
theorem nolen_zip : typeLookup (.type "zip") "__len__" = pure none := am_miss_of_fast (by decide +kernel)
theorem nohint_zip : typeLookup (.type "zip") "__length_hint__" = pure none := am_miss_of_fast (by decide +kernel)
/-- what zip(xs, ys) has told so far -/
structure Told (ps : List (Value × Value)) (lo : Addr) (h : Heap) (as : List Addr) : Prop where
  rise : as.Pairwise (· < ·)
  above : ∀ a ∈ as, lo < a
  pairs : ∀ (j : Nat) (a : Addr), as[j]? = some a → ∃ p, ps[j]? = some p ∧ h.get? a = some { cls := .type "tuple", data := .seq #[p.1, p.2] }
theorem Told.there {ps : List (Value × Value)} {lo : Addr} {h : Heap} {as : List Addr} (g : Told ps lo h as) {a : Addr} (ha : a ∈ as) : a < h.objs.size := by
  obtain ⟨j, hj⟩ := List.mem_iff_getElem?.mp ha
  obtain ⟨_, _, e⟩ := g.pairs j a hj
  exact Heap.lt_size e
/-- the zip as it stands ahead of turn i -/
def St (h : Heap) (z TI TO i1 i2 l1 l2 S : Addr) (xs ys : Array Value) (i : Nat) : Prop :=
  IsPair h TI (.ref i1) (.ref i2) ∧ h.IsListIter i1 l1 i ∧ h.IsListIter i2 l2 i ∧ h.IsList l1 xs ∧ h.IsList l2 ys ∧
    ((IsZip h z TI TO .none ∧ ∃ a b, IsPair h TO a b) ∨ ∃ T f oT, IsZipHeld h z TI TO T f ∧ h.get? T = some oT ∧ T ≠ z ∧ T ≠ i1 ∧ T ≠ i2 ∧ T ≠ S)
structure Off (z TI TO i1 i2 l1 l2 S : Addr) : Prop where
  z : S ≠ z
  TI : S ≠ TI
  TO : S ≠ TO
  i1 : S ≠ i1
  i2 : S ≠ i2
  l1 : S ≠ l1
  l2 : S ≠ l2
section
variable {z TI TO i1 i2 l1 l2 S : Addr} {xs ys : Array Value} {i : Nat}
theorem St.keep {h h' : Heap} (x : St h z TI TO i1 i2 l1 l2 S xs ys i) (O : Off z TI TO i1 i2 l1 l2 S) (hk : ∀ b o, b ≠ S → h.get? b = some o → h'.get? b = some o) : St h' z TI TO i1 i2 l1 l2 S xs ys i := by
  obtain ⟨hTI, h1, h2, hl1, hl2, hz⟩ := x
  refine ⟨hk _ _ (Ne.symm O.TI) hTI, h1.at fun o e => hk _ o (Ne.symm O.i1) e, h2.at fun o e => hk _ o (Ne.symm O.i2) e, hl1.at fun o e => hk _ o (Ne.symm O.l1) e, hl2.at fun o e => hk _ o (Ne.symm O.l2) e, ?_⟩
  rcases hz with ⟨hz, a, b, hTO⟩ | ⟨T, f, oT, hz, hT, r1, r2, r3, r4⟩
  · exact .inl ⟨hk _ _ (Ne.symm O.z) hz, a, b, hk _ _ (Ne.symm O.TO) hTO⟩
  · exact .inr ⟨T, f, oT, hk _ _ (Ne.symm O.z) hz, hk _ _ r4 hT, r1, r2, r3, r4⟩
variable {prog : Program} {w : World} {A : Around} {E : Value → Shared → Prop} {s : Shared}
theorem item {Q : Option Value → Shared → Prop} (D : ZipApart z TI TO i1 i2 l1 l2) (st : St s.heap z TI TO i1 i2 l1 l2 S xs ys i) (hS : S < s.heap.objs.size) {x y : Value} (ex : xs[i]? = some x) (ey : ys[i]? = some y)
    (hQ : ∀ h', St h' z TI TO i1 i2 l1 l2 S xs ys (i + 1) → h'.get? s.heap.objs.size = some { cls := .type "tuple", data := .seq #[x, y] } → h'.objs.size = s.heap.objs.size + 1 →
      (∀ b o, b ≠ z → b ≠ TO → b ≠ i1 → b ≠ i2 → s.heap.get? b = some o → h'.get? b = some o) → Q (some (.ref s.heap.objs.size)) { s with heap := h' }) :
    wpAny (model prog w) A (pyNext (.ref z)) Q E s := by
  obtain ⟨hTI, h1, h2, hl1, hl2, hz⟩ := st
  have lt : ∀ {c o}, s.heap.get? c = some o → s.heap.objs.size ≠ c := fun e => Nat.ne_of_gt (Heap.lt_size e)
  have n1 : s.heap.objs.size ≠ i1 := let ⟨_, e, _⟩ := h1; lt e
  have n2 : s.heap.objs.size ≠ i2 := let ⟨_, e, _⟩ := h2; lt e
  rcases hz with ⟨hz, a, b, hTO⟩ | ⟨T, f, oT, hz, hT, r1, r2, r3, r4⟩
  · refine wpAny_pyNext_zip_item D hz hTI hTO h1 h2 hl1 hl2 ex ey fun h' a1 a2 a3 a4 a5 a6 hk => ?_
    exact hQ h' ⟨hk _ _ D.TIz D.TITO D.TIi1 D.TIi2 hTI, a3, a4, hl1.at fun o e => hk _ o D.l1z D.l1TO D.l1i1 D.l1i2 e, hl2.at fun o e => hk _ o D.l2z D.l2TO D.l2i1 D.l2i2 e,
      .inr ⟨s.heap.objs.size, false, _, a1, a5, lt hz, n1, n2, Nat.ne_of_gt hS⟩⟩ a5 a6 hk
  · refine wpAny_pyNext_zip_item_held D hz hT hTI h1 h2 hl1 hl2 ex ey fun h' a1 a3 a4 a5 a6 hk => ?_
    exact hQ h' ⟨hk _ _ D.TIz D.TIi1 D.TIi2 hTI, a3, a4, hl1.at fun o e => hk _ o D.l1z D.l1i1 D.l1i2 e, hl2.at fun o e => hk _ o D.l2z D.l2i1 D.l2i2 e,
      .inr ⟨T, true, oT, a1, hk _ _ r1 r2 r3 hT, r1, r2, r3, r4⟩⟩ a5 a6 fun b o b1 _ b3 b4 e => hk b o b1 b3 b4 e
theorem done {Q : Option Value → Shared → Prop} (hA : A.handled = none) (D : ZipApart z TI TO i1 i2 l1 l2) (st : St s.heap z TI TO i1 i2 l1 l2 S xs ys i) (hend : xs[i]? = none ∨ ys[i]? = none)
    (hQ : ∀ h', (∀ b o, b ≠ z → b ≠ TO → b ≠ i1 → b ≠ i2 → s.heap.get? b = some o → h'.get? b = some o) → Q none { s with heap := h' }) :
    wpAny (model prog w) A (pyNext (.ref z)) Q E s := by
  obtain ⟨hTI, h1, h2, hl1, hl2, hz⟩ := st
  rcases hz with ⟨hz, a, b, hTO⟩ | ⟨T, f, oT, hz, hT, r1, r2, r3, r4⟩
  · exact wpAny_pyNext_zip_end hA D hz hTI hTO h1 h2 hl1 hl2 hend hQ
  · exact wpAny_pyNext_zip_end_held hA D hz hT hTI h1 h2 hl1 hl2 hend fun h' hk => hQ h' fun b o b1 _ b3 b4 e => hk b o b1 b3 b4 e
end
section
variable {prog : Program} {w : World} {A : Around} {s : Shared} {R : Result → Shared → Prop} {z TI TO i1 i2 l1 l2 S : Addr} {xs ys : Array Value} {ps : List (Value × Value)}
theorem loop {lo : Addr} (hh : A.handled = none) (D : ZipApart z TI TO i1 i2 l1 l2) (O : Off z TI TO i1 i2 l1 l2 S) (hSl : S ≤ lo) (hlo : z ≤ lo ∧ TO ≤ lo ∧ i1 ≤ lo ∧ i2 ≤ lo) (hp : ∀ (i : Nat), i < ps.length → ∃ p, ps[i]? = some p ∧ xs[i]? = some p.1 ∧ ys[i]? = some p.2) (he : xs[ps.length]? = none ∨ ys[ps.length]? = none) (hn : ps.length ≤ sizeLine) (res : Value) {h₁ : Heap} {Z : List Addr} (hZ : z ∈ Z ∧ TO ∈ Z ∧ i1 ∈ Z ∧ i2 ∈ Z)
    (hR : ∀ h' tk acc c as, (∀ b o, b ≠ S → b ∉ Z → h₁.get? b = some o → h'.get? b = some o) → h'.get? S = some { cls := .type "list", dict := none, data := .seq acc c, slots := #[] } → as.length = ps.length → Told ps lo h' as →
      acc.toList = as.map Value.ref → R (.ok (.ret res)) { s with heap := h', toks := tk }) :
    ∀ (k i : Nat) (h : Heap) (tk c : Nat) (acc : Array Value) (as : List Addr), ps.length - i = k → i ≤ ps.length → St h z TI TO i1 i2 l1 l2 S xs ys i → (∀ b o, b ≠ S → b ∉ Z → h₁.get? b = some o → h.get? b = some o) →
      h.get? S = some { cls := .type "list", dict := none, data := .seq acc c, slots := #[] } → acc.toList = as.map Value.ref → as.length = i → Told ps lo h as → lo < h.objs.size →
      codeAny (model prog w) A (.builtin "list.extend.loop" ⟨[.ref S, .ref z, res], []⟩) R { s with heap := h, toks := tk } := by
  have nz : ∀ {a : Addr}, lo < a → a ≠ z ∧ a ≠ TO ∧ a ≠ i1 ∧ a ≠ i2 ∧ a ≠ S := fun h => by
    obtain ⟨b1, b2, b3, b4⟩ := hlo
    exact ⟨Nat.ne_of_gt (Nat.lt_of_le_of_lt b1 h), Nat.ne_of_gt (Nat.lt_of_le_of_lt b2 h), Nat.ne_of_gt (Nat.lt_of_le_of_lt b3 h), Nat.ne_of_gt (Nat.lt_of_le_of_lt b4 h), Nat.ne_of_gt (Nat.lt_of_le_of_lt hSl h)⟩
  have zf : ∀ {b : Addr}, b ∉ Z → b ≠ z ∧ b ≠ TO ∧ b ≠ i1 ∧ b ≠ i2 := fun hb => by
    obtain ⟨b1, b2, b3, b4⟩ := hZ
    exact ⟨fun e => hb (e ▸ b1), fun e => hb (e ▸ b2), fun e => hb (e ▸ b3), fun e => hb (e ▸ b4)⟩
  intro k
  induction k with
  | zero =>
    intro i h tk c acc as hk hi hst hkeep hS hacc hal hG hIs
    have hin : i = ps.length := by omega
    refine codeAny_builtin PySem.F.entry_extend_loop ?_
    rw [Around.under_plainId PySem.F.plain_extend_loop _]
    show wpAny _ A.in1 (pyNext (.ref z) >>= _) _ _ _
    refine wpAny_bind (done (s := { s with heap := h, toks := tk }) (A := A.in1) hh D hst (by rw [hin]; exact he) fun h' he => ?_)
    refine wpAny_pure (hR h' tk acc c as (fun b o h1 h2 e => by obtain ⟨q1, q2, q3, q4⟩ := zf h2; exact he b o q1 q2 q3 q4 (hkeep b o h1 h2 e)) (he S _ O.z O.TO O.i1 O.i2 hS) (by omega) ⟨hG.rise, hG.above, fun j a hj => ?_⟩ hacc)
    obtain ⟨p, hj', e3⟩ := hG.pairs j a hj
    obtain ⟨q1, q2, q3, q4, _⟩ := nz (hG.above a (List.mem_of_getElem? hj))
    exact ⟨p, hj', he a _ q1 q2 q3 q4 e3⟩
  | succ k ih =>
    intro i h tk c acc as hk hi hst hkeep hS hacc hal hG hIs
    have hlt : i < ps.length := by omega
    have hsz : acc.size = i := by rw [← Array.length_toList, hacc, List.length_map, hal]
    obtain ⟨p, ep, ex, ey⟩ := hp i hlt
    refine codeAny_builtin PySem.F.entry_extend_loop ?_
    rw [Around.under_plainId PySem.F.plain_extend_loop _]
    show wpAny _ A.in1 (pyNext (.ref z) >>= _) _ _ _
    refine wpAny_bind (item (s := { s with heap := h, toks := tk }) (S := S) D hst (Heap.lt_size hS) ex ey fun h' hst' ht hz hkp => ?_)
    dsimp only at ht hz hkp ⊢
    have hS' := hkp S _ O.z O.TO O.i1 O.i2 hS
    have up : ∀ b o, b ≠ S → h'.get? b = some o → (h'.update S (Obj.mapSeq (·.push (Value.ref h.objs.size)))).get? b = some o := fun b o hb e => (Heap.get?_update_other _ _ (Ne.symm hb)).trans e
    have hSl' : S < h.objs.size := Heap.lt_size hS
    show wpAny _ A.in1 (updateSeq S (·.push (Value.ref h.objs.size)) >>= _) _ _ _
    refine wpAny_bind ?_
    refine wpAny_updateSeq hS' rfl (wpAny_pure ⟨plainId_quiet PySem.F.plain_extend_loop _, ih (i + 1) _ tk _ (acc.push (Value.ref h.objs.size)) (as ++ [h.objs.size]) (by omega) hlt (hst'.keep O up)
      (fun b o h1 h2 e => up b o h1 (by obtain ⟨q1, q2, q3, q4⟩ := zf h2; exact hkp b o q1 q2 q3 q4 (hkeep b o h1 h2 e))) (Heap.get?_update_self _ hS' rfl) (by rw [Array.toList_push, hacc, List.map_append]; rfl) (by rw [List.length_append, hal]; rfl) ⟨?_, ?_, ?_⟩ ?_⟩) (by rw [hsz]; omega) (by show (acc.push (Value.ref h.objs.size)).size ≤ sizeLine + 1; rw [Array.size_push, hsz]; omega)
    · refine List.pairwise_append.mpr ⟨hG.rise, List.pairwise_singleton _ _, fun a ha b hb => ?_⟩
      rw [List.mem_singleton.mp hb]
      exact hG.there ha
    · intro a ha
      rcases List.mem_append.mp ha with ha | ha
      · exact hG.above a ha
      · rw [List.mem_singleton.mp ha]; exact hIs
    · intro j b hj
      rcases Nat.lt_trichotomy j as.length with h1 | h1 | h1
      · rw [List.getElem?_append_left h1] at hj
        obtain ⟨p', hj', e3⟩ := hG.pairs j b hj
        obtain ⟨q1, q2, q3, q4, q5⟩ := nz (hG.above b (List.mem_of_getElem? hj))
        exact ⟨p', hj', up b _ q5 (hkp b _ q1 q2 q3 q4 e3)⟩
      · subst h1
        have hb : h.objs.size = b := by simpa using hj
        subst hb
        exact ⟨p, by rw [hal]; exact ep, up _ _ (Nat.ne_of_gt hSl') ht⟩
      · have hnone : (as ++ [h.objs.size])[j]? = none := List.getElem?_eq_none (by rw [List.length_append, List.length_singleton]; omega)
        rw [hnone] at hj; cases hj
    · have e : (h'.update S (Obj.mapSeq (·.push (Value.ref h.objs.size)))).get? h.objs.size = _ := up _ _ (Nat.ne_of_gt hSl') ht
      exact Nat.lt_trans hIs (Heap.lt_size e)
end
section
variable {prog : Program} {w : World} {A : Around} {E : Value → Shared → Prop} {s : Shared} {z TI TO i1 i2 l1 l2 : Addr} {xs ys : Array Value} {ps : List (Value × Value)}
theorem hint {r : Addr} {Q : Bool → Shared → Prop} (hT : s.TypeIs (.ref r) "zip") (h : Q true s) : wpAny (model prog w) A (Builtin.List.listLengthHint (.ref r)) Q E s := by
  unfold Builtin.List.listLengthHint
  refine wpAny_bind (wpAny_specialOf hT nolen_zip ?_)
  show wpAny _ _ (specialOf (Value.ref r) (Str.ofString "__length_hint__") >>= _) _ _ _
  refine wpAny_bind (wpAny_specialOf hT nohint_zip ?_)
  refine wpAny_pure ?_
  exact h
theorem extend {R : Result → Shared → Prop} {S lo : Addr} (hh : A.handled = none) (D : ZipApart z TI TO i1 i2 l1 l2) (O : Off z TI TO i1 i2 l1 l2 S) (hSl : S ≤ lo) (hlo : z ≤ lo ∧ TO ≤ lo ∧ i1 ≤ lo ∧ i2 ≤ lo) (hls : lo < s.heap.objs.size) (hp : ∀ (i : Nat), i < ps.length → ∃ p, ps[i]? = some p ∧ xs[i]? = some p.1 ∧ ys[i]? = some p.2) (he : xs[ps.length]? = none ∨ ys[ps.length]? = none) (hn : ps.length ≤ sizeLine) (res : Value) (c₀ : Nat)
    (hz : IsZip s.heap z TI TO .none) (st : St s.heap z TI TO i1 i2 l1 l2 S xs ys 0) (hS : s.heap.get? S = some { cls := .type "list", data := .seq #[] c₀ })
    (hR : ∀ h' tk acc c as, (∀ b o, b ≠ S → b ∉ [z, TO, i1, i2] → s.heap.get? b = some o → h'.get? b = some o) → h'.get? S = some { cls := .type "list", dict := none, data := .seq acc c, slots := #[] } → as.length = ps.length → Told ps lo h' as →
      acc.toList = as.map Value.ref → R (.ok (.ret res)) { s with heap := h', toks := tk }) :
    wpAny (model prog w) A.in1 (Builtin.List.listExtendWith (.ref S) (.ref z) res)
      (fun fin s' => match fin with | .done f => R (.ok f) s' | .again c' => c'.quiet = true ∧ codeAny (model prog w) A c' R s') (fun e s' => R (.error e) s') s := by
  have key : ∀ (h : Heap) (c₁ tk : Nat), (∀ b o, b ≠ S → s.heap.get? b = some o → h.get? b = some o) → lo < h.objs.size →
      h.get? S = some { cls := .type "list", data := .seq #[] c₁ } → codeAny (model prog w) A (.builtin "list.extend.loop" ⟨[.ref S, .ref z, res], []⟩) R { s with heap := h, toks := tk } := by
    intro h c₁ tk hk hl hS₁
    exact loop (lo := lo) (s := s) (ps := ps) (xs := xs) (ys := ys) (TI := TI) (l1 := l1) (l2 := l2) (h₁ := s.heap) (Z := [z, TO, i1, i2]) hh D O hSl hlo hp he hn res (by simp) hR ps.length 0 h tk c₁ #[] [] (Nat.sub_zero _) (Nat.zero_le _) (st.keep O hk) (fun b o hb _ e => hk b o hb e) hS₁ rfl rfl
      ⟨List.Pairwise.nil, (fun _ ha => nomatch ha), (fun j a hj => by simp at hj)⟩ hl
  have hT : s.TypeIs (.ref z) "zip" := ⟨_, hz, rfl⟩
  unfold Builtin.List.listExtendWith
  refine wpAny_bind (wpAny_typeOf (T := "zip") hT ?_)
  have h1 : Builtin.List.listSameRef (.ref S) (.ref z) = false := by simp [Builtin.List.listSameRef, O.z]
  have h2 : (Value.type "zip" == Value.type "list") = false := by decide
  have h3 : (Value.type "zip" == Value.type "tuple") = false := by decide
  simp only [h1, h2, h3, Bool.or_false, Bool.false_eq_true, if_false]
  refine wpAny_bind (wpAny_pyIter_zip hz ?_)
  refine wpAny_bind (wpAny_holding (hint hT ?_))
  refine wpAny_ite_split (fun _ => ?_) (fun _ => wpAny_pure ⟨plainId_quiet PySem.F.plain_extend_loop _, key _ c₀ _ (fun b o _ e => e) hls hS⟩)
  refine wpAny_bind (wpAny_rule ?_)
  refine wpAny_bind ?_
  show wpAny _ _ (updateSeq S (·.push .none) >>= fun _ => updateSeq S (·.pop)) _ _ _
  refine wpAny_bind (wpAny_updateSeq hS rfl ?_)
  have hS₂ := Heap.get?_update_self (Obj.mapSeq (·.push Value.none)) hS rfl
  refine wpAny_updateSeq (hz := by seq_fits) hS₂ rfl ?_
  have hS₃ := Heap.get?_update_self (Obj.mapSeq (·.pop)) hS₂ rfl
  refine wpAny_pure ⟨plainId_quiet PySem.F.plain_extend_loop _, key _ _ _ (fun b o hb e => ?_) ?_ hS₃⟩
  · exact (Heap.get?_update_other _ _ (Ne.symm hb)).trans ((Heap.get?_update_other _ _ (Ne.symm hb)).trans e)
  · obtain ⟨o, ho⟩ : ∃ o, s.heap.get? S = some o := ⟨_, hS⟩
    show lo < ((s.heap.update S _).update S _).objs.size
    rw [Heap.size_update, Heap.size_update]
    exact hls
end
section
variable {prog : Program} {w : World} {A : Around} {E : Value → Shared → Prop} {s : Shared} {z TI TO i1 i2 l1 l2 : Addr} {xs ys : Array Value} {ps : List (Value × Value)}
theorem init {R : Result → Shared → Prop} {S lo : Addr} (hh : A.handled = none) (D : ZipApart z TI TO i1 i2 l1 l2) (O : Off z TI TO i1 i2 l1 l2 S) (hSl : S ≤ lo) (hlo : z ≤ lo ∧ TO ≤ lo ∧ i1 ≤ lo ∧ i2 ≤ lo) (hls : lo < s.heap.objs.size) (hp : ∀ (i : Nat), i < ps.length → ∃ p, ps[i]? = some p ∧ xs[i]? = some p.1 ∧ ys[i]? = some p.2) (he : xs[ps.length]? = none ∨ ys[ps.length]? = none) (hn : ps.length ≤ sizeLine)
    (hz : IsZip s.heap z TI TO .none) (st : St s.heap z TI TO i1 i2 l1 l2 S xs ys 0) (hS : s.heap.get? S = some { cls := .type "list", data := .seq #[] })
    (hR : ∀ h' tk acc c as, (∀ b o, b ≠ S → b ∉ [z, TO, i1, i2] → s.heap.get? b = some o → h'.get? b = some o) → h'.get? S = some { cls := .type "list", dict := none, data := .seq acc c, slots := #[] } → as.length = ps.length → Told ps lo h' as →
      acc.toList = as.map Value.ref → R (.ok (.ret .none)) { s with heap := h', toks := tk }) :
    wpAny (model prog w) A.in1 (Builtin.«list.__init__» ⟨[.ref S, .ref z], []⟩)
      (fun fin s' => match fin with | .done f => R (.ok f) s' | .again c' => c'.quiet = true ∧ codeAny (model prog w) A c' R s') (fun e s' => R (.error e) s') s := by
  show wpAny _ _ (do let old ← Builtin.List.listItems (.ref S); Builtin.List.listUpdate (.ref S) (fun _ => #[]); letGo old.toList.reverse; Builtin.List.listExtendWith (.ref S) (.ref z) .none) _ _ s
  refine wpAny_bind ?_
  unfold Builtin.List.listItems
  refine wpAny_bind (wpAny_seqItems hS rfl (wpAny_pure ?_))
  show wpAny _ _ (updateSeq S (fun _ => #[]) >>= fun _ => letGo (#[] : Array Value).toList.reverse >>= fun _ => Builtin.List.listExtendWith (.ref S) (.ref z) .none) _ _ s
  refine wpAny_bind (wpAny_updateSeq hS rfl ?_)
  have hS₂ := Heap.get?_update_self (Obj.mapSeq (fun _ => (#[] : Array Value))) hS rfl
  have oth : ∀ b o, b ≠ S → s.heap.get? b = some o → (s.heap.update S (Obj.mapSeq (fun _ => (#[] : Array Value)))).get? b = some o :=
    fun b o hb e => (Heap.get?_update_other _ _ (Ne.symm hb)).trans e
  refine wpAny_bind (wpAny_letGo ?_)
  refine extend (lo := lo) hh D O hSl hlo ?_ hp he hn .none _ (oth _ _ (Ne.symm O.z) hz) (st.keep O oth) hS₂ (fun h' tk acc c as hk hS' hl hG hacc => ?_)
  · show lo < (s.heap.update S _).objs.size
    rw [Heap.size_update]
    exact hls
  · exact hR h' tk acc c as (fun b o hb hb2 e => hk b o hb hb2 (oth b o hb e)) hS' hl hG hacc
end
end MR.Lz
namespace MR
open PySem L2 PL PySem.Spec PyProof.Rows
/-- pairs laid at their addresses -/
def putPz : Hp → List Addr → List (V × V) → Hp
  | H, a :: as, p :: kvs => putPz (upd H a (.tup [p.1, p.2])) as kvs
  | H, _, _ => H
theorem putPz_off {b : Addr} : ∀ (as : List Addr) (kvs : List (V × V)) (H : Hp), b ∉ as → putPz H as kvs b = H b
  | [], _, _, _ => rfl
  | _ :: _, [], _, _ => rfl
  | a :: as, p :: kvs, H, h => by
    show putPz (upd H a (.tup [p.1, p.2])) as kvs b = H b
    rw [putPz_off as kvs _ (fun z => h (List.mem_cons_of_mem _ z)), upd_ne (fun z => h (by rw [z]; exact List.mem_cons_self))]
theorem putPz_at : ∀ (as : List Addr) (kvs : List (V × V)) (H : Hp), as.length = kvs.length → as.Nodup → ∀ (j : Nat) (a : Addr), as[j]? = some a → ∃ p, kvs[j]? = some p ∧ putPz H as kvs a = some (.tup [p.1, p.2])
  | [], [], _, _, _ => fun j a h => by simp at h
  | [], _ :: _, _, h, _ => by cases h
  | _ :: _, [], _, h, _ => by cases h
  | a :: as, p :: kvs, H, h, hn => by
    have hn' := List.nodup_cons.mp hn
    have ih := putPz_at as kvs (upd H a (.tup [p.1, p.2])) (Nat.succ.inj h) hn'.2
    intro j b hj
    cases j with
    | zero =>
      have e : a = b := by simpa using hj
      subst e
      exact ⟨p, rfl, by show putPz (upd H a (.tup [p.1, p.2])) as kvs a = _; rw [putPz_off as kvs _ hn'.1, upd_same]⟩
    | succ j => exact ih j b (by simpa using hj)
section
variable {X : Cx} {e e2 : Expr} {ta : TA} {p p2 pos cpos : Pos}
theorem laid {pins : List (Addr × Obj)} {σ : L2.St} {H : Hp} {s : Shared} {h' : Heap} {tk : Nat} {L : Addr} {qs : List (V × V)} {ps : List (Value × Value)} {acc : Array Value} {c : Nat} {as : List Addr} (I : Inv X pins σ H s) (hz : qs.length ≤ sizeLine) (hlen : ps.length = qs.length)
    (hrel : ∀ (j : Nat) (p : Value × Value), ps[j]? = some p → ∃ q, qs[j]? = some q ∧ RelV q.1 p.1 ∧ RelV q.2 p.2)
    (hL : s.heap.objs.size ≤ L) (hk : ∀ b o, s.heap.get? b = some o → h'.get? b = some o) (hS : h'.get? L = some { cls := .type "list", dict := none, data := .seq acc c, slots := #[] }) (hl : as.length = ps.length) (hG : Lz.Told ps L h' as) (hacc : acc.toList = as.map Value.ref) :
    as.Nodup ∧ (∀ t ∈ as, H t = none) ∧ H L = none ∧ L ∉ as ∧ Inv X pins σ (putPz (upd H L (.lst (as.map V.ref))) as qs) { s with heap := h', toks := tk } := by
  have hSn : L ∉ as := fun z => Nat.lt_irrefl _ (hG.above _ z)
  have nd : as.Nodup := List.Pairwise.imp (fun {a b} (h : a < b) => Nat.ne_of_lt h) hG.rise
  have new : ∀ t ∈ as, H t = none := fun t ht => I.hok.fresh (Nat.le_trans hL (Nat.le_of_lt (hG.above t ht)))
  have newS : H L = none := I.hok.fresh hL
  have atP := putPz_at as qs (upd H L (.lst (as.map V.ref))) (by omega) nd
  have off : ∀ b, b ∉ as → b ≠ L → putPz (upd H L (.lst (as.map V.ref))) as qs b = H b := fun b h1 h2 => by rw [putPz_off as qs _ h1, upd_ne h2]
  have low : ∀ b o, s.heap.get? b = some o → b ∉ as ∧ b ≠ L := fun b o e => ⟨fun z => absurd (Heap.lt_size e) (Nat.not_lt.mpr (Nat.le_trans hL (Nat.le_of_lt (hG.above b z)))), Nat.ne_of_lt (Nat.lt_of_lt_of_le (Heap.lt_size e) hL)⟩
  have kp : ∀ b u, H b = some u → (putPz (upd H L (.lst (as.map V.ref))) as qs) b = some u := fun b u e => by
    rw [off b (fun z => by rw [new b z] at e; cases e) (fun z => by rw [z, newS] at e; cases e)]
    exact e
  have eS : putPz (upd H L (.lst (as.map V.ref))) as qs L = some (.lst (as.map V.ref)) := by rw [putPz_off as qs _ hSn, upd_same]
  refine ⟨nd, new, newS, hSn, ?_⟩
  refine I.call' (ch := []) rfl ⟨fun b o q _ _ _ => hk b o q, fun b o q _ _ _ => ⟨o.slots, hk b o q⟩, fun b o q n _ => ?_, fun b o q _ => ⟨o, hk b o q⟩, fun b xs q => kp b _ q, fun b o u q => kp b _ q, fun b ps q => ⟨#[], by rw [kp b _ q]; simp⟩⟩ (fun b u q => ?_) I.bare fun b z => by simp at z
  · obtain ⟨z1, z2⟩ := low b o q
    rw [off b z1 z2]
    exact n
  · by_cases hb : b ∈ as
    · obtain ⟨j, e1⟩ := List.mem_iff_getElem?.mp hb
      obtain ⟨pk, e2, e3⟩ := atP j b e1
      rw [e3] at q
      cases q
      obtain ⟨pv, f1, f3⟩ := hG.pairs j b e1
      obtain ⟨qv, g1, g2, g3⟩ := hrel j pv f1
      rw [g1] at e2
      cases e2
      exact ⟨by show 2 ≤ sizeLine; decide, [pv.1, pv.2], .cons g2 (.cons g3 .nil), ⟨_, f3, rfl, _, rfl⟩⟩
    · by_cases hb2 : b = L
      · rw [hb2] at q ⊢
        rw [eS] at q
        cases q
        refine ⟨by rw [List.length_map]; omega, acc.toList, c, by rw [hacc]; exact LiI.vals_refs as, ?_⟩
        rw [Array.toArray_toList]
        exact hS
      · rw [off b hb hb2] at q
        exact (I.hok b u q).stay (fun d v _ y => hk d v y) (fun d y => kp d _ y) fun d xs y => kp d _ y
end
end MR
/-! MR: max of a list of ints, default= -/
namespace MR
open PySem L2 PL PySem.Spec PyProof.Rows PySem PySem.W
end MR
/-! MR: repr of an empty dict too -/
namespace MR
open PySem L2 PL PySem.Spec PyProof.Rows
def noD : D := .dict []
variable [kf : KF]
def rReprE (K : PySem.W.Frag) : List V → Hp → VK → Prop := fun xs H Q => rReprV K xs H Q ∨ ∃ a : Addr, xs = [.ref a] ∧ H a = some (.dT []) ∧ Q (.str noD.shown) H
theorem cr_reprE {X : Cx} (hg : X.A.guards = some []) (hu : X.A.units + 64 < cLine) : CallR X (.builtin "repr") (rReprE X.K) := by
  intro pins s σ H xs us Q I r h
  rcases h with h | ⟨a, rfl, ha, q⟩
  · exact cr_repr hg hu pins s σ H xs us Q I r h
  · rw [Vals.ref1 r]
    obtain ⟨z, hs, xs', pr, o, es, ep, ho, hx, hdt, he, _⟩ := I.hok a _ ha
    have hx0 : xs' = [] := by
      have := Paired.length pr
      cases xs' with
      | nil => rfl
      | cons x xs' => simp at this
    subst hx0
    have he0 : es = #[] := by
      have := size_of_entries he
      exact Array.eq_empty_of_size_eq_zero (by simpa using this)
    subst he0
    have rd : Reads s.heap (.ref a) noD (a :: [] ++ []) := Reads.dict ho hx.1 hdt .nil .nil
    refine PySem.repr_of_reads' rd (by simp [noD, PyData.showable, PyData.showableKv]) (fun _ m => ?_) hg (by simp [noD, PyData.depth, PyData.depthKv]; omega) (fun _ _ e => e) (fun h' u tk k => ⟨.str noD.shown, H, I.kept k, ⟨u, rfl⟩, q⟩) (by decide)
    have : sysModules = a := by simpa using m
    rw [← this] at hs
    simp at hs
variable [wx : WXI]
end MR
/-! MR: a flat item of an own list, whatever its index does -/
namespace MR
open PySem L2 PL PySem.Spec PyProof.Rows
end MR
namespace MR
open PySem L2 PL PySem.Spec PyProof.Rows
end MR
namespace SA
open PySem L2 PL MR SH SQ
/-- _law_web: 0 _law_cell 1 _law_salt 2 _law_most 3 _law_more 4 _law_many 5 _law_sizes 6 _law_k 7 _law_digits 8 _law_names 9 _law_order 10 _law_pairs_here 11 _law_digit 12 _law_ties 13 _law_one 14 _law_other -/
noncomputable def B__law_web : Sm :=
 (sSeq (sAsg 4 (yR (rOp gAdd (rC (.int 1)) (rOp gIxL (rCall SQ.m__law_numbers 3 (qCons (rVar 0) (qCons (rVar 1) (qCons (rLst (qCons (rVar 2) qNil)) qNil)))) (rC (.int 0))))))
 (sSeq (sAsg 5 (yOp GCat (dY (yOp GCat (dY (yLst (oCons (yVar 2) (oCons (yR (rOp gAdd (rVar 3) (rC (.int 1)))) oNil)))) (dY (yLc [6] (iR1 (lCons (dR (rOp gSub (rVar 4) (rC (.int 1)))) lNil)) (gmName 6) (fun ρ => some (true, ρ)) (yR (rOp gAdd (rVar 6) (rC (.int 1)))))))) (dY (yLc [6] (iR1 (lCons (dY (yVar 4)) lNil)) (gmName 6) (fun ρ => some (true, ρ)) (yR (rOp gSub (rVar 4) (rVar 6)))))))
 (sSeq (sAsg 7 (yCall SQ.m__law_numbers 3 (lCons (dY (yVar 0)) (lCons (dY (yVar 1)) (lCons (dY (yOp GCat (dY (yVar 5)) (dY (yRep (yLst (oCons (yR (rOp gMul (rVar 4) (rVar 4))) oNil)) (rVar 3))))) lNil)))))
 (sSeq (sAsg 8 (yRng1 (dY (yVar 4))))
 (sSeq (sAsg 9 (yLst oNil))
 (sSeq (sFor (iR1 (lCons (dY (yVar 4)) lNil)) (gmName 6)
 (sApp 9 (yPop 8 (dY (yAuto (rOp gIxL (rVar 7) (rOp gAdd (rOp gAdd (rVar 4) (rC (.int 1))) (rVar 6))) (yD (dOpR gIxL (dY (yVar 7)) (rOp gAdd (rOp gAdd (rVar 4) (rC (.int 1))) (rVar 6)))))))))
 (sSeq (sAsg 10 (yLc [6] (iR1 (lCons (dR (rOp gSub (rVar 4) (rC (.int 1)))) lNil)) (gmName 6) (fun ρ => some (true, ρ)) (yTup (oCons (yR (rOp gAdd (rVar 6) (rC (.int 1)))) (oCons (yAuto (rOp gIxL (rVar 7) (rOp gAdd (rC (.int 2)) (rVar 6))) (yD (dOpR gIxL (dY (yVar 7)) (rOp gAdd (rC (.int 2)) (rVar 6))))) oNil)))))
 (sSeq (sFor (iL (dY (ySlA (rVar 7) (dY (yVar 7)) (cSome (rOp gAdd (rOp gMul (rC (.int 2)) (rVar 4)) (rC (.int 1)))) (cSome (rOp gAdd (rOp gAdd (rOp gMul (rC (.int 2)) (rVar 4)) (rC (.int 1))) (rOp gIxL (rVar 7) (rC (.int 1)))))))) (gmName 11)
 (sApp 10 (yTup (oCons (yR (rOp gDiv (rVar 11) (rVar 4))) (oCons (yR (rOp gMod (rVar 11) (rVar 4))) oNil)))))
 (sSeq (sAsg 12 yDNew)
 (sSeq (sFor (iL (dY (yVar 10))) (gmTup (gsCons (gmName 13) (gsCons (gmName 14) gsNil)))
 (sIf (tR (bR (rOp gNeI (rVar 13) (rVar 14))))
 (sDPutM 12 (rTup (qCons (rCb gMin2 (qCons (rOp gIxL (rVar 9) (rVar 13)) (qCons (rOp gIxL (rVar 9) (rVar 14)) qNil))) (qCons (rCb gMax2 (qCons (rOp gIxL (rVar 9) (rVar 13)) (qCons (rOp gIxL (rVar 9) (rVar 14)) qNil))) qNil))) (rC (.bool true)))
 sNext))
 (sRet (yTup (oCons (yMov 4) (oCons (ySortD 12) oNil))))))))))))))
noncomputable def m__law_web : List D → Option OT := fun ds => fin (B__law_web (ini ds 11))
end SA
/-! MR: an exception that is caught and kept -/
namespace MR
open PySem L2 PL PySem.Spec PySem.HandSPX
section
variable {X : Cx} {σ : L2.St} {H : Hp}
  {s : Shared} {pins : List (Addr × Obj)}
theorem exHO_ok {P : Program} {w : World} {H : Hp} {h : Heap} {a C : Addr} {d : Option Addr} {o : Obj} {vs : Array Value} (e : h.get? a = some o) (c : o.cls = .ref C) (hd : o.dict = d) (hv : o.data = .fields vs) : ObjOk P w H h a (exHO a C d) :=
  ⟨⟨o, vs, e, c, hd, hv⟩, ⟨o, e⟩, fun h1 h2 z k => by
    obtain ⟨o, vs, q1, q2⟩ := z
    exact ⟨o, vs, k _ q1, q2⟩⟩
theorem exHO_at {P : Program} {w : World} {H : Hp} {h : Heap} {a C : Addr} {d : Option Addr} (hok : HOk P w H h) (e : H a = some (exHO a C d)) : ∃ o vs, h.get? a = some o ∧ o.cls = .ref C ∧ o.dict = d ∧ o.data = .fields vs := by
  have x : ObjOk P w H h a (.ext fun h => ∃ o vs, h.get? a = some o ∧ o.cls = .ref C ∧ o.dict = d ∧ o.data = .fields vs) := hok a _ e
  exact x.1
theorem HOk.more {P : Program} {w : World} {H : Hp} {h : Heap} {a : Addr} {o : HO} (x : HOk P w H h) (hn : H a = none) (new : ObjOk P w (upd H a o) h a o) : HOk P w (upd H a o) h := fun b u e => by
  by_cases hb : b = a
  · subst hb
    rw [upd_same] at e
    cases e
    exact new
  · rw [upd_ne hb] at e
    exact (x b u e).stay (fun c v _ q => q) (fun c q => by rw [upd_ne (ne_of_none q hn)]; exact q) fun c xs q => by rw [upd_ne (ne_of_none q hn)]; exact q
/-- what is there, and new since the beginning, is told of -/
theorem Inv.tell {a : Addr} {o : HO} (I : Inv X pins σ H s) (hn : H a = none) (h0 : X.s_0.heap.get? a = none) (hL : a ≠ X.env.locals) (hc : ∀ x c, X.env.cells.lookup x = some c → c ≠ a) (hp : ∀ p ∈ X.pn ++ pins, p.1 ≠ a) (new : ObjOk X.prog X.w (upd H a o) s.heap a o) : Inv X pins σ (upd H a o) s :=
  ⟨I.ok, I.os, I.bare, ⟨I.base.keep, I.base.slot, fun b u e n hx => by
      rw [upd_ne (fun z => by rw [z, h0] at e; cases e)]; exact I.base.free b u e n hx, I.base.there, fun b xs e => by rw [upd_ne (ne_of_none (I.base.tups b xs e) hn)]; exact I.base.tups b xs e, fun b u w e => by
      rw [upd_ne (ne_of_none (I.base.frzs b u w e) hn)]; exact I.base.frzs b u w e, fun b ps e => by
      obtain ⟨m, z⟩ := I.base.tbls b ps e
      exact ⟨m, by rw [upd_ne (ne_of_none z hn)]; exact z⟩⟩, I.loc, I.cell, by rw [upd_ne hL.symm]; exact I.free, fun x c e => by rw [upd_ne (hc x c e)]; exact I.freeC x c e, fun p hq => by
      obtain ⟨h1, h2, h3⟩ := I.pin p hq
      exact ⟨h1, by rw [upd_ne (hp p hq)]; exact h2, h3⟩, HOk.more I.hok hn new, I.len⟩
end
/-- what the clause 'except c as n: y = n' wishes of all that the body raises; i is n's slot, j is y's -/
def wKeep (K : PySem.W.Frag) (c : Value) (i j : Nat) (D : Ends) : WX := fun cls d σ H => PySem.W.exmOne K cls c = some true ∧
  ∃ C, cls = .ref C ∧ ∀ a, H a = none → D.nx (((σ.set i (some (.ref a))).set j (some (.ref a))).set i none) (upd H a (exHO a C d))
section
variable {X : Cx} {x n : Str} {c : Value} {i j : Nat} {body suite : List Stmt} {b₀ : Stmt} {np pos pos' : Pos} {tb : WX → TS}
/-- an exception's record is no frame's -/
theorem not_frame {B g : Heap} {es : List PySem.Env} {a : Addr} {u : Obj} {us : Array Value} (ff : g.FunFrames B es) (e : g.get? a = some u) (hu : u.data = .fields us) : a ∉ frs es := by
  intro mem
  obtain ⟨-, u', e2, no⟩ := ff.mem mem
  rw [e] at e2
  exact no _ ((Option.some.inj e2) ▸ hu)
/-- where an exception a stands that this frame has caught: the slots and the tracked heap are as told, its object is u -/
structure Fallen (X : Cx) (pn : List (Addr × Obj)) (σ : L2.St) (G : Hp) (a C : Addr) (d : Option Addr) (u : Obj) (t : Shared) : Prop where
  inv : Inv X pn σ G t
  obj : t.heap.get? a = some u
  cls : u.cls = .ref C
  dict : u.dict = d
  made : ∃ us, u.data = .fields us
  free : G a = none
  own : a ≠ X.env.locals ∧ a ∉ X.fs
  /-- it was not there at the beginning -/
  young : X.s_0.heap.get? a = none
  cells : ∀ y b, X.env.cells.lookup y = some b → b ≠ a
  pins : ∀ p ∈ X.pn ++ pn, p.1 ≠ a
theorem Fallen.within {pn : List (Addr × Obj)} {σ : L2.St} {G : Hp} {a C : Addr} {d : Option Addr} {u : Obj} {t : Shared} (f : Fallen X pn σ G a C d u t) : Inv (X.suite a ((a, u) :: (X.pn ++ pn))) [] σ G t :=
  let ⟨_, hu⟩ := f.made
  f.inv.suite f.obj hu f.free f.own.1 f.own.2
/-- behind the suite it is told of -/
theorem Fallen.told {pn : List (Addr × Obj)} {σ σ' : L2.St} {G : Hp} {a C : Addr} {d : Option Addr} {u : Obj} {t t' : Shared} (f : Fallen X pn σ G a C d u t) (I : Inv (X.suite a ((a, u) :: (X.pn ++ pn))) [] σ' G t') : Inv X pn σ' (upd G a (exHO a C d)) t' :=
  let ⟨_, hu⟩ := f.made
  Inv.tell (I.unsuite f.inv.ok) f.free f.young f.own.1 f.cells f.pins (exHO_ok (I.pin (a, u) (List.mem_append_left _ List.mem_cons_self)).1 f.cls f.dict hu)
theorem ps_try_keep (hs : X.stack = X.env :: X.outer) (hf : X.env.frame = some X.env.locals) (hex : X.ex = []) (hN : X.N.Nodup) (hi : X.N[i]? = some n) (hln : X.env.kindOf n = some .local) (hc : Names X x c)
    (hb : ∀ (W : WX) (pn : List (Addr × Obj)) (xe : Value → Shared → Prop), Takes (X.tr pn xe) W → PSs (X.tr pn xe) body (tb W))
    (hsu : ∀ (a : Addr) (oe : Obj) (pn : List (Addr × Obj)), PSs (X.suite a ((a, oe) :: pn)) (b₀ :: suite) (tAsg (tVar i) (gName j))) :
    PS X (.Try body [.ExceptHandler (some (.Name x np)) (some n) (b₀ :: suite) pos'] [] [] pos) (fun D σ H => tb (wKeep X.K c i j D) D σ H) := by
  constructor
  intro pn s0 σ0 G0 D I0 wish
  refine wpAny_Try_except (wpAny_mono ((hb (wKeep X.K c i j D) (X.pn ++ pn) _ fun u s1 air => ?_).run [] s0 σ0 G0 D (I0.toTry _) wish) (fun out s1 h => ?_) fun _ _ z => z)
  · obtain ⟨a, B, sI, pn1, σ, G, cls, d, eu, I1, nb, up, sky, na, os, ag, caught, C, ec, go⟩ := air
    subst eu ec
    have I : Inv X pn σ G sI := I1.ofTry I0.ok
    rw [show (X.tr (X.pn ++ pn) _).stack = X.env :: X.outer from hs] at sky
    have fr : X.A.frames = some (X.env :: X.outer) := I0.ok.frames.trans (congrArg some hs)
    refine Sky.land (env := X.env) (outer := X.outer) Zc.steady fr hf sky fun g fg ug => ?_
    -- it is no frame's, and new
    have apart : a ∉ frs (X.env :: X.outer) := let ⟨_, _, e, _, r⟩ := fg.there; not_frame fg.2.2.1 e r
    have new : sI.heap.get? a = none := by
      refine Classical.byContradiction fun z => ?_
      obtain ⟨w, e⟩ := Option.ne_none_iff_exists'.mp z
      have := nb a w e (by rw [show (X.tr (X.pn ++ pn) _).stack = X.env :: X.outer from hs]; exact apart)
      rw [fg.2.1] at this
      cases this
    have there : ∀ {g : Heap}, FlyingZ B (X.env :: X.outer) a (Zc (.ref C) d) g → s1.heap.UpToSlots g → ∃ w, Fallen X pn σ G a C d w { s1 with heap := g } := fun {g} f u => by
      obtain ⟨w, us, e, z, r⟩ := f.there
      refine ⟨w, I.landed nb f.1 (up.trans u) os ag, e, z.1, z.2, ⟨us, r⟩, na, ⟨fun q => apart (List.mem_filterMap.mpr ⟨_, List.mem_cons_self, hf.trans (congrArg some q.symm)⟩), fun q => ?_⟩, ?_, fun y b l q => ?_, fun p hp q => ?_⟩
      · obtain ⟨v, m, k⟩ := List.mem_filterMap.mp q
        exact apart (List.mem_filterMap.mpr ⟨v, .tail _ m, k⟩)
      · refine Classical.byContradiction fun q => ?_
        obtain ⟨v, l⟩ := Option.ne_none_iff_exists'.mp q
        obtain ⟨v2, l2⟩ := I.base.there a v l (hex ▸ List.not_mem_nil)
        exact Option.some_ne_none _ (l2.symm.trans new)
      · obtain ⟨_, v, l2, _⟩ := I.cell y b l
        rw [q, new] at l2
        cases l2
      · have l := (I.pin p hp).1
        rw [q, new] at l
        cases l
    obtain ⟨w, F⟩ := there fg ug
    refine wpAny_handleBy_cons (codeAny_handlers_test ?_) (fun z => nomatch z)
    have isCls : PySem.W.Looks (model X.prog X.w) g (typeOf (.ref a)) (.ref C) := fun _ _ _ _ k q => wpAny_typeOf_ref (k _ _ F.obj) (F.cls ▸ q)
    have yes := PySem.W.exm_one (M := model X.prog X.w) F.inv.kIn isCls caught
    obtain ⟨glob, nd, way⟩ := hc
    have read : ∀ {P : Value → Shared → Prop} {E : Value → Shared → Prop}, P c { s1 with heap := g } →
        wpAny (model X.prog X.w) (X.suite a ((a, w) :: (X.pn ++ pn))).A (eval (.Name x np) X.env) P E { s1 with heap := g } := fun p =>
      way.elim (fun m => ld_glob F.within glob m p nd) fun ⟨m, v, nn⟩ => ld_blt F.within glob m v p nn nd
    refine read (yes.here (codeAny_handlers_suite_as (HandSPX.lands_againZ fg fun g2 fg2 ug2 => ?_)))
    obtain ⟨w2, F2⟩ := there fg2 (ug.trans ug2)
    refine store_ok (X := X.suite a _) (v := .ref a) F2.within hN hi (.inl hln) rfl (fun s2 I2 => ?_) (.inr hln)
    refine wpAny_mono ((hsu a w2 (X.pn ++ pn)).run [] s2 _ G ⟨fun σ' G' => σ' = (σ.set i (some (.ref a))).set j (some (.ref a)) ∧ G' = G, fun _ _ => False, fun _ _ => False, fun _ _ => False⟩ I2
      ⟨.ref a, List.getElem?_set_self (by rw [I.len]; exact (List.getElem?_eq_some_iff.mp hi).1), rfl, rfl⟩) (fun out s3 h => ?_) fun _ _ z => nomatch z
    cases out with
    | next =>
      obtain ⟨σ3, G3, I3, rfl, rfl⟩ := h
      exact gone_ok (F2.told I3) hN hi hln fun s4 I4 => ⟨_, _, I4, go a na⟩
    | brk => obtain ⟨_, _, _, z⟩ := h; exact z.elim
    | cont => obtain ⟨_, _, _, z⟩ := h; exact z.elim
    | ret _ => obtain ⟨_, _, _, _, _, z⟩ := h; exact z.elim
  · cases out with
    | next =>
      obtain ⟨σ1, G1, I1, z⟩ := h
      exact wpAny_execs_nil ⟨σ1, G1, I1.ofTry I0.ok, z⟩
    | ret _ => obtain ⟨v1, σ1, G1, I1, z⟩ := h; exact ⟨v1, σ1, G1, I1.ofTry I0.ok, z⟩
    | brk => obtain ⟨σ1, G1, I1, z⟩ := h; exact ⟨σ1, G1, I1.ofTry I0.ok, z⟩
    | cont => obtain ⟨σ1, G1, I1, z⟩ := h; exact ⟨σ1, G1, I1.ofTry I0.ok, z⟩
end
end MR
/-! MR: raising, calls that may raise, try .. except C as e: y = e; isinstance of what is kept -/
namespace MR
open PySem L2 PL
/-! ### pure -/
/-- an expression that may raise -/
abbrev Xm := Env → Option (Except Xc OT × Env)
def flX : Except Xc OT → Env → (OT → Env → Fl × Env) → Fl × Env
  | .ok r, ρ, g => g r ρ
  | .error x, ρ, _ => (.xc x, ρ)
def sAsgX (i : Nat) (m : Xm) : Sm := fun ρ => (m ρ).map fun p => flX p.1 p.2 fun r ρ' => (.nx, ρ'.set i r)
def lfE : Option (Except Xc OT) → Option (Except Xc OT)
  | some (.ok r) => if r.lf then some (.ok r) else Option.none
  | o => o
def xCall (f : List D → Option (Except Xc OT)) (n : Nat) (a : Lm) : Xm := fun ρ => (a ρ).bind fun p => if p.1.length = n then (f p.1).map fun r => (r, p.2) else Option.none
def xCallA (f : List D → Option (Except Xc OT)) (n : Nat) (q : Qm) (a : Lm) : Xm := fun ρ => match (q ρ).bind fun ds => if ds.length = n then lfE (f ds) else Option.none with
  | some r => some (r, ρ)
  | Option.none => xCall f n a ρ
/-- try: b except ..: y = e; cat: the classes that are raised and caught -/
def sTryK (b : Sm) (cat : List Str) (i j : Nat) : Sm := fun ρ => match b ρ with
  | some (.xc x, ρ1) => if x.cls ∈ cat then some (.nx, ((ρ1.set i .no).set j (.ex x)).set i .no) else Option.none
  | o => o
def finX : Option (Fl × Env) → Option (Except Xc OT)
  | some (.rt .no, _) => Option.none
  | some (.rt r, _) => some (.ok r)
  | some (.nx, _) => some (.ok (.d .none))
  | some (.xc x, _) => some (.error x)
  | _ => Option.none
/-- isinstance(slot i, ..); of None too where z says so -/
def rIsX (i : Nat) (tbl : List (Str × Bool)) (z : Bool) : Rm := fun ρ => match ρ[i]? with
  | some (.ex x) => (tbl.lookup x.cls).map .bool
  | some (.d .none) => if z then some (.bool false) else Option.none
  | _ => Option.none
/-- slot i is None; neg: is not -/
def rNX (neg : Bool) (i : Nat) : Rm := fun ρ => match ρ[i]? with
  | some (.ex _) => some (.bool neg)
  | some (.d x) => some (.bool (isN x != neg))
  | some t => (OT.toD t).map fun x => .bool (isN x != neg)
  | Option.none => Option.none
variable [kf : KF]
/-- a def that may raise -/
def spX (n : Nat) (f : List D → Option (Except Xc OT)) : Sp := fun vs H Q E => ∃ S ds r, ds.length = n ∧ Same S H ∧ RpAll S vs ds ∧ f ds = some r ∧
  match r with
  | .ok r => ∀ v S' H' B, Xt S H S' H' → OOk S' H' v r B → B.Nodup → (∀ a ∈ B, H a = none) → Q v H'
  | .error x => ∀ cls d S' H', Xt S H S' H' → XcAt H H' cls d x → E cls d H'
theorem spX_len {n : Nat} {f : List D → Option (Except Xc OT)} {ps : List Str} (e : ps.length = n) : ∀ vs H Q E, spX n f vs H Q E → vs.length = ps.length := fun vs H Q E h => by
  obtain ⟨S, ds, r, h1, _, h2, _⟩ := h
  rw [e, ← h1]; exact dpa_length h2
section
variable [wx : WXI]
def EvX (te : TE) (ρ : Env) (e : Except Xc OT) (ρ' : Env) : Prop := ∀ (S0 H0 : Hp) (A0 : List Addr) (S H : Hp) (σ : St) (Q : VK), Ok S0 H0 A0 S H σ ρ →
  (match e with
    | .ok r => ∀ v S' H', Same S S' → Ok S0 H0 A0 S' H' (some v :: σ) (r :: ρ') → Q v H'
    | .error x => ∀ cls d S' H', Same S S' → Ok S0 H0 A0 S' H' σ ρ' → XcAt H0 H' cls d x → wx.W cls d σ H') → te σ H Q
def CXY (te : TE) (m : Xm) : Prop := ∀ ρ e ρ', m ρ = some (e, ρ') → EvX te ρ e ρ'
variable {ρ ρ1 ρ' : Env} {ta tb te : TE} {tl tk : TA} {t : TT} {tm : Tm} {y : Ym} {xa xb m : Xm} {q p : Qm} {lm ln : Lm} {js : List Nat} {i j : Nat} {n k l : Nat} {f : List D → Option (Except Xc OT)}
theorem XcAt.up {A0 : List Addr} {S0 H0 S H H' : Hp} {cls : Value} {d : Option Addr} {x : Xc} (h : XcAt H H' cls d x) (o : Xa A0 S0 H0 S H) : XcAt H0 H' cls d x := by
  obtain ⟨C, h1, h2, h3, h4⟩ := h
  exact ⟨C, h1, h2, h3, fun dd e => o.dm dd (h4 dd e)⟩
/-- the call's own reading: what is raised is wished for at the slots -/
theorem c_xcall (ha : CL tl lm) : CXY (tCallS (spX n f) (WE wx.W) tl) (xCall f n lm) := fun ρ e ρ' hh => by
  simp only [xCall, Option.bind_eq_some_iff] at hh
  obtain ⟨⟨ds, ρ1⟩, h1, h2⟩ := hh
  split at h2
  · rename_i hn
    simp only [Option.map_eq_some_iff] at h2
    obtain ⟨r, h3, h4⟩ := h2
    cases h4
    intro S0 H0 A0 S H σ Q o k
    refine ha _ _ _ h1 S0 H0 A0 S H [] [] σ _ rfl o fun vs S1 H1 s1 o1 g => ?_
    refine ⟨S1, ds, e, hn, o1.sh, g, h3, ?_⟩
    cases e with
    | ok r => exact fun v S' H' B xt hr nd fr => k v S' H' (s1.trans xt.ss) (o1.push xt hr nd fr)
    | error x => exact fun cls d S' H' xt xc => k cls d S' H' (s1.trans xt.ss) (o1.ext xt) (xc.up o1.xt)
  · cases h2
theorem c_xcallA (hq : CQ tl q) (ha : CL tl lm) : CXY (tCallS (spX n f) (WE wx.W) tl) (xCallA f n q lm) := fun ρ e ρ' hh => by
  unfold xCallA at hh
  split at hh
  · rename_i r' hr
    cases hh
    simp only [Option.bind_eq_some_iff] at hr
    obtain ⟨ds, h1, h2⟩ := hr
    split at h2
    · rename_i hn
      intro S0 H0 A0 S H σ Q o k
      refine hq _ _ h1 S0 H0 A0 S H [] [] σ _ rfl o fun vs S1 H1 x1 g => ?_
      cases hf : f ds with
      | none => rw [hf] at h2; cases h2
      | some r0 =>
        rw [hf] at h2
        cases r0 with
        | ok r =>
          simp only [lfE] at h2
          split at h2
          · rename_i hlf
            cases h2
            refine ⟨H1, ds, .ok r, hn, Same.refl H1, g, hf, fun v S' H' B xt hr nd fr => ?_⟩
            have x2 := xt_low x1.sh xt
            exact k v _ H' (x1.ss.trans x2.ss) ((o.ext x1).push x2 (ook_lf xt.sh _ _ _ hr hlf fun a ha => x1.sh.free (fr a ha)) nd fr)
          · cases h2
        | error x =>
          cases h2
          refine ⟨H1, ds, .error x, hn, Same.refl H1, g, hf, fun cls d S' H' xt xc => ?_⟩
          have x2 := xt_low x1.sh xt
          exact k cls d _ H' (x1.ss.trans x2.ss) ((o.ext x1).ext x2) (xc.up (o.ext x1).xt)
    · cases h2
  · exact c_xcall ha _ _ _ hh
/-! ### statements -/
theorem c_asgX (h : CXY te m) (hi : i ∉ js := by decide) : CS js (tAsg te (gName i)) (sAsgX i m) := fun ρ fl ρ' hh => by
  simp only [sAsgX, Option.map_eq_some_iff] at hh
  obtain ⟨⟨e, ρ1⟩, h1, h2⟩ := hh
  intro S0 H0 A0 S H σ F E hF hx o k
  refine h _ _ _ h1 S0 H0 A0 S H σ _ o ?_
  cases e with
  | ok r => cases h2; exact fun v S' H' ss o' => k S' H' _ ss (hx.set (by rw [hF]; exact hi)) (o'.store i)
  | error x => cases h2; exact fun cls d S' H' ss o' xc => k cls d S' H' σ ss hx o' xc
end
/-! ### what is kept -/
section
variable {S H S0 H0 : Hp} {A0 : List Addr} {σ : St} {ρ : Env}
theorem Ok.setNo (o : Ok S0 H0 A0 S H σ ρ) (i : Nat) (v : Option V) : Ok S0 H0 A0 S H (σ.set i v) (ρ.set i .no) := by
  obtain ⟨A, h1, h2, h3⟩ := o.env
  have : Ok S0 H0 A0 S H (v :: σ) (.no :: ρ) := ⟨o.xt, [] ++ A, .cons .no h1, h2, h3⟩
  exact this.store i
open Classical in
/-- a caught exception is stable from now on -/
theorem Ok.keepX (o : Ok S0 H0 A0 S H σ ρ) {a C : Addr} {d : Option Addr} {x : Xc} (na : H a = none) (hc : clsOf kf.K x.cls = some C) (hf : FsOk H d x.fs) (hd0 : ∀ dd, d = some dd → H0 dd = none) (i : Nat) :
    ∃ S', Same S S' ∧ Ok S0 H0 A0 S' (upd H a (exHO a C d)) (σ.set i (some (.ref a))) (ρ.set i (.ex x)) := by
  let H' := upd H a (exHO a C d)
  let S' : Hp := fun b => if b = a ∨ d = some b then H' b else S b
  have nS : S a = none := o.sh.free na
  have ha : H' a = some (exHO a C d) := upd_same
  have hb : ∀ b, b ≠ a → H' b = H b := fun b hb => upd_ne hb
  have keep : ∀ b u, H b = some u → H' b = some u := fun b u e => by rw [hb b (fun z => by rw [z, na] at e; cases e)]; exact e
  have ss : Same S S' := fun b u e => by
    show (if b = a ∨ d = some b then H' b else S b) = some u
    by_cases hd : b = a ∨ d = some b
    · rw [if_pos hd]; exact keep b u (o.sh b u e)
    · rw [if_neg hd]; exact e
  have sh : Same S' H' := fun b u e => by
    have e : (if b = a ∨ d = some b then H' b else S b) = some u := e
    by_cases hd : b = a ∨ d = some b
    · rw [if_pos hd] at e; exact e
    · rw [if_neg hd] at e; exact keep b u (o.sh b u e)
  -- the dict's address is no one's own
  have hdS : ∀ b, d = some b → H' b = H b ∧ ∀ u, H b = some u → ∃ fs, u = .xd fs := fun b e => by
    rcases hf with ⟨_, z⟩ | ⟨_, dd, vfs, z1, z2, _⟩
    · rw [z] at e; cases e
    · rw [z1] at e; cases e
      exact ⟨hb b (fun z => by rw [z, na] at z2; cases z2), fun u hu => by rw [z2] at hu; exact ⟨_, (Option.some.inj hu).symm⟩⟩
  have hS : ∀ b, b = a ∨ d = some b → S' b = H' b := fun b h => if_pos h
  have xa : Xa A0 S0 H0 S' H' := ⟨fun b u n e => keep b u (o.xt.hh b u n e), fun b e => by
      by_cases z : b = a
      · rw [z, ha] at e; cases e
      · rw [hb b z] at e; exact o.xt.dm b e, fun b xs e => keep b _ (o.xt.tp b xs e), o.xt.ss.trans ss, sh, fun b u e => by
      by_cases hd : b = a ∨ d = some b
      · refine .inr (.inr fun w hw => ?_)
        rcases hd with z | z
        · rw [z, o.xt.dm a na] at hw; cases hw
        · rw [hd0 b z] at hw; cases hw
      · have e : (if b = a ∨ d = some b then H' b else S b) = some u := e
        rw [if_neg hd] at e
        exact o.xt.nw b u e⟩
  obtain ⟨A, h1, h2, h3⟩ := o.env
  have env' : EOk S' H' σ ρ A := h1.keep ss (fun b xs e => keep b _ e) fun b hb' => by
    obtain ⟨n0, u, n1, n2⟩ := h1.at b hb'
    have n3 := eok_kind h1 b hb'
    have ne : b ≠ a := fun z => by rw [z, na] at n1; cases n1
    have nd : ¬ (b = a ∨ d = some b) := fun z => by
      rcases z with z | z
      · exact ne z
      · rcases n3 with ⟨k, vs, n3⟩ | ⟨T, n, n3⟩
        · obtain ⟨fs, e⟩ := (hdS b z).2 _ n3
          cases k <;> cases e
        · obtain ⟨fs, e⟩ := (hdS b z).2 _ n3
          cases e
    exact ⟨(if_neg nd).trans n0, hb b ne⟩
  have fs' : FsOk S' d x.fs := by
    rcases hf with z | ⟨z0, dd, vfs, z1, z2, z3⟩
    · exact .inl z
    · exact .inr ⟨z0, dd, vfs, z1, by rw [hS dd (.inr z1)]; exact keep _ _ z2, z3⟩
  have top : Ok S0 H0 A0 S' H' (some (.ref a) :: σ) (.ex x :: ρ) := ⟨xa, [] ++ A, .cons (.is (.ex hc ((hS a (.inl rfl)).trans ha) fs')) env', h2, h3⟩
  exact ⟨S', ss, top.store i⟩
section
variable [wx : WXI]
theorem c_tryK {tb : WX → TS} {b : Sm} {cat : List Str} {c : Value} {i j : Nat} {js : List Nat} (hcat : ∀ n ∈ cat, ∃ C, clsOf kf.K n = some C ∧ PySem.W.exmOne kf.K (.ref C) c = some true)
    (hb : ∀ W : WX, @CS kf ⟨W⟩ js (tb W) b) (hi : i ∉ js := by decide) (hj : j ∉ js := by decide) : CS js (fun D σ H => tb (wKeep kf.K c i j D) D σ H) (sTryK b cat i j) := fun ρ fl ρ' hh => by
  intro S0 H0 A0 S H σ F E hF hx o k
  unfold sTryK at hh
  have hi' : i ∉ F.map (·.1) := by rw [hF]; exact hi
  have hj' : j ∉ F.map (·.1) := by rw [hF]; exact hj
  cases e : b ρ with
  | none => rw [e] at hh; cases hh
  | some p =>
    obtain ⟨f, ρ1⟩ := p
    rw [e] at hh
    refine hb (wKeep kf.K c i j E) _ _ _ e S0 H0 A0 S H σ F E hF hx o ?_
    cases f with
    | nx => cases hh; exact k
    | bk => cases hh; exact k
    | ct => cases hh; exact k
    | rt r => cases hh; exact k
    | xc x =>
      simp only at hh
      split at hh
      · rename_i hm
        cases hh
        obtain ⟨C, hC, hm⟩ := hcat _ hm
        intro cls d S' H' σ' ss hx' o' xc
        obtain ⟨C', rfl, hC', hf, hd0⟩ := xc
        rw [hC] at hC'
        cases hC'
        refine ⟨hm, C, rfl, fun a na => ?_⟩
        obtain ⟨S2, s2, o2⟩ := (o'.setNo i (some (.ref a))).keepX na hC hf hd0 j
        exact k S2 _ _ (ss.trans s2) (((hx'.set hi').set hj').set hi') (o2.setNo i none)
      · cases hh
end
end
end MR
/-! MR: isinstance of what is kept; rules for calls that may raise; the tie of a def that may raise -/
namespace PySem.W
open PySem PySem.Spec PySem.Calls PyProof.Rows
section
variable {prog : Program} {w : World} {A : Around} {E : Value → Shared → Prop} {s : Shared} {K : Frag} {x D : Addr} {ox : Obj} {od : Option Obj}
/-- what the class D must say so that its instances are asked rightly -/
theorem find_class {C : Addr} (hd : hasDictIn K C = true) (ha : findIn K (.ref C) "__class__" = some (some (.builtin "object.__class__"))) (hn : specialIn K (.builtin "object.__class__") "__get__" = some (some (.builtin "getset_descriptor.__get__"))) (ht : takesIn K (.builtin "object.__class__") = some true) :
    findObj K C od "__class__" = some (.bind (.builtin "getset_descriptor.__get__") (.builtin "object.__class__")) := by
  obtain ⟨cd, hc, -⟩ := any_some hd
  simp only [findObj, hc, Option.bind_some, ha, hn, ht]
theorem class_of (c : L2.ExcC K D) (X : K.In s.heap) (I : InstAt s.heap x ox D od) {Q : Option Value → Shared → Prop} (h : Q (some (.ref D)) { s with toks := s.toks + 1 }) : wpAny (model prog w) A (getAttr? (.ref x) "__class__") Q E s := by
  obtain ⟨hp, g, d, t, os⟩ := s
  have ty := I.type (M := model prog w)
  have ga := looks_findIn (M := model prog w) X c.hg
  have gt := looks_findIn (M := model prog w) X c.hk
  have fd := looks_find (M := model prog w) X I (find_class (od := od) c.hd c.ha c.hn c.ht)
  have isB : Looks (model prog w) hp (isInstance (.ref x) (.type "BaseException")) true := ty.andThen (looks_subIn X c.hs)
  unfold getAttr?
  unfold getAttrBy? getAttrBy
  refine wpAny_bind (wpAny_mkText (wpAny_bind (wpAny_attempt (wpAny_holding (wpAny_bind (ty.at (wpAny_bind (ga.at ?_))))))))
  refine KFB.if_not (by simp) ?_
  unfold getAttrByItsOwn
  unfold hookBefore
  refine wpAny_bind (KFB.if_so rfl (gt.at (wpAny_bind (wpAny_attempt (wpAny_holding ?_)))))
  unfold callGetattribute
  refine KFB.if_not (by simp) ?_
  unfold boundAndCalled
  rw [F.excAttr_ValueError.ga.bind (.ref x)]
  refine wpAny_bind (wpAny_pure (wpAny_call (codeAny_call_builtin F.excAttr_ValueError.ga.plain F.entry_bexc_ga ?_)))
  refine @check_slot (model prog w) _ _ ⟨hp, g, d, t + 1, os⟩ "BaseException.__getattribute__" "BaseException" "__getattribute__" (.ref x) [.str "__class__" t] [] _ (by decide +kernel) (by decide +kernel) isB
    (F.args_bexc_ga (.ref x) (.str "__class__" t)) ?_
  delta Builtin.«object.__getattribute__»
  refine wpAny_bind (wpAny_of_eq (a := ((Value.ref x : Value), [Value.str "__class__" t])) (by first | (simp only [slotArgs]; rfl) | rfl) (wpAny_bind (wpAny_pure (wpAny_bind (ty.at (wpAny_bind (fd.at ?_)))))))
  refine wpAny_bind (m := holding [Value.builtin "object.__class__"] (call (.builtin "getset_descriptor.__get__") [.builtin "object.__class__", .ref x, .ref D])) ?_
  refine wpAny_holding (wpAny_call (class_get (s := ⟨hp, g, d, t + 1, os⟩) (ox := ox) (od := od) X I c.hm (wpAny_pure ?_)))
  show wpAny _ _ (handedOut (Value.ref D)) _ _ _
  rw [handedOut_of (v := Value.ref D) rfl]
  first
    | exact wpAny_pure (wpAny_bind (m := pure _) (wpAny_pure (wpAny_pure h)))
    | exact wpAny_pure (wpAny_pure (a := some (Value.ref D)) h)
    | exact wpAny_pure (wpAny_pure h : wpAny _ _ _ _ _ _)
    | exact wpAny_pure h
theorem kitx_kept (c : L2.ExcC K D) : KitX K (.ref x) (.ref D) (fun h => InstAt h x ox D od) :=
  have lk : ∃ c' d' cd' sl', K.lookup D = some ⟨c', d', .cls cd', sl'⟩ := by
    obtain ⟨cd, hc, -⟩ := any_some c.hd
    unfold clsIn at hc
    split at hc
    · exact ⟨_, _, _, _, by assumption⟩
    · cases hc
  { ty := fun _ _ _ I => I.type
    it := fun _ _ X _ => by
      obtain ⟨c', d', cd', sl', ho⟩ := lk
      intro A' Q' E' s' k q
      unfold isType loadHead
      refine wpAny_bind (wpAny_loadPart (k _ _ (X _ _ ho)) ?_)
      exact wpAny_pure q
    ne := fun h tp dd its m sl X htp => by
      obtain ⟨c', d', cd', sl', ho⟩ := lk
      rw [Bool.eq_false_iff]
      intro q
      obtain rfl : D = tp := Value.ref.inj (beq_iff_eq.mp q)
      have two := (X _ _ ho).symm.trans htp
      cases two
    ca := fun X I k => class_of c X I k }
end
end PySem.W
namespace MR
open PySem L2 PL
theorem clsOf_of {K : PySem.W.Frag} {x : Str} {C : Addr} (h : PySem.W.nsIn K mainGlobals x = some (some (.ref C))) : clsOf K x = some C := by unfold clsOf; rw [h]
theorem tbl_nil {P : Str → Bool → Prop} : ∀ n b, List.lookup n ([] : List (Str × Bool)) = some b → P n b := fun _ _ h => nomatch h
theorem tbl_cons {P : Str → Bool → Prop} {n0 : Str} {b0 : Bool} {tbl : List (Str × Bool)} (h0 : P n0 b0) (h : ∀ n b, tbl.lookup n = some b → P n b) : ∀ n b, List.lookup n ((n0, b0) :: tbl) = some b → P n b := fun n b e => by
  rw [List.lookup_cons] at e
  split at e
  · rename_i hn
    cases e
    rw [beq_iff_eq] at hn
    exact hn ▸ h0
  · exact h n b e
/-- what is asked of isinstance: a kept exception, or None -/
def KTy (K : PySem.W.Frag) (H : Hp) (x : V) (t : Value) : Prop := (∃ a C d, x = .ref a ∧ H a = some (exHO a C d) ∧ (∀ dd, d = some dd → ∃ fs, H dd = some (.xd fs)) ∧ ExcC K C ∧ t = .ref C) ∨ (x = .non ∧ t = .type "NoneType")
section
variable {X : Cx} {σ : St} {H : Hp}
  {s : Shared} {pins : List (Addr × Obj)}
theorem kept_kit {x : V} {u t : Value} (I : L2.Inv X pins σ H s) (rx : RelV x u) (ty : KTy X.K H x t) : ∃ P : Heap → Prop, PySem.W.KitX X.K u t P ∧ P s.heap ∧ u ≠ .builtin "__main__.__loader__#opaque" := by
  rcases ty with ⟨a, C, d, rfl, e, hd, ec, rfl⟩ | ⟨rfl, rfl⟩
  · cases (show u = Value.ref a from rx)
    obtain ⟨o, vs, e1, e2, e3, e4⟩ := exHO_at I.hok e
    have : ∃ od, PySem.W.InstAt s.heap a o C od := by
      cases d with
      | none => exact ⟨none, e1, e2, by unfold PySem.W.notCls; rw [e4], by rw [e3]; trivial⟩
      | some dd =>
        obtain ⟨fs, f⟩ := hd dd rfl
        have hx : ObjOk X.prog X.w H s.heap dd (.xd fs) := I.hok dd _ f
        obtain ⟨mA, ⟨od, es, ep, ho, z⟩, _⟩ := hx
        exact ⟨some od, e1, e2, by unfold PySem.W.notCls; rw [e4], by rw [e3]; exact ho⟩
    obtain ⟨od, J⟩ := this
    exact ⟨_, PySem.W.kitx_kept (ox := o) (od := od) ec, J, fun z => nomatch z⟩
  · cases (show u = Value.none from rx)
    exact ⟨_, PySem.W.kitx_none, True.intro, fun z => nomatch z⟩
def rIsK (K : PySem.W.Frag) : List V → Hp → VK → Prop := fun xs H Q => ∃ (x c : V) (t u : Value) (b : Bool), xs = [x, c] ∧ ClsV c u ∧ KTy K H x t ∧ PySem.W.kitOne K t u = some b ∧ Q (.bl b) H
def rIsKT (K : PySem.W.Frag) : List V → Hp → VK → Prop := fun xs H Q => ∃ (x : V) (tp : Addr) (cs : List V) (t : Value) (us : List Value) (b : Bool), xs = [x, .ref tp] ∧ H tp = some (.tup cs) ∧ Paired ClsV cs us ∧ KTy K H x t ∧ PySem.W.kitAny K t us = some b ∧ Q (.bl b) H
theorem call_isK {K : PySem.W.Frag} (hK : K = X.K) : CallR X (.builtin "isinstance") (rIsK K) := by
  subst hK
  intro pins s σ H xs ws Q I r ⟨x, c, t, u, b, ex, hc, ty, e, q⟩
  subst ex
  obtain ⟨w1, u2, rfl, r1, r2⟩ := vals2 r
  have ec := hc.eq r2
  subst ec
  obtain ⟨P, Z, p, hx⟩ := kept_kit I r1 ty
  exact PySem.W.kia_one Z I.kIn p e hx fun tk =>
    ⟨.bl b, H, I.tok tk, rfl, q⟩
theorem call_isKT {K : PySem.W.Frag} (hK : K = X.K) : CallR X (.builtin "isinstance") (rIsKT K) := by
  subst hK
  intro pins s σ H xs vs Q I r ⟨x, tp, cs, t, ws, b, ex, hT, pr, ty, e, q⟩
  subst ex
  obtain ⟨w1, w2, rfl, r1, r2⟩ := vals2 r
  cases (show w2 = Value.ref tp from r2)
  obtain ⟨P, Z, p, hx⟩ := kept_kit I r1 ty
  obtain ⟨-, its, rv, ⟨oc, od, dt, sl⟩, at_, ic, n, id⟩ := (show ObjOk X.prog X.w H s.heap tp (.tup cs) from I.hok tp _ hT)
  have e3 := ClsV.all pr rv
  subst e3
  cases ic
  cases id
  exact PySem.W.kia_tup Z I.kIn p at_ e hx fun tk => ⟨.bl b, H, I.tok tk, rfl, q⟩
end
variable [kf : KF]
section
variable {S H S0 H0 : Hp} {A0 : List Addr} {σ τσ : St} {ρ τρ : Env} {i : Nat} {tbl : List (Str × Bool)} {z : Bool}
theorem kty_ex {v : V} {x : Xc} {A : List Addr} {C : Addr} (h : OOk S H v (.ex x) A) (sh : Same S H) (hc : clsOf kf.K x.cls = some C) (he : ExcC kf.K C) : KTy kf.K H v (.ref C) := by
  cases h with
  | ex h1 h2 h3 =>
    rw [hc] at h1
    cases h1
    refine .inl ⟨_, C, _, rfl, sh _ _ h2, fun dd e => ?_, he, rfl⟩
    rcases h3 with ⟨_, z⟩ | ⟨_, d2, vfs, z, z2, _⟩
    · rw [z] at e; cases e
    · rw [z] at e; cases e; exact ⟨vfs, sh _ _ z2⟩
theorem c_isX {c : V} {u : Value} (hu : ClsV c u) (htbl : ∀ n b, tbl.lookup n = some b → ∃ C, clsOf kf.K n = some C ∧ ExcC kf.K C ∧ PySem.W.kitOne kf.K (.ref C) u = some b) (hz : z = true → PySem.W.kitOne kf.K (.type "NoneType") u = some false) :
    CR (tCB (rIsK kf.K) (tCons (tVar i) (tCons (tC c) tNil))) (rIsX i tbl z) := fun ρ x h S0 H0 A0 S H τσ τρ σ Q l o q => by
  unfold rIsX at h
  split at h
  · rename_i y hy
    rw [Option.map_eq_some_iff] at h
    obtain ⟨b, hb, rfl⟩ := h
    obtain ⟨C, h1, h2, h3⟩ := htbl _ _ hb
    obtain ⟨v, A, e1, e2⟩ := o.slot l hy (by intro z; cases z)
    exact ⟨v, e1, v, c, _, _, b, rfl, hu, kty_ex e2 o.sh h1 h2, h3, q _ S H (.refl o.sh) (.bl b)⟩
  · rename_i hy
    split at h
    · rename_i hzz
      cases h
      obtain ⟨v, A, e1, e2⟩ := o.slot l hy (by intro z; cases z)
      cases e2 with
      | d e2 =>
        cases e2
        exact ⟨_, e1, .non, c, _, _, false, rfl, hu, .inr ⟨rfl, rfl⟩, hz hzz, q _ S H (.refl o.sh) (.bl false)⟩
    · cases h
  · cases h
theorem c_isXT {t : TA} {cs : List V} {us : List Value} (hu : Paired ClsV cs us) (hcs : cs.length ≤ 1000) (ht : ∀ (σ : St) (H : Hp) (Q : List V → Hp → Prop), Q cs H → t σ H Q) (htbl : ∀ n b, tbl.lookup n = some b → ∃ C, clsOf kf.K n = some C ∧ ExcC kf.K C ∧ PySem.W.kitAny kf.K (.ref C) us = some b) (hz : z = true → PySem.W.kitAny kf.K (.type "NoneType") us = some false) :
    CR (tCB (rIsKT kf.K) (tCons (tVar i) (tCons (tTup t) tNil))) (rIsX i tbl z) := fun ρ x h S0 H0 A0 S H τσ τρ σ Q l o q => by
  unfold rIsX at h
  have new : ∀ p, H p = none → Xt S H S (upd H p (.tup cs)) := fun p hp => .new o.sh hp
  split at h
  · rename_i y hy
    rw [Option.map_eq_some_iff] at h
    obtain ⟨b, hb, rfl⟩ := h
    obtain ⟨C, h1, h2, h3⟩ := htbl _ _ hb
    obtain ⟨v, A, e1, e2⟩ := o.slot l hy (by intro z; cases z)
    refine ⟨v, e1, ht _ _ _ ⟨by rw [sizeLine_eq]; omega, fun p hp => ?_⟩⟩
    have xt := new p hp
    have e3 := ook_keep xt.ss (fun b xs e => xt.hh b _ e) _ _ _ e2 (by cases e2; intro a ha; cases ha)
    exact ⟨v, p, cs, _, us, b, rfl, upd_same, hu, kty_ex e3 xt.sh h1 h2, h3, q _ S _ xt (.bl b)⟩
  · rename_i hy
    split at h
    · rename_i hzz
      cases h
      obtain ⟨v, A, e1, e2⟩ := o.slot l hy (by intro z; cases z)
      cases e2 with
      | d e2 =>
        cases e2
        refine ⟨_, e1, ht _ _ _ ⟨by rw [sizeLine_eq]; omega, fun p hp => ?_⟩⟩
        exact ⟨.non, p, cs, _, us, false, rfl, upd_same, hu, .inr ⟨rfl, rfl⟩, hz hzz, q _ S _ (new p hp) (.bl false)⟩
    · cases h
  · cases h
theorem isN_ref {t : OT} {v : V} {A : List Addr} {x : D} (h : OOk S H v t A) (sh : Same S H) (e : t.toD = some x) : decide (v = .non) = isN x := rp_isN (ook_rp sh _ _ _ _ h e)
theorem c_nX (neg : Bool) {R : R2} (hR : ∀ (x : V) (H : Hp) (Q : VK), Q (.bl (decide (x = .non) != neg)) H → R x .non H Q) : CR (tOp R (tVar i) (tC .non)) (rNX neg i) := fun ρ x h S0 H0 A0 S H τσ τρ σ Q l o q => by
  unfold rNX at h
  split at h
  · rename_i y hy
    cases h
    obtain ⟨v, A, e1, e2⟩ := o.slot l hy (by intro z; cases z)
    cases e2
    exact ⟨_, e1, hR _ _ _ (by simpa using q _ S H (.refl o.sh) (.bl _))⟩
  · rename_i y hy
    cases h
    obtain ⟨v, A, e1, e2⟩ := o.slot l hy (by intro z; cases z)
    exact ⟨_, e1, hR _ _ _ (by rw [isN_ref e2 o.sh rfl]; exact q _ S H (.refl o.sh) (.bl _))⟩
  · rename_i t hy
    rw [Option.map_eq_some_iff] at h
    obtain ⟨y, h1, rfl⟩ := h
    obtain ⟨v, A, e1, e2⟩ := o.slot l hy (toD_no h1)
    exact ⟨_, e1, hR _ _ _ (by rw [isN_ref e2 o.sh h1]; exact q _ S H (.refl o.sh) (.bl _))⟩
  · cases h
theorem c_isNX : CR (tOp (fun x y H Q => y = V.non ∧ Q (.bl (decide (x = .non))) H) (tVar i) (tC .non)) (rNX false i) := c_nX false fun x H Q q => ⟨rfl, by simpa using q⟩
end
/-! ### the rules of calls that may raise -/
section
variable {X : Cx} {CX : CXT} {k : Nat} {f : Addr} {fd : FuncData} {ps ks : List Str} {sp : Sp} {W : WX} {x : Str} {p pos : Pos} {e : Expr} {es : List Expr} {kws : List Keyword} {t tk : TA} {g : List Value → List Value → List Value} {gV : List V → List V → List V}
theorem pe_callX (F : FnQ X.prog X.w X.K X.mg X.base (L2.CX X.prog X.w) k f fd ps sp) (hr : Room k X.A) (gd : X.A.guards = some []) (hg : Gl X x) (hm : X.mg x = some (.ref f)) (hk : PySem.W.keepIn X.K (.ref f) = true) (hb : Binds X.K fd ps [])
    (tk : Takes X W) (ha : PA X (e :: es) t) (hdb : (x == ("__debug__" : Str)) = false := by decide) (he : starEach (e :: es) X.env = (false, eval e X.env) :: starEach es X.env := by rfl)
    (hpl : (backTo pos (starEach es X.env)).any (·.1) = false := by rfl) : PE X (.Call (.Name x p) (e :: es) [] pos) (tCallS sp (WE W) t) := by
  constructor
  intro pins s σ H Q I h
  refine wpAny_Call_Name_kw (ld_glob I hg hm (PySem.W.callWith_K (h₀ := X.base) I.ok.mod.kin hk (thn (ha.run pos pins s σ H _ I h) ?_) he hpl) hdb)
  rintro us s1 ⟨vs, H1, I1, r, q⟩
  have hl : us.length = ps.length := r.length.symm.trans (F.ln _ _ _ _ q)
  have bd := hb s1 us I1.kIn (by simpa using hl)
  rw [List.append_nil] at bd
  refine ⟨I1.kIn, wpAny_call (codeAny_mono (F.go X.A X.stack s1 H1 ⟨us, []⟩ us vs Q _ hr gd I1.env0 bd r q) fun out s2 hq => ?_)⟩
  match out, hq with
  | .error u, hq => exact passAt tk σ pins H1 s1 u s2 I1 hq
  | .ok (.ret _), hq => exact I1.after hq
  | .ok .next, hq | .ok .brk, hq | .ok .cont, hq => cases hq
end
/-! ### a def that may raise -/
structure DqX (P : Program) (w : World) (K : PySem.W.Frag) (mg : Str → Option Value) (base : Heap) (x : Str) (k : Nat) (ps : List Str) (sp : Sp) where
  a : Addr
  fd : FuncData
  kp : PySem.W.keepIn K (.ref a) = true
  g : mg x = some (.ref a)
  G : FnQ P w K mg base (L2.CX P w) k a fd ps sp
  b : Binds K fd ps []
theorem tie_x {n k : Nat} {B : Sm} {vs : List V} {H : Hp} {Q : VK} {E : XK} {N : List Str} {t : TS} (hk : N.length - n = k) (hc : @CS kf ⟨fun cls d _ H' => E cls d H'⟩ [] t B) (h : spX n (fun ds => finX (B (ini ds k))) vs H Q E) : t { nx := fun _ H' => Q .non H', rt := Q } (L2.start N vs) H := by
  subst hk
  letI wx : WXI := ⟨fun cls d _ H' => E cls d H'⟩
  obtain ⟨S, ds, r, hn, sh, hr, hf, q⟩ := h
  have hl : vs.length = n := (dpa_length hr).trans hn
  have ok0 : Ok S H [] S H (L2.start N vs) (ini ds (N.length - n)) := by
    refine ⟨Xa.refl sh, [], ?_, List.nodup_nil, fun a ha => by cases ha⟩
    show EOk S H (vs.map some ++ List.replicate (N.length - vs.length) Option.none) _ _
    rw [hl]; exact eok_start hr _
  cases e : B (ini ds (N.length - n)) with
  | none => simp only [e, finX] at hf; cases hf
  | some p =>
    obtain ⟨fl, ρ'⟩ := p
    simp only [e] at hf
    refine hc _ _ _ e S H [] S H _ [] _ rfl (fun p hp => by cases hp) ok0 ?_
    cases fl with
    | bk => cases hf
    | ct => cases hf
    | nx =>
      cases hf
      exact fun S' H' σ' ss _ o' => q .non S' H' [] o'.xt.xt (.d .non) List.nodup_nil fun a ha => by cases ha
    | xc x =>
      cases hf
      exact fun cls d S' H' σ' ss _ o' xc => q cls d S' H' o'.xt.xt xc
    | rt r' =>
      obtain ⟨rfl, hne⟩ : r = .ok r' ∧ r' ≠ .no := by cases r' <;> cases hf <;> exact ⟨rfl, by intro z; cases z⟩
      intro v S' H' σ' ss _ o'
      obtain ⟨B', h1, h2, h3⟩ := o'.env
      cases h1 with
      | @cons _ _ A1 _ _ B1 p1 p2 =>
        cases p1 with
        | no => exact (hne rfl).elim
        | is p1 =>
          refine q v S' H' A1 o'.xt.xt p1 (List.nodup_append.mp h2).1 fun a ha => ?_
          rcases h3 a (List.mem_append_left _ ha) with z | z
          · cases z
          · exact z
end MR
/-! MR: exceptions with fields whose __init__ hands a text up by super() -/
namespace MR.Su
open PySem L2 PL MR PySem.Spec PyProof.Rows PySem.Calls
/-! ### {x} of a text, an int, None -/
def tFmtN (te : TE) : TE := fun σ H Q => te σ H fun x H1 => (∃ y : Str, x = .str y ∧ y.length ≤ sizeLine ∧ Q (.str y) H1) ∨ (∃ i : Int, x = .int i ∧ i.natAbs.log2 < 1920 ∧ Q (.str (toString i)) H1) ∨ (x = .non ∧ Q (.str "None") H1)
theorem pe_fmtN {X : Cx} {e : Expr} {te : TE} {pos : Pos} (he : PE X e te) : PE X (.FormattedValue e (-1) none pos) (tFmtN te) := by
  constructor
  intro pins s σ H Q I h
  refine wpAny_FormattedValue_plain (thn (he.run pins s σ H _ I h) fun u s1 hu => ?_)
  obtain ⟨x, H1, I1, r1, q⟩ := hu
  rcases q with ⟨y, rfl, hz, q⟩ | ⟨i, rfl, hz, q⟩ | ⟨rfl, q⟩
  · obtain ⟨t, rfl⟩ := r1
    exact wpAny_formatField_str ⟨.str y, H1, I1, ⟨t, rfl⟩, q⟩ ⟨.str y, H1, I1.tok _, ⟨_, rfl⟩, q⟩ hz
  · obtain ⟨t, rfl⟩ := r1
    exact wpAny_formatField_int hz ⟨.str (toString i), H1, I1.tok _, ⟨_, rfl⟩, q⟩
  · cases (show u = Value.none from r1)
    exact wpAny_formatField_none ⟨.str "None", H1, I1.tok _, ⟨_, rfl⟩, q⟩
/-- what a message may hold -/
def Wrt (v : V) : Prop := (∃ y : Str, v = .str y ∧ y.length ≤ 1000) ∨ (∃ i : Int, v = .int i ∧ i.natAbs.log2 < 1920) ∨ v = .non
def wrt : V → Str
  | .str y => y
  | .int i => toString i
  | _ => "None"
theorem wrt_len {v : V} (h : Wrt v) : (wrt v).length ≤ 2000 := by
  rcases h with ⟨y, rfl, h⟩ | ⟨i, rfl, h⟩ | rfl
  · show y.length ≤ 2000; omega
  · have := int_text_len_1921 h
    show (PySem.Str.ofString (toString i)).length ≤ 2000
    omega
  · show ("None" : Str).length ≤ 2000; decide
/-! ### the wrapper that super().__init__ is -/
section
open PySem.W
variable {prog : Program} {w : World} {A : Around} {E : Value → Shared → Prop} {h : Heap} {g : Array GenState} {d : Drawn} {t : Nat} {os : OsState}
theorem wrapper_call {nm q : Str} {C N : Addr} {bs bm : List Value} {hdct : Bool} {sn : List Str} {sub : List Value} {ab : Bool} {col : Option Bool} {dd : Option Addr} {k0 k1 k2 k3 k5 : Option Value} {u x t0 : Addr} {us : List Value} {Q : Value → Shared → Prop}
    (hC : h.get? C = some (excClassObj nm q C N bs bm hdct sn sub ab col dd k0 k1 k2 k3 k5 "ValueError.__new__")) (hx : h.get? x = some (excObj C t0 none .none)) (hu : h.get? u = some (kxs_mw "ValueError.__init__" x)) (hz : us.length ≤ sizeLine)
    (fin : ∀ h', (∀ b o, b ≠ x → h.get? b = some o → h'.get? b = some o) → h'.get? x = some (excObj C h.objs.size none .none) → Q .none ⟨h', g, d, t, os⟩) :
    wpAny (model prog w) A (call (.ref u) us) Q E ⟨h, g, d, t, os⟩ := by
  have FB := F.excBase_ValueError
  refine wpAny_call (codeAny_of_tree ?_)
  show wpAny _ A.in1 (callAny (.ref u) ⟨us, []⟩) _ _ _
  simp only [callAny]
  refine wpAny_bind (wpAny_load hu ?_)
  simp only [kxs_mw, show (Value.type "method-wrapper" == Value.type "method" || Value.type "method-wrapper" == Value.type "builtin_function_or_method" || Value.type "method-wrapper" == Value.type "method-wrapper") = true by decide, if_true]
  refine KFB.if_so (by decide) ?_
  refine wpAny_bind (check_bound_init FB.toExcCallFacts hC hx rfl ?_)
  refine wpAny_bind (wpAny_pure (wpAny_pure ?_))
  refine ⟨plainId_quiet FB.init.plain _, codeAny_builtin FB.initEntry ?_⟩
  exact exc_init_tree (cls := .ref C) (t0 := t0) (dv := none) (c2 := .none) (c3 := .none) (b4 := .bool false) hx hz fun h' k e _ => fin h' k e
end
/-- what is known of the __init__ at fI of the class at C -/
structure InitC (P : Program) (K : PySem.W.Frag) (mg : Str → Option Value) (C fI : Addr) (fd : FuncData) (ps : List Str) (qual : Str) (params : Arguments) (body : List Stmt) (scope : Scope) (cc cda : Addr) : Prop where
  lk : ∃ (oc : Value) (od : Option Addr) (osl : Array (Option Value)) (dV kV doc pm : Value) (an : Option Addr) (ct : Value), K.lookup fI = some ⟨oc, od, .func fd, osl⟩ ∧ fd = PySem.W.fnX "__init__" qual params body scope [("__class__", cc)] dV kV doc pm an (.ref cda) ct
  cd : PySem.W.codeIn K (.ref cda) qual = true
  lc : ∃ (cl : Value) (cld : Option Addr) (csl : Array (Option Value)), K.lookup cc = some ⟨cl, cld, .cell (some (.ref C)), csl⟩
  lf : ∃ (ccl : Value) (cdd : Option Addr) (vs : Array Value) (ccs : Array (Option Value)) (file : Str) (tf : Tok), K.lookup cda = some ⟨ccl, cdd, .fields vs, ccs⟩ ∧ vs[2]? = some (.str file tf) ∧ ((P.main.file : Str) == file) = true
  top : (P.main.scope.names.lookup ("super" : Str)).isSome = false
  T : OexC K C
  kind : scope.kind = .function
  co : scope.isCoroutine = false
  gen : scope.isGenerator = false
  nocell : ∀ y ∈ scope.names, y.2 ≠ .cell
  free : ∀ y, scope.names.lookup y = some .free → y = "__class__"
  sup : scope.names.lookup ("super" : Str) = some .globalImplicit
  cls : scope.names.lookup ("__class__" : Str) = some .free
  nd : ps.Nodup
  loc : ∀ y ∈ ps, scope.names.lookup y = some .local
  first : ∃ ar : Arg, (params.posonlyargs ++ params.args).head? = some ar ∧ ps.head? = some ar.arg
  nosup : mg "super" = none
  up : PySem.W.ks_superIn K C C "__init__" = some (some (.builtin "ValueError.__init__"))
  isB : PySem.W.subIn K (.ref C) (.type "ValueError") = some true
  self : PySem.W.mroIn K C (.ref C) = some true
  opq : PySem.W.nsIn K PySem.cStatics "thirdparty.any" = some none
/-- its body's context -/
def cxS (CX : CXT) (P : Program) (w : World) (K : PySem.W.Frag) (mg : Str → Option Value) (base : Heap) (N : List Str) (qual : Str) (scope : Scope) (f cda cc : Addr) (A : Around) (outer : List PySem.Env) (s : Shared) (H : Hp) (E : XK) : Cx where
  prog := P
  w := w
  K := K
  mg := mg
  base := base
  A := A.deeper (PySem.W.envX qual scope s.heap.objs.size f (.ref cda) [("__class__", cc)])
  N := N
  s_0 := s
  H_0 := H
  env := PySem.W.envX qual scope s.heap.objs.size f (.ref cda) [("__class__", cc)]
  outer := outer
  stack := PySem.W.envX qual scope s.heap.objs.size f (.ref cda) [("__class__", cc)] :: outer
  ex := []
  calm := true
  fn := fun _ => false
  pn := []
  xe := fun e s' => wpAny (model P w) (A.deeper (PySem.W.envX qual scope s.heap.objs.size f (.ref cda) [("__class__", cc)])) (leaving (PySem.W.envX qual scope s.heap.objs.size f (.ref cda) [("__class__", cc)]) e) (fun _ s'' => CX outer H s E e s'') (fun e' s'' => CX outer H s E e' s'') s'
theorem one_cell {cc c : Addr} {x : Str} (h : [(("__class__" : Str), cc)].lookup x = some c) : x = "__class__" ∧ c = cc := by
  rw [List.lookup_cons] at h
  split at h
  · rename_i e
    cases h
    exact ⟨beq_iff_eq.mp e, rfl⟩
  · cases h
theorem lookup_mem {x : Str} {v : Value} : ∀ {l : List (Str × Value)}, (l.map (·.1)).Nodup → (x, v) ∈ l → l.lookup x = some v
  | (y, u) :: l, nd, h => by
    rw [List.map_cons, List.nodup_cons] at nd
    rw [List.lookup_cons]
    rcases List.mem_cons.mp h with e | h
    · cases e
      simp
    · have ne : x ≠ y := fun e => nd.1 (e ▸ List.mem_map_of_mem (f := (·.1)) h)
      rw [show (x == y) = false from by simp [ne]]
      exact lookup_mem nd.2 h
theorem rev_lookup {ps : List Str} {us : List Value} (nd : ps.Nodup) (hl : us.length = ps.length) {i : Nat} {x : Str} {u : Value} (hx : ps[i]? = some x) (hu : us[i]? = some u) : (ps.zip us).reverse.lookup x = some u := by
  refine lookup_mem ?_ (List.mem_reverse.mpr (List.mem_of_getElem? (i := i) (List.getElem?_zip_eq_some.mpr ⟨hx, hu⟩)))
  rw [List.map_reverse, List.map_fst_zip (by omega)]
  exact List.pairwise_reverse.mpr (List.Pairwise.imp (fun h => Ne.symm h) nd)
section
variable {P : Program} {w : World} {K : PySem.W.Frag} {mg : Str → Option Value} {base : Heap} {CX : CXT} {C fI cc cda : Addr} {fd : FuncData} {ps : List Str} {qual : Str} {params : Arguments} {body : List Stmt} {scope : Scope} {A : Around} {outer : List PySem.Env} {s : Shared} {H : Hp} {E : XK}
theorem inv_init {us : List Value} {vs : List V} {h₀ : Heap} {tk : Nat} (J : InitC P K mg C fI fd ps qual params body scope cc cda) (hd : A.handled = none) (e0 : Env0 P w K mg base A outer s H) (hl : vs.length = ps.length) (r : Vals vs us)
    (ns : h₀.Ns s.heap.objs.size (fun x => (ps.zip us).reverse.lookup x)) (keep : ∀ b o, s.heap.get? b = some o → h₀.get? b = some o) :
    L2.Inv (cxS CX P w K mg base ps qual scope fI cda cc A outer s H E) [] (L2.start ps vs) H { s with heap := h₀, toks := tk } := by
  have kin : K.In s.heap := e0.mod.kin.keeps fun b o e => (e0.bs b o e).1
  obtain ⟨cl, cld, csl, hcc⟩ := J.lc
  have cbase : base.get? cc = some ⟨cl, cld, .cell (some (.ref C)), csl⟩ := e0.mod.kin _ _ hcc
  have noA : ∀ b : Addr, b ∉ (cxS CX P w K mg base ps qual scope fI cda cc A outer s H E).ex := fun b z => absurd (show b ∈ ([] : List Addr) from z) (by simp)
  have ul : us.length = ps.length := r.length.symm.trans hl
  refine ⟨⟨e0.mod, J.kind, rfl, rfl, Nat.le_refl _, fun y z c h1 h2 => (one_cell h1).1.trans (one_cell h2).1.symm, fun y hy => ?_, fun y c h1 _ => (by cases h1), fun _ => hd, Around.frames_deeper e0.frames, .inr ⟨rfl, rfl⟩, fun b z => absurd z (noA b), e0.bs, e0.bsz, fun b _ _ => noA b, fun b z => absurd z (noA b), e0.funs, e0.frf⟩,
    rfl, e0.bare, Un.kept keep, ⟨_, ns, fun i y v h1 h2 h3 => ?_⟩, fun y c h => ?_, e0.hok.fresh (Nat.le_refl _), fun y c h => ?_, fun p hp => absurd (show p ∈ ([] : List (Addr × Obj)) from hp) (by simp), e0.hok.kept keep, ?_⟩
  · have hy : scope.names.lookup y = some .cell ∨ scope.names.lookup y = some .free := hy
    rcases hy with hy | hy
    · exact absurd rfl (J.nocell _ (PySem.mem_of_lookup hy))
    · rw [J.free y hy]
      exact ⟨cc, rfl⟩
  · have hi : i < ps.length := (List.getElem?_eq_some_iff.mp h1).1
    have ha : vs[i]? = some v := by
      unfold L2.start at h2
      rw [List.getElem?_append_left (by simp; omega), List.getElem?_map] at h2
      cases e : vs[i]? with
      | none => rw [e] at h2; cases h2
      | some a => rw [e] at h2; cases h2; rfl
    obtain ⟨u, hu, rv⟩ := r.get ha
    exact ⟨u, rv, .inl ⟨J.loc y (List.mem_of_getElem? h1), rev_lookup J.nd ul h1 hu⟩⟩
  · obtain ⟨_, rfl⟩ := one_cell h
    exact ⟨_, _, keep _ _ (e0.bs _ _ cbase).1, rfl⟩
  · obtain ⟨_, rfl⟩ := one_cell h
    exact (e0.bs _ _ cbase).2
  · unfold L2.start
    show _ = ps.length
    rw [List.length_append, List.length_map, List.length_replicate]
    omega
end
section
variable {X : Cx} {C fI cc cda : Addr} {fd : FuncData} {qual : Str} {params : Arguments} {body : List Stmt}
theorem super_st {σ : L2.St} {H : Hp} {a : Addr} {body0 : List Stmt} {e : Expr} {p0 p1 p2 p3 p4 : Pos} {te : TE} {D : L2.St → Hp → Prop} {s1 : Shared} (J : InitC X.prog X.K X.mg C fI fd X.N qual params body X.env.scope cc cda)
    (hfn : X.env.func = some fI) (hcd : X.env.code = .ref cda) (hcs : X.env.cells = [(("__class__" : Str), cc)]) (calm : X.calm = true)
    (I : L2.Inv X [] σ H s1) (hs : σ[0]? = some (some (.ref a))) (he : PE X e te)
    (h : te σ H fun x H1 => [x].length ≤ 1000 ∧ H1 a = some (exo a C none) ∧ D σ H1) (ea : H a = some (exo a C none)) (hi : interactive X.env = false) (hplain : swapsWith (.Call (.Attribute (.Call (.Name "super" p0) [] [] p1) "__init__" p2) [e] [] p3) none p4.line X.env = pure false)
    {pl : Sem Bool} (hev : eval (.Call (.Attribute (.Call (.Name "super" p0) [] [] p1) "__init__" p2) [e] [] p3) X.env = (do
      let ov ← attributeBase (.Call (.Name "super" p0) [] [] p1) "__init__" X.env (eval (.Call (.Name "super" p0) [] [] p1) X.env)
      standAt p2.atName
      let (f, first) ← holding [ov] (getMethod ov "__init__" pl)
      callWith p3 f first (backTo p3 (starEach [e] X.env)) []))
    (hst : starEach [e] X.env = (false, eval e X.env) :: starEach [] X.env := by rfl) (hpp : (backTo p3 (starEach [] X.env)).any (·.1) = false := by rfl) :
    PySem.wpAt (model X.prog X.w) X.A (.func body0 X.env) (exec (.Expr (.Call (.Attribute (.Call (.Name "super" p0) [] [] p1) "__init__" p2) [e] [] p3) p4) X.env)
      (fun fl s' => fl = .next ∧ ∃ H', L2.Inv X [] σ H' s' ∧ D σ H') X.xe s1 := by
  obtain ⟨oc, od, osl, dV, kV, doc, pm, an, ct, lk, efd⟩ := J.lk
  obtain ⟨cl, cld, csl, lcc⟩ := J.lc
  obtain ⟨ccl, cdd, vs, ccs, file, tf, lcda, hvs, hfile⟩ := J.lf
  obtain ⟨ar, hp, hp0⟩ := J.first
  obtain ⟨nm, qn, N, bs, bm, sn, sub, ab, col, dd, k0, k1, k2, k3, k5, hC, hbm⟩ := J.T.cls
  have hcl : PySem.W.clsIn X.K C = some { name := nm, bases := bs, mro := .ref C :: bm, ns := N, qualname := qn, hasDict := true, slotNames := sn, subclasses := sub, abstract := ab, collection := col, hasDel := false } := by unfold PySem.W.clsIn; rw [hC] <;> rfl
  have kin := I.kIn
  have hCh := kin _ _ hC
  refine PySem.ks_wpAt_Expr_any (PySem.ks_wpAt_MethodCall ?_ hev) hi hplain
  have hp' : (fd.params.posonlyargs ++ fd.params.args).head? = some ar := by rw [efd]; exact hp
  refine PySem.ks_wpAt_super_base J.sup J.cls rfl hfn (kin _ _ lk) rfl hp' hcd (kin _ _ lcda) rfl hvs hfile J.top ?_
  obtain ⟨mb, hb1, hb2⟩ := I.mod.blt
  refine PySem.W.ks_loadName_global I.ok.kind J.sup (loadGlobal_builtin (by rw [I.ok.glob]; exact I.mod.glob.keeps I.bk) J.nosup (by rw [I.ok.blt]; exact hb1.keeps I.bk) ((hb2 "super" (by decide)).trans (by first | rfl | decide +kernel)) ⟨rfl, ?_⟩)
  refine wpAny_loadName_free I.ok.kind J.cls (by rw [hcs]; rfl) ⟨_, kin _ _ lcc, rfl⟩ ?_
  obtain ⟨m, hns, hlk⟩ := I.loc
  have n0 : X.N[0]? = some ar.arg := by rw [← List.head?_eq_getElem?]; exact hp0
  have l0 := J.loc ar.arg (List.mem_of_getElem? n0)
  obtain ⟨u, ru, look⟩ := hlk 0 ar.arg (.ref a) n0 hs (.inl l0)
  have hm : m ar.arg = some (.ref a) := by
    rcases look with ⟨_, q⟩ | ⟨q, _⟩
    · rw [q]; exact congrArg some ru
    · exfalso
      have l0 : X.env.kindOf ar.arg = some .local := l0
      rw [l0] at q
      rcases q with q | q <;> cases q
  refine wpAny_loadName_local I.ok.kind l0 hns hm ?_
  obtain ⟨t0, ho⟩ := exo_at I.hok ea
  obtain ⟨hp1, g, dr, tk, os⟩ := s1
  refine PySem.ks_wpAny_isType_cls hCh rfl ⟨rfl, ?_⟩
  refine PySem.ks_wpAny_call_super hCh rfl ho rfl (fun c z => nomatch z) (PySem.W.looks_mroIn kin J.self) fun h1 e1 keep1 => ?_
  have I1 : L2.Inv X [] σ H ⟨h1, g, dr, tk, os⟩ := I.kept (t' := tk) keep1
  have kin1 := I1.kIn
  have hmm : PySem.W.alongIn X.K "__init__" (((Value.ref C :: bm).dropWhile (· != .ref C)).drop 1) = some (some (.builtin "ValueError.__init__")) := by
    have := J.up
    unfold PySem.W.ks_superIn at this
    rw [hcl] at this
    exact this
  have inst : PySem.W.InstAt h1 a { cls := .ref C, dict := none, data := .fields #[.ref t0, .none, .none, .none, .bool false, .none] } C none := ⟨keep1 _ _ ho, rfl, rfl, trivial⟩
  refine PySem.W.kxs_getMethod PySem.W.kxs_ValueError e1 (PySem.W.looks_opaque kin1 J.opq) (l₀ := Value.ref C :: bm) ?_ rfl kin1 hmm (inst.type.andThen (PySem.W.looks_subIn kin1 J.isB)) (PySem.W.ks_ne kin1 inst hcl) (by decide) ?_
  · exact fun A Q E s k q => wpAny_bind ((PySem.W.looks_clsIn kin1 hcl) A _ E s k (wpAny_pure q))
  have sz2 : h1.objs.size ≤ h1.objs.size := Nat.le_refl _
  have keep2 : ∀ b o, h1.get? b = some o → (h1.push (PySem.W.kxs_mw "ValueError.__init__" a)).get? b = some o := fun b o e => Heap.get?_push_of_some _ e
  have e2 : (h1.push (PySem.W.kxs_mw "ValueError.__init__" a)).get? h1.objs.size = some (PySem.W.kxs_mw "ValueError.__init__" a) := Heap.get?_push_at rfl rfl
  have I2 : L2.Inv X [] σ H ⟨h1.push (PySem.W.kxs_mw "ValueError.__init__" a), g, dr, tk + 1, os⟩ := I1.kept (t' := tk + 1) keep2
  have fp : FpOk X [] H h1.objs.size := I1.fpOk sz2 (I1.hok.fresh sz2)
  have I3 : L2.Inv X [(h1.objs.size, PySem.W.kxs_mw "ValueError.__init__" a)] σ H ⟨h1.push (PySem.W.kxs_mw "ValueError.__init__" a), g, dr, tk + 1, os⟩ := I2.pins_of fun p hp => by
    obtain rfl := List.mem_singleton.mp hp
    exact ⟨e2, fp.1, fp.2.1, fp.2.2.1, fun v z => nomatch z⟩
  show wpAny (model X.prog X.w) X.A (callWith p3 (.ref h1.objs.size) [] (backTo p3 (starEach [e] X.env)) []) _ _ _
  rw [hst]
  refine PySem.W.kxs_callWith (i := "ValueError.__init__") (x := a) (by show (false || (backTo p3 (starEach [] X.env)).any (·.1)) = false; rw [hpp]; rfl) ?_
  refine evalArgs_plain (?key)
  have ha : PA X [e] (tCons te tNil) := pa_cons he pa_nil hst
  have key := ha.run p3 [(h1.objs.size, PySem.W.kxs_mw "ValueError.__init__" a)] _ σ H (fun vs H1 => vs.length ≤ 1000 ∧ H1 a = some (exo a C none) ∧ D σ H1) I3 h
  rw [hst] at key
  refine thn key fun us s2 hu => ?_
  obtain ⟨vs2, H2, I4, r2, lv, ea2, hD⟩ := hu
  have pin := I4.pin (h1.objs.size, PySem.W.kxs_mw "ValueError.__init__" a) (List.mem_append_right _ List.mem_cons_self)
  refine ⟨pin.1, ?_⟩
  obtain ⟨t1, ho2⟩ := exo_at I4.hok ea2
  obtain ⟨hp3, g3, d3, tk3, os3⟩ := s2
  have lu : us.length ≤ sizeLine := by rw [← r2.length, sizeLine_eq]; omega
  refine wrapper_call (I4.kIn _ _ hC) ho2 pin.1 lu fun h' k hx => ?_
  have J4 := I4.write (t' := tk3) (x := a) (e := a) (o := exo a C none) (by rw [ea2]; exact True.intro) (.inl rfl) k ⟨_, hx⟩ (exo_ok hx)
  have eu : upd H2 a (exo a C none) = H2 := by
    funext b
    by_cases hb : b = a
    · rw [hb, upd_same, ea2]
    · rw [upd_ne hb]
  rw [eu] at J4
  exact ⟨rfl, H2, J4.pins_of fun p hp => absurd hp (by simp), hD⟩
end
section
variable {P : Program} {w : World} {K : PySem.W.Frag} {mg : Str → Option Value} {base : Heap} {CX : CXT} {C fI cc cda : Addr} {fd : FuncData} {ps : List Str} {qual : Str} {params : Arguments} {scope : Scope}
/-- a promise of such an __init__, by its text and the rows behind it -/
theorem init_fn {k : Nat} {sp : Sp} {e : Expr} {rest : List Stmt} {p0 p1 p2 p3 p4 : Pos} (J : InitC P K mg C fI fd ps qual params (.Expr (.Call (.Attribute (.Call (.Name "super" p0) [] [] p1) "__init__" p2) [e] [] p3) p4 :: rest) scope cc cda)
    (len : ∀ xs G Z W, sp xs G Z W → xs.length = ps.length)
    (go : ∀ (X : Cx) (xs : List V) (H : Hp) (Z : VK) (W : XK), X.K = K → X.mg = mg → X.N = ps → X.env.scope = scope → sp xs H Z W → ∃ (a : Addr) (te : TE) (tr : TS), xs[0]? = some (.ref a) ∧ H a = some (exo a C none) ∧ PE X e te ∧ PSs X rest tr ∧
      te (L2.start ps xs) H fun x H1 => [x].length ≤ 1000 ∧ H1 a = some (exo a C none) ∧ tr { nx := fun _ H' => Z .non H', rt := Z } (L2.start ps xs) H1)
    (hi : ∀ env : PySem.Env, env.scope = scope → interactive env = false) (hplain : ∀ env : PySem.Env, swapsWith (.Call (.Attribute (.Call (.Name "super" p0) [] [] p1) "__init__" p2) [e] [] p3) none p4.line env = pure false)
    {pl : PySem.Env → Sem Bool} (hev : ∀ env : PySem.Env, eval (.Call (.Attribute (.Call (.Name "super" p0) [] [] p1) "__init__" p2) [e] [] p3) env = (do
      let ov ← attributeBase (.Call (.Name "super" p0) [] [] p1) "__init__" env (eval (.Call (.Name "super" p0) [] [] p1) env)
      standAt p2.atName
      let (f, first) ← holding [ov] (getMethod ov "__init__" (pl env))
      callWith p3 f first (backTo p3 (starEach [e] env)) []))
    (hst : ∀ env : PySem.Env, starEach [e] env = (false, eval e env) :: starEach [] env) : FnOk P w K mg base CX (k + 1) fI fd ps sp := by
  refine ⟨len, fun A outer s H args us vs Q E hr e0 hb r hsp => ?_⟩
  obtain ⟨oc, od, osl, dV, kV, doc, pm, an, ct, lk, efd⟩ := id J.lk
  subst efd
  have hl := len _ _ _ _ hsp
  have kin : K.In s.heap := e0.mod.kin.keeps fun b o e => (e0.bs b o e).1
  have lim : s.heap.NoLimit := e0.mod.nolimit.keeps fun b o e => (e0.bs b o e).1
  refine PySem.ks_codeAny_call_defAt hr.depth (kin _ _ lk) rfl lim (PySem.W.codeRec_of kin J.cd) rfl hb J.nocell (fun y hy => J.loc y.1 (List.of_mem_zip hy).1) (fun h₀ hns keep => ?_) J.co J.gen J.kind
  have I : L2.Inv (cxS CX P w K mg base ps qual scope fI cda cc A outer s H E) [] (L2.start ps vs) H { s with heap := h₀, toks := s.toks + (ps.zip us).length } := inv_init J hr.hd e0 hl r hns keep
  obtain ⟨a, te, tr, x0, ea, he, hss, h⟩ := go (cxS CX P w K mg base ps qual scope fI cda cc A outer s H E) vs H Q E rfl rfl rfl rfl hsp
  have hs0 : (L2.start ps vs)[0]? = some (some (.ref a)) := by
    unfold L2.start
    have : 0 < vs.length := (List.getElem?_eq_some_iff.mp x0).1
    rw [List.getElem?_append_left (by simpa using this), List.getElem?_map, x0]
    rfl
  have fin : ∀ {σ' : L2.St} {H' : Hp} {v : V} {u : Value} {s' : Shared}, L2.Inv (cxS CX P w K mg base ps qual scope fI cda cc A outer s H E) [] σ' H' s' → RelV v u → Q v H' → CE outer P w H s Q u s' :=
    fun {σ' H' v u s'} J rv q => ⟨v, H', J.os, J.bare, J.base, J.hok, rv, q⟩
  have J' : InitC (cxS CX P w K mg base ps qual scope fI cda cc A outer s H E).prog (cxS CX P w K mg base ps qual scope fI cda cc A outer s H E).K (cxS CX P w K mg base ps qual scope fI cda cc A outer s H E).mg C fI _ (cxS CX P w K mg base ps qual scope fI cda cc A outer s H E).N qual params _ (cxS CX P w K mg base ps qual scope fI cda cc A outer s H E).env.scope cc cda := J
  have first := super_st (X := cxS CX P w K mg base ps qual scope fI cda cc A outer s H E) (body0 := .Expr (.Call (.Attribute (.Call (.Name "super" p0) [] [] p1) "__init__" p2) [e] [] p3) p4 :: rest) (D := fun σ H1 => tr { nx := fun _ H' => Q .non H', rt := Q } σ H1) J' rfl rfl rfl rfl I hs0 he h ea (hi _ rfl) (hplain _) (hev _) (hst _) rfl
  refine PySem.ks_wpAt_mono (PySem.ks_wpAt_execs_cons (PySem.ks_wpAt_mono first (fun fl s2 h2 => ?_) fun _ _ z => z)) (fun fl s3 h3 => h3) fun _ _ z => z
  obtain ⟨rfl, H2, I2, q2⟩ := h2
  refine wpAt_of_wpAny (wpAny_mono (hss.run [] s2 _ H2 _ I2 q2) (fun fl s3 h3 => ?_) fun _ _ z => z)
  cases fl with
  | ret u =>
    obtain ⟨v, σ', H', J, rv, q⟩ := h3
    exact fin J rv q
  | next =>
    obtain ⟨σ', H', J, q⟩ := h3
    exact fin (v := V.non) (u := Value.none) J rfl q
  | brk =>
    obtain ⟨_, _, _, q⟩ := h3
    exact False.elim q
  | cont =>
    obtain ⟨_, _, _, q⟩ := h3
    exact False.elim q
end
end MR.Su
/-! MR: texts: one behind another, a sign of one, f'..', join -/
namespace MR
open PySem L2 PL PySem.Spec PyProof.Rows
variable [kf : KF]
omit kf in
theorem log2_lt {n : Nat} (h : n < 2 ^ 64) : n.log2 < 1920 := by
  by_cases z : n = 0
  · subst z; decide
  · have := (Nat.log2_lt z).mpr h
    omega
omit kf in
theorem str_app_len (a b : Str) : (a ++ b).length = a.length + b.length := by
  show (a.cps ++ b.cps).size = _
  rw [Array.size_append]
  rfl
end MR
/-! MR: such classes of one field and of two -/
namespace MR.Su
open PySem L2 PL MR PySem.Spec PyProof.Rows PySem.Calls
inductive Msg (σ : L2.St) : List TE → Prop where
  | nil : Msg σ []
  | txt {y : Str} {ts : List TE} (h : y.length ≤ 1000) (r : Msg σ ts) : Msg σ (tC (.str y) :: ts)
  | val {i : Nat} {v : V} {ts : List TE} (h : σ[i]? = some (some v)) (hw : Wrt v) (r : Msg σ ts) : Msg σ (tFmtN (tVar i) :: ts)
theorem msg_ok {σ : L2.St} {H : Hp} {Q : Str → Hp → Prop} {ts : List TE} (m : Msg σ ts) : ∀ acc : Str, acc.length + 2000 * ts.length ≤ sizeLine → (∀ out, Q out H) → tJs ts acc σ H Q := by
  induction m with
  | nil => exact fun acc _ q => q acc
  | @txt y ts h r ih =>
    intro acc l q
    have al : (acc ++ y).length = acc.length + y.length := str_app_len acc y
    rw [List.length_cons] at l
    exact ⟨y, rfl, by rw [al]; omega, ih _ (by rw [al]; omega) q⟩
  | @val i v ts h hw r ih =>
    intro acc l q
    rw [List.length_cons] at l
    have wl := wrt_len hw
    have al : (acc ++ wrt v).length = acc.length + (wrt v).length := str_app_len acc _
    have go : ∃ y : Str, V.str (wrt v) = .str y ∧ (acc ++ y).length ≤ sizeLine ∧ tJs ts (acc ++ y) σ H Q := ⟨_, rfl, by rw [al]; omega, ih _ (by rw [al]; omega) q⟩
    refine ⟨v, h, ?_⟩
    rcases hw with ⟨y, rfl, hl⟩ | ⟨j, rfl, hl⟩ | rfl
    · exact .inl ⟨y, rfl, by rw [sizeLine_eq]; omega, go⟩
    · exact .inr (.inl ⟨j, rfl, hl, go⟩)
    · exact .inr (.inr ⟨rfl, go⟩)
theorem meth_eval {o e : Expr} {name : Str} {p2 p3 : Pos} (env : PySem.Env) (same : (p2.endLine == p3.line) = true) (hst : starEach [e] env = (false, eval e env) :: starEach [] env) :
    eval (.Call (.Attribute o name p2) [e] [] p3) env = (do
      let ov ← attributeBase o name env (eval o env)
      standAt p2.atName
      let (f, first) ← holding [ov] (getMethod ov name (do return (← importBound o env).getD true))
      callWith p3 f first (backTo p3 (starEach [e] env)) []) := by
  have form : methodCallForm 1 (backTo p3 (starEach [e] env)) (backToKw p3 (keywordEach [] env)) = true := by rw [hst]; rfl
  have e1 : eval (.Call (.Attribute o name p2) [e] [] p3) env = (attributeBase o name env (eval o env) >>= fun ov => standAt p2.atName >>= fun _ => methodCall o name p2 p3 env ov 1 (backTo p3 (starEach [e] env)) (backToKw p3 (keywordEach [] env))) := rfl
  rw [e1]
  have e2 : ∀ ov, methodCall o name p2 p3 env ov 1 (backTo p3 (starEach [e] env)) (backToKw p3 (keywordEach [] env)) = (holding [ov] (getMethod ov name (do return (← importBound o env).getD true)) >>= fun q => callWith p3 q.1 q.2 (backTo p3 (starEach [e] env)) []) := fun ov => by
    unfold methodCall methodCallPos
    simp only [form, same, Bool.not_true, Bool.false_or, if_true, calleeOf, pure_bind]
    rfl
  simp only [e2]
/-- what the __init__ of a class with the fields fs keeps -/
def spF (C : Addr) (fs : List Str) : Sp := fun xs H Q _ => ∃ a vs, xs = .ref a :: vs ∧ vs.length = fs.length ∧ (∀ v ∈ vs, Wrt v) ∧ H a = some (exo a C none) ∧
  ∀ d, H d = none → d ≠ a → Q .non (upd (upd H a (exo a C (some d))) d (exd d (fs.zip vs).reverse))
theorem upd_comm {H : Hp} {a b : Addr} {x y : HO} (h : a ≠ b) : upd (upd H a x) b y = upd (upd H b y) a x := by
  funext c
  by_cases ca : c = a
  · subst ca
    rw [upd_ne h, upd_same, upd_same]
  · by_cases cb : c = b
    · subst cb
      rw [upd_same, upd_ne ca, upd_same]
    · rw [upd_ne cb, upd_ne ca, upd_ne ca, upd_ne cb]
section
variable {P : Program} {w : World} {K : PySem.W.Frag} {mg : Str → Option Value} {base : Heap} {CX : CXT} {C fI cc cda : Addr} {fd : FuncData} {qual : Str} {params : Arguments} {scope : Scope} {k : Nat}
variable {self n1 n2 f1 f2 x1 x2 : Str} {j1 j2 : Nat} {p0 p1 p2 p3 p4 p5 p6 p7 p8 p9 q0 q1 q2 q3 q4 q5 q6 q7 q8 q9 : Pos}
theorem init1 (J : InitC P K mg C fI fd [self, n1] qual params (.Expr (.Call (.Attribute (.Call (.Name "super" p0) [] [] p1) "__init__" p2) [.JoinedStr [.Constant (.str x1) j1 p5, .FormattedValue (.Name n1 p6) (-1) none p7] p8] [] p3) p4 ::
      [.Assign [.Attribute (.Name self q0) f1 q1] (.Name n1 q2) q3]) scope cc cda)
    (same : (p2.endLine == p3.line) = true) (hno : PySem.W.findIn K (.ref C) f1 = some none) (l1 : x1.length ≤ 1000) (d0 : (self == ("__debug__" : Str)) = false) (d1 : (n1 == ("__debug__" : Str)) = false) (c0 : (self == ("__classdict__" : Str)) = false) (c1 : (n1 == ("__classdict__" : Str)) = false) :
    FnOk P w K mg base CX (k + 1) fI fd [self, n1] (spF C [f1]) := by
  refine init_fn J (fun xs G Z W h => ?_) (fun X xs H Z W hK hm hN hs h => ?_) (fun env h => ?_) (fun env => rfl) (fun env => meth_eval env same rfl) (fun env => rfl)
  · obtain ⟨a, vs, rfl, hl, _⟩ := h
    simpa using hl
  · obtain ⟨a, vs, rfl, hl, hw, ea, q⟩ := h
    match vs, hl with
    | [v], _ =>
    have V0 : Vis X.env.scope self := by rw [hs]; exact .inl (J.loc _ List.mem_cons_self)
    have V1 : Vis X.env.scope n1 := by rw [hs]; exact .inl (J.loc _ (List.mem_cons_of_mem _ List.mem_cons_self))
    have N0 : X.N[0]? = some self := by rw [hN]; rfl
    have N1 : X.N[1]? = some n1 := by rw [hN]; rfl
    refine ⟨a, _, _, rfl, ea, pe_joined (.cons pe_str (.cons (pe_fmtN (pe_var N1 V1 d1 c1)) .nil)), pss_cons (ps_ost (pe_var N0 V0 d0 c0) (pe_var N1 V1 d1 c1) (by rfl)) pss_nil, ?_⟩
    refine msg_ok (.txt l1 (.val (v := v) rfl (hw _ List.mem_cons_self) .nil)) _ (by rw [sizeLine_eq]; have z : Str.empty.length = 0 := rfl; rw [z]; simp) fun out => ⟨by simp, ea, ?_⟩
    refine ⟨v, rfl, .ref a, rfl, a, C, rfl, by rw [hK]; exact J.T, by rw [hK]; exact hno, .inl ⟨ea, fun d hd hda => ?_⟩⟩
    have := q d hd hda
    rw [upd_comm (Ne.symm hda)] at this
    exact this
  · unfold interactive
    rw [h, J.kind]
    rfl
end
end MR.Su
/-! MR: raising an exception with fields; reading a field of one that is kept -/
namespace MR
open PySem L2 PL PySem.Spec PyProof.Rows Su
/-! ### pure -/
/-- what a message may hold -/
def wrtD : D → Bool
  | .str y => decide (y.length ≤ 1000)
  | .int i => decide (i.natAbs.log2 < 1920)
  | .none => true
  | _ => false
def sRaiseF (c : Str) (fs : List Str) (q : Qm) : Sm := fun ρ => (q ρ).bind fun ds => if ds.length = fs.length ∧ ds.all wrtD = true then some (.xc ⟨c, (fs.zip ds).reverse⟩, ρ) else Option.none
/-- slot i's exception, of one of these classes: its field -/
def rFld (i : Nat) (cs : List Str) (f : Str) : Rm := fun ρ => match ρ[i]? with
  | some (.ex x) => if x.cls ∈ cs then x.fs.lookup f else Option.none
  | _ => Option.none
variable [kf : KF]
theorem wrt_rp {H : Hp} {v : V} {d : D} (h : wrtD d = true) (r : Rp H v d) : Wrt v ∧ vD v = some d := by
  cases r with
  | non => exact ⟨.inr (.inr rfl), rfl⟩
  | int i => exact ⟨.inr (.inl ⟨i, rfl, of_decide_eq_true h⟩), rfl⟩
  | str y => exact ⟨.inl ⟨y, rfl, of_decide_eq_true h⟩, rfl⟩
  | _ => cases h
theorem wrt_all {H : Hp} : ∀ {vs : List V} {ds : List D}, ds.all wrtD = true → RpAll H vs ds → (∀ v ∈ vs, Wrt v) ∧ vs.map vD = ds.map some
  | [], [], _, _ => ⟨fun v h => (nomatch h), rfl⟩
  | v :: vs, d :: ds, h, .cons r rr => by
    rw [List.all_cons, Bool.and_eq_true] at h
    obtain ⟨a, b⟩ := wrt_rp h.1 r
    obtain ⟨c, e⟩ := wrt_all h.2 rr
    refine ⟨fun u hu => ?_, by rw [List.map_cons, List.map_cons, b, e]⟩
    rcases List.mem_cons.mp hu with rfl | hu
    · exact a
    · exact c u hu
theorem zip_vD : ∀ {fs : List Str} {vs : List V} {ds : List D}, vs.map vD = ds.map some → (fs.zip vs).map (fun p => (p.1, vD p.2)) = (fs.zip ds).map fun p => (p.1, some p.2)
  | [], _, _, _ => by simp
  | f :: fs, [], ds, h => by
    cases ds with
    | nil => rfl
    | cons d ds => cases h
  | f :: fs, v :: vs, ds, h => by
    cases ds with
    | nil => cases h
    | cons d ds =>
      rw [List.map_cons, List.map_cons] at h
      obtain ⟨h1, h2⟩ := List.cons.inj h
      rw [List.zip_cons_cons, List.zip_cons_cons, List.map_cons, List.map_cons, zip_vD h2, h1]
section
variable [wx : WXI]
variable {ρ : Env} {tl : TA} {q : Qm} {js : List Nat}
theorem c_raiseF {C : Addr} {c : Str} {fs : List Str} (hc : clsOf kf.K c = some C) (hn : fs ≠ []) (hl : fs.length ≤ 1000) (hq : CQ tl q) : CS js (fun _ σ H => tMkO C (spF C fs) [] tl σ H fun cls d H' => wx.W cls d σ H') (sRaiseF c fs q) := fun ρ fl ρ' hh => by
  simp only [sRaiseF, Option.bind_eq_some_iff] at hh
  obtain ⟨ds, h1, h2⟩ := hh
  split at h2
  · rename_i hd
    cases h2
    intro S0 H0 A0 S H σ F E hF hx o k
    refine hq _ _ h1 S0 H0 A0 S H [] [] σ _ rfl o fun vs S1 H1 x1 g => ?_
    have lv : vs.length = fs.length := (dpa_length g).trans hd.1
    obtain ⟨wr, ev⟩ := wrt_all hd.2 g
    refine ⟨by omega, fun a na => ⟨a, vs, by rw [List.append_nil], lv, wr, upd_same, fun d hdn hda => ?_⟩⟩
    rw [upd_ne hda] at hdn
    refine ⟨rfl, d, _, by rw [upd_ne (Ne.symm hda), upd_same], upd_same, hdn, ?_⟩
    have eu : upd (del (upd (upd (upd H1 a (exo a C none)) a (exo a C (some d))) d (exd d (fs.zip vs).reverse)) a) d (.xd (fs.zip vs).reverse) = upd H1 d (.xd (fs.zip vs).reverse) := by
      funext b
      by_cases hb : b = d
      · rw [hb, upd_same, upd_same]
      · rw [upd_ne hb, upd_ne hb]
        by_cases ha : b = a
        · rw [ha, del_same, na]
        · rw [del_ne ha, upd_ne hb, upd_ne ha, upd_ne ha]
    rw [eu]
    have o1 := o.ext x1
    have xn := Xt.newS (o := .xd (fs.zip vs).reverse) x1.sh hdn
    refine k (.ref C) (some d) _ _ σ (x1.ss.trans xn.ss) hx (o1.ext xn) ⟨C, rfl, hc, .inr ⟨?_, d, _, rfl, upd_same, ?_⟩, fun dd e => ?_⟩
    · intro z
      have := congrArg List.length z
      rw [List.length_reverse, List.length_zip, hd.1, Nat.min_self] at this
      exact hn (List.length_eq_zero_iff.mp this)
    · rw [List.map_reverse, List.map_reverse, zip_vD ev]
    · cases e
      exact o1.xt.dm d hdn
  · cases h2
end
/-! ### a field -/
def tFld (K : PySem.W.Frag) (f : Str) (te : TE) : TE := fun σ H Q => te σ H fun x H1 => ∃ (a C dd : Addr) (fs : List (Str × V)) (v : V), x = .ref a ∧ H1 a = some (exHO a C (some dd)) ∧ H1 dd = some (.xd fs) ∧ fs.lookup f = some v ∧ XfC K C ∧ PySem.W.findIn K (.ref C) f = some none ∧ Q v H1
omit kf in
theorem pe_fld {X : Cx} {e : Expr} {te : TE} {pos : Pos} {n : Str} (he : PE X e te) (hb : attributeBase e n X.env (eval e X.env) = eval e X.env := by rfl) : PE X (.Attribute e n pos) (tFld X.K n te) := by
  constructor
  intro pins s σ H Q I h
  refine attr_of hb (thn (he.run pins s σ H _ I h) fun u s1 hh => ?_)
  obtain ⟨x, H1, I1, rx, a, C, dd, fs, v, ex, ea, ed, l, T, hno, q⟩ := hh
  subst ex
  obtain rfl : u = Value.ref a := rx
  obtain ⟨oe, vs, ha, h1, h2, h3⟩ := exHO_at I1.hok ea
  have hx : ObjOk X.prog X.w H1 s1.heap dd (.xd fs) := I1.hok dd _ ed
  obtain ⟨mA, hns, hr⟩ := hx
  obtain ⟨od, ho, hl⟩ := lookIn_ns hns
  obtain ⟨u, hu, ru⟩ := RelO.some_of (v := v) (o := mA n) (by rw [← l]; exact hr n)
  have J : PySem.W.InstAt s1.heap a oe C (some od) := ⟨ha, h1, by unfold PySem.W.notCls; rw [h3], by rw [h2]; exact ho⟩
  exact HandSPX.exc_get I1.kIn J T.ga T.gg T.exC (PySem.W.findObj_own T.hdC hno rfl (by rw [hl, hu])) (handed_of ru) ⟨v, H1, I1.tok _, ru, q⟩
theorem fld_get {f : Str} {d : D} : ∀ {vfs : List (Str × V)} {fs : List (Str × D)}, vfs.map (fun p => (p.1, vD p.2)) = fs.map (fun p => (p.1, some p.2)) → fs.lookup f = some d → ∃ v, vfs.lookup f = some v ∧ vD v = some d
  | [], [], _, h => by cases h
  | (g, v) :: vfs, (g', d') :: fs, e, h => by
    rw [List.map_cons, List.map_cons] at e
    obtain ⟨e1, e2⟩ := List.cons.inj e
    have eg : g = g' := congrArg Prod.fst e1
    have ev : vD v = some d' := congrArg Prod.snd e1
    subst eg
    rw [List.lookup_cons] at h ⊢
    split at h
    · cases h
      exact ⟨v, rfl, ev⟩
    · exact fld_get e2 h
theorem c_fld {i : Nat} {cs : List Str} {f : Str} (hcs : ∀ n ∈ cs, ∃ C, clsOf kf.K n = some C ∧ XfC kf.K C ∧ PySem.W.findIn kf.K (.ref C) f = some none) : CR (tFld kf.K f (tVar i)) (rFld i cs f) := fun ρ x h S0 H0 A0 S H τσ τρ σ Q l o q => by
  unfold rFld at h
  split at h
  · rename_i y hy
    split at h
    · rename_i hm
      obtain ⟨C, c1, c2, c3⟩ := hcs _ hm
      obtain ⟨v, A, e1, e2⟩ := o.slot l hy (by intro z; cases z)
      cases e2 with
      | ex h1 h2 h3 =>
        rw [c1] at h1
        cases h1
        rcases h3 with ⟨z, _⟩ | ⟨_, dd, vfs, rfl, z2, z3⟩
        · rw [z] at h; cases h
        · obtain ⟨u, hu, hv⟩ := fld_get z3 h
          exact ⟨_, e1, _, C, dd, vfs, u, rfl, o.sh _ _ h2, o.sh _ _ z2, hu, c2, c3, q _ S H (.refl o.sh) (vD_dp hv)⟩
    · cases h
  · cases h
end MR
/-! MR: the classes with fields, as a text's ties want them -/
namespace MR
open PySem L2 PL PySem.Spec PyProof.Rows Su
/-- the __init__ in a class of the text -/
def clsInit (s : Stmt) : Stmt := match s with
  | .ClassDef _ _ _ b _ _ _ _ _ _ _ => b.getD 0 (.Pass ⟨0, 0, 0, 0⟩)
  | _ => .Pass ⟨0, 0, 0, 0⟩
/-- of its text -/
structure InitS (st : Stmt) (ps : List Str) : Prop where
  kind : (defScope st).kind = .function
  co : (defScope st).isCoroutine = false
  gen : (defScope st).isGenerator = false
  nocell : ∀ y ∈ (defScope st).names, y.2 ≠ .cell
  free : ∀ y ∈ (defScope st).names, y.2 = .free → y.1 = "__class__"
  sup : (defScope st).names.lookup ("super" : Str) = some .globalImplicit
  cls : (defScope st).names.lookup ("__class__" : Str) = some .free
  nd : ps.Nodup
  loc : ∀ y ∈ ps, (defScope st).names.lookup y = some .local
  first : ∃ ar : Arg, ((defArgs st).posonlyargs ++ (defArgs st).args).head? = some ar ∧ ps.head? = some ar.arg
theorem initC_mk {P : Program} {K : PySem.W.Frag} {mg : Str → Option Value} {C fI cc cda : Addr} {ps : List Str} {qual : Str} {st : Stmt} {oc dV kV doc pm ct cl ccl : Value} {od an cld cdd : Option Addr} {osl csl ccs : Array (Option Value)} {vs : Array Value} {file : Str} {tf : Tok} (S : InitS st ps) (top : (P.main.scope.names.lookup ("super" : Str)).isSome = false)
    (lk : K.lookup fI = some ⟨oc, od, .func (PySem.W.fnX "__init__" qual (defArgs st) (defBody st) (defScope st) [("__class__", cc)] dV kV doc pm an (.ref cda) ct), osl⟩)
    (cd : PySem.W.codeIn K (.ref cda) qual = true) (lc : K.lookup cc = some ⟨cl, cld, .cell (some (.ref C)), csl⟩) (lf : K.lookup cda = some ⟨ccl, cdd, .fields vs, ccs⟩) (hvs : vs[2]? = some (.str file tf)) (hfile : ((P.main.file : Str) == file) = true)
    (T : OexC K C) (nosup : mg "super" = none) (up : PySem.W.ks_superIn K C C "__init__" = some (some (.builtin "ValueError.__init__"))) (isB : PySem.W.subIn K (.ref C) (.type "ValueError") = some true) (self : PySem.W.mroIn K C (.ref C) = some true)
    (opq : PySem.W.nsIn K PySem.cStatics "thirdparty.any" = some none) :
    InitC P K mg C fI (PySem.W.fnX "__init__" qual (defArgs st) (defBody st) (defScope st) [("__class__", cc)] dV kV doc pm an (.ref cda) ct) ps qual (defArgs st) (defBody st) (defScope st) cc cda :=
  ⟨⟨oc, od, osl, dV, kV, doc, pm, an, ct, lk, rfl⟩, cd, ⟨cl, cld, csl, lc⟩, ⟨ccl, cdd, vs, ccs, file, tf, lf, hvs, hfile⟩, top, T, S.kind, S.co, S.gen, S.nocell, fun y h => S.free _ (PySem.mem_of_lookup h) rfl, S.sup, S.cls, S.nd, S.loc, S.first, nosup, up, isB, self, opq⟩
/-- an exception class with fields -/
structure ExF (P : Program) (K : PySem.W.Frag) (mg : Str → Option Value) (c : Str) (ps fs : List Str) where
  C : Addr
  f : Addr
  fd : FuncData
  T : OexC K C
  g : mg c = some (.ref C)
  n : clsOf K c = some C
  iC : PySem.W.findIn K (.ref C) "__init__" = some (some (.ref f))
  tI : PySem.W.typeIn K (.ref f) = some (.type "function")
  F : ∀ (w : World) (base : Heap) (k : Nat), FnOk P w K mg base CX0 (k + 1) f fd ps (spF C fs)
  b : Binds K fd ps []
  X : XfC K C
  no : ∀ x ∈ fs, PySem.W.findIn K (.ref C) x = some none
section
variable {X : Cx} {P : Program} {K : PySem.W.Frag} {mg : Str → Option Value} {c : Str} {ps fs : List Str} {W : WX} {e : Expr} {es : List Expr} {ta : TA} {p pos pos' : Pos}
theorem ps_raiseF (R : ExF P K mg c ps fs) (hP : X.prog = P) (hK : X.K = K) (hm : X.mg = mg) (hc : X.calm = true) (tk : Takes X W) (hr : Room 2 X.A) (hg : Gl X c) (ha : PA X (e :: es) ta) (hdb : (c == ("__debug__" : Str)) = false := by decide)
    (he : starEach (e :: es) X.env = (false, eval e X.env) :: starEach es X.env := by rfl) (hpl : (backTo pos (starEach es X.env)).any (·.1) = false := by rfl) :
    PS X (.Raise (some (.Call (.Name c p) (e :: es) [] pos)) none pos') (fun _ σ H => tMkO R.C (spF R.C fs) [] ta σ H fun cls d H' => W cls d σ H') := by
  subst hP hK hm
  exact ps_raise hc tk (pmk_oex (CX := CX0) (ds := []) R.T R.iC R.tI (R.F X.w X.base 0) hr R.b .nil (fun _ _ _ _ _ _ _ z => z.elim) hg R.g ha hdb he hpl)
end
end MR
/-! MR: repr of data that holds empty dicts -/
namespace MR
open PySem L2 PL PySem.Spec PyProof.Rows
mutual
def layN : D → Bool
  | .none => true
  | .bool _ => true
  | .int _ => true
  | .str _ => true
  | .list xs => layNAll xs
  | .tuple xs => layNAll xs
  | .dict kvs => kvs.isEmpty
def layNAll : List D → Bool
  | [] => true
  | x :: xs => layN x && layNAll xs
end
def gReprN (d : D) : Option D := if layN d && decide (d.depth ≤ 60) && d.showable && decide (d.shown.length ≤ sizeLine) then some (.str d.shown) else Option.none
def rReprN (a : Rm) : Rm := fun ρ => (a ρ).bind gReprN
theorem shown_in {xs : List D} (h : (listText (PyData.shownAll xs)).length ≤ sizeLine) : ∀ t ∈ PyData.shownAll xs, t.length ≤ sizeLine := fun t ht => Nat.le_trans (listText_mem_le ht) h
theorem shown_inT {xs : List D} (h : (tupleText (PyData.shownAll xs)).length ≤ sizeLine) : ∀ t ∈ PyData.shownAll xs, t.length ≤ sizeLine := fun t ht => Nat.le_trans (tupleText_mem_le ht) h
variable [kf : KF]
section
variable {X : Cx} {pins : List (Addr × Obj)} {σ : L2.St} {H : Hp} {s : Shared}
theorem noD_kvs {kvs : List (List Key × V)} (g : dctD keyTD kvs = some []) : kvs = [] := by
  cases kvs with
  | nil => rfl
  | cons k kvs =>
    simp only [dctD, Option.bind_eq_some_iff, Option.map_eq_some_iff] at g
    obtain ⟨_, _, _, _, e⟩ := g
    cases e
theorem dict_at (I : L2.Inv X pins σ H s) {a : Addr} (e : H a = some (.dT [])) : (a == sysModules) = false ∧ ∃ o ep, s.heap.get? a = some o ∧ o.cls = .type "dict" ∧ o.data = .dict #[] ep := by
  obtain ⟨_, hs, xs', pr, o, es, ep, ho, hx, hdt, he, _⟩ := (show ObjOk X.prog X.w H s.heap a (.dT []) from I.hok a _ e)
  have hx0 : xs' = [] := by
    have := Paired.length pr
    cases xs' with
    | nil => rfl
    | cons x xs' => simp at this
  subst hx0
  have he0 : es = #[] := Array.eq_empty_of_size_eq_zero (by simpa using size_of_entries he)
  subst he0
  exact ⟨hs, o, ep, ho, hx.1, hdt⟩
mutual
theorem shows_of (I : L2.Inv X pins σ H s) (hK : X.K = kf.K) : ∀ (d : D) (v : V) (u : Value), Rp H v d → layN d = true → d.showable = true → d.shown.length ≤ sizeLine → RelV v u →
    ∃ as, Reads s.heap u d as ∧ ∃ bs, ReadAtMost s.heap d.depth bs ∧ ReprK X.prog X.w bs s.heap d.depth u d.shown
  | .none, _, _, h, _, _, _, r => by
    cases h
    cases r
    exact ⟨_, .none, [], (fun _ h => nomatch h), by simp only [PyData.shown]; exact .of_is ReprIs.none _ _ _⟩
  | .bool b, _, _, h, _, _, _, r => by
    cases h
    cases r
    exact ⟨_, .bool b, [], (fun _ h => nomatch h), by simp only [PyData.shown]; exact .of_is (ReprIs.bool b) _ _ _⟩
  | .int i, _, _, h, _, hs, _, r => by
    cases h
    obtain ⟨t, rfl⟩ := r
    exact ⟨_, .int i t, [], (fun _ h => nomatch h), by simp only [PyData.shown]; exact .of_is (ReprIs.int t (by simpa [PyData.showable] using hs)) _ _ _⟩
  | .str x, _, _, h, _, _, hz, r => by
    cases h
    obtain ⟨t, rfl⟩ := r
    exact ⟨_, .str x t, [], (fun _ h => nomatch h), by simp only [PyData.shown]; exact .of_is (ReprIs.str x t (by simpa only [PyData.shown] using hz)) _ _ _⟩
  | .list ds, _, _, h, hl, hs, hz, r => by
    cases h with
    | lst g1 g2 =>
      cases r
      rw [← hK] at g1
      obtain ⟨its, rv, ⟨o, n, ho, hc, _, hd⟩, _⟩ := I.list g1
      have hz' : (listText (PyData.shownAll ds)).length ≤ sizeLine := by simpa only [PyData.shown] using hz
      obtain ⟨as, ra, bs, hb, k⟩ := shows_all I hK ds _ its g2 (by simpa [layN] using hl) (by simpa [PyData.showable] using hs) (shown_in hz') rv
      have r0 := Reads.list ho hc hd ra
      have na := not_mem_of_deeper r0 (by simp only [PyData.depth]; omega) hb
      refine ⟨_, r0, _, ReadAtMost.cons r0 (by simp only [PyData.depth]; omega) hb, ?_⟩
      simp only [PyData.depth, PyData.shown]
      cases its with
      | nil =>
        cases ra
        simp only [PyData.shownAll, listText_nil]
        exact ReprK.listEmpty ho hc hd
      | cons x l => exact ReprK.list ho hc hd na (by simpa using k.length_eq) fun i y e => k.item i y (by simpa using e)
  | .tuple ds, _, _, h, hl, hs, hz, r => by
    cases h with
    | tup g1 g2 =>
      cases r
      obtain ⟨its, rv, ⟨o, ho, hc, n, hd⟩, _⟩ := I.tuple (.inl (.inl g1))
      have hz' : (tupleText (PyData.shownAll ds)).length ≤ sizeLine := by simpa only [PyData.shown] using hz
      obtain ⟨as, ra, bs, hb, k⟩ := shows_all I hK ds _ its g2 (by simpa [layN] using hl) (by simpa [PyData.showable] using hs) (shown_inT hz') rv
      have r0 := Reads.tuple ho hc hd ra
      have na := not_mem_of_deeper r0 (by simp only [PyData.depth]; omega) hb
      refine ⟨_, r0, _, ReadAtMost.cons r0 (by simp only [PyData.depth]; omega) hb, ?_⟩
      simp only [PyData.depth, PyData.shown]
      exact ReprK.tuple ho hc hd na k
  | .dict kvs, _, _, h, hl, hs, hz, r => by
    have e0 : kvs = [] := by simpa [layN] using hl
    subst e0
    cases h with
    | dcK _ ne _ => exact absurd rfl ne
    | dcT g1 g2 =>
      cases r
      rw [noD_kvs g2] at g1
      obtain ⟨hsy, o, ep, ho, hc, hd⟩ := dict_at I g1
      have r0 : Reads s.heap (.ref _) (.dict []) _ := Reads.dict (h := s.heap) ho hc hd .nil .nil
      refine ⟨_, r0, _, ReadAtMost.cons r0 (n := 0) (by simp only [PyData.depth]; omega) (bs := []) (fun _ h => nomatch h), ?_⟩
      simp only [PyData.depth, PyData.shown, PyData.shownKv]
      exact ReprK.dict ho hc hd hsy (fun h => nomatch h) .nil
theorem shows_all (I : L2.Inv X pins σ H s) (hK : X.K = kf.K) : ∀ (ds : List D) (vs : List V) (us : List Value), RpAll H vs ds → layNAll ds = true → PyData.showableAll ds = true → (∀ t ∈ PyData.shownAll ds, t.length ≤ sizeLine) → Vals vs us →
    ∃ as, ReadsAll s.heap us ds as ∧ ∃ bs, ReadAtMost s.heap (PyData.depthAll ds) bs ∧ ReprAllK X.prog X.w bs s.heap (PyData.depthAll ds) us (PyData.shownAll ds)
  | [], _, _, h, _, _, _, r => by
    cases h
    cases r
    exact ⟨_, .nil, [], (fun _ h => nomatch h), by simp only [PyData.shownAll]; exact .nil⟩
  | d :: ds, _, _, h, hl, hs, hz, r => by
    cases h with
    | cons h1 h2 =>
      cases r with
      | cons r1 r2 =>
        have hl' : layN d = true ∧ layNAll ds = true := by simpa [layNAll] using hl
        have hs' : d.showable = true ∧ PyData.showableAll ds = true := by simpa [PyData.showableAll] using hs
        simp only [PyData.shownAll, List.mem_cons, forall_eq_or_imp] at hz
        obtain ⟨as, ra, b1, hb1, k1⟩ := shows_of I hK d _ _ h1 hl'.1 hs'.1 hz.1 r1
        obtain ⟨as2, ra2, b2, hb2, k2⟩ := shows_all I hK ds _ _ h2 hl'.2 hs'.2 hz.2 r2
        refine ⟨_, .cons ra ra2, b1 ++ b2, fun b hm => ?_, ?_⟩
        · simp only [PyData.depthAll]
          rcases List.mem_append.mp hm with hm | hm
          · obtain ⟨d', as', r', l⟩ := hb1 b hm
            exact ⟨d', as', r', by omega⟩
          · obtain ⟨d', as', r', l⟩ := hb2 b hm
            exact ⟨d', as', r', by omega⟩
        · simp only [PyData.depthAll, PyData.shownAll]
          exact .cons ((k1.more fun b hb => List.mem_append_left _ hb).level_le (by omega)) (k2.more_le (fun b hb => List.mem_append_right _ hb) (by omega))
end
end
def rReprNV : List V → Hp → VK → Prop := fun xs H Q => ∃ x d, xs = [x] ∧ Rp H x d ∧ layN d = true ∧ d.depth ≤ 60 ∧ d.showable = true ∧ d.shown.length ≤ sizeLine ∧ Q (.str d.shown) H
theorem cr_reprN {X : Cx} (hK : X.K = kf.K) (hg : X.A.guards = some []) (hu : X.A.units + 64 < cLine) : CallR X (.builtin "repr") rReprNV := by
  intro pins s σ H xs us Q I r h
  obtain ⟨x, d, rfl, hd, hl, dep, hs, hz, q⟩ := h
  obtain ⟨u, rfl, ru⟩ := vals1 r
  obtain ⟨as, rr, bs, hb, k⟩ := shows_of I hK d x u hd hl hs hz ru
  have fin : ∀ h' u' tk, (∀ b o, s.heap.get? b = some o → h'.get? b = some o) → EP X pins σ Q (.str d.shown u') { s with heap := h', toks := tk } := fun h' u' tk k => ⟨.str d.shown, H, I.kept k, ⟨u', rfl⟩, q⟩
  have fin0 : ∀ tk', EP X pins σ Q (.str d.shown tk') { s with toks := s.toks + 1 } := fun tk' => ⟨.str d.shown, H, I.tok _, ⟨tk', rfl⟩, q⟩
  have same : ∀ b o, s.heap.get? b = some o → s.heap.get? b = some o := fun _ _ e => e
  cases rr with
  | none =>
    refine PySem.P.repr_of_none ?_
    simpa [PyData.shown_none] using fin0 s.toks
  | bool b =>
    refine PySem.P.repr_of_bool ?_
    simpa [PyData.shown_bool] using fin0 s.toks
  | int i t =>
    refine PySem.P.repr_of_int (by simpa [PyData.showable] using hs) ?_
    simpa [PyData.shown_int] using fin0 s.toks
  | str x t =>
    refine PySem.P.repr_of_str ?_ ?_
    · simpa [PyData.shown_str] using fin0 s.toks
    · simpa [PyData.shown_str] using hz
  | @list a o vs n xs as1 ho hc hv h4 =>
    cases hd with
    | @lst a' ys _ g1 g2 =>
      cases (show Value.ref a = Value.ref a' from ru)
      have ty : s.TypeIs (.ref a) "list" := ⟨_, ho, hc⟩
      have rv : ∃ its, Vals ys its ∧ vs.toList = its := by
        rw [← hK] at g1
        obtain ⟨its, rv, ⟨o', n', ho', _, _, hd'⟩, _⟩ := I.list g1
        rw [ho'] at ho
        cases ho
        rw [hd'] at hv
        cases hv
        exact ⟨its, rv, by simp⟩
      obtain ⟨its, rv, ei⟩ := rv
      have hz' : (listText (PyData.shownAll xs)).length ≤ sizeLine := by simpa only [PyData.shown] using hz
      obtain ⟨as, ra, bs, hb, k⟩ := shows_all I hK xs _ its g2 (by simpa [layN] using hl) (by simpa [PyData.showable] using hs) (shown_in hz') rv
      have na := not_mem_of_deeper (Reads.list ho hc hv h4) (by simp only [PyData.depth]; omega) hb
      have es : vs = its.toArray := by rw [← ei]
      subst es
      refine call_repr_slot (by omega) ty F.slot_list_repr.toG ?_
      simp only [PyData.depth] at dep
      cases its with
      | nil =>
        cases ra
        exact call_list_repr_empty ty ho hv ⟨_, _, rfl, by have := fin0 s.toks; simpa [PyData.shown, PyData.shownAll, listText_nil] using this⟩
      | cons y l => exact call_list_reprK (h₀ := s.heap) ho hc hv na (by simpa using k.length_eq) (fun i y e => k.item i y (by simpa using e)) hg (fun b _ => Clear.nil b) (by show X.A.units + 1 + _ < cLine; omega) same (fun h' u tk k => ⟨_, _, rfl, by have := fin h' u tk k; simpa [PyData.shown] using this⟩) hz'
  | @tuple a o vs n xs as1 ho hc hv h4 =>
    cases hd with
    | @tup a' ys _ g1 g2 =>
      cases (show Value.ref a = Value.ref a' from ru)
      have ty : s.TypeIs (.ref a) "tuple" := ⟨_, ho, hc⟩
      have rv : ∃ its, Vals ys its ∧ vs.toList = its := by
        obtain ⟨its, rv, ⟨o', ho', _, n', hd'⟩, _⟩ := I.tuple (.inl (.inl g1))
        rw [ho'] at ho
        cases ho
        rw [hd'] at hv
        cases hv
        exact ⟨its, rv, by simp⟩
      obtain ⟨its, rv, ei⟩ := rv
      have hz' : (tupleText (PyData.shownAll xs)).length ≤ sizeLine := by simpa only [PyData.shown] using hz
      obtain ⟨as, ra, bs, hb, k⟩ := shows_all I hK xs _ its g2 (by simpa [layN] using hl) (by simpa [PyData.showable] using hs) (shown_inT hz') rv
      have na := not_mem_of_deeper (Reads.tuple ho hc hv h4) (by simp only [PyData.depth]; omega) hb
      rw [← ei] at k
      refine call_repr_slot (by omega) ty F.slot_tuple_repr ?_
      simp only [PyData.depth] at dep
      exact call_tuple_reprK (h₀ := s.heap) ho hc hv na k hg (fun b _ => Clear.nil b) (by show X.A.units + 1 + _ < cLine; omega) same (fun h' u tk k => ⟨_, _, rfl, by have := fin h' u tk k; simpa [PyData.shown] using this⟩) hz'
  | @dict a o es n kvs as1 bs1 ho hc hv h4 h5 =>
    have e0 : kvs = [] := by simpa [layN] using hl
    subst e0
    cases hd with
    | dcK _ ne _ => exact absurd rfl ne
    | dcT g1 g2 =>
      rw [noD_kvs g2] at g1
      exact cr_reprE hg hu pins s σ H _ _ Q I r (.inr ⟨_, rfl, g1, by simpa [noD, PyData.shown] using q⟩)
theorem c_reprN {ta : TE} {a : Rm} (ha : CR ta a) : CR (tCB rReprNV (tCons ta tNil)) (rReprN a) := fun ρ x h => by
  simp only [rReprN, Option.bind_eq_some_iff] at h
  obtain ⟨d, h1, h2⟩ := h
  unfold gReprN at h2
  split at h2
  · rename_i hc
    simp only [Bool.and_eq_true, decide_eq_true_eq] at hc
    cases h2
    exact fun S0 H0 A0 S H τσ τρ σ Q l o q => ha _ _ h1 S0 H0 A0 S H τσ τρ σ _ l o fun v S1 H1 x1 r1 => ⟨v, d, rfl, r1, hc.1.1.1, hc.1.1.2, hc.1.2, hc.2, q _ S1 H1 x1 (.str _)⟩
  · cases h2
end MR
namespace MR
open PySem L2 PL
section
open PyProof.Rows
variable {X : Cx} {a b c d : Expr} {ta tb tc td : TE} {pos : Pos}
theorem pt_ch3 {op op' op'' : CmpOp} {r r' r'' : R2} (ho : OpR X (compareOp op) r) (ho' : OpR X (compareOp op') r') (ho'' : OpR X (compareOp op'') r'') (ha : PE X a ta) (hb : PE X b tb) (hc : PE X c tc) (hd : PE X d td)
    (hm : lastMarks [op, op', op''] [b, c, d] = false := by with_unfolding_all rfl) : PT X (.Compare a [op, op', op''] [b, c, d] pos) (tTest (tCh3 r r' r'' ta tb tc td)) := by
  refine ⟨fun pins s σ H Q I h => ?_⟩
  refine isTrue_chain (thn (ha.run pins s σ H _ I h) fun v1 s1 ⟨x, H1, I1, r1, q1⟩ => test_link (thn (hb.run pins s1 σ H1 _ I1 q1) fun v2 s2 ⟨y, H2, I2, r2, q2⟩ =>
    thn (ho pins s2 σ H2 x y v1 v2 _ I2 r1 r2 q2) fun v3 s3 ⟨z, H3, I3, r3, k, e, q3⟩ => ?_)) hm
  subst e
  cases r3
  refine wpAny_truthy_bool ?_
  cases k with
  | false =>
    obtain ⟨k', e', q'⟩ := (show ∃ k, V.bl false = V.bl k ∧ Q k H3 from q3)
    cases e'
    exact ite_ff ⟨H3, I3, q'⟩
  | true =>
    refine ite_tt (test_link (thn (hc.run pins s3 σ H3 _ I3 q3) fun v4 s4 ⟨z4, H4, I4, r4, q4⟩ =>
      thn (ho' pins s4 σ H4 y z4 v2 v4 _ I4 r2 r4 q4) fun v5 s5 ⟨z5, H5, I5, r5, k5, e5, q5⟩ => ?_))
    subst e5
    cases r5
    refine wpAny_truthy_bool ?_
    cases k5 with
    | false =>
      obtain ⟨k', e', q'⟩ := (show ∃ k, V.bl false = V.bl k ∧ Q k H5 from q5)
      cases e'
      exact ite_ff ⟨H5, I5, q'⟩
    | true =>
      refine ite_tt (test_last (thn (hd.run pins s5 σ H5 _ I5 q5) fun v6 s6 ⟨z6, H6, I6, r6, q6⟩ => thn (ho'' pins s6 σ H6 z4 z6 v4 v6 _ I6 r4 r6 q6) fun v7 s7 ⟨z7, H7, I7, r7, k7, e7, q7⟩ => ?_))
      subst e7
      cases r7
      exact wpAny_truthy_bool ⟨H7, I7, q7⟩
end
/-- a part of a list up to what is told by a step that may change slots -/
def ySlD (a : Dm) (lo : Cm) (hi : Dm) : Ym := fun ρ => (a ρ).bind fun p => (asL p.1).bind fun xs => (lo p.2).bind fun l => (hi p.2).bind fun q => (asInt q.1).map fun h => (lstO (cutD xs l (some h)), q.2)
section
variable [kf : KF] {ta th : TE} {tol : TO} {dm dh : Dm} {lo : Cm}
theorem c_yslD (ha : CD ta dm) (hl : CC tol lo) (hh : CD th dh) : CY (tSl (rSlL kf.K) ta tol (tPart th)) (ySlD dm lo dh) := fun ρ r ρ' h => by
  simp only [ySlD, Option.bind_eq_some_iff, Option.map_eq_some_iff] at h
  obtain ⟨⟨d, ρ1⟩, h1, xs, h2, i, h3, ⟨e, ρ2⟩, h4, n, h5, h6⟩ := h
  cases h6
  have ed := asL_some h2
  simp only at ed
  subst ed
  have ee : e = .int n := by
    simp only at h5
    cases e <;> simp [asInt] at h5
    rw [h5]
  subst ee
  refine fun S0 H0 A0 S H τσ τρ σ Q l o q => ha _ _ _ h1 S0 H0 A0 S H τσ τρ σ _ l o fun v S1 H1 s1 o1 r1 => hl _ _ h3 S0 H0 A0 S1 H1 τσ τρ σ _ l o1 fun S2 H2 x2 => hh _ _ _ h4 S0 H0 A0 S2 H2 τσ τρ σ _ l (o1.ext x2) fun u S3 H3 s3 o3 r3 => ?_
  cases r3
  refine ⟨_, rfl, ?_⟩
  have s13 := x2.ss.trans s3
  have r1' := dp_mono s13 _ _ r1
  cases r1' with
  | lst k1 k2 =>
    exact ⟨_, _, rfl, o3.sh.seq k1, fun p hp => own_lst o3.sh hp (cut_rp k2 i (some n)) fun v' S' H' A xt g nd fr => q v' S' H' (s1.trans (s13.trans xt.ss)) (o3.push xt g nd fr)⟩
theorem run_setitemD {te tb : TE} {ρ ρ1 ρ2 : Env} {r : OT} {ts us : List OT} {i : Nat} {n : Int} {j : Nat} {js : List Nat} (he : EvY te ρ r ρ1) (h0 : ρ1[i]? = some (.nd .lst us)) (hi : EvD tb ρ1 (.int n) ρ2) (ht : ρ2[i]? = some (.nd .lst ts)) (hj : ixN ts.length n = some j) (hn : r ≠ .no) :
    RunS js (tAsg te (L2.gSub (tVar i) tb rSetL)) ρ .nx (ρ2.set i (.nd .lst (ts.set j r))) := fun S0 H0 A0 S H σ F E hF hx o kk =>
  he S0 H0 A0 S H [] [] σ _ rfl o fun y S1 H1 s1 o1 => by
    obtain ⟨w0, a, vs, B, C, g1, g2, _, g3, _⟩ := Ok.rewrite (p := []) (τσ := []) (τρ := []) rfl o1 h0 rfl rfl
    simp only [follow, Option.some.injEq] at g2
    subst g2
    refine ⟨_, g1, hi S0 H0 A0 S1 H1 [some y] [r] σ _ rfl o1 fun u S3 H3 s3 o3 h3 => ?_⟩
    cases h3
    obtain ⟨w0', a', vs', B', C', g1', g2', g5, g3', g6, g7, g8, g9, g10⟩ := Ok.rewrite (p := []) (τσ := []) (τρ := []) rfl o3 ht rfl rfl
    rw [g1] at g1'; cases g1'
    simp only [follow, Option.some.injEq] at g2'
    cases g2'
    cases g8 with
    | no => exact (hn rfl).elim
    | is g8 =>
      obtain ⟨B2, q1, q2, q3⟩ := g7.put (j := j) g8 g9
      refine ⟨a, vs', n, j, rfl, rfl, g3', by rw [g7.len]; exact hj, ?_⟩
      have := g10 (k' := .lst) (y' := Option.none) (r' := .no) (C' := []) rfl trivial q1 .no (by simpa using q2) (by simpa using q3)
      exact kk S3 _ σ (s1.trans s3) hx this.drop
/-- an item of a slot's list set, at an index that is told by a step that may change slots -/
def sSetD (i : Nat) (dm : Dm) (y : Ym) : Sm := fun ρ => (y ρ).bind fun p => if isNo p.1 then Option.none else match p.2[i]? with
  | some (.nd .lst _) => (dm p.2).bind fun q => match q.1 with
    | .int n => match q.2[i]? with
      | some (.nd .lst ts) => (ixN ts.length n).map fun j => (.nx, q.2.set i (.nd .lst (ts.set j p.1)))
      | _ => Option.none
    | _ => Option.none
  | _ => Option.none
theorem c_setD {te tb : TE} {dm : Dm} {y : Ym} {i : Nat} {js : List Nat} (hx : CD tb dm) (he : CY te y) : CS js (tAsg te (L2.gSub (tVar i) tb rSetL)) (sSetD i dm y) := fun ρ fl ρ' e => by
  simp only [sSetD, Option.bind_eq_some_iff] at e
  obtain ⟨⟨r, ρ1⟩, h0, e⟩ := e
  split at e
  · cases e
  · rename_i hn
    split at e
    · rename_i us hu
      simp only [Option.bind_eq_some_iff] at e
      obtain ⟨⟨d, ρ2⟩, h1, e⟩ := e
      split at e
      · rename_i n hd
        simp only at hd
        subst hd
        split at e
        · rename_i ts ht
          simp only [Option.map_eq_some_iff] at e
          obtain ⟨j, h5, h6⟩ := e
          cases h6
          exact run_setitemD (he _ _ _ h0) hu (hx _ _ _ h1) ht h5 (isNo_false hn)
        · cases e
      · cases e
    · cases e
end
end MR
/-! calls that leave a parameter to its default -/
namespace MR
open PySem L2 PL
end MR
/-! MR: a part of a slot's tuple: looped over, its items changed; frozen for one statement; and a list that takes up what one doesn't own -/
namespace MR
open PySem L2 PL
variable [kf : KF]
section
variable {S H S' H' S0 H0 : Hp} {A0 : List Addr} {σ τσ : St} {ρ τρ : Env}
/-- all tuples stay from now on -/
theorem Ok.tups (o : Ok S0 H0 A0 S H σ ρ) : ∃ S', Same S S' ∧ (∀ p ws, H p = some (.tup ws) → S' p = some (.tup ws)) ∧ Ok S0 H0 A0 S' H σ ρ := by
  obtain ⟨A, he, nd, fr⟩ := o.env
  have ss := frz_same o.sh (A := [])
  refine ⟨frz S H [], ss, fun p ws e => frz_tup e, ⟨o.xt.hh, o.xt.dm, o.xt.tp, o.xt.ss.trans ss, frz_sub o.sh, fun b u eb => ?_⟩, A, he.keep ss (fun _ _ z => z) (fun b hb => ⟨?_, rfl⟩), nd, fr⟩
  · rcases frz_nw eb with z | z | ⟨xs, z⟩
    · exact o.xt.nw b u z
    · cases z
    · by_cases hb : b ∈ A0
      · exact .inr (.inl hb)
      · exact .inr (.inr fun w hw => by
          have := o.xt.hh b w hb hw
          rw [z] at this
          exact ⟨xs, (Option.some.inj this).symm⟩)
  · obtain ⟨z1, u, hu, hn⟩ := he.at b hb
    rw [frz_out (by simp) fun xs z => by rw [hu] at z; exact hn xs (Option.some.inj z)]
    exact z1
end
end MR
/-! MR: a part of a slot's tuple: looped over with its items one's own -/
namespace MR
open PySem L2 PL
end MR
/-! MR: a list that takes up a part one doesn't own; a part read; a part frozen for one statement; try .. except C: .. -/
namespace MR
open PySem L2 PL
end MR
/-! MR: (x, e): x is handed over once e is made -/
namespace MR
open PySem L2 PL
variable [kf : KF]
section
variable {S H S' H' S0 H0 : Hp} {A0 : List Addr} {σ τσ : St} {ρ τρ ρ1 : Env} {te : TE} {r t : OT} {i : Nat}
theorem Ok.swap {v w : Option V} {r t : OT} (o : Ok S0 H0 A0 S H (v :: w :: σ) (t :: r :: ρ)) : Ok S0 H0 A0 S H (w :: v :: σ) (r :: t :: ρ) := by
  obtain ⟨A, he, nd, fr⟩ := o.env
  cases he with
  | @cons _ _ A1 _ _ B1 p1 p2 =>
    cases p2 with
    | @cons _ _ A2 _ _ B2 q1 q2 =>
      have perm : (A2 ++ (A1 ++ B2)).Perm (A1 ++ (A2 ++ B2)) := by
        rw [← List.append_assoc, ← List.append_assoc]
        exact List.perm_append_comm.append_right B2
      exact ⟨o.xt, A2 ++ (A1 ++ B2), .cons q1 (.cons p1 q2), perm.nodup_iff.mpr nd, fun b hb => fr b (perm.mem_iff.mp hb)⟩
end
end MR
/-! MR: a statement runs beside what it can't reach -/
namespace MR
open PySem L2 PL
variable [kf : KF] [wx : WXI]
section
variable {S H S' H' S0 H0 : Hp} {A0 A1 : List Addr} {σ : St} {ρ ρ' : Env}
theorem Xa.comp (x : Xa A0 S0 H0 S H) (hA : ∀ a ∈ A1, a ∈ A0 ∨ H0 a = none) (y : Xa A1 S H S' H') : Xa A0 S0 H0 S' H' where
  hh b o nb e := y.hh b o (fun z => by
    rcases hA b z with q | q
    · exact nb q
    · rw [q] at e; cases e) (x.hh b o nb e)
  dm b e := x.dm b (y.dm b e)
  tp b xs e := y.tp b xs (x.tp b xs e)
  ss := x.ss.trans y.ss
  sh := y.sh
  nw b o e := by
    rcases y.nw b o e with z | z | z
    · exact x.nw b o z
    · rcases hA b z with q | q
      · exact .inr (.inl q)
      · exact .inr (.inr fun u hu => by rw [q] at hu; cases hu)
    · by_cases nb : b ∈ A0
      · exact .inr (.inl nb)
      · exact .inr (.inr fun u hu => z u (x.hh b u nb hu))
end
end MR
/-! MR: a part of a slot's tuple, looped over and still one's own afterwards -/
namespace MR
open PySem L2 PL
end MR
/-! MR: a part of a slot's tuple is laid aside while a statement runs -/
namespace MR
open PySem L2 PL
end MR
namespace z09
open PySem L2 PL MR SH
/-- _law_odd: 0 _law_pool_here 1 _law_web_here 2 _law_many 3 _law_ties 4 _law_some -/
noncomputable def B__law_odd : Sm :=
 (sSeq (sAsgG (gmTup (gsCons (gmName 2) (gsCons (gmName 3) gsNil))) (dY (yVar 1)))
 (sSeq (sAsg 4 (yLst (oCons (yR (rC .none)) (oCons (yR (rC (.int 5))) (oCons (yR (rC (.bool true))) (oCons (yR (rC (.str "2 0-1"))) (oCons (yLst (oCons (yVar 2) (oCons (yVar 3) oNil))) (oCons (yTup (oCons (yVar 2) oNil)) (oCons (yTup (oCons (yVar 2) (oCons (yVar 3) (oCons (yR (rC (.int 0))) oNil)))) (oCons (yTup (oCons (yVar 2) (oCons (yCbA GTuple (qCons (rVar 3) qNil) (lCons (dY (yVar 3)) lNil)) oNil))) (oCons (yTup (oCons (yR (rC (.bool true))) (oCons (yLst oNil) oNil))) (oCons (yTup (oCons (yR (rC (.int 0))) (oCons (yLst oNil) oNil))) oNil))))))))))))
 (sSeq (sAsg 4 (yOpA GCat (rVar 4) (rLst (qCons (rTup (qCons (rC (.int 41)) (qCons (rLst qNil) qNil))) (qCons (rTup (qCons (rCb gStrI (qCons (rVar 2) qNil)) (qCons (rVar 3) qNil))) (qCons (rTup (qCons (rVar 2) (qCons (rRevL (rVar 3)) qNil))) (qCons (rTup (qCons (rVar 2) (qCons (rOpZ GCat (rVar 3) (rSl (rVar 3) cNone (cSome (rC (.int 1))))) qNil))) (qCons (rTup (qCons (rVar 2) (qCons (rOpZ GCat (rLst (qCons (rTup (qCons (rC (.int 0)) (qCons (rC (.int 0)) qNil))) qNil)) (rVar 3)) qNil))) qNil)))))) (dY (yVar 4)) (dY (yLst (oCons (yTup (oCons (yR (rC (.int 41))) (oCons (yLst oNil) oNil))) (oCons (yTup (oCons (yR (rCb gStrI (qCons (rVar 2) qNil))) (oCons (yVar 3) oNil))) (oCons (yTup (oCons (yVar 2) (oCons (yRevLA (rVar 3) (dY (yVar 3))) oNil))) (oCons (yTup (oCons (yVar 2) (oCons (yOpA GCat (rVar 3) (rSl (rVar 3) cNone (cSome (rC (.int 1)))) (dY (yVar 3)) (dY (ySlA (rVar 3) (dY (yVar 3)) cNone (cSome (rC (.int 1)))))) oNil))) (oCons (yTup (oCons (yVar 2) (oCons (yOpA GCat (rLst (qCons (rTup (qCons (rC (.int 0)) (qCons (rC (.int 0)) qNil))) qNil)) (rVar 3) (dY (yLst (oCons (yTup (oCons (yR (rC (.int 0))) (oCons (yR (rC (.int 0))) oNil))) oNil))) (dY (yVar 3))) oNil))) oNil)))))))))
 (sSeq (sAsg 4 (yOpA GCat (rVar 4) (rLst (qCons (rTup (qCons (rVar 2) (qCons (rOpZ GCat (rVar 3) (rLst (qCons (rTup (qCons (rOp gSub (rVar 2) (rC (.int 1))) (qCons (rVar 2) qNil))) qNil))) qNil))) (qCons (rTup (qCons (rVar 2) (qCons (rLst (qCons (rLst (qCons (rC (.int 0)) (qCons (rC (.int 1)) qNil))) qNil)) qNil))) (qCons (rTup (qCons (rVar 2) (qCons (rLst (qCons (rTup (qCons (rC (.int 0)) (qCons (rC (.bool true)) qNil))) qNil)) qNil))) (qCons (rTup (qCons (rVar 2) (qCons (rLst (qCons (rTup (qCons (rC (.int 0)) (qCons (rC (.int 1)) (qCons (rC (.int 2)) qNil)))) qNil)) qNil))) qNil))))) (dY (yVar 4)) (dY (yLst (oCons (yTup (oCons (yVar 2) (oCons (yOpA GCat (rVar 3) (rLst (qCons (rTup (qCons (rOp gSub (rVar 2) (rC (.int 1))) (qCons (rVar 2) qNil))) qNil)) (dY (yVar 3)) (dY (yLst (oCons (yTup (oCons (yR (rOp gSub (rVar 2) (rC (.int 1)))) (oCons (yVar 2) oNil))) oNil)))) oNil))) (oCons (yTup (oCons (yVar 2) (oCons (yLst (oCons (yLst (oCons (yR (rC (.int 0))) (oCons (yR (rC (.int 1))) oNil))) oNil)) oNil))) (oCons (yTup (oCons (yVar 2) (oCons (yLst (oCons (yTup (oCons (yR (rC (.int 0))) (oCons (yR (rC (.bool true))) oNil))) oNil)) oNil))) (oCons (yTup (oCons (yVar 2) (oCons (yLst (oCons (yTup (oCons (yR (rC (.int 0))) (oCons (yR (rC (.int 1))) (oCons (yR (rC (.int 2))) oNil)))) oNil)) oNil))) oNil))))))))
 (sSeq (sAsg 4 (yOp GCat (dY (yVar 4)) (dY (yLst (oCons (yTup (oCons (yVar 2) (oCons (yR (rC .none)) oNil))) (oCons (yTup (oCons (yVar 2) (oCons (yLst (oCons (yTup (oCons (yR (rC (.int 1))) (oCons (yR (rC (.int 0))) oNil))) oNil)) oNil))) (oCons (yTup (oCons (yR (rC (.int 40))) (oCons (yRep (yLst (oCons (yD (dY (yTup (oCons (yR (rC (.int 0))) (oCons (yR (rC (.int 1))) oNil))))) oNil)) (rC (.int 121))) oNil))) (oCons yDNew (oCons (yTup oNil) oNil)))))))))
 (sSeq (sAsg 4 (yOpA GCat (rVar 4) (rLst (qCons (rTup (qCons (rVar 2) (qCons (rLst (qCons (rTup (qCons (rC (.int 0)) (qCons (rC (.str "1")) qNil))) qNil)) qNil))) (qCons (rTup (qCons (rVar 2) (qCons (rLst (qCons (rTup (qCons (rC .none) (qCons (rC (.int 1)) qNil))) qNil)) qNil))) qNil))) (dY (yVar 4)) (dY (yLst (oCons (yTup (oCons (yVar 2) (oCons (yLst (oCons (yTup (oCons (yR (rC (.int 0))) (oCons (yR (rC (.str "1"))) oNil))) oNil)) oNil))) (oCons (yTup (oCons (yVar 2) (oCons (yLst (oCons (yTup (oCons (yR (rC .none)) (oCons (yR (rC (.int 1))) oNil))) oNil)) oNil))) oNil))))))
 (sRet (yD (dOp gIxL (dY (yVar 4)) (dY (yCallI SH.m__law_take 2 0 (lCons (dR (rC (.int 26))) lNil))))))))))))
noncomputable def m__law_odd : OT → List D → Option (OT × OT) := fun t ds => finI (B__law_odd (t :: ini ds 3))
/-- look_at_webs__x: 0 thing 1 at 2 web -/
noncomputable def B_look_at_webs__x : Sm :=
 (sSeq (sIf (tR (bOr (bNot (bR (rIs "list" (rVar 0)))) (bR (rOp gGt (rCb gLen (qCons (rVar 0) qNil)) (rC (.int 12))))))
 (sRaiseF "NoWebs" ["number"] (qCons (rC .none) qNil))
 sNext)
 (sFor (iE (lCons (dY (yVar 0)) lNil)) (gmTup (gsCons (gmName 1) (gsCons (gmName 2) gsNil)))
 (sIf (tR (bR (rOp gNotN (rCall SH.m_web_fault 1 (qCons (rVar 2) qNil)) (rC .none))))
 (sRaiseF "NoWebs" ["number"] (qCons (rVar 1) qNil))
 sNext)))
noncomputable def m_look_at_webs__x : List D → Option (Except Xc OT) := fun ds => finX (B_look_at_webs__x (ini ds 2))
/-- _law_told: 0 _law_thing 1 _law_kept 2 _law_told_here 3 e -/
noncomputable def B__law_told : Sm :=
 (sSeq (sAsg 1 (yR (rC .none)))
 (sSeq (sAsg 2 (yR (rC .none)))
 (sSeq (sTryK (sAsgX 2 (xCallA m_look_at_webs__x 1 (qCons (rVar 0) qNil) (lCons (dY (yVar 0)) lNil))) ["NoWebs"] 3 1)
 (sSeq (sIf (tR (bR (rNX false 1)))
 (sRet (yIf (tR (bR (rOp gNotN (rVar 2) (rC .none)))) (yLst (oCons (yR (rC (.str "odd"))) oNil)) (yLst oNil)))
 sNext)
 (sSeq (sIf (tR (bOr (bNot (bR (rIsX 1 [("NoWebs", true)] true))) (bNot (bR (rIsX 1 [("NoWebs", true)] true)))))
 (sRet (yLst (oCons (yR (rC (.str "odd"))) oNil)))
 sNext)
 (sSeq (sIf (tR (bOr (bR (rIsX 1 [("NoWebs", false)] true)) (bR (rIs "bool" (rFld 1 ["NoWebs"] "number")))))
 (sRet (yLst (oCons (yR (rC (.str "odd"))) oNil)))
 sNext)
 (sRet (yLst (oCons (yR (rFld 1 ["NoWebs"] "number")) oNil)))))))))
noncomputable def m__law_told : List D → Option OT := fun ds => fin (B__law_told (ini ds 3))
/-- _law_whole: 0 _law_thing -/
noncomputable def B__law_whole : Sm :=
 (sRet (yR (rAnd (rIs "int" (rVar 0)) (rNot (rIs "bool" (rVar 0))))))
noncomputable def m__law_whole : List D → Option OT := fun ds => fin (B__law_whole (ini ds 0))
/-- _law_is_web: 0 _law_thing 1 _law_ahead 2 _law_tie -/
noncomputable def B__law_is_web : Sm :=
 (sSeq (sIf (tR (bOr (bNot (bR (rIs "tuple" (rVar 0)))) (bOr (bR (rOp gNeI (rCb gLen (qCons (rVar 0) qNil)) (rC (.int 2)))) (bOr (bNot (bR (rCall m__law_whole 1 (qCons (rOp gIxT (rVar 0) (rC (.int 0))) qNil)))) (bNot (bR (rCh (fun i j => decide (i ≤ j)) (fun i j => decide (i ≤ j)) (rC (.int 1)) (rOp gIxT (rVar 0) (rC (.int 0))) (rC (.int 40)))))))))
 (sRet (yR (rC (.bool false))))
 sNext)
 (sSeq (sIf (tR (bOr (bNot (bR (rIs "list" (rOp gIxT (rVar 0) (rC (.int 1)))))) (bR (rOp gGt (rCb gLen (qCons (rOp gIxT (rVar 0) (rC (.int 1))) qNil)) (rC (.int 120))))))
 (sRet (yR (rC (.bool false))))
 sNext)
 (sSeq (sAsg 1 (yTup (oCons (yR (rUn gNeg (rC (.int 1)))) (oCons (yR (rUn gNeg (rC (.int 1)))) oNil))))
 (sSeq (sFor (iL (dY (yAuto (rOp gIxT (rVar 0) (rC (.int 1))) (yD (dOpR gIxT (dY (yVar 0)) (rC (.int 1))))))) (gmName 2)
 (sSeq (sIf (tR (bOr (bNot (bR (rIs "tuple" (rVar 2)))) (bOr (bR (rOp gNeI (rCb gLen (qCons (rVar 2) qNil)) (rC (.int 2)))) (bOr (bNot (bR (rCall m__law_whole 1 (qCons (rOp gIxT (rVar 2) (rC (.int 0))) qNil)))) (bNot (bR (rCall m__law_whole 1 (qCons (rOp gIxT (rVar 2) (rC (.int 1))) qNil))))))))
 (sRet (yR (rC (.bool false))))
 sNext)
 (sSeq (sIf (tR (bOr (bNot (bR (rCh3 (fun i j => decide (i ≤ j)) (fun i j => decide (i < j)) (fun i j => decide (i < j)) (rC (.int 0)) (rOp gIxT (rVar 2) (rC (.int 0))) (rOp gIxT (rVar 2) (rC (.int 1))) (rOp gIxT (rVar 0) (rC (.int 0)))))) (bR (rOp gLeT (rVar 2) (rVar 1)))))
 (sRet (yR (rC (.bool false))))
 sNext)
 (sAsg 1 (yVar 2)))))
 (sRet (yR (rC (.bool true))))))))
noncomputable def m__law_is_web : List D → Option OT := fun ds => fin (B__law_is_web (ini ds 2))
/-- _law_due: 0 _law_thing 1 _law_number 2 _law_web_here -/
noncomputable def B__law_due : Sm :=
 (sSeq (sIf (tR (bOr (bNot (bR (rIs "list" (rVar 0)))) (bR (rOp gGt (rCb gLen (qCons (rVar 0) qNil)) (rC (.int 12))))))
 (sRet (yLst (oCons (yR (rC .none)) oNil)))
 sNext)
 (sRet (ySl (dY (yLc [1, 2] (iE (lCons (dY (yVar 0)) lNil)) (gmTup (gsCons (gmName 1) (gsCons (gmName 2) gsNil))) (tR (bNot (bR (rCall m__law_is_web 1 (qCons (rVar 2) qNil))))) (yVar 1))) cNone (cSome (rC (.int 1))))))
noncomputable def m__law_due : List D → Option OT := fun ds => fin (B__law_due (ini ds 2))
/-- _law_right: 0 _law_thing 1 _law_handed -/
noncomputable def B__law_right : Sm :=
 (sSeq (sAsg 1 (yR (rReprN (rVar 0))))
 (sRet (yR (rAnd (rOp gEqD (rCall m__law_told 1 (qCons (rVar 0) qNil)) (rCall m__law_due 1 (qCons (rVar 0) qNil))) (rOp gEqS (rReprN (rVar 0)) (rVar 1))))))
noncomputable def m__law_right : List D → Option OT := fun ds => fin (B__law_right (ini ds 1))
/-- law: 0 _law_script 1 _law_k 2 _law_pool_here 3 _law_webs 4 _law_turn 5 _law_bent 6 _law_thing -/
noncomputable def B_law : Sm :=
 (sSeq (sFor (iR1 (lCons (dR (rCb gMax2 (qCons (rC (.int 1)) (qCons (rCb gMin2 (qCons (rCb gLen (qCons (rVar 0) qNil)) (qCons (rC (.int 16)) qNil))) qNil)))) lNil)) (gmName 1)
 (sSeq (sAsg 2 (yCallA SH.m__law_pool 2 (qCons (rVar 0) (qCons (rVar 1) qNil)) (lCons (dY (yVar 0)) (lCons (dY (yVar 1)) lNil))))
 (sSeq (sAsg 3 (yLc [4] (iR1 (lCons (dY (yCallI SH.m__law_take 2 2 (lCons (dR (rC (.int 13))) lNil))) lNil)) (gmName 4) (fun ρ => some (true, ρ)) (yCallI SH.m__law_loose 3 2 (lCons (dOp gIxL (dY (yLst (oCons (yR (rC (.int 1))) (oCons (yR (rC (.int 3))) (oCons (yR (rC (.int 8))) (oCons (yR (rC (.int 40))) oNil)))))) (dY (yCallI SH.m__law_take 2 2 (lCons (dR (rC (.int 4))) lNil)))) (lCons (dR (rC (.int 6))) lNil)))))
 (sSeq (sAsg 3 (yOp GCat (dY (yVar 3)) (dY (ySlD (dY (yVar 3)) cNone (dY (yCallI SH.m__law_take 2 2 (lCons (dR (rC (.int 3))) lNil)))))))
 (sSeq (sAsg 5 (yCbA GList (qCons (rVar 3) qNil) (lCons (dY (yVar 3)) lNil)))
 (sSeq (sFor (iR1 (lCons (dOpR gMul (dY (yCallI SH.m__law_take 2 2 (lCons (dR (rC (.int 3))) lNil))) (rCb gInt (qCons (rOp gNeD (rVar 3) (rLst qNil)) qNil))) lNil)) (gmName 4)
 (sSetD 5 (dY (yCallI SH.m__law_take 2 2 (lCons (dR (rCb gLen (qCons (rVar 5) qNil))) lNil))) (yCallI m__law_odd 2 2 (lCons (dY (yAuto (rOp gIxL (rVar 3) (rC (.int 0))) (yD (dOpR gIxL (dY (yVar 3)) (rC (.int 0)))))) lNil))))
 (sSeq (sIf (tR (bOr (bNot (bR (rCall m__law_right 1 (qCons (rVar 3) qNil)))) (bOr (bNot (bR (rCall m__law_right 1 (qCons (rVar 5) qNil)))) (bNot (bR (rCall m__law_right 1 (qCons (rVar 3) qNil)))))))
 (sRet (yR (rC (.bool false))))
 sNext)
 (sFor (iL (dY (yLst (oCons (yR (rC .none)) (oCons (yCbA GTuple (qCons (rVar 3) qNil) (lCons (dY (yVar 3)) lNil)) (oCons (yR (rC (.int 5))) (oCons yDNew (oCons (yTup (oCons (yR (rC (.int 1))) (oCons (yLst oNil) oNil))) oNil)))))))) (gmName 6)
 (sIf (tR (bR (rOp gNeD (rCall m__law_told 1 (qCons (rVar 6) qNil)) (rLst (qCons (rC .none) qNil)))))
 (sRet (yR (rC (.bool false))))
 sNext)))))))))
 (sRet (yR (rC (.bool true)))))
noncomputable def m_law : List D → Option OT := fun ds => fin (B_law (ini ds 6))
end z09
namespace z09
open PySem L2 PL
local macro_rules | `(tactic| walk_at "sd") => `(tactic| first | rfl | assumption | omega | decide)
open PySem L2 PL MR SH
def topS (i : Nat) : Stmt := PySem.Challenge.pw_webtimes_k09_webs_let_in.main.body.getD i (.Pass ⟨0, 0, 0, 0⟩)
abbrev s__law_pool : Stmt := topS 17
theorem sc__law_pool : FnScope ["_law_script", "_law_k", "_law_cell", "_law_number", "_law_great"] ["_law_script", "_law_k"] (defScope s__law_pool) := ⟨rfl, rfl, rfl, by decide +kernel, rfl, by decide +kernel, by decide +kernel⟩
abbrev s__law_take : Stmt := topS 18
theorem sc__law_take : FnScope ["_law_pool_here", "_law_many", "_law_found"] ["_law_pool_here", "_law_many"] (defScope s__law_take) := ⟨rfl, rfl, rfl, by decide +kernel, rfl, by decide +kernel, by decide +kernel⟩
abbrev s__law_web : Stmt := topS 19
theorem sc__law_web : FnScope ["_law_pool_here", "_law_most", "_law_more", "_law_many", "_law_names", "_law_order", "_law_k", "_law_pairs", "_law_ties", "_law_one", "_law_other"] ["_law_pool_here", "_law_most", "_law_more"] (defScope s__law_web) := ⟨rfl, rfl, rfl, by decide +kernel, rfl, by decide +kernel, by decide +kernel⟩
abbrev s__law_loose : Stmt := topS 20
theorem sc__law_loose : FnScope ["_law_pool_here", "_law_most", "_law_more", "_law_many", "_law_ties", "_law_tie"] ["_law_pool_here", "_law_most", "_law_more"] (defScope s__law_loose) := ⟨rfl, rfl, rfl, by decide +kernel, rfl, by decide +kernel, by decide +kernel⟩
abbrev s__law_odd : Stmt := topS 23
theorem sc__law_odd : FnScope ["_law_pool_here", "_law_web_here", "_law_many", "_law_ties", "_law_some"] ["_law_pool_here", "_law_web_here"] (defScope s__law_odd) := ⟨rfl, rfl, rfl, by decide +kernel, rfl, by decide +kernel, by decide +kernel⟩
abbrev s_is_whole : Stmt := topS 10
theorem sc_is_whole : FnScope ["thing"] ["thing"] (defScope s_is_whole) := ⟨rfl, rfl, rfl, by decide +kernel, rfl, by decide +kernel, by decide +kernel⟩
abbrev s_joins_places : Stmt := topS 11
theorem sc_joins_places : FnScope ["many", "thing", "one", "other"] ["many", "thing"] (defScope s_joins_places) := ⟨rfl, rfl, rfl, by decide +kernel, rfl, by decide +kernel, by decide +kernel⟩
abbrev s_web_fault : Stmt := topS 12
theorem sc_web_fault : FnScope ["thing", "many", "ties", "at", "tie"] ["thing"] (defScope s_web_fault) := ⟨rfl, rfl, rfl, by decide +kernel, rfl, by decide +kernel, by decide +kernel⟩
abbrev s_look_at_webs__x : Stmt := topS 15
theorem sc_look_at_webs__x : FnScope ["thing", "at", "web"] ["thing"] (defScope s_look_at_webs__x) := ⟨rfl, rfl, rfl, by decide +kernel, rfl, by decide +kernel, by decide +kernel⟩
abbrev s__law_told : Stmt := topS 25
theorem sc__law_told : FnScope ["_law_thing", "_law_kept", "_law_told_here", "e"] ["_law_thing"] (defScope s__law_told) := ⟨rfl, rfl, rfl, by decide +kernel, rfl, by decide +kernel, by decide +kernel⟩
abbrev s__law_whole : Stmt := topS 21
theorem sc__law_whole : FnScope ["_law_thing"] ["_law_thing"] (defScope s__law_whole) := ⟨rfl, rfl, rfl, by decide +kernel, rfl, by decide +kernel, by decide +kernel⟩
abbrev s__law_is_web : Stmt := topS 22
theorem sc__law_is_web : FnScope ["_law_thing", "_law_ahead", "_law_tie"] ["_law_thing"] (defScope s__law_is_web) := ⟨rfl, rfl, rfl, by decide +kernel, rfl, by decide +kernel, by decide +kernel⟩
abbrev s__law_due : Stmt := topS 24
theorem sc__law_due : FnScope ["_law_thing", "_law_number", "_law_web_here"] ["_law_thing"] (defScope s__law_due) := ⟨rfl, rfl, rfl, by decide +kernel, rfl, by decide +kernel, by decide +kernel⟩
abbrev s__law_right : Stmt := topS 26
theorem sc__law_right : FnScope ["_law_thing", "_law_handed"] ["_law_thing"] (defScope s__law_right) := ⟨rfl, rfl, rfl, by decide +kernel, rfl, by decide +kernel, by decide +kernel⟩
abbrev s_law : Stmt := topS 27
theorem sc_law : FnScope ["_law_script", "_law_k", "_law_pool_here", "_law_webs", "_law_turn", "_law_bent", "_law_thing"] ["_law_script"] (defScope s_law) := ⟨rfl, rfl, rfl, by decide +kernel, rfl, by decide +kernel, by decide +kernel⟩
abbrev i_NoWebs : Stmt := clsInit (topS 3)
theorem is_NoWebs : InitS i_NoWebs ["self", "number"] := ⟨rfl, rfl, rfl, by decide +kernel, by decide +kernel, by decide +kernel, by decide +kernel, by decide +kernel, by decide +kernel, ⟨_, rfl, rfl⟩⟩
theorem fi_NoWebs {P : Program} {w : World} {K : PySem.W.Frag} {mg : Str → Option Value} {base : Heap} {CX : CXT} {C fI cc cda : Addr} {fd : FuncData} {qual : Str} {k : Nat} (J : Su.InitC P K mg C fI fd ["self", "number"] qual (defArgs i_NoWebs) (defBody i_NoWebs) (defScope i_NoWebs) cc cda) (h0 : PySem.W.findIn K (.ref C) "number" = some none) : FnOk P w K mg base CX (k + 1) fI fd ["self", "number"] (Su.spF C ["number"]) :=
  Su.init1 J rfl h0 (by decide) (by decide) (by decide) (by decide) (by decide)
structure Bn (mg : Str → Option Value) : Prop where
  n_ValueError : mg "ValueError" = none
  n_bool : mg "bool" = none
  c_MOST_PLACES : ∃ t, mg "MOST_PLACES" = some (.int 40 t)
  c_MOST_TIES : ∃ t, mg "MOST_TIES" = some (.int 120 t)
  c_MOST_WEBS : ∃ t, mg "MOST_WEBS" = some (.int 12 t)
  n_enumerate : mg "enumerate" = none
  n_int : mg "int" = none
  n_isinstance : mg "isinstance" = none
  n_len : mg "len" = none
  n_list : mg "list" = none
  n_max : mg "max" = none
  n_min : mg "min" = none
  n_range : mg "range" = none
  n_repr : mg "repr" = none
  n_sorted : mg "sorted" = none
  n_str : mg "str" = none
  n_tuple : mg "tuple" = none
structure XTs (P : Program) (K : PySem.W.Frag) (mg : Str → Option Value) where
  C_WebError : Addr
  g_WebError : mg "WebError" = some (.ref C_WebError)
  C_NoWebs : Addr
  g_NoWebs : mg "NoWebs" = some (.ref C_NoWebs)
  C_Apart : Addr
  g_Apart : mg "Apart" = some (.ref C_Apart)
  C_NoPlace : Addr
  g_NoPlace : mg "NoPlace" = some (.ref C_NoPlace)
  C_NoWeb : Addr
  g_NoWeb : mg "NoWeb" = some (.ref C_NoWeb)
  C_TooBig : Addr
  g_TooBig : mg "TooBig" = some (.ref C_TooBig)
  R_NoWebs : ExF P K mg "NoWebs" ["self", "number"] ["number"]
  m_WebError : ∀ n ∈ (["NoWebs"] : List Str), ∃ C, clsOf K n = some C ∧ PySem.W.exmOne K (.ref C) (.ref C_WebError) = some true
  h_0 : ∀ n b, List.lookup n ([("NoWebs", true)] : List (Str × Bool)) = some b → ∃ C, clsOf K n = some C ∧ ExcC K C ∧ PySem.W.kitOne K (.ref C) (.type "ValueError") = some b
  z_0 : PySem.W.kitOne K (.type "NoneType") (.type "ValueError") = some false
  h_1 : ∀ n b, List.lookup n ([("NoWebs", true)] : List (Str × Bool)) = some b → ∃ C, clsOf K n = some C ∧ ExcC K C ∧ PySem.W.kitOne K (.ref C) (.ref C_NoWebs) = some b
  z_1 : PySem.W.kitOne K (.type "NoneType") (.ref C_NoWebs) = some false
  h_2 : ∀ n b, List.lookup n ([("NoWebs", false)] : List (Str × Bool)) = some b → ∃ C, clsOf K n = some C ∧ ExcC K C ∧ PySem.W.kitAny K (.ref C) [(.ref C_Apart), (.ref C_NoPlace), (.ref C_NoWeb), (.ref C_TooBig)] = some b
  z_2 : PySem.W.kitAny K (.type "NoneType") [(.ref C_Apart), (.ref C_NoPlace), (.ref C_NoWeb), (.ref C_TooBig)] = some false
end z09
namespace z09
open PySem L2 PL MR SH
open PySem L2 PL
local macro_rules | `(tactic| walk_at "sd") => `(tactic| first | rfl | assumption | omega | decide)
section
variable {P : Program} [kf : KF] {mg : Str → Option Value} {base : Heap}
theorem ok__law_pool (B : Bn mg) (T : Tp kf.K mg "_law_pool" s__law_pool) : FnQ P kf.w kf.K mg base CX0 1 T.a T.fd ["_law_script", "_law_k"] (spP 2 SH.m__law_pool) := by
  refine fnq_of T.F sc__law_pool (spP_len rfl) fun cdv A outer s H vs Q E hr hg h => ?_
  refine ⟨_, PSs.nox (pss_cons (ps_set (i := 2) sc__law_pool.nd rfl (Or.inl rfl) pe_int)
 (pss_cons (ps_if (pt_cmpR op_lt (pv 1) (pe_callB (call_len_seqK (K := kf.K) rfl) (by rfl) B.n_len PySem.boot_len (pa_cons (pv 0) pa_nil)) (nomark _))
 (pss_one (ps_set (i := 2) sc__law_pool.nd rfl (Or.inl rfl) (pe_ix (ix_listK (K := kf.K) rfl) (pv 0) (pv 1) (fun _ _ => rfl))))
 pss_nil)
 (pss_cons (ps_set (i := 3) sc__law_pool.nd rfl (Or.inl rfl) (pe_op op_mod (pe_op op_add (pe_op op_add (pe_op op_add (pe_callB (call_max2 rfl) (by rfl) B.n_max (by decide +kernel) (pa_cons (pv 2) (pa_cons (pe_op op_sub (pe_un un_neg pe_int) (pv 2)) pa_nil))) (pe_op op_mul (pe_op op_mul pe_int (pv 1)) (pv 1))) (pe_op op_mul pe_int (pv 1))) pe_int) pe_int))
 (pss_cons (ps_set (i := 4) sc__law_pool.nd rfl (Or.inl rfl) pe_int)
 (pss_cons (ps_if (pt_cmpR op_ge (pv 2) (pe_op op_pow pe_int pe_int) (nomark _))
 (pss_one (ps_set (i := 4) sc__law_pool.nd rfl (Or.inl rfl) (pv 2)))
 pss_nil)
 (pss_one (ps_ret (pe_lst (pa_cons (pv 4) (pa_cons (pe_op op_mod (pe_op op_mul (pv 3) pe_int) pe_int) pa_nil)))))))))), tie_plain (n := 2) (k := 3) (B := SH.B__law_pool) rfl ?_ h⟩
  exact (c_seq (c_asg (c_yR (c_c (v := .int 0) rfl)))
 (c_seq (c_sif (c_tR (c_bR (c_op o_lt (c_var 1) (c_cb b_len (c_qcons (c_var 0) c_qnil)))))
 (c_asg (c_yauto (c_ix x_list (c_var 0) (c_var 1)) (c_yD (c_dixR x_list (c_dY (c_yvar 0)) (c_var 1)))))
 c_next)
 (c_seq (c_asg (c_yR (c_op o_mod (c_op o_add (c_op o_add (c_op o_add (c_cb b_max2 (c_qcons (c_var 2) (c_qcons (c_op o_sub (c_un o_neg (c_c (v := .int 1) rfl)) (c_var 2)) c_qnil))) (c_op o_mul (c_op o_mul (c_c (v := .int 7919) rfl) (c_var 1)) (c_var 1))) (c_op o_mul (c_c (v := .int 104729) rfl) (c_var 1))) (c_c (v := .int 17) rfl)) (c_c (v := .int 2147483629) rfl))))
 (c_seq (c_asg (c_yR (c_c (v := .int 0) rfl)))
 (c_seq (c_sif (c_tR (c_bR (c_op o_ge (c_var 2) (c_op o_pow (c_c (v := .int 10) rfl) (c_c (v := .int 18) rfl)))))
 (c_asg (c_yvar 2))
 c_next)
 (c_ret (c_ylst (c_ocons (c_ymov 4) (c_ocons (c_yR (c_op o_mod (c_op o_mul (c_var 3) (c_c (v := .int 48271) rfl)) (c_c (v := .int 2147483647) rfl))) c_onil)))))))))
theorem ok__law_take (B : Bn mg) (T : Tp kf.K mg "_law_take" s__law_take) : FnQ P kf.w kf.K mg base CX0 1 T.a T.fd ["_law_pool_here", "_law_many"] (spI 2 SH.m__law_take) := by
  refine fnq_of T.F sc__law_take (spI_len rfl) fun cdv A outer s H vs Q E hr hg h => ?_
  refine ⟨_, PSs.nox (pss_cons (ps_if (pt_cmpR op_gt (pe_ix (ix_listK (K := kf.K) rfl) (pv 0) pe_int (fun _ _ => rfl)) pe_int (nomark _))
 (pss_cons (ps_set (i := 2) sc__law_take.nd rfl (Or.inl rfl) (pe_op op_mod (pe_ix (ix_listK (K := kf.K) rfl) (pv 0) pe_int (fun _ _ => rfl)) (pv 1)))
 (pss_cons (ps_asg (pe_op op_fdivW (pe_ix (ix_listK (K := kf.K) rfl) (pv 0) pe_int (fun _ _ => rfl)) (pv 1)) (pg_sub (pv 0) pe_int set_list))
 (pss_one (ps_ret (pv 2)))))
 pss_nil)
 (pss_cons (ps_asg (pe_op op_mod (pe_op op_add (pe_op op_mul (pe_ix (ix_listK (K := kf.K) rfl) (pv 0) pe_int (fun _ _ => rfl)) pe_int) pe_int) pe_int) (pg_sub (pv 0) pe_int set_list))
 (pss_one (ps_ret (pe_op op_mod (pe_op op_fdivW (pe_op op_mod (pe_op op_mul (pe_ix (ix_listK (K := kf.K) rfl) (pv 0) pe_int (fun _ _ => rfl)) (pe_ix (ix_listK (K := kf.K) rfl) (pv 0) pe_int (fun _ _ => rfl))) pe_int) pe_int) (pv 1)))))), tie_io (n := 2) (k := 1) (B := SH.B__law_take) rfl ?_ h⟩
  exact (c_seq (c_sif (c_tR (c_bR (c_op o_gt (c_ix x_list (c_var 0) (c_c (v := .int 0) rfl)) (c_c (v := .int 0) rfl))))
 (c_seq (c_asg (c_yR (c_op o_mod (c_ix x_list (c_var 0) (c_c (v := .int 0) rfl)) (c_var 1))))
 (c_seq (c_setP (c_pvar 0) (c_c (v := .int 0) rfl) (c_yR (c_op o_div (c_ix x_list (c_var 0) (c_c (v := .int 0) rfl)) (c_var 1))))
 (c_ret (c_ymov 2))))
 c_next)
 (c_seq (c_setP (c_pvar 0) (c_c (v := .int 1) rfl) (c_yR (c_op o_mod (c_op o_add (c_op o_mul (c_ix x_list (c_var 0) (c_c (v := .int 1) rfl)) (c_c (v := .int 48271) rfl)) (c_c (v := .int 11) rfl)) (c_c (v := .int 2147483647) rfl))))
 (c_ret (c_yR (c_op o_mod (c_op o_div (c_op o_mod (c_op o_mul (c_ix x_list (c_var 0) (c_c (v := .int 1) rfl)) (c_ix x_list (c_var 0) (c_c (v := .int 1) rfl))) (c_c (v := .int 2147483629) rfl)) (c_c (v := .int 16) rfl)) (c_var 1))))))
theorem ok__law_web (B : Bn mg) (T : Tp kf.K mg "_law_web" s__law_web) (d__law_take : Dq P kf.w kf.K mg base "_law_take" 1 ["_law_pool_here", "_law_many"] (spI 2 SH.m__law_take)) : FnQ P kf.w kf.K mg base CX0 2 T.a T.fd ["_law_pool_here", "_law_most", "_law_more"] (spI 3 SH.m__law_web) := by
  refine fnq_of T.F sc__law_web (spI_len rfl) fun cdv A outer s H vs Q E hr hg h => ?_
  refine ⟨_, PSs.nox (pss_cons (ps_set (i := 3) sc__law_web.nd rfl (Or.inl rfl) (pe_op op_add pe_int (pe_callQ d__law_take.G (hr.mono (by decide)) hg (by rfl) d__law_take.g d__law_take.kp d__law_take.b pass0 (pa_cons (pv 0) (pa_cons (pv 1) pa_nil)))))
 (pss_cons (ps_set (i := 4) sc__law_web.nd rfl (Or.inr rfl) (pe_listRg rfl (by rfl) B.n_list (prg_1 (by rfl) B.n_range (pv 3))))
 (pss_cons (ps_setLc (i := 5) (own := [("_law_k", 6)]) rfl sc__law_web.nd rfl rfl (sw_true rfl rfl rfl (by decide +kernel)) (pi_range1 (by rfl) B.n_range (pa_cons (pv 3) pa_nil)) (blkOk_by (own := [("_law_k", 6)]) (N := ["_law_pool_here", "_law_most", "_law_more", "_law_many", "_law_names", "_law_order", "_law_k", "_law_pairs", "_law_ties", "_law_one", "_law_other"]) (sc := defScope s__law_web) (by decide +kernel)) (fun _ _ _ _ _ => (pg_name (i := 6) sc__law_web.nd rfl (Or.inl rfl))) (fun _ _ _ _ _ => pts_nil) (fun _ _ _ _ _ => (pe_bmK (K := kf.K) rfl PySem.F.plainAttrs_list PySem.F.slot_list_pop PySem.F.type_list_pop mt_popAt (pv 4) (pa_cons (pe_callQ d__law_take.G (hr.mono (by decide)) hg (by rfl) d__law_take.g d__law_take.kp d__law_take.b pass0 (pa_cons (pv 0) (pa_cons (pe_callB (call_len_seqK (K := kf.K) rfl) (by rfl) B.n_len PySem.boot_len (pa_cons (pv 4) pa_nil)) pa_nil))) pa_nil))))
 (pss_cons (ps_setLc (i := 7) (own := [("_law_k", 6)]) rfl sc__law_web.nd rfl rfl (sw_true rfl rfl rfl (by decide +kernel)) (pi_range2 (by rfl) B.n_range (pa_cons pe_int (pa_cons (pv 3) pa_nil))) (blkOk_by (own := [("_law_k", 6)]) (N := ["_law_pool_here", "_law_most", "_law_more", "_law_many", "_law_names", "_law_order", "_law_k", "_law_pairs", "_law_ties", "_law_one", "_law_other"]) (sc := defScope s__law_web) (by decide +kernel)) (fun _ _ _ _ _ => (pg_name (i := 6) sc__law_web.nd rfl (Or.inl rfl))) (fun _ _ _ _ _ => pts_nil) (fun _ _ _ _ _ => (pe_tup (pa_cons (pv 6) (pa_cons (pe_callQ d__law_take.G (hr.mono (by decide)) hg (by rfl) d__law_take.g d__law_take.kp d__law_take.b pass0 (pa_cons (pv 0) (pa_cons (pv 6) pa_nil))) pa_nil)))))
 (pss_cons (ps_for PassesOwn.never rfl (pi_range1 (by rfl) B.n_range (pa_cons (pe_callQ d__law_take.G (hr.mono (by decide)) hg (by rfl) d__law_take.g d__law_take.kp d__law_take.b pass0 (pa_cons (pv 0) (pa_cons (pe_op op_add (pv 2) pe_int) pa_nil))) pa_nil)) (pg_name (i := 6) sc__law_web.nd rfl (Or.inl rfl))
 (pss_one (ps_expr (pe_bmK (K := kf.K) rfl PySem.F.plainAttrs_list PySem.F.slot_list_append PySem.F.type_list_append mt_append (pv 7) (pa_cons (pe_tup (pa_cons (pe_callQ d__law_take.G (hr.mono (by decide)) hg (by rfl) d__law_take.g d__law_take.kp d__law_take.b pass0 (pa_cons (pv 0) (pa_cons (pv 3) pa_nil))) (pa_cons (pe_callQ d__law_take.G (hr.mono (by decide)) hg (by rfl) d__law_take.g d__law_take.kp d__law_take.b pass0 (pa_cons (pv 0) (pa_cons (pv 3) pa_nil))) pa_nil))) pa_nil)))))
 (pss_cons (ps_set (i := 8) sc__law_web.nd rfl (Or.inl rfl) pe_dnewT)
 (pss_cons (ps_for PassesOwn.never rfl (pi_listK (K := kf.K) rfl (pv 7)) (pg_tup rfl (pgs_cons (pg_name (i := 9) sc__law_web.nd rfl (Or.inl rfl)) (pgs_cons (pg_name (i := 10) sc__law_web.nd rfl (Or.inl rfl)) pgs_nil)))
 (pss_one (ps_if (pt_cmpR op_ne (pv 9) (pv 10) (nomark _))
 (pss_one (ps_dput (hu_of hr) (pv 8) (pe_tup (pa_cons (pe_callB (call_min2 rfl) (by rfl) B.n_min (by decide +kernel) (pa_cons (pe_ix (ix_listK (K := kf.K) rfl) (pv 5) (pv 9) (fun _ _ => rfl)) (pa_cons (pe_ix (ix_listK (K := kf.K) rfl) (pv 5) (pv 10) (fun _ _ => rfl)) pa_nil))) (pa_cons (pe_callB (call_max2 rfl) (by rfl) B.n_max (by decide +kernel) (pa_cons (pe_ix (ix_listK (K := kf.K) rfl) (pv 5) (pv 9) (fun _ _ => rfl)) (pa_cons (pe_ix (ix_listK (K := kf.K) rfl) (pv 5) (pv 10) (fun _ _ => rfl)) pa_nil))) pa_nil))) pe_bl rfl))
 pss_nil)))
 (pss_one (ps_ret (pe_tup (pa_cons (pv 3) (pa_cons (pe_callB (cr_sortedDT rfl) (by rfl) B.n_sorted (by decide +kernel) (pa_cons (pv 8) pa_nil)) pa_nil)))))))))))), tie_io (n := 3) (k := 8) (B := SH.B__law_web) rfl ?_ h⟩
  exact (c_seq (c_asg (c_yD (c_dop o_add (c_dR (c_c (v := .int 1) rfl)) (c_dY (c_ycallI (c_lcons (c_dY (c_yvar 1)) c_lnil))))))
 (c_seq (c_asg (c_yrng (c_dY (c_yvar 3))))
 (c_seq (c_asg (c_ylc (vs := [6]) (c_iR1 (c_lcons (c_dY (c_yvar 3)) c_lnil)) (c_gname 6) (by decide) c_tyes (c_pop (c_dY (c_ycallI (c_lcons (c_dR (c_cb b_len (c_qcons (c_var 4) c_qnil))) c_lnil))))))
 (c_seq (c_asg (c_ylc (vs := [6]) (c_iR2 (c_lcons (c_dR (c_c (v := .int 1) rfl)) (c_lcons (c_dY (c_yvar 3)) c_lnil))) (c_gname 6) (by decide) c_tyes (c_ytup (c_ocons (c_yvar 6) (c_ocons (c_ycallI (c_lcons (c_dY (c_yvar 6)) c_lnil)) c_onil)))))
 (c_seq (c_for (c_iR1 (c_lcons (c_dY (c_ycallI (c_lcons (c_dR (c_op o_add (c_var 2) (c_c (v := .int 1) rfl))) c_lnil))) c_lnil)) (c_gname 6)
 (c_app (c_ytup (c_ocons (c_ycallI (c_lcons (c_dY (c_yvar 3)) c_lnil)) (c_ocons (c_ycallI (c_lcons (c_dY (c_yvar 3)) c_lnil)) c_onil)))))
 (c_seq (c_asg c_dnew)
 (c_seq (c_for (c_iL (c_dY (c_yvar 7))) (c_gtup (c_gscons (c_gname 9) (c_gscons (c_gname 10) c_gsnil)))
 (c_sif (c_tR (c_bR (c_op o_neI (c_var 9) (c_var 10))))
 (c_dput (c_tup (c_qcons (c_cb b_min2 (c_qcons (c_ix x_list (c_var 5) (c_var 9)) (c_qcons (c_ix x_list (c_var 5) (c_var 10)) c_qnil))) (c_qcons (c_cb b_max2 (c_qcons (c_ix x_list (c_var 5) (c_var 9)) (c_qcons (c_ix x_list (c_var 5) (c_var 10)) c_qnil))) c_qnil))) (c_c (v := .bl true) rfl))
 c_next))
 (c_ret (c_ytup (c_ocons (c_ymov 3) (c_ocons c_sortD c_onil)))))))))))
theorem ok__law_loose (B : Bn mg) (T : Tp kf.K mg "_law_loose" s__law_loose) (d__law_web : Dq P kf.w kf.K mg base "_law_web" 2 ["_law_pool_here", "_law_most", "_law_more"] (spI 3 SH.m__law_web)) (d__law_take : Dq P kf.w kf.K mg base "_law_take" 1 ["_law_pool_here", "_law_many"] (spI 2 SH.m__law_take)) : FnQ P kf.w kf.K mg base CX0 3 T.a T.fd ["_law_pool_here", "_law_most", "_law_more"] (spI 3 SH.m__law_loose) := by
  refine fnq_of T.F sc__law_loose (spI_len rfl) fun cdv A outer s H vs Q E hr hg h => ?_
  refine ⟨_, PSs.nox (pss_cons (ps_asg (pe_callQ d__law_web.G (hr.mono (by decide)) hg (by rfl) d__law_web.g d__law_web.kp d__law_web.b pass0 (pa_cons (pv 0) (pa_cons (pv 1) (pa_cons (pv 2) pa_nil)))) (pg_tup rfl (pgs_cons (pg_name (i := 3) sc__law_loose.nd rfl (Or.inl rfl)) (pgs_cons (pg_name (i := 4) sc__law_loose.nd rfl (Or.inl rfl)) pgs_nil))))
 (pss_cons (ps_if (pt_cmpR op_eq (pe_callQ d__law_take.G (hr.mono (by decide)) hg (by rfl) d__law_take.g d__law_take.kp d__law_take.b pass0 (pa_cons (pv 0) (pa_cons pe_int pa_nil))) pe_int (nomark _))
 (pss_one (ps_setLc (i := 4) (own := [("_law_tie", 5)]) rfl sc__law_loose.nd rfl rfl (sw_true rfl rfl rfl (by decide +kernel)) (pi_listK (K := kf.K) rfl (pv 4)) (blkOk_by (own := [("_law_tie", 5)]) (N := ["_law_pool_here", "_law_most", "_law_more", "_law_many", "_law_ties", "_law_tie"]) (sc := defScope s__law_loose) (by decide +kernel)) (fun _ _ _ _ _ => (pg_name (i := 5) sc__law_loose.nd rfl (Or.inl rfl))) (fun _ _ _ _ _ => pts_one (pt_cmpR op_gt (pe_callQ d__law_take.G (hr.mono (by decide)) hg (by rfl) d__law_take.g d__law_take.kp d__law_take.b pass0 (pa_cons (pv 0) (pa_cons pe_int pa_nil))) pe_int (nomark _))) (fun _ _ _ _ _ => (pv 5))))
 pss_nil)
 (pss_one (ps_ret (pe_tup (pa_cons (pv 3) (pa_cons (pv 4) pa_nil))))))), tie_io (n := 3) (k := 3) (B := SH.B__law_loose) rfl ?_ h⟩
  exact (c_seq (c_asgG (c_dY (c_ycallI (c_lcons (c_dY (c_yvar 1)) (c_lcons (c_dY (c_yvar 2)) c_lnil)))) (c_gtup (c_gscons (c_gname 3) (c_gscons (c_gname 4) c_gsnil))))
 (c_seq (c_sif (c_tD (c_dopR o_eqI (c_dY (c_ycallI (c_lcons (c_dR (c_c (v := .int 4) rfl)) c_lnil))) (c_c (v := .int 0) rfl)))
 (c_asg (c_ylc (vs := [5]) (c_iL (c_dY (c_yvar 4))) (c_gname 5) (by decide) (c_tD (c_dopR o_gt (c_dY (c_ycallI (c_lcons (c_dR (c_c (v := .int 3) rfl)) c_lnil))) (c_c (v := .int 0) rfl))) (c_yvar 5)))
 c_next)
 (c_ret (c_ytup (c_ocons (c_ymov 3) (c_ocons (c_ymov 4) c_onil))))))
theorem ok__law_odd (B : Bn mg) (T : Tp kf.K mg "_law_odd" s__law_odd) (d__law_take : Dq P kf.w kf.K mg base "_law_take" 1 ["_law_pool_here", "_law_many"] (spI 2 SH.m__law_take)) : FnQ P kf.w kf.K mg base CX0 2 T.a T.fd ["_law_pool_here", "_law_web_here"] (spI 2 m__law_odd) := by
  refine fnq_of T.F sc__law_odd (spI_len rfl) fun cdv A outer s H vs Q E hr hg h => ?_
  refine ⟨_, PSs.nox (pss_cons (ps_asg (pv 1) (pg_tup rfl (pgs_cons (pg_name (i := 2) sc__law_odd.nd rfl (Or.inl rfl)) (pgs_cons (pg_name (i := 3) sc__law_odd.nd rfl (Or.inl rfl)) pgs_nil))))
 (pss_cons (ps_set (i := 4) sc__law_odd.nd rfl (Or.inl rfl) (pe_lst (pa_cons pe_non (pa_cons pe_int (pa_cons pe_bl (pa_cons pe_str (pa_cons (pe_lst (pa_cons (pv 2) (pa_cons (pv 3) pa_nil))) (pa_cons (pe_tup (pa_cons (pv 2) pa_nil)) (pa_cons (pe_tup (pa_cons (pv 2) (pa_cons (pv 3) (pa_cons pe_int pa_nil)))) (pa_cons (pe_tup (pa_cons (pv 2) (pa_cons (pe_callTy (call_tuple_ofK (K := kf.K) rfl) (by rfl) B.n_tuple (by decide +kernel) (pa_cons (pv 3) pa_nil)) pa_nil))) (pa_cons (pe_tup (pa_cons pe_bl (pa_cons (pe_lst pa_nil) pa_nil))) (pa_cons (pe_tup (pa_cons pe_int (pa_cons (pe_lst pa_nil) pa_nil))) pa_nil))))))))))))
 (pss_cons (ps_set (i := 4) sc__law_odd.nd rfl (Or.inl rfl) (pe_op (op_catRK (K := kf.K) rfl) (pv 4) (pe_lst (pa_cons (pe_tup (pa_cons pe_int (pa_cons (pe_lst pa_nil) pa_nil))) (pa_cons (pe_tup (pa_cons (pe_callTy call_str_int (by rfl) B.n_str (by decide +kernel) (pa_cons (pv 2) pa_nil)) (pa_cons (pv 3) pa_nil))) (pa_cons (pe_tup (pa_cons (pv 2) (pa_cons (pe_revLK (K := kf.K) rfl (pv 3)) pa_nil))) (pa_cons (pe_tup (pa_cons (pv 2) (pa_cons (pe_op (op_catRK (K := kf.K) rfl) (pv 3) (pe_slice (sl_listK (K := kf.K) rfl) (pv 3) po_none (po_some pe_int))) pa_nil))) (pa_cons (pe_tup (pa_cons (pv 2) (pa_cons (pe_op (op_catRK (K := kf.K) rfl) (pe_lst (pa_cons (pe_tup (pa_cons pe_int (pa_cons pe_int pa_nil))) pa_nil)) (pv 3)) pa_nil))) pa_nil))))))))
 (pss_cons (ps_set (i := 4) sc__law_odd.nd rfl (Or.inl rfl) (pe_op (op_catRK (K := kf.K) rfl) (pv 4) (pe_lst (pa_cons (pe_tup (pa_cons (pv 2) (pa_cons (pe_op (op_catRK (K := kf.K) rfl) (pv 3) (pe_lst (pa_cons (pe_tup (pa_cons (pe_op op_sub (pv 2) pe_int) (pa_cons (pv 2) pa_nil))) pa_nil))) pa_nil))) (pa_cons (pe_tup (pa_cons (pv 2) (pa_cons (pe_lst (pa_cons (pe_lst (pa_cons pe_int (pa_cons pe_int pa_nil))) pa_nil)) pa_nil))) (pa_cons (pe_tup (pa_cons (pv 2) (pa_cons (pe_lst (pa_cons (pe_tup (pa_cons pe_int (pa_cons pe_bl pa_nil))) pa_nil)) pa_nil))) (pa_cons (pe_tup (pa_cons (pv 2) (pa_cons (pe_lst (pa_cons (pe_tup (pa_cons pe_int (pa_cons pe_int (pa_cons pe_int pa_nil)))) pa_nil)) pa_nil))) pa_nil)))))))
 (pss_cons (ps_set (i := 4) sc__law_odd.nd rfl (Or.inl rfl) (pe_op (op_catRK (K := kf.K) rfl) (pv 4) (pe_lst (pa_cons (pe_tup (pa_cons (pv 2) (pa_cons pe_non pa_nil))) (pa_cons (pe_tup (pa_cons (pv 2) (pa_cons (pe_lst (pa_cons (pe_tup (pa_cons pe_int (pa_cons pe_int pa_nil))) pa_nil)) pa_nil))) (pa_cons (pe_tup (pa_cons pe_int (pa_cons (pe_op op_rep (pe_lst (pa_cons (pe_tup (pa_cons pe_int (pa_cons pe_int pa_nil))) pa_nil)) pe_int) pa_nil))) (pa_cons pe_dnewT (pa_cons (pe_tup pa_nil) pa_nil))))))))
 (pss_cons (ps_set (i := 4) sc__law_odd.nd rfl (Or.inl rfl) (pe_op (op_catRK (K := kf.K) rfl) (pv 4) (pe_lst (pa_cons (pe_tup (pa_cons (pv 2) (pa_cons (pe_lst (pa_cons (pe_tup (pa_cons pe_int (pa_cons pe_str pa_nil))) pa_nil)) pa_nil))) (pa_cons (pe_tup (pa_cons (pv 2) (pa_cons (pe_lst (pa_cons (pe_tup (pa_cons pe_non (pa_cons pe_int pa_nil))) pa_nil)) pa_nil))) pa_nil)))))
 (pss_one (ps_ret (pe_ix (ix_listK (K := kf.K) rfl) (pv 4) (pe_callQ d__law_take.G (hr.mono (by decide)) hg (by rfl) d__law_take.g d__law_take.kp d__law_take.b pass0 (pa_cons (pv 0) (pa_cons pe_int pa_nil))) (fun _ _ => rfl)))))))))), tie_io (n := 2) (k := 3) (B := B__law_odd) rfl ?_ h⟩
  exact (c_seq (c_asgG (c_dY (c_yvar 1)) (c_gtup (c_gscons (c_gname 2) (c_gscons (c_gname 3) c_gsnil))))
 (c_seq (c_asg (c_ylst (c_ocons (c_yR (c_c (v := .non) rfl)) (c_ocons (c_yR (c_c (v := .int 5) rfl)) (c_ocons (c_yR (c_c (v := .bl true) rfl)) (c_ocons (c_yR (c_c (v := .str "2 0-1") rfl)) (c_ocons (c_ylst (c_ocons (c_yvar 2) (c_ocons (c_yvar 3) c_onil))) (c_ocons (c_ytup (c_ocons (c_yvar 2) c_onil)) (c_ocons (c_ytup (c_ocons (c_yvar 2) (c_ocons (c_yvar 3) (c_ocons (c_yR (c_c (v := .int 0) rfl)) c_onil)))) (c_ocons (c_ytup (c_ocons (c_yvar 2) (c_ocons (c_ycbA z_tuple (c_qcons (c_var 3) c_qnil) (c_lcons (c_dY (c_yvar 3)) c_lnil)) c_onil))) (c_ocons (c_ytup (c_ocons (c_yR (c_c (v := .bl true) rfl)) (c_ocons (c_ylst c_onil) c_onil))) (c_ocons (c_ytup (c_ocons (c_yR (c_c (v := .int 0) rfl)) (c_ocons (c_ylst c_onil) c_onil))) c_onil))))))))))))
 (c_seq (c_asg (c_yopA z_cat (c_var 4) (c_lst (c_qcons (c_tup (c_qcons (c_c (v := .int 41) rfl) (c_qcons (c_lst c_qnil) c_qnil))) (c_qcons (c_tup (c_qcons (c_cb b_strI (c_qcons (c_var 2) c_qnil)) (c_qcons (c_var 3) c_qnil))) (c_qcons (c_tup (c_qcons (c_var 2) (c_qcons (c_rRevL (c_var 3)) c_qnil))) (c_qcons (c_tup (c_qcons (c_var 2) (c_qcons (c_rOpZ z_cat (c_var 3) (c_rsl (c_var 3) c_cnone (c_csome (c_c (v := .int 1) rfl)))) c_qnil))) (c_qcons (c_tup (c_qcons (c_var 2) (c_qcons (c_rOpZ z_cat (c_lst (c_qcons (c_tup (c_qcons (c_c (v := .int 0) rfl) (c_qcons (c_c (v := .int 0) rfl) c_qnil))) c_qnil)) (c_var 3)) c_qnil))) c_qnil)))))) (c_dY (c_yvar 4)) (c_dY (c_ylst (c_ocons (c_ytup (c_ocons (c_yR (c_c (v := .int 41) rfl)) (c_ocons (c_ylst c_onil) c_onil))) (c_ocons (c_ytup (c_ocons (c_yR (c_cb b_strI (c_qcons (c_var 2) c_qnil))) (c_ocons (c_yvar 3) c_onil))) (c_ocons (c_ytup (c_ocons (c_yvar 2) (c_ocons (c_yRevLA (c_var 3) (c_dY (c_yvar 3))) c_onil))) (c_ocons (c_ytup (c_ocons (c_yvar 2) (c_ocons (c_yopA z_cat (c_var 3) (c_rsl (c_var 3) c_cnone (c_csome (c_c (v := .int 1) rfl))) (c_dY (c_yvar 3)) (c_dY (c_yslA (c_var 3) (c_dY (c_yvar 3)) c_cnone (c_csome (c_c (v := .int 1) rfl))))) c_onil))) (c_ocons (c_ytup (c_ocons (c_yvar 2) (c_ocons (c_yopA z_cat (c_lst (c_qcons (c_tup (c_qcons (c_c (v := .int 0) rfl) (c_qcons (c_c (v := .int 0) rfl) c_qnil))) c_qnil)) (c_var 3) (c_dY (c_ylst (c_ocons (c_ytup (c_ocons (c_yR (c_c (v := .int 0) rfl)) (c_ocons (c_yR (c_c (v := .int 0) rfl)) c_onil))) c_onil))) (c_dY (c_yvar 3))) c_onil))) c_onil)))))))))
 (c_seq (c_asg (c_yopA z_cat (c_var 4) (c_lst (c_qcons (c_tup (c_qcons (c_var 2) (c_qcons (c_rOpZ z_cat (c_var 3) (c_lst (c_qcons (c_tup (c_qcons (c_op o_sub (c_var 2) (c_c (v := .int 1) rfl)) (c_qcons (c_var 2) c_qnil))) c_qnil))) c_qnil))) (c_qcons (c_tup (c_qcons (c_var 2) (c_qcons (c_lst (c_qcons (c_lst (c_qcons (c_c (v := .int 0) rfl) (c_qcons (c_c (v := .int 1) rfl) c_qnil))) c_qnil)) c_qnil))) (c_qcons (c_tup (c_qcons (c_var 2) (c_qcons (c_lst (c_qcons (c_tup (c_qcons (c_c (v := .int 0) rfl) (c_qcons (c_c (v := .bl true) rfl) c_qnil))) c_qnil)) c_qnil))) (c_qcons (c_tup (c_qcons (c_var 2) (c_qcons (c_lst (c_qcons (c_tup (c_qcons (c_c (v := .int 0) rfl) (c_qcons (c_c (v := .int 1) rfl) (c_qcons (c_c (v := .int 2) rfl) c_qnil)))) c_qnil)) c_qnil))) c_qnil))))) (c_dY (c_yvar 4)) (c_dY (c_ylst (c_ocons (c_ytup (c_ocons (c_yvar 2) (c_ocons (c_yopA z_cat (c_var 3) (c_lst (c_qcons (c_tup (c_qcons (c_op o_sub (c_var 2) (c_c (v := .int 1) rfl)) (c_qcons (c_var 2) c_qnil))) c_qnil)) (c_dY (c_yvar 3)) (c_dY (c_ylst (c_ocons (c_ytup (c_ocons (c_yR (c_op o_sub (c_var 2) (c_c (v := .int 1) rfl))) (c_ocons (c_yvar 2) c_onil))) c_onil)))) c_onil))) (c_ocons (c_ytup (c_ocons (c_yvar 2) (c_ocons (c_ylst (c_ocons (c_ylst (c_ocons (c_yR (c_c (v := .int 0) rfl)) (c_ocons (c_yR (c_c (v := .int 1) rfl)) c_onil))) c_onil)) c_onil))) (c_ocons (c_ytup (c_ocons (c_yvar 2) (c_ocons (c_ylst (c_ocons (c_ytup (c_ocons (c_yR (c_c (v := .int 0) rfl)) (c_ocons (c_yR (c_c (v := .bl true) rfl)) c_onil))) c_onil)) c_onil))) (c_ocons (c_ytup (c_ocons (c_yvar 2) (c_ocons (c_ylst (c_ocons (c_ytup (c_ocons (c_yR (c_c (v := .int 0) rfl)) (c_ocons (c_yR (c_c (v := .int 1) rfl)) (c_ocons (c_yR (c_c (v := .int 2) rfl)) c_onil)))) c_onil)) c_onil))) c_onil))))))))
 (c_seq (c_asg (c_yop z_cat (c_dY (c_yvar 4)) (c_dY (c_ylst (c_ocons (c_ytup (c_ocons (c_yvar 2) (c_ocons (c_yR (c_c (v := .non) rfl)) c_onil))) (c_ocons (c_ytup (c_ocons (c_yvar 2) (c_ocons (c_ylst (c_ocons (c_ytup (c_ocons (c_yR (c_c (v := .int 1) rfl)) (c_ocons (c_yR (c_c (v := .int 0) rfl)) c_onil))) c_onil)) c_onil))) (c_ocons (c_ytup (c_ocons (c_yR (c_c (v := .int 40) rfl)) (c_ocons (c_yrep (c_ylst (c_ocons (c_yD (c_dY (c_ytup (c_ocons (c_yR (c_c (v := .int 0) rfl)) (c_ocons (c_yR (c_c (v := .int 1) rfl)) c_onil))))) c_onil)) (c_c (v := .int 121) rfl)) c_onil))) (c_ocons c_dnew (c_ocons (c_ytup c_onil) c_onil)))))))))
 (c_seq (c_asg (c_yopA z_cat (c_var 4) (c_lst (c_qcons (c_tup (c_qcons (c_var 2) (c_qcons (c_lst (c_qcons (c_tup (c_qcons (c_c (v := .int 0) rfl) (c_qcons (c_c (v := .str "1") rfl) c_qnil))) c_qnil)) c_qnil))) (c_qcons (c_tup (c_qcons (c_var 2) (c_qcons (c_lst (c_qcons (c_tup (c_qcons (c_c (v := .non) rfl) (c_qcons (c_c (v := .int 1) rfl) c_qnil))) c_qnil)) c_qnil))) c_qnil))) (c_dY (c_yvar 4)) (c_dY (c_ylst (c_ocons (c_ytup (c_ocons (c_yvar 2) (c_ocons (c_ylst (c_ocons (c_ytup (c_ocons (c_yR (c_c (v := .int 0) rfl)) (c_ocons (c_yR (c_c (v := .str "1") rfl)) c_onil))) c_onil)) c_onil))) (c_ocons (c_ytup (c_ocons (c_yvar 2) (c_ocons (c_ylst (c_ocons (c_ytup (c_ocons (c_yR (c_c (v := .non) rfl)) (c_ocons (c_yR (c_c (v := .int 1) rfl)) c_onil))) c_onil)) c_onil))) c_onil))))))
 (c_ret (c_yD (c_dix x_list (c_dY (c_yvar 4)) (c_dY (c_ycallI (c_lcons (c_dR (c_c (v := .int 26) rfl)) c_lnil))))))))))))
theorem ok_is_whole (B : Bn mg) (T : Tp kf.K mg "is_whole" s_is_whole) : FnQ P kf.w kf.K mg base CX0 1 T.a T.fd ["thing"] (spP 1 SH.m_is_whole) := by
  refine fnq_of T.F sc_is_whole (spP_len rfl) fun cdv A outer s H vs Q E hr hg h => ?_
  refine ⟨_, PSs.nox (pss_one (ps_ret (pe_and (pe_callB (call_isiKK (K := kf.K) rfl) (by rfl) B.n_isinstance (by decide +kernel) (pa_cons (pv 0) (pa_cons (pe_bltn (v := .ty "int") (u := .type "int") (by rfl) B.n_int (by decide +kernel) rfl) pa_nil))) (pe_one (pe_not (pe_callB (call_isiKK (K := kf.K) rfl) (by rfl) B.n_isinstance (by decide +kernel) (pa_cons (pv 0) (pa_cons (pe_bltn (v := .ty "bool") (u := .type "bool") (by rfl) B.n_bool (by decide +kernel) rfl) pa_nil)))))))), tie_plain (n := 1) (k := 0) (B := SH.B_is_whole) rfl ?_ h⟩
  exact (c_ret (c_yR (c_and (c_is (c_var 0)) (c_not (c_is (c_var 0))))))
theorem ok_joins_places (B : Bn mg) (T : Tp kf.K mg "joins_places" s_joins_places) (d_is_whole : Dq P kf.w kf.K mg base "is_whole" 1 ["thing"] (spP 1 SH.m_is_whole)) : FnQ P kf.w kf.K mg base CX0 2 T.a T.fd ["many", "thing"] (spP 2 SH.m_joins_places) := by
  refine fnq_of T.F sc_joins_places (spP_len rfl) fun cdv A outer s H vs Q E hr hg h => ?_
  refine ⟨_, PSs.nox (pss_cons (ps_if (PW.pt (pw_or (pt_not (pt_val (pe_callB (call_isiKK (K := kf.K) rfl) (by rfl) B.n_isinstance (by decide +kernel) (pa_cons (pv 1) (pa_cons (pe_bltn (v := .ty "tuple") (u := .type "tuple") (by rfl) B.n_tuple (by decide +kernel) rfl) pa_nil))))) (pw_or1 (pt_cmpR op_ne (pe_callB (call_len_seqK (K := kf.K) rfl) (by rfl) B.n_len PySem.boot_len (pa_cons (pv 1) pa_nil)) pe_int (nomark _)))))
 (pss_one (ps_ret pe_bl))
 pss_nil)
 (pss_cons (ps_asg (pv 1) (pg_tup rfl (pgs_cons (pg_name (i := 2) sc_joins_places.nd rfl (Or.inl rfl)) (pgs_cons (pg_name (i := 3) sc_joins_places.nd rfl (Or.inl rfl)) pgs_nil))))
 (pss_one (ps_ret (pe_and (pe_callQ d_is_whole.G (hr.mono (by decide)) hg (by rfl) d_is_whole.g d_is_whole.kp d_is_whole.b pass0 (pa_cons (pv 2) pa_nil)) (pe_and (pe_callQ d_is_whole.G (hr.mono (by decide)) hg (by rfl) d_is_whole.g d_is_whole.kp d_is_whole.b pass0 (pa_cons (pv 3) pa_nil)) (pe_one (pe_ch3 op_le op_lt op_lt pe_int (pv 2) (pv 3) (pv 0))))))))), tie_plain (n := 2) (k := 2) (B := SH.B_joins_places) rfl ?_ h⟩
  exact (c_seq (c_sif (c_tR (c_bOr (c_bNot (c_bB (c_is (c_var 1)))) (c_bR (c_op o_neI (c_cb b_len (c_qcons (c_var 1) c_qnil)) (c_c (v := .int 2) rfl)))))
 (c_ret (c_yR (c_c (v := .bl false) rfl)))
 c_next)
 (c_seq (c_asgG (c_dY (c_yvar 1)) (c_gtup (c_gscons (c_gname 2) (c_gscons (c_gname 3) c_gsnil))))
 (c_ret (c_yR (c_and (c_call (c_qcons (c_var 2) c_qnil)) (c_and (c_call (c_qcons (c_var 3) c_qnil)) (c_ch3 (c_c (v := .int 0) rfl) (c_var 2) (c_var 3) (c_var 0))))))))
theorem ok_web_fault (B : Bn mg) (T : Tp kf.K mg "web_fault" s_web_fault) (d_is_whole : Dq P kf.w kf.K mg base "is_whole" 1 ["thing"] (spP 1 SH.m_is_whole)) (d_joins_places : Dq P kf.w kf.K mg base "joins_places" 2 ["many", "thing"] (spP 2 SH.m_joins_places)) : FnQ P kf.w kf.K mg base CX0 3 T.a T.fd ["thing"] (spP 1 SH.m_web_fault) := by
  refine fnq_of T.F sc_web_fault (spP_len rfl) fun cdv A outer s H vs Q E hr hg h => ?_
  refine ⟨_, PSs.nox (pss_cons (ps_if (PW.pt (pw_or (pt_not (pt_val (pe_callB (call_isiKK (K := kf.K) rfl) (by rfl) B.n_isinstance (by decide +kernel) (pa_cons (pv 0) (pa_cons (pe_bltn (v := .ty "tuple") (u := .type "tuple") (by rfl) B.n_tuple (by decide +kernel) rfl) pa_nil))))) (pw_or1 (pt_cmpR op_ne (pe_callB (call_len_seqK (K := kf.K) rfl) (by rfl) B.n_len PySem.boot_len (pa_cons (pv 0) pa_nil)) pe_int (nomark _)))))
 (pss_one (ps_ret (pe_tup (pa_cons pe_str (pa_cons pe_non pa_nil)))))
 pss_nil)
 (pss_cons (ps_asg (pv 0) (pg_tup rfl (pgs_cons (pg_name (i := 1) sc_web_fault.nd rfl (Or.inl rfl)) (pgs_cons (pg_name (i := 2) sc_web_fault.nd rfl (Or.inl rfl)) pgs_nil))))
 (pss_cons (ps_if (PW.pt (pw_or (pt_not (pt_val (pe_callQ d_is_whole.G (hr.mono (by decide)) hg (by rfl) d_is_whole.g d_is_whole.kp d_is_whole.b pass0 (pa_cons (pv 1) pa_nil)))) (pw_or1 (pt_not (pt_chain op_le op_le pe_int (pv 1) (pe_glob (v := .int 40) rfl B.c_MOST_PLACES.choose_spec ⟨_, rfl⟩))))))
 (pss_one (ps_ret (pe_tup (pa_cons pe_str (pa_cons pe_non pa_nil)))))
 pss_nil)
 (pss_cons (ps_if (PW.pt (pw_or (pt_not (pt_val (pe_callB (call_isiKK (K := kf.K) rfl) (by rfl) B.n_isinstance (by decide +kernel) (pa_cons (pv 2) (pa_cons (pe_bltn (v := .ty "list") (u := .type "list") (by rfl) B.n_list (by decide +kernel) rfl) pa_nil))))) (pw_or1 (pt_cmpR op_gt (pe_callB (call_len_seqK (K := kf.K) rfl) (by rfl) B.n_len PySem.boot_len (pa_cons (pv 2) pa_nil)) (pe_glob (v := .int 120) rfl B.c_MOST_TIES.choose_spec ⟨_, rfl⟩) (nomark _)))))
 (pss_one (ps_ret (pe_tup (pa_cons pe_str (pa_cons pe_non pa_nil)))))
 pss_nil)
 (pss_cons (ps_for PassesOwn.never rfl (pi_enum (by rfl) B.n_enumerate (pa_cons (pv 2) pa_nil)) (pg_tup rfl (pgs_cons (pg_name (i := 3) sc_web_fault.nd rfl (Or.inl rfl)) (pgs_cons (pg_name (i := 4) sc_web_fault.nd rfl (Or.inl rfl)) pgs_nil)))
 (pss_one (ps_if (PW.pt (pw_or (pt_not (pt_val (pe_callQ d_joins_places.G (hr.mono (by decide)) hg (by rfl) d_joins_places.g d_joins_places.kp d_joins_places.b pass0 (pa_cons (pv 1) (pa_cons (pv 4) pa_nil))))) (pw_or1 (PW.pt (pw_and (pt_cmpR op_gt (pv 3) pe_int (nomark _)) (pw_and1 (pt_cmpR (op_leTK (K := kf.K) rfl hr.units0) (pv 4) (pe_ix (ix_listK (K := kf.K) rfl) (pv 2) (pe_op op_sub (pv 3) pe_int) (fun _ _ => rfl)) (nomark _))))))))
 (pss_one (ps_ret (pe_tup (pa_cons pe_str (pa_cons (pv 3) pa_nil)))))
 pss_nil)))
 (pss_one (ps_ret pe_non))))))), tie_plain (n := 1) (k := 4) (B := SH.B_web_fault) rfl ?_ h⟩
  exact (c_seq (c_sif (c_tR (c_bOr (c_bNot (c_bB (c_is (c_var 0)))) (c_bR (c_op o_neI (c_cb b_len (c_qcons (c_var 0) c_qnil)) (c_c (v := .int 2) rfl)))))
 (c_ret (c_ytup (c_ocons (c_yR (c_c (v := .str "web") rfl)) (c_ocons (c_yR (c_c (v := .non) rfl)) c_onil))))
 c_next)
 (c_seq (c_asgG (c_dY (c_yvar 0)) (c_gtup (c_gscons (c_gname 1) (c_gscons (c_gname 2) c_gsnil))))
 (c_seq (c_sif (c_tR (c_bOr (c_bNot (c_bB (c_call (c_qcons (c_var 1) c_qnil)))) (c_bNot (c_bR (c_ch (c_c (v := .int 1) rfl) (c_var 1) (c_c (v := .int 40) rfl))))))
 (c_ret (c_ytup (c_ocons (c_yR (c_c (v := .str "places") rfl)) (c_ocons (c_yR (c_c (v := .non) rfl)) c_onil))))
 c_next)
 (c_seq (c_sif (c_tR (c_bOr (c_bNot (c_bB (c_is (c_var 2)))) (c_bR (c_op o_gt (c_cb b_len (c_qcons (c_var 2) c_qnil)) (c_c (v := .int 120) rfl)))))
 (c_ret (c_ytup (c_ocons (c_yR (c_c (v := .str "ties") rfl)) (c_ocons (c_yR (c_c (v := .non) rfl)) c_onil))))
 c_next)
 (c_seq (c_for (c_iE (c_lcons (c_dY (c_yvar 2)) c_lnil)) (c_gtup (c_gscons (c_gname 3) (c_gscons (c_gname 4) c_gsnil)))
 (c_sif (c_tR (c_bOr (c_bNot (c_bB (c_call (c_qcons (c_var 1) (c_qcons (c_var 4) c_qnil))))) (c_bAnd (c_bR (c_op o_gt (c_var 3) (c_c (v := .int 0) rfl))) (c_bR (c_op o_leT (c_var 4) (c_ix x_list (c_var 2) (c_op o_sub (c_var 3) (c_c (v := .int 1) rfl))))))))
 (c_ret (c_ytup (c_ocons (c_yR (c_c (v := .str "ties") rfl)) (c_ocons (c_ymov 3) c_onil))))
 c_next))
 (c_ret (c_yR (c_c (v := .non) rfl))))))))
theorem ok_look_at_webs__x (B : Bn mg) (T : Tp kf.K mg "look_at_webs" s_look_at_webs__x) (xt : XTs P kf.K mg) (d_web_fault : Dq P kf.w kf.K mg base "web_fault" 3 ["thing"] (spP 1 SH.m_web_fault)) : FnQ P kf.w kf.K mg base (L2.CX P kf.w) 4 T.a T.fd ["thing"] (spX 1 m_look_at_webs__x) := by
  refine fnq_of T.F sc_look_at_webs__x (spX_len rfl) fun cdv A outer s H vs Q E hr hg h => ?_
  refine ⟨_, (pss_cons (ps_if (PW.pt (pw_or (pt_not (pt_val (pe_callB (call_isiKK (K := kf.K) rfl) (by rfl) B.n_isinstance (by decide +kernel) (pa_cons (pv 0) (pa_cons (pe_bltn (v := .ty "list") (u := .type "list") (by rfl) B.n_list (by decide +kernel) rfl) pa_nil))))) (pw_or1 (pt_cmpR op_gt (pe_callB (call_len_seqK (K := kf.K) rfl) (by rfl) B.n_len PySem.boot_len (pa_cons (pv 0) pa_nil)) (pe_glob (v := .int 12) rfl B.c_MOST_WEBS.choose_spec ⟨_, rfl⟩) (nomark _)))))
 (pss_one (ps_raiseF xt.R_NoWebs rfl rfl rfl rfl (takes_of rfl rfl rfl rfl) (hr.mono (by decide)) rfl (pa_cons pe_non pa_nil)))
 pss_nil)
 (pss_one (ps_for (passes_of rfl) rfl (pi_enum (by rfl) B.n_enumerate (pa_cons (pv 0) pa_nil)) (pg_tup rfl (pgs_cons (pg_name (i := 1) sc_look_at_webs__x.nd rfl (Or.inl rfl)) (pgs_cons (pg_name (i := 2) sc_look_at_webs__x.nd rfl (Or.inl rfl)) pgs_nil)))
 (pss_one (ps_if (pt_cmpR op_notN (pe_callQ d_web_fault.G (hr.mono (by decide)) hg (by rfl) d_web_fault.g d_web_fault.kp d_web_fault.b pass0 (pa_cons (pv 2) pa_nil)) pe_non (nomark _))
 (pss_one (ps_raiseF xt.R_NoWebs rfl rfl rfl rfl (takes_of rfl rfl rfl rfl) (hr.mono (by decide)) rfl (pa_cons (pv 1) pa_nil)))
 pss_nil))))), tie_x (n := 1) (k := 2) (B := B_look_at_webs__x) rfl ?_ h⟩
  letI wxx : WXI := ⟨fun cls d _ H1 => E cls d H1⟩
  exact (c_seq (c_sif (c_tR (c_bOr (c_bNot (c_bB (c_is (c_var 0)))) (c_bR (c_op o_gt (c_cb b_len (c_qcons (c_var 0) c_qnil)) (c_c (v := .int 12) rfl)))))
 (c_raiseF xt.R_NoWebs.n (by decide) (by decide) (c_qcons (c_c (v := .non) rfl) c_qnil))
 c_next)
 (c_for (c_iE (c_lcons (c_dY (c_yvar 0)) c_lnil)) (c_gtup (c_gscons (c_gname 1) (c_gscons (c_gname 2) c_gsnil)))
 (c_sif (c_tR (c_bR (c_op o_notN (c_call (c_qcons (c_var 2) c_qnil)) (c_c (v := .non) rfl))))
 (c_raiseF xt.R_NoWebs.n (by decide) (by decide) (c_qcons (c_var 1) c_qnil))
 c_next)))
theorem ok__law_told (B : Bn mg) (T : Tp kf.K mg "_law_told" s__law_told) (xt : XTs P kf.K mg) (d_look_at_webs__x : DqX P kf.w kf.K mg base "look_at_webs" 4 ["thing"] (spX 1 m_look_at_webs__x)) : FnQ P kf.w kf.K mg base CX0 5 T.a T.fd ["_law_thing"] (spP 1 m__law_told) := by
  refine fnq_of T.F sc__law_told (spP_len rfl) fun cdv A outer s H vs Q E hr hg h => ?_
  refine ⟨_, PSs.nox (pss_cons (ps_set (i := 1) sc__law_told.nd rfl (Or.inl rfl) pe_non)
 (pss_cons (ps_set (i := 2) sc__law_told.nd rfl (Or.inl rfl) pe_non)
 (pss_cons (ps_try_keep (i := 3) (j := 1) rfl rfl rfl sc__law_told.nd rfl rfl ⟨rfl, by decide, .inl xt.g_WebError⟩ (fun W pn xe tk => (pss_one (ps_set (i := 2) sc__law_told.nd rfl (Or.inl rfl) (pe_callX d_look_at_webs__x.G (hr.mono (by decide)) hg (by rfl) d_look_at_webs__x.g d_look_at_webs__x.kp d_look_at_webs__x.b tk (pa_cons (pv 0) pa_nil))))) (fun a oe pn => (pss_one (ps_set (i := 1) sc__law_told.nd rfl (Or.inl rfl) (pv 3)))))
 (pss_cons (ps_if (pt_cmpR op_isN (pv 1) pe_non (nomark _))
 (pss_one (ps_ret (pe_ifExp (pt_cmpR op_notN (pv 2) pe_non (nomark _)) (pe_lst (pa_cons pe_str pa_nil)) (pe_lst pa_nil))))
 pss_nil)
 (pss_cons (ps_if (PW.pt (pw_or (pt_not (pt_val (pe_callB (call_isK (K := kf.K) rfl) (by rfl) B.n_isinstance (by decide +kernel) (pa_cons (pv 1) (pa_cons (pe_glob (v := .ref xt.C_NoWebs) rfl xt.g_NoWebs rfl) pa_nil))))) (pw_or1 (pt_not (pt_val (pe_callB (call_isK (K := kf.K) rfl) (by rfl) B.n_isinstance (by decide +kernel) (pa_cons (pv 1) (pa_cons (pe_bltn (v := .ty "ValueError") (u := .type "ValueError") (by rfl) B.n_ValueError (by decide +kernel) rfl) pa_nil))))))))
 (pss_one (ps_ret (pe_lst (pa_cons pe_str pa_nil))))
 pss_nil)
 (pss_cons (ps_if (PW.pt (pw_or (pt_val (pe_callB (call_isKT (K := kf.K) rfl) (by rfl) B.n_isinstance (by decide +kernel) (pa_cons (pv 1) (pa_cons (pe_tup (pa_cons (pe_glob (v := .ref xt.C_Apart) rfl xt.g_Apart rfl) (pa_cons (pe_glob (v := .ref xt.C_NoPlace) rfl xt.g_NoPlace rfl) (pa_cons (pe_glob (v := .ref xt.C_NoWeb) rfl xt.g_NoWeb rfl) (pa_cons (pe_glob (v := .ref xt.C_TooBig) rfl xt.g_TooBig rfl) pa_nil))))) pa_nil)))) (pw_or1 (pt_val (pe_callB (call_isiKK (K := kf.K) rfl) (by rfl) B.n_isinstance (by decide +kernel) (pa_cons (pe_fld (pv 1)) (pa_cons (pe_bltn (v := .ty "bool") (u := .type "bool") (by rfl) B.n_bool (by decide +kernel) rfl) pa_nil)))))))
 (pss_one (ps_ret (pe_lst (pa_cons pe_str pa_nil))))
 pss_nil)
 (pss_one (ps_ret (pe_lst (pa_cons (pe_fld (pv 1)) pa_nil)))))))))), tie_plain (n := 1) (k := 3) (B := B__law_told) rfl ?_ h⟩
  exact (c_seq (c_asg (c_yR (c_c (v := .non) rfl)))
 (c_seq (c_asg (c_yR (c_c (v := .non) rfl)))
 (c_seq (c_tryK xt.m_WebError (fun W => letI wxx : WXI := ⟨W⟩; (c_asgX (c_xcallA (c_qcons (c_var 0) c_qnil) (c_lcons (c_dY (c_yvar 0)) c_lnil)))))
 (c_seq (c_sif (c_tR (c_bR c_isNX))
 (c_ret (c_yif (c_tR (c_bR (c_op o_notN (c_var 2) (c_c (v := .non) rfl)))) (c_ylst (c_ocons (c_yR (c_c (v := .str "odd") rfl)) c_onil)) (c_ylst c_onil)))
 c_next)
 (c_seq (c_sif (c_tR (c_bOr (c_bNot (c_bB (c_isX (.own xt.C_NoWebs) xt.h_1 fun _ => xt.z_1))) (c_bNot (c_bB (c_isX (.ty "ValueError") xt.h_0 fun _ => xt.z_0)))))
 (c_ret (c_ylst (c_ocons (c_yR (c_c (v := .str "odd") rfl)) c_onil)))
 c_next)
 (c_seq (c_sif (c_tR (c_bOr (c_bB (c_isXT (.cons (.own xt.C_Apart) (.cons (.own xt.C_NoPlace) (.cons (.own xt.C_NoWeb) (.cons (.own xt.C_TooBig) .nil)))) (Nat.le_of_ble_eq_true rfl) (fun _ _ _ q => q) xt.h_2 fun _ => xt.z_2)) (c_bB (c_is (c_fld (List.forall_mem_cons.mpr ⟨⟨_, xt.R_NoWebs.n, xt.R_NoWebs.X, xt.R_NoWebs.no _ (by decide)⟩, fun _ hm => nomatch hm⟩))))))
 (c_ret (c_ylst (c_ocons (c_yR (c_c (v := .str "odd") rfl)) c_onil)))
 c_next)
 (c_ret (c_ylst (c_ocons (c_yR (c_fld (List.forall_mem_cons.mpr ⟨⟨_, xt.R_NoWebs.n, xt.R_NoWebs.X, xt.R_NoWebs.no _ (by decide)⟩, fun _ hm => nomatch hm⟩))) c_onil)))))))))
theorem ok__law_whole (B : Bn mg) (T : Tp kf.K mg "_law_whole" s__law_whole) : FnQ P kf.w kf.K mg base CX0 1 T.a T.fd ["_law_thing"] (spP 1 m__law_whole) := by
  refine fnq_of T.F sc__law_whole (spP_len rfl) fun cdv A outer s H vs Q E hr hg h => ?_
  refine ⟨_, PSs.nox (pss_one (ps_ret (pe_and (pe_callB (call_isiKK (K := kf.K) rfl) (by rfl) B.n_isinstance (by decide +kernel) (pa_cons (pv 0) (pa_cons (pe_bltn (v := .ty "int") (u := .type "int") (by rfl) B.n_int (by decide +kernel) rfl) pa_nil))) (pe_one (pe_not (pe_callB (call_isiKK (K := kf.K) rfl) (by rfl) B.n_isinstance (by decide +kernel) (pa_cons (pv 0) (pa_cons (pe_bltn (v := .ty "bool") (u := .type "bool") (by rfl) B.n_bool (by decide +kernel) rfl) pa_nil)))))))), tie_plain (n := 1) (k := 0) (B := B__law_whole) rfl ?_ h⟩
  exact (c_ret (c_yR (c_and (c_is (c_var 0)) (c_not (c_is (c_var 0))))))
theorem ok__law_is_web (B : Bn mg) (T : Tp kf.K mg "_law_is_web" s__law_is_web) (d__law_whole : Dq P kf.w kf.K mg base "_law_whole" 1 ["_law_thing"] (spP 1 m__law_whole)) : FnQ P kf.w kf.K mg base CX0 2 T.a T.fd ["_law_thing"] (spP 1 m__law_is_web) := by
  refine fnq_of T.F sc__law_is_web (spP_len rfl) fun cdv A outer s H vs Q E hr hg h => ?_
  refine ⟨_, PSs.nox (pss_cons (ps_if (PW.pt (pw_or (pt_not (pt_val (pe_callB (call_isiKK (K := kf.K) rfl) (by rfl) B.n_isinstance (by decide +kernel) (pa_cons (pv 0) (pa_cons (pe_bltn (v := .ty "tuple") (u := .type "tuple") (by rfl) B.n_tuple (by decide +kernel) rfl) pa_nil))))) (pw_or (pt_cmpR op_ne (pe_callB (call_len_seqK (K := kf.K) rfl) (by rfl) B.n_len PySem.boot_len (pa_cons (pv 0) pa_nil)) pe_int (nomark _)) (pw_or (pt_not (pt_val (pe_callQ d__law_whole.G (hr.mono (by decide)) hg (by rfl) d__law_whole.g d__law_whole.kp d__law_whole.b pass0 (pa_cons (pe_ix (ix_tupK (K := kf.K) rfl) (pv 0) pe_int (fun _ _ => rfl)) pa_nil)))) (pw_or1 (pt_not (pt_chain op_le op_le pe_int (pe_ix (ix_tupK (K := kf.K) rfl) (pv 0) pe_int (fun _ _ => rfl)) pe_int)))))))
 (pss_one (ps_ret pe_bl))
 pss_nil)
 (pss_cons (ps_if (PW.pt (pw_or (pt_not (pt_val (pe_callB (call_isiKK (K := kf.K) rfl) (by rfl) B.n_isinstance (by decide +kernel) (pa_cons (pe_ix (ix_tupK (K := kf.K) rfl) (pv 0) pe_int (fun _ _ => rfl)) (pa_cons (pe_bltn (v := .ty "list") (u := .type "list") (by rfl) B.n_list (by decide +kernel) rfl) pa_nil))))) (pw_or1 (pt_cmpR op_gt (pe_callB (call_len_seqK (K := kf.K) rfl) (by rfl) B.n_len PySem.boot_len (pa_cons (pe_ix (ix_tupK (K := kf.K) rfl) (pv 0) pe_int (fun _ _ => rfl)) pa_nil)) pe_int (nomark _)))))
 (pss_one (ps_ret pe_bl))
 pss_nil)
 (pss_cons (ps_set (i := 1) sc__law_is_web.nd rfl (Or.inl rfl) (pe_tup (pa_cons (pe_un un_neg pe_int) (pa_cons (pe_un un_neg pe_int) pa_nil))))
 (pss_cons (ps_for PassesOwn.never rfl (pi_listK (K := kf.K) rfl (pe_ix (ix_tupK (K := kf.K) rfl) (pv 0) pe_int (fun _ _ => rfl))) (pg_name (i := 2) sc__law_is_web.nd rfl (Or.inl rfl))
 (pss_cons (ps_if (PW.pt (pw_or (pt_not (pt_val (pe_callB (call_isiKK (K := kf.K) rfl) (by rfl) B.n_isinstance (by decide +kernel) (pa_cons (pv 2) (pa_cons (pe_bltn (v := .ty "tuple") (u := .type "tuple") (by rfl) B.n_tuple (by decide +kernel) rfl) pa_nil))))) (pw_or (pt_cmpR op_ne (pe_callB (call_len_seqK (K := kf.K) rfl) (by rfl) B.n_len PySem.boot_len (pa_cons (pv 2) pa_nil)) pe_int (nomark _)) (pw_or (pt_not (pt_val (pe_callQ d__law_whole.G (hr.mono (by decide)) hg (by rfl) d__law_whole.g d__law_whole.kp d__law_whole.b pass0 (pa_cons (pe_ix (ix_tupK (K := kf.K) rfl) (pv 2) pe_int (fun _ _ => rfl)) pa_nil)))) (pw_or1 (pt_not (pt_val (pe_callQ d__law_whole.G (hr.mono (by decide)) hg (by rfl) d__law_whole.g d__law_whole.kp d__law_whole.b pass0 (pa_cons (pe_ix (ix_tupK (K := kf.K) rfl) (pv 2) pe_int (fun _ _ => rfl)) pa_nil)))))))))
 (pss_one (ps_ret pe_bl))
 pss_nil)
 (pss_cons (ps_if (PW.pt (pw_or (pt_not (pt_ch3 op_le op_lt op_lt pe_int (pe_ix (ix_tupK (K := kf.K) rfl) (pv 2) pe_int (fun _ _ => rfl)) (pe_ix (ix_tupK (K := kf.K) rfl) (pv 2) pe_int (fun _ _ => rfl)) (pe_ix (ix_tupK (K := kf.K) rfl) (pv 0) pe_int (fun _ _ => rfl)))) (pw_or1 (pt_cmpR (op_leTK (K := kf.K) rfl hr.units0) (pv 2) (pv 1) (nomark _)))))
 (pss_one (ps_ret pe_bl))
 pss_nil)
 (pss_one (ps_set (i := 1) sc__law_is_web.nd rfl (Or.inl rfl) (pv 2))))))
 (pss_one (ps_ret pe_bl)))))), tie_plain (n := 1) (k := 2) (B := B__law_is_web) rfl ?_ h⟩
  exact (c_seq (c_sif (c_tR (c_bOr (c_bNot (c_bB (c_is (c_var 0)))) (c_bOr (c_bR (c_op o_neI (c_cb b_len (c_qcons (c_var 0) c_qnil)) (c_c (v := .int 2) rfl))) (c_bOr (c_bNot (c_bB (c_call (c_qcons (c_ix x_tup (c_var 0) (c_c (v := .int 0) rfl)) c_qnil)))) (c_bNot (c_bR (c_ch (c_c (v := .int 1) rfl) (c_ix x_tup (c_var 0) (c_c (v := .int 0) rfl)) (c_c (v := .int 40) rfl))))))))
 (c_ret (c_yR (c_c (v := .bl false) rfl)))
 c_next)
 (c_seq (c_sif (c_tR (c_bOr (c_bNot (c_bB (c_is (c_ix x_tup (c_var 0) (c_c (v := .int 1) rfl))))) (c_bR (c_op o_gt (c_cb b_len (c_qcons (c_ix x_tup (c_var 0) (c_c (v := .int 1) rfl)) c_qnil)) (c_c (v := .int 120) rfl)))))
 (c_ret (c_yR (c_c (v := .bl false) rfl)))
 c_next)
 (c_seq (c_asg (c_ytup (c_ocons (c_yR (c_un o_neg (c_c (v := .int 1) rfl))) (c_ocons (c_yR (c_un o_neg (c_c (v := .int 1) rfl))) c_onil))))
 (c_seq (c_for (c_iL (c_dY (c_yauto (c_ix x_tup (c_var 0) (c_c (v := .int 1) rfl)) (c_yD (c_dixR x_tup (c_dY (c_yvar 0)) (c_c (v := .int 1) rfl)))))) (c_gname 2)
 (c_seq (c_sif (c_tR (c_bOr (c_bNot (c_bB (c_is (c_var 2)))) (c_bOr (c_bR (c_op o_neI (c_cb b_len (c_qcons (c_var 2) c_qnil)) (c_c (v := .int 2) rfl))) (c_bOr (c_bNot (c_bB (c_call (c_qcons (c_ix x_tup (c_var 2) (c_c (v := .int 0) rfl)) c_qnil)))) (c_bNot (c_bB (c_call (c_qcons (c_ix x_tup (c_var 2) (c_c (v := .int 1) rfl)) c_qnil))))))))
 (c_ret (c_yR (c_c (v := .bl false) rfl)))
 c_next)
 (c_seq (c_sif (c_tR (c_bOr (c_bNot (c_bR (c_ch3 (c_c (v := .int 0) rfl) (c_ix x_tup (c_var 2) (c_c (v := .int 0) rfl)) (c_ix x_tup (c_var 2) (c_c (v := .int 1) rfl)) (c_ix x_tup (c_var 0) (c_c (v := .int 0) rfl))))) (c_bR (c_op o_leT (c_var 2) (c_var 1)))))
 (c_ret (c_yR (c_c (v := .bl false) rfl)))
 c_next)
 (c_asg (c_yvar 2)))))
 (c_ret (c_yR (c_c (v := .bl true) rfl)))))))
end
end z09
namespace z09
open PySem L2 PL MR SH
open PySem L2 PL
local macro_rules | `(tactic| walk_at "sd") => `(tactic| first | rfl | assumption | omega | decide)
section
variable {P : Program} [kf : KF] {mg : Str → Option Value} {base : Heap}
theorem ok__law_due (B : Bn mg) (T : Tp kf.K mg "_law_due" s__law_due) (d__law_is_web : Dq P kf.w kf.K mg base "_law_is_web" 2 ["_law_thing"] (spP 1 m__law_is_web)) : FnQ P kf.w kf.K mg base CX0 3 T.a T.fd ["_law_thing"] (spP 1 m__law_due) := by
  refine fnq_of T.F sc__law_due (spP_len rfl) fun cdv A outer s H vs Q E hr hg h => ?_
  refine ⟨_, PSs.nox (pss_cons (ps_if (PW.pt (pw_or (pt_not (pt_val (pe_callB (call_isiKK (K := kf.K) rfl) (by rfl) B.n_isinstance (by decide +kernel) (pa_cons (pv 0) (pa_cons (pe_bltn (v := .ty "list") (u := .type "list") (by rfl) B.n_list (by decide +kernel) rfl) pa_nil))))) (pw_or1 (pt_cmpR op_gt (pe_callB (call_len_seqK (K := kf.K) rfl) (by rfl) B.n_len PySem.boot_len (pa_cons (pv 0) pa_nil)) pe_int (nomark _)))))
 (pss_one (ps_ret (pe_lst (pa_cons pe_non pa_nil))))
 pss_nil)
 (pss_one (ps_ret (pe_slice (sl_listK (K := kf.K) rfl) (pe_lc (own := [("_law_number", 1), ("_law_web_here", 2)]) rfl sc__law_due.nd (pi_enum (by rfl) B.n_enumerate (pa_cons (pv 0) pa_nil)) (blkOk_by (own := [("_law_number", 1), ("_law_web_here", 2)]) (N := ["_law_thing", "_law_number", "_law_web_here"]) (sc := defScope s__law_due) (by decide +kernel)) (fun _ _ _ _ _ => (pg_tupK (K := kf.K) (n := 2) rfl rfl (pgs_cons (pg_name (i := 1) sc__law_due.nd rfl (Or.inl rfl)) (pgs_cons (pg_name (i := 2) sc__law_due.nd rfl (Or.inl rfl)) pgs_nil)))) (fun _ _ _ _ _ => pts_one (pt_not (pt_val (pe_callQ d__law_is_web.G (hr.mono (by decide)) hg (by rfl) d__law_is_web.g d__law_is_web.kp d__law_is_web.b pass0 (pa_cons (pv 2) pa_nil))))) (fun _ _ _ _ _ => (pv 1))) po_none (po_some pe_int))))), tie_plain (n := 1) (k := 2) (B := B__law_due) rfl ?_ h⟩
  exact (c_seq (c_sif (c_tR (c_bOr (c_bNot (c_bB (c_is (c_var 0)))) (c_bR (c_op o_gt (c_cb b_len (c_qcons (c_var 0) c_qnil)) (c_c (v := .int 12) rfl)))))
 (c_ret (c_ylst (c_ocons (c_yR (c_c (v := .non) rfl)) c_onil)))
 c_next)
 (c_ret (c_ysl (c_dY (c_ylc (vs := [1, 2]) (c_iE (c_lcons (c_dY (c_yvar 0)) c_lnil)) (c_gtup (c_gscons (c_gname 1) (c_gscons (c_gname 2) c_gsnil))) (by decide) (c_tR (c_bNot (c_bB (c_call (c_qcons (c_var 2) c_qnil))))) (c_yvar 1))) c_cnone (c_csome (c_c (v := .int 1) rfl)))))
theorem ok__law_right (B : Bn mg) (T : Tp kf.K mg "_law_right" s__law_right) (d__law_told : Dq P kf.w kf.K mg base "_law_told" 5 ["_law_thing"] (spP 1 m__law_told)) (d__law_due : Dq P kf.w kf.K mg base "_law_due" 3 ["_law_thing"] (spP 1 m__law_due)) : FnQ P kf.w kf.K mg base CX0 6 T.a T.fd ["_law_thing"] (spP 1 m__law_right) := by
  refine fnq_of T.F sc__law_right (spP_len rfl) fun cdv A outer s H vs Q E hr hg h => ?_
  refine ⟨_, PSs.nox (pss_cons (ps_set (i := 1) sc__law_right.nd rfl (Or.inl rfl) (pe_callB (cr_reprN rfl hg hr.units) (by rfl) B.n_repr (by decide +kernel) (pa_cons (pv 0) pa_nil)))
 (pss_one (ps_ret (pe_and (pe_cmpR (op_eqDK (K := kf.K) rfl hr.units) (pe_callQ d__law_told.G (hr.mono (by decide)) hg (by rfl) d__law_told.g d__law_told.kp d__law_told.b pass0 (pa_cons (pv 0) pa_nil)) (pe_callQ d__law_due.G (hr.mono (by decide)) hg (by rfl) d__law_due.g d__law_due.kp d__law_due.b pass0 (pa_cons (pv 0) pa_nil)) (nomark _)) (pe_one (pe_cmpR op_eq (pe_callB (cr_reprN rfl hg hr.units) (by rfl) B.n_repr (by decide +kernel) (pa_cons (pv 0) pa_nil)) (pv 1) (nomark _))))))), tie_plain (n := 1) (k := 1) (B := B__law_right) rfl ?_ h⟩
  exact (c_seq (c_asg (c_yR (c_reprN (c_var 0))))
 (c_ret (c_yR (c_and (c_op o_eqD (c_call (c_qcons (c_var 0) c_qnil)) (c_call (c_qcons (c_var 0) c_qnil))) (c_op o_eqS (c_reprN (c_var 0)) (c_var 1))))))
theorem ok_law (B : Bn mg) (T : Tp kf.K mg "law" s_law) (d__law_pool : Dq P kf.w kf.K mg base "_law_pool" 1 ["_law_script", "_law_k"] (spP 2 SH.m__law_pool)) (d__law_take : Dq P kf.w kf.K mg base "_law_take" 1 ["_law_pool_here", "_law_many"] (spI 2 SH.m__law_take)) (d__law_loose : Dq P kf.w kf.K mg base "_law_loose" 3 ["_law_pool_here", "_law_most", "_law_more"] (spI 3 SH.m__law_loose)) (d__law_odd : Dq P kf.w kf.K mg base "_law_odd" 2 ["_law_pool_here", "_law_web_here"] (spI 2 m__law_odd)) (d__law_right : Dq P kf.w kf.K mg base "_law_right" 6 ["_law_thing"] (spP 1 m__law_right)) (d__law_told : Dq P kf.w kf.K mg base "_law_told" 5 ["_law_thing"] (spP 1 m__law_told)) : FnQ P kf.w kf.K mg base CX0 7 T.a T.fd ["_law_script"] (spP 1 m_law) := by
  refine fnq_of T.F sc_law (spP_len rfl) fun cdv A outer s H vs Q E hr hg h => ?_
  refine ⟨_, PSs.nox (pss_cons (ps_for PassesOwn.never rfl (pi_range1 (by rfl) B.n_range (pa_cons (pe_callB (call_max2 rfl) (by rfl) B.n_max (by decide +kernel) (pa_cons pe_int (pa_cons (pe_callB (call_min2 rfl) (by rfl) B.n_min (by decide +kernel) (pa_cons (pe_callB (call_len_seqK (K := kf.K) rfl) (by rfl) B.n_len PySem.boot_len (pa_cons (pv 0) pa_nil)) (pa_cons pe_int pa_nil))) pa_nil))) pa_nil)) (pg_name (i := 1) sc_law.nd rfl (Or.inl rfl))
 (pss_cons (ps_set (i := 2) sc_law.nd rfl (Or.inr rfl) (pe_callQ d__law_pool.G (hr.mono (by decide)) hg (by rfl) d__law_pool.g d__law_pool.kp d__law_pool.b pass0 (pa_cons (pv 0) (pa_cons (pv 1) pa_nil))))
 (pss_cons (ps_setLc (i := 3) (own := [("_law_turn", 4)]) rfl sc_law.nd rfl rfl (sw_true rfl rfl rfl (by decide +kernel)) (pi_range1 (by rfl) B.n_range (pa_cons (pe_callQ d__law_take.G (hr.mono (by decide)) hg (by rfl) d__law_take.g d__law_take.kp d__law_take.b pass0 (pa_cons (pv 2) (pa_cons pe_int pa_nil))) pa_nil)) (blkOk_by (own := [("_law_turn", 4)]) (N := ["_law_script", "_law_k", "_law_pool_here", "_law_webs", "_law_turn", "_law_bent", "_law_thing"]) (sc := defScope s_law) (by decide +kernel)) (fun _ _ _ _ _ => (pg_name (i := 4) sc_law.nd rfl (Or.inl rfl))) (fun _ _ _ _ _ => pts_nil) (fun _ _ _ _ _ => (pe_callQ d__law_loose.G (hr.mono (by decide)) hg (by rfl) d__law_loose.g d__law_loose.kp d__law_loose.b pass0 (pa_cons (pv 2) (pa_cons (pe_ix (ix_listK (K := kf.K) rfl) (pe_lst (pa_cons pe_int (pa_cons pe_int (pa_cons pe_int (pa_cons pe_int pa_nil))))) (pe_callQ d__law_take.G (hr.mono (by decide)) hg (by rfl) d__law_take.g d__law_take.kp d__law_take.b pass0 (pa_cons (pv 2) (pa_cons pe_int pa_nil))) (fun _ _ => rfl)) (pa_cons pe_int pa_nil))))))
 (pss_cons (ps_set (i := 3) sc_law.nd rfl (Or.inl rfl) (pe_op (op_catRK (K := kf.K) rfl) (pv 3) (pe_slice (sl_listK (K := kf.K) rfl) (pv 3) po_none (po_some (pe_callQ d__law_take.G (hr.mono (by decide)) hg (by rfl) d__law_take.g d__law_take.kp d__law_take.b pass0 (pa_cons (pv 2) (pa_cons pe_int pa_nil)))))))
 (pss_cons (ps_set (i := 5) sc_law.nd rfl (Or.inl rfl) (pe_callTy (call_list_ofK (K := kf.K) rfl) (by rfl) B.n_list (by decide +kernel) (pa_cons (pv 3) pa_nil)))
 (pss_cons (ps_for PassesOwn.never rfl (pi_range1 (by rfl) B.n_range (pa_cons (pe_op op_mul (pe_callQ d__law_take.G (hr.mono (by decide)) hg (by rfl) d__law_take.g d__law_take.kp d__law_take.b pass0 (pa_cons (pv 2) (pa_cons pe_int pa_nil))) (pe_callTy call_int1 (by rfl) B.n_int (by decide +kernel) (pa_cons (pe_cmpR (op_neDK (K := kf.K) rfl hr.units) (pv 3) (pe_lst pa_nil) (nomark _)) pa_nil))) pa_nil)) (pg_name (i := 4) sc_law.nd rfl (Or.inl rfl))
 (pss_one (ps_asg (pe_callQ d__law_odd.G (hr.mono (by decide)) hg (by rfl) d__law_odd.g d__law_odd.kp d__law_odd.b pass0 (pa_cons (pv 2) (pa_cons (pe_ix (ix_listK (K := kf.K) rfl) (pv 3) pe_int (fun _ _ => rfl)) pa_nil))) (pg_sub (pv 5) (pe_callQ d__law_take.G (hr.mono (by decide)) hg (by rfl) d__law_take.g d__law_take.kp d__law_take.b pass0 (pa_cons (pv 2) (pa_cons (pe_callB (call_len_seqK (K := kf.K) rfl) (by rfl) B.n_len PySem.boot_len (pa_cons (pv 5) pa_nil)) pa_nil))) set_list))))
 (pss_cons (ps_if (PW.pt (pw_or (pt_not (pt_val (pe_callQ d__law_right.G (hr.mono (by decide)) hg (by rfl) d__law_right.g d__law_right.kp d__law_right.b pass0 (pa_cons (pv 3) pa_nil)))) (pw_or (pt_not (pt_val (pe_callQ d__law_right.G (hr.mono (by decide)) hg (by rfl) d__law_right.g d__law_right.kp d__law_right.b pass0 (pa_cons (pv 5) pa_nil)))) (pw_or1 (pt_not (pt_val (pe_callQ d__law_right.G (hr.mono (by decide)) hg (by rfl) d__law_right.g d__law_right.kp d__law_right.b pass0 (pa_cons (pv 3) pa_nil))))))))
 (pss_one (ps_ret pe_bl))
 pss_nil)
 (pss_one (ps_for PassesOwn.never rfl (pi_listK (K := kf.K) rfl (pe_lst (pa_cons pe_non (pa_cons (pe_callTy (call_tuple_ofK (K := kf.K) rfl) (by rfl) B.n_tuple (by decide +kernel) (pa_cons (pv 3) pa_nil)) (pa_cons pe_int (pa_cons pe_dnewT (pa_cons (pe_tup (pa_cons pe_int (pa_cons (pe_lst pa_nil) pa_nil))) pa_nil))))))) (pg_name (i := 6) sc_law.nd rfl (Or.inl rfl))
 (pss_one (ps_if (pt_cmpR (op_neDK (K := kf.K) rfl hr.units) (pe_callQ d__law_told.G (hr.mono (by decide)) hg (by rfl) d__law_told.g d__law_told.kp d__law_told.b pass0 (pa_cons (pv 6) pa_nil)) (pe_lst (pa_cons pe_non pa_nil)) (nomark _))
 (pss_one (ps_ret pe_bl))
 pss_nil)))))))))))
 (pss_one (ps_ret pe_bl))), tie_plain (n := 1) (k := 6) (B := B_law) rfl ?_ h⟩
  exact (c_seq (c_for (c_iR1 (c_lcons (c_dR (c_cb b_max2 (c_qcons (c_c (v := .int 1) rfl) (c_qcons (c_cb b_min2 (c_qcons (c_cb b_len (c_qcons (c_var 0) c_qnil)) (c_qcons (c_c (v := .int 16) rfl) c_qnil))) c_qnil)))) c_lnil)) (c_gname 1)
 (c_seq (c_asg (c_ycallA (c_qcons (c_var 0) (c_qcons (c_var 1) c_qnil)) (c_lcons (c_dY (c_yvar 0)) (c_lcons (c_dY (c_yvar 1)) c_lnil))))
 (c_seq (c_asg (c_ylc (vs := [4]) (c_iR1 (c_lcons (c_dY (c_ycallI (c_lcons (c_dR (c_c (v := .int 13) rfl)) c_lnil))) c_lnil)) (c_gname 4) (by decide) c_tyes (c_ycallI (c_lcons (c_dix x_list (c_dY (c_ylst (c_ocons (c_yR (c_c (v := .int 1) rfl)) (c_ocons (c_yR (c_c (v := .int 3) rfl)) (c_ocons (c_yR (c_c (v := .int 8) rfl)) (c_ocons (c_yR (c_c (v := .int 40) rfl)) c_onil)))))) (c_dY (c_ycallI (c_lcons (c_dR (c_c (v := .int 4) rfl)) c_lnil)))) (c_lcons (c_dR (c_c (v := .int 6) rfl)) c_lnil)))))
 (c_seq (c_asg (c_yop z_cat (c_dY (c_yvar 3)) (c_dY (c_yslD (c_dY (c_yvar 3)) c_cnone (c_dY (c_ycallI (c_lcons (c_dR (c_c (v := .int 3) rfl)) c_lnil)))))))
 (c_seq (c_asg (c_ycbA z_list (c_qcons (c_var 3) c_qnil) (c_lcons (c_dY (c_yvar 3)) c_lnil)))
 (c_seq (c_for (c_iR1 (c_lcons (c_dopR o_mul (c_dY (c_ycallI (c_lcons (c_dR (c_c (v := .int 3) rfl)) c_lnil))) (c_cb b_int (c_qcons (c_op o_neD (c_var 3) (c_lst c_qnil)) c_qnil))) c_lnil)) (c_gname 4)
 (c_setD (c_dY (c_ycallI (c_lcons (c_dR (c_cb b_len (c_qcons (c_var 5) c_qnil))) c_lnil))) (c_ycallI (c_lcons (c_dY (c_yauto (c_ix x_list (c_var 3) (c_c (v := .int 0) rfl)) (c_yD (c_dixR x_list (c_dY (c_yvar 3)) (c_c (v := .int 0) rfl))))) c_lnil))))
 (c_seq (c_sif (c_tR (c_bOr (c_bNot (c_bB (c_call (c_qcons (c_var 3) c_qnil)))) (c_bOr (c_bNot (c_bB (c_call (c_qcons (c_var 5) c_qnil)))) (c_bNot (c_bB (c_call (c_qcons (c_var 3) c_qnil)))))))
 (c_ret (c_yR (c_c (v := .bl false) rfl)))
 c_next)
 (c_for (c_iL (c_dY (c_ylst (c_ocons (c_yR (c_c (v := .non) rfl)) (c_ocons (c_ycbA z_tuple (c_qcons (c_var 3) c_qnil) (c_lcons (c_dY (c_yvar 3)) c_lnil)) (c_ocons (c_yR (c_c (v := .int 5) rfl)) (c_ocons c_dnew (c_ocons (c_ytup (c_ocons (c_yR (c_c (v := .int 1) rfl)) (c_ocons (c_ylst c_onil) c_onil))) c_onil)))))))) (c_gname 6)
 (c_sif (c_tR (c_bR (c_op o_neD (c_call (c_qcons (c_var 6) c_qnil)) (c_lst (c_qcons (c_c (v := .non) rfl) c_qnil)))))
 (c_ret (c_yR (c_c (v := .bl false) rfl)))
 c_next)))))))))
 (c_ret (c_yR (c_c (v := .bl true) rfl))))
end
end z09
namespace z09
open PySem L2 PL MR SH
open PySem L2 PL
local macro_rules | `(tactic| walk_at "sd") => `(tactic| first | rfl | assumption | omega | decide)
theorem all_mk {l : PySem.W.OpenLaw} {w : World} {K : PySem.W.Frag} {h : Heap} {mg : Str → Option Value} {fa : Addr} {f0 : Addr} {od0 an0 : Option Addr} {sl0 : Array (Option Value)} {oc0 kV0 dc0 pm0 cd0 ct0 : Value} {f1 : Addr} {od1 an1 : Option Addr} {sl1 : Array (Option Value)} {oc1 kV1 dc1 pm1 cd1 ct1 : Value} {f2 : Addr} {od2 an2 : Option Addr} {sl2 : Array (Option Value)} {oc2 kV2 dc2 pm2 cd2 ct2 : Value} {f3 : Addr} {od3 an3 : Option Addr} {sl3 : Array (Option Value)} {oc3 kV3 dc3 pm3 cd3 ct3 : Value} {f4 : Addr} {od4 an4 : Option Addr} {sl4 : Array (Option Value)} {oc4 kV4 dc4 pm4 cd4 ct4 : Value} {f5 : Addr} {od5 an5 : Option Addr} {sl5 : Array (Option Value)} {oc5 kV5 dc5 pm5 cd5 ct5 : Value} {f6 : Addr} {od6 an6 : Option Addr} {sl6 : Array (Option Value)} {oc6 kV6 dc6 pm6 cd6 ct6 : Value} {f7 : Addr} {od7 an7 : Option Addr} {sl7 : Array (Option Value)} {oc7 kV7 dc7 pm7 cd7 ct7 : Value} {f8 : Addr} {od8 an8 : Option Addr} {sl8 : Array (Option Value)} {oc8 kV8 dc8 pm8 cd8 ct8 : Value} {f9 : Addr} {od9 an9 : Option Addr} {sl9 : Array (Option Value)} {oc9 kV9 dc9 pm9 cd9 ct9 : Value} {f10 : Addr} {od10 an10 : Option Addr} {sl10 : Array (Option Value)} {oc10 kV10 dc10 pm10 cd10 ct10 : Value} {f11 : Addr} {od11 an11 : Option Addr} {sl11 : Array (Option Value)} {oc11 kV11 dc11 pm11 cd11 ct11 : Value} {f12 : Addr} {od12 an12 : Option Addr} {sl12 : Array (Option Value)} {oc12 kV12 dc12 pm12 cd12 ct12 : Value} {f13 : Addr} {od13 an13 : Option Addr} {sl13 : Array (Option Value)} {oc13 kV13 dc13 pm13 cd13 ct13 : Value} {f14 : Addr} {od14 an14 : Option Addr} {sl14 : Array (Option Value)} {oc14 kV14 dc14 pm14 cd14 ct14 : Value} {tk2 : Tok} {tk3 : Tok} {tk4 : Tok} {xC_WebError : Addr} {xC_NoWebs : Addr} {xC_Apart : Addr} {xC_NoPlace : Addr} {xC_NoWeb : Addr} {xC_TooBig : Addr} {yf_NoWebs ycc_NoWebs ycd_NoWebs yN_NoWebs : Addr} {yoc_NoWebs ykV_NoWebs ydoc_NoWebs ypm_NoWebs yct_NoWebs ycl_NoWebs yccl_NoWebs : Value} {yod_NoWebs yan_NoWebs ycld_NoWebs ycdd_NoWebs ydd_NoWebs : Option Addr} {yosl_NoWebs ycsl_NoWebs yccs_NoWebs : Array (Option Value)} {yvs_NoWebs : Array Value} {yfile_NoWebs ynm_NoWebs yq_NoWebs : Str} {ytf_NoWebs : Tok} {ybs_NoWebs ybm_NoWebs ysub_NoWebs : List Value} {ysn_NoWebs : List Str} {yab_NoWebs : Bool} {ycol_NoWebs : Option Bool} {y0_NoWebs y1_NoWebs y2_NoWebs y3_NoWebs y5_NoWebs : Option Value}
  (X : K.In h) (G : h.Ns mainGlobals mg) (hfa : mg "law" = some (.ref fa))
  (a0 : PySem.W.nsIn K mainGlobals "_law_pool" = some (some (.ref f0))) (l0 : K.lookup f0 = some ⟨oc0, od0, .func (PySem.W.fnOf "_law_pool" "_law_pool" (defArgs s__law_pool) (defBody s__law_pool) (defScope s__law_pool) .none kV0 dc0 pm0 an0 cd0 ct0), sl0⟩) (c0 : PySem.W.codeIn K cd0 "_law_pool" = true) (k0 : PySem.W.keepIn K (.ref f0) = true)
  (a1 : PySem.W.nsIn K mainGlobals "_law_take" = some (some (.ref f1))) (l1 : K.lookup f1 = some ⟨oc1, od1, .func (PySem.W.fnOf "_law_take" "_law_take" (defArgs s__law_take) (defBody s__law_take) (defScope s__law_take) .none kV1 dc1 pm1 an1 cd1 ct1), sl1⟩) (c1 : PySem.W.codeIn K cd1 "_law_take" = true) (k1 : PySem.W.keepIn K (.ref f1) = true)
  (a2 : PySem.W.nsIn K mainGlobals "_law_web" = some (some (.ref f2))) (l2 : K.lookup f2 = some ⟨oc2, od2, .func (PySem.W.fnOf "_law_web" "_law_web" (defArgs s__law_web) (defBody s__law_web) (defScope s__law_web) .none kV2 dc2 pm2 an2 cd2 ct2), sl2⟩) (c2 : PySem.W.codeIn K cd2 "_law_web" = true) (k2 : PySem.W.keepIn K (.ref f2) = true)
  (a3 : PySem.W.nsIn K mainGlobals "_law_loose" = some (some (.ref f3))) (l3 : K.lookup f3 = some ⟨oc3, od3, .func (PySem.W.fnOf "_law_loose" "_law_loose" (defArgs s__law_loose) (defBody s__law_loose) (defScope s__law_loose) .none kV3 dc3 pm3 an3 cd3 ct3), sl3⟩) (c3 : PySem.W.codeIn K cd3 "_law_loose" = true) (k3 : PySem.W.keepIn K (.ref f3) = true)
  (a4 : PySem.W.nsIn K mainGlobals "_law_odd" = some (some (.ref f4))) (l4 : K.lookup f4 = some ⟨oc4, od4, .func (PySem.W.fnOf "_law_odd" "_law_odd" (defArgs s__law_odd) (defBody s__law_odd) (defScope s__law_odd) .none kV4 dc4 pm4 an4 cd4 ct4), sl4⟩) (c4 : PySem.W.codeIn K cd4 "_law_odd" = true) (k4 : PySem.W.keepIn K (.ref f4) = true)
  (a5 : PySem.W.nsIn K mainGlobals "is_whole" = some (some (.ref f5))) (l5 : K.lookup f5 = some ⟨oc5, od5, .func (PySem.W.fnOf "is_whole" "is_whole" (defArgs s_is_whole) (defBody s_is_whole) (defScope s_is_whole) .none kV5 dc5 pm5 an5 cd5 ct5), sl5⟩) (c5 : PySem.W.codeIn K cd5 "is_whole" = true) (k5 : PySem.W.keepIn K (.ref f5) = true)
  (a6 : PySem.W.nsIn K mainGlobals "joins_places" = some (some (.ref f6))) (l6 : K.lookup f6 = some ⟨oc6, od6, .func (PySem.W.fnOf "joins_places" "joins_places" (defArgs s_joins_places) (defBody s_joins_places) (defScope s_joins_places) .none kV6 dc6 pm6 an6 cd6 ct6), sl6⟩) (c6 : PySem.W.codeIn K cd6 "joins_places" = true) (k6 : PySem.W.keepIn K (.ref f6) = true)
  (a7 : PySem.W.nsIn K mainGlobals "web_fault" = some (some (.ref f7))) (l7 : K.lookup f7 = some ⟨oc7, od7, .func (PySem.W.fnOf "web_fault" "web_fault" (defArgs s_web_fault) (defBody s_web_fault) (defScope s_web_fault) .none kV7 dc7 pm7 an7 cd7 ct7), sl7⟩) (c7 : PySem.W.codeIn K cd7 "web_fault" = true) (k7 : PySem.W.keepIn K (.ref f7) = true)
  (a8 : PySem.W.nsIn K mainGlobals "look_at_webs" = some (some (.ref f8))) (l8 : K.lookup f8 = some ⟨oc8, od8, .func (PySem.W.fnOf "look_at_webs" "look_at_webs" (defArgs s_look_at_webs__x) (defBody s_look_at_webs__x) (defScope s_look_at_webs__x) .none kV8 dc8 pm8 an8 cd8 ct8), sl8⟩) (c8 : PySem.W.codeIn K cd8 "look_at_webs" = true) (k8 : PySem.W.keepIn K (.ref f8) = true)
  (a9 : PySem.W.nsIn K mainGlobals "_law_told" = some (some (.ref f9))) (l9 : K.lookup f9 = some ⟨oc9, od9, .func (PySem.W.fnOf "_law_told" "_law_told" (defArgs s__law_told) (defBody s__law_told) (defScope s__law_told) .none kV9 dc9 pm9 an9 cd9 ct9), sl9⟩) (c9 : PySem.W.codeIn K cd9 "_law_told" = true) (k9 : PySem.W.keepIn K (.ref f9) = true)
  (a10 : PySem.W.nsIn K mainGlobals "_law_whole" = some (some (.ref f10))) (l10 : K.lookup f10 = some ⟨oc10, od10, .func (PySem.W.fnOf "_law_whole" "_law_whole" (defArgs s__law_whole) (defBody s__law_whole) (defScope s__law_whole) .none kV10 dc10 pm10 an10 cd10 ct10), sl10⟩) (c10 : PySem.W.codeIn K cd10 "_law_whole" = true) (k10 : PySem.W.keepIn K (.ref f10) = true)
  (a11 : PySem.W.nsIn K mainGlobals "_law_is_web" = some (some (.ref f11))) (l11 : K.lookup f11 = some ⟨oc11, od11, .func (PySem.W.fnOf "_law_is_web" "_law_is_web" (defArgs s__law_is_web) (defBody s__law_is_web) (defScope s__law_is_web) .none kV11 dc11 pm11 an11 cd11 ct11), sl11⟩) (c11 : PySem.W.codeIn K cd11 "_law_is_web" = true) (k11 : PySem.W.keepIn K (.ref f11) = true)
  (a12 : PySem.W.nsIn K mainGlobals "_law_due" = some (some (.ref f12))) (l12 : K.lookup f12 = some ⟨oc12, od12, .func (PySem.W.fnOf "_law_due" "_law_due" (defArgs s__law_due) (defBody s__law_due) (defScope s__law_due) .none kV12 dc12 pm12 an12 cd12 ct12), sl12⟩) (c12 : PySem.W.codeIn K cd12 "_law_due" = true) (k12 : PySem.W.keepIn K (.ref f12) = true)
  (a13 : PySem.W.nsIn K mainGlobals "_law_right" = some (some (.ref f13))) (l13 : K.lookup f13 = some ⟨oc13, od13, .func (PySem.W.fnOf "_law_right" "_law_right" (defArgs s__law_right) (defBody s__law_right) (defScope s__law_right) .none kV13 dc13 pm13 an13 cd13 ct13), sl13⟩) (c13 : PySem.W.codeIn K cd13 "_law_right" = true) (k13 : PySem.W.keepIn K (.ref f13) = true)
  (a14 : PySem.W.nsIn K mainGlobals "law" = some (some (.ref f14))) (l14 : K.lookup f14 = some ⟨oc14, od14, .func (PySem.W.fnOf "law" "law" (defArgs s_law) (defBody s_law) (defScope s_law) .none kV14 dc14 pm14 an14 cd14 ct14), sl14⟩) (c14 : PySem.W.codeIn K cd14 "law" = true) (k14 : PySem.W.keepIn K (.ref f14) = true)
  (z0 : PySem.W.nsIn K mainGlobals "ValueError" = some none)
  (z1 : PySem.W.nsIn K mainGlobals "bool" = some none)
  (z2 : PySem.W.nsIn K mainGlobals "MOST_PLACES" = some (some (.int 40 tk2)))
  (z3 : PySem.W.nsIn K mainGlobals "MOST_TIES" = some (some (.int 120 tk3)))
  (z4 : PySem.W.nsIn K mainGlobals "MOST_WEBS" = some (some (.int 12 tk4)))
  (z5 : PySem.W.nsIn K mainGlobals "enumerate" = some none)
  (z6 : PySem.W.nsIn K mainGlobals "int" = some none)
  (z7 : PySem.W.nsIn K mainGlobals "isinstance" = some none)
  (z8 : PySem.W.nsIn K mainGlobals "len" = some none)
  (z9 : PySem.W.nsIn K mainGlobals "list" = some none)
  (z10 : PySem.W.nsIn K mainGlobals "max" = some none)
  (z11 : PySem.W.nsIn K mainGlobals "min" = some none)
  (z12 : PySem.W.nsIn K mainGlobals "range" = some none)
  (z13 : PySem.W.nsIn K mainGlobals "repr" = some none)
  (z14 : PySem.W.nsIn K mainGlobals "sorted" = some none)
  (z15 : PySem.W.nsIn K mainGlobals "str" = some none)
  (z16 : PySem.W.nsIn K mainGlobals "tuple" = some none)
  (xa_WebError : PySem.W.nsIn K mainGlobals "WebError" = some (some (.ref xC_WebError)))
  (xa_NoWebs : PySem.W.nsIn K mainGlobals "NoWebs" = some (some (.ref xC_NoWebs)))
  (xa_Apart : PySem.W.nsIn K mainGlobals "Apart" = some (some (.ref xC_Apart)))
  (xa_NoPlace : PySem.W.nsIn K mainGlobals "NoPlace" = some (some (.ref xC_NoPlace)))
  (xa_NoWeb : PySem.W.nsIn K mainGlobals "NoWeb" = some (some (.ref xC_NoWeb)))
  (xa_TooBig : PySem.W.nsIn K mainGlobals "TooBig" = some (some (.ref xC_TooBig)))
  (xehg_NoWebs : PySem.W.findIn K (.ref xC_NoWebs) "__getattribute__" = some (some (.builtin "BaseException.__getattribute__")))
  (xehk_NoWebs : PySem.W.findIn K (.ref xC_NoWebs) "__getattr__" = some none)
  (xehs_NoWebs : PySem.W.subIn K (.ref xC_NoWebs) (.type "BaseException") = some true)
  (xehd_NoWebs : PySem.W.hasDictIn K xC_NoWebs = true)
  (xeha_NoWebs : PySem.W.findIn K (.ref xC_NoWebs) "__class__" = some (some (.builtin "object.__class__")))
  (xehn_NoWebs : PySem.W.specialIn K (.builtin "object.__class__") "__get__" = some (some (.builtin "getset_descriptor.__get__")))
  (xeht_NoWebs : PySem.W.takesIn K (.builtin "object.__class__") = some true)
  (xehm_NoWebs : PySem.W.mroIn K xC_NoWebs (.type "object") = some true)
  (xsup : PySem.W.nsIn K mainGlobals "super" = some none)
  (xtop : (l.prog.main.scope.names.lookup ("super" : Str)).isSome = false)
  (xopq : PySem.W.nsIn K PySem.cStatics "thirdparty.any" = some none)
  (xi_NoWebs : PySem.W.findIn K (.ref xC_NoWebs) "__init__" = some (some (.ref yf_NoWebs)))
  (xl_NoWebs : K.lookup yf_NoWebs = some ⟨yoc_NoWebs, yod_NoWebs, .func (PySem.W.fnX "__init__" "NoWebs.__init__" (defArgs i_NoWebs) (defBody i_NoWebs) (defScope i_NoWebs) [("__class__", ycc_NoWebs)] .none ykV_NoWebs ydoc_NoWebs ypm_NoWebs yan_NoWebs (.ref ycd_NoWebs) yct_NoWebs), yosl_NoWebs⟩)
  (xk2_NoWebs : PySem.W.codeIn K (.ref ycd_NoWebs) "NoWebs.__init__" = true)
  (xl2_NoWebs : K.lookup ycc_NoWebs = some ⟨ycl_NoWebs, ycld_NoWebs, .cell (some (.ref xC_NoWebs)), ycsl_NoWebs⟩)
  (xl3_NoWebs : K.lookup ycd_NoWebs = some ⟨yccl_NoWebs, ycdd_NoWebs, .fields yvs_NoWebs, yccs_NoWebs⟩)
  (xrfl1_NoWebs : yvs_NoWebs[2]? = some (.str yfile_NoWebs ytf_NoWebs))
  (xrfl2_NoWebs : ((l.prog.main.file : Str) == yfile_NoWebs) = true)
  (xl4_NoWebs : K.lookup xC_NoWebs = some (excClassObj ynm_NoWebs yq_NoWebs xC_NoWebs yN_NoWebs ybs_NoWebs ybm_NoWebs true ysn_NoWebs ysub_NoWebs yab_NoWebs ycol_NoWebs ydd_NoWebs y0_NoWebs y1_NoWebs y2_NoWebs y3_NoWebs y5_NoWebs "ValueError.__new__"))
  (xrfl3_NoWebs : PySem.HandSPX.refsVE ybm_NoWebs = true)
  (xsa_NoWebs : PySem.W.findIn K (.ref xC_NoWebs) "__setattr__" = some (some (.builtin "object.__setattr__")))
  (xr_NoWebs : PySem.W.typeIn K (.ref xC_NoWebs) = some (.type "type"))
  (xk_NoWebs : PySem.W.keepIn K (.ref xC_NoWebs) = true)
  (xup_NoWebs : PySem.W.ks_superIn K xC_NoWebs xC_NoWebs "__init__" = some (some (.builtin "ValueError.__init__")))
  (xisb_NoWebs : PySem.W.subIn K (.ref xC_NoWebs) (.type "ValueError") = some true)
  (xself_NoWebs : PySem.W.mroIn K xC_NoWebs (.ref xC_NoWebs) = some true)
  (xtI_NoWebs : PySem.W.typeIn K (.ref yf_NoWebs) = some (.type "function"))
  (xnonumber_NoWebs : PySem.W.findIn K (.ref xC_NoWebs) "number" = some none)
  (xm_WebError_NoWebs : PySem.W.exmOne K (.ref xC_NoWebs) (.ref xC_WebError) = some true)
  (xt0_NoWebs : PySem.W.kitOne K (.ref xC_NoWebs) (.type "ValueError") = some true)
  (xz0 : PySem.W.kitOne K (.type "NoneType") (.type "ValueError") = some false)
  (xt1_NoWebs : PySem.W.kitOne K (.ref xC_NoWebs) (.ref xC_NoWebs) = some true)
  (xz1 : PySem.W.kitOne K (.type "NoneType") (.ref xC_NoWebs) = some false)
  (xt2_NoWebs : PySem.W.kitAny K (.ref xC_NoWebs) [(.ref xC_Apart), (.ref xC_NoPlace), (.ref xC_NoWeb), (.ref xC_TooBig)] = some false)
  (xz2 : PySem.W.kitAny K (.type "NoneType") [(.ref xC_Apart), (.ref xC_NoPlace), (.ref xC_NoWeb), (.ref xC_TooBig)] = some false) :
  ∃ fd : FuncData, (∀ (s : Shared) (v : Value), BindsTo s fd ⟨[v], []⟩ [("_law_script", v)]) ∧ ∀ base : Heap, K.In base → base.Ns mainGlobals mg → FnQ l.prog w K mg base CX0 7 fa fd ["_law_script"] (@spP ⟨K, w⟩ 1 m_law) := by
  have e := hfa.symm.trans (PySem.W.mg_of X G a14)
  cases e
  letI kf : KF := ⟨K, w⟩
  have B : Bn mg := ⟨PySem.W.mg_none_of X G z0, PySem.W.mg_none_of X G z1, ⟨_, PySem.W.mg_of X G z2⟩, ⟨_, PySem.W.mg_of X G z3⟩, ⟨_, PySem.W.mg_of X G z4⟩, PySem.W.mg_none_of X G z5, PySem.W.mg_none_of X G z6, PySem.W.mg_none_of X G z7, PySem.W.mg_none_of X G z8, PySem.W.mg_none_of X G z9, PySem.W.mg_none_of X G z10, PySem.W.mg_none_of X G z11, PySem.W.mg_none_of X G z12, PySem.W.mg_none_of X G z13, PySem.W.mg_none_of X G z14, PySem.W.mg_none_of X G z15, PySem.W.mg_none_of X G z16⟩
  let T__law_pool : Tp kf.K mg "_law_pool" s__law_pool := ⟨_, _, fun_mk (st := s__law_pool) l0 c0 k0, PySem.W.mg_of X G a0⟩
  let T__law_take : Tp kf.K mg "_law_take" s__law_take := ⟨_, _, fun_mk (st := s__law_take) l1 c1 k1, PySem.W.mg_of X G a1⟩
  let T__law_web : Tp kf.K mg "_law_web" s__law_web := ⟨_, _, fun_mk (st := s__law_web) l2 c2 k2, PySem.W.mg_of X G a2⟩
  let T__law_loose : Tp kf.K mg "_law_loose" s__law_loose := ⟨_, _, fun_mk (st := s__law_loose) l3 c3 k3, PySem.W.mg_of X G a3⟩
  let T__law_odd : Tp kf.K mg "_law_odd" s__law_odd := ⟨_, _, fun_mk (st := s__law_odd) l4 c4 k4, PySem.W.mg_of X G a4⟩
  let T_is_whole : Tp kf.K mg "is_whole" s_is_whole := ⟨_, _, fun_mk (st := s_is_whole) l5 c5 k5, PySem.W.mg_of X G a5⟩
  let T_joins_places : Tp kf.K mg "joins_places" s_joins_places := ⟨_, _, fun_mk (st := s_joins_places) l6 c6 k6, PySem.W.mg_of X G a6⟩
  let T_web_fault : Tp kf.K mg "web_fault" s_web_fault := ⟨_, _, fun_mk (st := s_web_fault) l7 c7 k7, PySem.W.mg_of X G a7⟩
  let T_look_at_webs__x : Tp kf.K mg "look_at_webs" s_look_at_webs__x := ⟨_, _, fun_mk (st := s_look_at_webs__x) l8 c8 k8, PySem.W.mg_of X G a8⟩
  let T__law_told : Tp kf.K mg "_law_told" s__law_told := ⟨_, _, fun_mk (st := s__law_told) l9 c9 k9, PySem.W.mg_of X G a9⟩
  let T__law_whole : Tp kf.K mg "_law_whole" s__law_whole := ⟨_, _, fun_mk (st := s__law_whole) l10 c10 k10, PySem.W.mg_of X G a10⟩
  let T__law_is_web : Tp kf.K mg "_law_is_web" s__law_is_web := ⟨_, _, fun_mk (st := s__law_is_web) l11 c11 k11, PySem.W.mg_of X G a11⟩
  let T__law_due : Tp kf.K mg "_law_due" s__law_due := ⟨_, _, fun_mk (st := s__law_due) l12 c12 k12, PySem.W.mg_of X G a12⟩
  let T__law_right : Tp kf.K mg "_law_right" s__law_right := ⟨_, _, fun_mk (st := s__law_right) l13 c13 k13, PySem.W.mg_of X G a13⟩
  let T_law : Tp kf.K mg "law" s_law := ⟨_, _, fun_mk (st := s_law) l14 c14 k14, PySem.W.mg_of X G a14⟩
  let xt : XTs l.prog kf.K mg := ⟨xC_WebError, PySem.W.mg_of X G xa_WebError, xC_NoWebs, PySem.W.mg_of X G xa_NoWebs, xC_Apart, PySem.W.mg_of X G xa_Apart, xC_NoPlace, PySem.W.mg_of X G xa_NoPlace, xC_NoWeb, PySem.W.mg_of X G xa_NoWeb, xC_TooBig, PySem.W.mg_of X G xa_TooBig, ⟨xC_NoWebs, yf_NoWebs, _, (⟨⟨_, _, _, _, _, _, _, _, _, _, _, _, _, _, _, xl4_NoWebs, xrfl3_NoWebs⟩, xsa_NoWebs, xehs_NoWebs, xr_NoWebs, xk_NoWebs⟩ : OexC K xC_NoWebs), PySem.W.mg_of X G xa_NoWebs, (clsOf_of xa_NoWebs), xi_NoWebs, xtI_NoWebs, fun w base k => fi_NoWebs (initC_mk (P := l.prog) is_NoWebs xtop xl_NoWebs xk2_NoWebs xl2_NoWebs xl3_NoWebs xrfl1_NoWebs xrfl2_NoWebs (⟨⟨_, _, _, _, _, _, _, _, _, _, _, _, _, _, _, xl4_NoWebs, xrfl3_NoWebs⟩, xsa_NoWebs, xehs_NoWebs, xr_NoWebs, xk_NoWebs⟩ : OexC K xC_NoWebs) (PySem.W.mg_none_of X G xsup) xup_NoWebs xisb_NoWebs xself_NoWebs xopq) xnonumber_NoWebs, Binds.all (fun us hl => match us, hl with | [_, _], _ => rfl), ⟨xehg_NoWebs, xehk_NoWebs, xehs_NoWebs, xehd_NoWebs⟩, List.forall_mem_cons.mpr ⟨xnonumber_NoWebs, fun _ hm => nomatch hm⟩⟩, List.forall_mem_cons.mpr ⟨⟨_, (clsOf_of xa_NoWebs), xm_WebError_NoWebs⟩, fun _ hm => nomatch hm⟩, (tbl_cons ⟨_, (clsOf_of xa_NoWebs), ⟨xehg_NoWebs, xehk_NoWebs, xehs_NoWebs, xehd_NoWebs, xeha_NoWebs, xehn_NoWebs, xeht_NoWebs, xehm_NoWebs⟩, xt0_NoWebs⟩ tbl_nil), xz0, (tbl_cons ⟨_, (clsOf_of xa_NoWebs), ⟨xehg_NoWebs, xehk_NoWebs, xehs_NoWebs, xehd_NoWebs, xeha_NoWebs, xehn_NoWebs, xeht_NoWebs, xehm_NoWebs⟩, xt1_NoWebs⟩ tbl_nil), xz1, (tbl_cons ⟨_, (clsOf_of xa_NoWebs), ⟨xehg_NoWebs, xehk_NoWebs, xehs_NoWebs, xehd_NoWebs, xeha_NoWebs, xehn_NoWebs, xeht_NoWebs, xehm_NoWebs⟩, xt2_NoWebs⟩ tbl_nil), xz2⟩
  refine ⟨T_law.fd, fun s v => .of_eq rfl, fun base _ _ => ?_⟩
  let d__law_pool : Dq l.prog w kf.K mg base "_law_pool" 1 ["_law_script", "_law_k"] (spP 2 SH.m__law_pool) := ⟨T__law_pool.a, T__law_pool.fd, T__law_pool.F.kp, T__law_pool.g, ok__law_pool B T__law_pool , T__law_pool.F.binds (ps := ["_law_script", "_law_k"]) fun _ _ _ _ _ _ us hl => match us, hl with | [_, _], _ => rfl⟩
  let d__law_take : Dq l.prog w kf.K mg base "_law_take" 1 ["_law_pool_here", "_law_many"] (spI 2 SH.m__law_take) := ⟨T__law_take.a, T__law_take.fd, T__law_take.F.kp, T__law_take.g, ok__law_take B T__law_take , T__law_take.F.binds (ps := ["_law_pool_here", "_law_many"]) fun _ _ _ _ _ _ us hl => match us, hl with | [_, _], _ => rfl⟩
  let d__law_web : Dq l.prog w kf.K mg base "_law_web" 2 ["_law_pool_here", "_law_most", "_law_more"] (spI 3 SH.m__law_web) := ⟨T__law_web.a, T__law_web.fd, T__law_web.F.kp, T__law_web.g, ok__law_web B T__law_web d__law_take, T__law_web.F.binds (ps := ["_law_pool_here", "_law_most", "_law_more"]) fun _ _ _ _ _ _ us hl => match us, hl with | [_, _, _], _ => rfl⟩
  let d__law_loose : Dq l.prog w kf.K mg base "_law_loose" 3 ["_law_pool_here", "_law_most", "_law_more"] (spI 3 SH.m__law_loose) := ⟨T__law_loose.a, T__law_loose.fd, T__law_loose.F.kp, T__law_loose.g, ok__law_loose B T__law_loose d__law_web d__law_take, T__law_loose.F.binds (ps := ["_law_pool_here", "_law_most", "_law_more"]) fun _ _ _ _ _ _ us hl => match us, hl with | [_, _, _], _ => rfl⟩
  let d__law_odd : Dq l.prog w kf.K mg base "_law_odd" 2 ["_law_pool_here", "_law_web_here"] (spI 2 m__law_odd) := ⟨T__law_odd.a, T__law_odd.fd, T__law_odd.F.kp, T__law_odd.g, ok__law_odd B T__law_odd d__law_take, T__law_odd.F.binds (ps := ["_law_pool_here", "_law_web_here"]) fun _ _ _ _ _ _ us hl => match us, hl with | [_, _], _ => rfl⟩
  let d_is_whole : Dq l.prog w kf.K mg base "is_whole" 1 ["thing"] (spP 1 SH.m_is_whole) := ⟨T_is_whole.a, T_is_whole.fd, T_is_whole.F.kp, T_is_whole.g, ok_is_whole B T_is_whole , T_is_whole.F.binds (ps := ["thing"]) fun _ _ _ _ _ _ us hl => match us, hl with | [_], _ => rfl⟩
  let d_joins_places : Dq l.prog w kf.K mg base "joins_places" 2 ["many", "thing"] (spP 2 SH.m_joins_places) := ⟨T_joins_places.a, T_joins_places.fd, T_joins_places.F.kp, T_joins_places.g, ok_joins_places B T_joins_places d_is_whole, T_joins_places.F.binds (ps := ["many", "thing"]) fun _ _ _ _ _ _ us hl => match us, hl with | [_, _], _ => rfl⟩
  let d_web_fault : Dq l.prog w kf.K mg base "web_fault" 3 ["thing"] (spP 1 SH.m_web_fault) := ⟨T_web_fault.a, T_web_fault.fd, T_web_fault.F.kp, T_web_fault.g, ok_web_fault B T_web_fault d_is_whole d_joins_places, T_web_fault.F.binds (ps := ["thing"]) fun _ _ _ _ _ _ us hl => match us, hl with | [_], _ => rfl⟩
  let d_look_at_webs__x : DqX l.prog w kf.K mg base "look_at_webs" 4 ["thing"] (spX 1 m_look_at_webs__x) := ⟨T_look_at_webs__x.a, T_look_at_webs__x.fd, T_look_at_webs__x.F.kp, T_look_at_webs__x.g, ok_look_at_webs__x B T_look_at_webs__x xt d_web_fault, T_look_at_webs__x.F.binds (ps := ["thing"]) fun _ _ _ _ _ _ us hl => match us, hl with | [_], _ => rfl⟩
  let d__law_told : Dq l.prog w kf.K mg base "_law_told" 5 ["_law_thing"] (spP 1 m__law_told) := ⟨T__law_told.a, T__law_told.fd, T__law_told.F.kp, T__law_told.g, ok__law_told B T__law_told xt d_look_at_webs__x, T__law_told.F.binds (ps := ["_law_thing"]) fun _ _ _ _ _ _ us hl => match us, hl with | [_], _ => rfl⟩
  let d__law_whole : Dq l.prog w kf.K mg base "_law_whole" 1 ["_law_thing"] (spP 1 m__law_whole) := ⟨T__law_whole.a, T__law_whole.fd, T__law_whole.F.kp, T__law_whole.g, ok__law_whole B T__law_whole , T__law_whole.F.binds (ps := ["_law_thing"]) fun _ _ _ _ _ _ us hl => match us, hl with | [_], _ => rfl⟩
  let d__law_is_web : Dq l.prog w kf.K mg base "_law_is_web" 2 ["_law_thing"] (spP 1 m__law_is_web) := ⟨T__law_is_web.a, T__law_is_web.fd, T__law_is_web.F.kp, T__law_is_web.g, ok__law_is_web B T__law_is_web d__law_whole, T__law_is_web.F.binds (ps := ["_law_thing"]) fun _ _ _ _ _ _ us hl => match us, hl with | [_], _ => rfl⟩
  let d__law_due : Dq l.prog w kf.K mg base "_law_due" 3 ["_law_thing"] (spP 1 m__law_due) := ⟨T__law_due.a, T__law_due.fd, T__law_due.F.kp, T__law_due.g, ok__law_due B T__law_due d__law_is_web, T__law_due.F.binds (ps := ["_law_thing"]) fun _ _ _ _ _ _ us hl => match us, hl with | [_], _ => rfl⟩
  let d__law_right : Dq l.prog w kf.K mg base "_law_right" 6 ["_law_thing"] (spP 1 m__law_right) := ⟨T__law_right.a, T__law_right.fd, T__law_right.F.kp, T__law_right.g, ok__law_right B T__law_right d__law_told d__law_due, T__law_right.F.binds (ps := ["_law_thing"]) fun _ _ _ _ _ _ us hl => match us, hl with | [_], _ => rfl⟩
  exact ok_law (P := l.prog) (base := base) B T_law d__law_pool d__law_take d__law_loose d__law_odd d__law_right d__law_told
theorem law_sp (goal : ∀ ns : List Int, ns.length ≤ 63 → m_law [.list (ns.map .int)] = some (.d (.bool true))) {K : PySem.W.Frag} {w : World} {G : Hp} {a : Addr} {ns : List Int} (hl : ns.length ≤ 63) (hS : SqL K G a (ns.map V.int)) : (@spP ⟨K, w⟩ 1 m_law) [.ref a] G (fun v _ => v = .bl true) fun _ _ _ => False := by
  letI kf : KF := ⟨K, w⟩
  refine ⟨G, [.list (ns.map .int)], _, rfl, Same.refl G, .cons (.lst hS (dpa_of_ints ns)) .nil, goal ns hl, fun v S' H' B xt hr _ _ => ?_⟩
  cases hr with
  | d hr => cases hr; rfl
end z09
namespace SH
open PySem L2 PL MR
local macro_rules | `(tactic| walk_at "ev") => `(tactic| simp (config := {decide := true}) only [ini, fin, finI, sSeq, sNext, sAsg, sAsgG, sRet, sRetN, sDrop, sIf, sNever, sSetP, pmVar, MR.putAt, OT.put, gmName, gmTup, gmLst, gsNil, gsCons, rVar, rC, rOp, rUn, rCb, rCall, rAnd, rOr, rNot, rIf, rIs, rCh, rCh3, rTup, rLst, small, qNil, qCons, bR, bAnd, bOr, bNot, tR, tD, tmAnd, tmOr, tmNot, yVar, yMov, yR, yAuto, dY, yD, dR, dOp, dOpR, dCb, yCall, yCallA, lfO, yTup, yLst, oNil, oCons, isNo, lNil, lCons, asB, asInt, toD_d, toD_tup, toD_lst, toDs_nil, toDs_cons, kp_int, kp_bool, kp_tuple, kp_list, isIntB, isBoolB, isTupB, isListB, gAdd_i, gSub_i, gLt_i, gLe_i, gGt_i, gGe_i, gMul_r, gMul_l, gMod_i, gDiv_i, gPow_i, gNeg, gEqI, gNeI, gIsN, gNotN, gIsB, gNotB, gIxL, gIxT, gLen, gMax2, gMin2, isN, OT.lf, OT.lfs, atI_0, atI_1, ixN_0, ixN_1, Option.bind_some, Option.bind_none, Option.map_some, Option.map_none, List.getElem?_cons_zero, List.getElem?_cons_succ, List.set_cons_zero, List.set_cons_succ, List.map_cons, List.map_nil, List.replicate, List.nil_append, List.cons_append, List.length_cons, List.length_nil, if_true, if_false, reduceIte, tfl_int, tfl_bool, tfl_none, tfl_str, tfl_list, Bool.true_and, Bool.and_true, Bool.false_and, Bool.and_false, Bool.not_true, Bool.not_false, Bool.false_eq_true, decide_true, decide_false, true_and, and_true, false_and, and_false, or_true, true_or, *])
def POk (ps : List OT) : Prop := ∃ g s : Int, ps = [.d (.int g), .d (.int s)] ∧ 0 ≤ s ∧ s < 2147483647
theorem take_ok {ps : List OT} (h : POk ps) (m : Int) (hm : 0 < m) (hm2 : m < 1073741824) : ∃ r ps', m__law_take (.nd .lst ps) [.int m] = some (.d (.int r), .nd .lst ps') ∧ POk ps' ∧ 0 ≤ r ∧ r < m := by
  obtain ⟨g, s, rfl, hs, hs2⟩ := h
  by_cases hg : 0 < g
  · refine ⟨g % m, [.d (.int (g / m)), .d (.int s)], ?_, ⟨_, _, rfl, hs, hs2⟩, Int.emod_nonneg _ (by omega), Int.emod_lt_of_pos _ hm⟩
    unfold m__law_take B__law_take
    walk_at "ev"
  · have e0 : (0 : Int) < 2147483647 := by decide
    generalize hs' : (s * 48271 + 11) % 2147483647 = s'
    have b1 : 0 ≤ s' := by rw [← hs']; exact Int.emod_nonneg _ (by decide)
    have b2 : s' < 2147483647 := by rw [← hs']; exact Int.emod_lt_of_pos _ e0
    refine ⟨s' * s' % 2147483629 / 16 % m, [.d (.int g), .d (.int s')], ?_, ⟨_, _, rfl, b1, b2⟩, Int.emod_nonneg _ (by omega), Int.emod_lt_of_pos _ hm⟩
    unfold m__law_take B__law_take
    have c1 : -(2 ^ 64) < s ∧ s < 2 ^ 64 := by omega
    have c2 : -(2 ^ 64) < s' ∧ s' < 2 ^ 64 := by omega
    walk_at "ev"
local macro_rules | `(tactic| walk_at "w") => `(tactic| simp (config := {decide := true}) only [ini, fin, finI, sSeq, sNext, sAsg, sAsgG, sRet, sRetN, sDrop, sIf, sNever, sFor, pmVar, gmName, gmTup, gmLst, gsNil, gsCons, rVar, rC, rOp, rUn, rCb, rCall, rTup, rLst, qNil, qCons, bR, bAnd, bOr, bNot, tR, tD, yVar, yMov, yR, yAuto, dY, yD, dR, dOp, dOpR, dCb, yCall, yCallA, yCallI, lfO, yTup, yLst, oNil, oCons, isNo, lNil, lCons, asB, asInt, toD_d, toD_tup, toD_lst, toDs_nil, toDs_cons, gAdd_i, gSub_i, gLt_i, gLe_i, gGt_i, gGe_i, gEqI, gNeI, gLen, gMax2, gMin2, isN, yRng1_eq, iR1_eq, iR2_eq, iL, iE, asL, yLc, calmAt, wipeE, rst, rsts, sApp, yPop_eq, sDPutM, ySortD, yDNew, lcStep, lstO_rg, lstO_prs, lstO_ints, toDs_ints, toDs_fpr, toDs_prs, lfs_ints, lfs_fpr, intsO_len, prsO_len, fprO_len, rng_len, intsO_snoc, prsO_snoc, Int.toNat_natCast, List.length_map, trues_len, eq_self, gIxL, small, flat, rgD_len, List.all_cons, List.all_nil, Option.bind_some, Option.bind_none, Option.map_some, Option.map_none, List.getElem?_cons_zero, List.getElem?_cons_succ, List.set_cons_zero, List.set_cons_succ, List.map_cons, List.map_nil, List.replicate, List.nil_append, List.cons_append, List.length_cons, List.length_nil, if_true, if_false, reduceIte, tfl_int, tfl_bool, tfl_none, tfl_str, tfl_list, Bool.true_and, Bool.and_true, Bool.false_and, Bool.and_false, Bool.not_true, Bool.not_false, Bool.false_eq_true, decide_true, decide_false, true_and, and_true, or_true, true_or, false_and, and_false, *])
local macro_rules | `(tactic| walk_at "st") => `(tactic| (apply seq_nx; (walk_at "w"; exact rfl)))
theorem web_names {p1 : List OT} (q1 : POk p1) (most more : Int) (n : Nat) (c3 : n ≤ 1000000) : ∃ p2 os X, mLc [6] (lcStep (gmName 6) (fun ρ => some (true, ρ)) (yPop 4 (dY (yCallI m__law_take 2 0 (lCons (dR (rCb gLen (qCons (rVar 4) qNil))) lNil))))) (rgD 0 n) [] [.nd .lst p1, .d (.int most), .d (.int more), .d (.int n), .nd .lst (intsO (rng n)), .no, .no, .no, .no, .no, .no] = some (intsO os, [.nd .lst p2, .d (.int most), .d (.int more), .d (.int n), X, .no, .no, .no, .no, .no, .no]) ∧ POk p2 ∧ os.Perm (rng n) := by
  have := mLc_inv (vs := [6]) (step := lcStep (gmName 6) (fun ρ => some (true, ρ)) (yPop 4 (dY (yCallI m__law_take 2 0 (lCons (dR (rCb gLen (qCons (rVar 4) qNil))) lNil))))) (rgD 0 n) [] [.nd .lst p1, .d (.int most), .d (.int more), .d (.int n), .nd .lst (intsO (rng n)), .no, .no, .no, .no, .no, .no]
    (fun i acc ρ => ∃ p xs ks, POk p ∧ ρ = [.nd .lst p, .d (.int most), .d (.int more), .d (.int n), .nd .lst (intsO xs), .no, .no, .no, .no, .no, .no] ∧ acc = intsO ks ∧ xs.length + i = n ∧ (ks ++ xs).Perm (rng n))
    ⟨p1, rng n, [], q1, rfl, rfl, by simp [rng_len], by simp⟩
    (by
      rintro i x acc ρ hx ⟨p, xs, ks, hp, rfl, rfl, hl, hq⟩
      obtain ⟨hi, rfl⟩ := rgD_at hx
      obtain ⟨r, p', e, q, l, u⟩ := take_ok hp (xs.length : Nat) (by omega) (by omega)
      obtain ⟨j, rfl⟩ : ∃ j : Nat, r = (j : Int) := ⟨r.toNat, by omega⟩
      have g1 := pop1_n (n := xs.length) (i := j) (by omega) (by omega)
      obtain ⟨k, xs', g2, g3, g4, g5⟩ := pop_ints (xs := xs) (j := j) (by omega)
      apply lcmk
      · walk_at "w"
        exact rfl
      refine ⟨p', xs', ks ++ [k], q, ?_, ?_, ?_, ?_⟩
      · rfl
      · simp [intsO_snoc]
      · omega
      · have := g4.append_left ks
        simpa using this.trans hq)
  obtain ⟨rs, ρ', k1, p, xs, ks, k2, rfl, rfl, k3, k4⟩ := this
  rw [rgD_len] at k3
  have : xs = [] := List.length_eq_zero_iff.mp (by omega)
  subst this
  exact ⟨p, ks, _, k1, k2, by simpa using k4⟩
theorem web_tree {p2 : List OT} (q2 : POk p2) (most more : Int) (n : Nat) (c3 : n ≤ 1000000) (c0 : 1 ≤ n) (X : OT) (os : List Int) : ∃ p3 qs, mLc [6] (lcStep (gmName 6) (fun ρ => some (true, ρ)) (yTup (oCons (yVar 6) (oCons (yCallI m__law_take 2 0 (lCons (dY (yVar 6)) lNil)) oNil)))) (rgD 1 (n - 1)) [] [.nd .lst p2, .d (.int most), .d (.int more), .d (.int n), X, .nd .lst (intsO os), .no, .no, .no, .no, .no] = some (prsO qs, [.nd .lst p3, .d (.int most), .d (.int more), .d (.int n), X, .nd .lst (intsO os), .no, .no, .no, .no, .no]) ∧ POk p3 ∧ qs.length = n - 1 ∧ ∀ p ∈ qs, 0 ≤ p.1 ∧ p.1 < (n : Int) ∧ 0 ≤ p.2 ∧ p.2 < (n : Int) := by
  have := mLc_inv (vs := [6]) (step := lcStep (gmName 6) (fun ρ => some (true, ρ)) (yTup (oCons (yVar 6) (oCons (yCallI m__law_take 2 0 (lCons (dY (yVar 6)) lNil)) oNil)))) (rgD 1 (n - 1)) [] [.nd .lst p2, .d (.int most), .d (.int more), .d (.int n), X, .nd .lst (intsO os), .no, .no, .no, .no, .no]
    (fun i acc ρ => ∃ p qs, POk p ∧ ρ = [.nd .lst p, .d (.int most), .d (.int more), .d (.int n), X, .nd .lst (intsO os), .no, .no, .no, .no, .no] ∧ acc = prsO qs ∧ qs.length = i ∧ ∀ p ∈ qs, 0 ≤ p.1 ∧ p.1 < (n : Int) ∧ 0 ≤ p.2 ∧ p.2 < (n : Int))
    ⟨p2, [], q2, rfl, rfl, rfl, by simp⟩
    (by
      rintro i x acc ρ hx ⟨p, qs, hp, rfl, rfl, hl, hq⟩
      obtain ⟨hi, rfl⟩ := rgD_at hx
      obtain ⟨r, p', e, q, l, u⟩ := take_ok hp (1 + (i : Int)) (by omega) (by omega)
      apply lcmk
      · walk_at "w"
        exact rfl
      refine ⟨p', qs ++ [(1 + (i : Int), r)], q, rfl, ?_, by simp [hl], ?_⟩
      · simp [prsO_snoc]
      · intro z hz
        rcases List.mem_append.mp hz with hz | hz
        · exact hq z hz
        · rw [List.mem_singleton.mp hz]
          exact ⟨by omega, by simp only []; omega, l, by simp only []; omega⟩)
  obtain ⟨rs, ρ', k1, p, qs, k2, rfl, rfl, k3, k4⟩ := this
  rw [rgD_len] at k3
  exact ⟨p, qs, k1, k2, by omega, k4⟩
theorem web_more {p4 : List OT} (q4 : POk p4) (most more : Int) (n m : Nat) (c0 : 1 ≤ n) (c1 : n ≤ 1000) (c3 : m ≤ 1000) (X : OT) (os : List Int) (qs : List (Int × Int)) (hl : qs.length ≤ 1000) (hq : ∀ p ∈ qs, 0 ≤ p.1 ∧ p.1 < (n : Int) ∧ 0 ≤ p.2 ∧ p.2 < (n : Int)) : ∃ p5 qs' Y, mFor (fun x ρ => (gmName 6 x ρ).bind (sApp 7 (yTup (oCons (yCallI m__law_take 2 0 (lCons (dY (yVar 3)) lNil)) (oCons (yCallI m__law_take 2 0 (lCons (dY (yVar 3)) lNil)) oNil))))) (rgD 0 m) [.nd .lst p4, .d (.int most), .d (.int more), .d (.int n), X, .nd .lst (intsO os), .no, .nd .lst (prsO qs), .no, .no, .no] = some (.nx, [.nd .lst p5, .d (.int most), .d (.int more), .d (.int n), X, .nd .lst (intsO os), Y, .nd .lst (prsO qs'), .no, .no, .no]) ∧ POk p5 ∧ qs'.length = qs.length + m ∧ ∀ p ∈ qs', 0 ≤ p.1 ∧ p.1 < (n : Int) ∧ 0 ≤ p.2 ∧ p.2 < (n : Int) := by
  have := mFor_inv (step := fun x ρ => (gmName 6 x ρ).bind (sApp 7 (yTup (oCons (yCallI m__law_take 2 0 (lCons (dY (yVar 3)) lNil)) (oCons (yCallI m__law_take 2 0 (lCons (dY (yVar 3)) lNil)) oNil))))) (rgD 0 m) [.nd .lst p4, .d (.int most), .d (.int more), .d (.int n), X, .nd .lst (intsO os), .no, .nd .lst (prsO qs), .no, .no, .no]
    (fun i ρ => ∃ p qs' Y, POk p ∧ ρ = [.nd .lst p, .d (.int most), .d (.int more), .d (.int n), X, .nd .lst (intsO os), Y, .nd .lst (prsO qs'), .no, .no, .no] ∧ qs'.length = qs.length + i ∧ ∀ p ∈ qs', 0 ≤ p.1 ∧ p.1 < (n : Int) ∧ 0 ≤ p.2 ∧ p.2 < (n : Int))
    ⟨p4, qs, .no, q4, rfl, rfl, hq⟩
    (by
      rintro i x ρ hx ⟨p, qs', Y, hp, rfl, hl', hq'⟩
      obtain ⟨hi, rfl⟩ := rgD_at hx
      obtain ⟨r, p', e, q, l, u⟩ := take_ok hp (n : Int) (by omega) (by omega)
      obtain ⟨r', p'', e', q', l', u'⟩ := take_ok q (n : Int) (by omega) (by omega)
      have g : qs.length + i ≤ 1000000 := by omega
      apply fmk
      · walk_at "w"
        exact rfl
      refine ⟨p'', qs' ++ [(r, r')], _, q', rfl, by simp [hl']; omega, ?_⟩
      intro z hz
      rcases List.mem_append.mp hz with hz | hz
      · exact hq' z hz
      · rw [List.mem_singleton.mp hz]
        exact ⟨l, u, l', u'⟩)
  obtain ⟨ρ', k1, p, qs', Y, k2, rfl, k3, k4⟩ := this
  rw [rgD_len] at k3
  exact ⟨p, qs', Y, k1, k2, k3, k4⟩
theorem web_ties {p5 : List OT} (q5 : POk p5) (most more : Int) (n : Nat) (X Y : OT) (os : List Int) (ho : os.Perm (rng n)) (qs : List (Int × Int)) (hl : qs.length ≤ 1000) (hq : ∀ p ∈ qs, 0 ≤ p.1 ∧ p.1 < (n : Int) ∧ 0 ≤ p.2 ∧ p.2 < (n : Int)) : ∃ (ks : List (Int × Int)) (Z W : OT), mFor (fun x ρ => (gmTup (gsCons (gmName 9) (gsCons (gmName 10) gsNil)) x ρ).bind (sIf (tR (bR (rOp gNeI (rVar 9) (rVar 10)))) (sDPutM 8 (rTup (qCons (rCb gMin2 (qCons (rOp gIxL (rVar 5) (rVar 9)) (qCons (rOp gIxL (rVar 5) (rVar 10)) qNil))) (qCons (rCb gMax2 (qCons (rOp gIxL (rVar 5) (rVar 9)) (qCons (rOp gIxL (rVar 5) (rVar 10)) qNil))) qNil))) (rC (.bool true))) sNext)) (qs.map pairD) [.nd .lst p5, .d (.int most), .d (.int more), .d (.int n), X, .nd .lst (intsO os), Y, .d (.list (qs.map pairD)), .nd (.dT []) [], .no, .no] = some (.nx, [.nd .lst p5, .d (.int most), .d (.int more), .d (.int n), X, .nd .lst (intsO os), Y, .d (.list (qs.map pairD)), .nd (.dT (ks.map kO)) (trues ks.length), Z, W]) ∧ ks.Nodup ∧ ks.length ≤ qs.length ∧ ∀ p ∈ ks, 0 ≤ p.1 ∧ p.1 < p.2 ∧ p.2 < (n : Int) := by
  have hlen : os.length = n := by rw [ho.length_eq, rng_len]
  have hnd : os.Nodup := ho.nodup_iff.mpr (rng_nodup n)
  have := mFor_inv (step := fun x ρ => (gmTup (gsCons (gmName 9) (gsCons (gmName 10) gsNil)) x ρ).bind (sIf (tR (bR (rOp gNeI (rVar 9) (rVar 10)))) (sDPutM 8 (rTup (qCons (rCb gMin2 (qCons (rOp gIxL (rVar 5) (rVar 9)) (qCons (rOp gIxL (rVar 5) (rVar 10)) qNil))) (qCons (rCb gMax2 (qCons (rOp gIxL (rVar 5) (rVar 9)) (qCons (rOp gIxL (rVar 5) (rVar 10)) qNil))) qNil))) (rC (.bool true))) sNext)) (qs.map pairD) [.nd .lst p5, .d (.int most), .d (.int more), .d (.int n), X, .nd .lst (intsO os), Y, .d (.list (qs.map pairD)), .nd (.dT []) [], .no, .no]
    (fun i ρ => ∃ (ks : List (Int × Int)) (Z W : OT), ρ = [.nd .lst p5, .d (.int most), .d (.int more), .d (.int n), X, .nd .lst (intsO os), Y, .d (.list (qs.map pairD)), .nd (.dT (ks.map kO)) (trues ks.length), Z, W] ∧ ks.Nodup ∧ ks.length ≤ i ∧ ∀ p ∈ ks, 0 ≤ p.1 ∧ p.1 < p.2 ∧ p.2 < (n : Int))
    ⟨[], .no, .no, rfl, by simp, by simp, by simp⟩
    (by
      rintro i x ρ hx ⟨ks, Z, W, rfl, h1, h2, h3⟩
      rw [List.getElem?_map] at hx
      obtain ⟨⟨a, b⟩, hab, rfl⟩ := Option.map_eq_some_iff.mp hx
      obtain ⟨a0, a1, b0, b1⟩ := hq _ (List.mem_of_getElem? hab)
      simp only [] at a0 a1 b0 b1
      have hi : i < qs.length := (List.getElem?_eq_some_iff.mp hab).1
      by_cases hne : a = b
      · have hf : decide (a = b) = true := by simp [hne]
        apply fmk
        · simp only [pairD]
          walk_at "w"
          exact rfl
        exact ⟨ks, _, _, rfl, h1, by omega, h3⟩
      · have hf : decide (a = b) = false := by simp [hne]
        obtain ⟨a', rfl⟩ : ∃ a' : Nat, a = (a' : Int) := ⟨a.toNat, by omega⟩
        obtain ⟨b', rfl⟩ : ∃ b' : Nat, b = (b' : Int) := ⟨b.toNat, by omega⟩
        have la : a' < os.length := by omega
        have lb : b' < os.length := by omega
        have ea := atI_int (xs := os) (i := a') (k := os[a']) (by simp [la])
        have eb := atI_int (xs := os) (i := b') (k := os[b']) (by simp [lb])
        have ma := rng_mem.mp (ho.mem_iff.mp (List.getElem_mem la))
        have mb := rng_mem.mp (ho.mem_iff.mp (List.getElem_mem lb))
        have hne2 : os[a'] ≠ os[b'] := fun z => hne (by rw [(List.getElem_inj hnd).mp z])
        generalize os[a'] = u at *
        generalize os[b'] = v at *
        have hp := putO_true ks (min u v, max u v)
        have hk : keyP (.tuple [.int (min u v), .int (max u v)]) = some (kO (min u v, max u v)) := rfl
        have g : ks.length ≤ 1000000 := by omega
        have g2 : (ks.map kO).length = (trues ks.length).length := by simp [trues]
        apply fmk
        · simp only [pairD]
          walk_at "w"
          exact rfl
        refine ⟨insK ks (min u v, max u v), _, _, rfl, insK_nodup h1, Nat.le_trans (insK_len _ _) (by omega), ?_⟩
        intro z hz
        rcases insK_mem hz with hz | rfl
        · exact h3 z hz
        · simp only []
          omega)
  obtain ⟨ρ', k1, ks, Z, W, rfl, k2, k3, k4⟩ := this
  rw [List.length_map] at k3
  exact ⟨ks, Z, W, k1, k2, k3, k4⟩
theorem web_spec {ps : List OT} (h : POk ps) (most more : Int) (h1 : 1 ≤ most) (h2 : most ≤ 40) (h3 : 0 ≤ more) (h4 : more ≤ 60) : ∃ (n : Nat) (ts : List (Int × Int)) (ps' : List OT), m__law_web (.nd .lst ps) [.int most, .int more] = some (.nd .tup [.d (.int (n : Nat)), .nd .lst (fprO ts)], .nd .lst ps') ∧ POk ps' ∧ 1 ≤ n ∧ (n : Int) ≤ most ∧ WOk n ts ∧ (ts.length : Int) ≤ n - 1 + more := by
  obtain ⟨r1, p1, e1, q1, l1, u1⟩ := take_ok h most (by omega) (by omega)
  obtain ⟨n, hn⟩ : ∃ n : Nat, 1 + r1 = (n : Int) := ⟨(1 + r1).toNat, by omega⟩
  have c1 := rg0_n (n := n) (by omega)
  have c2 := rg1_n (n := n) (by omega)
  have c3 : n ≤ 1000000 := by omega
  obtain ⟨p2, os, X, e2, q2, s2⟩ := web_names q1 most more n c3
  obtain ⟨p3, qs, e3, q3, s3, i3⟩ := web_tree q2 most more n c3 (by omega) X os
  obtain ⟨r2, p4, e4, q4, l4, u4⟩ := take_ok q3 (more + 1) (by omega) (by omega)
  have c4 := rg2_1n (n := n) (by omega)
  obtain ⟨n2, rfl⟩ : ∃ n2 : Nat, r2 = (n2 : Int) := ⟨r2.toNat, by omega⟩
  have c5 := rg1_n (n := n2) (by omega)
  have c6 : n - 1 ≤ 1000000 := by omega
  obtain ⟨p5, qs', Y, e5, q5, s5, i5⟩ := web_more q4 most more n n2 (by omega) (by omega) (by omega) X os qs (by omega) i3
  obtain ⟨ks, Z, W, e6, s6, l6, i6⟩ := web_ties q5 most more n X Y os s2 qs' (by omega) i5
  have g1 := trues_all ks.length
  have g2 := asKeyPs_map ks
  have g3 : (ks.map kO).length = (trues ks.length).length := by simp [trues]
  refine ⟨n, srtL ks, p5, ?_, q5, by omega, by omega, ⟨fun p hp => i6 p (srtL_mem.mp hp), srtL_lex ks, srtL_nodup s6⟩, by rw [srtL_len]; omega⟩
  · unfold m__law_web B__law_web
    apply finI_rt
    walk_at "st"
    walk_at "st"
    walk_at "st"
    walk_at "st"
    apply seq_nx
    · refine sFor_ok ?_ e5
      walk_at "w"
    walk_at "st"
    apply seq_nx
    · refine sFor_ok ?_ e6
      walk_at "w"
    walk_at "w"
    exact rfl
end SH
namespace SH
open PySem L2 PL MR
local macro_rules | `(tactic| walk_at "ev") => `(tactic| simp (config := {decide := true}) only [ini, fin, finI, sSeq, sNext, sAsg, sAsgG, sRet, sRetN, sDrop, sIf, sNever, sSetP, pmVar, MR.putAt, OT.put, gmName, gmTup, gmLst, gsNil, gsCons, rVar, rC, rOp, rUn, rCb, rCall, rAnd, rOr, rNot, rIf, rIs, rCh, rCh3, rTup, rLst, small, qNil, qCons, bR, bAnd, bOr, bNot, tR, tD, tmAnd, tmOr, tmNot, yVar, yMov, yR, yAuto, dY, yD, dR, dOp, dOpR, dCb, yCall, yCallA, lfO, yTup, yLst, oNil, oCons, isNo, lNil, lCons, asB, asInt, toD_d, toD_tup, toD_lst, toDs_nil, toDs_cons, kp_int, kp_bool, kp_tuple, kp_list, isIntB, isBoolB, isTupB, isListB, gAdd_i, gSub_i, gLt_i, gLe_i, gGt_i, gGe_i, gMul_r, gMul_l, gMod_i, gDiv_i, gPow_i, gNeg, gEqI, gNeI, gIsN, gNotN, gIsB, gNotB, gIxL, gIxT, gLen, gMax2, gMin2, isN, OT.lf, OT.lfs, atI_0, atI_1, ixN_0, ixN_1, Option.bind_some, Option.bind_none, Option.map_some, Option.map_none, List.getElem?_cons_zero, List.getElem?_cons_succ, List.set_cons_zero, List.set_cons_succ, List.map_cons, List.map_nil, List.replicate, List.nil_append, List.cons_append, List.length_cons, List.length_nil, if_true, if_false, reduceIte, tfl_int, tfl_bool, tfl_none, tfl_str, tfl_list, Bool.true_and, Bool.and_true, Bool.false_and, Bool.and_false, Bool.not_true, Bool.not_false, Bool.false_eq_true, decide_true, decide_false, true_and, and_true, false_and, and_false, or_true, true_or, *])
local macro_rules | `(tactic| walk_at "w") => `(tactic| simp (config := {decide := true}) only [ini, fin, finI, sSeq, sNext, sAsg, sAsgG, sRet, sRetN, sDrop, sIf, sNever, sFor, pmVar, gmName, gmTup, gmLst, gsNil, gsCons, rVar, rC, rOp, rUn, rCb, rCall, rTup, rLst, qNil, qCons, bR, bAnd, bOr, bNot, tR, tD, yVar, yMov, yR, yAuto, dY, yD, dR, dOp, dOpR, dCb, yCall, yCallA, yCallI, lfO, yTup, yLst, oNil, oCons, isNo, lNil, lCons, asB, asInt, toD_d, toD_tup, toD_lst, toDs_nil, toDs_cons, gAdd_i, gSub_i, gLt_i, gLe_i, gGt_i, gGe_i, gEqI, gNeI, gLen, gMax2, gMin2, isN, yRng1_eq, iR1_eq, iR2_eq, iL, iE, asL, yLc, calmAt, wipeE, rst, rsts, sApp, yPop_eq, sDPutM, ySortD, yDNew, lcStep, lstO_rg, lstO_prs, lstO_ints, toDs_ints, toDs_fpr, toDs_prs, lfs_ints, lfs_fpr, intsO_len, prsO_len, fprO_len, rng_len, intsO_snoc, prsO_snoc, Int.toNat_natCast, List.length_map, trues_len, eq_self, gIxL, small, flat, rgD_len, List.all_cons, List.all_nil, Option.bind_some, Option.bind_none, Option.map_some, Option.map_none, List.getElem?_cons_zero, List.getElem?_cons_succ, List.set_cons_zero, List.set_cons_succ, List.map_cons, List.map_nil, List.replicate, List.nil_append, List.cons_append, List.length_cons, List.length_nil, if_true, if_false, reduceIte, tfl_int, tfl_bool, tfl_none, tfl_str, tfl_list, Bool.true_and, Bool.and_true, Bool.false_and, Bool.and_false, Bool.not_true, Bool.not_false, Bool.false_eq_true, decide_true, decide_false, true_and, and_true, or_true, true_or, false_and, and_false, *])
local macro_rules | `(tactic| walk_at "st") => `(tactic| (apply seq_nx; (walk_at "w"; exact rfl)))
theorem loose_spec {ps : List OT} (h : POk ps) (most more : Int) (h1 : 1 ≤ most) (h2 : most ≤ 40) (h3 : 0 ≤ more) (h4 : more ≤ 60) : ∃ (n : Nat) (ts : List (Int × Int)) (t : OT) (ps' : List OT), m__law_loose (.nd .lst ps) [.int most, .int more] = some (.nd .tup [.d (.int (n : Nat)), t], .nd .lst ps') ∧ POk ps' ∧ 1 ≤ n ∧ (n : Int) ≤ most ∧ WOk n ts ∧ (ts.length : Int) ≤ n - 1 + more ∧ t.toD = some (.list (ts.map pairD)) := by
  obtain ⟨n, ts, p1, e1, q1, a1, a2, w1, l1⟩ := web_spec h most more h1 h2 h3 h4
  obtain ⟨r, p2, e2, q2, b1, b2⟩ := take_ok q1 4 (by omega) (by omega)
  by_cases hr : r = 0
  · subst hr
    have L : ∃ p3 us, mLc [5] (lcStep (gmName 5) (tD (dOpR gGt (dY (yCallI m__law_take 2 0 (lCons (dR (rC (.int 3))) lNil))) (rC (.int 0)))) (yVar 5)) (ts.map pairD) [] [.nd .lst p2, .d (.int most), .d (.int more), .d (.int n), .d (.list (ts.map pairD)), .no] = some (fprO us, [.nd .lst p3, .d (.int most), .d (.int more), .d (.int n), .d (.list (ts.map pairD)), .no]) ∧ POk p3 ∧ us.Sublist ts := by
      have := mLc_inv (vs := [5]) (step := lcStep (gmName 5) (tD (dOpR gGt (dY (yCallI m__law_take 2 0 (lCons (dR (rC (.int 3))) lNil))) (rC (.int 0)))) (yVar 5)) (ts.map pairD) [] [.nd .lst p2, .d (.int most), .d (.int more), .d (.int n), .d (.list (ts.map pairD)), .no]
        (fun i acc ρ => ∃ p us, POk p ∧ ρ = [.nd .lst p, .d (.int most), .d (.int more), .d (.int n), .d (.list (ts.map pairD)), .no] ∧ acc = fprO us ∧ us.Sublist (ts.take i))
        ⟨p2, [], q2, rfl, rfl, by simp⟩
        (by
          rintro i x acc ρ hx ⟨p, us, hp, rfl, rfl, hs⟩
          rw [List.getElem?_map] at hx
          obtain ⟨z, hz, rfl⟩ := Option.map_eq_some_iff.mp hx
          have ht : ts.take (i + 1) = ts.take i ++ [z] := by rw [List.take_add_one, hz]; rfl
          obtain ⟨r', p', e, q, l, u⟩ := take_ok hp 3 (by omega) (by omega)
          by_cases hc : 0 < r'
          · apply lcmk
            · walk_at "w"
              exact rfl
            refine ⟨p', us ++ [z], q, rfl, by simp [fprO], ?_⟩
            rw [ht]
            exact hs.append (List.Sublist.refl _)
          · apply lcmk
            · walk_at "w"
              exact rfl
            refine ⟨p', us, q, rfl, by simp, ?_⟩
            rw [ht]
            exact hs.trans (List.sublist_append_left _ _))
      obtain ⟨rs, ρ', k1, p, us, k2, rfl, rfl, k3⟩ := this
      rw [List.length_map, List.take_length] at k3
      exact ⟨p, us, k1, k2, k3⟩
    obtain ⟨p3, us, e3, q3, s3⟩ := L
    have g : ts.length ≤ 1000000 := by omega
    refine ⟨n, us, .nd .lst (fprO us), p3, ?_, q3, a1, a2, ⟨fun p hp => w1.in' p (s3.subset hp), List.Pairwise.sublist s3 w1.lex, s3.nodup w1.nodup⟩, ?_, ?_⟩
    · unfold m__law_loose B__law_loose
      apply finI_rt
      walk_at "st"
      walk_at "st"
      walk_at "w"
      exact rfl
    · have := s3.length_le
      omega
    · rw [toD_lst, toDs_fpr]; rfl
  · have g : ts.length ≤ 1000000 := by omega
    refine ⟨n, ts, .d (.list (ts.map pairD)), p2, ?_, q2, a1, a2, w1, l1, toD_d _⟩
    unfold m__law_loose B__law_loose
    apply finI_rt
    walk_at "st"
    walk_at "st"
    walk_at "w"
    exact rfl
end SH
namespace SH
open PySem L2 PL MR
local macro_rules | `(tactic| walk_at "w") => `(tactic| simp (config := {decide := true}) only [ini, fin, finI, sSeq, sNext, sAsg, sAsgG, sRet, sRetN, sDrop, sIf, sNever, sFor, pmVar, gmName, gmTup, gmLst, gsNil, gsCons, rVar, rC, rOp, rUn, rCb, rCall, rTup, rLst, qNil, qCons, bR, bAnd, bOr, bNot, tR, tD, yVar, yMov, yR, yAuto, dY, yD, dR, dOp, dOpR, dCb, yCall, yCallA, yCallI, lfO, yTup, yLst, oNil, oCons, isNo, lNil, lCons, asB, asInt, toD_d, toD_tup, toD_lst, toDs_nil, toDs_cons, gAdd_i, gSub_i, gLt_i, gLe_i, gGt_i, gGe_i, gEqI, gNeI, gLen, gMax2, gMin2, isN, yRng1_eq, iR1_eq, iR2_eq, iL, iE, asL, yLc, calmAt, wipeE, rst, rsts, sApp, yPop_eq, sDPutM, ySortD, yDNew, lcStep, lstO_rg, lstO_prs, lstO_ints, toDs_ints, toDs_fpr, toDs_prs, lfs_ints, lfs_fpr, intsO_len, prsO_len, fprO_len, rng_len, intsO_snoc, prsO_snoc, Int.toNat_natCast, List.length_map, trues_len, eq_self, gIxL, small, kp_int, kp_bool, kp_tuple, kp_list, isIntB, isBoolB, isTupB, isListB, rIs, rCh, rCh3, rAnd, rOr, rNot, rIf, gIxT, gNotN, gIsN, atI_0, atI_1, dAnd, dOr, dNot, tmAnd, tmOr, tmNot, gAll, asBools_map, gLeT, enumD_len, OT.lf, OT.lfs,  flat, rgD_len, List.all_cons, List.all_nil, Option.bind_some, Option.bind_none, Option.map_some, Option.map_none, List.getElem?_cons_zero, List.getElem?_cons_succ, List.set_cons_zero, List.set_cons_succ, List.map_cons, List.map_nil, List.replicate, List.nil_append, List.cons_append, List.length_cons, List.length_nil, if_true, if_false, reduceIte, tfl_int, tfl_bool, tfl_none, tfl_str, tfl_list, Bool.true_and, Bool.and_true, Bool.false_and, Bool.and_false, Bool.not_true, Bool.not_false, Bool.false_eq_true, decide_true, decide_false, true_and, and_true, or_true, true_or, false_and, and_false, *])
local macro_rules | `(tactic| walk_at "st") => `(tactic| (apply seq_nx; (walk_at "w"; exact rfl)))
end SH
namespace MR
open PySem L2 PL
/-! ### pure: sorted -/
end MR
namespace MR
open PySem L2 PL
/-! ### pure: repr of data without texts, its numbers of at most twelve figures -/
mutual
def smallD : D → Bool
  | .none => true
  | .bool _ => true
  | .int i => decide (i.natAbs < 10 ^ 60)
  | .str _ => false
  | .list xs => smallAll xs
  | .tuple xs => smallAll xs
  | .dict _ => false
def smallAll : List D → Bool
  | [] => true
  | x :: xs => smallD x && smallAll xs
end
theorem int_showable {i : Int} (h : i.natAbs < 10 ^ 60) : i.natAbs.log2 < 1920 := by
  by_cases z : i.natAbs = 0
  · rw [z]; decide
  · rw [Nat.log2_lt z]
    have h1 : i.natAbs < 2 ^ 200 := Nat.lt_of_lt_of_le h (by decide)
    exact Nat.lt_of_lt_of_le h1 (Nat.pow_le_pow_right (by decide) (by decide))
theorem shown_int60 {i : Int} (h : i.natAbs < 10 ^ 60) : (PyData.shown (.int i)).length ≤ 61 := by
  have e := int_text_length_le10 (k := 60) (by decide) h
  show (Str.ofString (toString i)).length ≤ 61
  rw [ofString_length]; exact e
mutual
theorem small_ok : ∀ d : D, smallD d = true → d.canLay0 = true ∧ d.showable = true ∧ d.leavesShort 61 = true
  | .none, _ => by simp [PyData.canLay0, PyData.showable, PyData.leavesShort]
  | .bool _, _ => by simp [PyData.canLay0, PyData.showable, PyData.leavesShort]
  | .int i, h => by
    have h : i.natAbs < 10 ^ 60 := by simpa only [smallD, decide_eq_true_eq] using h
    have e := int_showable h
    have e2 := shown_int60 h
    simp only [PyData.canLay0, PyData.showable, PyData.leavesShort, decide_eq_true_eq]
    exact ⟨trivial, e, e2⟩
  | .str _, h => by simp [smallD] at h
  | .list xs, h => by
    have := smallAll_ok xs (by simpa [smallD] using h)
    simpa [PyData.canLay0, PyData.showable, PyData.leavesShort] using this
  | .tuple xs, h => by
    have := smallAll_ok xs (by simpa [smallD] using h)
    simpa [PyData.canLay0, PyData.showable, PyData.leavesShort] using this
  | .dict _, h => by simp [smallD] at h
theorem smallAll_ok : ∀ xs : List D, smallAll xs = true → PyData.canLayAll0 xs = true ∧ PyData.showableAll xs = true ∧ PyData.leavesShortAll 61 xs = true
  | [], _ => by simp [PyData.canLayAll0, PyData.showableAll, PyData.leavesShortAll]
  | x :: xs, h => by
    have h' : smallD x = true ∧ smallAll xs = true := by simpa [smallAll] using h
    have h1 := small_ok x h'.1
    have h2 := smallAll_ok xs h'.2
    simp [PyData.canLayAll0, PyData.showableAll, PyData.leavesShortAll, h1, h2]
end
theorem repr_ok {d : D} (h1 : smallD d = true) (h2 : d.depth ≤ 60) (h3 : d.bulk ≤ 200000) : gRepr d = some (.str d.shown) := by
  obtain ⟨a, b, c⟩ := small_ok d h1
  have e : d.shown.length ≤ sizeLine := by
    have := PyData.shown_le_bulk 61 (by omega) d c
    unfold sizeLine
    omega
  unfold gRepr
  simp [a, b, e, h2]
theorem smallAll_map {α : Type} {f : α → D} {xs : List α} (h : ∀ x ∈ xs, smallD (f x) = true) : smallAll (xs.map f) = true := by
  induction xs with
  | nil => simp [smallAll]
  | cons x xs ih => simp [smallAll, h x List.mem_cons_self, ih fun y hy => h y (List.mem_cons_of_mem _ hy)]
theorem depthAll_map {α : Type} {f : α → D} {k : Nat} {xs : List α} (h : ∀ x ∈ xs, (f x).depth ≤ k) : PyData.depthAll (xs.map f) ≤ k := by
  induction xs with
  | nil => simp [PyData.depthAll]
  | cons x xs ih =>
    have a := h x List.mem_cons_self
    have b := ih fun y hy => h y (List.mem_cons_of_mem _ hy)
    simp only [List.map_cons, PyData.depthAll]
    omega
theorem bulkAll_map {α : Type} {f : α → D} {k : Nat} {xs : List α} (h : ∀ x ∈ xs, (f x).bulk ≤ k) : PyData.bulkAll (xs.map f) ≤ xs.length * (k + 1) := by
  induction xs with
  | nil => simp [PyData.bulkAll]
  | cons x xs ih =>
    have a := h x List.mem_cons_self
    have b := ih fun y hy => h y (List.mem_cons_of_mem _ hy)
    simp only [List.map_cons, PyData.bulkAll, List.length_cons, Nat.add_mul, Nat.one_mul]
    omega
/-- data that repr shows: how deep, how much -/
structure Nice (d : D) (k b : Nat) : Prop where
  sm : smallD d = true
  dp : d.depth ≤ k
  bk : d.bulk ≤ b
theorem Nice.repr {d : D} {k b : Nat} (h : Nice d k b) (h1 : k ≤ 60) (h2 : b ≤ 200000) : gRepr d = some (.str d.shown) := repr_ok h.sm (Nat.le_trans h.dp h1) (Nat.le_trans h.bk h2)
theorem nice_int60 {i : Int} (h : i.natAbs < 10 ^ 60) : Nice (.int i) 0 0 := ⟨by simpa only [smallD, decide_eq_true_eq] using h, by simp [PyData.depth], by simp [PyData.bulk]⟩
theorem lt60 {n : Nat} (h : n < 10 ^ 13) : n < 10 ^ 60 := Nat.lt_of_lt_of_le h (Nat.pow_le_pow_right (by decide) (by decide))
theorem nice_int {i : Int} (h : -999999999999 ≤ i ∧ i ≤ 999999999999) : Nice (.int i) 0 0 := nice_int60 (lt60 (by omega))
theorem nice_list {α : Type} {f : α → D} {k b n : Nat} {xs : List α} (h : ∀ x ∈ xs, Nice (f x) k b) (hn : xs.length ≤ n) : Nice (.list (xs.map f)) (k + 1) (n * (b + 1)) := by
  refine ⟨by simpa [smallD] using smallAll_map fun x hx => (h x hx).sm, ?_, ?_⟩
  · have := depthAll_map fun x hx => (h x hx).dp
    simp only [PyData.depth]
    omega
  · have := bulkAll_map fun x hx => (h x hx).bk
    simp only [PyData.bulk]
    exact Nat.le_trans this (Nat.mul_le_mul_right _ hn)
theorem nice_pr {p : Int × Int} (h : -999999999999 ≤ p.1 ∧ p.1 ≤ 999999999999 ∧ -999999999999 ≤ p.2 ∧ p.2 ≤ 999999999999) : Nice (pairD p) 1 2 :=
  ⟨by simp only [pairD, smallD, smallAll, Bool.and_true, Bool.and_eq_true, decide_eq_true_eq]; exact ⟨lt60 (by omega), lt60 (by omega)⟩, by simp [pairD, PyData.depth, PyData.depthAll], by simp [pairD, PyData.bulk, PyData.bulkAll]⟩
theorem nice_tup2 {d e : D} {k b c : Nat} (h1 : Nice d k b) (h2 : Nice e k c) : Nice (.tuple [d, e]) (k + 1) (b + c + 2) := by
  obtain ⟨a1, a2, a3⟩ := h1
  obtain ⟨b1, b2, b3⟩ := h2
  refine ⟨by simp [smallD, smallAll, a1, b1], ?_, ?_⟩
  · simp only [PyData.depth, PyData.depthAll]; omega
  · simp only [PyData.bulk, PyData.bulkAll]; omega
theorem Nice.up {d : D} {k b l c : Nat} (h : Nice d k b) (h1 : k ≤ l) (h2 : b ≤ c) : Nice d l c := ⟨h.sm, Nat.le_trans h.dp h1, Nat.le_trans h.bk h2⟩
theorem eqv_self {d : D} (h : smallD d = true) : PyData.eqv d d = true := by
  exact SeqAt.eqv_refl d (small_ok d h).1
theorem Nice.shaped {d : D} {k b : Nat} (h : Nice d k b) (h1 : k ≤ 60) : SeqAt.shaped d = true := by
  have := h.dp
  simp only [SeqAt.shaped, (small_ok d h.sm).1, Bool.true_and, decide_eq_true_eq]
  omega
theorem Nice.eqv {d : D} {k b : Nat} (h : Nice d k b) : PyData.eqv d d = true := eqv_self h.sm
end MR
namespace SH
open PySem L2 PL MR
local macro_rules | `(tactic| walk_at "w") => `(tactic| simp (config := {decide := true}) only [ini, fin, finI, sSeq, sNext, sAsg, sAsgG, sRet, sRetN, sDrop, sIf, sNever, sFor, pmVar, gmName, gmTup, gmLst, gsNil, gsCons, rVar, rC, rOp, rUn, rCb, rCall, rTup, rLst, qNil, qCons, bR, bAnd, bOr, bNot, tR, tD, yVar, yMov, yR, yAuto, dY, yD, dR, dOp, dOpR, dCb, yCall, yCallA, yCallI, lfO, yTup, yLst, oNil, oCons, isNo, lNil, lCons, asB, asInt, toD_d, toD_tup, toD_lst, toDs_nil, toDs_cons, gAdd_i, gSub_i, gLt_i, gLe_i, gGt_i, gGe_i, gEqI, gNeI, gLen, gMax2, gMin2, isN, yRng1_eq, iR1_eq, iR2_eq, iL, iE, asL, yLc, calmAt, wipeE, rst, rsts, sApp, yPop_eq, sDPutM, ySortD, yDNew, lcStep, lstO_rg, lstO_prs, lstO_ints, toDs_ints, toDs_fpr, toDs_prs, lfs_ints, lfs_fpr, intsO_len, prsO_len, fprO_len, rng_len, intsO_snoc, prsO_snoc, Int.toNat_natCast, List.length_map, trues_len, eq_self, gIxL, small, yCb, yCbA, kp_int, kp_bool, kp_tuple, kp_list, isIntB, isBoolB, isTupB, isListB, rIs, rCh, rCh3, rAnd, rOr, rNot, rIf, gIxT, gNotN, gIsN, atI_0, atI_1, dAnd, dOr, dNot, tmAnd, tmOr, tmNot, gAll, asBools_map, gLeT, enumD_len, OT.lf, OT.lfs,  flat, rgD_len, List.all_cons, List.all_nil, Option.bind_some, Option.bind_none, Option.map_some, Option.map_none, List.getElem?_cons_zero, List.getElem?_cons_succ, List.set_cons_zero, List.set_cons_succ, List.map_cons, List.map_nil, List.replicate, List.nil_append, List.cons_append, List.length_cons, List.length_nil, if_true, if_false, reduceIte, tfl_int, tfl_bool, tfl_none, tfl_str, tfl_list, Bool.true_and, Bool.and_true, Bool.false_and, Bool.and_false, Bool.not_true, Bool.not_false, Bool.false_eq_true, decide_true, decide_false, true_and, and_true, or_true, true_or, false_and, and_false, *])
local macro_rules | `(tactic| walk_at "st") => `(tactic| (apply seq_nx; (walk_at "w"; exact rfl)))
end SH
namespace MR
open PySem L2 PL
/-! ### walking: what stands within a row -/
section
variable {α : Type} {ρ : Env} {a b d dm : Dm} {y : Ym} {l : Lm} {o : Om} {t u : Tm}
theorem w_dY {Q : D → Env → Prop} (h : W y ρ fun r ρ' => ∃ x, OT.toD r = some x ∧ Q x ρ') : W (dY y) ρ Q := by
  obtain ⟨r, ρ1, e, x, e2, q⟩ := h
  exact ⟨_, _, by unfold dY; rw [e]; simp only [Option.bind_some, e2]; rfl, q⟩
theorem w_lNil {Q : List D → Env → Prop} (q : Q [] ρ) : W lNil ρ Q := ⟨_, _, rfl, q⟩
theorem w_lCons {Q : List D → Env → Prop} (h : W a ρ fun x ρ1 => W l ρ1 fun xs ρ2 => Q (x :: xs) ρ2) : W (lCons a l) ρ Q := by
  obtain ⟨x, ρ1, e, xs, ρ2, e2, q⟩ := h
  exact ⟨_, _, by unfold lCons; rw [e]; simp only [Option.bind_some, e2]; rfl, q⟩
theorem w_yCall {f : List D → Option OT} {n : Nat} {Q : OT → Env → Prop} (h : W l ρ fun xs ρ' => xs.length = n ∧ ∃ r, f xs = some r ∧ Q r ρ') : W (yCall f n l) ρ Q := by
  obtain ⟨xs, ρ1, e, n, r, e2, q⟩ := h
  exact ⟨_, _, by unfold yCall; rw [e]; simp only [Option.bind_some, e2, n, if_true]; rfl, q⟩
end
/-! ### {k: True for ..} by pairs -/
theorem exw {α : Type} {p q : α → Prop} {a : α} (h : p a) (h2 : q a) : ∃ a, p a ∧ q a := ⟨a, h, h2⟩
theorem w_nx {b : Sm} {ρ ρ' : Env} {n : Env → Prop} {Q : Fl → Env → Prop} (h : b ρ = some (.nx, ρ')) (q : n ρ') : W b ρ (lpK n Q) := ⟨.nx, ρ', h, q⟩
theorem w_end {y : Ym} {ρ ρ' : Env} {r : OT} {P : OT → Prop} (h : y ρ = some (r, ρ')) (hn : isNo r = false) (q : P r) : W (sRet y) ρ (endK P) := by
  refine w_ret (.of h ?_)
  cases r with
  | no => cases hn
  | d x => exact q
  | nd k ts => exact q
  | fl ts => exact q
  | ex x => exact q
  | si x => exact q
end MR
namespace MR
open PySem L2 PL
/-! ### pure: lists that have each number once; turned back, behind one another -/
theorem at'_nat {os : List Int} {k : Nat} (h : k < os.length) : at' os (k : Nat) = os[k] := by
  simp [at', h]
section
variable {n : Nat} {os : List Int} (ho : os.Perm (rng n))
include ho
theorem pm_len : os.length = n := by rw [ho.length_eq, rng_len]
theorem pm_nodup : os.Nodup := ho.nodup_iff.mpr (rng_nodup n)
theorem pm_in {a : Int} (h : 0 ≤ a) (h2 : a < (n : Int)) : 0 ≤ at' os a ∧ at' os a < (n : Int) := by
  have := pm_len ho
  exact rng_mem.mp (ho.mem_iff.mp (at'_mem h (by omega)))
theorem pm_inj {a b : Int} (h : 0 ≤ a) (h2 : a < (n : Int)) (h3 : 0 ≤ b) (h4 : b < (n : Int)) (e : at' os a = at' os b) : a = b := by
  have := pm_len ho
  exact at'_inj (pm_nodup ho) h (by omega) h3 (by omega) e
end
theorem fin_eq {B : Sm} {ρ : Env} {r : OT} (h : W B ρ (endK fun x => x = r)) : fin (B ρ) = some r := by
  obtain ⟨x, e, rfl⟩ := fin_w h
  exact e
end MR
namespace MR
open PySem L2 PL
/-! ### pure: walking with typed items -/
theorem set_id : ∀ {α : Type} {xs : List α} {i : Nat} {v : α}, xs[i]? = some v → xs.set i v = xs
  | _, [], _, _, _ => rfl
  | _, x :: xs, 0, v, h => by simp at h; rw [h]; rfl
  | _, x :: xs, i + 1, v, h => by rw [List.set_cons_succ, set_id (by simpa using h)]
theorem yVar_eq (i : Nat) (ρ : Env) : yVar i ρ = (ρ[i]?).bind fun t => (OT.toD t).map fun x => (.d x, ρ.set i (.d x)) := by
  unfold yVar
  rcases h : ρ[i]? with _ | (_ | x | ⟨k, ts⟩ | ts | x | x)
  · rfl
  · rfl
  · simp only [Option.bind_some, toD_d, Option.map_some, Option.some.injEq, Prod.mk.injEq, true_and]
    exact (set_id h).symm
  · rfl
  · rfl
  · rfl
  · rfl
theorem w_forT {α : Type} (I : Nat → Env → Prop) {enc : α → D} {it : Lm} {g : Gm} {b : Sm} {ρ ρ1 : Env} {as : List α} {Q : Fl → Env → Prop} (h : it ρ = some (as.map enc, ρ1)) (h0 : I 0 ρ1)
    (hs : ∀ i a ρ2, as[i]? = some a → I i ρ2 → ∃ ρ3, g (enc a) ρ2 = some ρ3 ∧ W b ρ3 (lpK (I (i + 1)) Q)) (hq : ∀ ρ2, I as.length ρ2 → Q .nx ρ2) : W (sFor it g b) ρ Q := by
  refine w_for I h h0 (fun i x ρ2 hx hi => ?_) (fun ρ2 hi => hq ρ2 (by rwa [List.length_map] at hi))
  rw [List.getElem?_map] at hx
  obtain ⟨a, ha, rfl⟩ := Option.map_eq_some_iff.mp hx
  exact hs i a ρ2 ha hi
/-- by a state that is folded -/
theorem w_foldT {α σ : Type} (S : σ → Env → Prop) (f : σ → α → σ) (s0 : σ) {enc : α → D} {it : Lm} {g : Gm} {b : Sm} {ρ ρ1 : Env} {as : List α} {Q : Fl → Env → Prop} (h : it ρ = some (as.map enc, ρ1)) (h0 : S s0 ρ1)
    (hs : ∀ a ∈ as, ∀ s ρ2, S s ρ2 → ∃ ρ3, g (enc a) ρ2 = some ρ3 ∧ W b ρ3 (lpK (S (f s a)) Q)) (hq : ∀ ρ2, S (as.foldl f s0) ρ2 → Q .nx ρ2) : W (sFor it g b) ρ Q := by
  refine w_forT (fun i ρ2 => S ((as.take i).foldl f s0) ρ2) h (by simpa using h0) (fun i a ρ2 ha hi => ?_) (fun ρ2 hi => hq ρ2 (by simpa using hi))
  have e : (as.take (i + 1)).foldl f s0 = f ((as.take i).foldl f s0) a := by rw [List.take_add_one, ha]; simp
  rw [e]
  exact hs a (List.mem_of_getElem? ha) _ ρ2 hi
theorem w_lcmT {α : Type} (f : α → OT) {enc : α → D} {vs : List Nat} {it : Lm} {g : Gm} {t : Tm} {e : Ym} {ρ ρ1 : Env} {as : List α} {Q : OT → Env → Prop} (h : it ρ = some (as.map enc, ρ1)) (hc : calmAt ρ1 vs = true) (hl : as.length ≤ 1000000)
    (hs : ∀ a ∈ as, W (lcStep g t e (enc a)) (wipeE ρ1 vs) fun o ρ3 => o = some (f a) ∧ wipeE ρ3 vs = wipeE ρ1 vs) (hq : Q (.nd .lst (as.map f)) (rst (wipeE ρ1 vs) ρ1 vs)) : W (yLc vs it g t e) ρ Q := by
  refine w_lc (fun i acc ρ2 => acc = (as.take i).map f ∧ ρ2 = wipeE ρ1 vs) h hc (by rw [List.length_map]; exact hl) ⟨by simp, rfl⟩ (fun i x acc ρ2 hx hi => ?_) fun acc ρ2 hi => ?_
  · obtain ⟨rfl, rfl⟩ := hi
    rw [List.getElem?_map] at hx
    obtain ⟨a, ha, rfl⟩ := Option.map_eq_some_iff.mp hx
    refine (hs a (List.mem_of_getElem? ha)).mono fun o ρ3 q => ?_
    obtain ⟨rfl, q⟩ := q
    refine ⟨?_, q⟩
    rw [List.take_add_one, ha]
    simp
  · obtain ⟨rfl, rfl⟩ := hi
    rw [List.length_map, List.take_length]
    exact hq
theorem w_lcfT {α : Type} (f : α → Option OT) {enc : α → D} {vs : List Nat} {it : Lm} {g : Gm} {t : Tm} {e : Ym} {ρ ρ1 : Env} {as : List α} {Q : OT → Env → Prop} (h : it ρ = some (as.map enc, ρ1)) (hc : calmAt ρ1 vs = true) (hl : as.length ≤ 1000000)
    (hs : ∀ a ∈ as, W (lcStep g t e (enc a)) (wipeE ρ1 vs) fun o ρ3 => o = f a ∧ wipeE ρ3 vs = wipeE ρ1 vs) (hq : Q (.nd .lst (as.filterMap f)) (rst (wipeE ρ1 vs) ρ1 vs)) : W (yLc vs it g t e) ρ Q := by
  refine w_lc (fun i acc ρ2 => acc = (as.take i).filterMap f ∧ ρ2 = wipeE ρ1 vs) h hc (by rw [List.length_map]; exact hl) ⟨by simp, rfl⟩ (fun i x acc ρ2 hx hi => ?_) fun acc ρ2 hi => ?_
  · obtain ⟨rfl, rfl⟩ := hi
    rw [List.getElem?_map] at hx
    obtain ⟨a, ha, rfl⟩ := Option.map_eq_some_iff.mp hx
    refine (hs a (List.mem_of_getElem? ha)).mono fun o ρ3 q => ?_
    obtain ⟨rfl, q⟩ := q
    refine ⟨?_, q⟩
    rw [List.take_add_one, ha, List.filterMap_append]
    refine congrArg _ ?_
    show (f a).toList = [a].filterMap f
    cases c : f a <;> simp [c]
  · obtain ⟨rfl, rfl⟩ := hi
    rw [List.length_map, List.take_length]
    exact hq
/-- one that changes what is around: by what holds ahead of each turn -/
theorem w_lcT {α : Type} (I : Nat → List OT → Env → Prop) {enc : α → D} {vs : List Nat} {it : Lm} {g : Gm} {t : Tm} {e : Ym} {ρ ρ1 : Env} {as : List α} {Q : OT → Env → Prop} (h : it ρ = some (as.map enc, ρ1)) (hc : calmAt ρ1 vs = true) (hl : as.length ≤ 1000000) (h0 : I 0 [] (wipeE ρ1 vs))
    (hs : ∀ i a acc ρ2, as[i]? = some a → I i acc ρ2 → W (lcStep g t e (enc a)) ρ2 fun o ρ3 => I (i + 1) (acc ++ o.toList) (wipeE ρ3 vs)) (hq : ∀ acc ρ2, I as.length acc ρ2 → Q (.nd .lst acc) (rst ρ2 ρ1 vs)) : W (yLc vs it g t e) ρ Q := by
  refine w_lc I h hc (by rw [List.length_map]; exact hl) h0 (fun i x acc ρ2 hx hi => ?_) (fun acc ρ2 hi => hq acc ρ2 (by rwa [List.length_map] at hi))
  rw [List.getElem?_map] at hx
  obtain ⟨a, ha, rfl⟩ := Option.map_eq_some_iff.mp hx
  exact hs i a acc ρ2 ha hi
end MR
namespace MR
open PySem L2 PL
/-! ### pure: == of data; slices, sums of lists -/
theorem canLay_ints : ∀ as : List Int, PyData.canLayAll0 (as.map .int) = true
  | [] => by simp [PyData.canLayAll0]
  | a :: as => by simp [PyData.canLayAll0, PyData.canLay0, canLay_ints as]
theorem depth_ints : ∀ as : List Int, PyData.depthAll (as.map .int) = 0
  | [] => by simp [PyData.depthAll]
  | a :: as => by simp [PyData.depthAll, PyData.depth, depth_ints as]
theorem shaped_ints (as : List Int) : SeqAt.shaped (.list (as.map .int)) = true := by
  simp [SeqAt.shaped, PyData.canLay0, canLay_ints, PyData.depth, depth_ints]
theorem shaped_nil : SeqAt.shaped (.list []) = true := shaped_ints []
theorem GCat_ok {a b : List D} (h : a.length + b.length ≤ 1000000) : GCat (.list a) (.list b) = some (lstO (a ++ b)) := by
  simp only [GCat]
  rw [if_pos h]
theorem cut_mem {xs : List D} {lo hi : Option Int} {x : D} (h : x ∈ cutD xs lo hi) : x ∈ xs := by
  unfold cutD at h
  exact List.mem_of_mem_drop (List.mem_of_mem_take h)
theorem cut_len (xs : List D) (lo hi : Option Int) : (cutD xs lo hi).length ≤ xs.length := by
  unfold cutD
  rw [List.length_take, List.length_drop]
  omega
theorem toDs_snoc : ∀ {ts : List OT} {xs : List D} {t : OT} {x : D}, OT.toDs ts = some xs → OT.toD t = some x → OT.toDs (ts ++ [t]) = some (xs ++ [x])
  | [], xs, t, x, h1, h2 => by simp [toDs_nil] at h1; subst h1; simp [toDs_cons, toDs_nil, h2]
  | a :: ts, xs, t, x, h1, h2 => by
    rw [toDs_cons] at h1
    cases ha : OT.toD a with
    | none => rw [ha] at h1; cases h1
    | some y =>
      cases hb : OT.toDs ts with
      | none => rw [ha, hb] at h1; cases h1
      | some ys =>
        rw [ha, hb] at h1
        simp at h1
        subst h1
        rw [List.cons_append, toDs_cons, ha, toDs_snoc hb h2]
        simp
theorem toD_dnew : OT.toD (.nd (.dT []) []) = some (.dict []) := by simp [OT.toD, flatDs]
theorem isNo_lstO (xs : List D) : isNo (lstO xs) = false := rfl
def cl : OT → Bool
  | .nd _ _ => false
  | .fl _ => false
  | .si _ => false
  | _ => true
theorem calm_one {ρ : Env} {i : Nat} {X : OT} (h : ρ[i]? = some X) (c : cl X = true) : calmAt ρ [i] = true := by
  unfold calmAt
  cases X with
  | nd k ts => cases c
  | fl ts => cases c
  | ex x => simp [h]
  | si x => cases c
  | no => simp [h]
  | d x => simp [h]
theorem rgD0 (n : Nat) : rgD 0 n = (List.range n).map fun (k : Nat) => PyData.int (k : Int) := by simp [rgD]
theorem neS_self (s : Str) : gNeS (.str s) (.str s) = some (.bool false) := by simp [gNeS]
theorem eqS_self (s : Str) : gEqS (.str s) (.str s) = some (.bool true) := by simp [gEqS]
theorem rep_one (k : Nat) (x : D) : (List.replicate k [x]).flatten = List.replicate k x := by
  induction k with
  | zero => rfl
  | succ k ih => simp [List.replicate_succ, ih]
theorem yRep_z {y : Ym} {n : Rm} {ρ ρ' : Env} {x : D} {z : Int} (h : y ρ = some (.nd .lst [.d x], ρ')) (hn : n ρ' = some (.int z)) (h0 : 0 ≤ z) (h1 : z ≤ 1000000) : yRep y n ρ = some (lstO (List.replicate z.toNat x), ρ') := by
  have b : -(2 ^ 63) ≤ z ∧ z < 2 ^ 63 ∧ [x].length * z.toNat ≤ 1000000 := ⟨by omega, by omega, by simp; omega⟩
  unfold yRep
  rw [h]
  simp only [Option.bind_some, allD, Option.map_some, hn]
  rw [if_pos b, rep_one]
theorem yRep_one {y : Ym} {n : Rm} {ρ ρ' : Env} {x : D} {k : Nat} (h : y ρ = some (.nd .lst [.d x], ρ')) (hn : n ρ' = some (.int (k : Nat))) (h1 : k ≤ 1000000) : yRep y n ρ = some (lstO (List.replicate k x), ρ') := by
  have := yRep_z h hn (by omega) (by omega)
  rwa [Int.toNat_natCast] at this
end MR
namespace SH
open PySem L2 PL MR
local macro_rules | `(tactic| walk_at "ev") => `(tactic| simp (config := {decide := true}) only [ini, fin, finI, sSeq, sNext, sAsg, sAsgG, sRet, sRetN, sDrop, sIf, sNever, sSetP, sAppP, sClrP, sRevP, fR, pmVar, pmIx, pmIxT, MR.putAt, OT.put, OT.at, gmName, gmTup, gmLst, gsNil, gsCons, rVar, rC, rOp, rUn, rCb, rCbZ, rOpZ, rCall, rAnd, rOr, rNot, rIf, rIs, rCh, rCh3, rTup, rLst, rSl, cNone, cSome, rRepr, dRepr, rInDct, rIdx, small, qNil, qCons, qApp, lApp, bR, bAnd, bOr, bNot, tR, tD, tmAnd, tmOr, tmNot, yVar_eq, yMov, yR, yAuto, dY, yD, dR, dOp, dOpR, dCb, dAnd, dOr, dNot, yCall, yCallA, yCallI, yCallIT, yCb, yCbA, yOp, yOpA, lfO, yTup, yLst, oNil, oCons, isNo, lNil, lCons, asB, asInt, asL, asT, iL, iT, iE, iZ, iV, yRng1_eq, iR1_eq, iR2_eq, lcStep, calmAt, wipeE, rst, sApp, yPop_eq, sDPutM, ySortD, yDNew, gmName, toD_d, toD_tup, toD_lst, toDs_nil, toDs_cons, toDs_ints, toDs_fpr, toDs_prs, lfs_ints, lfs_fpr, intsO_len, prsO_len, fprO_len, rng_len, intsO_snoc, prsO_snoc, lstO_rg, rOpZ, rCbZ, isNo_lstO, toD_dnew, ySl, ySlA, neS_self, eqS_self,  rRevL, yRevL, yRevLA, yPop0, sExt, gStrI,  lstO_prs, lstO_ints, toD_lstO, kp_int, kp_bool, kp_tuple, kp_list, kp_str, isIntB, isBoolB, isTupB, isListB, isStrB, gAdd_i, gSub_i, gLt_i, gLe_i, gGt_i, gGe_i, gMul_r, gMul_l, gMod_i, gDiv_i, gPow_i, gNeg, gEqI, gNeI, gEqS, gNeS, gIsN, gNotN, gIsB, gNotB, gIxL, gIxT, gLen, gMax2, gMin2, gInt, gAll, asBools_map, isN, OT.lf, OT.lfs, flat, atI_0, atI_1, ixN_0, ixN_1, rgD_len, enumD_len, trues_len, Int.toNat_natCast, List.length_map, eq_self, Option.bind_some, Option.bind_none, Option.map_some, Option.map_none, List.getElem?_cons_zero, List.getElem?_cons_succ, List.set_cons_zero, List.set_cons_succ, List.map_cons, List.map_nil, List.replicate, List.nil_append, List.cons_append, List.length_cons, List.length_nil, List.all_cons, List.all_nil, if_true, if_false, reduceIte, tfl_int, tfl_bool, tfl_none, tfl_str, tfl_list, Bool.true_and, Bool.and_true, Bool.false_and, Bool.and_false, Bool.true_or, Bool.or_true, Bool.false_or, Bool.or_false, Bool.not_true, Bool.not_false, Bool.false_eq_true, decide_true, decide_false, true_and, and_true, false_and, and_false, or_true, true_or, *])
/-! ### lists of webs, rows -/
abbrev Wb := Nat × List (Int × Int)
def wbD (w : Wb) : D := WD w.1 w.2
structure WbOk (w : Wb) : Prop where
  ok : WOk w.1 w.2
  lo : 1 ≤ w.1
  hi : w.1 ≤ 40
  len : w.2.length ≤ 120
theorem wbD_eq (w : Wb) : wbD w = .tuple [.int (w.1 : Nat), .list (w.2.map pairD)] := rfl
/-! numbers of rows -/
def rowsN (ws : List Wb) : Int := ws.foldl (fun m w => m * (w.1 : Int)) 1
end SH
namespace SH
open PySem L2 PL MR
local macro_rules | `(tactic| walk_at "ev") => `(tactic| simp (config := {decide := true}) only [ini, fin, finI, sSeq, sNext, sAsg, sAsgG, sRet, sRetN, sDrop, sIf, sNever, sSetP, sAppP, sClrP, sRevP, fR, pmVar, pmIx, pmIxT, MR.putAt, OT.put, OT.at, gmName, gmTup, gmLst, gsNil, gsCons, rVar, rC, rOp, rUn, rCb, rCbZ, rOpZ, rCall, rAnd, rOr, rNot, rIf, rIs, rCh, rCh3, rTup, rLst, rSl, cNone, cSome, rRepr, dRepr, rInDct, rIdx, small, qNil, qCons, qApp, lApp, bR, bAnd, bOr, bNot, tR, tD, tmAnd, tmOr, tmNot, yVar_eq, yMov, yR, yAuto, dY, yD, dR, dOp, dOpR, dCb, dAnd, dOr, dNot, yCall, yCallA, yCallI, yCallIT, yCb, yCbA, yOp, yOpA, lfO, yTup, yLst, oNil, oCons, isNo, lNil, lCons, asB, asInt, asL, asT, iL, iT, iE, iZ, iV, yRng1_eq, iR1_eq, iR2_eq, lcStep, calmAt, wipeE, rst, sApp, yPop_eq, sDPutM, ySortD, yDNew, gmName, toD_d, toD_tup, toD_lst, toDs_nil, toDs_cons, toDs_ints, toDs_fpr, toDs_prs, lfs_ints, lfs_fpr, intsO_len, prsO_len, fprO_len, rng_len, intsO_snoc, prsO_snoc, lstO_rg, rOpZ, rCbZ, isNo_lstO, toD_dnew, ySl, ySlA, neS_self, eqS_self,  rRevL, yRevL, yRevLA, yPop0, sExt, gStrI,  lstO_prs, lstO_ints, toD_lstO, kp_int, kp_bool, kp_tuple, kp_list, kp_str, isIntB, isBoolB, isTupB, isListB, isStrB, gAdd_i, gSub_i, gLt_i, gLe_i, gGt_i, gGe_i, gMul_r, gMul_l, gMod_i, gDiv_i, gPow_i, gNeg, gEqI, gNeI, gEqS, gNeS, gIsN, gNotN, gIsB, gNotB, gIxL, gIxT, gLen, gMax2, gMin2, gInt, gAll, asBools_map, isN, OT.lf, OT.lfs, flat, atI_0, atI_1, ixN_0, ixN_1, rgD_len, enumD_len, trues_len, Int.toNat_natCast, List.length_map, eq_self, Option.bind_some, Option.bind_none, Option.map_some, Option.map_none, List.getElem?_cons_zero, List.getElem?_cons_succ, List.set_cons_zero, List.set_cons_succ, List.map_cons, List.map_nil, List.replicate, List.nil_append, List.cons_append, List.length_cons, List.length_nil, List.all_cons, List.all_nil, if_true, if_false, reduceIte, tfl_int, tfl_bool, tfl_none, tfl_str, tfl_list, Bool.true_and, Bool.and_true, Bool.false_and, Bool.and_false, Bool.true_or, Bool.or_true, Bool.false_or, Bool.or_false, Bool.not_true, Bool.not_false, Bool.false_eq_true, decide_true, decide_false, true_and, and_true, false_and, and_false, or_true, true_or, *])
def RowOk : List Wb → List Int → Prop
  | [], [] => True
  | w :: ws, p :: ps => (0 ≤ p ∧ p < (w.1 : Int)) ∧ RowOk ws ps
  | _, _ => False
theorem RowOk.len : ∀ {ws : List Wb} {r : List Int}, RowOk ws r → r.length = ws.length
  | [], [], _ => rfl
  | w :: ws, p :: ps, h => by simp [RowOk.len h.2]
/-! the row of a number -/
/-! the same where no web is empty -/
end SH
namespace SH
open PySem L2 PL MR
local macro_rules | `(tactic| walk_at "ev") => `(tactic| simp (config := {decide := true}) only [ini, fin, finI, sSeq, sNext, sAsg, sAsgG, sRet, sRetN, sDrop, sIf, sNever, sSetP, sAppP, sClrP, sRevP, fR, pmVar, pmIx, pmIxT, MR.putAt, OT.put, OT.at, gmName, gmTup, gmLst, gsNil, gsCons, rVar, rC, rOp, rUn, rCb, rCbZ, rOpZ, rCall, rAnd, rOr, rNot, rIf, rIs, rCh, rCh3, rTup, rLst, rSl, cNone, cSome, rRepr, dRepr, rInDct, rIdx, small, qNil, qCons, qApp, lApp, bR, bAnd, bOr, bNot, tR, tD, tmAnd, tmOr, tmNot, yVar_eq, yMov, yR, yAuto, dY, yD, dR, dOp, dOpR, dCb, dAnd, dOr, dNot, yCall, yCallA, yCallI, yCallIT, yCb, yCbA, yOp, yOpA, lfO, yTup, yLst, oNil, oCons, isNo, lNil, lCons, asB, asInt, asL, asT, iL, iT, iE, iZ, iV, yRng1_eq, iR1_eq, iR2_eq, lcStep, calmAt, wipeE, rst, sApp, yPop_eq, sDPutM, ySortD, yDNew, gmName, toD_d, toD_tup, toD_lst, toDs_nil, toDs_cons, toDs_ints, toDs_fpr, toDs_prs, lfs_ints, lfs_fpr, intsO_len, prsO_len, fprO_len, rng_len, intsO_snoc, prsO_snoc, lstO_rg, rOpZ, rCbZ, isNo_lstO, toD_dnew, ySl, ySlA, neS_self, eqS_self,  rRevL, yRevL, yRevLA, yPop0, sExt, gStrI,  lstO_prs, lstO_ints, toD_lstO, kp_int, kp_bool, kp_tuple, kp_list, kp_str, isIntB, isBoolB, isTupB, isListB, isStrB, gAdd_i, gSub_i, gLt_i, gLe_i, gGt_i, gGe_i, gMul_r, gMul_l, gMod_i, gDiv_i, gPow_i, gNeg, gEqI, gNeI, gEqS, gNeS, gIsN, gNotN, gIsB, gNotB, gIxL, gIxT, gLen, gMax2, gMin2, gInt, gAll, asBools_map, isN, OT.lf, OT.lfs, flat, atI_0, atI_1, ixN_0, ixN_1, rgD_len, enumD_len, trues_len, Int.toNat_natCast, List.length_map, eq_self, Option.bind_some, Option.bind_none, Option.map_some, Option.map_none, List.getElem?_cons_zero, List.getElem?_cons_succ, List.set_cons_zero, List.set_cons_succ, List.map_cons, List.map_nil, List.replicate, List.nil_append, List.cons_append, List.length_cons, List.length_nil, List.all_cons, List.all_nil, if_true, if_false, reduceIte, tfl_int, tfl_bool, tfl_none, tfl_str, tfl_list, Bool.true_and, Bool.and_true, Bool.false_and, Bool.and_false, Bool.true_or, Bool.or_true, Bool.false_or, Bool.or_false, Bool.not_true, Bool.not_false, Bool.false_eq_true, decide_true, decide_false, true_and, and_true, false_and, and_false, or_true, true_or, *])
theorem toD_ints (r : List Int) : OT.toD (.nd .lst (intsO r)) = some (.list (r.map .int)) := by rw [toD_lst, toDs_ints]; rfl
/-! the law's own drawing -/
theorem RowOk.push : ∀ {ws : List Wb} {r : List Int} {w : Wb} {p : Int}, RowOk ws r → 0 ≤ p → p < (w.1 : Int) → RowOk (ws ++ [w]) (r ++ [p])
  | [], [], w, p, _, h1, h2 => ⟨⟨h1, h2⟩, trivial⟩
  | v :: ws, q :: r, w, p, h, h1, h2 => ⟨h.1, h.2.push h1 h2⟩
def wbO (w : Wb) : OT := .nd .tup [.d (.int (w.1 : Nat)), .nd .lst (fprO w.2)]
theorem toD_wbO (w : Wb) : OT.toD (wbO w) = some (wbD w) := by
  simp [wbO, wbD, WD, toD_tup, toDs_cons, toDs_nil, toD_d, toD_lst, toDs_fpr]
end SH
namespace MR
open PySem L2 PL
/-! ### pure: rows, tables of lists, membership of pairs -/
theorem GCat_ints {a b : List Int} (h : a.length + b.length ≤ 1000000) : GCat (.list (a.map .int)) (.list (b.map .int)) = some (.nd .lst (intsO (a ++ b))) := by
  rw [GCat_ok (by simpa using h), ← List.map_append, lstO_ints]
/-! sorting -/
/-! membership of pairs -/
theorem dY_of {y : Ym} {ρ ρ' : Env} {r : OT} {x : D} (h : y ρ = some (r, ρ')) (h2 : OT.toD r = some x) : dY y ρ = some (x, ρ') := by
  unfold dY
  rw [h, Option.bind_some, h2]
  rfl
theorem yOp_of {G : D → D → Option OT} {a b : Dm} {ρ ρ1 ρ2 : Env} {x y : D} {r : OT} (h1 : a ρ = some (x, ρ1)) (h2 : b ρ1 = some (y, ρ2)) (h3 : G x y = some r) : yOp G a b ρ = some (r, ρ2) := by
  unfold yOp
  rw [h1, Option.bind_some, h2, Option.bind_some, h3]
  rfl
/-! comprehensions with two fors -/
end MR
namespace SQ
open PySem L2 PL MR SH
local macro_rules | `(tactic| walk_at "ev") => `(tactic| simp (config := {decide := true}) only [ini, fin, finI, sSeq, sNext, sAsg, sAsgG, sRet, sRetN, sDrop, sIf, sNever, sSetP, sAppP, sClrP, sRevP, fR, pmVar, pmIx, pmIxT, MR.putAt, OT.put, OT.at, gmName, gmTup, gmLst, gsNil, gsCons, rVar, rC, rOp, rUn, rCb, rCbZ, rOpZ, rCall, rAnd, rOr, rNot, rIf, rIs, rCh, rCh3, rTup, rLst, rSl, cNone, cSome, rRepr, dRepr, rInDct, rIdx, rIdxD, iR3s, small, qNil, qCons, qApp, lApp, bR, bAnd, bOr, bNot, tR, tD, tmAnd, tmOr, tmNot, yVar_eq, yMov, yR, yAuto, dY, yD, dR, dOp, dOpR, dCb, dAnd, dOr, dNot, yCall, yCallA, yCallI, yCallIT, yCb, yCbA, yOp, yOpA, lfO, yTup, yLst, oNil, oCons, isNo, lNil, lCons, asB, asInt, asL, asT, iL, iT, iE, iZ, iV, yRng1_eq, iR1_eq, iR2_eq, lcStep, calmAt, wipeE, rst, sApp, yPop_eq, sDPutM, ySortD, yDNew, gmName, toD_d, toD_tup, toD_lst, toDs_nil, toDs_cons, toDs_ints, toDs_fpr, toDs_prs, lfs_ints, lfs_fpr, intsO_len, prsO_len, fprO_len, rng_len, intsO_snoc, prsO_snoc, lstO_rg, rOpZ, rCbZ, isNo_lstO, toD_dnew, ySl, ySlA, neS_self, eqS_self,  rRevL, yRevL, yRevLA, yPop0, sExt, gStrI,  lstO_prs, lstO_ints, toD_lstO, kp_int, kp_bool, kp_tuple, kp_list, kp_str, isIntB, isBoolB, isTupB, isListB, isStrB, gAdd_i, gSub_i, gLt_i, gLe_i, gGt_i, gGe_i, gMul_r, gMul_l, gMod_i, gDiv_i, gPow_i, gNeg, gEqI, gNeI, gEqS, gNeS, gIsN, gNotN, gIsB, gNotB, gIxL, gIxT, gLen, gMax2, gMin2, gInt, gAll, asBools_map, isN, OT.lf, OT.lfs, flat, atI_0, atI_1, ixN_0, ixN_1, rgD_len, enumD_len, trues_len, Int.toNat_natCast, List.length_map, eq_self, Option.bind_some, Option.bind_none, Option.map_some, Option.map_none, List.getElem?_cons_zero, List.getElem?_cons_succ, List.set_cons_zero, List.set_cons_succ, List.map_cons, List.map_nil, List.replicate, List.nil_append, List.cons_append, List.length_cons, List.length_nil, List.all_cons, List.all_nil, if_true, if_false, reduceIte, tfl_int, tfl_bool, tfl_none, tfl_str, tfl_list, Bool.true_and, Bool.and_true, Bool.false_and, Bool.and_false, Bool.true_or, Bool.or_true, Bool.false_or, Bool.or_false, Bool.not_true, Bool.not_false, Bool.false_eq_true, decide_true, decide_false, true_and, and_true, false_and, and_false, or_true, true_or, *])
theorem cell_at_ok (ns : List Int) (k : Nat) : ∃ c : Int, SQ.m__law_cell_at [.list (ns.map .int), .int k] = some (.d (.int c)) := by
  by_cases hc : k < ns.length
  · refine ⟨ns[k], ?_⟩
    have e1 := atI_int (xs := ns) (i := k) (k := ns[k]) (by simp [hc])
    have e2 : decide ((k : Int) < (ns.length : Int)) = true := by simp [hc]
    generalize ns[k] = c at *
    unfold SQ.m__law_cell_at B__law_cell_at
    refine fin_eq ?_
    refine w_seq (W.of (by walk_at "ev" <;> exact rfl) ?_)
    rfl
  · refine ⟨0, ?_⟩
    have e2 : decide ((k : Int) < (ns.length : Int)) = false := by simp; omega
    unfold SQ.m__law_cell_at B__law_cell_at
    refine fin_eq ?_
    refine w_seq (W.of (by walk_at "ev" <;> exact rfl) ?_)
    exact w_end (by walk_at "ev" <;> exact rfl) rfl rfl
def digOk (ds sz : List Int) (n : Nat) : Prop := ∀ k : Nat, k < n → 0 ≤ at' ds (k : Nat) ∧ at' ds (k : Nat) < at' sz (k : Nat)
theorem at'_snoc {ds : List Int} {x : Int} {i k : Nat} (hl : ds.length = i) : at' (ds ++ [x]) (k : Nat) = if k = i then x else at' ds (k : Nat) := by
  unfold at'
  rw [Int.toNat_natCast]
  by_cases h : k = i
  · subst h; subst hl; simp
  · rw [if_neg h]
    by_cases h2 : k < i
    · rw [List.getD_eq_getElem?_getD, List.getElem?_append_left (by omega), ← List.getD_eq_getElem?_getD]
    · rw [List.getD_eq_getElem?_getD, List.getD_eq_getElem?_getD, List.getElem?_eq_none (by simp; omega), List.getElem?_eq_none (by omega)]
theorem digOk_snoc {ds sz : List Int} {x : Int} {i : Nat} (hl : ds.length = i) (h : digOk ds sz i) (h1 : 0 ≤ x) (h2 : x < at' sz (i : Nat)) : digOk (ds ++ [x]) sz (i + 1) := by
  intro k hk
  rw [at'_snoc hl]
  split
  · rename_i e; subst e; exact ⟨h1, h2⟩
  · exact h k (by omega)
theorem numbers_ok (c salt : Int) (hs : 0 ≤ salt ∧ salt ≤ 1000000) (sz : List Int) (hl : sz.length ≤ 10000) (h : ∀ s ∈ sz, 0 < s ∧ s < 1073741824) : ∃ ds : List Int, SQ.m__law_numbers [.int c, .int salt, .list (sz.map .int)] = some (.nd .lst (intsO ds)) ∧ ds.length = sz.length ∧ digOk ds sz sz.length := by
  have c1 := rg1_n (n := sz.length) (by omega)
  have c5 : (0 : Int) ≤ 18 ∧ (18 : Int) ≤ 1000000 ∧ (10 : Int).natAbs < 2 ^ 64 := by decide
  have c2 : ((-(2 ^ 64) : Int) < 7919 ∧ (7919 : Int) < 2 ^ 64) := by decide
  have c3 : ((-(2 ^ 64) : Int) < 101 ∧ (101 : Int) < 2 ^ 64) := by decide
  have c4 : ((-(2 ^ 64) : Int) < 48271 ∧ (48271 : Int) < 2 ^ 64) := by decide
  obtain ⟨r, e, ds, rfl, h1, h2⟩ := fin_w (P := fun x => ∃ ds : List Int, x = .nd .lst (intsO ds) ∧ ds.length = sz.length ∧ digOk ds sz sz.length) (B := B__law_numbers) (ρ := ini [.int c, .int salt, .list (sz.map .int)] 5) (by
    unfold B__law_numbers
    refine w_st (by walk_at "ev" <;> exact rfl) ?_
    refine w_st (by walk_at "ev" <;> exact rfl) ?_
    refine w_st (by walk_at "ev" <;> exact rfl) ?_
    generalize max c (-1 - c) = N
    refine w_seq (w_for (fun i ρ => ∃ (left : Int) (ds : List Int) (X Y : OT), ρ = [.d (.int c), .d (.int salt), .d (.list (sz.map .int)), .d (.int N), .d (.int left), .nd .lst (intsO ds), X, Y] ∧ ds.length = i ∧ digOk ds sz i) (xs := rgD 0 sz.length) (by walk_at "ev" <;> exact rfl) ⟨_, [], _, _, rfl, rfl, fun k hk => by omega⟩ ?_ ?_)
    · rintro i x ρ2 hx ⟨left, ds, X, Y, rfl, g1, g2⟩
      obtain ⟨hi, rfl⟩ := rgD_at hx
      rw [Int.zero_add]
      have e1 := atI_os (os := sz) (a := (i : Nat)) (by omega) (by omega)
      have e2 := h _ (at'_mem (os := sz) (a := (i : Nat)) (by omega) (by omega))
      have g3 : i ≤ 1000000 := by omega
      have ck : (-(2 ^ 64) : Int) < (i : Int) ∧ (i : Int) < 2 ^ 64 := by omega
      have fin' : ∀ x : Int, 0 ≤ x → x < at' sz (i : Nat) → digOk (ds ++ [x]) sz (i + 1) := fun x a b => digOk_snoc g1 g2 a b
      have fl : ∀ x : Int, (ds ++ [x]).length = i + 1 := fun x => by simp [g1]
      clear g2
      generalize hK : (i : Int) = K at *
      generalize at' sz K = s at *
      apply exw
      · walk_at "ev" <;> exact rfl
      have e3 : 0 < s := e2.1
      by_cases ha : (10 : Int) ^ (18 : Int).toNat ≤ N
      · by_cases hb : 0 < left
        · refine w_if (c := true) (by walk_at "ev" <;> exact rfl) (fun _ => ?_) (fun z => by cases z)
          refine w_st (by walk_at "ev" <;> exact rfl) ?_
          apply w_nx
          · walk_at "ev" <;> exact rfl
          exact ⟨_, _, _, _, rfl, fl _, fin' _ (Int.emod_nonneg _ (by omega)) (Int.emod_lt_of_pos _ e3)⟩
        · refine w_if (c := false) (by walk_at "ev" <;> exact rfl) (fun z => by cases z) (fun _ => ?_)
          refine w_st (by walk_at "ev" <;> exact rfl) ?_
          refine w_st (by walk_at "ev" <;> exact rfl) ?_
          have o1 : ∀ x : Int, (-(2 ^ 64) : Int) < x % 2147483647 ∧ x % 2147483647 < 2 ^ 64 := fun x => by omega
          refine w_st (by walk_at "ev" <;> exact rfl) ?_
          apply w_nx
          · walk_at "ev" <;> exact rfl
          exact ⟨_, _, _, _, rfl, fl _, fin' _ (Int.emod_nonneg _ (by omega)) (Int.emod_lt_of_pos _ e3)⟩
      · refine w_if (c := false) (by walk_at "ev" <;> exact rfl) (fun z => by cases z) (fun _ => ?_)
        refine w_st (by walk_at "ev" <;> exact rfl) ?_
        refine w_st (by walk_at "ev" <;> exact rfl) ?_
        have o1 : ∀ x : Int, (-(2 ^ 64) : Int) < x % 2147483647 ∧ x % 2147483647 < 2 ^ 64 := fun x => by omega
        refine w_st (by walk_at "ev" <;> exact rfl) ?_
        apply w_nx
        · walk_at "ev" <;> exact rfl
        exact ⟨_, _, _, _, rfl, fl _, fin' _ (Int.emod_nonneg _ (by omega)) (Int.emod_lt_of_pos _ e3)⟩
    · rintro ρ2 ⟨left, ds, X, Y, rfl, g1, g2⟩
      rw [rgD_len] at g1 g2
      exact w_end (by walk_at "ev" <;> exact rfl) rfl ⟨ds, rfl, g1, g2⟩)
  exact ⟨ds, e, h1, h2⟩
theorem order_ok {ds : List Int} (hl : ds.length ≤ 10000) (h : ∀ d ∈ ds, 0 ≤ d) : ∃ os : List Int, SQ.m__law_order [.list (ds.map .int)] = some (.nd .lst (intsO os)) ∧ os.Perm (rng ds.length) := by
  have c1 := rg0_n (n := ds.length) (by omega)
  obtain ⟨r, e, os, rfl, h1⟩ := fin_w (P := fun x => ∃ os : List Int, x = .nd .lst (intsO os) ∧ os.Perm (rng ds.length)) (B := B__law_order) (ρ := ini [.list (ds.map .int)] 2) (by
    unfold B__law_order
    refine w_st (by walk_at "ev" <;> exact rfl) ?_
    refine w_ret (w_lcT (fun i acc ρ => ∃ (os ls : List Int) (X : OT), acc = intsO os ∧ ρ = [.d (.list (ds.map .int)), .nd .lst (intsO ls), X] ∧ (os ++ ls).Perm (rng ds.length) ∧ os.length = i) (as := ds) (enc := PyData.int) (by walk_at "ev" <;> exact rfl) rfl (by omega) ⟨[], rng ds.length, _, rfl, rfl, .refl _, rfl⟩ ?_ ?_)
    · rintro i d acc ρ2 hd ⟨os, ls, X, rfl, rfl, hp, hi⟩
      have hd0 := h d (List.mem_of_getElem? hd)
      have hlt : i < ds.length := (List.getElem?_eq_some_iff.mp hd).1
      have hlen : ls.length + i = ds.length := by have := hp.length_eq; rw [List.length_append, rng_len] at this; omega
      obtain ⟨j, hj⟩ : ∃ j : Nat, d % (ls.length : Int) = j := ⟨(d % (ls.length : Int)).toNat, by have := Int.emod_nonneg d (b := (ls.length : Int)) (by omega); omega⟩
      have hj2 : j < ls.length := by have := Int.emod_lt_of_pos d (b := (ls.length : Int)) (by omega); omega
      obtain ⟨k, xs', k1, k2, k3, k4⟩ := pop_ints hj2
      have c2 := pop1_n hj2 (by omega)
      have c3 : (0 : Int) < (ls.length : Int) := by omega
      refine W.of (by walk_at "ev" <;> exact rfl) ?_
      refine ⟨os ++ [k], xs', _, by simp [intsO], rfl, ?_, by simp; omega⟩
      refine List.Perm.trans ?_ hp
      rw [List.append_assoc]
      exact List.Perm.append_left _ k3
    · rintro acc ρ2 ⟨os, ls, X, rfl, rfl, hp, hi⟩
      have hlen : ls.length = 0 := by have := hp.length_eq; rw [List.length_append, rng_len] at this; omega
      have : ls = [] := List.length_eq_zero_iff.mp hlen
      subst this
      rw [List.append_nil] at hp
      exact ⟨os, rfl, hp⟩)
  exact ⟨os, e, h1⟩
end SQ
namespace MR
open PySem L2 PL
/-! ### pure: more walking -/
theorem W.eq {α : Type} {m : Env → Option (α × Env)} {ρ ρ' : Env} {r : α} (h : W m ρ fun r' ρ'' => r' = r ∧ ρ'' = ρ') : m ρ = some (r, ρ') := by
  obtain ⟨r', ρ'', e, rfl, rfl⟩ := h
  exact e
theorem w_yOp {G : D → D → Option OT} {a b : Dm} {ρ : Env} {Q : OT → Env → Prop} (h : W a ρ fun x ρ1 => W b ρ1 fun y ρ2 => ∃ r, G x y = some r ∧ Q r ρ2) : W (yOp G a b) ρ Q := by
  obtain ⟨x, ρ1, e, y, ρ2, e2, r, e3, q⟩ := h
  exact ⟨_, _, yOp_of e e2 e3, q⟩
theorem w_dYof {y : Ym} {ρ ρ' : Env} {r : OT} {x : D} {Q : D → Env → Prop} (h : y ρ = some (r, ρ')) (h2 : OT.toD r = some x) (q : Q x ρ') : W (dY y) ρ Q := ⟨_, _, dY_of h h2, q⟩
theorem cut_mid (r : List Int) {a b : Nat} (h : a ≤ b) (h2 : b ≤ r.length) : cutD (r.map PyData.int) (some (a : Int)) (some (b : Int)) = ((r.drop a).take (b - a)).map .int := by
  unfold cutD
  rw [HT.sIx_nat, HT.sIx_nat, List.length_map, Nat.min_eq_left h2, Nat.min_eq_left (by omega : a ≤ r.length)]
  rw [← List.map_drop, ← List.map_take]
theorem atI_neg {os : List Int} {k : Nat} (h : k < os.length) : atI (os.map PyData.int) (-1 - (k : Int)) = some (.int (at' os ((os.length - 1 - k : Nat) : Int))) := by
  have e : ixN os.length (-1 - (k : Int)) = some (os.length - 1 - k) := by
    unfold ixN
    split <;> (try split) <;> (try simp) <;> omega
  have h2 : os.length - 1 - k < os.length := by omega
  have e2 : at' os ((os.length - 1 - k : Nat) : Int) = os[os.length - 1 - k] := at'_nat h2
  unfold atI
  rw [List.length_map, e]
  simp [e2, h2]
theorem w_yCallA {f : List D → Option OT} {n : Nat} {q : Qm} {l : Lm} {ρ ρ' : Env} {ds : List D} {r : OT} {Q : OT → Env → Prop} (h : q ρ = some ds) (hl : l ρ = some (ds, ρ')) (hn : ds.length = n) (hf : f ds = some r) (q1 : Q r ρ) (q2 : Q r ρ') : W (yCallA f n q l) ρ Q := by
  have e : yCall f n l ρ = some (r, ρ') := by
    unfold yCall
    rw [hl]
    simp [hn, hf]
  by_cases g : r.lf = true
  · exact ⟨r, ρ, by unfold yCallA; rw [h]; simp only [Option.bind_some, hn, if_true, hf, lfO, g], q1⟩
  · exact ⟨r, ρ', by unfold yCallA; rw [h, e]; simp [hn, hf, lfO, g], q2⟩
theorem toDs_mapD {α : Type} (f : α → D) (xs : List α) : OT.toDs (xs.map fun a => OT.d (f a)) = some (xs.map f) := by
  have := toDs_mapd (xs.map f)
  rwa [List.map_map] at this
theorem w_ext {i : Nat} {y : Ym} {ρ : Env} {ts0 : List OT} {Q : Fl → Env → Prop} (h0 : ρ[i]? = some (.nd .lst ts0)) (h : W y ρ fun r ρ' => ∃ us ts, r = .nd .lst us ∧ ρ'[i]? = some (.nd .lst ts) ∧ ts.length + us.length ≤ 1000000 ∧ Q .nx (ρ'.set i (.nd .lst (ts ++ us)))) : W (sExt i y) ρ Q := by
  obtain ⟨r, ρ1, e, us, ts, rfl, e2, g, q⟩ := h
  refine ⟨_, _, ?_, q⟩
  unfold sExt
  rw [h0]
  simp only [e, Option.bind_some, e2]
  rw [if_pos g]
end MR
namespace SQ
open PySem L2 PL MR SH
local macro_rules | `(tactic| walk_at "ev") => `(tactic| simp (config := {decide := true}) only [ini, fin, finI, sSeq, sNext, sAsg, sAsgG, sRet, sRetN, sDrop, sIf, sNever, sSetP, sAppP, sClrP, sRevP, fR, pmVar, pmIx, pmIxT, MR.putAt, OT.put, OT.at, gmName, gmTup, gmLst, gsNil, gsCons, rVar, rC, rOp, rUn, rCb, rCbZ, rOpZ, rCall, rAnd, rOr, rNot, rIf, rIs, rCh, rCh3, rTup, rLst, rSl, cNone, cSome, rRepr, dRepr, rInDct, rIdx, rIdxD, iR3s, small, qNil, qCons, qApp, lApp, bR, bAnd, bOr, bNot, tR, tD, tmAnd, tmOr, tmNot, yVar_eq, yMov, yR, yAuto, dY, yD, dR, dOp, dOpR, dCb, dAnd, dOr, dNot, yCall, yCallA, yCallI, yCallIT, yCb, yCbA, yOp, yOpA, lfO, yTup, yLst, oNil, oCons, isNo, lNil, lCons, asB, asInt, asL, asT, iL, iT, iE, iZ, iV, yRng1_eq, iR1_eq, iR2_eq, lcStep, calmAt, wipeE, rst, sApp, yPop_eq, sDPutM, ySortD, yDNew, gmName, toD_d, toD_tup, toD_lst, toDs_nil, toDs_cons, toDs_ints, toDs_fpr, toDs_prs, lfs_ints, lfs_fpr, intsO_len, prsO_len, fprO_len, rng_len, intsO_snoc, prsO_snoc, lstO_rg, rOpZ, rCbZ, isNo_lstO, toD_dnew, ySl, ySlA, neS_self, eqS_self,  rRevL, yRevL, yRevLA, yPop0, sExt, gStrI,  lstO_prs, lstO_ints, toD_lstO, kp_int, kp_bool, kp_tuple, kp_list, kp_str, isIntB, isBoolB, isTupB, isListB, isStrB, gAdd_i, gSub_i, gLt_i, gLe_i, gGt_i, gGe_i, gMul_r, gMul_l, gMod_i, gDiv_i, gPow_i, gNeg, gEqI, gNeI, gEqS, gNeS, gIsN, gNotN, gIsB, gNotB, gIxL, gIxT, gLen, gMax2, gMin2, gInt, gAll, asBools_map, isN, OT.lf, OT.lfs, flat, atI_0, atI_1, ixN_0, ixN_1, rgD_len, enumD_len, trues_len, Int.toNat_natCast, List.length_map, eq_self, Option.bind_some, Option.bind_none, Option.map_some, Option.map_none, List.getElem?_cons_zero, List.getElem?_cons_succ, List.set_cons_zero, List.set_cons_succ, List.map_cons, List.map_nil, List.replicate, List.nil_append, List.cons_append, List.length_cons, List.length_nil, List.all_cons, List.all_nil, if_true, if_false, reduceIte, tfl_int, tfl_bool, tfl_none, tfl_str, tfl_list, Bool.true_and, Bool.and_true, Bool.false_and, Bool.and_false, Bool.true_or, Bool.or_true, Bool.false_or, Bool.or_false, Bool.not_true, Bool.not_false, Bool.false_eq_true, decide_true, decide_false, true_and, and_true, false_and, and_false, or_true, true_or, *])
/-! the law's drawn web -/
def szA (n : Nat) (most more : Int) : List Int := [most, more + 1] ++ (List.range (n - 1)).map (fun (k : Nat) => (k : Int) + 1) ++ (List.range n).map (fun (k : Nat) => (n : Int) - (k : Int))
def szs (n : Nat) (most : Int) (more : Nat) : List Int := szA n most more ++ List.replicate more ((n : Int) * n) ++ List.replicate (n - 1) 3
theorem szA_len (n : Nat) (h : 1 ≤ n) (most more : Int) : (szA n most more).length = 2 * n + 1 := by simp [szA]; omega
theorem szs_len (n : Nat) (h : 1 ≤ n) (most : Int) (more : Nat) : (szs n most more).length = 2 * n + 1 + more + (n - 1) := by simp [szs, szA_len n h]; omega
theorem szs_pos (n : Nat) (h : 1 ≤ n) (h2 : n ≤ 40) (most : Int) (m1 : 1 ≤ most) (m2 : most ≤ 40) (more : Nat) (h3 : more ≤ 60) : ∀ s ∈ szs n most more, 0 < s ∧ s < 1073741824 := by
  intro s hs
  have hn : (1 : Int) ≤ (n : Int) * n ∧ (n : Int) * n ≤ 1600 := by
    constructor
    · have := Int.mul_le_mul (a := 1) (c := (n : Int)) (b := 1) (d := n) (by omega) (by omega) (by omega) (by omega); omega
    · have := Int.mul_le_mul (a := (n : Int)) (c := 40) (b := n) (d := 40) (by omega) (by omega) (by omega) (by omega); omega
  simp only [szs, szA, List.mem_append, List.mem_map, List.mem_range, List.mem_replicate, List.mem_cons, List.not_mem_nil, or_false] at hs
  rcases hs with ((((rfl | rfl) | ⟨k, hk, rfl⟩) | ⟨k, hk, rfl⟩) | ⟨_, rfl⟩) | ⟨_, rfl⟩ <;> omega
theorem szs_1 (n : Nat) (most : Int) (more : Nat) : at' (szs n most more) ((1 : Nat) : Int) = more + 1 := rfl
theorem szs_2 {n k : Nat} (h : k < n - 1) (most : Int) (more : Nat) : at' (szs n most more) ((2 + k : Nat) : Int) = (k : Int) + 1 := by
  unfold at' szs szA
  rw [Int.toNat_natCast, List.getD_eq_getElem?_getD, List.append_assoc, List.append_assoc, List.append_assoc, List.getElem?_append_right (by simp)]
  rw [List.getElem?_append_left (by simp; omega)]
  simp [h]
theorem szs_3 {n k more : Nat} (h1 : 1 ≤ n) (h : k < more) (most : Int) : at' (szs n most more) ((2 * n + 1 + k : Nat) : Int) = (n : Int) * n := by
  unfold at' szs
  have := szA_len n h1 most (more : Int)
  rw [Int.toNat_natCast, List.getD_eq_getElem?_getD, List.append_assoc, List.getElem?_append_right (by omega)]
  rw [List.getElem?_append_left (by simp; omega)]
  simp [this, h]
def cB (b : Bool) (p : Int × Int) : Option (Int × Int) := if b then some p else Option.none
theorem prs_fm {α : Type} (g : α → Option (Int × Int)) (xs : List α) : xs.filterMap (fun a => (g a).map fun p => OT.nd .tup [.d (.int p.1), .d (.int p.2)]) = prsO (xs.filterMap g) := by
  unfold prsO
  rw [List.map_filterMap]
theorem ties_step {c salt most more loose m S6 X7 D8 L10 X11 : OT} {n : Nat} {os : List Int} (ho : os.Perm (rng n)) {a b : Int} (a0 : 0 ≤ a) (a1 : a < (n : Int)) (b0 : 0 ≤ b) (b1 : b < (n : Int)) {ks : List (Int × Int)} (h1 : ks.Nodup) (hk : ks.length ≤ 100000) (h3 : ∀ p ∈ ks, 0 ≤ p.1 ∧ p.1 < p.2 ∧ p.2 < (n : Int)) {Q : Fl → MR.Env → Prop}
    (q : ∀ ks' : List (Int × Int), ks'.Nodup → ks'.length ≤ ks.length + 1 → (∀ p ∈ ks', 0 ≤ p.1 ∧ p.1 < p.2 ∧ p.2 < (n : Int)) → Q .nx [c, salt, most, more, loose, m, S6, X7, D8, .nd .lst (intsO os), L10, X11, .nd (.dT (ks'.map kO)) (trues ks'.length), .d (.int a), .d (.int b)]) :
    W (sIf (tR (bR (rOp gNeI (rVar 13) (rVar 14)))) (sDPutM 12 (rTup (qCons (rCb gMin2 (qCons (rOp gIxL (rVar 9) (rVar 13)) (qCons (rOp gIxL (rVar 9) (rVar 14)) qNil))) (qCons (rCb gMax2 (qCons (rOp gIxL (rVar 9) (rVar 13)) (qCons (rOp gIxL (rVar 9) (rVar 14)) qNil))) qNil))) (rC (.bool true))) sNext)
      [c, salt, most, more, loose, m, S6, X7, D8, .nd .lst (intsO os), L10, X11, .nd (.dT (ks.map kO)) (trues ks.length), .d (.int a), .d (.int b)] Q := by
  have hlen : os.length = n := pm_len ho
  by_cases hne : a = b
  · have hf : decide (a = b) = true := decide_eq_true hne
    have q' := q ks h1 (by omega) h3
    clear hne q
    refine w_if (c := false) (by walk_at "ev" <;> exact rfl) (fun z => by cases z) (fun _ => ?_)
    exact w_next q'
  · have hf : decide (a = b) = false := by simp [hne]
    refine w_if (c := true) (by walk_at "ev" <;> exact rfl) (fun _ => ?_) (fun z => by cases z)
    have ea := atI_os (os := os) (a := a) a0 (by omega)
    have eb := atI_os (os := os) (a := b) b0 (by omega)
    have ma := pm_in ho a0 a1
    have mb := pm_in ho b0 b1
    have hne2 : at' os a ≠ at' os b := fun z => hne (pm_inj ho a0 a1 b0 b1 z)
    generalize at' os a = u at *
    generalize at' os b = v at *
    have hp := putO_true ks (min u v, max u v)
    have hk' : keyP (.tuple [.int (min u v), .int (max u v)]) = some (kO (min u v, max u v)) := rfl
    have g : ks.length ≤ 1000000 := by omega
    have g2 : (ks.map kO).length = (trues ks.length).length := by simp [trues]
    refine W.of (r := .nx) (by walk_at "ev" <;> exact rfl) (q (insK ks (min u v, max u v)) (insK_nodup h1) (insK_len _ _) ?_)
    intro z hz
    rcases PL.insK_mem hz with hz | rfl
    · exact h3 z hz
    · simp only []
      omega
theorem digOk.nn {ds sz : List Int} (h : digOk ds sz ds.length) : ∀ d ∈ ds, 0 ≤ d := by
  intro d hd
  obtain ⟨k, hk, rfl⟩ := List.getElem_of_mem hd
  have := (h k hk).1
  rwa [at'_nat hk] at this
theorem prsO_app (a b : List (Int × Int)) : prsO a ++ prsO b = prsO (a ++ b) := by simp [prsO]
theorem ints_map {α : Type} (g : α → Int) (xs : List α) : (xs.map fun a => OT.d (.int (g a))) = intsO (xs.map g) := by simp [intsO]
theorem web_ok (c salt : Int) (hs : 0 ≤ salt ∧ salt ≤ 1000000) (most : Int) (m1 : 1 ≤ most) (m2 : most ≤ 40) (more : Nat) (h3 : more ≤ 60) (loose : Bool) : ∃ w : Wb, SQ.m__law_web [.int c, .int salt, .int most, .int more, .bool loose] = some (wbO w) ∧ WbOk w ∧ (w.1 : Int) ≤ most := by
  obtain ⟨d0, e0, l0, g0⟩ := numbers_ok c salt hs [most] (by simp) (by intro s hs; simp at hs; omega)
  obtain ⟨d, rfl⟩ : ∃ d, d0 = [d] := List.length_eq_one_iff.mp l0
  have g0 := g0 0 (by simp)
  have g0 : 0 ≤ d ∧ d < most := g0
  simp only [List.map_cons, List.map_nil] at e0
  obtain ⟨n, hn⟩ : ∃ n : Nat, 1 + d = (n : Int) := ⟨(1 + d).toNat, by omega⟩
  have n1 : 1 ≤ n := by omega
  have n2 : n ≤ 40 := by omega
  have hn1 : (n : Int) - 1 = ((n - 1 : Nat) : Int) := by omega
  obtain ⟨ds, e1, l1, g1⟩ := numbers_ok c salt hs (szs n most more) (by rw [szs_len n n1]; omega) (szs_pos n n1 n2 most m1 m2 more h3)
  rw [szs_len n n1] at l1 g1
  have c1 := rg1_n (n := n - 1) (by omega)
  have c2 := rg1_n (n := n) (by omega)
  rw [rgD0] at c1 c2
  obtain ⟨r, e, w, rfl, h1, h2⟩ := fin_w (P := fun x => ∃ w : Wb, x = wbO w ∧ WbOk w ∧ (w.1 : Int) ≤ most) (B := B__law_web) (ρ := ini [.int c, .int salt, .int most, .int more, .bool loose] 10) (by
    unfold B__law_web
    refine w_st (by walk_at "ev" <;> exact rfl) ?_
    refine w_seq (w_asg (w_yOp (w_dY (w_yOp (w_dYof (r := .nd .lst (intsO [most, more + 1])) (by walk_at "ev" <;> exact rfl) (toD_ints _) (w_dY (w_lcmT (fun k : Nat => OT.d (.int ((k : Int) + 1))) (as := List.range (n - 1)) (enc := fun k : Nat => PyData.int (k : Int)) (by walk_at "ev" <;> exact rfl) rfl (by simp; omega) (fun k hk => ?_) ?_)))))))
    · refine W.of (by walk_at "ev" <;> exact rfl) ?_
      exact ⟨rfl, rfl⟩
    rw [ints_map]
    refine ⟨_, toD_ints _, _, GCat_ints (by simp; omega), _, toD_ints _, ?_⟩
    simp only [wipeE, rst, List.getElem?_cons_zero, List.getElem?_cons_succ, List.set_cons_zero, List.set_cons_succ]
    refine w_dY (w_lcmT (fun k : Nat => OT.d (.int ((n : Int) - (k : Int)))) (as := List.range n) (enc := fun k : Nat => PyData.int (k : Int)) (by walk_at "ev" <;> exact rfl) rfl (by simp; omega) (fun k hk => ?_) ?_)
    · refine W.of (by walk_at "ev" <;> exact rfl) ?_
      exact ⟨rfl, rfl⟩
    rw [ints_map]
    refine ⟨_, toD_ints _, _, GCat_ints (by simp; omega), ?_⟩
    simp only [sqK, wipeE, rst, List.getElem?_cons_zero, List.getElem?_cons_succ, List.set_cons_zero, List.set_cons_succ]
    rw [show [most, (more : Int) + 1] ++ (List.range (n - 1)).map (fun (k : Nat) => (k : Int) + 1) ++ (List.range n).map (fun (k : Nat) => (n : Int) - (k : Int)) = szA n most more from rfl]
    have la := szA_len n n1 most more
    have es : szs n most more = szA n most more ++ List.replicate more ((n : Int) * n) ++ List.replicate (n - 1) 3 := rfl
    have k1 := toD_ints (szA n most more)
    have mn : ((-(2 ^ 64) : Int) < (n : Int) ∧ (n : Int) < 2 ^ 64) := by omega
    refine w_seq (w_asg (w_yCall ?_))
    rw [es] at e1
    clear es
    generalize szA n most more = A at *
    have r1 : List.replicate more (PyData.int ((n : Int) * n)) = (List.replicate more ((n : Int) * n)).map .int := by rw [List.map_replicate]
    have r2 : List.replicate (n - 1) (PyData.int 3) = (List.replicate (n - 1) (3 : Int)).map .int := by rw [List.map_replicate]
    refine w_lCons (W.of (by walk_at "ev" <;> exact rfl) ?_)
    refine w_lCons (W.of (by walk_at "ev" <;> exact rfl) ?_)
    refine w_lCons (w_dY (w_yOp (w_dY (w_yOp ?_))))
    refine W.of (by walk_at "ev" <;> exact rfl) ?_
    refine w_dYof (yRep_one (k := more) (x := .int ((n : Int) * n)) (by walk_at "ev" <;> exact rfl) (by walk_at "ev" <;> exact rfl) (by omega)) (toD_lstO _) ?_
    rw [r1]
    refine ⟨_, GCat_ints (by simp; omega), _, toD_ints _, ?_⟩
    refine w_dYof (yRep_one (k := n - 1) (x := .int 3) (by walk_at "ev" <;> exact rfl) (by walk_at "ev" <;> exact rfl) (by omega)) (toD_lstO _) ?_
    rw [r2]
    refine ⟨_, GCat_ints (by simp; omega), _, toD_ints _, ?_⟩
    refine w_lNil ⟨rfl, _, e1, ?_⟩
    clear r1 r2 e1
    simp only [sqK, List.getElem?_cons_zero, List.getElem?_cons_succ, List.set_cons_zero, List.set_cons_succ]
    clear k1
    generalize PyData.list (A.map .int) = S6
    clear la A c1 e0 l0
    have b1 : (n : Int) + 1 = ((n + 1 : Nat) : Int) := by omega
    have b2 : 2 * (n : Int) + 1 = ((2 * n + 1 : Nat) : Int) := by omega
    have two : ((-(2 ^ 64) : Int) < 2 ∧ (2 : Int) < 2 ^ 64) := by decide
    have k1 := cut_mid ds (a := n + 1) (b := 2 * n + 1) (by omega) (by omega)
    have nn : ∀ d ∈ ds, 0 ≤ d := digOk.nn (sz := szs n most more) (by rw [l1]; exact g1)
    obtain ⟨os, e2, ho⟩ := order_ok (ds := (ds.drop (n + 1)).take (2 * n + 1 - (n + 1))) (by simp; omega) (fun d hd => nn d (List.mem_of_mem_drop (List.mem_of_mem_take hd)))
    rw [show ((ds.drop (n + 1)).take (2 * n + 1 - (n + 1))).length = n by simp; omega] at ho
    generalize (ds.drop (n + 1)).take (2 * n + 1 - (n + 1)) = O at *
    refine w_st (by walk_at "ev" <;> exact rfl) ?_
    clear k1 e2 b1
    have c1 := rg1_n (n := n - 1) (by omega)
    rw [rgD0] at c1
    refine w_seq (w_asg (w_lcfT (fun k : Nat => (cB (!loose || decide (0 < at' ds ((ds.length - 1 - k : Nat) : Int))) ((k : Int) + 1, at' ds ((2 + k : Nat) : Int))).map fun p => OT.nd .tup [.d (.int p.1), .d (.int p.2)]) (as := List.range (n - 1)) (enc := fun k : Nat => PyData.int (k : Int)) (by walk_at "ev" <;> exact rfl) rfl (by simp; omega) (fun k hk => ?_) ?_))
    · have hk := List.mem_range.mp hk
      have e3 := atI_neg (os := ds) (k := k) (by omega)
      have b3 : (2 : Int) + (k : Int) = ((2 + k : Nat) : Int) := by omega
      have e4 := atI_os (os := ds) (a := ((2 + k : Nat) : Int)) (by omega) (by omega)
      generalize at' ds ((ds.length - 1 - k : Nat) : Int) = x at *
      generalize at' ds ((2 + k : Nat) : Int) = y at *
      cases loose with
      | false =>
        refine W.of (by walk_at "ev" <;> exact rfl) ?_
        exact ⟨rfl, rfl⟩
      | true =>
        by_cases hx : 0 < x
        · have hx' : decide (0 < x) = true := decide_eq_true hx
          rw [hx']
          refine W.of (by walk_at "ev" <;> exact rfl) ?_
          exact ⟨rfl, rfl⟩
        · have hx' : decide (0 < x) = false := decide_eq_false hx
          rw [hx']
          refine W.of (by walk_at "ev" <;> exact rfl) ?_
          exact ⟨rfl, rfl⟩
    rw [prs_fm]
    have hq : ∀ p ∈ (List.range (n - 1)).filterMap (fun k : Nat => cB (!loose || decide (0 < at' ds ((ds.length - 1 - k : Nat) : Int))) ((k : Int) + 1, at' ds ((2 + k : Nat) : Int))), 0 ≤ p.1 ∧ p.1 < (n : Int) ∧ 0 ≤ p.2 ∧ p.2 < (n : Int) := by
      intro p hp
      obtain ⟨k, hk, e⟩ := List.mem_filterMap.mp hp
      have hk := List.mem_range.mp hk
      unfold cB at e
      split at e
      · cases e
        have := g1 (2 + k) (by omega)
        rw [szs_2 hk] at this
        exact ⟨by simp only []; omega, by simp only []; omega, this.1, by simp only []; omega⟩
      · cases e
    have lq := List.length_filterMap_le (fun k : Nat => cB (!loose || decide (0 < at' ds ((ds.length - 1 - k : Nat) : Int))) ((k : Int) + 1, at' ds ((2 + k : Nat) : Int))) (List.range (n - 1))
    rw [List.length_range] at lq
    generalize (List.range (n - 1)).filterMap (fun k : Nat => cB (!loose || decide (0 < at' ds ((ds.length - 1 - k : Nat) : Int))) ((k : Int) + 1, at' ds ((2 + k : Nat) : Int))) = qs at *
    simp only [sqK, wipeE, rst, List.getElem?_cons_zero, List.getElem?_cons_succ, List.set_cons_zero, List.set_cons_succ]
    have d1 := g1 1 (by omega)
    rw [szs_1] at d1
    obtain ⟨j, hj⟩ : ∃ j : Nat, at' ds ((1 : Nat) : Int) = (j : Int) := ⟨(at' ds ((1 : Nat) : Int)).toNat, by omega⟩
    have e3 : atI (ds.map PyData.int) 1 = some (.int (j : Nat)) := by
      have := atI_os (os := ds) (a := 1) (by omega) (by omega)
      rw [this]; congr 2
    have b4 : ((2 * n + 1 : Nat) : Int) + (j : Int) = ((2 * n + 1 + j : Nat) : Int) := by omega
    have k2 := cut_mid ds (a := 2 * n + 1) (b := 2 * n + 1 + j) (by omega) (by omega)
    have hU : ∀ d ∈ (ds.drop (2 * n + 1)).take (2 * n + 1 + j - (2 * n + 1)), 0 ≤ d ∧ d < (n : Int) * n := by
      intro d hd
      obtain ⟨k, hk, rfl⟩ := List.getElem_of_mem hd
      have hk' : k < j := by simp at hk; omega
      have := g1 (2 * n + 1 + k) (by omega)
      rw [szs_3 n1 (by omega), at'_nat (by omega)] at this
      simpa using this
    have lU : ((ds.drop (2 * n + 1)).take (2 * n + 1 + j - (2 * n + 1))).length = j := by simp; omega
    generalize (ds.drop (2 * n + 1)).take (2 * n + 1 + j - (2 * n + 1)) = U at *
    have pn : (0 : Int) < (n : Int) ∧ (n : Int) < 1073741824 := by omega
    refine w_seq (w_ext rfl (w_lcmT (fun d : Int => OT.nd .tup [.d (.int (d / (n : Int))), .d (.int (d % (n : Int)))]) (as := U) (enc := PyData.int) (by walk_at "ev" <;> exact rfl) rfl (by omega) (fun d hd => ?_) ?_))
    · refine W.of (by walk_at "ev" <;> exact rfl) ?_
      exact ⟨rfl, rfl⟩
    refine ⟨_, _, rfl, rfl, by rw [prsO_len, List.length_map]; omega, ?_⟩
    have us : U.map (fun d : Int => OT.nd .tup [.d (.int (d / (n : Int))), .d (.int (d % (n : Int)))]) = prsO (U.map fun d => (d / (n : Int), d % (n : Int))) := by simp [prsO]
    rw [us, prsO_app]
    have hq2 : ∀ p ∈ qs ++ U.map (fun d => (d / (n : Int), d % (n : Int))), 0 ≤ p.1 ∧ p.1 < (n : Int) ∧ 0 ≤ p.2 ∧ p.2 < (n : Int) := by
      intro p hp
      rcases List.mem_append.mp hp with hp | hp
      · exact hq p hp
      · obtain ⟨d, hd, rfl⟩ := List.mem_map.mp hp
        have := hU d hd
        exact ⟨Int.ediv_nonneg this.1 (by omega), Int.ediv_lt_of_lt_mul (by omega) this.2, Int.emod_nonneg _ (by omega), Int.emod_lt_of_pos _ (by omega)⟩
    have lq2 : (qs ++ U.map (fun d => (d / (n : Int), d % (n : Int)))).length ≤ 120 := by simp; omega
    generalize qs ++ U.map (fun d => (d / (n : Int), d % (n : Int))) = ps at *
    clear us hU lU k2 b4 e3 hj d1 lq hq
    simp only [sqK, wipeE, rst, List.getElem?_cons_zero, List.getElem?_cons_succ, List.set_cons_zero, List.set_cons_succ]
    refine w_st (by walk_at "ev" <;> exact rfl) ?_
    refine w_seq (w_forT (fun i ρ => ∃ (ks : List (Int × Int)) (Z W : OT), ρ = [.d (.int c), .d (.int salt), .d (.int most), .d (.int more), .d (.bool loose), .d (.int n), .d S6, .no, .nd .lst (intsO ds), .nd .lst (intsO os), .d (.list (ps.map pairD)), .no, .nd (.dT (ks.map kO)) (trues ks.length), Z, W] ∧ ks.Nodup ∧ ks.length ≤ i ∧ ∀ p ∈ ks, 0 ≤ p.1 ∧ p.1 < p.2 ∧ p.2 < (n : Int)) (as := ps) (enc := pairD) (by walk_at "ev" <;> exact rfl) ⟨[], _, _, rfl, by simp, by simp, by simp⟩ (fun i p ρ2 hp hs => ?_) ?_)
    · obtain ⟨ks, Z, W, rfl, f1, f2, f3⟩ := hs
      have hp2 := hq2 p (List.mem_of_getElem? hp)
      have hi : i < ps.length := (List.getElem?_eq_some_iff.mp hp).1
      apply exw
      · simp only [pairD]
        walk_at "ev" <;> exact rfl
      refine ties_step ho hp2.1 hp2.2.1 hp2.2.2.1 hp2.2.2.2 f1 (by omega) f3 fun ks' f1 f2 f3 => ?_
      exact ⟨ks', _, _, rfl, f1, by omega, f3⟩
    · rintro ρ2 ⟨ks, Z, W, rfl, f1, f2, f3⟩
      have x1 := trues_all ks.length
      have x2 := asKeyPs_map ks
      have x3 : (ks.map kO).length = (trues ks.length).length := by simp [trues]
      refine w_end (by walk_at "ev" <;> exact rfl) rfl ⟨(n, srtL ks), rfl, ⟨⟨fun p hp => f3 p (srtL_mem.mp hp), srtL_lex ks, srtL_nodup f1⟩, n1, n2, by simp only [srtL_len]; omega⟩, by simp only []; omega⟩)
  exact ⟨w, e, h1, h2⟩
end SQ
namespace SH
open PySem L2 PL MR
local macro_rules | `(tactic| walk_at "ev") => `(tactic| simp (config := {decide := true}) only [ini, fin, finI, sSeq, sNext, sAsg, sAsgG, sRet, sRetN, sDrop, sIf, sNever, sSetP, sAppP, sClrP, sRevP, fR, pmVar, pmIx, pmIxT, MR.putAt, OT.put, OT.at, gmName, gmTup, gmLst, gsNil, gsCons, rVar, rC, rOp, rUn, rCb, rCbZ, rOpZ, rCall, rAnd, rOr, rNot, rIf, rIs, rCh, rCh3, rTup, rLst, rSl, cNone, cSome, rRepr, dRepr, rInDct, rIdx, small, qNil, qCons, qApp, lApp, bR, bAnd, bOr, bNot, tR, tD, tmAnd, tmOr, tmNot, yVar_eq, yMov, yR, yAuto, dY, yD, dR, dOp, dOpR, dCb, dAnd, dOr, dNot, yCall, yCallA, yCallI, yCallIT, yCb, yCbA, yOp, yOpA, lfO, yTup, yLst, oNil, oCons, isNo, lNil, lCons, asB, asInt, asL, asT, iL, iT, iE, iZ, iV, yRng1_eq, iR1_eq, iR2_eq, lcStep, calmAt, wipeE, rst, sApp, yPop_eq, sDPutM, ySortD, yDNew, gmName, toD_d, toD_tup, toD_lst, toDs_nil, toDs_cons, toDs_ints, toDs_fpr, toDs_prs, lfs_ints, lfs_fpr, intsO_len, prsO_len, fprO_len, rng_len, intsO_snoc, prsO_snoc, lstO_rg, rOpZ, rCbZ, isNo_lstO, toD_dnew, ySl, ySlA, neS_self, eqS_self,  rRevL, yRevL, yRevLA, yPop0, sExt, gStrI,  lstO_prs, lstO_ints, toD_lstO, kp_int, kp_bool, kp_tuple, kp_list, kp_str, isIntB, isBoolB, isTupB, isListB, isStrB, gAdd_i, gSub_i, gLt_i, gLe_i, gGt_i, gGe_i, gMul_r, gMul_l, gMod_i, gDiv_i, gPow_i, gNeg, gEqI, gNeI, gEqS, gNeS, gIsN, gNotN, gIsB, gNotB, gIxL, gIxT, gLen, gMax2, gMin2, gInt, gAll, asBools_map, isN, OT.lf, OT.lfs, flat, atI_0, atI_1, ixN_0, ixN_1, rgD_len, enumD_len, trues_len, Int.toNat_natCast, List.length_map, eq_self, Option.bind_some, Option.bind_none, Option.map_some, Option.map_none, List.getElem?_cons_zero, List.getElem?_cons_succ, List.set_cons_zero, List.set_cons_succ, List.map_cons, List.map_nil, List.replicate, List.nil_append, List.cons_append, List.length_cons, List.length_nil, List.all_cons, List.all_nil, if_true, if_false, reduceIte, tfl_int, tfl_bool, tfl_none, tfl_str, tfl_list, Bool.true_and, Bool.and_true, Bool.false_and, Bool.and_false, Bool.true_or, Bool.or_true, Bool.false_or, Bool.or_false, Bool.not_true, Bool.not_false, Bool.false_eq_true, decide_true, decide_false, true_and, and_true, false_and, and_false, or_true, true_or, *])
/-! ### who is beside whom -/
/-! ties of a product -/
def cntF (s : Int × Int) (w : Wb) : Int × Int := (s.1 * (w.1 : Int), s.2 * (w.1 : Int) + s.1 * (w.2.length : Nat))
def tiesN (ws : List Wb) : Int := (ws.foldl cntF (1, 0)).2
/-! whether rows are tied -/
def wbAt (ws : List Wb) (k : Nat) : Wb := ws.getD k (1, [])
/-! rows beside -/
theorem at'_zero (p : Int) (r : List Int) : at' (p :: r) ((0 : Nat) : Int) = p := rfl
theorem at'_succ (p : Int) (r : List Int) (i : Nat) : at' (p :: r) ((i + 1 : Nat) : Int) = at' r (i : Nat) := by
  unfold at'
  rw [show (((i + 1 : Nat) : Int)).toNat = i + 1 by omega, show ((i : Nat) : Int).toNat = i by omega]
  rfl
theorem RowOk.at : ∀ {ws : List Wb} {r : List Int}, RowOk ws r → ∀ {i : Nat}, i < ws.length → 0 ≤ at' r (i : Nat) ∧ at' r (i : Nat) < ((wbAt ws i).1 : Int)
  | w :: ws, p :: r, h, 0, _ => by
    rw [at'_zero]
    exact h.1
  | w :: ws, p :: r, h, i + 1, hi => by
    rw [at'_succ]
    exact RowOk.at (ws := ws) h.2 (by simpa using hi)
theorem RowOk.set : ∀ {ws : List Wb} {r : List Int} {i : Nat} {q : Int}, RowOk ws r → 0 ≤ q → q < ((wbAt ws i).1 : Int) → RowOk ws (r.set i q)
  | [], [], i, q, _, _, _ => trivial
  | w :: ws, p :: r, 0, q, h, h0, h1 => ⟨⟨h0, h1⟩, h.2⟩
  | w :: ws, p :: r, i + 1, q, h, h0, h1 => ⟨h.1, RowOk.set h.2 h0 h1⟩
end SH
namespace SH
open PySem L2 PL MR
local macro_rules | `(tactic| walk_at "ev") => `(tactic| simp (config := {decide := true}) only [ini, fin, finI, sSeq, sNext, sAsg, sAsgG, sRet, sRetN, sDrop, sIf, sNever, sSetP, sAppP, sClrP, sRevP, fR, pmVar, pmIx, pmIxT, MR.putAt, OT.put, OT.at, gmName, gmTup, gmLst, gsNil, gsCons, rVar, rC, rOp, rUn, rCb, rCbZ, rOpZ, rCall, rAnd, rOr, rNot, rIf, rIs, rCh, rCh3, rTup, rLst, rSl, cNone, cSome, rRepr, dRepr, rInDct, rIdx, small, qNil, qCons, qApp, lApp, bR, bAnd, bOr, bNot, tR, tD, tmAnd, tmOr, tmNot, yVar_eq, yMov, yR, yAuto, dY, yD, dR, dOp, dOpR, dCb, dAnd, dOr, dNot, yCall, yCallA, yCallI, yCallIT, yCb, yCbA, yOp, yOpA, lfO, yTup, yLst, oNil, oCons, isNo, lNil, lCons, asB, asInt, asL, asT, iL, iT, iE, iZ, iV, yRng1_eq, iR1_eq, iR2_eq, lcStep, calmAt, wipeE, rst, sApp, yPop_eq, sDPutM, ySortD, yDNew, gmName, toD_d, toD_tup, toD_lst, toDs_nil, toDs_cons, toDs_ints, toDs_fpr, toDs_prs, lfs_ints, lfs_fpr, intsO_len, prsO_len, fprO_len, rng_len, intsO_snoc, prsO_snoc, lstO_rg, rOpZ, rCbZ, isNo_lstO, toD_dnew, ySl, ySlA, neS_self, eqS_self,  rRevL, yRevL, yRevLA, yPop0, sExt, gStrI,  lstO_prs, lstO_ints, toD_lstO, kp_int, kp_bool, kp_tuple, kp_list, kp_str, isIntB, isBoolB, isTupB, isListB, isStrB, gAdd_i, gSub_i, gLt_i, gLe_i, gGt_i, gGe_i, gMul_r, gMul_l, gMod_i, gDiv_i, gPow_i, gNeg, gEqI, gNeI, gEqS, gNeS, gIsN, gNotN, gIsB, gNotB, gIxL, gIxT, gLen, gMax2, gMin2, gInt, gAll, asBools_map, isN, OT.lf, OT.lfs, flat, atI_0, atI_1, ixN_0, ixN_1, rgD_len, enumD_len, trues_len, Int.toNat_natCast, List.length_map, eq_self, Option.bind_some, Option.bind_none, Option.map_some, Option.map_none, List.getElem?_cons_zero, List.getElem?_cons_succ, List.set_cons_zero, List.set_cons_succ, List.map_cons, List.map_nil, List.replicate, List.nil_append, List.cons_append, List.length_cons, List.length_nil, List.all_cons, List.all_nil, if_true, if_false, reduceIte, tfl_int, tfl_bool, tfl_none, tfl_str, tfl_list, Bool.true_and, Bool.and_true, Bool.false_and, Bool.and_false, Bool.true_or, Bool.or_true, Bool.false_or, Bool.or_false, Bool.not_true, Bool.not_false, Bool.false_eq_true, decide_true, decide_false, true_and, and_true, false_and, and_false, or_true, true_or, *])
theorem nice_wb {w : Wb} (k : WbOk w) : Nice (wbD w) 3 400 :=
  (nice_tup2 (k := 2) ((nice_int (by have := k.hi; omega)).up (by omega) (by omega : 0 ≤ 0)) (nice_list (f := pairD) (k := 1) (b := 2) (n := 120) (fun p hp => nice_pr (by have := k.ok.in' p hp; have := k.hi; omega)) k.len)).up (by omega) (by omega)
theorem RowOk.mem : ∀ {ws : List Wb} {r : List Int}, (∀ w ∈ ws, WbOk w) → RowOk ws r → ∀ x ∈ r, 0 ≤ x ∧ x < 40
  | [], [], _, _, x, hx => by cases hx
  | w :: ws, p :: r, h, k, x, hx => by
    have b := (h w List.mem_cons_self).hi
    rcases List.mem_cons.mp hx with rfl | hx
    · have := k.1; omega
    · exact RowOk.mem (fun v hv => h v (List.mem_cons_of_mem _ hv)) k.2 x hx
theorem neD_nil {xs : List D} (h : SeqAt.shaped (.list xs) = true) : gNeD (.list xs) (.list []) = some (.bool (!xs.isEmpty)) := by
  unfold gNeD
  rw [h, shaped_nil]
  cases xs <;> simp [PyData.eqv, PyData.eqvAll]
theorem cut_map {α : Type} {f : α → D} (xs : List α) (lo hi : Option Int) : ∃ ys : List α, cutD (xs.map f) lo hi = ys.map f ∧ (∀ y ∈ ys, y ∈ xs) ∧ ys.length ≤ xs.length := by
  unfold cutD
  refine ⟨(xs.drop (HT.sIx (xs.map f).length 0 lo)).take (HT.sIx (xs.map f).length (xs.map f).length hi - HT.sIx (xs.map f).length 0 lo), ?_, fun y hy => List.mem_of_mem_drop (List.mem_of_mem_take hy), ?_⟩
  · rw [List.map_take, List.map_drop]
  · rw [List.length_take, List.length_drop]; omega
/-! sums and products over the first numbers -/
end SH
namespace SH
open PySem L2 PL MR
/-! ### rows beside: unlike, rising, tied -/
/-! tied just where beside -/
end SH
namespace SH
open PySem L2 PL MR
/-! ### products of webs -/
theorem dm {t k w : Int} (h0 : 0 ≤ k) (h1 : k < w) : (t * w + k) / w = t ∧ (t * w + k) % w = k := by
  constructor
  · rw [Int.add_comm, Int.add_mul_ediv_right _ _ (by omega), Int.ediv_eq_zero_of_lt h0 h1, Int.zero_add]
  · rw [Int.add_comm, Int.add_mul_emod_self_right]; exact Int.emod_eq_of_lt h0 h1
theorem dm_back (x : Int) {w : Int} (h : 0 < w) : x = x / w * w + x % w ∧ 0 ≤ x % w ∧ x % w < w := ⟨by rw [Int.mul_comm]; exact (Int.mul_ediv_add_emod x w).symm, Int.emod_nonneg _ (by omega), Int.emod_lt_of_pos _ h⟩
theorem dd (x : Int) {v w : Int} (hv : 0 < v) (hw : 0 < w) : x / w / v = x / (v * w) ∧ x / w % v = x % (v * w) / w ∧ x % w = x % (v * w) % w := by
  have e1 : x / w / v = x / (v * w) := by rw [Int.mul_comm, Int.ediv_ediv_of_nonneg (by omega)]
  have d1 := dm_back x hw
  have d2 := dm_back (x / w) hv
  have hvw : 0 < v * w := Int.mul_pos hv hw
  have d3 := dm_back x hvw
  have e2 : x % (v * w) = x / w % v * w + x % w := by
    have : x = x / (v * w) * (v * w) + (x / w % v * w + x % w) := by
      rw [← e1]
      calc x = x / w * w + x % w := d1.1
        _ = (x / w / v * v + x / w % v) * w + x % w := by rw [← d2.1]
        _ = x / w / v * (v * w) + (x / w % v * w + x % w) := by rw [Int.add_mul, Int.mul_assoc, Int.add_assoc]
    omega
  have d4 := dm (t := x / w % v) d1.2.1 d1.2.2
  rw [e2, d4.1, d4.2]
  exact ⟨e1, rfl, rfl⟩
/-! how many places and ties -/
/-! the product is tied where the rows are -/
end SH
namespace SH
open PySem L2 PL MR
local macro_rules | `(tactic| walk_at "ev") => `(tactic| simp (config := {decide := true}) only [ini, fin, finI, sSeq, sNext, sAsg, sAsgG, sRet, sRetN, sDrop, sIf, sNever, sSetP, sAppP, sClrP, sRevP, fR, pmVar, pmIx, pmIxT, MR.putAt, OT.put, OT.at, gmName, gmTup, gmLst, gsNil, gsCons, rVar, rC, rOp, rUn, rCb, rCbZ, rOpZ, rCall, rAnd, rOr, rNot, rIf, rIs, rCh, rCh3, rTup, rLst, rSl, cNone, cSome, rRepr, dRepr, rInDct, rIdx, small, qNil, qCons, qApp, lApp, bR, bAnd, bOr, bNot, tR, tD, tmAnd, tmOr, tmNot, yVar_eq, yMov, yR, yAuto, dY, yD, dR, dOp, dOpR, dCb, dAnd, dOr, dNot, yCall, yCallA, yCallI, yCallIT, yCb, yCbA, yOp, yOpA, lfO, yTup, yLst, oNil, oCons, isNo, lNil, lCons, asB, asInt, asL, asT, iL, iT, iE, iZ, iV, yRng1_eq, iR1_eq, iR2_eq, lcStep, calmAt, wipeE, rst, sApp, yPop_eq, sDPutM, ySortD, yDNew, gmName, toD_d, toD_tup, toD_lst, toDs_nil, toDs_cons, toDs_ints, toDs_fpr, toDs_prs, lfs_ints, lfs_fpr, intsO_len, prsO_len, fprO_len, rng_len, intsO_snoc, prsO_snoc, lstO_rg, rOpZ, rCbZ, isNo_lstO, toD_dnew, ySl, ySlA, neS_self, eqS_self,  rRevL, yRevL, yRevLA, yPop0, sExt, gStrI,  lstO_prs, lstO_ints, toD_lstO, kp_int, kp_bool, kp_tuple, kp_list, kp_str, isIntB, isBoolB, isTupB, isListB, isStrB, gAdd_i, gSub_i, gLt_i, gLe_i, gGt_i, gGe_i, gMul_r, gMul_l, gMod_i, gDiv_i, gPow_i, gNeg, gEqI, gNeI, gEqS, gNeS, gIsN, gNotN, gIsB, gNotB, gIxL, gIxT, gLen, gMax2, gMin2, gInt, gAll, asBools_map, isN, OT.lf, OT.lfs, flat, atI_0, atI_1, ixN_0, ixN_1, rgD_len, enumD_len, trues_len, Int.toNat_natCast, List.length_map, eq_self, Option.bind_some, Option.bind_none, Option.map_some, Option.map_none, List.getElem?_cons_zero, List.getElem?_cons_succ, List.set_cons_zero, List.set_cons_succ, List.map_cons, List.map_nil, List.replicate, List.nil_append, List.cons_append, List.length_cons, List.length_nil, List.all_cons, List.all_nil, if_true, if_false, reduceIte, tfl_int, tfl_bool, tfl_none, tfl_str, tfl_list, Bool.true_and, Bool.and_true, Bool.false_and, Bool.and_false, Bool.true_or, Bool.or_true, Bool.false_or, Bool.or_false, Bool.not_true, Bool.not_false, Bool.false_eq_true, decide_true, decide_false, true_and, and_true, false_and, and_false, or_true, true_or, *])
end SH
namespace SH
open PySem L2 PL MR
local macro_rules | `(tactic| walk_at "ev") => `(tactic| simp (config := {decide := true}) only [ini, fin, finI, sSeq, sNext, sAsg, sAsgG, sRet, sRetN, sDrop, sIf, sNever, sSetP, sAppP, sClrP, sRevP, fR, pmVar, pmIx, pmIxT, MR.putAt, OT.put, OT.at, gmName, gmTup, gmLst, gsNil, gsCons, rVar, rC, rOp, rUn, rCb, rCbZ, rOpZ, rCall, rAnd, rOr, rNot, rIf, rIs, rCh, rCh3, rTup, rLst, rSl, cNone, cSome, rRepr, dRepr, rInDct, rIdx, small, qNil, qCons, qApp, lApp, bR, bAnd, bOr, bNot, tR, tD, tmAnd, tmOr, tmNot, yVar_eq, yMov, yR, yAuto, dY, yD, dR, dOp, dOpR, dCb, dAnd, dOr, dNot, yCall, yCallA, yCallI, yCallIT, yCb, yCbA, yOp, yOpA, lfO, yTup, yLst, oNil, oCons, isNo, lNil, lCons, asB, asInt, asL, asT, iL, iT, iE, iZ, iV, yRng1_eq, iR1_eq, iR2_eq, lcStep, calmAt, wipeE, rst, sApp, yPop_eq, sDPutM, ySortD, yDNew, gmName, toD_d, toD_tup, toD_lst, toDs_nil, toDs_cons, toDs_ints, toDs_fpr, toDs_prs, lfs_ints, lfs_fpr, intsO_len, prsO_len, fprO_len, rng_len, intsO_snoc, prsO_snoc, lstO_rg, rOpZ, rCbZ, isNo_lstO, toD_dnew, ySl, ySlA, neS_self, eqS_self,  rRevL, yRevL, yRevLA, yPop0, sExt, gStrI,  lstO_prs, lstO_ints, toD_lstO, kp_int, kp_bool, kp_tuple, kp_list, kp_str, isIntB, isBoolB, isTupB, isListB, isStrB, gAdd_i, gSub_i, gLt_i, gLe_i, gGt_i, gGe_i, gMul_r, gMul_l, gMod_i, gDiv_i, gPow_i, gNeg, gEqI, gNeI, gEqS, gNeS, gIsN, gNotN, gIsB, gNotB, gIxL, gIxT, gLen, gMax2, gMin2, gInt, gAll, asBools_map, isN, OT.lf, OT.lfs, flat, atI_0, atI_1, ixN_0, ixN_1, rgD_len, enumD_len, trues_len, Int.toNat_natCast, List.length_map, eq_self, Option.bind_some, Option.bind_none, Option.map_some, Option.map_none, List.getElem?_cons_zero, List.getElem?_cons_succ, List.set_cons_zero, List.set_cons_succ, List.map_cons, List.map_nil, List.replicate, List.nil_append, List.cons_append, List.length_cons, List.length_nil, List.all_cons, List.all_nil, if_true, if_false, reduceIte, tfl_int, tfl_bool, tfl_none, tfl_str, tfl_list, Bool.true_and, Bool.and_true, Bool.false_and, Bool.and_false, Bool.true_or, Bool.or_true, Bool.false_or, Bool.or_false, Bool.not_true, Bool.not_false, Bool.false_eq_true, decide_true, decide_false, true_and, and_true, false_and, and_false, or_true, true_or, *])
theorem lf_wbO (w : Wb) : (wbO w).lf = true := by
  have := lfs_fpr w.2
  simp [wbO, OT.lf, OT.lfs, tfl_int, this]
/-! numbers of rows of parts -/
end SH
namespace SQ
open PySem L2 PL MR SH
local macro_rules | `(tactic| walk_at "ev") => `(tactic| simp (config := {decide := true}) only [ini, fin, finI, sSeq, sNext, sAsg, sAsgG, sRet, sRetN, sDrop, sIf, sNever, sSetP, sAppP, sClrP, sRevP, fR, pmVar, pmIx, pmIxT, MR.putAt, OT.put, OT.at, gmName, gmTup, gmLst, gsNil, gsCons, rVar, rC, rOp, rUn, rCb, rCbZ, rOpZ, rCall, rAnd, rOr, rNot, rIf, rIs, rCh, rCh3, rTup, rLst, rSl, cNone, cSome, rRepr, dRepr, rInDct, rIdx, rIdxD, iR3s, small, qNil, qCons, qApp, lApp, bR, bAnd, bOr, bNot, tR, tD, tmAnd, tmOr, tmNot, yVar_eq, yMov, yR, yAuto, dY, yD, dR, dOp, dOpR, dCb, dAnd, dOr, dNot, yCall, yCallA, yCallI, yCallIT, yCb, yCbA, yOp, yOpA, lfO, yTup, yLst, oNil, oCons, isNo, lNil, lCons, asB, asInt, asL, asT, iL, iT, iE, iZ, iV, yRng1_eq, iR1_eq, iR2_eq, lcStep, calmAt, wipeE, rst, sApp, yPop_eq, sDPutM, ySortD, yDNew, gmName, toD_d, toD_tup, toD_lst, toDs_nil, toDs_cons, toDs_ints, toDs_fpr, toDs_prs, lfs_ints, lfs_fpr, intsO_len, prsO_len, fprO_len, rng_len, intsO_snoc, prsO_snoc, lstO_rg, rOpZ, rCbZ, isNo_lstO, toD_dnew, ySl, ySlA, neS_self, eqS_self,  rRevL, yRevL, yRevLA, yPop0, sExt, gStrI,  lstO_prs, lstO_ints, toD_lstO, kp_int, kp_bool, kp_tuple, kp_list, kp_str, isIntB, isBoolB, isTupB, isListB, isStrB, gAdd_i, gSub_i, gLt_i, gLe_i, gGt_i, gGe_i, gMul_r, gMul_l, gMod_i, gDiv_i, gPow_i, gNeg, gEqI, gNeI, gEqS, gNeS, gIsN, gNotN, gIsB, gNotB, gIxL, gIxT, gLen, gMax2, gMin2, gInt, gAll, asBools_map, isN, OT.lf, OT.lfs, flat, atI_0, atI_1, ixN_0, ixN_1, rgD_len, enumD_len, trues_len, Int.toNat_natCast, List.length_map, eq_self, Option.bind_some, Option.bind_none, Option.map_some, Option.map_none, List.getElem?_cons_zero, List.getElem?_cons_succ, List.set_cons_zero, List.set_cons_succ, List.map_cons, List.map_nil, List.replicate, List.nil_append, List.cons_append, List.length_cons, List.length_nil, List.all_cons, List.all_nil, if_true, if_false, reduceIte, tfl_int, tfl_bool, tfl_none, tfl_str, tfl_list, Bool.true_and, Bool.and_true, Bool.false_and, Bool.and_false, Bool.true_or, Bool.or_true, Bool.false_or, Bool.or_false, Bool.not_true, Bool.not_false, Bool.false_eq_true, decide_true, decide_false, true_and, and_true, false_and, and_false, or_true, true_or, *])
theorem fits_ok {ws : List Wb} (h : ∀ w ∈ ws, WbOk w) : SQ.m__law_fits [.list (ws.map wbD)] = some (.d (.bool (decide (rowsN ws ≤ 40) && decide (tiesN ws ≤ 120)))) := by
  unfold SQ.m__law_fits B__law_fits
  refine fin_eq ?_
  refine w_st (by walk_at "ev" <;> exact rfl) ?_
  refine w_st (by walk_at "ev" <;> exact rfl) ?_
  refine w_seq (w_foldT (fun (s : Int × Int) ρ => ∃ X Y, ρ = [.d (.list (ws.map wbD)), .d (.int s.1), .d (.int s.2), X, Y]) cntF (1, 0) (by walk_at "ev" <;> exact rfl) ⟨_, _, rfl⟩ (fun w hw s ρ2 hs => ?_) ?_)
  · obtain ⟨X, Y, rfl⟩ := hs
    have k := h w hw
    have c : -(2 ^ 64) < (w.1 : Int) ∧ (w.1 : Int) < 2 ^ 64 := by have := k.hi; omega
    have c2 : -(2 ^ 64) < (w.2.length : Int) ∧ (w.2.length : Int) < 2 ^ 64 := by have := k.len; omega
    have e : cntF s w = (s.1 * (w.1 : Int), s.2 * (w.1 : Int) + (w.2.length : Nat) * s.1) := by unfold cntF; rw [Int.mul_comm s.1 (w.2.length : Nat)]
    rw [e]
    simp only [wbD, WD]
    apply exw
    · walk_at "ev" <;> exact rfl
    refine w_st (by walk_at "ev" <;> exact rfl) ?_
    apply w_nx
    · walk_at "ev" <;> exact rfl
    exact ⟨_, _, rfl⟩
  · rintro ρ2 ⟨X, Y, rfl⟩
    have er : ∀ (ws : List Wb) (s : Int × Int), (ws.foldl cntF s).1 = ws.foldl (fun m w => m * (w.1 : Int)) s.1 := by
      intro ws
      induction ws with
      | nil => intro s; rfl
      | cons w ws ih => intro s; rw [List.foldl_cons, List.foldl_cons, ih]; rfl
    have e1 : (ws.foldl cntF (1, 0)).1 = rowsN ws := er ws (1, 0)
    have e2 : (ws.foldl cntF (1, 0)).2 = tiesN ws := rfl
    rw [e1, e2]
    generalize rowsN ws = a
    generalize tiesN ws = b
    by_cases ha : a ≤ 40
    · have ha' : decide (a ≤ 40) = true := decide_eq_true ha
      rw [ha']
      refine w_end (by walk_at "ev" <;> exact rfl) rfl rfl
    · have ha' : decide (a ≤ 40) = false := decide_eq_false ha
      rw [ha']
      refine w_end (by walk_at "ev" <;> exact rfl) rfl rfl
/-- webs as they are drawn -/
structure WsOk (ws : List Wb) : Prop where
  ok : ∀ w ∈ ws, WbOk w
  two : ∀ w ∈ ws, 2 ≤ w.1
  rows : rowsN ws ≤ 40
  ties : tiesN ws ≤ 120
  len : ws.length ≤ 5
theorem isNo_wbO (w : Wb) : isNo (wbO w) = false := rfl
theorem webs_ok (ns : List Int) (at0 : Nat) (ha : at0 ≤ 1000) (loose : Bool) : ∃ ws : List Wb, SQ.m__law_webs [.list (ns.map .int), .int at0, .bool loose] = some (.nd .lst (ws.map fun w => .d (wbD w))) ∧ WsOk ws := by
  obtain ⟨c5, e5⟩ := cell_at_ok ns (at0 + 5)
  obtain ⟨d0, e0, l0, g0⟩ := numbers_ok c5 (3 * (at0 : Int) + 1) (by omega) [4] (by simp) (by intro s hs; simp at hs; omega)
  obtain ⟨d, rfl⟩ : ∃ d, d0 = [d] := List.length_eq_one_iff.mp l0
  have g0 := g0 0 (by simp)
  have g0 : 0 ≤ d ∧ d < 4 := g0
  simp only [List.map_cons, List.map_nil] at e0
  have b5 : (at0 : Int) + 5 = ((at0 + 5 : Nat) : Int) := by omega
  have three : ((-(2 ^ 64) : Int) < 3 ∧ (3 : Int) < 2 ^ 64) := by decide
  obtain ⟨m, em, m1, m2⟩ : ∃ m : Int, atI [PyData.int 4, .int 6, .int 12, .int 40] d = some (.int m) ∧ 1 ≤ m ∧ m ≤ 40 := by
    have : d = 0 ∨ d = 1 ∨ d = 2 ∨ d = 3 := by omega
    rcases this with rfl | rfl | rfl | rfl
    · exact ⟨4, rfl, by omega, by omega⟩
    · exact ⟨6, rfl, by omega, by omega⟩
    · exact ⟨12, rfl, by omega, by omega⟩
    · exact ⟨40, rfl, by omega, by omega⟩
  have c1 : rg1 [.int 5] = some (rgD 0 5) := rg1_n (n := 5) (by omega)
  obtain ⟨r, e, ws, rfl, h1⟩ := fin_w (P := fun x => ∃ ws : List Wb, x = .nd .lst (ws.map fun w => .d (wbD w)) ∧ WsOk ws) (B := B__law_webs) (ρ := ini [.list (ns.map .int), .int at0, .bool loose] 4) (by
    unfold B__law_webs
    refine w_st (by walk_at "ev" <;> exact rfl) ?_
    refine w_st (by walk_at "ev" <;> exact rfl) ?_
    clear e0 e5 b5 em three
    refine w_seq (w_for (fun i ρ => ∃ (ws : List Wb) (X Y : OT), ρ = [.d (.list (ns.map .int)), .d (.int at0), .d (.bool loose), .d (.int m), .nd .lst (ws.map fun w => .d (wbD w)), X, Y] ∧ (∀ w ∈ ws, WbOk w) ∧ (∀ w ∈ ws, 2 ≤ w.1) ∧ rowsN ws ≤ 40 ∧ tiesN ws ≤ 120 ∧ ws.length ≤ i) (xs := rgD 0 5) (by walk_at "ev" <;> exact rfl) ⟨[], _, _, rfl, by simp, by simp, by decide, by decide, by simp⟩ ?_ ?_)
    · rintro i x ρ2 hx ⟨ws, X, Y, rfl, f1, f2, f3, f4, f5⟩
      obtain ⟨hi, rfl⟩ := rgD_at hx
      rw [Int.zero_add]
      obtain ⟨c, ec⟩ := cell_at_ok ns (at0 + i)
      have bi : (at0 : Int) + (i : Int) = ((at0 + i : Nat) : Int) := by omega
      obtain ⟨p, ep, p1, p2⟩ : ∃ p : Int, atI [PyData.int m, .int 6, .int 4, .int 3, .int 2] (i : Int) = some (.int p) ∧ 1 ≤ p ∧ p ≤ 40 := by
        have : i = 0 ∨ i = 1 ∨ i = 2 ∨ i = 3 ∨ i = 4 := by omega
        rcases this with rfl | rfl | rfl | rfl | rfl
        · exact ⟨m, rfl, m1, m2⟩
        · exact ⟨6, rfl, by omega, by omega⟩
        · exact ⟨4, rfl, by omega, by omega⟩
        · exact ⟨3, rfl, by omega, by omega⟩
        · exact ⟨2, rfl, by omega, by omega⟩
      obtain ⟨q, eq, q2⟩ : ∃ q : Nat, atI [PyData.int 9, .int 4, .int 2, .int 1, .int 0] (i : Int) = some (.int (q : Nat)) ∧ q ≤ 20 := by
        have : i = 0 ∨ i = 1 ∨ i = 2 ∨ i = 3 ∨ i = 4 := by omega
        rcases this with rfl | rfl | rfl | rfl | rfl
        · exact ⟨9, rfl, by omega⟩
        · exact ⟨4, rfl, by omega⟩
        · exact ⟨2, rfl, by omega⟩
        · exact ⟨1, rfl, by omega⟩
        · exact ⟨0, rfl, by omega⟩
      obtain ⟨w, ew, w1, w2⟩ := web_ok c (at0 + i : Nat) (by omega) p p1 p2 q (by omega) loose
      have lw := lf_wbO w
      have tw := toD_wbO w
      have nw := isNo_wbO w
      have tl : tfl (wbD w) = false := by simp [tfl, wbD, WD]
      have td := toDs_mapD wbD ws
      have gc := GCat_ok (a := ws.map wbD) (b := [wbD w]) (by simp; omega)
      have ft := fits_ok (ws := ws ++ [w]) (fun v hv => by
        rcases List.mem_append.mp hv with z | z
        · exact f1 v z
        · rw [List.mem_singleton.mp z]; exact w1)
      simp only [List.map_append, List.map_cons, List.map_nil] at ft
      rw [wbD_eq w] at tw tl gc ft
      have l6 : ws.length ≤ 1000000 := by omega
      generalize hat : ((at0 + i : Nat) : Int) = ati at *
      have hi6 : (i : Int) < 5 := by omega
      generalize (i : Int) = I at *
      have fin' : ∀ X Y : OT, (1 < w.1 → rowsN (ws ++ [w]) ≤ 40 → tiesN (ws ++ [w]) ≤ 120 → ∃ (ws' : List Wb) (X' Y' : OT), ([.d (.list (ns.map .int)), .d (.int at0), .d (.bool loose), .d (.int m), .nd .lst ((ws ++ [w]).map fun w => .d (wbD w)), X, Y] : List OT) = [.d (.list (ns.map .int)), .d (.int at0), .d (.bool loose), .d (.int m), .nd .lst (ws'.map fun w => .d (wbD w)), X', Y'] ∧ (∀ w ∈ ws', WbOk w) ∧ (∀ w ∈ ws', 2 ≤ w.1) ∧ rowsN ws' ≤ 40 ∧ tiesN ws' ≤ 120 ∧ ws'.length ≤ i + 1) := fun X Y z1 z2 z3 => ⟨ws ++ [w], X, Y, rfl, fun v hv => by
        rcases List.mem_append.mp hv with z | z
        · exact f1 v z
        · rw [List.mem_singleton.mp z]; exact w1, fun v hv => by
        rcases List.mem_append.mp hv with z | z
        · exact f2 v z
        · rw [List.mem_singleton.mp z]; exact z1, z2, z3, by simp; omega⟩
      apply exw
      · walk_at "ev" <;> exact rfl
      refine w_st (by walk_at "ev" <;> exact rfl) ?_
      by_cases h1 : (1 : Int) < (w.1 : Int)
      · by_cases h2 : rowsN (ws ++ [w]) ≤ 40
        · by_cases h3 : tiesN (ws ++ [w]) ≤ 120
          · have k := fun X Y => fin' X Y (by omega) h2 h3
            have ft' : (decide (rowsN (ws ++ [w]) ≤ 40) && decide (tiesN (ws ++ [w]) ≤ 120)) = true := by simp [h2, h3]
            rw [ft'] at ft
            clear h2 h3 ft' fin' ew ec
            refine w_if (c := true) (by walk_at "ev" <;> exact rfl) (fun _ => ?_) (fun z => by cases z)
            simp only [List.map_append, List.map_cons, List.map_nil] at k
            apply w_nx
            · walk_at "ev" <;> exact rfl
            exact k _ _
          · have ft' : (decide (rowsN (ws ++ [w]) ≤ 40) && decide (tiesN (ws ++ [w]) ≤ 120)) = false := by simp [h3]
            rw [ft'] at ft
            clear h2 h3 ft' fin' ew ec
            refine w_if (c := false) (by walk_at "ev" <;> exact rfl) (fun z => by cases z) (fun _ => ?_)
            exact w_next ⟨ws, _, _, rfl, f1, f2, f3, f4, by omega⟩
        · have ft' : (decide (rowsN (ws ++ [w]) ≤ 40) && decide (tiesN (ws ++ [w]) ≤ 120)) = false := by simp [h2]
          rw [ft'] at ft
          clear h2 ft' fin' ew ec
          refine w_if (c := false) (by walk_at "ev" <;> exact rfl) (fun z => by cases z) (fun _ => ?_)
          exact w_next ⟨ws, _, _, rfl, f1, f2, f3, f4, by omega⟩
      · have h1' : decide ((1 : Int) < (w.1 : Int)) = false := decide_eq_false h1
        refine w_if (c := false) (by walk_at "ev" <;> exact rfl) (fun z => by cases z) (fun _ => ?_)
        exact w_next ⟨ws, _, _, rfl, f1, f2, f3, f4, by omega⟩
    · rintro ρ2 ⟨ws, X, Y, rfl, f1, f2, f3, f4, f5⟩
      exact w_end (by walk_at "ev" <;> exact rfl) rfl ⟨ws, rfl, f1, f2, f3, f4, by simpa [rgD] using f5⟩)
  exact ⟨ws, e, h1⟩
end SQ
namespace BF
open PySem L2 PL MR
/-! ### ways -/
/-- k ties lead from p to j -/
def rch (nb : Nat → List Nat) (p : Nat) : Nat → Nat → Prop
  | 0, j => j = p
  | k + 1, j => ∃ i, rch nb p k i ∧ j ∈ nb i
/-- at each place what is told of it -/
structure IsFar (nb : Nat → List Nat) (p n : Nat) (far : List (Option Nat)) : Prop where
  len : far.length = n
  snd : ∀ (j d : Nat), far[j]? = some (some d) → rch nb p d j
  cpl : ∀ (k j : Nat), rch nb p k j → ∃ d, d ≤ k ∧ far[j]? = some (some d)
theorem IsFar.uniq {nb : Nat → List Nat} {p n : Nat} {a b : List (Option Nat)} (ha : IsFar nb p n a) (hb : IsFar nb p n b) : a = b := by
  apply List.ext_getElem?
  intro j
  by_cases hj : j < n
  · have ea := List.getElem?_eq_getElem (show j < a.length by have := ha.len; omega)
    have eb := List.getElem?_eq_getElem (show j < b.length by have := hb.len; omega)
    rw [ea, eb]
    cases ca : a[j]'(by have := ha.len; omega) with
    | none =>
      cases cb : b[j]'(by have := hb.len; omega) with
      | none => rfl
      | some d =>
        rw [cb] at eb
        obtain ⟨d', _, h⟩ := ha.cpl d j (hb.snd j d eb)
        rw [ea, ca] at h
        cases h
    | some d =>
      rw [ca] at ea
      obtain ⟨d', h1, h2⟩ := hb.cpl d j (ha.snd j d ea)
      obtain ⟨d'', h3, h4⟩ := ha.cpl d' j (hb.snd j d' h2)
      rw [ea] at h4
      cases h4
      have : d = d' := by omega
      subst this
      rw [h2] at eb
      rw [← Option.some.inj eb]
  · rw [List.getElem?_eq_none (by have := ha.len; omega), List.getElem?_eq_none (by have := hb.len; omega)]
noncomputable def farF (nb : Nat → List Nat) (p n : Nat) : List (Option Nat) := by
  classical exact if h : ∃ far, IsFar nb p n far then h.choose else List.replicate n none
theorem IsFar.eq {nb : Nat → List Nat} {p n : Nat} {a : List (Option Nat)} (ha : IsFar nb p n a) : a = farF nb p n := by
  unfold farF
  rw [dif_pos ⟨a, ha⟩]
  exact ha.uniq (Exists.choose_spec (⟨a, ha⟩ : ∃ far, IsFar nb p n far))
/-- what is put in where there was nothing -/
theorem fset {far : List (Option Nat)} {j v q e : Nat} (h : far[j]? = some none) : (far.set j (some v))[q]? = some (some e) ↔ (q = j ∧ e = v) ∨ far[q]? = some (some e) := by
  have hl := (List.getElem?_eq_some_iff.mp h).1
  by_cases c : j = q
  · subst c
    rw [List.getElem?_set_self hl, h]
    constructor
    · intro z; cases z; exact .inl ⟨rfl, rfl⟩
    · rintro (⟨_, rfl⟩ | z)
      · rfl
      · cases z
  · rw [List.getElem?_set_ne c]
    constructor
    · exact .inr
    · rintro (⟨z, _⟩ | z)
      · exact absurd z.symm c
      · exact z
end BF
namespace SB
open PySem L2 PL MR SH BF
local macro_rules | `(tactic| walk_at "ev") => `(tactic| simp (config := {decide := true}) only [ini, fin, finI, sSeq, sNext, sAsg, sAsgG, sRet, sRetN, sDrop, sIf, sNever, sSetP, sAppP, sClrP, sRevP, fR, pmVar, pmIx, pmIxT, MR.putAt, OT.put, OT.at, gmName, gmTup, gmLst, gsNil, gsCons, rVar, rC, rOp, rUn, rCb, rCbZ, rOpZ, rCall, rAnd, rOr, rNot, rIf, rIs, rCh, rCh3, rTup, rLst, rSl, cNone, cSome, rRepr, dRepr, rInDct, rIdx, rIdxD, iR3s, small, qNil, qCons, qApp, lApp, bR, bAnd, bOr, bNot, tR, tD, tmAnd, tmOr, tmNot, yVar_eq, yMov, yR, yAuto, dY, yD, dR, dOp, dOpR, dCb, dAnd, dOr, dNot, yCall, yCallA, yCallI, yCallIT, yCb, yCbA, yOp, yOpA, lfO, yTup, yLst, oNil, oCons, isNo, lNil, lCons, asB, asInt, asL, asT, iL, iT, iE, iZ, iV, yRng1_eq, iR1_eq, iR2_eq, lcStep, calmAt, wipeE, rst, sApp, yPop_eq, sDPutM, ySortD, yDNew, gmName, toD_d, toD_tup, toD_lst, toDs_nil, toDs_cons, toDs_ints, toDs_fpr, toDs_prs, lfs_ints, lfs_fpr, intsO_len, prsO_len, fprO_len, rng_len, intsO_snoc, prsO_snoc, lstO_rg, rOpZ, rCbZ, isNo_lstO, toD_dnew, ySl, ySlA, neS_self, eqS_self,  rRevL, yRevL, yRevLA, yPop0, sExt, gStrI,  lstO_prs, lstO_ints, toD_lstO, kp_int, kp_bool, kp_tuple, kp_list, kp_str, isIntB, isBoolB, isTupB, isListB, isStrB, gAdd_i, gSub_i, gLt_i, gLe_i, gGt_i, gGe_i, gMul_r, gMul_l, gMod_i, gDiv_i, gPow_i, gNeg, gEqI, gNeI, gEqS, gNeS, gIsN, gNotN, gIsB, gNotB, gIxL, gIxT, gLen, gMax2, gMin2, gInt, gAll, asBools_map, isN, OT.lf, OT.lfs, flat, atI_0, atI_1, ixN_0, ixN_1, rgD_len, enumD_len, trues_len, Int.toNat_natCast, List.length_map, eq_self, Option.bind_some, Option.bind_none, Option.map_some, Option.map_none, List.getElem?_cons_zero, List.getElem?_cons_succ, List.set_cons_zero, List.set_cons_succ, List.map_cons, List.map_nil, List.replicate, List.nil_append, List.cons_append, List.length_cons, List.length_nil, List.all_cons, List.all_nil, if_true, if_false, reduceIte, tfl_int, tfl_bool, tfl_none, tfl_str, tfl_list, Bool.true_and, Bool.and_true, Bool.false_and, Bool.and_false, Bool.true_or, Bool.or_true, Bool.false_or, Bool.or_false, Bool.not_true, Bool.not_false, Bool.false_eq_true, decide_true, decide_false, true_and, and_true, false_and, and_false, or_true, true_or, *])
def Told (far : List (Option Nat)) (j : Nat) : Prop := ∃ d, far[j]? = some (some d)
theorem Told.set {far : List (Option Nat)} {j i d : Nat} (h : Told far j) (hi : far[i]? = some none) : Told (far.set i (some d)) j := by
  obtain ⟨e, he⟩ := h
  exact ⟨e, (fset hi).mpr (.inr he)⟩
end SB
namespace SB
open PySem L2 PL MR SH BF
local macro_rules | `(tactic| walk_at "ev") => `(tactic| simp (config := {decide := true}) only [ini, fin, finI, sSeq, sNext, sAsg, sAsgG, sRet, sRetN, sDrop, sIf, sNever, sSetP, sAppP, sClrP, sRevP, fR, pmVar, pmIx, pmIxT, MR.putAt, OT.put, OT.at, gmName, gmTup, gmLst, gsNil, gsCons, rVar, rC, rOp, rUn, rCb, rCbZ, rOpZ, rCall, rAnd, rOr, rNot, rIf, rIs, rCh, rCh3, rTup, rLst, rSl, cNone, cSome, rRepr, dRepr, rInDct, rIdx, rIdxD, iR3s, small, qNil, qCons, qApp, lApp, bR, bAnd, bOr, bNot, tR, tD, tmAnd, tmOr, tmNot, yVar_eq, yMov, yR, yAuto, dY, yD, dR, dOp, dOpR, dCb, dAnd, dOr, dNot, yCall, yCallA, yCallI, yCallIT, yCb, yCbA, yOp, yOpA, lfO, yTup, yLst, oNil, oCons, isNo, lNil, lCons, asB, asInt, asL, asT, iL, iT, iE, iZ, iV, yRng1_eq, iR1_eq, iR2_eq, lcStep, calmAt, wipeE, rst, sApp, yPop_eq, sDPutM, ySortD, yDNew, gmName, toD_d, toD_tup, toD_lst, toDs_nil, toDs_cons, toDs_ints, toDs_fpr, toDs_prs, lfs_ints, lfs_fpr, intsO_len, prsO_len, fprO_len, rng_len, intsO_snoc, prsO_snoc, lstO_rg, rOpZ, rCbZ, isNo_lstO, toD_dnew, ySl, ySlA, neS_self, eqS_self,  rRevL, yRevL, yRevLA, yPop0, sExt, gStrI,  lstO_prs, lstO_ints, toD_lstO, kp_int, kp_bool, kp_tuple, kp_list, kp_str, isIntB, isBoolB, isTupB, isListB, isStrB, gAdd_i, gSub_i, gLt_i, gLe_i, gGt_i, gGe_i, gMul_r, gMul_l, gMod_i, gDiv_i, gPow_i, gNeg, gEqI, gNeI, gEqS, gNeS, gIsN, gNotN, gIsB, gNotB, gIxL, gIxT, gLen, gMax2, gMin2, gInt, gAll, asBools_map, isN, OT.lf, OT.lfs, flat, atI_0, atI_1, ixN_0, ixN_1, rgD_len, enumD_len, trues_len, Int.toNat_natCast, List.length_map, eq_self, Option.bind_some, Option.bind_none, Option.map_some, Option.map_none, List.getElem?_cons_zero, List.getElem?_cons_succ, List.set_cons_zero, List.set_cons_succ, List.map_cons, List.map_nil, List.replicate, List.nil_append, List.cons_append, List.length_cons, List.length_nil, List.all_cons, List.all_nil, if_true, if_false, reduceIte, tfl_int, tfl_bool, tfl_none, tfl_str, tfl_list, Bool.true_and, Bool.and_true, Bool.false_and, Bool.and_false, Bool.true_or, Bool.or_true, Bool.false_or, Bool.or_false, Bool.not_true, Bool.not_false, Bool.false_eq_true, decide_true, decide_false, true_and, and_true, false_and, and_false, or_true, true_or, *])
/-! between -/
end SB
namespace SB
open PySem L2 PL MR SH BF
local macro_rules | `(tactic| walk_at "ev") => `(tactic| simp (config := {decide := true}) only [ini, fin, finI, sSeq, sNext, sAsg, sAsgG, sRet, sRetN, sDrop, sIf, sNever, sSetP, sAppP, sClrP, sRevP, fR, pmVar, pmIx, pmIxT, MR.putAt, OT.put, OT.at, gmName, gmTup, gmLst, gsNil, gsCons, rVar, rC, rOp, rUn, rCb, rCbZ, rOpZ, rCall, rAnd, rOr, rNot, rIf, rIs, rCh, rCh3, rTup, rLst, rSl, cNone, cSome, rRepr, dRepr, rInDct, rIdx, rIdxD, iR3s, small, qNil, qCons, qApp, lApp, bR, bAnd, bOr, bNot, tR, tD, tmAnd, tmOr, tmNot, yVar_eq, yMov, yR, yAuto, dY, yD, dR, dOp, dOpR, dCb, dAnd, dOr, dNot, yCall, yCallA, yCallI, yCallIT, yCb, yCbA, yOp, yOpA, lfO, yTup, yLst, oNil, oCons, isNo, lNil, lCons, asB, asInt, asL, asT, iL, iT, iE, iZ, iV, yRng1_eq, iR1_eq, iR2_eq, lcStep, calmAt, wipeE, rst, sApp, yPop_eq, sDPutM, ySortD, yDNew, gmName, toD_d, toD_tup, toD_lst, toDs_nil, toDs_cons, toDs_ints, toDs_fpr, toDs_prs, lfs_ints, lfs_fpr, intsO_len, prsO_len, fprO_len, rng_len, intsO_snoc, prsO_snoc, lstO_rg, rOpZ, rCbZ, isNo_lstO, toD_dnew, ySl, ySlA, neS_self, eqS_self,  rRevL, yRevL, yRevLA, yPop0, sExt, gStrI,  lstO_prs, lstO_ints, toD_lstO, kp_int, kp_bool, kp_tuple, kp_list, kp_str, isIntB, isBoolB, isTupB, isListB, isStrB, gAdd_i, gSub_i, gLt_i, gLe_i, gGt_i, gGe_i, gMul_r, gMul_l, gMod_i, gDiv_i, gPow_i, gNeg, gEqI, gNeI, gEqS, gNeS, gIsN, gNotN, gIsB, gNotB, gIxL, gIxT, gLen, gMax2, gMin2, gInt, gAll, asBools_map, isN, OT.lf, OT.lfs, flat, atI_0, atI_1, ixN_0, ixN_1, rgD_len, enumD_len, trues_len, Int.toNat_natCast, List.length_map, eq_self, Option.bind_some, Option.bind_none, Option.map_some, Option.map_none, List.getElem?_cons_zero, List.getElem?_cons_succ, List.set_cons_zero, List.set_cons_succ, List.map_cons, List.map_nil, List.replicate, List.nil_append, List.cons_append, List.length_cons, List.length_nil, List.all_cons, List.all_nil, if_true, if_false, reduceIte, tfl_int, tfl_bool, tfl_none, tfl_str, tfl_list, Bool.true_and, Bool.and_true, Bool.false_and, Bool.and_false, Bool.true_or, Bool.or_true, Bool.false_or, Bool.or_false, Bool.not_true, Bool.not_false, Bool.false_eq_true, decide_true, decide_false, true_and, and_true, false_and, and_false, or_true, true_or, *])
end SB
namespace SB
open PySem L2 PL MR SH BF
local macro_rules | `(tactic| walk_at "ev") => `(tactic| simp (config := {decide := true}) only [ini, fin, finI, sSeq, sNext, sAsg, sAsgG, sRet, sRetN, sDrop, sIf, sNever, sSetP, sAppP, sClrP, sRevP, fR, pmVar, pmIx, pmIxT, MR.putAt, OT.put, OT.at, gmName, gmTup, gmLst, gsNil, gsCons, rVar, rC, rOp, rUn, rCb, rCbZ, rOpZ, rCall, rAnd, rOr, rNot, rIf, rIs, rCh, rCh3, rTup, rLst, rSl, cNone, cSome, rRepr, dRepr, rInDct, rIdx, rIdxD, iR3s, small, qNil, qCons, qApp, lApp, bR, bAnd, bOr, bNot, tR, tD, tmAnd, tmOr, tmNot, yVar_eq, yMov, yR, yAuto, dY, yD, dR, dOp, dOpR, dCb, dAnd, dOr, dNot, yCall, yCallA, yCallI, yCallIT, yCb, yCbA, yOp, yOpA, lfO, yTup, yLst, oNil, oCons, isNo, lNil, lCons, asB, asInt, asL, asT, iL, iT, iE, iZ, iV, yRng1_eq, iR1_eq, iR2_eq, lcStep, calmAt, wipeE, rst, sApp, yPop_eq, sDPutM, ySortD, yDNew, gmName, toD_d, toD_tup, toD_lst, toDs_nil, toDs_cons, toDs_ints, toDs_fpr, toDs_prs, lfs_ints, lfs_fpr, intsO_len, prsO_len, fprO_len, rng_len, intsO_snoc, prsO_snoc, lstO_rg, rOpZ, rCbZ, isNo_lstO, toD_dnew, ySl, ySlA, neS_self, eqS_self,  rRevL, yRevL, yRevLA, yPop0, sExt, gStrI,  lstO_prs, lstO_ints, toD_lstO, kp_int, kp_bool, kp_tuple, kp_list, kp_str, isIntB, isBoolB, isTupB, isListB, isStrB, gAdd_i, gSub_i, gLt_i, gLe_i, gGt_i, gGe_i, gMul_r, gMul_l, gMod_i, gDiv_i, gPow_i, gNeg, gEqI, gNeI, gEqS, gNeS, gIsN, gNotN, gIsB, gNotB, gIxL, gIxT, gLen, gMax2, gMin2, gInt, gAll, asBools_map, isN, OT.lf, OT.lfs, flat, atI_0, atI_1, ixN_0, ixN_1, rgD_len, enumD_len, trues_len, Int.toNat_natCast, List.length_map, eq_self, Option.bind_some, Option.bind_none, Option.map_some, Option.map_none, List.getElem?_cons_zero, List.getElem?_cons_succ, List.set_cons_zero, List.set_cons_succ, List.map_cons, List.map_nil, List.replicate, List.nil_append, List.cons_append, List.length_cons, List.length_nil, List.all_cons, List.all_nil, if_true, if_false, reduceIte, tfl_int, tfl_bool, tfl_none, tfl_str, tfl_list, Bool.true_and, Bool.and_true, Bool.false_and, Bool.and_false, Bool.true_or, Bool.or_true, Bool.false_or, Bool.or_false, Bool.not_true, Bool.not_false, Bool.false_eq_true, decide_true, decide_false, true_and, and_true, false_and, and_false, or_true, true_or, *])
end SB
namespace SB
open PySem L2 PL MR SH BF
local macro_rules | `(tactic| walk_at "ev") => `(tactic| simp (config := {decide := true}) only [ini, fin, finI, sSeq, sNext, sAsg, sAsgG, sRet, sRetN, sDrop, sIf, sNever, sSetP, sAppP, sClrP, sRevP, fR, pmVar, pmIx, pmIxT, MR.putAt, OT.put, OT.at, gmName, gmTup, gmLst, gsNil, gsCons, rVar, rC, rOp, rUn, rCb, rCbZ, rOpZ, rCall, rAnd, rOr, rNot, rIf, rIs, rCh, rCh3, rTup, rLst, rSl, cNone, cSome, rRepr, dRepr, rInDct, rIdx, rIdxD, iR3s, small, qNil, qCons, qApp, lApp, bR, bAnd, bOr, bNot, tR, tD, tmAnd, tmOr, tmNot, yVar_eq, yMov, yR, yAuto, dY, yD, dR, dOp, dOpR, dCb, dAnd, dOr, dNot, yCall, yCallA, yCallI, yCallIT, yCb, yCbA, yOp, yOpA, lfO, yTup, yLst, oNil, oCons, isNo, lNil, lCons, asB, asInt, asL, asT, iL, iT, iE, iZ, iV, yRng1_eq, iR1_eq, iR2_eq, lcStep, calmAt, wipeE, rst, sApp, yPop_eq, sDPutM, ySortD, yDNew, gmName, toD_d, toD_tup, toD_lst, toDs_nil, toDs_cons, toDs_ints, toDs_fpr, toDs_prs, lfs_ints, lfs_fpr, intsO_len, prsO_len, fprO_len, rng_len, intsO_snoc, prsO_snoc, lstO_rg, rOpZ, rCbZ, isNo_lstO, toD_dnew, ySl, ySlA, neS_self, eqS_self,  rRevL, yRevL, yRevLA, yPop0, sExt, gStrI,  lstO_prs, lstO_ints, toD_lstO, kp_int, kp_bool, kp_tuple, kp_list, kp_str, isIntB, isBoolB, isTupB, isListB, isStrB, gAdd_i, gSub_i, gLt_i, gLe_i, gGt_i, gGe_i, gMul_r, gMul_l, gMod_i, gDiv_i, gPow_i, gNeg, gEqI, gNeI, gEqS, gNeS, gIsN, gNotN, gIsB, gNotB, gIxL, gIxT, gLen, gMax2, gMin2, gInt, gAll, asBools_map, isN, OT.lf, OT.lfs, flat, atI_0, atI_1, ixN_0, ixN_1, rgD_len, enumD_len, trues_len, Int.toNat_natCast, List.length_map, eq_self, Option.bind_some, Option.bind_none, Option.map_some, Option.map_none, List.getElem?_cons_zero, List.getElem?_cons_succ, List.set_cons_zero, List.set_cons_succ, List.map_cons, List.map_nil, List.replicate, List.nil_append, List.cons_append, List.length_cons, List.length_nil, List.all_cons, List.all_nil, if_true, if_false, reduceIte, tfl_int, tfl_bool, tfl_none, tfl_str, tfl_list, Bool.true_and, Bool.and_true, Bool.false_and, Bool.and_false, Bool.true_or, Bool.or_true, Bool.false_or, Bool.or_false, Bool.not_true, Bool.not_false, Bool.false_eq_true, decide_true, decide_false, true_and, and_true, false_and, and_false, or_true, true_or, *])
/-! a web's places seen from each -/
end SB
namespace SB
open PySem L2 PL MR SH BF
local macro_rules | `(tactic| walk_at "ev") => `(tactic| simp (config := {decide := true}) only [ini, fin, finI, sSeq, sNext, sAsg, sAsgG, sRet, sRetN, sDrop, sIf, sNever, sSetP, sAppP, sClrP, sRevP, fR, pmVar, pmIx, pmIxT, MR.putAt, OT.put, OT.at, gmName, gmTup, gmLst, gsNil, gsCons, rVar, rC, rOp, rUn, rCb, rCbZ, rOpZ, rCall, rAnd, rOr, rNot, rIf, rIs, rCh, rCh3, rTup, rLst, rSl, cNone, cSome, rRepr, dRepr, rInDct, rIdx, rIdxD, iR3s, small, qNil, qCons, qApp, lApp, bR, bAnd, bOr, bNot, tR, tD, tmAnd, tmOr, tmNot, yVar_eq, yMov, yR, yAuto, dY, yD, dR, dOp, dOpR, dCb, dAnd, dOr, dNot, yCall, yCallA, yCallI, yCallIT, yCb, yCbA, yOp, yOpA, lfO, yTup, yLst, oNil, oCons, isNo, lNil, lCons, asB, asInt, asL, asT, iL, iT, iE, iZ, iV, yRng1_eq, iR1_eq, iR2_eq, lcStep, calmAt, wipeE, rst, sApp, yPop_eq, sDPutM, ySortD, yDNew, gmName, toD_d, toD_tup, toD_lst, toDs_nil, toDs_cons, toDs_ints, toDs_fpr, toDs_prs, lfs_ints, lfs_fpr, intsO_len, prsO_len, fprO_len, rng_len, intsO_snoc, prsO_snoc, lstO_rg, rOpZ, rCbZ, isNo_lstO, toD_dnew, ySl, ySlA, neS_self, eqS_self,  rRevL, yRevL, yRevLA, yPop0, sExt, gStrI,  lstO_prs, lstO_ints, toD_lstO, kp_int, kp_bool, kp_tuple, kp_list, kp_str, isIntB, isBoolB, isTupB, isListB, isStrB, gAdd_i, gSub_i, gLt_i, gLe_i, gGt_i, gGe_i, gMul_r, gMul_l, gMod_i, gDiv_i, gPow_i, gNeg, gEqI, gNeI, gEqS, gNeS, gIsN, gNotN, gIsB, gNotB, gIxL, gIxT, gLen, gMax2, gMin2, gInt, gAll, asBools_map, isN, OT.lf, OT.lfs, flat, atI_0, atI_1, ixN_0, ixN_1, rgD_len, enumD_len, trues_len, Int.toNat_natCast, List.length_map, eq_self, Option.bind_some, Option.bind_none, Option.map_some, Option.map_none, List.getElem?_cons_zero, List.getElem?_cons_succ, List.set_cons_zero, List.set_cons_succ, List.map_cons, List.map_nil, List.replicate, List.nil_append, List.cons_append, List.length_cons, List.length_nil, List.all_cons, List.all_nil, if_true, if_false, reduceIte, tfl_int, tfl_bool, tfl_none, tfl_str, tfl_list, Bool.true_and, Bool.and_true, Bool.false_and, Bool.and_false, Bool.true_or, Bool.or_true, Bool.false_or, Bool.or_false, Bool.not_true, Bool.not_false, Bool.false_eq_true, decide_true, decide_false, true_and, and_true, false_and, and_false, or_true, true_or, *])
end SB
namespace SA
open PySem L2 PL MR SH SQ
local macro_rules | `(tactic| walk_at "ev") => `(tactic| simp (config := {decide := true}) only [ini, fin, finI, sSeq, sNext, sAsg, sAsgG, sRet, sRetN, sDrop, sIf, sNever, sSetP, sAppP, sClrP, sRevP, fR, pmVar, pmIx, pmIxT, MR.putAt, OT.put, OT.at, gmName, gmTup, gmLst, gsNil, gsCons, rVar, rC, rOp, rUn, rCb, rCbZ, rOpZ, rCall, rAnd, rOr, rNot, rIf, rIs, rCh, rCh3, rTup, rLst, rSl, cNone, cSome, rRepr, dRepr, rInDct, rIdx, rIdxD, iR3s, small, qNil, qCons, qApp, lApp, bR, bAnd, bOr, bNot, tR, tD, tmAnd, tmOr, tmNot, yVar_eq, yMov, yR, yAuto, dY, yD, dR, dOp, dOpR, dCb, dAnd, dOr, dNot, yCall, yCallA, yCallI, yCallIT, yCb, yCbA, yOp, yOpA, lfO, yTup, yLst, oNil, oCons, isNo, lNil, lCons, asB, asInt, asL, asT, iL, iT, iE, iZ, iV, yRng1_eq, iR1_eq, iR2_eq, lcStep, calmAt, wipeE, rst, sApp, yPop_eq, sDPutM, ySortD, yDNew, gmName, toD_d, toD_tup, toD_lst, toDs_nil, toDs_cons, toDs_ints, toDs_fpr, toDs_prs, lfs_ints, lfs_fpr, intsO_len, prsO_len, fprO_len, rng_len, intsO_snoc, prsO_snoc, lstO_rg, rOpZ, rCbZ, isNo_lstO, toD_dnew, ySl, ySlA, neS_self, eqS_self,  rRevL, yRevL, yRevLA, yPop0, sExt, gStrI,  lstO_prs, lstO_ints, toD_lstO, kp_int, kp_bool, kp_tuple, kp_list, kp_str, isIntB, isBoolB, isTupB, isListB, isStrB, gAdd_i, gSub_i, gLt_i, gLe_i, gGt_i, gGe_i, gMul_r, gMul_l, gMod_i, gDiv_i, gPow_i, gNeg, gEqI, gNeI, gEqS, gNeS, gIsN, gNotN, gIsB, gNotB, gIxL, gIxT, gLen, gMax2, gMin2, gInt, gAll, asBools_map, isN, OT.lf, OT.lfs, flat, atI_0, atI_1, ixN_0, ixN_1, rgD_len, enumD_len, trues_len, Int.toNat_natCast, List.length_map, eq_self, Option.bind_some, Option.bind_none, Option.map_some, Option.map_none, List.getElem?_cons_zero, List.getElem?_cons_succ, List.set_cons_zero, List.set_cons_succ, List.map_cons, List.map_nil, List.replicate, List.nil_append, List.cons_append, List.length_cons, List.length_nil, List.all_cons, List.all_nil, if_true, if_false, reduceIte, tfl_int, tfl_bool, tfl_none, tfl_str, tfl_list, Bool.true_and, Bool.and_true, Bool.false_and, Bool.and_false, Bool.true_or, Bool.or_true, Bool.false_or, Bool.or_false, Bool.not_true, Bool.not_false, Bool.false_eq_true, decide_true, decide_false, true_and, and_true, false_and, and_false, or_true, true_or, *])
/-! the law's drawn web, in pieces or not -/
def szt (n : Nat) (most : Int) (more : Nat) : List Int := szA n most more ++ List.replicate more ((n : Int) * n)
theorem szt_len (n : Nat) (h : 1 ≤ n) (most : Int) (more : Nat) : (szt n most more).length = 2 * n + 1 + more := by simp [szt, szA_len n h]
theorem szt_at {n : Nat} {most : Int} {more : Nat} (h : 1 ≤ n) {k : Nat} (hk : k < 2 * n + 1 + more) : at' (szt n most more) (k : Nat) = at' (szs n most more) (k : Nat) := by
  have l := szt_len n h most more
  have e : szs n most more = szt n most more ++ List.replicate (n - 1) 3 := rfl
  rw [e]
  unfold at'
  rw [Int.toNat_natCast, List.getD_eq_getElem?_getD, List.getD_eq_getElem?_getD, List.getElem?_append_left (by omega)]
theorem szs_0 {n k : Nat} (h1 : 1 ≤ n) (h : k < n) (most : Int) (more : Nat) : at' (szs n most more) ((n + 1 + k : Nat) : Int) = (n : Int) - k := by
  unfold at' szs szA
  rw [Int.toNat_natCast, List.getD_eq_getElem?_getD, List.append_assoc, List.append_assoc, List.append_assoc, List.getElem?_append_right (by simp; omega)]
  rw [List.getElem?_append_right (by simp; omega), List.getElem?_append_left (by simp; omega)]
  simp
  rw [List.getElem?_eq_getElem (by simp; omega)]
  simp
  omega
theorem szt_pos (n : Nat) (h : 1 ≤ n) (h2 : n ≤ 40) (most : Int) (m1 : 1 ≤ most) (m2 : most ≤ 40) (more : Nat) (h3 : more ≤ 100) : ∀ s ∈ szt n most more, 0 < s ∧ s < 1073741824 := by
  intro s hs
  have hn : (1 : Int) ≤ (n : Int) * n ∧ (n : Int) * n ≤ 1600 := by
    constructor
    · have := Int.mul_le_mul (a := 1) (c := (n : Int)) (b := 1) (d := n) (by omega) (by omega) (by omega) (by omega); omega
    · have := Int.mul_le_mul (a := (n : Int)) (c := 40) (b := n) (d := 40) (by omega) (by omega) (by omega) (by omega); omega
  simp only [szt, szA, List.mem_append, List.mem_map, List.mem_range, List.mem_replicate, List.mem_cons, List.not_mem_nil, or_false] at hs
  rcases hs with (((rfl | rfl) | ⟨k, hk, rfl⟩) | ⟨k, hk, rfl⟩) | ⟨_, rfl⟩ <;> omega
theorem ties_step {c salt most more m S6 X7 D8 N9 L10 X11 : OT} {n : Nat} {os : List Int} (ho : os.Perm (rng n)) {a b : Int} (a0 : 0 ≤ a) (a1 : a < (n : Int)) (b0 : 0 ≤ b) (b1 : b < (n : Int)) {ks : List (Int × Int)} (h1 : ks.Nodup) (hk : ks.length ≤ 100000) (h3 : ∀ p ∈ ks, 0 ≤ p.1 ∧ p.1 < p.2 ∧ p.2 < (n : Int)) {Q : Fl → MR.Env → Prop}
    (q : ∀ ks' : List (Int × Int), ks'.Nodup → ks'.length ≤ ks.length + 1 → (∀ p ∈ ks', 0 ≤ p.1 ∧ p.1 < p.2 ∧ p.2 < (n : Int)) → Q .nx [c, salt, most, more, m, S6, X7, D8, N9, .nd .lst (intsO os), L10, X11, .nd (.dT (ks'.map kO)) (trues ks'.length), .d (.int a), .d (.int b)]) :
    W (sIf (tR (bR (rOp gNeI (rVar 13) (rVar 14)))) (sDPutM 12 (rTup (qCons (rCb gMin2 (qCons (rOp gIxL (rVar 9) (rVar 13)) (qCons (rOp gIxL (rVar 9) (rVar 14)) qNil))) (qCons (rCb gMax2 (qCons (rOp gIxL (rVar 9) (rVar 13)) (qCons (rOp gIxL (rVar 9) (rVar 14)) qNil))) qNil))) (rC (.bool true))) sNext)
      [c, salt, most, more, m, S6, X7, D8, N9, .nd .lst (intsO os), L10, X11, .nd (.dT (ks.map kO)) (trues ks.length), .d (.int a), .d (.int b)] Q := by
  have hlen : os.length = n := pm_len ho
  by_cases hne : a = b
  · have hf : decide (a = b) = true := decide_eq_true hne
    have q' := q ks h1 (by omega) h3
    clear hne q
    refine w_if (c := false) (by walk_at "ev" <;> exact rfl) (fun z => by cases z) (fun _ => ?_)
    exact w_next q'
  · have hf : decide (a = b) = false := by simp [hne]
    refine w_if (c := true) (by walk_at "ev" <;> exact rfl) (fun _ => ?_) (fun z => by cases z)
    have ea := atI_os (os := os) (a := a) a0 (by omega)
    have eb := atI_os (os := os) (a := b) b0 (by omega)
    have ma := pm_in ho a0 a1
    have mb := pm_in ho b0 b1
    have hne2 : at' os a ≠ at' os b := fun z => hne (pm_inj ho a0 a1 b0 b1 z)
    generalize at' os a = u at *
    generalize at' os b = v at *
    have hp := putO_true ks (min u v, max u v)
    have hk' : keyP (.tuple [.int (min u v), .int (max u v)]) = some (kO (min u v, max u v)) := rfl
    have g : ks.length ≤ 1000000 := by omega
    have g2 : (ks.map kO).length = (trues ks.length).length := by simp [trues]
    refine W.of (r := .nx) (by walk_at "ev" <;> exact rfl) (q (insK ks (min u v, max u v)) (insK_nodup h1) (insK_len _ _) ?_)
    intro z hz
    rcases PL.insK_mem hz with hz | rfl
    · exact h3 z hz
    · simp only []
      omega
theorem web_ok (c salt : Int) (hs : 0 ≤ salt ∧ salt ≤ 1000000) (most : Int) (m1 : 1 ≤ most) (m2 : most ≤ 40) (more : Nat) (h3 : more ≤ 81) : ∃ w : Wb, SA.m__law_web [.int c, .int salt, .int most, .int more] = some (wbO w) ∧ WbOk w ∧ (w.1 : Int) ≤ most := by
  obtain ⟨d0, e0, l0, g0⟩ := numbers_ok c salt hs [most] (by simp) (by intro s hs; simp at hs; omega)
  obtain ⟨d, rfl⟩ : ∃ d, d0 = [d] := List.length_eq_one_iff.mp l0
  have g0 := g0 0 (by simp)
  have g0 : 0 ≤ d ∧ d < most := g0
  simp only [List.map_cons, List.map_nil] at e0
  obtain ⟨n, hn⟩ : ∃ n : Nat, 1 + d = (n : Int) := ⟨(1 + d).toNat, by omega⟩
  have n1 : 1 ≤ n := by omega
  have n2 : n ≤ 40 := by omega
  have hn1 : (n : Int) - 1 = ((n - 1 : Nat) : Int) := by omega
  obtain ⟨ds, e1, l1, g1⟩ := numbers_ok c salt hs (szt n most more) (by rw [szt_len n n1]; omega) (szt_pos n n1 n2 most m1 m2 more (by omega))
  rw [szt_len n n1] at l1 g1
  have c1 := rg1_n (n := n - 1) (by omega)
  have c2 := rg1_n (n := n) (by omega)
  have c0 := rg0_n (n := n) (by omega)
  rw [rgD0] at c1 c2
  obtain ⟨r, e, w, rfl, h1, h2⟩ := fin_w (P := fun x => ∃ w : Wb, x = wbO w ∧ WbOk w ∧ (w.1 : Int) ≤ most) (B := SA.B__law_web) (ρ := ini [.int c, .int salt, .int most, .int more] 11) (by
    unfold SA.B__law_web
    refine w_st (by walk_at "ev" <;> exact rfl) ?_
    refine w_seq (w_asg (w_yOp (w_dY (w_yOp (w_dYof (r := .nd .lst (intsO [most, more + 1])) (by walk_at "ev" <;> exact rfl) (toD_ints _) (w_dY (w_lcmT (fun k : Nat => OT.d (.int ((k : Int) + 1))) (as := List.range (n - 1)) (enc := fun k : Nat => PyData.int (k : Int)) (by walk_at "ev" <;> exact rfl) rfl (by simp; omega) (fun k hk => ?_) ?_)))))))
    · refine W.of (by walk_at "ev" <;> exact rfl) ?_
      exact ⟨rfl, rfl⟩
    rw [ints_map]
    refine ⟨_, toD_ints _, _, GCat_ints (by simp; omega), _, toD_ints _, ?_⟩
    simp only [wipeE, rst, List.getElem?_cons_zero, List.getElem?_cons_succ, List.set_cons_zero, List.set_cons_succ]
    refine w_dY (w_lcmT (fun k : Nat => OT.d (.int ((n : Int) - (k : Int)))) (as := List.range n) (enc := fun k : Nat => PyData.int (k : Int)) (by walk_at "ev" <;> exact rfl) rfl (by simp; omega) (fun k hk => ?_) ?_)
    · refine W.of (by walk_at "ev" <;> exact rfl) ?_
      exact ⟨rfl, rfl⟩
    rw [ints_map]
    refine ⟨_, toD_ints _, _, GCat_ints (by simp; omega), ?_⟩
    simp only [sqK, wipeE, rst, List.getElem?_cons_zero, List.getElem?_cons_succ, List.set_cons_zero, List.set_cons_succ]
    rw [show [most, (more : Int) + 1] ++ (List.range (n - 1)).map (fun (k : Nat) => (k : Int) + 1) ++ (List.range n).map (fun (k : Nat) => (n : Int) - (k : Int)) = szA n most more from rfl]
    have la := szA_len n n1 most more
    have es : szt n most more = szA n most more ++ List.replicate more ((n : Int) * n) := rfl
    have k1 := toD_ints (szA n most more)
    have mn : ((-(2 ^ 64) : Int) < (n : Int) ∧ (n : Int) < 2 ^ 64) := by omega
    refine w_seq (w_asg (w_yCall ?_))
    rw [es] at e1
    clear es
    generalize szA n most more = A at *
    have r1 : List.replicate more (PyData.int ((n : Int) * n)) = (List.replicate more ((n : Int) * n)).map .int := by rw [List.map_replicate]
    refine w_lCons (W.of (by walk_at "ev" <;> exact rfl) ?_)
    refine w_lCons (W.of (by walk_at "ev" <;> exact rfl) ?_)
    refine w_lCons (w_dY (w_yOp ?_))
    refine W.of (by walk_at "ev" <;> exact rfl) ?_
    refine w_dYof (yRep_one (k := more) (x := .int ((n : Int) * n)) (by walk_at "ev" <;> exact rfl) (by walk_at "ev" <;> exact rfl) (by omega)) (toD_lstO _) ?_
    rw [r1]
    refine ⟨_, GCat_ints (by simp; omega), _, toD_ints _, ?_⟩
    refine w_lNil ⟨rfl, _, e1, ?_⟩
    clear r1 e1
    simp only [sqK, List.getElem?_cons_zero, List.getElem?_cons_succ, List.set_cons_zero, List.set_cons_succ]
    clear k1
    generalize PyData.list (A.map .int) = S6
    clear la A c1 e0 l0
    refine w_st (by walk_at "ev" <;> exact rfl) ?_
    refine w_st (by walk_at "ev" <;> exact rfl) ?_
    have tn := toD_ints ds
    refine w_seq (w_forT (fun i ρ => ∃ (os ls : List Int) (X : OT), ρ = [.d (.int c), .d (.int salt), .d (.int most), .d (.int more), .d (.int n), .d S6, X, .nd .lst (intsO ds), .nd .lst (intsO ls), .nd .lst (intsO os), .no, .no, .no, .no, .no] ∧ calmAt [X] [0] = true ∧ (os ++ ls).Perm (rng n) ∧ os.length = i) (as := List.range n) (enc := fun k : Nat => PyData.int (k : Int)) (by walk_at "ev" <;> exact rfl) ⟨[], rng n, _, rfl, rfl, .refl _, rfl⟩ ?_ ?_)
    · rintro i k ρ2 hk ⟨os, ls, X, rfl, hX, hp, hi⟩
      have hki : k = i ∧ i < n := by
        have := List.getElem?_eq_some_iff.mp hk
        obtain ⟨h1, h2⟩ := this
        simp at h1 h2
        omega
      obtain ⟨rfl, hkn⟩ := hki
      have hlen : ls.length + k = n := by have := hp.length_eq; rw [List.length_append, rng_len] at this; omega
      have gd := g1 (n + 1 + k) (by omega)
      rw [szt_at n1 (by omega), szs_0 n1 hkn] at gd
      obtain ⟨j, hj⟩ : ∃ j : Nat, at' ds ((n + 1 + k : Nat) : Int) = j := ⟨(at' ds ((n + 1 + k : Nat) : Int)).toNat, by omega⟩
      have hj2 : j < ls.length := by omega
      obtain ⟨k2, xs', p1, p2, p3, p4⟩ := pop_ints hj2
      have c2 := pop1_n hj2 (by omega)
      have c3 : (0 : Int) < (ls.length : Int) := by omega
      have ei := atI_os (os := ds) (a := ((n + 1 + k : Nat) : Int)) (by omega) (by omega)
      rw [hj] at ei
      have b1 : (n : Int) + 1 + (k : Int) = ((n + 1 + k : Nat) : Int) := by omega
      have cl : os.length ≤ 1000000 := by omega
      have sn := intsO_snoc os k2
      have fin : (os ++ [k2] ++ xs').Perm (rng n) := by
        refine List.Perm.trans ?_ hp
        rw [List.append_assoc]
        exact List.Perm.append_left _ p3
      have l2 : (os ++ [k2]).length = k + 1 := by simp; omega
      generalize os ++ [k2] = os2 at *
      clear hp hi gd hj hk
      apply exw
      · walk_at "ev" <;> exact rfl
      apply w_nx
      · walk_at "ev" <;> exact rfl
      exact ⟨os2, xs', _, rfl, rfl, fin, l2⟩
    rintro ρ2 ⟨os, ls, X6, rfl, hX, hp, hi⟩
    have hX : calmAt [.d (.int c), .d (.int salt), .d (.int most), .d (.int more), .d (.int n), .d S6, X6, .nd .lst (intsO ds), .nd .lst (intsO []), .nd .lst (intsO os), .no, .no, .no, .no, .no] [6] = true := hX
    have hlen : ls = [] := by
      have := hp.length_eq; rw [List.length_append, rng_len, hi, List.length_range] at this
      exact List.eq_nil_of_length_eq_zero (by omega)
    subst hlen
    rw [List.append_nil] at hp
    have ho := hp
    clear hi hp
    have c1 := rg1_n (n := n - 1) (by omega)
    rw [rgD0] at c1
    refine w_seq (w_asg (w_lcmT (fun k : Nat => OT.nd .tup [.d (.int ((k : Int) + 1)), .d (.int (at' ds ((2 + k : Nat) : Int)))]) (as := List.range (n - 1)) (enc := fun k : Nat => PyData.int (k : Int)) (by clear hX; walk_at "ev" <;> exact rfl) hX (by simp; omega) (fun k hk => ?_) ?_))
    · clear hX
      have hk := List.mem_range.mp hk
      have b3 : (2 : Int) + (k : Int) = ((2 + k : Nat) : Int) := by omega
      have e4 := atI_os (os := ds) (a := ((2 + k : Nat) : Int)) (by omega) (by omega)
      generalize at' ds ((2 + k : Nat) : Int) = y at *
      refine W.of (by walk_at "ev" <;> exact rfl) ?_
      exact ⟨rfl, rfl⟩
    have us : (List.range (n - 1)).map (fun k : Nat => OT.nd .tup [.d (.int ((k : Int) + 1)), .d (.int (at' ds ((2 + k : Nat) : Int)))]) = prsO ((List.range (n - 1)).map fun k : Nat => ((k : Int) + 1, at' ds ((2 + k : Nat) : Int))) := by simp [prsO]
    rw [us]
    have hq : ∀ p ∈ (List.range (n - 1)).map (fun k : Nat => ((k : Int) + 1, at' ds ((2 + k : Nat) : Int))), 0 ≤ p.1 ∧ p.1 < (n : Int) ∧ 0 ≤ p.2 ∧ p.2 < (n : Int) := by
      intro p hp
      obtain ⟨k, hk, e⟩ := List.mem_map.mp hp
      have hk := List.mem_range.mp hk
      subst e
      have := g1 (2 + k) (by omega)
      rw [szt_at n1 (by omega), szs_2 hk] at this
      exact ⟨by simp only []; omega, by simp only []; omega, this.1, by simp only []; omega⟩
    have lq : ((List.range (n - 1)).map (fun k : Nat => ((k : Int) + 1, at' ds ((2 + k : Nat) : Int)))).length = n - 1 := by simp
    generalize (List.range (n - 1)).map (fun k : Nat => ((k : Int) + 1, at' ds ((2 + k : Nat) : Int))) = qs at *
    simp only [sqK, wipeE, rst, List.getElem?_cons_zero, List.getElem?_cons_succ, List.set_cons_zero, List.set_cons_succ]
    clear us hX
    have d1 := g1 1 (by omega)
    rw [szt_at n1 (by omega), szs_1] at d1
    obtain ⟨j, hj⟩ : ∃ j : Nat, at' ds ((1 : Nat) : Int) = (j : Int) := ⟨(at' ds ((1 : Nat) : Int)).toNat, by omega⟩
    have e3 : atI (ds.map PyData.int) 1 = some (.int (j : Nat)) := by
      have := atI_os (os := ds) (a := 1) (by omega) (by omega)
      rw [this]; congr 2
    have b2 : 2 * (n : Int) + 1 = ((2 * n + 1 : Nat) : Int) := by omega
    have two : ((-(2 ^ 64) : Int) < 2 ∧ (2 : Int) < 2 ^ 64) := by decide
    have b4 : ((2 * n + 1 : Nat) : Int) + (j : Int) = ((2 * n + 1 + j : Nat) : Int) := by omega
    have k2 := cut_mid ds (a := 2 * n + 1) (b := 2 * n + 1 + j) (by omega) (by omega)
    have hU : ∀ d ∈ (ds.drop (2 * n + 1)).take (2 * n + 1 + j - (2 * n + 1)), 0 ≤ d ∧ d < (n : Int) * n := by
      intro d hd
      obtain ⟨k, hk, rfl⟩ := List.getElem_of_mem hd
      have hk' : k < j := by simp at hk; omega
      have := g1 (2 * n + 1 + k) (by omega)
      rw [szt_at n1 (by omega), szs_3 n1 (by omega), at'_nat (by omega)] at this
      simpa using this
    have lU : ((ds.drop (2 * n + 1)).take (2 * n + 1 + j - (2 * n + 1))).length = j := by simp; omega
    generalize (ds.drop (2 * n + 1)).take (2 * n + 1 + j - (2 * n + 1)) = U at *
    have pn : (0 : Int) < (n : Int) ∧ (n : Int) < 1073741824 := by omega
    refine w_seq (w_forT (fun i ρ => ∃ (ps : List (Int × Int)) (X : OT), ρ = [.d (.int c), .d (.int salt), .d (.int most), .d (.int more), .d (.int n), .d S6, X6, .nd .lst (intsO ds), .nd .lst (intsO []), .nd .lst (intsO os), .nd .lst (prsO ps), X, .no, .no, .no] ∧ (∀ p ∈ ps, 0 ≤ p.1 ∧ p.1 < (n : Int) ∧ 0 ≤ p.2 ∧ p.2 < (n : Int)) ∧ ps.length = n - 1 + i) (as := U) (enc := PyData.int) (by walk_at "ev" <;> exact rfl) ⟨qs, _, rfl, hq, by omega⟩ ?_ ?_)
    · rintro i d ρ2 hd ⟨ps, X, rfl, hp, lp⟩
      have hdU := hU d (List.mem_of_getElem? hd)
      have hi : i < U.length := (List.getElem?_eq_some_iff.mp hd).1
      have sn := prsO_snoc ps (d / (n : Int)) (d % (n : Int))
      have cl : ps.length ≤ 1000000 := by omega
      have l2 : (ps ++ [(d / (n : Int), d % (n : Int))]).length = n - 1 + (i + 1) := by simp; omega
      have hp2 : ∀ p ∈ ps ++ [(d / (n : Int), d % (n : Int))], 0 ≤ p.1 ∧ p.1 < (n : Int) ∧ 0 ≤ p.2 ∧ p.2 < (n : Int) := by
        intro p hp'
        rcases List.mem_append.mp hp' with hp' | hp'
        · exact hp p hp'
        · rw [List.mem_singleton.mp hp']
          exact ⟨Int.ediv_nonneg hdU.1 (by omega), Int.ediv_lt_of_lt_mul (by omega) hdU.2, Int.emod_nonneg _ (by omega), Int.emod_lt_of_pos _ (by omega)⟩
      generalize ps ++ [(d / (n : Int), d % (n : Int))] = ps2 at *
      clear hp lp hdU hi hd
      apply exw
      · walk_at "ev" <;> exact rfl
      apply w_nx
      · walk_at "ev" <;> exact rfl
      exact ⟨ps2, _, rfl, hp2, l2⟩
    rintro ρ2 ⟨ps, X, rfl, hq2, lp⟩
    have lq2 : ps.length ≤ 120 := by omega
    clear hU lU k2 b4 e3 hj d1 lq hq b2 two
    refine w_st (by walk_at "ev" <;> exact rfl) ?_
    refine w_seq (w_forT (fun i ρ => ∃ (ks : List (Int × Int)) (Z W : OT), ρ = [.d (.int c), .d (.int salt), .d (.int most), .d (.int more), .d (.int n), .d S6, X6, .nd .lst (intsO ds), .nd .lst (intsO []), .nd .lst (intsO os), .d (.list (ps.map pairD)), X, .nd (.dT (ks.map kO)) (trues ks.length), Z, W] ∧ ks.Nodup ∧ ks.length ≤ i ∧ ∀ p ∈ ks, 0 ≤ p.1 ∧ p.1 < p.2 ∧ p.2 < (n : Int)) (as := ps) (enc := pairD) (by walk_at "ev" <;> exact rfl) ⟨[], _, _, rfl, by simp, by simp, by simp⟩ (fun i p ρ2 hp hs => ?_) ?_)
    · obtain ⟨ks, Z, W, rfl, f1, f2, f3⟩ := hs
      have hp2 := hq2 p (List.mem_of_getElem? hp)
      have hi : i < ps.length := (List.getElem?_eq_some_iff.mp hp).1
      apply exw
      · simp only [pairD]
        walk_at "ev" <;> exact rfl
      refine ties_step ho hp2.1 hp2.2.1 hp2.2.2.1 hp2.2.2.2 f1 (by omega) f3 fun ks' f1 f2 f3 => ?_
      exact ⟨ks', _, _, rfl, f1, by omega, f3⟩
    · rintro ρ2 ⟨ks, Z, W, rfl, f1, f2, f3⟩
      have x1 := trues_all ks.length
      have x2 := asKeyPs_map ks
      have x3 : (ks.map kO).length = (trues ks.length).length := by simp [trues]
      refine w_end (by walk_at "ev" <;> exact rfl) rfl ⟨(n, srtL ks), rfl, ⟨⟨fun p hp => f3 p (srtL_mem.mp hp), srtL_lex ks, srtL_nodup f1⟩, n1, n2, by simp only [srtL_len]; omega⟩, by simp only []; omega⟩)
  exact ⟨w, e, h1, h2⟩
end SA
namespace SA
open PySem L2 PL MR SH SQ SB BF
local macro_rules | `(tactic| walk_at "ev") => `(tactic| simp (config := {decide := true}) only [ini, fin, finI, sSeq, sNext, sAsg, sAsgG, sRet, sRetN, sDrop, sIf, sNever, sSetP, sAppP, sClrP, sRevP, fR, pmVar, pmIx, pmIxT, MR.putAt, OT.put, OT.at, gmName, gmTup, gmLst, gsNil, gsCons, rVar, rC, rOp, rUn, rCb, rCbZ, rOpZ, rCall, rAnd, rOr, rNot, rIf, rIs, rCh, rCh3, rTup, rLst, rSl, cNone, cSome, rRepr, dRepr, rInDct, rIdx, rIdxD, iR3s, small, qNil, qCons, qApp, lApp, bR, bAnd, bOr, bNot, tR, tD, tmAnd, tmOr, tmNot, yVar_eq, yMov, yR, yAuto, dY, yD, dR, dOp, dOpR, dCb, dAnd, dOr, dNot, yCall, yCallA, yCallI, yCallIT, yCb, yCbA, yOp, yOpA, lfO, yTup, yLst, oNil, oCons, isNo, lNil, lCons, asB, asInt, asL, asT, iL, iT, iE, iZ, iV, yRng1_eq, iR1_eq, iR2_eq, lcStep, calmAt, wipeE, rst, sApp, yPop_eq, sDPutM, ySortD, yDNew, gmName, toD_d, toD_tup, toD_lst, toDs_nil, toDs_cons, toDs_ints, toDs_fpr, toDs_prs, lfs_ints, lfs_fpr, intsO_len, prsO_len, fprO_len, rng_len, intsO_snoc, prsO_snoc, lstO_rg, rOpZ, rCbZ, isNo_lstO, toD_dnew, ySl, ySlA, neS_self, eqS_self,  rRevL, yRevL, yRevLA, yPop0, sExt, gStrI,  lstO_prs, lstO_ints, toD_lstO, kp_int, kp_bool, kp_tuple, kp_list, kp_str, isIntB, isBoolB, isTupB, isListB, isStrB, gAdd_i, gSub_i, gLt_i, gLe_i, gGt_i, gGe_i, gMul_r, gMul_l, gMod_i, gDiv_i, gPow_i, gNeg, gEqI, gNeI, gEqS, gNeS, gIsN, gNotN, gIsB, gNotB, gIxL, gIxT, gLen, gMax2, gMin2, gInt, gAll, asBools_map, isN, OT.lf, OT.lfs, flat, atI_0, atI_1, ixN_0, ixN_1, rgD_len, enumD_len, trues_len, Int.toNat_natCast, List.length_map, eq_self, Option.bind_some, Option.bind_none, Option.map_some, Option.map_none, List.getElem?_cons_zero, List.getElem?_cons_succ, List.set_cons_zero, List.set_cons_succ, List.map_cons, List.map_nil, List.replicate, List.nil_append, List.cons_append, List.length_cons, List.length_nil, List.all_cons, List.all_nil, if_true, if_false, reduceIte, tfl_int, tfl_bool, tfl_none, tfl_str, tfl_list, Bool.true_and, Bool.and_true, Bool.false_and, Bool.and_false, Bool.true_or, Bool.or_true, Bool.false_or, Bool.or_false, Bool.not_true, Bool.not_false, Bool.false_eq_true, decide_true, decide_false, true_and, and_true, false_and, and_false, or_true, true_or, *])
end SA
namespace SA
open PySem L2 PL MR SH SQ SB BF
local macro_rules | `(tactic| walk_at "ev") => `(tactic| simp (config := {decide := true}) only [ini, fin, finI, sSeq, sNext, sAsg, sAsgG, sRet, sRetN, sDrop, sIf, sNever, sSetP, sAppP, sClrP, sRevP, fR, pmVar, pmIx, pmIxT, MR.putAt, OT.put, OT.at, gmName, gmTup, gmLst, gsNil, gsCons, rVar, rC, rOp, rUn, rCb, rCbZ, rOpZ, rCall, rAnd, rOr, rNot, rIf, rIs, rCh, rCh3, rTup, rLst, rSl, cNone, cSome, rRepr, dRepr, rInDct, rIdx, rIdxD, iR3s, small, qNil, qCons, qApp, lApp, bR, bAnd, bOr, bNot, tR, tD, tmAnd, tmOr, tmNot, yVar_eq, yMov, yR, yAuto, dY, yD, dR, dOp, dOpR, dCb, dAnd, dOr, dNot, yCall, yCallA, yCallI, yCallIT, yCb, yCbA, yOp, yOpA, lfO, yTup, yLst, oNil, oCons, isNo, lNil, lCons, asB, asInt, asL, asT, iL, iT, iE, iZ, iV, yRng1_eq, iR1_eq, iR2_eq, lcStep, calmAt, wipeE, rst, sApp, yPop_eq, sDPutM, ySortD, yDNew, gmName, toD_d, toD_tup, toD_lst, toDs_nil, toDs_cons, toDs_ints, toDs_fpr, toDs_prs, lfs_ints, lfs_fpr, intsO_len, prsO_len, fprO_len, rng_len, intsO_snoc, prsO_snoc, lstO_rg, rOpZ, rCbZ, isNo_lstO, toD_dnew, ySl, ySlA, neS_self, eqS_self,  rRevL, yRevL, yRevLA, yPop0, sExt, gStrI,  lstO_prs, lstO_ints, toD_lstO, kp_int, kp_bool, kp_tuple, kp_list, kp_str, isIntB, isBoolB, isTupB, isListB, isStrB, gAdd_i, gSub_i, gLt_i, gLe_i, gGt_i, gGe_i, gMul_r, gMul_l, gMod_i, gDiv_i, gPow_i, gNeg, gEqI, gNeI, gEqS, gNeS, gIsN, gNotN, gIsB, gNotB, gIxL, gIxT, gLen, gMax2, gMin2, gInt, gAll, asBools_map, isN, OT.lf, OT.lfs, flat, atI_0, atI_1, ixN_0, ixN_1, rgD_len, enumD_len, trues_len, Int.toNat_natCast, List.length_map, eq_self, Option.bind_some, Option.bind_none, Option.map_some, Option.map_none, List.getElem?_cons_zero, List.getElem?_cons_succ, List.set_cons_zero, List.set_cons_succ, List.map_cons, List.map_nil, List.replicate, List.nil_append, List.cons_append, List.length_cons, List.length_nil, List.all_cons, List.all_nil, if_true, if_false, reduceIte, tfl_int, tfl_bool, tfl_none, tfl_str, tfl_list, Bool.true_and, Bool.and_true, Bool.false_and, Bool.and_false, Bool.true_or, Bool.or_true, Bool.false_or, Bool.or_false, Bool.not_true, Bool.not_false, Bool.false_eq_true, decide_true, decide_false, true_and, and_true, false_and, and_false, or_true, true_or, *])
end SA
/-! what is no web, of any data -/
namespace SN
open PySem L2 PL MR SH SQ SB BF SA
local macro_rules | `(tactic| walk_at "ev") => `(tactic| simp (config := {decide := true}) only [ini, fin, finI, sSeq, sNext, sAsg, sAsgG, sRet, sRetN, sDrop, sIf, sNever, sSetP, sAppP, sClrP, sRevP, fR, pmVar, pmIx, pmIxT, MR.putAt, OT.put, OT.at, gmName, gmTup, gmLst, gsNil, gsCons, rVar, rC, rOp, rUn, rCb, rCbZ, rOpZ, rCall, rAnd, rOr, rNot, rIf, rIs, rCh, rCh3, rTup, rLst, rSl, cNone, cSome, rRepr, dRepr, rInDct, rIdx, rIdxD, iR3s, small, qNil, qCons, qApp, lApp, bR, bAnd, bOr, bNot, tR, tD, tmAnd, tmOr, tmNot, yVar_eq, yMov, yR, yAuto, dY, yD, dR, dOp, dOpR, dCb, dAnd, dOr, dNot, yCall, yCallA, yCallI, yCallIT, yCb, yCbA, yOp, yOpA, lfO, yTup, yLst, oNil, oCons, isNo, lNil, lCons, asB, asInt, asL, asT, iL, iT, iE, iZ, iV, yRng1_eq, iR1_eq, iR2_eq, lcStep, calmAt, wipeE, rst, sApp, yPop_eq, sDPutM, ySortD, yDNew, gmName, toD_d, toD_tup, toD_lst, toDs_nil, toDs_cons, toDs_ints, toDs_fpr, toDs_prs, lfs_ints, lfs_fpr, intsO_len, prsO_len, fprO_len, rng_len, intsO_snoc, prsO_snoc, lstO_rg, rOpZ, rCbZ, isNo_lstO, toD_dnew, ySl, ySlA, neS_self, eqS_self,  rRevL, yRevL, yRevLA, yPop0, sExt, gStrI,  lstO_prs, lstO_ints, toD_lstO, kp_int, kp_bool, kp_tuple, kp_list, kp_str, isIntB, isBoolB, isTupB, isListB, isStrB, gAdd_i, gSub_i, gLt_i, gLe_i, gGt_i, gGe_i, gMul_r, gMul_l, gMod_i, gDiv_i, gPow_i, gNeg, gEqI, gNeI, gEqS, gNeS, gIsN, gNotN, gIsB, gNotB, gIxL, gIxT, gLen, gMax2, gMin2, gInt, gAll, asBools_map, isN, OT.lf, OT.lfs, flat, atI_0, atI_1, ixN_0, ixN_1, rgD_len, enumD_len, trues_len, Int.toNat_natCast, List.length_map, eq_self, Option.bind_some, Option.bind_none, Option.map_some, Option.map_none, List.getElem?_cons_zero, List.getElem?_cons_succ, List.set_cons_zero, List.set_cons_succ, List.map_cons, List.map_nil, List.replicate, List.nil_append, List.cons_append, List.length_cons, List.length_nil, List.all_cons, List.all_nil, if_true, if_false, reduceIte, tfl_int, tfl_bool, tfl_none, tfl_str, tfl_list, Bool.true_and, Bool.and_true, Bool.false_and, Bool.and_false, Bool.true_or, Bool.or_true, Bool.false_or, Bool.or_false, Bool.not_true, Bool.not_false, Bool.false_eq_true, decide_true, decide_false, true_and, and_true, false_and, and_false, or_true, true_or, *])
def isW : D → Bool
  | .int _ => true
  | _ => false
def prOf (m : Int) : D → Option (Int × Int)
  | .tuple [.int a, .int b] => if 0 ≤ a ∧ a < b ∧ b < m then some (a, b) else Option.none
  | _ => Option.none
theorem whole_any (d : D) : SH.m_is_whole [d] = some (.d (.bool (isW d))) := by
  unfold SH.m_is_whole SH.B_is_whole
  refine fin_eq ?_
  cases d <;> exact w_end (by walk_at "ev" <;> exact rfl) rfl rfl
theorem joins_any (m : Int) (x : D) : SH.m_joins_places [.int m, x] = some (.d (.bool (prOf m x).isSome)) := by
  cases x
  case tuple ds =>
    match ds with
    | [a, b] =>
      have wa := whole_any a
      have wb := whole_any b
      cases ha : isW a with
      | false =>
        rw [ha] at wa
        have e : prOf m (.tuple [a, b]) = Option.none := by cases a <;> first | rfl | cases ha
        rw [e]
        unfold SH.m_joins_places SH.B_joins_places
        refine fin_eq ?_
        rw [show ini [.int m, .tuple [a, b]] 2 = [.d (.int m), .d (.tuple [a, b]), .no, .no] from rfl]
        clear ha e wb
        refine W.of (by walk_at "ev" <;> exact rfl) ?_
        exact rfl
      | true =>
        cases a with
        | int i =>
          cases hb : isW b with
          | false =>
            rw [hb] at wb
            rw [ha] at wa
            have e : prOf m (.tuple [.int i, b]) = Option.none := by cases b <;> first | rfl | cases hb
            rw [e]
            unfold SH.m_joins_places SH.B_joins_places
            refine fin_eq ?_
            rw [show ini [.int m, .tuple [.int i, b]] 2 = [.d (.int m), .d (.tuple [.int i, b]), .no, .no] from rfl]
            clear ha hb e
            refine W.of (by walk_at "ev" <;> exact rfl) ?_
            exact rfl
          | true =>
            cases b with
            | int j =>
              rw [hb] at wb
              rw [ha] at wa
              clear ha hb
              unfold SH.m_joins_places SH.B_joins_places
              refine fin_eq ?_
              rw [show ini [.int m, .tuple [.int i, .int j]] 2 = [.d (.int m), .d (.tuple [.int i, .int j]), .no, .no] from rfl]
              by_cases c1 : 0 ≤ i
              · by_cases c2 : i < j
                · have e : (prOf m (.tuple [.int i, .int j])).isSome = decide (j < m) := by
                    unfold prOf
                    by_cases c3 : j < m <;> simp [c1, c2, c3]
                  rw [e]
                  clear e
                  refine W.of (by walk_at "ev" <;> exact rfl) ?_
                  exact rfl
                · have e : (prOf m (.tuple [.int i, .int j])).isSome = false := by unfold prOf; simp [c2]
                  rw [e]
                  clear e
                  refine W.of (by walk_at "ev" <;> exact rfl) ?_
                  exact rfl
              · have e : (prOf m (.tuple [.int i, .int j])).isSome = false := by unfold prOf; simp [c1]
                rw [e]
                clear e
                refine W.of (by walk_at "ev" <;> exact rfl) ?_
                exact rfl
            | _ => cases hb
        | _ => cases ha
    | [] =>
      unfold SH.m_joins_places SH.B_joins_places
      refine fin_eq ?_
      refine W.of (by walk_at "ev" <;> exact rfl) ?_
      exact rfl
    | [a] =>
      have e : prOf m (.tuple [a]) = Option.none := by cases a <;> rfl
      rw [e]
      clear e
      unfold SH.m_joins_places SH.B_joins_places
      refine fin_eq ?_
      refine W.of (by walk_at "ev" <;> exact rfl) ?_
      exact rfl
    | a :: b :: c :: ds =>
      have c0 : decide (((ds.length + 1 + 1 + 1 : Nat) : Int) = 2) = false := by simp; omega
      have e : prOf m (.tuple (a :: b :: c :: ds)) = Option.none := by cases a <;> first | rfl | (cases b <;> rfl)
      rw [e]
      clear e
      unfold SH.m_joins_places SH.B_joins_places
      refine fin_eq ?_
      refine W.of (by walk_at "ev" <;> exact rfl) ?_
      exact rfl
  all_goals
    unfold SH.m_joins_places SH.B_joins_places
    refine fin_eq ?_
    refine W.of (by walk_at "ev" <;> exact rfl) ?_
    exact rfl
/-! ### the first tie that is none, or not behind the one ahead -/
def bad (m : Int) (xs : List D) (k : Nat) : Bool := match xs[k]? with
  | Option.none => false
  | some x => match prOf m x with
    | Option.none => true
    | some q => decide (0 < k) && match xs[k - 1]? with
      | Option.none => true
      | some y => match prOf m y with
        | Option.none => true
        | some p => lexLe q p
def firstBad (m : Int) (xs : List D) : Option Nat := (List.range xs.length).find? (bad m xs)
theorem firstBad_some {m : Int} {xs : List D} {i : Nat} (h : ∀ j, j < i → bad m xs j = false) (hi : i < xs.length) (b : bad m xs i = true) : firstBad m xs = some i := by
  unfold firstBad
  rw [List.find?_eq_some_iff_getElem]
  refine ⟨b, i, by simpa using hi, by simp, fun j hj => ?_⟩
  rw [List.getElem_range, h j hj]
  rfl
theorem firstBad_none {m : Int} {xs : List D} (h : ∀ j, j < xs.length → bad m xs j = false) : firstBad m xs = Option.none := by
  unfold firstBad
  rw [List.find?_eq_none]
  intro j hj
  rw [h j (List.mem_range.mp hj)]
  simp
/-- what is at i, no fault ahead -/
theorem at_tie {m : Int} {xs : List D} {i : Nat} {x : D} (h : ∀ j, j < i → bad m xs j = false) (hx : xs[i]? = some x) :
    (prOf m x = Option.none ∧ bad m xs i = true) ∨ (∃ q, prOf m x = some q ∧ i = 0 ∧ bad m xs i = false) ∨ ∃ q k y p, prOf m x = some q ∧ i = k + 1 ∧ xs[k]? = some y ∧ prOf m y = some p ∧ bad m xs i = lexLe q p := by
  cases hp : prOf m x with
  | none => exact .inl ⟨rfl, by unfold bad; rw [hx]; simp only [hp]⟩
  | some q =>
    cases i with
    | zero => exact .inr (.inl ⟨q, rfl, rfl, by unfold bad; rw [hx]; simp only [hp]; simp⟩)
    | succ k =>
      have hk : k < xs.length := by have := (List.getElem?_eq_some_iff.mp hx).1; omega
      have hy : xs[k]? = some xs[k] := List.getElem?_eq_getElem hk
      have bk := h k (by omega)
      have hpy : ∃ p, prOf m xs[k] = some p := by
        cases e : prOf m xs[k] with
        | some p => exact ⟨p, rfl⟩
        | none =>
          unfold bad at bk
          rw [hy] at bk
          simp only [e] at bk
          cases bk
      obtain ⟨p, ep⟩ := hpy
      refine .inr (.inr ⟨q, k, xs[k], p, rfl, rfl, hy, ep, ?_⟩)
      unfold bad
      rw [hx]
      simp only [hp, Nat.add_sub_cancel, hy, ep]
      simp
theorem prOf_eq {m : Int} {x : D} {q : Int × Int} (h : prOf m x = some q) : x = pairD q := by
  unfold prOf at h
  split at h
  · split at h
    · cases h; rfl
    · cases h
  · cases h
abbrev fT (k : Nat) : Str × D := ("ties", PyData.int (k : Nat))
abbrev fW : Option (Str × D) := some ("web", PyData.none)
abbrev fP : Option (Str × D) := some ("places", PyData.none)
abbrev fS : Option (Str × D) := some ("ties", PyData.none)
def fltT (m : Int) (t : D) : Option (Str × D) := match t with
  | .list xs => if xs.length ≤ 120 then (firstBad m xs).map fT else fS
  | _ => fS
def flt : D → Option (Str × D)
  | .tuple [.int m, t] => if 1 ≤ m ∧ m ≤ 40 then fltT m t else fP
  | .tuple [_, _] => fP
  | _ => fW
def fltO : Option (Str × D) → OT
  | Option.none => .d .none
  | some (s, n) => .nd .tup [.d (.str s), .d n]
theorem rest_any {m : Int} {t : D} {xs : List D} (h : xs.length ≤ 120) :
    W (sSeq (sFor (iE (lCons (dY (yVar 2)) lNil)) (gmTup (gsCons (gmName 3) (gsCons (gmName 4) gsNil)))
 (sIf (tR (bOr (bNot (bR (rCall m_joins_places 2 (qCons (rVar 1) (qCons (rVar 4) qNil))))) (bAnd (bR (rOp gGt (rVar 3) (rC (.int 0)))) (bR (rOp gLeT (rVar 4) (rOp gIxL (rVar 2) (rOp gSub (rVar 3) (rC (.int 1)))))))))
 (sRet (yTup (oCons (yR (rC (.str "ties"))) (oCons (yMov 3) oNil))))
 sNext))
 (sRet (yR (rC .none)))) [.d t, .d (.int m), .d (.list xs), .no, .no] (endK fun r => r = fltO ((firstBad m xs).map fT)) := by
  refine w_seq (w_for (fun i ρ => (∀ j, j < i → bad m xs j = false) ∧ ∃ X3 X4, ρ = [.d t, .d (.int m), .d (.list xs), X3, X4]) (xs := enumD xs) (ρ1 := [.d t, .d (.int m), .d (.list xs), .no, .no]) (by walk_at "ev" <;> exact rfl) ⟨fun j hj => by omega, _, _, rfl⟩ (fun i x ρ2 hx hs => ?_) ?_)
  · obtain ⟨hb, X3, X4, rfl⟩ := hs
    obtain ⟨d, hd, rfl⟩ := enumD_at hx
    have j1 := joins_any m d
    refine ⟨[.d t, .d (.int m), .d (.list xs), .d (.int (i : Nat)), .d d], rfl, ?_⟩
    have fin : ∀ Q : Fl → MR.Env → Prop, Q .nx [.d t, .d (.int m), .d (.list xs), .d (.int (i : Nat)), .d d] → W sNext [.d t, .d (.int m), .d (.list xs), .d (.int (i : Nat)), .d d] Q := fun Q q => w_next q
    have ret : bad m xs i = true → W (sRet (yTup (oCons (yR (rC (.str "ties"))) (oCons (yMov 3) oNil)))) [.d t, .d (.int m), .d (.list xs), .d (.int (i : Nat)), .d d] (lpK (fun ρ => (∀ j, j < i + 1 → bad m xs j = false) ∧ ∃ X3 X4, ρ = [.d t, .d (.int m), .d (.list xs), X3, X4]) (sqK (sRet (yR (rC .none))) (endK fun r => r = fltO ((firstBad m xs).map fT)))) := fun b => by
      have e := firstBad_some hb (List.getElem?_eq_some_iff.mp hd).1 b
      rw [e]
      clear e j1 fin hx hb hd b
      refine W.of (by walk_at "ev" <;> exact rfl) ?_
      exact rfl
    rcases at_tie hb hd with ⟨h1, h2⟩ | ⟨q, h1, h2, h3⟩ | ⟨q, k, y, p, h1, h2, h3, h4, h5⟩
    · rw [h1] at j1
      have := ret h2
      clear ret fin hx hb hd h1 h2
      refine w_if (c := true) (ρ1 := [.d t, .d (.int m), .d (.list xs), .d (.int (i : Nat)), .d d]) (by clear this; walk_at "ev" <;> exact rfl) (fun _ => this) (fun z => by cases z)
    · rw [h1] at j1
      subst h2
      refine w_if (c := false) (ρ1 := [.d t, .d (.int m), .d (.list xs), .d (.int ((0 : Nat) : Int)), .d d]) (by clear ret fin hx hb hd h1 h3; walk_at "ev" <;> exact rfl) (fun z => by cases z) (fun _ => ?_)
      refine fin _ ⟨fun j hj => ?_, _, _, rfl⟩
      have : j = 0 := by omega
      rw [this]; exact h3
    · rw [h1] at j1
      have e1 : (i : Int) - 1 = (k : Int) := by omega
      have e2 : decide (0 < (i : Int)) = true := decide_eq_true (by omega)
      have e3 : atI xs (k : Int) = some y := atI_at h3
      have ed := prOf_eq h1
      have ey := prOf_eq h4
      cases hl : lexLe q p with
      | true =>
        rw [hl] at h5
        have := ret h5
        clear ret fin hx hb hd h1 h2 h3 h4 h5
        subst ed ey
        obtain ⟨a, b⟩ := q
        obtain ⟨c, e⟩ := p
        simp only [pairD, Option.isSome_some] at *
        have g1 : gLeT (.tuple [.int a, .int b]) (.tuple [.int c, .int e]) = some (.bool true) := by
          show some (PyData.bool (lexLe (a, b) (c, e))) = _
          rw [hl]
        clear hl
        refine w_if (c := true) (ρ1 := [.d t, .d (.int m), .d (.list xs), .d (.int (i : Nat)), .d (.tuple [.int a, .int b])]) (by clear this; walk_at "ev" <;> exact rfl) (fun _ => this) (fun z => by cases z)
      | false =>
        rw [hl] at h5
        have h6 : ∀ j, j < i + 1 → bad m xs j = false := fun j hj => by
          by_cases c : j = i
          · rw [c]; exact h5
          · exact hb j (by omega)
        clear ret hx hb hd h1 h2 h3 h4 h5
        subst ed ey
        obtain ⟨a, b⟩ := q
        obtain ⟨c, e⟩ := p
        simp only [pairD, Option.isSome_some] at *
        have g1 : gLeT (.tuple [.int a, .int b]) (.tuple [.int c, .int e]) = some (.bool false) := by
          show some (PyData.bool (lexLe (a, b) (c, e))) = _
          rw [hl]
        clear hl
        refine w_if (c := false) (ρ1 := [.d t, .d (.int m), .d (.list xs), .d (.int (i : Nat)), .d (.tuple [.int a, .int b])]) (by clear fin h6; walk_at "ev" <;> exact rfl) (fun z => by cases z) (fun _ => ?_)
        exact fin _ ⟨h6, _, _, rfl⟩
  · rintro ρ2 ⟨hb, X3, X4, rfl⟩
    rw [enumD_len] at hb
    rw [firstBad_none hb]
    clear hb
    simp only [sqK]
    exact w_end (by walk_at "ev" <;> exact rfl) rfl rfl
theorem fault_any (t : D) : SH.m_web_fault [t] = some (fltO (flt t)) := by
  unfold SH.m_web_fault SH.B_web_fault
  refine fin_eq ?_
  rw [show ini [t] 4 = [.d t, .no, .no, .no, .no] from rfl]
  cases t
  case tuple ds =>
    match ds with
    | [] => refine W.of (by walk_at "ev" <;> exact rfl) ?_; exact rfl
    | [a] =>
      have e : flt (.tuple [a]) = fW := by cases a <;> rfl
      rw [e]
      clear e
      refine W.of (by walk_at "ev" <;> exact rfl) ?_
      exact rfl
    | a :: b :: c :: ds =>
      have c0 : decide (((ds.length + 1 + 1 + 1 : Nat) : Int) = 2) = false := by simp; omega
      have e : flt (.tuple (a :: b :: c :: ds)) = fW := by cases a <;> rfl
      rw [e]
      clear e
      refine W.of (by walk_at "ev" <;> exact rfl) ?_
      exact rfl
    | [a, t] =>
      have wa := whole_any a
      refine w_seq (w_if (c := false) (ρ1 := [.d (.tuple [a, t]), .no, .no, .no, .no]) (by clear wa; walk_at "ev" <;> exact rfl) (fun z => by cases z) (fun _ => w_next ?_))
      simp only [sqK]
      refine w_st (ρ1 := [.d (.tuple [a, t]), .d a, .d t, .no, .no]) (by clear wa; walk_at "ev" <;> exact rfl) ?_
      cases ha : isW a with
      | false =>
        rw [ha] at wa
        have e : flt (.tuple [a, t]) = fP := by cases a <;> first | rfl | cases ha
        rw [e]
        clear e ha
        refine W.of (by walk_at "ev" <;> exact rfl) ?_
        exact rfl
      | true =>
        cases a
        case int m =>
          rw [ha] at wa
          clear ha
          by_cases c1 : 1 ≤ m ∧ m ≤ 40
          · have e : flt (.tuple [.int m, t]) = fltT m t := if_pos c1
            rw [e]
            obtain ⟨c1, c2⟩ := c1
            refine w_seq (w_if (c := false) (ρ1 := [.d (.tuple [.int m, t]), .d (.int m), .d t, .no, .no]) (by clear e; walk_at "ev" <;> exact rfl) (fun z => by cases z) (fun _ => w_next ?_))
            simp only [sqK]
            clear wa e c1 c2
            cases t
            case list xs =>
              by_cases c3 : xs.length ≤ 120
              · have e : fltT m (.list xs) = (firstBad m xs).map fT := if_pos c3
                rw [e]
                have d3 : decide (120 < (xs.length : Int)) = false := by simp; omega
                refine w_seq (w_if (c := false) (ρ1 := [.d (.tuple [.int m, .list xs]), .d (.int m), .d (.list xs), .no, .no]) (by clear e; walk_at "ev" <;> exact rfl) (fun z => by cases z) (fun _ => w_next ?_))
                simp only [sqK]
                exact rest_any c3
              · have e : fltT m (.list xs) = fS := if_neg c3
                rw [e]
                have d3 : decide (120 < (xs.length : Int)) = true := by simp; omega
                clear e
                refine W.of (by walk_at "ev" <;> exact rfl) ?_
                exact rfl
            all_goals
              refine W.of (by walk_at "ev" <;> exact rfl) ?_
              exact rfl
          · have e : flt (.tuple [.int m, t]) = fP := if_neg c1
            rw [e]
            clear e
            by_cases d1 : 1 ≤ m
            · have d2 : ¬ m ≤ 40 := fun z => c1 ⟨d1, z⟩
              clear c1
              refine W.of (by walk_at "ev" <;> exact rfl) ?_
              exact rfl
            · clear c1
              refine W.of (by walk_at "ev" <;> exact rfl) ?_
              exact rfl
        all_goals cases ha
  all_goals
    refine W.of (by walk_at "ev" <;> exact rfl) ?_
    exact rfl
end SN
namespace z09
open PySem L2 PL MR SH SQ SB BF SA SN
local macro_rules | `(tactic| walk_at "ev") => `(tactic| simp (config := {decide := true}) only [ini, fin, finI, sSeq, sNext, sAsg, sAsgG, sRet, sRetN, sDrop, sIf, sNever, sSetP, sAppP, sClrP, sRevP, fR, pmVar, pmIx, pmIxT, MR.putAt, OT.put, OT.at, gmName, gmTup, gmLst, gsNil, gsCons, rVar, rC, rOp, rUn, rCb, rCbZ, rOpZ, rCall, rAnd, rOr, rNot, rIf, rIs, rCh, rCh3, rTup, rLst, rSl, cNone, cSome, rRepr, dRepr, rInDct, rIdx, rIdxD, iR3s, small, qNil, qCons, qApp, lApp, bR, bAnd, bOr, bNot, tR, tD, tmAnd, tmOr, tmNot, yVar_eq, yMov, yR, yAuto, dY, yD, dR, dOp, dOpR, dCb, dAnd, dOr, dNot, yCall, yCallA, yCallI, yCallIT, yCb, yCbA, yOp, yOpA, lfO, yTup, yLst, oNil, oCons, isNo, lNil, lCons, asB, asInt, asL, asT, iL, iT, iE, iZ, iV, yRng1_eq, iR1_eq, iR2_eq, lcStep, calmAt, wipeE, rst, sApp, yPop_eq, sDPutM, ySortD, yDNew, gmName, toD_d, toD_tup, toD_lst, toDs_nil, toDs_cons, toDs_ints, toDs_fpr, toDs_prs, lfs_ints, lfs_fpr, intsO_len, prsO_len, fprO_len, rng_len, intsO_snoc, prsO_snoc, lstO_rg, rOpZ, rCbZ, isNo_lstO, toD_dnew, ySl, ySlA, neS_self, eqS_self,  rRevL, yRevL, yRevLA, yPop0, sExt, gStrI,  lstO_prs, lstO_ints, toD_lstO, kp_int, kp_bool, kp_tuple, kp_list, kp_str, isIntB, isBoolB, isTupB, isListB, isStrB, gAdd_i, gSub_i, gLt_i, gLe_i, gGt_i, gGe_i, gMul_r, gMul_l, gMod_i, gDiv_i, gPow_i, gNeg, gEqI, gNeI, gEqS, gNeS, gIsN, gNotN, gIsB, gNotB, gIxL, gIxT, gLen, gMax2, gMin2, gInt, gAll, asBools_map, isN, OT.lf, OT.lfs, flat, atI_0, atI_1, ixN_0, ixN_1, rgD_len, enumD_len, trues_len, Int.toNat_natCast, List.length_map, eq_self, Option.bind_some, Option.bind_none, Option.map_some, Option.map_none, List.getElem?_cons_zero, List.getElem?_cons_succ, List.set_cons_zero, List.set_cons_succ, List.map_cons, List.map_nil, List.replicate, List.nil_append, List.cons_append, List.length_cons, List.length_nil, List.all_cons, List.all_nil, if_true, if_false, reduceIte, tfl_int, tfl_bool, tfl_none, tfl_str, tfl_list, Bool.true_and, Bool.and_true, Bool.false_and, Bool.and_false, Bool.true_or, Bool.or_true, Bool.false_or, Bool.or_false, Bool.not_true, Bool.not_false, Bool.false_eq_true, decide_true, decide_false, true_and, and_true, false_and, and_false, or_true, true_or, *])
theorem lwhole_any (d : D) : m__law_whole [d] = some (.d (.bool (isW d))) := by
  unfold m__law_whole B__law_whole
  refine fin_eq ?_
  cases d <;> exact w_end (by walk_at "ev" <;> exact rfl) rfl rfl
noncomputable def B_tie : Sm :=
 (sSeq (sIf (tR (bOr (bNot (bR (rIs "tuple" (rVar 2)))) (bOr (bR (rOp gNeI (rCb gLen (qCons (rVar 2) qNil)) (rC (.int 2)))) (bOr (bNot (bR (rCall m__law_whole 1 (qCons (rOp gIxT (rVar 2) (rC (.int 0))) qNil)))) (bNot (bR (rCall m__law_whole 1 (qCons (rOp gIxT (rVar 2) (rC (.int 1))) qNil))))))))
 (sRet (yR (rC (.bool false))))
 sNext)
 (sSeq (sIf (tR (bOr (bNot (bR (rCh3 (fun i j => decide (i ≤ j)) (fun i j => decide (i < j)) (fun i j => decide (i < j)) (rC (.int 0)) (rOp gIxT (rVar 2) (rC (.int 0))) (rOp gIxT (rVar 2) (rC (.int 1))) (rOp gIxT (rVar 0) (rC (.int 0)))))) (bR (rOp gLeT (rVar 2) (rVar 1)))))
 (sRet (yR (rC (.bool false))))
 sNext)
 (sAsg 1 (yVar 2))))
theorem c1_true {m : Int} {xs : List D} {X1 : OT} {x : D} (h : ∀ i j : Int, x ≠ .tuple [.int i, .int j]) : (tR (bOr (bNot (bR (rIs "tuple" (rVar 2)))) (bOr (bR (rOp gNeI (rCb gLen (qCons (rVar 2) qNil)) (rC (.int 2)))) (bOr (bNot (bR (rCall m__law_whole 1 (qCons (rOp gIxT (rVar 2) (rC (.int 0))) qNil)))) (bNot (bR (rCall m__law_whole 1 (qCons (rOp gIxT (rVar 2) (rC (.int 1))) qNil)))))))) [.d (.tuple [.int m, .list xs]), X1, .d x] = some (true, [.d (.tuple [.int m, .list xs]), X1, .d x]) := by
  cases x
  case tuple ds =>
    match ds with
    | [a, b] =>
      have wa := lwhole_any a
      have wb := lwhole_any b
      cases ha : isW a with
      | false =>
        rw [ha] at wa
        clear h wb ha
        walk_at "ev" <;> exact rfl
      | true =>
        cases a with
        | int i =>
          cases hb : isW b with
          | false =>
            rw [ha] at wa
            rw [hb] at wb
            clear h ha hb
            walk_at "ev" <;> exact rfl
          | true =>
            cases b with
            | int j => exact (h i j rfl).elim
            | _ => cases hb
        | _ => cases ha
    | [] => clear h; walk_at "ev" <;> exact rfl
    | [a] => clear h; walk_at "ev" <;> exact rfl
    | a :: b :: c :: ds =>
      have c0 : decide (((ds.length + 1 + 1 + 1 : Nat) : Int) = 2) = false := by simp; omega
      clear h
      walk_at "ev" <;> exact rfl
  all_goals
    clear h
    walk_at "ev" <;> exact rfl
theorem c1_false {m : Int} {xs : List D} {X1 : OT} {i j : Int} : (tR (bOr (bNot (bR (rIs "tuple" (rVar 2)))) (bOr (bR (rOp gNeI (rCb gLen (qCons (rVar 2) qNil)) (rC (.int 2)))) (bOr (bNot (bR (rCall m__law_whole 1 (qCons (rOp gIxT (rVar 2) (rC (.int 0))) qNil)))) (bNot (bR (rCall m__law_whole 1 (qCons (rOp gIxT (rVar 2) (rC (.int 1))) qNil)))))))) [.d (.tuple [.int m, .list xs]), X1, .d (.tuple [.int i, .int j])] = some (false, [.d (.tuple [.int m, .list xs]), X1, .d (.tuple [.int i, .int j])]) := by
  have wa := lwhole_any (.int i)
  have wb := lwhole_any (.int j)
  rw [show isW (.int i) = true from rfl] at wa
  rw [show isW (.int j) = true from rfl] at wb
  walk_at "ev" <;> exact rfl
theorem c2_ok {m : Int} {xs : List D} {X1 : OT} {i j : Int} {p : Int × Int} (hp : OT.toD X1 = some (pairD p)) : (tR (bOr (bNot (bR (rCh3 (fun i j => decide (i ≤ j)) (fun i j => decide (i < j)) (fun i j => decide (i < j)) (rC (.int 0)) (rOp gIxT (rVar 2) (rC (.int 0))) (rOp gIxT (rVar 2) (rC (.int 1))) (rOp gIxT (rVar 0) (rC (.int 0)))))) (bR (rOp gLeT (rVar 2) (rVar 1))))) [.d (.tuple [.int m, .list xs]), X1, .d (.tuple [.int i, .int j])] = some (!(decide (0 ≤ i) && (decide (i < j) && decide (j < m))) || lexLe (i, j) p, [.d (.tuple [.int m, .list xs]), X1, .d (.tuple [.int i, .int j])]) := by
  have g : gLeT (.tuple [.int i, .int j]) (pairD p) = some (.bool (lexLe (i, j) p)) := rfl
  generalize pairD p = PP at *
  cases h1 : decide (0 ≤ i) with
  | false => walk_at "ev" <;> exact rfl
  | true =>
    cases h2 : decide (i < j) with
    | false => walk_at "ev" <;> exact rfl
    | true =>
      cases h3 : decide (j < m) with
      | false => walk_at "ev" <;> exact rfl
      | true => walk_at "ev" <;> exact rfl
end z09
namespace z09
open PySem L2 PL MR SH SQ SB BF SA SN
local macro_rules | `(tactic| walk_at "ev") => `(tactic| simp (config := {decide := true}) only [ini, fin, finI, sSeq, sNext, sAsg, sAsgG, sRet, sRetN, sDrop, sIf, sNever, sSetP, sAppP, sClrP, sRevP, fR, pmVar, pmIx, pmIxT, MR.putAt, OT.put, OT.at, gmName, gmTup, gmLst, gsNil, gsCons, rVar, rC, rOp, rUn, rCb, rCbZ, rOpZ, rCall, rAnd, rOr, rNot, rIf, rIs, rCh, rCh3, rTup, rLst, rSl, cNone, cSome, rRepr, dRepr, rInDct, rIdx, rIdxD, iR3s, small, qNil, qCons, qApp, lApp, bR, bAnd, bOr, bNot, tR, tD, tmAnd, tmOr, tmNot, yVar_eq, yMov, yR, yAuto, dY, yD, dR, dOp, dOpR, dCb, dAnd, dOr, dNot, yCall, yCallA, yCallI, yCallIT, yCb, yCbA, yOp, yOpA, lfO, yTup, yLst, oNil, oCons, isNo, lNil, lCons, asB, asInt, asL, asT, iL, iT, iE, iZ, iV, yRng1_eq, iR1_eq, iR2_eq, lcStep, calmAt, wipeE, rst, sApp, yPop_eq, sDPutM, ySortD, yDNew, gmName, toD_d, toD_tup, toD_lst, toDs_nil, toDs_cons, toDs_ints, toDs_fpr, toDs_prs, lfs_ints, lfs_fpr, intsO_len, prsO_len, fprO_len, rng_len, intsO_snoc, prsO_snoc, lstO_rg, rOpZ, rCbZ, isNo_lstO, toD_dnew, ySl, ySlA, neS_self, eqS_self,  rRevL, yRevL, yRevLA, yPop0, sExt, gStrI,  lstO_prs, lstO_ints, toD_lstO, kp_int, kp_bool, kp_tuple, kp_list, kp_str, isIntB, isBoolB, isTupB, isListB, isStrB, gAdd_i, gSub_i, gLt_i, gLe_i, gGt_i, gGe_i, gMul_r, gMul_l, gMod_i, gDiv_i, gPow_i, gNeg, gEqI, gNeI, gEqS, gNeS, gIsN, gNotN, gIsB, gNotB, gIxL, gIxT, gLen, gMax2, gMin2, gInt, gAll, asBools_map, isN, OT.lf, OT.lfs, flat, atI_0, atI_1, ixN_0, ixN_1, rgD_len, enumD_len, trues_len, Int.toNat_natCast, List.length_map, eq_self, Option.bind_some, Option.bind_none, Option.map_some, Option.map_none, List.getElem?_cons_zero, List.getElem?_cons_succ, List.set_cons_zero, List.set_cons_succ, List.map_cons, List.map_nil, List.replicate, List.nil_append, List.cons_append, List.length_cons, List.length_nil, List.all_cons, List.all_nil, if_true, if_false, reduceIte, tfl_int, tfl_bool, tfl_none, tfl_str, tfl_list, Bool.true_and, Bool.and_true, Bool.false_and, Bool.and_false, Bool.true_or, Bool.or_true, Bool.false_or, Bool.or_false, Bool.not_true, Bool.not_false, Bool.false_eq_true, decide_true, decide_false, true_and, and_true, false_and, and_false, or_true, true_or, *])
theorem bad_none {m : Int} {xs : List D} {k : Nat} {x : D} (hx : xs[k]? = some x) (h : prOf m x = Option.none) : bad m xs k = true := by
  unfold bad
  rw [hx]
  simp only [h]
theorem bad_zero {m : Int} {xs : List D} {x : D} {q : Int × Int} (hx : xs[0]? = some x) (h : prOf m x = some q) : bad m xs 0 = false := by
  unfold bad
  rw [hx]
  simp only [h]
  simp
theorem bad_succ {m : Int} {xs : List D} {l : Nat} {x y : D} {q p : Int × Int} (hx : xs[l + 1]? = some x) (h : prOf m x = some q) (hy : xs[l]? = some y) (h2 : prOf m y = some p) : bad m xs (l + 1) = lexLe q p := by
  unfold bad
  rw [hx]
  simp only [h, Nat.add_sub_cancel, hy, h2]
  simp
/-- the tie ahead -/
def Ah (m : Int) (xs : List D) (k : Nat) (X1 : OT) : Prop := ∃ p : Int × Int, OT.toD X1 = some (pairD p) ∧ (k = 0 → p = (-1, -1)) ∧ ∀ l, k = l + 1 → ∃ y, xs[l]? = some y ∧ prOf m y = some p
theorem prOf_pair (m i j : Int) : prOf m (.tuple [.int i, .int j]) = if 0 ≤ i ∧ i < j ∧ j < m then some (i, j) else Option.none := rfl
theorem chain_eq (m i j : Int) : (decide (0 ≤ i) && (decide (i < j) && decide (j < m))) = (prOf m (.tuple [.int i, .int j])).isSome := by
  rw [prOf_pair]
  by_cases h1 : 0 ≤ i <;> by_cases h2 : i < j <;> by_cases h3 : j < m <;> simp [h1, h2, h3]
theorem loop_ok {m : Int} {xs : List D} : W (sSeq (sAsg 1 (yTup (oCons (yR (rUn gNeg (rC (.int 1)))) (oCons (yR (rUn gNeg (rC (.int 1)))) oNil))))
 (sSeq (sFor (iL (dY (yAuto (rOp gIxT (rVar 0) (rC (.int 1))) (yD (dOpR gIxT (dY (yVar 0)) (rC (.int 1))))))) (gmName 2)
 (sSeq (sIf (tR (bOr (bNot (bR (rIs "tuple" (rVar 2)))) (bOr (bR (rOp gNeI (rCb gLen (qCons (rVar 2) qNil)) (rC (.int 2)))) (bOr (bNot (bR (rCall m__law_whole 1 (qCons (rOp gIxT (rVar 2) (rC (.int 0))) qNil)))) (bNot (bR (rCall m__law_whole 1 (qCons (rOp gIxT (rVar 2) (rC (.int 1))) qNil))))))))
 (sRet (yR (rC (.bool false))))
 sNext)
 (sSeq (sIf (tR (bOr (bNot (bR (rCh3 (fun i j => decide (i ≤ j)) (fun i j => decide (i < j)) (fun i j => decide (i < j)) (rC (.int 0)) (rOp gIxT (rVar 2) (rC (.int 0))) (rOp gIxT (rVar 2) (rC (.int 1))) (rOp gIxT (rVar 0) (rC (.int 0)))))) (bR (rOp gLeT (rVar 2) (rVar 1)))))
 (sRet (yR (rC (.bool false))))
 sNext)
 (sAsg 1 (yVar 2)))))
 (sRet (yR (rC (.bool true)))))) [.d (.tuple [.int m, .list xs]), .no, .no] (endK fun r => r = .d (.bool (firstBad m xs).isNone)) := by
  refine w_st (ρ1 := [.d (.tuple [.int m, .list xs]), .nd .tup [.d (.int (-1)), .d (.int (-1))], .no]) (by walk_at "ev" <;> exact rfl) ?_
  refine w_seq (w_for (fun k ρ => (∀ j, j < k → bad m xs j = false) ∧ ∃ X1 X2, Ah m xs k X1 ∧ ρ = [.d (.tuple [.int m, .list xs]), X1, X2]) (xs := xs) (ρ1 := [.d (.tuple [.int m, .list xs]), .nd .tup [.d (.int (-1)), .d (.int (-1))], .no]) (by walk_at "ev" <;> exact rfl) ⟨fun j hj => by omega, _, _, ⟨(-1, -1), by simp [toD_tup, toDs_cons, toDs_nil, toD_d, pairD], fun _ => rfl, fun l hl => by omega⟩, rfl⟩ (fun k x ρ2 hx hs => ?_) ?_)
  · obtain ⟨hb, X1, X2, ⟨p, hp, p0, p1⟩, rfl⟩ := hs
    refine ⟨[.d (.tuple [.int m, .list xs]), X1, .d x], rfl, ?_⟩
    have hk : k < xs.length := (List.getElem?_eq_some_iff.mp hx).1
    have ret : bad m xs k = true → W (sRet (yR (rC (.bool false)))) [.d (.tuple [.int m, .list xs]), X1, .d x] (endK fun r => r = .d (.bool (firstBad m xs).isNone)) := fun b => by
      rw [firstBad_some hb hk b]
      clear p0 p1 hx hb b hp
      exact w_end (by walk_at "ev" <;> exact rfl) rfl rfl
    have B : W B_tie [.d (.tuple [.int m, .list xs]), X1, .d x] (lpK (fun ρ => (∀ j, j < k + 1 → bad m xs j = false) ∧ ∃ X1 X2, Ah m xs (k + 1) X1 ∧ ρ = [.d (.tuple [.int m, .list xs]), X1, X2]) (sqK (sRet (yR (rC (.bool true)))) (endK fun r => r = .d (.bool (firstBad m xs).isNone)))) := by
      unfold B_tie
      by_cases hn : ∃ i j : Int, x = .tuple [.int i, .int j]
      · obtain ⟨i, j, rfl⟩ := hn
        refine w_seq (w_if c1_false (fun z => by cases z) (fun _ => w_next ?_))
        simp only [sqK]
        have c2 := c2_ok (m := m) (xs := xs) (i := i) (j := j) hp
        rw [chain_eq] at c2
        cases hq : prOf m (.tuple [.int i, .int j]) with
        | none =>
          rw [hq] at c2
          obtain ⟨fl, ρ', e, q⟩ := ret (bad_none hx hq)
          refine w_seq (w_if c2 (fun _ => ⟨fl, ρ', e, ?_⟩) (fun z => by cases z))
          cases fl <;> first | exact q | cases q
        | some q =>
          have eq := prOf_eq hq
          obtain ⟨a, b⟩ := q
          obtain ⟨ei, ej⟩ : i = a ∧ j = b := by
            have : PyData.tuple [.int i, .int j] = .tuple [.int a, .int b] := eq
            simpa using this
          subst ei ej
          rw [hq] at c2
          have hlex : bad m xs k = lexLe (i, j) p := by
            cases k with
            | zero =>
              rw [bad_zero hx hq, p0 rfl]
              have : 0 ≤ i := by
                rw [prOf_pair] at hq
                split at hq
                · omega
                · cases hq
              unfold lexLe
              simp
              omega
            | succ l =>
              obtain ⟨y, hy, hyp⟩ := p1 l rfl
              exact bad_succ hx hq hy hyp
          cases hl : lexLe (i, j) p with
          | true =>
            rw [hl] at c2 hlex
            obtain ⟨fl, ρ', e, q⟩ := ret hlex
            refine w_seq (w_if c2 (fun _ => ⟨fl, ρ', e, ?_⟩) (fun z => by cases z))
            cases fl <;> first | exact q | cases q
          | false =>
            rw [hl] at c2 hlex
            refine w_seq (w_if c2 (fun z => by cases z) (fun _ => w_next ?_))
            simp only [sqK]
            refine W.of (r := .nx) (ρ' := [.d (.tuple [.int m, .list xs]), .d (.tuple [.int i, .int j]), .d (.tuple [.int i, .int j])]) (by clear ret p0 p1 hx hb hp c2 hlex hl hq eq; walk_at "ev" <;> exact rfl) ?_
            refine ⟨fun l hl2 => ?_, _, _, ⟨(i, j), toD_d _, fun z => by omega, fun l hl2 => ⟨.tuple [.int i, .int j], ?_, hq⟩⟩, rfl⟩
            · by_cases c : l = k
              · rw [c]; exact hlex
              · exact hb l (by omega)
            · have : l = k := by omega
              rw [this]; exact hx
      · have hq : prOf m x = Option.none := by
          cases h : prOf m x with
          | none => rfl
          | some q => exact (hn ⟨q.1, q.2, prOf_eq h⟩).elim
        obtain ⟨fl, ρ', e, q⟩ := ret (bad_none hx hq)
        refine w_seq (w_if (c1_true fun i j h => hn ⟨i, j, h⟩) (fun _ => ⟨fl, ρ', e, ?_⟩) (fun z => by cases z))
        cases fl <;> first | exact q | cases q
    exact B
  · rintro ρ2 ⟨hb, X1, X2, _, rfl⟩
    rw [firstBad_none hb]
    clear hb
    simp only [sqK]
    exact w_end (by walk_at "ev" <;> exact rfl) rfl rfl
end z09
namespace z09
open PySem L2 PL MR SH SQ SB BF SA SN
local macro_rules | `(tactic| walk_at "ev") => `(tactic| simp (config := {decide := true}) only [ini, fin, finI, sSeq, sNext, sAsg, sAsgG, sRet, sRetN, sDrop, sIf, sNever, sSetP, sAppP, sClrP, sRevP, fR, pmVar, pmIx, pmIxT, MR.putAt, OT.put, OT.at, gmName, gmTup, gmLst, gsNil, gsCons, rVar, rC, rOp, rUn, rCb, rCbZ, rOpZ, rCall, rAnd, rOr, rNot, rIf, rIs, rCh, rCh3, rTup, rLst, rSl, cNone, cSome, rRepr, dRepr, rInDct, rIdx, rIdxD, iR3s, small, qNil, qCons, qApp, lApp, bR, bAnd, bOr, bNot, tR, tD, tmAnd, tmOr, tmNot, yVar_eq, yMov, yR, yAuto, dY, yD, dR, dOp, dOpR, dCb, dAnd, dOr, dNot, yCall, yCallA, yCallI, yCallIT, yCb, yCbA, yOp, yOpA, lfO, yTup, yLst, oNil, oCons, isNo, lNil, lCons, asB, asInt, asL, asT, iL, iT, iE, iZ, iV, yRng1_eq, iR1_eq, iR2_eq, lcStep, calmAt, wipeE, rst, sApp, yPop_eq, sDPutM, ySortD, yDNew, gmName, toD_d, toD_tup, toD_lst, toDs_nil, toDs_cons, toDs_ints, toDs_fpr, toDs_prs, lfs_ints, lfs_fpr, intsO_len, prsO_len, fprO_len, rng_len, intsO_snoc, prsO_snoc, lstO_rg, rOpZ, rCbZ, isNo_lstO, toD_dnew, ySl, ySlA, neS_self, eqS_self,  rRevL, yRevL, yRevLA, yPop0, sExt, gStrI,  lstO_prs, lstO_ints, toD_lstO, kp_int, kp_bool, kp_tuple, kp_list, kp_str, isIntB, isBoolB, isTupB, isListB, isStrB, gAdd_i, gSub_i, gLt_i, gLe_i, gGt_i, gGe_i, gMul_r, gMul_l, gMod_i, gDiv_i, gPow_i, gNeg, gEqI, gNeI, gEqS, gNeS, gIsN, gNotN, gIsB, gNotB, gIxL, gIxT, gLen, gMax2, gMin2, gInt, gAll, asBools_map, isN, OT.lf, OT.lfs, flat, atI_0, atI_1, ixN_0, ixN_1, rgD_len, enumD_len, trues_len, Int.toNat_natCast, List.length_map, eq_self, Option.bind_some, Option.bind_none, Option.map_some, Option.map_none, List.getElem?_cons_zero, List.getElem?_cons_succ, List.set_cons_zero, List.set_cons_succ, List.map_cons, List.map_nil, List.replicate, List.nil_append, List.cons_append, List.length_cons, List.length_nil, List.all_cons, List.all_nil, if_true, if_false, reduceIte, tfl_int, tfl_bool, tfl_none, tfl_str, tfl_list, Bool.true_and, Bool.and_true, Bool.false_and, Bool.and_false, Bool.true_or, Bool.or_true, Bool.false_or, Bool.or_false, Bool.not_true, Bool.not_false, Bool.false_eq_true, decide_true, decide_false, true_and, and_true, false_and, and_false, or_true, true_or, *])
theorem isweb_any (t : D) : m__law_is_web [t] = some (.d (.bool (flt t).isNone)) := by
  unfold m__law_is_web B__law_is_web
  refine fin_eq ?_
  rw [show ini [t] 2 = [.d t, .no, .no] from rfl]
  cases t
  case tuple ds =>
    match ds with
    | [] => refine W.of (by walk_at "ev" <;> exact rfl) ?_; exact rfl
    | [a] =>
      have e : flt (.tuple [a]) = fW := by cases a <;> rfl
      rw [e]
      clear e
      refine W.of (by walk_at "ev" <;> exact rfl) ?_
      exact rfl
    | a :: b :: c :: ds =>
      have c0 : decide (((ds.length + 1 + 1 + 1 : Nat) : Int) = 2) = false := by simp; omega
      have e : flt (.tuple (a :: b :: c :: ds)) = fW := by cases a <;> rfl
      rw [e]
      clear e
      refine W.of (by walk_at "ev" <;> exact rfl) ?_
      exact rfl
    | [a, t] =>
      have wa := lwhole_any a
      cases ha : isW a with
      | false =>
        rw [ha] at wa
        have e : flt (.tuple [a, t]) = fP := by cases a <;> first | rfl | cases ha
        rw [e]
        clear e ha
        refine W.of (by walk_at "ev" <;> exact rfl) ?_
        exact rfl
      | true =>
        cases a
        case int m =>
          rw [ha] at wa
          clear ha
          by_cases c1 : 1 ≤ m ∧ m ≤ 40
          · have e : flt (.tuple [.int m, t]) = fltT m t := if_pos c1
            rw [e]
            have d1 : decide (1 ≤ m) = true := decide_eq_true c1.1
            have d2 : decide (m ≤ 40) = true := decide_eq_true c1.2
            refine w_seq (w_if (c := false) (ρ1 := [.d (.tuple [.int m, t]), .no, .no]) (by clear e c1; walk_at "ev" <;> exact rfl) (fun z => by cases z) (fun _ => w_next ?_))
            simp only [sqK]
            clear wa e c1 d1 d2
            cases t
            case list xs =>
              by_cases c3 : xs.length ≤ 120
              · have e : fltT m (.list xs) = (firstBad m xs).map fT := if_pos c3
                rw [e]
                have d3 : decide (120 < (xs.length : Int)) = false := by simp; omega
                refine w_seq (w_if (c := false) (ρ1 := [.d (.tuple [.int m, .list xs]), .no, .no]) (by clear e; walk_at "ev" <;> exact rfl) (fun z => by cases z) (fun _ => w_next ?_))
                simp only [sqK]
                rw [Option.isNone_map]
                exact loop_ok
              · have e : fltT m (.list xs) = fS := if_neg c3
                rw [e]
                have d3 : decide (120 < (xs.length : Int)) = true := by simp; omega
                clear e
                refine W.of (by walk_at "ev" <;> exact rfl) ?_
                exact rfl
            all_goals
              refine W.of (by walk_at "ev" <;> exact rfl) ?_
              exact rfl
          · have e : flt (.tuple [.int m, t]) = fP := if_neg c1
            rw [e]
            clear e
            by_cases d1 : 1 ≤ m
            · have d2 : decide (m ≤ 40) = false := decide_eq_false (by omega)
              have d1 : decide (1 ≤ m) = true := decide_eq_true d1
              clear c1
              refine W.of (by walk_at "ev" <;> exact rfl) ?_
              exact rfl
            · have d1 : decide (1 ≤ m) = false := decide_eq_false d1
              clear c1
              refine W.of (by walk_at "ev" <;> exact rfl) ?_
              exact rfl
        all_goals cases ha
  all_goals
    refine W.of (by walk_at "ev" <;> exact rfl) ?_
    exact rfl
/-! the first thing that is no web -/
def gW : D → Option D
  | .tuple [.int i, x] => if (flt x).isNone then Option.none else some (.int i)
  | _ => Option.none
def wflt : D → Option D
  | .list xs => if xs.length ≤ 12 then (enumD xs).findSome? gW else some .none
  | _ => some .none
theorem fs_at {g : D → Option D} : ∀ {l : List D} {i : Nat} {x v : D}, (∀ (j : Nat) (y : D), j < i → l[j]? = some y → g y = Option.none) → l[i]? = some x → g x = some v → l.findSome? g = some v
  | [], i, x, v, _, hx, _ => by simp at hx
  | y :: l, 0, x, v, _, hx, hv => by
    simp at hx
    subst hx
    simp [List.findSome?_cons, hv]
  | y :: l, i + 1, x, v, h, hx, hv => by
    have h0 := h 0 y (by omega) rfl
    rw [List.findSome?_cons, h0]
    exact fs_at (i := i) (fun j z hj hz => h (j + 1) z (by omega) (by simpa using hz)) (by simpa using hx) hv
theorem fs_none {g : D → Option D} {l : List D} (h : ∀ (j : Nat) (y : D), l[j]? = some y → g y = Option.none) : l.findSome? g = Option.none := by
  rw [List.findSome?_eq_none_iff]
  intro y hy
  obtain ⟨j, hj, e⟩ := List.mem_iff_getElem.mp hy
  exact h j y (by rw [List.getElem?_eq_getElem hj, e])
def tldW : Option D → Except Xc OT
  | Option.none => .ok (.d .none)
  | some n => .error ⟨"NoWebs", [("number", n)]⟩
theorem raiseW {r : Rm} {ρ : MR.Env} {n : D} (h : r ρ = some n) (w : wrtD n = true) : sRaiseF "NoWebs" ["number"] (qCons r qNil) ρ = some (.xc ⟨"NoWebs", [("number", n)]⟩, ρ) := by
  have q : qCons r qNil ρ = some [n] := by
    unfold qCons
    rw [h]
    rfl
  unfold sRaiseF
  rw [q]
  show (if 1 = 1 ∧ ([n].all wrtD) = true then _ else _) = _
  rw [if_pos ⟨rfl, by simp [w]⟩]
  rfl
/-- what ends with what is told -/
def EX (P : Except Xc OT → Prop) : Fl → MR.Env → Prop
  | .nx, _ => P (.ok (.d .none))
  | .xc x, _ => P (.error x)
  | _, _ => False
theorem finX_eq {B : Sm} {ρ : MR.Env} {r : Except Xc OT} (h : W B ρ (EX fun x => x = r)) : finX (B ρ) = some r := by
  obtain ⟨fl, ρ', e, q⟩ := h
  rw [e]
  cases fl with
  | nx => have : Except.ok (OT.d .none) = r := q; rw [← this]; rfl
  | xc x => have : Except.error x = r := q; rw [← this]; rfl
  | _ => exact q.elim
theorem gW_of (i : Nat) (x : D) : gW (.tuple [.int (i : Nat), x]) = if (flt x).isNone then Option.none else some (.int (i : Nat)) := rfl
theorem look_any (t : D) : m_look_at_webs__x [t] = some (tldW (wflt t)) := by
  unfold m_look_at_webs__x B_look_at_webs__x
  refine finX_eq ?_
  rw [show ini [t] 2 = [.d t, .no, .no] from rfl]
  have rn : sRaiseF "NoWebs" ["number"] (qCons (rC .none) qNil) [.d t, .no, .no] = _ := raiseW (n := .none) rfl rfl
  by_cases hl : ∃ xs, t = .list xs ∧ xs.length ≤ 12
  · obtain ⟨xs, rfl, h12⟩ := hl
    have e : wflt (.list xs) = (enumD xs).findSome? gW := if_pos h12
    rw [e]
    clear e rn
    have d3 : decide (12 < (xs.length : Int)) = false := by simp; omega
    refine w_seq (w_if (c := false) (ρ1 := [.d (.list xs), .no, .no]) (by walk_at "ev" <;> exact rfl) (fun z => by cases z) (fun _ => w_next ?_))
    simp only [sqK]
    clear d3
    refine w_for (fun i ρ => (∀ (j : Nat) (y : D), j < i → (enumD xs)[j]? = some y → gW y = Option.none) ∧ ∃ X1 X2, ρ = [.d (.list xs), X1, X2]) (xs := enumD xs) (ρ1 := [.d (.list xs), .no, .no]) (by walk_at "ev" <;> exact rfl) ⟨fun j y hj => by omega, _, _, rfl⟩ (fun i x ρ2 hx hs => ?_) ?_
    · obtain ⟨hb, X1, X2, rfl⟩ := hs
      have hx0 := hx
      obtain ⟨d, hd, rfl⟩ := enumD_at hx
      have j1 := fault_any d
      refine ⟨[.d (.list xs), .d (.int (i : Nat)), .d d], rfl, ?_⟩
      have hi : i < xs.length := (List.getElem?_eq_some_iff.mp hd).1
      cases hf : flt d with
      | none =>
        rw [hf] at j1
        have j1 : SH.m_web_fault [d] = some (.d .none) := j1
        refine w_if (c := false) (ρ1 := [.d (.list xs), .d (.int (i : Nat)), .d d]) (by clear hb hx hx0 hd hf; walk_at "ev" <;> exact rfl) (fun z => by cases z) (fun _ => w_next ⟨fun j y hj hy => ?_, _, _, rfl⟩)
        by_cases c : j = i
        · rw [c, hx0] at hy
          cases hy
          rw [gW_of, hf]
          rfl
        · exact hb j y (by omega) hy
      | some p =>
        obtain ⟨s, n⟩ := p
        rw [hf] at j1
        have j1 : SH.m_web_fault [d] = some (.nd .tup [.d (.str s), .d n]) := j1
        have gv : gW (.tuple [.int (i : Nat), d]) = some (.int (i : Nat)) := by rw [gW_of, hf]; rfl
        have ev := fs_at hb hx0 gv
        refine w_if (c := true) (ρ1 := [.d (.list xs), .d (.int (i : Nat)), .d d]) (by clear hb hx hx0 hd hf gv ev; walk_at "ev" <;> exact rfl) (fun _ => ?_) (fun z => by cases z)
        refine W.of (raiseW (n := .int (i : Nat)) rfl ?_) ?_
        · show decide ((i : Int).natAbs.log2 < 1920) = true
          exact decide_eq_true (log2_lt (by rw [Int.natAbs_natCast]; exact Nat.lt_of_lt_of_le (show i < 12 by omega) (by decide)))
        · show Except.error _ = tldW _
          rw [ev]
          rfl
    · rintro ρ2 ⟨hb, X1, X2, rfl⟩
      rw [fs_none fun j y hy => hb j y (List.getElem?_eq_some_iff.mp hy).1 hy]
      exact rfl
  · have e : wflt t = some .none := by
      cases t with
      | list xs => exact if_neg fun h => hl ⟨xs, rfl, h⟩
      | _ => rfl
    rw [e]
    clear e
    have cnd : (tR (bOr (bNot (bR (rIs "list" (rVar 0)))) (bR (rOp gGt (rCb gLen (qCons (rVar 0) qNil)) (rC (.int 12)))))) [.d t, .no, .no] = some (true, [.d t, .no, .no]) := by
      cases t with
      | list xs =>
        have d3 : decide (12 < (xs.length : Int)) = true := by
          simp
          have : ¬ xs.length ≤ 12 := fun h => hl ⟨xs, rfl, h⟩
          omega
        clear hl rn
        walk_at "ev" <;> exact rfl
      | _ =>
        clear hl rn
        walk_at "ev" <;> exact rfl
    refine w_seq (w_if cnd (fun _ => W.of rn ?_) (fun z => by cases z))
    exact rfl
end z09
/-! data whose repr stands: texts and empty dicts too -/
namespace SN
open PySem L2 PL MR SH SQ SB BF SA
local macro_rules | `(tactic| walk_at "ev") => `(tactic| simp (config := {decide := true}) only [ini, fin, finI, sSeq, sNext, sAsg, sAsgG, sRet, sRetN, sDrop, sIf, sNever, sSetP, sAppP, sClrP, sRevP, fR, pmVar, pmIx, pmIxT, MR.putAt, OT.put, OT.at, gmName, gmTup, gmLst, gsNil, gsCons, rVar, rC, rOp, rUn, rCb, rCbZ, rOpZ, rCall, rAnd, rOr, rNot, rIf, rIs, rCh, rCh3, rTup, rLst, rSl, cNone, cSome, rRepr, dRepr, rInDct, rIdx, rIdxD, iR3s, small, qNil, qCons, qApp, lApp, bR, bAnd, bOr, bNot, tR, tD, tmAnd, tmOr, tmNot, yVar_eq, yMov, yR, yAuto, dY, yD, dR, dOp, dOpR, dCb, dAnd, dOr, dNot, yCall, yCallA, yCallI, yCallIT, yCb, yCbA, yOp, yOpA, lfO, yTup, yLst, oNil, oCons, isNo, lNil, lCons, asB, asInt, asL, asT, iL, iT, iE, iZ, iV, yRng1_eq, iR1_eq, iR2_eq, lcStep, calmAt, wipeE, rst, sApp, yPop_eq, sDPutM, ySortD, yDNew, gmName, toD_d, toD_tup, toD_lst, toDs_nil, toDs_cons, toDs_ints, toDs_fpr, toDs_prs, lfs_ints, lfs_fpr, intsO_len, prsO_len, fprO_len, rng_len, intsO_snoc, prsO_snoc, lstO_rg, rOpZ, rCbZ, isNo_lstO, toD_dnew, ySl, ySlA, neS_self, eqS_self,  rRevL, yRevL, yRevLA, yPop0, sExt, gStrI,  lstO_prs, lstO_ints, toD_lstO, kp_int, kp_bool, kp_tuple, kp_list, kp_str, isIntB, isBoolB, isTupB, isListB, isStrB, gAdd_i, gSub_i, gLt_i, gLe_i, gGt_i, gGe_i, gMul_r, gMul_l, gMod_i, gDiv_i, gPow_i, gNeg, gEqI, gNeI, gEqS, gNeS, gIsN, gNotN, gIsB, gNotB, gIxL, gIxT, gLen, gMax2, gMin2, gInt, gAll, asBools_map, isN, OT.lf, OT.lfs, flat, atI_0, atI_1, ixN_0, ixN_1, rgD_len, enumD_len, trues_len, Int.toNat_natCast, List.length_map, eq_self, Option.bind_some, Option.bind_none, Option.map_some, Option.map_none, List.getElem?_cons_zero, List.getElem?_cons_succ, List.set_cons_zero, List.set_cons_succ, List.map_cons, List.map_nil, List.replicate, List.nil_append, List.cons_append, List.length_cons, List.length_nil, List.all_cons, List.all_nil, if_true, if_false, reduceIte, tfl_int, tfl_bool, tfl_none, tfl_str, tfl_list, Bool.true_and, Bool.and_true, Bool.false_and, Bool.and_false, Bool.true_or, Bool.or_true, Bool.false_or, Bool.or_false, Bool.not_true, Bool.not_false, Bool.false_eq_true, decide_true, decide_false, true_and, and_true, false_and, and_false, or_true, true_or, *])
/-- data whose repr stands -/
structure Shw (d : D) : Prop where
  lay : layN d = true
  dep : d.depth ≤ 60
  sh : d.showable = true
  len : d.shown.length ≤ sizeLine
theorem Shw.repr {d : D} (h : Shw d) : gReprN d = some (.str d.shown) := by
  unfold gReprN
  rw [h.lay, decide_eq_true h.dep, h.sh, decide_eq_true h.len]
  rfl
mutual
def smN : D → Bool
  | .none => true
  | .bool _ => true
  | .int i => decide (i.natAbs < 10 ^ 60)
  | .str x => x.cps.toList.all fun c => decide (c < 16 ^ 8)
  | .list xs => smNAll xs
  | .tuple xs => smNAll xs
  | .dict kvs => kvs.isEmpty
def smNAll : List D → Bool
  | [] => true
  | x :: xs => smN x && smNAll xs
end
mutual
theorem smN_ok : ∀ d : D, smN d = true → layN d = true ∧ d.showable = true ∧ d.leavesShort 61 = true
  | .none, _ => by simp [layN, PyData.showable, PyData.leavesShort]
  | .bool _, _ => by simp [layN, PyData.showable, PyData.leavesShort]
  | .int i, h => by
    have h : i.natAbs < 10 ^ 60 := by simpa only [smN, decide_eq_true_eq] using h
    have e := int_showable h
    have e2 := shown_int60 h
    simp only [layN, PyData.showable, PyData.leavesShort, decide_eq_true_eq]
    exact ⟨trivial, e, e2⟩
  | .str x, h => by
    refine ⟨by simp [layN], by simp [PyData.showable], ?_⟩
    simpa only [smN, PyData.leavesShort] using h
  | .list xs, h => by
    have := smNAll_ok xs (by simpa [smN] using h)
    simpa [layN, PyData.showable, PyData.leavesShort] using this
  | .tuple xs, h => by
    have := smNAll_ok xs (by simpa [smN] using h)
    simpa [layN, PyData.showable, PyData.leavesShort] using this
  | .dict kvs, h => by
    have e : kvs = [] := by simpa [smN] using h
    subst e
    simp [layN, PyData.showable, PyData.showableKv, PyData.leavesShort, PyData.leavesShortKv]
theorem smNAll_ok : ∀ xs : List D, smNAll xs = true → layNAll xs = true ∧ PyData.showableAll xs = true ∧ PyData.leavesShortAll 61 xs = true
  | [], _ => by simp [layNAll, PyData.showableAll, PyData.leavesShortAll]
  | x :: xs, h => by
    have h' : smN x = true ∧ smNAll xs = true := by simpa [smNAll] using h
    have h1 := smN_ok x h'.1
    have h2 := smNAll_ok xs h'.2
    simp [layNAll, PyData.showableAll, PyData.leavesShortAll, h1, h2]
end
structure Nc (d : D) (k b : Nat) : Prop where
  sm : smN d = true
  dp : d.depth ≤ k
  bk : d.bulk ≤ b
theorem Nc.shw {d : D} {k b : Nat} (h : Nc d k b) (h1 : k ≤ 60) (h2 : b ≤ 200000) : Shw d := by
  obtain ⟨a, s, c⟩ := smN_ok d h.sm
  refine ⟨a, Nat.le_trans h.dp h1, s, ?_⟩
  have := PyData.shown_le_bulk 61 (by omega) d c
  have := h.bk
  unfold sizeLine
  omega
theorem Nc.up {d : D} {k b l c : Nat} (h : Nc d k b) (h1 : k ≤ l) (h2 : b ≤ c) : Nc d l c := ⟨h.sm, Nat.le_trans h.dp h1, Nat.le_trans h.bk h2⟩
theorem smNAll_of {xs : List D} (h : ∀ x ∈ xs, smN x = true) : smNAll xs = true := by
  induction xs with
  | nil => rfl
  | cons x xs ih =>
    show (smN x && smNAll xs) = true
    rw [h x List.mem_cons_self, ih fun y hy => h y (List.mem_cons_of_mem _ hy)]
    rfl
theorem nc_all {xs : List D} {k b n : Nat} (h : ∀ x ∈ xs, Nc x k b) (hn : xs.length ≤ n) : smNAll xs = true ∧ PyData.depthAll xs ≤ k ∧ PyData.bulkAll xs ≤ n * (b + 1) := by
  refine ⟨smNAll_of fun x hx => (h x hx).sm, ?_, ?_⟩
  · have := depthAll_map (f := fun x : D => x) (k := k) (xs := xs) fun x hx => (h x hx).dp
    simpa using this
  · have := bulkAll_map (f := fun x : D => x) (k := b) (xs := xs) fun x hx => (h x hx).bk
    rw [List.map_id'] at this
    exact Nat.le_trans this (Nat.mul_le_mul_right _ hn)
theorem nc_list {xs : List D} {k b n : Nat} (h : ∀ x ∈ xs, Nc x k b) (hn : xs.length ≤ n) : Nc (.list xs) (k + 1) (n * (b + 1)) := by
  obtain ⟨a, c, e⟩ := nc_all h hn
  exact ⟨by simpa [smN] using a, by simp only [PyData.depth]; omega, by simp only [PyData.bulk]; exact e⟩
theorem nc_tup {xs : List D} {k b n : Nat} (h : ∀ x ∈ xs, Nc x k b) (hn : xs.length ≤ n) : Nc (.tuple xs) (k + 1) (n * (b + 1)) := by
  obtain ⟨a, c, e⟩ := nc_all h hn
  exact ⟨by simpa [smN] using a, by simp only [PyData.depth]; omega, by simp only [PyData.bulk]; exact e⟩
theorem nc_none : Nc (.none : D) 0 0 := ⟨rfl, by simp [PyData.depth], by simp [PyData.bulk]⟩
theorem nc_bool (b : Bool) : Nc (.bool b : D) 0 0 := ⟨rfl, by simp [PyData.depth], by simp [PyData.bulk]⟩
theorem nc_int {i : Int} (h : i.natAbs < 10 ^ 60) : Nc (.int i) 0 0 := ⟨by simpa only [smN, decide_eq_true_eq] using h, by simp [PyData.depth], by simp [PyData.bulk]⟩
theorem nc_dict : Nc (.dict [] : D) 1 0 := ⟨rfl, by simp [PyData.depth, PyData.depthKv], by simp [PyData.bulk, PyData.bulkKv]⟩
end SN
/-! MR: an own list, looped over, its items changed, and still one's own afterwards -/
namespace MR
open PySem L2 PL
end MR
namespace MR
open PySem L2 PL
theorem w_yOpAP (P : Env → Prop) {G : D → D → Option OT} {a b : Rm} {da db : Dm} {ρ : Env} {x y : D} {r : OT} {Q : OT → Env → Prop} (ha : a ρ = some x) (hb : b ρ = some y) (hG : G x y = some r) (p1 : P ρ) (hd : W da ρ fun x' ρ1 => x' = x ∧ W db ρ1 fun y' ρ2 => y' = y ∧ P ρ2) (k : ∀ ρ', P ρ' → Q r ρ') : W (yOpA G a b da db) ρ Q := by
  obtain ⟨x', ρ1, e1, rfl, y', ρ2, e2, rfl, p2⟩ := hd
  by_cases l : r.lf = true
  · refine ⟨r, ρ, ?_, k _ p1⟩
    unfold yOpA
    rw [ha, Option.bind_some, hb, Option.bind_some, hG]
    simp only [lfO, l, if_true]
  · refine ⟨r, ρ2, ?_, k _ p2⟩
    unfold yOpA
    rw [ha, Option.bind_some, hb, Option.bind_some, hG]
    simp only [lfO, l, if_false]
    unfold yOp
    rw [e1]
    simp only [Option.bind_some, e2, hG]
    rfl
end MR
namespace z09
open PySem L2 PL MR SH SQ SB BF SA SN
local macro_rules | `(tactic| walk_at "ev") => `(tactic| simp (config := {decide := true}) only [ini, fin, finI, sSeq, sNext, sAsg, sAsgG, sRet, sRetN, sDrop, sIf, sNever, sSetP, sAppP, sClrP, sRevP, fR, pmVar, pmIx, pmIxT, MR.putAt, OT.put, OT.at, gmName, gmTup, gmLst, gsNil, gsCons, rVar, rC, rOp, rUn, rCb, rCbZ, rOpZ, rCall, rAnd, rOr, rNot, rIf, rIs, rCh, rCh3, rTup, rLst, rSl, cNone, cSome, rRepr, dRepr, rInDct, rIdx, rIdxD, iR3s, small, qNil, qCons, qApp, lApp, bR, bAnd, bOr, bNot, tR, tD, tmAnd, tmOr, tmNot, yVar_eq, yMov, yR, yAuto, dY, yD, dR, dOp, dOpR, dCb, dAnd, dOr, dNot, yCall, yCallA, yCallI, yCallIT, yCb, yCbA, yOp, yOpA, lfO, yTup, yLst, oNil, oCons, isNo, lNil, lCons, asB, asInt, asL, asT, iL, iT, iE, iZ, iV, yRng1_eq, iR1_eq, iR2_eq, lcStep, calmAt, wipeE, rst, sApp, yPop_eq, sDPutM, ySortD, yDNew, gmName, toD_d, toD_tup, toD_lst, toDs_nil, toDs_cons, toDs_ints, toDs_fpr, toDs_prs, lfs_ints, lfs_fpr, intsO_len, prsO_len, fprO_len, rng_len, intsO_snoc, prsO_snoc, lstO_rg, rOpZ, rCbZ, isNo_lstO, toD_dnew, ySl, ySlA, neS_self, eqS_self,  rRevL, yRevL, yRevLA, yPop0, sExt, gStrI,  lstO_prs, lstO_ints, toD_lstO, kp_int, kp_bool, kp_tuple, kp_list, kp_str, isIntB, isBoolB, isTupB, isListB, isStrB, gAdd_i, gSub_i, gLt_i, gLe_i, gGt_i, gGe_i, gMul_r, gMul_l, gMod_i, gDiv_i, gPow_i, gNeg, gEqI, gNeI, gEqS, gNeS, gIsN, gNotN, gIsB, gNotB, gIxL, gIxT, gLen, gMax2, gMin2, gInt, gAll, asBools_map, isN, OT.lf, OT.lfs, flat, atI_0, atI_1, ixN_0, ixN_1, rgD_len, enumD_len, trues_len, Int.toNat_natCast, List.length_map, eq_self, Option.bind_some, Option.bind_none, Option.map_some, Option.map_none, List.getElem?_cons_zero, List.getElem?_cons_succ, List.set_cons_zero, List.set_cons_succ, List.map_cons, List.map_nil, List.replicate, List.nil_append, List.cons_append, List.length_cons, List.length_nil, List.all_cons, List.all_nil, if_true, if_false, reduceIte, tfl_int, tfl_bool, tfl_none, tfl_str, tfl_list, Bool.true_and, Bool.and_true, Bool.false_and, Bool.and_false, Bool.true_or, Bool.or_true, Bool.false_or, Bool.or_false, Bool.not_true, Bool.not_false, Bool.false_eq_true, decide_true, decide_false, true_and, and_true, false_and, and_false, or_true, true_or, *])
theorem asgX_ok {m : Xm} {i : Nat} {ρ ρ' : MR.Env} {r : OT} (h : m ρ = some (.ok r, ρ')) : sAsgX i m ρ = some (.nx, ρ'.set i r) := by unfold sAsgX; rw [h]; rfl
theorem asgX_er {m : Xm} {i : Nat} {ρ ρ' : MR.Env} {x : Xc} (h : m ρ = some (.error x, ρ')) : sAsgX i m ρ = some (.xc x, ρ') := by unfold sAsgX; rw [h]; rfl
theorem call_x {t : D} {T : List OT} : xCallA m_look_at_webs__x 1 (qCons (rVar 0) qNil) (lCons (dY (yVar 0)) lNil) (.d t :: T) = some (tldW (wflt t), .d t :: T) := by
  have f := look_any t
  have q : qCons (rVar 0) qNil (.d t :: T) = some [t] := rfl
  unfold xCallA
  rw [q]
  show (match (if 1 = 1 then lfE (m_look_at_webs__x [t]) else Option.none) with
    | some r => some (r, OT.d t :: T)
    | Option.none => _) = _
  rw [if_pos rfl, f]
  cases wflt t with
  | none =>
    have : lfE (some (tldW Option.none)) = some (tldW Option.none) := by
      show (if (OT.d PyData.none).lf then some (Except.ok (OT.d PyData.none)) else Option.none) = _
      rw [if_pos (by simp [OT.lf, tfl_none])]
      rfl
    rw [this]
  | some p => rfl
theorem gW_some {d n : D} (h : gW d = some n) : ∃ i x, d = .tuple [.int i, x] ∧ n = .int i := by
  unfold gW at h
  split at h
  · split at h
    · cases h
    · exact ⟨_, _, rfl, (Option.some.inj h).symm⟩
  · cases h
theorem wflt_some {t n : D} (h : wflt t = some n) : n = .none ∨ ∃ i : Nat, i < 12 ∧ n = .int (i : Nat) := by
  unfold wflt at h
  split at h
  · rename_i xs
    split at h
    · rename_i hl
      obtain ⟨y, hy, e⟩ := List.exists_of_findSome?_eq_some h
      obtain ⟨j, hj, ej⟩ := List.mem_iff_getElem.mp hy
      have hy2 : (enumD xs)[j]? = some y := by rw [List.getElem?_eq_getElem hj, ej]
      obtain ⟨d, hd, rfl⟩ := enumD_at hy2
      obtain ⟨i, x, e1, e2⟩ := gW_some e
      refine .inr ⟨j, ?_, ?_⟩
      · have := (List.getElem?_eq_some_iff.mp hd).1
        omega
      · have : PyData.tuple [.int (j : Nat), d] = .tuple [.int i, x] := e1
        simp only [PyData.tuple.injEq, List.cons.injEq, PyData.int.injEq, and_true] at this
        rw [e2, this.1]
    · exact .inl (Option.some.inj h).symm
  · exact .inl (Option.some.inj h).symm
def wO (o : Option D) : OT := .nd .lst (o.toList.map .d)
theorem told_any (t : D) : m__law_told [t] = some (wO (wflt t)) := by
  unfold m__law_told B__law_told
  refine fin_eq ?_
  rw [show ini [t] 3 = [.d t, .no, .no, .no] from rfl]
  refine w_st (ρ1 := [.d t, .d .none, .no, .no]) (by walk_at "ev" <;> exact rfl) ?_
  refine w_st (ρ1 := [.d t, .d .none, .d .none, .no]) (by walk_at "ev" <;> exact rfl) ?_
  have c := call_x (t := t) (T := [.d .none, .d .none, .no])
  cases h : wflt t with
  | none =>
    rw [h] at c
    have e : sTryK (sAsgX 2 (xCallA m_look_at_webs__x 1 (qCons (rVar 0) qNil) (lCons (dY (yVar 0)) lNil))) ["NoWebs"] 3 1 [.d t, .d .none, .d .none, .no] = some (.nx, [.d t, .d .none, .d .none, .no]) := by
      unfold sTryK
      rw [asgX_ok c]
      rfl
    refine w_st (ρ1 := [.d t, .d .none, .d .none, .no]) e ?_
    clear e c h
    have nx : rNX false 1 [.d t, .d .none, .d .none, .no] = some (.bool true) := rfl
    generalize rNX false 1 = R at *
    have yi : yIf (tR (bR (rOp gNotN (rVar 2) (rC .none)))) (yLst (oCons (yR (rC (.str "odd"))) oNil)) (yLst oNil) [.d t, .d .none, .d .none, .no] = some (.nd .lst [], [.d t, .d .none, .d .none, .no]) := rfl
    generalize yIf _ _ _ = YI at *
    refine W.of (by walk_at "ev" <;> exact rfl) ?_
    exact rfl
  | some n =>
    rw [h] at c
    have e : sTryK (sAsgX 2 (xCallA m_look_at_webs__x 1 (qCons (rVar 0) qNil) (lCons (dY (yVar 0)) lNil))) ["NoWebs"] 3 1 [.d t, .d .none, .d .none, .no] = some (.nx, [.d t, .ex ⟨"NoWebs", [("number", n)]⟩, .d .none, .no]) := by
      unfold sTryK
      rw [asgX_er c]
      rfl
    refine w_st (ρ1 := [.d t, .ex ⟨"NoWebs", [("number", n)]⟩, .d .none, .no]) e ?_
    have hn : n = .none ∨ ∃ i : Int, n = .int i := by
      rcases wflt_some h with e | ⟨k, _, e⟩
      · exact .inl e
      · exact .inr ⟨_, e⟩
    clear e c h
    have r1 : rNX false 1 [.d t, .ex ⟨"NoWebs", [("number", n)]⟩, .d .none, .no] = some (.bool false) := rfl
    have r2 : rIsX 1 [("NoWebs", true)] true [.d t, .ex ⟨"NoWebs", [("number", n)]⟩, .d .none, .no] = some (.bool true) := rfl
    have r3 : rIsX 1 [("NoWebs", false)] true [.d t, .ex ⟨"NoWebs", [("number", n)]⟩, .d .none, .no] = some (.bool false) := rfl
    have r5 : rFld 1 ["NoWebs"] "number" [.d t, .ex ⟨"NoWebs", [("number", n)]⟩, .d .none, .no] = some n := rfl
    generalize ([.d t, .ex ⟨"NoWebs", [("number", n)]⟩, .d .none, .no] : MR.Env) = ρ at *
    generalize rNX false 1 = R1 at *
    generalize rIsX 1 [("NoWebs", true)] true = R2 at *
    generalize rIsX 1 [("NoWebs", false)] true = R3 at *
    generalize rFld 1 ["NoWebs"] "number" = R5 at *
    rcases hn with rfl | ⟨i, rfl⟩
    · refine W.of (by walk_at "ev" <;> exact rfl) ?_
      exact rfl
    · refine W.of (by walk_at "ev" <;> exact rfl) ?_
      exact rfl
def gWs (d : D) : Option OT := (gW d).map .d
theorem filt_head {l : List D} : ((l.filterMap gWs).take 1) = ((l.findSome? gW).toList.map .d) := by
  induction l with
  | nil => rfl
  | cons y l ih =>
    rw [List.filterMap_cons, List.findSome?_cons]
    cases hg : gW y with
    | none =>
      have u : gWs y = Option.none := by unfold gWs; rw [hg]; rfl
      rw [u]
      exact ih
    | some n =>
      have u : gWs y = some (.d n) := by unfold gWs; rw [hg]; rfl
      rw [u]
      rfl
theorem filt_d (l : List D) : l.filterMap gWs = (l.filterMap gW).map .d := by
  induction l with
  | nil => rfl
  | cons y l ih =>
    rw [List.filterMap_cons, List.filterMap_cons]
    cases hg : gW y with
    | none =>
      have u : gWs y = Option.none := by unfold gWs; rw [hg]; rfl
      rw [u]
      exact ih
    | some n =>
      have u : gWs y = some (.d n) := by unfold gWs; rw [hg]; rfl
      rw [u]
      show OT.d n :: l.filterMap gWs = OT.d n :: _
      rw [ih]
theorem cut_1 (xs : List D) : cutD xs Option.none (some 1) = xs.take 1 := by
  unfold cutD
  rw [show (1 : Int) = ((1 : Nat) : Int) from rfl, HT.sIx_nat]
  have e0 : HT.sIx xs.length 0 Option.none = 0 := rfl
  rw [e0, List.drop_zero, Nat.sub_zero]
  apply List.take_eq_take_iff.mpr
  omega
theorem toDs_ds' (T : List D) : OT.toDs (T.map OT.d) = some T := by
  induction T with
  | nil => exact toDs_nil
  | cons x xs ih => simp [toDs_cons, ih, toD_d]
theorem due_any (t : D) : m__law_due [t] = some (wO (wflt t)) := by
  unfold m__law_due B__law_due
  refine fin_eq ?_
  rw [show ini [t] 2 = [.d t, .no, .no] from rfl]
  by_cases hl : ∃ xs, t = .list xs ∧ xs.length ≤ 12
  · obtain ⟨xs, rfl, h12⟩ := hl
    have e : wflt (.list xs) = (enumD xs).findSome? gW := if_pos h12
    rw [e]
    clear e
    have d3 : decide (12 < (xs.length : Int)) = false := by simp; omega
    refine w_seq (w_if (c := false) (ρ1 := [.d (.list xs), .no, .no]) (by walk_at "ev" <;> exact rfl) (fun z => by cases z) (fun _ => w_next ?_))
    simp only [sqK]
    clear d3
    have lc : W (yLc [1, 2] (iE (lCons (dY (yVar 0)) lNil)) (gmTup (gsCons (gmName 1) (gsCons (gmName 2) gsNil))) (tR (bNot (bR (rCall m__law_is_web 1 (qCons (rVar 2) qNil))))) (yVar 1)) [.d (.list xs), .no, .no] fun r ρ' => r = .nd .lst ((enumD xs).filterMap gWs) := by
      refine w_lcf gWs (xs := enumD xs) (ρ1 := [.d (.list xs), .no, .no]) (by walk_at "ev" <;> exact rfl) rfl (by rw [enumD_len]; omega) (fun x hx => ?_) rfl
      obtain ⟨i, hi⟩ := List.getElem?_of_mem hx
      obtain ⟨d, hd, rfl⟩ := enumD_at hi
      have j := isweb_any d
      have g : gWs (.tuple [.int (i : Nat), d]) = if (flt d).isNone then Option.none else some (.d (.int (i : Nat))) := by
        unfold gWs
        rw [gW_of]
        cases (flt d).isNone <;> rfl
      rw [g]
      clear g hd hi hx
      generalize (flt d).isNone = bb at *
      cases bb with
      | true =>
        refine W.of (by walk_at "ev" <;> exact rfl) ?_
        exact ⟨rfl, rfl⟩
      | false =>
        refine W.of (by walk_at "ev" <;> exact rfl) ?_
        exact ⟨rfl, rfl⟩
    obtain ⟨r, ρ', e, rfl⟩ := lc
    rw [filt_d] at e
    have tl := toDs_ds' ((enumD xs).filterMap gW)
    have fh := filt_head (l := enumD xs)
    rw [filt_d, ← List.map_take] at fh
    have ct := cut_1 ((enumD xs).filterMap gW)
    generalize (enumD xs).filterMap gW = L at *
    unfold wO
    rw [← fh]
    clear fh
    generalize yLc _ _ _ _ _ = YL at *
    have ey : ySl (dY YL) cNone (cSome (rC (.int 1))) [.d (.list xs), .no, .no] = some (lstO (L.take 1), ρ') := by
      unfold ySl dY
      rw [e]
      simp only [Option.bind_some, toD_lst, tl, Option.map_some, asL, cNone, cSome, rC, asInt, ct]
    exact w_end ey rfl rfl
  · have e : wflt t = some .none := by
      cases t with
      | list xs => exact if_neg fun h => hl ⟨xs, rfl, h⟩
      | _ => rfl
    rw [e]
    clear e
    cases t with
    | list xs =>
      have d3 : decide (12 < (xs.length : Int)) = true := by
        simp
        have : ¬ xs.length ≤ 12 := fun h => hl ⟨xs, rfl, h⟩
        omega
      clear hl
      refine W.of (by walk_at "ev" <;> exact rfl) ?_
      exact rfl
    | _ =>
      clear hl
      refine W.of (by walk_at "ev" <;> exact rfl) ?_
      exact rfl
end z09
namespace z09
open PySem L2 PL MR SH SQ SB BF SA SN
local macro_rules | `(tactic| walk_at "ev") => `(tactic| simp (config := {decide := true}) only [ini, fin, finI, sSeq, sNext, sAsg, sAsgG, sRet, sRetN, sDrop, sIf, sNever, sSetP, sAppP, sClrP, sRevP, fR, pmVar, pmIx, pmIxT, MR.putAt, OT.put, OT.at, gmName, gmTup, gmLst, gsNil, gsCons, rVar, rC, rOp, rUn, rCb, rCbZ, rOpZ, rCall, rAnd, rOr, rNot, rIf, rIs, rCh, rCh3, rTup, rLst, rSl, cNone, cSome, rRepr, dRepr, rInDct, rIdx, rIdxD, iR3s, small, qNil, qCons, qApp, lApp, bR, bAnd, bOr, bNot, tR, tD, tmAnd, tmOr, tmNot, yVar_eq, yMov, yR, yAuto, dY, yD, dR, dOp, dOpR, dCb, dAnd, dOr, dNot, yCall, yCallA, yCallI, yCallIT, yCb, yCbA, yOp, yOpA, lfO, yTup, yLst, oNil, oCons, isNo, lNil, lCons, asB, asInt, asL, asT, iL, iT, iE, iZ, iV, yRng1_eq, iR1_eq, iR2_eq, lcStep, calmAt, wipeE, rst, sApp, yPop_eq, sDPutM, ySortD, yDNew, gmName, toD_d, toD_tup, toD_lst, toDs_nil, toDs_cons, toDs_ints, toDs_fpr, toDs_prs, lfs_ints, lfs_fpr, intsO_len, prsO_len, fprO_len, rng_len, intsO_snoc, prsO_snoc, lstO_rg, rOpZ, rCbZ, isNo_lstO, toD_dnew, ySl, ySlA, neS_self, eqS_self,  rRevL, yRevL, yRevLA, yPop0, sExt, gStrI,  lstO_prs, lstO_ints, toD_lstO, kp_int, kp_bool, kp_tuple, kp_list, kp_str, isIntB, isBoolB, isTupB, isListB, isStrB, gAdd_i, gSub_i, gLt_i, gLe_i, gGt_i, gGe_i, gMul_r, gMul_l, gMod_i, gDiv_i, gPow_i, gNeg, gEqI, gNeI, gEqS, gNeS, gIsN, gNotN, gIsB, gNotB, gIxL, gIxT, gLen, gMax2, gMin2, gInt, gAll, asBools_map, isN, OT.lf, OT.lfs, flat, atI_0, atI_1, ixN_0, ixN_1, rgD_len, enumD_len, trues_len, Int.toNat_natCast, List.length_map, eq_self, Option.bind_some, Option.bind_none, Option.map_some, Option.map_none, List.getElem?_cons_zero, List.getElem?_cons_succ, List.set_cons_zero, List.set_cons_succ, List.map_cons, List.map_nil, List.replicate, List.nil_append, List.cons_append, List.length_cons, List.length_nil, List.all_cons, List.all_nil, if_true, if_false, reduceIte, tfl_int, tfl_bool, tfl_none, tfl_str, tfl_list, Bool.true_and, Bool.and_true, Bool.false_and, Bool.and_false, Bool.true_or, Bool.or_true, Bool.false_or, Bool.or_false, Bool.not_true, Bool.not_false, Bool.false_eq_true, decide_true, decide_false, true_and, and_true, false_and, and_false, or_true, true_or, *])
theorem eqD_of {d : D} (cl : PyData.canLay0 d = true) (sp : SeqAt.shaped d = true) : gEqD d d = some (.bool true) := by
  unfold gEqD
  rw [sp, SeqAt.eqv_refl _ cl]
  rfl
theorem eqD_w (t : D) : gEqD (.list (wflt t).toList) (.list (wflt t).toList) = some (.bool true) := by
  cases h : wflt t with
  | none =>
    refine eqD_of ?_ ?_
    · simp [PyData.canLay0, PyData.canLayAll0]
    · simp [SeqAt.shaped, PyData.canLay0, PyData.canLayAll0, PyData.depth, PyData.depthAll]
  | some n =>
    rcases wflt_some h with rfl | ⟨k, hk, rfl⟩
    · refine eqD_of ?_ ?_
      · simp [PyData.canLay0, PyData.canLayAll0]
      · simp [SeqAt.shaped, PyData.canLay0, PyData.canLayAll0, PyData.depth, PyData.depthAll]
    · refine eqD_of ?_ ?_
      · simp [PyData.canLay0, PyData.canLayAll0]
      · simp [SeqAt.shaped, PyData.canLay0, PyData.canLayAll0, PyData.depth, PyData.depthAll]
theorem toD_wO (o : Option D) : OT.toD (wO o) = some (.list o.toList) := by
  unfold wO
  rw [toD_lst, toDs_ds']
  rfl
theorem right_any {t : D} (h : Shw t) : m__law_right [t] = some (.d (.bool true)) := by
  have f1 := told_any t
  have f2 := due_any t
  have e := toD_wO (wflt t)
  have q := eqD_w t
  have r1 := h.repr
  unfold m__law_right B__law_right
  refine fin_eq ?_
  rw [show ini [t] 1 = [.d t, .no] from rfl]
  generalize wO (wflt t) = FO at *
  generalize PyData.list (wflt t).toList = d at *
  have v0 : ∀ X, rReprN (rVar 0) [.d t, X] = some (.str t.shown) := fun X => r1
  have t1 : ∀ X, rCall m__law_told 1 (qCons (rVar 0) qNil) [.d t, X] = some d := fun X => by clear f2 r1 v0 h q; walk_at "ev" <;> exact rfl
  have t2 : ∀ X, rCall m__law_due 1 (qCons (rVar 0) qNil) [.d t, X] = some d := fun X => by clear f1 r1 v0 h q t1; walk_at "ev" <;> exact rfl
  clear f1 f2 r1 e h
  generalize rCall m__law_told 1 (qCons (rVar 0) qNil) = R1 at *
  generalize rCall m__law_due 1 (qCons (rVar 0) qNil) = R2 at *
  generalize rReprN (rVar 0) = R0 at *
  refine w_st (ρ1 := [.d t, .d (.str t.shown)]) (by clear t1 t2 q; walk_at "ev" <;> exact rfl) ?_
  replace v0 := v0 (.d (.str t.shown))
  replace t1 := t1 (.d (.str t.shown))
  replace t2 := t2 (.d (.str t.shown))
  exact w_end (by walk_at "ev" <;> exact rfl) rfl rfl
end z09
/-! SN: pieces of bent webs -/
namespace SN
open PySem L2 PL MR SH SQ SB BF SA
local macro_rules | `(tactic| walk_at "ev") => `(tactic| simp (config := {decide := true}) only [ini, fin, finI, sSeq, sNext, sAsg, sAsgG, sRet, sRetN, sDrop, sIf, sNever, sSetP, sAppP, sClrP, sRevP, fR, pmVar, pmIx, pmIxT, MR.putAt, OT.put, OT.at, gmName, gmTup, gmLst, gsNil, gsCons, rVar, rC, rOp, rUn, rCb, rCbZ, rOpZ, rCall, rAnd, rOr, rNot, rIf, rIs, rCh, rCh3, rTup, rLst, rSl, cNone, cSome, rRepr, dRepr, rInDct, rIdx, rIdxD, iR3s, small, qNil, qCons, qApp, lApp, bR, bAnd, bOr, bNot, tR, tD, tmAnd, tmOr, tmNot, yVar_eq, yMov, yR, yAuto, dY, yD, dR, dOp, dOpR, dCb, dAnd, dOr, dNot, yCall, yCallA, yCallI, yCallIT, yCb, yCbA, yOp, yOpA, lfO, yTup, yLst, oNil, oCons, isNo, lNil, lCons, asB, asInt, asL, asT, iL, iT, iE, iZ, iV, yRng1_eq, iR1_eq, iR2_eq, lcStep, calmAt, wipeE, rst, sApp, yPop_eq, sDPutM, ySortD, yDNew, gmName, toD_d, toD_tup, toD_lst, toDs_nil, toDs_cons, toDs_ints, toDs_fpr, toDs_prs, lfs_ints, lfs_fpr, intsO_len, prsO_len, fprO_len, rng_len, intsO_snoc, prsO_snoc, lstO_rg, rOpZ, rCbZ, isNo_lstO, toD_dnew, ySl, ySlA, neS_self, eqS_self,  rRevL, yRevL, yRevLA, yPop0, sExt, gStrI,  lstO_prs, lstO_ints, toD_lstO, kp_int, kp_bool, kp_tuple, kp_list, kp_str, isIntB, isBoolB, isTupB, isListB, isStrB, gAdd_i, gSub_i, gLt_i, gLe_i, gGt_i, gGe_i, gMul_r, gMul_l, gMod_i, gDiv_i, gPow_i, gNeg, gEqI, gNeI, gEqS, gNeS, gIsN, gNotN, gIsB, gNotB, gIxL, gIxT, gLen, gMax2, gMin2, gInt, gAll, asBools_map, isN, OT.lf, OT.lfs, flat, atI_0, atI_1, ixN_0, ixN_1, rgD_len, enumD_len, trues_len, Int.toNat_natCast, List.length_map, eq_self, Option.bind_some, Option.bind_none, Option.map_some, Option.map_none, List.getElem?_cons_zero, List.getElem?_cons_succ, List.set_cons_zero, List.set_cons_succ, List.map_cons, List.map_nil, List.replicate, List.nil_append, List.cons_append, List.length_cons, List.length_nil, List.all_cons, List.all_nil, if_true, if_false, reduceIte, tfl_int, tfl_bool, tfl_none, tfl_str, tfl_list, Bool.true_and, Bool.and_true, Bool.false_and, Bool.and_false, Bool.true_or, Bool.or_true, Bool.false_or, Bool.or_false, Bool.not_true, Bool.not_false, Bool.false_eq_true, decide_true, decide_false, true_and, and_true, false_and, and_false, or_true, true_or, *])
theorem cps_small (s : String) : ((Str.ofString s).cps.toList.all fun c => decide (c < 16 ^ 8)) = true := by
  rw [Str.ofString_eq_toList]
  simp only [List.all_eq_true, decide_eq_true_eq, List.mem_map]
  rintro c ⟨a, _, rfl⟩
  exact UInt32.toNat_lt a.val
theorem nc_str (s : String) {b : Nat} (h : (Str.ofString s).length ≤ b) : Nc (.str (Str.ofString s)) 0 b :=
  ⟨by simpa only [smN] using cps_small s, by simp [PyData.depth], by simp only [PyData.bulk]; exact h⟩
theorem pick_nc {L : List D} {k b : Nat} (h : ∀ x ∈ L, Nc x k b) {i : Nat} (hi : i < L.length) : ∃ x, atI L (i : Int) = some x ∧ Nc x k b :=
  ⟨L[i], atI_at (List.getElem?_eq_getElem hi), h _ (List.getElem_mem hi)⟩
theorem nc_i {i : Int} (h : 0 ≤ i ∧ i ≤ 1000) : Nc (.int i) 0 0 := nc_int (Nat.lt_of_lt_of_le (show i.natAbs < 10 ^ 4 by omega) (Nat.pow_le_pow_right (by decide) (by decide)))
theorem nc_txt {i : Int} (h : 0 ≤ i ∧ i ≤ 1000) : Nc (.str (toString i) : D) 0 10 := nc_str _ (by
  have := PySem.int_text_length_le10 (a := i) (k := 4) (by decide) (by omega)
  rw [ofString_length]
  omega)
theorem yOpA_rd {G : D → D → Option OT} {ra rb : Rm} {da db : Dm} {ρ : MR.Env} {x y : D} {r : OT} (h1 : ra ρ = some x) (h2 : rb ρ = some y) (h3 : G x y = some r) (lf : r.lf = true) : yOpA G ra rb da db ρ = some (r, ρ) := by
  unfold yOpA
  rw [h1, Option.bind_some, h2, Option.bind_some, h3]
  simp only [lfO, lf, if_true]
theorem lf_lstD {xs : List D} (h : ∀ x ∈ xs, tfl x = true) : (lstO xs).lf = true := by
  show OT.lfs (xs.map .d) = true
  induction xs with
  | nil => simp [OT.lfs]
  | cons x xs ih =>
    have := ih fun y hy => h y (List.mem_cons_of_mem _ hy)
    simp [OT.lfs, OT.lf, h x List.mem_cons_self] at this ⊢
    exact this
abbrev Q (t : D) : Prop := Nc t 4 20000
abbrev Tie (x : D) : Prop := ∃ a b : Int, x = .tuple [.int a, .int b] ∧ (0 ≤ a ∧ a ≤ 1000) ∧ 0 ≤ b ∧ b ≤ 1000
theorem Tie.fl {x : D} (h : Tie x) : tfl x = true := by
  obtain ⟨a, b, rfl, _⟩ := h
  simp [tfl, flat]
theorem Tie.nc {x : D} (h : Tie x) : Nc x 1 2 := by
  obtain ⟨a, b, rfl, ha, hb⟩ := h
  have na := nc_i ha
  have nb := nc_i hb
  exact (nc_tup (k := 0) (b := 0) (n := 2) (by simp [na, nb]) (by simp)).up (by omega) (by omega)
theorem toDs_ds (T : List D) : OT.toDs (T.map OT.d) = some T := by
  induction T with
  | nil => exact toDs_nil
  | cons x xs ih => simp [toDs_cons, ih, toD_d]
theorem rOpZ_ok {G : D → D → Option OT} {a b : Rm} {ρ : MR.Env} {x y d : D} {r : OT} (h1 : a ρ = some x) (h2 : b ρ = some y) (h3 : G x y = some r) (h4 : OT.toD r = some d) : rOpZ G a b ρ = some d := by
  unfold rOpZ
  rw [h1, h2, Option.bind_some, Option.bind_some, h3, Option.bind_some, h4]
theorem rSl_ok {ra : Rm} {lo hi : Cm} {ρ : MR.Env} {xs : List D} {l h : Option Int} (h1 : ra ρ = some (.list xs)) (h2 : lo ρ = some l) (h3 : hi ρ = some h) : rSl ra lo hi ρ = some (.list (cutD xs l h)) := by
  unfold rSl
  rw [h1, Option.bind_some, h2, h3]
  rfl
theorem rRevL_ok {a : Rm} {ρ : MR.Env} {xs : List D} (h : a ρ = some (.list xs)) : rRevL a ρ = some (.list xs.reverse) := by
  unfold rRevL
  rw [h]
  rfl
theorem rCat_ok {a b : Rm} {ρ : MR.Env} {A B : List D} (h1 : a ρ = some (.list A)) (h2 : b ρ = some (.list B)) (l : A.length + B.length ≤ 1000000) : rOpZ GCat a b ρ = some (.list (A ++ B)) :=
  rOpZ_ok h1 h2 (GCat_ok l) (toD_lstO _)
theorem yRevLA_rd {ra : Rm} {a : Dm} {ρ : MR.Env} {xs : List D} (h : ra ρ = some (.list xs)) (lf : (lstO xs.reverse).lf = true) : yRevLA ra a ρ = some (lstO xs.reverse, ρ) := by
  unfold yRevLA
  rw [h]
  simp only [Option.bind_some, asL, lfO, lf, if_true]
theorem lf_tie {xs : List D} (h : ∀ x ∈ xs, Tie x) : (lstO xs).lf = true := lf_lstD fun x hx => (h x hx).fl
theorem wb_ties {w : Wb} (k : WbOk w) : ∀ x ∈ w.2.map pairD, Tie x := fun x hx => by
  obtain ⟨p, hp, rfl⟩ := List.mem_map.mp hx
  have hi := k.hi
  obtain ⟨a, b, c⟩ := k.ok.in' p hp
  exact ⟨p.1, p.2, rfl, ⟨by omega, by omega⟩, by omega, by omega⟩
end SN
namespace z09
open PySem L2 PL MR SH SQ SB BF SA SN
local macro_rules | `(tactic| walk_at "ev") => `(tactic| simp (config := {decide := true}) only [ini, fin, finI, sSeq, sNext, sAsg, sAsgG, sRet, sRetN, sDrop, sIf, sNever, sSetP, sAppP, sClrP, sRevP, fR, pmVar, pmIx, pmIxT, MR.putAt, OT.put, OT.at, gmName, gmTup, gmLst, gsNil, gsCons, rVar, rC, rOp, rUn, rCb, rCbZ, rOpZ, rCall, rAnd, rOr, rNot, rIf, rIs, rCh, rCh3, rTup, rLst, rSl, cNone, cSome, rRepr, dRepr, rInDct, rIdx, rIdxD, iR3s, small, qNil, qCons, qApp, lApp, bR, bAnd, bOr, bNot, tR, tD, tmAnd, tmOr, tmNot, yVar_eq, yMov, yR, yAuto, dY, yD, dR, dOp, dOpR, dCb, dAnd, dOr, dNot, yCall, yCallA, yCallI, yCallIT, yCb, yCbA, yOp, yOpA, lfO, yTup, yLst, oNil, oCons, isNo, lNil, lCons, asB, asInt, asL, asT, iL, iT, iE, iZ, iV, yRng1_eq, iR1_eq, iR2_eq, lcStep, calmAt, wipeE, rst, sApp, yPop_eq, sDPutM, ySortD, yDNew, gmName, toD_d, toD_tup, toD_lst, toDs_nil, toDs_cons, toDs_ints, toDs_fpr, toDs_prs, lfs_ints, lfs_fpr, intsO_len, prsO_len, fprO_len, rng_len, intsO_snoc, prsO_snoc, lstO_rg, rOpZ, rCbZ, isNo_lstO, toD_dnew, ySl, ySlA, neS_self, eqS_self,  rRevL, yRevL, yRevLA, yPop0, sExt, gStrI,  lstO_prs, lstO_ints, toD_lstO, kp_int, kp_bool, kp_tuple, kp_list, kp_str, isIntB, isBoolB, isTupB, isListB, isStrB, gAdd_i, gSub_i, gLt_i, gLe_i, gGt_i, gGe_i, gMul_r, gMul_l, gMod_i, gDiv_i, gPow_i, gNeg, gEqI, gNeI, gEqS, gNeS, gIsN, gNotN, gIsB, gNotB, gIxL, gIxT, gLen, gMax2, gMin2, gInt, gAll, asBools_map, isN, OT.lf, OT.lfs, flat, atI_0, atI_1, ixN_0, ixN_1, rgD_len, enumD_len, trues_len, Int.toNat_natCast, List.length_map, eq_self, Option.bind_some, Option.bind_none, Option.map_some, Option.map_none, List.getElem?_cons_zero, List.getElem?_cons_succ, List.set_cons_zero, List.set_cons_succ, List.map_cons, List.map_nil, List.replicate, List.nil_append, List.cons_append, List.length_cons, List.length_nil, List.all_cons, List.all_nil, if_true, if_false, reduceIte, tfl_int, tfl_bool, tfl_none, tfl_str, tfl_list, Bool.true_and, Bool.and_true, Bool.false_and, Bool.and_false, Bool.true_or, Bool.or_true, Bool.false_or, Bool.or_false, Bool.not_true, Bool.not_false, Bool.false_eq_true, decide_true, decide_false, true_and, and_true, false_and, and_false, or_true, true_or, *])
def O1 (n : Int) (T : List D) : List D := [.none, .int 5, .bool true, .str "2 0-1", .list [.int n, .list T], .tuple [.int n], .tuple [.int n, .list T, .int 0], .tuple [.int n, .tuple T], .tuple [.bool true, .list []], .tuple [.int 0, .list []]]
def O2 (n : Int) (T : List D) : List D := [.tuple [.int 41, .list []], .tuple [.str (toString n), .list T], .tuple [.int n, .list T.reverse], .tuple [.int n, .list (T ++ cutD T Option.none (some 1))], .tuple [.int n, .list (([.tuple [.int 0, .int 0]] : List D) ++ T)]]
def O3 (n : Int) (T : List D) : List D := [.tuple [.int n, .list (T ++ [.tuple [.int (n - 1), .int n]])], .tuple [.int n, .list [.list [.int 0, .int 1]]], .tuple [.int n, .list [.tuple [.int 0, .bool true]]], .tuple [.int n, .list [.tuple [.int 0, .int 1, .int 2]]]]
def O4 (n : Int) : List D := [.tuple [.int n, .none], .tuple [.int n, .list [.tuple [.int 1, .int 0]]], .tuple [.int 40, .list (List.replicate 121 (.tuple [.int 0, .int 1]))], .dict [], .tuple []]
def O5 (n : Int) : List D := [.tuple [.int n, .list [.tuple [.int 0, .str "1"]]], .tuple [.int n, .list [.tuple [.none, .int 1]]]]
def S4 (n : Int) (T : List D) : OT := .nd .lst [.d .none, .d (.int 5), .d (.bool true), .d (.str "2 0-1"), .nd .lst [.d (.int n), .d (.list T)], .nd .tup [.d (.int n)], .nd .tup [.d (.int n), .d (.list T), .d (.int 0)], .nd .tup [.d (.int n), .nd .tup (T.map .d)], .nd .tup [.d (.bool true), .nd .lst []], .nd .tup [.d (.int 0), .nd .lst []]]
theorem toD_S4 (n : Int) (T : List D) : OT.toD (S4 n T) = some (.list (O1 n T)) := by
  have t := toDs_ds T
  unfold S4
  generalize T.map OT.d = R at *
  simp only [O1, toD_lst, toD_tup, toDs_cons, toDs_nil, toD_d, t, Option.bind_some, Option.map_some]
theorem st1 {PO W1 : OT} {n : Int} {T : List D} (hT : ∀ x ∈ T, Tie x) : (sAsg 4 (yLst (oCons (yR (rC .none)) (oCons (yR (rC (.int 5))) (oCons (yR (rC (.bool true))) (oCons (yR (rC (.str "2 0-1"))) (oCons (yLst (oCons (yVar 2) (oCons (yVar 3) oNil))) (oCons (yTup (oCons (yVar 2) oNil)) (oCons (yTup (oCons (yVar 2) (oCons (yVar 3) (oCons (yR (rC (.int 0))) oNil)))) (oCons (yTup (oCons (yVar 2) (oCons (yCbA GTuple (qCons (rVar 3) qNil) (lCons (dY (yVar 3)) lNil)) oNil))) (oCons (yTup (oCons (yR (rC (.bool true))) (oCons (yLst oNil) oNil))) (oCons (yTup (oCons (yR (rC (.int 0))) (oCons (yLst oNil) oNil))) oNil)))))))))))) [PO, W1, .d (.int n), .d (.list T), .no] = some (.nx, [PO, W1, .d (.int n), .d (.list T), S4 n T]) := by
  have gt : GTuple [.list T] = some (.nd .tup (T.map .d)) := rfl
  have lt : OT.lfs (T.map OT.d) = true := lf_lstD fun x hx => (hT x hx).fl
  have tt : OT.toDs (T.map OT.d) = some T := toDs_ds T
  unfold S4
  generalize T.map OT.d = R at *
  clear hT
  walk_at "ev" <;> exact rfl
theorem st2 {PO W1 X4 : OT} {n : Int} {T LL : List D} (hn : 0 ≤ n ∧ n ≤ 1000) (hT : ∀ x ∈ T, Tie x) (hl : T.length ≤ 120) (ll : LL.length ≤ 100) (t4 : OT.toD X4 = some (.list LL)) (y4 : dY (yVar 4) [PO, W1, .d (.int n), .d (.list T), X4] = some (.list LL, [PO, W1, .d (.int n), .d (.list T), .d (.list LL)])) {Q : Fl → MR.Env → Prop}
    (q : Q .nx [PO, W1, .d (.int n), .d (.list T), lstO (LL ++ O2 n T)]) : W (sAsg 4 (yOpA GCat (rVar 4) (rLst (qCons (rTup (qCons (rC (.int 41)) (qCons (rLst qNil) qNil))) (qCons (rTup (qCons (rCb gStrI (qCons (rVar 2) qNil)) (qCons (rVar 3) qNil))) (qCons (rTup (qCons (rVar 2) (qCons (rRevL (rVar 3)) qNil))) (qCons (rTup (qCons (rVar 2) (qCons (rOpZ GCat (rVar 3) (rSl (rVar 3) cNone (cSome (rC (.int 1))))) qNil))) (qCons (rTup (qCons (rVar 2) (qCons (rOpZ GCat (rLst (qCons (rTup (qCons (rC (.int 0)) (qCons (rC (.int 0)) qNil))) qNil)) (rVar 3)) qNil))) qNil)))))) (dY (yVar 4)) (dY (yLst (oCons (yTup (oCons (yR (rC (.int 41))) (oCons (yLst oNil) oNil))) (oCons (yTup (oCons (yR (rCb gStrI (qCons (rVar 2) qNil))) (oCons (yVar 3) oNil))) (oCons (yTup (oCons (yVar 2) (oCons (yRevLA (rVar 3) (dY (yVar 3))) oNil))) (oCons (yTup (oCons (yVar 2) (oCons (yOpA GCat (rVar 3) (rSl (rVar 3) cNone (cSome (rC (.int 1)))) (dY (yVar 3)) (dY (ySlA (rVar 3) (dY (yVar 3)) cNone (cSome (rC (.int 1)))))) oNil))) (oCons (yTup (oCons (yVar 2) (oCons (yOpA GCat (rLst (qCons (rTup (qCons (rC (.int 0)) (qCons (rC (.int 0)) qNil))) qNil)) (rVar 3) (dY (yLst (oCons (yTup (oCons (yR (rC (.int 0))) (oCons (yR (rC (.int 0))) oNil))) oNil))) (dY (yVar 3))) oNil))) oNil))))))))) [PO, W1, .d (.int n), .d (.list T), X4] Q := by
  have lg : n.natAbs.log2 < 1920 := log2_lt (by omega)
  have g1 : gStrI [.int n] = some (.str (toString n)) := if_pos lg
  have r3 : ∀ X4, rVar 3 [PO, W1, .d (.int n), .d (.list T), X4] = some (.list T) := fun X4 => toD_d _
  have rr : ∀ X4, (rRevL (rVar 3)) [PO, W1, .d (.int n), .d (.list T), X4] = some (.list T.reverse) := fun X4 => rRevL_ok (r3 X4)
  have k1 := cut_len T Option.none (some 1)
  have m1 : ∀ x ∈ cutD T Option.none (some 1), Tie x := fun x hx => hT x (cut_mem hx)
  have rc : ∀ X4, rSl (rVar 3) cNone (cSome (rC (.int 1))) [PO, W1, .d (.int n), .d (.list T), X4] = some (.list (cutD T Option.none (some 1))) := fun X4 => rSl_ok (r3 X4) rfl rfl
  have rz : ∀ X4, rLst (qCons (rTup (qCons (rC (.int 0)) (qCons (rC (.int 0)) qNil))) qNil) [PO, W1, .d (.int n), .d (.list T), X4] = some (.list [.tuple [.int 0, .int 0]]) := fun X4 => rfl
  have c1 : ∀ X4, (rOpZ GCat (rVar 3) (rSl (rVar 3) cNone (cSome (rC (.int 1))))) [PO, W1, .d (.int n), .d (.list T), X4] = some (.list (T ++ cutD T Option.none (some 1))) := fun X4 => rCat_ok (r3 X4) (rc X4) (by omega)
  have c2 : ∀ X4, (rOpZ GCat (rLst (qCons (rTup (qCons (rC (.int 0)) (qCons (rC (.int 0)) qNil))) qNil)) (rVar 3)) [PO, W1, .d (.int n), .d (.list T), X4] = some (.list (([.tuple [.int 0, .int 0]] : List D) ++ T)) := fun X4 => rCat_ok (rz X4) (r3 X4) (by simp; omega)
  have yr : ∀ X4, (yRevLA (rVar 3) (dY (yVar 3))) [PO, W1, .d (.int n), .d (.list T), X4] = some (lstO T.reverse, [PO, W1, .d (.int n), .d (.list T), X4]) := fun X4 => yRevLA_rd (r3 X4) (lf_tie fun x hx => hT x (List.mem_reverse.mp hx))
  have y1 : ∀ X4, (yOpA GCat (rVar 3) (rSl (rVar 3) cNone (cSome (rC (.int 1)))) (dY (yVar 3)) (dY (ySlA (rVar 3) (dY (yVar 3)) cNone (cSome (rC (.int 1)))))) [PO, W1, .d (.int n), .d (.list T), X4] = some (lstO (T ++ cutD T Option.none (some 1)), [PO, W1, .d (.int n), .d (.list T), X4]) := fun X4 => yOpA_rd (r3 X4) (rc X4) (GCat_ok (by omega)) (lf_tie fun x hx => (List.mem_append.mp hx).elim (hT x) (m1 x))
  have y2 : ∀ X4, (yOpA GCat (rLst (qCons (rTup (qCons (rC (.int 0)) (qCons (rC (.int 0)) qNil))) qNil)) (rVar 3) (dY (yLst (oCons (yTup (oCons (yR (rC (.int 0))) (oCons (yR (rC (.int 0))) oNil))) oNil))) (dY (yVar 3))) [PO, W1, .d (.int n), .d (.list T), X4] = some (lstO (([.tuple [.int 0, .int 0]] : List D) ++ T), [PO, W1, .d (.int n), .d (.list T), X4]) := fun X4 => yOpA_rd (rz X4) (r3 X4) (GCat_ok (by simp; omega)) (lf_tie fun x hx => (List.mem_append.mp hx).elim (fun h => by
    rw [List.mem_singleton] at h
    exact ⟨0, 0, h, by omega, by omega⟩) (hT x))
  have t1 := toDs_ds T.reverse
  have t2 := toDs_ds (T ++ cutD T Option.none (some 1))
  have t3 := toDs_ds (([.tuple [.int 0, .int 0]] : List D) ++ T)
  rw [show lstO T.reverse = .nd .lst (T.reverse.map .d) from rfl] at yr
  rw [show lstO (T ++ cutD T Option.none (some 1)) = .nd .lst ((T ++ cutD T Option.none (some 1)).map .d) from rfl] at y1
  rw [show lstO (([.tuple [.int 0, .int 0]] : List D) ++ T) = .nd .lst ((([.tuple [.int 0, .int 0]] : List D) ++ T).map .d) from rfl] at y2
  have gc : GCat (.list LL) (.list (O2 n T)) = some (lstO (LL ++ O2 n T)) := GCat_ok (by simp [O2]; omega)
  unfold O2 at *
  clear hT hl hn k1 m1 rc rz
  generalize (T.reverse).map OT.d = OA at *
  generalize (T ++ cutD T Option.none (some 1)).map OT.d = OB at *
  generalize (([.tuple [.int 0, .int 0]] : List D) ++ T).map OT.d = OC at *
  generalize T.reverse = TA at *
  generalize T ++ cutD T Option.none (some 1) = TB at *
  generalize ([.tuple [.int 0, .int 0]] : List D) ++ T = TC at *
  generalize (yRevLA (rVar 3) (dY (yVar 3))) = YA at *
  generalize (yOpA GCat (rVar 3) (rSl (rVar 3) cNone (cSome (rC (.int 1)))) (dY (yVar 3)) (dY (ySlA (rVar 3) (dY (yVar 3)) cNone (cSome (rC (.int 1)))))) = YB at *
  generalize (yOpA GCat (rLst (qCons (rTup (qCons (rC (.int 0)) (qCons (rC (.int 0)) qNil))) qNil)) (rVar 3) (dY (yLst (oCons (yTup (oCons (yR (rC (.int 0))) (oCons (yR (rC (.int 0))) oNil))) oNil))) (dY (yVar 3))) = YC at *
  generalize (rRevL (rVar 3)) = RA at *
  generalize (rOpZ GCat (rVar 3) (rSl (rVar 3) cNone (cSome (rC (.int 1))))) = RB at *
  generalize (rOpZ GCat (rLst (qCons (rTup (qCons (rC (.int 0)) (qCons (rC (.int 0)) qNil))) qNil)) (rVar 3)) = RC at *
  generalize lstO (LL ++ _) = RES at *
  clear r3
  have rl : (rLst (qCons (rTup (qCons (rC (.int 41)) (qCons (rLst qNil) qNil))) (qCons (rTup (qCons (rCb gStrI (qCons (rVar 2) qNil)) (qCons (rVar 3) qNil))) (qCons (rTup (qCons (rVar 2) (qCons RA qNil))) (qCons (rTup (qCons (rVar 2) (qCons RB qNil))) (qCons (rTup (qCons (rVar 2) (qCons RC qNil))) qNil)))))) [PO, W1, .d (.int n), .d (.list T), X4] = some (.list [.tuple [.int 41, .list []], .tuple [.str (toString n), .list T], .tuple [.int n, .list TA], .tuple [.int n, .list TB], .tuple [.int n, .list TC]]) := by
    have rr := rr X4
    have c1 := c1 X4
    have c2 := c2 X4
    clear yr y1 y2 gc t1 t2 t3 q y4 t4
    walk_at "ev" <;> exact rfl
  have dl : (dY (yLst (oCons (yTup (oCons (yR (rC (.int 41))) (oCons (yLst oNil) oNil))) (oCons (yTup (oCons (yR (rCb gStrI (qCons (rVar 2) qNil))) (oCons (yVar 3) oNil))) (oCons (yTup (oCons (yVar 2) (oCons YA oNil))) (oCons (yTup (oCons (yVar 2) (oCons YB oNil))) (oCons (yTup (oCons (yVar 2) (oCons YC oNil))) oNil))))))) [PO, W1, .d (.int n), .d (.list T), .d (.list LL)] = some (.list [.tuple [.int 41, .list []], .tuple [.str (toString n), .list T], .tuple [.int n, .list TA], .tuple [.int n, .list TB], .tuple [.int n, .list TC]], [PO, W1, .d (.int n), .d (.list T), .d (.list LL)]) := by
    have yr := yr (.d (.list LL))
    have y1 := y1 (.d (.list LL))
    have y2 := y2 (.d (.list LL))
    clear rr c1 c2 gc rl q y4 t4
    walk_at "ev" <;> exact rfl
  refine w_asg (w_yOpAP (fun ρ => ∃ X4, ρ = [PO, W1, .d (.int n), .d (.list T), X4]) t4 rl gc ⟨_, rfl⟩ ?_ fun ρ' hp => ?_)
  · exact W.of y4 ⟨rfl, W.of dl ⟨rfl, _, rfl⟩⟩
  · obtain ⟨X4, rfl⟩ := hp
    exact q
end z09
namespace z09
open PySem L2 PL MR SH SQ SB BF SA SN
local macro_rules | `(tactic| walk_at "ev") => `(tactic| simp (config := {decide := true}) only [ini, fin, finI, sSeq, sNext, sAsg, sAsgG, sRet, sRetN, sDrop, sIf, sNever, sSetP, sAppP, sClrP, sRevP, fR, pmVar, pmIx, pmIxT, MR.putAt, OT.put, OT.at, gmName, gmTup, gmLst, gsNil, gsCons, rVar, rC, rOp, rUn, rCb, rCbZ, rOpZ, rCall, rAnd, rOr, rNot, rIf, rIs, rCh, rCh3, rTup, rLst, rSl, cNone, cSome, rRepr, dRepr, rInDct, rIdx, rIdxD, iR3s, small, qNil, qCons, qApp, lApp, bR, bAnd, bOr, bNot, tR, tD, tmAnd, tmOr, tmNot, yVar_eq, yMov, yR, yAuto, dY, yD, dR, dOp, dOpR, dCb, dAnd, dOr, dNot, yCall, yCallA, yCallI, yCallIT, yCb, yCbA, yOp, yOpA, lfO, yTup, yLst, oNil, oCons, isNo, lNil, lCons, asB, asInt, asL, asT, iL, iT, iE, iZ, iV, yRng1_eq, iR1_eq, iR2_eq, lcStep, calmAt, wipeE, rst, sApp, yPop_eq, sDPutM, ySortD, yDNew, gmName, toD_d, toD_tup, toD_lst, toDs_nil, toDs_cons, toDs_ints, toDs_fpr, toDs_prs, lfs_ints, lfs_fpr, intsO_len, prsO_len, fprO_len, rng_len, intsO_snoc, prsO_snoc, lstO_rg, rOpZ, rCbZ, isNo_lstO, toD_dnew, ySl, ySlA, neS_self, eqS_self,  rRevL, yRevL, yRevLA, yPop0, sExt, gStrI,  lstO_prs, lstO_ints, toD_lstO, kp_int, kp_bool, kp_tuple, kp_list, kp_str, isIntB, isBoolB, isTupB, isListB, isStrB, gAdd_i, gSub_i, gLt_i, gLe_i, gGt_i, gGe_i, gMul_r, gMul_l, gMod_i, gDiv_i, gPow_i, gNeg, gEqI, gNeI, gEqS, gNeS, gIsN, gNotN, gIsB, gNotB, gIxL, gIxT, gLen, gMax2, gMin2, gInt, gAll, asBools_map, isN, OT.lf, OT.lfs, flat, atI_0, atI_1, ixN_0, ixN_1, rgD_len, enumD_len, trues_len, Int.toNat_natCast, List.length_map, eq_self, Option.bind_some, Option.bind_none, Option.map_some, Option.map_none, List.getElem?_cons_zero, List.getElem?_cons_succ, List.set_cons_zero, List.set_cons_succ, List.map_cons, List.map_nil, List.replicate, List.nil_append, List.cons_append, List.length_cons, List.length_nil, List.all_cons, List.all_nil, if_true, if_false, reduceIte, tfl_int, tfl_bool, tfl_none, tfl_str, tfl_list, Bool.true_and, Bool.and_true, Bool.false_and, Bool.and_false, Bool.true_or, Bool.or_true, Bool.false_or, Bool.or_false, Bool.not_true, Bool.not_false, Bool.false_eq_true, decide_true, decide_false, true_and, and_true, false_and, and_false, or_true, true_or, *])
theorem st3 {PO W1 X4 : OT} {n : Int} {T LL : List D} (hn : 0 ≤ n ∧ n ≤ 1000) (hT : ∀ x ∈ T, Tie x) (hl : T.length ≤ 120) (ll : LL.length ≤ 100) (t4 : OT.toD X4 = some (.list LL)) (y4 : dY (yVar 4) [PO, W1, .d (.int n), .d (.list T), X4] = some (.list LL, [PO, W1, .d (.int n), .d (.list T), .d (.list LL)])) {Q : Fl → MR.Env → Prop}
    (q : Q .nx [PO, W1, .d (.int n), .d (.list T), lstO (LL ++ O3 n T)]) : W (sAsg 4 (yOpA GCat (rVar 4) (rLst (qCons (rTup (qCons (rVar 2) (qCons (rOpZ GCat (rVar 3) (rLst (qCons (rTup (qCons (rOp gSub (rVar 2) (rC (.int 1))) (qCons (rVar 2) qNil))) qNil))) qNil))) (qCons (rTup (qCons (rVar 2) (qCons (rLst (qCons (rLst (qCons (rC (.int 0)) (qCons (rC (.int 1)) qNil))) qNil)) qNil))) (qCons (rTup (qCons (rVar 2) (qCons (rLst (qCons (rTup (qCons (rC (.int 0)) (qCons (rC (.bool true)) qNil))) qNil)) qNil))) (qCons (rTup (qCons (rVar 2) (qCons (rLst (qCons (rTup (qCons (rC (.int 0)) (qCons (rC (.int 1)) (qCons (rC (.int 2)) qNil)))) qNil)) qNil))) qNil))))) (dY (yVar 4)) (dY (yLst (oCons (yTup (oCons (yVar 2) (oCons (yOpA GCat (rVar 3) (rLst (qCons (rTup (qCons (rOp gSub (rVar 2) (rC (.int 1))) (qCons (rVar 2) qNil))) qNil)) (dY (yVar 3)) (dY (yLst (oCons (yTup (oCons (yR (rOp gSub (rVar 2) (rC (.int 1)))) (oCons (yVar 2) oNil))) oNil)))) oNil))) (oCons (yTup (oCons (yVar 2) (oCons (yLst (oCons (yLst (oCons (yR (rC (.int 0))) (oCons (yR (rC (.int 1))) oNil))) oNil)) oNil))) (oCons (yTup (oCons (yVar 2) (oCons (yLst (oCons (yTup (oCons (yR (rC (.int 0))) (oCons (yR (rC (.bool true))) oNil))) oNil)) oNil))) (oCons (yTup (oCons (yVar 2) (oCons (yLst (oCons (yTup (oCons (yR (rC (.int 0))) (oCons (yR (rC (.int 1))) (oCons (yR (rC (.int 2))) oNil)))) oNil)) oNil))) oNil)))))))) [PO, W1, .d (.int n), .d (.list T), X4] Q := by
  have r3 : ∀ X4, rVar 3 [PO, W1, .d (.int n), .d (.list T), X4] = some (.list T) := fun X4 => toD_d _
  have rz : ∀ X4, (rLst (qCons (rTup (qCons (rOp gSub (rVar 2) (rC (.int 1))) (qCons (rVar 2) qNil))) qNil)) [PO, W1, .d (.int n), .d (.list T), X4] = some (.list [.tuple [.int (n - 1), .int n]]) := fun X4 => rfl
  have c1 : ∀ X4, (rOpZ GCat (rVar 3) (rLst (qCons (rTup (qCons (rOp gSub (rVar 2) (rC (.int 1))) (qCons (rVar 2) qNil))) qNil))) [PO, W1, .d (.int n), .d (.list T), X4] = some (.list (T ++ [PyData.tuple [.int (n - 1), .int n]])) := fun X4 => rCat_ok (r3 X4) (rz X4) (by simp; omega)
  have y1 : ∀ X4, (yOpA GCat (rVar 3) (rLst (qCons (rTup (qCons (rOp gSub (rVar 2) (rC (.int 1))) (qCons (rVar 2) qNil))) qNil)) (dY (yVar 3)) (dY (yLst (oCons (yTup (oCons (yR (rOp gSub (rVar 2) (rC (.int 1)))) (oCons (yVar 2) oNil))) oNil)))) [PO, W1, .d (.int n), .d (.list T), X4] = some (lstO (T ++ [PyData.tuple [.int (n - 1), .int n]]), [PO, W1, .d (.int n), .d (.list T), X4]) := fun X4 => yOpA_rd (r3 X4) (rz X4) (GCat_ok (by simp; omega)) (lf_lstD (xs := T ++ [PyData.tuple [.int (n - 1), .int n]]) fun x hx => (List.mem_append.mp hx).elim (fun h => (hT x h).fl) (fun h => by
    rw [List.mem_singleton] at h
    rw [h]
    simp [tfl, flat]))
  have t1 := toDs_ds (T ++ [PyData.tuple [.int (n - 1), .int n]])
  rw [show lstO (T ++ [PyData.tuple [.int (n - 1), .int n]]) = .nd .lst ((T ++ [PyData.tuple [.int (n - 1), .int n]]).map .d) from rfl] at y1
  have gc : GCat (.list LL) (.list (O3 n T)) = some (lstO (LL ++ O3 n T)) := GCat_ok (by simp [O3]; omega)
  unfold O3 at *
  clear hT hl hn rz
  generalize (T ++ [PyData.tuple [.int (n - 1), .int n]]).map OT.d = OA at *
  generalize T ++ [PyData.tuple [.int (n - 1), .int n]] = TA at *
  generalize (yOpA GCat (rVar 3) (rLst (qCons (rTup (qCons (rOp gSub (rVar 2) (rC (.int 1))) (qCons (rVar 2) qNil))) qNil)) (dY (yVar 3)) (dY (yLst (oCons (yTup (oCons (yR (rOp gSub (rVar 2) (rC (.int 1)))) (oCons (yVar 2) oNil))) oNil)))) = YA at *
  generalize (rOpZ GCat (rVar 3) (rLst (qCons (rTup (qCons (rOp gSub (rVar 2) (rC (.int 1))) (qCons (rVar 2) qNil))) qNil))) = RA at *
  generalize lstO (LL ++ _) = RES at *
  clear r3
  have rl : (rLst (qCons (rTup (qCons (rVar 2) (qCons RA qNil))) (qCons (rTup (qCons (rVar 2) (qCons (rLst (qCons (rLst (qCons (rC (.int 0)) (qCons (rC (.int 1)) qNil))) qNil)) qNil))) (qCons (rTup (qCons (rVar 2) (qCons (rLst (qCons (rTup (qCons (rC (.int 0)) (qCons (rC (.bool true)) qNil))) qNil)) qNil))) (qCons (rTup (qCons (rVar 2) (qCons (rLst (qCons (rTup (qCons (rC (.int 0)) (qCons (rC (.int 1)) (qCons (rC (.int 2)) qNil)))) qNil)) qNil))) qNil))))) [PO, W1, .d (.int n), .d (.list T), X4] = some (.list [.tuple [.int n, .list TA], .tuple [.int n, .list [.list [.int 0, .int 1]]], .tuple [.int n, .list [.tuple [.int 0, .bool true]]], .tuple [.int n, .list [.tuple [.int 0, .int 1, .int 2]]]]) := by
    have c1 := c1 X4
    clear y1 gc t1 q y4 t4
    walk_at "ev" <;> exact rfl
  have dl : (dY (yLst (oCons (yTup (oCons (yVar 2) (oCons YA oNil))) (oCons (yTup (oCons (yVar 2) (oCons (yLst (oCons (yLst (oCons (yR (rC (.int 0))) (oCons (yR (rC (.int 1))) oNil))) oNil)) oNil))) (oCons (yTup (oCons (yVar 2) (oCons (yLst (oCons (yTup (oCons (yR (rC (.int 0))) (oCons (yR (rC (.bool true))) oNil))) oNil)) oNil))) (oCons (yTup (oCons (yVar 2) (oCons (yLst (oCons (yTup (oCons (yR (rC (.int 0))) (oCons (yR (rC (.int 1))) (oCons (yR (rC (.int 2))) oNil)))) oNil)) oNil))) oNil)))))) [PO, W1, .d (.int n), .d (.list T), .d (.list LL)] = some (.list [.tuple [.int n, .list TA], .tuple [.int n, .list [.list [.int 0, .int 1]]], .tuple [.int n, .list [.tuple [.int 0, .bool true]]], .tuple [.int n, .list [.tuple [.int 0, .int 1, .int 2]]]], [PO, W1, .d (.int n), .d (.list T), .d (.list LL)]) := by
    have y1 := y1 (.d (.list LL))
    clear c1 gc rl q y4 t4
    walk_at "ev" <;> exact rfl
  refine w_asg (w_yOpAP (fun ρ => ∃ X4, ρ = [PO, W1, .d (.int n), .d (.list T), X4]) t4 rl gc ⟨_, rfl⟩ ?_ fun ρ' hp => ?_)
  · exact W.of y4 ⟨rfl, W.of dl ⟨rfl, _, rfl⟩⟩
  · obtain ⟨X4, rfl⟩ := hp
    exact q
theorem st4 {PO W1 X4 : OT} {n : Int} {T LL : List D} (hn : 0 ≤ n ∧ n ≤ 1000) (hT : ∀ x ∈ T, Tie x) (hl : T.length ≤ 120) (ll : LL.length ≤ 100) (t4 : OT.toD X4 = some (.list LL)) (y4 : dY (yVar 4) [PO, W1, .d (.int n), .d (.list T), X4] = some (.list LL, [PO, W1, .d (.int n), .d (.list T), .d (.list LL)])) {Q : Fl → MR.Env → Prop}
    (q : Q .nx [PO, W1, .d (.int n), .d (.list T), lstO (LL ++ O4 n)]) : W (sAsg 4 (yOp GCat (dY (yVar 4)) (dY (yLst (oCons (yTup (oCons (yVar 2) (oCons (yR (rC .none)) oNil))) (oCons (yTup (oCons (yVar 2) (oCons (yLst (oCons (yTup (oCons (yR (rC (.int 1))) (oCons (yR (rC (.int 0))) oNil))) oNil)) oNil))) (oCons (yTup (oCons (yR (rC (.int 40))) (oCons (yRep (yLst (oCons (yD (dY (yTup (oCons (yR (rC (.int 0))) (oCons (yR (rC (.int 1))) oNil))))) oNil)) (rC (.int 121))) oNil))) (oCons yDNew (oCons (yTup oNil) oNil))))))))) [PO, W1, .d (.int n), .d (.list T), X4] Q := by
  have yr : (yRep (yLst (oCons (yD (dY (yTup (oCons (yR (rC (.int 0))) (oCons (yR (rC (.int 1))) oNil))))) oNil)) (rC (.int 121))) [PO, W1, .d (.int n), .d (.list T), .d (.list LL)] = some (lstO (List.replicate 121 (.tuple [.int 0, .int 1])), [PO, W1, .d (.int n), .d (.list T), .d (.list LL)]) :=
    yRep_one (k := 121) (x := .tuple [.int 0, .int 1]) (by clear hT hl hn ll t4 y4 q; walk_at "ev" <;> exact rfl) rfl (by omega)
  have t1 := toDs_ds (List.replicate 121 (PyData.tuple [.int 0, .int 1]))
  rw [show lstO (List.replicate 121 (PyData.tuple [.int 0, .int 1])) = .nd .lst ((List.replicate 121 (PyData.tuple [.int 0, .int 1])).map .d) from rfl] at yr
  have gc : GCat (.list LL) (.list (O4 n)) = some (lstO (LL ++ O4 n)) := GCat_ok (by simp [O4]; omega)
  unfold O4 at *
  generalize (List.replicate 121 (PyData.tuple [.int 0, .int 1])).map OT.d = OA at *
  generalize List.replicate 121 (PyData.tuple [.int 0, .int 1]) = RP at *
  generalize (yRep (yLst (oCons (yD (dY (yTup (oCons (yR (rC (.int 0))) (oCons (yR (rC (.int 1))) oNil))))) oNil)) (rC (.int 121))) = YA at *
  generalize lstO (LL ++ _) = RES at *
  have dl : (dY (yLst (oCons (yTup (oCons (yVar 2) (oCons (yR (rC .none)) oNil))) (oCons (yTup (oCons (yVar 2) (oCons (yLst (oCons (yTup (oCons (yR (rC (.int 1))) (oCons (yR (rC (.int 0))) oNil))) oNil)) oNil))) (oCons (yTup (oCons (yR (rC (.int 40))) (oCons YA oNil))) (oCons yDNew (oCons (yTup oNil) oNil))))))) [PO, W1, .d (.int n), .d (.list T), .d (.list LL)] = some (.list [.tuple [.int n, .none], .tuple [.int n, .list [.tuple [.int 1, .int 0]]], .tuple [.int 40, .list RP], .dict [], .tuple []], [PO, W1, .d (.int n), .d (.list T), .d (.list LL)]) := by
    clear hT hl hn gc q y4 t4 ll
    walk_at "ev" <;> exact rfl
  exact w_asg (w_yOp (W.of y4 (W.of dl ⟨_, gc, q⟩)))
theorem st5 {PO W1 X4 : OT} {n : Int} {T LL : List D} (hn : 0 ≤ n ∧ n ≤ 1000) (hT : ∀ x ∈ T, Tie x) (hl : T.length ≤ 120) (ll : LL.length ≤ 100) (t4 : OT.toD X4 = some (.list LL)) (y4 : dY (yVar 4) [PO, W1, .d (.int n), .d (.list T), X4] = some (.list LL, [PO, W1, .d (.int n), .d (.list T), .d (.list LL)])) {Q : Fl → MR.Env → Prop}
    (q : Q .nx [PO, W1, .d (.int n), .d (.list T), lstO (LL ++ O5 n)]) : W (sAsg 4 (yOpA GCat (rVar 4) (rLst (qCons (rTup (qCons (rVar 2) (qCons (rLst (qCons (rTup (qCons (rC (.int 0)) (qCons (rC (.str "1")) qNil))) qNil)) qNil))) (qCons (rTup (qCons (rVar 2) (qCons (rLst (qCons (rTup (qCons (rC .none) (qCons (rC (.int 1)) qNil))) qNil)) qNil))) qNil))) (dY (yVar 4)) (dY (yLst (oCons (yTup (oCons (yVar 2) (oCons (yLst (oCons (yTup (oCons (yR (rC (.int 0))) (oCons (yR (rC (.str "1"))) oNil))) oNil)) oNil))) (oCons (yTup (oCons (yVar 2) (oCons (yLst (oCons (yTup (oCons (yR (rC .none)) (oCons (yR (rC (.int 1))) oNil))) oNil)) oNil))) oNil)))))) [PO, W1, .d (.int n), .d (.list T), X4] Q := by
  have gc : GCat (.list LL) (.list (O5 n)) = some (lstO (LL ++ O5 n)) := GCat_ok (by simp [O5]; omega)
  unfold O5 at *
  generalize lstO (LL ++ _) = RES at *
  have rl : (rLst (qCons (rTup (qCons (rVar 2) (qCons (rLst (qCons (rTup (qCons (rC (.int 0)) (qCons (rC (.str "1")) qNil))) qNil)) qNil))) (qCons (rTup (qCons (rVar 2) (qCons (rLst (qCons (rTup (qCons (rC .none) (qCons (rC (.int 1)) qNil))) qNil)) qNil))) qNil))) [PO, W1, .d (.int n), .d (.list T), X4] = some (.list [.tuple [.int n, .list [.tuple [.int 0, .str "1"]]], .tuple [.int n, .list [.tuple [.none, .int 1]]]]) := by
    clear hT hl hn gc q y4 t4 ll
    walk_at "ev" <;> exact rfl
  have dl : (dY (yLst (oCons (yTup (oCons (yVar 2) (oCons (yLst (oCons (yTup (oCons (yR (rC (.int 0))) (oCons (yR (rC (.str "1"))) oNil))) oNil)) oNil))) (oCons (yTup (oCons (yVar 2) (oCons (yLst (oCons (yTup (oCons (yR (rC .none)) (oCons (yR (rC (.int 1))) oNil))) oNil)) oNil))) oNil)))) [PO, W1, .d (.int n), .d (.list T), .d (.list LL)] = some (.list [.tuple [.int n, .list [.tuple [.int 0, .str "1"]]], .tuple [.int n, .list [.tuple [.none, .int 1]]]], [PO, W1, .d (.int n), .d (.list T), .d (.list LL)]) := by
    clear hT hl hn gc q y4 t4 ll rl
    walk_at "ev" <;> exact rfl
  refine w_asg (w_yOpAP (fun ρ => ∃ X4, ρ = [PO, W1, .d (.int n), .d (.list T), X4]) t4 rl gc ⟨_, rfl⟩ ?_ fun ρ' hp => ?_)
  · exact W.of y4 ⟨rfl, W.of dl ⟨rfl, _, rfl⟩⟩
  · obtain ⟨X4, rfl⟩ := hp
    exact q
theorem y4_of {PO W1 : OT} {n : Int} {T LL : List D} {XS : List OT} (t : OT.toD (.nd .lst XS) = some (.list LL)) : dY (yVar 4) [PO, W1, .d (.int n), .d (.list T), .nd .lst XS] = some (.list LL, [PO, W1, .d (.int n), .d (.list T), .d (.list LL)]) := by
  unfold dY
  rw [yVar_eq]
  simp only [List.getElem?_cons_succ, List.getElem?_cons_zero, Option.bind_some, t, Option.map_some, toD_d, List.set_cons_succ, List.set_cons_zero]
end z09
namespace z09
open PySem L2 PL MR SH SQ SB BF SA SN
local macro_rules | `(tactic| walk_at "ev") => `(tactic| simp (config := {decide := true}) only [ini, fin, finI, sSeq, sNext, sAsg, sAsgG, sRet, sRetN, sDrop, sIf, sNever, sSetP, sAppP, sClrP, sRevP, fR, pmVar, pmIx, pmIxT, MR.putAt, OT.put, OT.at, gmName, gmTup, gmLst, gsNil, gsCons, rVar, rC, rOp, rUn, rCb, rCbZ, rOpZ, rCall, rAnd, rOr, rNot, rIf, rIs, rCh, rCh3, rTup, rLst, rSl, cNone, cSome, rRepr, dRepr, rInDct, rIdx, rIdxD, iR3s, small, qNil, qCons, qApp, lApp, bR, bAnd, bOr, bNot, tR, tD, tmAnd, tmOr, tmNot, yVar_eq, yMov, yR, yAuto, dY, yD, dR, dOp, dOpR, dCb, dAnd, dOr, dNot, yCall, yCallA, yCallI, yCallIT, yCb, yCbA, yOp, yOpA, lfO, yTup, yLst, oNil, oCons, isNo, lNil, lCons, asB, asInt, asL, asT, iL, iT, iE, iZ, iV, yRng1_eq, iR1_eq, iR2_eq, lcStep, calmAt, wipeE, rst, sApp, yPop_eq, sDPutM, ySortD, yDNew, gmName, toD_d, toD_tup, toD_lst, toDs_nil, toDs_cons, toDs_ints, toDs_fpr, toDs_prs, lfs_ints, lfs_fpr, intsO_len, prsO_len, fprO_len, rng_len, intsO_snoc, prsO_snoc, lstO_rg, rOpZ, rCbZ, isNo_lstO, toD_dnew, ySl, ySlA, neS_self, eqS_self,  rRevL, yRevL, yRevLA, yPop0, sExt, gStrI,  lstO_prs, lstO_ints, toD_lstO, kp_int, kp_bool, kp_tuple, kp_list, kp_str, isIntB, isBoolB, isTupB, isListB, isStrB, gAdd_i, gSub_i, gLt_i, gLe_i, gGt_i, gGe_i, gMul_r, gMul_l, gMod_i, gDiv_i, gPow_i, gNeg, gEqI, gNeI, gEqS, gNeS, gIsN, gNotN, gIsB, gNotB, gIxL, gIxT, gLen, gMax2, gMin2, gInt, gAll, asBools_map, isN, OT.lf, OT.lfs, flat, atI_0, atI_1, ixN_0, ixN_1, rgD_len, enumD_len, trues_len, Int.toNat_natCast, List.length_map, eq_self, Option.bind_some, Option.bind_none, Option.map_some, Option.map_none, List.getElem?_cons_zero, List.getElem?_cons_succ, List.set_cons_zero, List.set_cons_succ, List.map_cons, List.map_nil, List.replicate, List.nil_append, List.cons_append, List.length_cons, List.length_nil, List.all_cons, List.all_nil, if_true, if_false, reduceIte, tfl_int, tfl_bool, tfl_none, tfl_str, tfl_list, Bool.true_and, Bool.and_true, Bool.false_and, Bool.and_false, Bool.true_or, Bool.or_true, Bool.false_or, Bool.or_false, Bool.not_true, Bool.not_false, Bool.false_eq_true, decide_true, decide_false, true_and, and_true, false_and, and_false, or_true, true_or, *])
abbrev Q9 (d : D) : Prop := Nc d 4 3000
theorem q9_of {d : D} {k b : Nat} (h : Nc d k b) (h1 : k ≤ 4) (h2 : b ≤ 3000) : Q9 d := h.up h1 h2
abbrev PN (d : D) : Prop := Nc d 3 800
theorem pn {d : D} {k b : Nat} (h : Nc d k b) (h1 : k ≤ 3) (h2 : b ≤ 800) : PN d := h.up h1 h2
theorem qt1 {a : D} (ha : PN a) : Q9 (.tuple [a]) := q9_of (nc_tup (n := 1) (k := 3) (b := 800) (fun x hx => by
  rw [List.mem_singleton] at hx; rw [hx]; exact ha) (by simp)) (by omega) (by omega)
theorem qt2 {a b : D} (ha : PN a) (hb : PN b) : Q9 (.tuple [a, b]) := q9_of (nc_tup (n := 2) (k := 3) (b := 800) (fun x hx => by
  simp only [List.mem_cons, List.not_mem_nil, or_false] at hx
  rcases hx with rfl | rfl <;> assumption) (by simp)) (by omega) (by omega)
theorem ql2 {a b : D} (ha : PN a) (hb : PN b) : Q9 (.list [a, b]) := q9_of (nc_list (n := 2) (k := 3) (b := 800) (fun x hx => by
  simp only [List.mem_cons, List.not_mem_nil, or_false] at hx
  rcases hx with rfl | rfl <;> assumption) (by simp)) (by omega) (by omega)
theorem qt3 {a b c : D} (ha : PN a) (hb : PN b) (hc : PN c) : Q9 (.tuple [a, b, c]) := q9_of (nc_tup (n := 3) (k := 3) (b := 800) (fun x hx => by
  simp only [List.mem_cons, List.not_mem_nil, or_false] at hx
  rcases hx with rfl | rfl | rfl <;> assumption) (by simp)) (by omega) (by omega)
theorem nt2 {a b : D} {k c : Nat} (ha : Nc a k c) (hb : Nc b k c) : Nc (.tuple [a, b]) (k + 1) (2 * (c + 1)) := nc_tup (fun x hx => by
  simp only [List.mem_cons, List.not_mem_nil, or_false] at hx
  rcases hx with rfl | rfl <;> assumption) (by simp)
theorem nl1 {a : D} {k c : Nat} (ha : Nc a k c) : Nc (.list [a]) (k + 1) (1 * (c + 1)) := nc_list (fun x hx => by
  rw [List.mem_singleton] at hx; rw [hx]; exact ha) (by simp)
theorem nl2 {a b : D} {k c : Nat} (ha : Nc a k c) (hb : Nc b k c) : Nc (.list [a, b]) (k + 1) (2 * (c + 1)) := nc_list (fun x hx => by
  simp only [List.mem_cons, List.not_mem_nil, or_false] at hx
  rcases hx with rfl | rfl <;> assumption) (by simp)
theorem nt3 {a b d : D} {k c : Nat} (ha : Nc a k c) (hb : Nc b k c) (hd : Nc d k c) : Nc (.tuple [a, b, d]) (k + 1) (3 * (c + 1)) := nc_tup (fun x hx => by
  simp only [List.mem_cons, List.not_mem_nil, or_false] at hx
  rcases hx with rfl | rfl | rfl <;> assumption) (by simp)
theorem n4 {i : Int} (h : -1000 ≤ i ∧ i ≤ 1000) : Nc (.int i) 0 1 := (nc_int (i := i) (Nat.lt_of_lt_of_le (show i.natAbs < 10 ^ 4 by omega) (Nat.pow_le_pow_right (by decide) (by decide)))).up (by omega) (by omega)
theorem q_o {n : Int} {T : List D} (hn : 0 ≤ n ∧ n ≤ 1000) (hT : ∀ x ∈ T, Tie x) (hl : T.length ≤ 120) : ∀ x ∈ O1 n T ++ O2 n T ++ O3 n T ++ O4 n ++ O5 n, Q9 x := by
  have nn : Nc (.int n) 0 1 := n4 ⟨by omega, by omega⟩
  have ni : ∀ i : Int, -1000 ≤ i ∧ i ≤ 1000 → Nc (.int i) 0 1 := fun i h => n4 h
  have nb : ∀ c, Nc (.bool c : D) 0 1 := fun c => (nc_bool c).up (by omega) (by omega)
  have nx : Nc (.none : D) 0 1 := nc_none.up (by omega) (by omega)
  have ns := nc_txt hn
  have n1s : Nc (.str "1" : D) 0 1 := nc_str "1" (by decide)
  have up : ∀ {d : D} {k b : Nat}, Nc d k b → k ≤ 3 → b ≤ 800 → PN d := fun h a b => pn h a b
  have li : ∀ {L : List D}, (∀ x ∈ L, Nc x 1 5) → L.length ≤ 121 → PN (.list L) := fun h hl => pn (nc_list h hl) (by omega) (by omega)
  have li2 : ∀ {L : List D}, (∀ x ∈ L, Tie x) → L.length ≤ 241 → PN (.list L) := fun h hl => pn (nc_list (fun x hx => (h x hx).nc) hl) (by omega) (by omega)
  have tt := li2 hT (by omega)
  have tu : PN (.tuple T) := pn (nc_tup (fun x hx => (hT x hx).nc) hl) (by omega) (by omega)
  have te : PN (.list []) := li2 (fun x hx => by cases hx) (by simp)
  have k1 := cut_len T Option.none (some 1)
  have pnn := up nn (by omega) (by omega)
  have i1 := ni 1 ⟨by omega, by omega⟩
  have i0 := ni 0 ⟨by omega, by omega⟩
  intro x hx
  simp only [List.mem_append] at hx
  rcases hx with (((hx | hx) | hx) | hx) | hx
  · simp only [O1, List.mem_cons, List.not_mem_nil, or_false] at hx
    rcases hx with rfl | rfl | rfl | rfl | rfl | rfl | rfl | rfl | rfl | rfl
    · exact q9_of nx (by omega) (by omega)
    · exact q9_of (ni 5 ⟨by omega, by omega⟩) (by omega) (by omega)
    · exact q9_of (nb true) (by omega) (by omega)
    · exact q9_of (nc_str "2 0-1" (b := 10) (by decide)) (by omega) (by omega)
    · exact ql2 pnn tt
    · exact qt1 pnn
    · exact qt3 pnn tt (up i0 (by omega) (by omega))
    · exact qt2 pnn tu
    · exact qt2 (up (nb true) (by omega) (by omega)) te
    · exact qt2 (up i0 (by omega) (by omega)) te
  · simp only [O2, List.mem_cons, List.not_mem_nil, or_false] at hx
    rcases hx with rfl | rfl | rfl | rfl | rfl
    · exact qt2 (up (ni 41 ⟨by omega, by omega⟩) (by omega) (by omega)) te
    · exact qt2 (up ns (by omega) (by omega)) tt
    · exact qt2 pnn (li2 (fun x hx => hT x (List.mem_reverse.mp hx)) (by rw [List.length_reverse]; omega))
    · exact qt2 pnn (li2 (fun x hx => (List.mem_append.mp hx).elim (hT x) (fun h => hT x (cut_mem h))) (by rw [List.length_append]; omega))
    · exact qt2 pnn (li2 (fun x hx => (List.mem_append.mp hx).elim (fun h => by
        rw [List.mem_singleton] at h
        exact ⟨0, 0, h, by omega, by omega⟩) (hT x)) (by simp; omega))
  · simp only [O3, List.mem_cons, List.not_mem_nil, or_false] at hx
    rcases hx with rfl | rfl | rfl | rfl
    · refine qt2 pnn (li (fun x hx => (List.mem_append.mp hx).elim (fun h => (hT x h).nc.up (by omega) (by omega)) fun h => ?_) (by simp; omega))
      rw [List.mem_singleton] at h
      rw [h]
      exact (nt2 (n4 (i := n - 1) ⟨by omega, by omega⟩) nn).up (by omega) (by omega)
    · exact qt2 pnn (up (nl1 (nl2 i0 i1)) (by omega) (by omega))
    · exact qt2 pnn (up (nl1 (nt2 i0 (nb true))) (by omega) (by omega))
    · exact qt2 pnn (up (nl1 (nt3 i0 i1 (ni 2 ⟨by omega, by omega⟩))) (by omega) (by omega))
  · simp only [O4, List.mem_cons, List.not_mem_nil, or_false] at hx
    rcases hx with rfl | rfl | rfl | rfl | rfl
    · exact qt2 pnn (up nx (by omega) (by omega))
    · exact qt2 pnn (up (nl1 (nt2 i1 i0)) (by omega) (by omega))
    · refine qt2 (up (ni 40 ⟨by omega, by omega⟩) (by omega) (by omega)) (li (fun x hx => ?_) (by rw [List.length_replicate]; omega))
      rw [List.eq_of_mem_replicate hx]
      exact (nt2 i0 i1).up (by omega) (by omega)
    · exact q9_of nc_dict (by omega) (by omega)
    · exact q9_of (nc_tup (xs := []) (k := 0) (b := 0) (n := 0) (fun x hx => by cases hx) (Nat.le_refl 0)) (by omega) (by omega)
  · simp only [O5, List.mem_cons, List.not_mem_nil, or_false] at hx
    rcases hx with rfl | rfl
    · exact qt2 pnn (up (nl1 (nt2 i0 n1s)) (by omega) (by omega))
    · exact qt2 pnn (up (nl1 (nt2 nx i1)) (by omega) (by omega))
theorem o_len (n : Int) (T : List D) : (O1 n T ++ O2 n T ++ O3 n T ++ O4 n ++ O5 n).length = 26 := by simp [O1, O2, O3, O4, O5]
theorem odd_gen {ps : List OT} {n : Int} {T : List D} (hp : POk ps) (hn : 0 ≤ n ∧ n ≤ 1000) (hT : ∀ x ∈ T, Tie x) (hl : T.length ≤ 120) :
    ∃ x ps', m__law_odd (.nd .lst ps) [.tuple [.int n, .list T]] = some (.d x, .nd .lst ps') ∧ POk ps' ∧ Q9 x := by
  obtain ⟨r, ps', et, hp', r0, r1⟩ := take_ok hp 26 (by omega) (by omega)
  obtain ⟨x, ex, qx⟩ := pick_nc (q_o hn hT hl) (i := r.toNat) (by rw [o_len]; omega)
  rw [Int.toNat_of_nonneg r0] at ex
  refine ⟨x, ps', ?_, hp', qx⟩
  unfold m__law_odd B__law_odd
  have W0 : W B__law_odd [.nd .lst ps, .d (.tuple [.int n, .list T]), .no, .no, .no] (endIK fun r t => r = .d x ∧ t = .nd .lst ps') := by
    unfold B__law_odd
    refine w_st (ρ1 := [.nd .lst ps, .d (.tuple [.int n, .list T]), .d (.int n), .d (.list T), .no]) (by
      clear hp hn hT hl et hp' r0 r1 ex qx
      walk_at "ev" <;> exact rfl) ?_
    refine w_st (st1 hT) ?_
    have l1 : (O1 n T).length ≤ 100 := by simp [O1]
    have l2 : (O1 n T ++ O2 n T).length ≤ 100 := by simp [O1, O2]
    have l3 : (O1 n T ++ O2 n T ++ O3 n T).length ≤ 100 := by simp [O1, O2, O3]
    have l4 : (O1 n T ++ O2 n T ++ O3 n T ++ O4 n).length ≤ 100 := by simp [O1, O2, O3, O4]
    refine w_seq (st2 hn hT hl l1 (toD_S4 n T) (y4_of (toD_S4 n T)) ?_)
    refine w_seq (st3 hn hT hl l2 (toD_lstO _) (y4_of (toD_lstO _)) ?_)
    refine w_seq (st4 hn hT hl l3 (toD_lstO _) (y4_of (toD_lstO _)) ?_)
    refine w_seq (st5 hn hT hl l4 (toD_lstO _) (y4_of (toD_lstO _)) ?_)
    clear l1 l2 l3 l4 hp hp' qx r0 r1 hn hT hl
    have y4 := y4_of (PO := .nd .lst ps) (W1 := .d (.tuple [.int n, .list T])) (n := n) (T := T) (toD_lstO (O1 n T ++ O2 n T ++ O3 n T ++ O4 n ++ O5 n))
    rw [show OT.nd .lst ((O1 n T ++ O2 n T ++ O3 n T ++ O4 n ++ O5 n).map .d) = lstO (O1 n T ++ O2 n T ++ O3 n T ++ O4 n ++ O5 n) from rfl] at y4
    generalize O1 n T ++ O2 n T ++ O3 n T ++ O4 n ++ O5 n = LL at *
    generalize lstO LL = X4 at *
    generalize OT.d (.tuple [.int n, .list T]) = W1 at *
    have ed : dOp gIxL (dY (yVar 4)) (dY (yCallI SH.m__law_take 2 0 (lCons (dR (rC (.int 26))) lNil))) [.nd .lst ps, W1, .d (.int n), .d (.list T), X4] = some (x, [.nd .lst ps', W1, .d (.int n), .d (.list T), .d (.list LL)]) := by
      generalize dY (yVar 4) = Y4 at *
      walk_at "ev" <;> exact rfl
    generalize dOp gIxL _ _ = DD at *
    refine w_ret (W.of (r := .d x) (ρ' := [.nd .lst ps', W1, .d (.int n), .d (.list T), .d (.list LL)]) (by unfold yD; rw [ed]; rfl) ?_)
    exact ⟨rfl, rfl⟩
  obtain ⟨r2, t2, e2, q1, q2⟩ := finI_w W0
  rw [q1, q2] at e2
  exact e2
theorem odd_ok {ps : List OT} {w : Wb} (hp : POk ps) (k : WbOk w) : ∃ x ps', m__law_odd (.nd .lst ps) [wbD w] = some (.d x, .nd .lst ps') ∧ POk ps' ∧ Q9 x := by
  have hi := k.hi
  exact odd_gen (n := (w.1 : Nat)) hp ⟨by omega, by omega⟩ (wb_ties k) (by rw [List.length_map]; exact k.len)
theorem q9_wb {w : Wb} (k : WbOk w) : Q9 (wbD w) := by
  have hi := k.hi
  exact qt2 (pn (n4 (i := (w.1 : Nat)) ⟨by omega, by omega⟩) (by omega) (by omega)) (pn (nc_list (n := 120) (fun x hx => ((wb_ties k) x hx).nc) (by rw [List.length_map]; exact k.len)) (by omega) (by omega))
end z09
namespace SH
open PySem L2 PL MR
local macro_rules | `(tactic| walk_at "ev") => `(tactic| simp (config := {decide := true}) only [ini, fin, finI, sSeq, sNext, sAsg, sAsgG, sRet, sRetN, sDrop, sIf, sNever, sSetP, sAppP, sClrP, sRevP, fR, pmVar, pmIx, pmIxT, MR.putAt, OT.put, OT.at, gmName, gmTup, gmLst, gsNil, gsCons, rVar, rC, rOp, rUn, rCb, rCbZ, rOpZ, rCall, rAnd, rOr, rNot, rIf, rIs, rCh, rCh3, rTup, rLst, rSl, cNone, cSome, rRepr, dRepr, rInDct, rIdx, small, qNil, qCons, qApp, lApp, bR, bAnd, bOr, bNot, tR, tD, tmAnd, tmOr, tmNot, yVar, yMov, yR, yAuto, dY, yD, dR, dOp, dOpR, dCb, dAnd, dOr, dNot, yCall, yCallA, yCallI, yCallIT, yCb, yCbA, yOp, yOpA, lfO, yTup, yLst, oNil, oCons, isNo, lNil, lCons, asB, asInt, asL, asT, iL, iT, iE, iZ, iV, yRng1_eq, iR1_eq, iR2_eq, lcStep, calmAt, wipeE, rst, sApp, yPop_eq, sDPutM, ySortD, yDNew, gmName, toD_d, toD_tup, toD_lst, toDs_nil, toDs_cons, toDs_ints, toDs_fpr, toDs_prs, lfs_ints, lfs_fpr, intsO_len, prsO_len, fprO_len, rng_len, intsO_snoc, prsO_snoc, lstO_rg, lstO_prs, lstO_ints, toD_lstO, kp_int, kp_bool, kp_tuple, kp_list, kp_str, isIntB, isBoolB, isTupB, isListB, isStrB, gAdd_i, gSub_i, gLt_i, gLe_i, gGt_i, gGe_i, gMul_r, gMul_l, gMod_i, gDiv_i, gPow_i, gNeg, gEqI, gNeI, gEqS, gNeS, gIsN, gNotN, gIsB, gNotB, gIxL, gIxT, gLen, gMax2, gMin2, gInt, gAll, asBools_map, isN, OT.lf, OT.lfs, flat, atI_0, atI_1, ixN_0, ixN_1, rgD_len, enumD_len, trues_len, Int.toNat_natCast, List.length_map, eq_self, Option.bind_some, Option.bind_none, Option.map_some, Option.map_none, List.getElem?_cons_zero, List.getElem?_cons_succ, List.set_cons_zero, List.set_cons_succ, List.map_cons, List.map_nil, List.replicate, List.nil_append, List.cons_append, List.length_cons, List.length_nil, List.all_cons, List.all_nil, if_true, if_false, reduceIte, tfl_int, tfl_bool, tfl_none, tfl_str, tfl_list, Bool.true_and, Bool.and_true, Bool.false_and, Bool.and_false, Bool.true_or, Bool.or_true, Bool.false_or, Bool.or_false, Bool.not_true, Bool.not_false, Bool.false_eq_true, decide_true, decide_false, true_and, and_true, false_and, and_false, or_true, true_or, *])
theorem pool_ok (ns : List Int) (k : Nat) (hk : k ≤ 1000) : ∃ ps, m__law_pool [.list (ns.map .int), .int k] = some (.nd .lst ps) ∧ POk ps := by
  have fin0 : ∀ (c K : Int), 0 ≤ K → K ≤ 1000 → W (sSeq (sAsg 3 (yR (rOp gMod (rOp gAdd (rOp gAdd (rOp gAdd (rCb gMax2 (qCons (rVar 2) (qCons (rOp gSub (rUn gNeg (rC (.int 1))) (rVar 2)) qNil))) (rOp gMul (rOp gMul (rC (.int 7919)) (rVar 1)) (rVar 1))) (rOp gMul (rC (.int 104729)) (rVar 1))) (rC (.int 17))) (rC (.int 2147483629)))))
 (sSeq (sAsg 4 (yR (rC (.int 0))))
 (sSeq (sIf (tR (bR (rOp gGe (rVar 2) (rOp gPow (rC (.int 10)) (rC (.int 18))))))
 (sAsg 4 (yVar 2))
 sNext)
 (sRet (yLst (oCons (yMov 4) (oCons (yR (rOp gMod (rOp gMul (rVar 3) (rC (.int 48271))) (rC (.int 2147483647)))) oNil))))))) [.d (.list (ns.map .int)), .d (.int K), .d (.int c), .no, .no] (endK fun x => ∃ ps, x = .nd .lst ps ∧ POk ps) := by
    intro c K k0 k1
    have c1 : -(2 ^ 64) < K ∧ K < 2 ^ 64 := by omega
    have c2 : ((-(2 ^ 64) : Int) < 7919 ∧ (7919 : Int) < 2 ^ 64) := by decide
    have c3 : ((-(2 ^ 64) : Int) < 104729 ∧ (104729 : Int) < 2 ^ 64) := by decide
    have c4 : ((-(2 ^ 64) : Int) < 48271 ∧ (48271 : Int) < 2 ^ 64) := by decide
    have e0 : (0 : Int) < 2147483647 := by decide
    have c5 : (0 : Int) ≤ 18 ∧ (18 : Int) ≤ 1000000 ∧ (10 : Int).natAbs < 2 ^ 64 := by decide
    by_cases hg : (10 : Int) ^ (18 : Int).toNat ≤ c
    · refine w_st (by walk_at "ev" <;> exact rfl) ?_
      refine w_st (by walk_at "ev" <;> exact rfl) ?_
      refine w_st (by walk_at "ev" <;> exact rfl) ?_
      refine w_end (by walk_at "ev" <;> exact rfl) rfl ?_
      exact ⟨_, rfl, c, _, rfl, Int.emod_nonneg _ (by decide), Int.emod_lt_of_pos _ e0⟩
    · refine w_st (by walk_at "ev" <;> exact rfl) ?_
      refine w_st (by walk_at "ev" <;> exact rfl) ?_
      refine w_st (by walk_at "ev" <;> exact rfl) ?_
      refine w_end (by walk_at "ev" <;> exact rfl) rfl ?_
      exact ⟨_, rfl, 0, _, rfl, Int.emod_nonneg _ (by decide), Int.emod_lt_of_pos _ e0⟩
  obtain ⟨r, e, ps, rfl, hp⟩ := fin_w (P := fun x => ∃ ps, x = .nd .lst ps ∧ POk ps) (B := B__law_pool) (ρ := ini [.list (ns.map .int), .int k] 3) (by
    by_cases hc : k < ns.length
    · have e1 := atI_int (xs := ns) (i := k) (k := ns[k]) (by simp [hc])
      have e2 : decide ((k : Int) < (ns.length : Int)) = true := by simp [hc]
      have hw := fin0 ns[k] k (by omega) (by omega)
      generalize ns[k] = c at *
      unfold B__law_pool
      refine w_st (by walk_at "ev" <;> exact rfl) ?_
      refine w_st (by walk_at "ev" <;> exact rfl) ?_
      exact hw
    · have hw := fin0 0 k (by omega) (by omega)
      have e2 : decide ((k : Int) < (ns.length : Int)) = false := by simp; omega
      unfold B__law_pool
      refine w_st (by walk_at "ev" <;> exact rfl) ?_
      refine w_st (by walk_at "ev" <;> exact rfl) ?_
      exact hw)
  exact ⟨ps, e, hp⟩
end SH
namespace z09
open PySem L2 PL MR SH SQ SB BF SA SN
local macro_rules | `(tactic| walk_at "ev") => `(tactic| simp (config := {decide := true}) only [ini, fin, finI, sSeq, sNext, sAsg, sAsgG, sRet, sRetN, sDrop, sIf, sNever, sSetP, sAppP, sClrP, sRevP, fR, pmVar, pmIx, pmIxT, MR.putAt, OT.put, OT.at, gmName, gmTup, gmLst, gsNil, gsCons, rVar, rC, rOp, rUn, rCb, rCbZ, rOpZ, rCall, rAnd, rOr, rNot, rIf, rIs, rCh, rCh3, rTup, rLst, rSl, cNone, cSome, rRepr, dRepr, rInDct, rIdx, rIdxD, iR3s, small, qNil, qCons, qApp, lApp, bR, bAnd, bOr, bNot, tR, tD, tmAnd, tmOr, tmNot, yVar_eq, yMov, yR, yAuto, dY, yD, dR, dOp, dOpR, dCb, dAnd, dOr, dNot, yCall, yCallA, yCallI, yCallIT, yCb, yCbA, yOp, yOpA, lfO, yTup, yLst, oNil, oCons, isNo, lNil, lCons, asB, asInt, asL, asT, iL, iT, iE, iZ, iV, yRng1_eq, iR1_eq, iR2_eq, lcStep, calmAt, wipeE, rst, sApp, yPop_eq, sDPutM, ySortD, yDNew, gmName, toD_d, toD_tup, toD_lst, toDs_nil, toDs_cons, toDs_ints, toDs_fpr, toDs_prs, lfs_ints, lfs_fpr, intsO_len, prsO_len, fprO_len, rng_len, intsO_snoc, prsO_snoc, lstO_rg, rOpZ, rCbZ, isNo_lstO, toD_dnew, ySl, ySlA, neS_self, eqS_self,  rRevL, yRevL, yRevLA, yPop0, sExt, gStrI,  lstO_prs, lstO_ints, toD_lstO, kp_int, kp_bool, kp_tuple, kp_list, kp_str, isIntB, isBoolB, isTupB, isListB, isStrB, gAdd_i, gSub_i, gLt_i, gLe_i, gGt_i, gGe_i, gMul_r, gMul_l, gMod_i, gDiv_i, gPow_i, gNeg, gEqI, gNeI, gEqS, gNeS, gIsN, gNotN, gIsB, gNotB, gIxL, gIxT, gLen, gMax2, gMin2, gInt, gAll, asBools_map, isN, OT.lf, OT.lfs, flat, atI_0, atI_1, ixN_0, ixN_1, rgD_len, enumD_len, trues_len, Int.toNat_natCast, List.length_map, eq_self, Option.bind_some, Option.bind_none, Option.map_some, Option.map_none, List.getElem?_cons_zero, List.getElem?_cons_succ, List.set_cons_zero, List.set_cons_succ, List.map_cons, List.map_nil, List.replicate, List.nil_append, List.cons_append, List.length_cons, List.length_nil, List.all_cons, List.all_nil, if_true, if_false, reduceIte, tfl_int, tfl_bool, tfl_none, tfl_str, tfl_list, Bool.true_and, Bool.and_true, Bool.false_and, Bool.and_false, Bool.true_or, Bool.or_true, Bool.false_or, Bool.or_false, Bool.not_true, Bool.not_false, Bool.false_eq_true, decide_true, decide_false, true_and, and_true, false_and, and_false, or_true, true_or, *])
theorem pick4 {r : Int} (h0 : 0 ≤ r) (h1 : r < 4) : ∃ m : Int, atI [PyData.int 1, .int 3, .int 8, .int 40] r = some (.int m) ∧ 1 ≤ m ∧ m ≤ 40 := by
  obtain ⟨k, rfl⟩ : ∃ k : Nat, r = (k : Int) := ⟨r.toNat, by omega⟩
  have : k < 4 := by omega
  match k, this with
  | 0, _ => exact ⟨1, rfl, by omega, by omega⟩
  | 1, _ => exact ⟨3, rfl, by omega, by omega⟩
  | 2, _ => exact ⟨8, rfl, by omega, by omega⟩
  | 3, _ => exact ⟨40, rfl, by omega, by omega⟩
/-- the webs drawn -/
theorem webs_ok {NS K : D} {ps : List OT} {X3 X4 X5 X6 : OT} (hp : POk ps) (c4 : cl X4 = true) {Q : OT → MR.Env → Prop}
    (q : ∀ (ps2 acc : List OT) (ws : List Wb) (X4 : OT), POk ps2 → OT.toDs acc = some (ws.map wbD) → ws.length ≤ 12 → (∀ w ∈ ws, WbOk w) → cl X4 = true → Q (.nd .lst acc) [.d NS, .d K, .nd .lst ps2, X3, X4, X5, X6]) :
    W (yLc [4] (iR1 (lCons (dY (yCallI SH.m__law_take 2 2 (lCons (dR (rC (.int 13))) lNil))) lNil)) (gmName 4) (fun ρ => some (true, ρ)) (yCallI SH.m__law_loose 3 2 (lCons (dOp gIxL (dY (yLst (oCons (yR (rC (.int 1))) (oCons (yR (rC (.int 3))) (oCons (yR (rC (.int 8))) (oCons (yR (rC (.int 40))) oNil)))))) (dY (yCallI SH.m__law_take 2 2 (lCons (dR (rC (.int 4))) lNil)))) (lCons (dR (rC (.int 6))) lNil)))) [.d NS, .d K, .nd .lst ps, X3, X4, X5, X6] Q := by
  obtain ⟨r, p1, et, hp1, r0, r1⟩ := take_ok hp 13 (by omega) (by omega)
  obtain ⟨m, rfl⟩ : ∃ m : Nat, r = (m : Int) := ⟨r.toNat, by omega⟩
  have c1 := rg1_n (n := m) (by omega)
  rw [rgD0] at c1
  have ht : (iR1 (lCons (dY (yCallI SH.m__law_take 2 2 (lCons (dR (rC (.int 13))) lNil))) lNil)) [.d NS, .d K, .nd .lst ps, X3, X4, X5, X6] = some ((List.range m).map (fun k : Nat => PyData.int (k : Int)), [.d NS, .d K, .nd .lst p1, X3, X4, X5, X6]) := by
    clear c4 q hp hp1 r0 r1
    generalize ((m : Nat) : Int) = mi at *
    generalize (List.range m).map (fun k : Nat => PyData.int (k : Int)) = L at *
    walk_at "ev" <;> exact rfl
  have calm : calmAt [.d NS, .d K, .nd .lst p1, X3, X4, X5, X6] [4] = true := calm_one (X := X4) rfl c4
  refine w_lc (fun i acc ρ => ∃ (ps2 : List OT) (ws : List Wb), POk ps2 ∧ OT.toDs acc = some (ws.map wbD) ∧ ws.length = i ∧ (∀ w ∈ ws, WbOk w) ∧ ρ = [.d NS, .d K, .nd .lst ps2, X3, .no, X5, X6]) ht calm (by simp; omega) ⟨p1, [], hp1, toDs_nil, rfl, fun w hw => (by cases hw), rfl⟩ (fun i x acc ρ2 hx hs => ?_) (fun acc ρ2 hs => ?_)
  · obtain ⟨p2, ws, hp2, ta, lw, hw, rfl⟩ := hs
    obtain ⟨r4, p3, e4, hp3, r40, r41⟩ := take_ok hp2 4 (by omega) (by omega)
    obtain ⟨mm, em, m1, m2⟩ := pick4 r40 r41
    obtain ⟨n, ts, t, p4, el, hp4, n1, n2, wk, lt, tt⟩ := loose_spec hp3 mm 6 m1 m2 (by omega) (by omega)
    clear ht calm q et hx
    have bg : (dOp gIxL (dY (yLst (oCons (yR (rC (.int 1))) (oCons (yR (rC (.int 3))) (oCons (yR (rC (.int 8))) (oCons (yR (rC (.int 40))) oNil)))))) (dY (yCallI SH.m__law_take 2 2 (lCons (dR (rC (.int 4))) lNil)))) [.d NS, .d K, .nd .lst p2, X3, .d x, X5, X6] = some (.int mm, [.d NS, .d K, .nd .lst p3, X3, .d x, X5, X6]) := by
      clear hp hp1 hp2 hp3 hp4 r0 r1 r40 r41 m1 m2 n1 n2 wk lt tt el hw ta lw c1 c4
      walk_at "ev" <;> exact rfl
    have lo : (yCallI SH.m__law_loose 3 2 (lCons (dOp gIxL (dY (yLst (oCons (yR (rC (.int 1))) (oCons (yR (rC (.int 3))) (oCons (yR (rC (.int 8))) (oCons (yR (rC (.int 40))) oNil)))))) (dY (yCallI SH.m__law_take 2 2 (lCons (dR (rC (.int 4))) lNil)))) (lCons (dR (rC (.int 6))) lNil))) [.d NS, .d K, .nd .lst p2, X3, .d x, X5, X6] = some (.nd .tup [.d (.int (n : Nat)), t], [.d NS, .d K, .nd .lst p4, X3, .d x, X5, X6]) := by
      clear hp hp1 hp2 hp3 hp4 r0 r1 r40 r41 m1 m2 n1 n2 wk lt tt em e4 hw ta lw c1 c4
      generalize (dOp gIxL (dY (yLst (oCons (yR (rC (.int 1))) (oCons (yR (rC (.int 3))) (oCons (yR (rC (.int 8))) (oCons (yR (rC (.int 40))) oNil)))))) (dY (yCallI SH.m__law_take 2 2 (lCons (dR (rC (.int 4))) lNil)))) = BG at *
      walk_at "ev" <;> exact rfl
    have ls : lcStep (gmName 4) (fun ρ => some (true, ρ)) (yCallI SH.m__law_loose 3 2 (lCons (dOp gIxL (dY (yLst (oCons (yR (rC (.int 1))) (oCons (yR (rC (.int 3))) (oCons (yR (rC (.int 8))) (oCons (yR (rC (.int 40))) oNil)))))) (dY (yCallI SH.m__law_take 2 2 (lCons (dR (rC (.int 4))) lNil)))) (lCons (dR (rC (.int 6))) lNil))) x [.d NS, .d K, .nd .lst p2, X3, .no, X5, X6] = some (some (.nd .tup [.d (.int (n : Nat)), t]), [.d NS, .d K, .nd .lst p4, X3, .d x, X5, X6]) := by
      clear bg el em e4 c1
      generalize (yCallI SH.m__law_loose 3 2 (lCons (dOp gIxL (dY (yLst (oCons (yR (rC (.int 1))) (oCons (yR (rC (.int 3))) (oCons (yR (rC (.int 8))) (oCons (yR (rC (.int 40))) oNil)))))) (dY (yCallI SH.m__law_take 2 2 (lCons (dR (rC (.int 4))) lNil)))) (lCons (dR (rC (.int 6))) lNil))) = LO at *
      walk_at "ev" <;> exact rfl
    refine W.of ls ⟨p4, ws ++ [(n, ts)], hp4, ?_, by simp [lw], fun w hm => ?_, rfl⟩
    · have tw : OT.toD (.nd .tup [.d (.int (n : Nat)), t]) = some (wbD (n, ts)) := by
        simp only [toD_tup, toDs_cons, toDs_nil, toD_d, tt, Option.bind_some, Option.map_some]
        rfl
      rw [List.map_append]
      exact toDs_snoc ta tw
    · rcases List.mem_append.mp hm with h | h
      · exact hw w h
      · rw [List.mem_singleton] at h
        rw [h]
        exact ⟨wk, n1, by show n ≤ 40; omega, by show ts.length ≤ 120; omega⟩
  · obtain ⟨p2, ws, hp2, ta, lw, hw, rfl⟩ := hs
    rw [List.length_map, List.length_range] at lw
    exact q p2 acc ws X4 hp2 ta (by omega) hw c4
end z09
namespace z09
open PySem L2 PL MR SH SQ SB BF SA SN
local macro_rules | `(tactic| walk_at "ev") => `(tactic| simp (config := {decide := true}) only [ini, fin, finI, sSeq, sNext, sAsg, sAsgG, sRet, sRetN, sDrop, sIf, sNever, sSetP, sAppP, sClrP, sRevP, fR, pmVar, pmIx, pmIxT, MR.putAt, OT.put, OT.at, gmName, gmTup, gmLst, gsNil, gsCons, rVar, rC, rOp, rUn, rCb, rCbZ, rOpZ, rCall, rAnd, rOr, rNot, rIf, rIs, rCh, rCh3, rTup, rLst, rSl, cNone, cSome, rRepr, dRepr, rInDct, rIdx, rIdxD, iR3s, small, qNil, qCons, qApp, lApp, bR, bAnd, bOr, bNot, tR, tD, tmAnd, tmOr, tmNot, yVar_eq, yMov, yR, yAuto, dY, yD, dR, dOp, dOpR, dCb, dAnd, dOr, dNot, yCall, yCallA, yCallI, yCallIT, yCb, yCbA, yOp, yOpA, lfO, yTup, yLst, oNil, oCons, isNo, lNil, lCons, asB, asInt, asL, asT, iL, iT, iE, iZ, iV, yRng1_eq, iR1_eq, iR2_eq, lcStep, calmAt, wipeE, rst, sApp, yPop_eq, sDPutM, ySortD, yDNew, gmName, toD_d, toD_tup, toD_lst, toDs_nil, toDs_cons, toDs_ints, toDs_fpr, toDs_prs, lfs_ints, lfs_fpr, intsO_len, prsO_len, fprO_len, rng_len, intsO_snoc, prsO_snoc, lstO_rg, rOpZ, rCbZ, isNo_lstO, toD_dnew, ySl, ySlA, neS_self, eqS_self,  rRevL, yRevL, yRevLA, yPop0, sExt, gStrI,  lstO_prs, lstO_ints, toD_lstO, kp_int, kp_bool, kp_tuple, kp_list, kp_str, isIntB, isBoolB, isTupB, isListB, isStrB, gAdd_i, gSub_i, gLt_i, gLe_i, gGt_i, gGe_i, gMul_r, gMul_l, gMod_i, gDiv_i, gPow_i, gNeg, gEqI, gNeI, gEqS, gNeS, gIsN, gNotN, gIsB, gNotB, gIxL, gIxT, gLen, gMax2, gMin2, gInt, gAll, asBools_map, isN, OT.lf, OT.lfs, flat, atI_0, atI_1, ixN_0, ixN_1, rgD_len, enumD_len, trues_len, Int.toNat_natCast, List.length_map, eq_self, Option.bind_some, Option.bind_none, Option.map_some, Option.map_none, List.getElem?_cons_zero, List.getElem?_cons_succ, List.set_cons_zero, List.set_cons_succ, List.map_cons, List.map_nil, List.replicate, List.nil_append, List.cons_append, List.length_cons, List.length_nil, List.all_cons, List.all_nil, if_true, if_false, reduceIte, tfl_int, tfl_bool, tfl_none, tfl_str, tfl_list, Bool.true_and, Bool.and_true, Bool.false_and, Bool.and_false, Bool.true_or, Bool.or_true, Bool.false_or, Bool.or_false, Bool.not_true, Bool.not_false, Bool.false_eq_true, decide_true, decide_false, true_and, and_true, false_and, and_false, or_true, true_or, *])
theorem w_yCbAP (P : MR.Env → Prop) {G : List D → Option OT} {q : Qm} {l : Lm} {ρ ρ' : MR.Env} {ds : List D} {r : OT} {Q : OT → MR.Env → Prop} (h : q ρ = some ds) (hl : l ρ = some (ds, ρ')) (hG : G ds = some r) (p1 : P ρ) (p2 : P ρ') (k : ∀ ρ2, P ρ2 → Q r ρ2) : W (yCbA G q l) ρ Q := by
  by_cases lf : r.lf = true
  · refine ⟨r, ρ, ?_, k _ p1⟩
    unfold yCbA
    rw [h]
    simp only [Option.bind_some, hG, lfO, lf, if_true]
  · refine ⟨r, ρ', ?_, k _ p2⟩
    unfold yCbA
    rw [h]
    simp only [Option.bind_some, hG, lfO, lf, if_false]
    unfold yCb
    rw [hl]
    simp only [Option.bind_some, hG]
    rfl
theorem frz3 {NS K : D} {X2 X3 X4 X5 X6 : OT} {WL : List D} (t : OT.toD X3 = some (.list WL)) : dY (yVar 3) [.d NS, .d K, X2, X3, X4, X5, X6] = some (.list WL, [.d NS, .d K, X2, .d (.list WL), X4, X5, X6]) := by
  unfold dY
  rw [yVar_eq]
  simp only [List.getElem?_cons_succ, List.getElem?_cons_zero, Option.bind_some, t, Option.map_some, toD_d, List.set_cons_succ, List.set_cons_zero]
theorem take_d {NS K : D} {ps ps' : List OT} {X3 X4 X5 X6 : OT} {m r : Int} (et : SH.m__law_take (.nd .lst ps) [.int m] = some (.d (.int r), .nd .lst ps')) {a : Rm} (ha : a [.d NS, .d K, .nd .lst ps, X3, X4, X5, X6] = some (.int m)) :
    dY (yCallI SH.m__law_take 2 2 (lCons (dR a) lNil)) [.d NS, .d K, .nd .lst ps, X3, X4, X5, X6] = some (.int r, [.d NS, .d K, .nd .lst ps', X3, X4, X5, X6]) := by
  generalize SH.m__law_take = TK at *
  walk_at "ev" <;> exact rfl
theorem a3_ok {NS K : D} {ps acc : List OT} {ws : List Wb} {X4 X5 X6 : OT} (hp : POk ps) (ta : OT.toDs acc = some (ws.map wbD)) (lw : ws.length ≤ 12) (hw : ∀ w ∈ ws, WbOk w) {Q : Fl → MR.Env → Prop}
    (q : ∀ (ps2 : List OT) (vs : List Wb), POk ps2 → vs.length ≤ 24 → (∀ w ∈ vs, WbOk w) → Q .nx [.d NS, .d K, .nd .lst ps2, lstO (vs.map wbD), X4, X5, X6]) :
    W (sAsg 3 (yOp GCat (dY (yVar 3)) (dY (ySlD (dY (yVar 3)) cNone (dY (yCallI SH.m__law_take 2 2 (lCons (dR (rC (.int 3))) lNil))))))) [.d NS, .d K, .nd .lst ps, .nd .lst acc, X4, X5, X6] Q := by
  obtain ⟨r, p1, et, hp1, r0, r1⟩ := take_ok hp 3 (by omega) (by omega)
  obtain ⟨ys, ec, hy, ly⟩ := cut_map (f := wbD) ws Option.none (some r)
  have t3 : OT.toD (.nd .lst acc) = some (.list (ws.map wbD)) := by rw [toD_lst, ta]; rfl
  have y3 := frz3 (NS := NS) (K := K) (X2 := .nd .lst ps) (X4 := X4) (X5 := X5) (X6 := X6) t3
  have y3' := frz3 (NS := NS) (K := K) (X2 := .nd .lst ps) (X4 := X4) (X5 := X5) (X6 := X6) (toD_d (.list (ws.map wbD)))
  have td := take_d (NS := NS) (K := K) (X3 := .d (.list (ws.map wbD))) (X4 := X4) (X5 := X5) (X6 := X6) et (a := rC (.int 3)) rfl
  have sl : (ySlD (dY (yVar 3)) cNone (dY (yCallI SH.m__law_take 2 2 (lCons (dR (rC (.int 3))) lNil)))) [.d NS, .d K, .nd .lst ps, .d (.list (ws.map wbD)), X4, X5, X6] = some (lstO (ys.map wbD), [.d NS, .d K, .nd .lst p1, .d (.list (ws.map wbD)), X4, X5, X6]) := by
    unfold ySlD
    rw [y3']
    simp only [Option.bind_some, asL, cNone, td, asInt, Option.map_some, ec]
  have gc : GCat (.list (ws.map wbD)) (.list (ys.map wbD)) = some (lstO (ws.map wbD ++ ys.map wbD)) := GCat_ok (by simp; omega)
  refine w_asg (w_yOp (W.of y3 (W.of (dY_of sl (toD_lstO _)) ⟨_, gc, ?_⟩)))
  rw [← List.map_append]
  exact q p1 (ws ++ ys) hp1 (by simp; omega) fun w h => (List.mem_append.mp h).elim (hw w) fun h => hw w (hy w h)
theorem a5_ok {NS K : D} {X2 X4 X5 X6 X3 : OT} {WL : List D} (t3 : OT.toD X3 = some (.list WL)) {Q : Fl → MR.Env → Prop}
    (q : ∀ X3, OT.toD X3 = some (.list WL) → Q .nx [.d NS, .d K, X2, X3, X4, lstO WL, X6]) : W (sAsg 5 (yCbA GList (qCons (rVar 3) qNil) (lCons (dY (yVar 3)) lNil))) [.d NS, .d K, X2, X3, X4, X5, X6] Q := by
  have y3 := frz3 (NS := NS) (K := K) (X2 := X2) (X4 := X4) (X5 := X5) (X6 := X6) t3
  have r3 : rVar 3 [.d NS, .d K, X2, X3, X4, X5, X6] = some (.list WL) := t3
  have hq : qCons (rVar 3) qNil [.d NS, .d K, X2, X3, X4, X5, X6] = some [.list WL] := by
    unfold qCons
    rw [r3]
    rfl
  have hl : lCons (dY (yVar 3)) lNil [.d NS, .d K, X2, X3, X4, X5, X6] = some ([.list WL], [.d NS, .d K, X2, .d (.list WL), X4, X5, X6]) := by
    unfold lCons
    rw [y3]
    rfl
  refine w_asg (w_yCbAP (fun ρ => ∃ X3, OT.toD X3 = some (.list WL) ∧ ρ = [.d NS, .d K, X2, X3, X4, X5, X6]) hq hl rfl ⟨_, t3, rfl⟩ ⟨_, toD_d _, rfl⟩ fun ρ2 hp => ?_)
  obtain ⟨X3, t, rfl⟩ := hp
  exact q X3 t
theorem set_ok {NS K : D} {ps : List OT} {X3 X4 X6 : OT} {vs : List Wb} {XS : List D} (hp : POk ps) (t3 : OT.toD X3 = some (.list (vs.map wbD))) (hv : ∀ w ∈ vs, WbOk w) (ne : vs ≠ []) (lv : vs.length ≤ 24) (lx : XS.length = vs.length) (hx : ∀ x ∈ XS, Q9 x) {Q : Fl → MR.Env → Prop}
    (q : ∀ (ps2 : List OT) (X3 : OT) (YS : List D), POk ps2 → OT.toD X3 = some (.list (vs.map wbD)) → YS.length = vs.length → (∀ x ∈ YS, Q9 x) → Q .nx [.d NS, .d K, .nd .lst ps2, X3, X4, lstO YS, X6]) :
    W (sSetD 5 (dY (yCallI SH.m__law_take 2 2 (lCons (dR (rCb gLen (qCons (rVar 5) qNil))) lNil))) (yCallI m__law_odd 2 2 (lCons (dY (yAuto (rOp gIxL (rVar 3) (rC (.int 0))) (yD (dOpR gIxL (dY (yVar 3)) (rC (.int 0)))))) lNil))) [.d NS, .d K, .nd .lst ps, X3, X4, lstO XS, X6] Q := by
  obtain ⟨w0, vs', rfl⟩ : ∃ w0 vs', vs = w0 :: vs' := by
    cases vs with
    | nil => exact (ne rfl).elim
    | cons a b => exact ⟨a, b, rfl⟩
  obtain ⟨x, p1, eo, hp1, qx⟩ := odd_ok hp (hv w0 List.mem_cons_self)
  obtain ⟨r, p2, et, hp2, r0, r1⟩ := take_ok hp1 (XS.length : Nat) (by rw [lx, List.length_cons]; omega) (by rw [lx]; omega)
  have y3 := frz3 (NS := NS) (K := K) (X2 := .nd .lst ps) (X4 := X4) (X5 := lstO XS) (X6 := X6) t3
  have r3 : rVar 3 [.d NS, .d K, .nd .lst ps, X3, X4, lstO XS, X6] = some (.list ((w0 :: vs').map wbD)) := t3
  have a0 : atI ((w0 :: vs').map wbD) 0 = some (wbD w0) := atI_at (i := 0) rfl
  have fw : tfl (wbD w0) = false := by rw [wbD_eq]; simp [tfl]
  have dd : dY (yAuto (rOp gIxL (rVar 3) (rC (.int 0))) (yD (dOpR gIxL (dY (yVar 3)) (rC (.int 0))))) [.d NS, .d K, .nd .lst ps, X3, X4, lstO XS, X6] = some (wbD w0, [.d NS, .d K, .nd .lst ps, .d (.list ((w0 :: vs').map wbD)), X4, lstO XS, X6]) := by
    clear eo et q hx hv hp hp1 hp2 qx r0 r1 t3 ne lv lx
    generalize dY (yVar 3) = Y3 at *
    generalize rVar 3 = R3 at *
    generalize (w0 :: vs').map wbD = WL at *
    generalize wbD w0 = WD at *
    walk_at "ev" <;> exact rfl
  have yo : (yCallI m__law_odd 2 2 (lCons (dY (yAuto (rOp gIxL (rVar 3) (rC (.int 0))) (yD (dOpR gIxL (dY (yVar 3)) (rC (.int 0)))))) lNil)) [.d NS, .d K, .nd .lst ps, X3, X4, lstO XS, X6] = some (.d x, [.d NS, .d K, .nd .lst p1, .d (.list ((w0 :: vs').map wbD)), X4, lstO XS, X6]) := by
    clear et q hx hv hp hp1 hp2 qx r0 r1 t3 ne lv lx y3 r3 a0 fw
    generalize dY (yAuto (rOp gIxL (rVar 3) (rC (.int 0))) (yD (dOpR gIxL (dY (yVar 3)) (rC (.int 0))))) = YA at *
    generalize (w0 :: vs').map wbD = WL at *
    generalize m__law_odd = MO at *
    walk_at "ev" <;> exact rfl
  have r5 : rCb gLen (qCons (rVar 5) qNil) [.d NS, .d K, .nd .lst p1, .d (.list ((w0 :: vs').map wbD)), X4, lstO XS, X6] = some (.int (XS.length : Nat)) := by
    have tl := toD_lstO XS
    clear et q hx hv hp hp1 hp2 qx r0 r1 t3 ne lv lx y3 r3 a0 fw eo dd yo
    generalize lstO XS = LX at *
    walk_at "ev" <;> exact rfl
  have td := take_d (NS := NS) (K := K) (X3 := .d (.list ((w0 :: vs').map wbD))) (X4 := X4) (X5 := lstO XS) (X6 := X6) et r5
  obtain ⟨j, rfl⟩ : ∃ j : Nat, r = (j : Int) := ⟨r.toNat, by omega⟩
  have hj : j < XS.length := by omega
  have hix : ixN (XS.map OT.d).length (j : Int) = some j := ixN_nat (by rw [List.length_map]; exact hj)
  have es : (sSetD 5 (dY (yCallI SH.m__law_take 2 2 (lCons (dR (rCb gLen (qCons (rVar 5) qNil))) lNil))) (yCallI m__law_odd 2 2 (lCons (dY (yAuto (rOp gIxL (rVar 3) (rC (.int 0))) (yD (dOpR gIxL (dY (yVar 3)) (rC (.int 0)))))) lNil))) [.d NS, .d K, .nd .lst ps, X3, X4, lstO XS, X6] = some (.nx, [.d NS, .d K, .nd .lst p2, .d (.list ((w0 :: vs').map wbD)), X4, lstO (XS.set j x), X6]) := by
    unfold sSetD
    rw [yo]
    rw [show lstO (XS.set j x) = .nd .lst ((XS.map .d).set j (.d x)) from by rw [← List.map_set]; rfl]
    rw [show lstO XS = .nd .lst (XS.map .d) from rfl] at td ⊢
    generalize dY (yCallI SH.m__law_take 2 2 (lCons (dR (rCb gLen (qCons (rVar 5) qNil))) lNil)) = DT at *
    generalize XS.map OT.d = XO at *
    clear yo dd y3 r3 q
    simp only [Option.bind_some, isNo, Bool.false_eq_true, if_false, td, List.getElem?_cons_succ, List.getElem?_cons_zero, hix, Option.map_some, List.set_cons_succ, List.set_cons_zero]
  refine W.of es (q p2 _ _ hp2 (toD_d _) (by rw [List.length_set, lx]) fun y hy => ?_)
  rcases List.mem_or_eq_of_mem_set hy with h | h
  · exact hx y h
  · rw [h]; exact qx
end z09
namespace z09
open PySem L2 PL MR SH SQ SB BF SA SN
local macro_rules | `(tactic| walk_at "ev") => `(tactic| simp (config := {decide := true}) only [ini, fin, finI, sSeq, sNext, sAsg, sAsgG, sRet, sRetN, sDrop, sIf, sNever, sSetP, sAppP, sClrP, sRevP, fR, pmVar, pmIx, pmIxT, MR.putAt, OT.put, OT.at, gmName, gmTup, gmLst, gsNil, gsCons, rVar, rC, rOp, rUn, rCb, rCbZ, rOpZ, rCall, rAnd, rOr, rNot, rIf, rIs, rCh, rCh3, rTup, rLst, rSl, cNone, cSome, rRepr, dRepr, rInDct, rIdx, rIdxD, iR3s, small, qNil, qCons, qApp, lApp, bR, bAnd, bOr, bNot, tR, tD, tmAnd, tmOr, tmNot, yVar_eq, yMov, yR, yAuto, dY, yD, dR, dOp, dOpR, dCb, dAnd, dOr, dNot, yCall, yCallA, yCallI, yCallIT, yCb, yCbA, yOp, yOpA, lfO, yTup, yLst, oNil, oCons, isNo, lNil, lCons, asB, asInt, asL, asT, iL, iT, iE, iZ, iV, yRng1_eq, iR1_eq, iR2_eq, lcStep, calmAt, wipeE, rst, sApp, yPop_eq, sDPutM, ySortD, yDNew, gmName, toD_d, toD_tup, toD_lst, toDs_nil, toDs_cons, toDs_ints, toDs_fpr, toDs_prs, lfs_ints, lfs_fpr, intsO_len, prsO_len, fprO_len, rng_len, intsO_snoc, prsO_snoc, lstO_rg, rOpZ, rCbZ, isNo_lstO, toD_dnew, ySl, ySlA, neS_self, eqS_self,  rRevL, yRevL, yRevLA, yPop0, sExt, gStrI,  lstO_prs, lstO_ints, toD_lstO, kp_int, kp_bool, kp_tuple, kp_list, kp_str, isIntB, isBoolB, isTupB, isListB, isStrB, gAdd_i, gSub_i, gLt_i, gLe_i, gGt_i, gGe_i, gMul_r, gMul_l, gMod_i, gDiv_i, gPow_i, gNeg, gEqI, gNeI, gEqS, gNeS, gIsN, gNotN, gIsB, gNotB, gIxL, gIxT, gLen, gMax2, gMin2, gInt, gAll, asBools_map, isN, OT.lf, OT.lfs, flat, atI_0, atI_1, ixN_0, ixN_1, rgD_len, enumD_len, trues_len, Int.toNat_natCast, List.length_map, eq_self, Option.bind_some, Option.bind_none, Option.map_some, Option.map_none, List.getElem?_cons_zero, List.getElem?_cons_succ, List.set_cons_zero, List.set_cons_succ, List.map_cons, List.map_nil, List.replicate, List.nil_append, List.cons_append, List.length_cons, List.length_nil, List.all_cons, List.all_nil, if_true, if_false, reduceIte, tfl_int, tfl_bool, tfl_none, tfl_str, tfl_list, Bool.true_and, Bool.and_true, Bool.false_and, Bool.and_false, Bool.true_or, Bool.or_true, Bool.false_or, Bool.or_false, Bool.not_true, Bool.not_false, Bool.false_eq_true, decide_true, decide_false, true_and, and_true, false_and, and_false, or_true, true_or, *])
theorem yCallA_of' {f : List D → Option OT} {n : Nat} {q : Qm} {l : Lm} {ρ : MR.Env} {ds : List D} {r : OT} (h : q ρ = some ds) (hl : l ρ = some (ds, ρ)) (hn : ds.length = n) (hf : f ds = some r) : yCallA f n q l ρ = some (r, ρ) :=
  W.eq (w_yCallA h hl hn hf ⟨rfl, rfl⟩ ⟨rfl, rfl⟩)
theorem f4_ok {NS K : D} {ps : List OT} {X3 X4 X6 : OT} {vs : List Wb} (hp : POk ps) (t3 : OT.toD X3 = some (.list (vs.map wbD))) (hv : ∀ w ∈ vs, WbOk w) (lv : vs.length ≤ 24) (c4 : cl X4 = true) {Q : Fl → MR.Env → Prop}
    (q : ∀ (ps2 : List OT) (X3 X4 : OT) (YS : List D), OT.toD X3 = some (.list (vs.map wbD)) → YS.length = vs.length → (∀ x ∈ YS, Q9 x) → cl X4 = true → Q .nx [.d NS, .d K, .nd .lst ps2, X3, X4, lstO YS, X6]) :
    W (sFor (iR1 (lCons (dOpR gMul (dY (yCallI SH.m__law_take 2 2 (lCons (dR (rC (.int 3))) lNil))) (rCb gInt (qCons (rOp gNeD (rVar 3) (rLst qNil)) qNil))) lNil)) (gmName 4)
 (sSetD 5 (dY (yCallI SH.m__law_take 2 2 (lCons (dR (rCb gLen (qCons (rVar 5) qNil))) lNil))) (yCallI m__law_odd 2 2 (lCons (dY (yAuto (rOp gIxL (rVar 3) (rC (.int 0))) (yD (dOpR gIxL (dY (yVar 3)) (rC (.int 0)))))) lNil)))) [.d NS, .d K, .nd .lst ps, X3, X4, lstO (vs.map wbD), X6] Q := by
  obtain ⟨r, p1, et, hp1, r0, r1⟩ := take_ok hp 3 (by omega) (by omega)
  obtain ⟨rn, rfl⟩ : ∃ rn : Nat, r = (rn : Int) := ⟨r.toNat, by omega⟩
  have td := take_d (NS := NS) (K := K) (X3 := X3) (X4 := X4) (X5 := lstO (vs.map wbD)) (X6 := X6) et (a := rC (.int 3)) rfl
  have nd := neD_nil ((nice_list (f := wbD) (n := 24) (fun w hw => nice_wb (hv w hw)) lv).shaped (by omega))
  have r3 : rVar 3 [.d NS, .d K, .nd .lst p1, X3, X4, lstO (vs.map wbD), X6] = some (.list (vs.map wbD)) := t3
  have b0 : ((-(2 ^ 64) : Int) < 0 ∧ (0 : Int) < 2 ^ 64) := by decide
  have b1 : ((-(2 ^ 64) : Int) < 1 ∧ (1 : Int) < 2 ^ 64) := by decide
  have hit : ∃ m : Nat, m ≤ 3 ∧ (vs = [] → m = 0) ∧ (iR1 (lCons (dOpR gMul (dY (yCallI SH.m__law_take 2 2 (lCons (dR (rC (.int 3))) lNil))) (rCb gInt (qCons (rOp gNeD (rVar 3) (rLst qNil)) qNil))) lNil)) [.d NS, .d K, .nd .lst ps, X3, X4, lstO (vs.map wbD), X6] = some ((List.range m).map (fun k : Nat => PyData.int (k : Int)), [.d NS, .d K, .nd .lst p1, X3, X4, lstO (vs.map wbD), X6]) := by
    by_cases he : vs = []
    · refine ⟨0, by omega, fun _ => rfl, ?_⟩
      have c1 := rg1_n (n := 0) (by omega)
      rw [rgD0] at c1
      have ee : (vs.map wbD).isEmpty = true := by rw [he]; rfl
      rw [ee] at nd
      have gm : MR.gMul (.int (rn : Nat)) (.int 0) = some (.int ((0 : Nat) : Int)) := by rw [gMul_r b0.1 b0.2, Int.mul_zero]; rfl
      clear et hp hp1 r0 r1 q t3 hv lv c4 he ee b0 b1
      generalize (List.range 0).map (fun k : Nat => PyData.int (k : Int)) = L at *
      generalize dY (yCallI SH.m__law_take 2 2 (lCons (dR (rC (.int 3))) lNil)) = DT at *
      generalize vs.map wbD = WL at *
      generalize lstO WL = OL at *
      generalize rVar 3 = R3 at *
      generalize ((0 : Nat) : Int) = z0 at *
      walk_at "ev" <;> exact rfl
    · refine ⟨rn, by omega, fun h => (he h).elim, ?_⟩
      have c1 := rg1_n (n := rn) (by omega)
      rw [rgD0] at c1
      have ee : (vs.map wbD).isEmpty = false := by
        cases vs with
        | nil => exact (he rfl).elim
        | cons a b => rfl
      rw [ee] at nd
      have gm : MR.gMul (.int (rn : Nat)) (.int 1) = some (.int (rn : Nat)) := by rw [gMul_r b1.1 b1.2, Int.mul_one]
      clear et hp hp1 r0 r1 q t3 hv lv c4 he ee b0 b1
      generalize (List.range rn).map (fun k : Nat => PyData.int (k : Int)) = L at *
      generalize dY (yCallI SH.m__law_take 2 2 (lCons (dR (rC (.int 3))) lNil)) = DT at *
      generalize vs.map wbD = WL at *
      generalize lstO WL = OL at *
      generalize rVar 3 = R3 at *
      generalize ((rn : Nat) : Int) = z0 at *
      walk_at "ev" <;> exact rfl
  obtain ⟨m, hm, hne, hit⟩ := hit
  refine w_forT (fun i ρ => ∃ (ps2 : List OT) (X3 X4 : OT) (YS : List D), POk ps2 ∧ OT.toD X3 = some (.list (vs.map wbD)) ∧ YS.length = vs.length ∧ (∀ x ∈ YS, Q9 x) ∧ cl X4 = true ∧ ρ = [.d NS, .d K, .nd .lst ps2, X3, X4, lstO YS, X6]) (as := List.range m) (enc := fun k : Nat => PyData.int (k : Int)) hit ⟨p1, X3, X4, vs.map wbD, hp1, t3, by simp, fun x hx => ?_, c4, rfl⟩ (fun i k ρ2 hk hs => ?_) ?_
  · obtain ⟨w, hw, rfl⟩ := List.mem_map.mp hx
    exact q9_wb (hv w hw)
  · obtain ⟨p2, Y3, Y4, YS, hp2, u3, ly, hy, _, rfl⟩ := hs
    have hi : i < m := by
      have := (List.getElem?_eq_some_iff.mp hk).1
      rwa [List.length_range] at this
    have ne : vs ≠ [] := fun h => by have := hne h; omega
    refine ⟨[.d NS, .d K, .nd .lst p2, Y3, .d (.int (k : Int)), lstO YS, X6], rfl, set_ok hp2 u3 hv ne lv ly hy fun p3 Z3 ZS hp3 v3 lz hz => ?_⟩
    exact ⟨p3, Z3, _, ZS, hp3, v3, lz, hz, rfl, rfl⟩
  · rintro ρ2 ⟨p2, Y3, Y4, YS, hp2, u3, ly, hy, d4, rfl⟩
    exact q p2 Y3 Y4 YS u3 ly hy d4
theorem shw_list {L : List D} (h : ∀ x ∈ L, Q9 x) (hl : L.length ≤ 24) : Shw (.list L) := (nc_list h hl).shw (by omega) (by omega)
theorem ne_none : gNeD (.list [.none]) (.list [.none]) = some (.bool false) := by
  have cl : PyData.canLay0 (.list [.none]) = true := by simp [PyData.canLay0, PyData.canLayAll0]
  have sp : SeqAt.shaped (.list [.none]) = true := by simp [SeqAt.shaped, PyData.canLay0, PyData.canLayAll0, PyData.depth, PyData.depthAll]
  unfold gNeD
  rw [sp, SeqAt.eqv_refl _ cl]
  rfl
theorem f6_ok {NS K : D} {X2 X3 X4 X5 X6 : OT} {WL : List D} (t3 : OT.toD X3 = some (.list WL)) {Q : Fl → MR.Env → Prop}
    (q : ∀ X3 X6, Q .nx [.d NS, .d K, X2, X3, X4, X5, X6]) : W (sFor (iL (dY (yLst (oCons (yR (rC .none)) (oCons (yCbA GTuple (qCons (rVar 3) qNil) (lCons (dY (yVar 3)) lNil)) (oCons (yR (rC (.int 5))) (oCons yDNew (oCons (yTup (oCons (yR (rC (.int 1))) (oCons (yLst oNil) oNil))) oNil)))))))) (gmName 6)
 (sIf (tR (bR (rOp gNeD (rCall m__law_told 1 (qCons (rVar 6) qNil)) (rLst (qCons (rC .none) qNil)))))
 (sRet (yR (rC (.bool false))))
 sNext)) [.d NS, .d K, X2, X3, X4, X5, X6] Q := by
  have y3 := frz3 (NS := NS) (K := K) (X2 := X2) (X4 := X4) (X5 := X5) (X6 := X6) t3
  have r3 : rVar 3 [.d NS, .d K, X2, X3, X4, X5, X6] = some (.list WL) := t3
  have hq : qCons (rVar 3) qNil [.d NS, .d K, X2, X3, X4, X5, X6] = some [.list WL] := by
    unfold qCons
    rw [r3]
    rfl
  have hl : lCons (dY (yVar 3)) lNil [.d NS, .d K, X2, X3, X4, X5, X6] = some ([.list WL], [.d NS, .d K, X2, .d (.list WL), X4, X5, X6]) := by
    unfold lCons
    rw [y3]
    rfl
  have cb : W (yCbA GTuple (qCons (rVar 3) qNil) (lCons (dY (yVar 3)) lNil)) [.d NS, .d K, X2, X3, X4, X5, X6] fun r ρ => r = .nd .tup (WL.map .d) ∧ ∃ X3, ρ = [.d NS, .d K, X2, X3, X4, X5, X6] := w_yCbAP (fun ρ => ∃ X3, ρ = [.d NS, .d K, X2, X3, X4, X5, X6]) hq hl rfl ⟨_, rfl⟩ ⟨_, rfl⟩ fun ρ2 hp => ⟨rfl, hp⟩
  obtain ⟨r, ρ', e, rfl, Y3, rfl⟩ := cb
  have tl := toDs_ds WL
  clear hq hl r3 y3 t3
  have hi : (iL (dY (yLst (oCons (yR (rC .none)) (oCons (yCbA GTuple (qCons (rVar 3) qNil) (lCons (dY (yVar 3)) lNil)) (oCons (yR (rC (.int 5))) (oCons yDNew (oCons (yTup (oCons (yR (rC (.int 1))) (oCons (yLst oNil) oNil))) oNil)))))))) [.d NS, .d K, X2, X3, X4, X5, X6] = some ([.none, .tuple WL, .int 5, .dict [], .tuple [.int 1, .list []]], [.d NS, .d K, X2, Y3, X4, X5, X6]) := by
    clear q
    generalize WL.map OT.d = OL at *
    generalize (yCbA GTuple (qCons (rVar 3) qNil) (lCons (dY (yVar 3)) lNil)) = YT at *
    walk_at "ev" <;> exact rfl
  clear e tl
  have told : ∀ x ∈ [PyData.none, .tuple WL, .int 5, .dict [], .tuple [.int 1, .list []]], m__law_told [x] = some (.nd .lst [.d .none]) := fun x hx => by
    have := told_any x
    have hw : wflt x = some .none := by
      simp only [List.mem_cons, List.not_mem_nil, or_false] at hx
      rcases hx with rfl | rfl | rfl | rfl | rfl <;> rfl
    rw [hw] at this
    exact this
  have nn := ne_none
  generalize [PyData.none, .tuple WL, .int 5, .dict [], .tuple [.int 1, .list []]] = XS at *
  refine w_for (fun i ρ => ∃ X3 X6, ρ = [.d NS, .d K, X2, X3, X4, X5, X6]) hi ⟨_, _, rfl⟩ (fun i x ρ2 hx hs => ?_) ?_
  · obtain ⟨Z3, Z6, rfl⟩ := hs
    have tx := told x (List.mem_of_getElem? hx)
    refine ⟨[.d NS, .d K, X2, Z3, X4, X5, .d x], rfl, ?_⟩
    refine w_if (c := false) (ρ1 := [.d NS, .d K, X2, Z3, X4, X5, .d x]) ?_ (fun z => by cases z) (fun _ => w_next ⟨_, _, rfl⟩)
    clear told hi q hx
    generalize m__law_told = MT at *
    walk_at "ev" <;> exact rfl
  · rintro ρ2 ⟨Z3, Z6, rfl⟩
    exact q _ _
noncomputable def B_turn : Sm :=
 (sSeq (sAsg 2 (yCallA SH.m__law_pool 2 (qCons (rVar 0) (qCons (rVar 1) qNil)) (lCons (dY (yVar 0)) (lCons (dY (yVar 1)) lNil))))
 (sSeq (sAsg 3 (yLc [4] (iR1 (lCons (dY (yCallI SH.m__law_take 2 2 (lCons (dR (rC (.int 13))) lNil))) lNil)) (gmName 4) (fun ρ => some (true, ρ)) (yCallI SH.m__law_loose 3 2 (lCons (dOp gIxL (dY (yLst (oCons (yR (rC (.int 1))) (oCons (yR (rC (.int 3))) (oCons (yR (rC (.int 8))) (oCons (yR (rC (.int 40))) oNil)))))) (dY (yCallI SH.m__law_take 2 2 (lCons (dR (rC (.int 4))) lNil)))) (lCons (dR (rC (.int 6))) lNil)))))
 (sSeq (sAsg 3 (yOp GCat (dY (yVar 3)) (dY (ySlD (dY (yVar 3)) cNone (dY (yCallI SH.m__law_take 2 2 (lCons (dR (rC (.int 3))) lNil)))))))
 (sSeq (sAsg 5 (yCbA GList (qCons (rVar 3) qNil) (lCons (dY (yVar 3)) lNil)))
 (sSeq (sFor (iR1 (lCons (dOpR gMul (dY (yCallI SH.m__law_take 2 2 (lCons (dR (rC (.int 3))) lNil))) (rCb gInt (qCons (rOp gNeD (rVar 3) (rLst qNil)) qNil))) lNil)) (gmName 4)
 (sSetD 5 (dY (yCallI SH.m__law_take 2 2 (lCons (dR (rCb gLen (qCons (rVar 5) qNil))) lNil))) (yCallI m__law_odd 2 2 (lCons (dY (yAuto (rOp gIxL (rVar 3) (rC (.int 0))) (yD (dOpR gIxL (dY (yVar 3)) (rC (.int 0)))))) lNil))))
 (sSeq (sIf (tR (bOr (bNot (bR (rCall m__law_right 1 (qCons (rVar 3) qNil)))) (bOr (bNot (bR (rCall m__law_right 1 (qCons (rVar 5) qNil)))) (bNot (bR (rCall m__law_right 1 (qCons (rVar 3) qNil)))))))
 (sRet (yR (rC (.bool false))))
 sNext)
 (sFor (iL (dY (yLst (oCons (yR (rC .none)) (oCons (yCbA GTuple (qCons (rVar 3) qNil) (lCons (dY (yVar 3)) lNil)) (oCons (yR (rC (.int 5))) (oCons yDNew (oCons (yTup (oCons (yR (rC (.int 1))) (oCons (yLst oNil) oNil))) oNil)))))))) (gmName 6)
 (sIf (tR (bR (rOp gNeD (rCall m__law_told 1 (qCons (rVar 6) qNil)) (rLst (qCons (rC .none) qNil)))))
 (sRet (yR (rC (.bool false))))
 sNext))))))))
theorem turn_ok (ns : List Int) {k : Nat} (hk : k ≤ 1000) {X2 X3 X4 X5 X6 : OT} (c4 : cl X4 = true) {Q : Fl → MR.Env → Prop}
    (q : ∀ X2 X3 X4 X5 X6, cl X4 = true → Q .nx [.d (.list (ns.map .int)), .d (.int (k : Nat)), X2, X3, X4, X5, X6]) : W B_turn [.d (.list (ns.map .int)), .d (.int (k : Nat)), X2, X3, X4, X5, X6] Q := by
  obtain ⟨ps, ep, hp⟩ := pool_ok ns k hk
  unfold B_turn
  refine w_st (ρ1 := [.d (.list (ns.map .int)), .d (.int (k : Nat)), .nd .lst ps, X3, X4, X5, X6]) (by
    clear q c4 hp
    generalize PyData.list (ns.map .int) = NS at *
    generalize (k : Int) = K at *
    generalize SH.m__law_pool = MP at *
    have e2 := yCallA_of' (f := MP) (n := 2) (q := qCons (rVar 0) (qCons (rVar 1) qNil)) (l := lCons (dY (yVar 0)) (lCons (dY (yVar 1)) lNil)) (ρ := [.d NS, .d (.int K), X2, X3, X4, X5, X6]) (ds := [NS, .int K]) rfl rfl rfl ep
    unfold sAsg
    rw [e2]
    rfl) ?_
  clear ep
  generalize PyData.list (ns.map .int) = NS at *
  generalize PyData.int (k : Nat) = K at *
  refine w_seq (w_asg (webs_ok hp c4 fun p2 acc ws X4 hp2 ta lw hw c4 => ?_))
  simp only [sqK, List.set_cons_zero, List.set_cons_succ]
  refine w_seq (a3_ok hp2 ta lw hw fun p3 vs hp3 lv hv => ?_)
  simp only [sqK]
  refine w_seq (a5_ok (toD_lstO _) fun X3 t3 => ?_)
  simp only [sqK]
  refine w_seq (f4_ok hp3 t3 hv lv c4 fun p4 X3 X4 YS t3 ly hy c4 => ?_)
  simp only [sqK]
  have s1 := right_any (shw_list (L := vs.map wbD) (fun x hx => by
    obtain ⟨w, hw, rfl⟩ := List.mem_map.mp hx
    exact q9_wb (hv w hw)) (by simpa using lv))
  have s2 := right_any (shw_list hy (by omega))
  have r3 : rVar 3 [.d NS, .d K, .nd .lst p4, X3, X4, lstO YS, X6] = some (.list (vs.map wbD)) := t3
  have r5 : rVar 5 [.d NS, .d K, .nd .lst p4, X3, X4, lstO YS, X6] = some (.list YS) := toD_lstO YS
  have cnd : (tR (bOr (bNot (bR (rCall m__law_right 1 (qCons (rVar 3) qNil)))) (bOr (bNot (bR (rCall m__law_right 1 (qCons (rVar 5) qNil)))) (bNot (bR (rCall m__law_right 1 (qCons (rVar 3) qNil))))))) [.d NS, .d K, .nd .lst p4, X3, X4, lstO YS, X6] = some (false, [.d NS, .d K, .nd .lst p4, X3, X4, lstO YS, X6]) := by
    clear q ta lw hw hp hp2 hp3 lv hv t3 ly hy c4
    generalize lstO YS = OY at *
    generalize vs.map wbD = WL at *
    generalize m__law_right = MR' at *
    generalize rVar 3 = R3 at *
    generalize rVar 5 = R5 at *
    walk_at "ev" <;> exact rfl
  refine w_seq (w_if (c := false) cnd (fun z => by cases z) (fun _ => w_next ?_))
  simp only [sqK]
  exact f6_ok t3 fun X3 X6 => q _ _ _ _ _ c4
theorem goal (ns : List Int) (hl : ns.length ≤ 63) : z09.m_law [.list (ns.map .int)] = some (.d (.bool true)) := by
  obtain ⟨m, hm, hm2⟩ : ∃ m : Nat, max (1 : Int) (min ((ns.length : Nat) : Int) 16) = (m : Nat) ∧ m ≤ 16 := ⟨(max (1 : Int) (min ((ns.length : Nat) : Int) 16)).toNat, by omega, by omega⟩
  have c1 := rg1_n (n := m) (by omega)
  rw [rgD0] at c1
  unfold z09.m_law B_law
  refine fin_eq ?_
  rw [show ini [.list (ns.map .int)] 6 = [.d (.list (ns.map .int)), .no, .no, .no, .no, .no, .no] from rfl]
  refine w_seq (w_forT (fun i ρ => ∃ (X1 X2 X3 X4 X5 X6 : OT), cl X4 = true ∧ ρ = [.d (.list (ns.map .int)), X1, X2, X3, X4, X5, X6]) (as := List.range m) (enc := fun k : Nat => PyData.int (k : Int)) (ρ1 := [.d (.list (ns.map .int)), .no, .no, .no, .no, .no, .no]) (by walk_at "ev" <;> exact rfl) ⟨_, _, _, _, _, _, rfl, rfl⟩ (fun i k ρ2 hk hs => ?_) ?_)
  · obtain ⟨X1, X2, X3, X4, X5, X6, c4, rfl⟩ := hs
    have hkm : k < m := by
      obtain ⟨h1, h2⟩ := List.getElem?_eq_some_iff.mp hk
      simp at h1 h2
      omega
    refine ⟨_, rfl, turn_ok ns (k := k) (by omega) c4 fun X2 X3 X4 X5 X6 c4 => ?_⟩
    exact ⟨_, _, _, _, _, _, c4, rfl⟩
  · rintro ρ2 ⟨X1, X2, X3, X4, X5, X6, c4, rfl⟩
    clear hm c1 hm2
    exact w_end (by walk_at "ev" <;> exact rfl) rfl rfl
end z09
open PySem PySem.W PyProof.Rows in
set_option maxHeartbeats 0 in
theorem PySem.Challenge.cw_webtimes_k09_webs_let_in_holds : PySem.Challenge.rw_webtimes_k09_webs_let_in.Holds := by
  w_on; o_law; k_head; (case hw => w_witness2)
  k_fill
  refine MR.walkQ (l := PySem.Challenge.rw_webtimes_k09_webs_let_in) (n := 63) (k := 7) (x := "_law_script") (CX := fun _ => L2.CX0) (sp := fun w => @MR.spP ⟨_, w⟩ 1 z09.m_law) rfl (by decide) rfl ⟨rfl, by decide, by decide⟩ (fun w h Y => PySem.W.kIn_of Y) ?F (fun w G a ns hl hS => z09.law_sp z09.goal hl hS) (fun _ _ _ _ _ h => h)
  case F =>
    intro w mg fa h KX G hmg
    refine' z09.all_mk KX G hmg ?a0 ?l0 ?c0 ?k0 ?a1 ?l1 ?c1 ?k1 ?a2 ?l2 ?c2 ?k2 ?a3 ?l3 ?c3 ?k3 ?a4 ?l4 ?c4 ?k4 ?a5 ?l5 ?c5 ?k5 ?a6 ?l6 ?c6 ?k6 ?a7 ?l7 ?c7 ?k7 ?a8 ?l8 ?c8 ?k8 ?a9 ?l9 ?c9 ?k9 ?a10 ?l10 ?c10 ?k10 ?a11 ?l11 ?c11 ?k11 ?a12 ?l12 ?c12 ?k12 ?a13 ?l13 ?c13 ?k13 ?a14 ?l14 ?c14 ?k14 ?z0 ?z1 ?z2 ?z3 ?z4 ?z5 ?z6 ?z7 ?z8 ?z9 ?z10 ?z11 ?z12 ?z13 ?z14 ?z15 ?z16 ?xa_WebError ?xa_NoWebs ?xa_Apart ?xa_NoPlace ?xa_NoWeb ?xa_TooBig ?xehg_NoWebs ?xehk_NoWebs ?xehs_NoWebs ?xehd_NoWebs ?xeha_NoWebs ?xehn_NoWebs ?xeht_NoWebs ?xehm_NoWebs ?xsup ?xtop ?xopq ?xi_NoWebs ?xl_NoWebs ?xk2_NoWebs ?xl2_NoWebs ?xl3_NoWebs ?xrfl1_NoWebs ?xrfl2_NoWebs ?xl4_NoWebs ?xrfl3_NoWebs ?xsa_NoWebs ?xr_NoWebs ?xk_NoWebs ?xup_NoWebs ?xisb_NoWebs ?xself_NoWebs ?xtI_NoWebs ?xnonumber_NoWebs ?xm_WebError_NoWebs ?xt0_NoWebs ?xz0 ?xt1_NoWebs ?xz1 ?xt2_NoWebs ?xz2
    (case a0 => k_is)
    (case l0 => k_is)
    (case c0 => k_is)
    (case k0 => k_is)
    (case a1 => k_is)
    (case l1 => k_is)
    (case c1 => k_is)
    (case k1 => k_is)
    (case a2 => k_is)
    (case l2 => k_is)
    (case c2 => k_is)
    (case k2 => k_is)
    (case a3 => k_is)
    (case l3 => k_is)
    (case c3 => k_is)
    (case k3 => k_is)
    (case a4 => k_is)
    (case l4 => k_is)
    (case c4 => k_is)
    (case k4 => k_is)
    (case a5 => k_is)
    (case l5 => k_is)
    (case c5 => k_is)
    (case k5 => k_is)
    (case a6 => k_is)
    (case l6 => k_is)
    (case c6 => k_is)
    (case k6 => k_is)
    (case a7 => k_is)
    (case l7 => k_is)
    (case c7 => k_is)
    (case k7 => k_is)
    (case a8 => k_is)
    (case l8 => k_is)
    (case c8 => k_is)
    (case k8 => k_is)
    (case a9 => k_is)
    (case l9 => k_is)
    (case c9 => k_is)
    (case k9 => k_is)
    (case a10 => k_is)
    (case l10 => k_is)
    (case c10 => k_is)
    (case k10 => k_is)
    (case a11 => k_is)
    (case l11 => k_is)
    (case c11 => k_is)
    (case k11 => k_is)
    (case a12 => k_is)
    (case l12 => k_is)
    (case c12 => k_is)
    (case k12 => k_is)
    (case a13 => k_is)
    (case l13 => k_is)
    (case c13 => k_is)
    (case k13 => k_is)
    (case a14 => k_is)
    (case l14 => k_is)
    (case c14 => k_is)
    (case k14 => k_is)
    (case z0 => k_is)
    (case z1 => k_is)
    (case z2 => k_is)
    (case z3 => k_is)
    (case z4 => k_is)
    (case z5 => k_is)
    (case z6 => k_is)
    (case z7 => k_is)
    (case z8 => k_is)
    (case z9 => k_is)
    (case z10 => k_is)
    (case z11 => k_is)
    (case z12 => k_is)
    (case z13 => k_is)
    (case z14 => k_is)
    (case z15 => k_is)
    (case z16 => k_is)
    (case xa_WebError => k_is)
    (case xa_NoWebs => k_is)
    (case xa_Apart => k_is)
    (case xa_NoPlace => k_is)
    (case xa_NoWeb => k_is)
    (case xa_TooBig => k_is)
    (case xehg_NoWebs => k_is)
    (case xehk_NoWebs => k_is)
    (case xehs_NoWebs => k_is)
    (case xehd_NoWebs => k_is)
    (case xeha_NoWebs => k_is)
    (case xehn_NoWebs => k_is)
    (case xeht_NoWebs => k_is)
    (case xehm_NoWebs => k_is)
    (case xsup => k_is)
    (case xtop => rfl)
    (case xopq => k_is)
    (case xi_NoWebs => k_is)
    (case xl_NoWebs => k_is)
    (case xk2_NoWebs => k_is)
    (case xl2_NoWebs => k_is)
    (case xl3_NoWebs => k_is)
    (case xrfl1_NoWebs => rfl)
    (case xrfl2_NoWebs => rfl)
    (case xl4_NoWebs => k_is)
    (case xrfl3_NoWebs => rfl)
    (case xsa_NoWebs => k_is)
    (case xr_NoWebs => k_is)
    (case xk_NoWebs => k_is)
    (case xup_NoWebs => ks_is)
    (case xisb_NoWebs => k_is)
    (case xself_NoWebs => k_is)
    (case xtI_NoWebs => k_is)
    (case xnonumber_NoWebs => k_is)
    (case xm_WebError_NoWebs => kts_exm)
    (case xt0_NoWebs => kit_is)
    (case xz0 => kit_is)
    (case xt1_NoWebs => kit_is)
    (case xz1 => kit_is)
    (case xt2_NoWebs => kit_is)
    (case xz2 => kit_is)
