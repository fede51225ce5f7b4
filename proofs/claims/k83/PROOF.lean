import PyProof.Rows.All
import Wide.All
import OpenK.AllK
import Wide.FinOn
import HandS.ForMost
import HandS.Deep
import HandS.IsInst
import HandS.Walk
import HandS.TupLe
import HandS.Conv
import HandS.SortRule
import HandS.SortInts
import KE.KDictCopyH
import HandS.SetFor
import HandS.Strs
import HandS.NoneIn
import HandS.Defaults
import HandS.TupSets
import HandS.Wide
import PyProof.ReprRoads
import KE.SortData
import KE.DataCmp
import HandS.DictComp
import HandS.Style
import HandS.SetBool
import KE.KMathGC
import KE.GoesMore
import KE.GoesEnum
import HandS.Iter
import PyProof.ListIndex
import HandS.Dict
import KE.KDictZip
import HandS.ListItems
import KE.DataMinMax
import HandS.SortKw
import HandS.Exc
import HandS.TryOnly
import HandS.ExcOwn
import HandS.ExcIs
import HandS.WordsExc
import HandS.FStr
import HandS.Text
import HandS.Call
import HandS.List
import PySem.Challenge.RW_webtimes_k83_webs_read_back
set_option Elab.async false
set_option linter.all false
set_option maxRecDepth 100000
set_option maxHeartbeats 4000000
/-! PL: webs and other plain data told over slots, without the heap -/
namespace PL
open PySem L2
class KF where
  K : PySem.W.Frag
abbrev D := PyData
abbrev Sg := List (Option V)
/-! ### what is stable (S) within what is tracked (H) -/
structure Xt (S H S' H' : Hp) : Prop where
  hh : Same H H'
  ss : Same S S'
  sh : Same S' H'
  nw : ∀ b o, S' b = some o → S b = some o ∨ ∀ u, H b = some u → ∃ xs, u = .tup xs
theorem Xt.refl {S H : Hp} (h : Same S H) : Xt S H S H := ⟨Same.refl H, Same.refl S, h, fun _ _ e => .inl e⟩
theorem Xt.trans {S H S1 H1 S2 H2 : Hp} (a : Xt S H S1 H1) (b : Xt S1 H1 S2 H2) : Xt S H S2 H2 :=
  ⟨a.hh.trans b.hh, a.ss.trans b.ss, b.sh, fun c o e => by
    rcases b.nw c o e with q | q
    · exact a.nw c o q
    · exact .inr fun u hu => q u (a.hh c u hu)⟩
/-- a new object, not stable -/
theorem Xt.new {S H : Hp} {p : Addr} {o : HO} (h : Same S H) (n : H p = none) : Xt S H S (upd H p o) :=
  ⟨fun b u e => by rw [upd_ne (ne_of_none e n)]; exact e, Same.refl S, fun b u e => by rw [upd_ne (ne_of_none (h b u e) n)]; exact h b u e, fun _ _ e => .inl e⟩
/-- a new object, stable -/
theorem Xt.newS {S H : Hp} {p : Addr} {o : HO} (h : Same S H) (n : H p = none) : Xt S H (upd S p o) (upd H p o) :=
  ⟨fun b u e => by rw [upd_ne (ne_of_none e n)]; exact e, fun b u e => by rw [upd_ne (ne_of_none (h b u e) n)]; exact e, fun b u e => by
    by_cases hb : b = p
    · subst hb; rw [upd_same] at e ⊢; exact e
    · rw [upd_ne hb] at e ⊢; exact h b u e, fun b u e => by
    by_cases hb : b = p
    · subst hb; exact .inr fun u hu => by rw [n] at hu; cases hu
    · rw [upd_ne hb] at e; exact .inl e⟩
/-- what is not of the stable part and no tuple stays out of it -/
theorem Xt.out {S H S' H' : Hp} (x : Xt S H S' H') {a : Addr} {u : HO} (hs : S a = none) (hu : H a = some u) (nt : ∀ xs, u ≠ .tup xs) : S' a = none := by
  cases q : S' a with
  | none => rfl
  | some o =>
    rcases x.nw a o q with e | e
    · rw [hs] at e; cases e
    · obtain ⟨xs, e⟩ := e u hu; exact absurd e (nt xs)
/-- list + list, both to be read -/
def rCatR (K : PySem.W.Frag) : R2 := fun x y H Q => ∃ l b xs zs, x = .ref l ∧ y = .ref b ∧ SqL K H l xs ∧ SqL K H b zs ∧ xs.length + zs.length ≤ sizeLine ∧ ∀ p, H p = none → Q (.ref p) (upd H p (.lst (xs ++ zs)))
theorem op_catR {X : Cx} : OpR X (binaryOp .Add) (rCatR X.K) := by
  intro pins s σ H x y v u Q I rx ry h
  obtain ⟨l, b, xs, zs, rfl, rfl, hH, hB, hz, q⟩ := h
  cases rx
  cases ry
  obtain ⟨its, r, ⟨⟨c1, d1, dt1, sl1⟩, n1, g1, k1, m1, t1⟩, z1⟩ := I.list hH
  obtain ⟨its2, r2, ⟨⟨c2, d2, dt2, sl2⟩, n2, g2, k2, m2, t2⟩, z2⟩ := I.list hB
  simp only at k1 m1 t1 k2 m2 t2
  subst k1 m1 t1 k2 m2 t2
  have e1 := r.length
  have e2 := r2.length
  refine concat_meets ⟨_, g1, rfl⟩ ⟨_, g2, rfl⟩ PySem.noFill_list_add PySem.seq_list_add PySem.F.slot_list_add PySem.F.entry_list_add (PySem.F.args_list_add_2 _ _)
    (PyProof.Rows.list_addW l b its.toArray its2.toArray n1 n2 none none sl1 sl2 (by simp; omega)) ⟨g1, g2, ?_⟩
  have ea : its.toArray ++ its2.toArray = (its ++ its2).toArray := by simp
  rw [ea]
  exact ⟨.ref _, _, I.lnew (t' := s.toks) (r.append r2) (by rw [List.length_append]; omega), rfl, q _ I.fresh⟩
/-- a constant as data -/
def vD : V → Option D
  | .non => some .none
  | .bl b => some (.bool b)
  | .int i => some (.int i)
  | .str x => some (.str x)
  | _ => none
/-- keys as data; a dict of flat values -/
def keyD : Key → D
  | .inl i => .int i
  | .inr s => .str s
def keyTD (k : List Key) : D := .tuple (k.map keyD)
def dctD {κ : Type} (f : κ → D) : List (κ × V) → Option (List (D × D))
  | [] => some []
  | (k, v) :: r => (vD v).bind fun x => (dctD f r).map fun xs => (f k, x) :: xs
mutual
/-- no dict within -/
def noDc : D → Bool
  | .none => true
  | .bool _ => true
  | .int _ => true
  | .str _ => true
  | .list xs => noDcs xs
  | .tuple xs => noDcs xs
  | .dict _ => false
def noDcs : List D → Bool
  | [] => true
  | x :: xs => noDc x && noDcs xs
end
mutual
theorem noDc_lay : ∀ d : D, d.canLay0 = true → noDc d = true
  | .none, _ => by simp [noDc]
  | .bool _, _ => by simp [noDc]
  | .int _, _ => by simp [noDc]
  | .str _, _ => by simp [noDc]
  | .list xs, h => by
    simp only [noDc]
    exact noDcs_lay xs (by simpa only [PyData.canLay0] using h)
  | .tuple xs, h => by
    simp only [noDc]
    exact noDcs_lay xs (by simpa only [PyData.canLay0] using h)
  | .dict _, h => by simp [PyData.canLay0] at h
theorem noDcs_lay : ∀ ds : List D, PyData.canLayAll0 ds = true → noDcs ds = true
  | [], _ => by simp [noDcs]
  | x :: xs, h => by
    have h' : x.canLay0 = true ∧ PyData.canLayAll0 xs = true := by simpa only [PyData.canLayAll0, Bool.and_eq_true] using h
    simp only [noDcs, noDc_lay x h'.1, noDcs_lay xs h'.2, Bool.and_self]
end
variable [kf : KF]
/-! ### data -/
mutual
/-- v is d, all of it tracked -/
inductive Rp (H : Hp) : V → D → Prop
  | non : Rp H .non .none
  | bl (b : Bool) : Rp H (.bl b) (.bool b)
  | int (i : Int) : Rp H (.int i) (.int i)
  | str (x : Str) : Rp H (.str x) (.str x)
  | lst {a : Addr} {xs : List V} {ds : List D} : SqL kf.K H a xs → RpAll H xs ds → Rp H (.ref a) (.list ds)
  | tup {a : Addr} {xs : List V} {ds : List D} : H a = some (.tup xs) → RpAll H xs ds → Rp H (.ref a) (.tuple ds)
  | dcT {a : Addr} {kvs : List (List Key × V)} {ds : List (D × D)} : H a = some (.dT kvs) → dctD keyTD kvs = some ds → Rp H (.ref a) (.dict ds)
  | dcK {a : Addr} {kvs : List (Key × V)} {ds : List (D × D)} : H a = some (.dK kvs) → ds ≠ [] → dctD keyD kvs = some ds → Rp H (.ref a) (.dict ds)
inductive RpAll (H : Hp) : List V → List D → Prop
  | nil : RpAll H [] []
  | cons {v : V} {vs : List V} {d : D} {ds : List D} : Rp H v d → RpAll H vs ds → RpAll H (v :: vs) (d :: ds)
end
mutual
theorem dp_mono {H H' : Hp} (e : Same H H') : ∀ (d : D) (v : V), Rp H v d → Rp H' v d
  | .none, _, h => by cases h; exact .non
  | .bool b, _, h => by cases h; exact .bl b
  | .int i, _, h => by cases h; exact .int i
  | .str x, _, h => by cases h; exact .str x
  | .list ds, _, h => by
    cases h with
    | lst hs ha => exact .lst (e.seq hs) (dpa_mono e ds _ ha)
  | .tuple ds, _, h => by
    cases h with
    | tup hs ha => exact .tup (e _ _ hs) (dpa_mono e ds _ ha)
  | .dict _, _, h => by
    cases h with
    | dcT hs ha => exact .dcT (e _ _ hs) ha
    | dcK hs ne ha => exact .dcK (e _ _ hs) ne ha
theorem dpa_mono {H H' : Hp} (e : Same H H') : ∀ (ds : List D) (vs : List V), RpAll H vs ds → RpAll H' vs ds
  | [], _, h => by cases h; exact .nil
  | d :: ds, _, h => by
    cases h with
    | cons h t => exact .cons (dp_mono e d _ h) (dpa_mono e ds _ t)
end
mutual
theorem rp_dp {H : Hp} : ∀ (d : D) (v : V), noDc d = true → Rp H v d → Dp kf.K H v d
  | .none, _, _, h => by cases h; exact .non
  | .bool b, _, _, h => by cases h; exact .bl b
  | .int i, _, _, h => by cases h; exact .int i
  | .str x, _, _, h => by cases h; exact .str x
  | .list ds, _, c, h => by
    cases h with
    | lst hs ha => exact .lst hs (rpa_dp ds _ (by simpa only [noDc] using c) ha)
  | .tuple ds, _, c, h => by
    cases h with
    | tup hs ha => exact .tup (.inl (.inl hs)) (rpa_dp ds _ (by simpa only [noDc] using c) ha)
  | .dict _, _, c, h => by simp [noDc] at c
theorem rpa_dp {H : Hp} : ∀ (ds : List D) (vs : List V), noDcs ds = true → RpAll H vs ds → DpAll kf.K H vs ds
  | [], _, _, h => by cases h; exact .nil
  | d :: ds, _, c, h => by
    have c' : noDc d = true ∧ noDcs ds = true := by simpa only [noDcs, Bool.and_eq_true] using c
    cases h with
    | cons h t => exact .cons (rp_dp d _ c'.1 h) (rpa_dp ds _ c'.2 t)
end
theorem dpa_length {H : Hp} : ∀ {vs : List V} {ds : List D}, RpAll H vs ds → vs.length = ds.length
  | _, _, .nil => rfl
  | _, _, .cons _ t => by rw [List.length_cons, List.length_cons, dpa_length t]
theorem dpa_get {H : Hp} : ∀ {vs : List V} {ds : List D} {i : Nat} {d : D}, RpAll H vs ds → ds[i]? = some d → ∃ v, vs[i]? = some v ∧ Rp H v d
  | _, _, _, _, .nil, e => by simp at e
  | _, _, 0, _, .cons h _, e => by simp at e; subst e; exact ⟨_, rfl, h⟩
  | _, _, i + 1, d, .cons _ t, e => by
    obtain ⟨v, h1, h2⟩ := dpa_get (i := i) (d := d) t (by simpa using e)
    exact ⟨v, by simpa using h1, h2⟩
theorem dpa_append {H : Hp} : ∀ {vs ws : List V} {ds es : List D}, RpAll H vs ds → RpAll H ws es → RpAll H (vs ++ ws) (ds ++ es)
  | _, _, _, _, .nil, h => h
  | _, _, _, _, .cons a t, h => .cons a (dpa_append t h)
theorem dpa_take {H : Hp} : ∀ {vs : List V} {ds : List D} (n : Nat), RpAll H vs ds → RpAll H (vs.take n) (ds.take n)
  | _, _, 0, _ => .nil
  | _, _, _ + 1, .nil => .nil
  | _, _, n + 1, .cons r t => .cons r (dpa_take n t)
theorem dpa_drop {H : Hp} : ∀ {vs : List V} {ds : List D} (n : Nat), RpAll H vs ds → RpAll H (vs.drop n) (ds.drop n)
  | _, _, 0, r => r
  | _, _, _ + 1, .nil => .nil
  | _, _, n + 1, .cons _ t => dpa_drop n t
theorem dpa_of_ints {H : Hp} : ∀ (ns : List Int), RpAll H (ns.map V.int) (ns.map PyData.int)
  | [] => .nil
  | n :: ns => .cons (.int n) (dpa_of_ints ns)
theorem dpa_bools {H : Hp} : ∀ {vs : List V} {ns : List Bool}, RpAll H vs (ns.map PyData.bool) → vs = ns.map V.bl
  | _, [], h => by cases h; rfl
  | _, n :: ns, h => by
    cases h with
    | cons a t => cases a; rw [dpa_bools t]; rfl
theorem atD {H : Hp} {vs : List V} {ds : List D} {i : Int} {d : D} (h : RpAll H vs ds) (e : atI ds i = some d) : ∃ v, atI vs i = some v ∧ Rp H v d := by
  unfold atI at e
  cases q : ixN ds.length i with
  | none => rw [q] at e; cases e
  | some j =>
    rw [q] at e
    obtain ⟨v, h1, h2⟩ := dpa_get h e
    refine ⟨v, ?_, h2⟩
    unfold atI
    rw [dpa_length h, q]
    exact h1
/-- no heap within -/
def flat : D → Bool
  | .none | .bool _ | .int _ | .str _ => true
  | _ => false
theorem dp_flat {H H' : Hp} {v : V} {d : D} (f : flat d = true) (h : Rp H v d) : Rp H' v d := by
  cases h with
  | non => exact .non
  | bl b => exact .bl b
  | int i => exact .int i
  | str x => exact .str x
  | lst _ _ => cases f
  | tup _ _ => cases f
  | dcT _ _ => cases f
  | dcK _ _ _ => cases f
theorem vD_dp {H : Hp} {v : V} {d : D} (h : vD v = some d) : Rp H v d := by
  cases v <;> simp [vD] at h <;> subst h <;> constructor
/-! ### slots -/
inductive Sl where
  | no
  | d (x : D)
  | own (xs : List D)
  | own2 (xss : List (List D))
  | dct (ks : List (Int × Int))
def Sl.toD : Sl → Option D
  | .d x => some x
  | .own xs => some (.list xs)
  | .own2 xss => some (.list (xss.map .list))
  | _ => none
inductive Own2 (S H : Hp) : List Addr → List (List D) → Prop
  | nil : Own2 S H [] []
  | cons {b : Addr} {vs : List V} {xs : List D} {bs : List Addr} {xss : List (List D)} : S b = none → H b = some (.lst vs) → RpAll S vs xs → Own2 S H bs xss → Own2 S H (b :: bs) (xs :: xss)
def keyOf (k : Int × Int) : List Key × V := ([.inl k.1, .inl k.2], .bl true)
inductive SlOk (S H : Hp) : Option V → Sl → List Addr → Prop
  | no {v : Option V} : SlOk S H v .no []
  | d {v : V} {x : D} : Rp S v x → SlOk S H (some v) (.d x) []
  | own {a : Addr} {vs : List V} {xs : List D} : S a = none → H a = some (.lst vs) → RpAll S vs xs → SlOk S H (some (.ref a)) (.own xs) [a]
  | own2 {a : Addr} {bs : List Addr} {xss : List (List D)} : S a = none → H a = some (.lst (bs.map V.ref)) → Own2 S H bs xss → SlOk S H (some (.ref a)) (.own2 xss) (a :: bs)
  | dct {a : Addr} {ks : List (Int × Int)} : S a = none → H a = some (.dT (ks.map keyOf)) → SlOk S H (some (.ref a)) (.dct ks) [a]
section
variable {S H S' H' S0 H0 S1 H1 : Hp}
theorem Own2.keep {bs : List Addr} {xss : List (List D)} (h : Own2 S H bs xss) (ss : Same S S') (k : ∀ a ∈ bs, S' a = none ∧ H' a = H a) : Own2 S' H' bs xss := by
  induction h with
  | nil => exact .nil
  | cons h1 h2 h3 _ ih =>
    obtain ⟨e1, e2⟩ := k _ List.mem_cons_self
    exact .cons e1 (e2.trans h2) (dpa_mono ss _ _ h3) (ih fun a ha => k a (List.mem_cons_of_mem _ ha))
theorem SlOk.keep {v : Option V} {s : Sl} {A : List Addr} (h : SlOk S H v s A) (ss : Same S S') (k : ∀ a ∈ A, S' a = none ∧ H' a = H a) : SlOk S' H' v s A := by
  cases h with
  | no => exact .no
  | d h => exact .d (dp_mono ss _ _ h)
  | own h1 h2 h3 =>
    obtain ⟨e1, e2⟩ := k _ List.mem_cons_self
    exact .own e1 (e2.trans h2) (dpa_mono ss _ _ h3)
  | own2 h1 h2 h3 =>
    obtain ⟨e1, e2⟩ := k _ List.mem_cons_self
    exact .own2 e1 (e2.trans h2) (h3.keep ss fun a ha => k a (List.mem_cons_of_mem _ ha))
  | dct h1 h2 =>
    obtain ⟨e1, e2⟩ := k _ List.mem_cons_self
    exact .dct e1 (e2.trans h2)
theorem Own2.at {bs : List Addr} {xss : List (List D)} (h : Own2 S H bs xss) : ∀ a ∈ bs, S a = none ∧ ∃ u, H a = some u ∧ ∀ xs, u ≠ .tup xs := by
  induction h with
  | nil => intro a ha; cases ha
  | cons h1 h2 h3 _ ih =>
    intro a ha
    rcases List.mem_cons.mp ha with rfl | ha
    · exact ⟨h1, _, h2, fun _ e => by cases e⟩
    · exact ih a ha
theorem SlOk.at {v : Option V} {s : Sl} {A : List Addr} (h : SlOk S H v s A) : ∀ a ∈ A, S a = none ∧ ∃ u, H a = some u ∧ ∀ xs, u ≠ .tup xs := by
  cases h with
  | no => intro a ha; cases ha
  | d h => intro a ha; cases ha
  | own h1 h2 h3 =>
    intro a ha
    have e := List.mem_singleton.mp ha
    subst e
    exact ⟨h1, _, h2, fun _ e => by cases e⟩
  | own2 h1 h2 h3 =>
    intro a ha
    rcases List.mem_cons.mp ha with rfl | ha
    · exact ⟨h1, _, h2, fun _ e => by cases e⟩
    · exact h3.at a ha
  | dct h1 h2 =>
    intro a ha
    have e := List.mem_singleton.mp ha
    subst e
    exact ⟨h1, _, h2, fun _ e => by cases e⟩
theorem SlOk.ext {v : Option V} {s : Sl} {A : List Addr} (h : SlOk S H v s A) (x : Xt S H S' H') : SlOk S' H' v s A :=
  h.keep x.ss fun a ha => by
    obtain ⟨h1, u, h2, h3⟩ := h.at a ha
    exact ⟨x.out h1 h2 h3, by rw [h2]; exact x.hh a u h2⟩
inductive EnvOk (S H : Hp) : List (Option V) → List Sl → List Addr → Prop
  | nil : EnvOk S H [] [] []
  | cons {v : Option V} {s : Sl} {A : List Addr} {σ : List (Option V)} {ρ : List Sl} {B : List Addr} : SlOk S H v s A → EnvOk S H σ ρ B → EnvOk S H (v :: σ) (s :: ρ) (A ++ B)
theorem EnvOk.keep {σ : Sg} {ρ : List Sl} {A : List Addr} (h : EnvOk S H σ ρ A) (ss : Same S S') (k : ∀ a ∈ A, S' a = none ∧ H' a = H a) : EnvOk S' H' σ ρ A := by
  induction h with
  | nil => exact .nil
  | cons h _ ih => exact .cons (h.keep ss fun a ha => k a (List.mem_append_left _ ha)) (ih fun a ha => k a (List.mem_append_right _ ha))
theorem EnvOk.at {σ : Sg} {ρ : List Sl} {A : List Addr} (h : EnvOk S H σ ρ A) : ∀ a ∈ A, S a = none ∧ ∃ u, H a = some u ∧ ∀ xs, u ≠ .tup xs := by
  induction h with
  | nil => intro a ha; cases ha
  | cons h _ ih =>
    intro a ha
    rcases List.mem_append.mp ha with ha | ha
    · exact h.at a ha
    · exact ih a ha
theorem EnvOk.ext {σ : Sg} {ρ : List Sl} {A : List Addr} (h : EnvOk S H σ ρ A) (x : Xt S H S' H') : EnvOk S' H' σ ρ A :=
  h.keep x.ss fun a ha => by
    obtain ⟨h1, u, h2, h3⟩ := h.at a ha
    exact ⟨x.out h1 h2 h3, by rw [h2]; exact x.hh a u h2⟩
theorem EnvOk.len {σ : Sg} {ρ : List Sl} {A : List Addr} (h : EnvOk S H σ ρ A) : σ.length = ρ.length := by
  induction h with
  | nil => rfl
  | cons _ _ ih => rw [List.length_cons, List.length_cons, ih]
/-- one slot taken out of the rest: at i stands v as s over A; with anything in its place the rest stays -/
theorem EnvOk.pick {σ : Sg} {ρ : List Sl} {B : List Addr} (h : EnvOk S H σ ρ B) (nd : B.Nodup) : ∀ {i : Nat} {s : Sl}, ρ[i]? = some s → ∃ v A, σ[i]? = some v ∧ SlOk S H v s A ∧ A.Nodup ∧ (∀ a ∈ A, a ∈ B) ∧
    ∀ {S' H' : Hp} {v' : Option V} {s' : Sl} {A' : List Addr}, Same S S' → (∀ a ∈ B, a ∉ A → S' a = none ∧ H' a = H a) → SlOk S' H' v' s' A' → A'.Nodup → (∀ a ∈ A', a ∈ A ∨ a ∉ B) →
      ∃ B', EnvOk S' H' (σ.set i v') (ρ.set i s') B' ∧ B'.Nodup ∧ ∀ a ∈ B', a ∈ A' ∨ a ∈ B := by
  induction h with
  | nil => intro i s e; simp at e
  | @cons v0 s0 A0 σ ρ B h0 ht ih =>
    have nd1 : A0.Nodup := (List.nodup_append.mp nd).1
    have nd2 : B.Nodup := (List.nodup_append.mp nd).2.1
    have dj : ∀ a ∈ A0, a ∉ B := fun a ha hb => (List.nodup_append.mp nd).2.2 a ha a hb rfl
    intro i s e
    cases i with
    | zero =>
      have e' : s0 = s := by simpa using e
      subst e'
      refine ⟨v0, A0, rfl, h0, nd1, fun a ha => List.mem_append_left _ ha, fun {S' H' v' s' A'} ss k h' n' m' => ?_⟩
      refine ⟨A' ++ B, .cons h' (ht.keep ss fun a ha => k a (List.mem_append_right _ ha) fun z => dj a z ha), ?_, fun a ha => ?_⟩
      · refine List.nodup_append.mpr ⟨n', nd2, fun a ha b hb e => ?_⟩
        subst e
        rcases m' a ha with z | z
        · exact dj a z hb
        · exact z (List.mem_append_right _ hb)
      · rcases List.mem_append.mp ha with z | z
        · exact .inl z
        · exact .inr (List.mem_append_right _ z)
    | succ i =>
      obtain ⟨v, A, e1, e2, e3, e4, e5⟩ := ih nd2 (i := i) (s := s) (by simpa using e)
      refine ⟨v, A, by simpa using e1, e2, e3, fun a ha => List.mem_append_right _ (e4 a ha), fun {S' H' v' s' A'} ss k h' n' m' => ?_⟩
      obtain ⟨B', q1, q2, q3⟩ := e5 (v' := v') ss (fun a ha na => k a (List.mem_append_right _ ha) na) h' n' (fun a ha => by
        rcases m' a ha with z | z
        · exact .inl z
        · exact .inr fun hb => z (List.mem_append_right _ hb))
      refine ⟨A0 ++ B', .cons (h0.keep ss fun a ha => k a (List.mem_append_left _ ha) fun z => dj a ha (e4 a z)) q1, ?_, fun a ha => ?_⟩
      · refine List.nodup_append.mpr ⟨nd1, q2, fun a ha b hb e => ?_⟩
        subst e
        rcases q3 a hb with z | z
        · rcases m' a z with y | y
          · exact dj a ha (e4 a y)
          · exact y (List.mem_append_left _ ha)
        · exact dj a ha z
      · rcases List.mem_append.mp ha with z | z
        · exact .inr (List.mem_append_left _ z)
        · rcases q3 a z with y | y
          · exact .inl y
          · exact .inr (List.mem_append_right _ y)
structure Ok (S0 H0 S H : Hp) (σ : Sg) (ρ : List Sl) : Prop where
  xt : Xt S0 H0 S H
  env : ∃ A, EnvOk S H σ ρ A ∧ A.Nodup ∧ ∀ a ∈ A, H0 a = none
theorem Ok.sh {σ : Sg} {ρ : List Sl} (o : Ok S0 H0 S H σ ρ) : Same S H := o.xt.sh
theorem Ok.ext {σ : Sg} {ρ : List Sl} (o : Ok S0 H0 S H σ ρ) (x : Xt S H S' H') : Ok S0 H0 S' H' σ ρ := by
  obtain ⟨A, h1, h2, h3⟩ := o.env
  exact ⟨o.xt.trans x, A, h1.ext x, h2, h3⟩
theorem Ok.len {σ : Sg} {ρ : List Sl} (o : Ok S0 H0 S H σ ρ) : σ.length = ρ.length := let ⟨_, h, _⟩ := o.env; h.len
/-- a slot stored: what is stored is new to H -/
theorem Ok.set {σ : Sg} {ρ : List Sl} (o : Ok S0 H0 S H σ ρ) (x : Xt S H S' H') {v : Option V} {s : Sl} {A : List Addr} (h : SlOk S' H' v s A) (nd : A.Nodup) (fr : ∀ a ∈ A, H a = none) (i : Nat) : Ok S0 H0 S' H' (σ.set i v) (ρ.set i s) := by
  obtain ⟨B, h1, h2, h3⟩ := o.env
  have h1' := h1.ext x
  by_cases hi : i < ρ.length
  · obtain ⟨v0, A0, e1, e2, e3, e4, e5⟩ := h1'.pick h2 (i := i) (s := ρ[i]) (by simp [hi])
    obtain ⟨B', q1, q2, q3⟩ := e5 (v' := v) (Same.refl S') (fun a ha _ => ⟨(h1'.at a ha).1, rfl⟩) h nd (fun a ha => .inr fun hb => by
      obtain ⟨_, u, hu, _⟩ := h1.at a hb
      rw [fr a ha] at hu; cases hu)
    refine ⟨o.xt.trans x, B', q1, q2, fun a ha => ?_⟩
    rcases q3 a ha with z | z
    · exact o.xt.hh.free (fr a z)
    · exact h3 a z
  · have l := o.len
    rw [List.set_eq_of_length_le (by omega), List.set_eq_of_length_le (by omega)]
    exact ⟨o.xt.trans x, B, h1', h2, h3⟩
end
end PL
namespace PL
open PySem L2
variable [kf : KF]
/-! ### judgements -/
def EvP (te : TE) (ρ : List Sl) (P : Sl → Prop) : Prop := ∀ (S0 H0 S H : Hp) (σ : Sg) (Q : VK), Ok S0 H0 S H σ ρ →
  (∀ v S' H' r A, P r → Xt S H S' H' → SlOk S' H' (some v) r A → A.Nodup → (∀ a ∈ A, H a = none) → Q v H') → te σ H Q
def EvO (te : TE) (ρ : List Sl) (r : Sl) : Prop := EvP te ρ (fun r' => r' = r)
def EvT (te : TE) (ρ : List Sl) (d : D) : Prop := ∀ (S0 H0 S H : Hp) (σ : Sg) (Q : VK), Ok S0 H0 S H σ ρ → (∀ v S' H', Xt S H S' H' → Rp H' v d → Q v H') → te σ H Q
def EvB (tt : TT) (ρ : List Sl) (b : Bool) : Prop := ∀ (S0 H0 S H : Hp) (σ : Sg) (Q : Bool → Hp → Prop), Ok S0 H0 S H σ ρ → (∀ S' H', Xt S H S' H' → Q b H') → tt σ H Q
def EvL (ta : TA) (ρ : List Sl) (ds : List D) : Prop := ∀ (S0 H0 S H : Hp) (σ : Sg) (Q : List V → Hp → Prop), Ok S0 H0 S H σ ρ → (∀ vs S' H', Xt S H S' H' → RpAll S' vs ds → Q vs H') → ta σ H Q
section
variable {ρ : List Sl} {ta tb tc te : TE} {t u : TT} {d e x y : D} {r : Sl} {P : Sl → Prop}
theorem Ok.get {S0 H0 S H : Hp} {σ : Sg} {s : Sl} {i : Nat} (o : Ok S0 H0 S H σ ρ) (h : ρ[i]? = some s) : ∃ v A, σ[i]? = some v ∧ SlOk S H v s A := by
  obtain ⟨A, he, hn, _⟩ := o.env
  obtain ⟨v, A', e1, e2, _⟩ := he.pick hn h
  exact ⟨v, A', e1, e2⟩
/-! ### operators -/
def isN : D → Bool
  | .none => true
  | _ => false
theorem rp_isN {H : Hp} {v : V} (h : Rp H v d) : decide (v = .non) = isN d := by
  cases h <;> simp [isN]
/-! ### subscripts, len -/
/-! ### kinds -/
def tyN : D → String
  | .none => "NoneType" | .bool _ => "bool" | .int _ => "int" | .str _ => "str" | .list _ => "list" | .tuple _ => "tuple" | .dict _ => "dict"
theorem rp_ty {H : Hp} {v : V} (h : Rp H v d) : TyX kf.K H v (.type (tyN d)) := by
  cases h with
  | non => exact .base .non
  | bl b => exact .base (.bl b)
  | int i => exact .base (.int i)
  | str x => exact .base (.str x)
  | lst r _ =>
    rcases r with (r | ⟨o, r⟩) | ⟨o, its, n, hk, hc, _⟩
    · exact .base (.lst r)
    · exact .base (.frz r)
    · exact .kList hk hc
  | tup r _ => exact .base (.tup r)
  | dcT r _ => exact .base (.dT r)
  | dcK r _ _ => exact .base (.dK r)
/-! ### arguments, displays -/
theorem evl_nil : EvL tNil ρ [] := fun S0 H0 S H σ Q o q => q [] S H (.refl o.sh) .nil
theorem evl_cons {tr : TA} {xs : List D} (ha : EvO ta ρ (.d x)) (hr : EvL tr ρ xs) : EvL (tCons ta tr) ρ (x :: xs) := fun S0 H0 S H σ Q o q =>
  ha S0 H0 S H σ _ o fun v S1 H1 r A er x1 h1 _ _ => hr S0 H0 S1 H1 σ _ (o.ext x1) fun vs S2 H2 x2 h2 => by
    subst er
    cases h1 with
    | d h1 => exact q _ S2 H2 (x1.trans x2) (.cons (dp_mono x2.ss _ _ h1) h2)
theorem sz_of {n : Nat} (h : n ≤ 1000000) : n ≤ sizeLine := Nat.le_trans h (by decide)
theorem sz_lt {n : Nat} (h : n ≤ 1000000) : n < sizeLine := Nat.lt_of_le_of_lt h (by decide)
/-! ### tests -/
/-! ### calls -/
end
end PL
namespace PL
open PySem L2
variable [kf : KF]
/-! ### statements -/
structure DE where
  nx : List Sl → Prop
  rt : Sl → Prop
  bk : List Sl → Prop := fun _ => False
  ct : List Sl → Prop := fun _ => False
def Run (t : TS) (Dn : DE) (ρ : List Sl) : Prop := ∀ (S0 H0 S H : Hp) (σ : Sg) (E : Ends), Ok S0 H0 S H σ ρ →
  (∀ S' H' σ' ρ', Same S S' → Ok S0 H0 S' H' σ' ρ' → Dn.nx ρ' → E.nx σ' H') →
  (∀ v S' H' r A, Xt S0 H0 S' H' → SlOk S' H' (some v) r A → A.Nodup → (∀ a ∈ A, H0 a = none) → Dn.rt r → E.rt v H') →
  (∀ S' H' σ' ρ', Same S S' → Ok S0 H0 S' H' σ' ρ' → Dn.bk ρ' → E.bk σ' H') →
  (∀ S' H' σ' ρ', Same S S' → Ok S0 H0 S' H' σ' ρ' → Dn.ct ρ' → E.ct σ' H') → t E σ H
section
variable {ρ : List Sl} {ta tb tc te : TE} {c : TT} {t u : TS} {d x y : D} {r : Sl} {Dn : DE}
theorem run_seq (h : Run t { Dn with nx := Run u Dn } ρ) : Run (tSeq t u) Dn ρ := fun S0 H0 S H σ E o q1 q2 q3 q4 =>
  h S0 H0 S H σ { E with nx := u E } o (fun S' H' σ' ρ' ss o' n => n S0 H0 S' H' σ' E o' (fun S2 H2 σ2 ρ2 s2 => q1 S2 H2 σ2 ρ2 (ss.trans s2)) q2 (fun S2 H2 σ2 ρ2 s2 => q3 S2 H2 σ2 ρ2 (ss.trans s2)) fun S2 H2 σ2 ρ2 s2 => q4 S2 H2 σ2 ρ2 (ss.trans s2)) q2 q3 q4
theorem run_next (h : Dn.nx ρ) : Run tNext Dn ρ := fun S0 H0 S H σ E o q1 q2 q3 q4 => q1 S H σ ρ (Same.refl S) o h
theorem run_asgP {i : Nat} {P : Sl → Prop} (h : EvP te ρ P) (k : ∀ r, P r → Dn.nx (ρ.set i r)) : Run (tAsg te (gName i)) Dn ρ := fun S0 H0 S H σ E o q1 q2 q3 q4 =>
  h S0 H0 S H σ _ o fun v S' H' r A p xt hs nd fr => q1 S' H' _ _ xt.ss (o.set xt hs nd fr i) (k r p)
theorem run_asg {i : Nat} (h : EvO te ρ r) (k : Dn.nx (ρ.set i r)) : Run (tAsg te (gName i)) Dn ρ := run_asgP h fun r' e => by rw [e]; exact k
theorem run_if {b : Bool} (h : EvB c ρ b) (h1 : b = true → Run t Dn ρ) (h2 : b = false → Run u Dn ρ) : Run (tIfS c t u) Dn ρ := fun S0 H0 S H σ E o q1 q2 q3 q4 =>
  h S0 H0 S H σ _ o fun S1 H1 x1 => by
    cases b with
    | true => exact iteT (h1 rfl S0 H0 S1 H1 σ E (o.ext x1) (fun S2 H2 σ2 ρ2 s2 => q1 S2 H2 σ2 ρ2 (x1.ss.trans s2)) q2 (fun S2 H2 σ2 ρ2 s2 => q3 S2 H2 σ2 ρ2 (x1.ss.trans s2)) fun S2 H2 σ2 ρ2 s2 => q4 S2 H2 σ2 ρ2 (x1.ss.trans s2))
    | false => exact iteF (h2 rfl S0 H0 S1 H1 σ E (o.ext x1) (fun S2 H2 σ2 ρ2 s2 => q1 S2 H2 σ2 ρ2 (x1.ss.trans s2)) q2 (fun S2 H2 σ2 ρ2 s2 => q3 S2 H2 σ2 ρ2 (x1.ss.trans s2)) fun S2 H2 σ2 ρ2 s2 => q4 S2 H2 σ2 ρ2 (x1.ss.trans s2))
theorem run_retP {P : Sl → Prop} (h : EvP te ρ P) (k : ∀ r, P r → Dn.rt r) : Run (tRet te) Dn ρ := fun S0 H0 S H σ E o q1 q2 q3 q4 =>
  h S0 H0 S H σ _ o fun v S' H' r A p xt hs nd fr => q2 v S' H' r A (o.xt.trans xt) hs nd (fun a ha => o.xt.hh.free (fr a ha)) (k r p)
theorem run_ret (h : EvO te ρ r) (k : Dn.rt r) : Run (tRet te) Dn ρ := run_retP h fun r' e => by rw [e]; exact k
theorem run_drop {P : Sl → Prop} (h : EvP te ρ P) (k : Dn.nx ρ) : Run (tDrop te) Dn ρ := fun S0 H0 S H σ E o q1 q2 q3 q4 =>
  h S0 H0 S H σ _ o fun v S' H' r A p xt hs nd fr => q1 S' H' σ ρ xt.ss (o.ext xt) k
theorem set_self {α : Type} {xs : List α} {i : Nat} {v : α} (h : xs[i]? = some v) : xs.set i v = xs := by
  apply List.ext_getElem?
  intro j
  by_cases e : i = j
  · subst e
    rw [List.getElem?_set_self (by have := List.getElem?_eq_some_iff.mp h; exact this.1), h]
  · rw [List.getElem?_set_ne e]
/-- a slot changed in place -/
theorem ok_write {i : Nat} {S0 H0 S H S' H' : Hp} {σ : Sg} {s' : Sl} {v : Option V} {B : List Addr} (o : Ok S0 H0 S H σ ρ)
    (x : Xt S0 H0 S' H') (e1 : σ[i]? = some v) (b : EnvOk S' H' (σ.set i v) (ρ.set i s') B) (nd : B.Nodup) (fr : ∀ a ∈ B, H0 a = none) : Ok S0 H0 S' H' σ (ρ.set i s') := by
  rw [set_self e1] at b
  exact ⟨x, B, b, nd, fr⟩
theorem upd_same' {S H : Hp} {a : Addr} {o : HO} (sh : Same S H) (n : S a = none) : Same S (upd H a o) := fun b u e => by
  rw [upd_ne (ne_of_none e n)]; exact sh b u e
/-- an owned list changed: at slot i stands xs; what is written is ys -/
theorem ok_set {i : Nat} {S0 H0 S H : Hp} {σ : Sg} {xs : List D} (o : Ok S0 H0 S H σ ρ) (h : ρ[i]? = some (.own xs)) :
    ∃ a vs, σ[i]? = some (some (.ref a)) ∧ H a = some (.lst vs) ∧ S a = none ∧ RpAll S vs xs ∧ ∀ {S' H' : Hp} {ws : List V} {ys : List D}, Xt S H S' H' → RpAll S' ws ys → Ok S0 H0 S' (upd H' a (.lst ws)) σ (ρ.set i (.own ys)) := by
  obtain ⟨B, he, nd, fr⟩ := o.env
  obtain ⟨v, A, e1, e2, e3, e4, e5⟩ := he.pick nd h
  cases e2 with
  | @own a vs _ h1 h2 h3 =>
    refine ⟨a, vs, e1, h2, h1, h3, fun {S' H' ws ys} xt hr => ?_⟩
    have hb : a ∈ B := e4 a List.mem_cons_self
    have sa : S' a = none := xt.out h1 h2 fun _ z => by cases z
    obtain ⟨B', q1, q2, q3⟩ := e5 (S' := S') (H' := upd H' a (.lst ws)) (v' := some (.ref a)) (s' := .own ys) (A' := [a]) xt.ss (fun b hbB nb => by
      have ne : b ≠ a := fun z => nb (by rw [z]; exact List.mem_cons_self)
      obtain ⟨g1, w, g2, g3⟩ := he.at b hbB
      refine ⟨xt.out g1 g2 g3, ?_⟩
      rw [upd_ne ne, g2]
      exact xt.hh b w g2) (.own sa upd_same hr) (by simp) (fun b hb' => .inl hb')
    have x0 := o.xt.trans xt
    refine ok_write o ⟨fun b u e => ?_, x0.ss, upd_same' x0.sh sa, x0.nw⟩ e1 q1 q2 fun b hb' => ?_
    · rw [upd_ne (ne_of_none e (fr a hb))]; exact x0.hh b u e
    · rcases q3 b hb' with z | z
      · rw [List.mem_singleton.mp z]; exact fr a hb
      · exact fr b z
theorem run_append {i : Nat} {xs : List D} (h : ρ[i]? = some (.own xs)) (he : EvO te ρ (.d x)) (hz : xs.length ≤ 1000000) (k : Dn.nx (ρ.set i (.own (xs ++ [x])))) :
    Run (tDrop (tBM kf.K "list" rAppend (tVar i) (tCons te tNil))) Dn ρ := fun S0 H0 S H σ E o q1 q2 q3 q4 => by
  obtain ⟨a, vs, e1, e2, e3, e4, e5⟩ := ok_set o h
  refine ⟨_, e1, .inl ⟨rfl, _, .inl (.inl e2)⟩, ?_⟩
  refine he S0 H0 S H σ _ o fun v S1 H1 r A er x1 h1 _ _ => ?_
  subst er
  cases h1 with
  | d h1 =>
    refine ⟨a, vs, v, rfl, rfl, x1.hh _ _ e2, sz_lt (by rw [dpa_length e4]; exact hz), ?_⟩
    exact q1 S1 _ σ _ x1.ss (e5 x1 (dpa_append (dpa_mono x1.ss _ _ e4) (.cons h1 .nil))) k
/-! ### targets -/
/-- data x stored to the target: the slots become ρ', those not at js are as they were -/
def TgD (g : TG) (x : D) (ρ ρ' : List Sl) (js : List Nat) : Prop := ∀ (S0 H0 S H : Hp) (σ : Sg) (Q : Sg → Hp → Prop) (v : V), Ok S0 H0 S H σ ρ → Rp S v x →
  (∀ σ', Ok S0 H0 S H σ' ρ' → σ'.length = σ.length → (∀ k, k ∉ js → σ'[k]? = σ[k]?) → Q σ' H) → g v σ H Q
theorem tg_name {i : Nat} : TgD (gName i) x ρ (ρ.set i (.d x)) [i] := fun S0 H0 S H σ Q v o hv q =>
  q _ (o.set (.refl o.sh) (.d hv) List.nodup_nil (fun a ha => by cases ha) i) (by rw [List.length_set]) fun k hk => by rw [List.getElem?_set_ne (fun z => hk (by rw [z]; exact List.mem_cons_self))]
def TgDs (g : TGs) (xs : List D) (ρ ρ' : List Sl) (js : List Nat) : Prop := ∀ (S0 H0 S H : Hp) (σ : Sg) (Q : Sg → Hp → Prop) (vs : List V), Ok S0 H0 S H σ ρ → RpAll S vs xs →
  (∀ σ', Ok S0 H0 S H σ' ρ' → σ'.length = σ.length → (∀ k, k ∉ js → σ'[k]? = σ[k]?) → Q σ' H) → g vs σ H Q
theorem tgs_nil : TgDs gNil [] ρ ρ [] := fun S0 H0 S H σ Q vs o hv q => by
  cases hv
  exact ⟨rfl, q σ o rfl fun _ _ => rfl⟩
theorem tgs_cons {g : TG} {gs : TGs} {xs : List D} {ρ1 ρ2 : List Sl} {js ks : List Nat} (h1 : TgD g x ρ ρ1 js) (h2 : TgDs gs xs ρ1 ρ2 ks) : TgDs (gCons g gs) (x :: xs) ρ ρ2 (js ++ ks) := fun S0 H0 S H σ Q vs o hv q => by
  cases hv with
  | cons hv ht =>
    refine ⟨_, _, rfl, h1 S0 H0 S H σ _ _ o hv fun σ1 o1 l1 k1 => h2 S0 H0 S H σ1 _ _ o1 ht fun σ2 o2 l2 k2 => q σ2 o2 (l2.trans l1) fun k hk => ?_⟩
    rw [k2 k (fun z => hk (List.mem_append_right _ z)), k1 k (fun z => hk (List.mem_append_left _ z))]
theorem tg_tup {gs : TGs} {xs : List D} {ρ' : List Sl} {js : List Nat} {n : Nat} (h : TgDs gs xs ρ ρ' js) (hn : xs.length = n) : TgD (gTup kf.K n gs) (.tuple xs) ρ ρ' js := fun S0 H0 S H σ Q v o hv q => by
  cases hv with
  | tup r1 r2 => exact ⟨_, _, rfl, .inl (.of (o.sh _ _ r1)), (dpa_length r2).trans hn, h S0 H0 S H σ Q _ o r2 q⟩
/-- a, b = e -/
theorem run_asgT {g : TG} {ρ' : List Sl} {js : List Nat} (h : EvO te ρ (.d x)) (ht : TgD g x ρ ρ' js) (k : Dn.nx ρ') : Run (tAsg te g) Dn ρ := fun S0 H0 S H σ E o q1 q2 q3 q4 =>
  h S0 H0 S H σ _ o fun v S' H' r A er xt hs _ _ => by
    subst er
    cases hs with
    | d hs => exact ht S0 H0 S' H' σ _ v (o.ext xt) hs fun σ' o' _ _ => q1 S' H' σ' ρ' xt.ss o' k
/-! ### what is walked -/
def JD (S : Hp) (J : It) (ds : List D) : Prop := ∀ S1 H1, Same S S1 → Same S1 H1 → J.stop ds.length H1 ∧ ∀ i x, ds[i]? = some x → J.go i H1 ∧ ∀ v H2, J.yld i H1 v H2 → ∃ S2, Xt S1 H1 S2 H2 ∧ Rp S2 v x
def IterD (wi : TI) (ρ : List Sl) (ds : List D) : Prop := ∀ (S0 H0 S H : Hp) (σ : Sg) (R : It → Hp → Prop), Ok S0 H0 S H σ ρ → (∀ J S' H', Xt S H S' H' → JD S' J ds → R J H') → wi σ H R
theorem jd_list {S : Hp} {a : Addr} {vs : List V} {ds : List D} (h : SqL kf.K S a vs) (hr : RpAll S vs ds) : JD S (Itl kf.K a) ds := fun S1 H1 s1 sh => by
  have h1 : SqL kf.K H1 a vs := (s1.trans sh).seq h
  refine ⟨⟨vs, h1, by rw [dpa_length hr]; exact Nat.le_refl _⟩, fun i x e => ?_⟩
  obtain ⟨v, e1, e2⟩ := dpa_get hr e
  refine ⟨⟨vs, v, h1, e1⟩, fun w H2 y => ?_⟩
  obtain ⟨rfl, y⟩ := y
  have : some w = some v := (y vs h1).symm.trans e1
  cases this
  exact ⟨S1, .refl sh, dp_mono s1 _ _ e2⟩
theorem it_list {ds : List D} (h : EvO te ρ (.d (.list ds))) : IterD (iList kf.K te) ρ ds := fun S0 H0 S H σ R o q =>
  h S0 H0 S H σ _ o fun v S' H' r A er xt hs _ _ => by
    subst er
    cases hs with
    | d hs =>
      cases hs with
      | lst r1 r2 => exact ⟨_, rfl, ⟨_, xt.sh.seq r1⟩, q _ S' H' xt (jd_list r1 r2)⟩
theorem jd_range {S : Hp} {lo : Int} {n : Nat} : JD S (Itr lo n) ((List.range n).map fun (i : Nat) => PyData.int (lo + (i : Int))) := fun S1 H1 s1 sh => by
  refine ⟨by show n ≤ _; simp, fun i x e => ?_⟩
  rw [List.getElem?_map] at e
  have hi : i < n := by
    cases q : (List.range n)[i]? with
    | none => rw [q] at e; cases e
    | some j => have := (List.getElem?_eq_some_iff.mp q).1; simpa using this
  rw [List.getElem?_range hi] at e
  cases e
  refine ⟨hi, fun v H2 y => ?_⟩
  obtain ⟨rfl, rfl⟩ := y
  exact ⟨S1, .refl sh, .int _⟩
theorem it_range1 {n : Int} (h : EvT te ρ (.int n)) (hn : n < 2 ^ 62) (hn0 : -(2 ^ 62) ≤ n) : IterD (iRng1 (tCons te tNil)) ρ ((List.range n.toNat).map fun (i : Nat) => PyData.int (0 + (i : Int))) := fun S0 H0 S H σ R o q =>
  h S0 H0 S H σ _ o fun v S' H' xt hs => by
    cases hs
    exact ⟨n, rfl, hn0, hn, q _ S' H' xt jd_range⟩
theorem it_range2 {m n : Int} (h : EvT ta ρ (.int m)) (h' : EvT tb ρ (.int n)) (hb : -(2 ^ 62) ≤ m ∧ m < 2 ^ 62 ∧ -(2 ^ 62) ≤ n ∧ n < 2 ^ 62) : IterD (iRng2 (tCons ta (tCons tb tNil))) ρ ((List.range (n - m).toNat).map fun (i : Nat) => PyData.int (m + (i : Int))) := fun S0 H0 S H σ R o q =>
  h S0 H0 S H σ _ o fun v S1 H1 x1 h1 => h' S0 H0 S1 H1 σ _ (o.ext x1) fun u S2 H2 x2 h2 => by
    cases h1; cases h2
    exact ⟨m, n, rfl, hb, q _ S2 H2 (x1.trans x2) jd_range⟩
theorem it_enum {ds : List D} (h : EvO te ρ (.d (.list ds))) : IterD (iEnum kf.K (tCons te tNil)) ρ (ds.zipIdx.map fun p => PyData.tuple [.int (p.2 : Nat), p.1]) := fun S0 H0 S H σ R o q =>
  h S0 H0 S H σ _ o fun v S' H' r A er xt hs _ _ => by
    subst er
    cases hs with
    | d hs =>
      cases hs with
      | @lst a vs _ r1 r2 =>
        refine ⟨a, vs, rfl, xt.sh.seq r1, q _ S' H' xt fun S1 H1 s1 sh => ?_⟩
        have h1 : SqL kf.K H1 a vs := (s1.trans sh).seq r1
        refine ⟨⟨vs, h1, by rw [dpa_length r2]; simp⟩, fun i x e => ?_⟩
        rw [List.getElem?_map, List.getElem?_zipIdx] at e
        cases qd : ds[i]? with
        | none => rw [qd] at e; cases e
        | some d =>
          rw [qd] at e
          simp at e
          subst e
          obtain ⟨v, e1, e2⟩ := dpa_get r2 qd
          refine ⟨⟨vs, v, h1, e1⟩, fun w H2 y => ?_⟩
          obtain ⟨T, x, rfl, nT, rfl, y⟩ := y
          have : some x = some v := (y vs h1).symm.trans e1
          cases this
          have xn := Xt.newS (o := .tup [.int (i : Nat), v]) sh nT
          exact ⟨_, xn, .tup upd_same (.cons (.int _) (.cons (dp_mono (s1.trans xn.ss) _ _ e2) .nil))⟩
/-! ### loops -/
theorem run_for {wi : TI} {g : TG} {ds : List D} (hi : IterD wi ρ ds) (I : Nat → List Sl → Prop) (h0 : I 0 ρ)
    (hs : ∀ i x ρ', ds[i]? = some x → I i ρ' → ∃ ρ2 js, TgD g x ρ' ρ2 js ∧ Run t { nx := I (i + 1), ct := I (i + 1), bk := Dn.nx, rt := Dn.rt } ρ2) (hd : ∀ ρ', I ds.length ρ' → Dn.nx ρ') : Run (tFor wi g t) Dn ρ := fun S0 H0 S H σ E o q1 q2 q3 q4 =>
  hi S0 H0 S H σ _ o fun J S1 H1 x1 hJ => by
    refine ⟨fun i m σ' H' => m = ds.length - i ∧ i ≤ ds.length ∧ ∃ S' ρ', Same S1 S' ∧ Ok S0 H0 S' H' σ' ρ' ∧ I i ρ', ⟨_, rfl, Nat.zero_le _, S1, ρ, Same.refl _, o.ext x1, h0⟩, ?_⟩
    rintro i m σ' H' ⟨rfl, hi, S', ρ', s1, o', hI⟩
    obtain ⟨st, go⟩ := hJ S' H' s1 o'.sh
    by_cases hl : i < ds.length
    · obtain ⟨g1, g2⟩ := go i ds[i] (List.getElem?_eq_getElem hl)
      obtain ⟨ρ2, js, ht, hb⟩ := hs i ds[i] ρ' (List.getElem?_eq_getElem hl) hI
      refine .inr ⟨g1, fun σ2 H2 => ∃ S2 ρ2, Same S1 S2 ∧ Ok S0 H0 S2 H2 σ2 ρ2 ∧ I (i + 1) ρ2, fun σ2 H2 hN => ?_, fun v H2 hy => ?_⟩
      · exact ⟨_, by omega, rfl, hl, hN⟩
      · obtain ⟨S2, x2, hv⟩ := g2 v H2 hy
        refine ht S0 H0 S2 H2 σ' _ v (o'.ext x2) hv fun σ3 o3 _ _ => ?_
        refine hb S0 H0 S2 H2 σ3 _ o3 (fun S4 H4 σ4 ρ4 s4 o4 n4 => ⟨S4, ρ4, s1.trans (x2.ss.trans s4), o4, n4⟩) q2 (fun S4 H4 σ4 ρ4 s4 o4 n4 => q1 S4 H4 σ4 ρ4 (x1.ss.trans (s1.trans (x2.ss.trans s4))) o4 n4) (fun S4 H4 σ4 ρ4 s4 o4 n4 => ⟨S4, ρ4, s1.trans (x2.ss.trans s4), o4, n4⟩)
    · have e : i = ds.length := by omega
      subst e
      exact .inl ⟨st, q1 S' H' σ' ρ' (x1.ss.trans s1) o' (hd ρ' hI)⟩
end
end PL
namespace PL
open PySem L2
variable [kf : KF]
/-! ### comprehensions -/
def wipeS (ρ : List Sl) : List Nat → List Sl
  | [] => ρ
  | v :: vs => (wipeS ρ vs).set v .no
theorem Ok.wipe {S0 H0 S H : Hp} {σ : Sg} {ρ : List Sl} (o : Ok S0 H0 S H σ ρ) : ∀ vs : List Nat, Ok S0 H0 S H (L2.wipe σ vs) (wipeS ρ vs)
  | [] => o
  | v :: vs => (Ok.wipe o vs).set (.refl o.sh) .no List.nodup_nil (fun a ha => by cases ha) v
theorem wipe_get (σ : Sg) (k : Nat) : ∀ vs : List Nat, (L2.wipe σ vs)[k]? = if k ∈ vs then (if k < σ.length then some none else none) else σ[k]?
  | [] => by simp [L2.wipe]
  | v :: vs => by
    unfold L2.wipe
    have ih := wipe_get σ k vs
    have hl := L2.wipe_length σ vs
    by_cases e : v = k
    · subst e
      rw [if_pos List.mem_cons_self]
      by_cases h : v < σ.length
      · rw [if_pos h, List.getElem?_set_self (by omega)]
      · rw [if_neg h]
        exact List.getElem?_eq_none (by rw [List.length_set]; omega)
    · rw [List.getElem?_set_ne e, ih]
      by_cases h : k ∈ vs
      · rw [if_pos h, if_pos (List.mem_cons_of_mem _ h)]
      · rw [if_neg h, if_neg (fun z => by rcases List.mem_cons.mp z with z | z; exact e z.symm; exact h z)]
theorem wipe_eq {σ σ' : Sg} {vs : List Nat} (hl : σ'.length = (L2.wipe σ vs).length) (h : ∀ k, k ∉ vs → σ'[k]? = (L2.wipe σ vs)[k]?) : L2.wipe σ' vs = L2.wipe σ vs := by
  apply List.ext_getElem?
  intro k
  have l2 := L2.wipe_length σ vs
  rw [wipe_get, wipe_get]
  by_cases hk : k ∈ vs
  · rw [if_pos hk, if_pos hk, show σ'.length = σ.length by omega]
  · rw [if_neg hk, if_neg hk, h k hk, wipe_get, if_neg hk]
/-- the picked ones -/
def pick {α : Type} (n : Nat) (f : Nat → Bool) (v : Nat → α) : List α := ((List.range n).filter f).map v
section
variable {ρ : List Sl} {ta tb tc te : TE} {c : TT} {t u : TS} {d x y : D} {r : Sl} {Dn : DE}
theorem Own2.ext {S H S' H' : Hp} {bs : List Addr} {xss : List (List D)} (h : Own2 S H bs xss) (x : Xt S H S' H') : Own2 S' H' bs xss :=
  h.keep x.ss fun a ha => by
    obtain ⟨h1, u, h2, h3⟩ := h.at a ha
    exact ⟨x.out h1 h2 h3, by rw [h2]; exact x.hh a u h2⟩
/-! ### whole lists -/
/-- list * int: rRep wants the list tracked; a written one is -/
theorem dpa_rep {H : Hp} {vs : List V} {ds : List D} (h : RpAll H vs ds) : ∀ n : Nat, RpAll H (List.replicate n vs).flatten (List.replicate n ds).flatten
  | 0 => .nil
  | n + 1 => by
    rw [List.replicate_succ, List.replicate_succ, List.flatten_cons, List.flatten_cons]
    exact dpa_append h (dpa_rep h n)
/-- a slice of data -/
def cutD (xs : List D) (lo hi : Option Int) : List D := (xs.drop (HT.sIx xs.length 0 lo)).take (HT.sIx xs.length xs.length hi - HT.sIx xs.length 0 lo)
/-- list(range(n)) -/
def intsD (lo : Int) (n : Nat) : List D := (List.range n).map fun (i : Nat) => PyData.int (lo + (i : Int))
theorem dpa_rg {H : Hp} (a b : Int) : RpAll H (rgV a b) (intsD a (b - a).toNat) := by
  have gen : ∀ l : List Nat, RpAll H (l.map fun i => V.int (a + (i : Nat))) (l.map fun (i : Nat) => PyData.int (a + (i : Int))) := by
    intro l
    induction l with
    | nil => exact .nil
    | cons x l ih => exact .cons (.int _) ih
  exact gen _
end
end PL
namespace PL
open PySem L2
variable [kf : KF]
open PyProof.Rows (seqObj)
/-! ### sorted(d), the keys pairs of ints -/
def pairAt (H : Hp) : Value → Int × Int
  | .ref q => match H q with
    | some (.tup [.int i, .int j]) => (i, j)
    | _ => (0, 0)
  | _ => (0, 0)
theorem pairAt_of {H : Hp} {q : Addr} {i j : Int} (e : H q = some (.tup [.int i, .int j])) : pairAt H (.ref q) = (i, j) := by
  simp [pairAt, e]
def addrOf : Value → Addr
  | .ref q => q
  | _ => 0
/-- rising by the first, then by the second -/
def Lex (ps : List (Int × Int)) : Prop := ps.Pairwise fun p q => p.1 < q.1 ∨ (p.1 = q.1 ∧ p.2 ≤ q.2)
def rSortedDT : List V → Hp → VK → Prop := fun vs H Q => ∃ (a : Addr) (ks : List (Int × Int)), vs = [V.ref a] ∧ H a = some (.dT (ks.map keyOf)) ∧
  ∀ (ps : List (Addr × (Int × Int))) (p : Addr), Lex (ps.map (·.2)) → (ps.map (·.2)).Perm ks → (∀ q ∈ ps, H q.1 = some (.tup [.int q.2.1, .int q.2.2])) → H p = none → Q (.ref p) (upd H p (.lst (ps.map fun q => V.ref q.1)))
theorem keys_at {H : Hp} : ∀ {ks : List (Int × Int)} {xs : List (List Key × Addr × Value)}, Paired (fun (p : List Key × V) (q : List Key × Addr × Value) => p.1 = q.1 ∧ H q.2.1 = some (.tup (p.1.map kV)) ∧ RelV p.2 q.2.2) (ks.map keyOf) xs →
    xs.map (fun x => pairAt H (.ref x.2.1)) = ks ∧ ∀ x ∈ xs, ∃ i j, H x.2.1 = some (.tup [.int i, .int j])
  | [], _, h => by
    cases h
    exact ⟨rfl, fun x hx => by cases hx⟩
  | k :: ks, _, h => by
    rw [List.map_cons] at h
    cases h with
    | cons a t =>
      rename_i x xs
      obtain ⟨h1, h2⟩ := keys_at t
      have e : H x.2.1 = some (.tup [.int k.1, .int k.2]) := a.2.1
      refine ⟨?_, fun y hy => ?_⟩
      · rw [List.map_cons, h1]
        rw [pairAt_of e]
      · rcases List.mem_cons.mp hy with rfl | hy
        · exact ⟨_, _, e⟩
        · exact h2 y hy
theorem acc_keys {es : Array DictEntry} {xs : List (List Key × Addr × Value)} {knd : List Key × Addr × Value → DictEntry} (he : es.toList = xs.map knd) (hk : ∀ x, (knd x).key = .ref x.2.1) {acc : Array Value} (hacc : ItemsOf (fun i v => ∃ hi : i < es.size, v = es[i].key) acc es.size) :
    acc.toList = xs.map fun x => Value.ref x.2.1 := by
  obtain ⟨h1, h2⟩ := hacc
  have hl : es.size = xs.length := by rw [← Array.length_toList, he, List.length_map]
  apply List.ext_getElem?
  intro j
  by_cases hj : j < xs.length
  · have hj2 : j < acc.toList.length := by rw [Array.length_toList, h1, hl]; exact hj
    rw [List.getElem?_eq_getElem hj2, List.getElem?_map, List.getElem?_eq_getElem hj]
    obtain ⟨hi, e⟩ := h2 j acc.toList[j] (by rw [← Array.getElem?_toList, List.getElem?_eq_getElem hj2])
    rw [e]
    have e2 : es[j] = knd xs[j] := by
      have e3 : es.toList[j]'(by rw [Array.length_toList]; exact hi) = knd xs[j] := by
        have : es.toList[j]? = some (knd xs[j]) := by rw [he, List.getElem?_map, List.getElem?_eq_getElem hj]; rfl
        rw [List.getElem?_eq_getElem (by rw [Array.length_toList]; exact hi)] at this
        exact Option.some.inj this
      rw [← e3, Array.getElem_toList]
    rw [e2, hk]
    rfl
  · rw [List.getElem?_eq_none (by rw [Array.length_toList, h1, hl]; omega), List.getElem?_eq_none (by rw [List.length_map]; omega)]
theorem cr_sortedDT {X : Cx} (hc : X.calm = true) : CallR X (.builtin "sorted") rSortedDT := by
  intro pins s σ H vs us Q I r h
  obtain ⟨a, ks, rfl, ha, q⟩ := h
  obtain ⟨u, rfl, ru⟩ := vals1 r
  obtain rfl : u = Value.ref a := ru
  obtain ⟨hz, lo, xs, pr, o, es, ep, ho, hx, hdt, he, nd⟩ := I.hok a _ ha
  obtain ⟨k1, k2⟩ := keys_at pr
  have hl : xs.length = es.size := by rw [← Array.length_toList, he, List.length_map]
  have hz' : es.size ≤ sizeLine := by
    have := Paired.length pr
    rw [← hl, ← this]; exact hz
  refine Calls.call_function_entry PyProof.Rows.kind_sorted PyProof.Rows.plain_sorted PyProof.Rows.entry_sorted (PyProof.Rows.args_sorted1 _) ?_
  unfold Builtin.«sorted»
  refine wpAny_bind (m := checkCount "sorted" 1 1 _) (wpAny_pure ?_)
  refine wpAny_bind (PySem.W.kdu_collect (A := X.A.in1) (KdlSrc.rawDict (es := es) (ep := ep) lo) (I.ok.hd hc) ⟨o, ho, hx, hdt⟩ hz' fun h' tk acc hk hacc => ?_)
  have eacc : acc.toList = xs.map fun x => Value.ref x.2.1 := acc_keys he (fun _ => rfl) hacc
  have I1 : Inv X pins σ H { s with heap := h', toks := tk } := I.kept hk
  have hal : acc.toList.length ≤ sizeLine := by rw [eacc, List.length_map, hl]; exact hz'
  refine wpAny_bind (wpAny_newList ?_ hal)
  have hoL : (h'.push (seqObj "list" acc.toList.toArray 0)).get? h'.objs.size = some (seqObj "list" acc.toList.toArray 0) := Heap.get?_push_size _ rfl
  show wpAny _ _ _ _ _ { s with heap := h'.push (seqObj "list" acc.toList.toArray 0), toks := tk }
  have hp : ∀ v ∈ acc.toList, Srt.IsPair (h'.push (seqObj "list" acc.toList.toArray 0)) v (pairAt H v).1 (pairAt H v).2 := fun v hv => by
    rw [eacc] at hv
    obtain ⟨x, hx, rfl⟩ := List.mem_map.mp hv
    obtain ⟨i, j, hq⟩ := k2 x hx
    obtain ⟨_, its2, r2, o2, ho2, hc2, n2, hd2⟩ := I1.hok _ _ hq
    obtain ⟨u1, u2, rfl, ri, rj⟩ := vals2 r2
    obtain ⟨t1, rfl⟩ := ri
    obtain ⟨t2, rfl⟩ := rj
    have e : pairAt H (.ref x.2.1) = (i, j) := pairAt_of hq
    rw [e]
    exact ⟨x.2.1, o2, t1, t2, n2, rfl, Heap.get?_push_of_some _ ho2, hc2, hd2⟩
  refine wpAny_bind (wpAny_holding (wpAny_call_entry PyProof.Rows.slot_list_sort ⟨_, hoL, rfl⟩ PyProof.Rows.entry_list_sort
    (SrtO.list_sort_ord (s := { s with heap := h'.push (seqObj "list" acc.toList.toArray 0), toks := tk }) (SrtO.swo_lex (pairAt H)) hoL hal (fun h2 => SrtO.pairs_sortableO (by omega) hp fun o e => ?_) fun out h1 h2 => ⟨_, rfl, ?_⟩) (PyProof.Rows.args_list_sort _)))
  · have e' : some o = some (seqObj "list" acc.toList.toArray 0) := e.symm.trans hoL
    cases e'
    intro c
    exact absurd (Value.type.inj c) (by decide)
  · obtain ⟨e', he'⟩ := PyProof.Rows.sortedHeap_at (vs := acc.toList) (out := out.toArray) hoL
    have hmem : ∀ v ∈ out, ∃ x ∈ xs, v = .ref x.2.1 := fun v hv => by
      have := h2.perm.mem_iff.mp hv
      rw [eacc] at this
      obtain ⟨x, hx, rfl⟩ := List.mem_map.mp this
      exact ⟨x, hx, rfl⟩
    have hval : Vals (out.map fun v => V.ref (addrOf v)) out := by
      have gen : ∀ l : List Value, (∀ v ∈ l, ∃ x ∈ xs, v = .ref x.2.1) → Vals (l.map fun v => V.ref (addrOf v)) l := by
        intro l
        induction l with
        | nil => intro _; exact .nil
        | cons v l ih =>
          intro hm
          obtain ⟨x, _, rfl⟩ := hm v List.mem_cons_self
          exact .cons rfl (ih fun w hw => hm w (List.mem_cons_of_mem _ hw))
      exact gen out hmem
    have hlo : out.length ≤ sizeLine := by rw [h2.perm.length_eq]; exact hal
    have hps : (out.map fun v => (addrOf v, pairAt H v)).map (fun q => V.ref q.1) = out.map fun v => V.ref (addrOf v) := by rw [List.map_map]; rfl
    have hps2 : (out.map fun v => (addrOf v, pairAt H v)).map (·.2) = out.map (pairAt H) := by rw [List.map_map]; rfl
    have fresh := I1.hok.fresh (Nat.le_refl h'.objs.size)
    have qq := q (out.map fun v => (addrOf v, pairAt H v)) h'.objs.size ?_ ?_ ?_ fresh
    · rw [hps] at qq
      refine wpAny_pure ⟨_, rfl, .ref h'.objs.size, upd H h'.objs.size (.lst (out.map fun v => V.ref (addrOf v))), I1.laid (t' := tk) (fun b u e => ?_) (Nat.le_refl _)
        (show ObjOk X.prog X.w _ _ _ (.lst (out.map fun v => V.ref (addrOf v))) from ⟨by rw [List.length_map]; exact hlo, out, e', hval, he'⟩), rfl, qq⟩
      have hb : b < h'.objs.size := Heap.lt_size e
      rw [PyProof.Rows.sortedHeap_old (Nat.ne_of_lt hb) (by rw [PyProof.Rows.size_push']; exact Nat.lt_succ_of_lt hb)]
      exact Heap.get?_push_of_some _ e
    · rw [hps2]
      refine List.pairwise_map.mpr (List.Pairwise.imp (fun {v u} z => ?_) h1)
      have := SrtO.lexB_no.mp z
      omega
    · rw [hps2]
      refine (h2.perm.map (pairAt H)).trans ?_
      rw [eacc, List.map_map]
      exact List.Perm.of_eq k1
    · intro p hp
      obtain ⟨v, hv, rfl⟩ := List.mem_map.mp hp
      obtain ⟨x, hx, rfl⟩ := hmem v hv
      obtain ⟨i, j, hq⟩ := k2 x hx
      show H x.2.1 = some (.tup [.int (pairAt H (.ref x.2.1)).1, .int (pairAt H (.ref x.2.1)).2])
      have e : pairAt H (.ref x.2.1) = (i, j) := pairAt_of hq
      rw [e, hq]
def pairD (p : Int × Int) : D := .tuple [.int p.1, .int p.2]
section
variable {ρ : List Sl} {ta tb tc te : TE} {c : TT} {t u : TS} {d x y : D} {r : Sl} {Dn : DE}
def insK (ks : List (Int × Int)) (k : Int × Int) : List (Int × Int) := if k ∈ ks then ks else ks ++ [k]
/-! ### expressions that change an owned list -/
/-! ### lists of lists -/
end
/-! ### a def -/
end PL
namespace PL
open PySem L2
variable [kf : KF]
def isIntB : D → Bool
  | .bool _ => true
  | .int _ => true
  | _ => false
def isBoolB : D → Bool
  | .bool _ => true
  | _ => false
def isListB : D → Bool
  | .list _ => true
  | _ => false
def isTupB : D → Bool
  | .tuple _ => true
  | _ => false
def isStrB : D → Bool
  | .str _ => true
  | _ => false
/-- a def of the top -/
structure Tp (K : PySem.W.Frag) (mg : Str → Option Value) (x : Str) (st : Stmt) where
  a : Addr
  fd : FuncData
  F : Fun K x x st a fd
  g : mg x = some (.ref a)
section
variable {ρ : List Sl} {ta tb tc te : TE} {c : TT} {t u : TS} {d x y : D} {r : Sl} {Dn : DE}
def lexLe (p q : Int × Int) : Bool := decide (p.1 < q.1 ∨ (p.1 = q.1 ∧ p.2 ≤ q.2))
theorem rp_pair {H : Hp} {v : V} {p : Int × Int} (h : Rp H v (pairD p)) : ∃ a, v = .ref a ∧ H a = some (.tup ([p.1, p.2].map V.int)) := by
  cases h with
  | @tup a us _ g1 g2 =>
    cases g2 with
    | cons a1 a2 => cases a2 with
      | cons b1 b2 => cases a1; cases b1; cases b2; exact ⟨a, rfl, g1⟩
end
end PL
namespace PL
open PySem L2
/-! ### plain data: None, ints, lists and tuples of such, at most n deep -/
end PL
namespace PL
open PySem L2
end PL
namespace PL
open PySem L2
theorem lex_uniq : ∀ {a b : List (Int × Int)}, Lex a → Lex b → a.Perm b → a = b
  | [], b, _, _, h => h.nil_eq
  | x :: a, [], _, _, h => absurd h.length_eq (by simp)
  | x :: a, y :: b, ha, hb, h => by
    have ha' := List.pairwise_cons.mp ha
    have hb' := List.pairwise_cons.mp hb
    have e : x = y := by
      rcases List.mem_cons.mp (h.mem_iff.mp (List.mem_cons_self (a := x) (l := a))) with e | hx
      · exact e
      · rcases List.mem_cons.mp (h.mem_iff.mpr (List.mem_cons_self (a := y) (l := b))) with e | hy
        · exact e.symm
        · have c1 := hb'.1 x hx
          have c2 := ha'.1 y hy
          have h1 : x.1 = y.1 := by omega
          have h2 : x.2 = y.2 := by omega
          exact Prod.ext h1 h2
    subst e
    rw [lex_uniq ha'.2 hb'.2 h.cons_inv]
def insL (x : Int × Int) : List (Int × Int) → List (Int × Int)
  | [] => [x]
  | y :: ys => if lexLe x y then x :: y :: ys else y :: insL x ys
theorem insL_perm (x : Int × Int) : ∀ ys, (insL x ys).Perm (x :: ys)
  | [] => .refl _
  | y :: ys => by
    unfold insL
    split
    · exact .refl _
    · exact ((insL_perm x ys).cons y).trans (List.Perm.swap x y ys)
theorem insL_lex (x : Int × Int) : ∀ ys, Lex ys → Lex (insL x ys)
  | [], _ => List.pairwise_singleton _ _
  | y :: ys, h => by
    have h' := List.pairwise_cons.mp h
    unfold insL
    split
    · rename_i c
      have c := of_decide_eq_true c
      refine List.pairwise_cons.mpr ⟨fun z hz => ?_, h⟩
      rcases List.mem_cons.mp hz with rfl | hz
      · exact c
      · have := h'.1 z hz
        omega
    · rename_i c
      have c : ¬ (x.1 < y.1 ∨ x.1 = y.1 ∧ x.2 ≤ y.2) := fun z => c (decide_eq_true z)
      refine List.pairwise_cons.mpr ⟨fun z hz => ?_, insL_lex x ys h'.2⟩
      rcases List.mem_cons.mp ((insL_perm x ys).mem_iff.mp hz) with rfl | hz
      · omega
      · exact h'.1 z hz
def srtL : List (Int × Int) → List (Int × Int)
  | [] => []
  | x :: xs => insL x (srtL xs)
theorem srtL_perm : ∀ xs, (srtL xs).Perm xs
  | [] => .refl _
  | x :: xs => (insL_perm x (srtL xs)).trans ((srtL_perm xs).cons x)
theorem srtL_lex : ∀ xs, Lex (srtL xs)
  | [] => .nil
  | x :: xs => insL_lex x _ (srtL_lex xs)
theorem insK_nodup {ks : List (Int × Int)} {k : Int × Int} (h : ks.Nodup) : (insK ks k).Nodup := by
  unfold insK
  split
  · exact h
  · rename_i c
    refine List.nodup_append.mpr ⟨h, by simp, fun a ha b hb e => ?_⟩
    subst e
    rw [List.mem_singleton.mp hb] at ha
    exact c ha
theorem insK_len (ks : List (Int × Int)) (k : Int × Int) : (insK ks k).length ≤ ks.length + 1 := by
  unfold insK
  split
  · omega
  · simp
theorem insK_mem {ks : List (Int × Int)} {k q : Int × Int} (h : q ∈ insK ks k) : q ∈ ks ∨ q = k := by
  unfold insK at h
  split at h
  · exact .inl h
  · rcases List.mem_append.mp h with h | h
    · exact .inl h
    · exact .inr (List.mem_singleton.mp h)
/-! ### rules with the written part named (within a comprehension's block) -/
section
variable {X : Cx} {K : PySem.W.Frag} (hK : X.K = K)
include hK
theorem ix_listK : IxR X (rIxL K) := by subst hK; exact ix_list
theorem ix_tupK : IxR X (rIxT K) := by subst hK; exact ix_tup
theorem sl_listK : SlR X (rSlL K) := by subst hK; exact sl_list
theorem call_len_seqK : CallR X (.builtin "len") (fun xs H Q => ∃ p ys, xs = [V.ref p] ∧ (SqL K H p ys ∨ SqT K H p ys) ∧ Q (.int ys.length) H) := by subst hK; exact call_len_seq
theorem call_isiKK : CallR X (.builtin "isinstance") (rIsi K) := by subst hK; exact call_isi
theorem op_eqDK (hu : X.A.units + 64 < cLine) : OpR X (compareOp .Eq) (rEqD K) := by subst hK; exact op_eqD hu
theorem op_neDK (hu : X.A.units + 64 < cLine) : OpR X (compareOp .NotEq) (rNeD K) := by subst hK; exact op_neD hu
theorem op_catRK : OpR X (binaryOp .Add) (rCatR K) := by subst hK; exact op_catR
theorem op_leTK (hu : X.A.units < cLine) : OpR X (compareOp .LtE) (rLeT K) := by subst hK; exact op_leT hu
theorem pi_listK {tg l : Expr} {tl : TE} (hl : PE X l tl) : PI X tg l (iList K tl) := by subst hK; exact pi_list hl
theorem pg_tupK {pos : Pos} {es : List Expr} {k : Nat} {t : TGs} {n : Nat} (hc : X.calm = true) (h : PGs X es t)
    (hn : (assignEach es X.env).length = n := by rfl) (hst : (assignEach es X.env).findIdx? (·.1) = none := by rfl) : PG X (.Tuple es k pos) (gTup K n t) := by subst hK; exact pg_tup hc h hn hst
end
end PL
namespace PL
open PySem PySem.Spec PyProof.Rows L2
/-! tuples walked, joined, looked through; a list unpacked; set(tuple) and its sorted list -/
end PL
namespace PL
open PySem PySem.Spec PyProof.Rows L2
section
variable {X : Cx} {a b c d : Expr} {pos : Pos} {ta tb tc td : TE}
/-- a op1 b op2 c op3 d -/
def tCh3 (r r' r'' : R2) (ta tb tc td : TE) : TE := fun σ H Q => ta σ H fun x H1 => tb σ H1 fun y H2 => r x y H2 fun z H3 => ∃ k, z = .bl k ∧
  (if k = true then tc σ H3 fun w H4 => r' y w H4 fun z' H5 => ∃ k', z' = .bl k' ∧ (if k' = true then td σ H5 fun u H6 => r'' w u H6 Q else Q (.bl false) H5) else Q (.bl false) H3)
theorem pe_ch3 {op op' op'' : CmpOp} {r r' r'' : R2} (ho : OpR X (compareOp op) r) (ho' : OpR X (compareOp op') r') (ho'' : OpR X (compareOp op'') r'') (ha : PE X a ta) (hb : PE X b tb) (hc : PE X c tc) (hd : PE X d td)
    (hm : lastMarks [op, op', op''] [b, c, d] = false := by with_unfolding_all rfl) : PE X (.Compare a [op, op', op''] [b, c, d] pos) (tCh3 r r' r'' ta tb tc td) := by
  refine ⟨fun pins s σ H Q I h => ?_⟩
  refine Compare_chain (thn (ha.run pins s σ H _ I h) fun v1 s1 ⟨x, H1, I1, r1, q1⟩ => chain_link (thn (hb.run pins s1 σ H1 _ I1 q1) fun v2 s2 ⟨y, H2, I2, r2, q2⟩ =>
    thn (ho pins s2 σ H2 x y v1 v2 _ I2 r1 r2 q2) fun v3 s3 ⟨z, H3, I3, r3, k, e, q3⟩ => ?_)) hm
  subst e
  cases r3
  refine wpAny_truthy_bool ?_
  cases k with
  | false => exact ite_ff ⟨.bl false, H3, I3, rfl, q3⟩
  | true =>
    refine ite_tt (chain_link (thn (hc.run pins s3 σ H3 _ I3 q3) fun v4 s4 ⟨z4, H4, I4, r4, q4⟩ =>
      thn (ho' pins s4 σ H4 y z4 v2 v4 _ I4 r2 r4 q4) fun v5 s5 ⟨z5, H5, I5, r5, k5, e5, q5⟩ => ?_))
    subst e5
    cases r5
    refine wpAny_truthy_bool ?_
    cases k5 with
    | false => exact ite_ff ⟨.bl false, H5, I5, rfl, q5⟩
    | true => exact ite_tt (chain_last (thn (hd.run pins s5 σ H5 _ I5 q5) fun v6 s6 ⟨z6, H6, I6, r6, q6⟩ => ho'' pins s6 σ H6 z4 z6 v4 v6 Q I6 r4 r6 q6))
end
variable [kf : KF]
end PL
/-! MR: owned trees over the heap; slots and what is held ahead of them in one list of apart footprints -/
namespace MR
open PySem L2 PL
inductive Kd where
  | lst | tup | dK (ks : List Key) | dT (ks : List (List Key))
def shape : Kd → List V → HO
  | .lst, vs => .lst vs
  | .tup, vs => .tup vs
  | .dK ks, vs => .dK (ks.zip vs)
  | .dT ks, vs => .dT (ks.zip vs)
def Kd.fits : Kd → Nat → Prop
  | .lst, _ => True
  | .tup, _ => True
  | .dK ks, n => ks.length = n
  | .dT ks, n => ks.length = n
def Kd.isTup : Kd → Bool
  | .tup => true
  | _ => false
/-- what is raised: the class's name, its fields, flat -/
structure Xc where
  cls : Str
  fs : List (Str × D)
/-- what a slot holds: nothing known, frozen data, a node of one's own -/
inductive OT where
  | no
  | d (x : D)
  | nd (k : Kd) (ts : List OT)
  /-- a list that stays as it is, its items one's own -/
  | fl (ts : List OT)
  /-- a caught exception -/
  | ex (x : Xc)
def flatDs : List OT → Option (List D)
  | [] => some []
  | .d x :: ts => if flat x then (flatDs ts).map fun xs => x :: xs else Option.none
  | _ => Option.none
mutual
def OT.toD : OT → Option D
  | .no => Option.none
  | .d x => some x
  | .nd .lst ts => (OT.toDs ts).map .list
  | .nd .tup ts => (OT.toDs ts).map .tuple
  | .fl ts => (OT.toDs ts).map .list
  | .ex _ => Option.none
  | .nd (.dK ks) ts => if ks.length = ts.length then (flatDs ts).bind fun xs => if ((ks.map keyD).zip xs) = [] then Option.none else some (.dict ((ks.map keyD).zip xs)) else Option.none
  | .nd (.dT ks) ts => if ks.length = ts.length then (flatDs ts).map fun xs => .dict ((ks.map keyTD).zip xs) else Option.none
def OT.toDs : List OT → Option (List D)
  | [] => some []
  | t :: ts => match OT.toD t, OT.toDs ts with
    | some x, some xs => some (x :: xs)
    | _, _ => Option.none
end
theorem shape_tup {k : Kd} {vs : List V} (h : k.isTup = false) : ∀ xs, shape k vs ≠ .tup xs := by
  intro xs e
  cases k <;> simp [shape, Kd.isTup] at e h
/-! ### what changes: only at A -/
structure Xa (A : List Addr) (S H S' H' : Hp) : Prop where
  hh : ∀ b o, b ∉ A → H b = some o → H' b = some o
  dm : ∀ b, H' b = none → H b = none
  tp : ∀ b xs, H b = some (.tup xs) → H' b = some (.tup xs)
  ss : Same S S'
  sh : Same S' H'
  nw : ∀ b o, S' b = some o → S b = some o ∨ b ∈ A ∨ ∀ u, H b = some u → ∃ xs, u = .tup xs
section
variable {S H S' H' S1 H1 S2 H2 S0 H0 : Hp} {A A0 : List Addr}
theorem Xa.of (x : Xt S H S' H') : Xa A S H S' H' :=
  ⟨fun b o _ e => x.hh b o e, fun b e => x.hh.free e, fun b xs e => x.hh b _ e, x.ss, x.sh, fun b o e => by
    rcases x.nw b o e with q | q
    · exact .inl q
    · exact .inr (.inr q)⟩
theorem Xa.refl (h : Same S H) : Xa A S H S H := .of (.refl h)
theorem Xa.trans (x : Xa A S H S1 H1) (y : Xa A S1 H1 S2 H2) : Xa A S H S2 H2 :=
  ⟨fun b o n e => y.hh b o n (x.hh b o n e), fun b e => x.dm b (y.dm b e), fun b xs e => y.tp b xs (x.tp b xs e), x.ss.trans y.ss, y.sh, fun b o e => by
    rcases y.nw b o e with q | q | q
    · exact x.nw b o q
    · exact .inr (.inl q)
    · by_cases hb : b ∈ A
      · exact .inr (.inl hb)
      · exact .inr (.inr fun u hu => q u (x.hh b u hb hu))⟩
theorem Xa.xt (x : Xa [] S H S' H') : Xt S H S' H' :=
  ⟨fun b o e => x.hh b o (by simp) e, x.ss, x.sh, fun b o e => by
    rcases x.nw b o e with q | q | q
    · exact .inl q
    · cases q
    · exact .inr q⟩
/-- all tuples, and A, become stable -/
noncomputable def frz (S H : Hp) (A : List Addr) : Hp := by
  classical exact fun b => if b ∈ A ∨ ∃ xs, H b = some (.tup xs) then H b else S b
theorem frz_in {b : Addr} (h : b ∈ A) : frz S H A b = H b := by unfold frz; exact if_pos (.inl h)
theorem frz_tup {b : Addr} {xs : List V} (h : H b = some (.tup xs)) : frz S H A b = some (.tup xs) := by unfold frz; exact (if_pos (.inr ⟨xs, h⟩)).trans h
theorem frz_out {b : Addr} (h : b ∉ A) (ht : ∀ xs, H b ≠ some (.tup xs)) : frz S H A b = S b := by
  unfold frz; exact if_neg (fun z => by rcases z with z | ⟨xs, z⟩; exact h z; exact ht xs z)
theorem frz_same (sh : Same S H) : Same S (frz S H A) := fun b o e => by
  by_cases h : b ∈ A
  · rw [frz_in h]; exact sh b o e
  · by_cases ht : ∃ xs, H b = some (.tup xs)
    · obtain ⟨xs, ht⟩ := ht
      rw [frz_tup ht, ← ht]; exact sh b o e
    · rw [frz_out h fun xs z => ht ⟨xs, z⟩]; exact e
theorem frz_sub (sh : Same S H) : Same (frz S H A) H := fun b o e => by
  by_cases h : b ∈ A
  · rw [frz_in h] at e; exact e
  · by_cases ht : ∃ xs, H b = some (.tup xs)
    · obtain ⟨xs, ht⟩ := ht
      rw [frz_tup ht] at e; rw [ht]; exact e
    · rw [frz_out h fun xs z => ht ⟨xs, z⟩] at e; exact sh b o e
theorem frz_nw {b : Addr} {o : HO} (e : frz S H A b = some o) : S b = some o ∨ b ∈ A ∨ ∃ xs, H b = some (.tup xs) := by
  by_cases h : b ∈ A
  · exact .inr (.inl h)
  · by_cases ht : ∃ xs, H b = some (.tup xs)
    · exact .inr (.inr ht)
    · rw [frz_out h fun xs z => ht ⟨xs, z⟩] at e; exact .inl e
end
/-- the class that the text calls so -/
def clsOf (K : PySem.W.Frag) (x : Str) : Option Addr := match PySem.W.nsIn K mainGlobals x with
  | some (some (.ref C)) => some C
  | _ => Option.none
/-- at a: an exception of the class at C -/
def exHO (a C : Addr) (d : Option Addr) : HO := .ext fun h => ∃ o vs, h.get? a = some o ∧ o.cls = .ref C ∧ o.dict = d ∧ o.data = .fields vs
/-- its fields -/
def FsOk (S : Hp) (d : Option Addr) (fs : List (Str × D)) : Prop := (fs = [] ∧ d = none) ∨ (fs ≠ [] ∧ ∃ dd vfs, d = some dd ∧ S dd = some (.xd vfs) ∧ vfs.map (fun p => (p.1, vD p.2)) = fs.map fun p => (p.1, some p.2))
theorem FsOk.mono {S S' : Hp} {d : Option Addr} {fs : List (Str × D)} (h : FsOk S d fs) (ss : Same S S') : FsOk S' d fs := by
  rcases h with h | ⟨h1, dd, vfs, h2, h3, h4⟩
  · exact .inl h
  · exact .inr ⟨h1, dd, vfs, h2, ss _ _ h3, h4⟩
variable [kf : KF]
mutual
inductive OOk (S H : Hp) : V → OT → List Addr → Prop
  | no {v : V} : OOk S H v .no []
  | d {v : V} {x : D} : Rp S v x → OOk S H v (.d x) []
  | tup {a : Addr} {vs : List V} {ts : List OT} {B : List Addr} : H a = some (.tup vs) → OAll S H vs ts B → OOk S H (.ref a) (.nd .tup ts) B
  | nd {a : Addr} {k : Kd} {vs : List V} {ts : List OT} {B : List Addr} : k.isTup = false → k.fits ts.length → S a = none → H a = some (shape k vs) → OAll S H vs ts B → OOk S H (.ref a) (.nd k ts) (a :: B)
  | fl {a : Addr} {vs : List V} {ts : List OT} {B : List Addr} : S a = some (.lst vs) → OAll S H vs ts B → OOk S H (.ref a) (.fl ts) B
  | ex {a C : Addr} {d : Option Addr} {x : Xc} : clsOf kf.K x.cls = some C → S a = some (exHO a C d) → FsOk S d x.fs → OOk S H (.ref a) (.ex x) []
inductive OAll (S H : Hp) : List V → List OT → List Addr → Prop
  | nil : OAll S H [] [] []
  | cons {v : V} {vs : List V} {t : OT} {ts : List OT} {A B : List Addr} : OOk S H v t A → OAll S H vs ts B → OAll S H (v :: vs) (t :: ts) (A ++ B)
end
section
variable {S H S' H' S0 H0 S1 H1 : Hp}
theorem OAll.len {vs : List V} : ∀ {ts : List OT} {A : List Addr}, OAll S H vs ts A → vs.length = ts.length := by
  intro ts
  induction ts generalizing vs with
  | nil => intro A h; cases h; rfl
  | cons t ts ih => intro A h; cases h with | cons _ h => rw [List.length_cons, List.length_cons, ih h]
mutual
theorem ook_keep (ss : Same S S') (tp : ∀ b xs, H b = some (.tup xs) → H' b = some (.tup xs)) : ∀ (t : OT) (v : V) (A : List Addr), OOk S H v t A → (∀ a ∈ A, S' a = none ∧ H' a = H a) → OOk S' H' v t A
  | .no, _, _, h, _ => by cases h; exact .no
  | .d x, _, _, h, _ => by cases h with | d h => exact .d (dp_mono ss _ _ h)
  | .nd k ts, _, _, h, hk => by
    cases h with
    | tup h1 h2 => exact .tup (tp _ _ h1) (oall_keep ss tp ts _ _ h2 hk)
    | nd h0 h1 h2 h3 h4 =>
      obtain ⟨e1, e2⟩ := hk _ List.mem_cons_self
      exact .nd h0 h1 e1 (e2.trans h3) (oall_keep ss tp ts _ _ h4 fun a ha => hk a (List.mem_cons_of_mem _ ha))
  | .fl ts, _, _, h, hk => by cases h with | fl h1 h2 => exact .fl (ss _ _ h1) (oall_keep ss tp ts _ _ h2 hk)
  | .ex x, _, _, h, _ => by cases h with | ex h1 h2 h3 => exact .ex h1 (ss _ _ h2) (h3.mono ss)
theorem oall_keep (ss : Same S S') (tp : ∀ b xs, H b = some (.tup xs) → H' b = some (.tup xs)) : ∀ (ts : List OT) (vs : List V) (A : List Addr), OAll S H vs ts A → (∀ a ∈ A, S' a = none ∧ H' a = H a) → OAll S' H' vs ts A
  | [], _, _, h, _ => by cases h; exact .nil
  | t :: ts, _, _, h, hk => by
    cases h with
    | cons h1 h2 => exact .cons (ook_keep ss tp t _ _ h1 fun a ha => hk a (List.mem_append_left _ ha)) (oall_keep ss tp ts _ _ h2 fun a ha => hk a (List.mem_append_right _ ha))
end
mutual
theorem ook_at : ∀ (t : OT) (v : V) (A : List Addr), OOk S H v t A → ∀ a ∈ A, S a = none ∧ ∃ u, H a = some u ∧ ∀ xs, u ≠ .tup xs
  | .no, _, _, h => by cases h; intro a ha; cases ha
  | .d x, _, _, h => by cases h with | d h => intro a ha; cases ha
  | .nd k ts, _, _, h => by
    cases h with
    | tup h1 h2 => exact oall_at ts _ _ h2
    | nd h0 h1 h2 h3 h4 =>
      intro a ha
      rcases List.mem_cons.mp ha with rfl | ha
      · exact ⟨h2, _, h3, shape_tup h0⟩
      · exact oall_at ts _ _ h4 a ha
  | .fl ts, _, _, h => by cases h with | fl h1 h2 => exact oall_at ts _ _ h2
  | .ex x, _, _, h => by cases h with | ex _ _ _ => intro a ha; cases ha
theorem oall_at : ∀ (ts : List OT) (vs : List V) (A : List Addr), OAll S H vs ts A → ∀ a ∈ A, S a = none ∧ ∃ u, H a = some u ∧ ∀ xs, u ≠ .tup xs
  | [], _, _, h => by cases h; intro a ha; cases ha
  | t :: ts, _, _, h => by
    cases h with
    | cons h1 h2 =>
      intro a ha
      rcases List.mem_append.mp ha with ha | ha
      · exact ook_at t _ _ h1 a ha
      · exact oall_at ts _ _ h2 a ha
end
theorem vDf {v : V} {x : D} (f : flat x = true) (h : Rp S v x) : vD v = some x := by
  cases h with
  | non => rfl
  | bl b => rfl
  | int i => rfl
  | str x => rfl
  | lst _ _ => cases f
  | tup _ _ => cases f
  | dcT _ _ => cases f
  | dcK _ _ _ => cases f
theorem dct_flat {κ : Type} (f : κ → D) : ∀ {ks : List κ} {ts : List OT} {vs : List V} {A : List Addr} {xs : List D}, ks.length = ts.length → OAll S H vs ts A → flatDs ts = some xs → dctD f (ks.zip vs) = some ((ks.map f).zip xs)
  | [], [], _, _, xs, _, h, e => by cases h; simp [flatDs] at e; subst e; rfl
  | k :: ks, .d x :: ts, _, _, xs, hl, h, e => by
    cases h with
    | cons a b =>
      simp only [flatDs] at e
      split at e
      · rename_i hf
        simp only [Option.map_eq_some_iff] at e
        obtain ⟨ys, e, rfl⟩ := e
        cases a with
        | d a => simp [dctD, vDf hf a, dct_flat f (by simpa using hl) b e]
      · cases e
  | k :: ks, .no :: ts, _, _, xs, _, h, e => by simp [flatDs] at e
  | k :: ks, .nd _ _ :: ts, _, _, xs, _, h, e => by simp [flatDs] at e
  | k :: ks, .fl _ :: ts, _, _, xs, _, h, e => by simp [flatDs] at e
  | k :: ks, .ex _ :: ts, _, _, xs, _, h, e => by simp [flatDs] at e
mutual
/-- read as data -/
theorem ook_rp (sh : Same S H) : ∀ (t : OT) (v : V) (A : List Addr) (x : D), OOk S H v t A → t.toD = some x → Rp H v x
  | .no, _, _, _, h, e => by simp [OT.toD] at e
  | .d y, _, _, x, h, e => by
    cases h with
    | d h => simp only [OT.toD, Option.some.injEq] at e; subst e; exact dp_mono sh _ _ h
  | .nd k ts, _, _, x, h, e => by
    cases h with
    | tup h1 h2 =>
      simp only [OT.toD, Option.map_eq_some_iff] at e
      obtain ⟨xs, e, rfl⟩ := e
      exact .tup h1 (oall_rp sh ts _ _ xs h2 e)
    | nd h0 h1 h2 h3 h4 =>
      cases k with
      | lst =>
        simp only [OT.toD, Option.map_eq_some_iff] at e
        obtain ⟨xs, e, rfl⟩ := e
        exact .lst (SqL.of h3) (oall_rp sh ts _ _ xs h4 e)
      | tup => simp [Kd.isTup] at h0
      | dK ks =>
        simp only [OT.toD] at e
        split at e
        · rename_i hl
          simp only [Option.bind_eq_some_iff] at e
          obtain ⟨xs, e, e2⟩ := e
          split at e2
          · cases e2
          · rename_i ne
            cases e2
            exact .dcK h3 ne (dct_flat keyD hl h4 e)
        · cases e
      | dT ks =>
        simp only [OT.toD] at e
        split at e
        · rename_i hl
          simp only [Option.map_eq_some_iff] at e
          obtain ⟨xs, e, rfl⟩ := e
          exact .dcT h3 (dct_flat keyTD hl h4 e)
        · cases e
  | .fl ts, _, _, x, h, e => by
    cases h with
    | fl h1 h2 =>
      simp only [OT.toD, Option.map_eq_some_iff] at e
      obtain ⟨xs, e, rfl⟩ := e
      exact .lst (SqL.of (sh _ _ h1)) (oall_rp sh ts _ _ xs h2 e)
  | .ex x, _, _, _, h, e => by simp [OT.toD] at e
theorem oall_rp (sh : Same S H) : ∀ (ts : List OT) (vs : List V) (A : List Addr) (xs : List D), OAll S H vs ts A → OT.toDs ts = some xs → RpAll H vs xs
  | [], _, _, _, h, e => by cases h; simp only [OT.toDs, Option.some.injEq] at e; subst e; exact .nil
  | t :: ts, _, _, xs, h, e => by
    cases h with
    | cons h1 h2 =>
      cases e1 : t.toD with
      | none => simp [OT.toDs, e1] at e
      | some y =>
        cases e2 : OT.toDs ts with
        | none => simp [OT.toDs, e1, e2] at e
        | some ys =>
          simp only [OT.toDs, e1, e2, Option.some.injEq] at e
          subst e
          exact .cons (ook_rp sh t _ _ y h1 e1) (oall_rp sh ts _ _ ys h2 e2)
end
mutual
/-- frozen -/
theorem ook_frz (sh : Same S H) {C : List Addr} : ∀ (t : OT) (v : V) (A : List Addr) (x : D), OOk S H v t A → (∀ a ∈ A, a ∈ C) → t.toD = some x → Rp (frz S H C) v x
  | .no, _, _, _, h, _, e => by simp [OT.toD] at e
  | .d y, _, _, x, h, _, e => by
    cases h with
    | d h => simp only [OT.toD, Option.some.injEq] at e; subst e; exact dp_mono (frz_same sh) _ _ h
  | .nd k ts, _, _, x, h, hc, e => by
    cases h with
    | tup h1 h2 =>
      simp only [OT.toD, Option.map_eq_some_iff] at e
      obtain ⟨xs, e, rfl⟩ := e
      exact .tup (frz_tup h1) (oall_frz sh ts _ _ xs h2 hc e)
    | nd h0 h1 h2 h3 h4 =>
      cases k with
      | lst =>
        simp only [OT.toD, Option.map_eq_some_iff] at e
        obtain ⟨xs, e, rfl⟩ := e
        exact .lst (SqL.of ((frz_in (hc _ List.mem_cons_self)).trans h3)) (oall_frz sh ts _ _ xs h4 (fun a ha => hc a (List.mem_cons_of_mem _ ha)) e)
      | tup => simp [Kd.isTup] at h0
      | dK ks =>
        simp only [OT.toD] at e
        split at e
        · rename_i hl
          simp only [Option.bind_eq_some_iff] at e
          obtain ⟨xs, e, e2⟩ := e
          split at e2
          · cases e2
          · rename_i ne
            cases e2
            exact .dcK ((frz_in (hc _ List.mem_cons_self)).trans h3) ne (dct_flat keyD hl h4 e)
        · cases e
      | dT ks =>
        simp only [OT.toD] at e
        split at e
        · rename_i hl
          simp only [Option.map_eq_some_iff] at e
          obtain ⟨xs, e, rfl⟩ := e
          exact .dcT ((frz_in (hc _ List.mem_cons_self)).trans h3) (dct_flat keyTD hl h4 e)
        · cases e
  | .fl ts, _, _, x, h, hc, e => by
    cases h with
    | fl h1 h2 =>
      simp only [OT.toD, Option.map_eq_some_iff] at e
      obtain ⟨xs, e, rfl⟩ := e
      exact .lst (SqL.of (frz_same sh _ _ h1)) (oall_frz sh ts _ _ xs h2 hc e)
  | .ex x, _, _, _, h, _, e => by simp [OT.toD] at e
theorem oall_frz (sh : Same S H) {C : List Addr} : ∀ (ts : List OT) (vs : List V) (A : List Addr) (xs : List D), OAll S H vs ts A → (∀ a ∈ A, a ∈ C) → OT.toDs ts = some xs → RpAll (frz S H C) vs xs
  | [], _, _, _, h, _, e => by cases h; simp only [OT.toDs, Option.some.injEq] at e; subst e; exact .nil
  | t :: ts, _, _, xs, h, hc, e => by
    cases h with
    | cons h1 h2 =>
      cases e1 : t.toD with
      | none => simp [OT.toDs, e1] at e
      | some y =>
        cases e2 : OT.toDs ts with
        | none => simp [OT.toDs, e1, e2] at e
        | some ys =>
          simp only [OT.toDs, e1, e2, Option.some.injEq] at e
          subst e
          exact .cons (ook_frz sh t _ _ y h1 (fun a ha => hc a (List.mem_append_left _ ha)) e1) (oall_frz sh ts _ _ ys h2 (fun a ha => hc a (List.mem_append_right _ ha)) e2)
end
/-- no list within -/
def tfl : D → Bool
  | .none => true
  | .bool _ => true
  | .int _ => true
  | .str _ => true
  | .tuple xs => xs.attach.all fun ⟨x, _⟩ => tfl x
  | .list _ => false
  | .dict _ => false
theorem tfl_tup {xs : List D} (h : tfl (.tuple xs) = true) : ∀ x ∈ xs, tfl x = true := by
  unfold tfl at h
  rw [List.all_eq_true] at h
  exact fun x hx => h ⟨x, hx⟩ (List.mem_attach _ _)
mutual
theorem rp_tfl (C : List Addr) : ∀ (x : D) (v : V), tfl x = true → Rp H v x → Rp (frz S H C) v x
  | .none, _, _, h => by cases h; exact .non
  | .bool b, _, _, h => by cases h; exact .bl b
  | .int i, _, _, h => by cases h; exact .int i
  | .str x, _, _, h => by cases h; exact .str x
  | .list ds, _, f, _ => by simp [tfl] at f
  | .tuple ds, _, f, h => by
    cases h with
    | tup hs ha => exact .tup (frz_tup hs) (rpa_tfl C ds _ (tfl_tup f) ha)
  | .dict _, _, f, _ => by simp [tfl] at f
theorem rpa_tfl (C : List Addr) : ∀ (xs : List D) (vs : List V), (∀ x ∈ xs, tfl x = true) → RpAll H vs xs → RpAll (frz S H C) vs xs
  | [], _, _, h => by cases h; exact .nil
  | x :: xs, _, f, h => by
    cases h with
    | cons a b => exact .cons (rp_tfl C x _ (f x List.mem_cons_self) a) (rpa_tfl C xs _ (fun y hy => f y (List.mem_cons_of_mem _ hy)) b)
end
theorem xt_frz (sh : Same S H) : Xt S H (frz S H []) H :=
  ⟨Same.refl H, frz_same sh, frz_sub sh, fun b o e => by
    rcases frz_nw e with z | z | ⟨xs, z⟩
    · exact .inl z
    · cases z
    · exact .inr fun u hu => ⟨xs, by rw [z] at hu; exact (Option.some.inj hu).symm⟩⟩
theorem oall_of_rp {vs : List V} {ds : List D} (h : RpAll S vs ds) : OAll S H vs (ds.map .d) [] := by
  induction ds generalizing vs with
  | nil => cases h; exact .nil
  | cons x ds ih => cases h with | cons a t => exact (OAll.cons (.d a) (ih t) : OAll S H _ _ ([] ++ []))
/-! ### slots -/
inductive OSl (S H : Hp) : Option V → OT → List Addr → Prop
  | no {v : Option V} : OSl S H v .no []
  | is {v : V} {t : OT} {A : List Addr} : OOk S H v t A → OSl S H (some v) t A
theorem OSl.keep {v : Option V} {t : OT} {A : List Addr} (h : OSl S H v t A) (ss : Same S S') (tp : ∀ b xs, H b = some (.tup xs) → H' b = some (.tup xs)) (k : ∀ a ∈ A, S' a = none ∧ H' a = H a) : OSl S' H' v t A := by
  cases h with
  | no => exact .no
  | is h => exact .is (ook_keep ss tp _ _ _ h k)
theorem OSl.at {v : Option V} {t : OT} {A : List Addr} (h : OSl S H v t A) : ∀ a ∈ A, S a = none ∧ ∃ u, H a = some u ∧ ∀ xs, u ≠ .tup xs := by
  cases h with
  | no => intro a ha; cases ha
  | is h => exact ook_at _ _ _ h
inductive EOk (S H : Hp) : List (Option V) → List OT → List Addr → Prop
  | nil : EOk S H [] [] []
  | cons {v : Option V} {s : OT} {A : List Addr} {σ : List (Option V)} {ρ : List OT} {B : List Addr} : OSl S H v s A → EOk S H σ ρ B → EOk S H (v :: σ) (s :: ρ) (A ++ B)
theorem EOk.keep {σ : List (Option V)} {ρ : List OT} {A : List Addr} (h : EOk S H σ ρ A) (ss : Same S S') (tp : ∀ b xs, H b = some (.tup xs) → H' b = some (.tup xs)) (k : ∀ a ∈ A, S' a = none ∧ H' a = H a) : EOk S' H' σ ρ A := by
  induction h with
  | nil => exact .nil
  | cons h _ ih => exact .cons (h.keep ss tp fun a ha => k a (List.mem_append_left _ ha)) (ih fun a ha => k a (List.mem_append_right _ ha))
theorem EOk.at {σ : List (Option V)} {ρ : List OT} {A : List Addr} (h : EOk S H σ ρ A) : ∀ a ∈ A, S a = none ∧ ∃ u, H a = some u ∧ ∀ xs, u ≠ .tup xs := by
  induction h with
  | nil => intro a ha; cases ha
  | cons h _ ih =>
    intro a ha
    rcases List.mem_append.mp ha with ha | ha
    · exact h.at a ha
    · exact ih a ha
theorem EOk.ext {σ : List (Option V)} {ρ : List OT} {A : List Addr} (h : EOk S H σ ρ A) (x : Xt S H S' H') : EOk S' H' σ ρ A :=
  h.keep x.ss (fun b xs e => x.hh b _ e) fun a ha => by
    obtain ⟨h1, u, h2, h3⟩ := h.at a ha
    exact ⟨x.out h1 h2 h3, by rw [h2]; exact x.hh a u h2⟩
theorem EOk.len {σ : List (Option V)} {ρ : List OT} {A : List Addr} (h : EOk S H σ ρ A) : σ.length = ρ.length := by
  induction h with
  | nil => rfl
  | cons _ _ ih => rw [List.length_cons, List.length_cons, ih]
/-- one slot taken out of the rest; with anything in its place the rest stays -/
theorem EOk.pick {σ : List (Option V)} {ρ : List OT} {B : List Addr} (h : EOk S H σ ρ B) (nd : B.Nodup) : ∀ {i : Nat} {s : OT}, ρ[i]? = some s → ∃ v A, σ[i]? = some v ∧ OSl S H v s A ∧ A.Nodup ∧ (∀ a ∈ A, a ∈ B) ∧
    ∀ {S' H' : Hp} {v' : Option V} {s' : OT} {A' : List Addr}, Same S S' → (∀ b xs, H b = some (.tup xs) → H' b = some (.tup xs)) → (∀ a ∈ B, a ∉ A → S' a = none ∧ H' a = H a) → OSl S' H' v' s' A' → A'.Nodup → (∀ a ∈ A', a ∈ A ∨ a ∉ B) →
      ∃ B', EOk S' H' (σ.set i v') (ρ.set i s') B' ∧ B'.Nodup ∧ ∀ a ∈ B', a ∈ A' ∨ (a ∈ B ∧ a ∉ A) := by
  induction h with
  | nil => intro i s e; simp at e
  | @cons v0 s0 A0 σ ρ B h0 ht ih =>
    have nd1 : A0.Nodup := (List.nodup_append.mp nd).1
    have nd2 : B.Nodup := (List.nodup_append.mp nd).2.1
    have dj : ∀ a ∈ A0, a ∉ B := fun a ha hb => (List.nodup_append.mp nd).2.2 a ha a hb rfl
    intro i s e
    cases i with
    | zero =>
      have e' : s0 = s := by simpa using e
      subst e'
      refine ⟨v0, A0, rfl, h0, nd1, fun a ha => List.mem_append_left _ ha, fun {S' H' v' s' A'} ss tp k h' n' m' => ?_⟩
      refine ⟨A' ++ B, .cons h' (ht.keep ss tp fun a ha => k a (List.mem_append_right _ ha) fun z => dj a z ha), ?_, fun a ha => ?_⟩
      · refine List.nodup_append.mpr ⟨n', nd2, fun a ha b hb e => ?_⟩
        subst e
        rcases m' a ha with z | z
        · exact dj a z hb
        · exact z (List.mem_append_right _ hb)
      · rcases List.mem_append.mp ha with z | z
        · exact .inl z
        · exact .inr ⟨List.mem_append_right _ z, fun y => dj a y z⟩
    | succ i =>
      obtain ⟨v, A, e1, e2, e3, e4, e5⟩ := ih nd2 (i := i) (s := s) (by simpa using e)
      refine ⟨v, A, by simpa using e1, e2, e3, fun a ha => List.mem_append_right _ (e4 a ha), fun {S' H' v' s' A'} ss tp k h' n' m' => ?_⟩
      obtain ⟨B', q1, q2, q3⟩ := e5 (v' := v') ss tp (fun a ha na => k a (List.mem_append_right _ ha) na) h' n' (fun a ha => by
        rcases m' a ha with z | z
        · exact .inl z
        · exact .inr fun hb => z (List.mem_append_right _ hb))
      refine ⟨A0 ++ B', .cons (h0.keep ss tp fun a ha => k a (List.mem_append_left _ ha) fun z => dj a ha (e4 a z)) q1, ?_, fun a ha => ?_⟩
      · refine List.nodup_append.mpr ⟨nd1, q2, fun a ha b hb e => ?_⟩
        subst e
        rcases q3 a hb with z | z
        · rcases m' a z with y | y
          · exact dj a ha (e4 a y)
          · exact y (List.mem_append_left _ ha)
        · exact dj a ha z.1
      · rcases List.mem_append.mp ha with z | z
        · exact .inr ⟨List.mem_append_left _ z, fun y => dj a z (e4 a y)⟩
        · rcases q3 a z with y | y
          · exact .inl y
          · exact .inr ⟨List.mem_append_right _ y.1, y.2⟩
theorem set_same {α : Type} {xs : List α} {i : Nat} {v : α} (h : xs[i]? = some v) : xs.set i v = xs := set_self h
structure Ok (S0 H0 : Hp) (A0 : List Addr) (S H : Hp) (σ : List (Option V)) (ρ : List OT) : Prop where
  xt : Xa A0 S0 H0 S H
  env : ∃ A, EOk S H σ ρ A ∧ A.Nodup ∧ ∀ a ∈ A, a ∈ A0 ∨ H0 a = none
variable {A0 : List Addr} {σ : List (Option V)} {ρ : List OT}
theorem Ok.sh (o : Ok S0 H0 A0 S H σ ρ) : Same S H := o.xt.sh
theorem Ok.ext (o : Ok S0 H0 A0 S H σ ρ) (x : Xt S H S' H') : Ok S0 H0 A0 S' H' σ ρ := by
  obtain ⟨A, h1, h2, h3⟩ := o.env
  exact ⟨o.xt.trans (.of x), A, h1.ext x, h2, h3⟩
theorem Ok.len (o : Ok S0 H0 A0 S H σ ρ) : σ.length = ρ.length := let ⟨_, h, _⟩ := o.env; h.len
/-- something new is held on top -/
theorem Ok.push (o : Ok S0 H0 A0 S H σ ρ) (x : Xt S H S' H') {v : V} {t : OT} {A : List Addr} (h : OOk S' H' v t A) (nd : A.Nodup) (fr : ∀ a ∈ A, H a = none) : Ok S0 H0 A0 S' H' (some v :: σ) (t :: ρ) := by
  obtain ⟨B, h1, h2, h3⟩ := o.env
  refine ⟨o.xt.trans (.of x), A ++ B, .cons (.is h) (h1.ext x), List.nodup_append.mpr ⟨nd, h2, fun a ha b hb e => ?_⟩, fun a ha => ?_⟩
  · subst e
    obtain ⟨_, u, hu, _⟩ := h1.at a hb
    rw [fr a ha] at hu; cases hu
  · rcases List.mem_append.mp ha with z | z
    · exact .inr (o.xt.dm a (fr a z))
    · exact h3 a z
theorem Ok.pushD (o : Ok S0 H0 A0 S H σ ρ) {v : V} {x : D} (h : Rp S v x) : Ok S0 H0 A0 S H (some v :: σ) (.d x :: ρ) := o.push (.refl o.sh) (.d h) List.nodup_nil (fun a ha => by cases ha)
/-- what is on top is let go -/
theorem Ok.drop {v : Option V} {t : OT} (o : Ok S0 H0 A0 S H (v :: σ) (t :: ρ)) : Ok S0 H0 A0 S H σ ρ := by
  obtain ⟨A, h1, h2, h3⟩ := o.env
  cases h1 with
  | cons h ht => exact ⟨o.xt, _, ht, (List.nodup_append.mp h2).2.1, fun a ha => h3 a (List.mem_append_right _ ha)⟩
/-- the top put into slot i of what is below it -/
theorem Ok.store {v : Option V} {t : OT} (o : Ok S0 H0 A0 S H (v :: σ) (t :: ρ)) (i : Nat) : Ok S0 H0 A0 S H (σ.set i v) (ρ.set i t) := by
  obtain ⟨A, h1, h2, h3⟩ := o.env
  cases h1 with
  | @cons _ _ A1 _ _ B h ht =>
    have nd := List.nodup_append.mp h2
    by_cases hi : i < ρ.length
    · obtain ⟨v0, C, e1, e2, e3, e4, e5⟩ := ht.pick nd.2.1 (i := i) (s := ρ[i]) (by simp [hi])
      obtain ⟨B', q1, q2, q3⟩ := e5 (v' := v) (Same.refl S) (fun _ _ z => z) (fun a ha _ => ⟨(ht.at a ha).1, rfl⟩) h nd.1 (fun a ha => .inr fun hb => nd.2.2 a ha a hb rfl)
      refine ⟨o.xt, B', q1, q2, fun a ha => ?_⟩
      rcases q3 a ha with z | z
      · exact h3 a (List.mem_append_left _ z)
      · exact h3 a (List.mem_append_right _ z.1)
    · have l := ht.len
      rw [List.set_eq_of_length_le (by omega), List.set_eq_of_length_le (by omega)]
      exact o.drop
/-- a slot's reading -/
theorem Ok.get (o : Ok S0 H0 A0 S H σ ρ) {i : Nat} {t : OT} (h : ρ[i]? = some t) : ∃ v A, σ[i]? = some v ∧ OSl S H v t A := by
  obtain ⟨A, he, hn, _⟩ := o.env
  obtain ⟨v, A', e1, e2, _⟩ := he.pick hn h
  exact ⟨v, A', e1, e2⟩
/-- slot i frozen -/
theorem Ok.freeze (o : Ok S0 H0 A0 S H σ ρ) {i : Nat} {t : OT} {x : D} (h : ρ[i]? = some t) (e : t.toD = some x) : ∃ S', Same S S' ∧ Ok S0 H0 A0 S' H σ (ρ.set i (.d x)) := by
  obtain ⟨B, he, nd, fr⟩ := o.env
  obtain ⟨v, A, e1, e2, e3, e4, e5⟩ := he.pick nd h
  cases e2 with
  | no => simp [OT.toD] at e
  | @is v _ _ h2 =>
    obtain ⟨B', q1, q2, q3⟩ := e5 (S' := frz S H A) (H' := H) (v' := some v) (s' := .d x) (A' := []) (frz_same o.sh) (fun _ _ z => z) (fun a ha na => ⟨by
      obtain ⟨z1, u, z2, z3⟩ := he.at a ha
      rw [frz_out na fun xs z => by rw [z2] at z; exact z3 xs (Option.some.inj z)]
      exact z1, rfl⟩) (.is (.d (ook_frz o.sh _ _ _ _ h2 (fun _ z => z) e))) List.nodup_nil (fun a ha => by cases ha)
    rw [set_same e1] at q1
    refine ⟨frz S H A, frz_same o.sh, ⟨o.xt.hh, o.xt.dm, o.xt.tp, o.xt.ss.trans (frz_same o.sh), frz_sub o.sh, fun b u eb => ?_⟩, B', q1, q2, fun a ha => ?_⟩
    · rcases frz_nw eb with z | z | ⟨xs, z⟩
      · exact o.xt.nw b u z
      · rcases fr b (e4 b z) with y | y
        · exact .inr (.inl y)
        · exact .inr (.inr fun w hw => by rw [y] at hw; cases hw)
      · by_cases hb : b ∈ A0
        · exact .inr (.inl hb)
        · exact .inr (.inr fun w hw => by
            have := o.xt.hh b w hb hw
            rw [z] at this
            exact ⟨xs, (Option.some.inj this).symm⟩)
    · rcases q3 a ha with z | z
      · cases z
      · exact fr a z.1
end
end MR
namespace MR
open PySem L2 PL
abbrev Env := List OT
variable [kf : KF]
/-! ### judgements: te run at the slots ρ -/
/-- a result of its own, held on top; the slots are ρ' then -/
def EvY (te : TE) (ρ : Env) (r : OT) (ρ' : Env) : Prop := ∀ (S0 H0 : Hp) (A0 : List Addr) (S H : Hp) (τσ : List (Option V)) (τρ : List OT) (σ : St) (Q : VK), τσ.length = τρ.length → Ok S0 H0 A0 S H (τσ ++ σ) (τρ ++ ρ) →
  (∀ v S' H', Same S S' → Ok S0 H0 A0 S' H' (some v :: (τσ ++ σ)) (r :: (τρ ++ ρ')) → Q v H') → te σ H Q
/-- a frozen result -/
def EvD (te : TE) (ρ : Env) (x : D) (ρ' : Env) : Prop := ∀ (S0 H0 : Hp) (A0 : List Addr) (S H : Hp) (τσ : List (Option V)) (τρ : List OT) (σ : St) (Q : VK), τσ.length = τρ.length → Ok S0 H0 A0 S H (τσ ++ σ) (τρ ++ ρ) →
  (∀ v S' H', Same S S' → Ok S0 H0 A0 S' H' (τσ ++ σ) (τρ ++ ρ') → Rp S' v x → Q v H') → te σ H Q
/-- read: nothing changes -/
def RdE (te : TE) (ρ : Env) (x : D) : Prop := ∀ (S0 H0 : Hp) (A0 : List Addr) (S H : Hp) (τσ : List (Option V)) (τρ : List OT) (σ : St) (Q : VK), τσ.length = τρ.length → Ok S0 H0 A0 S H (τσ ++ σ) (τρ ++ ρ) →
  (∀ v S' H', Xt S H S' H' → Rp H' v x → Q v H') → te σ H Q
def RdB (tt : TT) (ρ : Env) (b : Bool) : Prop := ∀ (S0 H0 : Hp) (A0 : List Addr) (S H : Hp) (τσ : List (Option V)) (τρ : List OT) (σ : St) (Q : Bool → Hp → Prop), τσ.length = τρ.length → Ok S0 H0 A0 S H (τσ ++ σ) (τρ ++ ρ) →
  (∀ S' H', Xt S H S' H' → Q b H') → tt σ H Q
def EvT (tt : TT) (ρ : Env) (b : Bool) (ρ' : Env) : Prop := ∀ (S0 H0 : Hp) (A0 : List Addr) (S H : Hp) (τσ : List (Option V)) (τρ : List OT) (σ : St) (Q : Bool → Hp → Prop), τσ.length = τρ.length → Ok S0 H0 A0 S H (τσ ++ σ) (τρ ++ ρ) →
  (∀ S' H', Same S S' → Ok S0 H0 A0 S' H' (τσ ++ σ) (τρ ++ ρ') → Q b H') → tt σ H Q
/-- arguments, frozen -/
def EvL (ta : TA) (ρ : Env) (xs : List D) (ρ' : Env) : Prop := ∀ (S0 H0 : Hp) (A0 : List Addr) (S H : Hp) (τσ : List (Option V)) (τρ : List OT) (σ : St) (Q : List V → Hp → Prop), τσ.length = τρ.length → Ok S0 H0 A0 S H (τσ ++ σ) (τρ ++ ρ) →
  (∀ vs S' H', Same S S' → Ok S0 H0 A0 S' H' (τσ ++ σ) (τρ ++ ρ') → RpAll S' vs xs → Q vs H') → ta σ H Q
def RdL (ta : TA) (ρ : Env) (xs : List D) : Prop := ∀ (S0 H0 : Hp) (A0 : List Addr) (S H : Hp) (τσ : List (Option V)) (τρ : List OT) (σ : St) (Q : List V → Hp → Prop), τσ.length = τρ.length → Ok S0 H0 A0 S H (τσ ++ σ) (τρ ++ ρ) →
  (∀ vs S' H', Xt S H S' H' → RpAll H' vs xs → Q vs H') → ta σ H Q
/-- items of one's own, the last on top -/
def EvYs (ta : TA) (ρ : Env) (rs : List OT) (ρ' : Env) : Prop := ∀ (S0 H0 : Hp) (A0 : List Addr) (S H : Hp) (τσ : List (Option V)) (τρ : List OT) (σ : St) (Q : List V → Hp → Prop), τσ.length = τρ.length → Ok S0 H0 A0 S H (τσ ++ σ) (τρ ++ ρ) →
  (∀ vs S' H', Same S S' → vs.length = rs.length → Ok S0 H0 A0 S' H' ((vs.map some).reverse ++ (τσ ++ σ)) (rs.reverse ++ (τρ ++ ρ')) → Q vs H') → ta σ H Q
section
variable {ρ ρ1 ρ2 ρ' : Env} {ta tb tc te : TE} {t u : TT} {d e x y : D} {r s : OT} {S H S' H' S0 H0 : Hp} {A0 : List Addr} {σ τσ : St} {τρ : List OT}
theorem Ok.same1 {v : V} (o : Ok S0 H0 A0 S H (some v :: σ) (.d x :: ρ)) : Rp S v x := by
  obtain ⟨A, h1, _, _⟩ := o.env
  cases h1 with
  | cons h _ => cases h with | is h => cases h with | d h => exact h
/-- frozen on top -/
theorem evy_of (h : EvD te ρ x ρ') : EvY te ρ (.d x) ρ' := fun S0 H0 A0 S H τσ τρ σ Q l o q => h S0 H0 A0 S H τσ τρ σ Q l o fun v S' H' ss o' hr => q v S' H' ss (o'.pushD hr)
theorem evd_of (h : EvY te ρ r ρ') (e : r.toD = some x) : EvD te ρ x ρ' := fun S0 H0 A0 S H τσ τρ σ Q l o q => h S0 H0 A0 S H τσ τρ σ Q l o fun v S' H' ss o' => by
  obtain ⟨S2, s2, o2⟩ := o'.freeze (i := 0) rfl e
  exact q v S2 H' (ss.trans s2) o2.drop o2.same1
theorem evd_flat (h : RdE te ρ x) (f : tfl x = true) : EvD te ρ x ρ := fun S0 H0 A0 S H τσ τρ σ Q l o q => h S0 H0 A0 S H τσ τρ σ Q l o fun v S' H' xt hr =>
  q v _ H' (xt.trans (xt_frz xt.sh)).ss (o.ext (xt.trans (xt_frz xt.sh))) (rp_tfl [] x v f hr)
theorem get_app {α β : Type} {xs ys : List α} {as : List β} {i : Nat} (l : xs.length = as.length) : (xs ++ ys)[as.length + i]? = ys[i]? := by
  rw [List.getElem?_append_right (by omega)]; congr 1; omega
theorem set_app {α β : Type} {xs ys : List α} {as : List β} {i : Nat} {v : α} (l : xs.length = as.length) : (xs ++ ys).set (as.length + i) v = xs ++ ys.set i v := by
  rw [List.set_append_right _ _ (by omega)]; congr 2; omega
/-- slot i as it stands -/
theorem Ok.slot (l : τσ.length = τρ.length) (o : Ok S0 H0 A0 S H (τσ ++ σ) (τρ ++ ρ)) {i : Nat} (h : ρ[i]? = some r) (hn : r ≠ .no) : ∃ v A, σ[i]? = some (some v) ∧ OOk S H v r A := by
  obtain ⟨v, A, e1, e2⟩ := o.get (i := τρ.length + i) (t := r) (by rw [get_app rfl]; exact h)
  rw [get_app l] at e1
  cases e2 with
  | no => exact (hn rfl).elim
  | is e2 => exact ⟨_, A, e1, e2⟩
theorem toD_no (e : r.toD = some x) : r ≠ .no := by rintro rfl; simp [OT.toD] at e
theorem rd_var {i : Nat} (h : ρ[i]? = some r) (e : r.toD = some x) : RdE (tVar i) ρ x := fun S0 H0 A0 S H τσ τρ σ Q l o q => by
  obtain ⟨v, A, e1, e2⟩ := o.slot l h (toD_no e)
  exact ⟨v, e1, q v S H (.refl o.sh) (ook_rp o.sh _ _ _ _ e2 e)⟩
/-- a slot handed on: frozen -/
theorem evd_var {i : Nat} (h : ρ[i]? = some r) (e : r.toD = some x) : EvD (tVar i) ρ x (ρ.set i (.d x)) := fun S0 H0 A0 S H τσ τρ σ Q l o q => by
  obtain ⟨S', ss, o'⟩ := o.freeze (i := τρ.length + i) (t := r) (by rw [get_app rfl]; exact h) e
  rw [set_app rfl] at o'
  have hi : i < ρ.length := (List.getElem?_eq_some_iff.mp h).1
  obtain ⟨v, A, e1, e2⟩ := o'.slot l (i := i) (r := .d x) (by rw [List.getElem?_set_self hi]) (by intro z; cases z)
  cases e2 with
  | d e2 => exact ⟨v, e1, q v S' H ss o' e2⟩
theorem evd_varD {i : Nat} (h : ρ[i]? = some (.d x)) : EvD (tVar i) ρ x ρ := fun S0 H0 A0 S H τσ τρ σ Q l o q => by
  obtain ⟨v, A, e1, e2⟩ := o.slot l (i := i) (r := .d x) h (by intro z; cases z)
  cases e2 with
  | d e2 => exact ⟨v, e1, q v S H (Same.refl S) o e2⟩
/-- a slot moved out -/
theorem Ok.move (o : Ok S0 H0 A0 S H σ ρ) {i : Nat} {v : V} (h : ρ[i]? = some r) (hv : σ[i]? = some (some v)) (hn : r ≠ .no) : Ok S0 H0 A0 S H (some v :: σ) (r :: ρ.set i .no) := by
  obtain ⟨B, he, nd, fr⟩ := o.env
  obtain ⟨v', A, e1, e2, e3, e4, e5⟩ := he.pick nd h
  rw [hv] at e1
  cases e1
  have key : ∀ {σ : St} {ρ : Env} {B : List Addr}, EOk S H σ ρ B → B.Nodup → ∀ {i : Nat}, ρ[i]? = some r → σ[i]? = some (some v) → ∃ A C, OOk S H v r A ∧ EOk S H σ (ρ.set i .no) C ∧ (A ++ C).Nodup ∧ ∀ a ∈ A ++ C, a ∈ B := by
    intro σ ρ B h
    induction h with
    | nil => intro _ i e; simp at e
    | @cons v0 s0 A0 σ ρ B h0 ht ih =>
      intro nd i e e'
      have nd' := List.nodup_append.mp nd
      cases i with
      | zero =>
        have e : s0 = r := by simpa using e
        have e' : v0 = some v := by simpa using e'
        subst e e'
        cases h0 with
        | no => exact (hn rfl).elim
        | is h0 => exact ⟨A0, [] ++ B, h0, .cons .no ht, nd, fun a ha => ha⟩
      | succ i =>
        obtain ⟨A, C, q1, q2, q3, q4⟩ := ih nd'.2.1 (i := i) (by simpa using e) (by simpa using e')
        refine ⟨A, A0 ++ C, q1, .cons h0 q2, ?_, ?_⟩
        · have q3' := List.nodup_append.mp q3
          refine List.nodup_append.mpr ⟨q3'.1, List.nodup_append.mpr ⟨nd'.1, q3'.2.1, fun a ha b hb => nd'.2.2 a ha b (q4 b (List.mem_append_right _ hb))⟩, fun a ha b hb z => ?_⟩
          subst z
          rcases List.mem_append.mp hb with hb | hb
          · exact nd'.2.2 a hb a (q4 a (List.mem_append_left _ ha)) rfl
          · exact q3'.2.2 a ha a hb rfl
        · intro a ha
          rcases List.mem_append.mp ha with z | z
          · exact List.mem_append_right _ (q4 a (List.mem_append_left _ z))
          · rcases List.mem_append.mp z with z | z
            · exact List.mem_append_left _ z
            · exact List.mem_append_right _ (q4 a (List.mem_append_right _ z))
  obtain ⟨A, C, q1, q2, q3, q4⟩ := key he nd h hv
  exact ⟨o.xt, A ++ C, .cons (.is q1) q2, q3, fun a ha => fr a (q4 a ha)⟩
theorem evy_mov {i : Nat} (h : ρ[i]? = some r) (hn : r ≠ .no) : EvY (tVar i) ρ r (ρ.set i .no) := fun S0 H0 A0 S H τσ τρ σ Q l o q => by
  obtain ⟨v, A, e1, e2⟩ := o.slot l h hn
  have o' := o.move (i := τρ.length + i) (r := r) (v := v) (by rw [get_app rfl]; exact h) (by rw [get_app l]; exact e1) hn
  rw [set_app rfl] at o'
  exact ⟨v, e1, q v S H (Same.refl S) o'⟩
theorem oall_rpS : ∀ (ts : List D) (vs : List V) (A : List Addr), OAll S H vs (ts.map .d) A → RpAll S vs ts
  | [], _, _, h => by cases h; exact .nil
  | t :: ts, _, _, h => by cases h with | cons a b => cases a with | d a => exact .cons a (oall_rpS ts _ _ b)
theorem rd_c {v : V} (h : vD v = some x) : RdE (tC v) ρ x := fun S0 H0 A0 S H τσ τρ σ Q l o q => q v S H (.refl o.sh) (vD_dp h)
/-! ### operators: of read operands -/
/-- R tells x, flat -/
def OpF (R : R2) (d e x : D) : Prop := ∀ (H : Hp) (v u : V) (Q : VK), Rp H v d → Rp H u e → (∀ w, vD w = some x → Q w H) → R v u H Q
theorem rd_op {R : R2} (ha : RdE ta ρ d) (hb : RdE tb ρ e) (hR : OpF R d e x) : RdE (tOp R ta tb) ρ x := fun S0 H0 A0 S H τσ τρ σ Q l o q =>
  ha S0 H0 A0 S H τσ τρ σ _ l o fun v S1 H1 x1 h1 => hb S0 H0 A0 S1 H1 τσ τρ σ _ l (o.ext x1) fun u S2 H2 x2 h2 => hR H2 v u Q (dp_mono x2.hh _ _ h1) h2 fun w hw => q w S2 H2 (x1.trans x2) (vD_dp hw)
theorem evd_op {R : R2} (ha : EvD ta ρ d ρ1) (hb : EvD tb ρ1 e ρ2) (hR : OpF R d e x) : EvD (tOp R ta tb) ρ x ρ2 := fun S0 H0 A0 S H τσ τρ σ Q l o q =>
  ha S0 H0 A0 S H τσ τρ σ _ l o fun v S1 H1 s1 o1 h1 => hb S0 H0 A0 S1 H1 τσ τρ σ _ l o1 fun u S2 H2 s2 o2 h2 => hR H2 v u Q (dp_mono (s2.trans o2.sh) _ _ h1) (dp_mono o2.sh _ _ h2) fun w hw => q w S2 H2 (s1.trans s2) o2 (vD_dp hw)
theorem rd_un {R : V → Hp → VK → Prop} (ha : RdE ta ρ d) (hR : ∀ (H : Hp) (v : V) (Q : VK), Rp H v d → (∀ w, vD w = some x → Q w H) → R v H Q) : RdE (tUn R ta) ρ x := fun S0 H0 A0 S H τσ τρ σ Q l o q =>
  ha S0 H0 A0 S H τσ τρ σ _ l o fun v S1 H1 x1 h1 => hR H1 v Q h1 fun w hw => q w S1 H1 x1 (vD_dp hw)
/-! ### data under a subscript -/
/-- the item of read data -/
def IxS (R : R2) (d e x : D) : Prop := ∀ (H : Hp) (v u : V) (Q : VK), Rp H v d → Rp H u e → (∀ w, Rp H w x → Q w H) → R v u H Q
/-- the item of frozen data -/
def IxZ (R : R2) (d e x : D) : Prop := ∀ (S H : Hp) (v u : V) (Q : VK), Same S H → Rp S v d → Rp H u e → (∀ w, Rp S w x → Q w H) → R v u H Q
theorem rd_ix {R : R2} (ha : RdE ta ρ d) (hb : RdE tb ρ e) (hR : IxS R d e x) : RdE (tOp R ta tb) ρ x := fun S0 H0 A0 S H τσ τρ σ Q l o q =>
  ha S0 H0 A0 S H τσ τρ σ _ l o fun v S1 H1 x1 h1 => hb S0 H0 A0 S1 H1 τσ τρ σ _ l (o.ext x1) fun u S2 H2 x2 h2 => hR H2 v u Q (dp_mono x2.hh _ _ h1) h2 fun w hw => q w S2 H2 (x1.trans x2) hw
theorem evd_ixR {R : R2} (ha : EvD ta ρ d ρ1) (hb : RdE tb ρ1 e) (hR : IxZ R d e x) : EvD (tOp R ta tb) ρ x ρ1 := fun S0 H0 A0 S H τσ τρ σ Q l o q =>
  ha S0 H0 A0 S H τσ τρ σ _ l o fun v S1 H1 s1 o1 h1 => hb S0 H0 A0 S1 H1 τσ τρ σ _ l o1 fun u S2 H2 x2 h2 => hR S2 H2 v u Q x2.sh (dp_mono x2.ss _ _ h1) h2 fun w hw => q w S2 H2 (s1.trans x2.ss) (o1.ext x2) hw
theorem ixz_list {ds : List D} {n : Int} (e : atI ds n = some x) : IxZ (rIxL kf.K) (.list ds) (.int n) x := fun S H v u Q sh h1 h2 q => by
  cases h2
  cases h1 with
  | lst r1 r2 =>
    obtain ⟨w, e1, e2⟩ := atD r2 e
    exact ⟨_, _, n, w, rfl, rfl, sh.seq r1, e1, q w e2⟩
theorem ixz_tup {ds : List D} {n : Int} (e : atI ds n = some x) : IxZ (rIxT kf.K) (.tuple ds) (.int n) x := fun S H v u Q sh h1 h2 q => by
  cases h2
  cases h1 with
  | tup r1 r2 =>
    obtain ⟨w, e1, e2⟩ := atD r2 e
    exact ⟨_, _, n, w, rfl, rfl, .inl (.of (sh _ _ r1)), e1, q w e2⟩
theorem ixs_of {R : R2} (h : IxZ R d e x) : IxS R d e x := fun H v u Q h1 h2 q => h H H v u Q (Same.refl H) h1 h2 q
/-! ### built-in calls on read arguments -/
def CbF (R : List V → Hp → VK → Prop) (ds : List D) (x : D) : Prop := ∀ (H : Hp) (vs : List V) (Q : VK), RpAll H vs ds → (∀ w, vD w = some x → Q w H) → R vs H Q
theorem rd_cb {R : List V → Hp → VK → Prop} {tr : TA} {ds : List D} (h : RdL tr ρ ds) (hR : CbF R ds x) : RdE (tCB R tr) ρ x := fun S0 H0 A0 S H τσ τρ σ Q l o q =>
  h S0 H0 A0 S H τσ τρ σ _ l o fun vs S1 H1 x1 h1 => hR H1 vs Q h1 fun w hw => q w S1 H1 x1 (vD_dp hw)
theorem evd_cb {R : List V → Hp → VK → Prop} {tr : TA} {ds : List D} (h : EvL tr ρ ds ρ1) (hR : CbF R ds x) : EvD (tCB R tr) ρ x ρ1 := fun S0 H0 A0 S H τσ τρ σ Q l o q =>
  h S0 H0 A0 S H τσ τρ σ _ l o fun vs S1 H1 s1 o1 h1 => hR H1 vs Q (dpa_mono o1.sh _ _ h1) fun w hw => q w S1 H1 s1 o1 (vD_dp hw)
/-! ### argument lists -/
theorem rdl_nil : RdL tNil ρ [] := fun S0 H0 A0 S H τσ τρ σ Q l o q => q [] S H (.refl o.sh) .nil
theorem rdl_cons {tr : TA} {xs : List D} (ha : RdE ta ρ x) (hr : RdL tr ρ xs) : RdL (tCons ta tr) ρ (x :: xs) := fun S0 H0 A0 S H τσ τρ σ Q l o q =>
  ha S0 H0 A0 S H τσ τρ σ _ l o fun v S1 H1 x1 h1 => hr S0 H0 A0 S1 H1 τσ τρ σ _ l (o.ext x1) fun vs S2 H2 x2 h2 => q _ S2 H2 (x1.trans x2) (.cons (dp_mono x2.hh _ _ h1) h2)
theorem evl_nil : EvL tNil ρ [] ρ := fun S0 H0 A0 S H τσ τρ σ Q l o q => q [] S H (Same.refl S) o .nil
theorem evl_cons {tr : TA} {xs : List D} (ha : EvD ta ρ x ρ1) (hr : EvL tr ρ1 xs ρ2) : EvL (tCons ta tr) ρ (x :: xs) ρ2 := fun S0 H0 A0 S H τσ τρ σ Q l o q =>
  ha S0 H0 A0 S H τσ τρ σ _ l o fun v S1 H1 s1 o1 h1 => hr S0 H0 A0 S1 H1 τσ τρ σ _ l o1 fun vs S2 H2 s2 o2 h2 => q _ S2 H2 (s1.trans s2) o2 (.cons (dp_mono s2 _ _ h1) h2)
theorem evys_nil : EvYs tNil ρ [] ρ := fun S0 H0 A0 S H τσ τρ σ Q l o q => q [] S H (Same.refl S) rfl o
theorem evys_cons {tr : TA} {rs : List OT} (ha : EvY ta ρ r ρ1) (hr : EvYs tr ρ1 rs ρ2) : EvYs (tCons ta tr) ρ (r :: rs) ρ2 := fun S0 H0 A0 S H τσ τρ σ Q l o q =>
  ha S0 H0 A0 S H τσ τρ σ _ l o fun v S1 H1 s1 o1 => hr S0 H0 A0 S1 H1 (some v :: τσ) (r :: τρ) σ _ (by simp [l]) o1 fun vs S2 H2 s2 l2 o2 => q _ S2 H2 (s1.trans s2) (by simp [l2]) (by
    simpa [List.map_cons, List.reverse_cons, List.append_assoc] using o2)
/-- what is held on top taken as items -/
theorem Ok.items : ∀ {vs : List V} {rs : List OT} {σ : St} {ρ : Env}, vs.length = rs.length → Ok S0 H0 A0 S H ((vs.map some).reverse ++ σ) (rs.reverse ++ ρ) → (∀ r ∈ rs, r ≠ .no) →
    ∃ A B, OAll S H vs rs A ∧ EOk S H σ ρ B ∧ (A ++ B).Nodup ∧ ∀ a ∈ A ++ B, a ∈ A0 ∨ H0 a = none
  | [], [], σ, ρ, _, o, _ => by
    obtain ⟨B, h1, h2, h3⟩ := o.env
    exact ⟨[], B, .nil, h1, h2, h3⟩
  | v :: vs, r :: rs, σ, ρ, l, o, hn => by
    have o' : Ok S0 H0 A0 S H ((vs.map some).reverse ++ (some v :: σ)) (rs.reverse ++ (r :: ρ)) := by
      simpa [List.map_cons, List.reverse_cons, List.append_assoc] using o
    obtain ⟨A, B, h1, h2, h3, h4⟩ := Ok.items (by simpa using l) o' fun r' hr => hn r' (List.mem_cons_of_mem _ hr)
    cases h2 with
    | @cons _ _ A1 _ _ B1 p1 p2 =>
      cases p1 with
      | no => exact (hn .no List.mem_cons_self rfl).elim
      | is p1 =>
        refine ⟨A1 ++ A, B1, .cons p1 h1, p2, ?_, ?_⟩
        · have h3' := List.nodup_append.mp h3
          have h5 := List.nodup_append.mp h3'.2.1
          refine List.nodup_append.mpr ⟨List.nodup_append.mpr ⟨h5.1, h3'.1, fun a ha b hb e => h3'.2.2 b hb a (List.mem_append_left _ ha) e.symm⟩, h5.2.1, fun a ha b hb e => ?_⟩
          rcases List.mem_append.mp ha with z | z
          · exact h5.2.2 a z b hb e
          · exact h3'.2.2 a z b (List.mem_append_right _ hb) e
        · intro a ha
          apply h4
          rcases List.mem_append.mp ha with z | z
          · rcases List.mem_append.mp z with z | z
            · exact List.mem_append_right _ (List.mem_append_left _ z)
            · exact List.mem_append_left _ z
          · exact List.mem_append_right _ (List.mem_append_right _ z)
/-- a new object over items that are held -/
theorem Ok.node {k : Kd} {vs : List V} {rs : List OT} {B C : List Addr} {p : Addr} (xt : Xa A0 S0 H0 S H) (h1 : OAll S H vs rs B) (h2 : EOk S H σ ρ C) (nd : (B ++ C).Nodup) (fr : ∀ a ∈ B ++ C, a ∈ A0 ∨ H0 a = none) (hp : H p = none) (hf : k.fits rs.length) :
    Ok S0 H0 A0 S (upd H p (shape k vs)) (some (.ref p) :: σ) (.nd k rs :: ρ) := by
  have x : Xt S H S (upd H p (shape k vs)) := .new xt.sh hp
  have at1 := oall_at _ _ _ h1
  have at2 := h2.at
  have keep : ∀ a, (∃ u, H a = some u) → upd H p (shape k vs) a = H a := fun a ⟨u, hu⟩ => upd_ne (ne_of_none hu hp)
  have h1' : OAll S (upd H p (shape k vs)) vs rs B := oall_keep (Same.refl S) (fun b xs e => x.hh b _ e) _ _ _ h1 fun a ha => by
    obtain ⟨z1, u, z2, _⟩ := at1 a ha
    exact ⟨z1, keep a ⟨u, z2⟩⟩
  have h2' : EOk S (upd H p (shape k vs)) σ ρ C := h2.keep (Same.refl S) (fun b xs e => x.hh b _ e) fun a ha => by
    obtain ⟨z1, u, z2, _⟩ := at2 a ha
    exact ⟨z1, keep a ⟨u, z2⟩⟩
  have pB : p ∉ B ++ C := fun z => by
    rcases List.mem_append.mp z with z | z
    · obtain ⟨_, u, z2, _⟩ := at1 p z; rw [hp] at z2; cases z2
    · obtain ⟨_, u, z2, _⟩ := at2 p z; rw [hp] at z2; cases z2
  by_cases hk : k.isTup = true
  · cases k with
    | tup => exact ⟨xt.trans (.of x), B ++ C, .cons (.is (.tup upd_same h1')) h2', nd, fr⟩
    | lst => cases hk
    | dK ks => cases hk
    | dT ks => cases hk
  · have hk : k.isTup = false := by simpa using hk
    refine ⟨xt.trans (.of x), (p :: B) ++ C, .cons (.is (.nd hk hf (xt.sh.free hp) upd_same h1')) h2', by rw [List.cons_append]; exact List.nodup_cons.mpr ⟨pB, nd⟩, fun a ha => ?_⟩
    rw [List.cons_append] at ha
    rcases List.mem_cons.mp ha with z | z
    · rw [z]; exact .inr (xt.dm p hp)
    · exact fr a z
theorem evy_lst {tr : TA} {rs : List OT} (h : EvYs tr ρ rs ρ1) (hn : ∀ r ∈ rs, r ≠ .no) (hz : rs.length ≤ 1000000) : EvY (tLst tr) ρ (.nd .lst rs) ρ1 := fun S0 H0 A0 S H τσ τρ σ Q l o q =>
  h S0 H0 A0 S H τσ τρ σ _ l o fun vs S1 H1 s1 l1 o1 => ⟨by rw [l1]; exact sz_of hz, fun p hp => by
    obtain ⟨A, B, h1, h2, h3, h4⟩ := o1.items l1 hn
    exact q _ S1 _ s1 (Ok.node (k := .lst) o1.xt h1 h2 h3 h4 hp trivial)⟩
theorem evy_tup {tr : TA} {rs : List OT} (h : EvYs tr ρ rs ρ1) (hn : ∀ r ∈ rs, r ≠ .no) (hz : rs.length ≤ 1000000) : EvY (tTup tr) ρ (.nd .tup rs) ρ1 := fun S0 H0 A0 S H τσ τρ σ Q l o q =>
  h S0 H0 A0 S H τσ τρ σ _ l o fun vs S1 H1 s1 l1 o1 => ⟨by rw [l1]; exact sz_of hz, fun p hp => by
    obtain ⟨A, B, h1, h2, h3, h4⟩ := o1.items l1 hn
    exact q _ S1 _ s1 (Ok.node (k := .tup) o1.xt h1 h2 h3 h4 hp trivial)⟩
/-- read displays -/
theorem rd_tup {tr : TA} {xs : List D} (h : RdL tr ρ xs) (hz : xs.length ≤ 1000000) : RdE (tTup tr) ρ (.tuple xs) := fun S0 H0 A0 S H τσ τρ σ Q l o q =>
  h S0 H0 A0 S H τσ τρ σ _ l o fun vs S1 H1 x1 h1 => ⟨by rw [dpa_length h1]; exact sz_of hz, fun p hp =>
    q _ S1 _ (x1.trans (.new x1.sh hp)) (.tup upd_same (dpa_mono (Xt.new (o := .tup vs) x1.sh hp).hh _ _ h1))⟩
theorem rd_lst {tr : TA} {xs : List D} (h : RdL tr ρ xs) (hz : xs.length ≤ 1000000) : RdE (tLst tr) ρ (.list xs) := fun S0 H0 A0 S H τσ τρ σ Q l o q =>
  h S0 H0 A0 S H τσ τρ σ _ l o fun vs S1 H1 x1 h1 => ⟨by rw [dpa_length h1]; exact sz_of hz, fun p hp =>
    q _ S1 _ (x1.trans (.new x1.sh hp)) (.lst (SqL.of upd_same) (dpa_mono (Xt.new (o := .lst vs) x1.sh hp).hh _ _ h1))⟩
end
end MR
namespace MR
open PySem L2 PL
/-- what is wished of an exception that leaves the body -/
class WXI where
  W : Value → Option Addr → St → Hp → Prop
instance (priority := low) wx0 : WXI := ⟨fun _ _ _ _ => False⟩
variable [kf : KF] [wx : WXI]
/-! ### statements -/
inductive Fl where
  | nx | bk | ct | rt (r : OT) | xc (x : Xc)
/-- x lies in the air -/
def XcAt (H0 H' : Hp) (cls : Value) (d : Option Addr) (x : Xc) : Prop := ∃ C, cls = .ref C ∧ clsOf kf.K x.cls = some C ∧ FsOk H' d x.fs ∧ ∀ dd, d = some dd → H0 dd = none
/-- these slots hold these values -/
def Fx (F : List (Nat × V)) (σ : St) : Prop := ∀ p ∈ F, σ[p.1]? = some (some p.2)
def Kont (F : List (Nat × V)) (S S0 H0 : Hp) (A0 : List Addr) (E : Ends) : Fl → Env → Prop
  | .nx, ρ' => ∀ S' H' σ', Same S S' → Fx F σ' → Ok S0 H0 A0 S' H' σ' ρ' → E.nx σ' H'
  | .bk, ρ' => ∀ S' H' σ', Same S S' → Fx F σ' → Ok S0 H0 A0 S' H' σ' ρ' → E.bk σ' H'
  | .ct, ρ' => ∀ S' H' σ', Same S S' → Fx F σ' → Ok S0 H0 A0 S' H' σ' ρ' → E.ct σ' H'
  | .rt r, ρ' => ∀ v S' H' σ', Same S S' → Fx F σ' → Ok S0 H0 A0 S' H' (some v :: σ') (r :: ρ') → E.rt v H'
  | .xc x, ρ' => ∀ cls d S' H' σ', Same S S' → Fx F σ' → Ok S0 H0 A0 S' H' σ' ρ' → XcAt H0 H' cls d x → wx.W cls d σ' H'
theorem Kont.mono {F : List (Nat × V)} {S S1 S0 H0 : Hp} {A0 : List Addr} {E : Ends} {fl : Fl} {ρ' : Env} (k : Kont F S S0 H0 A0 E fl ρ') (s : Same S S1) : Kont F S1 S0 H0 A0 E fl ρ' := by
  cases fl with
  | nx => exact fun S' H' σ' ss => k S' H' σ' (s.trans ss)
  | bk => exact fun S' H' σ' ss => k S' H' σ' (s.trans ss)
  | ct => exact fun S' H' σ' ss => k S' H' σ' (s.trans ss)
  | rt r => exact fun v S' H' σ' ss => k v S' H' σ' (s.trans ss)
  | xc x => exact fun cls d S' H' σ' ss => k cls d S' H' σ' (s.trans ss)
def RunS (js : List Nat) (t : TS) (ρ : Env) (fl : Fl) (ρ' : Env) : Prop := ∀ (S0 H0 : Hp) (A0 : List Addr) (S H : Hp) (σ : St) (F : List (Nat × V)) (E : Ends), F.map (·.1) = js → Fx F σ → Ok S0 H0 A0 S H σ ρ → Kont F S S0 H0 A0 E fl ρ' → t E σ H
section
variable {ρ ρ1 ρ2 ρ' : Env} {ta tb tc te : TE} {c : TT} {t u : TS} {d e x y : D} {r s : OT} {S H S' H' S0 H0 : Hp} {A0 : List Addr} {σ : St} {js : List Nat} {fl : Fl}
theorem Fx.set {F : List (Nat × V)} {i : Nat} {v : Option V} (h : Fx F σ) (hi : i ∉ F.map (·.1)) : Fx F (σ.set i v) := fun p hp => by
  rw [List.getElem?_set_ne (fun z => hi (List.mem_map.mpr ⟨p, hp, z.symm⟩))]
  exact h p hp
theorem run_seq (h : RunS js t ρ .nx ρ1) (h2 : RunS js u ρ1 fl ρ') : RunS js (tSeq t u) ρ fl ρ' := fun S0 H0 A0 S H σ F E hF hx o k =>
  h S0 H0 A0 S H σ F { E with nx := u E } hF hx o fun S' H' σ' ss hx' o' => h2 S0 H0 A0 S' H' σ' F E hF hx' o' (k.mono ss)
theorem run_seqB (h : RunS js t ρ .bk ρ') : RunS js (tSeq t u) ρ .bk ρ' := fun S0 H0 A0 S H σ F E hF hx o k => h S0 H0 A0 S H σ F { E with nx := u E } hF hx o k
theorem run_seqC (h : RunS js t ρ .ct ρ') : RunS js (tSeq t u) ρ .ct ρ' := fun S0 H0 A0 S H σ F E hF hx o k => h S0 H0 A0 S H σ F { E with nx := u E } hF hx o k
theorem run_seqR (h : RunS js t ρ (.rt r) ρ') : RunS js (tSeq t u) ρ (.rt r) ρ' := fun S0 H0 A0 S H σ F E hF hx o k => h S0 H0 A0 S H σ F { E with nx := u E } hF hx o k
theorem run_seqX {x : Xc} (h : RunS js t ρ (.xc x) ρ') : RunS js (tSeq t u) ρ (.xc x) ρ' := fun S0 H0 A0 S H σ F E hF hx o k => h S0 H0 A0 S H σ F { E with nx := u E } hF hx o k
theorem run_next : RunS js tNext ρ .nx ρ := fun S0 H0 A0 S H σ F E hF hx o k => k S H σ (Same.refl S) hx o
theorem run_ret (h : EvY te ρ r ρ1) : RunS js (tRet te) ρ (.rt r) ρ1 := fun S0 H0 A0 S H σ F E hF hx o k =>
  h S0 H0 A0 S H [] [] σ _ rfl o fun v S' H' ss o' => k v S' H' σ ss hx o'
theorem run_drop (h : EvY te ρ r ρ1) : RunS js (tDrop te) ρ .nx ρ1 := fun S0 H0 A0 S H σ F E hF hx o k =>
  h S0 H0 A0 S H [] [] σ _ rfl o fun v S' H' ss o' => k S' H' σ ss hx o'.drop
theorem run_if {b : Bool} (h : EvT c ρ b ρ1) (h1 : b = true → RunS js t ρ1 fl ρ') (h2 : b = false → RunS js u ρ1 fl ρ') : RunS js (tIfS c t u) ρ fl ρ' := fun S0 H0 A0 S H σ F E hF hx o k =>
  h S0 H0 A0 S H [] [] σ _ rfl o fun S1 H1 s1 o1 => by
    cases b with
    | true => exact iteT (h1 rfl S0 H0 A0 S1 H1 σ F E hF hx o1 (k.mono s1))
    | false => exact iteF (h2 rfl S0 H0 A0 S1 H1 σ F E hF hx o1 (k.mono s1))
theorem run_asg {i : Nat} (h : EvY te ρ r ρ1) (hi : i ∉ js) : RunS js (tAsg te (gName i)) ρ .nx (ρ1.set i r) := fun S0 H0 A0 S H σ F E hF hx o k =>
  h S0 H0 A0 S H [] [] σ _ rfl o fun v S' H' ss o' => k S' H' _ ss (hx.set (by rw [hF]; exact hi)) (o'.store i)
/-! ### targets -/
def TgM (g : TG) (x : D) (ρ ρ' : Env) (is : List Nat) : Prop := ∀ (S0 H0 : Hp) (A0 : List Addr) (S H : Hp) (τσ : List (Option V)) (τρ : List OT) (σ : St) (Q : St → Hp → Prop) (v : V), τσ.length = τρ.length → Ok S0 H0 A0 S H (τσ ++ σ) (τρ ++ ρ) → Rp S v x →
  (∀ σ', Ok S0 H0 A0 S H (τσ ++ σ') (τρ ++ ρ') → σ'.length = σ.length → (∀ k, k ∉ is → σ'[k]? = σ[k]?) → Q σ' H) → g v σ H Q
def TgMs (g : TGs) (xs : List D) (ρ ρ' : Env) (is : List Nat) : Prop := ∀ (S0 H0 : Hp) (A0 : List Addr) (S H : Hp) (τσ : List (Option V)) (τρ : List OT) (σ : St) (Q : St → Hp → Prop) (vs : List V), τσ.length = τρ.length → Ok S0 H0 A0 S H (τσ ++ σ) (τρ ++ ρ) → RpAll S vs xs →
  (∀ σ', Ok S0 H0 A0 S H (τσ ++ σ') (τρ ++ ρ') → σ'.length = σ.length → (∀ k, k ∉ is → σ'[k]? = σ[k]?) → Q σ' H) → g vs σ H Q
theorem tg_name {i : Nat} : TgM (gName i) x ρ (ρ.set i (.d x)) [i] := fun S0 H0 A0 S H τσ τρ σ Q v l o hv q => by
  have o' := (o.pushD hv).store (τρ.length + i)
  rw [set_app l, set_app rfl] at o'
  exact q _ o' (by rw [List.length_set]) fun k hk => by rw [List.getElem?_set_ne (fun z => hk (by rw [z]; exact List.mem_cons_self))]
theorem tgs_nil : TgMs gNil [] ρ ρ [] := fun S0 H0 A0 S H τσ τρ σ Q vs l o hv q => by
  cases hv
  exact ⟨rfl, q σ o rfl fun _ _ => rfl⟩
theorem tgs_cons {g : TG} {gs : TGs} {xs : List D} {is ks : List Nat} (h1 : TgM g x ρ ρ1 is) (h2 : TgMs gs xs ρ1 ρ2 ks) : TgMs (gCons g gs) (x :: xs) ρ ρ2 (is ++ ks) := fun S0 H0 A0 S H τσ τρ σ Q vs l o hv q => by
  cases hv with
  | cons hv ht =>
    refine ⟨_, _, rfl, h1 S0 H0 A0 S H τσ τρ σ _ _ l o hv fun σ1 o1 l1 k1 => h2 S0 H0 A0 S H τσ τρ σ1 _ _ l o1 ht fun σ2 o2 l2 k2 => q σ2 o2 (l2.trans l1) fun k hk => ?_⟩
    rw [k2 k (fun z => hk (List.mem_append_right _ z)), k1 k (fun z => hk (List.mem_append_left _ z))]
theorem tg_tup {gs : TGs} {xs : List D} {is : List Nat} {n : Nat} (h : TgMs gs xs ρ ρ' is) (hn : xs.length = n) : TgM (gTup kf.K n gs) (.tuple xs) ρ ρ' is := fun S0 H0 A0 S H τσ τρ σ Q v l o hv q => by
  cases hv with
  | tup r1 r2 => exact ⟨_, _, rfl, .inl (.of (o.sh _ _ r1)), (dpa_length r2).trans hn, h S0 H0 A0 S H τσ τρ σ Q _ l o r2 q⟩
theorem run_asgT {g : TG} {is : List Nat} (h : EvD te ρ x ρ1) (ht : TgM g x ρ1 ρ2 is) (hi : ∀ j ∈ js, j ∉ is) : RunS js (tAsg te g) ρ .nx ρ2 := fun S0 H0 A0 S H σ F E hF hx o k =>
  h S0 H0 A0 S H [] [] σ _ rfl o fun v S' H' ss o' hv => ht S0 H0 A0 S' H' [] [] σ _ v rfl o' hv fun σ' o2 l2 k2 => k S' H' σ' ss (fun p hp => by
    rw [k2 p.1 (hi p.1 (by rw [← hF]; exact List.mem_map_of_mem hp))]; exact hx p hp) o2
/-! ### what is walked -/
def IterM (wi : TI) (ρ : Env) (ds : List D) (ρ' : Env) : Prop := ∀ (S0 H0 : Hp) (A0 : List Addr) (S H : Hp) (τσ : List (Option V)) (τρ : List OT) (σ : St) (R : It → Hp → Prop), τσ.length = τρ.length → Ok S0 H0 A0 S H (τσ ++ σ) (τρ ++ ρ) →
  (∀ J S' H', Same S S' → Ok S0 H0 A0 S' H' (τσ ++ σ) (τρ ++ ρ') → JD S' J ds → R J H') → wi σ H R
theorem it_list {ds : List D} (h : EvD te ρ (.list ds) ρ1) : IterM (iList kf.K te) ρ ds ρ1 := fun S0 H0 A0 S H τσ τρ σ R l o q =>
  h S0 H0 A0 S H τσ τρ σ _ l o fun v S' H' ss o' hs => by
    cases hs with
    | lst r1 r2 => exact ⟨_, rfl, ⟨_, o'.sh.seq r1⟩, q _ S' H' ss o' (jd_list r1 r2)⟩
def rgD (lo : Int) (n : Nat) : List D := (List.range n).map fun (i : Nat) => PyData.int (lo + (i : Int))
theorem it_range1 {n : Int} (h : EvL ta' ρ [.int n] ρ1) (hn : n < 2 ^ 62) (hn0 : -(2 ^ 62) ≤ n) : IterM (iRng1 ta') ρ (rgD 0 n.toNat) ρ1 := fun S0 H0 A0 S H τσ τρ σ R l o q =>
  h S0 H0 A0 S H τσ τρ σ _ l o fun v S' H' ss o' hs => by
    cases hs with | cons a b => cases a; cases b; exact ⟨n, rfl, hn0, hn, q _ S' H' ss o' jd_range⟩
theorem it_range2 {m n : Int} (h : EvL ta' ρ [.int m, .int n] ρ1) (hb : -(2 ^ 62) ≤ m ∧ m < 2 ^ 62 ∧ -(2 ^ 62) ≤ n ∧ n < 2 ^ 62) : IterM (iRng2 ta') ρ (rgD m (n - m).toNat) ρ1 := fun S0 H0 A0 S H τσ τρ σ R l o q =>
  h S0 H0 A0 S H τσ τρ σ _ l o fun v S' H' ss o' hs => by
    cases hs with | cons a b => cases b with | cons b c => cases a; cases b; cases c; exact ⟨m, n, rfl, hb, q _ S' H' ss o' jd_range⟩
end
end MR
namespace MR
open PySem L2 PL
variable [kf : KF] [wx : WXI]
theorem jd_enum {S : Hp} {a : Addr} {vs : List V} {ds : List D} (r1 : SqL kf.K S a vs) (r2 : RpAll S vs ds) : JD S (Ite kf.K a) (ds.zipIdx.map fun p => PyData.tuple [.int (p.2 : Nat), p.1]) := fun S1 H1 s1 sh => by
  have h1 : SqL kf.K H1 a vs := (s1.trans sh).seq r1
  refine ⟨⟨vs, h1, by rw [dpa_length r2]; simp⟩, fun i x e => ?_⟩
  rw [List.getElem?_map, List.getElem?_zipIdx] at e
  cases qd : ds[i]? with
  | none => rw [qd] at e; cases e
  | some d =>
    rw [qd] at e
    simp at e
    subst e
    obtain ⟨v, e1, e2⟩ := dpa_get r2 qd
    refine ⟨⟨vs, v, h1, e1⟩, fun w H2 y => ?_⟩
    obtain ⟨T, x, rfl, nT, rfl, y⟩ := y
    have : some x = some v := (y vs h1).symm.trans e1
    cases this
    have xn := Xt.newS (o := .tup [.int (i : Nat), v]) sh nT
    exact ⟨_, xn, .tup upd_same (.cons (.int _) (.cons (dp_mono (s1.trans xn.ss) _ _ e2) .nil))⟩
def enumD (ds : List D) : List D := ds.zipIdx.map fun p => PyData.tuple [.int (p.2 : Nat), p.1]
def zipD (ds es : List D) : List D := (ds.zip es).map fun p => PyData.tuple [p.1, p.2]
section
variable {ρ ρ1 ρ2 ρ' : Env} {ta tb tc te : TE} {tl : TA} {c : TT} {t u : TS} {d e x y : D} {r s : OT} {S H S' H' S0 H0 : Hp} {A0 : List Addr} {σ : St} {js : List Nat} {fl : Fl}
theorem it_enum {ds : List D} (h : EvL tl ρ [.list ds] ρ1) : IterM (iEnum kf.K tl) ρ (enumD ds) ρ1 := fun S0 H0 A0 S H τσ τρ σ R l o q =>
  h S0 H0 A0 S H τσ τρ σ _ l o fun vs S' H' ss o' hs => by
    cases hs with
    | cons a b =>
      cases b
      cases a with
      | lst r1 r2 => exact ⟨_, _, rfl, o'.sh.seq r1, q _ S' H' ss o' (jd_enum r1 r2)⟩
/-! ### loops -/
def mFor (step : D → Env → Option (Fl × Env)) : List D → Env → Option (Fl × Env)
  | [], ρ => some (.nx, ρ)
  | x :: xs, ρ => match step x ρ with
    | some (.nx, ρ') => mFor step xs ρ'
    | some (.ct, ρ') => mFor step xs ρ'
    | some (.bk, ρ') => some (.nx, ρ')
    | some (.rt r, ρ') => some (.rt r, ρ')
    | some (.xc x, ρ') => some (.xc x, ρ')
    | Option.none => Option.none
theorem run_for {wi : TI} {g : TG} {ds : List D} {step : D → Env → Option (Fl × Env)} (hi : IterM wi ρ ds ρ1)
    (hs : ∀ x ρa fl ρb, step x ρa = some (fl, ρb) → ∃ ρm is, TgM g x ρa ρm is ∧ (∀ j ∈ js, j ∉ is) ∧ RunS js t ρm fl ρb) (hf : mFor step ds ρ1 = some (fl, ρ')) : RunS js (tFor wi g t) ρ fl ρ' := fun S0 H0 A0 S H σ F E hF hx o k =>
  hi S0 H0 A0 S H [] [] σ _ rfl o fun J S1 H1 ss1 o1 hJ => by
    refine ⟨fun i m σ' H' => m = ds.length - i ∧ i ≤ ds.length ∧ ∃ S' ρi, Same S1 S' ∧ Fx F σ' ∧ Ok S0 H0 A0 S' H' σ' ρi ∧ mFor step (ds.drop i) ρi = some (fl, ρ'), ⟨_, rfl, Nat.zero_le _, S1, ρ1, Same.refl _, hx, o1, hf⟩, ?_⟩
    rintro i m σ' H' ⟨rfl, hi, S', ρi, s1, hx', o', hf'⟩
    obtain ⟨st, go⟩ := hJ S' H' s1 o'.sh
    by_cases hl : i < ds.length
    · obtain ⟨g1, g2⟩ := go i ds[i] (List.getElem?_eq_getElem hl)
      rw [List.drop_eq_getElem_cons hl] at hf'
      unfold mFor at hf'
      cases hst : step ds[i] ρi with
      | none => rw [hst] at hf'; cases hf'
      | some p =>
        obtain ⟨fl1, ρb⟩ := p
        rw [hst] at hf'
        obtain ⟨ρm, is, ht, hjs, hb⟩ := hs _ _ _ _ hst
        refine .inr ⟨g1, fun σ2 H2 => ∃ S2, Same S1 S2 ∧ Fx F σ2 ∧ Ok S0 H0 A0 S2 H2 σ2 ρb ∧ mFor step (ds.drop (i + 1)) ρb = some (fl, ρ'), fun σ2 H2 ⟨S2, b1, b2, b3, b4⟩ => ⟨_, by omega, rfl, hl, S2, ρb, b1, b2, b3, b4⟩, fun v H2 hy => ?_⟩
        obtain ⟨S2, x2, hv⟩ := g2 v H2 hy
        refine ht S0 H0 A0 S2 H2 [] [] σ' _ v rfl (o'.ext x2) hv fun σ3 o3 l3 k3 => ?_
        have hx3 : Fx F σ3 := fun p hp => by rw [k3 p.1 (hjs p.1 (by rw [← hF]; exact List.mem_map_of_mem hp))]; exact hx' p hp
        refine hb S0 H0 A0 S2 H2 σ3 F _ hF hx3 o3 ?_
        have sa : Same S S2 := ss1.trans (s1.trans x2.ss)
        cases fl1 with
        | nx => exact fun S4 H4 σ4 s4 hx4 o4 => ⟨S4, s1.trans (x2.ss.trans s4), hx4, o4, hf'⟩
        | ct => exact fun S4 H4 σ4 s4 hx4 o4 => ⟨S4, s1.trans (x2.ss.trans s4), hx4, o4, hf'⟩
        | bk =>
          simp only [Option.some.injEq, Prod.mk.injEq] at hf'
          obtain ⟨rfl, rfl⟩ := hf'
          exact fun S4 H4 σ4 s4 hx4 o4 => k S4 H4 σ4 (sa.trans s4) hx4 o4
        | rt r =>
          simp only [Option.some.injEq, Prod.mk.injEq] at hf'
          obtain ⟨rfl, rfl⟩ := hf'
          exact fun v4 S4 H4 σ4 s4 hx4 o4 => k v4 S4 H4 σ4 (sa.trans s4) hx4 o4
        | xc x =>
          simp only [Option.some.injEq, Prod.mk.injEq] at hf'
          obtain ⟨rfl, rfl⟩ := hf'
          exact fun cls4 d4 S4 H4 σ4 s4 hx4 o4 => k cls4 d4 S4 H4 σ4 (sa.trans s4) hx4 o4
    · have e : i = ds.length := by omega
      subst e
      rw [List.drop_length] at hf'
      simp only [mFor, Option.some.injEq, Prod.mk.injEq] at hf'
      obtain ⟨rfl, rfl⟩ := hf'
      exact .inl ⟨st, k S' H' σ' (ss1.trans s1) hx' o'⟩
end
end MR
namespace MR
open PySem L2 PL
variable [kf : KF]
/-! ### comprehensions -/
def wipeE (ρ : Env) : List Nat → Env
  | [] => ρ
  | v :: vs => (wipeE ρ vs).set v .no
def rst {α : Type} (xs orig : List α) : List Nat → List α
  | [] => xs
  | v :: vs => match orig[v]? with
    | some a => (rst xs orig vs).set v a
    | Option.none => rst xs orig vs
theorem rst_some {α : Type} {xs orig : List α} {v : Nat} {vs : List Nat} {a : α} (h : orig[v]? = some a) : rst xs orig (v :: vs) = (rst xs orig vs).set v a := by simp only [rst, h]
theorem rst_none {α : Type} {xs orig : List α} {v : Nat} {vs : List Nat} (h : orig[v]? = Option.none) : rst xs orig (v :: vs) = rst xs orig vs := by simp only [rst, h]
def calmAt (ρ : Env) (vs : List Nat) : Bool := vs.all fun v => match ρ[v]? with
  | some (.nd _ _) => false
  | some (.fl _) => false
  | _ => true
def mLc (vs : List Nat) (step : D → Env → Option (Option OT × Env)) : List D → List OT → Env → Option (List OT × Env)
  | [], acc, ρ => some (acc, ρ)
  | x :: xs, acc, ρ => match step x ρ with
    | some (some r, ρ') => mLc vs step xs (acc ++ [r]) (wipeE ρ' vs)
    | some (Option.none, ρ') => mLc vs step xs acc (wipeE ρ' vs)
    | Option.none => Option.none
section
variable {ρ ρ1 ρ2 ρ' : Env} {ta tb tc te : TE} {tl : TA} {c : TT} {t u : TS} {d e x y : D} {r s : OT} {S H S' H' S0 H0 : Hp} {A0 : List Addr} {σ τσ : St} {τρ : List OT} {js : List Nat} {fl : Fl}
/-- slot i written, with nothing owned -/
theorem Ok.put (o : Ok S0 H0 A0 S H σ ρ) (i : Nat) {v : Option V} {t : OT} (h : OSl S H v t []) : Ok S0 H0 A0 S H (σ.set i v) (ρ.set i t) := by
  obtain ⟨B, h1, h2, h3⟩ := o.env
  exact Ok.store (v := v) (t := t) ⟨o.xt, [] ++ B, .cons h h1, by simpa using h2, by simpa using h3⟩ i
theorem Ok.wipe (l : τσ.length = τρ.length) (o : Ok S0 H0 A0 S H (τσ ++ σ) (τρ ++ ρ)) : ∀ vs : List Nat, Ok S0 H0 A0 S H (τσ ++ L2.wipe σ vs) (τρ ++ wipeE ρ vs)
  | [] => o
  | v :: vs => by
    have o' := (Ok.wipe l o vs).put (τρ.length + v) (.no (v := Option.none))
    rw [set_app l, set_app rfl] at o'
    exact o'
theorem rst_wipe (σ : St) (vs : List Nat) : rst (L2.wipe σ vs) σ vs = σ := by
  have gen : ∀ (us : List Nat) (xs : St), xs.length = σ.length → (∀ k, k ∉ us → xs[k]? = σ[k]?) → rst xs σ us = σ := by
    intro us
    induction us with
    | nil =>
      intro xs hl h
      exact List.ext_getElem? fun k => h k (by simp)
    | cons v us ih =>
      intro xs hl h
      have len : ∀ (us : List Nat) (xs : St), (rst xs σ us).length = xs.length := by
        intro us
        induction us with
        | nil => intro xs; rfl
        | cons w us ih2 =>
          intro xs
          cases q : σ[w]? with
          | some a => rw [rst_some q, List.length_set]; exact ih2 xs
          | none => rw [rst_none q]; exact ih2 xs
      have out : ∀ (us : List Nat) (xs : St) (k : Nat), xs.length = σ.length → (k ∈ us ∨ xs[k]? = σ[k]?) → (rst xs σ us)[k]? = σ[k]? := by
        intro us
        induction us with
        | nil =>
          intro xs k _ hk
          rcases hk with hk | hk
          · cases hk
          · exact hk
        | cons w us ih2 =>
          intro xs k hl hk
          have l2 := len us xs
          by_cases e : w = k
          · subst e
            cases q : σ[w]? with
            | some a =>
              rw [rst_some q]
              have := (List.getElem?_eq_some_iff.mp q).1
              rw [List.getElem?_set_self (by omega)]
            | none =>
              rw [rst_none q]
              have := List.getElem?_eq_none_iff.mp q
              exact List.getElem?_eq_none (by omega)
          · have hk' : k ∈ us ∨ xs[k]? = σ[k]? := by
              rcases hk with hk | hk
              · rcases List.mem_cons.mp hk with z | z
                · exact absurd z.symm e
                · exact .inl z
              · exact .inr hk
            cases q : σ[w]? with
            | some a => rw [rst_some q, List.getElem?_set_ne e]; exact ih2 xs k hl hk'
            | none => rw [rst_none q]; exact ih2 xs k hl hk'
      apply List.ext_getElem?
      intro k
      have := out (v :: us) xs k hl (by
        by_cases hk : k ∈ v :: us
        · exact .inl hk
        · exact .inr (h k hk))
      exact this
  exact gen vs _ (L2.wipe_length σ vs) fun k hk => by rw [wipe_get, if_neg hk]
theorem Ok.restore {S1 H1 : Hp} (l : τσ.length = τρ.length) {σ0 τσ0 : St} {ρ0 τρ0 : Env} {ρe : Env} (l0 : τσ0.length = τρ0.length) (o0 : Ok S0 H0 A0 S1 H1 (τσ0 ++ σ0) (τρ0 ++ ρ0)) (ss : Same S1 S) : ∀ (vs : List Nat) (σe : St), calmAt ρ0 vs = true → Ok S0 H0 A0 S H (τσ ++ σe) (τρ ++ ρe) → σ0.length = ρ0.length →
    Ok S0 H0 A0 S H (τσ ++ rst σe σ0 vs) (τρ ++ rst ρe ρ0 vs)
  | [], σe, _, o, _ => o
  | v :: vs, σe, hc, o, hl => by
    unfold calmAt at hc
    rw [List.all_cons, Bool.and_eq_true] at hc
    have ih := Ok.restore l l0 o0 ss vs σe hc.2 o hl
    by_cases hv : v < σ0.length
    · obtain ⟨val, hval⟩ : ∃ val, σ0[v]? = some val := ⟨_, List.getElem?_eq_getElem hv⟩
      obtain ⟨t, ht⟩ : ∃ t, ρ0[v]? = some t := ⟨_, List.getElem?_eq_getElem (by omega)⟩
      rw [rst_some hval, rst_some ht]
      obtain ⟨w, A, e1, e2⟩ := o0.get (i := τρ0.length + v) (t := t) (by rw [get_app rfl]; exact ht)
      rw [get_app l0, hval] at e1
      cases e1
      have hs : OSl S H val t [] := by
        cases t with
        | no => exact .no
        | d x =>
          cases e2 with
          | is e2 => cases e2 with | d e2 => exact .is (.d (dp_mono ss _ _ e2))
        | nd k ts => rw [ht] at hc; simp at hc
        | fl ts => rw [ht] at hc; simp at hc
        | ex x =>
          cases e2 with
          | is e2 => cases e2 with | ex q1 q2 q3 => exact .is (.ex q1 (ss _ _ q2) (q3.mono ss))
      have o' := ih.put (τρ.length + v) hs
      rw [set_app l, set_app rfl] at o'
      exact o'
    · rw [rst_none (List.getElem?_eq_none (by omega)), rst_none (List.getElem?_eq_none (by omega))]
      exact ih
/-- y, on top of a list, becomes its last item -/
theorem Ok.append {y : V} {p : Addr} {ts : List OT} (o : Ok S0 H0 A0 S H (some y :: some (.ref p) :: σ) (r :: .nd .lst ts :: ρ)) (hn : r ≠ .no) :
    ∃ acc, H p = some (.lst acc) ∧ acc.length = ts.length ∧ Ok S0 H0 A0 S (upd H p (.lst (acc ++ [y]))) (some (.ref p) :: σ) (.nd .lst (ts ++ [r]) :: ρ) := by
  obtain ⟨B, h1, h2, h3⟩ := o.env
  cases h1 with
  | @cons _ _ A1 _ _ B1 p1 p2 =>
    cases p2 with
    | @cons _ _ A2 _ _ B2 q1 q2 =>
      cases q1 with
      | is q1 =>
        cases p1 with
        | no => exact (hn rfl).elim
        | is p1 =>
          cases q1 with
          | @nd _ _ vs _ C k1 k2 k3 k4 k5 =>
            have nd := List.nodup_append.mp h2
            have nd2 := List.nodup_append.mp nd.2.1
            have nd3 := List.nodup_cons.mp nd2.1
            have pA1 : p ∉ A1 := fun z => nd.2.2 p z p (List.mem_append_left _ List.mem_cons_self) rfl
            have pB2 : p ∉ B2 := fun z => nd2.2.2 p List.mem_cons_self p z rfl
            have pH : p ∈ A0 ∨ H0 p = none := h3 p (List.mem_append_right _ (List.mem_append_left _ List.mem_cons_self))
            have tp : ∀ b xs, H b = some (.tup xs) → upd H p (.lst (vs ++ [y])) b = some (.tup xs) := fun b xs e => by
              rw [upd_ne]; exact e
              intro z; subst z; rw [k4] at e; cases e
            have g1 := ook_keep (H' := upd H p (.lst (vs ++ [y]))) (Same.refl S) tp _ _ _ p1 fun a ha => ⟨(ook_at _ _ _ p1 a ha).1, upd_ne fun z => pA1 (z ▸ ha)⟩
            have g2 := oall_keep (H' := upd H p (.lst (vs ++ [y]))) (Same.refl S) tp _ _ _ k5 fun a ha => ⟨(oall_at _ _ _ k5 a ha).1, upd_ne fun z => nd3.1 (z ▸ ha)⟩
            have g3 := q2.keep (H' := upd H p (.lst (vs ++ [y]))) (Same.refl S) tp fun a ha => ⟨(q2.at a ha).1, upd_ne fun z => pB2 (z ▸ ha)⟩
            have app : ∀ {vs : List V} {ts : List OT} {C : List Addr} {H : Hp}, OAll S H vs ts C → OOk S H y r A1 → OAll S H (vs ++ [y]) (ts ++ [r]) (C ++ A1) := by
              intro vs ts C H h
              induction ts generalizing vs C with
              | nil => intro h2; cases h; have := OAll.cons h2 .nil; simpa using this
              | cons t ts ih => intro h2; cases h with | cons a b => have := OAll.cons a (ih b h2); simpa [List.append_assoc] using this
            refine ⟨vs, k4, k5.len, ⟨⟨fun b o' hb e => ?_, fun b e => ?_, fun b xs e => tp b xs (o.xt.tp b xs e), o.xt.ss, fun b o' e => ?_, o.xt.nw⟩, _, .cons (.is (.nd rfl trivial k3 upd_same (app g2 g1))) g3, ?_, ?_⟩⟩
            · have e1 := o.xt.hh b o' hb e
              rw [upd_ne]; exact e1
              intro z; subst z
              rcases pH with z | z
              · exact hb z
              · rw [z] at e; cases e
            · by_cases z : b = p
              · subst z; rw [upd_same] at e; cases e
              · rw [upd_ne z] at e; exact o.xt.dm b e
            · rw [upd_ne]; exact o.sh b o' e
              intro z; subst z; rw [k3] at e; cases e
            · refine List.nodup_append.mpr ⟨?_, nd2.2.1, ?_⟩
              · refine List.nodup_cons.mpr ⟨fun z => ?_, List.nodup_append.mpr ⟨nd3.2, nd.1, fun a ha b hb e => ?_⟩⟩
                · rcases List.mem_append.mp z with z | z
                  · exact nd3.1 z
                  · exact pA1 z
                · subst e
                  exact nd.2.2 a hb a (List.mem_append_left _ (List.mem_cons_of_mem _ ha)) rfl
              · intro a ha b hb e
                subst e
                rcases List.mem_cons.mp ha with z | z
                · subst z; exact pB2 hb
                · rcases List.mem_append.mp z with z | z
                  · exact nd2.2.2 a (List.mem_cons_of_mem _ z) a hb rfl
                  · exact nd.2.2 a z a (List.mem_append_right _ hb) rfl
            · intro a ha
              apply h3
              rcases List.mem_append.mp ha with z | z
              · rcases List.mem_cons.mp z with z | z
                · exact List.mem_append_right _ (List.mem_append_left _ (z ▸ List.mem_cons_self))
                · rcases List.mem_append.mp z with z | z
                  · exact List.mem_append_right _ (List.mem_append_left _ (List.mem_cons_of_mem _ z))
                  · exact List.mem_append_left _ z
              · exact List.mem_append_right _ (List.mem_append_right _ z)
theorem evy_lc {wi : TI} {g : TG} {tt : TT} {vs : List Nat} {ds : List D} {step : D → Env → Option (Option OT × Env)} {rs : List OT} (hi : IterM wi ρ ds ρ1)
    (hs : ∀ x ρa o ρb, step x ρa = some (o, ρb) → ∃ ρm is b ρt, TgM g x ρa ρm is ∧ (∀ j ∈ is, j ∈ vs) ∧ EvT tt ρm b ρt ∧ (match o with
      | some r => b = true ∧ r ≠ .no ∧ EvY te ρt r ρb
      | Option.none => b = false ∧ ρb = ρt))
    (hf : mLc vs step ds [] (wipeE ρ1 vs) = some (rs, ρ2)) (hc : calmAt ρ1 vs = true) (hz : ds.length ≤ 1000000) : EvY (tLc wi g tt te vs) ρ (.nd .lst rs) (rst ρ2 ρ1 vs) := fun S0 H0 A0 S H τσ τρ σ Q l o q =>
  hi S0 H0 A0 S H τσ τρ σ _ l o fun J S1 H1 ss1 o1 hJ Dl hD => by
    have lσ : σ.length = ρ1.length := by have := o1.len; simp at this; omega
    have start : Ok S0 H0 A0 S1 (upd H1 Dl (.lst [])) (some (.ref Dl) :: (τσ ++ L2.wipe σ vs)) (.nd .lst [] :: (τρ ++ wipeE ρ1 vs)) := by
      obtain ⟨B, h1, h2, h3⟩ := (o1.wipe l vs).env
      exact Ok.node (k := .lst) (vs := []) (rs := []) (B := []) o1.xt .nil h1 (by simpa using h2) (by simpa using h3) hD trivial
    refine ⟨fun i m H' => m = ds.length - i ∧ i ≤ ds.length ∧ ∃ S' acc ρi, Same S1 S' ∧ Ok S0 H0 A0 S' H' (some (.ref Dl) :: (τσ ++ L2.wipe σ vs)) (.nd .lst acc :: (τρ ++ ρi)) ∧ mLc vs step (ds.drop i) acc ρi = some (rs, ρ2) ∧ acc.length ≤ i,
      ⟨_, rfl, Nat.zero_le _, S1, [], _, Same.refl _, start, hf, Nat.le_refl _⟩, ?_⟩
    rintro i m H' ⟨rfl, hi, S', acc, ρi, s1, o', hf', hacc⟩
    obtain ⟨st, go⟩ := hJ S' H' s1 o'.sh
    by_cases hl : i < ds.length
    · obtain ⟨g1, g2⟩ := go i ds[i] (List.getElem?_eq_getElem hl)
      rw [List.drop_eq_getElem_cons hl] at hf'
      unfold mLc at hf'
      cases hst : step ds[i] ρi with
      | none => rw [hst] at hf'; cases hf'
      | some p =>
        obtain ⟨oo, ρb⟩ := p
        rw [hst] at hf'
        obtain ⟨ρm, is, b, ρt, ht, hjs, hb, he⟩ := hs _ _ _ _ hst
        refine .inr ⟨g1, fun H2 => ∃ S2 acc2, Same S1 S2 ∧ Ok S0 H0 A0 S2 H2 (some (.ref Dl) :: (τσ ++ L2.wipe σ vs)) (.nd .lst acc2 :: (τρ ++ wipeE ρb vs)) ∧ mLc vs step (ds.drop (i + 1)) acc2 (wipeE ρb vs) = some (rs, ρ2) ∧ acc2.length ≤ i + 1,
          fun H2 ⟨S2, acc2, b1, b2, b3, b4⟩ => ⟨_, by omega, rfl, hl, S2, acc2, _, b1, b2, b3, b4⟩, fun w H2 hy => ?_⟩
        obtain ⟨S2, x2, hv⟩ := g2 w H2 hy
        have o2 := o'.ext x2
        refine ht S0 H0 A0 S2 H2 (some (.ref Dl) :: τσ) (.nd .lst acc :: τρ) (L2.wipe σ vs) _ w (by simp [l]) o2 hv fun σ3 o3 l3 k3 => ?_
        have we : L2.wipe σ3 vs = L2.wipe σ vs := wipe_eq l3 fun k hk => k3 k fun z => hk (hjs k z)
        refine ⟨we, ?_⟩
        refine hb S0 H0 A0 S2 H2 (some (.ref Dl) :: τσ) (.nd .lst acc :: τρ) σ3 _ (by simp [l]) o3 fun S3 H3 s3 o4 => ?_
        have sa : Same S1 S3 := s1.trans (x2.ss.trans s3)
        cases oo with
        | none =>
          obtain ⟨rfl, rfl⟩ := he
          have o5 := Ok.wipe (τσ := some (.ref Dl) :: τσ) (τρ := .nd .lst acc :: τρ) (by simp [l]) o4 vs
          rw [we] at o5
          exact iteF ⟨S3, acc, sa, o5, hf', by omega⟩
        | some r =>
          obtain ⟨rfl, hn, he⟩ := he
          refine iteT (he S0 H0 A0 S3 H3 (some (.ref Dl) :: τσ) (.nd .lst acc :: τρ) σ3 _ (by simp [l]) o4 fun y S4 H4 s4 o5 => ?_)
          obtain ⟨ac, e1, e2, o6⟩ := Ok.append o5 hn
          have o7 := Ok.wipe (τσ := some (.ref Dl) :: τσ) (τρ := .nd .lst (acc ++ [r]) :: τρ) (by simp [l]) o6 vs
          rw [we] at o7
          exact ⟨ac, e1, sz_lt (by omega), S4, acc ++ [r], sa.trans s4, o7, hf', by simp; omega⟩
    · have e : i = ds.length := by omega
      subst e
      rw [List.drop_length] at hf'
      simp only [mLc, Option.some.injEq, Prod.mk.injEq] at hf'
      obtain ⟨rfl, rfl⟩ := hf'
      refine .inl ⟨st, q _ S' H' (ss1.trans s1) ?_⟩
      have := Ok.restore (τσ := some (.ref Dl) :: τσ) (τρ := .nd .lst acc :: τρ) (σ0 := σ) (ρ0 := ρ1) (ρe := ρi) (by simp [l]) l o1 s1 vs (L2.wipe σ vs) hc o' lσ
      rw [rst_wipe] at this
      exact this
end
end MR
namespace MR
open PySem PySem.Spec PyProof.Rows L2 PL
/-! ### a def's promise, where no guard stands on the stack -/
structure FnQ (P : Program) (w : World) (K : PySem.W.Frag) (mg : Str → Option Value) (base : Heap) (CX : CXT) (k : Nat) (f : Addr) (fd : FuncData) (ps : List Str) (sp : Sp) : Prop where
  ln : ∀ xs G Z W, sp xs G Z W → xs.length = ps.length
  go : ∀ (B : Around) (out : List PySem.Env) (st : Shared) (G : Hp) (ar : Args) (us : List Value) (xs : List V) (Z : VK) (W : XK), Room k B → B.guards = some [] → Env0 P w K mg base B out st G →
    BindsTo st fd ar (ps.zip us) → Vals xs us → sp xs G Z W → codeAny (model P w) B (.call (.ref f) ar) (CR CX out P w G st Z W) st
section
variable {P : Program} {w : World} {K : PySem.W.Frag} {mg : Str → Option Value} {base : Heap} {CX : CXT}
theorem FnQ.up {j k : Nat} {f : Addr} {fd : FuncData} {ps : List Str} {sp : Sp} (F : FnQ P w K mg base CX j f fd ps sp) (h : j ≤ k) : FnQ P w K mg base CX k f fd ps sp :=
  ⟨F.ln, fun B out st G ar us xs Z W r => F.go B out st G ar us xs Z W (r.mono h)⟩
/-- a def of the text, its defaults whatever they are -/
structure FunV (K : PySem.W.Frag) (x : Str) (st : Stmt) (f : Addr) (fd : FuncData) : Prop where
  ex : ∃ (oc : Value) (od : Option Addr) (dV kV doc pm : Value) (an : Option Addr) (cdv ct : Value) (osl : Array (Option Value)),
    fd = PySem.W.fnOf x x (defArgs st) (defBody st) (defScope st) dV kV doc pm an cdv ct ∧ K.lookup f = some ⟨oc, od, .func fd, osl⟩ ∧ PySem.W.codeIn K cdv x = true
  kp : PySem.W.keepIn K (.ref f) = true
theorem funV_of {x : Str} {st : Stmt} {f : Addr} {fd : FuncData} (F : Fun K x x st f fd) : FunV K x st f fd := by
  obtain ⟨oc, od, kV, doc, pm, an, cv, ct, sl, e, lk, cd⟩ := F.ex
  exact ⟨⟨oc, od, .none, kV, doc, pm, an, cv, ct, sl, e, lk, cd⟩, F.kp⟩
/-- one with m defaults -/
structure FunD1 (K : PySem.W.Frag) (x : Str) (st : Stmt) (m : Nat) (f : Addr) (fd : FuncData) : Prop where
  ex : ∃ (oc : Value) (od : Option Addr) (T : Addr) (kV doc pm : Value) (an : Option Addr) (cdv ct : Value) (osl : Array (Option Value)) (o : Obj) (its : List Value) (n : Nat),
    fd = PySem.W.fnOf x x (defArgs st) (defBody st) (defScope st) (.ref T) kV doc pm an cdv ct ∧ K.lookup f = some ⟨oc, od, .func fd, osl⟩ ∧ PySem.W.codeIn K cdv x = true ∧ K.lookup T = some o ∧ o.data = .seq its.toArray n ∧ its.length = m
  kp : PySem.W.keepIn K (.ref f) = true
theorem FunD1.binds {x : Str} {st : Stmt} {m : Nat} {f : Addr} {fd : FuncData} {ps : List Str} (F : FunD1 K x st m f fd)
    (h : ∀ (T : Addr) (kV doc pm : Value) (an : Option Addr) (cdv ct : Value) (us its : List Value), us.length = ps.length → its.length = m →
      ∃ k, bindArgs (PySem.W.fnOf x x (defArgs st) (defBody st) (defScope st) (.ref T) kV doc pm an cdv ct) ⟨us, []⟩ = seqItems? (.ref T) >>= k ∧ k (some its.toArray) = pure (ps.zip us)) : Binds K fd ps [] := fun s us X hl => by
  obtain ⟨oc, od, T, kV, doc, pm, an, cdv, ct, osl, o, its, n, rfl, lk, cd, lT, oT, hm⟩ := F.ex
  rw [List.append_nil] at hl ⊢
  obtain ⟨k, e1, e2⟩ := h T kV doc pm an cdv ct us its hl hm
  refine L2.BindsTo.of_looks fun M => ?_
  rw [e1]
  exact L2.looks_items X lT oT (.of_pure e2)
/-- by its body -/
theorem fnq_ofV {x : Str} {st : Stmt} {f : Addr} {fd : FuncData} {N ps : List Str} {k : Nat} {sp : Sp} (F : FunV K x st f fd) (S : FnScope N ps (defScope st)) (ln : ∀ xs G Z W, sp xs G Z W → xs.length = ps.length)
    (body : ∀ (cv : Value) (B : Around) (out : List PySem.Env) (s0 : Shared) (G : Hp) (xs : List V) (Z : VK) (W : XK), Room k (B.deeper (envOfC x (defScope st) s0.heap.objs.size f cv)) → B.guards = some [] → sp xs G Z W →
      ∃ t, PSs (cxOf CX P w K mg base N x (defScope st) f cv B out s0 G W) (defBody st) t ∧ t { nx := fun _ G' => Z .non G', rt := Z } (start N xs) G) : FnQ P w K mg base CX (k + 1) f fd ps sp := by
  obtain ⟨oc, od, dV, kV, doc, pm, an, cv, ct, sl, rfl, lk, cd⟩ := F.ex
  refine ⟨ln, fun B out s0 G ar us xs Z W rm gd e0 bd vs hs => ?_⟩
  have same := ln _ _ _ _ hs
  have up : ∀ b o, base.get? b = some o → s0.heap.get? b = some o := fun b o e => (e0.bs b o e).1
  have kin : K.In s0.heap := e0.mod.kin.keeps up
  have nol : s0.heap.NoLimit := e0.mod.nolimit.keeps up
  have kinds : ∀ y ∈ ps.zip us, (defScope st).names.lookup y.1 = some .local ∨ ((defScope st).names.lookup y.1 = some .cell ∧ ((cellsFrom (s0.heap.objs.size + 1) (defScope st).names []).lookup y.1).isSome = true) := by
    intro y hy
    obtain ⟨n, v⟩ := y
    have hn := (List.of_mem_zip hy).1
    cases S.par n hn with
    | inl q => exact .inl q
    | inr q => exact .inr ⟨q, PySem.W.cellsFrom_some _ _ _ (.inl q)⟩
  refine codeAny_call_function rm.depth (kin _ _ lk) rfl S.co S.gen rfl (PySem.W.codeRec_of kin cd) (bd _ _ _ _ (wpAny_newFunctionEnv_cells S.kind kinds fun env ee s1 xx => ?_))
  subst ee
  obtain ⟨t, pt, tq⟩ := body cv B out s0 G xs Z W (rm.deeper _) gd hs
  have inv := inv_start (CX := CX) (E := W) S rm.hd e0 same vs xx
  refine ⟨nol.keeps xx.toInCall.keep, codeAny_func (wpAny_mono (pt.run [] s1 (start N xs) G _ inv tq) (fun fl s2 h2 => ?_) fun e s2 h2 => h2)⟩
  have stop : ∀ {τ : L2.St} {G' : Hp} {v : V} {u : Value}, Inv (cxOf CX P w K mg base N x (defScope st) f cv B out s0 G W) [] τ G' s2 → RelV v u → Z v G' → CE out P w G s0 Z u s2 := by
    intro τ G' v u J rv q
    exact ⟨v, G', J.os, J.bare, J.base, J.hok, rv, q⟩
  match fl, h2 with
  | .ret u, h2 => obtain ⟨v, τ, G', J, rv, q⟩ := h2; exact stop J rv q
  | .next, h2 => obtain ⟨τ, G', J, q⟩ := h2; exact stop (v := V.non) (u := Value.none) J rfl q
  | .brk, h2 => obtain ⟨_, _, _, q⟩ := h2; cases q
  | .cont, h2 => obtain ⟨_, _, _, q⟩ := h2; cases q
/-- by its body -/
theorem fnq_of {x : Str} {st : Stmt} {f : Addr} {fd : FuncData} {N ps : List Str} {k : Nat} {sp : Sp} (F : Fun K x x st f fd) (S : FnScope N ps (defScope st)) (ln : ∀ xs G Z W, sp xs G Z W → xs.length = ps.length)
    (body : ∀ (cv : Value) (B : Around) (out : List PySem.Env) (s0 : Shared) (G : Hp) (xs : List V) (Z : VK) (W : XK), Room k (B.deeper (envOfC x (defScope st) s0.heap.objs.size f cv)) → B.guards = some [] → sp xs G Z W →
      ∃ t, PSs (cxOf CX P w K mg base N x (defScope st) f cv B out s0 G W) (defBody st) t ∧ t { nx := fun _ G' => Z .non G', rt := Z } (start N xs) G) : FnQ P w K mg base CX (k + 1) f fd ps sp := fnq_ofV (funV_of F) S ln body
end
section
variable {X : Cx} {CX : CXT} {k : Nat} {f : Addr} {fd : FuncData} {ps : List Str} {sp : Sp} {E : XK} {x : Str} {p pos : Pos} {e : Expr} {es : List Expr} {t : TA}
theorem go_fn {pins : List (Addr × Obj)} {σ : L2.St} {H : Hp} {s : Shared} {Q : VK} {us : List Value} {vs : List V} (F : FnQ X.prog X.w X.K X.mg X.base CX k f fd ps sp) (hr : Room k X.A) (hg : X.A.guards = some []) (hb : Binds X.K fd ps [])
    (hx : Passes CX X E) (I : Inv X pins σ H s) (r : Vals vs us) (h : sp vs H Q E) : wpAny (model X.prog X.w) X.A (call (.ref f) us) (EP X pins σ Q) X.xe s := by
  have hl : us.length = ps.length := by rw [← r.length]; exact F.ln _ _ _ _ h
  have bd := hb s us I.kIn (by simpa using hl)
  rw [List.append_nil] at bd
  refine wpAny_call (codeAny_mono (F.go X.A X.stack s H ⟨us, []⟩ us vs Q E hr hg I.env0 bd r h) fun rr s' hq => ?_)
  match rr, hq with
  | .error e, hq => exact hx pins σ H s e s' I hq
  | .ok (.ret u), hq => exact I.after hq
  | .ok .next, hq => cases hq
  | .ok .brk, hq => cases hq
  | .ok .cont, hq => cases hq
theorem pe_callQ (F : FnQ X.prog X.w X.K X.mg X.base CX k f fd ps sp) (hr : Room k X.A) (gd : X.A.guards = some []) (hg : Gl X x) (hm : X.mg x = some (.ref f)) (hk : PySem.W.keepIn X.K (.ref f) = true) (hb : Binds X.K fd ps [])
    (hx : Passes CX X E) (ha : PA X (e :: es) t) (hdb : (x == ("__debug__" : Str)) = false := by decide) (he : starEach (e :: es) X.env = (false, eval e X.env) :: starEach es X.env := by rfl)
    (hpl : (backTo pos (starEach es X.env)).any (·.1) = false := by rfl) : PE X (.Call (.Name x p) (e :: es) [] pos) (tCall sp [] E t) := by
  refine ⟨fun pins s σ H Q I h => wpAny_Call_Name_kw (ld_glob I hg hm ?_ hdb)⟩
  refine PySem.W.callWith_K (h₀ := X.base) I.ok.mod.kin hk (thn (ha.run pos pins s σ H _ I h) ?_) he hpl
  rintro us s1 ⟨vs, H1, I1, r, q⟩
  rw [List.append_nil] at q
  exact ⟨I1.kIn, go_fn F hr gd hb hx I1 r q⟩
end
/-! ### the law's call -/
theorem law_goes {P : Program} {w : World} {K : PySem.W.Frag} {mg mb : Str → Option Value} {CX : CXT} {k : Nat} {fa a : Addr} {fd : FuncData} {x : Str} {sp : Sp} {st : Shared} {us : List Value} {ns : List Int}
    (kin : K.In st.heap) (nsm : st.heap.Ns mainGlobals mg) (nsb : st.heap.Ns builtinsNs mb) (boot : ∀ y : Str, y ≠ "__name__" → mb y = bootBuiltins y) (nol : st.heap.NoLimit) (gens : st.gens = #[])
    (obj : st.heap.get? a = some { cls := .type "list", data := .seq us.toArray }) (hin : IntsAre us ns) (most : ns.length ≤ sizeLine) (rm : Room k callerA)
    (F : ∀ base : Heap, K.In base → base.Ns mainGlobals mg → FnQ P w K mg base CX k fa fd [x] sp) (bd : ∀ (s : Shared) (u : Value), BindsTo s fd ⟨[u], []⟩ [(x, u)])
    (hsp : ∀ G : Hp, SqL K G a (ns.map V.int) → sp [.ref a] G (fun v _ => v = .bl true) fun _ _ _ => False) (noX : ∀ G e s', CX [] G st (fun _ _ _ => False) e s' → False) :
    codeAny (model P w) callerA (.call (.ref fa) ⟨[.ref a], []⟩) (fun r s' => r = .ok (.ret (.bool true)) ∧ OldK st.heap s'.heap ∧ s'.os = st.os ∧ AllBare s'.gens) st := by
  -- G: either nothing is tracked, or the script alone, frozen
  suffices main : ∀ G : Hp, (∀ b u, G b = some u → b = a ∧ K.lookup a = none ∧ ∃ o zs, u = .frz o (.lst zs)) → SqL K G a (ns.map V.int) → HOk P w G st.heap →
      codeAny (model P w) callerA (.call (.ref fa) ⟨[.ref a], []⟩) (fun r s' => r = .ok (.ret (.bool true)) ∧ OldK st.heap s'.heap ∧ s'.os = st.os ∧ AllBare s'.gens) st by
    cases hk : K.lookup a with
    | some o =>
      have e := kin a o hk
      rw [obj] at e
      cases e
      refine main (fun _ => none) (fun b u z => by cases z) (.inr ⟨_, us.toArray, _, hk, rfl, rfl, rfl, ?_, ?_⟩) (fun b u z => by cases z)
      · rw [List.size_toArray, hin.length]; exact most
      · simpa using vals_ints hin
    | none =>
      let G : Hp := fun b => if b = a then some (.frz { cls := .type "list", data := .seq us.toArray } (.lst (ns.map V.int))) else none
      have Ga : G a = some (.frz { cls := .type "list", data := .seq us.toArray } (.lst (ns.map V.int))) := if_pos rfl
      have Gn : ∀ b u, G b = some u → b = a := fun b u z => by
        by_cases hb : b = a
        · exact hb
        · have : G b = none := if_neg hb
          rw [this] at z; cases z
      refine main G (fun b u z => ?_) (.inl (.inr ⟨_, Ga⟩)) (fun b u z => ?_)
      · have hb := Gn b u z
        subst hb
        rw [Ga] at z
        exact ⟨rfl, hk, _, _, (Option.some.inj z).symm⟩
      · have hb := Gn b u z
        subst hb
        rw [Ga] at z
        cases z
        exact ⟨obj, by rw [List.length_map]; exact most, us, _, vals_ints hin, obj⟩
  intro G hG sq hok
  have there : ∀ {b : Addr} {o : Obj}, st.heap.get? b = some o → G b = none → (hidT st.heap G).get? b = some o := fun e n => hidT_get e n
  have notd : ∀ {b : Addr} {o : Obj} {es : Array DictEntry} {n : Nat}, st.heap.get? b = some o → o.data = .dict es n → G b = none := by
    intro b o es n e dd
    cases q : G b with
    | none => rfl
    | some u =>
      obtain ⟨rfl, _, _⟩ := hG b u q
      rw [obj] at e
      cases e
      cases (dd : Data.seq us.toArray _ = Data.dict es n)
  have nsAt : ∀ {b : Addr} {m : Str → Option Value}, st.heap.Ns b m → (hidT st.heap G).Ns b m := by
    rintro b m ⟨o, es, ep, e, dd, r⟩
    exact ⟨o, es, ep, there e (notd e dd), dd, r⟩
  have kinT : K.In (hidT st.heap G) := by
    intro b o e
    refine there (kin b o e) ?_
    cases q : G b with
    | none => rfl
    | some u =>
      obtain ⟨rfl, hn, _⟩ := hG b u q
      rw [hn] at e; cases e
  have md : Mod K mg (hidT st.heap G) := by
    obtain ⟨mc, n1, n2⟩ := nol
    exact ⟨kinT, nsAt nsm, ⟨mb, nsAt nsb, boot⟩, ⟨mc, nsAt n1, n2⟩⟩
  have env0 : Env0 P w K mg (hidT st.heap G) callerA [] st G :=
    ⟨rfl, md, fun b o e => of_hidT e, Nat.le_of_eq (hidT_size _ _), trivial, fun b hb => (List.not_mem_nil hb).elim, hok, .of_eq gens⟩
  refine codeAny_mono ((F _ kinT (nsAt nsm)).go callerA [] st G ⟨[.ref a], []⟩ [.ref a] [.ref a] _ _ rm rfl env0 (bd st (.ref a)) (.cons rfl .nil) (hsp G sq)) fun r s' h => ?_
  match r, h with
  | .error e, h => exact (noX G e s' h).elim
  | .ok .next, h => cases h
  | .ok .brk, h => cases h
  | .ok .cont, h => cases h
  | .ok (.ret u), h =>
    obtain ⟨v, G', os, bare, un, hok', rv, q⟩ := h
    have q : v = .bl true := q
    subst q
    obtain rfl : u = Value.bool true := rv
    refine ⟨rfl, OldK.of_keep fun b o e => ?_, os, bare⟩
    cases q : G b with
    | none => exact un.keep b o e q (by intro z; cases (show b ∈ ([] : List Addr) from z)) (by simp)
    | some u =>
      obtain ⟨rfl, _, ob, zs, rfl⟩ := hG b u q
      obtain ⟨e1, _⟩ := hok _ _ q
      obtain ⟨e2, _⟩ := hok' _ _ (un.frzs _ ob _ q)
      rw [e] at e1
      cases e1
      exact e2
theorem walkQ {l : PySem.W.OpenLaw} {n k : Nat} {q : Program} {loose : List Str} {XP : (Str → Option Value) → Heap → Prop} {YP : World → Heap → Prop} {d : DefRec} {K : Params → PySem.W.Frag} {CX : World → CXT} {sp : World → Sp} {x : Str}
    (hmo : l.most = some n) (le : n ≤ sizeLine) (dflt : d.params.defaults = []) (rm : Room k callerA) (kin : ∀ (w : World) (h : Heap), YP w h → (K w.params).In h)
    (F : ∀ (w : World) (mg : Str → Option Value) (fa : Addr) (h : Heap), (K w.params).In h → h.Ns mainGlobals mg → mg d.name = some (.ref fa) →
      ∃ fd : FuncData, (∀ (s : Shared) (u : Value), BindsTo s fd ⟨[u], []⟩ [(x, u)]) ∧ ∀ base : Heap, (K w.params).In base → base.Ns mainGlobals mg → FnQ l.prog w (K w.params) mg base (CX w) k fa fd [x] (sp w))
    (hsp : ∀ (w : World) (G : Hp) (a : Addr) (ns : List Int), ns.length ≤ n → SqL (K w.params) G a (ns.map V.int) → sp w [.ref a] G (fun v _ => v = .bl true) fun _ _ _ => False)
    (noX : ∀ (w : World) (G : Hp) (s : Shared) (e : Value) (s' : Shared), CX w [] G s (fun _ _ _ => False) e s' → False) : PySem.W.WalkO q loose XP YP l.row.toRowW d [] (fun f vs => PySem.call f vs) := by
  refine Att.attach_call hmo dflt ?_
  intro w s0 s1 mg mb fa o pm cd doc a us ns G Y hobj hdat hcd hmg hlist hints hlen hgens
  obtain ⟨fd, bd, FF⟩ := F w mg fa _ (kin w _ Y) G.T.g hmg
  exact law_goes (kin w _ Y) G.T.g G.T.b G.T.builtins G.T.nolimit hgens hlist hints (Nat.le_trans hlen le) rm FF bd (fun H hS => hsp w H a ns hlen hS) fun H e s' => noX w H s1 e s'
end MR
namespace MR
open PySem L2 PL
variable [kf : KF] [wx : WXI]
/-! ### promises by functions -/
/-- frozen arguments; f tells the result -/
def spP (n : Nat) (f : List D → Option OT) : Sp := fun vs H Q _ => ∃ S ds r, ds.length = n ∧ Same S H ∧ RpAll S vs ds ∧ f ds = some r ∧
  ∀ v S' H' B, Xt S H S' H' → OOk S' H' v r B → B.Nodup → (∀ a ∈ B, H a = none) → Q v H'
theorem spP_len {n : Nat} {f : List D → Option OT} {ps : List Str} (e : ps.length = n) : ∀ vs H Q E, spP n f vs H Q E → vs.length = ps.length := fun vs H Q E h => by
  obtain ⟨S, ds, r, h1, _, h2, _⟩ := h
  rw [e, ← h1]; exact dpa_length h2
def fin : Option (Fl × Env) → Option OT
  | some (.rt .no, _) => Option.none
  | some (.rt r, _) => some r
  | some (.nx, _) => some (.d .none)
  | _ => Option.none
def finI : Option (Fl × Env) → Option (OT × OT)
  | some (.rt .no, _) => Option.none
  | some (.rt r, t :: _) => some (r, t)
  | some (.nx, t :: _) => some (.d .none, t)
  | _ => Option.none
section
variable {S H S' H' S0 H0 : Hp}
theorem eok_start {vs : List V} {ds : List D} (h : RpAll S vs ds) (k : Nat) : EOk S H (vs.map some ++ List.replicate k Option.none) (ds.map .d ++ List.replicate k .no) [] := by
  have nos : ∀ k, EOk S H (List.replicate k Option.none) (List.replicate k .no) [] := by
    intro k
    induction k with
    | zero => exact .nil
    | succ k ih => exact (EOk.cons .no ih : EOk S H _ _ ([] ++ []))
  induction ds generalizing vs with
  | nil => cases h; exact nos k
  | cons x ds ih => cases h with | cons a t => exact (EOk.cons (.is (.d a)) (ih t) : EOk S H _ _ ([] ++ []))
theorem def_plain {n : Nat} {f : List D → Option OT} {vs : List V} {H : Hp} {Q : VK} {E : XK} {N : List Str} {t : TS} (h : spP n f vs H Q E)
    (hb : ∀ ds r, ds.length = n → f ds = some r → ∃ o, fin o = some r ∧ ∀ fl ρ', o = some (fl, ρ') → RunS [] t (ds.map .d ++ List.replicate (N.length - n) .no) fl ρ') :
    t { nx := fun _ H' => Q .non H', rt := Q } (L2.start N vs) H := by
  obtain ⟨S, ds, r, hn, sh, hr, hf, q⟩ := h
  obtain ⟨o, ho, hR⟩ := hb ds r hn hf
  have hl : vs.length = n := by rw [dpa_length hr, hn]
  have ok0 : Ok S H [] S H (L2.start N vs) (ds.map .d ++ List.replicate (N.length - n) .no) := by
    refine ⟨Xa.refl sh, [], ?_, List.nodup_nil, fun a ha => by cases ha⟩
    show EOk S H (vs.map some ++ List.replicate (N.length - vs.length) Option.none) _ _
    rw [hl]; exact eok_start hr _
  cases o with
  | none => cases ho
  | some p =>
    obtain ⟨fl, ρ'⟩ := p
    refine hR fl ρ' rfl S H [] S H _ [] _ rfl (fun p hp => by cases hp) ok0 ?_
    cases fl with
    | nx =>
      cases ho
      exact fun S' H' σ' ss _ o' => q .non S' H' [] o'.xt.xt (.d .non) List.nodup_nil fun a ha => by cases ha
    | bk => cases ho
    | ct => cases ho
    | xc x => cases ho
    | rt r' =>
      have hr' : r' = r ∧ r ≠ .no := by
        cases r' with
        | no => cases ho
        | d x => cases ho; exact ⟨rfl, by intro z; cases z⟩
        | nd k ts => cases ho; exact ⟨rfl, by intro z; cases z⟩
        | fl ts => cases ho; exact ⟨rfl, by intro z; cases z⟩
        | ex x => cases ho; exact ⟨rfl, by intro z; cases z⟩
      obtain ⟨rfl, hn'⟩ := hr'
      intro v S' H' σ' ss _ o'
      obtain ⟨B, h1, h2, h3⟩ := o'.env
      cases h1 with
      | @cons _ _ A1 _ _ B1 p1 p2 =>
        cases p1 with
        | no => exact (hn' rfl).elim
        | is p1 =>
          refine q v S' H' A1 o'.xt.xt p1 (List.nodup_append.mp h2).1 fun a ha => ?_
          rcases h3 a (List.mem_append_left _ ha) with z | z
          · cases z
          · exact z
end
/-! ### calls -/
mutual
def OT.lf : OT → Bool
  | .no => false
  | .d x => tfl x
  | .nd _ ts => OT.lfs ts
  | .fl _ => false
  | .ex _ => false
def OT.lfs : List OT → Bool
  | [] => true
  | t :: ts => OT.lf t && OT.lfs ts
end
section
variable {S S1 H : Hp}
theorem frz_none {a : Addr} {u : HO} (h : S1 a = none) (hu : H a = some u) (nt : ∀ xs, u ≠ .tup xs) : frz S1 H [] a = none := by
  rw [frz_out (by simp) fun xs z => nt xs (by rw [hu] at z; exact Option.some.inj z)]; exact h
mutual
theorem ook_lf (sh : Same S H) : ∀ (t : OT) (v : V) (A : List Addr), OOk S H v t A → t.lf = true → (∀ a ∈ A, S1 a = none) → OOk (frz S1 H []) H v t A
  | .no, _, _, h, _, _ => by cases h; exact .no
  | .d x, _, _, h, f, _ => by
    simp only [OT.lf] at f
    cases h with | d h => exact .d (rp_tfl [] x _ f (dp_mono sh _ _ h))
  | .nd k ts, _, _, h, f, hs => by
    simp only [OT.lf] at f
    cases h with
    | tup h1 h2 => exact .tup h1 (oall_lf sh ts _ _ h2 f hs)
    | nd h0 h1 h2 h3 h4 => exact .nd h0 h1 (frz_none (hs _ List.mem_cons_self) h3 (shape_tup h0)) h3 (oall_lf sh ts _ _ h4 f fun a ha => hs a (List.mem_cons_of_mem _ ha))
  | .fl ts, _, _, h, f, hs => by simp [OT.lf] at f
  | .ex x, _, _, h, f, hs => by simp [OT.lf] at f
theorem oall_lf (sh : Same S H) : ∀ (ts : List OT) (vs : List V) (A : List Addr), OAll S H vs ts A → OT.lfs ts = true → (∀ a ∈ A, S1 a = none) → OAll (frz S1 H []) H vs ts A
  | [], _, _, h, _, _ => by cases h; exact .nil
  | t :: ts, _, _, h, f, hs => by
    simp only [OT.lfs, Bool.and_eq_true] at f
    cases h with
    | cons h1 h2 => exact .cons (ook_lf sh t _ _ h1 f.1 fun a ha => hs a (List.mem_append_left _ ha)) (oall_lf sh ts _ _ h2 f.2 fun a ha => hs a (List.mem_append_right _ ha))
end
/-- with everything stable ahead of it; then with what was stable, and the tuples -/
theorem xt_low {S1 H1 S' H' : Hp} (sh : Same S1 H1) (xt : Xt H1 H1 S' H') : Xt S1 H1 (frz S1 H' []) H' :=
  Xt.trans ⟨xt.hh, Same.refl S1, sh.trans xt.hh, fun _ _ e => .inl e⟩ (xt_frz (sh.trans xt.hh))
end
section
variable {ρ ρ1 ρ2 ρ' : Env} {ta tb tc te : TE} {tl : TA} {d e x y : D} {r s t : OT} {S H S' H' S0 H0 : Hp} {A0 : List Addr} {n : Nat} {f : List D → Option OT} {ds : List D} {E : XK}
theorem evy_call (h : EvL tl ρ ds ρ1) (hn : ds.length = n) (hf : f ds = some r) : EvY (tCall (spP n f) [] E tl) ρ r ρ1 := fun S0 H0 A0 S H τσ τρ σ Q l o q =>
  h S0 H0 A0 S H τσ τρ σ _ l o fun vs S1 H1 s1 o1 h1 => by
    rw [List.append_nil]
    exact ⟨S1, ds, r, hn, o1.sh, h1, hf, fun v S' H' B xt hr nd fr => q v S' H' (s1.trans xt.ss) (o1.push xt hr nd fr)⟩
theorem rd_call (h : RdL tl ρ ds) (hn : ds.length = n) (hf : f ds = some r) (hx : r.toD = some x) : RdE (tCall (spP n f) [] E tl) ρ x := fun S0 H0 A0 S H τσ τρ σ Q l o q =>
  h S0 H0 A0 S H τσ τρ σ _ l o fun vs S1 H1 x1 h1 => by
    rw [List.append_nil]
    refine ⟨H1, ds, r, hn, Same.refl H1, h1, hf, fun v S' H' B xt hr nd fr => ?_⟩
    exact q v S1 H' (x1.trans ⟨xt.hh, Same.refl S1, x1.sh.trans xt.hh, fun _ _ e => .inl e⟩) (ook_rp xt.sh _ _ _ _ hr hx)
theorem evy_callR (h : RdL tl ρ ds) (hn : ds.length = n) (hf : f ds = some r) (hx : r.lf = true) : EvY (tCall (spP n f) [] E tl) ρ r ρ := fun S0 H0 A0 S H τσ τρ σ Q l o q =>
  h S0 H0 A0 S H τσ τρ σ _ l o fun vs S1 H1 x1 h1 => by
    rw [List.append_nil]
    refine ⟨H1, ds, r, hn, Same.refl H1, h1, hf, fun v S' H' B xt hr nd fr => ?_⟩
    have x2 := xt_low x1.sh xt
    exact q v _ H' (x1.ss.trans x2.ss) ((o.ext x1).push x2 (ook_lf xt.sh _ _ _ hr hx fun a ha => x1.sh.free (fr a ha)) nd fr)
end
end MR
namespace MR
open PySem L2 PL
variable [kf : KF]
/-! ### paths into owned trees -/
def OT.at : OT → List Nat → Option OT
  | t, [] => some t
  | .nd _ ts, i :: p => match ts[i]? with
    | some t => OT.at t p
    | Option.none => Option.none
  | _, _ :: _ => Option.none
def OT.put : OT → List Nat → OT → OT
  | _, [], s => s
  | .nd k ts, i :: p, s => match ts[i]? with
    | some t => .nd k (ts.set i (OT.put t p s))
    | Option.none => .nd k ts
  | t, _ :: _, _ => t
def kids : Option HO → List V
  | some (.lst vs) => vs
  | some (.tup vs) => vs
  | some (.dK kvs) => kvs.map (·.2)
  | some (.dT kvs) => kvs.map (·.2)
  | _ => []
/-- where a path leads, in the heap -/
def follow (H : Hp) : V → List Nat → Option V
  | v, [] => some v
  | .ref a, i :: p => match (kids (H a))[i]? with
    | some v => follow H v p
    | Option.none => Option.none
  | _, _ :: _ => Option.none
section
variable {S H S' H' S0 H0 : Hp}
theorem kids_shape {k : Kd} {vs : List V} {n : Nat} (h : k.fits n) (hn : vs.length = n) : kids (some (shape k vs)) = vs := by
  cases k with
  | lst => rfl
  | tup => rfl
  | dK ks =>
    show (ks.zip vs).map (·.2) = vs
    rw [List.map_snd_zip]; have h : ks.length = n := h; omega
  | dT ks =>
    show (ks.zip vs).map (·.2) = vs
    rw [List.map_snd_zip]; have h : ks.length = n := h; omega
theorem OAll.pick : ∀ {ts : List OT} {vs : List V} {B : List Addr}, OAll S H vs ts B → B.Nodup → ∀ {i : Nat} {s : OT}, ts[i]? = some s → ∃ v A, vs[i]? = some v ∧ OOk S H v s A ∧ A.Nodup ∧ (∀ a ∈ A, a ∈ B) ∧
    ∀ {S' H' : Hp} {s' : OT} {A' : List Addr}, Same S S' → (∀ b xs, H b = some (.tup xs) → H' b = some (.tup xs)) → (∀ a ∈ B, a ∉ A → S' a = none ∧ H' a = H a) → OOk S' H' v s' A' → A'.Nodup → (∀ a ∈ A', a ∈ A ∨ a ∉ B) →
      ∃ B', OAll S' H' vs (ts.set i s') B' ∧ B'.Nodup ∧ ∀ a ∈ B', a ∈ A' ∨ (a ∈ B ∧ a ∉ A)
  | [], _, _, h, _, i, s, e => by simp at e
  | t :: ts, _, _, h, nd, i, s, e => by
    cases h with
    | @cons v vs _ _ A0 B h0 ht =>
      have nd1 : A0.Nodup := (List.nodup_append.mp nd).1
      have nd2 : B.Nodup := (List.nodup_append.mp nd).2.1
      have dj : ∀ a ∈ A0, a ∉ B := fun a ha hb => (List.nodup_append.mp nd).2.2 a ha a hb rfl
      cases i with
      | zero =>
        have e' : t = s := by simpa using e
        subst e'
        refine ⟨v, A0, rfl, h0, nd1, fun a ha => List.mem_append_left _ ha, fun {S' H' s' A'} ss tp k h' n' m' => ?_⟩
        refine ⟨A' ++ B, .cons h' (oall_keep ss tp _ _ _ ht fun a ha => k a (List.mem_append_right _ ha) fun z => dj a z ha), ?_, fun a ha => ?_⟩
        · refine List.nodup_append.mpr ⟨n', nd2, fun a ha b hb e => ?_⟩
          subst e
          rcases m' a ha with z | z
          · exact dj a z hb
          · exact z (List.mem_append_right _ hb)
        · rcases List.mem_append.mp ha with z | z
          · exact .inl z
          · exact .inr ⟨List.mem_append_right _ z, fun y => dj a y z⟩
      | succ i =>
        obtain ⟨w, A, e1, e2, e3, e4, e5⟩ := OAll.pick ht nd2 (i := i) (s := s) (by simpa using e)
        refine ⟨w, A, by simpa using e1, e2, e3, fun a ha => List.mem_append_right _ (e4 a ha), fun {S' H' s' A'} ss tp k h' n' m' => ?_⟩
        obtain ⟨B', q1, q2, q3⟩ := e5 ss tp (fun a ha na => k a (List.mem_append_right _ ha) na) h' n' (fun a ha => by
          rcases m' a ha with z | z
          · exact .inl z
          · exact .inr fun hb => z (List.mem_append_right _ hb))
        refine ⟨A0 ++ B', .cons (ook_keep ss tp _ _ _ h0 fun a ha => k a (List.mem_append_left _ ha) fun z => dj a ha (e4 a z)) q1, ?_, fun a ha => ?_⟩
        · refine List.nodup_append.mpr ⟨nd1, q2, fun a ha b hb e => ?_⟩
          subst e
          rcases q3 a hb with z | z
          · rcases m' a z with y | y
            · exact dj a ha (e4 a y)
            · exact y (List.mem_append_left _ ha)
          · exact dj a ha z.1
        · rcases List.mem_append.mp ha with z | z
          · exact .inr ⟨List.mem_append_left _ z, fun y => dj a z (e4 a y)⟩
          · rcases q3 a z with y | y
            · exact .inl y
            · exact .inr ⟨List.mem_append_right _ y.1, y.2⟩
/-- a subtree taken, and put back changed in place -/
theorem ook_path : ∀ (p : List Nat) {t s : OT} {v : V} {A : List Addr}, OOk S H v t A → A.Nodup → t.at p = some s → ∃ w A1, follow H v p = some w ∧ OOk S H w s A1 ∧ A1.Nodup ∧ (∀ a ∈ A1, a ∈ A) ∧
    ∀ {S' H' : Hp} {s' : OT} {A' : List Addr}, Same S S' → (∀ b xs, H b = some (.tup xs) → H' b = some (.tup xs)) → (∀ a ∈ A, a ∉ A1 → S' a = none ∧ H' a = H a) → OOk S' H' w s' A' → A'.Nodup → (∀ a ∈ A', a ∈ A1 ∨ a ∉ A) →
      ∃ B', OOk S' H' v (t.put p s') B' ∧ B'.Nodup ∧ ∀ a ∈ B', a ∈ A' ∨ (a ∈ A ∧ a ∉ A1)
  | [], t, s, v, A, h, nd, e => by
    simp only [OT.at, Option.some.injEq] at e
    subst e
    exact ⟨v, A, rfl, h, nd, fun _ z => z, fun {S' H' s' A'} ss tp k h' n' m' => ⟨A', h', n', fun a ha => .inl ha⟩⟩
  | i :: p, .no, s, v, A, h, nd, e => by simp [OT.at] at e
  | i :: p, .d x, s, v, A, h, nd, e => by simp [OT.at] at e
  | i :: p, .fl ts, s, v, A, h, nd, e => by simp [OT.at] at e
  | i :: p, .ex x, s, v, A, h, nd, e => by simp [OT.at] at e
  | i :: p, .nd k ts, s, v, A, h, nd, e => by
    cases ht : ts[i]? with
    | none => simp [OT.at, ht] at e
    | some t =>
      simp only [OT.at, ht] at e
      cases h with
      | @tup a vs _ _ g1 g2 =>
        obtain ⟨u, A2, e1, e2, e3, e4, e5⟩ := g2.pick nd ht
        obtain ⟨w, A1, f1, f2, f3, f4, f5⟩ := ook_path p e2 e3 e
        refine ⟨w, A1, ?_, f2, f3, fun a ha => e4 a (f4 a ha), fun {S' H' s' A'} ss tp kk h' n' m' => ?_⟩
        · show (match (kids (H a))[i]? with | some v => follow H v p | Option.none => Option.none) = _
          rw [g1]; show (match vs[i]? with | some v => follow H v p | Option.none => Option.none) = _
          rw [e1]; exact f1
        · obtain ⟨B1, q1, q2, q3⟩ := f5 ss tp (fun a ha na => kk a (e4 a ha) na) h' n' (fun a ha => by
            rcases m' a ha with z | z
            · exact .inl z
            · exact .inr fun y => z (e4 a y))
          obtain ⟨B2, r1, r2, r3⟩ := e5 ss tp (fun a ha na => kk a ha fun z => na (f4 a z)) q1 q2 (fun a ha => by
            rcases q3 a ha with z | z
            · rcases m' a z with y | y
              · exact .inl (f4 a y)
              · exact .inr y
            · exact .inl z.1)
          refine ⟨B2, by simp only [OT.put, ht]; exact .tup (tp _ _ g1) r1, r2, fun a ha => ?_⟩
          rcases r3 a ha with z | z
          · rcases q3 a z with y | y
            · exact .inl y
            · exact .inr ⟨e4 a y.1, y.2⟩
          · exact .inr ⟨z.1, fun y => z.2 (f4 a y)⟩
      | @nd a _ vs _ B g0 g1 g2 g3 g4 =>
        have ndc := List.nodup_cons.mp nd
        obtain ⟨u, A2, e1, e2, e3, e4, e5⟩ := g4.pick ndc.2 ht
        obtain ⟨w, A1, f1, f2, f3, f4, f5⟩ := ook_path p e2 e3 e
        have aA1 : a ∉ A1 := fun z => ndc.1 (e4 a (f4 a z))
        refine ⟨w, A1, ?_, f2, f3, fun b hb => List.mem_cons_of_mem _ (e4 b (f4 b hb)), fun {S' H' s' A'} ss tp kk h' n' m' => ?_⟩
        · show (match (kids (H a))[i]? with | some v => follow H v p | Option.none => Option.none) = _
          rw [g3, kids_shape g1 g4.len, e1]; exact f1
        · obtain ⟨B1, q1, q2, q3⟩ := f5 ss tp (fun b hb na => kk b (List.mem_cons_of_mem _ (e4 b hb)) na) h' n' (fun b hb => by
            rcases m' b hb with z | z
            · exact .inl z
            · exact .inr fun y => z (List.mem_cons_of_mem _ (e4 b y)))
          obtain ⟨B2, r1, r2, r3⟩ := e5 ss tp (fun b hb na => kk b (List.mem_cons_of_mem _ hb) fun z => na (f4 b z)) q1 q2 (fun b hb => by
            rcases q3 b hb with z | z
            · rcases m' b z with y | y
              · exact .inl (f4 b y)
              · exact .inr fun x => y (List.mem_cons_of_mem _ x)
            · exact .inl z.1)
          obtain ⟨k1, k2⟩ := kk a List.mem_cons_self aA1
          have aB2 : a ∉ B2 := fun z => by
            rcases r3 a z with y | y
            · rcases q3 a y with x | x
              · rcases m' a x with w | w
                · exact aA1 w
                · exact w List.mem_cons_self
              · exact ndc.1 (e4 a x.1)
            · exact ndc.1 y.1
          refine ⟨a :: B2, by simp only [OT.put, ht]; exact .nd g0 (by rw [List.length_set]; exact g1) k1 (k2.trans g3) r1, List.nodup_cons.mpr ⟨aB2, r2⟩, fun b hb => ?_⟩
          rcases List.mem_cons.mp hb with z | hb
          · subst z; exact .inr ⟨List.mem_cons_self, aA1⟩
          · rcases r3 b hb with z | z
            · rcases q3 b z with y | y
              · exact .inl y
              · exact .inr ⟨List.mem_cons_of_mem _ (e4 b y.1), y.2⟩
            · exact .inr ⟨List.mem_cons_of_mem _ z.1, fun y => z.2 (f4 b y)⟩
end
/-! ### what stands at a path of a slot -/
def PtE (te : TE) (ρ : Env) (i : Nat) (p : List Nat) : Prop := ∀ (S0 H0 : Hp) (A0 : List Addr) (S H : Hp) (τσ : List (Option V)) (τρ : List OT) (σ : St) (Q : VK), τσ.length = τρ.length → Ok S0 H0 A0 S H (τσ ++ σ) (τρ ++ ρ) →
  (∀ v0 v S' H', Xt S H S' H' → σ[i]? = some (some v0) → follow H' v0 p = some v → Q v H') → te σ H Q
section
variable {ρ ρ1 ρ2 ρ' : Env} {ta tb tc te : TE} {tl : TA} {d e x y : D} {r s t t0 : OT} {S H S' H' S0 H0 : Hp} {A0 : List Addr} {σ τσ : St} {τρ : List OT} {ts : List OT} {js : List Nat} {i : Nat} {p : List Nat}
theorem pt_var (h : ρ[i]? = some t) (hn : t ≠ .no) : PtE (tVar i) ρ i [] := fun S0 H0 A0 S H τσ τρ σ Q l o q => by
  obtain ⟨v, A, e1, e2⟩ := o.slot l h hn
  exact ⟨v, e1, q v v S H (.refl o.sh) e1 rfl⟩
/-- the slot's tree by its place in the heap -/
theorem Ok.tree (l : τσ.length = τρ.length) (o : Ok S0 H0 A0 S H (τσ ++ σ) (τρ ++ ρ)) (h : ρ[i]? = some t) (hn : t ≠ .no) : ∃ v0 A, σ[i]? = some (some v0) ∧ OOk S H v0 t A ∧ A.Nodup ∧ (∀ a ∈ A, a ∈ A0 ∨ H0 a = none) ∧
    ∀ {S' H' : Hp} {t' : OT} {A' : List Addr}, Xa A0 S0 H0 S' H' → Same S S' → (∀ b xs, H b = some (.tup xs) → H' b = some (.tup xs)) → (∀ a, (∃ u, H a = some u) → a ∉ A → S a = none → S' a = none ∧ H' a = H a) → OOk S' H' v0 t' A' → A'.Nodup → (∀ a ∈ A', a ∈ A ∨ H a = none) →
      Ok S0 H0 A0 S' H' (τσ ++ σ) (τρ ++ ρ.set i t') := by
  obtain ⟨B, he, nd, fr⟩ := o.env
  obtain ⟨w, A, p1, p2, p3, p4, p5⟩ := he.pick nd (i := τρ.length + i) (s := t) (by rw [get_app rfl]; exact h)
  rw [get_app l] at p1
  cases p2 with
  | no => exact (hn rfl).elim
  | @is v0 _ _ p2 =>
    refine ⟨v0, A, p1, p2, p3, fun a ha => fr a (p4 a ha), fun {S' H' t' A'} xa ss tp kk h' n' m' => ?_⟩
    obtain ⟨B', q1, q2, q3⟩ := p5 (S' := S') (H' := H') (v' := some v0) (s' := t') (A' := A') ss tp (fun a ha na => by
      obtain ⟨z1, u, z2, _⟩ := he.at a ha
      exact kk a ⟨u, z2⟩ na z1) (.is h') n' (fun a ha => by
      rcases m' a ha with z | z
      · exact .inl z
      · exact .inr fun hb => by
          obtain ⟨_, u, hu, _⟩ := he.at a hb
          rw [z] at hu; cases hu)
    rw [set_app l, set_app rfl, set_same p1] at q1
    refine ⟨xa, B', q1, q2, fun a ha => ?_⟩
    rcases q3 a ha with z | z
    · rcases m' a z with y | y
      · exact fr a (p4 a y)
      · exact .inr (o.xt.dm a y)
    · exact fr a z.1
theorem pt_ix {n : Int} {j : Nat} {k : Kd} (hp : PtE ta ρ i p) (ht : ρ[i]? = some t) (hs : t.at p = some (.nd .lst ts)) (hb : RdE tb ρ (.int n)) (hj : ixN ts.length n = some j) : PtE (tOp (rIxL kf.K) ta tb) ρ i (p ++ [j]) := fun S0 H0 A0 S H τσ τρ σ Q l o q =>
  hp S0 H0 A0 S H τσ τρ σ _ l o fun v0 v S1 H1 x1 e1 f1 => hb S0 H0 A0 S1 H1 τσ τρ σ _ l (o.ext x1) fun u S2 H2 x2 h2 => by
    cases h2
    have o2 := (o.ext x1).ext x2
    have hn : t ≠ .no := by rintro rfl; cases p <;> simp [OT.at] at hs
    obtain ⟨v0', A, g1, g2, g3, _⟩ := o2.tree l ht hn
    rw [e1] at g1
    cases g1
    obtain ⟨w, A1, f2, f3, _⟩ := ook_path p g2 g3 hs
    have o1 := o.ext x1
    obtain ⟨v0'', A', g1', g2', g3', _⟩ := o1.tree l ht hn
    rw [e1] at g1'
    cases g1'
    obtain ⟨w', A1', f2', f3', _⟩ := ook_path p g2' g3' hs
    rw [f1] at f2'
    cases f2'
    have same : follow H2 v0 p = follow H1 v0 p := by
      have gen : ∀ (p : List Nat) (v w : V), follow H1 v p = some w → follow H2 v p = some w := by
        intro p
        induction p with
        | nil => intro v w h; exact h
        | cons i p ih =>
          intro v w h
          cases v with
          | ref a =>
            simp only [follow] at h ⊢
            cases hk : (kids (H1 a))[i]? with
            | none => rw [hk] at h; cases h
            | some u =>
              rw [hk] at h
              have : kids (H2 a) = kids (H1 a) := by
                cases hh : H1 a with
                | none => rw [hh] at hk; simp [kids] at hk
                | some o' => rw [x2.hh a o' hh]
              rw [this, hk]
              exact ih u w h
          | _ => simp [follow] at h
      rw [f1]
      exact gen p v0 v f1
    rw [f2, f1] at same
    cases same
    cases f3 with
    | @nd a _ vs _ B y0 y1 y2 y3 y4 =>
      have y3 : H2 a = some (.lst vs) := y3
      have len := y4.len
      have hlt : j < vs.length := by
        have := (ixN_seq hj).2.1
        omega
      refine ⟨a, vs, n, vs[j], rfl, rfl, .inl (.of y3), ?_, q v0 vs[j] S2 H2 (x1.trans x2) e1 ?_⟩
      · unfold atI
        rw [len, hj]
        exact List.getElem?_eq_getElem hlt
      · have app : ∀ (p : List Nat) (v : V), follow H2 v p = some (.ref a) → follow H2 v (p ++ [j]) = some vs[j] := by
          intro p
          induction p with
          | nil =>
            intro v h
            simp only [follow, Option.some.injEq] at h
            subst h
            simp only [List.nil_append, follow, y3, kids]
            rw [List.getElem?_eq_getElem hlt]
          | cons i p ih =>
            intro v h
            cases v with
            | ref b =>
              simp only [List.cons_append, follow] at h ⊢
              cases hk : (kids (H2 b))[i]? with
              | none => rw [hk] at h; cases h
              | some u => rw [hk] at h; exact ih u h
            | _ => simp [follow] at h
        exact app p v0 f2
end
end MR
namespace MR
open PySem L2 PL
variable [kf : KF] [wx : WXI]
section
variable {ρ ρ1 ρ2 ρ' : Env} {ta tb tc te : TE} {tl : TA} {d e x : D} {r s t t0 : OT} {S H S' H' S0 H0 : Hp} {A0 : List Addr} {σ τσ : St} {τρ : List OT} {ts : List OT} {js : List Nat} {i : Nat} {p : List Nat} {k : Kd}
theorem OOk.inv_nd {v : V} {A : List Addr} (h : OOk S H v (.nd k ts) A) (hk : k.isTup = false) : ∃ a vs B, v = .ref a ∧ A = a :: B ∧ k.fits ts.length ∧ S a = none ∧ H a = some (shape k vs) ∧ OAll S H vs ts B := by
  cases h with
  | tup h1 h2 => cases hk
  | nd h0 h1 h2 h3 h4 => exact ⟨_, _, _, rfl, rfl, h1, h2, h3, h4⟩
/-- a node of slot i is written anew, with what was held on top -/
theorem Ok.rewrite {y : Option V} (l : τσ.length = τρ.length) (o : Ok S0 H0 A0 S H (y :: (τσ ++ σ)) (r :: (τρ ++ ρ))) (ht : ρ[i]? = some t) (hs : t.at p = some (.nd k ts)) (hk : k.isTup = false) :
    ∃ v0 a vs B C, σ[i]? = some (some v0) ∧ follow H v0 p = some (.ref a) ∧ S a = none ∧ H a = some (shape k vs) ∧ k.fits ts.length ∧ OAll S H vs ts B ∧ OSl S H y r C ∧ (B ++ C).Nodup ∧
      ∀ {k' : Kd} {vs' : List V} {ts' : List OT} {B' : List Addr} {y' : Option V} {r' : OT} {C' : List Addr}, k'.isTup = false → k'.fits ts'.length → OAll S H vs' ts' B' → OSl S H y' r' C' → (B' ++ C').Nodup → (∀ b ∈ B' ++ C', b ∈ B ++ C) →
        Ok S0 H0 A0 S (upd H a (shape k' vs')) (y' :: (τσ ++ σ)) (r' :: (τρ ++ ρ.set i (t.put p (.nd k' ts')))) := by
  obtain ⟨A, he, nd, fr⟩ := o.env
  cases he with
  | @cons _ _ C _ _ D pC pD =>
    have ndA := List.nodup_append.mp nd
    have hn : t ≠ .no := by rintro rfl; cases p <;> simp [OT.at] at hs
    obtain ⟨w, Ai, p1, p2, p3, p4, p5⟩ := pD.pick ndA.2.1 (i := τρ.length + i) (s := t) (by rw [get_app rfl]; exact ht)
    rw [get_app l] at p1
    cases p2 with
    | no => exact (hn rfl).elim
    | @is v0 _ _ p2 =>
      obtain ⟨w, A1, f1, f2, f3, f4, f5⟩ := ook_path p p2 p3 hs
      obtain ⟨a, vs, B, rfl, rfl, g1, g2, g3, g4⟩ := f2.inv_nd hk
      have aB : a ∉ B := (List.nodup_cons.mp f3).1
      have ndB : B.Nodup := (List.nodup_cons.mp f3).2
      have aAi : a ∈ Ai := f4 a List.mem_cons_self
      have aD : a ∈ D := p4 a aAi
      have CD : ∀ b, b ∈ C → b ∉ D := fun b hb hd => ndA.2.2 b hb b hd rfl
      have BAi : ∀ b ∈ B, b ∈ Ai := fun b hb => f4 b (List.mem_cons_of_mem _ hb)
      have ndBC : (B ++ C).Nodup := List.nodup_append.mpr ⟨ndB, ndA.1, fun b hb c hc e => by subst e; exact CD b hc (p4 b (BAi b hb))⟩
      refine ⟨v0, a, vs, B, C, p1, f1, g2, g3, g1, g4, pC, ndBC, fun {k' vs' ts' B' y' r' C'} hk' hf' hB' hC' nd' sub => ?_⟩
      have ne : ∀ b ∈ B ++ C, b ≠ a := fun b hb e => by
        subst e
        rcases List.mem_append.mp hb with z | z
        · exact aB z
        · exact CD b z aD
      have nda' := List.nodup_append.mp nd'
      have tp : ∀ b xs, H b = some (.tup xs) → upd H a (shape k' vs') b = some (.tup xs) := fun b xs e => by
        rw [upd_ne]; exact e
        intro z; subst z; rw [g3] at e; exact shape_tup hk xs (Option.some.inj e)
      have n1 : OOk S (upd H a (shape k' vs')) (.ref a) (.nd k' ts') (a :: B') :=
        .nd hk' hf' g2 upd_same (oall_keep (Same.refl S) tp _ _ _ hB' fun b hb => ⟨(oall_at _ _ _ hB' b hb).1, upd_ne (ne b (sub b (List.mem_append_left _ hb)))⟩)
      have ndaB' : (a :: B').Nodup := List.nodup_cons.mpr ⟨fun z => ne a (sub a (List.mem_append_left _ z)) rfl, nda'.1⟩
      have up : ∀ b, b ≠ a → S b = none → S b = none ∧ upd H a (shape k' vs') b = H b := fun b hb hs => ⟨hs, upd_ne hb⟩
      obtain ⟨B2, q1, q2, q3⟩ := f5 (S' := S) (H' := upd H a (shape k' vs')) (s' := .nd k' ts') (A' := a :: B') (Same.refl S) tp (fun b hb na => up b (fun z => na (z ▸ List.mem_cons_self)) (ook_at _ _ _ p2 b hb).1) n1 ndaB' (fun b hb => by
        rcases List.mem_cons.mp hb with z | z
        · subst z; exact .inl List.mem_cons_self
        · rcases List.mem_append.mp (sub b (List.mem_append_left _ z)) with w | w
          · exact .inl (List.mem_cons_of_mem _ w)
          · exact .inr fun hd => CD b w (p4 b hd))
      obtain ⟨B3, r1, r2, r3⟩ := p5 (S' := S) (H' := upd H a (shape k' vs')) (v' := some v0) (s' := t.put p (.nd k' ts')) (A' := B2) (Same.refl S) tp (fun b hb na => up b (fun z => na (z ▸ aAi)) (pD.at b hb).1) (.is q1) q2 (fun b hb => by
        rcases q3 b hb with z | z
        · rcases List.mem_cons.mp z with z | z
          · subst z; exact .inl aAi
          · rcases List.mem_append.mp (sub b (List.mem_append_left _ z)) with w | w
            · exact .inl (BAi b w)
            · exact .inr (CD b w)
        · exact .inl z.1)
      rw [set_app l, set_app rfl, set_same p1] at r1
      have aF : a ∈ A0 ∨ H0 a = none := fr a (List.mem_append_right _ aD)
      refine ⟨⟨fun b o' hb e => ?_, fun b e => ?_, fun b xs e => tp b xs (o.xt.tp b xs e), o.xt.ss, fun b o' e => ?_, o.xt.nw⟩, C' ++ B3, .cons (hC'.keep (Same.refl S) tp fun b hb => ⟨(hC'.at b hb).1, upd_ne (ne b (sub b (List.mem_append_right _ hb)))⟩) r1, ?_, fun b hb => ?_⟩
      · rw [upd_ne]; exact o.xt.hh b o' hb e
        intro z; subst z
        rcases aF with z | z
        · exact hb z
        · rw [z] at e; cases e
      · by_cases z : b = a
        · subst z; rw [upd_same] at e; cases e
        · rw [upd_ne z] at e; exact o.xt.dm b e
      · rw [upd_ne]; exact o.sh b o' e
        intro z; subst z; rw [g2] at e; cases e
      · refine List.nodup_append.mpr ⟨nda'.2.1, r2, fun b hb c hc e => ?_⟩
        subst e
        have inBC := sub b (List.mem_append_right _ hb)
        rcases r3 b hc with z | z
        · rcases q3 b z with w | w
          · rcases List.mem_cons.mp w with v | v
            · exact ne b inBC v
            · exact nda'.2.2 b v b hb rfl
          · rcases List.mem_append.mp inBC with v | v
            · exact w.2 (List.mem_cons_of_mem _ v)
            · exact CD b v (p4 b w.1)
        · rcases List.mem_append.mp inBC with v | v
          · exact z.2 (BAi b v)
          · exact CD b v z.1
      · have fromBC : ∀ b, b ∈ B ++ C → b ∈ A0 ∨ H0 b = none := fun b hb => by
          rcases List.mem_append.mp hb with z | z
          · exact fr b (List.mem_append_right _ (p4 b (BAi b z)))
          · exact fr b (List.mem_append_left _ z)
        rcases List.mem_append.mp hb with z | z
        · exact fromBC b (sub b (List.mem_append_right _ z))
        · rcases r3 b z with w | w
          · rcases q3 b w with v | v
            · rcases List.mem_cons.mp v with u | u
              · subst u; exact aF
              · exact fromBC b (sub b (List.mem_append_left _ u))
            · exact fr b (List.mem_append_right _ (p4 b v.1))
          · exact fr b (List.mem_append_right _ w.1)
theorem OAll.app : ∀ {ts us : List OT} {vs ws : List V} {A B : List Addr}, OAll S H vs ts A → OAll S H ws us B → OAll S H (vs ++ ws) (ts ++ us) (A ++ B)
  | [], us, _, ws, _, B, h, h' => by cases h; exact h'
  | t :: ts, us, _, ws, _, B, h, h' => by cases h with | cons a b => have := OAll.cons a (b.app h'); simpa [List.append_assoc] using this
theorem OAll.one {v : V} {A : List Addr} (h : OOk S H v t A) : OAll S H [v] [t] A := by have := OAll.cons h .nil; simpa using this
theorem OAll.put {y : V} : ∀ {ts : List OT} {vs : List V} {B C : List Addr} {j : Nat}, OAll S H vs ts B → OOk S H y r C → (B ++ C).Nodup → ∃ B', OAll S H (vs.set j y) (ts.set j r) B' ∧ B'.Nodup ∧ ∀ b ∈ B', b ∈ B ++ C
  | [], _, _, C, j, h, h', nd => by
    cases h; exact ⟨[], .nil, List.nodup_nil, fun b hb => by cases hb⟩
  | t :: ts, _, _, C, 0, h, h', nd => by
    cases h with
    | @cons v vs _ _ A B a b =>
      have nd1 := List.nodup_append.mp nd
      have nd2 := List.nodup_append.mp nd1.1
      refine ⟨C ++ B, .cons h' b, List.nodup_append.mpr ⟨nd1.2.1, nd2.2.1, fun x hx y hy e => ?_⟩, fun x hx => ?_⟩
      · subst e; exact nd1.2.2 x (List.mem_append_right _ hy) x hx rfl
      · rcases List.mem_append.mp hx with z | z
        · exact List.mem_append_right _ z
        · exact List.mem_append_left _ (List.mem_append_right _ z)
  | t :: ts, _, _, C, j + 1, h, h', nd => by
    cases h with
    | @cons v vs _ _ A B a b =>
      have nd1 := List.nodup_append.mp nd
      have nd2 := List.nodup_append.mp nd1.1
      obtain ⟨B', q1, q2, q3⟩ := b.put (j := j) h' (List.nodup_append.mpr ⟨nd2.2.1, nd1.2.1, fun x hx y hy => nd1.2.2 x (List.mem_append_right _ hx) y hy⟩)
      refine ⟨A ++ B', .cons a q1, List.nodup_append.mpr ⟨nd2.1, q2, fun x hx y hy e => ?_⟩, fun x hx => ?_⟩
      · subst e
        rcases List.mem_append.mp (q3 x hy) with z | z
        · exact nd2.2.2 x hx x z rfl
        · exact nd1.2.2 x (List.mem_append_left _ hx) x z rfl
      · rcases List.mem_append.mp hx with z | z
        · exact List.mem_append_left _ (List.mem_append_left _ z)
        · rcases List.mem_append.mp (q3 x z) with w | w
          · exact List.mem_append_left _ (List.mem_append_right _ w)
          · exact List.mem_append_right _ w
theorem OAll.out : ∀ {ts : List OT} {vs : List V} {B : List Addr} {j : Nat}, OAll S H vs ts B → B.Nodup → ts[j]? = some s → ∃ v B' C', vs[j]? = some v ∧ OAll S H (vs.eraseIdx j) (ts.eraseIdx j) B' ∧ OOk S H v s C' ∧ (B' ++ C').Nodup ∧ ∀ b ∈ B' ++ C', b ∈ B
  | [], _, _, j, h, nd, e => by simp at e
  | t :: ts, _, _, 0, h, nd, e => by
    have e : t = s := by simpa using e
    subst e
    cases h with
    | @cons v vs _ _ A B a b =>
      have nd1 := List.nodup_append.mp nd
      exact ⟨v, B, A, rfl, b, a, List.nodup_append.mpr ⟨nd1.2.1, nd1.1, fun x hx y hy e => nd1.2.2 y hy x hx e.symm⟩, fun x hx => by
        rcases List.mem_append.mp hx with z | z
        · exact List.mem_append_right _ z
        · exact List.mem_append_left _ z⟩
  | t :: ts, _, _, j + 1, h, nd, e => by
    cases h with
    | @cons v vs _ _ A B a b =>
      have nd1 := List.nodup_append.mp nd
      obtain ⟨w, B', C', q0, q1, q2, q3, q4⟩ := b.out (j := j) nd1.2.1 (by simpa using e)
      have nd3 := List.nodup_append.mp q3
      refine ⟨w, A ++ B', C', by simpa using q0, .cons a q1, q2, List.nodup_append.mpr ⟨List.nodup_append.mpr ⟨nd1.1, nd3.1, fun x hx y hy e => by subst e; exact nd1.2.2 x hx x (q4 x (List.mem_append_left _ hy)) rfl⟩, nd3.2.1, fun x hx y hy e => ?_⟩, fun x hx => ?_⟩
      · subst e
        rcases List.mem_append.mp hx with z | z
        · exact nd1.2.2 x z x (q4 x (List.mem_append_right _ hy)) rfl
        · exact nd3.2.2 x z x hy rfl
      · rcases List.mem_append.mp hx with z | z
        · rcases List.mem_append.mp z with z | z
          · exact List.mem_append_left _ z
          · exact List.mem_append_right _ (q4 x (List.mem_append_left _ z))
        · exact List.mem_append_right _ (q4 x (List.mem_append_right _ z))
theorem Ok.dummy (o : Ok S0 H0 A0 S H σ ρ) : Ok S0 H0 A0 S H (Option.none :: σ) (.no :: ρ) := by
  obtain ⟨A, h1, h2, h3⟩ := o.env
  exact ⟨o.xt, [] ++ A, .cons .no h1, by simpa using h2, by simpa using h3⟩
/-- the pointer stays where it is as long as the heap only grows -/
theorem follow_mono (x : Xt S H S' H') : ∀ (p : List Nat) (v w : V), follow H v p = some w → follow H' v p = some w := by
  intro p
  induction p with
  | nil => intro v w h; exact h
  | cons i p ih =>
    intro v w h
    cases v with
    | ref a =>
      simp only [follow] at h ⊢
      cases hk : (kids (H a))[i]? with
      | none => rw [hk] at h; cases h
      | some u =>
        rw [hk] at h
        have e : kids (H' a) = kids (H a) := by
          cases hh : H a with
          | none => rw [hh] at hk; simp [kids] at hk
          | some o' => rw [x.hh a o' hh]
        rw [e, hk]
        exact ih u w h
    | _ => simp [follow] at h
/-- a fresh result; nothing changes -/
def EvF (te : TE) (ρ : Env) (r : OT) : Prop := ∀ (S0 H0 : Hp) (A0 : List Addr) (S H : Hp) (τσ : List (Option V)) (τρ : List OT) (σ : St) (Q : VK), τσ.length = τρ.length → Ok S0 H0 A0 S H (τσ ++ σ) (τρ ++ ρ) →
  (∀ v S' H' A, Xt S H S' H' → OOk S' H' v r A → A.Nodup → (∀ a ∈ A, H a = none) → Q v H') → te σ H Q
theorem evf_flat (h : RdE te ρ x) (f : tfl x = true) : EvF te ρ (.d x) := fun S0 H0 A0 S H τσ τρ σ Q l o q => h S0 H0 A0 S H τσ τρ σ Q l o fun v S' H' xt hr => q v _ H' [] (xt.trans (xt_frz xt.sh)) (.d (rp_tfl [] x v f hr)) List.nodup_nil (fun a ha => by cases ha)
/-- xs.append(e), xs a path -/
theorem run_append {tp : TE} {t : OT} (hp : PtE tp ρ i p) (ht : ρ[i]? = some t) (hs : t.at p = some (.nd .lst ts)) (he : EvF te ρ r) (hn : r ≠ .no) (hz : ts.length ≤ 1000000) :
    RunS js (tDrop (tBM kf.K "list" rAppend tp (tCons te tNil))) ρ .nx (ρ.set i (t.put p (.nd .lst (ts ++ [r])))) := fun S0 H0 A0 S H σ F E hF hx o kk =>
  hp S0 H0 A0 S H [] [] σ _ rfl o fun v0 v S1 H1 x1 e1 f1 => by
    have o1 := o.ext x1
    obtain ⟨w0, a, vs, B, C, g1, g2, _, g3, _⟩ := Ok.rewrite (τσ := []) (τρ := []) rfl o1.dummy ht hs rfl
    rw [e1] at g1; cases g1
    rw [f1] at g2; cases g2
    refine ⟨.inl ⟨rfl, vs, .inl (.inl g3)⟩, he S0 H0 A0 S1 H1 [] [] σ _ rfl o1 fun y S2 H2 A xt hr nd fr => ?_⟩
    have o2 := o1.push xt hr nd fr
    obtain ⟨w0', a', vs', B', C', g1', g2', g5, g3', g6, g7, g8, g9, g10⟩ := Ok.rewrite (τσ := []) (τρ := []) rfl o2 ht hs rfl
    rw [e1] at g1'; cases g1'
    rw [follow_mono xt p _ _ f1] at g2'
    cases g2'
    have : vs' = vs := by rw [xt.hh _ _ g3] at g3'; simp [shape] at g3'; exact g3'.symm
    subst this
    refine ⟨a, vs', y, rfl, rfl, xt.hh _ _ g3, sz_lt (by rw [g7.len]; exact hz), ?_⟩
    cases g8 with
    | no => exact (hn rfl).elim
    | is g8 =>
      have := g10 (k' := .lst) (y' := Option.none) (r' := .no) (C' := []) rfl trivial (g7.app (.one g8)) .no (by simpa using g9) (by simp)
      exact kk S2 _ σ (x1.ss.trans xt.ss) hx this.drop
/-- .. of a slot, whatever e does -/
theorem run_appendY (h0 : ρ[i]? = some t0) (h0n : ∃ us, t0 = .nd .lst us) (he : EvY te ρ r ρ1) (ht : ρ1[i]? = some (.nd .lst ts)) (hn : r ≠ .no) (hz : ts.length ≤ 1000000) :
    RunS js (tDrop (tBM kf.K "list" rAppend (tVar i) (tCons te tNil))) ρ .nx (ρ1.set i (.nd .lst (ts ++ [r]))) := fun S0 H0 A0 S H σ F E hF hx o kk => by
  obtain ⟨us, rfl⟩ := h0n
  obtain ⟨w0, a, vs, B, C, g1, g2, _, g3, _⟩ := Ok.rewrite (τσ := []) (τρ := []) (p := []) rfl o.dummy h0 rfl rfl
  simp only [follow, Option.some.injEq] at g2
  subst g2
  refine ⟨_, g1, .inl ⟨rfl, vs, .inl (.inl g3)⟩, he S0 H0 A0 S H [] [] σ _ rfl o fun y S2 H2 s2 o2 => ?_⟩
  obtain ⟨w0', a', vs', B', C', g1', g2', g5, g3', g6, g7, g8, g9, g10⟩ := Ok.rewrite (τσ := []) (τρ := []) (p := []) rfl o2 ht rfl rfl
  rw [g1] at g1'; cases g1'
  simp only [follow, Option.some.injEq] at g2'
  cases g2'
  refine ⟨a, vs', y, rfl, rfl, g3', sz_lt (by rw [g7.len]; exact hz), ?_⟩
  cases g8 with
  | no => exact (hn rfl).elim
  | is g8 =>
    have := g10 (k' := .lst) (y' := Option.none) (r' := .no) (C' := []) rfl trivial (g7.app (.one g8)) .no (by simpa using g9) (by simp)
    exact kk S2 _ σ s2 hx this.drop
/-- xs.pop(e) of a slot -/
theorem evy_pop {n : Int} {j : Nat} (h0 : ρ[i]? = some t0) (h0n : ∃ us, t0 = .nd .lst us) (he : EvD te ρ (.int n) ρ1) (ht : ρ1[i]? = some (.nd .lst ts)) (hj : seqIndex? n ts.length = some j) (hs : ts[j]? = some s) (hb : -(2 ^ 63) ≤ n ∧ n < 2 ^ 63) :
    EvY (tBM kf.K "list" rPopAt (tVar i) (tCons te tNil)) ρ s (ρ1.set i (.nd .lst (ts.eraseIdx j))) := fun S0 H0 A0 S H τσ τρ σ Q l o q => by
  obtain ⟨us, rfl⟩ := h0n
  obtain ⟨w0, a, vs, B, C, g1, g2, _, g3, _⟩ := Ok.rewrite (p := []) l o.dummy h0 rfl rfl
  simp only [follow, Option.some.injEq] at g2
  subst g2
  refine ⟨_, g1, .inl ⟨rfl, vs, .inl (.inl g3)⟩, he S0 H0 A0 S H τσ τρ σ _ l o fun y S2 H2 s2 o2 hy => ?_⟩
  cases hy
  obtain ⟨w0', a', vs', B', C', g1', g2', g5, g3', g6, g7, g8, g9, g10⟩ := Ok.rewrite (p := []) l o2.dummy ht rfl rfl
  rw [g1] at g1'; cases g1'
  simp only [follow, Option.some.injEq] at g2'
  cases g2'
  obtain ⟨v, B2, C2, q0, q1, q2, q3, q4⟩ := g7.out (j := j) (List.nodup_append.mp g9).1 hs
  refine ⟨a, vs', n, j, v, rfl, rfl, g3', hb.1, hb.2, by rw [g7.len]; exact hj, q0, ?_⟩
  have := g10 (k' := .lst) (y' := some v) (r' := s) (C' := C2) rfl trivial q1 (.is q2) q3 (fun b hb => List.mem_append_left _ (q4 b hb))
  exact q v S2 _ s2 this
end
end MR
/-! MR: the mirror: pure functions over slots, told by the terms -/
namespace MR
open PySem L2 PL
abbrev Rm := Env → Option D
abbrev Ym := Env → Option (OT × Env)
abbrev Dm := Env → Option (D × Env)
abbrev Bm := Env → Option Bool
abbrev Tm := Env → Option (Bool × Env)
abbrev Lm := Env → Option (List D × Env)
abbrev Qm := Env → Option (List D)
abbrev Om := Env → Option (List OT × Env)
abbrev Sm := Env → Option (Fl × Env)
abbrev Gm := D → Env → Option Env
abbrev Gms := List D → Env → Option Env
variable [kf : KF] [wx : WXI]
def CR (te : TE) (m : Rm) : Prop := ∀ ρ x, m ρ = some x → RdE te ρ x
def CY (te : TE) (m : Ym) : Prop := ∀ ρ r ρ', m ρ = some (r, ρ') → EvY te ρ r ρ'
def CD (te : TE) (m : Dm) : Prop := ∀ ρ x ρ', m ρ = some (x, ρ') → EvD te ρ x ρ'
def CB (tt : TT) (m : Bm) : Prop := ∀ ρ b, m ρ = some b → RdB tt ρ b
def CT (tt : TT) (m : Tm) : Prop := ∀ ρ b ρ', m ρ = some (b, ρ') → EvT tt ρ b ρ'
def CL (ta : TA) (m : Lm) : Prop := ∀ ρ xs ρ', m ρ = some (xs, ρ') → EvL ta ρ xs ρ'
def CQ (ta : TA) (m : Qm) : Prop := ∀ ρ xs, m ρ = some xs → RdL ta ρ xs
def CO (ta : TA) (m : Om) : Prop := ∀ ρ rs ρ', m ρ = some (rs, ρ') → EvYs ta ρ rs ρ' ∧ ∀ r ∈ rs, r ≠ .no
def CI (wi : TI) (m : Lm) : Prop := ∀ ρ xs ρ', m ρ = some (xs, ρ') → IterM wi ρ xs ρ'
def CS (js : List Nat) (t : TS) (m : Sm) : Prop := ∀ ρ fl ρ', m ρ = some (fl, ρ') → RunS js t ρ fl ρ'
def CG (g : TG) (m : Gm) (is : List Nat) : Prop := ∀ ρ x ρ', m x ρ = some ρ' → TgM g x ρ ρ' is
def CGs (g : TGs) (m : Gms) (is : List Nat) : Prop := ∀ ρ xs ρ', m xs ρ = some ρ' → TgMs g xs ρ ρ' is
/-- at the slot i the path that is told, and what stands there -/
abbrev Pm := Env → Option (List Nat × OT)
def CP (te : TE) (i : Nat) (m : Pm) : Prop := ∀ ρ p s, m ρ = some (p, s) → PtE te ρ i p ∧ ∃ t, ρ[i]? = some t ∧ t.at p = some s
/-! ### reading -/
def rVar (i : Nat) : Rm := fun ρ => (ρ[i]?).bind OT.toD
def rC (x : D) : Rm := fun _ => some x
def rOp (g : D → D → Option D) (a b : Rm) : Rm := fun ρ => (a ρ).bind fun d => (b ρ).bind fun e => g d e
def rUn (g : D → Option D) (a : Rm) : Rm := fun ρ => (a ρ).bind g
def rCb (g : List D → Option D) (a : Qm) : Rm := fun ρ => (a ρ).bind g
def rCall (f : List D → Option OT) (n : Nat) (a : Qm) : Rm := fun ρ => (a ρ).bind fun ds => if ds.length = n then (f ds).bind OT.toD else Option.none
def asB : D → Option Bool
  | .bool b => some b
  | _ => Option.none
def rAnd (a b : Rm) : Rm := fun ρ => ((a ρ).bind asB).bind fun c => if c then ((b ρ).bind asB).map .bool else some (.bool false)
def rOr (a b : Rm) : Rm := fun ρ => ((a ρ).bind asB).bind fun c => if c then some (.bool true) else ((b ρ).bind asB).map .bool
def rNot (a : Rm) : Rm := fun ρ => ((a ρ).bind asB).map fun b => .bool (!b)
def rIf (t : Bm) (a b : Rm) : Rm := fun ρ => (t ρ).bind fun c => if c then a ρ else b ρ
def small (xs : List D) : Option (List D) := if xs.length ≤ 1000000 then some xs else Option.none
def rTup (a : Qm) : Rm := fun ρ => ((a ρ).bind small).map .tuple
def rLst (a : Qm) : Rm := fun ρ => ((a ρ).bind small).map .list
def qNil : Qm := fun _ => some []
def qCons (a : Rm) (b : Qm) : Qm := fun ρ => (a ρ).bind fun x => (b ρ).map fun xs => x :: xs
def bR (a : Rm) : Bm := fun ρ => (a ρ).bind asB
def bAnd (a b : Bm) : Bm := fun ρ => (a ρ).bind fun c => if c then b ρ else some false
def bOr (a b : Bm) : Bm := fun ρ => (a ρ).bind fun c => if c then some true else b ρ
def bNot (a : Bm) : Bm := fun ρ => (a ρ).map not
def bList (a : Rm) : Bm := fun ρ => (a ρ).bind fun d => match d with
  | .list ds => some (!ds.isEmpty)
  | _ => Option.none
section
variable {ta tb tc te : TE} {tl tr : TA} {t u : TT} {a b c : Rm} {q p : Qm} {m k : Bm} {R : R2} {E : XK}
theorem c_var (i : Nat) : CR (tVar i) (rVar i) := fun ρ x h => by
  simp only [rVar, Option.bind_eq_some_iff] at h
  obtain ⟨t, h1, h2⟩ := h
  exact rd_var h1 h2
theorem c_c {v : V} {x : D} (h : vD v = some x) : CR (tC v) (rC x) := fun ρ y e => by cases e; exact rd_c h
/-- an operator that tells flat data -/
def OpM (R : R2) (g : D → D → Option D) : Prop := ∀ d e x, g d e = some x → OpF R d e x
theorem c_op {g : D → D → Option D} (hR : OpM R g) (ha : CR ta a) (hb : CR tb b) : CR (tOp R ta tb) (rOp g a b) := fun ρ x h => by
  simp only [rOp, Option.bind_eq_some_iff] at h
  obtain ⟨d, h1, e, h2, h3⟩ := h
  exact rd_op (ha _ _ h1) (hb _ _ h2) (hR _ _ _ h3)
def IxM (R : R2) (g : D → D → Option D) : Prop := ∀ d e x, g d e = some x → IxZ R d e x
theorem c_ix {g : D → D → Option D} (hR : IxM R g) (ha : CR ta a) (hb : CR tb b) : CR (tOp R ta tb) (rOp g a b) := fun ρ x h => by
  simp only [rOp, Option.bind_eq_some_iff] at h
  obtain ⟨d, h1, e, h2, h3⟩ := h
  exact rd_ix (ha _ _ h1) (hb _ _ h2) (ixs_of (hR _ _ _ h3))
def UnM (R : V → Hp → VK → Prop) (g : D → Option D) : Prop := ∀ d x, g d = some x → ∀ (H : Hp) (v : V) (Q : VK), Rp H v d → (∀ w, vD w = some x → Q w H) → R v H Q
theorem c_un {R : V → Hp → VK → Prop} {g : D → Option D} (hR : UnM R g) (ha : CR ta a) : CR (tUn R ta) (rUn g a) := fun ρ x h => by
  simp only [rUn, Option.bind_eq_some_iff] at h
  obtain ⟨d, h1, h2⟩ := h
  exact rd_un (ha _ _ h1) (hR _ _ h2)
def CbM (R : List V → Hp → VK → Prop) (g : List D → Option D) : Prop := ∀ ds x, g ds = some x → CbF R ds x
theorem c_cb {R : List V → Hp → VK → Prop} {g : List D → Option D} (hR : CbM R g) (ha : CQ tl q) : CR (tCB R tl) (rCb g q) := fun ρ x h => by
  simp only [rCb, Option.bind_eq_some_iff] at h
  obtain ⟨d, h1, h2⟩ := h
  exact rd_cb (ha _ _ h1) (hR _ _ h2)
theorem c_call {f : List D → Option OT} {n : Nat} (ha : CQ tl q) : CR (tCall (spP n f) [] E tl) (rCall f n q) := fun ρ x h => by
  simp only [rCall, Option.bind_eq_some_iff] at h
  obtain ⟨d, h1, h2⟩ := h
  split at h2
  · rename_i hn
    simp only [Option.bind_eq_some_iff] at h2
    obtain ⟨r, h3, h4⟩ := h2
    exact rd_call (ha _ _ h1) hn h3 h4
  · cases h2
theorem asB_some {x : D} {b : Bool} (h : asB x = some b) : x = .bool b := by cases x <;> simp [asB] at h; rw [h]
theorem c_and (ha : CR ta a) (hb : CR tb b) : CR (tAndV ta tb) (rAnd a b) := fun ρ x h => by
  simp only [rAnd, Option.bind_eq_some_iff] at h
  obtain ⟨cc, ⟨d, h1, h2⟩, h3⟩ := h
  have e := asB_some h2
  subst e
  refine fun S0 H0 A0 S H τσ τρ σ Q l o q => ha _ _ h1 S0 H0 A0 S H τσ τρ σ _ l o fun v S1 H1 x1 r1 => ?_
  cases r1
  refine ⟨cc, rfl, ?_⟩
  cases cc with
  | true =>
    simp only [if_true, Option.map_eq_some_iff, Option.bind_eq_some_iff] at h3
    obtain ⟨b', ⟨d', g1, g2⟩, rfl⟩ := h3
    have e := asB_some g2
    subst e
    exact iteT (hb _ _ g1 S0 H0 A0 S1 H1 τσ τρ σ _ l (o.ext x1) fun v S2 H2 x2 r2 => q v S2 H2 (x1.trans x2) r2)
  | false =>
    simp at h3
    subst h3
    exact iteF (q _ S1 H1 x1 (.bl false))
theorem c_not (ha : CR ta a) : CR (tNotV ta) (rNot a) := fun ρ x h => by
  simp only [rNot, Option.map_eq_some_iff, Option.bind_eq_some_iff] at h
  obtain ⟨cc, ⟨d, h1, h2⟩, rfl⟩ := h
  have e := asB_some h2
  subst e
  refine fun S0 H0 A0 S H τσ τρ σ Q l o q => ha _ _ h1 S0 H0 A0 S H τσ τρ σ _ l o fun v S1 H1 x1 r1 => ?_
  cases r1
  exact ⟨cc, rfl, q _ S1 H1 x1 (.bl _)⟩
theorem small_some {xs ys : List D} (h : small xs = some ys) : xs = ys ∧ ys.length ≤ 1000000 := by
  unfold small at h
  split at h
  · cases h; exact ⟨rfl, by assumption⟩
  · cases h
theorem c_tup (ha : CQ tl q) : CR (tTup tl) (rTup q) := fun ρ x h => by
  simp only [rTup, Option.map_eq_some_iff, Option.bind_eq_some_iff] at h
  obtain ⟨xs, ⟨ys, h1, h2⟩, rfl⟩ := h
  obtain ⟨rfl, h3⟩ := small_some h2
  exact rd_tup (ha _ _ h1) h3
theorem c_lst (ha : CQ tl q) : CR (tLst tl) (rLst q) := fun ρ x h => by
  simp only [rLst, Option.map_eq_some_iff, Option.bind_eq_some_iff] at h
  obtain ⟨xs, ⟨ys, h1, h2⟩, rfl⟩ := h
  obtain ⟨rfl, h3⟩ := small_some h2
  exact rd_lst (ha _ _ h1) h3
theorem c_qnil : CQ tNil qNil := fun ρ x h => by cases h; exact rdl_nil
theorem c_qcons (ha : CR ta a) (hb : CQ tr q) : CQ (tCons ta tr) (qCons a q) := fun ρ x h => by
  simp only [qCons, Option.bind_eq_some_iff, Option.map_eq_some_iff] at h
  obtain ⟨d, h1, xs, h2, rfl⟩ := h
  exact rdl_cons (ha _ _ h1) (hb _ _ h2)
/-! tests -/
theorem c_bR (ha : CR ta a) : CB (tTest ta) (bR a) := fun ρ b h => by
  simp only [bR, Option.bind_eq_some_iff] at h
  obtain ⟨d, h1, h2⟩ := h
  have e := asB_some h2
  subst e
  refine fun S0 H0 A0 S H τσ τρ σ Q l o q => ha _ _ h1 S0 H0 A0 S H τσ τρ σ _ l o fun v S1 H1 x1 r1 => ?_
  cases r1
  exact ⟨b, rfl, q S1 H1 x1⟩
theorem c_bB (ha : CR ta a) : CB (tB ta) (bR a) := fun ρ b h => by
  simp only [bR, Option.bind_eq_some_iff] at h
  obtain ⟨d, h1, h2⟩ := h
  have e := asB_some h2
  subst e
  refine fun S0 H0 A0 S H τσ τρ σ Q l o q => ha _ _ h1 S0 H0 A0 S H τσ τρ σ _ l o fun v S1 H1 x1 r1 => ?_
  cases r1
  exact ⟨b, rfl, q S1 H1 x1⟩
theorem c_bAnd (ha : CB t m) (hb : CB u k) : CB (tAnd t u) (bAnd m k) := fun ρ b h => by
  simp only [bAnd, Option.bind_eq_some_iff] at h
  obtain ⟨cc, h1, h2⟩ := h
  refine fun S0 H0 A0 S H τσ τρ σ Q l o q => ha _ _ h1 S0 H0 A0 S H τσ τρ σ _ l o fun S1 H1 x1 => ?_
  cases cc with
  | true => exact iteT (hb _ _ h2 S0 H0 A0 S1 H1 τσ τρ σ _ l (o.ext x1) fun S2 H2 x2 => q S2 H2 (x1.trans x2))
  | false => simp at h2; subst h2; exact iteF (q S1 H1 x1)
theorem c_bOr (ha : CB t m) (hb : CB u k) : CB (tOr t u) (bOr m k) := fun ρ b h => by
  simp only [bOr, Option.bind_eq_some_iff] at h
  obtain ⟨cc, h1, h2⟩ := h
  refine fun S0 H0 A0 S H τσ τρ σ Q l o q => ha _ _ h1 S0 H0 A0 S H τσ τρ σ _ l o fun S1 H1 x1 => ?_
  cases cc with
  | false => exact iteF (hb _ _ h2 S0 H0 A0 S1 H1 τσ τρ σ _ l (o.ext x1) fun S2 H2 x2 => q S2 H2 (x1.trans x2))
  | true => simp at h2; subst h2; exact iteT (q S1 H1 x1)
theorem c_bNot (ha : CB t m) : CB (tNot t) (bNot m) := fun ρ b h => by
  simp only [bNot, Option.map_eq_some_iff] at h
  obtain ⟨cc, h1, rfl⟩ := h
  exact fun S0 H0 A0 S H τσ τρ σ Q l o q => ha _ _ h1 S0 H0 A0 S H τσ τρ σ _ l o fun S1 H1 x1 => q S1 H1 x1
theorem c_bList (ha : CR ta a) : CB (fun σ H Q => ta σ H fun x H' => ∃ k, TruV kf.K x H' k ∧ Q k H') (bList a) := fun ρ b h => by
  simp only [bList, Option.bind_eq_some_iff] at h
  obtain ⟨d, h1, h2⟩ := h
  refine fun S0 H0 A0 S H τσ τρ σ Q l o q => ha _ _ h1 S0 H0 A0 S H τσ τρ σ _ l o fun v S1 H1 x1 r1 => ?_
  cases d with
  | list ds =>
    simp only [Option.some.injEq] at h2
    subst h2
    cases r1 with
    | @lst a xs _ r1 r2 =>
      refine ⟨_, .inl ⟨xs, r1, rfl⟩, ?_⟩
      have e : xs.isEmpty = ds.isEmpty := by
        have l := dpa_length r2
        cases xs <;> cases ds <;> simp at l ⊢
      rw [e]
      exact q S1 H1 x1
  | _ => cases h2
end
/-! ### whatever is told -/
def yVar (i : Nat) : Ym := fun ρ => match ρ[i]? with
  | some (.d x) => some (.d x, ρ)
  | some t => (OT.toD t).map fun x => (.d x, ρ.set i (.d x))
  | Option.none => Option.none
def yMov (i : Nat) : Ym := fun ρ => match ρ[i]? with
  | some .no => Option.none
  | some t => some (t, ρ.set i .no)
  | Option.none => Option.none
/-- read, where it is flat -/
def yR (a : Rm) : Ym := fun ρ => (a ρ).bind fun x => if tfl x then some (.d x, ρ) else Option.none
/-- read, where it is flat; else by the other way -/
def yAuto (a : Rm) (y : Ym) : Ym := fun ρ => match a ρ with
  | some x => if tfl x then some (.d x, ρ) else y ρ
  | Option.none => y ρ
/-- frozen -/
def dY (y : Ym) : Dm := fun ρ => (y ρ).bind fun p => (OT.toD p.1).map fun x => (x, p.2)
def yD (y : Dm) : Ym := fun ρ => (y ρ).map fun p => (.d p.1, p.2)
def dR (a : Rm) : Dm := fun ρ => (a ρ).bind fun x => if tfl x then some (x, ρ) else Option.none
def dOp (g : D → D → Option D) (a b : Dm) : Dm := fun ρ => (a ρ).bind fun p => (b p.2).bind fun q => (g p.1 q.1).map fun x => (x, q.2)
def dOpR (g : D → D → Option D) (a : Dm) (b : Rm) : Dm := fun ρ => (a ρ).bind fun p => (b p.2).bind fun e => (g p.1 e).map fun x => (x, p.2)
def dCb (g : List D → Option D) (a : Lm) : Dm := fun ρ => (a ρ).bind fun p => (g p.1).map fun x => (x, p.2)
def yCall (f : List D → Option OT) (n : Nat) (a : Lm) : Ym := fun ρ => (a ρ).bind fun p => if p.1.length = n then (f p.1).map fun r => (r, p.2) else Option.none
def lfO : Option OT → Option OT
  | some r => if r.lf then some r else Option.none
  | Option.none => Option.none
/-- with read arguments, where what is told is flat within; else with frozen ones -/
def yCallA (f : List D → Option OT) (n : Nat) (q : Qm) (a : Lm) : Ym := fun ρ => match (q ρ).bind fun ds => if ds.length = n then lfO (f ds) else Option.none with
  | some r => some (r, ρ)
  | Option.none => yCall f n a ρ
def yCallI (f : OT → List D → Option (OT × OT)) (n i : Nat) (a : Lm) : Ym := fun ρ => match ρ[i]? with
  | some .no => Option.none
  | some _ => (a ρ).bind fun p => match p.2[i]? with
    | some .no => Option.none
    | some t => if p.1.length + 1 = n then (f t p.1).map fun q => (q.1, p.2.set i q.2) else Option.none
    | Option.none => Option.none
  | Option.none => Option.none
def yCb (G : List D → Option OT) (a : Lm) : Ym := fun ρ => (a ρ).bind fun p => (G p.1).map fun r => (r, p.2)
def yCbA (G : List D → Option OT) (q : Qm) (a : Lm) : Ym := fun ρ => match (q ρ).bind fun ds => lfO (G ds) with
  | some r => some (r, ρ)
  | Option.none => yCb G a ρ
def yOp (G : D → D → Option OT) (a b : Dm) : Ym := fun ρ => (a ρ).bind fun p => (b p.2).bind fun q => (G p.1 q.1).map fun r => (r, q.2)
def yOpA (G : D → D → Option OT) (ra rb : Rm) (a b : Dm) : Ym := fun ρ => match (ra ρ).bind fun d => (rb ρ).bind fun e => lfO (G d e) with
  | some r => some (r, ρ)
  | Option.none => yOp G a b ρ
def lNil : Lm := fun ρ => some ([], ρ)
def lCons (a : Dm) (b : Lm) : Lm := fun ρ => (a ρ).bind fun p => (b p.2).map fun q => (p.1 :: q.1, q.2)
def oNil : Om := fun ρ => some ([], ρ)
def isNo : OT → Bool
  | .no => true
  | _ => false
def oCons (a : Ym) (b : Om) : Om := fun ρ => (a ρ).bind fun p => if isNo p.1 then Option.none else (b p.2).map fun q => (p.1 :: q.1, q.2)
def yTup (a : Om) : Ym := fun ρ => (a ρ).bind fun p => if p.1.length ≤ 1000000 then some (.nd .tup p.1, p.2) else Option.none
def yLst (a : Om) : Ym := fun ρ => (a ρ).bind fun p => if p.1.length ≤ 1000000 then some (.nd .lst p.1, p.2) else Option.none
def tR (a : Bm) : Tm := fun ρ => (a ρ).map fun b => (b, ρ)
def tD (a : Dm) : Tm := fun ρ => (a ρ).bind fun p => (asB p.1).map fun b => (b, p.2)
def tmAnd (a b : Tm) : Tm := fun ρ => (a ρ).bind fun p => if p.1 then b p.2 else some (false, p.2)
def tmOr (a b : Tm) : Tm := fun ρ => (a ρ).bind fun p => if p.1 then some (true, p.2) else b p.2
def tmNot (a : Tm) : Tm := fun ρ => (a ρ).map fun p => (!p.1, p.2)
def yIf (t : Tm) (a b : Ym) : Ym := fun ρ => (t ρ).bind fun p => if p.1 then a p.2 else b p.2
def dAnd (a b : Dm) : Dm := fun ρ => (a ρ).bind fun p => (asB p.1).bind fun c => if c then (b p.2).bind fun q => (asB q.1).map fun e => (.bool e, q.2) else some (.bool false, p.2)
def dOr (a b : Dm) : Dm := fun ρ => (a ρ).bind fun p => (asB p.1).bind fun c => if c then some (.bool true, p.2) else (b p.2).bind fun q => (asB q.1).map fun e => (.bool e, q.2)
def dNot (a : Dm) : Dm := fun ρ => (a ρ).bind fun p => (asB p.1).map fun c => (.bool (!c), p.2)
def rsts (vs : List Nat) (ρ1 : Env) : Option (List OT × Env) → Option (OT × Env)
  | some (rs, ρ2) => some (.nd .lst rs, rst ρ2 ρ1 vs)
  | Option.none => Option.none
def lcStep (g : Gm) (t : Tm) (e : Ym) : D → Env → Option (Option OT × Env) := fun x ρ => (g x ρ).bind fun ρm => (t ρm).bind fun p => if p.1 then (e p.2).bind fun q => if isNo q.1 then Option.none else some (some q.1, q.2) else some (Option.none, p.2)
def yLc (vs : List Nat) (it : Lm) (g : Gm) (t : Tm) (e : Ym) : Ym := fun ρ => (it ρ).bind fun p => if calmAt p.2 vs && decide (p.1.length ≤ 1000000) then rsts vs p.2 (mLc vs (lcStep g t e) p.1 [] (wipeE p.2 vs)) else Option.none
section
variable {ta tb tc te : TE} {tl tr : TA} {t u : TT} {a b c : Rm} {q p : Qm} {m k : Bm} {R : R2} {E : XK} {y z : Ym} {dm dn : Dm} {lm ln : Lm} {om on : Om} {tm tn : Tm}
theorem c_yvar (i : Nat) : CY (tVar i) (yVar i) := fun ρ r ρ' h => by
  unfold yVar at h
  split at h
  · cases h; exact evy_of (evd_varD (by assumption))
  · simp only [Option.map_eq_some_iff] at h
    obtain ⟨x, h1, h2⟩ := h
    cases h2
    exact evy_of (evd_var (by assumption) h1)
  · cases h
theorem c_ymov (i : Nat) : CY (tVar i) (yMov i) := fun ρ r ρ' h => by
  unfold yMov at h
  split at h
  · cases h
  · rename_i t hn ht
    cases h
    exact evy_mov ht hn
  · cases h
theorem c_yR (ha : CR ta a) : CY ta (yR a) := fun ρ r ρ' h => by
  simp only [yR, Option.bind_eq_some_iff] at h
  obtain ⟨x, h1, h2⟩ := h
  split at h2
  · cases h2; exact evy_of (evd_flat (ha _ _ h1) (by assumption))
  · cases h2
theorem c_yauto (ha : CR ta a) (hy : CY ta y) : CY ta (yAuto a y) := fun ρ r ρ' h => by
  unfold yAuto at h
  split at h
  · rename_i x hx
    split at h
    · cases h; exact evy_of (evd_flat (ha _ _ hx) (by assumption))
    · exact hy _ _ _ h
  · exact hy _ _ _ h
theorem c_dY (hy : CY ta y) : CD ta (dY y) := fun ρ r ρ' h => by
  simp only [dY, Option.bind_eq_some_iff, Option.map_eq_some_iff] at h
  obtain ⟨⟨s, ρ1⟩, h1, x, h2, h3⟩ := h
  cases h3
  exact evd_of (hy _ _ _ h1) h2
theorem c_yD (hy : CD ta dm) : CY ta (yD dm) := fun ρ r ρ' h => by
  simp only [yD, Option.map_eq_some_iff] at h
  obtain ⟨⟨x, ρ1⟩, h1, h3⟩ := h
  cases h3
  exact evy_of (hy _ _ _ h1)
theorem c_dR (ha : CR ta a) : CD ta (dR a) := fun ρ r ρ' h => by
  simp only [dR, Option.bind_eq_some_iff] at h
  obtain ⟨x, h1, h2⟩ := h
  split at h2
  · cases h2; exact evd_flat (ha _ _ h1) (by assumption)
  · cases h2
theorem c_dop {g : D → D → Option D} (hR : OpM R g) (ha : CD ta dm) (hb : CD tb dn) : CD (tOp R ta tb) (dOp g dm dn) := fun ρ r ρ' h => by
  simp only [dOp, Option.bind_eq_some_iff, Option.map_eq_some_iff] at h
  obtain ⟨⟨d, ρ1⟩, h1, ⟨e, ρ2⟩, h2, x, h3, h4⟩ := h
  cases h4
  exact evd_op (ha _ _ _ h1) (hb _ _ _ h2) (hR _ _ _ h3)
theorem c_dixR {g : D → D → Option D} (hR : IxM R g) (ha : CD ta dm) (hb : CR tb b) : CD (tOp R ta tb) (dOpR g dm b) := fun ρ r ρ' h => by
  simp only [dOpR, Option.bind_eq_some_iff, Option.map_eq_some_iff] at h
  obtain ⟨⟨d, ρ1⟩, h1, e, h2, x, h3, h4⟩ := h
  cases h4
  exact evd_ixR (ha _ _ _ h1) (hb _ _ h2) (hR _ _ _ h3)
theorem c_dcb {R : List V → Hp → VK → Prop} {g : List D → Option D} (hR : CbM R g) (ha : CL tl lm) : CD (tCB R tl) (dCb g lm) := fun ρ r ρ' h => by
  simp only [dCb, Option.bind_eq_some_iff, Option.map_eq_some_iff] at h
  obtain ⟨⟨d, ρ1⟩, h1, x, h3, h4⟩ := h
  cases h4
  exact evd_cb (ha _ _ _ h1) (hR _ _ h3)
theorem c_ycall {f : List D → Option OT} {n : Nat} (ha : CL tl lm) : CY (tCall (spP n f) [] E tl) (yCall f n lm) := fun ρ r ρ' h => by
  simp only [yCall, Option.bind_eq_some_iff] at h
  obtain ⟨⟨ds, ρ1⟩, h1, h2⟩ := h
  split at h2
  · rename_i hn
    simp only [Option.map_eq_some_iff] at h2
    obtain ⟨r', h3, h4⟩ := h2
    cases h4
    exact evy_call (ha _ _ _ h1) hn h3
  · cases h2
theorem lfO_some {o : Option OT} {r : OT} (h : lfO o = some r) : o = some r ∧ r.lf = true := by
  cases o with
  | none => cases h
  | some t =>
    simp only [lfO] at h
    split at h
    · cases h; exact ⟨rfl, by assumption⟩
    · cases h
theorem c_ycallA {f : List D → Option OT} {n : Nat} (hq : CQ tl q) (ha : CL tl lm) : CY (tCall (spP n f) [] E tl) (yCallA f n q lm) := fun ρ r ρ' h => by
  unfold yCallA at h
  split at h
  · rename_i r' hr
    cases h
    simp only [Option.bind_eq_some_iff] at hr
    obtain ⟨ds, h1, h2⟩ := hr
    split at h2
    · rename_i hn
      obtain ⟨h3, h4⟩ := lfO_some h2
      exact evy_callR (hq _ _ h1) hn h3 h4
    · cases h2
  · exact c_ycall ha _ _ _ h
def OpZ (R : R2) (G : D → D → Option OT) : Prop := ∀ d e r, G d e = some r → ∀ (S H : Hp) (v u : V) (Q : VK), Same S H → Rp S v d → Rp S u e → (∀ v' S' H' A, Xt S H S' H' → OOk S' H' v' r A → A.Nodup → (∀ a ∈ A, H a = none) → Q v' H') → R v u H Q
theorem c_yop {G : D → D → Option OT} (hR : OpZ R G) (ha : CD ta dm) (hb : CD tb dn) : CY (tOp R ta tb) (yOp G dm dn) := fun ρ r ρ' h => by
  simp only [yOp, Option.bind_eq_some_iff, Option.map_eq_some_iff] at h
  obtain ⟨⟨d, ρ1⟩, h1, ⟨e, ρ2⟩, h2, r', h3, h4⟩ := h
  cases h4
  exact fun S0 H0 A0 S H τσ τρ σ Q l o q => ha _ _ _ h1 S0 H0 A0 S H τσ τρ σ _ l o fun v S1 H1 s1 o1 g1 => hb _ _ _ h2 S0 H0 A0 S1 H1 τσ τρ σ _ l o1 fun u S2 H2 s2 o2 g2 =>
    hR _ _ _ h3 S2 H2 v u Q o2.sh (dp_mono s2 _ _ g1) g2 fun v' S' H' A xt g3 nd fr => q v' S' H' ((s1.trans s2).trans xt.ss) (o2.push xt g3 nd fr)
theorem c_yopA {G : D → D → Option OT} (hR : OpZ R G) (hra : CR ta a) (hrb : CR tb b) (ha : CD ta dm) (hb : CD tb dn) : CY (tOp R ta tb) (yOpA G a b dm dn) := fun ρ r ρ' h => by
  unfold yOpA at h
  split at h
  · rename_i r' hr
    cases h
    simp only [Option.bind_eq_some_iff] at hr
    obtain ⟨d, h1, e, h2, h3⟩ := hr
    obtain ⟨h3, h4⟩ := lfO_some h3
    exact fun S0 H0 A0 S H τσ τρ σ Q l o q => hra _ _ h1 S0 H0 A0 S H τσ τρ σ _ l o fun v S1 H1 x1 g1 => hrb _ _ h2 S0 H0 A0 S1 H1 τσ τρ σ _ l (o.ext x1) fun u S2 H2 x2 g2 =>
      hR _ _ _ h3 H2 H2 v u Q (Same.refl H2) (dp_mono x2.hh _ _ g1) g2 fun v' S' H' A xt g3 nd fr =>
        q v' _ H' ((x1.trans x2).trans (xt_low x2.sh xt)).ss (((o.ext x1).ext x2).push (xt_low x2.sh xt) (ook_lf xt.sh _ _ _ g3 h4 fun a ha => x2.sh.free (fr a ha)) nd fr)
  · exact c_yop hR ha hb _ _ _ h
theorem c_lnil : CL tNil lNil := fun ρ x ρ' h => by cases h; exact evl_nil
theorem c_lcons (ha : CD ta dm) (hb : CL tr lm) : CL (tCons ta tr) (lCons dm lm) := fun ρ x ρ' h => by
  simp only [lCons, Option.bind_eq_some_iff, Option.map_eq_some_iff] at h
  obtain ⟨⟨d, ρ1⟩, h1, ⟨xs, ρ2⟩, h2, h3⟩ := h
  cases h3
  exact evl_cons (ha _ _ _ h1) (hb _ _ _ h2)
theorem c_onil : CO tNil oNil := fun ρ x ρ' h => by cases h; exact ⟨evys_nil, by simp⟩
theorem isNo_false {r : OT} (h : ¬ isNo r = true) : r ≠ .no := by rintro rfl; exact h rfl
theorem c_ocons (ha : CY ta y) (hb : CO tr om) : CO (tCons ta tr) (oCons y om) := fun ρ x ρ' h => by
  simp only [oCons, Option.bind_eq_some_iff] at h
  obtain ⟨⟨r, ρ1⟩, h1, h2⟩ := h
  split at h2
  · cases h2
  · rename_i hn
    simp only [Option.map_eq_some_iff] at h2
    obtain ⟨⟨rs, ρ2⟩, h3, h4⟩ := h2
    cases h4
    obtain ⟨g1, g2⟩ := hb _ _ _ h3
    exact ⟨evys_cons (ha _ _ _ h1) g1, fun r' hr => by
      rcases List.mem_cons.mp hr with z | z
      · rw [z]; exact isNo_false hn
      · exact g2 r' z⟩
theorem c_ytup (ha : CO tl om) : CY (tTup tl) (yTup om) := fun ρ r ρ' h => by
  simp only [yTup, Option.bind_eq_some_iff] at h
  obtain ⟨⟨rs, ρ1⟩, h1, h2⟩ := h
  split at h2
  · cases h2; exact evy_tup (ha _ _ _ h1).1 (ha _ _ _ h1).2 (by assumption)
  · cases h2
theorem c_ylst (ha : CO tl om) : CY (tLst tl) (yLst om) := fun ρ r ρ' h => by
  simp only [yLst, Option.bind_eq_some_iff] at h
  obtain ⟨⟨rs, ρ1⟩, h1, h2⟩ := h
  split at h2
  · cases h2; exact evy_lst (ha _ _ _ h1).1 (ha _ _ _ h1).2 (by assumption)
  · cases h2
theorem c_tR (ha : CB t m) : CT t (tR m) := fun ρ b ρ' h => by
  simp only [tR, Option.map_eq_some_iff] at h
  obtain ⟨c, h1, h2⟩ := h
  cases h2
  exact fun S0 H0 A0 S H τσ τρ σ Q l o q => ha _ _ h1 S0 H0 A0 S H τσ τρ σ _ l o fun S1 H1 x1 => q S1 H1 x1.ss (o.ext x1)
theorem c_tD (ha : CD ta dm) : CT (tTest ta) (tD dm) := fun ρ b ρ' h => by
  simp only [tD, Option.bind_eq_some_iff, Option.map_eq_some_iff] at h
  obtain ⟨⟨d, ρ1⟩, h1, c, h2, h3⟩ := h
  cases h3
  have e := asB_some h2
  simp only at e
  subst e
  exact fun S0 H0 A0 S H τσ τρ σ Q l o q => ha _ _ _ h1 S0 H0 A0 S H τσ τρ σ _ l o fun v S1 H1 s1 o1 r1 => by cases r1; exact ⟨b, rfl, q S1 H1 s1 o1⟩
theorem c_tDB (ha : CD ta dm) : CT (tB ta) (tD dm) := fun ρ b ρ' h => by
  simp only [tD, Option.bind_eq_some_iff, Option.map_eq_some_iff] at h
  obtain ⟨⟨d, ρ1⟩, h1, c, h2, h3⟩ := h
  cases h3
  have e := asB_some h2
  simp only at e
  subst e
  exact fun S0 H0 A0 S H τσ τρ σ Q l o q => ha _ _ _ h1 S0 H0 A0 S H τσ τρ σ _ l o fun v S1 H1 s1 o1 r1 => by cases r1; exact ⟨b, rfl, q S1 H1 s1 o1⟩
theorem c_tor (ha : CT t tm) (hb : CT u tn) : CT (tOr t u) (tmOr tm tn) := fun ρ b ρ' h => by
  simp only [tmOr, Option.bind_eq_some_iff] at h
  obtain ⟨⟨c, ρ1⟩, h1, h2⟩ := h
  refine fun S0 H0 A0 S H τσ τρ σ Q l o q => ha _ _ _ h1 S0 H0 A0 S H τσ τρ σ _ l o fun S1 H1 s1 o1 => ?_
  cases c with
  | false => exact iteF (hb _ _ _ h2 S0 H0 A0 S1 H1 τσ τρ σ _ l o1 fun S2 H2 s2 o2 => q S2 H2 (s1.trans s2) o2)
  | true => simp at h2; obtain ⟨rfl, rfl⟩ := h2; exact iteT (q S1 H1 s1 o1)
theorem c_tnot (ha : CT t tm) : CT (tNot t) (tmNot tm) := fun ρ b ρ' h => by
  simp only [tmNot, Option.map_eq_some_iff] at h
  obtain ⟨⟨c, ρ1⟩, h1, h2⟩ := h
  cases h2
  exact fun S0 H0 A0 S H τσ τρ σ Q l o q => ha _ _ _ h1 S0 H0 A0 S H τσ τρ σ _ l o fun S1 H1 s1 o1 => q S1 H1 s1 o1
theorem c_tyes : CT tYes (fun ρ => some (true, ρ)) := fun ρ b ρ' h => by
  cases h
  exact fun S0 H0 A0 S H τσ τρ σ Q l o q => q S H (Same.refl S) o
theorem c_yif (ht : CT t tm) (ha : CY ta y) (hb : CY tb z) : CY (tIf t ta tb) (yIf tm y z) := fun ρ r ρ' h => by
  simp only [yIf, Option.bind_eq_some_iff] at h
  obtain ⟨⟨c, ρ1⟩, h1, h2⟩ := h
  refine fun S0 H0 A0 S H τσ τρ σ Q l o q => ht _ _ _ h1 S0 H0 A0 S H τσ τρ σ _ l o fun S1 H1 s1 o1 => ?_
  cases c with
  | true => exact iteT (ha _ _ _ h2 S0 H0 A0 S1 H1 τσ τρ σ _ l o1 fun v S2 H2 s2 o2 => q v S2 H2 (s1.trans s2) o2)
  | false => exact iteF (hb _ _ _ h2 S0 H0 A0 S1 H1 τσ τρ σ _ l o1 fun v S2 H2 s2 o2 => q v S2 H2 (s1.trans s2) o2)
theorem c_ylc {wi : TI} {g : TG} {gm : Gm} {is vs : List Nat} (hi : CI wi lm) (hg : CG g gm is) (hs : ∀ j ∈ is, j ∈ vs) (ht : CT t tm) (he : CY te y) : CY (tLc wi g t te vs) (yLc vs lm gm tm y) := fun ρ r ρ' h => by
  simp only [yLc, Option.bind_eq_some_iff] at h
  obtain ⟨⟨ds, ρ1⟩, h1, h2⟩ := h
  split at h2
  · rename_i hc
    simp only [Bool.and_eq_true, decide_eq_true_eq] at hc
    cases hm : mLc vs (lcStep gm tm y) ds [] (wipeE ρ1 vs) with
    | none => simp only at h2; rw [hm] at h2; cases h2
    | some p =>
      obtain ⟨rs, ρ2⟩ := p
      simp only at h2
      rw [hm] at h2
      cases h2
      refine evy_lc (hi _ _ _ h1) (fun x ρa o ρb hst => ?_) hm hc.1 hc.2
      simp only [lcStep, Option.bind_eq_some_iff] at hst
      obtain ⟨ρm, g1, ⟨b, ρt⟩, g2, g3⟩ := hst
      refine ⟨ρm, is, b, ρt, hg _ _ _ g1, hs, ht _ _ _ g2, ?_⟩
      cases b with
      | false => simp at g3; obtain ⟨rfl, rfl⟩ := g3; exact ⟨rfl, rfl⟩
      | true =>
        simp only [if_true, Option.bind_eq_some_iff] at g3
        obtain ⟨⟨s, ρs⟩, g4, g5⟩ := g3
        split at g5
        · cases g5
        · rename_i hn
          cases g5
          exact ⟨rfl, isNo_false hn, he _ _ _ g4⟩
  · cases h2
end
/-! ### targets -/
def gmName (i : Nat) : Gm := fun x ρ => some (ρ.set i (.d x))
def gmTup (g : Gms) : Gm := fun x ρ => match x with
  | .tuple xs => g xs ρ
  | _ => Option.none
def gmLst (g : Gms) : Gm := fun x ρ => match x with
  | .list xs => g xs ρ
  | _ => Option.none
def gsNil : Gms := fun xs ρ => match xs with
  | [] => some ρ
  | _ => Option.none
def gsCons (g : Gm) (h : Gms) : Gms := fun xs ρ => match xs with
  | x :: xs => (g x ρ).bind fun ρ1 => h xs ρ1
  | _ => Option.none
section
variable {g : TG} {gs : TGs} {gm : Gm} {gms : Gms} {is ks : List Nat}
theorem c_gname (i : Nat) : CG (gName i) (gmName i) [i] := fun ρ x ρ' h => by cases h; exact tg_name
/-- as many as the length says -/
def CGn (n : Nat) (g : TGs) (m : Gms) (is : List Nat) : Prop := CGs g m is ∧ ∀ ρ xs ρ', m xs ρ = some ρ' → xs.length = n
theorem c_gsnil : CGn 0 gNil gsNil [] := by
  refine ⟨fun ρ xs ρ' h => ?_, fun ρ xs ρ' h => ?_⟩
  · cases xs with
    | nil => cases h; exact tgs_nil
    | cons => cases h
  · cases xs with
    | nil => rfl
    | cons => cases h
theorem c_gscons {n : Nat} (h1 : CG g gm is) (h2 : CGn n gs gms ks) : CGn (n + 1) (gCons g gs) (gsCons gm gms) (is ++ ks) := by
  refine ⟨fun ρ xs ρ' h => ?_, fun ρ xs ρ' h => ?_⟩
  · cases xs with
    | nil => cases h
    | cons x xs =>
      simp only [gsCons, Option.bind_eq_some_iff] at h
      obtain ⟨ρ1, g1, g2⟩ := h
      exact tgs_cons (h1 _ _ _ g1) (h2.1 _ _ _ g2)
  · cases xs with
    | nil => cases h
    | cons x xs =>
      simp only [gsCons, Option.bind_eq_some_iff] at h
      obtain ⟨ρ1, g1, g2⟩ := h
      rw [List.length_cons, h2.2 _ _ _ g2]
theorem c_gtup {n : Nat} (h : CGn n gs gms is) : CG (gTup kf.K n gs) (gmTup gms) is := fun ρ x ρ' e => by
  cases x with
  | tuple xs => exact tg_tup (h.1 _ _ _ e) (h.2 _ _ _ e)
  | _ => cases e
end
end MR
namespace MR
open PySem L2 PL
/-! ### statements -/
def sSeq (a b : Sm) : Sm := fun ρ => match a ρ with
  | some (.nx, ρ1) => b ρ1
  | o => o
def sNext : Sm := fun ρ => some (.nx, ρ)
def sAsg (i : Nat) (y : Ym) : Sm := fun ρ => (y ρ).map fun p => (.nx, p.2.set i p.1)
def sAsgG (g : Gm) (y : Dm) : Sm := fun ρ => (y ρ).bind fun p => (g p.1 p.2).map fun ρ' => (.nx, ρ')
def sRet (y : Ym) : Sm := fun ρ => (y ρ).map fun p => (.rt p.1, p.2)
def sRetN : Sm := fun ρ => some (.rt (.d .none), ρ)
def sDrop (y : Ym) : Sm := fun ρ => (y ρ).map fun p => (.nx, p.2)
def sIf (t : Tm) (a b : Sm) : Sm := fun ρ => (t ρ).bind fun p => if p.1 then a p.2 else b p.2
def sFor (it : Lm) (g : Gm) (b : Sm) : Sm := fun ρ => (it ρ).bind fun p => mFor (fun x ρ => (g x ρ).bind b) p.1 p.2
def sNever : Sm := fun _ => Option.none
/-- x.append(e), whatever e does -/
def sApp (i : Nat) (y : Ym) : Sm := fun ρ => match ρ[i]? with
  | some (.nd .lst _) => (y ρ).bind fun p => if isNo p.1 then Option.none else match p.2[i]? with
    | some (.nd .lst ts) => if ts.length ≤ 1000000 then some (.nx, p.2.set i (.nd .lst (ts ++ [p.1]))) else Option.none
    | _ => Option.none
  | _ => Option.none
/-- .. at a path, e read alone -/
abbrev Fm := Env → Option OT
def fR (a : Rm) : Fm := fun ρ => (a ρ).bind fun x => if tfl x then some (.d x) else Option.none
def putAt (i : Nat) (p : List Nat) (s : OT) (ρ : Env) : Env := match ρ[i]? with
  | some t => ρ.set i (t.put p s)
  | Option.none => ρ
def sAppP (i : Nat) (pm : Pm) (f : Fm) : Sm := fun ρ => (pm ρ).bind fun q => match q.2 with
  | .nd .lst ts => (f ρ).bind fun r => if isNo r then Option.none else if ts.length ≤ 1000000 then some (.nx, putAt i q.1 (.nd .lst (ts ++ [r])) ρ) else Option.none
  | _ => Option.none
def sSetP (i : Nat) (pm : Pm) (ix : Rm) (y : Ym) : Sm := fun ρ => (y ρ).bind fun p => if isNo p.1 then Option.none else (pm p.2).bind fun q => match q.2 with
  | .nd .lst ts => (ix p.2).bind fun d => match d with
    | .int n => (ixN ts.length n).map fun j => (.nx, putAt i q.1 (.nd .lst (ts.set j p.1)) p.2)
    | _ => Option.none
  | _ => Option.none
def sRevP (i : Nat) (pm : Pm) : Sm := fun ρ => (pm ρ).bind fun q => match q.2 with
  | .nd .lst ts => some (.nx, putAt i q.1 (.nd .lst ts.reverse) ρ)
  | _ => Option.none
def sClrP (i : Nat) (pm : Pm) : Sm := fun ρ => (pm ρ).bind fun q => match q.2 with
  | .nd .lst _ => some (.nx, putAt i q.1 (.nd .lst []) ρ)
  | _ => Option.none
def yPop (i : Nat) (dm : Dm) : Ym := fun ρ => match ρ[i]? with
  | some (.nd .lst _) => (dm ρ).bind fun p => match p.1 with
    | .int n => match p.2[i]? with
      | some (.nd .lst ts) => if -(2 ^ 63) ≤ n ∧ n < 2 ^ 63 then (seqIndex? n ts.length).bind fun j => (ts[j]?).map fun s => (s, p.2.set i (.nd .lst (ts.eraseIdx j))) else Option.none
      | _ => Option.none
    | _ => Option.none
  | _ => Option.none
def pmVar (i : Nat) : Pm := fun ρ => match ρ[i]? with
  | some (.nd k ts) => some ([], .nd k ts)
  | _ => Option.none
def pmIx (pm : Pm) (ix : Rm) : Pm := fun ρ => (pm ρ).bind fun q => match q.2 with
  | .nd .lst ts => (ix ρ).bind fun d => match d with
    | .int n => (ixN ts.length n).bind fun j => (ts[j]?).map fun s => (q.1 ++ [j], s)
    | _ => Option.none
  | _ => Option.none
variable [kf : KF] [wx : WXI]
section
variable {ta tb tc te tp : TE} {tl tr : TA} {t u : TT} {ts us : TS} {a b c : Rm} {q p : Qm} {m k : Bm} {R : R2} {E : XK} {y z : Ym} {dm dn : Dm} {lm ln : Lm} {om on : Om} {tm tn : Tm} {s1 s2 : Sm} {js : List Nat} {i : Nat} {pm : Pm} {fm : Fm}
theorem c_seq (h1 : CS js ts s1) (h2 : CS js us s2) : CS js (tSeq ts us) (sSeq s1 s2) := fun ρ fl ρ' h => by
  unfold sSeq at h
  cases e : s1 ρ with
  | none => rw [e] at h; cases h
  | some p =>
    obtain ⟨f, ρ1⟩ := p
    rw [e] at h
    cases f with
    | nx => exact run_seq (h1 _ _ _ e) (h2 _ _ _ h)
    | bk => cases h; exact run_seqB (h1 _ _ _ e)
    | ct => cases h; exact run_seqC (h1 _ _ _ e)
    | rt r => cases h; exact run_seqR (h1 _ _ _ e)
    | xc x => cases h; exact run_seqX (h1 _ _ _ e)
theorem c_next : CS js tNext sNext := fun ρ fl ρ' h => by cases h; exact run_next
theorem c_never (t : TS) : CS js t sNever := fun ρ fl ρ' h => by cases h
theorem c_asg (h : CY te y) (hi : i ∉ js := by decide) : CS js (tAsg te (gName i)) (sAsg i y) := fun ρ fl ρ' e => by
  simp only [sAsg, Option.map_eq_some_iff] at e
  obtain ⟨⟨r, ρ1⟩, e1, e2⟩ := e
  cases e2
  exact run_asg (h _ _ _ e1) hi
theorem c_asgG {g : TG} {gm : Gm} {is : List Nat} (h : CD te dm) (hg : CG g gm is) (hi : ∀ j ∈ js, j ∉ is := by decide) : CS js (tAsg te g) (sAsgG gm dm) := fun ρ fl ρ' e => by
  simp only [sAsgG, Option.bind_eq_some_iff, Option.map_eq_some_iff] at e
  obtain ⟨⟨x, ρ1⟩, e1, ρ2, e2, e3⟩ := e
  cases e3
  exact run_asgT (h _ _ _ e1) (hg _ _ _ e2) hi
theorem c_ret (h : CY te y) : CS js (tRet te) (sRet y) := fun ρ fl ρ' e => by
  simp only [sRet, Option.map_eq_some_iff] at e
  obtain ⟨⟨r, ρ1⟩, e1, e2⟩ := e
  cases e2
  exact run_ret (h _ _ _ e1)
theorem c_drop (h : CY te y) : CS js (tDrop te) (sDrop y) := fun ρ fl ρ' e => by
  simp only [sDrop, Option.map_eq_some_iff] at e
  obtain ⟨⟨r, ρ1⟩, e1, e2⟩ := e
  cases e2
  exact run_drop (h _ _ _ e1)
theorem c_sif (ht : CT t tm) (h1 : CS js ts s1) (h2 : CS js us s2) : CS js (tIfS t ts us) (sIf tm s1 s2) := fun ρ fl ρ' e => by
  simp only [sIf, Option.bind_eq_some_iff] at e
  obtain ⟨⟨b, ρ1⟩, e1, e2⟩ := e
  refine run_if (ht _ _ _ e1) (fun hb => ?_) (fun hb => ?_)
  · subst hb; exact h1 _ _ _ e2
  · subst hb; exact h2 _ _ _ e2
theorem c_for {wi : TI} {g : TG} {gm : Gm} {is : List Nat} (hi : CI wi lm) (hg : CG g gm is) (hb : CS js ts s1) (hj : ∀ j ∈ js, j ∉ is := by decide) : CS js (tFor wi g ts) (sFor lm gm s1) := fun ρ fl ρ' e => by
  simp only [sFor, Option.bind_eq_some_iff] at e
  obtain ⟨⟨ds, ρ1⟩, e1, e2⟩ := e
  refine run_for (hi _ _ _ e1) (fun x ρa fl ρb h => ?_) e2
  simp only [Option.bind_eq_some_iff] at h
  obtain ⟨ρm, h1, h2⟩ := h
  exact ⟨ρm, is, hg _ _ _ h1, hj, hb _ _ _ h2⟩
theorem c_app (he : CY te y) : CS js (tDrop (tBM kf.K "list" rAppend (tVar i) (tCons te tNil))) (sApp i y) := fun ρ fl ρ' e => by
  unfold sApp at e
  split at e
  · rename_i us h0
    simp only [Option.bind_eq_some_iff] at e
    obtain ⟨⟨r, ρ1⟩, e1, e2⟩ := e
    split at e2
    · cases e2
    · rename_i hn
      split at e2
      · rename_i vs h1
        split at e2
        · cases e2
          exact run_appendY h0 ⟨_, rfl⟩ (he _ _ _ e1) h1 (isNo_false hn) (by assumption)
        · cases e2
      · cases e2
  · cases e
def CF (te : TE) (f : Fm) : Prop := ∀ ρ r, f ρ = some r → EvF te ρ r
theorem c_fR (ha : CR te a) : CF te (fR a) := fun ρ r h => by
  simp only [fR, Option.bind_eq_some_iff] at h
  obtain ⟨x, h1, h2⟩ := h
  split at h2
  · cases h2; exact evf_flat (ha _ _ h1) (by assumption)
  · cases h2
theorem c_pvar (i : Nat) : CP (tVar i) i (pmVar i) := fun ρ p s h => by
  unfold pmVar at h
  split at h
  · rename_i k ts ht
    cases h
    exact ⟨pt_var ht (by intro z; cases z), _, ht, rfl⟩
  · cases h
theorem at_app : ∀ (p : List Nat) (t : OT) (k : Kd) (ts : List OT) (j : Nat), t.at p = some (.nd k ts) → t.at (p ++ [j]) = ts[j]?
  | [], t, k, ts, j, h => by
    simp only [OT.at, Option.some.injEq] at h
    subst h
    simp only [List.nil_append, OT.at]
    cases ts[j]? <;> rfl
  | i :: p, .no, k, ts, j, h => by simp [OT.at] at h
  | i :: p, .d x, k, ts, j, h => by simp [OT.at] at h
  | i :: p, .nd k' us, k, ts, j, h => by
    simp only [List.cons_append, OT.at] at h ⊢
    cases hu : us[i]? with
    | none => rw [hu] at h; cases h
    | some t => rw [hu] at h; exact at_app p t k ts j h
theorem c_pix (hp : CP tp i pm) (hb : CR tb b) : CP (tOp (rIxL kf.K) tp tb) i (pmIx pm b) := fun ρ p s h => by
  simp only [pmIx, Option.bind_eq_some_iff] at h
  obtain ⟨⟨p0, s0⟩, h1, h2⟩ := h
  obtain ⟨g1, t, g2, g3⟩ := hp _ _ _ h1
  simp only at h2
  split at h2
  · rename_i us
    simp only [Option.bind_eq_some_iff] at h2
    obtain ⟨d, h3, h4⟩ := h2
    split at h4
    · simp only [Option.bind_eq_some_iff, Option.map_eq_some_iff] at h4
      obtain ⟨j, h5, s', h6, h7⟩ := h4
      cases h7
      exact ⟨pt_ix (k := .lst) g1 g2 g3 (hb _ _ h3) h5, t, g2, (at_app p0 t .lst us j g3).trans h6⟩
    · cases h4
  · cases h2
theorem c_appP (hp : CP tp i pm) (he : CF te fm) : CS js (tDrop (tBM kf.K "list" rAppend tp (tCons te tNil))) (sAppP i pm fm) := fun ρ fl ρ' e => by
  simp only [sAppP, Option.bind_eq_some_iff] at e
  obtain ⟨⟨p0, s0⟩, h1, h2⟩ := e
  obtain ⟨g1, t, g2, g3⟩ := hp _ _ _ h1
  simp only at h2
  split at h2
  · simp only [Option.bind_eq_some_iff] at h2
    obtain ⟨r, h3, h4⟩ := h2
    split at h4
    · cases h4
    · rename_i hn
      split at h4
      · cases h4
        have := run_append (js := js) g1 g2 g3 (he _ _ h3) (isNo_false hn) (by assumption)
        unfold putAt
        rw [g2]
        exact this
      · cases h4
  · cases h2
theorem c_pop (he : CD te dm) : CY (tBM kf.K "list" rPopAt (tVar i) (tCons te tNil)) (yPop i dm) := fun ρ r ρ' e => by
  unfold yPop at e
  split at e
  · rename_i us h0
    simp only [Option.bind_eq_some_iff] at e
    obtain ⟨⟨x, ρ1⟩, e1, e2⟩ := e
    simp only at e2
    split at e2
    · split at e2
      · rename_i vs h1
        split at e2
        · simp only [Option.bind_eq_some_iff, Option.map_eq_some_iff] at e2
          obtain ⟨j, e3, s, e4, e5⟩ := e2
          cases e5
          exact evy_pop h0 ⟨_, rfl⟩ (he _ _ _ e1) h1 e3 e4 (by assumption)
        · cases e2
      · cases e2
    · cases e2
  · cases e
end
/-! ### what is walked -/
def asL : D → Option (List D)
  | .list xs => some xs
  | _ => Option.none
def asT : D → Option (List D)
  | .tuple xs => some xs
  | _ => Option.none
def iL (a : Dm) : Lm := fun ρ => (a ρ).bind fun p => (asL p.1).map fun xs => (xs, p.2)
def iT (a : Dm) : Lm := fun ρ => (a ρ).bind fun p => (asT p.1).map fun xs => (xs, p.2)
def iR1 (a : Lm) : Lm := fun ρ => (a ρ).bind fun p => match p.1 with
  | [.int n] => if -(2 ^ 62) ≤ n ∧ n < 2 ^ 62 then some (rgD 0 n.toNat, p.2) else Option.none
  | _ => Option.none
def iR2 (a : Lm) : Lm := fun ρ => (a ρ).bind fun p => match p.1 with
  | [.int m, .int n] => if -(2 ^ 62) ≤ m ∧ m < 2 ^ 62 ∧ -(2 ^ 62) ≤ n ∧ n < 2 ^ 62 then some (rgD m (n - m).toNat, p.2) else Option.none
  | _ => Option.none
def iE (a : Lm) : Lm := fun ρ => (a ρ).bind fun p => match p.1 with
  | [.list ds] => some (enumD ds, p.2)
  | _ => Option.none
def iZ (a : Lm) : Lm := fun ρ => (a ρ).bind fun p => match p.1 with
  | [.list ds, .list es] => some (zipD ds es, p.2)
  | _ => Option.none
def iV (a : Lm) : Lm := fun ρ => (a ρ).bind fun p => match p.1 with
  | [.list ds] => some (ds.reverse, p.2)
  | _ => Option.none
section
variable {te : TE} {tl : TA} {dm : Dm} {lm : Lm}
theorem c_iL (h : CD te dm) : CI (iList kf.K te) (iL dm) := fun ρ xs ρ' e => by
  simp only [iL, Option.bind_eq_some_iff, Option.map_eq_some_iff] at e
  obtain ⟨⟨d, ρ1⟩, e1, ys, e2, e3⟩ := e
  cases e3
  cases d with
  | list zs => cases e2; exact it_list (h _ _ _ e1)
  | _ => cases e2
theorem c_iR1 (h : CL tl lm) : CI (iRng1 tl) (iR1 lm) := fun ρ xs ρ' e => by
  simp only [iR1, Option.bind_eq_some_iff] at e
  obtain ⟨⟨d, ρ1⟩, e1, e2⟩ := e
  simp only at e2
  split at e2
  · split at e2
    · rename_i hh
      cases e2; exact it_range1 (h _ _ _ e1) hh.2 hh.1
    · cases e2
  · cases e2
theorem c_iR2 (h : CL tl lm) : CI (iRng2 tl) (iR2 lm) := fun ρ xs ρ' e => by
  simp only [iR2, Option.bind_eq_some_iff] at e
  obtain ⟨⟨d, ρ1⟩, e1, e2⟩ := e
  simp only at e2
  split at e2
  · split at e2
    · cases e2; exact it_range2 (h _ _ _ e1) (by assumption)
    · cases e2
  · cases e2
theorem c_iE (h : CL tl lm) : CI (iEnum kf.K tl) (iE lm) := fun ρ xs ρ' e => by
  simp only [iE, Option.bind_eq_some_iff] at e
  obtain ⟨⟨d, ρ1⟩, e1, e2⟩ := e
  simp only at e2
  split at e2
  · cases e2; exact it_enum (h _ _ _ e1)
  · cases e2
end
end MR
namespace MR
open PySem L2 PL
/-! ### operators on data -/
def gI (f : Int → Int → D) : D → D → Option D
  | .int i, .int j => some (f i j)
  | _, _ => Option.none
def gAdd := gI fun i j => .int (i + j)
def gSub := gI fun i j => .int (i - j)
def gLt := gI fun i j => .bool (decide (i < j))
def gLe := gI fun i j => .bool (decide (i ≤ j))
def gGt := gI fun i j => .bool (decide (j < i))
def gGe := gI fun i j => .bool (decide (j ≤ i))
def gMulF : D → D → Option D
  | .int i, .int j => if (-(2 ^ 64) < i ∧ i < 2 ^ 64) ∨ (-(2 ^ 64) < j ∧ j < 2 ^ 64) then some (.int (i * j)) else Option.none
  | _, _ => Option.none
def gModF : D → D → Option D
  | .int i, .int j => if 0 < j then some (.int (i % j)) else Option.none
  | _, _ => Option.none
def gDivF : D → D → Option D
  | .int i, .int j => if 0 < j ∧ j.natAbs < 2 ^ 250 then some (.int (i / j)) else Option.none
  | _, _ => Option.none
def gPowF : D → D → Option D
  | .int i, .int j => if 0 ≤ j ∧ j ≤ 1000000 ∧ i.natAbs < 2 ^ 64 then some (.int (i ^ j.toNat)) else Option.none
  | _, _ => Option.none
theorem gMul_ex : ∃ f : D → D → Option D, f = gMulF := ⟨_, rfl⟩
noncomputable def gMul : D → D → Option D := gMul_ex.choose
theorem gMul_F : gMul = gMulF := gMul_ex.choose_spec
theorem gMod_ex : ∃ f : D → D → Option D, f = gModF := ⟨_, rfl⟩
noncomputable def gMod : D → D → Option D := gMod_ex.choose
theorem gMod_F : gMod = gModF := gMod_ex.choose_spec
theorem gDiv_ex : ∃ f : D → D → Option D, f = gDivF := ⟨_, rfl⟩
noncomputable def gDiv : D → D → Option D := gDiv_ex.choose
theorem gDiv_F : gDiv = gDivF := gDiv_ex.choose_spec
theorem gPow_ex : ∃ f : D → D → Option D, f = gPowF := ⟨_, rfl⟩
noncomputable def gPow : D → D → Option D := gPow_ex.choose
theorem gPow_F : gPow = gPowF := gPow_ex.choose_spec
theorem gMul_l {i j : Int} (h1 : -(2 ^ 64) < i) (h2 : i < 2 ^ 64) : gMul (.int i) (.int j) = some (.int (i * j)) := by
  rw [gMul_F]
  unfold gMulF
  simp only []
  rw [if_pos (.inl ⟨h1, h2⟩)]
theorem gMul_r {i j : Int} (h1 : -(2 ^ 64) < j) (h2 : j < 2 ^ 64) : gMul (.int i) (.int j) = some (.int (i * j)) := by
  rw [gMul_F]
  unfold gMulF
  simp only []
  rw [if_pos (.inr ⟨h1, h2⟩)]
theorem gMod_i {i j : Int} (h : 0 < j) : gMod (.int i) (.int j) = some (.int (i % j)) := by
  rw [gMod_F]
  unfold gModF
  simp only []
  rw [if_pos h]
theorem gDiv_w {i j : Int} (h1 : 0 < j) (h2 : j.natAbs < 2 ^ 250) : gDiv (.int i) (.int j) = some (.int (i / j)) := by
  rw [gDiv_F]
  unfold gDivF
  simp only []
  rw [if_pos ⟨h1, h2⟩]
theorem gDiv_i {i j : Int} (h1 : 0 < j) (h2 : j < 1073741824) : gDiv (.int i) (.int j) = some (.int (i / j)) :=
  gDiv_w h1 (Nat.lt_of_lt_of_le (show j.natAbs < 2 ^ 30 by omega) (Nat.pow_le_pow_right (by decide) (by decide)))
theorem gPow_i {i j : Int} (h1 : 0 ≤ j) (h2 : j ≤ 1000000) (h3 : i.natAbs < 2 ^ 64) : gPow (.int i) (.int j) = some (.int (i ^ j.toNat)) := by
  rw [gPow_F]
  unfold gPowF
  simp only []
  rw [if_pos ⟨h1, h2, h3⟩]
def gNeg : D → Option D
  | .int i => some (.int (-i))
  | _ => Option.none
def gEqD (d e : D) : Option D := if SeqAt.shaped d && SeqAt.shaped e then some (.bool (PyData.eqv d e)) else Option.none
def gNeD (d e : D) : Option D := if SeqAt.shaped d && SeqAt.shaped e then some (.bool (!PyData.eqv d e)) else Option.none
/-- of texts -/
def gEqS : D → D → Option D
  | .str x, .str y => some (.bool (decide (x = y)))
  | _, _ => Option.none
def gNeS : D → D → Option D
  | .str x, .str y => some (.bool (!decide (x = y)))
  | _, _ => Option.none
/-- of ints, of truths -/
def gEqI : D → D → Option D
  | .int x, .int y => some (.bool (decide (x = y)))
  | .bool x, .bool y => some (.bool (decide (x = y)))
  | _, _ => Option.none
def gNeI : D → D → Option D
  | .int x, .int y => some (.bool (!decide (x = y)))
  | .bool x, .bool y => some (.bool (!decide (x = y)))
  | _, _ => Option.none
def gIsN : D → D → Option D
  | d, .none => some (.bool (isN d))
  | _, _ => Option.none
def gNotN : D → D → Option D
  | d, .none => some (.bool (!isN d))
  | _, _ => Option.none
def gIsB : D → D → Option D
  | .bool a, .bool b => some (.bool (decide (a = b)))
  | _, _ => Option.none
def gNotB : D → D → Option D
  | .bool a, .bool b => some (.bool (!decide (a = b)))
  | _, _ => Option.none
def asInt : D → Option Int
  | .int i => some i
  | _ => Option.none
def asInts : List D → Option (List Int)
  | [] => some []
  | x :: xs => (asInt x).bind fun i => (asInts xs).map fun is => i :: is
def asBools : List D → Option (List Bool)
  | [] => some []
  | x :: xs => (asB x).bind fun i => (asBools xs).map fun is => i :: is
def gIxL : D → D → Option D
  | .list ds, .int n => atI ds n
  | _, _ => Option.none
def gIxT : D → D → Option D
  | .tuple ds, .int n => atI ds n
  | _, _ => Option.none
def gLeT : D → D → Option D
  | .tuple [.int a, .int b], .tuple [.int c, .int d] => some (.bool (lexLe (a, b) (c, d)))
  | _, _ => Option.none
theorem asB_is {x : D} {b : Bool} (h : asB x = some b) : x = .bool b := by cases x <;> simp [asB] at h; rw [h]
theorem asBools_some : ∀ {xs : List D} {ns : List Bool}, asBools xs = some ns → xs = ns.map .bool
  | [], ns, h => by cases h; rfl
  | x :: xs, ns, h => by
    simp only [asBools, Option.bind_eq_some_iff, Option.map_eq_some_iff] at h
    obtain ⟨i, h1, is, h2, rfl⟩ := h
    rw [List.map_cons, ← asBools_some h2, asB_is h1]
theorem asBools_map (ns : List Bool) : asBools (ns.map .bool) = some ns := by
  induction ns with
  | nil => rfl
  | cons n ns ih => simp [asBools, asB, ih]
variable [kf : KF]
theorem gI_some {f : Int → Int → D} {d e x : D} (h : gI f d e = some x) : ∃ i j, d = .int i ∧ e = .int j ∧ x = f i j := by
  unfold gI at h
  split at h
  · cases h; exact ⟨_, _, rfl, rfl, rfl⟩
  · cases h
theorem o_I0 {g : Int → Int → V} {f : Int → Int → D} (hg : ∀ i j, vD (g i j) = some (f i j)) : OpM (rI0 g) (gI f) := fun d e x h => by
  obtain ⟨i, j, rfl, rfl, rfl⟩ := gI_some h
  exact fun H v u Q h1 h2 q => by cases h1; cases h2; exact ⟨i, j, rfl, rfl, q _ (hg i j)⟩
theorem o_add : OpM (rI0 fun i j => .int (i + j)) gAdd := o_I0 fun _ _ => rfl
theorem o_sub : OpM (rI0 fun i j => .int (i - j)) gSub := o_I0 fun _ _ => rfl
theorem o_gt : OpM (rI0 fun i j => .bl (decide (j < i))) gGt := o_I0 fun _ _ => rfl
theorem o_ge : OpM (rI0 fun i j => .bl (decide (j ≤ i))) gGe := o_I0 fun _ _ => rfl
theorem o_mul : OpM (rI CMul fun i j => .int (i * j)) gMul := fun d e x h => by
  rw [gMul_F] at h
  unfold gMulF at h
  split at h
  · split at h
    · rename_i hc
      cases h
      exact fun H v u Q h1 h2 q => by cases h1; cases h2; exact ⟨_, _, rfl, rfl, hc, q _ rfl⟩
    · cases h
  · cases h
theorem o_mod : OpM (rI (fun _ j => 0 < j) fun i j => .int (i % j)) gMod := fun d e x h => by
  rw [gMod_F] at h
  unfold gModF at h
  split at h
  · split at h
    · rename_i hc
      cases h
      exact fun H v u Q h1 h2 q => by cases h1; cases h2; exact ⟨_, _, rfl, rfl, hc, q _ rfl⟩
    · cases h
  · cases h
theorem o_div : OpM (rI CDivW fun i j => .int (i / j)) gDiv := fun d e x h => by
  rw [gDiv_F] at h
  unfold gDivF at h
  split at h
  · split at h
    · rename_i hc
      cases h
      exact fun H v u Q h1 h2 q => by cases h1; cases h2; exact ⟨_, _, rfl, rfl, wide_div hc.1 hc.2 (by decide) (by decide), q _ rfl⟩
    · cases h
  · cases h
theorem o_pow : OpM (rI CPow fun i j => .int (i ^ j.toNat)) gPow := fun d e x h => by
  rw [gPow_F] at h
  unfold gPowF at h
  split at h
  · split at h
    · rename_i hc
      cases h
      exact fun H v u Q h1 h2 q => by cases h1; cases h2; exact ⟨_, _, rfl, rfl, hc, q _ rfl⟩
    · cases h
  · cases h
theorem o_neg : UnM (rU fun i => .int (-i)) gNeg := fun d x h => by
  unfold gNeg at h
  split at h
  · cases h
    exact fun H v Q h1 q => by cases h1; exact ⟨_, rfl, q _ rfl⟩
  · cases h
theorem o_eqD : OpM (rEqD kf.K) gEqD := fun d e x h => by
  unfold gEqD at h
  split at h
  · rename_i hc
    simp only [Bool.and_eq_true] at hc
    cases h
    exact fun H v u Q h1 h2 q => ⟨d, e, rp_dp _ _ (noDc_lay _ (SeqAt.canLay_of_shaped hc.1)) h1, rp_dp _ _ (noDc_lay _ (SeqAt.canLay_of_shaped hc.2)) h2, hc.1, hc.2, q _ rfl⟩
  · cases h
theorem o_neD : OpM (rNeD kf.K) gNeD := fun d e x h => by
  unfold gNeD at h
  split at h
  · rename_i hc
    simp only [Bool.and_eq_true] at hc
    cases h
    exact fun H v u Q h1 h2 q => ⟨d, e, rp_dp _ _ (noDc_lay _ (SeqAt.canLay_of_shaped hc.1)) h1, rp_dp _ _ (noDc_lay _ (SeqAt.canLay_of_shaped hc.2)) h2, hc.1, hc.2, q _ rfl⟩
  · cases h
theorem o_eqS : OpM rEq gEqS := fun d e x h => by
  unfold gEqS at h
  split at h
  · cases h
    exact fun H v u Q h1 h2 q => by
      cases h1; cases h2
      exact ⟨rfl, q _ (by simp [vD])⟩
  · cases h
theorem o_neS : OpM rNe gNeS := fun d e x h => by
  unfold gNeS at h
  split at h
  · cases h
    exact fun H v u Q h1 h2 q => by
      cases h1; cases h2
      exact ⟨rfl, q _ (by simp [vD])⟩
  · cases h
theorem o_eqI : OpM rEq gEqI := fun d e x h => by
  unfold gEqI at h
  split at h
  · cases h
    exact fun H v u Q h1 h2 q => by cases h1; cases h2; exact ⟨rfl, q _ (by simp [vD])⟩
  · cases h
    exact fun H v u Q h1 h2 q => by cases h1; cases h2; exact ⟨rfl, q _ (by simp [vD])⟩
  · cases h
theorem o_neI : OpM rNe gNeI := fun d e x h => by
  unfold gNeI at h
  split at h
  · cases h
    exact fun H v u Q h1 h2 q => by cases h1; cases h2; exact ⟨rfl, q _ (by simp [vD])⟩
  · cases h
    exact fun H v u Q h1 h2 q => by cases h1; cases h2; exact ⟨rfl, q _ (by simp [vD])⟩
  · cases h
theorem o_isN : OpM (fun x y H Q => y = V.non ∧ Q (.bl (decide (x = .non))) H) gIsN := fun d e x h => by
  unfold gIsN at h
  split at h
  · cases h
    exact fun H v u Q h1 h2 q => by cases h2; exact ⟨rfl, by rw [rp_isN h1]; exact q _ rfl⟩
  · cases h
theorem o_notN : OpM (fun x y H Q => y = V.non ∧ Q (.bl (!decide (x = .non))) H) gNotN := fun d e x h => by
  unfold gNotN at h
  split at h
  · cases h
    exact fun H v u Q h1 h2 q => by cases h2; exact ⟨rfl, by rw [rp_isN h1]; exact q _ rfl⟩
  · cases h
theorem x_list : IxM (rIxL kf.K) gIxL := fun d e x h => by
  unfold gIxL at h
  split at h
  · exact ixz_list h
  · cases h
theorem x_tup : IxM (rIxT kf.K) gIxT := fun d e x h => by
  unfold gIxT at h
  split at h
  · exact ixz_tup h
  · cases h
theorem o_leT : OpM (rLeT kf.K) gLeT := fun d e x h => by
  unfold gLeT at h
  split at h
  · rename_i a b c d'
    cases h
    intro H v u Q r1 r2 q'
    obtain ⟨p, rfl, e1⟩ := rp_pair (p := (a, b)) r1
    obtain ⟨q, rfl, e2⟩ := rp_pair (p := (c, d')) r2
    refine ⟨p, q, _, _, rfl, rfl, .inl (.of e1), .inl (.of e2), ?_⟩
    refine q' _ ?_
    show some (PyData.bool _) = some (PyData.bool _)
    congr 2
    simp only [List.length_cons, List.length_nil, Nat.min_self, Ob.lexAt_succ, Ob.lexAt_zero, List.getD_cons_zero, List.getD_cons_succ, lexLe, decide_eq_true_eq, Nat.le_refl, decide_true, Nat.zero_add]
    by_cases c1 : a = c
    · by_cases c2 : b = d'
      · simp [c1, c2]
      · simp [c1, c2]
    · simp only [c1, if_false, false_and, or_false]
      congr 1
      apply propext
      omega
  · cases h
/-! ### built-ins that tell flat data -/
def gLen : List D → Option D
  | [.list ds] => some (.int (ds.length : Nat))
  | [.tuple ds] => some (.int (ds.length : Nat))
  | _ => Option.none
def gMax2 : List D → Option D
  | [.int i, .int j] => some (.int (max i j))
  | _ => Option.none
def gMin2 : List D → Option D
  | [.int i, .int j] => some (.int (min i j))
  | _ => Option.none
def gInt : List D → Option D
  | [.int i] => some (.int i)
  | [.bool b] => some (.int (if b then 1 else 0))
  | _ => Option.none
def gAll : List D → Option D
  | [.list ds] => (asBools ds).map fun bs => .bool (bs.all id)
  | _ => Option.none
theorem b_len : CbM (fun xs H Q => ∃ p ys, xs = [V.ref p] ∧ (SqL kf.K H p ys ∨ SqT kf.K H p ys) ∧ Q (.int ys.length) H) gLen := fun ds x h => by
  unfold gLen at h
  split at h
  · cases h
    intro H vs Q r q
    cases r with | cons a b => cases b; cases a with | lst r1 r2 => exact ⟨_, _, rfl, .inl r1, q _ (by rw [dpa_length r2]; rfl)⟩
  · cases h
    intro H vs Q r q
    cases r with | cons a b => cases b; cases a with | tup r1 r2 => exact ⟨_, _, rfl, .inr (.inl (.of r1)), q _ (by rw [dpa_length r2]; rfl)⟩
  · cases h
theorem b_max2 : CbM (fun xs H Q => ∃ i j, xs = [V.int i, .int j] ∧ Q (.int (if j > i then j else i)) H) gMax2 := fun ds x h => by
  unfold gMax2 at h
  split at h
  · cases h
    intro H vs Q r q
    cases r with | cons a b => cases b with | cons b c => cases c; cases a; cases b; exact ⟨_, _, rfl, q _ (by show some (PyData.int _) = _; congr 2; split <;> omega)⟩
  · cases h
theorem b_min2 : CbM (fun xs H Q => ∃ i j, xs = [V.int i, .int j] ∧ Q (.int (if j < i then j else i)) H) gMin2 := fun ds x h => by
  unfold gMin2 at h
  split at h
  · cases h
    intro H vs Q r q
    cases r with | cons a b => cases b with | cons b c => cases c; cases a; cases b; exact ⟨_, _, rfl, q _ (by show some (PyData.int _) = _; congr 2; split <;> omega)⟩
  · cases h
theorem b_int : CbM (fun xs H Q => (∃ i, xs = [V.int i] ∧ Q (.int i) H) ∨ ∃ k, xs = [V.bl k] ∧ Q (.int (if k then 1 else 0)) H) gInt := fun ds x h => by
  unfold gInt at h
  split at h
  · cases h
    intro H vs Q r q
    cases r with | cons a b => cases b; cases a; exact .inl ⟨_, rfl, q _ rfl⟩
  · cases h
    intro H vs Q r q
    cases r with | cons a b => cases b; cases a; exact .inr ⟨_, rfl, q _ rfl⟩
  · cases h
theorem b_all : CbM (rAll kf.K) gAll := fun ds x h => by
  unfold gAll at h
  split at h
  · simp only [Option.map_eq_some_iff] at h
    obtain ⟨ns, h1, rfl⟩ := h
    have e := asBools_some h1
    subst e
    intro H vs Q r q
    cases r with
    | cons a b =>
      cases b
      cases a with
      | lst r1 r2 =>
        have e := dpa_bools r2
        subst e
        exact ⟨_, ns, rfl, r1, q _ rfl⟩
  · cases h
/-- isinstance(e, T), T written -/
def rIs (T : String) (a : Rm) : Rm := fun ρ => (a ρ).bind fun d => (kitB (tyN d) T).map .bool
theorem c_is {te : TE} {a : Rm} {T : String} (ha : CR te a) : CR (tCB (rIsi kf.K) (tCons te (tCons (tC (.ty T)) tNil))) (rIs T a) := fun ρ x h => by
  simp only [rIs, Option.bind_eq_some_iff, Option.map_eq_some_iff] at h
  obtain ⟨d, h1, b, h2, rfl⟩ := h
  exact fun S0 H0 A0 S H τσ τρ σ Q l o q => ha _ _ h1 S0 H0 A0 S H τσ τρ σ _ l o fun v S1 H1 x1 r1 => ⟨v, .ty T, _, _, b, rfl, .ty T, rp_ty r1, kit_ty h2, q _ S1 H1 x1 (.bl b)⟩
/-- a <= b < c, ints -/
def rCh (f g : Int → Int → Bool) (a b c : Rm) : Rm := fun ρ => (a ρ).bind fun x => (b ρ).bind fun y => match x, y with
  | .int i, .int j => if f i j then (c ρ).bind fun z => match z with
    | .int k => some (.bool (g j k))
    | _ => Option.none
    else some (.bool false)
  | _, _ => Option.none
theorem c_ch {ta tb tc : TE} {a b c : Rm} {f g : Int → Int → Bool} (ha : CR ta a) (hb : CR tb b) (hc : CR tc c) : CR (tChain (rI0 fun i j => .bl (f i j)) (rI0 fun i j => .bl (g i j)) ta tb tc) (rCh f g a b c) := fun ρ x h => by
  simp only [rCh, Option.bind_eq_some_iff] at h
  obtain ⟨d, h1, e, h2, h3⟩ := h
  split at h3
  · rename_i i j
    refine fun S0 H0 A0 S H τσ τρ σ Q l o q => ha _ _ h1 S0 H0 A0 S H τσ τρ σ _ l o fun v S1 H1 x1 r1 => hb _ _ h2 S0 H0 A0 S1 H1 τσ τρ σ _ l (o.ext x1) fun u S2 H2 x2 r2 => ?_
    cases r1; cases r2
    refine ⟨i, j, rfl, rfl, f i j, rfl, ?_⟩
    split at h3
    · rename_i hf
      simp only [Option.bind_eq_some_iff] at h3
      obtain ⟨z, h4, h5⟩ := h3
      split at h5
      · cases h5
        rw [hf]
        refine iteT (hc _ _ h4 S0 H0 A0 S2 H2 τσ τρ σ _ l ((o.ext x1).ext x2) fun w S3 H3 x3 r3 => ?_)
        cases r3
        exact ⟨j, _, rfl, rfl, q _ S3 H3 ((x1.trans x2).trans x3) (.bl _)⟩
      · cases h5
    · rename_i hf
      cases h3
      rw [show f i j = false by simpa using hf]
      exact iteF (q _ S2 H2 (x1.trans x2) (.bl false))
  · cases h3
/-! ### built-ins that tell something of their own -/
def lstO (ds : List D) : OT := .nd .lst (ds.map .d)
theorem own_lst {S H : Hp} {p : Addr} {vs : List V} {ds : List D} {Q : VK} (sh : Same S H) (hp : H p = none) (h : RpAll S vs ds) (q : ∀ v' S' H' A, Xt S H S' H' → OOk S' H' v' (lstO ds) A → A.Nodup → (∀ a ∈ A, H a = none) → Q v' H') : Q (.ref p) (upd H p (.lst vs)) :=
  q _ S _ [p] (.new sh hp) (.nd (k := .lst) rfl trivial (sh.free hp) upd_same (oall_of_rp h)) (by simp) fun a ha => by rw [List.mem_singleton.mp ha]; exact hp
end MR
namespace MR
open PySem L2 PL
/-! ### fresh things read -/
def rOpZ (G : D → D → Option OT) (a b : Rm) : Rm := fun ρ => (a ρ).bind fun d => (b ρ).bind fun e => (G d e).bind OT.toD
def rCbZ (G : List D → Option OT) (q : Qm) : Rm := fun ρ => (q ρ).bind fun ds => (G ds).bind OT.toD
/-- a list and a list -/
def GCat : D → D → Option OT
  | .list a, .list b => if a.length + b.length ≤ 1000000 then some (lstO (a ++ b)) else Option.none
  | _, _ => Option.none
/-- slices -/
abbrev Cm := Env → Option (Option Int)
def cNone : Cm := fun _ => some Option.none
def cSome (a : Rm) : Cm := fun ρ => (a ρ).bind fun d => (asInt d).map some
def rSl (a : Rm) (lo hi : Cm) : Rm := fun ρ => (a ρ).bind fun d => (asL d).bind fun xs => (lo ρ).bind fun l => (hi ρ).map fun h => .list (cutD xs l h)
def ySl (a : Dm) (lo hi : Cm) : Ym := fun ρ => (a ρ).bind fun p => (asL p.1).bind fun xs => (lo p.2).bind fun l => (hi p.2).map fun h => (lstO (cutD xs l h), p.2)
def ySlA (ra : Rm) (a : Dm) (lo hi : Cm) : Ym := fun ρ => match (ra ρ).bind fun d => (asL d).bind fun xs => (lo ρ).bind fun l => (hi ρ).bind fun h => lfO (some (lstO (cutD xs l h))) with
  | some r => some (r, ρ)
  | Option.none => ySl a lo hi ρ
/-- [..] * n, of a fresh list of flat items -/
def allD : List OT → Option (List D)
  | [] => some []
  | .d x :: ts => (allD ts).map fun xs => x :: xs
  | _ => Option.none
def yRep (y : Ym) (n : Rm) : Ym := fun ρ => (y ρ).bind fun p => match p.1 with
  | .nd .lst ts => (allD ts).bind fun xs => (n p.2).bind fun d => match d with
    | .int k => if -(2 ^ 63) ≤ k ∧ k < 2 ^ 63 ∧ xs.length * k.toNat ≤ 1000000 then some (lstO (List.replicate k.toNat xs).flatten, p.2) else Option.none
    | _ => Option.none
  | _ => Option.none
def yRng1 (n : Dm) : Ym := fun ρ => (n ρ).bind fun p => match p.1 with
  | .int k => if 0 ≤ k ∧ k ≤ 1000000 then some (lstO (rgD 0 k.toNat), p.2) else Option.none
  | _ => Option.none
def gRepr (d : D) : Option D := if d.canLay0 && decide (d.depth ≤ 60) && d.showable && decide (d.shown.length ≤ sizeLine) then some (.str d.shown) else Option.none
def rRepr (a : Rm) : Rm := fun ρ => (a ρ).bind gRepr
def dRepr (a : Dm) : Dm := fun ρ => (a ρ).bind fun p => (gRepr p.1).map fun x => (x, p.2)
def firstAt : List Int → Int → Nat → Option Nat
  | [], _, _ => Option.none
  | n :: ns, k, j => if n = k then some j else firstAt ns k (j + 1)
def gIndex : D → D → Option D
  | .list ds, .int k => (asInts ds).bind fun ns => (firstAt ns k 0).map fun j => .int (j : Nat)
  | _, _ => Option.none
def rIdx (a b : Rm) : Rm := fun ρ => (a ρ).bind fun d => (b ρ).bind fun e => gIndex d e
/-- dicts by pairs -/
def keyP : D → Option (List Key)
  | .tuple [.int i, .int j] => some [.inl i, .inl j]
  | _ => Option.none
def yDNew : Ym := fun ρ => some (.nd (.dT []) [], ρ)
def putO (ks : List (List Key)) (ts : List OT) (k : List Key) (v : OT) : Kd × List OT :=
  if (ks.any fun x => decide (x = k)) = true then (.dT ks, (ks.zip ts).map fun p => if p.1 = k then v else p.2) else (.dT (ks ++ [k]), ts ++ [v])
def sDPutM (i : Nat) (key val : Rm) : Sm := fun ρ => (val ρ).bind fun v => if !flat v then Option.none else (key ρ).bind fun d => (keyP d).bind fun k => match ρ[i]? with
  | some (.nd (.dT ks) ts) => if ks.length = ts.length ∧ ks.length ≤ 1000000 then some (.nx, ρ.set i (.nd (putO ks ts k (.d v)).1 (putO ks ts k (.d v)).2)) else Option.none
  | _ => Option.none
def asKeyP : List Key → Option (Int × Int)
  | [.inl i, .inl j] => some (i, j)
  | _ => Option.none
def asKeyPs : List (List Key) → Option (List (Int × Int))
  | [] => some []
  | k :: ks => (asKeyP k).bind fun p => (asKeyPs ks).map fun ps => p :: ps
def isTrueO : OT → Bool
  | .d (.bool true) => true
  | _ => false
def ySortD (i : Nat) : Ym := fun ρ => match ρ[i]? with
  | some (.nd (.dT ks) ts) => if ts.all isTrueO && decide (ks.length = ts.length) then (asKeyPs ks).map fun ps => (lstO ((srtL ps).map pairD), ρ) else Option.none
  | _ => Option.none
variable [kf : KF]
section
variable {ta tb tc te : TE} {tl tr : TA} {t u : TT} {a b c : Rm} {q p : Qm} {R : R2} {y z : Ym} {dm dn : Dm} {lm ln : Lm} {tol toh : TO} {lo hi : Cm} {js : List Nat} {i : Nat}
theorem z_cat : OpZ (rCatR kf.K) GCat := fun d e r h => by
  unfold GCat at h
  split at h
  · split at h
    · rename_i hl
      cases h
      intro S H v u Q sh h1 h2 q
      cases h1 with
      | lst r1 r2 =>
        cases h2 with
        | lst p1 p2 => exact ⟨_, _, _, _, rfl, rfl, sh.seq r1, sh.seq p1, sz_of (by rw [dpa_length r2, dpa_length p2]; exact hl), fun p hp => own_lst sh hp (dpa_append r2 p2) q⟩
    · cases h
  · cases h
/-! slices -/
def CC (to : TO) (m : Cm) : Prop := ∀ ρ i, m ρ = some i → ∀ (S0 H0 : Hp) (A0 : List Addr) (S H : Hp) (τσ : List (Option V)) (τρ : List OT) (σ : St) (Q : Option Int → Hp → Prop), τσ.length = τρ.length → Ok S0 H0 A0 S H (τσ ++ σ) (τρ ++ ρ) → (∀ S' H', Xt S H S' H' → Q i H') → to σ H Q
theorem c_cnone : CC tNoPart cNone := fun ρ i h => by cases h; exact fun S0 H0 A0 S H τσ τρ σ Q l o q => q S H (.refl o.sh)
theorem c_csome (ha : CR ta a) : CC (tPart ta) (cSome a) := fun ρ i h => by
  simp only [cSome, Option.bind_eq_some_iff, Option.map_eq_some_iff] at h
  obtain ⟨d, h1, n, h2, rfl⟩ := h
  cases d <;> simp [asInt] at h2
  subst h2
  exact fun S0 H0 A0 S H τσ τρ σ Q l o q => ha _ _ h1 S0 H0 A0 S H τσ τρ σ _ l o fun v S1 H1 x1 r1 => by cases r1; exact ⟨_, rfl, q S1 H1 x1⟩
theorem asL_some {d : D} {xs : List D} (h : asL d = some xs) : d = .list xs := by cases d <;> simp [asL] at h; rw [h]
theorem cut_rp {S : Hp} {vs : List V} {xs : List D} (r2 : RpAll S vs xs) (lo hi : Option Int) : RpAll S (cutV vs lo hi) (cutD xs lo hi) := by
  unfold cutV cutD
  rw [dpa_length r2]
  exact dpa_take _ (dpa_drop _ r2)
theorem c_rsl (ha : CR ta a) (hl : CC tol lo) (hh : CC toh hi) : CR (tSl (rSlL kf.K) ta tol toh) (rSl a lo hi) := fun ρ x h => by
  simp only [rSl, Option.bind_eq_some_iff, Option.map_eq_some_iff] at h
  obtain ⟨d, h1, xs, h2, i, h3, j, h4, rfl⟩ := h
  have e := asL_some h2
  subst e
  refine fun S0 H0 A0 S H τσ τρ σ Q l o q => ha _ _ h1 S0 H0 A0 S H τσ τρ σ _ l o fun v S1 H1 x1 r1 => hl _ _ h3 S0 H0 A0 S1 H1 τσ τρ σ _ l (o.ext x1) fun S2 H2 x2 => hh _ _ h4 S0 H0 A0 S2 H2 τσ τρ σ _ l ((o.ext x1).ext x2) fun S3 H3 x3 => ?_
  cases r1 with
  | lst r1 r2 =>
    have xa := x2.trans x3
    have r3 := cut_rp (dpa_mono xa.hh _ _ r2) i j
    refine ⟨_, _, rfl, xa.hh.seq r1, fun p hp => ?_⟩
    exact q _ S3 _ ((x1.trans xa).trans (.new x3.sh hp)) (.lst (SqL.of upd_same) (dpa_mono (Xt.new (o := .lst _) x3.sh hp).hh _ _ r3))
theorem c_ysl (ha : CD ta dm) (hl : CC tol lo) (hh : CC toh hi) : CY (tSl (rSlL kf.K) ta tol toh) (ySl dm lo hi) := fun ρ r ρ' h => by
  simp only [ySl, Option.bind_eq_some_iff, Option.map_eq_some_iff] at h
  obtain ⟨⟨d, ρ1⟩, h1, xs, h2, i, h3, j, h4, h5⟩ := h
  cases h5
  have e := asL_some h2
  simp only at e
  subst e
  refine fun S0 H0 A0 S H τσ τρ σ Q l o q => ha _ _ _ h1 S0 H0 A0 S H τσ τρ σ _ l o fun v S1 H1 s1 o1 r1 => hl _ _ h3 S0 H0 A0 S1 H1 τσ τρ σ _ l o1 fun S2 H2 x2 => hh _ _ h4 S0 H0 A0 S2 H2 τσ τρ σ _ l (o1.ext x2) fun S3 H3 x3 => ?_
  cases r1 with
  | lst r1 r2 =>
    have xa := x2.trans x3
    exact ⟨_, _, rfl, (o1.sh.trans xa.hh).seq r1, fun p hp => own_lst x3.sh hp (cut_rp (dpa_mono xa.ss _ _ r2) i j) fun v' S' H' A xt g nd fr => q v' S' H' (s1.trans (xa.ss.trans xt.ss)) (((o1.ext x2).ext x3).push xt g nd fr)⟩
theorem c_yslA (hra : CR ta a) (ha : CD ta dm) (hl : CC tol lo) (hh : CC toh hi) : CY (tSl (rSlL kf.K) ta tol toh) (ySlA a dm lo hi) := fun ρ r ρ' h => by
  unfold ySlA at h
  split at h
  · rename_i r' hr
    cases h
    simp only [Option.bind_eq_some_iff] at hr
    obtain ⟨d, h1, xs, h2, i, h3, j, h4, h5⟩ := hr
    obtain ⟨h6, h7⟩ := lfO_some h5
    cases h6
    have e := asL_some h2
    subst e
    refine fun S0 H0 A0 S H τσ τρ σ Q l o q => hra _ _ h1 S0 H0 A0 S H τσ τρ σ _ l o fun v S1 H1 x1 r1 => hl _ _ h3 S0 H0 A0 S1 H1 τσ τρ σ _ l (o.ext x1) fun S2 H2 x2 => hh _ _ h4 S0 H0 A0 S2 H2 τσ τρ σ _ l ((o.ext x1).ext x2) fun S3 H3 x3 => ?_
    cases r1 with
    | lst r1 r2 =>
      have xa := x2.trans x3
      refine ⟨_, _, rfl, xa.hh.seq r1, fun p hp => own_lst (Same.refl H3) hp (cut_rp (dpa_mono xa.hh _ _ r2) i j) fun v' S' H' A xt g nd fr => ?_⟩
      exact q v' _ H' ((x1.trans xa).trans (xt_low x3.sh xt)).ss ((((o.ext x1).ext x2).ext x3).push (xt_low x3.sh xt) (ook_lf xt.sh _ _ _ g h7 fun a ha => x3.sh.free (fr a ha)) nd fr)
  · exact c_ysl ha hl hh _ _ _ h
theorem allD_some : ∀ {ts : List OT} {xs : List D}, allD ts = some xs → ts = xs.map .d
  | [], xs, h => by cases h; rfl
  | .d x :: ts, xs, h => by
    simp only [allD, Option.map_eq_some_iff] at h
    obtain ⟨ys, h1, rfl⟩ := h
    rw [List.map_cons, ← allD_some h1]
  | .no :: ts, xs, h => by simp [allD] at h
  | .nd _ _ :: ts, xs, h => by simp [allD] at h
theorem c_yrep (hy : CY ta y) (hn : CR tb b) : CY (tOp rRep ta tb) (yRep y b) := fun ρ r ρ' h => by
  simp only [yRep, Option.bind_eq_some_iff] at h
  obtain ⟨⟨s, ρ1⟩, h1, h2⟩ := h
  simp only at h2
  split at h2
  · simp only [Option.bind_eq_some_iff] at h2
    obtain ⟨xs, h3, d, h4, h5⟩ := h2
    split at h5
    · split at h5
      · rename_i ts _ k hk
        cases h5
        have e := allD_some h3
        subst e
        refine fun S0 H0 A0 S H τσ τρ σ Q l o q => hy _ _ _ h1 S0 H0 A0 S H τσ τρ σ _ l o fun v S1 H1 s1 o1 => hn _ _ h4 S0 H0 A0 S1 H1 (some v :: τσ) (.nd .lst (xs.map .d) :: τρ) σ _ (by simp [l]) o1 fun u S2 H2 x2 r2 => ?_
        cases r2
        have o2 := o1.ext x2
        obtain ⟨B, e1, e2, e3⟩ := o2.env
        cases e1 with
        | cons p1 p2 =>
          cases p1 with
          | is p1 =>
            obtain ⟨a, vs, C, rfl, rfl, g1, g2, g3, g4⟩ := p1.inv_nd rfl
            have g5 := oall_rpS _ _ _ g4
            have len := dpa_length g5
            refine ⟨a, k, vs, rfl, rfl, g3, hk.1, hk.2.1, sz_of (by rw [len]; exact hk.2.2), fun p hp => ?_⟩
            exact own_lst x2.sh hp (dpa_rep g5 _) fun v' S' H' A xt g nd fr => q v' S' H' (s1.trans (x2.ss.trans xt.ss)) (o2.drop.push xt g nd fr)
      · cases h5
    · cases h5
  · cases h2
theorem c_yrng (hn : CD ta dm) : CY (tLstRg (tRg1 ta)) (yRng1 dm) := fun ρ r ρ' h => by
  simp only [yRng1, Option.bind_eq_some_iff] at h
  obtain ⟨⟨d, ρ1⟩, h1, h2⟩ := h
  simp only at h2
  split at h2
  · split at h2
    · rename_i n hk
      cases h2
      refine fun S0 H0 A0 S H τσ τρ σ Q l o q => hn _ _ _ h1 S0 H0 A0 S H τσ τρ σ _ l o fun v S1 H1 s1 o1 r1 => ?_
      cases r1
      refine ⟨_, rfl, RgOk.of_le (by omega) (by omega) (by omega) hk.1, fun p hp => ?_⟩
      have e := dpa_rg (H := S1) 0 n
      rw [show (n - 0).toNat = n.toNat by rw [Int.sub_zero]] at e
      exact own_lst o1.sh hp e fun v' S' H' A xt g nd fr => q v' S' H' (s1.trans xt.ss) (o1.push xt g nd fr)
    · cases h2
  · cases h2
/-! repr -/
def rReprV (K : PySem.W.Frag) : List V → Hp → VK → Prop := fun xs H Q => ∃ x d, xs = [x] ∧ Dp K H x d ∧ d.canLay0 = true ∧ d.depth ≤ 60 ∧ d.showable = true ∧ d.shown.length ≤ sizeLine ∧ Q (.str d.shown) H
end
theorem cr_repr {X : Cx} (hg : X.A.guards = some []) (hu : X.A.units + 64 < cLine) : CallR X (.builtin "repr") (rReprV X.K) := by
  intro pins s σ H xs us Q I r h
  obtain ⟨x, d, rfl, hd, hl, hdep, hs, hz, q⟩ := h
  obtain ⟨u, rfl, ru⟩ := vals1 r
  obtain ⟨as, hr⟩ := Dp.reads I d x u hd ru
  have fin : ∀ h' tk tk', (∀ b o, s.heap.get? b = some o → h'.get? b = some o) → EP X pins σ Q (.str d.shown tk') { s with heap := h', toks := tk } := fun h' tk tk' k => ⟨.str d.shown, H, I.kept k, ⟨tk', rfl⟩, q⟩
  have fin0 : ∀ tk', EP X pins σ Q (.str d.shown tk') { s with toks := s.toks + 1 } := fun tk' => ⟨.str d.shown, H, I.tok _, ⟨tk', rfl⟩, q⟩
  have fin1 : ∀ tk', EP X pins σ Q (.str d.shown tk') s := fun tk' => ⟨.str d.shown, H, I, ⟨tk', rfl⟩, q⟩
  cases hr with
  | none =>
    refine PySem.P.repr_of_none ?_
    simpa [PyData.shown_none] using fin0 s.toks
  | bool b =>
    refine PySem.P.repr_of_bool ?_
    simpa [PyData.shown_bool] using fin0 s.toks
  | int i t =>
    refine PySem.P.repr_of_int (by simpa [PyData.showable] using hs) ?_
    simpa [PyData.shown_int] using fin0 s.toks
  | str x t =>
    refine PySem.P.repr_of_str ?_ ?_
    · simpa [PyData.shown_str] using fin0 s.toks
    · simpa [PyData.shown_str] using hz
  | list h1 h2 h3 h4 =>
    exact PySem.repr_of_reads' (.list h1 h2 h3 h4) hs (PyData.noDict_hsm (PyData.hasDict_of_canLay _ hl)) hg (by omega) (fun _ _ e => e) (fun h' u tk k => fin h' tk u k) hz
  | tuple h1 h2 h3 h4 =>
    exact PySem.repr_of_reads' (.tuple h1 h2 h3 h4) hs (PyData.noDict_hsm (PyData.hasDict_of_canLay _ hl)) hg (by omega) (fun _ _ e => e) (fun h' u tk k => fin h' tk u k) hz
  | dict => simp [PyData.canLay0] at hl
theorem cr_reprK {X : Cx} {K : PySem.W.Frag} (hK : X.K = K) (hg : X.A.guards = some []) (hu : X.A.units + 64 < cLine) : CallR X (.builtin "repr") (rReprV K) := by subst hK; exact cr_repr hg hu
end MR
namespace MR
open PySem L2 PL
variable [kf : KF]
section
variable {ta tb tc te : TE} {tl tr tk : TA} {t u : TT} {a b c : Rm} {q p : Qm} {R : R2} {y z : Ym} {dm dn : Dm} {lm ln : Lm} {js : List Nat} {i : Nat} {E : XK}
theorem c_repr (ha : CR ta a) : CR (tCB (rReprV kf.K) (tCons ta tNil)) (rRepr a) := fun ρ x h => by
  simp only [rRepr, Option.bind_eq_some_iff] at h
  obtain ⟨d, h1, h2⟩ := h
  unfold gRepr at h2
  split at h2
  · rename_i hc
    simp only [Bool.and_eq_true, decide_eq_true_eq] at hc
    cases h2
    exact fun S0 H0 A0 S H τσ τρ σ Q l o q => ha _ _ h1 S0 H0 A0 S H τσ τρ σ _ l o fun v S1 H1 x1 r1 => ⟨v, d, rfl, rp_dp _ _ (noDc_lay _ hc.1.1.1) r1, hc.1.1.1, hc.1.1.2, hc.1.2, hc.2, q _ S1 H1 x1 (.str _)⟩
  · cases h2
theorem c_dnew : CY tDNewT yDNew := fun ρ r ρ' h => by
  cases h
  exact fun S0 H0 A0 S H τσ τρ σ Q l o q p hp => q _ S _ (Same.refl S) (o.push (.new o.sh hp) (.nd (k := .dT []) (vs := []) (B := []) rfl rfl (o.sh.free hp) upd_same .nil) (by simp) fun a ha => by rw [List.mem_singleton.mp ha]; exact hp)
theorem putK_zip {ks : List (List Key)} {vs : List V} {k : List Key} {v : V} (hl : ks.length = vs.length) :
    putK (ks.zip vs) k v = if (ks.any fun x => decide (x = k)) = true then ks.zip ((ks.zip vs).map fun p => if p.1 = k then v else p.2) else (ks ++ [k]).zip (vs ++ [v]) := by
  have e : ((ks.zip vs).any fun kv => decide (kv.1 = k)) = ks.any fun x => decide (x = k) := by
    have h1 : (ks.zip vs).map (·.1) = ks := List.map_fst_zip (by omega)
    have h2 : ((ks.zip vs).map (·.1)).any (fun x => decide (x = k)) = (ks.zip vs).any fun kv => decide (kv.1 = k) := by rw [List.any_map]; rfl
    rw [h1] at h2
    exact h2.symm
  unfold putK
  rw [e]
  split
  · have gen : ∀ (ks : List (List Key)) (vs : List V), ks.length = vs.length → (ks.zip vs).map (fun kv => if kv.1 = k then (kv.1, v) else kv) = ks.zip ((ks.zip vs).map fun p => if p.1 = k then v else p.2) := by
      intro ks
      induction ks with
      | nil => intro vs _; rfl
      | cons x ks ih =>
        intro vs hl
        cases vs with
        | nil => simp at hl
        | cons w vs =>
          simp only [List.zip_cons_cons, List.map_cons]
          rw [ih vs (by simpa using hl)]
          split <;> rfl
    exact gen ks vs hl
  · rw [List.zip_append hl]; rfl
theorem c_dput (hk : CR tb b) (hv : CR tc c) : CS js (sDPut (tVar i) tb tc) (sDPutM i b c) := fun ρ fl ρ' h => by
  simp only [sDPutM, Option.bind_eq_some_iff] at h
  obtain ⟨v, h1, h2⟩ := h
  split at h2
  · cases h2
  · rename_i hfl
    have hfl : flat v = true := by simpa using hfl
    simp only [Option.bind_eq_some_iff] at h2
    obtain ⟨d, h3, k, h4, h5⟩ := h2
    split at h5
    · rename_i ks ts ht
      split at h5
      · rename_i hc
        cases h5
        refine fun S0 H0 A0 S H σ F E hF hx o kk => hv _ _ h1 S0 H0 A0 S H [] [] σ _ rfl o fun w S1 H1 x1 r1 => ?_
        have o1 := o.ext x1
        obtain ⟨w0, a, vs, B, C, g1, g2, g5, g3, g6, g7, g8, g9, g10⟩ := Ok.rewrite (τσ := []) (τρ := []) (p := []) rfl o1.dummy ht rfl rfl
        simp only [follow, Option.some.injEq] at g2
        subst g2
        refine ⟨_, g1, hk _ _ h3 S0 H0 A0 S1 H1 [] [] σ _ rfl o1 fun u S2 H2 x2 r2 => ?_⟩
        have o2 := o1.ext x2
        obtain ⟨w0', a', vs', B', C', g1', g2', g5', g3', g6', g7', g8', g9', g10'⟩ := Ok.rewrite (τσ := []) (τρ := []) (p := []) rfl o2.dummy ht rfl rfl
        rw [g1] at g1'; cases g1'
        simp only [follow, Option.some.injEq] at g2'
        cases g2'
        unfold keyP at h4
        split at h4
        · rename_i i1 j1
          cases h4
          obtain ⟨ka, rfl, ke⟩ := rp_pair (p := (i1, j1)) r2
          have len := g7'.len
          refine ⟨a, _, rfl, DPut.t (k := [.inl i1, .inl j1]) g3' ke (sz_lt (by rw [List.length_zip]; omega)), ?_⟩
          rw [putK_zip (by omega)]
          have vw : OOk S2 H2 w (.d v) [] := .d (dp_flat hfl r1)
          have fin : ∀ {k' : Kd} {us : List V} {ts' : List OT} {B2 : List Addr}, k'.isTup = false → k'.fits ts'.length → OAll S2 H2 us ts' B2 → B2.Nodup → (∀ b ∈ B2, b ∈ B') → E.nx σ (upd H2 a (shape k' us)) → True := fun _ _ _ _ _ _ => trivial
          have done : ∀ {k' : Kd} {us : List V} {ts' : List OT} {B2 : List Addr}, k'.isTup = false → k'.fits ts'.length → OAll S2 H2 us ts' B2 → B2.Nodup → (∀ b ∈ B2, b ∈ B') → (.nd k' ts' = OT.nd (putO ks ts [.inl i1, .inl j1] (.d v)).1 (putO ks ts [.inl i1, .inl j1] (.d v)).2) → E.nx σ (upd H2 a (shape k' us)) := by
            intro k' us ts' B2 z1 z2 z3 z4 z5 z6
            have := g10' (k' := k') (y' := Option.none) (r' := .no) (C' := []) z1 z2 z3 .no (by simpa using z4) (fun b hb => List.mem_append_left _ (z5 b (by simpa using hb)))
            have := this.drop
            simp only [OT.put] at this
            rw [z6] at this
            exact kk S2 _ σ (x1.ss.trans x2.ss) hx this
          have ndB := (List.nodup_append.mp g9').1
          split
          · rename_i hany
            -- the values under that key are the new one
            have gen : ∀ (ks : List (List Key)) (vs : List V) (ts : List OT) (B : List Addr), ks.length = ts.length → OAll S2 H2 vs ts B → B.Nodup → ∃ B2, OAll S2 H2 ((ks.zip vs).map fun p => if p.1 = [Sum.inl i1, Sum.inl j1] then w else p.2) ((ks.zip ts).map fun p => if p.1 = [Sum.inl i1, Sum.inl j1] then OT.d v else p.2) B2 ∧ B2.Nodup ∧ ∀ b ∈ B2, b ∈ B := by
              intro ks
              induction ks with
              | nil => intro vs ts B hl h nd; exact ⟨[], .nil, List.nodup_nil, fun b hb => by cases hb⟩
              | cons x ks ih =>
                intro vs ts B hl h nd
                cases ts with
                | nil => simp at hl
                | cons t ts =>
                  cases h with
                  | @cons v0 vs _ _ A B h1 h2 =>
                    have nd' := List.nodup_append.mp nd
                    obtain ⟨B2, q1, q2, q3⟩ := ih vs ts B (by simpa using hl) h2 nd'.2.1
                    simp only [List.zip_cons_cons, List.map_cons]
                    by_cases e : x = [Sum.inl i1, Sum.inl j1]
                    · rw [if_pos e, if_pos e]
                      exact ⟨[] ++ B2, .cons vw q1, by simpa using q2, fun b hb => List.mem_append_right _ (q3 b (by simpa using hb))⟩
                    · rw [if_neg e, if_neg e]
                      refine ⟨A ++ B2, .cons h1 q1, List.nodup_append.mpr ⟨nd'.1, q2, fun a ha b hb => nd'.2.2 a ha b (q3 b hb)⟩, fun b hb => ?_⟩
                      rcases List.mem_append.mp hb with z | z
                      · exact List.mem_append_left _ z
                      · exact List.mem_append_right _ (q3 b z)
            obtain ⟨B2, q1, q2, q3⟩ := gen ks vs' ts B' hc.1 g7' ndB
            refine done (k' := .dT ks) rfl ?_ q1 q2 q3 ?_
            · show ks.length = _
              rw [List.length_map, List.length_zip]; omega
            · unfold putO; rw [if_pos hany]
          · rename_i hany
            refine done (k' := .dT (ks ++ [[.inl i1, .inl j1]])) rfl ?_ (g7'.app (.one vw)) (by simpa using ndB) (fun b hb => by simpa using hb) ?_
            · show (ks ++ [[Sum.inl i1, Sum.inl j1]]).length = (ts ++ [OT.d v]).length
              simp [hc.1]
            · unfold putO; rw [if_neg hany]
        · cases h4
      · cases h5
    · cases h5
theorem asKeyPs_some : ∀ {ks : List (List Key)} {ps : List (Int × Int)}, asKeyPs ks = some ps → ks = ps.map fun p => (PL.keyOf p).1
  | [], ps, h => by cases h; rfl
  | k :: ks, ps, h => by
    simp only [asKeyPs, Option.bind_eq_some_iff, Option.map_eq_some_iff] at h
    obtain ⟨p, h1, qs, h2, rfl⟩ := h
    rw [List.map_cons, ← asKeyPs_some h2]
    unfold asKeyP at h1
    split at h1
    · cases h1; rfl
    · cases h1
theorem c_sortD : CY (tCB rSortedDT (tCons (tVar i) tNil)) (ySortD i) := fun ρ r ρ' h => by
  unfold ySortD at h
  split at h
  · rename_i ks ts ht
    split at h
    · rename_i hc
      simp only [Bool.and_eq_true, decide_eq_true_eq] at hc
      simp only [Option.map_eq_some_iff] at h
      obtain ⟨ps, h1, h2⟩ := h
      cases h2
      have e := asKeyPs_some h1
      refine fun S0 H0 A0 S H τσ τρ σ Q l o q => ?_
      obtain ⟨v, A, e1, e2⟩ := o.slot l ht (by intro z; cases z)
      obtain ⟨a, vs, B, rfl, rfl, g1, g2, g3, g4⟩ := e2.inv_nd rfl
      have trues : ∀ (ts : List OT) (vs : List V) (B : List Addr), OAll S H vs ts B → ts.all isTrueO = true → ∀ ps : List (Int × Int), ps.length = ts.length → (ps.map fun p => (PL.keyOf p).1).zip vs = ps.map PL.keyOf := by
        intro ts
        induction ts with
        | nil => intro vs B h _ ps hl; cases h; cases ps with
          | nil => rfl
          | cons => simp at hl
        | cons t ts ih =>
          intro vs B h hall ps hl
          rw [List.all_cons, Bool.and_eq_true] at hall
          cases h with
          | cons h1 h2 =>
            cases ps with
            | nil => simp at hl
            | cons p ps =>
              have et : t = .d (.bool true) := by
                have := hall.1
                unfold isTrueO at this
                split at this
                · rfl
                · cases this
              subst et
              cases h1 with
              | d h1 =>
                cases h1
                simp only [List.map_cons, List.zip_cons_cons]
                rw [ih _ _ h2 hall.2 ps (by simpa using hl)]
                rfl
      have g3' : H a = some (.dT (ps.map PL.keyOf)) := by
        rw [g3]
        show some (HO.dT (ks.zip vs)) = _
        rw [e, trues ts vs B g4 hc.1 ps (by rw [← hc.2, e, List.length_map])]
      refine ⟨_, e1, a, ps, rfl, g3', fun qs p q1 q2 q3 hp => ?_⟩
      have eq : srtL ps = qs.map (·.2) := lex_uniq (srtL_lex ps) q1 ((srtL_perm ps).trans q2.symm)
      have rp : ∀ l : List (Addr × (Int × Int)), (∀ z ∈ l, z ∈ qs) → RpAll (frz S H []) (l.map fun q => V.ref q.1) ((l.map (·.2)).map pairD) := by
        intro l
        induction l with
        | nil => intro _; exact .nil
        | cons z l ih =>
          intro hm
          exact .cons (.tup (frz_tup (q3 z (hm z List.mem_cons_self))) (.cons (.int _) (.cons (.int _) .nil))) (ih fun w hw => hm w (List.mem_cons_of_mem _ hw))
      rw [eq] at q
      have xf := xt_frz (S := S) (H := H) o.sh
      exact own_lst xf.sh hp (rp qs fun _ z => z) fun v' S' H' A xt g nd fr => q v' S' H' (xf.ss.trans xt.ss) ((o.ext xf).push xt g nd fr)
    · cases h
  · cases h
/-! ### keywords in the parameters' order -/
def lApp (m k : Nat) (a b : Lm) : Lm := fun ρ => (a ρ).bind fun p => (b p.2).bind fun q => if p.1.length = m ∧ q.1.length = k then some (p.1 ++ q.1, q.2) else Option.none
def qApp (m k : Nat) (a b : Qm) : Qm := fun ρ => (a ρ).bind fun p => (b ρ).bind fun q => if p.length = m ∧ q.length = k then some (p ++ q) else Option.none
end
/-- a def with what it promises -/
structure Dq (P : Program) (w : World) (K : PySem.W.Frag) (mg : Str → Option Value) (base : Heap) (x : Str) (k : Nat) (ps : List Str) (sp : Sp) where
  a : Addr
  fd : FuncData
  kp : PySem.W.keepIn K (.ref a) = true
  g : mg x = some (.ref a)
  G : FnQ P w K mg base CX0 k a fd ps sp
  b : Binds K fd ps []
end MR
namespace MR
open PySem L2 PL
/-- f(x, ..), x made anew and let go -/
def yCallIT (f : OT → List D → Option (OT × OT)) (n : Nat) (y : Ym) (a : Lm) : Ym := fun ρ => (y ρ).bind fun p => if isNo p.1 then Option.none else (a p.2).bind fun q => if q.1.length + 1 = n then (f p.1 q.1).map fun s => (s.1, q.2) else Option.none
variable [kf : KF] [wx : WXI]
end MR
namespace MR
open PySem L2 PL
def ini (ds : List D) (k : Nat) : Env := ds.map OT.d ++ List.replicate k OT.no
variable [kf : KF] [wx : WXI]
theorem tie_plain {n k : Nat} {B : Sm} {vs : List V} {H : Hp} {Q : VK} {E : XK} {N : List Str} {t : TS} (hk : N.length - n = k) (hc : CS [] t B) (h : spP n (fun ds => fin (B (ini ds k))) vs H Q E) : t { nx := fun _ H' => Q .non H', rt := Q } (L2.start N vs) H := by
  subst hk
  exact def_plain h fun ds r hn hf => ⟨B (ini ds _), hf, fun fl ρ' e => hc _ _ _ e⟩
end MR
namespace MR
open PySem L2 PL
variable [kf : KF] [wx : WXI]
section
variable {ρ ρ1 ρ2 ρ' : Env} {ta tb tc te : TE} {tl : TA} {d e x y : D} {r s t t0 : OT} {S H S' H' S0 H0 : Hp} {A0 : List Addr} {σ τσ : St} {τρ : List OT} {ts : List OT} {js : List Nat} {i : Nat} {p : List Nat}
theorem pt_ixT {n : Int} {j : Nat} {k : Kd} (hp : PtE ta ρ i p) (ht : ρ[i]? = some t) (hs : t.at p = some (.nd .tup ts)) (hb : RdE tb ρ (.int n)) (hj : ixN ts.length n = some j) : PtE (tOp (rIxT kf.K) ta tb) ρ i (p ++ [j]) := fun S0 H0 A0 S H τσ τρ σ Q l o q =>
  hp S0 H0 A0 S H τσ τρ σ _ l o fun v0 v S1 H1 x1 e1 f1 => hb S0 H0 A0 S1 H1 τσ τρ σ _ l (o.ext x1) fun u S2 H2 x2 h2 => by
    cases h2
    have o2 := (o.ext x1).ext x2
    have hn : t ≠ .no := by rintro rfl; cases p <;> simp [OT.at] at hs
    obtain ⟨v0', A, g1, g2, g3, _⟩ := o2.tree l ht hn
    rw [e1] at g1
    cases g1
    obtain ⟨w, A1, f2, f3, _⟩ := ook_path p g2 g3 hs
    have o1 := o.ext x1
    obtain ⟨v0'', A', g1', g2', g3', _⟩ := o1.tree l ht hn
    rw [e1] at g1'
    cases g1'
    obtain ⟨w', A1', f2', f3', _⟩ := ook_path p g2' g3' hs
    rw [f1] at f2'
    cases f2'
    have same : follow H2 v0 p = follow H1 v0 p := by
      have gen : ∀ (p : List Nat) (v w : V), follow H1 v p = some w → follow H2 v p = some w := by
        intro p
        induction p with
        | nil => intro v w h; exact h
        | cons i p ih =>
          intro v w h
          cases v with
          | ref a =>
            simp only [follow] at h ⊢
            cases hk : (kids (H1 a))[i]? with
            | none => rw [hk] at h; cases h
            | some u =>
              rw [hk] at h
              have : kids (H2 a) = kids (H1 a) := by
                cases hh : H1 a with
                | none => rw [hh] at hk; simp [kids] at hk
                | some o' => rw [x2.hh a o' hh]
              rw [this, hk]
              exact ih u w h
          | _ => simp [follow] at h
      rw [f1]
      exact gen p v0 v f1
    rw [f2, f1] at same
    cases same
    cases f3 with
    | nd y0 => cases y0
    | @tup a vs _ _ y3 y4 =>
      have len := y4.len
      have hlt : j < vs.length := by
        have := (ixN_seq hj).2.1
        omega
      refine ⟨a, vs, n, vs[j], rfl, rfl, .inl (.of y3), ?_, q v0 vs[j] S2 H2 (x1.trans x2) e1 ?_⟩
      · unfold atI
        rw [len, hj]
        exact List.getElem?_eq_getElem hlt
      · have app : ∀ (p : List Nat) (v : V), follow H2 v p = some (.ref a) → follow H2 v (p ++ [j]) = some vs[j] := by
          intro p
          induction p with
          | nil =>
            intro v h
            simp only [follow, Option.some.injEq] at h
            subst h
            simp only [List.nil_append, follow, y3, kids]
            rw [List.getElem?_eq_getElem hlt]
          | cons i p ih =>
            intro v h
            cases v with
            | ref b =>
              simp only [List.cons_append, follow] at h ⊢
              cases hk : (kids (H2 b))[i]? with
              | none => rw [hk] at h; cases h
              | some u => rw [hk] at h; exact ih u h
            | _ => simp [follow] at h
        exact app p v0 f2
end
def pmIxT (pm : Pm) (ix : Rm) : Pm := fun ρ => (pm ρ).bind fun q => match q.2 with
  | .nd .tup ts => (ix ρ).bind fun d => match d with
    | .int n => (ixN ts.length n).bind fun j => (ts[j]?).map fun s => (q.1 ++ [j], s)
    | _ => Option.none
  | _ => Option.none
theorem c_pixT {tp tb : TE} {i : Nat} {pm : Pm} {b : Rm} (hp : CP tp i pm) (hb : CR tb b) : CP (tOp (rIxT kf.K) tp tb) i (pmIxT pm b) := fun ρ p s h => by
  simp only [pmIxT, Option.bind_eq_some_iff] at h
  obtain ⟨⟨p0, s0⟩, h1, h2⟩ := h
  obtain ⟨g1, t, g2, g3⟩ := hp _ _ _ h1
  simp only at h2
  split at h2
  · rename_i us
    simp only [Option.bind_eq_some_iff] at h2
    obtain ⟨d, h3, h4⟩ := h2
    split at h4
    · simp only [Option.bind_eq_some_iff, Option.map_eq_some_iff] at h4
      obtain ⟨j, h5, s', h6, h7⟩ := h4
      cases h7
      exact ⟨pt_ixT (k := .tup) g1 g2 g3 (hb _ _ h3) h5, t, g2, (at_app p0 t .tup us j g3).trans h6⟩
    · cases h4
  · cases h2
end MR
namespace MR
open PySem L2 PL
section
variable {X : Cx} {K : PySem.W.Frag} (hK : X.K = K) {T : String} {name : Str} {id : String} {r : V → List V → Hp → VK → Prop} {o e : Expr} {es : List Expr} {to : TE} {t : TA} {apos cpos : Pos}
include hK
theorem pe_bmK (pa : PlainAttrs T) (slot : Slot T name id) (hty : typeOf (.builtin id) = pure (.type "method_descriptor")) (hm : MtR X id r) (ho : PE X o to) (ha : PA X (e :: es) t)
    (hbase : attributeBase o name X.env (eval o X.env) = eval o X.env := by rfl)
    (hfew : ((backTo cpos (starEach (e :: es) X.env)).all (fun x => !x.1) && (backToKw cpos (keywordEach [] X.env)).all (fun x => x.1.isSome) && decide ((e :: es).length + ([] : List Keyword).length + (if ([] : List Keyword).isEmpty then 0 else 1) < 30)) = true := by rfl)
    (hline : (apos.endLine == cpos.line) = true := by rfl) (hs : starEach (e :: es) X.env = (false, eval e X.env) :: starEach es X.env := by rfl) (hp : (backTo cpos (starEach es X.env)).any (·.1) = false := by rfl) :
    PE X (.Call (.Attribute o name apos) (e :: es) [] cpos) (tBM K T r to t) := by
  subst hK
  exact pe_bm pa slot hty hm ho ha hbase hfew hline hs hp
end
end MR
namespace MR
open PySem L2 PL
/-- a <= b < c < d, ints -/
def rCh3 (f g h : Int → Int → Bool) (a b c d : Rm) : Rm := fun ρ => (a ρ).bind fun x => (b ρ).bind fun y => match x, y with
  | .int i, .int j => if f i j then (c ρ).bind fun z => match z with
    | .int k => if g j k then (d ρ).bind fun u => match u with
      | .int l => some (.bool (h k l))
      | _ => Option.none
      else some (.bool false)
    | _ => Option.none
    else some (.bool false)
  | _, _ => Option.none
variable [kf : KF]
theorem c_ch3 {ta tb tc td : TE} {a b c d : Rm} {f g h : Int → Int → Bool} (ha : CR ta a) (hb : CR tb b) (hc : CR tc c) (hd : CR td d) :
    CR (tCh3 (rI0 fun i j => .bl (f i j)) (rI0 fun i j => .bl (g i j)) (rI0 fun i j => .bl (h i j)) ta tb tc td) (rCh3 f g h a b c d) := fun ρ x hh => by
  simp only [rCh3, Option.bind_eq_some_iff] at hh
  obtain ⟨d1, h1, e1, h2, h3⟩ := hh
  split at h3
  · rename_i i j
    refine fun S0 H0 A0 S H τσ τρ σ Q l o q => ha _ _ h1 S0 H0 A0 S H τσ τρ σ _ l o fun v S1 H1 x1 r1 => hb _ _ h2 S0 H0 A0 S1 H1 τσ τρ σ _ l (o.ext x1) fun u S2 H2 x2 r2 => ?_
    cases r1; cases r2
    refine ⟨i, j, rfl, rfl, f i j, rfl, ?_⟩
    split at h3
    · rename_i hf
      simp only [Option.bind_eq_some_iff] at h3
      obtain ⟨z, h4, h5⟩ := h3
      split at h5
      · rename_i k
        rw [hf]
        refine iteT (hc _ _ h4 S0 H0 A0 S2 H2 τσ τρ σ _ l ((o.ext x1).ext x2) fun w S3 H3 x3 r3 => ?_)
        cases r3
        refine ⟨j, k, rfl, rfl, g j k, rfl, ?_⟩
        split at h5
        · rename_i hg
          simp only [Option.bind_eq_some_iff] at h5
          obtain ⟨u, h6, h7⟩ := h5
          split at h7
          · cases h7
            rw [hg]
            refine iteT (hd _ _ h6 S0 H0 A0 S3 H3 τσ τρ σ _ l (((o.ext x1).ext x2).ext x3) fun w S4 H4 x4 r4 => ?_)
            cases r4
            exact ⟨k, _, rfl, rfl, q _ S4 H4 (((x1.trans x2).trans x3).trans x4) (.bl _)⟩
          · cases h7
        · rename_i hg
          cases h5
          rw [show g j k = false by simpa using hg]
          exact iteF (q _ S3 H3 ((x1.trans x2).trans x3) (.bl false))
      · cases h5
    · rename_i hf
      cases h3
      rw [show f i j = false by simpa using hf]
      exact iteF (q _ S2 H2 (x1.trans x2) (.bl false))
  · cases h3
end MR
namespace MR
open PySem PySem.Spec PyProof.Rows L2 PL
/-! ### sorted and < over data of any depth -/
end MR
namespace MR
open PySem PySem.Spec PyProof.Rows L2 PL
/-! ### {k: v for .. in ..}, the keys tuples -/
end MR
namespace MR
open PySem L2 PL
variable [kf : KF]
/-- t in d, d an owned dict by pairs -/
def rInDct (neg : Bool) (a : Rm) (i : Nat) : Rm := fun ρ => (a ρ).bind fun d => (keyP d).bind fun k => match ρ[i]? with
  | some (.nd (.dT ks) ts) => if ks.length = ts.length then some (.bool (if neg then !(ks.any fun x => decide (x = k)) else ks.any fun x => decide (x = k))) else Option.none
  | _ => Option.none
end MR
/-! MR: further constructs -/
namespace MR
open PySem L2 PL
/-! ### xs[::-1] -/
def rRevL (a : Rm) : Rm := fun ρ => (a ρ).bind fun d => (asL d).map fun xs => .list xs.reverse
def yRevL (a : Dm) : Ym := fun ρ => (a ρ).bind fun p => (asL p.1).map fun xs => (lstO xs.reverse, p.2)
def yRevLA (ra : Rm) (a : Dm) : Ym := fun ρ => match (ra ρ).bind fun d => (asL d).bind fun xs => lfO (some (lstO xs.reverse)) with
  | some r => some (r, ρ)
  | Option.none => yRevL a ρ
variable [kf : KF] [wx : WXI]
variable {ta : TE} {a : Rm} {dm : Dm}
/-! ### comprehensions with two fors -/
/-! ### range downwards -/
/-! ### x += e -/
/-! ### xs.extend(ys), ys fresh; xs.pop() -/
section
variable {ρ ρ1 : Env} {t0 : OT} {ts us : List OT} {js : List Nat} {i : Nat} {te : TE} {s : OT}
theorem run_extendY (h0 : ρ[i]? = some t0) (h0n : ∃ us, t0 = .nd .lst us) (he : EvY te ρ (.nd .lst us) ρ1) (ht : ρ1[i]? = some (.nd .lst ts)) (hz : ts.length + us.length ≤ 1000000) :
    RunS js (tDrop (tBM kf.K "list" rExtend (tVar i) (tCons te tNil))) ρ .nx (ρ1.set i (.nd .lst (ts ++ us))) := fun S0 H0 A0 S H σ F E hF hx o kk => by
  obtain ⟨us0, rfl⟩ := h0n
  obtain ⟨w0, a, vs, B, C, g1, g2, _, g3, _⟩ := Ok.rewrite (τσ := []) (τρ := []) (p := []) rfl o.dummy h0 rfl rfl
  simp only [follow, Option.some.injEq] at g2
  subst g2
  refine ⟨_, g1, .inl ⟨rfl, vs, .inl (.inl g3)⟩, he S0 H0 A0 S H [] [] σ _ rfl o fun y S2 H2 s2 o2 => ?_⟩
  obtain ⟨w0', a', vs', B', C', g1', g2', g5, g3', g6, g7, g8, g9, g10⟩ := Ok.rewrite (τσ := []) (τρ := []) (p := []) rfl o2 ht rfl rfl
  rw [g1] at g1'; cases g1'
  simp only [follow, Option.some.injEq] at g2'
  cases g2'
  cases g8 with
  | is g8 =>
    obtain ⟨b, ws, D, rfl, rfl, k1, k2, k3, k4⟩ := g8.inv_nd rfl
    refine ⟨a, b, vs', ws, rfl, rfl, g3', k3, sz_of (by rw [g7.len, k4.len]; exact hz), ?_⟩
    have nd := List.nodup_append.mp g9
    have nd2 := List.nodup_cons.mp nd.2.1
    have := g10 (k' := .lst) (y' := Option.none) (r' := .no) (C' := []) rfl trivial (g7.app k4) .no (by
      rw [List.append_nil]
      exact List.nodup_append.mpr ⟨nd.1, nd2.2, fun x hx y hy e => nd.2.2 x hx y (List.mem_cons_of_mem _ hy) e⟩) (fun x hx => by
      rw [List.append_nil] at hx
      rcases List.mem_append.mp hx with z | z
      · exact List.mem_append_left _ z
      · exact List.mem_append_right _ (List.mem_cons_of_mem _ z))
    exact kk S2 _ σ s2 hx this.drop
end
omit kf wx in
def sExt (i : Nat) (y : Ym) : Sm := fun ρ => match ρ[i]? with
  | some (.nd .lst _) => (y ρ).bind fun p => match p.1 with
    | .nd .lst us => match p.2[i]? with
      | some (.nd .lst ts) => if ts.length + us.length ≤ 1000000 then some (.nx, p.2.set i (.nd .lst (ts ++ us))) else Option.none
      | _ => Option.none
    | _ => Option.none
  | _ => Option.none
theorem c_ext {te : TE} {y : Ym} {js : List Nat} {i : Nat} (he : CY te y) : CS js (tDrop (tBM kf.K "list" rExtend (tVar i) (tCons te tNil))) (sExt i y) := fun ρ fl ρ' e => by
  unfold sExt at e
  split at e
  · rename_i us0 h0
    simp only [Option.bind_eq_some_iff] at e
    obtain ⟨⟨r, ρ1⟩, e1, e2⟩ := e
    simp only at e2
    split at e2
    · split at e2
      · rename_i ts h1
        split at e2
        · cases e2
          exact run_extendY h0 ⟨_, rfl⟩ (he _ _ _ e1) h1 (by assumption)
        · cases e2
      · cases e2
    · cases e2
  · cases e
omit kf wx in
def yPop0 (i : Nat) : Ym := fun ρ => match ρ[i]? with
  | some (.nd .lst ts) => (ts[ts.length - 1]?).map fun s => (s, ρ.set i (.nd .lst (ts.eraseIdx (ts.length - 1))))
  | _ => Option.none
/-! ### str of an int -/
omit kf wx in
def gStrI : List D → Option D
  | [.int i] => if i.natAbs.log2 < 1920 then some (.str (toString i)) else Option.none
  | _ => Option.none
theorem b_strI : CbM (fun xs H Q => ∃ i : Int, xs = [V.int i] ∧ i.natAbs.log2 < 1920 ∧ Q (.str (toString i)) H) gStrI := fun ds x h => by
  unfold gStrI at h
  split at h
  · rename_i i
    split at h
    · rename_i hi
      cases h
      intro H vs Q hr q
      cases hr with | cons a b => cases a; cases b; exact ⟨i, rfl, hi, q _ rfl⟩
    · cases h
  · cases h
end MR
/-! MR: for x in xs, the items one's own and put back -/
namespace MR
open PySem L2 PL
variable [kf : KF] [wx : WXI]
section
variable {S H S' H' S0 H0 : Hp} {A0 : List Addr} {σ τσ : St} {ρ τρ : Env}
theorem OAll.hole {s : OT} : ∀ {ts : List OT} {vs : List V} {B : List Addr} {j : Nat}, OAll S H vs ts B → B.Nodup → ts[j]? = some s → ∃ v B' C', vs[j]? = some v ∧ OAll S H vs (ts.set j .no) B' ∧ OOk S H v s C' ∧ (C' ++ B').Nodup ∧ ∀ b ∈ C' ++ B', b ∈ B
  | [], _, _, j, h, _, e => by simp at e
  | t :: ts, _, _, j, h, nd, e => by
    cases h with
    | @cons v vs _ _ A B h0 ht =>
      cases j with
      | zero =>
        have e' : t = s := by simpa using e
        subst e'
        exact ⟨v, _, A, rfl, .cons .no ht, h0, nd, fun b hb => hb⟩
      | succ j =>
        have nd' := List.nodup_append.mp nd
        obtain ⟨w, B', C', e1, e2, e3, e4, e5⟩ := OAll.hole (j := j) ht nd'.2.1 (by simpa using e)
        have nd4 := List.nodup_append.mp e4
        refine ⟨w, A ++ B', C', by simpa using e1, .cons h0 e2, e3, ?_, fun b hb => ?_⟩
        · refine List.nodup_append.mpr ⟨nd4.1, List.nodup_append.mpr ⟨nd'.1, nd4.2.1, fun a ha b hb e => ?_⟩, fun a ha b hb e => ?_⟩
          · subst e; exact nd'.2.2 a ha a (e5 a (List.mem_append_right _ hb)) rfl
          · subst e
            rcases List.mem_append.mp hb with z | z
            · exact nd'.2.2 a z a (e5 a (List.mem_append_left _ ha)) rfl
            · exact nd4.2.2 a ha a z rfl
        · rcases List.mem_append.mp hb with z | z
          · exact List.mem_append_right _ (e5 b (List.mem_append_left _ z))
          · rcases List.mem_append.mp z with z | z
            · exact List.mem_append_left _ z
            · exact List.mem_append_right _ (e5 b (List.mem_append_right _ z))
/-- what is in slot i is lifted onto the top -/
theorem Ok.lift {i : Nat} {t : OT} (o : Ok S0 H0 A0 S H σ ρ) (h : ρ[i]? = some t) : ∃ v, σ[i]? = some v ∧ Ok S0 H0 A0 S H (v :: σ) (t :: ρ.set i .no) := by
  obtain ⟨B, he, nd, fr⟩ := o.env
  obtain ⟨v, A, e1, e2, e3, e4, e5⟩ := he.pick nd h
  obtain ⟨B', q1, q2, q3⟩ := e5 (v' := v) (s' := .no) (A' := []) (Same.refl S) (fun _ _ z => z) (fun a ha _ => ⟨(he.at a ha).1, rfl⟩) .no List.nodup_nil (fun a ha => by cases ha)
  rw [set_same e1] at q1
  refine ⟨v, e1, o.xt, A ++ B', .cons e2 q1, List.nodup_append.mpr ⟨e3, q2, fun a ha b hb e => ?_⟩, fun a ha => ?_⟩
  · subst e
    rcases q3 a hb with z | z
    · cases z
    · exact z.2 ha
  · rcases List.mem_append.mp ha with z | z
    · exact fr a (e4 a z)
    · rcases q3 a z with y | y
      · cases y
      · exact fr a y.1
/-- an item of the top's list is lifted above it -/
theorem Ok.hole {v : Option V} {ts : List OT} {k : Nat} {t : OT} (o : Ok S0 H0 A0 S H (v :: σ) (.fl ts :: ρ)) (h : ts[k]? = some t) : ∃ a vs w, v = some (.ref a) ∧ S a = some (.lst vs) ∧ vs[k]? = some w ∧ vs.length = ts.length ∧ Ok S0 H0 A0 S H (some w :: v :: σ) (t :: .fl (ts.set k .no) :: ρ) := by
  obtain ⟨A, he, nd, fr⟩ := o.env
  cases he with
  | @cons _ _ A1 _ _ B1 p1 p2 =>
    cases p1 with
    | is p1 =>
      cases p1 with
      | @fl a vs _ _ k1 k2 =>
        have nda := List.nodup_append.mp nd
        obtain ⟨w, B', C', e1, e2, e3, e4, e5⟩ := k2.hole nda.1 h
        have nd4 := List.nodup_append.mp e4
        refine ⟨a, vs, w, rfl, k1, e1, k2.len, o.xt, C' ++ (B' ++ B1), .cons (.is e3) (.cons (.is (.fl k1 e2)) p2), ?_, fun b hb => ?_⟩
        · rw [← List.append_assoc]
          exact List.nodup_append.mpr ⟨e4, nda.2.1, fun x hx y hy => nda.2.2 x (e5 x hx) y hy⟩
        · rw [← List.append_assoc] at hb
          rcases List.mem_append.mp hb with z | z
          · exact fr b (List.mem_append_left _ (e5 b z))
          · exact fr b (List.mem_append_right _ z)
end
end MR
/-! MR: slots frozen for one statement alone -/
namespace MR
open PySem L2 PL
def bSet (P : Nat → Bool) : Nat → Env → Option Env
  | _, [] => some []
  | n, t :: ρ => (bSet P (n + 1) ρ).bind fun r => if P n then (OT.toD t).map fun x => .d x :: r else some (t :: r)
def dOnly : OT → OT
  | .d x => .d x
  | _ => .no
def bBack (P K : Nat → Bool) : Nat → Env → Env → Env
  | n, t :: ρ, t' :: ρ' => (if P n then t else if t'.lf then t' else if K n then dOnly t else .no) :: bBack P K (n + 1) ρ ρ'
  | _, _, _ => []
def inN (is : List Nat) (n : Nat) : Bool := is.contains n
def hasAt (ρ : Env) (i : Nat) : Bool := match ρ[i]? with
  | some .no => false
  | some _ => true
  | Option.none => false
def sBorrow (is ks : List Nat) (b : Sm) : Sm := fun ρ => if (is ++ ks).all (hasAt ρ) = false then Option.none else (bSet (inN is) 0 ρ).bind fun ρ1 => match b ρ1 with
  | some (.nx, ρ') => if ρ'.length = ρ.length then some (.nx, bBack (inN is) (inN ks) 0 ρ ρ') else Option.none
  | some (.rt r, ρ') => if ρ'.length = ρ.length ∧ r.lf = true then some (.rt r, bBack (inN is) (inN ks) 0 ρ ρ') else Option.none
  | _ => Option.none
variable [kf : KF] [wx : WXI]
section
variable {S H S' H' S0 H0 : Hp} {A0 : List Addr} {P K : Nat → Bool}
theorem OSl.frzk {C : List Addr} {v : Option V} {t : OT} {A : List Addr} (sh : Same S H) (h : OSl S H v t A) (d : ∀ a ∈ A, a ∉ C) : OSl (frz S H C) H v t A :=
  h.keep (frz_same sh) (fun _ _ z => z) fun a ha => by
    obtain ⟨h1, u, h2, h3⟩ := h.at a ha
    exact ⟨by rw [frz_out (d a ha) fun xs z => by rw [h2] at z; exact h3 xs (Option.some.inj z)]; exact h1, rfl⟩
/-- the start: what is borrowed lies in C; and the end -/
theorem bor (sh : Same S H) : ∀ {ρ : Env} {σ : St} {B : List Addr} {n : Nat} {ρ1 : Env}, EOk S H σ ρ B → B.Nodup → bSet P n ρ = some ρ1 → ∃ C B1 : List Addr, (∀ a ∈ C, a ∈ B) ∧ (∀ a ∈ B1, a ∈ B ∧ a ∉ C) ∧ B1.Nodup ∧
    (∀ C' : List Addr, (∀ a ∈ C, a ∈ C') → (∀ a ∈ B1, a ∉ C') → EOk (frz S H C') H σ ρ1 B1) ∧
    ∀ {S' H' : Hp} {σ' : St} {ρ' : Env} {B2 : List Addr}, Same S S' → Same S' H' → (∀ b xs, H b = some (.tup xs) → H' b = some (.tup xs)) → (∀ a ∈ C, S' a = H a) → EOk S' H' σ' ρ' B2 → B2.Nodup → ρ'.length = ρ.length → (∀ k, (P (n + k) = true ∨ K (n + k) = true) → σ'[k]? = σ[k]?) →
      ∃ B3, EOk (frz S H' []) H' σ' (bBack P K n ρ ρ') B3 ∧ B3.Nodup ∧ ∀ a ∈ B3, a ∈ C ∨ a ∈ B2
  | [], _, _, n, ρ1, h, _, e => by
    cases h
    simp [bSet] at e
    subst e
    refine ⟨[], [], by simp, by simp, List.nodup_nil, fun C' _ _ => .nil, fun {S' H' σ' ρ' B2} s1 sh' tp hc h2 nd2 hl hf => ?_⟩
    have e : ρ' = [] := List.eq_nil_of_length_eq_zero (by simpa using hl)
    subst e
    cases h2
    exact ⟨[], .nil, List.nodup_nil, by simp⟩
  | t :: ρ, _, _, n, ρ1, h, nd, e => by
    cases h with
    | @cons v _ A σ _ B h0 ht =>
      have nda := List.nodup_append.mp nd
      unfold bSet at e
      simp only [Option.bind_eq_some_iff] at e
      obtain ⟨r, e1, e2⟩ := e
      obtain ⟨C, B1, c1, c2, c3, c4, c5⟩ := bor sh ht nda.2.1 e1
      have fin : ∀ {S' H' : Hp} {σ' : St} {ρ' : Env} {B2 : List Addr} (C0 : List Addr), (∀ a ∈ C, a ∈ C0) → (P n = true → ∀ a ∈ A, a ∈ C0) → (∀ a ∈ C0, a ∈ A ∨ a ∈ C) → Same S S' → Same S' H' → (∀ b xs, H b = some (.tup xs) → H' b = some (.tup xs)) → (∀ a ∈ C0, S' a = H a) → EOk S' H' σ' ρ' B2 → B2.Nodup → ρ'.length = (t :: ρ).length → (∀ k, (P (n + k) = true ∨ K (n + k) = true) → σ'[k]? = (v :: σ)[k]?) →
          ∃ B3, EOk (frz S H' []) H' σ' (bBack P K n (t :: ρ) ρ') B3 ∧ B3.Nodup ∧ ∀ a ∈ B3, a ∈ C0 ∨ a ∈ B2 := by
        intro S' H' σ' ρ' B2 C0 cc0 cA cb s1 sh' tp hc h2 nd2 hl hf
        cases h2 with
        | nil => simp at hl
        | @cons v' t' A' σ' ρ' B2 p0 pt =>
          have nd2a := List.nodup_append.mp nd2
          have hf0 := hf 0
          have sf : Same S (frz S H' []) := frz_same (s1.trans sh')
          obtain ⟨B3, d1, d2, d3⟩ := c5 s1 sh' tp (fun a ha => hc a (cc0 a ha)) pt nd2a.2.1 (by simpa using hl) (fun k hk => by
            have := hf (k + 1) (by rw [show n + (k + 1) = n + 1 + k by omega]; exact hk)
            simpa using this)
          have hS : ∀ a ∈ A ++ B, ∃ u, H a = some u ∧ (∀ xs, u ≠ .tup xs) ∧ S a = none := fun a ha => by
            rcases List.mem_append.mp ha with z | z
            · obtain ⟨y1, u, y2, y3⟩ := h0.at a z
              exact ⟨u, y2, y3, y1⟩
            · obtain ⟨y1, u, y2, y3⟩ := ht.at a z
              exact ⟨u, y2, y3, y1⟩
          have dis : ∀ a ∈ C0, ∀ b, S' b = none → a ≠ b := fun a ha b hb e => by
            subst e
            have : a ∈ A ++ B := by
              rcases cb a ha with z | z
              · exact List.mem_append_left _ z
              · exact List.mem_append_right _ (c1 a z)
            obtain ⟨u, y1, _⟩ := hS a this
            rw [hc a ha, y1] at hb
            cases hb
          show ∃ B3, EOk (frz S H' []) H' (v' :: σ') ((if P n then t else if t'.lf then t' else if K n then dOnly t else .no) :: bBack P K (n + 1) ρ ρ') B3 ∧ _ ∧ _
          by_cases hP : P n = true
          · rw [if_pos hP]
            have ev : v' = v := by simpa using hf0 (.inl hP)
            subst ev
            refine ⟨A ++ B3, .cons (h0.keep sf tp fun a ha => ?_) d1, List.nodup_append.mpr ⟨nda.1, d2, fun a ha b hb e => ?_⟩, fun a ha => ?_⟩
            · obtain ⟨u, y1, y2, y3⟩ := hS a (List.mem_append_left _ ha)
              have e1 : H' a = H a := by
                have := hc a (cA hP a ha)
                rw [y1] at this
                rw [y1]
                exact sh' _ _ this
              refine ⟨?_, e1⟩
              rw [frz_out (by simp) fun xs z => by rw [e1, y1] at z; exact y2 xs (Option.some.inj z)]
              exact y3
            · subst e
              rcases d3 a hb with z | z
              · exact nda.2.2 a ha a (c1 a z) rfl
              · exact dis a (cA hP a ha) a (pt.at a z).1 rfl
            · rcases List.mem_append.mp ha with z | z
              · exact .inl (cA hP a z)
              · rcases d3 a z with y | y
                · exact .inl (cc0 a y)
                · exact .inr (List.mem_append_right _ y)
          · rw [if_neg hP]
            by_cases hL : t'.lf = true
            · rw [if_pos hL]
              refine ⟨A' ++ B3, .cons ?_ d1, List.nodup_append.mpr ⟨nd2a.1, d2, fun a ha b hb e => ?_⟩, fun a ha => ?_⟩
              · cases p0 with
                | no => exact .no
                | is p0 =>
                  refine .is (ook_lf sh' _ _ _ p0 hL fun a ha => ?_)
                  cases q : S a with
                  | none => rfl
                  | some u =>
                    have := (ook_at _ _ _ p0 a ha).1
                    rw [s1 _ _ q] at this
                    cases this
              · subst e
                rcases d3 a hb with z | z
                · exact dis a (cc0 a z) a (p0.at a ha).1 rfl
                · exact nd2a.2.2 a ha a z rfl
              · rcases List.mem_append.mp ha with z | z
                · exact .inr (List.mem_append_left _ z)
                · rcases d3 a z with y | y
                  · exact .inl (cc0 a y)
                  · exact .inr (List.mem_append_right _ y)
            · rw [if_neg hL]
              have last : ∀ s : OT, OSl (frz S H' []) H' v' s [] → ∃ B3, EOk (frz S H' []) H' (v' :: σ') (s :: bBack P K (n + 1) ρ ρ') B3 ∧ B3.Nodup ∧ ∀ a ∈ B3, a ∈ C0 ∨ a ∈ A' ++ B2 := fun s hs =>
                ⟨[] ++ B3, .cons hs d1, d2, fun a ha => by
                  rcases d3 a ha with y | y
                  · exact .inl (cc0 a y)
                  · exact .inr (List.mem_append_right _ y)⟩
              by_cases hK : K n = true
              · rw [if_pos hK]
                have ev : v' = v := by simpa using hf0 (.inr hK)
                subst ev
                cases t with
                | no => exact last _ .no
                | nd k ts => exact last _ .no
                | fl ts => exact last _ .no
                | ex x => exact last _ .no
                | d x =>
                  cases h0 with
                  | is h0 => cases h0 with | d h0 => exact last _ (.is (.d (dp_mono sf _ _ h0)))
              · rw [if_neg hK]
                exact last _ .no
      split at e2
      · rename_i hP
        simp only [Option.map_eq_some_iff] at e2
        obtain ⟨x, e3, rfl⟩ := e2
        refine ⟨A ++ C, B1, fun a ha => ?_, fun a ha => ⟨List.mem_append_right _ (c2 a ha).1, fun z => ?_⟩, c3, fun C' s1 s2 => ?_, fun {S' H' σ' ρ' B2} => fin (A ++ C) (fun a ha => List.mem_append_right _ ha) (fun _ a ha => List.mem_append_left _ ha) (fun a ha => List.mem_append.mp ha)⟩
        · rcases List.mem_append.mp ha with z | z
          · exact List.mem_append_left _ z
          · exact List.mem_append_right _ (c1 a z)
        · rcases List.mem_append.mp z with z | z
          · exact nda.2.2 a z a (c2 a ha).1 rfl
          · exact (c2 a ha).2 z
        · have := c4 C' (fun a ha => s1 a (List.mem_append_right _ ha)) s2
          cases h0 with
          | no => simp [OT.toD] at e3
          | is h0 => exact (EOk.cons (.is (.d (ook_frz sh _ _ _ _ h0 (fun a ha => s1 a (List.mem_append_left _ ha)) e3))) this : EOk _ _ _ _ ([] ++ B1))
      · rename_i hP
        cases e2
        refine ⟨C, A ++ B1, fun a ha => List.mem_append_right _ (c1 a ha), fun a ha => ?_, ?_, fun C' s1 s2 => ?_, fun {S' H' σ' ρ' B2} => fin C (fun a ha => ha) (fun z => absurd z hP) (fun a ha => .inr ha)⟩
        · rcases List.mem_append.mp ha with z | z
          · exact ⟨List.mem_append_left _ z, fun y => nda.2.2 a z a (c1 a y) rfl⟩
          · exact ⟨List.mem_append_right _ (c2 a z).1, (c2 a z).2⟩
        · exact List.nodup_append.mpr ⟨nda.1, c3, fun a ha b hb => nda.2.2 a ha b (c2 b hb).1⟩
        · exact .cons (h0.frzk sh fun a ha => s2 a (List.mem_append_left _ ha)) (c4 C' s1 fun a ha => s2 a (List.mem_append_right _ ha))
theorem fx_of {σ : St} : ∀ (is : List Nat), (∀ i ∈ is, ∃ v, σ[i]? = some (some v)) → ∃ F : List (Nat × V), F.map (·.1) = is ∧ Fx F σ
  | [], _ => ⟨[], rfl, fun p hp => by cases hp⟩
  | i :: is, h => by
    obtain ⟨v, hv⟩ := h i List.mem_cons_self
    obtain ⟨F, h1, h2⟩ := fx_of is fun j hj => h j (List.mem_cons_of_mem _ hj)
    exact ⟨(i, v) :: F, by simp [h1], fun p hp => by
      rcases List.mem_cons.mp hp with rfl | hp
      · exact hv
      · exact h2 p hp⟩
theorem hasAt_val {σ : St} {ρ : Env} {i : Nat} (o : Ok S0 H0 A0 S H σ ρ) (h : hasAt ρ i = true) : ∃ v, σ[i]? = some (some v) := by
  unfold hasAt at h
  cases q : ρ[i]? with
  | none => rw [q] at h; cases h
  | some t =>
    obtain ⟨v, A, e1, e2⟩ := o.get q
    cases e2 with
    | no => rw [q] at h; cases h
    | is e2 => exact ⟨_, e1⟩
theorem run_borrow {js is ks : List Nat} {t : TS} {b : Sm} {ρ ρ' : Env} {fl : Fl} (hb : CS ((is ++ ks) ++ js) t b) (hf : sBorrow is ks b ρ = some (fl, ρ')) : RunS js t ρ fl ρ' := fun S0 H0 A0 S H σ F E hF hx o kk => by
  unfold sBorrow at hf
  split at hf
  · cases hf
  · rename_i hall
    simp only [Bool.not_eq_false, List.all_eq_true] at hall
    simp only [Option.bind_eq_some_iff] at hf
    obtain ⟨ρ1, e1, hf⟩ := hf
    obtain ⟨B, he, nd, fr⟩ := o.env
    obtain ⟨C, B1, c1, c2, c3, c4, c5⟩ := bor (K := inN ks) o.sh he nd e1
    have ss := frz_same o.sh (A := C)
    have o1 : Ok S0 H0 A0 (frz S H C) H σ ρ1 := ⟨⟨o.xt.hh, o.xt.dm, o.xt.tp, o.xt.ss.trans ss, frz_sub o.sh, fun b u eb => by
      rcases frz_nw eb with z | z | ⟨xs, z⟩
      · exact o.xt.nw b u z
      · rcases fr b (c1 b z) with y | y
        · exact .inr (.inl y)
        · exact .inr (.inr fun w hw => by rw [y] at hw; cases hw)
      · by_cases hb : b ∈ A0
        · exact .inr (.inl hb)
        · exact .inr (.inr fun w hw => by
            have := o.xt.hh b w hb hw
            rw [z] at this
            exact ⟨xs, (Option.some.inj this).symm⟩)⟩, B1, c4 C (fun _ z => z) (fun a ha => (c2 a ha).2), c3, fun a ha => fr a (c2 a ha).1⟩
    obtain ⟨F1, g1, g2⟩ := fx_of (σ := σ) (is ++ ks) fun i hi => hasAt_val o (hall i hi)
    have hF2 : (F1 ++ F).map (·.1) = (is ++ ks) ++ js := by rw [List.map_append, g1, hF]
    have hxF2 : Fx (F1 ++ F) σ := fun p hp => by
      rcases List.mem_append.mp hp with z | z
      · exact g2 p z
      · exact hx p z
    have fixd : ∀ {σ' : St}, Fx (F1 ++ F) σ' → ∀ k, (inN is (0 + k) = true ∨ inN ks (0 + k) = true) → σ'[k]? = σ[k]? := by
      intro σ' fx k hk
      have : k ∈ is ++ ks := by
        rw [Nat.zero_add] at hk
        rcases hk with z | z
        · exact List.mem_append_left _ (by simpa [inN] using z)
        · exact List.mem_append_right _ (by simpa [inN] using z)
      rw [← g1] at this
      obtain ⟨p, hp, rfl⟩ := List.mem_map.mp this
      rw [fx p (List.mem_append_left _ hp), g2 p hp]
    have tpp : ∀ {S' H' : Hp}, Same (frz S H C) S' → Same S' H' → ∀ b xs, H b = some (.tup xs) → H' b = some (.tup xs) := fun s s' b xs e => s' _ _ (s _ _ (frz_tup e))
    have cc : ∀ {S' : Hp}, Same (frz S H C) S' → ∀ a ∈ C, S' a = H a := fun s a ha => by
      obtain ⟨_, u, y, _⟩ := he.at a (c1 a ha)
      rw [y]
      exact s _ _ ((frz_in ha).trans y)
    have xtt : ∀ {S' H' : Hp}, Same (frz S H C) S' → Xa A0 S0 H0 S' H' → Xa A0 S0 H0 (frz S H' []) H' := fun s x =>
      ⟨x.hh, x.dm, x.tp, o.xt.ss.trans (frz_same ((ss.trans s).trans x.sh)), frz_sub ((ss.trans s).trans x.sh), fun b u eb => by
        rcases frz_nw eb with z | z | ⟨xs, z⟩
        · exact o.xt.nw b u z
        · cases z
        · by_cases hb : b ∈ A0
          · exact .inr (.inl hb)
          · exact .inr (.inr fun w hw => by
              have := x.hh b w hb hw
              rw [z] at this
              exact ⟨xs, (Option.some.inj this).symm⟩)⟩
    split at hf
    · rename_i ρ2 hbo
      split at hf
      · rename_i hlen
        cases hf
        refine hb _ _ _ hbo S0 H0 A0 _ H σ (F1 ++ F) E hF2 hxF2 o1 fun S' H' σ' s fx o' => ?_
        obtain ⟨B2, h2, nd2, fr2⟩ := o'.env
        obtain ⟨B3, d1, d2, d3⟩ := c5 (ss.trans s) o'.sh (tpp s o'.sh) (cc s) h2 nd2 hlen (fixd fx)
        refine kk _ H' σ' (frz_same ((ss.trans s).trans o'.sh)) (fun p hp => fx p (List.mem_append_right _ hp)) ⟨xtt s o'.xt, B3, d1, d2, fun a ha => ?_⟩
        rcases d3 a ha with z | z
        · exact fr a (c1 a z)
        · exact fr2 a z
      · cases hf
    · rename_i r ρ2 hbo
      split at hf
      · rename_i hlen
        cases hf
        refine hb _ _ _ hbo S0 H0 A0 _ H σ (F1 ++ F) E hF2 hxF2 o1 fun v S' H' σ' s fx o' => ?_
        obtain ⟨B2, h2, nd2, fr2⟩ := o'.env
        cases h2 with
        | @cons _ _ A' _ _ B2 p0 pt =>
          have nd2a := List.nodup_append.mp nd2
          obtain ⟨B3, d1, d2, d3⟩ := c5 (ss.trans s) o'.sh (tpp s o'.sh) (cc s) pt nd2a.2.1 hlen.1 (fixd fx)
          have nn : ∀ a, S' a = none → S a = none := fun a ha => by
            cases q : S a with
            | none => rfl
            | some u => rw [ss.trans s _ _ q] at ha; cases ha
          have h0 : OSl (frz S H' []) H' (some v) r A' := by
            cases p0 with
            | no => exact .no
            | is p0 => exact .is (ook_lf o'.sh _ _ _ p0 hlen.2 fun a ha => nn a (ook_at _ _ _ p0 a ha).1)
          refine kk v _ H' σ' (frz_same ((ss.trans s).trans o'.sh)) (fun p hp => fx p (List.mem_append_right _ hp)) ⟨xtt s o'.xt, A' ++ B3, .cons h0 d1, List.nodup_append.mpr ⟨nd2a.1, d2, fun a ha b hb e => ?_⟩, fun a ha => ?_⟩
          · subst e
            rcases d3 a hb with z | z
            · obtain ⟨_, u, y, _⟩ := he.at a (c1 a z)
              have := (p0.at a ha).1
              rw [cc s a z, y] at this
              cases this
            · exact nd2a.2.2 a ha a z rfl
          · rcases List.mem_append.mp ha with z | z
            · exact fr2 a (List.mem_append_left _ z)
            · rcases d3 a z with y | y
              · exact fr a (c1 a y)
              · exact fr2 a (List.mem_append_right _ y)
      · cases hf
    · cases hf
theorem c_borrow {js : List Nat} {t : TS} {b : Sm} (is ks : List Nat) (hb : CS ((is ++ ks) ++ js) t b) : CS js t (sBorrow is ks b) := fun ρ fl ρ' e => run_borrow hb e
end
end MR
/-! MR: sorted of a slot whose items go on being one's own -/
namespace MR
open PySem L2 PL
end MR
/-! MR: xs.index(y) of data; range with a step upwards -/
namespace MR
open PySem L2 PL
def firstD : List D → D → Nat → Option Nat
  | [], _, _ => Option.none
  | n :: ns, k, j => if PyData.eqv n k = true then some j else firstD ns k (j + 1)
def gIndexD : D → D → Option D
  | .list ds, d => if SeqAt.shaped (.list ds) && SeqAt.shaped d then (firstD ds d 0).map fun j => .int (j : Nat) else Option.none
  | _, _ => Option.none
def rIdxD (a b : Rm) : Rm := fun ρ => (a ρ).bind fun d => (b ρ).bind fun e => gIndexD d e
variable [kf : KF]
/-! ### range upwards by a step -/
omit kf in
def rgS (lo c : Int) (n : Nat) : List D := (List.range n).map fun (k : Nat) => PyData.int (lo + (k : Int) * c)
omit kf in
def rgNum (m n c : Int) : Nat := if m < n then ((n - m - 1) / c + 1).toNat else 0
def rg3F : List D → Option (List D)
  | [.int m, .int n, .int c] => if (-1000000 ≤ m ∧ m ≤ 1000000) ∧ (-1000000 ≤ n ∧ n ≤ 1000000) ∧ (1 ≤ c ∧ c ≤ 1000000) then some (rgS m c (rgNum m n c)) else Option.none
  | _ => Option.none
omit kf in
theorem rg3_ex : ∃ f : List D → Option (List D), f = rg3F := ⟨rg3F, rfl⟩
noncomputable def rg3 : List D → Option (List D) := rg3_ex.choose
noncomputable def iR3s (a : Lm) : Lm := fun ρ => (a ρ).bind fun p => (rg3 p.1).map fun xs => (xs, p.2)
end MR
/-! MR: len({e for .. in ..}), e whole numbers -/
namespace MR
open PySem PySem.Spec PyProof.Rows L2 PL
end MR
namespace MR
open PySem L2 PL
end MR
/-! MR: x in a list, or in a dict by pairs that is data -/
namespace MR
open PySem L2 PL
end MR
/-! MR: a comprehension within another one's block -/
namespace MR
open PySem PySem.Spec PyProof.Rows L2 PL
end MR
/-! MR: slots forgotten ahead of a row -/
namespace MR
open PySem L2 PL
end MR
namespace MR
open PySem L2 PL
/-! ### pure: what the mirror's functions tell -/
theorem kp_int : ∀ d : D, kitB (tyN d) "int" = some (isIntB d)
  | .none => (by decide +kernel : kitB "NoneType" "int" = some false)
  | .bool _ => (by decide +kernel : kitB "bool" "int" = some true)
  | .int _ => (by decide +kernel : kitB "int" "int" = some true)
  | .str _ => (by decide +kernel : kitB "str" "int" = some false)
  | .list _ => (by decide +kernel : kitB "list" "int" = some false)
  | .tuple _ => (by decide +kernel : kitB "tuple" "int" = some false)
  | .dict _ => (by decide +kernel : kitB "dict" "int" = some false)
theorem kp_bool : ∀ d : D, kitB (tyN d) "bool" = some (isBoolB d)
  | .none => (by decide +kernel : kitB "NoneType" "bool" = some false)
  | .bool _ => (by decide +kernel : kitB "bool" "bool" = some true)
  | .int _ => (by decide +kernel : kitB "int" "bool" = some false)
  | .str _ => (by decide +kernel : kitB "str" "bool" = some false)
  | .list _ => (by decide +kernel : kitB "list" "bool" = some false)
  | .tuple _ => (by decide +kernel : kitB "tuple" "bool" = some false)
  | .dict _ => (by decide +kernel : kitB "dict" "bool" = some false)
theorem kp_list : ∀ d : D, kitB (tyN d) "list" = some (isListB d)
  | .none => (by decide +kernel : kitB "NoneType" "list" = some false)
  | .bool _ => (by decide +kernel : kitB "bool" "list" = some false)
  | .int _ => (by decide +kernel : kitB "int" "list" = some false)
  | .str _ => (by decide +kernel : kitB "str" "list" = some false)
  | .list _ => (by decide +kernel : kitB "list" "list" = some true)
  | .tuple _ => (by decide +kernel : kitB "tuple" "list" = some false)
  | .dict _ => (by decide +kernel : kitB "dict" "list" = some false)
theorem kp_tuple : ∀ d : D, kitB (tyN d) "tuple" = some (isTupB d)
  | .none => (by decide +kernel : kitB "NoneType" "tuple" = some false)
  | .bool _ => (by decide +kernel : kitB "bool" "tuple" = some false)
  | .int _ => (by decide +kernel : kitB "int" "tuple" = some false)
  | .str _ => (by decide +kernel : kitB "str" "tuple" = some false)
  | .list _ => (by decide +kernel : kitB "list" "tuple" = some false)
  | .tuple _ => (by decide +kernel : kitB "tuple" "tuple" = some true)
  | .dict _ => (by decide +kernel : kitB "dict" "tuple" = some false)
theorem kp_str : ∀ d : D, kitB (tyN d) "str" = some (isStrB d)
  | .none => (by decide +kernel : kitB "NoneType" "str" = some false)
  | .bool _ => (by decide +kernel : kitB "bool" "str" = some false)
  | .int _ => (by decide +kernel : kitB "int" "str" = some false)
  | .str _ => (by decide +kernel : kitB "str" "str" = some true)
  | .list _ => (by decide +kernel : kitB "list" "str" = some false)
  | .tuple _ => (by decide +kernel : kitB "tuple" "str" = some false)
  | .dict _ => (by decide +kernel : kitB "dict" "str" = some false)
theorem toD_d (x : D) : OT.toD (.d x) = some x := by simp [OT.toD]
theorem toD_lst (ts : List OT) : OT.toD (.nd .lst ts) = (OT.toDs ts).map .list := by simp [OT.toD]
theorem toD_tup (ts : List OT) : OT.toD (.nd .tup ts) = (OT.toDs ts).map .tuple := by simp [OT.toD]
theorem toDs_nil : OT.toDs [] = some [] := by simp [OT.toDs]
theorem toDs_cons (t : OT) (ts : List OT) : OT.toDs (t :: ts) = (OT.toD t).bind fun x => (OT.toDs ts).map fun xs => x :: xs := by
  cases h : OT.toD t <;> cases h2 : OT.toDs ts <;> simp [OT.toDs, h, h2]
theorem toDs_mapd (xs : List D) : OT.toDs (xs.map .d) = some xs := by
  induction xs with
  | nil => simp [toDs_nil]
  | cons x xs ih => simp [toDs_cons, toD_d, ih]
theorem toD_lstO (xs : List D) : OT.toD (lstO xs) = some (.list xs) := by simp [lstO, toD_lst, toDs_mapd]
theorem lfs_mapd {xs : List D} (h : ∀ x ∈ xs, tfl x = true) : OT.lfs (xs.map .d) = true := by
  induction xs with
  | nil => simp [OT.lfs]
  | cons x xs ih => simp [OT.lfs, OT.lf, h x List.mem_cons_self, ih fun y hy => h y (List.mem_cons_of_mem _ hy)]
@[simp] theorem tfl_int (i : Int) : tfl (.int i) = true := by simp [tfl]
@[simp] theorem tfl_bool (b : Bool) : tfl (.bool b) = true := by simp [tfl]
@[simp] theorem tfl_none : tfl .none = true := by simp [tfl]
@[simp] theorem tfl_str (s : Str) : tfl (.str s) = true := by simp [tfl]
theorem tfl_pair (p : Int × Int) : tfl (pairD p) = true := by simp [tfl, pairD]
@[simp] theorem tfl_list (xs : List D) : tfl (.list xs) = false := by simp [tfl]
/-- loops -/
theorem mFor_inv {step : D → Env → Option (Fl × Env)} : ∀ (ds : List D) (ρ : Env) (I : Nat → Env → Prop), I 0 ρ → (∀ i x ρ, ds[i]? = some x → I i ρ → ∃ ρ', (step x ρ = some (.nx, ρ') ∨ step x ρ = some (.ct, ρ')) ∧ I (i + 1) ρ') → ∃ ρ', mFor step ds ρ = some (.nx, ρ') ∧ I ds.length ρ'
  | [], ρ, I, h0, _ => ⟨ρ, rfl, h0⟩
  | x :: xs, ρ, I, h0, hs => by
    obtain ⟨ρ1, h1, h2⟩ := hs 0 x ρ rfl h0
    obtain ⟨ρ2, h3, h4⟩ := mFor_inv xs ρ1 (fun i => I (i + 1)) h2 fun i y ρ e h => hs (i + 1) y ρ (by simpa using e) h
    refine ⟨ρ2, ?_, h4⟩
    unfold mFor
    rcases h1 with h1 | h1 <;> rw [h1] <;> exact h3
theorem mLc_inv {vs : List Nat} {step : D → Env → Option (Option OT × Env)} : ∀ (ds : List D) (acc : List OT) (ρ : Env) (I : Nat → List OT → Env → Prop), I 0 acc ρ → (∀ i x acc ρ, ds[i]? = some x → I i acc ρ → ∃ o ρ', step x ρ = some (o, ρ') ∧ I (i + 1) (acc ++ o.toList) (wipeE ρ' vs)) → ∃ rs ρ', mLc vs step ds acc ρ = some (rs, ρ') ∧ I ds.length rs ρ'
  | [], acc, ρ, I, h0, _ => ⟨acc, ρ, rfl, h0⟩
  | x :: xs, acc, ρ, I, h0, hs => by
    obtain ⟨o, ρ1, h1, h2⟩ := hs 0 x acc ρ rfl h0
    obtain ⟨rs, ρ2, h3, h4⟩ := mLc_inv xs (acc ++ o.toList) (wipeE ρ1 vs) (fun i => I (i + 1)) h2 fun i y acc ρ e h => hs (i + 1) y acc ρ (by simpa using e) h
    refine ⟨rs, ρ2, ?_, h4⟩
    unfold mLc
    rw [h1]
    cases o with
    | none => simpa using h3
    | some r => simpa using h3
theorem rgD_len (lo : Int) (n : Nat) : (rgD lo n).length = n := by simp [rgD]
theorem rgD_at {lo : Int} {n i : Nat} {x : D} (h : (rgD lo n)[i]? = some x) : i < n ∧ x = .int (lo + (i : Int)) := by
  unfold rgD at h
  rw [List.getElem?_map] at h
  by_cases hi : i < n
  · rw [List.getElem?_range hi] at h
    exact ⟨hi, by simpa using h.symm⟩
  · rw [List.getElem?_eq_none (by simpa using hi)] at h
    cases h
theorem atI_at {α : Type} {xs : List α} {i : Nat} {x : α} (h : xs[i]? = some x) : atI xs (i : Int) = some x := atI_nat h
theorem ixN_nat {n i : Nat} (h : i < n) : ixN n (i : Int) = some i := by unfold ixN; simp [h]
theorem seqIx_nat {n i : Nat} (h : i < n) : seqIndex? (i : Int) n = some i := by
  unfold seqIndex?
  have h0 : ¬ ((i : Int) < 0) := by omega
  simp [h, h0]
end MR
namespace MR
open PySem L2 PL
theorem atI_0 {α : Type} (x : α) (xs : List α) : atI (x :: xs) 0 = some x := by simpa using atI_at (i := 0) (xs := x :: xs) (x := x) rfl
theorem atI_1 {α : Type} (x y : α) (xs : List α) : atI (x :: y :: xs) 1 = some y := by simpa using atI_at (i := 1) (xs := x :: y :: xs) (x := y) rfl
theorem ixN_0 (n : Nat) : ixN (n + 1) 0 = some 0 := by simpa using ixN_nat (n := n + 1) (i := 0) (by omega)
theorem ixN_1 (n : Nat) : ixN (n + 1 + 1) 1 = some 1 := by simpa using ixN_nat (n := n + 1 + 1) (i := 1) (by omega)
end MR
namespace MR
open PySem L2 PL
/-! ### pure: lists of ints, of pairs; statement by statement -/
theorem seq_nx {a b : Sm} {ρ ρ1 : Env} {o : Option (Fl × Env)} (h : a ρ = some (.nx, ρ1)) (h2 : b ρ1 = o) : sSeq a b ρ = o := by unfold sSeq; rw [h]; exact h2
def intsO (ns : List Int) : List OT := ns.map fun i => .d (.int i)
def prsO (ps : List (Int × Int)) : List OT := ps.map fun p => .nd .tup [.d (.int p.1), .d (.int p.2)]
def fprO (ps : List (Int × Int)) : List OT := ps.map fun p => .d (pairD p)
def rng (n : Nat) : List Int := (List.range n).map fun (i : Nat) => (i : Int)
theorem lstO_ints (ns : List Int) : lstO (ns.map .int) = .nd .lst (intsO ns) := by simp [lstO, intsO, Function.comp_def]
theorem lstO_prs (ps : List (Int × Int)) : lstO (ps.map pairD) = .nd .lst (fprO ps) := by simp [lstO, fprO, Function.comp_def]
theorem rgD_rng (n : Nat) : rgD 0 n = (rng n).map .int := by simp [rgD, rng, Function.comp_def]
theorem lstO_rg (n : Nat) : lstO (rgD 0 n) = .nd .lst (intsO (rng n)) := by rw [rgD_rng, lstO_ints]
theorem rng_len (n : Nat) : (rng n).length = n := by simp [rng]
theorem rng_mem {n : Nat} {k : Int} : k ∈ rng n ↔ 0 ≤ k ∧ k < (n : Int) := by
  unfold rng
  rw [List.mem_map]
  constructor
  · rintro ⟨a, h, rfl⟩
    have := List.mem_range.mp h
    omega
  · intro h
    exact ⟨k.toNat, List.mem_range.mpr (by omega), by omega⟩
theorem rng_nodup (n : Nat) : (rng n).Nodup := List.nodup_range.map (f := fun (i : Nat) => (i : Int)) fun a b h => by omega
theorem intsO_len (ns : List Int) : (intsO ns).length = ns.length := by simp [intsO]
theorem fprO_len (ns : List (Int × Int)) : (fprO ns).length = ns.length := by simp [fprO]
theorem prsO_len (ns : List (Int × Int)) : (prsO ns).length = ns.length := by simp [prsO]
theorem intsO_snoc (ns : List Int) (k : Int) : intsO ns ++ [OT.d (.int k)] = intsO (ns ++ [k]) := by simp [intsO]
theorem prsO_snoc (ns : List (Int × Int)) (a b : Int) : prsO ns ++ [OT.nd .tup [.d (.int a), .d (.int b)]] = prsO (ns ++ [(a, b)]) := by simp [prsO]
theorem toDs_ints (ns : List Int) : OT.toDs (intsO ns) = some (ns.map .int) := by
  have : intsO ns = (ns.map PyData.int).map OT.d := by simp [intsO, Function.comp_def]
  rw [this, toDs_mapd]
theorem toDs_fpr (ns : List (Int × Int)) : OT.toDs (fprO ns) = some (ns.map pairD) := by
  have : fprO ns = (ns.map pairD).map OT.d := by simp [fprO, Function.comp_def]
  rw [this, toDs_mapd]
theorem toDs_prs (ns : List (Int × Int)) : OT.toDs (prsO ns) = some (ns.map pairD) := by
  induction ns with
  | nil => simp [prsO, toDs_nil]
  | cons p ns ih =>
    have : prsO (p :: ns) = .nd .tup [.d (.int p.1), .d (.int p.2)] :: prsO ns := rfl
    rw [this, toDs_cons, ih]
    simp [toD_tup, toDs_cons, toDs_nil, toD_d, pairD]
theorem lfs_ints (ns : List Int) : OT.lfs (intsO ns) = true := by
  have : intsO ns = (ns.map PyData.int).map OT.d := by simp [intsO, Function.comp_def]
  rw [this]
  exact lfs_mapd fun x hx => by obtain ⟨i, _, rfl⟩ := List.mem_map.mp hx; simp
theorem lfs_fpr (ns : List (Int × Int)) : OT.lfs (fprO ns) = true := by
  have : fprO ns = (ns.map pairD).map OT.d := by simp [fprO, Function.comp_def]
  rw [this]
  exact lfs_mapd fun x hx => by obtain ⟨i, _, rfl⟩ := List.mem_map.mp hx; exact tfl_pair i
theorem ers_map {α β : Type} (f : α → β) : ∀ (xs : List α) (j : Nat), (xs.map f).eraseIdx j = (xs.eraseIdx j).map f
  | [], _ => rfl
  | x :: xs, 0 => rfl
  | x :: xs, j + 1 => by simp [ers_map f xs j]
theorem pop_ints {xs : List Int} {j : Nat} (h : j < xs.length) : ∃ k xs', (intsO xs)[j]? = some (.d (.int k)) ∧ (intsO xs).eraseIdx j = intsO xs' ∧ (k :: xs').Perm xs ∧ xs'.length + 1 = xs.length := by
  refine ⟨xs[j], xs.eraseIdx j, by simp [intsO, h], by rw [intsO, intsO, ers_map], ?_, ?_⟩
  · induction xs generalizing j with
    | nil => simp at h
    | cons x xs ih =>
      cases j with
      | zero => simp
      | succ j =>
        have := ih (j := j) (by simpa using h)
        simp only [List.getElem_cons_succ, List.eraseIdx_cons_succ]
        exact (List.Perm.swap _ _ _).trans (this.cons x)
  · rw [List.length_eraseIdx]; simp [h]; omega
theorem atI_int {xs : List Int} {i : Nat} {k : Int} (h : xs[i]? = some k) : atI (xs.map PyData.int) (i : Int) = some (.int k) := atI_at (by rw [List.getElem?_map, h]; rfl)
/-- dicts by pairs, all True -/
def kO (p : Int × Int) : List Key := [.inl p.1, .inl p.2]
def trues (n : Nat) : List OT := List.replicate n (.d (.bool true))
theorem kO_inj {p q : Int × Int} : kO p = kO q ↔ p = q := by
  obtain ⟨a, b⟩ := p; obtain ⟨c, d⟩ := q
  simp [kO]
theorem putO_true (ks : List (Int × Int)) (p : Int × Int) : putO (ks.map kO) (trues ks.length) (kO p) (.d (.bool true)) = (.dT ((insK ks p).map kO), trues (insK ks p).length) := by
  have e : ((ks.map kO).any fun x => decide (x = kO p)) = decide (p ∈ ks) := by
    rw [List.any_map, Bool.eq_iff_iff]
    simp only [List.any_eq_true, Function.comp, decide_eq_true_eq, kO_inj]
    exact ⟨fun ⟨x, h, e⟩ => e ▸ h, fun h => ⟨p, h, rfl⟩⟩
  unfold putO insK
  rw [e]
  by_cases h : p ∈ ks
  · simp only [h, decide_true, if_true]
    congr 1
    have gen : ∀ (l : List (List Key)) (n : Nat), l.length = n → (l.zip (trues n)).map (fun q => if q.1 = kO p then OT.d (.bool true) else q.2) = trues n := by
      intro l
      induction l with
      | nil => intro n hn; subst hn; rfl
      | cons x l ih =>
        intro n hn
        cases n with
        | zero => simp at hn
        | succ n =>
          have := ih n (by simpa using hn)
          simp only [trues, List.replicate_succ, List.zip_cons_cons, List.map_cons] at this ⊢
          rw [this]
          split <;> rfl
    exact gen _ _ (by simp)
  · simp [h, trues, List.replicate_succ']
theorem asKeyPs_map (ks : List (Int × Int)) : asKeyPs (ks.map kO) = some ks := by
  induction ks with
  | nil => rfl
  | cons k ks ih => simp [asKeyPs, ih, kO, asKeyP]
theorem trues_all (n : Nat) : (trues n).all isTrueO = true := by
  unfold trues
  rw [List.all_eq_true]
  intro x hx
  rw [(List.mem_replicate.mp hx).2]
  rfl
theorem trues_len (n : Nat) : (trues n).length = n := by simp [trues]
theorem srtL_len (ks : List (Int × Int)) : (srtL ks).length = ks.length := (srtL_perm ks).length_eq
theorem srtL_mem {ks : List (Int × Int)} {p : Int × Int} : p ∈ srtL ks ↔ p ∈ ks := (srtL_perm ks).mem_iff
theorem srtL_nodup {ks : List (Int × Int)} (h : ks.Nodup) : (srtL ks).Nodup := (srtL_perm ks).nodup_iff.mpr h
theorem fmk {f : Option (Fl × Env)} {ρ' : Env} {P : Env → Prop} (h : f = some (.nx, ρ')) (h2 : P ρ') : ∃ ρ', (f = some (.nx, ρ') ∨ f = some (.ct, ρ')) ∧ P ρ' := ⟨ρ', .inl h, h2⟩
theorem fin_rtd {o : Option (Fl × Env)} {x : D} {ρ : Env} (h : o = some (.rt (.d x), ρ)) : fin o = some (.d x) := by rw [h]; rfl
/-- great bounds are kept from the kernel's eyes -/
def rg0F (z : Int) : Option (List D) := if 0 ≤ z ∧ z ≤ 1000000 then some (rgD 0 z.toNat) else Option.none
def rg1F : List D → Option (List D)
  | [.int n] => if -(2 ^ 62) ≤ n ∧ n < 2 ^ 62 then some (rgD 0 n.toNat) else Option.none
  | _ => Option.none
def rg2F : List D → Option (List D)
  | [.int m, .int n] => if -(2 ^ 62) ≤ m ∧ m < 2 ^ 62 ∧ -(2 ^ 62) ≤ n ∧ n < 2 ^ 62 then some (rgD m (n - m).toNat) else Option.none
  | _ => Option.none
def pop1F (z : Int) (n : Nat) : Option Nat := if -(2 ^ 63) ≤ z ∧ z < 2 ^ 63 then seqIndex? z n else Option.none
theorem rg0_ex : ∃ f : Int → Option (List D), f = rg0F := ⟨rg0F, rfl⟩
theorem rg1_ex : ∃ f : List D → Option (List D), f = rg1F := ⟨rg1F, rfl⟩
theorem rg2_ex : ∃ f : List D → Option (List D), f = rg2F := ⟨rg2F, rfl⟩
theorem pop1_ex : ∃ f : Int → Nat → Option Nat, f = pop1F := ⟨pop1F, rfl⟩
noncomputable def rg0 : Int → Option (List D) := rg0_ex.choose
noncomputable def rg1 : List D → Option (List D) := rg1_ex.choose
noncomputable def rg2 : List D → Option (List D) := rg2_ex.choose
noncomputable def pop1 : Int → Nat → Option Nat := pop1_ex.choose
theorem rg0_F : rg0 = rg0F := rg0_ex.choose_spec
theorem rg1_F : rg1 = rg1F := rg1_ex.choose_spec
theorem rg2_F : rg2 = rg2F := rg2_ex.choose_spec
theorem pop1_F : pop1 = pop1F := pop1_ex.choose_spec
theorem rg0_z {z : Int} (a : 0 ≤ z) (b : z ≤ 1000000) : rg0 z = some (rgD 0 z.toNat) := by rw [rg0_F]; exact if_pos ⟨a, b⟩
theorem rg1_z {z : Int} (a : 0 ≤ z) (b : z ≤ 1000000) : rg1 [.int z] = some (rgD 0 z.toNat) := by
  have b2 : -(2 ^ 62) ≤ z ∧ z < 2 ^ 62 := ⟨by omega, by omega⟩
  rw [rg1_F]
  unfold rg1F
  simp only []
  rw [if_pos b2]
theorem pop1_z {z : Int} {n : Nat} (a : 0 ≤ z) (b : z ≤ 1000000) : pop1 z n = seqIndex? z n := by
  have b2 : -(2 ^ 63) ≤ z ∧ z < 2 ^ 63 := ⟨by omega, by omega⟩
  rw [pop1_F]
  unfold pop1F
  rw [if_pos b2]
theorem rg0_n {n : Nat} (b : n ≤ 1000000) : rg0 (n : Int) = some (rgD 0 n) := by
  have h := rg0_z (z := (n : Int)) (by omega) (by omega)
  rwa [Int.toNat_natCast] at h
theorem rg1_n {n : Nat} (b : n ≤ 1000000) : rg1 [.int (n : Int)] = some (rgD 0 n) := by
  have h := rg1_z (z := (n : Int)) (by omega) (by omega)
  rwa [Int.toNat_natCast] at h
theorem pop1_n {i n : Nat} (h : i < n) (b : n ≤ 1000000) : pop1 (i : Int) n = some i := by
  rw [pop1_z (z := (i : Int)) (by omega) (by omega)]
  exact seqIx_nat h
theorem yRng1_eq (n : Dm) (ρ : Env) : yRng1 n ρ = (n ρ).bind fun p => match p.1 with
    | .int k => (rg0 k).map fun xs => (lstO xs, p.2)
    | _ => Option.none := by
  rw [rg0_F]
  unfold yRng1
  congr 1
  funext p
  obtain ⟨d, ρ1⟩ := p
  cases d <;> try rfl
  rename_i k
  simp only [rg0F]
  split <;> rfl
theorem iR1_eq (a : Lm) (ρ : Env) : iR1 a ρ = (a ρ).bind fun p => (rg1 p.1).map fun xs => (xs, p.2) := by
  rw [rg1_F]
  unfold iR1
  congr 1
  funext p
  obtain ⟨d, ρ1⟩ := p
  rcases d with _ | ⟨x, _ | ⟨y, d⟩⟩
  · rfl
  · cases x <;> try rfl
    simp only [rg1F]
    split <;> rfl
  · cases x <;> rfl
theorem iR2_eq (a : Lm) (ρ : Env) : iR2 a ρ = (a ρ).bind fun p => (rg2 p.1).map fun xs => (xs, p.2) := by
  rw [rg2_F]
  unfold iR2
  congr 1
  funext p
  obtain ⟨d, ρ1⟩ := p
  rcases d with _ | ⟨x, _ | ⟨y, _ | ⟨z, d⟩⟩⟩
  · rfl
  · cases x <;> rfl
  · cases x <;> try rfl
    cases y <;> try rfl
    simp only [rg2F]
    split <;> rfl
  · cases x <;> try rfl
    cases y <;> rfl
theorem yPop_eq (i : Nat) (dm : Dm) (ρ : Env) : yPop i dm ρ = match ρ[i]? with
    | some (.nd .lst _) => (dm ρ).bind fun p => match p.1 with
      | .int n => match p.2[i]? with
        | some (.nd .lst ts) => (pop1 n ts.length).bind fun j => (ts[j]?).map fun s => (s, p.2.set i (.nd .lst (ts.eraseIdx j)))
        | _ => Option.none
      | _ => Option.none
    | _ => Option.none := by
  rw [pop1_F]
  unfold yPop
  generalize ρ[i]? = o
  rcases o with _ | (_ | x | ⟨k, ts⟩) <;> try rfl
  cases k <;> try rfl
  simp only []
  congr 1
  funext p
  obtain ⟨d, ρ1⟩ := p
  cases d <;> try rfl
  rename_i z
  simp only []
  generalize ρ1[i]? = o2
  rcases o2 with _ | (_ | x | ⟨k, ts⟩) <;> try rfl
  cases k <;> try rfl
  simp only []
  unfold pop1F
  split <;> rfl
theorem sFor_ok {it : Lm} {g : Gm} {b : Sm} {ρ ρ1 ρ2 : Env} {xs : List D} (h : it ρ = some (xs, ρ1)) (h2 : mFor (fun x ρ => (g x ρ).bind b) xs ρ1 = some (.nx, ρ2)) : sFor it g b ρ = some (.nx, ρ2) := by unfold sFor; rw [h]; exact h2
theorem gAdd_i (i j : Int) : MR.gAdd (.int i) (.int j) = some (.int (i + j)) := rfl
theorem gSub_i (i j : Int) : MR.gSub (.int i) (.int j) = some (.int (i - j)) := rfl
theorem gLt_i (i j : Int) : gLt (.int i) (.int j) = some (.bool (decide (i < j))) := rfl
theorem gLe_i (i j : Int) : gLe (.int i) (.int j) = some (.bool (decide (i ≤ j))) := rfl
theorem gGt_i (i j : Int) : gGt (.int i) (.int j) = some (.bool (decide (j < i))) := rfl
theorem gGe_i (i j : Int) : gGe (.int i) (.int j) = some (.bool (decide (j ≤ i))) := rfl
theorem enumD_at {ds : List D} {i : Nat} {x : D} (h : (enumD ds)[i]? = some x) : ∃ d, ds[i]? = some d ∧ x = .tuple [.int (i : Nat), d] := by
  unfold enumD at h
  rw [List.getElem?_map, List.getElem?_zipIdx] at h
  cases hd : ds[i]? with
  | none => rw [hd] at h; cases h
  | some d =>
    rw [hd] at h
    simp at h
    exact ⟨d, rfl, h.symm⟩
theorem enumD_len (ds : List D) : (enumD ds).length = ds.length := by simp [enumD]
/-- the number at a place -/
def at' (os : List Int) (a : Int) : Int := os.getD a.toNat 0
theorem atI_os {os : List Int} {a : Int} (h : 0 ≤ a) (h2 : a < (os.length : Int)) : atI (os.map PyData.int) a = some (.int (at' os a)) := by
  obtain ⟨n, rfl⟩ : ∃ n : Nat, a = (n : Int) := ⟨a.toNat, by omega⟩
  have : n < os.length := by omega
  rw [atI_int (k := os[n]) (by simp [this])]
  simp [at', this]
theorem at'_mem {os : List Int} {a : Int} (h : 0 ≤ a) (h2 : a < (os.length : Int)) : at' os a ∈ os := by
  have : a.toNat < os.length := by omega
  simp [at', this]
theorem at'_inj {os : List Int} (hn : os.Nodup) {a b : Int} (h : 0 ≤ a) (h2 : a < (os.length : Int)) (h3 : 0 ≤ b) (h4 : b < (os.length : Int)) (e : at' os a = at' os b) : a = b := by
  have la : a.toNat < os.length := by omega
  have lb : b.toNat < os.length := by omega
  simp only [at', List.getD_eq_getElem?_getD, List.getElem?_eq_getElem la, List.getElem?_eq_getElem lb, Option.getD_some] at e
  have := (List.getElem_inj hn).mp e
  omega
def WD (n : Nat) (ts : List (Int × Int)) : D := .tuple [.int (n : Nat), .list (ts.map pairD)]
/-- a proper web's ties -/
structure WOk (n : Nat) (ts : List (Int × Int)) : Prop where
  in' : ∀ p ∈ ts, 0 ≤ p.1 ∧ p.1 < p.2 ∧ p.2 < (n : Int)
  lex : Lex ts
  nodup : ts.Nodup
theorem lexLe_prev {n : Nat} {ts : List (Int × Int)} (w : WOk n ts) {i : Nat} {y z : Int × Int} (h1 : ts[i]? = some y) (h2 : ts[i + 1]? = some z) : lexLe z y = false := by
  obtain ⟨l1, e1⟩ := List.getElem?_eq_some_iff.mp h1
  obtain ⟨l2, e2⟩ := List.getElem?_eq_some_iff.mp h2
  have a := List.pairwise_iff_getElem.mp w.lex i (i + 1) l1 l2 (by omega)
  have b : ts[i] ≠ ts[i + 1] := fun e => by have := (List.getElem_inj w.nodup).mp e; omega
  rw [e1, e2] at a b
  unfold lexLe
  rw [decide_eq_false_iff_not]
  intro c
  apply b
  obtain ⟨y1, y2⟩ := y
  obtain ⟨z1, z2⟩ := z
  simp only [Prod.mk.injEq] at a b c ⊢
  omega
end MR
namespace MR
open PySem L2 PL
/-! ### walking a def from above: what holds behind it -/
def W {α : Type} (m : Env → Option (α × Env)) (ρ : Env) (Q : α → Env → Prop) : Prop := ∃ r ρ', m ρ = some (r, ρ') ∧ Q r ρ'
theorem W.of {α : Type} {m : Env → Option (α × Env)} {ρ ρ' : Env} {r : α} {Q : α → Env → Prop} (h : m ρ = some (r, ρ')) (q : Q r ρ') : W m ρ Q := ⟨r, ρ', h, q⟩
theorem W.mono {α : Type} {m : Env → Option (α × Env)} {ρ : Env} {Q Q' : α → Env → Prop} (h : W m ρ Q) (f : ∀ r ρ', Q r ρ' → Q' r ρ') : W m ρ Q' := by
  obtain ⟨r, ρ', e, q⟩ := h
  exact ⟨r, ρ', e, f _ _ q⟩
def sqK (b : Sm) (Q : Fl → Env → Prop) : Fl → Env → Prop
  | .nx, ρ => W b ρ Q
  | .bk, ρ => Q .bk ρ
  | .ct, ρ => Q .ct ρ
  | .rt r, ρ => Q (.rt r) ρ
  | .xc x, ρ => Q (.xc x) ρ
theorem w_seq {a b : Sm} {ρ : Env} {Q : Fl → Env → Prop} (h : W a ρ (sqK b Q)) : W (sSeq a b) ρ Q := by
  obtain ⟨fl, ρ1, e, q⟩ := h
  unfold W sSeq
  rw [e]
  cases fl with
  | nx => exact q
  | bk => exact ⟨_, _, rfl, q⟩
  | ct => exact ⟨_, _, rfl, q⟩
  | rt r => exact ⟨_, _, rfl, q⟩
  | xc x => exact ⟨_, _, rfl, q⟩
/-- one row that goes on, reckoned -/
theorem w_st {a b : Sm} {ρ ρ1 : Env} {Q : Fl → Env → Prop} (h : a ρ = some (.nx, ρ1)) (q : W b ρ1 Q) : W (sSeq a b) ρ Q := w_seq (.of h q)
theorem w_asg {i : Nat} {y : Ym} {ρ : Env} {Q : Fl → Env → Prop} (h : W y ρ fun r ρ' => Q .nx (ρ'.set i r)) : W (sAsg i y) ρ Q := by
  obtain ⟨r, ρ1, e, q⟩ := h
  exact ⟨_, _, by unfold sAsg; rw [e]; rfl, q⟩
theorem w_ret {y : Ym} {ρ : Env} {Q : Fl → Env → Prop} (h : W y ρ fun r ρ' => Q (.rt r) ρ') : W (sRet y) ρ Q := by
  obtain ⟨r, ρ1, e, q⟩ := h
  exact ⟨_, _, by unfold sRet; rw [e]; rfl, q⟩
theorem w_next {ρ : Env} {Q : Fl → Env → Prop} (q : Q .nx ρ) : W sNext ρ Q := ⟨_, _, rfl, q⟩
theorem w_if {t : Tm} {a b : Sm} {ρ ρ1 : Env} {c : Bool} {Q : Fl → Env → Prop} (h : t ρ = some (c, ρ1)) (q1 : c = true → W a ρ1 Q) (q2 : c = false → W b ρ1 Q) : W (sIf t a b) ρ Q := by
  have e : sIf t a b ρ = if c then a ρ1 else b ρ1 := by unfold sIf; rw [h]; rfl
  unfold W
  rw [e]
  cases c with
  | true => exact q1 rfl
  | false => exact q2 rfl
/-- a loop by what holds ahead of each turn -/
def lpK (n : Env → Prop) (Q : Fl → Env → Prop) : Fl → Env → Prop
  | .nx, ρ => n ρ
  | .ct, ρ => n ρ
  | .bk, ρ => Q .nx ρ
  | .rt r, ρ => Q (.rt r) ρ
  | .xc x, ρ => Q (.xc x) ρ
theorem mFor_w {step : D → Env → Option (Fl × Env)} {Q : Fl → Env → Prop} : ∀ (ds : List D) (ρ : Env) (I : Nat → Env → Prop), I 0 ρ → (∀ i x ρ, ds[i]? = some x → I i ρ → W (step x) ρ (lpK (I (i + 1)) Q)) → (∀ ρ, I ds.length ρ → Q .nx ρ) → W (mFor step ds) ρ Q
  | [], ρ, I, h0, _, hq => ⟨_, _, rfl, hq ρ h0⟩
  | x :: xs, ρ, I, h0, hs, hq => by
    obtain ⟨fl, ρ1, e, q⟩ := hs 0 x ρ rfl h0
    have next : I 1 ρ1 → W (mFor step xs) ρ1 Q := fun q => mFor_w xs ρ1 (fun i => I (i + 1)) q (fun i y ρ e h => hs (i + 1) y ρ (by simpa using e) h) hq
    unfold W mFor
    rw [e]
    cases fl with
    | nx => exact next q
    | ct => exact next q
    | bk => exact ⟨_, _, rfl, q⟩
    | rt r => exact ⟨_, _, rfl, q⟩
    | xc x => exact ⟨_, _, rfl, q⟩
theorem w_for (I : Nat → Env → Prop) {it : Lm} {g : Gm} {b : Sm} {ρ ρ1 : Env} {xs : List D} {Q : Fl → Env → Prop} (h : it ρ = some (xs, ρ1)) (h0 : I 0 ρ1)
    (hs : ∀ i x ρ2, xs[i]? = some x → I i ρ2 → ∃ ρ3, g x ρ2 = some ρ3 ∧ W b ρ3 (lpK (I (i + 1)) Q)) (hq : ∀ ρ2, I xs.length ρ2 → Q .nx ρ2) : W (sFor it g b) ρ Q := by
  have e : sFor it g b ρ = mFor (fun x ρ => (g x ρ).bind b) xs ρ1 := by unfold sFor; rw [h]; rfl
  unfold W
  rw [e]
  refine mFor_w xs ρ1 I h0 (fun i x ρ2 hx hi => ?_) hq
  obtain ⟨ρ3, e1, q⟩ := hs i x ρ2 hx hi
  obtain ⟨r, ρ4, e2, q2⟩ := q
  exact ⟨r, ρ4, by simp only [e1, Option.bind_some]; exact e2, q2⟩
/-- a comprehension by what holds ahead of each turn -/
theorem w_lc (I : Nat → List OT → Env → Prop) {vs : List Nat} {it : Lm} {g : Gm} {t : Tm} {e : Ym} {ρ ρ1 : Env} {xs : List D} {Q : OT → Env → Prop} (h : it ρ = some (xs, ρ1)) (hc : calmAt ρ1 vs = true) (hl : xs.length ≤ 1000000) (h0 : I 0 [] (wipeE ρ1 vs))
    (hs : ∀ i x acc ρ2, xs[i]? = some x → I i acc ρ2 → W (lcStep g t e x) ρ2 fun o ρ3 => I (i + 1) (acc ++ o.toList) (wipeE ρ3 vs)) (hq : ∀ acc ρ2, I xs.length acc ρ2 → Q (.nd .lst acc) (rst ρ2 ρ1 vs)) : W (yLc vs it g t e) ρ Q := by
  obtain ⟨rs, ρ2, e1, q⟩ := mLc_inv xs [] (wipeE ρ1 vs) I h0 fun i x acc ρ2 hx hi => hs i x acc ρ2 hx hi
  refine ⟨_, _, ?_, hq _ _ q⟩
  unfold yLc
  rw [h]
  simp [hc, hl, e1, rsts]
/-- what a def hands back -/
def endK (P : OT → Prop) : Fl → Env → Prop
  | .rt .no, _ => False
  | .rt (.d x), _ => P (.d x)
  | .rt (.nd k ts), _ => P (.nd k ts)
  | .rt (.fl ts), _ => P (.fl ts)
  | .rt (.ex x), _ => P (.ex x)
  | .xc _, _ => False
  | .nx, _ => P (.d .none)
  | .bk, _ => False
  | .ct, _ => False
theorem fin_w {B : Sm} {ρ : Env} {P : OT → Prop} (h : W B ρ (endK P)) : ∃ r, fin (B ρ) = some r ∧ P r := by
  obtain ⟨fl, ρ', e, q⟩ := h
  rw [e]
  cases fl with
  | nx => exact ⟨_, rfl, q⟩
  | bk => exact q.elim
  | ct => exact q.elim
  | xc x => exact q.elim
  | rt r =>
    cases r with
    | no => exact q.elim
    | d x => exact ⟨_, rfl, q⟩
    | nd k ts => exact ⟨_, rfl, q⟩
    | fl ts => exact ⟨_, rfl, q⟩
    | ex x => exact ⟨_, rfl, q⟩
end MR
namespace SH
open PySem L2 PL MR
/-- _law_take: 0 _law_pool_here 1 _law_many 2 _law_found -/
noncomputable def B__law_take : Sm :=
 (sSeq (sIf (tR (bR (rOp gGt (rOp gIxL (rVar 0) (rC (.int 0))) (rC (.int 0)))))
 (sSeq (sAsg 2 (yR (rOp gMod (rOp gIxL (rVar 0) (rC (.int 0))) (rVar 1))))
 (sSeq (sSetP 0 (pmVar 0) (rC (.int 0)) (yR (rOp gDiv (rOp gIxL (rVar 0) (rC (.int 0))) (rVar 1))))
 (sRet (yMov 2))))
 sNext)
 (sSeq (sSetP 0 (pmVar 0) (rC (.int 1)) (yR (rOp gMod (rOp gAdd (rOp gMul (rOp gIxL (rVar 0) (rC (.int 1))) (rC (.int 48271))) (rC (.int 11))) (rC (.int 2147483647)))))
 (sRet (yR (rOp gMod (rOp gDiv (rOp gMod (rOp gMul (rOp gIxL (rVar 0) (rC (.int 1))) (rOp gIxL (rVar 0) (rC (.int 1)))) (rC (.int 2147483629))) (rC (.int 16))) (rVar 1))))))
noncomputable def m__law_take : OT → List D → Option (OT × OT) := fun t ds => finI (B__law_take (t :: ini ds 1))
/-- is_whole: 0 thing -/
noncomputable def B_is_whole : Sm :=
 (sRet (yR (rAnd (rIs "int" (rVar 0)) (rNot (rIs "bool" (rVar 0))))))
noncomputable def m_is_whole : List D → Option OT := fun ds => fin (B_is_whole (ini ds 0))
/-- joins_places: 0 many 1 thing 2 one 3 other -/
noncomputable def B_joins_places : Sm :=
 (sSeq (sIf (tR (bOr (bNot (bR (rIs "tuple" (rVar 1)))) (bR (rOp gNeI (rCb gLen (qCons (rVar 1) qNil)) (rC (.int 2))))))
 (sRet (yR (rC (.bool false))))
 sNext)
 (sSeq (sAsgG (gmTup (gsCons (gmName 2) (gsCons (gmName 3) gsNil))) (dY (yVar 1)))
 (sRet (yR (rAnd (rCall m_is_whole 1 (qCons (rVar 2) qNil)) (rAnd (rCall m_is_whole 1 (qCons (rVar 3) qNil)) (rCh3 (fun i j => decide (i ≤ j)) (fun i j => decide (i < j)) (fun i j => decide (i < j)) (rC (.int 0)) (rVar 2) (rVar 3) (rVar 0))))))))
noncomputable def m_joins_places : List D → Option OT := fun ds => fin (B_joins_places (ini ds 2))
/-- web_fault: 0 thing 1 many 2 ties 3 at 4 tie -/
noncomputable def B_web_fault : Sm :=
 (sSeq (sIf (tR (bOr (bNot (bR (rIs "tuple" (rVar 0)))) (bR (rOp gNeI (rCb gLen (qCons (rVar 0) qNil)) (rC (.int 2))))))
 (sRet (yTup (oCons (yR (rC (.str "web"))) (oCons (yR (rC .none)) oNil))))
 sNext)
 (sSeq (sAsgG (gmTup (gsCons (gmName 1) (gsCons (gmName 2) gsNil))) (dY (yVar 0)))
 (sSeq (sIf (tR (bOr (bNot (bR (rCall m_is_whole 1 (qCons (rVar 1) qNil)))) (bNot (bR (rCh (fun i j => decide (i ≤ j)) (fun i j => decide (i ≤ j)) (rC (.int 1)) (rVar 1) (rC (.int 40)))))))
 (sRet (yTup (oCons (yR (rC (.str "places"))) (oCons (yR (rC .none)) oNil))))
 sNext)
 (sSeq (sIf (tR (bOr (bNot (bR (rIs "list" (rVar 2)))) (bR (rOp gGt (rCb gLen (qCons (rVar 2) qNil)) (rC (.int 120))))))
 (sRet (yTup (oCons (yR (rC (.str "ties"))) (oCons (yR (rC .none)) oNil))))
 sNext)
 (sSeq (sFor (iE (lCons (dY (yVar 2)) lNil)) (gmTup (gsCons (gmName 3) (gsCons (gmName 4) gsNil)))
 (sIf (tR (bOr (bNot (bR (rCall m_joins_places 2 (qCons (rVar 1) (qCons (rVar 4) qNil))))) (bAnd (bR (rOp gGt (rVar 3) (rC (.int 0)))) (bR (rOp gLeT (rVar 4) (rOp gIxL (rVar 2) (rOp gSub (rVar 3) (rC (.int 1)))))))))
 (sRet (yTup (oCons (yR (rC (.str "ties"))) (oCons (yMov 3) oNil))))
 sNext))
 (sRet (yR (rC .none))))))))
noncomputable def m_web_fault : List D → Option OT := fun ds => fin (B_web_fault (ini ds 4))
/-- look_at_webs: 0 thing 1 at 2 web -/
noncomputable def B_look_at_webs : Sm :=
 (sSeq (sIf (tR (bOr (bNot (bR (rIs "list" (rVar 0)))) (bR (rOp gGt (rCb gLen (qCons (rVar 0) qNil)) (rC (.int 12))))))
 sNever
 sNext)
 (sFor (iE (lCons (dY (yVar 0)) lNil)) (gmTup (gsCons (gmName 1) (gsCons (gmName 2) gsNil)))
 (sIf (tR (bR (rOp gNotN (rCall m_web_fault 1 (qCons (rVar 2) qNil)) (rC .none))))
 sNever
 sNext)))
noncomputable def m_look_at_webs : List D → Option OT := fun ds => fin (B_look_at_webs (ini ds 2))
/-- _law_web: 0 _law_pool_here 1 _law_most 2 _law_more 3 _law_many 4 _law_names 5 _law_order 6 _law_k 7 _law_pairs 8 _law_ties 9 _law_one 10 _law_other -/
noncomputable def B__law_web : Sm :=
 (sSeq (sAsg 3 (yD (dOp gAdd (dR (rC (.int 1))) (dY (yCallI m__law_take 2 0 (lCons (dY (yVar 1)) lNil))))))
 (sSeq (sAsg 4 (yRng1 (dY (yVar 3))))
 (sSeq (sAsg 5 (yLc [6] (iR1 (lCons (dY (yVar 3)) lNil)) (gmName 6) (fun ρ => some (true, ρ)) (yPop 4 (dY (yCallI m__law_take 2 0 (lCons (dR (rCb gLen (qCons (rVar 4) qNil))) lNil))))))
 (sSeq (sAsg 7 (yLc [6] (iR2 (lCons (dR (rC (.int 1))) (lCons (dY (yVar 3)) lNil))) (gmName 6) (fun ρ => some (true, ρ)) (yTup (oCons (yVar 6) (oCons (yCallI m__law_take 2 0 (lCons (dY (yVar 6)) lNil)) oNil)))))
 (sSeq (sFor (iR1 (lCons (dY (yCallI m__law_take 2 0 (lCons (dR (rOp gAdd (rVar 2) (rC (.int 1)))) lNil))) lNil)) (gmName 6)
 (sApp 7 (yTup (oCons (yCallI m__law_take 2 0 (lCons (dY (yVar 3)) lNil)) (oCons (yCallI m__law_take 2 0 (lCons (dY (yVar 3)) lNil)) oNil)))))
 (sSeq (sAsg 8 yDNew)
 (sSeq (sFor (iL (dY (yVar 7))) (gmTup (gsCons (gmName 9) (gsCons (gmName 10) gsNil)))
 (sIf (tR (bR (rOp gNeI (rVar 9) (rVar 10))))
 (sDPutM 8 (rTup (qCons (rCb gMin2 (qCons (rOp gIxL (rVar 5) (rVar 9)) (qCons (rOp gIxL (rVar 5) (rVar 10)) qNil))) (qCons (rCb gMax2 (qCons (rOp gIxL (rVar 5) (rVar 9)) (qCons (rOp gIxL (rVar 5) (rVar 10)) qNil))) qNil))) (rC (.bool true)))
 sNext))
 (sRet (yTup (oCons (yMov 3) (oCons (ySortD 8) oNil)))))))))))
noncomputable def m__law_web : OT → List D → Option (OT × OT) := fun t ds => finI (B__law_web (t :: ini ds 8))
/-- look_at_web: 0 thing 1 fault 2 part 3 number -/
noncomputable def B_look_at_web : Sm :=
 (sSeq (sAsg 1 (yCallA m_web_fault 1 (qCons (rVar 0) qNil) (lCons (dY (yVar 0)) lNil)))
 (sIf (tR (bR (rOp gNotN (rVar 1) (rC .none))))
 (sSeq (sAsgG (gmTup (gsCons (gmName 2) (gsCons (gmName 3) gsNil))) (dY (yVar 1)))
 sNever)
 sNext))
noncomputable def m_look_at_web : List D → Option OT := fun ds => fin (B_look_at_web (ini ds 3))
end SH
namespace SQ
open PySem L2 PL MR
/-- _law_numbers: 0 _law_cell 1 _law_salt 2 _law_sizes 3 _law_number 4 _law_left 5 _law_found 6 _law_k 7 _law_one -/
noncomputable def B__law_numbers : Sm :=
 (sSeq (sAsg 3 (yR (rCb gMax2 (qCons (rVar 0) (qCons (rOp gSub (rUn gNeg (rC (.int 1))) (rVar 0)) qNil)))))
 (sSeq (sAsg 4 (yVar 3))
 (sSeq (sAsg 5 (yLst oNil))
 (sSeq (sFor (iR1 (lCons (dR (rCb gLen (qCons (rVar 2) qNil))) lNil)) (gmName 6)
 (sIf (tR (bAnd (bR (rOp gGe (rVar 3) (rOp gPow (rC (.int 10)) (rC (.int 18))))) (bR (rOp gGt (rVar 4) (rC (.int 0))))))
 (sSeq (sApp 5 (yR (rOp gMod (rVar 4) (rOp gIxL (rVar 2) (rVar 6)))))
 (sAsg 4 (yR (rOp gDiv (rVar 4) (rOp gIxL (rVar 2) (rVar 6))))))
 (sSeq (sAsg 7 (yR (rOp gMod (rOp gAdd (rOp gAdd (rOp gAdd (rVar 3) (rOp gMul (rC (.int 7919)) (rVar 1))) (rOp gMul (rOp gMul (rC (.int 101)) (rVar 6)) (rVar 6))) (rVar 6)) (rC (.int 2147483647)))))
 (sSeq (sAsg 7 (yR (rOp gMod (rOp gMul (rVar 7) (rC (.int 48271))) (rC (.int 2147483647)))))
 (sSeq (sAsg 7 (yR (rOp gMod (rOp gMul (rOp gMod (rOp gMul (rVar 7) (rVar 7)) (rC (.int 2147483629))) (rC (.int 48271))) (rC (.int 2147483647)))))
 (sApp 5 (yR (rOp gMod (rOp gDiv (rVar 7) (rC (.int 16))) (rOp gIxL (rVar 2) (rVar 6))))))))))
 (sRet (yMov 5))))))
noncomputable def m__law_numbers : List D → Option OT := fun ds => fin (B__law_numbers (ini ds 5))
/-- _law_order: 0 _law_digits 1 _law_names 2 _law_digit -/
noncomputable def B__law_order : Sm :=
 (sSeq (sAsg 1 (yRng1 (dR (rCb gLen (qCons (rVar 0) qNil)))))
 (sRet (yLc [2] (iL (dY (yVar 0))) (gmName 2) (fun ρ => some (true, ρ)) (yPop 1 (dR (rOp gMod (rVar 2) (rCb gLen (qCons (rVar 1) qNil))))))))
noncomputable def m__law_order : List D → Option OT := fun ds => fin (B__law_order (ini ds 2))
/-- _law_web: 0 _law_cell 1 _law_salt 2 _law_most 3 _law_more 4 _law_loose 5 _law_many 6 _law_sizes 7 _law_k 8 _law_digits 9 _law_order_here 10 _law_pairs 11 _law_digit 12 _law_ties 13 _law_one 14 _law_other -/
noncomputable def B__law_web : Sm :=
 (sSeq (sAsg 5 (yR (rOp gAdd (rC (.int 1)) (rOp gIxL (rCall m__law_numbers 3 (qCons (rVar 0) (qCons (rVar 1) (qCons (rLst (qCons (rVar 2) qNil)) qNil)))) (rC (.int 0))))))
 (sSeq (sAsg 6 (yOp GCat (dY (yOp GCat (dY (yLst (oCons (yVar 2) (oCons (yR (rOp gAdd (rVar 3) (rC (.int 1)))) oNil)))) (dY (yLc [7] (iR1 (lCons (dR (rOp gSub (rVar 5) (rC (.int 1)))) lNil)) (gmName 7) (fun ρ => some (true, ρ)) (yR (rOp gAdd (rVar 7) (rC (.int 1)))))))) (dY (yLc [7] (iR1 (lCons (dY (yVar 5)) lNil)) (gmName 7) (fun ρ => some (true, ρ)) (yR (rOp gSub (rVar 5) (rVar 7)))))))
 (sSeq (sAsg 8 (yCall m__law_numbers 3 (lCons (dY (yVar 0)) (lCons (dY (yVar 1)) (lCons (dY (yOp GCat (dY (yOp GCat (dY (yVar 6)) (dY (yRep (yLst (oCons (yR (rOp gMul (rVar 5) (rVar 5))) oNil)) (rVar 3))))) (dY (yRep (yLst (oCons (yR (rC (.int 3))) oNil)) (rOp gSub (rVar 5) (rC (.int 1))))))) lNil)))))
 (sSeq (sAsg 9 (yCallA m__law_order 1 (qCons (rSl (rVar 8) (cSome (rOp gAdd (rVar 5) (rC (.int 1)))) (cSome (rOp gAdd (rOp gMul (rC (.int 2)) (rVar 5)) (rC (.int 1))))) qNil) (lCons (dY (ySlA (rVar 8) (dY (yVar 8)) (cSome (rOp gAdd (rVar 5) (rC (.int 1)))) (cSome (rOp gAdd (rOp gMul (rC (.int 2)) (rVar 5)) (rC (.int 1)))))) lNil)))
 (sSeq (sAsg 10 (yLc [7] (iR1 (lCons (dR (rOp gSub (rVar 5) (rC (.int 1)))) lNil)) (gmName 7) (tR (bOr (bNot (bR (rVar 4))) (bR (rOp gGt (rOp gIxL (rVar 8) (rOp gSub (rUn gNeg (rC (.int 1))) (rVar 7))) (rC (.int 0)))))) (yTup (oCons (yR (rOp gAdd (rVar 7) (rC (.int 1)))) (oCons (yAuto (rOp gIxL (rVar 8) (rOp gAdd (rC (.int 2)) (rVar 7))) (yD (dOpR gIxL (dY (yVar 8)) (rOp gAdd (rC (.int 2)) (rVar 7))))) oNil)))))
 (sSeq (sExt 10 (yLc [11] (iL (dY (ySlA (rVar 8) (dY (yVar 8)) (cSome (rOp gAdd (rOp gMul (rC (.int 2)) (rVar 5)) (rC (.int 1)))) (cSome (rOp gAdd (rOp gAdd (rOp gMul (rC (.int 2)) (rVar 5)) (rC (.int 1))) (rOp gIxL (rVar 8) (rC (.int 1)))))))) (gmName 11) (fun ρ => some (true, ρ)) (yTup (oCons (yR (rOp gDiv (rVar 11) (rVar 5))) (oCons (yR (rOp gMod (rVar 11) (rVar 5))) oNil)))))
 (sSeq (sAsg 12 yDNew)
 (sSeq (sFor (iL (dY (yVar 10))) (gmTup (gsCons (gmName 13) (gsCons (gmName 14) gsNil)))
 (sIf (tR (bR (rOp gNeI (rVar 13) (rVar 14))))
 (sDPutM 12 (rTup (qCons (rCb gMin2 (qCons (rOp gIxL (rVar 9) (rVar 13)) (qCons (rOp gIxL (rVar 9) (rVar 14)) qNil))) (qCons (rCb gMax2 (qCons (rOp gIxL (rVar 9) (rVar 13)) (qCons (rOp gIxL (rVar 9) (rVar 14)) qNil))) qNil))) (rC (.bool true)))
 sNext))
 (sRet (yTup (oCons (yMov 5) (oCons (ySortD 12) oNil))))))))))))
noncomputable def m__law_web : List D → Option OT := fun ds => fin (B__law_web (ini ds 10))
end SQ
namespace SB
open PySem L2 PL MR SH SQ
end SB
/-! MR: math.comb -/
namespace MR
open PySem L2 PL PySem.Spec PyProof.Rows
end MR
/-! MR: products of great numbers -/
namespace MR
open PySem L2 PL PySem.Spec PyProof.Rows
end MR
/-! MR: zip of three lists -/
namespace MR
open PySem L2 PL PySem.Spec PyProof.Rows
end MR
/-! MR: max of a list of ints, xs.count(k), xs[i] += e -/
namespace MR
open PySem L2 PL PySem.Spec PyProof.Rows
end MR
/-! MR: dicts by ints and texts: {}, {k: v}, d[k], d.get(k, e), d[k] = v, for k, v in d.items() -/
namespace MR
open PySem L2 PL PySem.Spec PyProof.Rows
end MR
/-! MR: list(zip(xs, ys)) of two lists -/
namespace MR.Lz
open PySem PySem.Calls PyProof.Rows PyProof.V PySem.Spec
/-- what zip(xs, ys) has told so far -/
structure Told (ps : List (Value × Value)) (lo : Addr) (h : Heap) (as : List Addr) : Prop where
  rise : as.Pairwise (· < ·)
  above : ∀ a ∈ as, lo < a
  pairs : ∀ (j : Nat) (a : Addr), as[j]? = some a → ∃ p, ps[j]? = some p ∧ h.get? a = some { cls := .type "tuple", data := .seq #[p.1, p.2] }
/-- the zip as it stands ahead of turn i -/
def St (h : Heap) (z TI TO i1 i2 l1 l2 S : Addr) (xs ys : Array Value) (i : Nat) : Prop :=
  IsPair h TI (.ref i1) (.ref i2) ∧ h.IsListIter i1 l1 i ∧ h.IsListIter i2 l2 i ∧ h.IsList l1 xs ∧ h.IsList l2 ys ∧
    ((IsZip h z TI TO .none ∧ ∃ a b, IsPair h TO a b) ∨ ∃ T f oT, IsZipHeld h z TI TO T f ∧ h.get? T = some oT ∧ T ≠ z ∧ T ≠ i1 ∧ T ≠ i2 ∧ T ≠ S)
structure Off (z TI TO i1 i2 l1 l2 S : Addr) : Prop where
  z : S ≠ z
  TI : S ≠ TI
  TO : S ≠ TO
  i1 : S ≠ i1
  i2 : S ≠ i2
  l1 : S ≠ l1
  l2 : S ≠ l2
section
variable {z TI TO i1 i2 l1 l2 S : Addr} {xs ys : Array Value} {i : Nat}
theorem St.keep {h h' : Heap} (x : St h z TI TO i1 i2 l1 l2 S xs ys i) (O : Off z TI TO i1 i2 l1 l2 S) (hk : ∀ b o, b ≠ S → h.get? b = some o → h'.get? b = some o) : St h' z TI TO i1 i2 l1 l2 S xs ys i := by
  obtain ⟨hTI, h1, h2, hl1, hl2, hz⟩ := x
  refine ⟨hk _ _ (Ne.symm O.TI) hTI, h1.at fun o e => hk _ o (Ne.symm O.i1) e, h2.at fun o e => hk _ o (Ne.symm O.i2) e, hl1.at fun o e => hk _ o (Ne.symm O.l1) e, hl2.at fun o e => hk _ o (Ne.symm O.l2) e, ?_⟩
  rcases hz with ⟨hz, a, b, hTO⟩ | ⟨T, f, oT, hz, hT, r1, r2, r3, r4⟩
  · exact .inl ⟨hk _ _ (Ne.symm O.z) hz, a, b, hk _ _ (Ne.symm O.TO) hTO⟩
  · exact .inr ⟨T, f, oT, hk _ _ (Ne.symm O.z) hz, hk _ _ r4 hT, r1, r2, r3, r4⟩
variable {prog : Program} {w : World} {A : Around} {E : Value → Shared → Prop} {s : Shared}
end
end MR.Lz
namespace MR
open PySem L2 PL PySem.Spec PyProof.Rows
/-- pairs laid at their addresses -/
def putPz : Hp → List Addr → List (V × V) → Hp
  | H, a :: as, p :: kvs => putPz (upd H a (.tup [p.1, p.2])) as kvs
  | H, _, _ => H
theorem putPz_off {b : Addr} : ∀ (as : List Addr) (kvs : List (V × V)) (H : Hp), b ∉ as → putPz H as kvs b = H b
  | [], _, _, _ => rfl
  | _ :: _, [], _, _ => rfl
  | a :: as, p :: kvs, H, h => by
    show putPz (upd H a (.tup [p.1, p.2])) as kvs b = H b
    rw [putPz_off as kvs _ (fun z => h (List.mem_cons_of_mem _ z)), upd_ne (fun z => h (by rw [z]; exact List.mem_cons_self))]
theorem putPz_at : ∀ (as : List Addr) (kvs : List (V × V)) (H : Hp), as.length = kvs.length → as.Nodup → ∀ (j : Nat) (a : Addr), as[j]? = some a → ∃ p, kvs[j]? = some p ∧ putPz H as kvs a = some (.tup [p.1, p.2])
  | [], [], _, _, _ => fun j a h => by simp at h
  | [], _ :: _, _, h, _ => by cases h
  | _ :: _, [], _, h, _ => by cases h
  | a :: as, p :: kvs, H, h, hn => by
    have hn' := List.nodup_cons.mp hn
    have ih := putPz_at as kvs (upd H a (.tup [p.1, p.2])) (Nat.succ.inj h) hn'.2
    intro j b hj
    cases j with
    | zero =>
      have e : a = b := by simpa using hj
      subst e
      exact ⟨p, rfl, by show putPz (upd H a (.tup [p.1, p.2])) as kvs a = _; rw [putPz_off as kvs _ hn'.1, upd_same]⟩
    | succ j => exact ih j b (by simpa using hj)
section
variable {X : Cx} {e e2 : Expr} {ta : TA} {p p2 pos cpos : Pos}
theorem laid {pins : List (Addr × Obj)} {σ : L2.St} {H : Hp} {s : Shared} {h' : Heap} {tk : Nat} {L : Addr} {qs : List (V × V)} {ps : List (Value × Value)} {acc : Array Value} {c : Nat} {as : List Addr} (I : Inv X pins σ H s) (hz : qs.length ≤ sizeLine) (hlen : ps.length = qs.length)
    (hrel : ∀ (j : Nat) (p : Value × Value), ps[j]? = some p → ∃ q, qs[j]? = some q ∧ RelV q.1 p.1 ∧ RelV q.2 p.2)
    (hL : s.heap.objs.size ≤ L) (hk : ∀ b o, s.heap.get? b = some o → h'.get? b = some o) (hS : h'.get? L = some { cls := .type "list", dict := none, data := .seq acc c, slots := #[] }) (hl : as.length = ps.length) (hG : Lz.Told ps L h' as) (hacc : acc.toList = as.map Value.ref) :
    as.Nodup ∧ (∀ t ∈ as, H t = none) ∧ H L = none ∧ L ∉ as ∧ Inv X pins σ (putPz (upd H L (.lst (as.map V.ref))) as qs) { s with heap := h', toks := tk } := by
  have hSn : L ∉ as := fun z => Nat.lt_irrefl _ (hG.above _ z)
  have nd : as.Nodup := List.Pairwise.imp (fun {a b} (h : a < b) => Nat.ne_of_lt h) hG.rise
  have new : ∀ t ∈ as, H t = none := fun t ht => I.hok.fresh (Nat.le_trans hL (Nat.le_of_lt (hG.above t ht)))
  have newS : H L = none := I.hok.fresh hL
  have atP := putPz_at as qs (upd H L (.lst (as.map V.ref))) (by omega) nd
  have off : ∀ b, b ∉ as → b ≠ L → putPz (upd H L (.lst (as.map V.ref))) as qs b = H b := fun b h1 h2 => by rw [putPz_off as qs _ h1, upd_ne h2]
  have low : ∀ b o, s.heap.get? b = some o → b ∉ as ∧ b ≠ L := fun b o e => ⟨fun z => absurd (Heap.lt_size e) (Nat.not_lt.mpr (Nat.le_trans hL (Nat.le_of_lt (hG.above b z)))), Nat.ne_of_lt (Nat.lt_of_lt_of_le (Heap.lt_size e) hL)⟩
  have kp : ∀ b u, H b = some u → (putPz (upd H L (.lst (as.map V.ref))) as qs) b = some u := fun b u e => by
    rw [off b (fun z => by rw [new b z] at e; cases e) (fun z => by rw [z, newS] at e; cases e)]
    exact e
  have eS : putPz (upd H L (.lst (as.map V.ref))) as qs L = some (.lst (as.map V.ref)) := by rw [putPz_off as qs _ hSn, upd_same]
  refine ⟨nd, new, newS, hSn, ?_⟩
  refine I.call' (ch := []) rfl ⟨fun b o q _ _ _ => hk b o q, fun b o q _ _ _ => ⟨o.slots, hk b o q⟩, fun b o q n _ => ?_, fun b o q _ => ⟨o, hk b o q⟩, fun b xs q => kp b _ q, fun b o u q => kp b _ q, fun b ps q => ⟨#[], by rw [kp b _ q]; simp⟩⟩ (fun b u q => ?_) I.bare fun b z => by simp at z
  · obtain ⟨z1, z2⟩ := low b o q
    rw [off b z1 z2]
    exact n
  · by_cases hb : b ∈ as
    · obtain ⟨j, e1⟩ := List.mem_iff_getElem?.mp hb
      obtain ⟨pk, e2, e3⟩ := atP j b e1
      rw [e3] at q
      cases q
      obtain ⟨pv, f1, f3⟩ := hG.pairs j b e1
      obtain ⟨qv, g1, g2, g3⟩ := hrel j pv f1
      rw [g1] at e2
      cases e2
      exact ⟨by show 2 ≤ sizeLine; decide, [pv.1, pv.2], .cons g2 (.cons g3 .nil), ⟨_, f3, rfl, _, rfl⟩⟩
    · by_cases hb2 : b = L
      · rw [hb2] at q ⊢
        rw [eS] at q
        cases q
        refine ⟨by rw [List.length_map]; omega, acc.toList, c, by rw [hacc]; exact LiI.vals_refs as, ?_⟩
        rw [Array.toArray_toList]
        exact hS
      · rw [off b hb hb2] at q
        exact (I.hok b u q).stay (fun d v _ y => hk d v y) (fun d y => kp d _ y) fun d xs y => kp d _ y
end
end MR
/-! MR: max of a list of ints, default= -/
namespace MR
open PySem L2 PL PySem.Spec PyProof.Rows PySem PySem.W
end MR
/-! MR: repr of an empty dict too -/
namespace MR
open PySem L2 PL PySem.Spec PyProof.Rows
end MR
/-! MR: a flat item of an own list, whatever its index does -/
namespace MR
open PySem L2 PL PySem.Spec PyProof.Rows
end MR
namespace MR
open PySem L2 PL PySem.Spec PyProof.Rows
end MR
/-! MR: an exception that is caught and kept -/
namespace MR
open PySem L2 PL PySem.Spec PySem.HandSPX
end MR
/-! MR: raising, calls that may raise, try .. except C as e: y = e; isinstance of what is kept -/
namespace MR
open PySem L2 PL
/-! ### pure -/
/-- an expression that may raise -/
abbrev Xm := Env → Option (Except Xc OT × Env)
variable [kf : KF]
section
variable [wx : WXI]
variable {ρ ρ1 ρ' : Env} {ta tb te : TE} {tl tk : TA} {t : TT} {tm : Tm} {y : Ym} {xa xb m : Xm} {q p : Qm} {lm ln : Lm} {js : List Nat} {i j : Nat} {n k l : Nat} {f : List D → Option (Except Xc OT)}
theorem XcAt.up {A0 : List Addr} {S0 H0 S H H' : Hp} {cls : Value} {d : Option Addr} {x : Xc} (h : XcAt H H' cls d x) (o : Xa A0 S0 H0 S H) : XcAt H0 H' cls d x := by
  obtain ⟨C, h1, h2, h3, h4⟩ := h
  exact ⟨C, h1, h2, h3, fun dd e => o.dm dd (h4 dd e)⟩
/-! ### statements -/
end
/-! ### what is kept -/
end MR
/-! MR: isinstance of what is kept; rules for calls that may raise; the tie of a def that may raise -/
namespace PySem.W
open PySem PySem.Spec PySem.Calls PyProof.Rows
end PySem.W
namespace MR
open PySem L2 PL
/-! ### the rules of calls that may raise -/
/-! ### a def that may raise -/
end MR
/-! calls that leave a parameter to its default -/
namespace MR
open PySem L2 PL
end MR
/-! MR: a part of a slot's tuple: looped over, its items changed; frozen for one statement; and a list that takes up what one doesn't own -/
namespace MR
open PySem L2 PL
end MR
/-! MR: a part of a slot's tuple: looped over with its items one's own -/
namespace MR
open PySem L2 PL
end MR
/-! MR: a list that takes up a part one doesn't own; a part read; a part frozen for one statement; try .. except C: .. -/
namespace MR
open PySem L2 PL
variable [kf : KF] [wx : WXI]
section
variable {S H S' H' S0 H0 : Hp} {A0 : List Addr} {σ τσ : St} {ρ τρ ρ' : Env} {js : List Nat} {i : Nat} {p q : List Nat} {ts : List OT}
theorem run_appN {tp te : TE} {t : OT} (hp : PtE tp ρ i p) (ht : ρ[i]? = some t) (hs : t.at p = some (.nd .lst ts)) (he : PtE te ρ i q) (hz : ts.length ≤ 1000000) :
    RunS js (tDrop (tBM kf.K "list" rAppend tp (tCons te tNil))) ρ .nx (ρ.set i (t.put p (.nd .lst (ts ++ [.no])))) := fun S0 H0 A0 S H σ F E hF hx o kk =>
  hp S0 H0 A0 S H [] [] σ _ rfl o fun v0 v S1 H1 x1 e1 f1 => by
    have o1 := o.ext x1
    obtain ⟨w0, a, vs, B, C, g1, g2, _, g3, _⟩ := Ok.rewrite (τσ := []) (τρ := []) rfl o1.dummy ht hs rfl
    rw [e1] at g1; cases g1
    rw [f1] at g2; cases g2
    refine ⟨.inl ⟨rfl, vs, .inl (.inl g3)⟩, he S0 H0 A0 S1 H1 [] [] σ _ rfl o1 fun u0 y S2 H2 xt _ _ => ?_⟩
    have o2 := o1.ext xt
    obtain ⟨w0', a', vs', B', C', g1', g2', g5, g3', g6, g7, g8, g9, g10⟩ := Ok.rewrite (τσ := []) (τρ := []) rfl o2.dummy ht hs rfl
    rw [e1] at g1'; cases g1'
    rw [follow_mono xt p _ _ f1] at g2'
    cases g2'
    have : vs' = vs := by rw [xt.hh _ _ g3] at g3'; simp [shape] at g3'; exact g3'.symm
    subst this
    refine ⟨a, vs', y, rfl, rfl, xt.hh _ _ g3, sz_lt (by rw [g7.len]; exact hz), ?_⟩
    have := g10 (k' := .lst) (y' := Option.none) (r' := .no) (C' := []) rfl trivial (g7.app (.one (.no : OOk S2 H2 y .no []))) .no (by simpa using (List.nodup_append.mp g9).1) (fun b hb => List.mem_append_left _ (by simpa using hb))
    exact kk S2 _ σ (x1.ss.trans xt.ss) hx this.drop
end
end MR
/-! MR: (x, e): x is handed over once e is made -/
namespace MR
open PySem L2 PL
variable [kf : KF]
section
variable {S H S' H' S0 H0 : Hp} {A0 : List Addr} {σ τσ : St} {ρ τρ ρ1 : Env} {te : TE} {r t : OT} {i : Nat}
theorem Ok.swap {v w : Option V} {r t : OT} (o : Ok S0 H0 A0 S H (v :: w :: σ) (t :: r :: ρ)) : Ok S0 H0 A0 S H (w :: v :: σ) (r :: t :: ρ) := by
  obtain ⟨A, he, nd, fr⟩ := o.env
  cases he with
  | @cons _ _ A1 _ _ B1 p1 p2 =>
    cases p2 with
    | @cons _ _ A2 _ _ B2 q1 q2 =>
      have perm : (A2 ++ (A1 ++ B2)).Perm (A1 ++ (A2 ++ B2)) := by
        rw [← List.append_assoc, ← List.append_assoc]
        exact List.perm_append_comm.append_right B2
      exact ⟨o.xt, A2 ++ (A1 ++ B2), .cons q1 (.cons p1 q2), perm.nodup_iff.mpr nd, fun b hb => fr b (perm.mem_iff.mp hb)⟩
end
end MR
/-! MR: a statement runs beside what it can't reach -/
namespace MR
open PySem L2 PL
variable [kf : KF] [wx : WXI]
section
variable {S H S' H' S0 H0 : Hp} {A0 A1 : List Addr} {σ : St} {ρ ρ' : Env}
theorem Xa.comp (x : Xa A0 S0 H0 S H) (hA : ∀ a ∈ A1, a ∈ A0 ∨ H0 a = none) (y : Xa A1 S H S' H') : Xa A0 S0 H0 S' H' where
  hh b o nb e := y.hh b o (fun z => by
    rcases hA b z with q | q
    · exact nb q
    · rw [q] at e; cases e) (x.hh b o nb e)
  dm b e := x.dm b (y.dm b e)
  tp b xs e := y.tp b xs (x.tp b xs e)
  ss := x.ss.trans y.ss
  sh := y.sh
  nw b o e := by
    rcases y.nw b o e with z | z | z
    · exact x.nw b o z
    · rcases hA b z with q | q
      · exact .inr (.inl q)
      · exact .inr (.inr fun u hu => by rw [q] at hu; cases hu)
    · by_cases nb : b ∈ A0
      · exact .inr (.inl nb)
      · exact .inr (.inr fun u hu => z u (x.hh b u nb hu))
/-- what is wished where s in v stays beside -/
def KontT (F : List (Nat × V)) (S H S0 H0 : Hp) (A0 A1 : List Addr) (v : Option V) (s : OT) (E : Ends) : Fl → Env → Prop
  | .nx, ρ' => ∀ S' H' σ', Same S S' → (∀ a ∈ A1, H' a = H a) → Fx F σ' → Ok S0 H0 A0 S' H' (v :: σ') (s :: ρ') → E.nx σ' H'
  | .bk, ρ' => ∀ S' H' σ', Same S S' → (∀ a ∈ A1, H' a = H a) → Fx F σ' → Ok S0 H0 A0 S' H' (v :: σ') (s :: ρ') → E.bk σ' H'
  | .ct, ρ' => ∀ S' H' σ', Same S S' → (∀ a ∈ A1, H' a = H a) → Fx F σ' → Ok S0 H0 A0 S' H' (v :: σ') (s :: ρ') → E.ct σ' H'
  | .rt r, ρ' => ∀ v' S' H' σ', Same S S' → Fx F σ' → Ok S0 H0 A0 S' H' (some v' :: σ') (r :: ρ') → E.rt v' H'
  | .xc x, ρ' => ∀ cls d S' H' σ', Same S S' → Fx F σ' → Ok S0 H0 A0 S' H' σ' ρ' → XcAt H0 H' cls d x → wx.W cls d σ' H'
theorem run_beside {js : List Nat} {t : TS} {fl : Fl} (h : RunS js t ρ fl ρ') {v : Option V} {s : OT} {B1 : List Addr} {F : List (Nat × V)} {E : Ends} (hF : F.map (·.1) = js) (hx : Fx F σ) (xt : Xa A0 S0 H0 S H) (p1 : OSl S H v s A1) (p2 : EOk S H σ ρ B1) (nd : (A1 ++ B1).Nodup) (fr : ∀ a ∈ A1 ++ B1, a ∈ A0 ∨ H0 a = none) (kk : KontT F S H S0 H0 A0 A1 v s E fl ρ') : t E σ H := by
  have nda := List.nodup_append.mp nd
  have o1 : Ok S H B1 S H σ ρ := ⟨⟨fun _ _ _ e => e, fun _ e => e, fun _ _ e => e, Same.refl S, xt.sh, fun _ _ e => .inl e⟩, B1, p2, nda.2.1, fun a ha => .inl ha⟩
  have frB : ∀ a ∈ B1, a ∈ A0 ∨ H0 a = none := fun a ha => fr a (List.mem_append_right _ ha)
  have low : ∀ {S' H' : Hp} {σ' : St} {ρ2 : Env}, Ok S H B1 S' H' σ' ρ2 → Ok S0 H0 A0 S' H' σ' ρ2 := fun {S' H' σ' ρ2} o' => by
    obtain ⟨B2, h2, nd2, fr2⟩ := o'.env
    refine ⟨xt.comp frB o'.xt, B2, h2, nd2, fun b hb => ?_⟩
    rcases fr2 b hb with z | z
    · exact frB b z
    · exact .inr (xt.dm b z)
  have up : ∀ {S' H' : Hp} {σ' : St} {ρ2 : Env}, Ok S H B1 S' H' σ' ρ2 → (∀ a ∈ A1, H' a = H a) ∧ Ok S0 H0 A0 S' H' (v :: σ') (s :: ρ2) := fun {S' H' σ' ρ2} o' => by
    obtain ⟨B2, h2, nd2, fr2⟩ := o'.env
    have e : ∀ a ∈ A1, S' a = none ∧ H' a = H a := fun a ha => by
      obtain ⟨z1, u, hu, hn⟩ := p1.at a ha
      have nb : a ∉ B1 := fun z => nda.2.2 a ha a z rfl
      refine ⟨?_, by rw [hu]; exact o'.xt.hh a u nb hu⟩
      cases q : S' a with
      | none => rfl
      | some o =>
        rcases o'.xt.nw a o q with z | z | z
        · rw [z1] at z; cases z
        · exact (nb z).elim
        · obtain ⟨xs, rfl⟩ := z u hu
          exact (hn xs rfl).elim
    refine ⟨fun a ha => (e a ha).2, xt.comp frB o'.xt, A1 ++ B2, .cons (p1.keep o'.xt.ss o'.xt.tp e) h2, List.nodup_append.mpr ⟨nda.1, nd2, fun a ha b hb z => ?_⟩, fun b hb => ?_⟩
    · subst z
      rcases fr2 a hb with y | y
      · exact nda.2.2 a ha a y rfl
      · obtain ⟨_, u, hu, _⟩ := p1.at a ha
        rw [y] at hu
        cases hu
    · rcases List.mem_append.mp hb with z | z
      · exact fr b (List.mem_append_left _ z)
      · rcases fr2 b z with y | y
        · exact frB b y
        · exact .inr (xt.dm b y)
  refine h S H B1 S H σ F E hF hx o1 ?_
  cases fl with
  | nx => exact fun S' H' σ' ss fx o' => kk S' H' σ' ss (up o').1 fx (up o').2
  | bk => exact fun S' H' σ' ss fx o' => kk S' H' σ' ss (up o').1 fx (up o').2
  | ct => exact fun S' H' σ' ss fx o' => kk S' H' σ' ss (up o').1 fx (up o').2
  | rt r => exact fun v' S' H' σ' ss fx o' => kk v' S' H' σ' ss fx (low o')
  | xc x => exact fun cls d S' H' σ' ss fx o' xc => kk cls d S' H' σ' ss fx (low o') (by
      obtain ⟨C, a1, a2, a3, a4⟩ := xc
      exact ⟨C, a1, a2, a3, fun dd e => xt.dm dd (a4 dd e)⟩)
end
end MR
/-! MR: a part of a slot's tuple, looped over and still one's own afterwards -/
namespace MR
open PySem L2 PL
variable [kf : KF] [wx : WXI]
section
variable {S H S' H' S0 H0 : Hp} {A0 : List Addr} {σ : St} {ρ : Env}
theorem Ok.holeN {v : Option V} {ts : List OT} {k : Nat} {t : OT} (o : Ok S0 H0 A0 S H (v :: σ) (.nd .lst ts :: ρ)) (h : ts[k]? = some t) : ∃ a vs w, v = some (.ref a) ∧ H a = some (.lst vs) ∧ vs[k]? = some w ∧ vs.length = ts.length ∧ Ok S0 H0 A0 S H (some w :: v :: σ) (t :: .nd .lst (ts.set k .no) :: ρ) := by
  obtain ⟨A, he, nd, fr⟩ := o.env
  cases he with
  | @cons _ _ A1 _ _ B1 p1 p2 =>
    cases p1 with
    | is p1 =>
      obtain ⟨a, vs, B, rfl, rfl, k1, k2, k3, k4⟩ := p1.inv_nd rfl
      have nda := List.nodup_append.mp nd
      have ndc := List.nodup_cons.mp nda.1
      obtain ⟨w, B', C', e1, e2, e3, e4, e5⟩ := k4.hole ndc.2 h
      have nd4 := List.nodup_append.mp e4
      have sub : ∀ b ∈ C' ++ (a :: B'), b ∈ a :: B := fun b hb => by
        rcases List.mem_append.mp hb with z | z
        · exact List.mem_cons_of_mem _ (e5 b (List.mem_append_left _ z))
        · rcases List.mem_cons.mp z with z | z
          · rw [z]; exact List.mem_cons_self
          · exact List.mem_cons_of_mem _ (e5 b (List.mem_append_right _ z))
      have ndx : (C' ++ (a :: B')).Nodup := List.nodup_append.mpr ⟨nd4.1, List.nodup_cons.mpr ⟨fun z => ndc.1 (e5 a (List.mem_append_right _ z)), nd4.2.1⟩, fun x hx y hy e => by
        subst e
        rcases List.mem_cons.mp hy with z | z
        · subst z; exact ndc.1 (e5 x (List.mem_append_left _ hx))
        · exact nd4.2.2 x hx x z rfl⟩
      refine ⟨a, vs, w, rfl, k3, e1, k4.len, o.xt, C' ++ ((a :: B') ++ B1), .cons (.is e3) (.cons (.is (.nd rfl trivial k2 k3 e2)) p2), ?_, fun b hb => ?_⟩
      · rw [← List.append_assoc]
        exact List.nodup_append.mpr ⟨ndx, nda.2.1, fun x hx y hy => nda.2.2 x (sub x hx) y hy⟩
      · rw [← List.append_assoc] at hb
        rcases List.mem_append.mp hb with z | z
        · exact fr b (List.mem_append_left _ (sub b z))
        · exact fr b (List.mem_append_right _ z)
theorem Ok.backN {v : Option V} {ts : List OT} {k : Nat} {t : OT} {a : Addr} {vs : List V} {w : V} (o : Ok S0 H0 A0 S H (some w :: v :: σ) (t :: .nd .lst ts :: ρ)) (hv : v = some (.ref a)) (hs : H a = some (.lst vs)) (hw : vs[k]? = some w) : Ok S0 H0 A0 S H (v :: σ) (.nd .lst (ts.set k t) :: ρ) := by
  obtain ⟨A, he, nd, fr⟩ := o.env
  subst hv
  cases he with
  | @cons _ _ A1 _ _ B1 p1 p2 =>
    cases p2 with
    | @cons _ _ A2 _ _ B2 q1 q2 =>
      cases q1 with
      | is q1 =>
        obtain ⟨a', vs', B, ea, rfl, k1, k2, k3, k4⟩ := q1.inv_nd rfl
        cases ea
        have e : vs' = vs := by rw [hs] at k3; simp [shape] at k3; exact k3.symm
        subst e
        have nda := List.nodup_append.mp nd
        have ndb := List.nodup_append.mp nda.2.1
        have ndc := List.nodup_cons.mp ndb.1
        have h1 : OOk S H w t A1 := by
          cases p1 with
          | no => exact .no
          | is p1 => exact p1
        obtain ⟨B', r1, r2, r3⟩ := k4.put (j := k) h1 (List.nodup_append.mpr ⟨ndc.2, nda.1, fun x hx y hy e => nda.2.2 y hy x (List.mem_append_left _ (List.mem_cons_of_mem _ hx)) e.symm⟩)
        rw [set_same hw] at r1
        have na : a ∉ B' := fun z => by
          rcases List.mem_append.mp (r3 a z) with y | y
          · exact ndc.1 y
          · exact nda.2.2 a y a (List.mem_append_left _ List.mem_cons_self) rfl
        have sub : ∀ x ∈ a :: B', x ∈ a :: B ∨ x ∈ A1 := fun x hx => by
          rcases List.mem_cons.mp hx with z | z
          · rw [z]; exact .inl List.mem_cons_self
          · rcases List.mem_append.mp (r3 x z) with y | y
            · exact .inl (List.mem_cons_of_mem _ y)
            · exact .inr y
        refine ⟨o.xt, (a :: B') ++ B2, .cons (.is (.nd rfl trivial k2 k3 r1)) q2, List.nodup_append.mpr ⟨List.nodup_cons.mpr ⟨na, r2⟩, ndb.2.1, fun x hx y hy e => ?_⟩, fun b hb => ?_⟩
        · subst e
          rcases sub x hx with z | z
          · exact ndb.2.2 x z x hy rfl
          · exact nda.2.2 x z x (List.mem_append_right _ hy) rfl
        · rcases List.mem_append.mp hb with z | z
          · rcases sub b z with y | y
            · exact fr b (List.mem_append_right _ (List.mem_append_left _ y))
            · exact fr b (List.mem_append_left _ y)
          · exact fr b (List.mem_append_right _ (List.mem_append_right _ z))
end
end MR
/-! MR: an own list, looped over, its items changed, and still one's own afterwards -/
namespace MR
open PySem L2 PL
def putW (i x k : Nat) (ts : List OT) (ρ' : Env) : Option Env := match ρ'[x]? with
  | some t => some ((ρ'.set x .no).set i (.nd .lst (ts.set k t)))
  | _ => Option.none
def mForW (i x : Nat) (body : Sm) : Nat → Nat → Env → Option (Fl × Env)
  | _, 0, ρ => some (.nx, ρ)
  | k, m + 1, ρ => if ρ.length ≤ x then Option.none else match ρ[i]? with
    | some (.nd .lst ts) => match ts[k]? with
      | some t => match body ((ρ.set i .no).set x t) with
        | some (.nx, ρ') => (putW i x k (ts.set k .no) ρ').bind fun ρ2 => mForW i x body (k + 1) m ρ2
        | some (.ct, ρ') => (putW i x k (ts.set k .no) ρ').bind fun ρ2 => mForW i x body (k + 1) m ρ2
        | _ => Option.none
      | Option.none => Option.none
    | _ => Option.none
def sForW (i x : Nat) (b : Sm) : Sm := fun ρ => match ρ[i]? with
  | some (.nd .lst ts) => mForW i x b 0 ts.length ρ
  | _ => Option.none
variable [kf : KF] [wx : WXI]
theorem run_forW {js : List Nat} {t : TS} {i x : Nat} {body : Sm} {ρ ρ' : Env} {fl : Fl} (hix : i ≠ x) (hx : x ∉ js) (hb : CS (i :: x :: js) t body) (hf : sForW i x body ρ = some (fl, ρ')) : RunS js (tFor (iList kf.K (tVar i)) (gName x) t) ρ fl ρ' := fun S0 H0 A0 S H σ F E hF hxF o kk => by
  unfold sForW at hf
  split at hf
  · rename_i ts h0
    obtain ⟨a, vs, e1, ha, e3⟩ : ∃ a vs, σ[i]? = some (some (.ref a)) ∧ H a = some (.lst vs) ∧ vs.length = ts.length := by
      obtain ⟨v, a1, oo⟩ := o.lift h0
      obtain ⟨A, he, _, _⟩ := oo.env
      cases he with
      | cons p1 _ =>
        cases p1 with
        | is p1 =>
          obtain ⟨a, vs, B, rfl, _, _, _, k3, k4⟩ := p1.inv_nd rfl
          exact ⟨a, vs, a1, k3, k4.len⟩
    refine ⟨_, e1, a, rfl, ⟨vs, .of ha⟩, fun k m σ' H' => m = ts.length - k ∧ k ≤ ts.length ∧ ∃ S' ρk, Same S S' ∧ Fx F σ' ∧ σ'[i]? = some (some (.ref a)) ∧ H' a = some (.lst vs) ∧ Ok S0 H0 A0 S' H' σ' ρk ∧ mForW i x body k (ts.length - k) ρk = some (fl, ρ'), ⟨_, rfl, Nat.zero_le _, S, _, Same.refl _, hxF, e1, ha, o, hf⟩, ?_⟩
    rintro k m σ' H' ⟨rfl, hk, S', ρk, s1, hxF', ei, eh, o', hf'⟩
    by_cases hl : k < ts.length
    · obtain ⟨n, hn⟩ : ∃ n, ts.length - k = n + 1 := ⟨ts.length - k - 1, by omega⟩
      rw [hn] at hf'
      unfold mForW at hf'
      split at hf'
      · cases hf'
      · rename_i hlen
        split at hf'
        · rename_i tk hk1
          split at hf'
          · rename_i t0 ht0
            obtain ⟨v, f1, q3⟩ := o'.lift hk1
            rw [ei] at f1
            cases f1
            obtain ⟨a', vs', w, f5, f6, f7, f8, q4⟩ := q3.holeN ht0
            cases f5
            rw [eh] at f6
            cases f6
            have q5 := q4.store (x + 1)
            rw [List.set_cons_succ, List.set_cons_succ] at q5
            refine .inr ⟨⟨vs, w, .of eh, f7⟩, fun σ2 H2 => ∃ S2 ρ2, Same S S2 ∧ Fx F σ2 ∧ σ2[i]? = some (some (.ref a)) ∧ H2 a = some (.lst vs) ∧ Ok S0 H0 A0 S2 H2 σ2 ρ2 ∧ mForW i x body (k + 1) n ρ2 = some (fl, ρ'), fun σ2 H2 ⟨S2, ρ2, b1, b2, b3, bh, b4, b5⟩ => ⟨ts.length - (k + 1), by omega, rfl, by omega, S2, ρ2, b1, b2, b3, bh, b4, by rw [show ts.length - (k + 1) = n by omega]; exact b5⟩, ?_⟩
            rintro w' H2 ⟨rfl, hw⟩
            have := hw vs (.of eh)
            rw [f7] at this
            cases this
            have hF2 : ((i, V.ref a) :: (x, w) :: F).map (·.1) = i :: x :: js := by simp [hF]
            have lx : x < σ'.length := by rw [o'.len]; omega
            have hxF2 : Fx ((i, V.ref a) :: (x, w) :: F) (σ'.set x (some w)) := fun q hq => by
              rcases List.mem_cons.mp hq with rfl | hq
              · rw [List.getElem?_set_ne (fun z => hix z.symm)]; exact ei
              · rcases List.mem_cons.mp hq with rfl | hq
                · rw [List.getElem?_set_self lx]
                · exact hxF'.set (by rw [hF]; exact hx) q hq
            show t _ (σ'.set x (some w)) H2
            obtain ⟨A, he, nd, fr⟩ := q5.env
            cases he with
            | @cons _ _ A1 _ _ B1 p1 p2 =>
              have aA : a ∈ A1 := by
                cases p1 with
                | is p1 =>
                  obtain ⟨a', _, _, z1, z2, _⟩ := p1.inv_nd rfl
                  cases z1
                  rw [z2]
                  exact List.mem_cons_self
              have go : ∀ {ρb : Env} {S4 H4 : Hp} {σ4 : St}, Same S' S4 → (∀ b ∈ A1, H4 b = H2 b) → Fx ((i, V.ref a) :: (x, w) :: F) σ4 → Ok S0 H0 A0 S4 H4 (some (.ref a) :: σ4) (.nd .lst (tk.set k .no) :: ρb) → ((putW i x k (tk.set k .no) ρb).bind fun ρ2 => mForW i x body (k + 1) n ρ2) = some (fl, ρ') → ∃ S2 ρ2, Same S S2 ∧ Fx F σ4 ∧ σ4[i]? = some (some (.ref a)) ∧ H4 a = some (.lst vs) ∧ Ok S0 H0 A0 S2 H4 σ4 ρ2 ∧ mForW i x body (k + 1) n ρ2 = some (fl, ρ') := by
                intro ρb S4 H4 σ4 s4 hA fx4 o4 hm
                simp only [Option.bind_eq_some_iff] at hm
                obtain ⟨ρ2, hm1, hm⟩ := hm
                unfold putW at hm1
                split at hm1
                · rename_i t' g2
                  cases hm1
                  have a1 := fx4 _ List.mem_cons_self
                  have a2 := fx4 _ (List.mem_cons_of_mem _ List.mem_cons_self)
                  simp only at a1 a2
                  have h4 : H4 a = some (.lst vs) := (hA a aA).trans eh
                  obtain ⟨v, z1, r1⟩ := o4.lift (i := x + 1) (t := t') (by rw [List.getElem?_cons_succ]; exact g2)
                  rw [List.getElem?_cons_succ, a2] at z1
                  cases z1
                  rw [List.set_cons_succ] at r1
                  have r2 := r1.backN rfl h4 f7
                  have r4 := r2.store i
                  rw [set_same a1] at r4
                  exact ⟨S4, _, s1.trans s4, fun p hp => fx4 p (List.mem_cons_of_mem _ (List.mem_cons_of_mem _ hp)), a1, h4, r4, hm⟩
                · cases hm1
              split at hf'
              · rename_i ρb hbo
                exact run_beside (hb _ _ _ hbo) hF2 hxF2 q5.xt p1 p2 nd fr fun S4 H4 σ4 s4 hA fx4 o4 => go s4 hA fx4 o4 hf'
              · rename_i ρb hbo
                exact run_beside (hb _ _ _ hbo) hF2 hxF2 q5.xt p1 p2 nd fr fun S4 H4 σ4 s4 hA fx4 o4 => go s4 hA fx4 o4 hf'
              · cases hf'
          · cases hf'
        · cases hf'
    · have e : k = ts.length := by omega
      subst e
      rw [Nat.sub_self] at hf'
      simp only [mForW, Option.some.injEq, Prod.mk.injEq] at hf'
      obtain ⟨rfl, rfl⟩ := hf'
      exact .inl ⟨⟨vs, .of eh, by omega⟩, kk S' H' σ' s1 hxF' o'⟩
  · cases hf
theorem c_forW {js : List Nat} {t : TS} {i x : Nat} {body : Sm} (hb : CS (i :: x :: js) t body) (hix : i ≠ x := by decide) (hx : x ∉ js := by decide) : CS js (tFor (iList kf.K (tVar i)) (gName x) t) (sForW i x body) := fun ρ fl ρ' e => run_forW hix hx hb e
end MR
/-! MR: texts: one behind another, a sign of one, f'..', join -/
namespace MR
open PySem L2 PL PySem.Spec PyProof.Rows
variable [kf : KF]
def gAddS : D → D → Option D
  | .str x, .str y => if x.length + y.length ≤ 1000000 then some (.str (x ++ y)) else Option.none
  | _, _ => Option.none
theorem o_addS : OpM (fun x y H Q => ∃ i j, x = .str i ∧ y = .str j ∧ i.length + j.length ≤ sizeLine ∧ Q (.str (i ++ j)) H) gAddS := fun d e x h => by
  unfold gAddS at h
  split at h
  · split at h
    · rename_i hc
      cases h
      exact fun H v u Q h1 h2 q => by
        cases h1; cases h2
        exact ⟨_, _, rfl, rfl, sz_of hc, q _ rfl⟩
    · cases h
  · cases h
def gIxS : D → D → Option D
  | .str z, .int i => if z.length ≤ 1000000 then (atI z.cps.toList i).map fun c => .str ⟨#[c]⟩ else Option.none
  | _, _ => Option.none
theorem x_strS : IxM rIxS gIxS := fun d e x h => by
  unfold gIxS at h
  split at h
  · split at h
    · rename_i hc
      simp only [Option.map_eq_some_iff] at h
      obtain ⟨c, h1, rfl⟩ := h
      exact fun S H v u Q sh h2 h3 q => by
        cases h2; cases h3
        exact ⟨_, _, c, rfl, rfl, sz_of hc, h1, q _ (.str _)⟩
    · cases h
  · cases h
/-- what f'{..}' tells -/
def dTxt : D → Option Str
  | .str y => if y.length ≤ 1000000 then some y else Option.none
  | .int i => if i.natAbs < 2 ^ 64 then some (toString i) else Option.none
  | _ => Option.none
def rTxt (a : Rm) : Rm := fun ρ => (a ρ).bind fun d => (dTxt d).map .str
def catS : List D → Str → Option Str
  | [], acc => some acc
  | .str y :: ds, acc => if acc.length + y.length ≤ 1000000 then catS ds (acc ++ y) else Option.none
  | _, _ => Option.none
def rJs (q : Qm) : Rm := fun ρ => (q ρ).bind fun ds => (catS ds Str.empty).map .str
omit kf in
theorem log2_lt {n : Nat} (h : n < 2 ^ 64) : n.log2 < 1920 := by
  by_cases z : n = 0
  · subst z; decide
  · have := (Nat.log2_lt z).mpr h
    omega
theorem c_txt {te : TE} {a : Rm} (ha : CR te a) : CR (tFmt te) (rTxt a) := fun ρ x h => by
  simp only [rTxt, Option.bind_eq_some_iff, Option.map_eq_some_iff] at h
  obtain ⟨d, h1, y, h2, rfl⟩ := h
  refine fun S0 H0 A0 S H τσ τρ σ Q l o q => ha _ _ h1 S0 H0 A0 S H τσ τρ σ _ l o fun v S1 H1 x1 r1 => ?_
  unfold dTxt at h2
  split at h2
  · split at h2
    · rename_i hc
      cases h2
      cases r1
      exact .inl ⟨_, rfl, sz_of hc, q _ S1 H1 x1 (.str _)⟩
    · cases h2
  · split at h2
    · rename_i hc
      cases h2
      cases r1
      exact .inr ⟨_, rfl, log2_lt hc, q _ S1 H1 x1 (.str _)⟩
    · cases h2
  · cases h2
omit kf in
theorem str_app_len (a b : Str) : (a ++ b).length = a.length + b.length := by
  show (a.cps ++ b.cps).size = _
  rw [Array.size_append]
  rfl
inductive CJ : List TE → Qm → Prop where
  | nil : CJ [] qNil
  | cons {te : TE} {ts : List TE} {a : Rm} {q : Qm} : CR te a → CJ ts q → CJ (te :: ts) (qCons a q)
theorem js_run {ts : List TE} {q : Qm} (h : CJ ts q) : ∀ {ρ : Env} {ds : List D} {acc out : Str}, q ρ = some ds → catS ds acc = some out → ∀ (S0 H0 : Hp) (A0 : List Addr) (S H : Hp) (τσ : List (Option V)) (τρ : List OT) (σ : L2.St) (Q : Str → Hp → Prop), τσ.length = τρ.length → Ok S0 H0 A0 S H (τσ ++ σ) (τρ ++ ρ) →
    (∀ S' H', Xt S H S' H' → Q out H') → tJs ts acc σ H Q := by
  induction h with
  | nil =>
    intro ρ ds acc out e1 e2 S0 H0 A0 S H τσ τρ σ Q l o k
    have : ds = [] := by simpa [qNil] using e1.symm
    subst this
    cases e2
    exact k S H (.refl o.sh)
  | @cons te ts a q ha h ih =>
    intro ρ ds acc out e1 e2 S0 H0 A0 S H τσ τρ σ Q l o k
    simp only [qCons, Option.bind_eq_some_iff, Option.map_eq_some_iff] at e1
    obtain ⟨d, h1, ds', h2, rfl⟩ := e1
    unfold catS at e2
    split at e2
    · rename_i z; cases z
    · rename_i y ds2 acc2 z
      cases z
      split at e2
      · rename_i hc
        rename_i acc0 _
        refine ha _ _ h1 S0 H0 A0 S H τσ τρ σ _ l o fun v S1 H1 x1 r1 => ?_
        cases r1
        refine ⟨_, rfl, ?_, ih h2 e2 S0 H0 A0 S1 H1 τσ τρ σ Q l (o.ext x1) fun S' H' x2 => k S' H' (x1.trans x2)⟩
        rw [str_app_len]
        exact sz_of hc
      · cases e2
    · cases e2
theorem c_js {ts : List TE} {q : Qm} (h : CJ ts q) : CR (fun σ H Q => tJs ts Str.empty σ H fun out H1 => Q (.str out) H1) (rJs q) := fun ρ x e => by
  simp only [rJs, Option.bind_eq_some_iff, Option.map_eq_some_iff] at e
  obtain ⟨ds, h1, out, h2, rfl⟩ := e
  exact fun S0 H0 A0 S H τσ τρ σ Q l o q => js_run h h1 h2 S0 H0 A0 S H τσ τρ σ (fun out H1 => Q (.str out) H1) l o fun S' H' x => q _ S' H' x (.str _)
/-- sep.join(texts) -/
def asStrs : List D → Option (List Str)
  | [] => some []
  | .str y :: ds => (asStrs ds).map fun ys => y :: ys
  | _ => Option.none
def gJoin (a : Str) (ds : List D) : Option D := (asStrs ds).bind fun ys => if (ys.map (·.length)).sum + ys.length * a.length ≤ 1000000 then some (.str (Txt.join a ys)) else Option.none
def dJoin (a : Rm) (d : Dm) : Dm := fun ρ => match a ρ with
  | some (.str s) => (d ρ).bind fun p => (asL p.1).bind fun ds => (gJoin s ds).map fun x => (x, p.2)
  | _ => Option.none
theorem strs_V {S : Hp} : ∀ {ds : List D} {ys : List Str} {vs : List V}, asStrs ds = some ys → RpAll S vs ds → vs = ys.map V.str
  | [], ys, vs, h, r => by cases h; cases r; rfl
  | d :: ds, ys, _, h, .cons a b => by
    unfold asStrs at h
    split at h
    · rename_i z; cases z
    · rename_i y ds' z
      cases z
      simp only [Option.map_eq_some_iff] at h
      obtain ⟨zs, h1, rfl⟩ := h
      cases a
      rw [strs_V h1 b]
      rfl
    · cases h
theorem c_join {to te : TE} {a : Rm} {d : Dm} (ha : CR to a) (hd : CD te d) : CD (tM1 (fun x xs H Q => ∃ a p, ∃ ys : List Str, x = .str a ∧ xs = [.ref p] ∧ (SqL kf.K H p (ys.map V.str) ∨ SqT kf.K H p (ys.map V.str)) ∧
      (ys.map (·.length)).sum + ys.length * a.length ≤ 16777216 ∧ Q (.str (Txt.join a ys)) H) to te) (dJoin a d) := fun ρ x ρ' h => by
  unfold dJoin at h
  split at h
  · rename_i s hs
    simp only [Option.bind_eq_some_iff, Option.map_eq_some_iff] at h
    obtain ⟨⟨x1, ρ1⟩, h1, ds, h2, y, h3, h4⟩ := h
    cases h4
    unfold gJoin at h3
    simp only [Option.bind_eq_some_iff] at h3
    obtain ⟨ys, h5, h6⟩ := h3
    split at h6
    · rename_i hc
      cases h6
      have e2 : x1 = .list ds := by
        unfold asL at h2
        split at h2
        · cases h2; assumption
        · cases h2
      subst e2
      refine fun S0 H0 A0 S H τσ τρ σ Q l o q => ha _ _ hs S0 H0 A0 S H τσ τρ σ _ l o fun v S1 H1 x1 r1 => ?_
      cases r1
      refine ⟨⟨_, rfl⟩, hd _ _ _ h1 S0 H0 A0 S1 H1 τσ τρ σ _ l (o.ext x1) fun u S2 H2 s2 o2 r2 => ?_⟩
      cases r2 with
      | @lst b vs _ g1 g2 =>
        have := strs_V h5 g2
        subst this
        exact ⟨_, _, _, rfl, rfl, .inl (o2.sh.seq g1), by omega, q _ S2 H2 (x1.ss.trans s2) o2 (.str _)⟩
    · cases h6
  · cases h
end MR
/-! MR: a part of a slot's tuple is laid aside while a statement runs -/
namespace MR
open PySem L2 PL
end MR
/-! MR: texts: split, partition, len, int, each sign, a sign in a text; xs.append(xs[0]) -/
namespace MR
open PySem L2 PL PySem.Spec PyProof.Rows
def ySplit (a b : Rm) : Ym := fun ρ => match a ρ, b ρ with
  | some (.str s), some (.str t) => if (t.length == 0) = false ∧ s.length ≤ 1000000 then some (lstO ((Txt.split s t).map .str), ρ) else Option.none
  | _, _ => Option.none
def yPart (a b : Rm) : Ym := fun ρ => match a ρ, b ρ with
  | some (.str s), some (.str t) => if (t.length == 0) = false ∧ s.length ≤ 1000000 then some (.nd .tup [.d (.str (Txt.partition s t).1), .d (.str (Txt.partition s t).2.1), .d (.str (Txt.partition s t).2.2)], ρ) else Option.none
  | _, _ => Option.none
def gLenS : List D → Option D
  | [.str z] => if z.length ≤ 1000000 then some (.int (z.length : Nat)) else Option.none
  | _ => Option.none
def gIntS : List D → Option D
  | [.str z] => if z.length ≤ 600 then (PySem.intText? z).map .int else Option.none
  | _ => Option.none
def gInSg : D → D → Option D
  | .str s, .str z => match s.cps.toList with
    | [c] => some (.bool (decide (c ∈ z.cps.toList)))
    | _ => Option.none
  | _, _ => Option.none
def sgnD (z : Str) : List D := z.cps.toList.map fun c => .str ⟨#[c]⟩
def iS (d : Dm) : Lm := fun ρ => (d ρ).bind fun p => match p.1 with
  | .str z => some (sgnD z, p.2)
  | _ => Option.none
def sAppW (i : Nat) (pm pe : Pm) : Sm := fun ρ => (pm ρ).bind fun q => match q.2 with
  | .nd .lst ts => if ts.length ≤ 1000000 then (pe ρ).bind fun _ => (ρ[i]?).map fun t => (.nx, ρ.set i (t.put q.1 (.nd .lst (ts ++ [.no])))) else Option.none
  | _ => Option.none
variable [kf : KF]
theorem rp_strs {S : Hp} : ∀ ys : List Str, RpAll S (ys.map V.str) (ys.map PyData.str)
  | [] => .nil
  | y :: ys => .cons (.str y) (rp_strs ys)
theorem c_split {to te : TE} {a b : Rm} (ha : CR to a) (hb : CR te b) : CY (tM1 (fun x xs H Q => ∃ a b, x = .str a ∧ xs = [.str b] ∧ (b.length == 0) = false ∧ a.length + 2 ≤ sizeLine ∧ rNewStrs (Txt.split a b) H Q) to te) (ySplit a b) := fun ρ r ρ' h => by
  unfold ySplit at h
  split at h
  · rename_i s t e1 e2
    split at h
    · rename_i hc
      cases h
      refine fun S0 H0 A0 S H τσ τρ σ Q l o q => ha _ _ e1 S0 H0 A0 S H τσ τρ σ _ l o fun v S1 H1 x1 r1 => ?_
      cases r1
      refine ⟨⟨_, rfl⟩, hb _ _ e2 S0 H0 A0 S1 H1 τσ τρ σ _ l (o.ext x1) fun u S2 H2 x2 r2 => ?_⟩
      cases r2
      refine ⟨_, _, rfl, rfl, hc.1, by have := sz_of hc.2; unfold sizeLine at *; omega, fun p hp => ?_⟩
      have o2 := (o.ext x1).ext x2
      exact own_lst o2.sh hp (rp_strs _) fun v' S' H' A xt h2 nd fr => q v' S' H' ((x1.trans x2).ss.trans xt.ss) (o2.push xt h2 nd fr)
    · cases h
  · cases h
theorem c_part {to te : TE} {a b : Rm} (ha : CR to a) (hb : CR te b) : CY (tM1 (fun x xs H Q => ∃ a b, x = .str a ∧ xs = [.str b] ∧ (b.length == 0) = false ∧ a.length ≤ sizeLine ∧
    ∀ p, H p = none → Q (.ref p) (upd H p (.tup [.str (Txt.partition a b).1, .str (Txt.partition a b).2.1, .str (Txt.partition a b).2.2]))) to te) (yPart a b) := fun ρ r ρ' h => by
  unfold yPart at h
  split at h
  · rename_i s t e1 e2
    split at h
    · rename_i hc
      cases h
      refine fun S0 H0 A0 S H τσ τρ σ Q l o q => ha _ _ e1 S0 H0 A0 S H τσ τρ σ _ l o fun v S1 H1 x1 r1 => ?_
      cases r1
      refine ⟨⟨_, rfl⟩, hb _ _ e2 S0 H0 A0 S1 H1 τσ τρ σ _ l (o.ext x1) fun u S2 H2 x2 r2 => ?_⟩
      cases r2
      refine ⟨_, _, rfl, rfl, hc.1, sz_of hc.2, fun p hp => ?_⟩
      have o2 := (o.ext x1).ext x2
      exact q _ S2 _ (x1.trans x2).ss (o2.push (.new o2.sh hp) (.tup upd_same (oall_of_rp (ds := [.str (Txt.partition s t).1, .str (Txt.partition s t).2.1, .str (Txt.partition s t).2.2]) (.cons (.str _) (.cons (.str _) (.cons (.str _) .nil))))) List.nodup_nil fun a ha => by cases ha)
    · cases h
  · cases h
theorem b_lenS : CbM (fun xs H Q => ∃ z, xs = [.str z] ∧ z.length ≤ sizeLine ∧ Q (.int z.length) H) gLenS := fun ds x h => by
  unfold gLenS at h
  split at h
  · split at h
    · rename_i hc
      cases h
      intro H vs Q hr q
      cases hr with | cons a b => cases a; cases b; exact ⟨_, rfl, sz_of hc, q _ rfl⟩
    · cases h
  · cases h
theorem b_intS : CbM (fun xs H Q => ∃ a n, xs = [.str a] ∧ PySem.intText? a = some n ∧ a.length ≤ 640 ∧ Q (.int n) H) gIntS := fun ds x h => by
  unfold gIntS at h
  split at h
  · split at h
    · rename_i hc
      simp only [Option.map_eq_some_iff] at h
      obtain ⟨n, h1, rfl⟩ := h
      intro H vs Q hr q
      cases hr with | cons a b => cases a; cases b; exact ⟨_, n, rfl, h1, by omega, q _ rfl⟩
    · cases h
  · cases h
theorem o_inSg : OpM (fun x y H Q => ∃ (c : Nat) (z : Str), x = .str ⟨#[c]⟩ ∧ y = .str z ∧ Q (.bl (decide (c ∈ z.cps.toList))) H) gInSg := fun d e x h => by
  unfold gInSg at h
  split at h
  · rename_i s z
    split at h
    · rename_i c hc
      cases h
      have es : s = ⟨#[c]⟩ := by
        cases s with
        | mk cps =>
          have : cps = #[c] := Array.toList_inj.mp hc
          rw [this]
      subst es
      exact fun H v u Q h1 h2 q => by
        cases h1; cases h2
        exact ⟨_, _, rfl, rfl, q _ rfl⟩
    · cases h
  · cases h
theorem jd_str {S : Hp} (x : Str) : JD S (Its x) (sgnD x) := fun S3 H3 s3 sh => by
  refine ⟨by simp [sgnD, Its], fun i d e => ?_⟩
  unfold sgnD at e
  rw [List.getElem?_map] at e
  obtain ⟨c, hc, rfl⟩ := Option.map_eq_some_iff.mp e
  have hc2 : x.cps[i]? = some c := by rw [← Array.getElem?_toList]; exact hc
  refine ⟨(Array.getElem?_eq_some_iff.mp hc2).1, fun v H2 y => ?_⟩
  obtain ⟨rfl, c', h1, rfl⟩ := y
  rw [hc2] at h1
  cases h1
  exact ⟨S3, .refl sh, .str _⟩
theorem c_iS {te : TE} {dm : Dm} (h : CD te dm) : CI (iStr te) (iS dm) := fun ρ xs ρ' e => by
  simp only [iS, Option.bind_eq_some_iff] at e
  obtain ⟨⟨d, ρ1⟩, e1, e2⟩ := e
  simp only at e2
  split at e2
  · cases e2
    exact fun S0 H0 A0 S H τσ τρ σ R l o q => h _ _ _ e1 S0 H0 A0 S H τσ τρ σ _ l o fun v S' H' ss o' hs => by
      cases hs
      exact ⟨_, rfl, q _ S' H' ss o' (jd_str _)⟩
  · cases e2
theorem c_appW {js : List Nat} {tp te : TE} {pm pe : Pm} {i : Nat} (hp : CP tp i pm) (he : CP te i pe) : CS js (tDrop (tBM kf.K "list" rAppend tp (tCons te tNil))) (sAppW i pm pe) := fun ρ fl ρ' h => by
  simp only [sAppW, Option.bind_eq_some_iff] at h
  obtain ⟨⟨y, s⟩, h1, h2⟩ := h
  simp only at h2
  split at h2
  · rename_i ts
    split at h2
    · rename_i hz
      simp only [Option.bind_eq_some_iff, Option.map_eq_some_iff] at h2
      obtain ⟨⟨y2, s2⟩, h3, t, h4, h5⟩ := h2
      cases h5
      obtain ⟨g1, t', g2, g3⟩ := hp _ _ _ h1
      rw [h4] at g2
      cases g2
      exact run_appN g1 h4 g3 (he _ _ _ h3).1 hz
    · cases h2
  · cases h2
end MR
namespace z83
open PySem L2 PL MR SH SQ
/-- _law_shown: 0 _law_web_here 1 _law_one 2 _law_other -/
noncomputable def B__law_shown : Sm :=
 (sRet (yD (dJoin (rC (.str " ")) (dY (yOp GCat (dY (yLst (oCons (yR (rCb gStrI (qCons (rOp gIxT (rVar 0) (rC (.int 0))) qNil))) oNil))) (dY (yLc [1, 2] (iL (dY (yAuto (rOp gIxT (rVar 0) (rC (.int 1))) (yD (dOpR gIxT (dY (yVar 0)) (rC (.int 1))))))) (gmTup (gsCons (gmName 1) (gsCons (gmName 2) gsNil))) (fun ρ => some (true, ρ)) (yR (rOp gAddS (rOp gAddS (rCb gStrI (qCons (rVar 1) qNil)) (rC (.str "-"))) (rCb gStrI (qCons (rVar 2) qNil)))))))))))
noncomputable def m__law_shown : List D → Option OT := fun ds => fin (B__law_shown (ini ds 2))
/-- written_web: 0 web 1 many 2 ties 3 one 4 other -/
noncomputable def B_written_web : Sm :=
 (sSeq (sAsgG (gmTup (gsCons (gmName 1) (gsCons (gmName 2) gsNil))) (dY (yVar 0)))
 (sRet (yD (dJoin (rC (.str " ")) (dY (yOp GCat (dY (yLst (oCons (yR (rCb gStrI (qCons (rVar 1) qNil))) oNil))) (dY (yLc [3, 4] (iL (dY (yVar 2))) (gmTup (gsCons (gmName 3) (gsCons (gmName 4) gsNil))) (fun ρ => some (true, ρ)) (yR (rJs (qCons (rTxt (rVar 3)) (qCons (rC (.str "-")) (qCons (rTxt (rVar 4)) qNil)))))))))))))
noncomputable def m_written_web : List D → Option OT := fun ds => fin (B_written_web (ini ds 4))
/-- written_webs: 0 webs 1 web -/
noncomputable def B_written_webs : Sm :=
 (sSeq (sIf (tR (bNot (bList (rVar 0))))
 (sRet (yR (rC (.str "none"))))
 sNext)
 (sRet (yD (dJoin (rC (.str " * ")) (dY (yLc [1] (iL (dY (yVar 0))) (gmName 1) (fun ρ => some (true, ρ)) (yCallA m_written_web 1 (qCons (rVar 1) qNil) (lCons (dY (yVar 1)) lNil))))))))
noncomputable def m_written_webs : List D → Option OT := fun ds => fin (B_written_webs (ini ds 1))
/-- show_webs: 0 webs -/
noncomputable def B_show_webs : Sm :=
 (sSeq (sDrop (yCallA SH.m_look_at_webs 1 (qCons (rVar 0) qNil) (lCons (dY (yVar 0)) lNil)))
 (sRet (yCallA m_written_webs 1 (qCons (rVar 0) qNil) (lCons (dY (yVar 0)) lNil))))
noncomputable def m_show_webs : List D → Option OT := fun ds => fin (B_show_webs (ini ds 0))
/-- number_in: 0 text 1 most 2 sign -/
noncomputable def B_number_in : Sm :=
 (sSeq (sIf (tmOr (tR (bNot (bR (rCh (fun i j => decide (i ≤ j)) (fun i j => decide (i ≤ j)) (rC (.int 1)) (rCb gLenS (qCons (rVar 0) qNil)) (rVar 1))))) (tmNot (tD (dCb gAll (lCons (dY (yLc [2] (iS (dY (yVar 0))) (gmName 2) (fun ρ => some (true, ρ)) (yR (rOp gInSg (rVar 2) (rC (.str "0123456789")))))) lNil)))))
 (sRet (yR (rC .none)))
 sNext)
 (sSeq (sIf (tR (bAnd (bR (rOp gGt (rCb gLenS (qCons (rVar 0) qNil)) (rC (.int 1)))) (bR (rOp gEqS (rOp gIxS (rVar 0) (rC (.int 0))) (rC (.str "0"))))))
 (sRet (yR (rC .none)))
 sNext)
 (sRet (yR (rCb gIntS (qCons (rVar 0) qNil))))))
noncomputable def m_number_in : List D → Option OT := fun ds => fin (B_number_in (ini ds 1))
/-- tie_in: 0 text 1 one 2 _ 3 other -/
noncomputable def B_tie_in : Sm :=
 (sSeq (sAsgG (gmTup (gsCons (gmName 1) (gsCons (gmName 2) (gsCons (gmName 3) gsNil)))) (dY (yPart (rVar 0) (rC (.str "-")))))
 (sRet (yTup (oCons (yCallA m_number_in 2 (qCons (rVar 1) (qCons (rC (.int 2)) qNil)) (lCons (dY (yVar 1)) (lCons (dR (rC (.int 2))) lNil))) (oCons (yCallA m_number_in 2 (qCons (rVar 3) (qCons (rC (.int 2)) qNil)) (lCons (dY (yVar 3)) (lCons (dR (rC (.int 2))) lNil))) oNil)))))
noncomputable def m_tie_in : List D → Option OT := fun ds => fin (B_tie_in (ini ds 3))
/-- web_in: 0 text 1 words 2 web 3 word -/
noncomputable def B_web_in : Sm :=
 (sSeq (sAsg 1 (ySplit (rVar 0) (rC (.str " "))))
 (sSeq (sAsg 2 (yTup (oCons (yCallA m_number_in 2 (qCons (rOp gIxL (rVar 1) (rC (.int 0))) (qCons (rC (.int 2)) qNil)) (lCons (dY (yAuto (rOp gIxL (rVar 1) (rC (.int 0))) (yD (dOpR gIxL (dY (yVar 1)) (rC (.int 0)))))) (lCons (dR (rC (.int 2))) lNil))) (oCons (yLc [3] (iL (dY (ySlA (rVar 1) (dY (yVar 1)) (cSome (rC (.int 1))) cNone))) (gmName 3) (fun ρ => some (true, ρ)) (yCallA m_tie_in 1 (qCons (rVar 3) qNil) (lCons (dY (yVar 3)) lNil))) oNil))))
 (sRet (yIf (tR (bR (rOp gIsN (rCall SH.m_web_fault 1 (qCons (rVar 2) qNil)) (rC .none)))) (yMov 2) (yR (rC .none))))))
noncomputable def m_web_in : List D → Option OT := fun ds => fin (B_web_in (ini ds 3))
/-- read_webs: 0 text 1 webs 2 part 3 own_text 4 web -/
noncomputable def B_read_webs : Sm :=
 (sSeq (sIf (tR (bNot (bR (rIs "str" (rVar 0)))))
 sNever
 sNext)
 (sSeq (sAsg 1 (yLst oNil))
 (sSeq (sIf (tR (bR (rOp gNeS (rVar 0) (rC (.str "none")))))
 (sFor (iE (lCons (dY (ySplit (rVar 0) (rC (.str " * ")))) lNil)) (gmTup (gsCons (gmName 2) (gsCons (gmName 3) gsNil)))
 (sSeq (sAsg 4 (yCallA m_web_in 1 (qCons (rVar 3) qNil) (lCons (dY (yVar 3)) lNil)))
 (sSeq (sIf (tR (bOr (bR (rOp gEqI (rVar 2) (rC (.int 12)))) (bR (rOp gIsN (rVar 4) (rC .none)))))
 sNever
 sNext)
 (sApp 1 (yMov 4)))))
 sNext)
 (sRet (yMov 1)))))
noncomputable def m_read_webs : List D → Option OT := fun ds => fin (B_read_webs (ini ds 4))
/-- _law_all_read: 0 _law_webs 1 _law_text 2 _law_web_here 3 _law_turn 4 _law_found 5 _law_one -/
noncomputable def B__law_all_read : Sm :=
 (sSeq (sAsg 1 (yD (dJoin (rC (.str " * ")) (dY (yLc [2] (iL (dY (yVar 0))) (gmName 2) (fun ρ => some (true, ρ)) (yCallA m__law_shown 1 (qCons (rVar 2) qNil) (lCons (dY (yVar 2)) lNil)))))))
 (sSeq (sIf (tR (bR (rOp gNeS (rCall m_show_webs 1 (qCons (rVar 0) qNil)) (rVar 1))))
 (sRet (yR (rC (.bool false))))
 sNext)
 (sSeq (sFor (iR1 (lCons (dR (rC (.int 2))) lNil)) (gmName 3)
 (sSeq (sAsg 4 (yCallA m_read_webs 1 (qCons (rVar 1) qNil) (lCons (dY (yVar 1)) lNil)))
 (sSeq (sIf (tR (bOr (bNot (bR (rIs "list" (rVar 4)))) (bR (rOp gNeS (rRepr (rVar 4)) (rRepr (rVar 0))))))
 (sRet (yR (rC (.bool false))))
 sNext)
 (sSeq (sForW 4 5
 (sAppP 5 (pmIxT (pmVar 5) (rC (.int 1))) (fR (rTup (qCons (rC (.int 0)) (qCons (rC (.int 0)) qNil))))))
 (sSeq (sBorrow [4] [0]
 (sIf (tD (dOp gNeD (dY (yLc [5] (iL (dY (yVar 4))) (gmName 5) (fun ρ => some (true, ρ)) (yR (rCb gLen (qCons (rOp gIxT (rVar 5) (rC (.int 1))) qNil))))) (dY (yLc [2] (iL (dY (yVar 0))) (gmName 2) (fun ρ => some (true, ρ)) (yR (rOp gAdd (rCb gLen (qCons (rOp gIxT (rVar 2) (rC (.int 1))) qNil)) (rC (.int 1))))))))
 (sRet (yR (rC (.bool false))))
 sNext))
 (sAppW 4 (pmVar 4) (pmIx (pmVar 4) (rC (.int 0)))))))))
 (sRet (yR (rC (.bool true)))))))
noncomputable def m__law_all_read : List D → Option OT := fun ds => fin (B__law_all_read (ini ds 5))
/-- show_web: 0 web -/
noncomputable def B_show_web : Sm :=
 (sSeq (sDrop (yCallA SH.m_look_at_web 1 (qCons (rVar 0) qNil) (lCons (dY (yVar 0)) lNil)))
 (sRet (yCallA m_written_web 1 (qCons (rVar 0) qNil) (lCons (dY (yVar 0)) lNil))))
noncomputable def m_show_web : List D → Option OT := fun ds => fin (B_show_web (ini ds 0))
/-- read_web: 0 text 1 web -/
noncomputable def B_read_web : Sm :=
 (sSeq (sAsg 1 (yIf (tR (bR (rIs "str" (rVar 0)))) (yCallA m_web_in 1 (qCons (rVar 0) qNil) (lCons (dY (yVar 0)) lNil)) (yR (rC .none))))
 (sSeq (sIf (tR (bR (rOp gIsN (rVar 1) (rC .none))))
 sNever
 sNext)
 (sRet (yMov 1))))
noncomputable def m_read_web : List D → Option OT := fun ds => fin (B_read_web (ini ds 1))
/-- _law_read: 0 _law_web_here 1 _law_text 2 _law_turn 3 _law_found -/
noncomputable def B__law_read : Sm :=
 (sSeq (sAsg 1 (yCallA m__law_shown 1 (qCons (rVar 0) qNil) (lCons (dY (yVar 0)) lNil)))
 (sSeq (sIf (tR (bR (rOp gNeS (rCall m_show_web 1 (qCons (rVar 0) qNil)) (rVar 1))))
 (sRet (yR (rC (.bool false))))
 sNext)
 (sSeq (sFor (iR1 (lCons (dR (rC (.int 2))) lNil)) (gmName 2)
 (sSeq (sAsg 3 (yCallA m_read_web 1 (qCons (rVar 1) qNil) (lCons (dY (yVar 1)) lNil)))
 (sSeq (sIf (tR (bR (rOp gNeS (rRepr (rVar 3)) (rRepr (rVar 0)))))
 (sRet (yR (rC (.bool false))))
 sNext)
 (sAppP 3 (pmIxT (pmVar 3) (rC (.int 1))) (fR (rTup (qCons (rC (.int 0)) (qCons (rC (.int 0)) qNil))))))))
 (sRet (yR (rC (.bool true)))))))
noncomputable def m__law_read : List D → Option OT := fun ds => fin (B__law_read (ini ds 3))
/-- law: 0 _law_script 1 _law_ties 2 _law_one 3 _law_other 4 _law_webs 5 _law_at 6 _law_cell 7 _law_size -/
noncomputable def B_law : Sm :=
 (sSeq (sIf (tmOr (tR (bR (rOp gNeS (rRepr (rCall m_read_webs 1 (qCons (rCall m_show_webs 1 (qCons (rLst qNil) qNil)) qNil))) (rC (.str "[]"))))) (tmNot (tD (dY (yCall m__law_all_read 1 (lCons (dY (yRep (yLst (oCons (yD (dY (yTup (oCons (yR (rC (.int 2))) (oCons (yLst (oCons (yTup (oCons (yR (rC (.int 0))) (oCons (yR (rC (.int 1))) oNil))) oNil)) oNil))))) oNil)) (rC (.int 3)))) lNil))))))
 (sRet (yR (rC (.bool false))))
 sNext)
 (sSeq (sAsg 1 (yLst oNil))
 (sSeq (sFor (iR1 (lCons (dR (rC (.int 16))) lNil)) (gmName 2)
 (sExt 1 (yLc [3] (iR2 (lCons (dR (rOp gAdd (rVar 2) (rC (.int 1)))) (lCons (dR (rC (.int 16))) lNil))) (gmName 3) (fun ρ => some (true, ρ)) (yTup (oCons (yVar 2) (oCons (yVar 3) oNil))))))
 (sSeq (sIf (tmOr (tR (bNot (bR (rCall m__law_read 1 (qCons (rTup (qCons (rC (.int 17)) (qCons (rVar 1) qNil))) qNil))))) (tmNot (tD (dY (yCall m__law_all_read 1 (lCons (dY (yOp GCat (dY (yLst (oCons (yTup (oCons (yR (rC (.int 17))) (oCons (yVar 1) oNil))) (oCons (yTup (oCons (yR (rC (.int 40))) (oCons (yLst oNil) oNil))) oNil)))) (dY (yRep (yLst (oCons (yD (dY (yTup (oCons (yR (rC (.int 17))) (oCons (yVar 1) oNil))))) oNil)) (rC (.int 10)))))) lNil))))))
 (sRet (yR (rC (.bool false))))
 sNext)
 (sSeq (sAsg 4 (yLst oNil))
 (sSeq (sFor (iE (lCons (dY (yOp GCat (dY (ySlA (rVar 0) (dY (yVar 0)) cNone (cSome (rC (.int 60))))) (dY (yRep (yLst (oCons (yR (rC (.int 8))) oNil)) (rCb gInt (qCons (rOp gEqD (rVar 0) (rLst qNil)) qNil)))))) lNil)) (gmTup (gsCons (gmName 5) (gsCons (gmName 6) gsNil)))
 (sSeq (sAsg 7 (yAuto (rOp gIxL (rCall SQ.m__law_numbers 3 (qCons (rVar 6) (qCons (rOp gAdd (rC (.int 500)) (rVar 5)) (qCons (rLst (qCons (rC (.int 4)) qNil)) qNil)))) (rC (.int 0))) (yD (dOpR gIxL (dY (yCallA SQ.m__law_numbers 3 (qCons (rVar 6) (qCons (rOp gAdd (rC (.int 500)) (rVar 5)) (qCons (rLst (qCons (rC (.int 4)) qNil)) qNil))) (lCons (dY (yVar 6)) (lCons (dR (rOp gAdd (rC (.int 500)) (rVar 5))) (lCons (dY (yLst (oCons (yR (rC (.int 4))) oNil))) lNil))))) (rC (.int 0))))))
 (sSeq (sAsg 4 (yOpA GCat (rSl (rVar 4) (cSome (rOp gSub (rC (.int 1)) (rC (.int 12)))) cNone) (rLst (qCons (rCall SQ.m__law_web 5 (qCons (rOp gDiv (rVar 6) (rC (.int 4))) (qCons (rVar 5) (qCons (rOp gIxL (rLst (qCons (rC (.int 3)) (qCons (rC (.int 8)) (qCons (rC (.int 11)) (qCons (rC (.int 40)) qNil))))) (rVar 7)) (qCons (rOp gIxL (rLst (qCons (rC (.int 3)) (qCons (rC (.int 9)) (qCons (rC (.int 30)) (qCons (rC (.int 60)) qNil))))) (rVar 7)) (qCons (rC (.bool true)) qNil)))))) qNil)) (dY (ySlA (rVar 4) (dY (yVar 4)) (cSome (rOp gSub (rC (.int 1)) (rC (.int 12)))) cNone)) (dY (yLst (oCons (yCallA SQ.m__law_web 5 (qCons (rOp gDiv (rVar 6) (rC (.int 4))) (qCons (rVar 5) (qCons (rOp gIxL (rLst (qCons (rC (.int 3)) (qCons (rC (.int 8)) (qCons (rC (.int 11)) (qCons (rC (.int 40)) qNil))))) (rVar 7)) (qCons (rOp gIxL (rLst (qCons (rC (.int 3)) (qCons (rC (.int 9)) (qCons (rC (.int 30)) (qCons (rC (.int 60)) qNil))))) (rVar 7)) (qCons (rC (.bool true)) qNil))))) (lCons (dR (rOp gDiv (rVar 6) (rC (.int 4)))) (lCons (dY (yVar 5)) (lCons (dY (yAuto (rOp gIxL (rLst (qCons (rC (.int 3)) (qCons (rC (.int 8)) (qCons (rC (.int 11)) (qCons (rC (.int 40)) qNil))))) (rVar 7)) (yD (dOpR gIxL (dY (yLst (oCons (yR (rC (.int 3))) (oCons (yR (rC (.int 8))) (oCons (yR (rC (.int 11))) (oCons (yR (rC (.int 40))) oNil)))))) (rVar 7))))) (lCons (dY (yAuto (rOp gIxL (rLst (qCons (rC (.int 3)) (qCons (rC (.int 9)) (qCons (rC (.int 30)) (qCons (rC (.int 60)) qNil))))) (rVar 7)) (yD (dOpR gIxL (dY (yLst (oCons (yR (rC (.int 3))) (oCons (yR (rC (.int 9))) (oCons (yR (rC (.int 30))) (oCons (yR (rC (.int 60))) oNil)))))) (rVar 7))))) (lCons (dR (rC (.bool true))) lNil)))))) oNil)))))
 (sSeq (sIf (tR (bNot (bR (rCall m__law_read 1 (qCons (rOp gIxL (rVar 4) (rUn gNeg (rC (.int 1)))) qNil)))))
 (sRet (yR (rC (.bool false))))
 sNext)
 (sIf (tR (bAnd (bR (rOp gEqI (rOp gMod (rVar 5) (rC (.int 5))) (rC (.int 0)))) (bNot (bR (rCall m__law_all_read 1 (qCons (rSl (rVar 4) (cSome (rOp gSub (rUn gNeg (rC (.int 1))) (rOp gMod (rVar 5) (rC (.int 12))))) cNone) qNil))))))
 (sRet (yR (rC (.bool false))))
 sNext)))))
 (sRet (yR (rC (.bool true))))))))))
noncomputable def m_law : List D → Option OT := fun ds => fin (B_law (ini ds 7))
end z83
namespace z83
open PySem L2 PL
local macro_rules | `(tactic| walk_at "sd") => `(tactic| first | rfl | assumption | omega | decide)
open PySem L2 PL MR SH SQ
def topS (i : Nat) : Stmt := PySem.Challenge.pw_webtimes_k83_webs_read_back.main.body.getD i (.Pass ⟨0, 0, 0, 0⟩)
abbrev s__law_shown : Stmt := topS 34
theorem sc__law_shown : FnScope ["_law_web_here", "_law_one", "_law_other"] ["_law_web_here"] (defScope s__law_shown) := ⟨rfl, rfl, rfl, by decide +kernel, rfl, by decide +kernel, by decide +kernel⟩
abbrev s_is_whole : Stmt := topS 8
theorem sc_is_whole : FnScope ["thing"] ["thing"] (defScope s_is_whole) := ⟨rfl, rfl, rfl, by decide +kernel, rfl, by decide +kernel, by decide +kernel⟩
abbrev s_joins_places : Stmt := topS 9
theorem sc_joins_places : FnScope ["many", "thing", "one", "other"] ["many", "thing"] (defScope s_joins_places) := ⟨rfl, rfl, rfl, by decide +kernel, rfl, by decide +kernel, by decide +kernel⟩
abbrev s_web_fault : Stmt := topS 10
theorem sc_web_fault : FnScope ["thing", "many", "ties", "at", "tie"] ["thing"] (defScope s_web_fault) := ⟨rfl, rfl, rfl, by decide +kernel, rfl, by decide +kernel, by decide +kernel⟩
abbrev s_look_at_webs : Stmt := topS 14
theorem sc_look_at_webs : FnScope ["thing", "at", "web"] ["thing"] (defScope s_look_at_webs) := ⟨rfl, rfl, rfl, by decide +kernel, rfl, by decide +kernel, by decide +kernel⟩
abbrev s_written_web : Stmt := topS 21
theorem sc_written_web : FnScope ["web", "many", "ties", "one", "other"] ["web"] (defScope s_written_web) := ⟨rfl, rfl, rfl, by decide +kernel, rfl, by decide +kernel, by decide +kernel⟩
abbrev s_written_webs : Stmt := topS 22
theorem sc_written_webs : FnScope ["webs", "web"] ["webs"] (defScope s_written_webs) := ⟨rfl, rfl, rfl, by decide +kernel, rfl, by decide +kernel, by decide +kernel⟩
abbrev s_show_webs : Stmt := topS 26
theorem sc_show_webs : FnScope ["webs"] ["webs"] (defScope s_show_webs) := ⟨rfl, rfl, rfl, by decide +kernel, rfl, by decide +kernel, by decide +kernel⟩
abbrev s_number_in : Stmt := topS 20
theorem sc_number_in : FnScope ["text", "most", "sign"] ["text", "most"] (defScope s_number_in) := ⟨rfl, rfl, rfl, by decide +kernel, rfl, by decide +kernel, by decide +kernel⟩
abbrev s_tie_in : Stmt := topS 23
theorem sc_tie_in : FnScope ["text", "one", "_", "other"] ["text"] (defScope s_tie_in) := ⟨rfl, rfl, rfl, by decide +kernel, rfl, by decide +kernel, by decide +kernel⟩
abbrev s_web_in : Stmt := topS 24
theorem sc_web_in : FnScope ["text", "words", "web", "word"] ["text"] (defScope s_web_in) := ⟨rfl, rfl, rfl, by decide +kernel, rfl, by decide +kernel, by decide +kernel⟩
abbrev s_read_webs : Stmt := topS 28
theorem sc_read_webs : FnScope ["text", "webs", "part", "own_text", "web"] ["text"] (defScope s_read_webs) := ⟨rfl, rfl, rfl, by decide +kernel, rfl, by decide +kernel, by decide +kernel⟩
abbrev s__law_all_read : Stmt := topS 36
theorem sc__law_all_read : FnScope ["_law_webs", "_law_text", "_law_web_here", "_law_turn", "_law_found", "_law_one"] ["_law_webs"] (defScope s__law_all_read) := ⟨rfl, rfl, rfl, by decide +kernel, rfl, by decide +kernel, by decide +kernel⟩
abbrev s_look_at_web : Stmt := topS 11
theorem sc_look_at_web : FnScope ["thing", "fault", "part", "number"] ["thing"] (defScope s_look_at_web) := ⟨rfl, rfl, rfl, by decide +kernel, rfl, by decide +kernel, by decide +kernel⟩
abbrev s_show_web : Stmt := topS 25
theorem sc_show_web : FnScope ["web"] ["web"] (defScope s_show_web) := ⟨rfl, rfl, rfl, by decide +kernel, rfl, by decide +kernel, by decide +kernel⟩
abbrev s_read_web : Stmt := topS 27
theorem sc_read_web : FnScope ["text", "web"] ["text"] (defScope s_read_web) := ⟨rfl, rfl, rfl, by decide +kernel, rfl, by decide +kernel, by decide +kernel⟩
abbrev s__law_read : Stmt := topS 35
theorem sc__law_read : FnScope ["_law_web_here", "_law_text", "_law_turn", "_law_found"] ["_law_web_here"] (defScope s__law_read) := ⟨rfl, rfl, rfl, by decide +kernel, rfl, by decide +kernel, by decide +kernel⟩
abbrev s__law_numbers : Stmt := topS 31
theorem sc__law_numbers : FnScope ["_law_cell", "_law_salt", "_law_sizes", "_law_number", "_law_left", "_law_found", "_law_k", "_law_one"] ["_law_cell", "_law_salt", "_law_sizes"] (defScope s__law_numbers) := ⟨rfl, rfl, rfl, by decide +kernel, rfl, by decide +kernel, by decide +kernel⟩
abbrev s__law_order : Stmt := topS 32
theorem sc__law_order : FnScope ["_law_digits", "_law_names", "_law_digit"] ["_law_digits"] (defScope s__law_order) := ⟨rfl, rfl, rfl, by decide +kernel, rfl, by decide +kernel, by decide +kernel⟩
abbrev s__law_web : Stmt := topS 33
theorem sc__law_web : FnScope ["_law_cell", "_law_salt", "_law_most", "_law_more", "_law_loose", "_law_many", "_law_sizes", "_law_k", "_law_digits", "_law_order_here", "_law_pairs", "_law_digit", "_law_ties", "_law_one", "_law_other"] ["_law_cell", "_law_salt", "_law_most", "_law_more", "_law_loose"] (defScope s__law_web) := ⟨rfl, rfl, rfl, by decide +kernel, rfl, by decide +kernel, by decide +kernel⟩
abbrev s_law : Stmt := topS 37
theorem sc_law : FnScope ["_law_script", "_law_ties", "_law_one", "_law_other", "_law_webs", "_law_at", "_law_cell", "_law_size"] ["_law_script"] (defScope s_law) := ⟨rfl, rfl, rfl, by decide +kernel, rfl, by decide +kernel, by decide +kernel⟩
structure Bn (mg : Str → Option Value) : Prop where
  n_all : mg "all" = none
  n_bool : mg "bool" = none
  c_BETWEEN : ∃ t, mg "BETWEEN" = some (.str " * " t)
  c_FIGURES : ∃ t, mg "FIGURES" = some (.str "0123456789" t)
  c_MOST_FIGURES : ∃ t, mg "MOST_FIGURES" = some (.int 2 t)
  c_MOST_PLACES : ∃ t, mg "MOST_PLACES" = some (.int 40 t)
  c_MOST_TIES : ∃ t, mg "MOST_TIES" = some (.int 120 t)
  c_MOST_WEBS : ∃ t, mg "MOST_WEBS" = some (.int 12 t)
  c_NO_WEBS : ∃ t, mg "NO_WEBS" = some (.str "none" t)
  n_enumerate : mg "enumerate" = none
  n_int : mg "int" = none
  n_isinstance : mg "isinstance" = none
  n_len : mg "len" = none
  n_list : mg "list" = none
  n_max : mg "max" = none
  n_min : mg "min" = none
  n_range : mg "range" = none
  n_repr : mg "repr" = none
  n_sorted : mg "sorted" = none
  n_str : mg "str" = none
  n_tuple : mg "tuple" = none
end z83
namespace z83
open PySem L2 PL MR SH SQ
open PySem L2 PL
local macro_rules | `(tactic| walk_at "sd") => `(tactic| first | rfl | assumption | omega | decide)
section
variable {P : Program} {w : World} [kf : KF] {mg : Str → Option Value} {base : Heap}
theorem ok__law_shown (B : Bn mg) (T : Tp kf.K mg "_law_shown" s__law_shown) : FnQ P w kf.K mg base CX0 1 T.a T.fd ["_law_web_here"] (spP 1 m__law_shown) := by
  refine fnq_of T.F sc__law_shown (spP_len rfl) fun cdv A outer s H vs Q E hr hg h => ?_
  refine ⟨_, PSs.nox (pss_one (ps_ret (pe_join pe_str (pe_op (op_catRK (K := kf.K) rfl) (pe_lst (pa_cons (pe_callTy call_str_int (by rfl) B.n_str (by decide +kernel) (pa_cons (pe_ix (ix_tupK (K := kf.K) rfl) (pv 0) pe_int (fun _ _ => rfl)) pa_nil)) pa_nil)) (pe_lc (own := [("_law_one", 1), ("_law_other", 2)]) rfl sc__law_shown.nd (pi_listK (K := kf.K) rfl (pe_ix (ix_tupK (K := kf.K) rfl) (pv 0) pe_int (fun _ _ => rfl))) (blkOk_by (own := [("_law_one", 1), ("_law_other", 2)]) (N := ["_law_web_here", "_law_one", "_law_other"]) (sc := defScope s__law_shown) (by decide +kernel)) (fun _ _ _ _ _ => (pg_tupK (K := kf.K) (n := 2) rfl rfl (pgs_cons (pg_name (i := 1) sc__law_shown.nd rfl (Or.inl rfl)) (pgs_cons (pg_name (i := 2) sc__law_shown.nd rfl (Or.inl rfl)) pgs_nil)))) (fun _ _ _ _ _ => pts_nil) (fun _ _ _ _ _ => (pe_op op_add_str (pe_op op_add_str (pe_callTy call_str_int (by rfl) B.n_str (by decide +kernel) (pa_cons (pv 1) pa_nil)) pe_str) (pe_callTy call_str_int (by rfl) B.n_str (by decide +kernel) (pa_cons (pv 2) pa_nil))))))))), tie_plain (n := 1) (k := 2) (B := B__law_shown) rfl ?_ h⟩
  exact (c_ret (c_yD (c_join (c_c (v := .str " ") rfl) (c_dY (c_yop z_cat (c_dY (c_ylst (c_ocons (c_yR (c_cb b_strI (c_qcons (c_ix x_tup (c_var 0) (c_c (v := .int 0) rfl)) c_qnil))) c_onil))) (c_dY (c_ylc (vs := [1, 2]) (c_iL (c_dY (c_yauto (c_ix x_tup (c_var 0) (c_c (v := .int 1) rfl)) (c_yD (c_dixR x_tup (c_dY (c_yvar 0)) (c_c (v := .int 1) rfl)))))) (c_gtup (c_gscons (c_gname 1) (c_gscons (c_gname 2) c_gsnil))) (by decide) c_tyes (c_yR (c_op o_addS (c_op o_addS (c_cb b_strI (c_qcons (c_var 1) c_qnil)) (c_c (v := .str "-") rfl)) (c_cb b_strI (c_qcons (c_var 2) c_qnil)))))))))))
theorem ok_is_whole (B : Bn mg) (T : Tp kf.K mg "is_whole" s_is_whole) : FnQ P w kf.K mg base CX0 1 T.a T.fd ["thing"] (spP 1 SH.m_is_whole) := by
  refine fnq_of T.F sc_is_whole (spP_len rfl) fun cdv A outer s H vs Q E hr hg h => ?_
  refine ⟨_, PSs.nox (pss_one (ps_ret (pe_and (pe_callB (call_isiKK (K := kf.K) rfl) (by rfl) B.n_isinstance (by decide +kernel) (pa_cons (pv 0) (pa_cons (pe_bltn (v := .ty "int") (u := .type "int") (by rfl) B.n_int (by decide +kernel) rfl) pa_nil))) (pe_one (pe_not (pe_callB (call_isiKK (K := kf.K) rfl) (by rfl) B.n_isinstance (by decide +kernel) (pa_cons (pv 0) (pa_cons (pe_bltn (v := .ty "bool") (u := .type "bool") (by rfl) B.n_bool (by decide +kernel) rfl) pa_nil)))))))), tie_plain (n := 1) (k := 0) (B := SH.B_is_whole) rfl ?_ h⟩
  exact (c_ret (c_yR (c_and (c_is (c_var 0)) (c_not (c_is (c_var 0))))))
theorem ok_joins_places (B : Bn mg) (T : Tp kf.K mg "joins_places" s_joins_places) (d_is_whole : Dq P w kf.K mg base "is_whole" 1 ["thing"] (spP 1 SH.m_is_whole)) : FnQ P w kf.K mg base CX0 2 T.a T.fd ["many", "thing"] (spP 2 SH.m_joins_places) := by
  refine fnq_of T.F sc_joins_places (spP_len rfl) fun cdv A outer s H vs Q E hr hg h => ?_
  refine ⟨_, PSs.nox (pss_cons (ps_if (PW.pt (pw_or (pt_not (pt_val (pe_callB (call_isiKK (K := kf.K) rfl) (by rfl) B.n_isinstance (by decide +kernel) (pa_cons (pv 1) (pa_cons (pe_bltn (v := .ty "tuple") (u := .type "tuple") (by rfl) B.n_tuple (by decide +kernel) rfl) pa_nil))))) (pw_or1 (pt_cmpR op_ne (pe_callB (call_len_seqK (K := kf.K) rfl) (by rfl) B.n_len PySem.boot_len (pa_cons (pv 1) pa_nil)) pe_int (nomark _)))))
 (pss_one (ps_ret pe_bl))
 pss_nil)
 (pss_cons (ps_asg (pv 1) (pg_tup rfl (pgs_cons (pg_name (i := 2) sc_joins_places.nd rfl (Or.inl rfl)) (pgs_cons (pg_name (i := 3) sc_joins_places.nd rfl (Or.inl rfl)) pgs_nil))))
 (pss_one (ps_ret (pe_and (pe_callQ d_is_whole.G (hr.mono (by decide)) hg (by rfl) d_is_whole.g d_is_whole.kp d_is_whole.b pass0 (pa_cons (pv 2) pa_nil)) (pe_and (pe_callQ d_is_whole.G (hr.mono (by decide)) hg (by rfl) d_is_whole.g d_is_whole.kp d_is_whole.b pass0 (pa_cons (pv 3) pa_nil)) (pe_one (pe_ch3 op_le op_lt op_lt pe_int (pv 2) (pv 3) (pv 0))))))))), tie_plain (n := 2) (k := 2) (B := SH.B_joins_places) rfl ?_ h⟩
  exact (c_seq (c_sif (c_tR (c_bOr (c_bNot (c_bB (c_is (c_var 1)))) (c_bR (c_op o_neI (c_cb b_len (c_qcons (c_var 1) c_qnil)) (c_c (v := .int 2) rfl)))))
 (c_ret (c_yR (c_c (v := .bl false) rfl)))
 c_next)
 (c_seq (c_asgG (c_dY (c_yvar 1)) (c_gtup (c_gscons (c_gname 2) (c_gscons (c_gname 3) c_gsnil))))
 (c_ret (c_yR (c_and (c_call (c_qcons (c_var 2) c_qnil)) (c_and (c_call (c_qcons (c_var 3) c_qnil)) (c_ch3 (c_c (v := .int 0) rfl) (c_var 2) (c_var 3) (c_var 0))))))))
theorem ok_web_fault (B : Bn mg) (T : Tp kf.K mg "web_fault" s_web_fault) (d_is_whole : Dq P w kf.K mg base "is_whole" 1 ["thing"] (spP 1 SH.m_is_whole)) (d_joins_places : Dq P w kf.K mg base "joins_places" 2 ["many", "thing"] (spP 2 SH.m_joins_places)) : FnQ P w kf.K mg base CX0 3 T.a T.fd ["thing"] (spP 1 SH.m_web_fault) := by
  refine fnq_of T.F sc_web_fault (spP_len rfl) fun cdv A outer s H vs Q E hr hg h => ?_
  refine ⟨_, PSs.nox (pss_cons (ps_if (PW.pt (pw_or (pt_not (pt_val (pe_callB (call_isiKK (K := kf.K) rfl) (by rfl) B.n_isinstance (by decide +kernel) (pa_cons (pv 0) (pa_cons (pe_bltn (v := .ty "tuple") (u := .type "tuple") (by rfl) B.n_tuple (by decide +kernel) rfl) pa_nil))))) (pw_or1 (pt_cmpR op_ne (pe_callB (call_len_seqK (K := kf.K) rfl) (by rfl) B.n_len PySem.boot_len (pa_cons (pv 0) pa_nil)) pe_int (nomark _)))))
 (pss_one (ps_ret (pe_tup (pa_cons pe_str (pa_cons pe_non pa_nil)))))
 pss_nil)
 (pss_cons (ps_asg (pv 0) (pg_tup rfl (pgs_cons (pg_name (i := 1) sc_web_fault.nd rfl (Or.inl rfl)) (pgs_cons (pg_name (i := 2) sc_web_fault.nd rfl (Or.inl rfl)) pgs_nil))))
 (pss_cons (ps_if (PW.pt (pw_or (pt_not (pt_val (pe_callQ d_is_whole.G (hr.mono (by decide)) hg (by rfl) d_is_whole.g d_is_whole.kp d_is_whole.b pass0 (pa_cons (pv 1) pa_nil)))) (pw_or1 (pt_not (pt_chain op_le op_le pe_int (pv 1) (pe_glob (v := .int 40) rfl B.c_MOST_PLACES.choose_spec ⟨_, rfl⟩))))))
 (pss_one (ps_ret (pe_tup (pa_cons pe_str (pa_cons pe_non pa_nil)))))
 pss_nil)
 (pss_cons (ps_if (PW.pt (pw_or (pt_not (pt_val (pe_callB (call_isiKK (K := kf.K) rfl) (by rfl) B.n_isinstance (by decide +kernel) (pa_cons (pv 2) (pa_cons (pe_bltn (v := .ty "list") (u := .type "list") (by rfl) B.n_list (by decide +kernel) rfl) pa_nil))))) (pw_or1 (pt_cmpR op_gt (pe_callB (call_len_seqK (K := kf.K) rfl) (by rfl) B.n_len PySem.boot_len (pa_cons (pv 2) pa_nil)) (pe_glob (v := .int 120) rfl B.c_MOST_TIES.choose_spec ⟨_, rfl⟩) (nomark _)))))
 (pss_one (ps_ret (pe_tup (pa_cons pe_str (pa_cons pe_non pa_nil)))))
 pss_nil)
 (pss_cons (ps_for PassesOwn.never rfl (pi_enum (by rfl) B.n_enumerate (pa_cons (pv 2) pa_nil)) (pg_tup rfl (pgs_cons (pg_name (i := 3) sc_web_fault.nd rfl (Or.inl rfl)) (pgs_cons (pg_name (i := 4) sc_web_fault.nd rfl (Or.inl rfl)) pgs_nil)))
 (pss_one (ps_if (PW.pt (pw_or (pt_not (pt_val (pe_callQ d_joins_places.G (hr.mono (by decide)) hg (by rfl) d_joins_places.g d_joins_places.kp d_joins_places.b pass0 (pa_cons (pv 1) (pa_cons (pv 4) pa_nil))))) (pw_or1 (PW.pt (pw_and (pt_cmpR op_gt (pv 3) pe_int (nomark _)) (pw_and1 (pt_cmpR (op_leTK (K := kf.K) rfl hr.units0) (pv 4) (pe_ix (ix_listK (K := kf.K) rfl) (pv 2) (pe_op op_sub (pv 3) pe_int) (fun _ _ => rfl)) (nomark _))))))))
 (pss_one (ps_ret (pe_tup (pa_cons pe_str (pa_cons (pv 3) pa_nil)))))
 pss_nil)))
 (pss_one (ps_ret pe_non))))))), tie_plain (n := 1) (k := 4) (B := SH.B_web_fault) rfl ?_ h⟩
  exact (c_seq (c_sif (c_tR (c_bOr (c_bNot (c_bB (c_is (c_var 0)))) (c_bR (c_op o_neI (c_cb b_len (c_qcons (c_var 0) c_qnil)) (c_c (v := .int 2) rfl)))))
 (c_ret (c_ytup (c_ocons (c_yR (c_c (v := .str "web") rfl)) (c_ocons (c_yR (c_c (v := .non) rfl)) c_onil))))
 c_next)
 (c_seq (c_asgG (c_dY (c_yvar 0)) (c_gtup (c_gscons (c_gname 1) (c_gscons (c_gname 2) c_gsnil))))
 (c_seq (c_sif (c_tR (c_bOr (c_bNot (c_bB (c_call (c_qcons (c_var 1) c_qnil)))) (c_bNot (c_bR (c_ch (c_c (v := .int 1) rfl) (c_var 1) (c_c (v := .int 40) rfl))))))
 (c_ret (c_ytup (c_ocons (c_yR (c_c (v := .str "places") rfl)) (c_ocons (c_yR (c_c (v := .non) rfl)) c_onil))))
 c_next)
 (c_seq (c_sif (c_tR (c_bOr (c_bNot (c_bB (c_is (c_var 2)))) (c_bR (c_op o_gt (c_cb b_len (c_qcons (c_var 2) c_qnil)) (c_c (v := .int 120) rfl)))))
 (c_ret (c_ytup (c_ocons (c_yR (c_c (v := .str "ties") rfl)) (c_ocons (c_yR (c_c (v := .non) rfl)) c_onil))))
 c_next)
 (c_seq (c_for (c_iE (c_lcons (c_dY (c_yvar 2)) c_lnil)) (c_gtup (c_gscons (c_gname 3) (c_gscons (c_gname 4) c_gsnil)))
 (c_sif (c_tR (c_bOr (c_bNot (c_bB (c_call (c_qcons (c_var 1) (c_qcons (c_var 4) c_qnil))))) (c_bAnd (c_bR (c_op o_gt (c_var 3) (c_c (v := .int 0) rfl))) (c_bR (c_op o_leT (c_var 4) (c_ix x_list (c_var 2) (c_op o_sub (c_var 3) (c_c (v := .int 1) rfl))))))))
 (c_ret (c_ytup (c_ocons (c_yR (c_c (v := .str "ties") rfl)) (c_ocons (c_ymov 3) c_onil))))
 c_next))
 (c_ret (c_yR (c_c (v := .non) rfl))))))))
theorem ok_look_at_webs (B : Bn mg) (T : Tp kf.K mg "look_at_webs" s_look_at_webs) (d_web_fault : Dq P w kf.K mg base "web_fault" 3 ["thing"] (spP 1 SH.m_web_fault)) : FnQ P w kf.K mg base CX0 4 T.a T.fd ["thing"] (spP 1 SH.m_look_at_webs) := by
  refine fnq_of T.F sc_look_at_webs (spP_len rfl) fun cdv A outer s H vs Q E hr hg h => ?_
  refine ⟨_, PSs.nox (pss_cons (ps_if (PW.pt (pw_or (pt_not (pt_val (pe_callB (call_isiKK (K := kf.K) rfl) (by rfl) B.n_isinstance (by decide +kernel) (pa_cons (pv 0) (pa_cons (pe_bltn (v := .ty "list") (u := .type "list") (by rfl) B.n_list (by decide +kernel) rfl) pa_nil))))) (pw_or1 (pt_cmpR op_gt (pe_callB (call_len_seqK (K := kf.K) rfl) (by rfl) B.n_len PySem.boot_len (pa_cons (pv 0) pa_nil)) (pe_glob (v := .int 12) rfl B.c_MOST_WEBS.choose_spec ⟨_, rfl⟩) (nomark _)))))
 (pss_one ps_never)
 pss_nil)
 (pss_one (ps_for PassesOwn.never rfl (pi_enum (by rfl) B.n_enumerate (pa_cons (pv 0) pa_nil)) (pg_tup rfl (pgs_cons (pg_name (i := 1) sc_look_at_webs.nd rfl (Or.inl rfl)) (pgs_cons (pg_name (i := 2) sc_look_at_webs.nd rfl (Or.inl rfl)) pgs_nil)))
 (pss_one (ps_if (pt_cmpR op_notN (pe_callQ d_web_fault.G (hr.mono (by decide)) hg (by rfl) d_web_fault.g d_web_fault.kp d_web_fault.b pass0 (pa_cons (pv 2) pa_nil)) pe_non (nomark _))
 (pss_one ps_never)
 pss_nil))))), tie_plain (n := 1) (k := 2) (B := SH.B_look_at_webs) rfl ?_ h⟩
  exact (c_seq (c_sif (c_tR (c_bOr (c_bNot (c_bB (c_is (c_var 0)))) (c_bR (c_op o_gt (c_cb b_len (c_qcons (c_var 0) c_qnil)) (c_c (v := .int 12) rfl)))))
 (c_never _)
 c_next)
 (c_for (c_iE (c_lcons (c_dY (c_yvar 0)) c_lnil)) (c_gtup (c_gscons (c_gname 1) (c_gscons (c_gname 2) c_gsnil)))
 (c_sif (c_tR (c_bR (c_op o_notN (c_call (c_qcons (c_var 2) c_qnil)) (c_c (v := .non) rfl))))
 (c_never _)
 c_next)))
theorem ok_written_web (B : Bn mg) (T : Tp kf.K mg "written_web" s_written_web) : FnQ P w kf.K mg base CX0 1 T.a T.fd ["web"] (spP 1 m_written_web) := by
  refine fnq_of T.F sc_written_web (spP_len rfl) fun cdv A outer s H vs Q E hr hg h => ?_
  refine ⟨_, PSs.nox (pss_cons (ps_asg (pv 0) (pg_tup rfl (pgs_cons (pg_name (i := 1) sc_written_web.nd rfl (Or.inl rfl)) (pgs_cons (pg_name (i := 2) sc_written_web.nd rfl (Or.inl rfl)) pgs_nil))))
 (pss_one (ps_ret (pe_join pe_str (pe_op (op_catRK (K := kf.K) rfl) (pe_lst (pa_cons (pe_callTy call_str_int (by rfl) B.n_str (by decide +kernel) (pa_cons (pv 1) pa_nil)) pa_nil)) (pe_lc (own := [("one", 3), ("other", 4)]) rfl sc_written_web.nd (pi_listK (K := kf.K) rfl (pv 2)) (blkOk_by (own := [("one", 3), ("other", 4)]) (N := ["web", "many", "ties", "one", "other"]) (sc := defScope s_written_web) (by decide +kernel)) (fun _ _ _ _ _ => (pg_tupK (K := kf.K) (n := 2) rfl rfl (pgs_cons (pg_name (i := 3) sc_written_web.nd rfl (Or.inl rfl)) (pgs_cons (pg_name (i := 4) sc_written_web.nd rfl (Or.inl rfl)) pgs_nil)))) (fun _ _ _ _ _ => pts_nil) (fun _ _ _ _ _ => (pe_joined (.cons (pe_fmt (pv 3)) (.cons pe_str (.cons (pe_fmt (pv 4)) .nil))))))))))), tie_plain (n := 1) (k := 4) (B := B_written_web) rfl ?_ h⟩
  exact (c_seq (c_asgG (c_dY (c_yvar 0)) (c_gtup (c_gscons (c_gname 1) (c_gscons (c_gname 2) c_gsnil))))
 (c_ret (c_yD (c_join (c_c (v := .str " ") rfl) (c_dY (c_yop z_cat (c_dY (c_ylst (c_ocons (c_yR (c_cb b_strI (c_qcons (c_var 1) c_qnil))) c_onil))) (c_dY (c_ylc (vs := [3, 4]) (c_iL (c_dY (c_yvar 2))) (c_gtup (c_gscons (c_gname 3) (c_gscons (c_gname 4) c_gsnil))) (by decide) c_tyes (c_yR (c_js (.cons (c_txt (c_var 3)) (.cons (c_c (v := .str "-") rfl) (.cons (c_txt (c_var 4)) .nil)))))))))))))
theorem ok_written_webs (B : Bn mg) (T : Tp kf.K mg "written_webs" s_written_webs) (d_written_web : Dq P w kf.K mg base "written_web" 1 ["web"] (spP 1 m_written_web)) : FnQ P w kf.K mg base CX0 2 T.a T.fd ["webs"] (spP 1 m_written_webs) := by
  refine fnq_of T.F sc_written_webs (spP_len rfl) fun cdv A outer s H vs Q E hr hg h => ?_
  refine ⟨_, PSs.nox (pss_cons (ps_if (pt_not (pt_truth (pv 0) (by intro _; rfl)))
 (pss_one (ps_ret (pe_glob (v := .str "none") rfl B.c_NO_WEBS.choose_spec ⟨_, rfl⟩)))
 pss_nil)
 (pss_one (ps_ret (pe_join (pe_glob (v := .str " * ") rfl B.c_BETWEEN.choose_spec ⟨_, rfl⟩) (pe_lc (own := [("web", 1)]) rfl sc_written_webs.nd (pi_listK (K := kf.K) rfl (pv 0)) (blkOk_by (own := [("web", 1)]) (N := ["webs", "web"]) (sc := defScope s_written_webs) (by decide +kernel)) (fun _ _ _ _ _ => (pg_name (i := 1) sc_written_webs.nd rfl (Or.inl rfl))) (fun _ _ _ _ _ => pts_nil) (fun _ _ _ _ _ => (pe_callQ d_written_web.G (hr.mono (by decide)) hg (by rfl) d_written_web.g d_written_web.kp d_written_web.b pass0 (pa_cons (pv 1) pa_nil)))))))), tie_plain (n := 1) (k := 1) (B := B_written_webs) rfl ?_ h⟩
  exact (c_seq (c_sif (c_tR (c_bNot (c_bList (c_var 0))))
 (c_ret (c_yR (c_c (v := .str "none") rfl)))
 c_next)
 (c_ret (c_yD (c_join (c_c (v := .str " * ") rfl) (c_dY (c_ylc (vs := [1]) (c_iL (c_dY (c_yvar 0))) (c_gname 1) (by decide) c_tyes (c_ycallA (c_qcons (c_var 1) c_qnil) (c_lcons (c_dY (c_yvar 1)) c_lnil))))))))
theorem ok_show_webs (B : Bn mg) (T : Tp kf.K mg "show_webs" s_show_webs) (d_look_at_webs : Dq P w kf.K mg base "look_at_webs" 4 ["thing"] (spP 1 SH.m_look_at_webs)) (d_written_webs : Dq P w kf.K mg base "written_webs" 2 ["webs"] (spP 1 m_written_webs)) : FnQ P w kf.K mg base CX0 5 T.a T.fd ["webs"] (spP 1 m_show_webs) := by
  refine fnq_of T.F sc_show_webs (spP_len rfl) fun cdv A outer s H vs Q E hr hg h => ?_
  refine ⟨_, PSs.nox (pss_cons (ps_expr (pe_callQ d_look_at_webs.G (hr.mono (by decide)) hg (by rfl) d_look_at_webs.g d_look_at_webs.kp d_look_at_webs.b pass0 (pa_cons (pv 0) pa_nil)))
 (pss_one (ps_ret (pe_callQ d_written_webs.G (hr.mono (by decide)) hg (by rfl) d_written_webs.g d_written_webs.kp d_written_webs.b pass0 (pa_cons (pv 0) pa_nil))))), tie_plain (n := 1) (k := 0) (B := B_show_webs) rfl ?_ h⟩
  exact (c_seq (c_drop (c_ycallA (c_qcons (c_var 0) c_qnil) (c_lcons (c_dY (c_yvar 0)) c_lnil)))
 (c_ret (c_ycallA (c_qcons (c_var 0) c_qnil) (c_lcons (c_dY (c_yvar 0)) c_lnil))))
theorem ok_number_in (B : Bn mg) (T : Tp kf.K mg "number_in" s_number_in) : FnQ P w kf.K mg base CX0 1 T.a T.fd ["text", "most"] (spP 2 m_number_in) := by
  refine fnq_of T.F sc_number_in (spP_len rfl) fun cdv A outer s H vs Q E hr hg h => ?_
  refine ⟨_, PSs.nox (pss_cons (ps_if (PW.pt (pw_or (pt_not (pt_chain op_le op_le pe_int (pe_callB call_len_str (by rfl) B.n_len (by decide +kernel) (pa_cons (pv 0) pa_nil)) (pv 1))) (pw_or1 (pt_not (pt_val (pe_callB (cr_all rfl) (by rfl) B.n_all (by decide +kernel) (pa_cons (pe_lc (own := [("sign", 2)]) rfl sc_number_in.nd (pi_str (pv 0)) (blkOk_by (own := [("sign", 2)]) (N := ["text", "most", "sign"]) (sc := defScope s_number_in) (by decide +kernel)) (fun _ _ _ _ _ => (pg_name (i := 2) sc_number_in.nd rfl (Or.inl rfl))) (fun _ _ _ _ _ => pts_nil) (fun _ _ _ _ _ => (pe_cmpR op_in_sign (pv 2) (pe_glob (v := .str "0123456789") rfl B.c_FIGURES.choose_spec ⟨_, rfl⟩) (by rfl)))) pa_nil)))))))
 (pss_one (ps_ret pe_non))
 pss_nil)
 (pss_cons (ps_if (PW.pt (pw_and (pt_cmpR op_gt (pe_callB call_len_str (by rfl) B.n_len (by decide +kernel) (pa_cons (pv 0) pa_nil)) pe_int (nomark _)) (pw_and1 (pt_cmpR op_eq (pe_ix ix_str (pv 0) pe_int (fun _ _ => rfl)) pe_str (nomark _)))))
 (pss_one (ps_ret pe_non))
 pss_nil)
 (pss_one (ps_ret (pe_callTy call_int_str (by rfl) B.n_int (by decide +kernel) (pa_cons (pv 0) pa_nil)))))), tie_plain (n := 2) (k := 1) (B := B_number_in) rfl ?_ h⟩
  exact (c_seq (c_sif (c_tor (c_tR (c_bNot (c_bR (c_ch (c_c (v := .int 1) rfl) (c_cb b_lenS (c_qcons (c_var 0) c_qnil)) (c_var 1))))) (c_tnot (c_tDB (c_dcb b_all (c_lcons (c_dY (c_ylc (vs := [2]) (c_iS (c_dY (c_yvar 0))) (c_gname 2) (by decide) c_tyes (c_yR (c_op o_inSg (c_var 2) (c_c (v := .str "0123456789") rfl))))) c_lnil)))))
 (c_ret (c_yR (c_c (v := .non) rfl)))
 c_next)
 (c_seq (c_sif (c_tR (c_bAnd (c_bR (c_op o_gt (c_cb b_lenS (c_qcons (c_var 0) c_qnil)) (c_c (v := .int 1) rfl))) (c_bR (c_op o_eqS (c_ix x_strS (c_var 0) (c_c (v := .int 0) rfl)) (c_c (v := .str "0") rfl)))))
 (c_ret (c_yR (c_c (v := .non) rfl)))
 c_next)
 (c_ret (c_yR (c_cb b_intS (c_qcons (c_var 0) c_qnil))))))
theorem ok_tie_in (B : Bn mg) (T : Tp kf.K mg "tie_in" s_tie_in) (d_number_in : Dq P w kf.K mg base "number_in" 1 ["text", "most"] (spP 2 m_number_in)) : FnQ P w kf.K mg base CX0 2 T.a T.fd ["text"] (spP 1 m_tie_in) := by
  refine fnq_of T.F sc_tie_in (spP_len rfl) fun cdv A outer s H vs Q E hr hg h => ?_
  refine ⟨_, PSs.nox (pss_cons (ps_asg (pe_partition (pv 0) pe_str) (pg_tup rfl (pgs_cons (pg_name (i := 1) sc_tie_in.nd rfl (Or.inl rfl)) (pgs_cons (pg_name (i := 2) sc_tie_in.nd rfl (Or.inl rfl)) (pgs_cons (pg_name (i := 3) sc_tie_in.nd rfl (Or.inl rfl)) pgs_nil)))))
 (pss_one (ps_ret (pe_tup (pa_cons (pe_callQ d_number_in.G (hr.mono (by decide)) hg (by rfl) d_number_in.g d_number_in.kp d_number_in.b pass0 (pa_cons (pv 1) (pa_cons (pe_glob (v := .int 2) rfl B.c_MOST_FIGURES.choose_spec ⟨_, rfl⟩) pa_nil))) (pa_cons (pe_callQ d_number_in.G (hr.mono (by decide)) hg (by rfl) d_number_in.g d_number_in.kp d_number_in.b pass0 (pa_cons (pv 3) (pa_cons (pe_glob (v := .int 2) rfl B.c_MOST_FIGURES.choose_spec ⟨_, rfl⟩) pa_nil))) pa_nil)))))), tie_plain (n := 1) (k := 3) (B := B_tie_in) rfl ?_ h⟩
  exact (c_seq (c_asgG (c_dY (c_part (c_var 0) (c_c (v := .str "-") rfl))) (c_gtup (c_gscons (c_gname 1) (c_gscons (c_gname 2) (c_gscons (c_gname 3) c_gsnil)))))
 (c_ret (c_ytup (c_ocons (c_ycallA (c_qcons (c_var 1) (c_qcons (c_c (v := .int 2) rfl) c_qnil)) (c_lcons (c_dY (c_yvar 1)) (c_lcons (c_dR (c_c (v := .int 2) rfl)) c_lnil))) (c_ocons (c_ycallA (c_qcons (c_var 3) (c_qcons (c_c (v := .int 2) rfl) c_qnil)) (c_lcons (c_dY (c_yvar 3)) (c_lcons (c_dR (c_c (v := .int 2) rfl)) c_lnil))) c_onil)))))
theorem ok_web_in (B : Bn mg) (T : Tp kf.K mg "web_in" s_web_in) (d_tie_in : Dq P w kf.K mg base "tie_in" 2 ["text"] (spP 1 m_tie_in)) (d_number_in : Dq P w kf.K mg base "number_in" 1 ["text", "most"] (spP 2 m_number_in)) (d_web_fault : Dq P w kf.K mg base "web_fault" 3 ["thing"] (spP 1 SH.m_web_fault)) : FnQ P w kf.K mg base CX0 4 T.a T.fd ["text"] (spP 1 m_web_in) := by
  refine fnq_of T.F sc_web_in (spP_len rfl) fun cdv A outer s H vs Q E hr hg h => ?_
  refine ⟨_, PSs.nox (pss_cons (ps_set (i := 1) sc_web_in.nd rfl (Or.inl rfl) (pe_split (pv 0) pe_str))
 (pss_cons (ps_set (i := 2) sc_web_in.nd rfl (Or.inl rfl) (pe_tup (pa_cons (pe_callQ d_number_in.G (hr.mono (by decide)) hg (by rfl) d_number_in.g d_number_in.kp d_number_in.b pass0 (pa_cons (pe_ix (ix_listK (K := kf.K) rfl) (pv 1) pe_int (fun _ _ => rfl)) (pa_cons (pe_glob (v := .int 2) rfl B.c_MOST_FIGURES.choose_spec ⟨_, rfl⟩) pa_nil))) (pa_cons (pe_lc (own := [("word", 3)]) rfl sc_web_in.nd (pi_listK (K := kf.K) rfl (pe_slice (sl_listK (K := kf.K) rfl) (pv 1) (po_some pe_int) po_none)) (blkOk_by (own := [("word", 3)]) (N := ["text", "words", "web", "word"]) (sc := defScope s_web_in) (by decide +kernel)) (fun _ _ _ _ _ => (pg_name (i := 3) sc_web_in.nd rfl (Or.inl rfl))) (fun _ _ _ _ _ => pts_nil) (fun _ _ _ _ _ => (pe_callQ d_tie_in.G (hr.mono (by decide)) hg (by rfl) d_tie_in.g d_tie_in.kp d_tie_in.b pass0 (pa_cons (pv 3) pa_nil)))) pa_nil))))
 (pss_one (ps_ret (pe_ifExp (pt_cmpR op_isN (pe_callQ d_web_fault.G (hr.mono (by decide)) hg (by rfl) d_web_fault.g d_web_fault.kp d_web_fault.b pass0 (pa_cons (pv 2) pa_nil)) pe_non (nomark _)) (pv 2) pe_non))))), tie_plain (n := 1) (k := 3) (B := B_web_in) rfl ?_ h⟩
  exact (c_seq (c_asg (c_split (c_var 0) (c_c (v := .str " ") rfl)))
 (c_seq (c_asg (c_ytup (c_ocons (c_ycallA (c_qcons (c_ix x_list (c_var 1) (c_c (v := .int 0) rfl)) (c_qcons (c_c (v := .int 2) rfl) c_qnil)) (c_lcons (c_dY (c_yauto (c_ix x_list (c_var 1) (c_c (v := .int 0) rfl)) (c_yD (c_dixR x_list (c_dY (c_yvar 1)) (c_c (v := .int 0) rfl))))) (c_lcons (c_dR (c_c (v := .int 2) rfl)) c_lnil))) (c_ocons (c_ylc (vs := [3]) (c_iL (c_dY (c_yslA (c_var 1) (c_dY (c_yvar 1)) (c_csome (c_c (v := .int 1) rfl)) c_cnone))) (c_gname 3) (by decide) c_tyes (c_ycallA (c_qcons (c_var 3) c_qnil) (c_lcons (c_dY (c_yvar 3)) c_lnil))) c_onil))))
 (c_ret (c_yif (c_tR (c_bR (c_op o_isN (c_call (c_qcons (c_var 2) c_qnil)) (c_c (v := .non) rfl)))) (c_ymov 2) (c_yR (c_c (v := .non) rfl))))))
theorem ok_read_webs (B : Bn mg) (T : Tp kf.K mg "read_webs" s_read_webs) (d_web_in : Dq P w kf.K mg base "web_in" 4 ["text"] (spP 1 m_web_in)) : FnQ P w kf.K mg base CX0 5 T.a T.fd ["text"] (spP 1 m_read_webs) := by
  refine fnq_of T.F sc_read_webs (spP_len rfl) fun cdv A outer s H vs Q E hr hg h => ?_
  refine ⟨_, PSs.nox (pss_cons (ps_if (pt_not (pt_val (pe_callB (call_isiKK (K := kf.K) rfl) (by rfl) B.n_isinstance (by decide +kernel) (pa_cons (pv 0) (pa_cons (pe_bltn (v := .ty "str") (u := .type "str") (by rfl) B.n_str (by decide +kernel) rfl) pa_nil)))))
 (pss_one ps_never)
 pss_nil)
 (pss_cons (ps_set (i := 1) sc_read_webs.nd rfl (Or.inl rfl) (pe_lst pa_nil))
 (pss_cons (ps_if (pt_cmpR op_ne (pv 0) (pe_glob (v := .str "none") rfl B.c_NO_WEBS.choose_spec ⟨_, rfl⟩) (nomark _))
 (pss_one (ps_for PassesOwn.never rfl (pi_enum (by rfl) B.n_enumerate (pa_cons (pe_split (pv 0) (pe_glob (v := .str " * ") rfl B.c_BETWEEN.choose_spec ⟨_, rfl⟩)) pa_nil)) (pg_tup rfl (pgs_cons (pg_name (i := 2) sc_read_webs.nd rfl (Or.inl rfl)) (pgs_cons (pg_name (i := 3) sc_read_webs.nd rfl (Or.inl rfl)) pgs_nil)))
 (pss_cons (ps_set (i := 4) sc_read_webs.nd rfl (Or.inl rfl) (pe_callQ d_web_in.G (hr.mono (by decide)) hg (by rfl) d_web_in.g d_web_in.kp d_web_in.b pass0 (pa_cons (pv 3) pa_nil)))
 (pss_cons (ps_if (PW.pt (pw_or (pt_cmpR op_eq (pv 2) (pe_glob (v := .int 12) rfl B.c_MOST_WEBS.choose_spec ⟨_, rfl⟩) (nomark _)) (pw_or1 (pt_cmpR op_isN (pv 4) pe_non (nomark _)))))
 (pss_one ps_never)
 pss_nil)
 (pss_one (ps_expr (pe_bmK (K := kf.K) rfl PySem.F.plainAttrs_list PySem.F.slot_list_append PySem.F.type_list_append mt_append (pv 1) (pa_cons (pv 4) pa_nil))))))))
 pss_nil)
 (pss_one (ps_ret (pv 1)))))), tie_plain (n := 1) (k := 4) (B := B_read_webs) rfl ?_ h⟩
  exact (c_seq (c_sif (c_tR (c_bNot (c_bB (c_is (c_var 0)))))
 (c_never _)
 c_next)
 (c_seq (c_asg (c_ylst c_onil))
 (c_seq (c_sif (c_tR (c_bR (c_op o_neS (c_var 0) (c_c (v := .str "none") rfl))))
 (c_for (c_iE (c_lcons (c_dY (c_split (c_var 0) (c_c (v := .str " * ") rfl))) c_lnil)) (c_gtup (c_gscons (c_gname 2) (c_gscons (c_gname 3) c_gsnil)))
 (c_seq (c_asg (c_ycallA (c_qcons (c_var 3) c_qnil) (c_lcons (c_dY (c_yvar 3)) c_lnil)))
 (c_seq (c_sif (c_tR (c_bOr (c_bR (c_op o_eqI (c_var 2) (c_c (v := .int 12) rfl))) (c_bR (c_op o_isN (c_var 4) (c_c (v := .non) rfl)))))
 (c_never _)
 c_next)
 (c_app (c_ymov 4)))))
 c_next)
 (c_ret (c_ymov 1)))))
theorem ok__law_all_read (B : Bn mg) (T : Tp kf.K mg "_law_all_read" s__law_all_read) (d__law_shown : Dq P w kf.K mg base "_law_shown" 1 ["_law_web_here"] (spP 1 m__law_shown)) (d_show_webs : Dq P w kf.K mg base "show_webs" 5 ["webs"] (spP 1 m_show_webs)) (d_read_webs : Dq P w kf.K mg base "read_webs" 5 ["text"] (spP 1 m_read_webs)) : FnQ P w kf.K mg base CX0 6 T.a T.fd ["_law_webs"] (spP 1 m__law_all_read) := by
  refine fnq_of T.F sc__law_all_read (spP_len rfl) fun cdv A outer s H vs Q E hr hg h => ?_
  refine ⟨_, PSs.nox (pss_cons (ps_set (i := 1) sc__law_all_read.nd rfl (Or.inl rfl) (pe_join pe_str (pe_lc (own := [("_law_web_here", 2)]) rfl sc__law_all_read.nd (pi_listK (K := kf.K) rfl (pv 0)) (blkOk_by (own := [("_law_web_here", 2)]) (N := ["_law_webs", "_law_text", "_law_web_here", "_law_turn", "_law_found", "_law_one"]) (sc := defScope s__law_all_read) (by decide +kernel)) (fun _ _ _ _ _ => (pg_name (i := 2) sc__law_all_read.nd rfl (Or.inl rfl))) (fun _ _ _ _ _ => pts_nil) (fun _ _ _ _ _ => (pe_callQ d__law_shown.G (hr.mono (by decide)) hg (by rfl) d__law_shown.g d__law_shown.kp d__law_shown.b pass0 (pa_cons (pv 2) pa_nil))))))
 (pss_cons (ps_if (pt_cmpR op_ne (pe_callQ d_show_webs.G (hr.mono (by decide)) hg (by rfl) d_show_webs.g d_show_webs.kp d_show_webs.b pass0 (pa_cons (pv 0) pa_nil)) (pv 1) (nomark _))
 (pss_one (ps_ret pe_bl))
 pss_nil)
 (pss_cons (ps_for PassesOwn.never rfl (pi_range1 (by rfl) B.n_range (pa_cons pe_int pa_nil)) (pg_name (i := 3) sc__law_all_read.nd rfl (Or.inl rfl))
 (pss_cons (ps_set (i := 4) sc__law_all_read.nd rfl (Or.inl rfl) (pe_callQ d_read_webs.G (hr.mono (by decide)) hg (by rfl) d_read_webs.g d_read_webs.kp d_read_webs.b pass0 (pa_cons (pv 1) pa_nil)))
 (pss_cons (ps_if (PW.pt (pw_or (pt_not (pt_val (pe_callB (call_isiKK (K := kf.K) rfl) (by rfl) B.n_isinstance (by decide +kernel) (pa_cons (pv 4) (pa_cons (pe_bltn (v := .ty "list") (u := .type "list") (by rfl) B.n_list (by decide +kernel) rfl) pa_nil))))) (pw_or1 (pt_cmpR op_ne (pe_callB (cr_reprK (K := kf.K) rfl hg hr.units) (by rfl) B.n_repr (by decide +kernel) (pa_cons (pv 4) pa_nil)) (pe_callB (cr_reprK (K := kf.K) rfl hg hr.units) (by rfl) B.n_repr (by decide +kernel) (pa_cons (pv 0) pa_nil)) (nomark _)))))
 (pss_one (ps_ret pe_bl))
 pss_nil)
 (pss_cons (ps_for PassesOwn.never rfl (pi_listK (K := kf.K) rfl (pv 4)) (pg_name (i := 5) sc__law_all_read.nd rfl (Or.inl rfl))
 (pss_one (ps_expr (pe_bmK (K := kf.K) rfl PySem.F.plainAttrs_list PySem.F.slot_list_append PySem.F.type_list_append mt_append (pe_ix (ix_tupK (K := kf.K) rfl) (pv 5) pe_int (fun _ _ => rfl)) (pa_cons (pe_tup (pa_cons pe_int (pa_cons pe_int pa_nil))) pa_nil)))))
 (pss_cons (ps_if (pt_cmpR (op_neDK (K := kf.K) rfl hr.units) (pe_lc (own := [("_law_one", 5)]) rfl sc__law_all_read.nd (pi_listK (K := kf.K) rfl (pv 4)) (blkOk_by (own := [("_law_one", 5)]) (N := ["_law_webs", "_law_text", "_law_web_here", "_law_turn", "_law_found", "_law_one"]) (sc := defScope s__law_all_read) (by decide +kernel)) (fun _ _ _ _ _ => (pg_name (i := 5) sc__law_all_read.nd rfl (Or.inl rfl))) (fun _ _ _ _ _ => pts_nil) (fun _ _ _ _ _ => (pe_callB (call_len_seqK (K := kf.K) rfl) (by rfl) B.n_len PySem.boot_len (pa_cons (pe_ix (ix_tupK (K := kf.K) rfl) (pv 5) pe_int (fun _ _ => rfl)) pa_nil)))) (pe_lc (own := [("_law_web_here", 2)]) rfl sc__law_all_read.nd (pi_listK (K := kf.K) rfl (pv 0)) (blkOk_by (own := [("_law_web_here", 2)]) (N := ["_law_webs", "_law_text", "_law_web_here", "_law_turn", "_law_found", "_law_one"]) (sc := defScope s__law_all_read) (by decide +kernel)) (fun _ _ _ _ _ => (pg_name (i := 2) sc__law_all_read.nd rfl (Or.inl rfl))) (fun _ _ _ _ _ => pts_nil) (fun _ _ _ _ _ => (pe_op op_add (pe_callB (call_len_seqK (K := kf.K) rfl) (by rfl) B.n_len PySem.boot_len (pa_cons (pe_ix (ix_tupK (K := kf.K) rfl) (pv 2) pe_int (fun _ _ => rfl)) pa_nil)) pe_int))) (nomark _))
 (pss_one (ps_ret pe_bl))
 pss_nil)
 (pss_one (ps_expr (pe_bmK (K := kf.K) rfl PySem.F.plainAttrs_list PySem.F.slot_list_append PySem.F.type_list_append mt_append (pv 4) (pa_cons (pe_ix (ix_listK (K := kf.K) rfl) (pv 4) pe_int (fun _ _ => rfl)) pa_nil)))))))))
 (pss_one (ps_ret pe_bl))))), tie_plain (n := 1) (k := 5) (B := B__law_all_read) rfl ?_ h⟩
  exact (c_seq (c_asg (c_yD (c_join (c_c (v := .str " * ") rfl) (c_dY (c_ylc (vs := [2]) (c_iL (c_dY (c_yvar 0))) (c_gname 2) (by decide) c_tyes (c_ycallA (c_qcons (c_var 2) c_qnil) (c_lcons (c_dY (c_yvar 2)) c_lnil)))))))
 (c_seq (c_sif (c_tR (c_bR (c_op o_neS (c_call (c_qcons (c_var 0) c_qnil)) (c_var 1))))
 (c_ret (c_yR (c_c (v := .bl false) rfl)))
 c_next)
 (c_seq (c_for (c_iR1 (c_lcons (c_dR (c_c (v := .int 2) rfl)) c_lnil)) (c_gname 3)
 (c_seq (c_asg (c_ycallA (c_qcons (c_var 1) c_qnil) (c_lcons (c_dY (c_yvar 1)) c_lnil)))
 (c_seq (c_sif (c_tR (c_bOr (c_bNot (c_bB (c_is (c_var 4)))) (c_bR (c_op o_neS (c_repr (c_var 4)) (c_repr (c_var 0))))))
 (c_ret (c_yR (c_c (v := .bl false) rfl)))
 c_next)
 (c_seq (c_forW
 (c_appP (c_pixT (c_pvar 5) (c_c (v := .int 1) rfl)) (c_fR (c_tup (c_qcons (c_c (v := .int 0) rfl) (c_qcons (c_c (v := .int 0) rfl) c_qnil))))))
 (c_seq (c_borrow [4] [0]
 (c_sif (c_tD (c_dop o_neD (c_dY (c_ylc (vs := [5]) (c_iL (c_dY (c_yvar 4))) (c_gname 5) (by decide) c_tyes (c_yR (c_cb b_len (c_qcons (c_ix x_tup (c_var 5) (c_c (v := .int 1) rfl)) c_qnil))))) (c_dY (c_ylc (vs := [2]) (c_iL (c_dY (c_yvar 0))) (c_gname 2) (by decide) c_tyes (c_yR (c_op o_add (c_cb b_len (c_qcons (c_ix x_tup (c_var 2) (c_c (v := .int 1) rfl)) c_qnil)) (c_c (v := .int 1) rfl)))))))
 (c_ret (c_yR (c_c (v := .bl false) rfl)))
 c_next))
 (c_appW (c_pvar 4) (c_pix (c_pvar 4) (c_c (v := .int 0) rfl))))))))
 (c_ret (c_yR (c_c (v := .bl true) rfl))))))
theorem ok_look_at_web (B : Bn mg) (T : Tp kf.K mg "look_at_web" s_look_at_web) (d_web_fault : Dq P w kf.K mg base "web_fault" 3 ["thing"] (spP 1 SH.m_web_fault)) : FnQ P w kf.K mg base CX0 4 T.a T.fd ["thing"] (spP 1 SH.m_look_at_web) := by
  refine fnq_of T.F sc_look_at_web (spP_len rfl) fun cdv A outer s H vs Q E hr hg h => ?_
  refine ⟨_, PSs.nox (pss_cons (ps_set (i := 1) sc_look_at_web.nd rfl (Or.inl rfl) (pe_callQ d_web_fault.G (hr.mono (by decide)) hg (by rfl) d_web_fault.g d_web_fault.kp d_web_fault.b pass0 (pa_cons (pv 0) pa_nil)))
 (pss_one (ps_if (pt_cmpR op_notN (pv 1) pe_non (nomark _))
 (pss_cons (ps_asg (pv 1) (pg_tup rfl (pgs_cons (pg_name (i := 2) sc_look_at_web.nd rfl (Or.inl rfl)) (pgs_cons (pg_name (i := 3) sc_look_at_web.nd rfl (Or.inl rfl)) pgs_nil))))
 (pss_one ps_never))
 pss_nil))), tie_plain (n := 1) (k := 3) (B := SH.B_look_at_web) rfl ?_ h⟩
  exact (c_seq (c_asg (c_ycallA (c_qcons (c_var 0) c_qnil) (c_lcons (c_dY (c_yvar 0)) c_lnil)))
 (c_sif (c_tR (c_bR (c_op o_notN (c_var 1) (c_c (v := .non) rfl))))
 (c_seq (c_asgG (c_dY (c_yvar 1)) (c_gtup (c_gscons (c_gname 2) (c_gscons (c_gname 3) c_gsnil))))
 (c_never _))
 c_next))
theorem ok_show_web (B : Bn mg) (T : Tp kf.K mg "show_web" s_show_web) (d_look_at_web : Dq P w kf.K mg base "look_at_web" 4 ["thing"] (spP 1 SH.m_look_at_web)) (d_written_web : Dq P w kf.K mg base "written_web" 1 ["web"] (spP 1 m_written_web)) : FnQ P w kf.K mg base CX0 5 T.a T.fd ["web"] (spP 1 m_show_web) := by
  refine fnq_of T.F sc_show_web (spP_len rfl) fun cdv A outer s H vs Q E hr hg h => ?_
  refine ⟨_, PSs.nox (pss_cons (ps_expr (pe_callQ d_look_at_web.G (hr.mono (by decide)) hg (by rfl) d_look_at_web.g d_look_at_web.kp d_look_at_web.b pass0 (pa_cons (pv 0) pa_nil)))
 (pss_one (ps_ret (pe_callQ d_written_web.G (hr.mono (by decide)) hg (by rfl) d_written_web.g d_written_web.kp d_written_web.b pass0 (pa_cons (pv 0) pa_nil))))), tie_plain (n := 1) (k := 0) (B := B_show_web) rfl ?_ h⟩
  exact (c_seq (c_drop (c_ycallA (c_qcons (c_var 0) c_qnil) (c_lcons (c_dY (c_yvar 0)) c_lnil)))
 (c_ret (c_ycallA (c_qcons (c_var 0) c_qnil) (c_lcons (c_dY (c_yvar 0)) c_lnil))))
theorem ok_read_web (B : Bn mg) (T : Tp kf.K mg "read_web" s_read_web) (d_web_in : Dq P w kf.K mg base "web_in" 4 ["text"] (spP 1 m_web_in)) : FnQ P w kf.K mg base CX0 5 T.a T.fd ["text"] (spP 1 m_read_web) := by
  refine fnq_of T.F sc_read_web (spP_len rfl) fun cdv A outer s H vs Q E hr hg h => ?_
  refine ⟨_, PSs.nox (pss_cons (ps_set (i := 1) sc_read_web.nd rfl (Or.inl rfl) (pe_ifExp (pt_val (pe_callB (call_isiKK (K := kf.K) rfl) (by rfl) B.n_isinstance (by decide +kernel) (pa_cons (pv 0) (pa_cons (pe_bltn (v := .ty "str") (u := .type "str") (by rfl) B.n_str (by decide +kernel) rfl) pa_nil)))) (pe_callQ d_web_in.G (hr.mono (by decide)) hg (by rfl) d_web_in.g d_web_in.kp d_web_in.b pass0 (pa_cons (pv 0) pa_nil)) pe_non))
 (pss_cons (ps_if (pt_cmpR op_isN (pv 1) pe_non (nomark _))
 (pss_one ps_never)
 pss_nil)
 (pss_one (ps_ret (pv 1))))), tie_plain (n := 1) (k := 1) (B := B_read_web) rfl ?_ h⟩
  exact (c_seq (c_asg (c_yif (c_tR (c_bB (c_is (c_var 0)))) (c_ycallA (c_qcons (c_var 0) c_qnil) (c_lcons (c_dY (c_yvar 0)) c_lnil)) (c_yR (c_c (v := .non) rfl))))
 (c_seq (c_sif (c_tR (c_bR (c_op o_isN (c_var 1) (c_c (v := .non) rfl))))
 (c_never _)
 c_next)
 (c_ret (c_ymov 1))))
theorem ok__law_read (B : Bn mg) (T : Tp kf.K mg "_law_read" s__law_read) (d__law_shown : Dq P w kf.K mg base "_law_shown" 1 ["_law_web_here"] (spP 1 m__law_shown)) (d_show_web : Dq P w kf.K mg base "show_web" 5 ["web"] (spP 1 m_show_web)) (d_read_web : Dq P w kf.K mg base "read_web" 5 ["text"] (spP 1 m_read_web)) : FnQ P w kf.K mg base CX0 6 T.a T.fd ["_law_web_here"] (spP 1 m__law_read) := by
  refine fnq_of T.F sc__law_read (spP_len rfl) fun cdv A outer s H vs Q E hr hg h => ?_
  refine ⟨_, PSs.nox (pss_cons (ps_set (i := 1) sc__law_read.nd rfl (Or.inl rfl) (pe_callQ d__law_shown.G (hr.mono (by decide)) hg (by rfl) d__law_shown.g d__law_shown.kp d__law_shown.b pass0 (pa_cons (pv 0) pa_nil)))
 (pss_cons (ps_if (pt_cmpR op_ne (pe_callQ d_show_web.G (hr.mono (by decide)) hg (by rfl) d_show_web.g d_show_web.kp d_show_web.b pass0 (pa_cons (pv 0) pa_nil)) (pv 1) (nomark _))
 (pss_one (ps_ret pe_bl))
 pss_nil)
 (pss_cons (ps_for PassesOwn.never rfl (pi_range1 (by rfl) B.n_range (pa_cons pe_int pa_nil)) (pg_name (i := 2) sc__law_read.nd rfl (Or.inl rfl))
 (pss_cons (ps_set (i := 3) sc__law_read.nd rfl (Or.inl rfl) (pe_callQ d_read_web.G (hr.mono (by decide)) hg (by rfl) d_read_web.g d_read_web.kp d_read_web.b pass0 (pa_cons (pv 1) pa_nil)))
 (pss_cons (ps_if (pt_cmpR op_ne (pe_callB (cr_reprK (K := kf.K) rfl hg hr.units) (by rfl) B.n_repr (by decide +kernel) (pa_cons (pv 3) pa_nil)) (pe_callB (cr_reprK (K := kf.K) rfl hg hr.units) (by rfl) B.n_repr (by decide +kernel) (pa_cons (pv 0) pa_nil)) (nomark _))
 (pss_one (ps_ret pe_bl))
 pss_nil)
 (pss_one (ps_expr (pe_bmK (K := kf.K) rfl PySem.F.plainAttrs_list PySem.F.slot_list_append PySem.F.type_list_append mt_append (pe_ix (ix_tupK (K := kf.K) rfl) (pv 3) pe_int (fun _ _ => rfl)) (pa_cons (pe_tup (pa_cons pe_int (pa_cons pe_int pa_nil))) pa_nil)))))))
 (pss_one (ps_ret pe_bl))))), tie_plain (n := 1) (k := 3) (B := B__law_read) rfl ?_ h⟩
  exact (c_seq (c_asg (c_ycallA (c_qcons (c_var 0) c_qnil) (c_lcons (c_dY (c_yvar 0)) c_lnil)))
 (c_seq (c_sif (c_tR (c_bR (c_op o_neS (c_call (c_qcons (c_var 0) c_qnil)) (c_var 1))))
 (c_ret (c_yR (c_c (v := .bl false) rfl)))
 c_next)
 (c_seq (c_for (c_iR1 (c_lcons (c_dR (c_c (v := .int 2) rfl)) c_lnil)) (c_gname 2)
 (c_seq (c_asg (c_ycallA (c_qcons (c_var 1) c_qnil) (c_lcons (c_dY (c_yvar 1)) c_lnil)))
 (c_seq (c_sif (c_tR (c_bR (c_op o_neS (c_repr (c_var 3)) (c_repr (c_var 0)))))
 (c_ret (c_yR (c_c (v := .bl false) rfl)))
 c_next)
 (c_appP (c_pixT (c_pvar 3) (c_c (v := .int 1) rfl)) (c_fR (c_tup (c_qcons (c_c (v := .int 0) rfl) (c_qcons (c_c (v := .int 0) rfl) c_qnil))))))))
 (c_ret (c_yR (c_c (v := .bl true) rfl))))))
theorem ok__law_numbers (B : Bn mg) (T : Tp kf.K mg "_law_numbers" s__law_numbers) : FnQ P w kf.K mg base CX0 1 T.a T.fd ["_law_cell", "_law_salt", "_law_sizes"] (spP 3 SQ.m__law_numbers) := by
  refine fnq_of T.F sc__law_numbers (spP_len rfl) fun cdv A outer s H vs Q E hr hg h => ?_
  refine ⟨_, PSs.nox (pss_cons (ps_set (i := 3) sc__law_numbers.nd rfl (Or.inl rfl) (pe_callB (call_max2 rfl) (by rfl) B.n_max (by decide +kernel) (pa_cons (pv 0) (pa_cons (pe_op op_sub (pe_un un_neg pe_int) (pv 0)) pa_nil))))
 (pss_cons (ps_set (i := 4) sc__law_numbers.nd rfl (Or.inl rfl) (pv 3))
 (pss_cons (ps_set (i := 5) sc__law_numbers.nd rfl (Or.inl rfl) (pe_lst pa_nil))
 (pss_cons (ps_for PassesOwn.never rfl (pi_range1 (by rfl) B.n_range (pa_cons (pe_callB (call_len_seqK (K := kf.K) rfl) (by rfl) B.n_len PySem.boot_len (pa_cons (pv 2) pa_nil)) pa_nil)) (pg_name (i := 6) sc__law_numbers.nd rfl (Or.inl rfl))
 (pss_one (ps_if (PW.pt (pw_and (pt_cmpR op_ge (pv 3) (pe_op op_pow pe_int pe_int) (nomark _)) (pw_and1 (pt_cmpR op_gt (pv 4) pe_int (nomark _)))))
 (pss_cons (ps_expr (pe_bmK (K := kf.K) rfl PySem.F.plainAttrs_list PySem.F.slot_list_append PySem.F.type_list_append mt_append (pv 5) (pa_cons (pe_op op_mod (pv 4) (pe_ix (ix_listK (K := kf.K) rfl) (pv 2) (pv 6) (fun _ _ => rfl))) pa_nil)))
 (pss_one (ps_set (i := 4) sc__law_numbers.nd rfl (Or.inl rfl) (pe_op op_fdivW (pv 4) (pe_ix (ix_listK (K := kf.K) rfl) (pv 2) (pv 6) (fun _ _ => rfl))))))
 (pss_cons (ps_set (i := 7) sc__law_numbers.nd rfl (Or.inl rfl) (pe_op op_mod (pe_op op_add (pe_op op_add (pe_op op_add (pv 3) (pe_op op_mul pe_int (pv 1))) (pe_op op_mul (pe_op op_mul pe_int (pv 6)) (pv 6))) (pv 6)) pe_int))
 (pss_cons (ps_set (i := 7) sc__law_numbers.nd rfl (Or.inl rfl) (pe_op op_mod (pe_op op_mul (pv 7) pe_int) pe_int))
 (pss_cons (ps_set (i := 7) sc__law_numbers.nd rfl (Or.inl rfl) (pe_op op_mod (pe_op op_mul (pe_op op_mod (pe_op op_mul (pv 7) (pv 7)) pe_int) pe_int) pe_int))
 (pss_one (ps_expr (pe_bmK (K := kf.K) rfl PySem.F.plainAttrs_list PySem.F.slot_list_append PySem.F.type_list_append mt_append (pv 5) (pa_cons (pe_op op_mod (pe_op op_fdivW (pv 7) pe_int) (pe_ix (ix_listK (K := kf.K) rfl) (pv 2) (pv 6) (fun _ _ => rfl))) pa_nil))))))))))
 (pss_one (ps_ret (pv 5))))))), tie_plain (n := 3) (k := 5) (B := SQ.B__law_numbers) rfl ?_ h⟩
  exact (c_seq (c_asg (c_yR (c_cb b_max2 (c_qcons (c_var 0) (c_qcons (c_op o_sub (c_un o_neg (c_c (v := .int 1) rfl)) (c_var 0)) c_qnil)))))
 (c_seq (c_asg (c_yvar 3))
 (c_seq (c_asg (c_ylst c_onil))
 (c_seq (c_for (c_iR1 (c_lcons (c_dR (c_cb b_len (c_qcons (c_var 2) c_qnil))) c_lnil)) (c_gname 6)
 (c_sif (c_tR (c_bAnd (c_bR (c_op o_ge (c_var 3) (c_op o_pow (c_c (v := .int 10) rfl) (c_c (v := .int 18) rfl)))) (c_bR (c_op o_gt (c_var 4) (c_c (v := .int 0) rfl)))))
 (c_seq (c_app (c_yR (c_op o_mod (c_var 4) (c_ix x_list (c_var 2) (c_var 6)))))
 (c_asg (c_yR (c_op o_div (c_var 4) (c_ix x_list (c_var 2) (c_var 6))))))
 (c_seq (c_asg (c_yR (c_op o_mod (c_op o_add (c_op o_add (c_op o_add (c_var 3) (c_op o_mul (c_c (v := .int 7919) rfl) (c_var 1))) (c_op o_mul (c_op o_mul (c_c (v := .int 101) rfl) (c_var 6)) (c_var 6))) (c_var 6)) (c_c (v := .int 2147483647) rfl))))
 (c_seq (c_asg (c_yR (c_op o_mod (c_op o_mul (c_var 7) (c_c (v := .int 48271) rfl)) (c_c (v := .int 2147483647) rfl))))
 (c_seq (c_asg (c_yR (c_op o_mod (c_op o_mul (c_op o_mod (c_op o_mul (c_var 7) (c_var 7)) (c_c (v := .int 2147483629) rfl)) (c_c (v := .int 48271) rfl)) (c_c (v := .int 2147483647) rfl))))
 (c_app (c_yR (c_op o_mod (c_op o_div (c_var 7) (c_c (v := .int 16) rfl)) (c_ix x_list (c_var 2) (c_var 6))))))))))
 (c_ret (c_ymov 5))))))
theorem ok__law_order (B : Bn mg) (T : Tp kf.K mg "_law_order" s__law_order) : FnQ P w kf.K mg base CX0 1 T.a T.fd ["_law_digits"] (spP 1 SQ.m__law_order) := by
  refine fnq_of T.F sc__law_order (spP_len rfl) fun cdv A outer s H vs Q E hr hg h => ?_
  refine ⟨_, PSs.nox (pss_cons (ps_set (i := 1) sc__law_order.nd rfl (Or.inr rfl) (pe_listRg rfl (by rfl) B.n_list (prg_1 (by rfl) B.n_range (pe_callB (call_len_seqK (K := kf.K) rfl) (by rfl) B.n_len PySem.boot_len (pa_cons (pv 0) pa_nil)))))
 (pss_one (ps_ret (pe_lc (own := [("_law_digit", 2)]) rfl sc__law_order.nd (pi_listK (K := kf.K) rfl (pv 0)) (blkOk_by (own := [("_law_digit", 2)]) (N := ["_law_digits", "_law_names", "_law_digit"]) (sc := defScope s__law_order) (by decide +kernel)) (fun _ _ _ _ _ => (pg_name (i := 2) sc__law_order.nd rfl (Or.inl rfl))) (fun _ _ _ _ _ => pts_nil) (fun _ _ _ _ _ => (pe_bmK (K := kf.K) rfl PySem.F.plainAttrs_list PySem.F.slot_list_pop PySem.F.type_list_pop mt_popAt (pv 1) (pa_cons (pe_op op_mod (pv 2) (pe_callB (call_len_seqK (K := kf.K) rfl) (by rfl) B.n_len PySem.boot_len (pa_cons (pv 1) pa_nil))) pa_nil))))))), tie_plain (n := 1) (k := 2) (B := SQ.B__law_order) rfl ?_ h⟩
  exact (c_seq (c_asg (c_yrng (c_dR (c_cb b_len (c_qcons (c_var 0) c_qnil)))))
 (c_ret (c_ylc (vs := [2]) (c_iL (c_dY (c_yvar 0))) (c_gname 2) (by decide) c_tyes (c_pop (c_dR (c_op o_mod (c_var 2) (c_cb b_len (c_qcons (c_var 1) c_qnil))))))))
end
end z83
namespace z83
open PySem L2 PL MR SH SQ
open PySem L2 PL
local macro_rules | `(tactic| walk_at "sd") => `(tactic| first | rfl | assumption | omega | decide)
section
variable {P : Program} {w : World} [kf : KF] {mg : Str → Option Value} {base : Heap}
theorem ok__law_web (B : Bn mg) (T : Tp kf.K mg "_law_web" s__law_web) (d__law_numbers : Dq P w kf.K mg base "_law_numbers" 1 ["_law_cell", "_law_salt", "_law_sizes"] (spP 3 SQ.m__law_numbers)) (d__law_order : Dq P w kf.K mg base "_law_order" 1 ["_law_digits"] (spP 1 SQ.m__law_order)) : FnQ P w kf.K mg base CX0 2 T.a T.fd ["_law_cell", "_law_salt", "_law_most", "_law_more", "_law_loose"] (spP 5 SQ.m__law_web) := by
  refine fnq_of T.F sc__law_web (spP_len rfl) fun cdv A outer s H vs Q E hr hg h => ?_
  refine ⟨_, PSs.nox (pss_cons (ps_set (i := 5) sc__law_web.nd rfl (Or.inr rfl) (pe_op op_add pe_int (pe_ix (ix_listK (K := kf.K) rfl) (pe_callQ d__law_numbers.G (hr.mono (by decide)) hg (by rfl) d__law_numbers.g d__law_numbers.kp d__law_numbers.b pass0 (pa_cons (pv 0) (pa_cons (pv 1) (pa_cons (pe_lst (pa_cons (pv 2) pa_nil)) pa_nil)))) pe_int (fun _ _ => rfl))))
 (pss_cons (ps_set (i := 6) sc__law_web.nd rfl (Or.inl rfl) (pe_op (op_catRK (K := kf.K) rfl) (pe_op (op_catRK (K := kf.K) rfl) (pe_lst (pa_cons (pv 2) (pa_cons (pe_op op_add (pv 3) pe_int) pa_nil))) (pe_lc (own := [("_law_k", 7)]) rfl sc__law_web.nd (pi_range1 (by rfl) B.n_range (pa_cons (pe_op op_sub (pv 5) pe_int) pa_nil)) (blkOk_by (own := [("_law_k", 7)]) (N := ["_law_cell", "_law_salt", "_law_most", "_law_more", "_law_loose", "_law_many", "_law_sizes", "_law_k", "_law_digits", "_law_order_here", "_law_pairs", "_law_digit", "_law_ties", "_law_one", "_law_other"]) (sc := defScope s__law_web) (by decide +kernel)) (fun _ _ _ _ _ => (pg_name (i := 7) sc__law_web.nd rfl (Or.inl rfl))) (fun _ _ _ _ _ => pts_nil) (fun _ _ _ _ _ => (pe_op op_add (pv 7) pe_int)))) (pe_lc (own := [("_law_k", 7)]) rfl sc__law_web.nd (pi_range1 (by rfl) B.n_range (pa_cons (pv 5) pa_nil)) (blkOk_by (own := [("_law_k", 7)]) (N := ["_law_cell", "_law_salt", "_law_most", "_law_more", "_law_loose", "_law_many", "_law_sizes", "_law_k", "_law_digits", "_law_order_here", "_law_pairs", "_law_digit", "_law_ties", "_law_one", "_law_other"]) (sc := defScope s__law_web) (by decide +kernel)) (fun _ _ _ _ _ => (pg_name (i := 7) sc__law_web.nd rfl (Or.inl rfl))) (fun _ _ _ _ _ => pts_nil) (fun _ _ _ _ _ => (pe_op op_sub (pv 5) (pv 7))))))
 (pss_cons (ps_set (i := 8) sc__law_web.nd rfl (Or.inr rfl) (pe_callQ d__law_numbers.G (hr.mono (by decide)) hg (by rfl) d__law_numbers.g d__law_numbers.kp d__law_numbers.b pass0 (pa_cons (pv 0) (pa_cons (pv 1) (pa_cons (pe_op (op_catRK (K := kf.K) rfl) (pe_op (op_catRK (K := kf.K) rfl) (pv 6) (pe_op op_rep (pe_lst (pa_cons (pe_op op_mul (pv 5) (pv 5)) pa_nil)) (pv 3))) (pe_op op_rep (pe_lst (pa_cons pe_int pa_nil)) (pe_op op_sub (pv 5) pe_int))) pa_nil)))))
 (pss_cons (ps_set (i := 9) sc__law_web.nd rfl (Or.inl rfl) (pe_callQ d__law_order.G (hr.mono (by decide)) hg (by rfl) d__law_order.g d__law_order.kp d__law_order.b pass0 (pa_cons (pe_slice (sl_listK (K := kf.K) rfl) (pv 8) (po_some (pe_op op_add (pv 5) pe_int)) (po_some (pe_op op_add (pe_op op_mul pe_int (pv 5)) pe_int))) pa_nil)))
 (pss_cons (ps_setLc (i := 10) (own := [("_law_k", 7)]) rfl sc__law_web.nd rfl rfl (sw_true rfl rfl rfl (by decide +kernel)) (pi_range1 (by rfl) B.n_range (pa_cons (pe_op op_sub (pv 5) pe_int) pa_nil)) (blkOk_by (own := [("_law_k", 7)]) (N := ["_law_cell", "_law_salt", "_law_most", "_law_more", "_law_loose", "_law_many", "_law_sizes", "_law_k", "_law_digits", "_law_order_here", "_law_pairs", "_law_digit", "_law_ties", "_law_one", "_law_other"]) (sc := defScope s__law_web) (by decide +kernel)) (fun _ _ _ _ _ => (pg_name (i := 7) sc__law_web.nd rfl (Or.inl rfl))) (fun _ _ _ _ _ => pts_one (PW.pt (pw_or (pt_not (pt_val (pv 4))) (pw_or1 (pt_cmpR op_gt (pe_ix (ix_listK (K := kf.K) rfl) (pv 8) (pe_op op_sub (pe_un un_neg pe_int) (pv 7)) (fun _ _ => rfl)) pe_int (nomark _)))))) (fun _ _ _ _ _ => (pe_tup (pa_cons (pe_op op_add (pv 7) pe_int) (pa_cons (pe_ix (ix_listK (K := kf.K) rfl) (pv 8) (pe_op op_add pe_int (pv 7)) (fun _ _ => rfl)) pa_nil)))))
 (pss_cons (ps_expr (pe_bmK (K := kf.K) rfl PySem.F.plainAttrs_list PySem.F.slot_list_extend PySem.F.type_list_extend mt_extend (pv 10) (pa_cons (pe_lc (own := [("_law_digit", 11)]) rfl sc__law_web.nd (pi_listK (K := kf.K) rfl (pe_slice (sl_listK (K := kf.K) rfl) (pv 8) (po_some (pe_op op_add (pe_op op_mul pe_int (pv 5)) pe_int)) (po_some (pe_op op_add (pe_op op_add (pe_op op_mul pe_int (pv 5)) pe_int) (pe_ix (ix_listK (K := kf.K) rfl) (pv 8) pe_int (fun _ _ => rfl)))))) (blkOk_by (own := [("_law_digit", 11)]) (N := ["_law_cell", "_law_salt", "_law_most", "_law_more", "_law_loose", "_law_many", "_law_sizes", "_law_k", "_law_digits", "_law_order_here", "_law_pairs", "_law_digit", "_law_ties", "_law_one", "_law_other"]) (sc := defScope s__law_web) (by decide +kernel)) (fun _ _ _ _ _ => (pg_name (i := 11) sc__law_web.nd rfl (Or.inl rfl))) (fun _ _ _ _ _ => pts_nil) (fun _ _ _ _ _ => (pe_tup (pa_cons (pe_op op_fdivW (pv 11) (pv 5)) (pa_cons (pe_op op_mod (pv 11) (pv 5)) pa_nil))))) pa_nil)))
 (pss_cons (ps_set (i := 12) sc__law_web.nd rfl (Or.inl rfl) pe_dnewT)
 (pss_cons (ps_for PassesOwn.never rfl (pi_listK (K := kf.K) rfl (pv 10)) (pg_tup rfl (pgs_cons (pg_name (i := 13) sc__law_web.nd rfl (Or.inl rfl)) (pgs_cons (pg_name (i := 14) sc__law_web.nd rfl (Or.inl rfl)) pgs_nil)))
 (pss_one (ps_if (pt_cmpR op_ne (pv 13) (pv 14) (nomark _))
 (pss_one (ps_dput (hu_of hr) (pv 12) (pe_tup (pa_cons (pe_callB (call_min2 rfl) (by rfl) B.n_min (by decide +kernel) (pa_cons (pe_ix (ix_listK (K := kf.K) rfl) (pv 9) (pv 13) (fun _ _ => rfl)) (pa_cons (pe_ix (ix_listK (K := kf.K) rfl) (pv 9) (pv 14) (fun _ _ => rfl)) pa_nil))) (pa_cons (pe_callB (call_max2 rfl) (by rfl) B.n_max (by decide +kernel) (pa_cons (pe_ix (ix_listK (K := kf.K) rfl) (pv 9) (pv 13) (fun _ _ => rfl)) (pa_cons (pe_ix (ix_listK (K := kf.K) rfl) (pv 9) (pv 14) (fun _ _ => rfl)) pa_nil))) pa_nil))) pe_bl rfl))
 pss_nil)))
 (pss_one (ps_ret (pe_tup (pa_cons (pv 5) (pa_cons (pe_callB (cr_sortedDT rfl) (by rfl) B.n_sorted (by decide +kernel) (pa_cons (pv 12) pa_nil)) pa_nil))))))))))))), tie_plain (n := 5) (k := 10) (B := SQ.B__law_web) rfl ?_ h⟩
  exact (c_seq (c_asg (c_yR (c_op o_add (c_c (v := .int 1) rfl) (c_ix x_list (c_call (c_qcons (c_var 0) (c_qcons (c_var 1) (c_qcons (c_lst (c_qcons (c_var 2) c_qnil)) c_qnil)))) (c_c (v := .int 0) rfl)))))
 (c_seq (c_asg (c_yop z_cat (c_dY (c_yop z_cat (c_dY (c_ylst (c_ocons (c_yvar 2) (c_ocons (c_yR (c_op o_add (c_var 3) (c_c (v := .int 1) rfl))) c_onil)))) (c_dY (c_ylc (vs := [7]) (c_iR1 (c_lcons (c_dR (c_op o_sub (c_var 5) (c_c (v := .int 1) rfl))) c_lnil)) (c_gname 7) (by decide) c_tyes (c_yR (c_op o_add (c_var 7) (c_c (v := .int 1) rfl))))))) (c_dY (c_ylc (vs := [7]) (c_iR1 (c_lcons (c_dY (c_yvar 5)) c_lnil)) (c_gname 7) (by decide) c_tyes (c_yR (c_op o_sub (c_var 5) (c_var 7)))))))
 (c_seq (c_asg (c_ycall (c_lcons (c_dY (c_yvar 0)) (c_lcons (c_dY (c_yvar 1)) (c_lcons (c_dY (c_yop z_cat (c_dY (c_yop z_cat (c_dY (c_yvar 6)) (c_dY (c_yrep (c_ylst (c_ocons (c_yR (c_op o_mul (c_var 5) (c_var 5))) c_onil)) (c_var 3))))) (c_dY (c_yrep (c_ylst (c_ocons (c_yR (c_c (v := .int 3) rfl)) c_onil)) (c_op o_sub (c_var 5) (c_c (v := .int 1) rfl)))))) c_lnil)))))
 (c_seq (c_asg (c_ycallA (c_qcons (c_rsl (c_var 8) (c_csome (c_op o_add (c_var 5) (c_c (v := .int 1) rfl))) (c_csome (c_op o_add (c_op o_mul (c_c (v := .int 2) rfl) (c_var 5)) (c_c (v := .int 1) rfl)))) c_qnil) (c_lcons (c_dY (c_yslA (c_var 8) (c_dY (c_yvar 8)) (c_csome (c_op o_add (c_var 5) (c_c (v := .int 1) rfl))) (c_csome (c_op o_add (c_op o_mul (c_c (v := .int 2) rfl) (c_var 5)) (c_c (v := .int 1) rfl))))) c_lnil)))
 (c_seq (c_asg (c_ylc (vs := [7]) (c_iR1 (c_lcons (c_dR (c_op o_sub (c_var 5) (c_c (v := .int 1) rfl))) c_lnil)) (c_gname 7) (by decide) (c_tR (c_bOr (c_bNot (c_bB (c_var 4))) (c_bR (c_op o_gt (c_ix x_list (c_var 8) (c_op o_sub (c_un o_neg (c_c (v := .int 1) rfl)) (c_var 7))) (c_c (v := .int 0) rfl))))) (c_ytup (c_ocons (c_yR (c_op o_add (c_var 7) (c_c (v := .int 1) rfl))) (c_ocons (c_yauto (c_ix x_list (c_var 8) (c_op o_add (c_c (v := .int 2) rfl) (c_var 7))) (c_yD (c_dixR x_list (c_dY (c_yvar 8)) (c_op o_add (c_c (v := .int 2) rfl) (c_var 7))))) c_onil)))))
 (c_seq (c_ext (c_ylc (vs := [11]) (c_iL (c_dY (c_yslA (c_var 8) (c_dY (c_yvar 8)) (c_csome (c_op o_add (c_op o_mul (c_c (v := .int 2) rfl) (c_var 5)) (c_c (v := .int 1) rfl))) (c_csome (c_op o_add (c_op o_add (c_op o_mul (c_c (v := .int 2) rfl) (c_var 5)) (c_c (v := .int 1) rfl)) (c_ix x_list (c_var 8) (c_c (v := .int 1) rfl))))))) (c_gname 11) (by decide) c_tyes (c_ytup (c_ocons (c_yR (c_op o_div (c_var 11) (c_var 5))) (c_ocons (c_yR (c_op o_mod (c_var 11) (c_var 5))) c_onil)))))
 (c_seq (c_asg c_dnew)
 (c_seq (c_for (c_iL (c_dY (c_yvar 10))) (c_gtup (c_gscons (c_gname 13) (c_gscons (c_gname 14) c_gsnil)))
 (c_sif (c_tR (c_bR (c_op o_neI (c_var 13) (c_var 14))))
 (c_dput (c_tup (c_qcons (c_cb b_min2 (c_qcons (c_ix x_list (c_var 9) (c_var 13)) (c_qcons (c_ix x_list (c_var 9) (c_var 14)) c_qnil))) (c_qcons (c_cb b_max2 (c_qcons (c_ix x_list (c_var 9) (c_var 13)) (c_qcons (c_ix x_list (c_var 9) (c_var 14)) c_qnil))) c_qnil))) (c_c (v := .bl true) rfl))
 c_next))
 (c_ret (c_ytup (c_ocons (c_ymov 5) (c_ocons c_sortD c_onil))))))))))))
theorem ok_law (B : Bn mg) (T : Tp kf.K mg "law" s_law) (d__law_all_read : Dq P w kf.K mg base "_law_all_read" 6 ["_law_webs"] (spP 1 m__law_all_read)) (d_read_webs : Dq P w kf.K mg base "read_webs" 5 ["text"] (spP 1 m_read_webs)) (d_show_webs : Dq P w kf.K mg base "show_webs" 5 ["webs"] (spP 1 m_show_webs)) (d__law_read : Dq P w kf.K mg base "_law_read" 6 ["_law_web_here"] (spP 1 m__law_read)) (d__law_numbers : Dq P w kf.K mg base "_law_numbers" 1 ["_law_cell", "_law_salt", "_law_sizes"] (spP 3 SQ.m__law_numbers)) (d__law_web : Dq P w kf.K mg base "_law_web" 2 ["_law_cell", "_law_salt", "_law_most", "_law_more", "_law_loose"] (spP 5 SQ.m__law_web)) : FnQ P w kf.K mg base CX0 7 T.a T.fd ["_law_script"] (spP 1 m_law) := by
  refine fnq_of T.F sc_law (spP_len rfl) fun cdv A outer s H vs Q E hr hg h => ?_
  refine ⟨_, PSs.nox (pss_cons (ps_if (PW.pt (pw_or (pt_cmpR op_ne (pe_callB (cr_reprK (K := kf.K) rfl hg hr.units) (by rfl) B.n_repr (by decide +kernel) (pa_cons (pe_callQ d_read_webs.G (hr.mono (by decide)) hg (by rfl) d_read_webs.g d_read_webs.kp d_read_webs.b pass0 (pa_cons (pe_callQ d_show_webs.G (hr.mono (by decide)) hg (by rfl) d_show_webs.g d_show_webs.kp d_show_webs.b pass0 (pa_cons (pe_lst pa_nil) pa_nil)) pa_nil)) pa_nil)) pe_str (nomark _)) (pw_or1 (pt_not (pt_val (pe_callQ d__law_all_read.G (hr.mono (by decide)) hg (by rfl) d__law_all_read.g d__law_all_read.kp d__law_all_read.b pass0 (pa_cons (pe_op op_rep (pe_lst (pa_cons (pe_tup (pa_cons pe_int (pa_cons (pe_lst (pa_cons (pe_tup (pa_cons pe_int (pa_cons pe_int pa_nil))) pa_nil)) pa_nil))) pa_nil)) pe_int) pa_nil)))))))
 (pss_one (ps_ret pe_bl))
 pss_nil)
 (pss_cons (ps_set (i := 1) sc_law.nd rfl (Or.inl rfl) (pe_lst pa_nil))
 (pss_cons (ps_for PassesOwn.never rfl (pi_range1 (by rfl) B.n_range (pa_cons pe_int pa_nil)) (pg_name (i := 2) sc_law.nd rfl (Or.inr rfl))
 (pss_one (ps_expr (pe_bmK (K := kf.K) rfl PySem.F.plainAttrs_list PySem.F.slot_list_extend PySem.F.type_list_extend mt_extend (pv 1) (pa_cons (pe_lc (own := [("_law_other", 3)]) rfl sc_law.nd (pi_range2 (by rfl) B.n_range (pa_cons (pe_op op_add (pv 2) pe_int) (pa_cons pe_int pa_nil))) (blkOk_by (own := [("_law_other", 3)]) (N := ["_law_script", "_law_ties", "_law_one", "_law_other", "_law_webs", "_law_at", "_law_cell", "_law_size"]) (sc := defScope s_law) (by decide +kernel)) (fun _ _ _ _ _ => (pg_name (i := 3) sc_law.nd rfl (Or.inl rfl))) (fun _ _ _ _ _ => pts_nil) (fun _ _ _ _ _ => (pe_tup (pa_cons (pv 2) (pa_cons (pv 3) pa_nil))))) pa_nil)))))
 (pss_cons (ps_if (PW.pt (pw_or (pt_not (pt_val (pe_callQ d__law_read.G (hr.mono (by decide)) hg (by rfl) d__law_read.g d__law_read.kp d__law_read.b pass0 (pa_cons (pe_tup (pa_cons pe_int (pa_cons (pv 1) pa_nil))) pa_nil)))) (pw_or1 (pt_not (pt_val (pe_callQ d__law_all_read.G (hr.mono (by decide)) hg (by rfl) d__law_all_read.g d__law_all_read.kp d__law_all_read.b pass0 (pa_cons (pe_op (op_catRK (K := kf.K) rfl) (pe_lst (pa_cons (pe_tup (pa_cons pe_int (pa_cons (pv 1) pa_nil))) (pa_cons (pe_tup (pa_cons pe_int (pa_cons (pe_lst pa_nil) pa_nil))) pa_nil))) (pe_op op_rep (pe_lst (pa_cons (pe_tup (pa_cons pe_int (pa_cons (pv 1) pa_nil))) pa_nil)) pe_int)) pa_nil)))))))
 (pss_one (ps_ret pe_bl))
 pss_nil)
 (pss_cons (ps_set (i := 4) sc_law.nd rfl (Or.inl rfl) (pe_lst pa_nil))
 (pss_cons (ps_for PassesOwn.never rfl (pi_enum (by rfl) B.n_enumerate (pa_cons (pe_op (op_catRK (K := kf.K) rfl) (pe_slice (sl_listK (K := kf.K) rfl) (pv 0) po_none (po_some pe_int)) (pe_op op_rep (pe_lst (pa_cons pe_int pa_nil)) (pe_callTy call_int1 (by rfl) B.n_int (by decide +kernel) (pa_cons (pe_cmpR (op_eqDK (K := kf.K) rfl hr.units) (pv 0) (pe_lst pa_nil) (nomark _)) pa_nil)))) pa_nil)) (pg_tup rfl (pgs_cons (pg_name (i := 5) sc_law.nd rfl (Or.inl rfl)) (pgs_cons (pg_name (i := 6) sc_law.nd rfl (Or.inl rfl)) pgs_nil)))
 (pss_cons (ps_set (i := 7) sc_law.nd rfl (Or.inl rfl) (pe_ix (ix_listK (K := kf.K) rfl) (pe_callQ d__law_numbers.G (hr.mono (by decide)) hg (by rfl) d__law_numbers.g d__law_numbers.kp d__law_numbers.b pass0 (pa_cons (pv 6) (pa_cons (pe_op op_add pe_int (pv 5)) (pa_cons (pe_lst (pa_cons pe_int pa_nil)) pa_nil)))) pe_int (fun _ _ => rfl)))
 (pss_cons (ps_set (i := 4) sc_law.nd rfl (Or.inl rfl) (pe_op (op_catRK (K := kf.K) rfl) (pe_slice (sl_listK (K := kf.K) rfl) (pv 4) (po_some (pe_op op_sub pe_int pe_int)) po_none) (pe_lst (pa_cons (pe_callQ d__law_web.G (hr.mono (by decide)) hg (by rfl) d__law_web.g d__law_web.kp d__law_web.b pass0 (pa_cons (pe_op op_fdivW (pv 6) pe_int) (pa_cons (pv 5) (pa_cons (pe_ix (ix_listK (K := kf.K) rfl) (pe_lst (pa_cons pe_int (pa_cons pe_int (pa_cons pe_int (pa_cons pe_int pa_nil))))) (pv 7) (fun _ _ => rfl)) (pa_cons (pe_ix (ix_listK (K := kf.K) rfl) (pe_lst (pa_cons pe_int (pa_cons pe_int (pa_cons pe_int (pa_cons pe_int pa_nil))))) (pv 7) (fun _ _ => rfl)) (pa_cons pe_bl pa_nil)))))) pa_nil))))
 (pss_cons (ps_if (pt_not (pt_val (pe_callQ d__law_read.G (hr.mono (by decide)) hg (by rfl) d__law_read.g d__law_read.kp d__law_read.b pass0 (pa_cons (pe_ix (ix_listK (K := kf.K) rfl) (pv 4) (pe_un un_neg pe_int) (fun _ _ => rfl)) pa_nil))))
 (pss_one (ps_ret pe_bl))
 pss_nil)
 (pss_one (ps_if (PW.pt (pw_and (pt_cmpR op_eq (pe_op op_mod (pv 5) pe_int) pe_int (nomark _)) (pw_and1 (pt_not (pt_val (pe_callQ d__law_all_read.G (hr.mono (by decide)) hg (by rfl) d__law_all_read.g d__law_all_read.kp d__law_all_read.b pass0 (pa_cons (pe_slice (sl_listK (K := kf.K) rfl) (pv 4) (po_some (pe_op op_sub (pe_un un_neg pe_int) (pe_op op_mod (pv 5) pe_int))) po_none) pa_nil)))))))
 (pss_one (ps_ret pe_bl))
 pss_nil))))))
 (pss_one (ps_ret pe_bl)))))))), tie_plain (n := 1) (k := 7) (B := B_law) rfl ?_ h⟩
  exact (c_seq (c_sif (c_tor (c_tR (c_bR (c_op o_neS (c_repr (c_call (c_qcons (c_call (c_qcons (c_lst c_qnil) c_qnil)) c_qnil))) (c_c (v := .str "[]") rfl)))) (c_tnot (c_tDB (c_dY (c_ycall (c_lcons (c_dY (c_yrep (c_ylst (c_ocons (c_yD (c_dY (c_ytup (c_ocons (c_yR (c_c (v := .int 2) rfl)) (c_ocons (c_ylst (c_ocons (c_ytup (c_ocons (c_yR (c_c (v := .int 0) rfl)) (c_ocons (c_yR (c_c (v := .int 1) rfl)) c_onil))) c_onil)) c_onil))))) c_onil)) (c_c (v := .int 3) rfl))) c_lnil))))))
 (c_ret (c_yR (c_c (v := .bl false) rfl)))
 c_next)
 (c_seq (c_asg (c_ylst c_onil))
 (c_seq (c_for (c_iR1 (c_lcons (c_dR (c_c (v := .int 16) rfl)) c_lnil)) (c_gname 2)
 (c_ext (c_ylc (vs := [3]) (c_iR2 (c_lcons (c_dR (c_op o_add (c_var 2) (c_c (v := .int 1) rfl))) (c_lcons (c_dR (c_c (v := .int 16) rfl)) c_lnil))) (c_gname 3) (by decide) c_tyes (c_ytup (c_ocons (c_yvar 2) (c_ocons (c_yvar 3) c_onil))))))
 (c_seq (c_sif (c_tor (c_tR (c_bNot (c_bB (c_call (c_qcons (c_tup (c_qcons (c_c (v := .int 17) rfl) (c_qcons (c_var 1) c_qnil))) c_qnil))))) (c_tnot (c_tDB (c_dY (c_ycall (c_lcons (c_dY (c_yop z_cat (c_dY (c_ylst (c_ocons (c_ytup (c_ocons (c_yR (c_c (v := .int 17) rfl)) (c_ocons (c_yvar 1) c_onil))) (c_ocons (c_ytup (c_ocons (c_yR (c_c (v := .int 40) rfl)) (c_ocons (c_ylst c_onil) c_onil))) c_onil)))) (c_dY (c_yrep (c_ylst (c_ocons (c_yD (c_dY (c_ytup (c_ocons (c_yR (c_c (v := .int 17) rfl)) (c_ocons (c_yvar 1) c_onil))))) c_onil)) (c_c (v := .int 10) rfl))))) c_lnil))))))
 (c_ret (c_yR (c_c (v := .bl false) rfl)))
 c_next)
 (c_seq (c_asg (c_ylst c_onil))
 (c_seq (c_for (c_iE (c_lcons (c_dY (c_yop z_cat (c_dY (c_yslA (c_var 0) (c_dY (c_yvar 0)) c_cnone (c_csome (c_c (v := .int 60) rfl)))) (c_dY (c_yrep (c_ylst (c_ocons (c_yR (c_c (v := .int 8) rfl)) c_onil)) (c_cb b_int (c_qcons (c_op o_eqD (c_var 0) (c_lst c_qnil)) c_qnil)))))) c_lnil)) (c_gtup (c_gscons (c_gname 5) (c_gscons (c_gname 6) c_gsnil)))
 (c_seq (c_asg (c_yauto (c_ix x_list (c_call (c_qcons (c_var 6) (c_qcons (c_op o_add (c_c (v := .int 500) rfl) (c_var 5)) (c_qcons (c_lst (c_qcons (c_c (v := .int 4) rfl) c_qnil)) c_qnil)))) (c_c (v := .int 0) rfl)) (c_yD (c_dixR x_list (c_dY (c_ycallA (c_qcons (c_var 6) (c_qcons (c_op o_add (c_c (v := .int 500) rfl) (c_var 5)) (c_qcons (c_lst (c_qcons (c_c (v := .int 4) rfl) c_qnil)) c_qnil))) (c_lcons (c_dY (c_yvar 6)) (c_lcons (c_dR (c_op o_add (c_c (v := .int 500) rfl) (c_var 5))) (c_lcons (c_dY (c_ylst (c_ocons (c_yR (c_c (v := .int 4) rfl)) c_onil))) c_lnil))))) (c_c (v := .int 0) rfl)))))
 (c_seq (c_asg (c_yopA z_cat (c_rsl (c_var 4) (c_csome (c_op o_sub (c_c (v := .int 1) rfl) (c_c (v := .int 12) rfl))) c_cnone) (c_lst (c_qcons (c_call (c_qcons (c_op o_div (c_var 6) (c_c (v := .int 4) rfl)) (c_qcons (c_var 5) (c_qcons (c_ix x_list (c_lst (c_qcons (c_c (v := .int 3) rfl) (c_qcons (c_c (v := .int 8) rfl) (c_qcons (c_c (v := .int 11) rfl) (c_qcons (c_c (v := .int 40) rfl) c_qnil))))) (c_var 7)) (c_qcons (c_ix x_list (c_lst (c_qcons (c_c (v := .int 3) rfl) (c_qcons (c_c (v := .int 9) rfl) (c_qcons (c_c (v := .int 30) rfl) (c_qcons (c_c (v := .int 60) rfl) c_qnil))))) (c_var 7)) (c_qcons (c_c (v := .bl true) rfl) c_qnil)))))) c_qnil)) (c_dY (c_yslA (c_var 4) (c_dY (c_yvar 4)) (c_csome (c_op o_sub (c_c (v := .int 1) rfl) (c_c (v := .int 12) rfl))) c_cnone)) (c_dY (c_ylst (c_ocons (c_ycallA (c_qcons (c_op o_div (c_var 6) (c_c (v := .int 4) rfl)) (c_qcons (c_var 5) (c_qcons (c_ix x_list (c_lst (c_qcons (c_c (v := .int 3) rfl) (c_qcons (c_c (v := .int 8) rfl) (c_qcons (c_c (v := .int 11) rfl) (c_qcons (c_c (v := .int 40) rfl) c_qnil))))) (c_var 7)) (c_qcons (c_ix x_list (c_lst (c_qcons (c_c (v := .int 3) rfl) (c_qcons (c_c (v := .int 9) rfl) (c_qcons (c_c (v := .int 30) rfl) (c_qcons (c_c (v := .int 60) rfl) c_qnil))))) (c_var 7)) (c_qcons (c_c (v := .bl true) rfl) c_qnil))))) (c_lcons (c_dR (c_op o_div (c_var 6) (c_c (v := .int 4) rfl))) (c_lcons (c_dY (c_yvar 5)) (c_lcons (c_dY (c_yauto (c_ix x_list (c_lst (c_qcons (c_c (v := .int 3) rfl) (c_qcons (c_c (v := .int 8) rfl) (c_qcons (c_c (v := .int 11) rfl) (c_qcons (c_c (v := .int 40) rfl) c_qnil))))) (c_var 7)) (c_yD (c_dixR x_list (c_dY (c_ylst (c_ocons (c_yR (c_c (v := .int 3) rfl)) (c_ocons (c_yR (c_c (v := .int 8) rfl)) (c_ocons (c_yR (c_c (v := .int 11) rfl)) (c_ocons (c_yR (c_c (v := .int 40) rfl)) c_onil)))))) (c_var 7))))) (c_lcons (c_dY (c_yauto (c_ix x_list (c_lst (c_qcons (c_c (v := .int 3) rfl) (c_qcons (c_c (v := .int 9) rfl) (c_qcons (c_c (v := .int 30) rfl) (c_qcons (c_c (v := .int 60) rfl) c_qnil))))) (c_var 7)) (c_yD (c_dixR x_list (c_dY (c_ylst (c_ocons (c_yR (c_c (v := .int 3) rfl)) (c_ocons (c_yR (c_c (v := .int 9) rfl)) (c_ocons (c_yR (c_c (v := .int 30) rfl)) (c_ocons (c_yR (c_c (v := .int 60) rfl)) c_onil)))))) (c_var 7))))) (c_lcons (c_dR (c_c (v := .bl true) rfl)) c_lnil)))))) c_onil)))))
 (c_seq (c_sif (c_tR (c_bNot (c_bB (c_call (c_qcons (c_ix x_list (c_var 4) (c_un o_neg (c_c (v := .int 1) rfl))) c_qnil)))))
 (c_ret (c_yR (c_c (v := .bl false) rfl)))
 c_next)
 (c_sif (c_tR (c_bAnd (c_bR (c_op o_eqI (c_op o_mod (c_var 5) (c_c (v := .int 5) rfl)) (c_c (v := .int 0) rfl))) (c_bNot (c_bB (c_call (c_qcons (c_rsl (c_var 4) (c_csome (c_op o_sub (c_un o_neg (c_c (v := .int 1) rfl)) (c_op o_mod (c_var 5) (c_c (v := .int 12) rfl)))) c_cnone) c_qnil))))))
 (c_ret (c_yR (c_c (v := .bl false) rfl)))
 c_next)))))
 (c_ret (c_yR (c_c (v := .bl true) rfl)))))))))
end
end z83
namespace z83
open PySem L2 PL MR SH SQ
open PySem L2 PL
local macro_rules | `(tactic| walk_at "sd") => `(tactic| first | rfl | assumption | omega | decide)
theorem all_mk {l : PySem.W.OpenLaw} {w : World} {K : PySem.W.Frag} {h : Heap} {mg : Str → Option Value} {fa : Addr} {f0 : Addr} {od0 an0 : Option Addr} {sl0 : Array (Option Value)} {oc0 kV0 dc0 pm0 cd0 ct0 : Value} {f1 : Addr} {od1 an1 : Option Addr} {sl1 : Array (Option Value)} {oc1 kV1 dc1 pm1 cd1 ct1 : Value} {f2 : Addr} {od2 an2 : Option Addr} {sl2 : Array (Option Value)} {oc2 kV2 dc2 pm2 cd2 ct2 : Value} {f3 : Addr} {od3 an3 : Option Addr} {sl3 : Array (Option Value)} {oc3 kV3 dc3 pm3 cd3 ct3 : Value} {f4 : Addr} {od4 an4 : Option Addr} {sl4 : Array (Option Value)} {oc4 kV4 dc4 pm4 cd4 ct4 : Value} {f5 : Addr} {od5 an5 : Option Addr} {sl5 : Array (Option Value)} {oc5 kV5 dc5 pm5 cd5 ct5 : Value} {f6 : Addr} {od6 an6 : Option Addr} {sl6 : Array (Option Value)} {oc6 kV6 dc6 pm6 cd6 ct6 : Value} {f7 : Addr} {od7 an7 : Option Addr} {sl7 : Array (Option Value)} {oc7 kV7 dc7 pm7 cd7 ct7 : Value} {f8 : Addr} {od8 an8 : Option Addr} {sl8 : Array (Option Value)} {oc8 kV8 dc8 pm8 cd8 ct8 : Value} {f9 : Addr} {od9 an9 : Option Addr} {sl9 : Array (Option Value)} {oc9 kV9 dc9 pm9 cd9 ct9 : Value} {f10 : Addr} {od10 an10 : Option Addr} {sl10 : Array (Option Value)} {oc10 kV10 dc10 pm10 cd10 ct10 : Value} {f11 : Addr} {od11 an11 : Option Addr} {sl11 : Array (Option Value)} {oc11 kV11 dc11 pm11 cd11 ct11 : Value} {f12 : Addr} {od12 an12 : Option Addr} {sl12 : Array (Option Value)} {oc12 kV12 dc12 pm12 cd12 ct12 : Value} {f13 : Addr} {od13 an13 : Option Addr} {sl13 : Array (Option Value)} {oc13 kV13 dc13 pm13 cd13 ct13 : Value} {f14 : Addr} {od14 an14 : Option Addr} {sl14 : Array (Option Value)} {oc14 kV14 dc14 pm14 cd14 ct14 : Value} {f15 : Addr} {od15 an15 : Option Addr} {sl15 : Array (Option Value)} {oc15 kV15 dc15 pm15 cd15 ct15 : Value} {f16 : Addr} {od16 an16 : Option Addr} {sl16 : Array (Option Value)} {oc16 kV16 dc16 pm16 cd16 ct16 : Value} {f17 : Addr} {od17 an17 : Option Addr} {sl17 : Array (Option Value)} {oc17 kV17 dc17 pm17 cd17 ct17 : Value} {f18 : Addr} {od18 an18 : Option Addr} {sl18 : Array (Option Value)} {oc18 kV18 dc18 pm18 cd18 ct18 : Value} {f19 : Addr} {od19 an19 : Option Addr} {sl19 : Array (Option Value)} {oc19 kV19 dc19 pm19 cd19 ct19 : Value} {f20 : Addr} {od20 an20 : Option Addr} {sl20 : Array (Option Value)} {oc20 kV20 dc20 pm20 cd20 ct20 : Value} {tk2 : Tok} {tk3 : Tok} {tk4 : Tok} {tk5 : Tok} {tk6 : Tok} {tk7 : Tok} {tk8 : Tok}
  (X : K.In h) (G : h.Ns mainGlobals mg) (hfa : mg "law" = some (.ref fa))
  (a0 : PySem.W.nsIn K mainGlobals "_law_shown" = some (some (.ref f0))) (l0 : K.lookup f0 = some ⟨oc0, od0, .func (PySem.W.fnOf "_law_shown" "_law_shown" (defArgs s__law_shown) (defBody s__law_shown) (defScope s__law_shown) .none kV0 dc0 pm0 an0 cd0 ct0), sl0⟩) (c0 : PySem.W.codeIn K cd0 "_law_shown" = true) (k0 : PySem.W.keepIn K (.ref f0) = true)
  (a1 : PySem.W.nsIn K mainGlobals "is_whole" = some (some (.ref f1))) (l1 : K.lookup f1 = some ⟨oc1, od1, .func (PySem.W.fnOf "is_whole" "is_whole" (defArgs s_is_whole) (defBody s_is_whole) (defScope s_is_whole) .none kV1 dc1 pm1 an1 cd1 ct1), sl1⟩) (c1 : PySem.W.codeIn K cd1 "is_whole" = true) (k1 : PySem.W.keepIn K (.ref f1) = true)
  (a2 : PySem.W.nsIn K mainGlobals "joins_places" = some (some (.ref f2))) (l2 : K.lookup f2 = some ⟨oc2, od2, .func (PySem.W.fnOf "joins_places" "joins_places" (defArgs s_joins_places) (defBody s_joins_places) (defScope s_joins_places) .none kV2 dc2 pm2 an2 cd2 ct2), sl2⟩) (c2 : PySem.W.codeIn K cd2 "joins_places" = true) (k2 : PySem.W.keepIn K (.ref f2) = true)
  (a3 : PySem.W.nsIn K mainGlobals "web_fault" = some (some (.ref f3))) (l3 : K.lookup f3 = some ⟨oc3, od3, .func (PySem.W.fnOf "web_fault" "web_fault" (defArgs s_web_fault) (defBody s_web_fault) (defScope s_web_fault) .none kV3 dc3 pm3 an3 cd3 ct3), sl3⟩) (c3 : PySem.W.codeIn K cd3 "web_fault" = true) (k3 : PySem.W.keepIn K (.ref f3) = true)
  (a4 : PySem.W.nsIn K mainGlobals "look_at_webs" = some (some (.ref f4))) (l4 : K.lookup f4 = some ⟨oc4, od4, .func (PySem.W.fnOf "look_at_webs" "look_at_webs" (defArgs s_look_at_webs) (defBody s_look_at_webs) (defScope s_look_at_webs) .none kV4 dc4 pm4 an4 cd4 ct4), sl4⟩) (c4 : PySem.W.codeIn K cd4 "look_at_webs" = true) (k4 : PySem.W.keepIn K (.ref f4) = true)
  (a5 : PySem.W.nsIn K mainGlobals "written_web" = some (some (.ref f5))) (l5 : K.lookup f5 = some ⟨oc5, od5, .func (PySem.W.fnOf "written_web" "written_web" (defArgs s_written_web) (defBody s_written_web) (defScope s_written_web) .none kV5 dc5 pm5 an5 cd5 ct5), sl5⟩) (c5 : PySem.W.codeIn K cd5 "written_web" = true) (k5 : PySem.W.keepIn K (.ref f5) = true)
  (a6 : PySem.W.nsIn K mainGlobals "written_webs" = some (some (.ref f6))) (l6 : K.lookup f6 = some ⟨oc6, od6, .func (PySem.W.fnOf "written_webs" "written_webs" (defArgs s_written_webs) (defBody s_written_webs) (defScope s_written_webs) .none kV6 dc6 pm6 an6 cd6 ct6), sl6⟩) (c6 : PySem.W.codeIn K cd6 "written_webs" = true) (k6 : PySem.W.keepIn K (.ref f6) = true)
  (a7 : PySem.W.nsIn K mainGlobals "show_webs" = some (some (.ref f7))) (l7 : K.lookup f7 = some ⟨oc7, od7, .func (PySem.W.fnOf "show_webs" "show_webs" (defArgs s_show_webs) (defBody s_show_webs) (defScope s_show_webs) .none kV7 dc7 pm7 an7 cd7 ct7), sl7⟩) (c7 : PySem.W.codeIn K cd7 "show_webs" = true) (k7 : PySem.W.keepIn K (.ref f7) = true)
  (a8 : PySem.W.nsIn K mainGlobals "number_in" = some (some (.ref f8))) (l8 : K.lookup f8 = some ⟨oc8, od8, .func (PySem.W.fnOf "number_in" "number_in" (defArgs s_number_in) (defBody s_number_in) (defScope s_number_in) .none kV8 dc8 pm8 an8 cd8 ct8), sl8⟩) (c8 : PySem.W.codeIn K cd8 "number_in" = true) (k8 : PySem.W.keepIn K (.ref f8) = true)
  (a9 : PySem.W.nsIn K mainGlobals "tie_in" = some (some (.ref f9))) (l9 : K.lookup f9 = some ⟨oc9, od9, .func (PySem.W.fnOf "tie_in" "tie_in" (defArgs s_tie_in) (defBody s_tie_in) (defScope s_tie_in) .none kV9 dc9 pm9 an9 cd9 ct9), sl9⟩) (c9 : PySem.W.codeIn K cd9 "tie_in" = true) (k9 : PySem.W.keepIn K (.ref f9) = true)
  (a10 : PySem.W.nsIn K mainGlobals "web_in" = some (some (.ref f10))) (l10 : K.lookup f10 = some ⟨oc10, od10, .func (PySem.W.fnOf "web_in" "web_in" (defArgs s_web_in) (defBody s_web_in) (defScope s_web_in) .none kV10 dc10 pm10 an10 cd10 ct10), sl10⟩) (c10 : PySem.W.codeIn K cd10 "web_in" = true) (k10 : PySem.W.keepIn K (.ref f10) = true)
  (a11 : PySem.W.nsIn K mainGlobals "read_webs" = some (some (.ref f11))) (l11 : K.lookup f11 = some ⟨oc11, od11, .func (PySem.W.fnOf "read_webs" "read_webs" (defArgs s_read_webs) (defBody s_read_webs) (defScope s_read_webs) .none kV11 dc11 pm11 an11 cd11 ct11), sl11⟩) (c11 : PySem.W.codeIn K cd11 "read_webs" = true) (k11 : PySem.W.keepIn K (.ref f11) = true)
  (a12 : PySem.W.nsIn K mainGlobals "_law_all_read" = some (some (.ref f12))) (l12 : K.lookup f12 = some ⟨oc12, od12, .func (PySem.W.fnOf "_law_all_read" "_law_all_read" (defArgs s__law_all_read) (defBody s__law_all_read) (defScope s__law_all_read) .none kV12 dc12 pm12 an12 cd12 ct12), sl12⟩) (c12 : PySem.W.codeIn K cd12 "_law_all_read" = true) (k12 : PySem.W.keepIn K (.ref f12) = true)
  (a13 : PySem.W.nsIn K mainGlobals "look_at_web" = some (some (.ref f13))) (l13 : K.lookup f13 = some ⟨oc13, od13, .func (PySem.W.fnOf "look_at_web" "look_at_web" (defArgs s_look_at_web) (defBody s_look_at_web) (defScope s_look_at_web) .none kV13 dc13 pm13 an13 cd13 ct13), sl13⟩) (c13 : PySem.W.codeIn K cd13 "look_at_web" = true) (k13 : PySem.W.keepIn K (.ref f13) = true)
  (a14 : PySem.W.nsIn K mainGlobals "show_web" = some (some (.ref f14))) (l14 : K.lookup f14 = some ⟨oc14, od14, .func (PySem.W.fnOf "show_web" "show_web" (defArgs s_show_web) (defBody s_show_web) (defScope s_show_web) .none kV14 dc14 pm14 an14 cd14 ct14), sl14⟩) (c14 : PySem.W.codeIn K cd14 "show_web" = true) (k14 : PySem.W.keepIn K (.ref f14) = true)
  (a15 : PySem.W.nsIn K mainGlobals "read_web" = some (some (.ref f15))) (l15 : K.lookup f15 = some ⟨oc15, od15, .func (PySem.W.fnOf "read_web" "read_web" (defArgs s_read_web) (defBody s_read_web) (defScope s_read_web) .none kV15 dc15 pm15 an15 cd15 ct15), sl15⟩) (c15 : PySem.W.codeIn K cd15 "read_web" = true) (k15 : PySem.W.keepIn K (.ref f15) = true)
  (a16 : PySem.W.nsIn K mainGlobals "_law_read" = some (some (.ref f16))) (l16 : K.lookup f16 = some ⟨oc16, od16, .func (PySem.W.fnOf "_law_read" "_law_read" (defArgs s__law_read) (defBody s__law_read) (defScope s__law_read) .none kV16 dc16 pm16 an16 cd16 ct16), sl16⟩) (c16 : PySem.W.codeIn K cd16 "_law_read" = true) (k16 : PySem.W.keepIn K (.ref f16) = true)
  (a17 : PySem.W.nsIn K mainGlobals "_law_numbers" = some (some (.ref f17))) (l17 : K.lookup f17 = some ⟨oc17, od17, .func (PySem.W.fnOf "_law_numbers" "_law_numbers" (defArgs s__law_numbers) (defBody s__law_numbers) (defScope s__law_numbers) .none kV17 dc17 pm17 an17 cd17 ct17), sl17⟩) (c17 : PySem.W.codeIn K cd17 "_law_numbers" = true) (k17 : PySem.W.keepIn K (.ref f17) = true)
  (a18 : PySem.W.nsIn K mainGlobals "_law_order" = some (some (.ref f18))) (l18 : K.lookup f18 = some ⟨oc18, od18, .func (PySem.W.fnOf "_law_order" "_law_order" (defArgs s__law_order) (defBody s__law_order) (defScope s__law_order) .none kV18 dc18 pm18 an18 cd18 ct18), sl18⟩) (c18 : PySem.W.codeIn K cd18 "_law_order" = true) (k18 : PySem.W.keepIn K (.ref f18) = true)
  (a19 : PySem.W.nsIn K mainGlobals "_law_web" = some (some (.ref f19))) (l19 : K.lookup f19 = some ⟨oc19, od19, .func (PySem.W.fnOf "_law_web" "_law_web" (defArgs s__law_web) (defBody s__law_web) (defScope s__law_web) .none kV19 dc19 pm19 an19 cd19 ct19), sl19⟩) (c19 : PySem.W.codeIn K cd19 "_law_web" = true) (k19 : PySem.W.keepIn K (.ref f19) = true)
  (a20 : PySem.W.nsIn K mainGlobals "law" = some (some (.ref f20))) (l20 : K.lookup f20 = some ⟨oc20, od20, .func (PySem.W.fnOf "law" "law" (defArgs s_law) (defBody s_law) (defScope s_law) .none kV20 dc20 pm20 an20 cd20 ct20), sl20⟩) (c20 : PySem.W.codeIn K cd20 "law" = true) (k20 : PySem.W.keepIn K (.ref f20) = true)
  (z0 : PySem.W.nsIn K mainGlobals "all" = some none)
  (z1 : PySem.W.nsIn K mainGlobals "bool" = some none)
  (z2 : PySem.W.nsIn K mainGlobals "BETWEEN" = some (some (.str " * " tk2)))
  (z3 : PySem.W.nsIn K mainGlobals "FIGURES" = some (some (.str "0123456789" tk3)))
  (z4 : PySem.W.nsIn K mainGlobals "MOST_FIGURES" = some (some (.int 2 tk4)))
  (z5 : PySem.W.nsIn K mainGlobals "MOST_PLACES" = some (some (.int 40 tk5)))
  (z6 : PySem.W.nsIn K mainGlobals "MOST_TIES" = some (some (.int 120 tk6)))
  (z7 : PySem.W.nsIn K mainGlobals "MOST_WEBS" = some (some (.int 12 tk7)))
  (z8 : PySem.W.nsIn K mainGlobals "NO_WEBS" = some (some (.str "none" tk8)))
  (z9 : PySem.W.nsIn K mainGlobals "enumerate" = some none)
  (z10 : PySem.W.nsIn K mainGlobals "int" = some none)
  (z11 : PySem.W.nsIn K mainGlobals "isinstance" = some none)
  (z12 : PySem.W.nsIn K mainGlobals "len" = some none)
  (z13 : PySem.W.nsIn K mainGlobals "list" = some none)
  (z14 : PySem.W.nsIn K mainGlobals "max" = some none)
  (z15 : PySem.W.nsIn K mainGlobals "min" = some none)
  (z16 : PySem.W.nsIn K mainGlobals "range" = some none)
  (z17 : PySem.W.nsIn K mainGlobals "repr" = some none)
  (z18 : PySem.W.nsIn K mainGlobals "sorted" = some none)
  (z19 : PySem.W.nsIn K mainGlobals "str" = some none)
  (z20 : PySem.W.nsIn K mainGlobals "tuple" = some none) :
  ∃ fd : FuncData, (∀ (s : Shared) (v : Value), BindsTo s fd ⟨[v], []⟩ [("_law_script", v)]) ∧ ∀ base : Heap, K.In base → base.Ns mainGlobals mg → FnQ l.prog w K mg base CX0 7 fa fd ["_law_script"] (@spP ⟨K⟩ 1 m_law) := by
  have e := hfa.symm.trans (PySem.W.mg_of X G a20)
  cases e
  letI kf : KF := ⟨K⟩
  have B : Bn mg := ⟨PySem.W.mg_none_of X G z0, PySem.W.mg_none_of X G z1, ⟨_, PySem.W.mg_of X G z2⟩, ⟨_, PySem.W.mg_of X G z3⟩, ⟨_, PySem.W.mg_of X G z4⟩, ⟨_, PySem.W.mg_of X G z5⟩, ⟨_, PySem.W.mg_of X G z6⟩, ⟨_, PySem.W.mg_of X G z7⟩, ⟨_, PySem.W.mg_of X G z8⟩, PySem.W.mg_none_of X G z9, PySem.W.mg_none_of X G z10, PySem.W.mg_none_of X G z11, PySem.W.mg_none_of X G z12, PySem.W.mg_none_of X G z13, PySem.W.mg_none_of X G z14, PySem.W.mg_none_of X G z15, PySem.W.mg_none_of X G z16, PySem.W.mg_none_of X G z17, PySem.W.mg_none_of X G z18, PySem.W.mg_none_of X G z19, PySem.W.mg_none_of X G z20⟩
  let T__law_shown : Tp kf.K mg "_law_shown" s__law_shown := ⟨_, _, fun_mk (st := s__law_shown) l0 c0 k0, PySem.W.mg_of X G a0⟩
  let T_is_whole : Tp kf.K mg "is_whole" s_is_whole := ⟨_, _, fun_mk (st := s_is_whole) l1 c1 k1, PySem.W.mg_of X G a1⟩
  let T_joins_places : Tp kf.K mg "joins_places" s_joins_places := ⟨_, _, fun_mk (st := s_joins_places) l2 c2 k2, PySem.W.mg_of X G a2⟩
  let T_web_fault : Tp kf.K mg "web_fault" s_web_fault := ⟨_, _, fun_mk (st := s_web_fault) l3 c3 k3, PySem.W.mg_of X G a3⟩
  let T_look_at_webs : Tp kf.K mg "look_at_webs" s_look_at_webs := ⟨_, _, fun_mk (st := s_look_at_webs) l4 c4 k4, PySem.W.mg_of X G a4⟩
  let T_written_web : Tp kf.K mg "written_web" s_written_web := ⟨_, _, fun_mk (st := s_written_web) l5 c5 k5, PySem.W.mg_of X G a5⟩
  let T_written_webs : Tp kf.K mg "written_webs" s_written_webs := ⟨_, _, fun_mk (st := s_written_webs) l6 c6 k6, PySem.W.mg_of X G a6⟩
  let T_show_webs : Tp kf.K mg "show_webs" s_show_webs := ⟨_, _, fun_mk (st := s_show_webs) l7 c7 k7, PySem.W.mg_of X G a7⟩
  let T_number_in : Tp kf.K mg "number_in" s_number_in := ⟨_, _, fun_mk (st := s_number_in) l8 c8 k8, PySem.W.mg_of X G a8⟩
  let T_tie_in : Tp kf.K mg "tie_in" s_tie_in := ⟨_, _, fun_mk (st := s_tie_in) l9 c9 k9, PySem.W.mg_of X G a9⟩
  let T_web_in : Tp kf.K mg "web_in" s_web_in := ⟨_, _, fun_mk (st := s_web_in) l10 c10 k10, PySem.W.mg_of X G a10⟩
  let T_read_webs : Tp kf.K mg "read_webs" s_read_webs := ⟨_, _, fun_mk (st := s_read_webs) l11 c11 k11, PySem.W.mg_of X G a11⟩
  let T__law_all_read : Tp kf.K mg "_law_all_read" s__law_all_read := ⟨_, _, fun_mk (st := s__law_all_read) l12 c12 k12, PySem.W.mg_of X G a12⟩
  let T_look_at_web : Tp kf.K mg "look_at_web" s_look_at_web := ⟨_, _, fun_mk (st := s_look_at_web) l13 c13 k13, PySem.W.mg_of X G a13⟩
  let T_show_web : Tp kf.K mg "show_web" s_show_web := ⟨_, _, fun_mk (st := s_show_web) l14 c14 k14, PySem.W.mg_of X G a14⟩
  let T_read_web : Tp kf.K mg "read_web" s_read_web := ⟨_, _, fun_mk (st := s_read_web) l15 c15 k15, PySem.W.mg_of X G a15⟩
  let T__law_read : Tp kf.K mg "_law_read" s__law_read := ⟨_, _, fun_mk (st := s__law_read) l16 c16 k16, PySem.W.mg_of X G a16⟩
  let T__law_numbers : Tp kf.K mg "_law_numbers" s__law_numbers := ⟨_, _, fun_mk (st := s__law_numbers) l17 c17 k17, PySem.W.mg_of X G a17⟩
  let T__law_order : Tp kf.K mg "_law_order" s__law_order := ⟨_, _, fun_mk (st := s__law_order) l18 c18 k18, PySem.W.mg_of X G a18⟩
  let T__law_web : Tp kf.K mg "_law_web" s__law_web := ⟨_, _, fun_mk (st := s__law_web) l19 c19 k19, PySem.W.mg_of X G a19⟩
  let T_law : Tp kf.K mg "law" s_law := ⟨_, _, fun_mk (st := s_law) l20 c20 k20, PySem.W.mg_of X G a20⟩
  refine ⟨T_law.fd, fun s v => .of_eq rfl, fun base _ _ => ?_⟩
  let d__law_shown : Dq l.prog w kf.K mg base "_law_shown" 1 ["_law_web_here"] (spP 1 m__law_shown) := ⟨T__law_shown.a, T__law_shown.fd, T__law_shown.F.kp, T__law_shown.g, ok__law_shown B T__law_shown , T__law_shown.F.binds (ps := ["_law_web_here"]) fun _ _ _ _ _ _ us hl => match us, hl with | [_], _ => rfl⟩
  let d_is_whole : Dq l.prog w kf.K mg base "is_whole" 1 ["thing"] (spP 1 SH.m_is_whole) := ⟨T_is_whole.a, T_is_whole.fd, T_is_whole.F.kp, T_is_whole.g, ok_is_whole B T_is_whole , T_is_whole.F.binds (ps := ["thing"]) fun _ _ _ _ _ _ us hl => match us, hl with | [_], _ => rfl⟩
  let d_joins_places : Dq l.prog w kf.K mg base "joins_places" 2 ["many", "thing"] (spP 2 SH.m_joins_places) := ⟨T_joins_places.a, T_joins_places.fd, T_joins_places.F.kp, T_joins_places.g, ok_joins_places B T_joins_places d_is_whole, T_joins_places.F.binds (ps := ["many", "thing"]) fun _ _ _ _ _ _ us hl => match us, hl with | [_, _], _ => rfl⟩
  let d_web_fault : Dq l.prog w kf.K mg base "web_fault" 3 ["thing"] (spP 1 SH.m_web_fault) := ⟨T_web_fault.a, T_web_fault.fd, T_web_fault.F.kp, T_web_fault.g, ok_web_fault B T_web_fault d_is_whole d_joins_places, T_web_fault.F.binds (ps := ["thing"]) fun _ _ _ _ _ _ us hl => match us, hl with | [_], _ => rfl⟩
  let d_look_at_webs : Dq l.prog w kf.K mg base "look_at_webs" 4 ["thing"] (spP 1 SH.m_look_at_webs) := ⟨T_look_at_webs.a, T_look_at_webs.fd, T_look_at_webs.F.kp, T_look_at_webs.g, ok_look_at_webs B T_look_at_webs d_web_fault, T_look_at_webs.F.binds (ps := ["thing"]) fun _ _ _ _ _ _ us hl => match us, hl with | [_], _ => rfl⟩
  let d_written_web : Dq l.prog w kf.K mg base "written_web" 1 ["web"] (spP 1 m_written_web) := ⟨T_written_web.a, T_written_web.fd, T_written_web.F.kp, T_written_web.g, ok_written_web B T_written_web , T_written_web.F.binds (ps := ["web"]) fun _ _ _ _ _ _ us hl => match us, hl with | [_], _ => rfl⟩
  let d_written_webs : Dq l.prog w kf.K mg base "written_webs" 2 ["webs"] (spP 1 m_written_webs) := ⟨T_written_webs.a, T_written_webs.fd, T_written_webs.F.kp, T_written_webs.g, ok_written_webs B T_written_webs d_written_web, T_written_webs.F.binds (ps := ["webs"]) fun _ _ _ _ _ _ us hl => match us, hl with | [_], _ => rfl⟩
  let d_show_webs : Dq l.prog w kf.K mg base "show_webs" 5 ["webs"] (spP 1 m_show_webs) := ⟨T_show_webs.a, T_show_webs.fd, T_show_webs.F.kp, T_show_webs.g, ok_show_webs B T_show_webs d_look_at_webs d_written_webs, T_show_webs.F.binds (ps := ["webs"]) fun _ _ _ _ _ _ us hl => match us, hl with | [_], _ => rfl⟩
  let d_number_in : Dq l.prog w kf.K mg base "number_in" 1 ["text", "most"] (spP 2 m_number_in) := ⟨T_number_in.a, T_number_in.fd, T_number_in.F.kp, T_number_in.g, ok_number_in B T_number_in , T_number_in.F.binds (ps := ["text", "most"]) fun _ _ _ _ _ _ us hl => match us, hl with | [_, _], _ => rfl⟩
  let d_tie_in : Dq l.prog w kf.K mg base "tie_in" 2 ["text"] (spP 1 m_tie_in) := ⟨T_tie_in.a, T_tie_in.fd, T_tie_in.F.kp, T_tie_in.g, ok_tie_in B T_tie_in d_number_in, T_tie_in.F.binds (ps := ["text"]) fun _ _ _ _ _ _ us hl => match us, hl with | [_], _ => rfl⟩
  let d_web_in : Dq l.prog w kf.K mg base "web_in" 4 ["text"] (spP 1 m_web_in) := ⟨T_web_in.a, T_web_in.fd, T_web_in.F.kp, T_web_in.g, ok_web_in B T_web_in d_tie_in d_number_in d_web_fault, T_web_in.F.binds (ps := ["text"]) fun _ _ _ _ _ _ us hl => match us, hl with | [_], _ => rfl⟩
  let d_read_webs : Dq l.prog w kf.K mg base "read_webs" 5 ["text"] (spP 1 m_read_webs) := ⟨T_read_webs.a, T_read_webs.fd, T_read_webs.F.kp, T_read_webs.g, ok_read_webs B T_read_webs d_web_in, T_read_webs.F.binds (ps := ["text"]) fun _ _ _ _ _ _ us hl => match us, hl with | [_], _ => rfl⟩
  let d__law_all_read : Dq l.prog w kf.K mg base "_law_all_read" 6 ["_law_webs"] (spP 1 m__law_all_read) := ⟨T__law_all_read.a, T__law_all_read.fd, T__law_all_read.F.kp, T__law_all_read.g, ok__law_all_read B T__law_all_read d__law_shown d_show_webs d_read_webs, T__law_all_read.F.binds (ps := ["_law_webs"]) fun _ _ _ _ _ _ us hl => match us, hl with | [_], _ => rfl⟩
  let d_look_at_web : Dq l.prog w kf.K mg base "look_at_web" 4 ["thing"] (spP 1 SH.m_look_at_web) := ⟨T_look_at_web.a, T_look_at_web.fd, T_look_at_web.F.kp, T_look_at_web.g, ok_look_at_web B T_look_at_web d_web_fault, T_look_at_web.F.binds (ps := ["thing"]) fun _ _ _ _ _ _ us hl => match us, hl with | [_], _ => rfl⟩
  let d_show_web : Dq l.prog w kf.K mg base "show_web" 5 ["web"] (spP 1 m_show_web) := ⟨T_show_web.a, T_show_web.fd, T_show_web.F.kp, T_show_web.g, ok_show_web B T_show_web d_look_at_web d_written_web, T_show_web.F.binds (ps := ["web"]) fun _ _ _ _ _ _ us hl => match us, hl with | [_], _ => rfl⟩
  let d_read_web : Dq l.prog w kf.K mg base "read_web" 5 ["text"] (spP 1 m_read_web) := ⟨T_read_web.a, T_read_web.fd, T_read_web.F.kp, T_read_web.g, ok_read_web B T_read_web d_web_in, T_read_web.F.binds (ps := ["text"]) fun _ _ _ _ _ _ us hl => match us, hl with | [_], _ => rfl⟩
  let d__law_read : Dq l.prog w kf.K mg base "_law_read" 6 ["_law_web_here"] (spP 1 m__law_read) := ⟨T__law_read.a, T__law_read.fd, T__law_read.F.kp, T__law_read.g, ok__law_read B T__law_read d__law_shown d_show_web d_read_web, T__law_read.F.binds (ps := ["_law_web_here"]) fun _ _ _ _ _ _ us hl => match us, hl with | [_], _ => rfl⟩
  let d__law_numbers : Dq l.prog w kf.K mg base "_law_numbers" 1 ["_law_cell", "_law_salt", "_law_sizes"] (spP 3 SQ.m__law_numbers) := ⟨T__law_numbers.a, T__law_numbers.fd, T__law_numbers.F.kp, T__law_numbers.g, ok__law_numbers B T__law_numbers , T__law_numbers.F.binds (ps := ["_law_cell", "_law_salt", "_law_sizes"]) fun _ _ _ _ _ _ us hl => match us, hl with | [_, _, _], _ => rfl⟩
  let d__law_order : Dq l.prog w kf.K mg base "_law_order" 1 ["_law_digits"] (spP 1 SQ.m__law_order) := ⟨T__law_order.a, T__law_order.fd, T__law_order.F.kp, T__law_order.g, ok__law_order B T__law_order , T__law_order.F.binds (ps := ["_law_digits"]) fun _ _ _ _ _ _ us hl => match us, hl with | [_], _ => rfl⟩
  let d__law_web : Dq l.prog w kf.K mg base "_law_web" 2 ["_law_cell", "_law_salt", "_law_most", "_law_more", "_law_loose"] (spP 5 SQ.m__law_web) := ⟨T__law_web.a, T__law_web.fd, T__law_web.F.kp, T__law_web.g, ok__law_web B T__law_web d__law_numbers d__law_order, T__law_web.F.binds (ps := ["_law_cell", "_law_salt", "_law_most", "_law_more", "_law_loose"]) fun _ _ _ _ _ _ us hl => match us, hl with | [_, _, _, _, _], _ => rfl⟩
  exact ok_law (P := l.prog) (w := w) (base := base) B T_law d__law_all_read d_read_webs d_show_webs d__law_read d__law_numbers d__law_web
theorem law_sp (goal : ∀ ns : List Int, ns.length ≤ 63 → m_law [.list (ns.map .int)] = some (.d (.bool true))) {K : PySem.W.Frag} {G : Hp} {a : Addr} {ns : List Int} (hl : ns.length ≤ 63) (hS : SqL K G a (ns.map V.int)) : (@spP ⟨K⟩ 1 m_law) [.ref a] G (fun v _ => v = .bl true) fun _ _ _ => False := by
  letI kf : KF := ⟨K⟩
  refine ⟨G, [.list (ns.map .int)], _, rfl, Same.refl G, .cons (.lst hS (dpa_of_ints ns)) .nil, goal ns hl, fun v S' H' B xt hr _ _ => ?_⟩
  cases hr with
  | d hr => cases hr; rfl
end z83
namespace z82
open PySem L2 PL MR SH SQ
/-- written_web: 0 web 1 many 2 ties 3 one 4 other -/
noncomputable def B_written_web : Sm :=
 (sSeq (sAsgG (gmTup (gsCons (gmName 1) (gsCons (gmName 2) gsNil))) (dY (yVar 0)))
 (sRet (yD (dJoin (rC (.str " ")) (dY (yOp GCat (dY (yLst (oCons (yR (rCb gStrI (qCons (rVar 1) qNil))) oNil))) (dY (yLc [3, 4] (iL (dY (yVar 2))) (gmTup (gsCons (gmName 3) (gsCons (gmName 4) gsNil))) (fun ρ => some (true, ρ)) (yR (rJs (qCons (rTxt (rVar 3)) (qCons (rC (.str "-")) (qCons (rTxt (rVar 4)) qNil)))))))))))))
noncomputable def m_written_web : List D → Option OT := fun ds => fin (B_written_web (ini ds 4))
/-- written_webs: 0 webs 1 web -/
noncomputable def B_written_webs : Sm :=
 (sSeq (sIf (tR (bNot (bList (rVar 0))))
 (sRet (yR (rC (.str "none"))))
 sNext)
 (sRet (yD (dJoin (rC (.str " * ")) (dY (yLc [1] (iL (dY (yVar 0))) (gmName 1) (fun ρ => some (true, ρ)) (yCallA m_written_web 1 (qCons (rVar 1) qNil) (lCons (dY (yVar 1)) lNil))))))))
noncomputable def m_written_webs : List D → Option OT := fun ds => fin (B_written_webs (ini ds 1))
/-- show_webs: 0 webs -/
noncomputable def B_show_webs : Sm :=
 (sSeq (sDrop (yCallA SH.m_look_at_webs 1 (qCons (rVar 0) qNil) (lCons (dY (yVar 0)) lNil)))
 (sRet (yCallA m_written_webs 1 (qCons (rVar 0) qNil) (lCons (dY (yVar 0)) lNil))))
noncomputable def m_show_webs : List D → Option OT := fun ds => fin (B_show_webs (ini ds 0))
/-- _law_figures__r0: 0 _law_number -/
noncomputable def B__law_figures__r0 : Sm :=
 (fun _ => Option.none)
noncomputable def m__law_figures__r0 : List D → Option OT := fun ds => fin (B__law_figures__r0 (ini ds 0))
/-- _law_figures__r1: 0 _law_number -/
noncomputable def B__law_figures__r1 : Sm :=
 (sSeq (sIf (tR (bR (rOp gGt (rVar 0) (rC (.int 9)))))
 (sRet (yR (rOp gAddS (rCall m__law_figures__r0 1 (qCons (rOp gDiv (rVar 0) (rC (.int 10))) qNil)) (rOp gIxS (rC (.str "0123456789")) (rOp gMod (rVar 0) (rC (.int 10)))))))
 sNext)
 (sRet (yR (rOp gIxS (rC (.str "0123456789")) (rVar 0)))))
noncomputable def m__law_figures__r1 : List D → Option OT := fun ds => fin (B__law_figures__r1 (ini ds 0))
/-- _law_figures__r2: 0 _law_number -/
noncomputable def B__law_figures__r2 : Sm :=
 (sSeq (sIf (tR (bR (rOp gGt (rVar 0) (rC (.int 9)))))
 (sRet (yR (rOp gAddS (rCall m__law_figures__r1 1 (qCons (rOp gDiv (rVar 0) (rC (.int 10))) qNil)) (rOp gIxS (rC (.str "0123456789")) (rOp gMod (rVar 0) (rC (.int 10)))))))
 sNext)
 (sRet (yR (rOp gIxS (rC (.str "0123456789")) (rVar 0)))))
noncomputable def m__law_figures__r2 : List D → Option OT := fun ds => fin (B__law_figures__r2 (ini ds 0))
/-- _law_shown: 0 _law_web_here 1 _law_text 2 _law_one 3 _law_other -/
noncomputable def B__law_shown : Sm :=
 (sSeq (sAsg 1 (yCallA m__law_figures__r2 1 (qCons (rOp gIxT (rVar 0) (rC (.int 0))) qNil) (lCons (dY (yAuto (rOp gIxT (rVar 0) (rC (.int 0))) (yD (dOpR gIxT (dY (yVar 0)) (rC (.int 0)))))) lNil)))
 (sSeq (sFor (iL (dY (yAuto (rOp gIxT (rVar 0) (rC (.int 1))) (yD (dOpR gIxT (dY (yVar 0)) (rC (.int 1))))))) (gmTup (gsCons (gmName 2) (gsCons (gmName 3) gsNil)))
 (sAsg 1 (yR (rOp gAddS (rOp gAddS (rOp gAddS (rOp gAddS (rVar 1) (rC (.str " "))) (rCall m__law_figures__r2 1 (qCons (rVar 2) qNil))) (rC (.str "-"))) (rCall m__law_figures__r2 1 (qCons (rVar 3) qNil))))))
 (sRet (yMov 1))))
noncomputable def m__law_shown : List D → Option OT := fun ds => fin (B__law_shown (ini ds 3))
/-- show_web: 0 web -/
noncomputable def B_show_web : Sm :=
 (sSeq (sDrop (yCallA SH.m_look_at_web 1 (qCons (rVar 0) qNil) (lCons (dY (yVar 0)) lNil)))
 (sRet (yCallA m_written_web 1 (qCons (rVar 0) qNil) (lCons (dY (yVar 0)) lNil))))
noncomputable def m_show_web : List D → Option OT := fun ds => fin (B_show_web (ini ds 0))
/-- law: 0 _law_script 1 _law_webs 2 _law_texts 3 _law_at 4 _law_cell 5 _law_size 6 _law_web_here 7 _law_kept 8 _law_many 9 _law_some 10 _law_due -/
noncomputable def B_law : Sm :=
 (sSeq (sIf (tR (bR (rOp gNeS (rRepr (rCall m_show_webs 1 (qCons (rLst qNil) qNil))) (rC (.str "'none'")))))
 (sRet (yR (rC (.bool false))))
 sNext)
 (sSeq (sAsg 1 (yLst oNil))
 (sSeq (sAsg 2 (yLst oNil))
 (sSeq (sFor (iE (lCons (dY (yOp GCat (dY (ySlA (rVar 0) (dY (yVar 0)) cNone (cSome (rC (.int 60))))) (dY (yRep (yLst (oCons (yR (rC (.int 8))) oNil)) (rCb gInt (qCons (rOp gEqD (rVar 0) (rLst qNil)) qNil)))))) lNil)) (gmTup (gsCons (gmName 3) (gsCons (gmName 4) gsNil)))
 (sSeq (sAsg 5 (yAuto (rOp gIxL (rCall SQ.m__law_numbers 3 (qCons (rVar 4) (qCons (rOp gAdd (rC (.int 500)) (rVar 3)) (qCons (rLst (qCons (rC (.int 4)) qNil)) qNil)))) (rC (.int 0))) (yD (dOpR gIxL (dY (yCallA SQ.m__law_numbers 3 (qCons (rVar 4) (qCons (rOp gAdd (rC (.int 500)) (rVar 3)) (qCons (rLst (qCons (rC (.int 4)) qNil)) qNil))) (lCons (dY (yVar 4)) (lCons (dR (rOp gAdd (rC (.int 500)) (rVar 3))) (lCons (dY (yLst (oCons (yR (rC (.int 4))) oNil))) lNil))))) (rC (.int 0))))))
 (sSeq (sAsg 6 (yCallA SQ.m__law_web 5 (qCons (rOp gDiv (rVar 4) (rC (.int 4))) (qCons (rVar 3) (qCons (rOp gIxL (rLst (qCons (rC (.int 3)) (qCons (rC (.int 8)) (qCons (rC (.int 11)) (qCons (rC (.int 40)) qNil))))) (rVar 5)) (qCons (rOp gIxL (rLst (qCons (rC (.int 3)) (qCons (rC (.int 9)) (qCons (rC (.int 30)) (qCons (rC (.int 60)) qNil))))) (rVar 5)) (qCons (rC (.bool true)) qNil))))) (lCons (dR (rOp gDiv (rVar 4) (rC (.int 4)))) (lCons (dY (yVar 3)) (lCons (dY (yAuto (rOp gIxL (rLst (qCons (rC (.int 3)) (qCons (rC (.int 8)) (qCons (rC (.int 11)) (qCons (rC (.int 40)) qNil))))) (rVar 5)) (yD (dOpR gIxL (dY (yLst (oCons (yR (rC (.int 3))) (oCons (yR (rC (.int 8))) (oCons (yR (rC (.int 11))) (oCons (yR (rC (.int 40))) oNil)))))) (rVar 5))))) (lCons (dY (yAuto (rOp gIxL (rLst (qCons (rC (.int 3)) (qCons (rC (.int 9)) (qCons (rC (.int 30)) (qCons (rC (.int 60)) qNil))))) (rVar 5)) (yD (dOpR gIxL (dY (yLst (oCons (yR (rC (.int 3))) (oCons (yR (rC (.int 9))) (oCons (yR (rC (.int 30))) (oCons (yR (rC (.int 60))) oNil)))))) (rVar 5))))) (lCons (dR (rC (.bool true))) lNil)))))))
 (sSeq (sAsg 7 (yR (rRepr (rVar 6))))
 (sSeq (sAsg 2 (yOpA GCat (rSl (rVar 2) (cSome (rOp gSub (rC (.int 1)) (rC (.int 12)))) cNone) (rLst (qCons (rCall m__law_shown 1 (qCons (rVar 6) qNil)) qNil)) (dY (ySlA (rVar 2) (dY (yVar 2)) (cSome (rOp gSub (rC (.int 1)) (rC (.int 12)))) cNone)) (dY (yLst (oCons (yCallA m__law_shown 1 (qCons (rVar 6) qNil) (lCons (dY (yVar 6)) lNil)) oNil)))))
 (sSeq (sAsg 1 (yOpA GCat (rSl (rVar 1) (cSome (rOp gSub (rC (.int 1)) (rC (.int 12)))) cNone) (rLst (qCons (rVar 6) qNil)) (dY (ySlA (rVar 1) (dY (yVar 1)) (cSome (rOp gSub (rC (.int 1)) (rC (.int 12)))) cNone)) (dY (yLst (oCons (yVar 6) oNil)))))
 (sSeq (sAsg 8 (yR (rOp gAdd (rC (.int 1)) (rOp gMod (rVar 3) (rC (.int 12))))))
 (sSeq (sAsg 9 (ySlA (rVar 1) (dY (yVar 1)) (cSome (rUn gNeg (rVar 8))) cNone))
 (sSeq (sAsg 10 (yD (dJoin (rC (.str " * ")) (dY (ySlA (rVar 2) (dY (yVar 2)) (cSome (rUn gNeg (rVar 8))) cNone)))))
 (sSeq (sIf (tR (bOr (bR (rOp gNeS (rRepr (rCall m_show_web 1 (qCons (rVar 6) qNil))) (rRepr (rOp gIxL (rVar 2) (rUn gNeg (rC (.int 1))))))) (bR (rOp gNeS (rRepr (rVar 6)) (rVar 7)))))
 (sRet (yR (rC (.bool false))))
 sNext)
 (sIf (tR (bAnd (bR (rOp gEqI (rOp gMod (rVar 3) (rC (.int 5))) (rC (.int 0)))) (bR (rOp gNeS (rCall m_show_webs 1 (qCons (rVar 9) qNil)) (rVar 10)))))
 (sRet (yR (rC (.bool false))))
 sNext)))))))))))
 (sRet (yR (rC (.bool true))))))))
noncomputable def m_law : List D → Option OT := fun ds => fin (B_law (ini ds 10))
end z82
namespace SH
open PySem L2 PL MR
local macro_rules | `(tactic| walk_at "ev") => `(tactic| simp (config := {decide := true}) only [ini, fin, finI, sSeq, sNext, sAsg, sAsgG, sRet, sRetN, sDrop, sIf, sNever, sSetP, pmVar, MR.putAt, OT.put, gmName, gmTup, gmLst, gsNil, gsCons, rVar, rC, rOp, rUn, rCb, rCall, rAnd, rOr, rNot, rIf, rIs, rCh, rCh3, rTup, rLst, small, qNil, qCons, bR, bAnd, bOr, bNot, tR, tD, tmAnd, tmOr, tmNot, yVar, yMov, yR, yAuto, dY, yD, dR, dOp, dOpR, dCb, yCall, yCallA, lfO, yTup, yLst, oNil, oCons, isNo, lNil, lCons, asB, asInt, toD_d, toD_tup, toD_lst, toDs_nil, toDs_cons, kp_int, kp_bool, kp_tuple, kp_list, isIntB, isBoolB, isTupB, isListB, gAdd_i, gSub_i, gLt_i, gLe_i, gGt_i, gGe_i, gMul_r, gMul_l, gMod_i, gDiv_i, gPow_i, gNeg, gEqI, gNeI, gIsN, gNotN, gIsB, gNotB, gIxL, gIxT, gLen, gMax2, gMin2, isN, OT.lf, OT.lfs, atI_0, atI_1, ixN_0, ixN_1, Option.bind_some, Option.bind_none, Option.map_some, Option.map_none, List.getElem?_cons_zero, List.getElem?_cons_succ, List.set_cons_zero, List.set_cons_succ, List.map_cons, List.map_nil, List.replicate, List.nil_append, List.cons_append, List.length_cons, List.length_nil, if_true, if_false, reduceIte, tfl_int, tfl_bool, tfl_none, tfl_str, tfl_list, Bool.true_and, Bool.and_true, Bool.false_and, Bool.and_false, Bool.not_true, Bool.not_false, Bool.false_eq_true, decide_true, decide_false, true_and, and_true, false_and, and_false, or_true, true_or, *])
theorem is_whole_int (i : Int) : m_is_whole [.int i] = some (.d (.bool true)) := by unfold m_is_whole B_is_whole; walk_at "ev"
theorem joins_spec {m a b : Int} (h1 : 0 ≤ a ∧ a < m) (h2 : 0 ≤ b ∧ b < m) (h3 : a < b) : m_joins_places [.int m, .tuple [.int a, .int b]] = some (.d (.bool true)) := by
  have e1 := is_whole_int a
  have e2 := is_whole_int b
  obtain ⟨h1a, h1b⟩ := h1
  obtain ⟨h2a, h2b⟩ := h2
  unfold m_joins_places B_joins_places; walk_at "ev"
local macro_rules | `(tactic| walk_at "w") => `(tactic| simp (config := {decide := true}) only [ini, fin, finI, sSeq, sNext, sAsg, sAsgG, sRet, sRetN, sDrop, sIf, sNever, sFor, pmVar, gmName, gmTup, gmLst, gsNil, gsCons, rVar, rC, rOp, rUn, rCb, rCall, rTup, rLst, qNil, qCons, bR, bAnd, bOr, bNot, tR, tD, yVar, yMov, yR, yAuto, dY, yD, dR, dOp, dOpR, dCb, yCall, yCallA, yCallI, lfO, yTup, yLst, oNil, oCons, isNo, lNil, lCons, asB, asInt, toD_d, toD_tup, toD_lst, toDs_nil, toDs_cons, gAdd_i, gSub_i, gLt_i, gLe_i, gGt_i, gGe_i, gEqI, gNeI, gLen, gMax2, gMin2, isN, yRng1_eq, iR1_eq, iR2_eq, iL, iE, asL, yLc, calmAt, wipeE, rst, rsts, sApp, yPop_eq, sDPutM, ySortD, yDNew, lcStep, lstO_rg, lstO_prs, lstO_ints, toDs_ints, toDs_fpr, toDs_prs, lfs_ints, lfs_fpr, intsO_len, prsO_len, fprO_len, rng_len, intsO_snoc, prsO_snoc, Int.toNat_natCast, List.length_map, trues_len, eq_self, gIxL, small, flat, rgD_len, List.all_cons, List.all_nil, Option.bind_some, Option.bind_none, Option.map_some, Option.map_none, List.getElem?_cons_zero, List.getElem?_cons_succ, List.set_cons_zero, List.set_cons_succ, List.map_cons, List.map_nil, List.replicate, List.nil_append, List.cons_append, List.length_cons, List.length_nil, if_true, if_false, reduceIte, tfl_int, tfl_bool, tfl_none, tfl_str, tfl_list, Bool.true_and, Bool.and_true, Bool.false_and, Bool.and_false, Bool.not_true, Bool.not_false, Bool.false_eq_true, decide_true, decide_false, true_and, and_true, or_true, true_or, false_and, and_false, *])
local macro_rules | `(tactic| walk_at "st") => `(tactic| (apply seq_nx; (walk_at "w"; exact rfl)))
end SH
namespace SH
open PySem L2 PL MR
local macro_rules | `(tactic| walk_at "ev") => `(tactic| simp (config := {decide := true}) only [ini, fin, finI, sSeq, sNext, sAsg, sAsgG, sRet, sRetN, sDrop, sIf, sNever, sSetP, pmVar, MR.putAt, OT.put, gmName, gmTup, gmLst, gsNil, gsCons, rVar, rC, rOp, rUn, rCb, rCall, rAnd, rOr, rNot, rIf, rIs, rCh, rCh3, rTup, rLst, small, qNil, qCons, bR, bAnd, bOr, bNot, tR, tD, tmAnd, tmOr, tmNot, yVar, yMov, yR, yAuto, dY, yD, dR, dOp, dOpR, dCb, yCall, yCallA, lfO, yTup, yLst, oNil, oCons, isNo, lNil, lCons, asB, asInt, toD_d, toD_tup, toD_lst, toDs_nil, toDs_cons, kp_int, kp_bool, kp_tuple, kp_list, isIntB, isBoolB, isTupB, isListB, gAdd_i, gSub_i, gLt_i, gLe_i, gGt_i, gGe_i, gMul_r, gMul_l, gMod_i, gDiv_i, gPow_i, gNeg, gEqI, gNeI, gIsN, gNotN, gIsB, gNotB, gIxL, gIxT, gLen, gMax2, gMin2, isN, OT.lf, OT.lfs, atI_0, atI_1, ixN_0, ixN_1, Option.bind_some, Option.bind_none, Option.map_some, Option.map_none, List.getElem?_cons_zero, List.getElem?_cons_succ, List.set_cons_zero, List.set_cons_succ, List.map_cons, List.map_nil, List.replicate, List.nil_append, List.cons_append, List.length_cons, List.length_nil, if_true, if_false, reduceIte, tfl_int, tfl_bool, tfl_none, tfl_str, tfl_list, Bool.true_and, Bool.and_true, Bool.false_and, Bool.and_false, Bool.not_true, Bool.not_false, Bool.false_eq_true, decide_true, decide_false, true_and, and_true, false_and, and_false, or_true, true_or, *])
local macro_rules | `(tactic| walk_at "w") => `(tactic| simp (config := {decide := true}) only [ini, fin, finI, sSeq, sNext, sAsg, sAsgG, sRet, sRetN, sDrop, sIf, sNever, sFor, pmVar, gmName, gmTup, gmLst, gsNil, gsCons, rVar, rC, rOp, rUn, rCb, rCall, rTup, rLst, qNil, qCons, bR, bAnd, bOr, bNot, tR, tD, yVar, yMov, yR, yAuto, dY, yD, dR, dOp, dOpR, dCb, yCall, yCallA, yCallI, lfO, yTup, yLst, oNil, oCons, isNo, lNil, lCons, asB, asInt, toD_d, toD_tup, toD_lst, toDs_nil, toDs_cons, gAdd_i, gSub_i, gLt_i, gLe_i, gGt_i, gGe_i, gEqI, gNeI, gLen, gMax2, gMin2, isN, yRng1_eq, iR1_eq, iR2_eq, iL, iE, asL, yLc, calmAt, wipeE, rst, rsts, sApp, yPop_eq, sDPutM, ySortD, yDNew, lcStep, lstO_rg, lstO_prs, lstO_ints, toDs_ints, toDs_fpr, toDs_prs, lfs_ints, lfs_fpr, intsO_len, prsO_len, fprO_len, rng_len, intsO_snoc, prsO_snoc, Int.toNat_natCast, List.length_map, trues_len, eq_self, gIxL, small, flat, rgD_len, List.all_cons, List.all_nil, Option.bind_some, Option.bind_none, Option.map_some, Option.map_none, List.getElem?_cons_zero, List.getElem?_cons_succ, List.set_cons_zero, List.set_cons_succ, List.map_cons, List.map_nil, List.replicate, List.nil_append, List.cons_append, List.length_cons, List.length_nil, if_true, if_false, reduceIte, tfl_int, tfl_bool, tfl_none, tfl_str, tfl_list, Bool.true_and, Bool.and_true, Bool.false_and, Bool.and_false, Bool.not_true, Bool.not_false, Bool.false_eq_true, decide_true, decide_false, true_and, and_true, or_true, true_or, false_and, and_false, *])
local macro_rules | `(tactic| walk_at "st") => `(tactic| (apply seq_nx; (walk_at "w"; exact rfl)))
end SH
namespace SH
open PySem L2 PL MR
local macro_rules | `(tactic| walk_at "w") => `(tactic| simp (config := {decide := true}) only [ini, fin, finI, sSeq, sNext, sAsg, sAsgG, sRet, sRetN, sDrop, sIf, sNever, sFor, pmVar, gmName, gmTup, gmLst, gsNil, gsCons, rVar, rC, rOp, rUn, rCb, rCall, rTup, rLst, qNil, qCons, bR, bAnd, bOr, bNot, tR, tD, yVar, yMov, yR, yAuto, dY, yD, dR, dOp, dOpR, dCb, yCall, yCallA, yCallI, lfO, yTup, yLst, oNil, oCons, isNo, lNil, lCons, asB, asInt, toD_d, toD_tup, toD_lst, toDs_nil, toDs_cons, gAdd_i, gSub_i, gLt_i, gLe_i, gGt_i, gGe_i, gEqI, gNeI, gLen, gMax2, gMin2, isN, yRng1_eq, iR1_eq, iR2_eq, iL, iE, asL, yLc, calmAt, wipeE, rst, rsts, sApp, yPop_eq, sDPutM, ySortD, yDNew, lcStep, lstO_rg, lstO_prs, lstO_ints, toDs_ints, toDs_fpr, toDs_prs, lfs_ints, lfs_fpr, intsO_len, prsO_len, fprO_len, rng_len, intsO_snoc, prsO_snoc, Int.toNat_natCast, List.length_map, trues_len, eq_self, gIxL, small, kp_int, kp_bool, kp_tuple, kp_list, isIntB, isBoolB, isTupB, isListB, rIs, rCh, rCh3, rAnd, rOr, rNot, rIf, gIxT, gNotN, gIsN, atI_0, atI_1, dAnd, dOr, dNot, tmAnd, tmOr, tmNot, gAll, asBools_map, gLeT, enumD_len, OT.lf, OT.lfs,  flat, rgD_len, List.all_cons, List.all_nil, Option.bind_some, Option.bind_none, Option.map_some, Option.map_none, List.getElem?_cons_zero, List.getElem?_cons_succ, List.set_cons_zero, List.set_cons_succ, List.map_cons, List.map_nil, List.replicate, List.nil_append, List.cons_append, List.length_cons, List.length_nil, if_true, if_false, reduceIte, tfl_int, tfl_bool, tfl_none, tfl_str, tfl_list, Bool.true_and, Bool.and_true, Bool.false_and, Bool.and_false, Bool.not_true, Bool.not_false, Bool.false_eq_true, decide_true, decide_false, true_and, and_true, or_true, true_or, false_and, and_false, *])
local macro_rules | `(tactic| walk_at "st") => `(tactic| (apply seq_nx; (walk_at "w"; exact rfl)))
theorem fault_ok {n : Nat} {ts : List (Int × Int)} (w : WOk n ts) (h1 : 1 ≤ n) (h2 : n ≤ 40) (h3 : ts.length ≤ 120) : m_web_fault [WD n ts] = some (.d .none) := by
  have f0 := is_whole_int (n : Int)
  have f1 : 1 ≤ (n : Int) := by omega
  have f2 : (n : Int) ≤ 40 := by omega
  have f3 : decide (120 < (ts.length : Int)) = false := by simp; omega
  have L : ∃ Z W, mFor (fun x ρ => (gmTup (gsCons (gmName 3) (gsCons (gmName 4) gsNil)) x ρ).bind (sIf (tR (bOr (bNot (bR (rCall m_joins_places 2 (qCons (rVar 1) (qCons (rVar 4) qNil))))) (bAnd (bR (rOp gGt (rVar 3) (rC (.int 0)))) (bR (rOp gLeT (rVar 4) (rOp gIxL (rVar 2) (rOp gSub (rVar 3) (rC (.int 1)))))))))
 (sRet (yTup (oCons (yR (rC (.str "ties"))) (oCons (yMov 3) oNil))))
 sNext)) (enumD (ts.map pairD)) [.d (.tuple [.int n, .list (ts.map pairD)]), .d (.int n), .d (.list (ts.map pairD)), .no, .no] = some (.nx, [.d (.tuple [.int n, .list (ts.map pairD)]), .d (.int n), .d (.list (ts.map pairD)), Z, W]) := by
    have := mFor_inv (step := fun x ρ => (gmTup (gsCons (gmName 3) (gsCons (gmName 4) gsNil)) x ρ).bind (sIf (tR (bOr (bNot (bR (rCall m_joins_places 2 (qCons (rVar 1) (qCons (rVar 4) qNil))))) (bAnd (bR (rOp gGt (rVar 3) (rC (.int 0)))) (bR (rOp gLeT (rVar 4) (rOp gIxL (rVar 2) (rOp gSub (rVar 3) (rC (.int 1)))))))))
 (sRet (yTup (oCons (yR (rC (.str "ties"))) (oCons (yMov 3) oNil))))
 sNext)) (enumD (ts.map pairD)) [.d (.tuple [.int n, .list (ts.map pairD)]), .d (.int n), .d (.list (ts.map pairD)), .no, .no]
      (fun i ρ => ∃ Z W, ρ = [.d (.tuple [.int n, .list (ts.map pairD)]), .d (.int n), .d (.list (ts.map pairD)), Z, W])
      ⟨.no, .no, rfl⟩
      (by
        rintro i x ρ hx ⟨Z, W, rfl⟩
        obtain ⟨d, hd, rfl⟩ := enumD_at hx
        rw [List.getElem?_map] at hd
        obtain ⟨z, hz, rfl⟩ := Option.map_eq_some_iff.mp hd
        obtain ⟨a1, a2, a3⟩ := w.in' z (List.mem_of_getElem? hz)
        have hj := joins_spec (m := (n : Int)) (a := z.1) (b := z.2) ⟨a1, by omega⟩ ⟨by omega, a3⟩ a2
        cases i with
        | zero =>
          have e0 : decide (0 < ((0 : Nat) : Int)) = false := rfl
          apply fmk
          · simp only [pairD]
            walk_at "w"
            exact rfl
          exact ⟨_, _, rfl⟩
        | succ k =>
          have e0 : decide (0 < ((k + 1 : Nat) : Int)) = true := by simp
          have e1 : ((k + 1 : Nat) : Int) - 1 = (k : Int) := by omega
          have hk : k < ts.length := by have := (List.getElem?_eq_some_iff.mp hz).1; omega
          have hy : ts[k]? = some ts[k] := by simp [hk]
          have e2 : atI (ts.map pairD) (k : Int) = some (pairD ts[k]) := atI_at (by rw [List.getElem?_map, hy]; rfl)
          have e3 := lexLe_prev w hy hz
          generalize ts[k] = y at *
          simp only [pairD] at e2
          apply fmk
          · simp only [pairD] at e2 ⊢
            walk_at "w"
            exact rfl
          exact ⟨_, _, rfl⟩)
    obtain ⟨ρ', k1, Z, W, rfl⟩ := this
    exact ⟨Z, W, k1⟩
  obtain ⟨Z, W, eL⟩ := L
  unfold m_web_fault B_web_fault WD
  apply fin_rtd
  walk_at "st"
  walk_at "st"
  walk_at "st"
  walk_at "st"
  apply seq_nx
  · refine sFor_ok ?_ eL
    walk_at "w"
  walk_at "w"
  exact rfl
theorem look_ok {n : Nat} {ts : List (Int × Int)} (w : WOk n ts) (h1 : 1 ≤ n) (h2 : n ≤ 40) (h3 : ts.length ≤ 120) : m_look_at_web [WD n ts] = some (.d .none) := by
  have f := fault_ok w h1 h2 h3
  unfold m_look_at_web B_look_at_web
  generalize WD n ts = x at *
  walk_at "w"
end SH
namespace MR
open PySem L2 PL
/-! ### pure: sorted -/
end MR
namespace MR
open PySem L2 PL
/-! ### pure: repr of data without texts, its numbers of at most twelve figures -/
mutual
def smallD : D → Bool
  | .none => true
  | .bool _ => true
  | .int i => decide (i.natAbs < 10 ^ 60)
  | .str _ => false
  | .list xs => smallAll xs
  | .tuple xs => smallAll xs
  | .dict _ => false
def smallAll : List D → Bool
  | [] => true
  | x :: xs => smallD x && smallAll xs
end
theorem int_showable {i : Int} (h : i.natAbs < 10 ^ 60) : i.natAbs.log2 < 1920 := by
  by_cases z : i.natAbs = 0
  · rw [z]; decide
  · rw [Nat.log2_lt z]
    have h1 : i.natAbs < 2 ^ 200 := Nat.lt_of_lt_of_le h (by decide)
    exact Nat.lt_of_lt_of_le h1 (Nat.pow_le_pow_right (by decide) (by decide))
theorem shown_int60 {i : Int} (h : i.natAbs < 10 ^ 60) : (PyData.shown (.int i)).length ≤ 61 := by
  have e := int_text_length_le10 (k := 60) (by decide) h
  show (Str.ofString (toString i)).length ≤ 61
  rw [ofString_length]; exact e
mutual
theorem small_ok : ∀ d : D, smallD d = true → d.canLay0 = true ∧ d.showable = true ∧ d.leavesShort 61 = true
  | .none, _ => by simp [PyData.canLay0, PyData.showable, PyData.leavesShort]
  | .bool _, _ => by simp [PyData.canLay0, PyData.showable, PyData.leavesShort]
  | .int i, h => by
    have h : i.natAbs < 10 ^ 60 := by simpa only [smallD, decide_eq_true_eq] using h
    have e := int_showable h
    have e2 := shown_int60 h
    simp only [PyData.canLay0, PyData.showable, PyData.leavesShort, decide_eq_true_eq]
    exact ⟨trivial, e, e2⟩
  | .str _, h => by simp [smallD] at h
  | .list xs, h => by
    have := smallAll_ok xs (by simpa [smallD] using h)
    simpa [PyData.canLay0, PyData.showable, PyData.leavesShort] using this
  | .tuple xs, h => by
    have := smallAll_ok xs (by simpa [smallD] using h)
    simpa [PyData.canLay0, PyData.showable, PyData.leavesShort] using this
  | .dict _, h => by simp [smallD] at h
theorem smallAll_ok : ∀ xs : List D, smallAll xs = true → PyData.canLayAll0 xs = true ∧ PyData.showableAll xs = true ∧ PyData.leavesShortAll 61 xs = true
  | [], _ => by simp [PyData.canLayAll0, PyData.showableAll, PyData.leavesShortAll]
  | x :: xs, h => by
    have h' : smallD x = true ∧ smallAll xs = true := by simpa [smallAll] using h
    have h1 := small_ok x h'.1
    have h2 := smallAll_ok xs h'.2
    simp [PyData.canLayAll0, PyData.showableAll, PyData.leavesShortAll, h1, h2]
end
theorem repr_ok {d : D} (h1 : smallD d = true) (h2 : d.depth ≤ 60) (h3 : d.bulk ≤ 200000) : gRepr d = some (.str d.shown) := by
  obtain ⟨a, b, c⟩ := small_ok d h1
  have e : d.shown.length ≤ sizeLine := by
    have := PyData.shown_le_bulk 61 (by omega) d c
    unfold sizeLine
    omega
  unfold gRepr
  simp [a, b, e, h2]
theorem smallAll_map {α : Type} {f : α → D} {xs : List α} (h : ∀ x ∈ xs, smallD (f x) = true) : smallAll (xs.map f) = true := by
  induction xs with
  | nil => simp [smallAll]
  | cons x xs ih => simp [smallAll, h x List.mem_cons_self, ih fun y hy => h y (List.mem_cons_of_mem _ hy)]
theorem depthAll_map {α : Type} {f : α → D} {k : Nat} {xs : List α} (h : ∀ x ∈ xs, (f x).depth ≤ k) : PyData.depthAll (xs.map f) ≤ k := by
  induction xs with
  | nil => simp [PyData.depthAll]
  | cons x xs ih =>
    have a := h x List.mem_cons_self
    have b := ih fun y hy => h y (List.mem_cons_of_mem _ hy)
    simp only [List.map_cons, PyData.depthAll]
    omega
theorem bulkAll_map {α : Type} {f : α → D} {k : Nat} {xs : List α} (h : ∀ x ∈ xs, (f x).bulk ≤ k) : PyData.bulkAll (xs.map f) ≤ xs.length * (k + 1) := by
  induction xs with
  | nil => simp [PyData.bulkAll]
  | cons x xs ih =>
    have a := h x List.mem_cons_self
    have b := ih fun y hy => h y (List.mem_cons_of_mem _ hy)
    simp only [List.map_cons, PyData.bulkAll, List.length_cons, Nat.add_mul, Nat.one_mul]
    omega
/-- data that repr shows: how deep, how much -/
structure Nice (d : D) (k b : Nat) : Prop where
  sm : smallD d = true
  dp : d.depth ≤ k
  bk : d.bulk ≤ b
theorem Nice.repr {d : D} {k b : Nat} (h : Nice d k b) (h1 : k ≤ 60) (h2 : b ≤ 200000) : gRepr d = some (.str d.shown) := repr_ok h.sm (Nat.le_trans h.dp h1) (Nat.le_trans h.bk h2)
theorem nice_int60 {i : Int} (h : i.natAbs < 10 ^ 60) : Nice (.int i) 0 0 := ⟨by simpa only [smallD, decide_eq_true_eq] using h, by simp [PyData.depth], by simp [PyData.bulk]⟩
theorem lt60 {n : Nat} (h : n < 10 ^ 13) : n < 10 ^ 60 := Nat.lt_of_lt_of_le h (Nat.pow_le_pow_right (by decide) (by decide))
theorem nice_int {i : Int} (h : -999999999999 ≤ i ∧ i ≤ 999999999999) : Nice (.int i) 0 0 := nice_int60 (lt60 (by omega))
theorem nice_list {α : Type} {f : α → D} {k b n : Nat} {xs : List α} (h : ∀ x ∈ xs, Nice (f x) k b) (hn : xs.length ≤ n) : Nice (.list (xs.map f)) (k + 1) (n * (b + 1)) := by
  refine ⟨by simpa [smallD] using smallAll_map fun x hx => (h x hx).sm, ?_, ?_⟩
  · have := depthAll_map fun x hx => (h x hx).dp
    simp only [PyData.depth]
    omega
  · have := bulkAll_map fun x hx => (h x hx).bk
    simp only [PyData.bulk]
    exact Nat.le_trans this (Nat.mul_le_mul_right _ hn)
theorem nice_pr {p : Int × Int} (h : -999999999999 ≤ p.1 ∧ p.1 ≤ 999999999999 ∧ -999999999999 ≤ p.2 ∧ p.2 ≤ 999999999999) : Nice (pairD p) 1 2 :=
  ⟨by simp only [pairD, smallD, smallAll, Bool.and_true, Bool.and_eq_true, decide_eq_true_eq]; exact ⟨lt60 (by omega), lt60 (by omega)⟩, by simp [pairD, PyData.depth, PyData.depthAll], by simp [pairD, PyData.bulk, PyData.bulkAll]⟩
theorem nice_tup2 {d e : D} {k b c : Nat} (h1 : Nice d k b) (h2 : Nice e k c) : Nice (.tuple [d, e]) (k + 1) (b + c + 2) := by
  obtain ⟨a1, a2, a3⟩ := h1
  obtain ⟨b1, b2, b3⟩ := h2
  refine ⟨by simp [smallD, smallAll, a1, b1], ?_, ?_⟩
  · simp only [PyData.depth, PyData.depthAll]; omega
  · simp only [PyData.bulk, PyData.bulkAll]; omega
theorem Nice.up {d : D} {k b l c : Nat} (h : Nice d k b) (h1 : k ≤ l) (h2 : b ≤ c) : Nice d l c := ⟨h.sm, Nat.le_trans h.dp h1, Nat.le_trans h.bk h2⟩
theorem eqv_self {d : D} (h : smallD d = true) : PyData.eqv d d = true := by
  exact SeqAt.eqv_refl d (small_ok d h).1
theorem Nice.shaped {d : D} {k b : Nat} (h : Nice d k b) (h1 : k ≤ 60) : SeqAt.shaped d = true := by
  have := h.dp
  simp only [SeqAt.shaped, (small_ok d h.sm).1, Bool.true_and, decide_eq_true_eq]
  omega
theorem Nice.eqv {d : D} {k b : Nat} (h : Nice d k b) : PyData.eqv d d = true := eqv_self h.sm
end MR
namespace SH
open PySem L2 PL MR
local macro_rules | `(tactic| walk_at "w") => `(tactic| simp (config := {decide := true}) only [ini, fin, finI, sSeq, sNext, sAsg, sAsgG, sRet, sRetN, sDrop, sIf, sNever, sFor, pmVar, gmName, gmTup, gmLst, gsNil, gsCons, rVar, rC, rOp, rUn, rCb, rCall, rTup, rLst, qNil, qCons, bR, bAnd, bOr, bNot, tR, tD, yVar, yMov, yR, yAuto, dY, yD, dR, dOp, dOpR, dCb, yCall, yCallA, yCallI, lfO, yTup, yLst, oNil, oCons, isNo, lNil, lCons, asB, asInt, toD_d, toD_tup, toD_lst, toDs_nil, toDs_cons, gAdd_i, gSub_i, gLt_i, gLe_i, gGt_i, gGe_i, gEqI, gNeI, gLen, gMax2, gMin2, isN, yRng1_eq, iR1_eq, iR2_eq, iL, iE, asL, yLc, calmAt, wipeE, rst, rsts, sApp, yPop_eq, sDPutM, ySortD, yDNew, lcStep, lstO_rg, lstO_prs, lstO_ints, toDs_ints, toDs_fpr, toDs_prs, lfs_ints, lfs_fpr, intsO_len, prsO_len, fprO_len, rng_len, intsO_snoc, prsO_snoc, Int.toNat_natCast, List.length_map, trues_len, eq_self, gIxL, small, yCb, yCbA, kp_int, kp_bool, kp_tuple, kp_list, isIntB, isBoolB, isTupB, isListB, rIs, rCh, rCh3, rAnd, rOr, rNot, rIf, gIxT, gNotN, gIsN, atI_0, atI_1, dAnd, dOr, dNot, tmAnd, tmOr, tmNot, gAll, asBools_map, gLeT, enumD_len, OT.lf, OT.lfs,  flat, rgD_len, List.all_cons, List.all_nil, Option.bind_some, Option.bind_none, Option.map_some, Option.map_none, List.getElem?_cons_zero, List.getElem?_cons_succ, List.set_cons_zero, List.set_cons_succ, List.map_cons, List.map_nil, List.replicate, List.nil_append, List.cons_append, List.length_cons, List.length_nil, if_true, if_false, reduceIte, tfl_int, tfl_bool, tfl_none, tfl_str, tfl_list, Bool.true_and, Bool.and_true, Bool.false_and, Bool.and_false, Bool.not_true, Bool.not_false, Bool.false_eq_true, decide_true, decide_false, true_and, and_true, or_true, true_or, false_and, and_false, *])
local macro_rules | `(tactic| walk_at "st") => `(tactic| (apply seq_nx; (walk_at "w"; exact rfl)))
end SH
namespace MR
open PySem L2 PL
/-! ### walking: what stands within a row -/
section
variable {α : Type} {ρ : Env} {a b d dm : Dm} {y : Ym} {l : Lm} {o : Om} {t u : Tm}
theorem w_yD {Q : OT → Env → Prop} (h : W d ρ fun x ρ' => Q (.d x) ρ') : W (yD d) ρ Q := by
  obtain ⟨x, ρ1, e, q⟩ := h
  exact ⟨_, _, by unfold yD; rw [e]; rfl, q⟩
theorem w_dY {Q : D → Env → Prop} (h : W y ρ fun r ρ' => ∃ x, OT.toD r = some x ∧ Q x ρ') : W (dY y) ρ Q := by
  obtain ⟨r, ρ1, e, x, e2, q⟩ := h
  exact ⟨_, _, by unfold dY; rw [e]; simp only [Option.bind_some, e2]; rfl, q⟩
theorem w_dCb {g : List D → Option D} {Q : D → Env → Prop} (h : W l ρ fun xs ρ' => ∃ x, g xs = some x ∧ Q x ρ') : W (dCb g l) ρ Q := by
  obtain ⟨r, ρ1, e, x, e2, q⟩ := h
  exact ⟨_, _, by unfold dCb; rw [e]; simp only [Option.bind_some, e2]; rfl, q⟩
theorem w_lNil {Q : List D → Env → Prop} (q : Q [] ρ) : W lNil ρ Q := ⟨_, _, rfl, q⟩
theorem w_lCons {Q : List D → Env → Prop} (h : W a ρ fun x ρ1 => W l ρ1 fun xs ρ2 => Q (x :: xs) ρ2) : W (lCons a l) ρ Q := by
  obtain ⟨x, ρ1, e, xs, ρ2, e2, q⟩ := h
  exact ⟨_, _, by unfold lCons; rw [e]; simp only [Option.bind_some, e2]; rfl, q⟩
theorem w_oNil {Q : List OT → Env → Prop} (q : Q [] ρ) : W oNil ρ Q := ⟨_, _, rfl, q⟩
theorem w_oCons {Q : List OT → Env → Prop} (h : W y ρ fun r ρ1 => isNo r = false ∧ W o ρ1 fun rs ρ2 => Q (r :: rs) ρ2) : W (oCons y o) ρ Q := by
  obtain ⟨x, ρ1, e, n, xs, ρ2, e2, q⟩ := h
  exact ⟨_, _, by unfold oCons; rw [e]; simp only [Option.bind_some, e2, n]; rfl, q⟩
theorem w_yTup {Q : OT → Env → Prop} (h : W o ρ fun ts ρ' => ts.length ≤ 1000000 ∧ Q (.nd .tup ts) ρ') : W (yTup o) ρ Q := by
  obtain ⟨x, ρ1, e, n, q⟩ := h
  exact ⟨_, _, by unfold yTup; rw [e]; simp only [Option.bind_some, n, if_true], q⟩
theorem w_yCall {f : List D → Option OT} {n : Nat} {Q : OT → Env → Prop} (h : W l ρ fun xs ρ' => xs.length = n ∧ ∃ r, f xs = some r ∧ Q r ρ') : W (yCall f n l) ρ Q := by
  obtain ⟨xs, ρ1, e, n, r, e2, q⟩ := h
  exact ⟨_, _, by unfold yCall; rw [e]; simp only [Option.bind_some, e2, n, if_true]; rfl, q⟩
theorem w_tD {Q : Bool → Env → Prop} (h : W d ρ fun x ρ' => ∃ c, x = .bool c ∧ Q c ρ') : W (tD d) ρ Q := by
  obtain ⟨x, ρ1, e, c, rfl, q⟩ := h
  exact ⟨_, _, by unfold tD; rw [e]; rfl, q⟩
theorem w_tR {m : Bm} {c : Bool} {Q : Bool → Env → Prop} (h : m ρ = some c) (q : Q c ρ) : W (tR m) ρ Q := ⟨_, _, by unfold tR; rw [h]; rfl, q⟩
theorem w_tOr {Q : Bool → Env → Prop} (h : W t ρ fun c ρ1 => (c = true → Q true ρ1) ∧ (c = false → W u ρ1 Q)) : W (tmOr t u) ρ Q := by
  obtain ⟨c, ρ1, e, q1, q2⟩ := h
  cases c with
  | true => exact ⟨_, _, by unfold tmOr; rw [e]; rfl, q1 rfl⟩
  | false =>
    obtain ⟨c, ρ2, e2, q⟩ := q2 rfl
    exact ⟨_, _, by unfold tmOr; rw [e]; simp only [Option.bind_some, Bool.false_eq_true, if_false]; exact e2, q⟩
theorem w_tNot {Q : Bool → Env → Prop} (h : W t ρ fun c ρ1 => Q (!c) ρ1) : W (tmNot t) ρ Q := by
  obtain ⟨c, ρ1, e, q⟩ := h
  exact ⟨_, _, by unfold tmNot; rw [e]; rfl, q⟩
theorem w_dOp {g : D → D → Option D} {Q : D → Env → Prop} (h : W a ρ fun x ρ1 => W b ρ1 fun y ρ2 => ∃ z, g x y = some z ∧ Q z ρ2) : W (dOp g a b) ρ Q := by
  obtain ⟨x, ρ1, e, y, ρ2, e2, z, e3, q⟩ := h
  exact ⟨_, _, by unfold dOp; rw [e]; simp only [Option.bind_some, e2, e3]; rfl, q⟩
theorem w_sif {s s' : Sm} {Q : Fl → Env → Prop} (h : W t ρ fun c ρ1 => (c = true → W s ρ1 Q) ∧ (c = false → W s' ρ1 Q)) : W (sIf t s s') ρ Q := by
  obtain ⟨c, ρ1, e, q1, q2⟩ := h
  exact w_if e q1 q2
end
/-! ### {k: True for ..} by pairs -/
theorem exw {α : Type} {p q : α → Prop} {a : α} (h : p a) (h2 : q a) : ∃ a, p a ∧ q a := ⟨a, h, h2⟩
theorem w_nx {b : Sm} {ρ ρ' : Env} {n : Env → Prop} {Q : Fl → Env → Prop} (h : b ρ = some (.nx, ρ')) (q : n ρ') : W b ρ (lpK n Q) := ⟨.nx, ρ', h, q⟩
theorem w_end {y : Ym} {ρ ρ' : Env} {r : OT} {P : OT → Prop} (h : y ρ = some (r, ρ')) (hn : isNo r = false) (q : P r) : W (sRet y) ρ (endK P) := by
  refine w_ret (.of h ?_)
  cases r with
  | no => cases hn
  | d x => exact q
  | nd k ts => exact q
  | fl ts => exact q
  | ex x => exact q
end MR
namespace MR
open PySem L2 PL
/-! ### pure: lists that have each number once; turned back, behind one another -/
theorem at'_nat {os : List Int} {k : Nat} (h : k < os.length) : at' os (k : Nat) = os[k] := by
  simp [at', h]
section
variable {n : Nat} {os : List Int} (ho : os.Perm (rng n))
include ho
theorem pm_len : os.length = n := by rw [ho.length_eq, rng_len]
theorem pm_nodup : os.Nodup := ho.nodup_iff.mpr (rng_nodup n)
theorem pm_in {a : Int} (h : 0 ≤ a) (h2 : a < (n : Int)) : 0 ≤ at' os a ∧ at' os a < (n : Int) := by
  have := pm_len ho
  exact rng_mem.mp (ho.mem_iff.mp (at'_mem h (by omega)))
theorem pm_inj {a b : Int} (h : 0 ≤ a) (h2 : a < (n : Int)) (h3 : 0 ≤ b) (h4 : b < (n : Int)) (e : at' os a = at' os b) : a = b := by
  have := pm_len ho
  exact at'_inj (pm_nodup ho) h (by omega) h3 (by omega) e
end
theorem fin_eq {B : Sm} {ρ : Env} {r : OT} (h : W B ρ (endK fun x => x = r)) : fin (B ρ) = some r := by
  obtain ⟨x, e, rfl⟩ := fin_w h
  exact e
end MR
namespace MR
open PySem L2 PL
/-! ### pure: walking with typed items -/
theorem set_id : ∀ {α : Type} {xs : List α} {i : Nat} {v : α}, xs[i]? = some v → xs.set i v = xs
  | _, [], _, _, _ => rfl
  | _, x :: xs, 0, v, h => by simp at h; rw [h]; rfl
  | _, x :: xs, i + 1, v, h => by rw [List.set_cons_succ, set_id (by simpa using h)]
theorem yVar_eq (i : Nat) (ρ : Env) : yVar i ρ = (ρ[i]?).bind fun t => (OT.toD t).map fun x => (.d x, ρ.set i (.d x)) := by
  unfold yVar
  rcases h : ρ[i]? with _ | (_ | x | ⟨k, ts⟩ | ts | x)
  · rfl
  · rfl
  · simp only [Option.bind_some, toD_d, Option.map_some, Option.some.injEq, Prod.mk.injEq, true_and]
    exact (set_id h).symm
  · rfl
  · rfl
  · rfl
theorem w_forT {α : Type} (I : Nat → Env → Prop) {enc : α → D} {it : Lm} {g : Gm} {b : Sm} {ρ ρ1 : Env} {as : List α} {Q : Fl → Env → Prop} (h : it ρ = some (as.map enc, ρ1)) (h0 : I 0 ρ1)
    (hs : ∀ i a ρ2, as[i]? = some a → I i ρ2 → ∃ ρ3, g (enc a) ρ2 = some ρ3 ∧ W b ρ3 (lpK (I (i + 1)) Q)) (hq : ∀ ρ2, I as.length ρ2 → Q .nx ρ2) : W (sFor it g b) ρ Q := by
  refine w_for I h h0 (fun i x ρ2 hx hi => ?_) (fun ρ2 hi => hq ρ2 (by rwa [List.length_map] at hi))
  rw [List.getElem?_map] at hx
  obtain ⟨a, ha, rfl⟩ := Option.map_eq_some_iff.mp hx
  exact hs i a ρ2 ha hi
theorem w_lcmT {α : Type} (f : α → OT) {enc : α → D} {vs : List Nat} {it : Lm} {g : Gm} {t : Tm} {e : Ym} {ρ ρ1 : Env} {as : List α} {Q : OT → Env → Prop} (h : it ρ = some (as.map enc, ρ1)) (hc : calmAt ρ1 vs = true) (hl : as.length ≤ 1000000)
    (hs : ∀ a ∈ as, W (lcStep g t e (enc a)) (wipeE ρ1 vs) fun o ρ3 => o = some (f a) ∧ wipeE ρ3 vs = wipeE ρ1 vs) (hq : Q (.nd .lst (as.map f)) (rst (wipeE ρ1 vs) ρ1 vs)) : W (yLc vs it g t e) ρ Q := by
  refine w_lc (fun i acc ρ2 => acc = (as.take i).map f ∧ ρ2 = wipeE ρ1 vs) h hc (by rw [List.length_map]; exact hl) ⟨by simp, rfl⟩ (fun i x acc ρ2 hx hi => ?_) fun acc ρ2 hi => ?_
  · obtain ⟨rfl, rfl⟩ := hi
    rw [List.getElem?_map] at hx
    obtain ⟨a, ha, rfl⟩ := Option.map_eq_some_iff.mp hx
    refine (hs a (List.mem_of_getElem? ha)).mono fun o ρ3 q => ?_
    obtain ⟨rfl, q⟩ := q
    refine ⟨?_, q⟩
    rw [List.take_add_one, ha]
    simp
  · obtain ⟨rfl, rfl⟩ := hi
    rw [List.length_map, List.take_length]
    exact hq
theorem w_lcfT {α : Type} (f : α → Option OT) {enc : α → D} {vs : List Nat} {it : Lm} {g : Gm} {t : Tm} {e : Ym} {ρ ρ1 : Env} {as : List α} {Q : OT → Env → Prop} (h : it ρ = some (as.map enc, ρ1)) (hc : calmAt ρ1 vs = true) (hl : as.length ≤ 1000000)
    (hs : ∀ a ∈ as, W (lcStep g t e (enc a)) (wipeE ρ1 vs) fun o ρ3 => o = f a ∧ wipeE ρ3 vs = wipeE ρ1 vs) (hq : Q (.nd .lst (as.filterMap f)) (rst (wipeE ρ1 vs) ρ1 vs)) : W (yLc vs it g t e) ρ Q := by
  refine w_lc (fun i acc ρ2 => acc = (as.take i).filterMap f ∧ ρ2 = wipeE ρ1 vs) h hc (by rw [List.length_map]; exact hl) ⟨by simp, rfl⟩ (fun i x acc ρ2 hx hi => ?_) fun acc ρ2 hi => ?_
  · obtain ⟨rfl, rfl⟩ := hi
    rw [List.getElem?_map] at hx
    obtain ⟨a, ha, rfl⟩ := Option.map_eq_some_iff.mp hx
    refine (hs a (List.mem_of_getElem? ha)).mono fun o ρ3 q => ?_
    obtain ⟨rfl, q⟩ := q
    refine ⟨?_, q⟩
    rw [List.take_add_one, ha, List.filterMap_append]
    refine congrArg _ ?_
    show (f a).toList = [a].filterMap f
    cases c : f a <;> simp [c]
  · obtain ⟨rfl, rfl⟩ := hi
    rw [List.length_map, List.take_length]
    exact hq
/-- one that changes what is around: by what holds ahead of each turn -/
theorem w_lcT {α : Type} (I : Nat → List OT → Env → Prop) {enc : α → D} {vs : List Nat} {it : Lm} {g : Gm} {t : Tm} {e : Ym} {ρ ρ1 : Env} {as : List α} {Q : OT → Env → Prop} (h : it ρ = some (as.map enc, ρ1)) (hc : calmAt ρ1 vs = true) (hl : as.length ≤ 1000000) (h0 : I 0 [] (wipeE ρ1 vs))
    (hs : ∀ i a acc ρ2, as[i]? = some a → I i acc ρ2 → W (lcStep g t e (enc a)) ρ2 fun o ρ3 => I (i + 1) (acc ++ o.toList) (wipeE ρ3 vs)) (hq : ∀ acc ρ2, I as.length acc ρ2 → Q (.nd .lst acc) (rst ρ2 ρ1 vs)) : W (yLc vs it g t e) ρ Q := by
  refine w_lc I h hc (by rw [List.length_map]; exact hl) h0 (fun i x acc ρ2 hx hi => ?_) (fun acc ρ2 hi => hq acc ρ2 (by rwa [List.length_map] at hi))
  rw [List.getElem?_map] at hx
  obtain ⟨a, ha, rfl⟩ := Option.map_eq_some_iff.mp hx
  exact hs i a acc ρ2 ha hi
theorem enumD_map {α : Type} (e : α → D) (as : List α) : enumD (as.map e) = as.zipIdx.map fun p => PyData.tuple [.int (p.2 : Nat), e p.1] := by
  unfold enumD
  rw [List.zipIdx_map]
  simp [Function.comp_def]
end MR
namespace MR
open PySem L2 PL
/-! ### pure: == of data; slices, sums of lists -/
theorem eqv_ints : ∀ as bs : List Int, PyData.eqvAll (as.map .int) (bs.map .int) = decide (as = bs)
  | [], [] => by simp [PyData.eqvAll]
  | a :: as, [] => by simp [PyData.eqvAll]
  | [], b :: bs => by simp [PyData.eqvAll]
  | a :: as, b :: bs => by
    simp only [List.map_cons, PyData.eqvAll, PyData.eqv, eqv_ints as bs]
    by_cases h : a = b <;> by_cases h2 : as = bs <;> simp [h, h2]
theorem GCat_ok {a b : List D} (h : a.length + b.length ≤ 1000000) : GCat (.list a) (.list b) = some (lstO (a ++ b)) := by
  simp only [GCat]
  rw [if_pos h]
theorem toD_dnew : OT.toD (.nd (.dT []) []) = some (.dict []) := by simp [OT.toD, flatDs]
theorem isNo_lstO (xs : List D) : isNo (lstO xs) = false := rfl
theorem rgD0 (n : Nat) : rgD 0 n = (List.range n).map fun (k : Nat) => PyData.int (k : Int) := by simp [rgD]
theorem neS_self (s : Str) : gNeS (.str s) (.str s) = some (.bool false) := by simp [gNeS]
theorem eqS_self (s : Str) : gEqS (.str s) (.str s) = some (.bool true) := by simp [gEqS]
theorem rep_one (k : Nat) (x : D) : (List.replicate k [x]).flatten = List.replicate k x := by
  induction k with
  | zero => rfl
  | succ k ih => simp [List.replicate_succ, ih]
theorem yRep_z {y : Ym} {n : Rm} {ρ ρ' : Env} {x : D} {z : Int} (h : y ρ = some (.nd .lst [.d x], ρ')) (hn : n ρ' = some (.int z)) (h0 : 0 ≤ z) (h1 : z ≤ 1000000) : yRep y n ρ = some (lstO (List.replicate z.toNat x), ρ') := by
  have b : -(2 ^ 63) ≤ z ∧ z < 2 ^ 63 ∧ [x].length * z.toNat ≤ 1000000 := ⟨by omega, by omega, by simp; omega⟩
  unfold yRep
  rw [h]
  simp only [Option.bind_some, allD, Option.map_some, hn]
  rw [if_pos b, rep_one]
theorem yRep_one {y : Ym} {n : Rm} {ρ ρ' : Env} {x : D} {k : Nat} (h : y ρ = some (.nd .lst [.d x], ρ')) (hn : n ρ' = some (.int (k : Nat))) (h1 : k ≤ 1000000) : yRep y n ρ = some (lstO (List.replicate k x), ρ') := by
  have := yRep_z h hn (by omega) (by omega)
  rwa [Int.toNat_natCast] at this
def bwK (is ks : List Nat) (ρ : Env) (Q : Fl → Env → Prop) : Fl → Env → Prop
  | .nx, ρ' => ρ'.length = ρ.length ∧ Q .nx (bBack (inN is) (inN ks) 0 ρ ρ')
  | .rt r, ρ' => ρ'.length = ρ.length ∧ r.lf = true ∧ Q (.rt r) (bBack (inN is) (inN ks) 0 ρ ρ')
  | _, _ => False
theorem w_borrow {is ks : List Nat} {b : Sm} {ρ ρ1 : Env} {Q : Fl → Env → Prop} (ha : (is ++ ks).all (hasAt ρ) = true) (h1 : bSet (inN is) 0 ρ = some ρ1) (h : W b ρ1 (bwK is ks ρ Q)) : W (sBorrow is ks b) ρ Q := by
  obtain ⟨fl, ρ', e, q⟩ := h
  unfold W sBorrow
  rw [if_neg (by rw [ha]; simp), h1, Option.bind_some, e]
  cases fl with
  | nx => exact ⟨_, _, if_pos q.1, q.2⟩
  | rt r => exact ⟨_, _, if_pos ⟨q.1, q.2.1⟩, q.2.2⟩
  | bk => exact q.elim
  | ct => exact q.elim
  | xc x => exact q.elim
end MR
namespace SH
open PySem L2 PL MR
local macro_rules | `(tactic| walk_at "ev") => `(tactic| simp (config := {decide := true}) only [ini, fin, finI, sSeq, sNext, sAsg, sAsgG, sRet, sRetN, sDrop, sIf, sNever, sSetP, sAppP, sClrP, sRevP, fR, pmVar, pmIx, pmIxT, MR.putAt, OT.put, OT.at, gmName, gmTup, gmLst, gsNil, gsCons, rVar, rC, rOp, rUn, rCb, rCbZ, rOpZ, rCall, rAnd, rOr, rNot, rIf, rIs, rCh, rCh3, rTup, rLst, rSl, cNone, cSome, rRepr, dRepr, rInDct, rIdx, small, qNil, qCons, qApp, lApp, bR, bAnd, bOr, bNot, tR, tD, tmAnd, tmOr, tmNot, yVar_eq, yMov, yR, yAuto, dY, yD, dR, dOp, dOpR, dCb, dAnd, dOr, dNot, yCall, yCallA, yCallI, yCallIT, yCb, yCbA, yOp, yOpA, lfO, yTup, yLst, oNil, oCons, isNo, lNil, lCons, asB, asInt, asL, asT, iL, iT, iE, iZ, iV, yRng1_eq, iR1_eq, iR2_eq, lcStep, calmAt, wipeE, rst, sApp, yPop_eq, sDPutM, ySortD, yDNew, gmName, toD_d, toD_tup, toD_lst, toDs_nil, toDs_cons, toDs_ints, toDs_fpr, toDs_prs, lfs_ints, lfs_fpr, intsO_len, prsO_len, fprO_len, rng_len, intsO_snoc, prsO_snoc, lstO_rg, rOpZ, rCbZ, isNo_lstO, toD_dnew, ySl, ySlA, neS_self, eqS_self,  rRevL, yRevL, yRevLA, yPop0, sExt, gStrI,  lstO_prs, lstO_ints, toD_lstO, kp_int, kp_bool, kp_tuple, kp_list, kp_str, isIntB, isBoolB, isTupB, isListB, isStrB, gAdd_i, gSub_i, gLt_i, gLe_i, gGt_i, gGe_i, gMul_r, gMul_l, gMod_i, gDiv_i, gPow_i, gNeg, gEqI, gNeI, gEqS, gNeS, gIsN, gNotN, gIsB, gNotB, gIxL, gIxT, gLen, gMax2, gMin2, gInt, gAll, asBools_map, isN, OT.lf, OT.lfs, flat, atI_0, atI_1, ixN_0, ixN_1, rgD_len, enumD_len, trues_len, Int.toNat_natCast, List.length_map, eq_self, Option.bind_some, Option.bind_none, Option.map_some, Option.map_none, List.getElem?_cons_zero, List.getElem?_cons_succ, List.set_cons_zero, List.set_cons_succ, List.map_cons, List.map_nil, List.replicate, List.nil_append, List.cons_append, List.length_cons, List.length_nil, List.all_cons, List.all_nil, if_true, if_false, reduceIte, tfl_int, tfl_bool, tfl_none, tfl_str, tfl_list, Bool.true_and, Bool.and_true, Bool.false_and, Bool.and_false, Bool.true_or, Bool.or_true, Bool.false_or, Bool.or_false, Bool.not_true, Bool.not_false, Bool.false_eq_true, decide_true, decide_false, true_and, and_true, false_and, and_false, or_true, true_or, *])
/-! ### lists of webs, rows -/
abbrev Wb := Nat × List (Int × Int)
def wbD (w : Wb) : D := WD w.1 w.2
structure WbOk (w : Wb) : Prop where
  ok : WOk w.1 w.2
  lo : 1 ≤ w.1
  hi : w.1 ≤ 40
  len : w.2.length ≤ 120
theorem wbD_eq (w : Wb) : wbD w = .tuple [.int (w.1 : Nat), .list (w.2.map pairD)] := rfl
theorem look_webs_ok {ws : List Wb} (h : ∀ w ∈ ws, WbOk w) (hl : ws.length ≤ 12) : m_look_at_webs [.list (ws.map wbD)] = some (.d .none) := by
  have g : decide ((12 : Int) < (ws.length : Int)) = false := by simp; omega
  unfold m_look_at_webs B_look_at_webs
  refine fin_eq ?_
  refine w_st (by walk_at "ev" <;> exact rfl) ?_
  refine w_for (fun i ρ => ∃ X Y, ρ = [.d (.list (ws.map wbD)), X, Y]) (xs := enumD (ws.map wbD)) (by walk_at "ev" <;> exact rfl) ⟨_, _, rfl⟩ ?_ ?_
  · rintro i x ρ2 hx ⟨X, Y, rfl⟩
    rw [enumD_map, List.getElem?_map] at hx
    obtain ⟨⟨w, j⟩, hw, rfl⟩ := Option.map_eq_some_iff.mp hx
    have hm : w ∈ ws := by
      rw [List.getElem?_zipIdx] at hw
      obtain ⟨w', hw', e⟩ := Option.map_eq_some_iff.mp hw
      simp at e
      exact e.1 ▸ List.mem_of_getElem? hw'
    have k := h w hm
    have f : m_web_fault [wbD w] = some (.d .none) := fault_ok k.ok k.lo k.hi k.len
    generalize wbD w = d at *
    apply exw
    · walk_at "ev" <;> exact rfl
    apply w_nx
    · walk_at "ev" <;> exact rfl
    exact ⟨_, _, rfl⟩
  · rintro ρ2 ⟨X, Y, rfl⟩
    rfl
/-! numbers of rows -/
end SH
namespace SH
open PySem L2 PL MR
local macro_rules | `(tactic| walk_at "ev") => `(tactic| simp (config := {decide := true}) only [ini, fin, finI, sSeq, sNext, sAsg, sAsgG, sRet, sRetN, sDrop, sIf, sNever, sSetP, sAppP, sClrP, sRevP, fR, pmVar, pmIx, pmIxT, MR.putAt, OT.put, OT.at, gmName, gmTup, gmLst, gsNil, gsCons, rVar, rC, rOp, rUn, rCb, rCbZ, rOpZ, rCall, rAnd, rOr, rNot, rIf, rIs, rCh, rCh3, rTup, rLst, rSl, cNone, cSome, rRepr, dRepr, rInDct, rIdx, small, qNil, qCons, qApp, lApp, bR, bAnd, bOr, bNot, tR, tD, tmAnd, tmOr, tmNot, yVar_eq, yMov, yR, yAuto, dY, yD, dR, dOp, dOpR, dCb, dAnd, dOr, dNot, yCall, yCallA, yCallI, yCallIT, yCb, yCbA, yOp, yOpA, lfO, yTup, yLst, oNil, oCons, isNo, lNil, lCons, asB, asInt, asL, asT, iL, iT, iE, iZ, iV, yRng1_eq, iR1_eq, iR2_eq, lcStep, calmAt, wipeE, rst, sApp, yPop_eq, sDPutM, ySortD, yDNew, gmName, toD_d, toD_tup, toD_lst, toDs_nil, toDs_cons, toDs_ints, toDs_fpr, toDs_prs, lfs_ints, lfs_fpr, intsO_len, prsO_len, fprO_len, rng_len, intsO_snoc, prsO_snoc, lstO_rg, rOpZ, rCbZ, isNo_lstO, toD_dnew, ySl, ySlA, neS_self, eqS_self,  rRevL, yRevL, yRevLA, yPop0, sExt, gStrI,  lstO_prs, lstO_ints, toD_lstO, kp_int, kp_bool, kp_tuple, kp_list, kp_str, isIntB, isBoolB, isTupB, isListB, isStrB, gAdd_i, gSub_i, gLt_i, gLe_i, gGt_i, gGe_i, gMul_r, gMul_l, gMod_i, gDiv_i, gPow_i, gNeg, gEqI, gNeI, gEqS, gNeS, gIsN, gNotN, gIsB, gNotB, gIxL, gIxT, gLen, gMax2, gMin2, gInt, gAll, asBools_map, isN, OT.lf, OT.lfs, flat, atI_0, atI_1, ixN_0, ixN_1, rgD_len, enumD_len, trues_len, Int.toNat_natCast, List.length_map, eq_self, Option.bind_some, Option.bind_none, Option.map_some, Option.map_none, List.getElem?_cons_zero, List.getElem?_cons_succ, List.set_cons_zero, List.set_cons_succ, List.map_cons, List.map_nil, List.replicate, List.nil_append, List.cons_append, List.length_cons, List.length_nil, List.all_cons, List.all_nil, if_true, if_false, reduceIte, tfl_int, tfl_bool, tfl_none, tfl_str, tfl_list, Bool.true_and, Bool.and_true, Bool.false_and, Bool.and_false, Bool.true_or, Bool.or_true, Bool.false_or, Bool.or_false, Bool.not_true, Bool.not_false, Bool.false_eq_true, decide_true, decide_false, true_and, and_true, false_and, and_false, or_true, true_or, *])
def RowOk : List Wb → List Int → Prop
  | [], [] => True
  | w :: ws, p :: ps => (0 ≤ p ∧ p < (w.1 : Int)) ∧ RowOk ws ps
  | _, _ => False
theorem RowOk.len : ∀ {ws : List Wb} {r : List Int}, RowOk ws r → r.length = ws.length
  | [], [], _ => rfl
  | w :: ws, p :: ps, h => by simp [RowOk.len h.2]
/-! the row of a number -/
/-! the same where no web is empty -/
end SH
namespace SH
open PySem L2 PL MR
local macro_rules | `(tactic| walk_at "ev") => `(tactic| simp (config := {decide := true}) only [ini, fin, finI, sSeq, sNext, sAsg, sAsgG, sRet, sRetN, sDrop, sIf, sNever, sSetP, sAppP, sClrP, sRevP, fR, pmVar, pmIx, pmIxT, MR.putAt, OT.put, OT.at, gmName, gmTup, gmLst, gsNil, gsCons, rVar, rC, rOp, rUn, rCb, rCbZ, rOpZ, rCall, rAnd, rOr, rNot, rIf, rIs, rCh, rCh3, rTup, rLst, rSl, cNone, cSome, rRepr, dRepr, rInDct, rIdx, small, qNil, qCons, qApp, lApp, bR, bAnd, bOr, bNot, tR, tD, tmAnd, tmOr, tmNot, yVar_eq, yMov, yR, yAuto, dY, yD, dR, dOp, dOpR, dCb, dAnd, dOr, dNot, yCall, yCallA, yCallI, yCallIT, yCb, yCbA, yOp, yOpA, lfO, yTup, yLst, oNil, oCons, isNo, lNil, lCons, asB, asInt, asL, asT, iL, iT, iE, iZ, iV, yRng1_eq, iR1_eq, iR2_eq, lcStep, calmAt, wipeE, rst, sApp, yPop_eq, sDPutM, ySortD, yDNew, gmName, toD_d, toD_tup, toD_lst, toDs_nil, toDs_cons, toDs_ints, toDs_fpr, toDs_prs, lfs_ints, lfs_fpr, intsO_len, prsO_len, fprO_len, rng_len, intsO_snoc, prsO_snoc, lstO_rg, rOpZ, rCbZ, isNo_lstO, toD_dnew, ySl, ySlA, neS_self, eqS_self,  rRevL, yRevL, yRevLA, yPop0, sExt, gStrI,  lstO_prs, lstO_ints, toD_lstO, kp_int, kp_bool, kp_tuple, kp_list, kp_str, isIntB, isBoolB, isTupB, isListB, isStrB, gAdd_i, gSub_i, gLt_i, gLe_i, gGt_i, gGe_i, gMul_r, gMul_l, gMod_i, gDiv_i, gPow_i, gNeg, gEqI, gNeI, gEqS, gNeS, gIsN, gNotN, gIsB, gNotB, gIxL, gIxT, gLen, gMax2, gMin2, gInt, gAll, asBools_map, isN, OT.lf, OT.lfs, flat, atI_0, atI_1, ixN_0, ixN_1, rgD_len, enumD_len, trues_len, Int.toNat_natCast, List.length_map, eq_self, Option.bind_some, Option.bind_none, Option.map_some, Option.map_none, List.getElem?_cons_zero, List.getElem?_cons_succ, List.set_cons_zero, List.set_cons_succ, List.map_cons, List.map_nil, List.replicate, List.nil_append, List.cons_append, List.length_cons, List.length_nil, List.all_cons, List.all_nil, if_true, if_false, reduceIte, tfl_int, tfl_bool, tfl_none, tfl_str, tfl_list, Bool.true_and, Bool.and_true, Bool.false_and, Bool.and_false, Bool.true_or, Bool.or_true, Bool.false_or, Bool.or_false, Bool.not_true, Bool.not_false, Bool.false_eq_true, decide_true, decide_false, true_and, and_true, false_and, and_false, or_true, true_or, *])
theorem toD_ints (r : List Int) : OT.toD (.nd .lst (intsO r)) = some (.list (r.map .int)) := by rw [toD_lst, toDs_ints]; rfl
/-! the law's own drawing -/
theorem RowOk.push : ∀ {ws : List Wb} {r : List Int} {w : Wb} {p : Int}, RowOk ws r → 0 ≤ p → p < (w.1 : Int) → RowOk (ws ++ [w]) (r ++ [p])
  | [], [], w, p, _, h1, h2 => ⟨⟨h1, h2⟩, trivial⟩
  | v :: ws, q :: r, w, p, h, h1, h2 => ⟨h.1, h.2.push h1 h2⟩
def wbO (w : Wb) : OT := .nd .tup [.d (.int (w.1 : Nat)), .nd .lst (fprO w.2)]
theorem toD_wbO (w : Wb) : OT.toD (wbO w) = some (wbD w) := by
  simp [wbO, wbD, WD, toD_tup, toDs_cons, toDs_nil, toD_d, toD_lst, toDs_fpr]
end SH
namespace MR
open PySem L2 PL
/-! ### pure: rows, tables of lists, membership of pairs -/
theorem GCat_ints {a b : List Int} (h : a.length + b.length ≤ 1000000) : GCat (.list (a.map .int)) (.list (b.map .int)) = some (.nd .lst (intsO (a ++ b))) := by
  rw [GCat_ok (by simpa using h), ← List.map_append, lstO_ints]
/-! sorting -/
/-! membership of pairs -/
theorem dY_of {y : Ym} {ρ ρ' : Env} {r : OT} {x : D} (h : y ρ = some (r, ρ')) (h2 : OT.toD r = some x) : dY y ρ = some (x, ρ') := by
  unfold dY
  rw [h, Option.bind_some, h2]
  rfl
theorem yOp_of {G : D → D → Option OT} {a b : Dm} {ρ ρ1 ρ2 : Env} {x y : D} {r : OT} (h1 : a ρ = some (x, ρ1)) (h2 : b ρ1 = some (y, ρ2)) (h3 : G x y = some r) : yOp G a b ρ = some (r, ρ2) := by
  unfold yOp
  rw [h1, Option.bind_some, h2, Option.bind_some, h3]
  rfl
theorem yOpA_both {G : D → D → Option OT} {ra rb : Rm} {a b : Dm} {ρ : Env} {x y : D} {r : OT} (h1 : ra ρ = some x) (h2 : rb ρ = some y) (h3 : G x y = some r) (h4 : yOp G a b ρ = some (r, ρ)) : yOpA G ra rb a b ρ = some (r, ρ) := by
  unfold yOpA
  rw [h1, h2, Option.bind_some, Option.bind_some, h3, h4]
  unfold lfO
  split <;> rename_i h
  · simp only [] at h
    split at h
    · cases h; rfl
    · cases h
  · rfl
/-! comprehensions with two fors -/
end MR
namespace SQ
open PySem L2 PL MR SH
local macro_rules | `(tactic| walk_at "ev") => `(tactic| simp (config := {decide := true}) only [ini, fin, finI, sSeq, sNext, sAsg, sAsgG, sRet, sRetN, sDrop, sIf, sNever, sSetP, sAppP, sClrP, sRevP, fR, pmVar, pmIx, pmIxT, MR.putAt, OT.put, OT.at, gmName, gmTup, gmLst, gsNil, gsCons, rVar, rC, rOp, rUn, rCb, rCbZ, rOpZ, rCall, rAnd, rOr, rNot, rIf, rIs, rCh, rCh3, rTup, rLst, rSl, cNone, cSome, rRepr, dRepr, rInDct, rIdx, rIdxD, iR3s, small, qNil, qCons, qApp, lApp, bR, bAnd, bOr, bNot, tR, tD, tmAnd, tmOr, tmNot, yVar_eq, yMov, yR, yAuto, dY, yD, dR, dOp, dOpR, dCb, dAnd, dOr, dNot, yCall, yCallA, yCallI, yCallIT, yCb, yCbA, yOp, yOpA, lfO, yTup, yLst, oNil, oCons, isNo, lNil, lCons, asB, asInt, asL, asT, iL, iT, iE, iZ, iV, yRng1_eq, iR1_eq, iR2_eq, lcStep, calmAt, wipeE, rst, sApp, yPop_eq, sDPutM, ySortD, yDNew, gmName, toD_d, toD_tup, toD_lst, toDs_nil, toDs_cons, toDs_ints, toDs_fpr, toDs_prs, lfs_ints, lfs_fpr, intsO_len, prsO_len, fprO_len, rng_len, intsO_snoc, prsO_snoc, lstO_rg, rOpZ, rCbZ, isNo_lstO, toD_dnew, ySl, ySlA, neS_self, eqS_self,  rRevL, yRevL, yRevLA, yPop0, sExt, gStrI,  lstO_prs, lstO_ints, toD_lstO, kp_int, kp_bool, kp_tuple, kp_list, kp_str, isIntB, isBoolB, isTupB, isListB, isStrB, gAdd_i, gSub_i, gLt_i, gLe_i, gGt_i, gGe_i, gMul_r, gMul_l, gMod_i, gDiv_i, gPow_i, gNeg, gEqI, gNeI, gEqS, gNeS, gIsN, gNotN, gIsB, gNotB, gIxL, gIxT, gLen, gMax2, gMin2, gInt, gAll, asBools_map, isN, OT.lf, OT.lfs, flat, atI_0, atI_1, ixN_0, ixN_1, rgD_len, enumD_len, trues_len, Int.toNat_natCast, List.length_map, eq_self, Option.bind_some, Option.bind_none, Option.map_some, Option.map_none, List.getElem?_cons_zero, List.getElem?_cons_succ, List.set_cons_zero, List.set_cons_succ, List.map_cons, List.map_nil, List.replicate, List.nil_append, List.cons_append, List.length_cons, List.length_nil, List.all_cons, List.all_nil, if_true, if_false, reduceIte, tfl_int, tfl_bool, tfl_none, tfl_str, tfl_list, Bool.true_and, Bool.and_true, Bool.false_and, Bool.and_false, Bool.true_or, Bool.or_true, Bool.false_or, Bool.or_false, Bool.not_true, Bool.not_false, Bool.false_eq_true, decide_true, decide_false, true_and, and_true, false_and, and_false, or_true, true_or, *])
def digOk (ds sz : List Int) (n : Nat) : Prop := ∀ k : Nat, k < n → 0 ≤ at' ds (k : Nat) ∧ at' ds (k : Nat) < at' sz (k : Nat)
theorem at'_snoc {ds : List Int} {x : Int} {i k : Nat} (hl : ds.length = i) : at' (ds ++ [x]) (k : Nat) = if k = i then x else at' ds (k : Nat) := by
  unfold at'
  rw [Int.toNat_natCast]
  by_cases h : k = i
  · subst h; subst hl; simp
  · rw [if_neg h]
    by_cases h2 : k < i
    · rw [List.getD_eq_getElem?_getD, List.getElem?_append_left (by omega), ← List.getD_eq_getElem?_getD]
    · rw [List.getD_eq_getElem?_getD, List.getD_eq_getElem?_getD, List.getElem?_eq_none (by simp; omega), List.getElem?_eq_none (by omega)]
theorem digOk_snoc {ds sz : List Int} {x : Int} {i : Nat} (hl : ds.length = i) (h : digOk ds sz i) (h1 : 0 ≤ x) (h2 : x < at' sz (i : Nat)) : digOk (ds ++ [x]) sz (i + 1) := by
  intro k hk
  rw [at'_snoc hl]
  split
  · rename_i e; subst e; exact ⟨h1, h2⟩
  · exact h k (by omega)
theorem numbers_ok (c salt : Int) (hs : 0 ≤ salt ∧ salt ≤ 1000000) (sz : List Int) (hl : sz.length ≤ 10000) (h : ∀ s ∈ sz, 0 < s ∧ s < 1073741824) : ∃ ds : List Int, SQ.m__law_numbers [.int c, .int salt, .list (sz.map .int)] = some (.nd .lst (intsO ds)) ∧ ds.length = sz.length ∧ digOk ds sz sz.length := by
  have c1 := rg1_n (n := sz.length) (by omega)
  have c5 : (0 : Int) ≤ 18 ∧ (18 : Int) ≤ 1000000 ∧ (10 : Int).natAbs < 2 ^ 64 := by decide
  have c2 : ((-(2 ^ 64) : Int) < 7919 ∧ (7919 : Int) < 2 ^ 64) := by decide
  have c3 : ((-(2 ^ 64) : Int) < 101 ∧ (101 : Int) < 2 ^ 64) := by decide
  have c4 : ((-(2 ^ 64) : Int) < 48271 ∧ (48271 : Int) < 2 ^ 64) := by decide
  obtain ⟨r, e, ds, rfl, h1, h2⟩ := fin_w (P := fun x => ∃ ds : List Int, x = .nd .lst (intsO ds) ∧ ds.length = sz.length ∧ digOk ds sz sz.length) (B := B__law_numbers) (ρ := ini [.int c, .int salt, .list (sz.map .int)] 5) (by
    unfold B__law_numbers
    refine w_st (by walk_at "ev" <;> exact rfl) ?_
    refine w_st (by walk_at "ev" <;> exact rfl) ?_
    refine w_st (by walk_at "ev" <;> exact rfl) ?_
    generalize max c (-1 - c) = N
    refine w_seq (w_for (fun i ρ => ∃ (left : Int) (ds : List Int) (X Y : OT), ρ = [.d (.int c), .d (.int salt), .d (.list (sz.map .int)), .d (.int N), .d (.int left), .nd .lst (intsO ds), X, Y] ∧ ds.length = i ∧ digOk ds sz i) (xs := rgD 0 sz.length) (by walk_at "ev" <;> exact rfl) ⟨_, [], _, _, rfl, rfl, fun k hk => by omega⟩ ?_ ?_)
    · rintro i x ρ2 hx ⟨left, ds, X, Y, rfl, g1, g2⟩
      obtain ⟨hi, rfl⟩ := rgD_at hx
      rw [Int.zero_add]
      have e1 := atI_os (os := sz) (a := (i : Nat)) (by omega) (by omega)
      have e2 := h _ (at'_mem (os := sz) (a := (i : Nat)) (by omega) (by omega))
      have g3 : i ≤ 1000000 := by omega
      have ck : (-(2 ^ 64) : Int) < (i : Int) ∧ (i : Int) < 2 ^ 64 := by omega
      have fin' : ∀ x : Int, 0 ≤ x → x < at' sz (i : Nat) → digOk (ds ++ [x]) sz (i + 1) := fun x a b => digOk_snoc g1 g2 a b
      have fl : ∀ x : Int, (ds ++ [x]).length = i + 1 := fun x => by simp [g1]
      clear g2
      generalize hK : (i : Int) = K at *
      generalize at' sz K = s at *
      apply exw
      · walk_at "ev" <;> exact rfl
      have e3 : 0 < s := e2.1
      by_cases ha : (10 : Int) ^ (18 : Int).toNat ≤ N
      · by_cases hb : 0 < left
        · refine w_if (c := true) (by walk_at "ev" <;> exact rfl) (fun _ => ?_) (fun z => by cases z)
          refine w_st (by walk_at "ev" <;> exact rfl) ?_
          apply w_nx
          · walk_at "ev" <;> exact rfl
          exact ⟨_, _, _, _, rfl, fl _, fin' _ (Int.emod_nonneg _ (by omega)) (Int.emod_lt_of_pos _ e3)⟩
        · refine w_if (c := false) (by walk_at "ev" <;> exact rfl) (fun z => by cases z) (fun _ => ?_)
          refine w_st (by walk_at "ev" <;> exact rfl) ?_
          refine w_st (by walk_at "ev" <;> exact rfl) ?_
          have o1 : ∀ x : Int, (-(2 ^ 64) : Int) < x % 2147483647 ∧ x % 2147483647 < 2 ^ 64 := fun x => by omega
          refine w_st (by walk_at "ev" <;> exact rfl) ?_
          apply w_nx
          · walk_at "ev" <;> exact rfl
          exact ⟨_, _, _, _, rfl, fl _, fin' _ (Int.emod_nonneg _ (by omega)) (Int.emod_lt_of_pos _ e3)⟩
      · refine w_if (c := false) (by walk_at "ev" <;> exact rfl) (fun z => by cases z) (fun _ => ?_)
        refine w_st (by walk_at "ev" <;> exact rfl) ?_
        refine w_st (by walk_at "ev" <;> exact rfl) ?_
        have o1 : ∀ x : Int, (-(2 ^ 64) : Int) < x % 2147483647 ∧ x % 2147483647 < 2 ^ 64 := fun x => by omega
        refine w_st (by walk_at "ev" <;> exact rfl) ?_
        apply w_nx
        · walk_at "ev" <;> exact rfl
        exact ⟨_, _, _, _, rfl, fl _, fin' _ (Int.emod_nonneg _ (by omega)) (Int.emod_lt_of_pos _ e3)⟩
    · rintro ρ2 ⟨left, ds, X, Y, rfl, g1, g2⟩
      rw [rgD_len] at g1 g2
      exact w_end (by walk_at "ev" <;> exact rfl) rfl ⟨ds, rfl, g1, g2⟩)
  exact ⟨ds, e, h1, h2⟩
theorem order_ok {ds : List Int} (hl : ds.length ≤ 10000) (h : ∀ d ∈ ds, 0 ≤ d) : ∃ os : List Int, SQ.m__law_order [.list (ds.map .int)] = some (.nd .lst (intsO os)) ∧ os.Perm (rng ds.length) := by
  have c1 := rg0_n (n := ds.length) (by omega)
  obtain ⟨r, e, os, rfl, h1⟩ := fin_w (P := fun x => ∃ os : List Int, x = .nd .lst (intsO os) ∧ os.Perm (rng ds.length)) (B := B__law_order) (ρ := ini [.list (ds.map .int)] 2) (by
    unfold B__law_order
    refine w_st (by walk_at "ev" <;> exact rfl) ?_
    refine w_ret (w_lcT (fun i acc ρ => ∃ (os ls : List Int) (X : OT), acc = intsO os ∧ ρ = [.d (.list (ds.map .int)), .nd .lst (intsO ls), X] ∧ (os ++ ls).Perm (rng ds.length) ∧ os.length = i) (as := ds) (enc := PyData.int) (by walk_at "ev" <;> exact rfl) rfl (by omega) ⟨[], rng ds.length, _, rfl, rfl, .refl _, rfl⟩ ?_ ?_)
    · rintro i d acc ρ2 hd ⟨os, ls, X, rfl, rfl, hp, hi⟩
      have hd0 := h d (List.mem_of_getElem? hd)
      have hlt : i < ds.length := (List.getElem?_eq_some_iff.mp hd).1
      have hlen : ls.length + i = ds.length := by have := hp.length_eq; rw [List.length_append, rng_len] at this; omega
      obtain ⟨j, hj⟩ : ∃ j : Nat, d % (ls.length : Int) = j := ⟨(d % (ls.length : Int)).toNat, by have := Int.emod_nonneg d (b := (ls.length : Int)) (by omega); omega⟩
      have hj2 : j < ls.length := by have := Int.emod_lt_of_pos d (b := (ls.length : Int)) (by omega); omega
      obtain ⟨k, xs', k1, k2, k3, k4⟩ := pop_ints hj2
      have c2 := pop1_n hj2 (by omega)
      have c3 : (0 : Int) < (ls.length : Int) := by omega
      refine W.of (by walk_at "ev" <;> exact rfl) ?_
      refine ⟨os ++ [k], xs', _, by simp [intsO], rfl, ?_, by simp; omega⟩
      refine List.Perm.trans ?_ hp
      rw [List.append_assoc]
      exact List.Perm.append_left _ k3
    · rintro acc ρ2 ⟨os, ls, X, rfl, rfl, hp, hi⟩
      have hlen : ls.length = 0 := by have := hp.length_eq; rw [List.length_append, rng_len] at this; omega
      have : ls = [] := List.length_eq_zero_iff.mp hlen
      subst this
      rw [List.append_nil] at hp
      exact ⟨os, rfl, hp⟩)
  exact ⟨os, e, h1⟩
end SQ
namespace MR
open PySem L2 PL
/-! ### pure: more walking -/
theorem w_yOp {G : D → D → Option OT} {a b : Dm} {ρ : Env} {Q : OT → Env → Prop} (h : W a ρ fun x ρ1 => W b ρ1 fun y ρ2 => ∃ r, G x y = some r ∧ Q r ρ2) : W (yOp G a b) ρ Q := by
  obtain ⟨x, ρ1, e, y, ρ2, e2, r, e3, q⟩ := h
  exact ⟨_, _, yOp_of e e2 e3, q⟩
theorem w_dYof {y : Ym} {ρ ρ' : Env} {r : OT} {x : D} {Q : D → Env → Prop} (h : y ρ = some (r, ρ')) (h2 : OT.toD r = some x) (q : Q x ρ') : W (dY y) ρ Q := ⟨_, _, dY_of h h2, q⟩
theorem ySlA_lf {ra : Rm} {a : Dm} {lo hi : Cm} {ρ : Env} {xs : List D} {l h : Option Int} (h1 : ra ρ = some (.list xs)) (h3 : lo ρ = some l) (h4 : hi ρ = some h) (lf : (lstO (cutD xs l h)).lf = true) : ySlA ra a lo hi ρ = some (lstO (cutD xs l h), ρ) := by
  unfold ySlA
  rw [h1]
  simp only [Option.bind_some, asL, h3, h4, lfO, lf, if_true]
theorem cut_mid (r : List Int) {a b : Nat} (h : a ≤ b) (h2 : b ≤ r.length) : cutD (r.map PyData.int) (some (a : Int)) (some (b : Int)) = ((r.drop a).take (b - a)).map .int := by
  unfold cutD
  rw [HT.sIx_nat, HT.sIx_nat, List.length_map, Nat.min_eq_left h2, Nat.min_eq_left (by omega : a ≤ r.length)]
  rw [← List.map_drop, ← List.map_take]
theorem atI_neg {os : List Int} {k : Nat} (h : k < os.length) : atI (os.map PyData.int) (-1 - (k : Int)) = some (.int (at' os ((os.length - 1 - k : Nat) : Int))) := by
  have e : ixN os.length (-1 - (k : Int)) = some (os.length - 1 - k) := by
    unfold ixN
    split <;> (try split) <;> (try simp) <;> omega
  have h2 : os.length - 1 - k < os.length := by omega
  have e2 : at' os ((os.length - 1 - k : Nat) : Int) = os[os.length - 1 - k] := at'_nat h2
  unfold atI
  rw [List.length_map, e]
  simp [e2, h2]
theorem yCallA_any {f : List D → Option OT} {n : Nat} {q : Qm} {l : Lm} {ρ : Env} {ds : List D} {r : OT} (h : q ρ = some ds) (hl : l ρ = some (ds, ρ)) (hn : ds.length = n) (hf : f ds = some r) : yCallA f n q l ρ = some (r, ρ) := by
  have e : yCall f n l ρ = some (r, ρ) := by
    unfold yCall
    rw [hl]
    simp [hn, hf]
  unfold yCallA
  rw [h, e]
  simp only [Option.bind_some, hn, if_true, hf, lfO]
  by_cases g : r.lf = true
  · simp [g]
  · simp [g]
theorem w_asgG {g : Gm} {d : Dm} {ρ : Env} {Q : Fl → Env → Prop} (h : W d ρ fun x ρ1 => ∃ ρ2, g x ρ1 = some ρ2 ∧ Q .nx ρ2) : W (sAsgG g d) ρ Q := by
  obtain ⟨x, ρ1, e, ρ2, e2, q⟩ := h
  exact ⟨_, _, by unfold sAsgG; rw [e]; simp only [Option.bind_some, e2]; rfl, q⟩
theorem toDs_mapD {α : Type} (f : α → D) (xs : List α) : OT.toDs (xs.map fun a => OT.d (f a)) = some (xs.map f) := by
  have := toDs_mapd (xs.map f)
  rwa [List.map_map] at this
theorem w_ext {i : Nat} {y : Ym} {ρ : Env} {ts0 : List OT} {Q : Fl → Env → Prop} (h0 : ρ[i]? = some (.nd .lst ts0)) (h : W y ρ fun r ρ' => ∃ us ts, r = .nd .lst us ∧ ρ'[i]? = some (.nd .lst ts) ∧ ts.length + us.length ≤ 1000000 ∧ Q .nx (ρ'.set i (.nd .lst (ts ++ us)))) : W (sExt i y) ρ Q := by
  obtain ⟨r, ρ1, e, us, ts, rfl, e2, g, q⟩ := h
  refine ⟨_, _, ?_, q⟩
  unfold sExt
  rw [h0]
  simp only [e, Option.bind_some, e2]
  rw [if_pos g]
end MR
namespace SQ
open PySem L2 PL MR SH
local macro_rules | `(tactic| walk_at "ev") => `(tactic| simp (config := {decide := true}) only [ini, fin, finI, sSeq, sNext, sAsg, sAsgG, sRet, sRetN, sDrop, sIf, sNever, sSetP, sAppP, sClrP, sRevP, fR, pmVar, pmIx, pmIxT, MR.putAt, OT.put, OT.at, gmName, gmTup, gmLst, gsNil, gsCons, rVar, rC, rOp, rUn, rCb, rCbZ, rOpZ, rCall, rAnd, rOr, rNot, rIf, rIs, rCh, rCh3, rTup, rLst, rSl, cNone, cSome, rRepr, dRepr, rInDct, rIdx, rIdxD, iR3s, small, qNil, qCons, qApp, lApp, bR, bAnd, bOr, bNot, tR, tD, tmAnd, tmOr, tmNot, yVar_eq, yMov, yR, yAuto, dY, yD, dR, dOp, dOpR, dCb, dAnd, dOr, dNot, yCall, yCallA, yCallI, yCallIT, yCb, yCbA, yOp, yOpA, lfO, yTup, yLst, oNil, oCons, isNo, lNil, lCons, asB, asInt, asL, asT, iL, iT, iE, iZ, iV, yRng1_eq, iR1_eq, iR2_eq, lcStep, calmAt, wipeE, rst, sApp, yPop_eq, sDPutM, ySortD, yDNew, gmName, toD_d, toD_tup, toD_lst, toDs_nil, toDs_cons, toDs_ints, toDs_fpr, toDs_prs, lfs_ints, lfs_fpr, intsO_len, prsO_len, fprO_len, rng_len, intsO_snoc, prsO_snoc, lstO_rg, rOpZ, rCbZ, isNo_lstO, toD_dnew, ySl, ySlA, neS_self, eqS_self,  rRevL, yRevL, yRevLA, yPop0, sExt, gStrI,  lstO_prs, lstO_ints, toD_lstO, kp_int, kp_bool, kp_tuple, kp_list, kp_str, isIntB, isBoolB, isTupB, isListB, isStrB, gAdd_i, gSub_i, gLt_i, gLe_i, gGt_i, gGe_i, gMul_r, gMul_l, gMod_i, gDiv_i, gPow_i, gNeg, gEqI, gNeI, gEqS, gNeS, gIsN, gNotN, gIsB, gNotB, gIxL, gIxT, gLen, gMax2, gMin2, gInt, gAll, asBools_map, isN, OT.lf, OT.lfs, flat, atI_0, atI_1, ixN_0, ixN_1, rgD_len, enumD_len, trues_len, Int.toNat_natCast, List.length_map, eq_self, Option.bind_some, Option.bind_none, Option.map_some, Option.map_none, List.getElem?_cons_zero, List.getElem?_cons_succ, List.set_cons_zero, List.set_cons_succ, List.map_cons, List.map_nil, List.replicate, List.nil_append, List.cons_append, List.length_cons, List.length_nil, List.all_cons, List.all_nil, if_true, if_false, reduceIte, tfl_int, tfl_bool, tfl_none, tfl_str, tfl_list, Bool.true_and, Bool.and_true, Bool.false_and, Bool.and_false, Bool.true_or, Bool.or_true, Bool.false_or, Bool.or_false, Bool.not_true, Bool.not_false, Bool.false_eq_true, decide_true, decide_false, true_and, and_true, false_and, and_false, or_true, true_or, *])
/-! the law's drawn web -/
def szA (n : Nat) (most more : Int) : List Int := [most, more + 1] ++ (List.range (n - 1)).map (fun (k : Nat) => (k : Int) + 1) ++ (List.range n).map (fun (k : Nat) => (n : Int) - (k : Int))
def szs (n : Nat) (most : Int) (more : Nat) : List Int := szA n most more ++ List.replicate more ((n : Int) * n) ++ List.replicate (n - 1) 3
theorem szA_len (n : Nat) (h : 1 ≤ n) (most more : Int) : (szA n most more).length = 2 * n + 1 := by simp [szA]; omega
theorem szs_len (n : Nat) (h : 1 ≤ n) (most : Int) (more : Nat) : (szs n most more).length = 2 * n + 1 + more + (n - 1) := by simp [szs, szA_len n h]; omega
theorem szs_pos (n : Nat) (h : 1 ≤ n) (h2 : n ≤ 40) (most : Int) (m1 : 1 ≤ most) (m2 : most ≤ 40) (more : Nat) (h3 : more ≤ 60) : ∀ s ∈ szs n most more, 0 < s ∧ s < 1073741824 := by
  intro s hs
  have hn : (1 : Int) ≤ (n : Int) * n ∧ (n : Int) * n ≤ 1600 := by
    constructor
    · have := Int.mul_le_mul (a := 1) (c := (n : Int)) (b := 1) (d := n) (by omega) (by omega) (by omega) (by omega); omega
    · have := Int.mul_le_mul (a := (n : Int)) (c := 40) (b := n) (d := 40) (by omega) (by omega) (by omega) (by omega); omega
  simp only [szs, szA, List.mem_append, List.mem_map, List.mem_range, List.mem_replicate, List.mem_cons, List.not_mem_nil, or_false] at hs
  rcases hs with ((((rfl | rfl) | ⟨k, hk, rfl⟩) | ⟨k, hk, rfl⟩) | ⟨_, rfl⟩) | ⟨_, rfl⟩ <;> omega
theorem szs_1 (n : Nat) (most : Int) (more : Nat) : at' (szs n most more) ((1 : Nat) : Int) = more + 1 := rfl
theorem szs_2 {n k : Nat} (h : k < n - 1) (most : Int) (more : Nat) : at' (szs n most more) ((2 + k : Nat) : Int) = (k : Int) + 1 := by
  unfold at' szs szA
  rw [Int.toNat_natCast, List.getD_eq_getElem?_getD, List.append_assoc, List.append_assoc, List.append_assoc, List.getElem?_append_right (by simp)]
  rw [List.getElem?_append_left (by simp; omega)]
  simp [h]
theorem szs_3 {n k more : Nat} (h1 : 1 ≤ n) (h : k < more) (most : Int) : at' (szs n most more) ((2 * n + 1 + k : Nat) : Int) = (n : Int) * n := by
  unfold at' szs
  have := szA_len n h1 most (more : Int)
  rw [Int.toNat_natCast, List.getD_eq_getElem?_getD, List.append_assoc, List.getElem?_append_right (by omega)]
  rw [List.getElem?_append_left (by simp; omega)]
  simp [this, h]
def cB (b : Bool) (p : Int × Int) : Option (Int × Int) := if b then some p else Option.none
theorem prs_fm {α : Type} (g : α → Option (Int × Int)) (xs : List α) : xs.filterMap (fun a => (g a).map fun p => OT.nd .tup [.d (.int p.1), .d (.int p.2)]) = prsO (xs.filterMap g) := by
  unfold prsO
  rw [List.map_filterMap]
theorem ties_step {c salt most more loose m S6 X7 D8 L10 X11 : OT} {n : Nat} {os : List Int} (ho : os.Perm (rng n)) {a b : Int} (a0 : 0 ≤ a) (a1 : a < (n : Int)) (b0 : 0 ≤ b) (b1 : b < (n : Int)) {ks : List (Int × Int)} (h1 : ks.Nodup) (hk : ks.length ≤ 100000) (h3 : ∀ p ∈ ks, 0 ≤ p.1 ∧ p.1 < p.2 ∧ p.2 < (n : Int)) {Q : Fl → MR.Env → Prop}
    (q : ∀ ks' : List (Int × Int), ks'.Nodup → ks'.length ≤ ks.length + 1 → (∀ p ∈ ks', 0 ≤ p.1 ∧ p.1 < p.2 ∧ p.2 < (n : Int)) → Q .nx [c, salt, most, more, loose, m, S6, X7, D8, .nd .lst (intsO os), L10, X11, .nd (.dT (ks'.map kO)) (trues ks'.length), .d (.int a), .d (.int b)]) :
    W (sIf (tR (bR (rOp gNeI (rVar 13) (rVar 14)))) (sDPutM 12 (rTup (qCons (rCb gMin2 (qCons (rOp gIxL (rVar 9) (rVar 13)) (qCons (rOp gIxL (rVar 9) (rVar 14)) qNil))) (qCons (rCb gMax2 (qCons (rOp gIxL (rVar 9) (rVar 13)) (qCons (rOp gIxL (rVar 9) (rVar 14)) qNil))) qNil))) (rC (.bool true))) sNext)
      [c, salt, most, more, loose, m, S6, X7, D8, .nd .lst (intsO os), L10, X11, .nd (.dT (ks.map kO)) (trues ks.length), .d (.int a), .d (.int b)] Q := by
  have hlen : os.length = n := pm_len ho
  by_cases hne : a = b
  · have hf : decide (a = b) = true := decide_eq_true hne
    have q' := q ks h1 (by omega) h3
    clear hne q
    refine w_if (c := false) (by walk_at "ev" <;> exact rfl) (fun z => by cases z) (fun _ => ?_)
    exact w_next q'
  · have hf : decide (a = b) = false := by simp [hne]
    refine w_if (c := true) (by walk_at "ev" <;> exact rfl) (fun _ => ?_) (fun z => by cases z)
    have ea := atI_os (os := os) (a := a) a0 (by omega)
    have eb := atI_os (os := os) (a := b) b0 (by omega)
    have ma := pm_in ho a0 a1
    have mb := pm_in ho b0 b1
    have hne2 : at' os a ≠ at' os b := fun z => hne (pm_inj ho a0 a1 b0 b1 z)
    generalize at' os a = u at *
    generalize at' os b = v at *
    have hp := putO_true ks (min u v, max u v)
    have hk' : keyP (.tuple [.int (min u v), .int (max u v)]) = some (kO (min u v, max u v)) := rfl
    have g : ks.length ≤ 1000000 := by omega
    have g2 : (ks.map kO).length = (trues ks.length).length := by simp [trues]
    refine W.of (r := .nx) (by walk_at "ev" <;> exact rfl) (q (insK ks (min u v, max u v)) (insK_nodup h1) (insK_len _ _) ?_)
    intro z hz
    rcases PL.insK_mem hz with hz | rfl
    · exact h3 z hz
    · simp only []
      omega
theorem digOk.nn {ds sz : List Int} (h : digOk ds sz ds.length) : ∀ d ∈ ds, 0 ≤ d := by
  intro d hd
  obtain ⟨k, hk, rfl⟩ := List.getElem_of_mem hd
  have := (h k hk).1
  rwa [at'_nat hk] at this
theorem prsO_app (a b : List (Int × Int)) : prsO a ++ prsO b = prsO (a ++ b) := by simp [prsO]
theorem ints_map {α : Type} (g : α → Int) (xs : List α) : (xs.map fun a => OT.d (.int (g a))) = intsO (xs.map g) := by simp [intsO]
theorem web_ok (c salt : Int) (hs : 0 ≤ salt ∧ salt ≤ 1000000) (most : Int) (m1 : 1 ≤ most) (m2 : most ≤ 40) (more : Nat) (h3 : more ≤ 60) (loose : Bool) : ∃ w : Wb, SQ.m__law_web [.int c, .int salt, .int most, .int more, .bool loose] = some (wbO w) ∧ WbOk w ∧ (w.1 : Int) ≤ most := by
  obtain ⟨d0, e0, l0, g0⟩ := numbers_ok c salt hs [most] (by simp) (by intro s hs; simp at hs; omega)
  obtain ⟨d, rfl⟩ : ∃ d, d0 = [d] := List.length_eq_one_iff.mp l0
  have g0 := g0 0 (by simp)
  have g0 : 0 ≤ d ∧ d < most := g0
  simp only [List.map_cons, List.map_nil] at e0
  obtain ⟨n, hn⟩ : ∃ n : Nat, 1 + d = (n : Int) := ⟨(1 + d).toNat, by omega⟩
  have n1 : 1 ≤ n := by omega
  have n2 : n ≤ 40 := by omega
  have hn1 : (n : Int) - 1 = ((n - 1 : Nat) : Int) := by omega
  obtain ⟨ds, e1, l1, g1⟩ := numbers_ok c salt hs (szs n most more) (by rw [szs_len n n1]; omega) (szs_pos n n1 n2 most m1 m2 more h3)
  rw [szs_len n n1] at l1 g1
  have c1 := rg1_n (n := n - 1) (by omega)
  have c2 := rg1_n (n := n) (by omega)
  rw [rgD0] at c1 c2
  obtain ⟨r, e, w, rfl, h1, h2⟩ := fin_w (P := fun x => ∃ w : Wb, x = wbO w ∧ WbOk w ∧ (w.1 : Int) ≤ most) (B := B__law_web) (ρ := ini [.int c, .int salt, .int most, .int more, .bool loose] 10) (by
    unfold B__law_web
    refine w_st (by walk_at "ev" <;> exact rfl) ?_
    refine w_seq (w_asg (w_yOp (w_dY (w_yOp (w_dYof (r := .nd .lst (intsO [most, more + 1])) (by walk_at "ev" <;> exact rfl) (toD_ints _) (w_dY (w_lcmT (fun k : Nat => OT.d (.int ((k : Int) + 1))) (as := List.range (n - 1)) (enc := fun k : Nat => PyData.int (k : Int)) (by walk_at "ev" <;> exact rfl) rfl (by simp; omega) (fun k hk => ?_) ?_)))))))
    · refine W.of (by walk_at "ev" <;> exact rfl) ?_
      exact ⟨rfl, rfl⟩
    rw [ints_map]
    refine ⟨_, toD_ints _, _, GCat_ints (by simp; omega), _, toD_ints _, ?_⟩
    simp only [wipeE, rst, List.getElem?_cons_zero, List.getElem?_cons_succ, List.set_cons_zero, List.set_cons_succ]
    refine w_dY (w_lcmT (fun k : Nat => OT.d (.int ((n : Int) - (k : Int)))) (as := List.range n) (enc := fun k : Nat => PyData.int (k : Int)) (by walk_at "ev" <;> exact rfl) rfl (by simp; omega) (fun k hk => ?_) ?_)
    · refine W.of (by walk_at "ev" <;> exact rfl) ?_
      exact ⟨rfl, rfl⟩
    rw [ints_map]
    refine ⟨_, toD_ints _, _, GCat_ints (by simp; omega), ?_⟩
    simp only [sqK, wipeE, rst, List.getElem?_cons_zero, List.getElem?_cons_succ, List.set_cons_zero, List.set_cons_succ]
    rw [show [most, (more : Int) + 1] ++ (List.range (n - 1)).map (fun (k : Nat) => (k : Int) + 1) ++ (List.range n).map (fun (k : Nat) => (n : Int) - (k : Int)) = szA n most more from rfl]
    have la := szA_len n n1 most more
    have es : szs n most more = szA n most more ++ List.replicate more ((n : Int) * n) ++ List.replicate (n - 1) 3 := rfl
    have k1 := toD_ints (szA n most more)
    have mn : ((-(2 ^ 64) : Int) < (n : Int) ∧ (n : Int) < 2 ^ 64) := by omega
    refine w_seq (w_asg (w_yCall ?_))
    rw [es] at e1
    clear es
    generalize szA n most more = A at *
    have r1 : List.replicate more (PyData.int ((n : Int) * n)) = (List.replicate more ((n : Int) * n)).map .int := by rw [List.map_replicate]
    have r2 : List.replicate (n - 1) (PyData.int 3) = (List.replicate (n - 1) (3 : Int)).map .int := by rw [List.map_replicate]
    refine w_lCons (W.of (by walk_at "ev" <;> exact rfl) ?_)
    refine w_lCons (W.of (by walk_at "ev" <;> exact rfl) ?_)
    refine w_lCons (w_dY (w_yOp (w_dY (w_yOp ?_))))
    refine W.of (by walk_at "ev" <;> exact rfl) ?_
    refine w_dYof (yRep_one (k := more) (x := .int ((n : Int) * n)) (by walk_at "ev" <;> exact rfl) (by walk_at "ev" <;> exact rfl) (by omega)) (toD_lstO _) ?_
    rw [r1]
    refine ⟨_, GCat_ints (by simp; omega), _, toD_ints _, ?_⟩
    refine w_dYof (yRep_one (k := n - 1) (x := .int 3) (by walk_at "ev" <;> exact rfl) (by walk_at "ev" <;> exact rfl) (by omega)) (toD_lstO _) ?_
    rw [r2]
    refine ⟨_, GCat_ints (by simp; omega), _, toD_ints _, ?_⟩
    refine w_lNil ⟨rfl, _, e1, ?_⟩
    clear r1 r2 e1
    simp only [sqK, List.getElem?_cons_zero, List.getElem?_cons_succ, List.set_cons_zero, List.set_cons_succ]
    clear k1
    generalize PyData.list (A.map .int) = S6
    clear la A c1 e0 l0
    have b1 : (n : Int) + 1 = ((n + 1 : Nat) : Int) := by omega
    have b2 : 2 * (n : Int) + 1 = ((2 * n + 1 : Nat) : Int) := by omega
    have two : ((-(2 ^ 64) : Int) < 2 ∧ (2 : Int) < 2 ^ 64) := by decide
    have k1 := cut_mid ds (a := n + 1) (b := 2 * n + 1) (by omega) (by omega)
    have nn : ∀ d ∈ ds, 0 ≤ d := digOk.nn (sz := szs n most more) (by rw [l1]; exact g1)
    obtain ⟨os, e2, ho⟩ := order_ok (ds := (ds.drop (n + 1)).take (2 * n + 1 - (n + 1))) (by simp; omega) (fun d hd => nn d (List.mem_of_mem_drop (List.mem_of_mem_take hd)))
    rw [show ((ds.drop (n + 1)).take (2 * n + 1 - (n + 1))).length = n by simp; omega] at ho
    generalize (ds.drop (n + 1)).take (2 * n + 1 - (n + 1)) = O at *
    refine w_st (by walk_at "ev" <;> exact rfl) ?_
    clear k1 e2 b1
    have c1 := rg1_n (n := n - 1) (by omega)
    rw [rgD0] at c1
    refine w_seq (w_asg (w_lcfT (fun k : Nat => (cB (!loose || decide (0 < at' ds ((ds.length - 1 - k : Nat) : Int))) ((k : Int) + 1, at' ds ((2 + k : Nat) : Int))).map fun p => OT.nd .tup [.d (.int p.1), .d (.int p.2)]) (as := List.range (n - 1)) (enc := fun k : Nat => PyData.int (k : Int)) (by walk_at "ev" <;> exact rfl) rfl (by simp; omega) (fun k hk => ?_) ?_))
    · have hk := List.mem_range.mp hk
      have e3 := atI_neg (os := ds) (k := k) (by omega)
      have b3 : (2 : Int) + (k : Int) = ((2 + k : Nat) : Int) := by omega
      have e4 := atI_os (os := ds) (a := ((2 + k : Nat) : Int)) (by omega) (by omega)
      generalize at' ds ((ds.length - 1 - k : Nat) : Int) = x at *
      generalize at' ds ((2 + k : Nat) : Int) = y at *
      cases loose with
      | false =>
        refine W.of (by walk_at "ev" <;> exact rfl) ?_
        exact ⟨rfl, rfl⟩
      | true =>
        by_cases hx : 0 < x
        · have hx' : decide (0 < x) = true := decide_eq_true hx
          rw [hx']
          refine W.of (by walk_at "ev" <;> exact rfl) ?_
          exact ⟨rfl, rfl⟩
        · have hx' : decide (0 < x) = false := decide_eq_false hx
          rw [hx']
          refine W.of (by walk_at "ev" <;> exact rfl) ?_
          exact ⟨rfl, rfl⟩
    rw [prs_fm]
    have hq : ∀ p ∈ (List.range (n - 1)).filterMap (fun k : Nat => cB (!loose || decide (0 < at' ds ((ds.length - 1 - k : Nat) : Int))) ((k : Int) + 1, at' ds ((2 + k : Nat) : Int))), 0 ≤ p.1 ∧ p.1 < (n : Int) ∧ 0 ≤ p.2 ∧ p.2 < (n : Int) := by
      intro p hp
      obtain ⟨k, hk, e⟩ := List.mem_filterMap.mp hp
      have hk := List.mem_range.mp hk
      unfold cB at e
      split at e
      · cases e
        have := g1 (2 + k) (by omega)
        rw [szs_2 hk] at this
        exact ⟨by simp only []; omega, by simp only []; omega, this.1, by simp only []; omega⟩
      · cases e
    have lq := List.length_filterMap_le (fun k : Nat => cB (!loose || decide (0 < at' ds ((ds.length - 1 - k : Nat) : Int))) ((k : Int) + 1, at' ds ((2 + k : Nat) : Int))) (List.range (n - 1))
    rw [List.length_range] at lq
    generalize (List.range (n - 1)).filterMap (fun k : Nat => cB (!loose || decide (0 < at' ds ((ds.length - 1 - k : Nat) : Int))) ((k : Int) + 1, at' ds ((2 + k : Nat) : Int))) = qs at *
    simp only [sqK, wipeE, rst, List.getElem?_cons_zero, List.getElem?_cons_succ, List.set_cons_zero, List.set_cons_succ]
    have d1 := g1 1 (by omega)
    rw [szs_1] at d1
    obtain ⟨j, hj⟩ : ∃ j : Nat, at' ds ((1 : Nat) : Int) = (j : Int) := ⟨(at' ds ((1 : Nat) : Int)).toNat, by omega⟩
    have e3 : atI (ds.map PyData.int) 1 = some (.int (j : Nat)) := by
      have := atI_os (os := ds) (a := 1) (by omega) (by omega)
      rw [this]; congr 2
    have b4 : ((2 * n + 1 : Nat) : Int) + (j : Int) = ((2 * n + 1 + j : Nat) : Int) := by omega
    have k2 := cut_mid ds (a := 2 * n + 1) (b := 2 * n + 1 + j) (by omega) (by omega)
    have hU : ∀ d ∈ (ds.drop (2 * n + 1)).take (2 * n + 1 + j - (2 * n + 1)), 0 ≤ d ∧ d < (n : Int) * n := by
      intro d hd
      obtain ⟨k, hk, rfl⟩ := List.getElem_of_mem hd
      have hk' : k < j := by simp at hk; omega
      have := g1 (2 * n + 1 + k) (by omega)
      rw [szs_3 n1 (by omega), at'_nat (by omega)] at this
      simpa using this
    have lU : ((ds.drop (2 * n + 1)).take (2 * n + 1 + j - (2 * n + 1))).length = j := by simp; omega
    generalize (ds.drop (2 * n + 1)).take (2 * n + 1 + j - (2 * n + 1)) = U at *
    have pn : (0 : Int) < (n : Int) ∧ (n : Int) < 1073741824 := by omega
    refine w_seq (w_ext rfl (w_lcmT (fun d : Int => OT.nd .tup [.d (.int (d / (n : Int))), .d (.int (d % (n : Int)))]) (as := U) (enc := PyData.int) (by walk_at "ev" <;> exact rfl) rfl (by omega) (fun d hd => ?_) ?_))
    · refine W.of (by walk_at "ev" <;> exact rfl) ?_
      exact ⟨rfl, rfl⟩
    refine ⟨_, _, rfl, rfl, by rw [prsO_len, List.length_map]; omega, ?_⟩
    have us : U.map (fun d : Int => OT.nd .tup [.d (.int (d / (n : Int))), .d (.int (d % (n : Int)))]) = prsO (U.map fun d => (d / (n : Int), d % (n : Int))) := by simp [prsO]
    rw [us, prsO_app]
    have hq2 : ∀ p ∈ qs ++ U.map (fun d => (d / (n : Int), d % (n : Int))), 0 ≤ p.1 ∧ p.1 < (n : Int) ∧ 0 ≤ p.2 ∧ p.2 < (n : Int) := by
      intro p hp
      rcases List.mem_append.mp hp with hp | hp
      · exact hq p hp
      · obtain ⟨d, hd, rfl⟩ := List.mem_map.mp hp
        have := hU d hd
        exact ⟨Int.ediv_nonneg this.1 (by omega), Int.ediv_lt_of_lt_mul (by omega) this.2, Int.emod_nonneg _ (by omega), Int.emod_lt_of_pos _ (by omega)⟩
    have lq2 : (qs ++ U.map (fun d => (d / (n : Int), d % (n : Int)))).length ≤ 120 := by simp; omega
    generalize qs ++ U.map (fun d => (d / (n : Int), d % (n : Int))) = ps at *
    clear us hU lU k2 b4 e3 hj d1 lq hq
    simp only [sqK, wipeE, rst, List.getElem?_cons_zero, List.getElem?_cons_succ, List.set_cons_zero, List.set_cons_succ]
    refine w_st (by walk_at "ev" <;> exact rfl) ?_
    refine w_seq (w_forT (fun i ρ => ∃ (ks : List (Int × Int)) (Z W : OT), ρ = [.d (.int c), .d (.int salt), .d (.int most), .d (.int more), .d (.bool loose), .d (.int n), .d S6, .no, .nd .lst (intsO ds), .nd .lst (intsO os), .d (.list (ps.map pairD)), .no, .nd (.dT (ks.map kO)) (trues ks.length), Z, W] ∧ ks.Nodup ∧ ks.length ≤ i ∧ ∀ p ∈ ks, 0 ≤ p.1 ∧ p.1 < p.2 ∧ p.2 < (n : Int)) (as := ps) (enc := pairD) (by walk_at "ev" <;> exact rfl) ⟨[], _, _, rfl, by simp, by simp, by simp⟩ (fun i p ρ2 hp hs => ?_) ?_)
    · obtain ⟨ks, Z, W, rfl, f1, f2, f3⟩ := hs
      have hp2 := hq2 p (List.mem_of_getElem? hp)
      have hi : i < ps.length := (List.getElem?_eq_some_iff.mp hp).1
      apply exw
      · simp only [pairD]
        walk_at "ev" <;> exact rfl
      refine ties_step ho hp2.1 hp2.2.1 hp2.2.2.1 hp2.2.2.2 f1 (by omega) f3 fun ks' f1 f2 f3 => ?_
      exact ⟨ks', _, _, rfl, f1, by omega, f3⟩
    · rintro ρ2 ⟨ks, Z, W, rfl, f1, f2, f3⟩
      have x1 := trues_all ks.length
      have x2 := asKeyPs_map ks
      have x3 : (ks.map kO).length = (trues ks.length).length := by simp [trues]
      refine w_end (by walk_at "ev" <;> exact rfl) rfl ⟨(n, srtL ks), rfl, ⟨⟨fun p hp => f3 p (srtL_mem.mp hp), srtL_lex ks, srtL_nodup f1⟩, n1, n2, by simp only [srtL_len]; omega⟩, by simp only []; omega⟩)
  exact ⟨w, e, h1, h2⟩
end SQ
namespace SH
open PySem L2 PL MR
local macro_rules | `(tactic| walk_at "ev") => `(tactic| simp (config := {decide := true}) only [ini, fin, finI, sSeq, sNext, sAsg, sAsgG, sRet, sRetN, sDrop, sIf, sNever, sSetP, sAppP, sClrP, sRevP, fR, pmVar, pmIx, pmIxT, MR.putAt, OT.put, OT.at, gmName, gmTup, gmLst, gsNil, gsCons, rVar, rC, rOp, rUn, rCb, rCbZ, rOpZ, rCall, rAnd, rOr, rNot, rIf, rIs, rCh, rCh3, rTup, rLst, rSl, cNone, cSome, rRepr, dRepr, rInDct, rIdx, small, qNil, qCons, qApp, lApp, bR, bAnd, bOr, bNot, tR, tD, tmAnd, tmOr, tmNot, yVar_eq, yMov, yR, yAuto, dY, yD, dR, dOp, dOpR, dCb, dAnd, dOr, dNot, yCall, yCallA, yCallI, yCallIT, yCb, yCbA, yOp, yOpA, lfO, yTup, yLst, oNil, oCons, isNo, lNil, lCons, asB, asInt, asL, asT, iL, iT, iE, iZ, iV, yRng1_eq, iR1_eq, iR2_eq, lcStep, calmAt, wipeE, rst, sApp, yPop_eq, sDPutM, ySortD, yDNew, gmName, toD_d, toD_tup, toD_lst, toDs_nil, toDs_cons, toDs_ints, toDs_fpr, toDs_prs, lfs_ints, lfs_fpr, intsO_len, prsO_len, fprO_len, rng_len, intsO_snoc, prsO_snoc, lstO_rg, rOpZ, rCbZ, isNo_lstO, toD_dnew, ySl, ySlA, neS_self, eqS_self,  rRevL, yRevL, yRevLA, yPop0, sExt, gStrI,  lstO_prs, lstO_ints, toD_lstO, kp_int, kp_bool, kp_tuple, kp_list, kp_str, isIntB, isBoolB, isTupB, isListB, isStrB, gAdd_i, gSub_i, gLt_i, gLe_i, gGt_i, gGe_i, gMul_r, gMul_l, gMod_i, gDiv_i, gPow_i, gNeg, gEqI, gNeI, gEqS, gNeS, gIsN, gNotN, gIsB, gNotB, gIxL, gIxT, gLen, gMax2, gMin2, gInt, gAll, asBools_map, isN, OT.lf, OT.lfs, flat, atI_0, atI_1, ixN_0, ixN_1, rgD_len, enumD_len, trues_len, Int.toNat_natCast, List.length_map, eq_self, Option.bind_some, Option.bind_none, Option.map_some, Option.map_none, List.getElem?_cons_zero, List.getElem?_cons_succ, List.set_cons_zero, List.set_cons_succ, List.map_cons, List.map_nil, List.replicate, List.nil_append, List.cons_append, List.length_cons, List.length_nil, List.all_cons, List.all_nil, if_true, if_false, reduceIte, tfl_int, tfl_bool, tfl_none, tfl_str, tfl_list, Bool.true_and, Bool.and_true, Bool.false_and, Bool.and_false, Bool.true_or, Bool.or_true, Bool.false_or, Bool.or_false, Bool.not_true, Bool.not_false, Bool.false_eq_true, decide_true, decide_false, true_and, and_true, false_and, and_false, or_true, true_or, *])
/-! ### who is beside whom -/
/-! ties of a product -/
/-! whether rows are tied -/
def wbAt (ws : List Wb) (k : Nat) : Wb := ws.getD k (1, [])
/-! rows beside -/
theorem at'_zero (p : Int) (r : List Int) : at' (p :: r) ((0 : Nat) : Int) = p := rfl
theorem at'_succ (p : Int) (r : List Int) (i : Nat) : at' (p :: r) ((i + 1 : Nat) : Int) = at' r (i : Nat) := by
  unfold at'
  rw [show (((i + 1 : Nat) : Int)).toNat = i + 1 by omega, show ((i : Nat) : Int).toNat = i by omega]
  rfl
theorem RowOk.at : ∀ {ws : List Wb} {r : List Int}, RowOk ws r → ∀ {i : Nat}, i < ws.length → 0 ≤ at' r (i : Nat) ∧ at' r (i : Nat) < ((wbAt ws i).1 : Int)
  | w :: ws, p :: r, h, 0, _ => by
    rw [at'_zero]
    exact h.1
  | w :: ws, p :: r, h, i + 1, hi => by
    rw [at'_succ]
    exact RowOk.at (ws := ws) h.2 (by simpa using hi)
theorem RowOk.set : ∀ {ws : List Wb} {r : List Int} {i : Nat} {q : Int}, RowOk ws r → 0 ≤ q → q < ((wbAt ws i).1 : Int) → RowOk ws (r.set i q)
  | [], [], i, q, _, _, _ => trivial
  | w :: ws, p :: r, 0, q, h, h0, h1 => ⟨⟨h0, h1⟩, h.2⟩
  | w :: ws, p :: r, i + 1, q, h, h0, h1 => ⟨h.1, RowOk.set h.2 h0 h1⟩
end SH
namespace SH
open PySem L2 PL MR
local macro_rules | `(tactic| walk_at "ev") => `(tactic| simp (config := {decide := true}) only [ini, fin, finI, sSeq, sNext, sAsg, sAsgG, sRet, sRetN, sDrop, sIf, sNever, sSetP, sAppP, sClrP, sRevP, fR, pmVar, pmIx, pmIxT, MR.putAt, OT.put, OT.at, gmName, gmTup, gmLst, gsNil, gsCons, rVar, rC, rOp, rUn, rCb, rCbZ, rOpZ, rCall, rAnd, rOr, rNot, rIf, rIs, rCh, rCh3, rTup, rLst, rSl, cNone, cSome, rRepr, dRepr, rInDct, rIdx, small, qNil, qCons, qApp, lApp, bR, bAnd, bOr, bNot, tR, tD, tmAnd, tmOr, tmNot, yVar_eq, yMov, yR, yAuto, dY, yD, dR, dOp, dOpR, dCb, dAnd, dOr, dNot, yCall, yCallA, yCallI, yCallIT, yCb, yCbA, yOp, yOpA, lfO, yTup, yLst, oNil, oCons, isNo, lNil, lCons, asB, asInt, asL, asT, iL, iT, iE, iZ, iV, yRng1_eq, iR1_eq, iR2_eq, lcStep, calmAt, wipeE, rst, sApp, yPop_eq, sDPutM, ySortD, yDNew, gmName, toD_d, toD_tup, toD_lst, toDs_nil, toDs_cons, toDs_ints, toDs_fpr, toDs_prs, lfs_ints, lfs_fpr, intsO_len, prsO_len, fprO_len, rng_len, intsO_snoc, prsO_snoc, lstO_rg, rOpZ, rCbZ, isNo_lstO, toD_dnew, ySl, ySlA, neS_self, eqS_self,  rRevL, yRevL, yRevLA, yPop0, sExt, gStrI,  lstO_prs, lstO_ints, toD_lstO, kp_int, kp_bool, kp_tuple, kp_list, kp_str, isIntB, isBoolB, isTupB, isListB, isStrB, gAdd_i, gSub_i, gLt_i, gLe_i, gGt_i, gGe_i, gMul_r, gMul_l, gMod_i, gDiv_i, gPow_i, gNeg, gEqI, gNeI, gEqS, gNeS, gIsN, gNotN, gIsB, gNotB, gIxL, gIxT, gLen, gMax2, gMin2, gInt, gAll, asBools_map, isN, OT.lf, OT.lfs, flat, atI_0, atI_1, ixN_0, ixN_1, rgD_len, enumD_len, trues_len, Int.toNat_natCast, List.length_map, eq_self, Option.bind_some, Option.bind_none, Option.map_some, Option.map_none, List.getElem?_cons_zero, List.getElem?_cons_succ, List.set_cons_zero, List.set_cons_succ, List.map_cons, List.map_nil, List.replicate, List.nil_append, List.cons_append, List.length_cons, List.length_nil, List.all_cons, List.all_nil, if_true, if_false, reduceIte, tfl_int, tfl_bool, tfl_none, tfl_str, tfl_list, Bool.true_and, Bool.and_true, Bool.false_and, Bool.and_false, Bool.true_or, Bool.or_true, Bool.false_or, Bool.or_false, Bool.not_true, Bool.not_false, Bool.false_eq_true, decide_true, decide_false, true_and, and_true, false_and, and_false, or_true, true_or, *])
theorem nice_wb {w : Wb} (k : WbOk w) : Nice (wbD w) 3 400 :=
  (nice_tup2 (k := 2) ((nice_int (by have := k.hi; omega)).up (by omega) (by omega : 0 ≤ 0)) (nice_list (f := pairD) (k := 1) (b := 2) (n := 120) (fun p hp => nice_pr (by have := k.ok.in' p hp; have := k.hi; omega)) k.len)).up (by omega) (by omega)
theorem nice_wbs {ws : List Wb} (h : ∀ w ∈ ws, WbOk w) (hl : ws.length ≤ 12) : Nice (.list (ws.map wbD)) 4 (12 * 401) := nice_list (f := wbD) (n := 12) (fun w hw => nice_wb (h w hw)) hl
/-! sums and products over the first numbers -/
end SH
namespace z82
open PySem L2 PL MR SH SQ
local macro_rules | `(tactic| walk_at "ev") => `(tactic| simp (config := {decide := true}) only [ini, fin, finI, sSeq, sNext, sAsg, sAsgG, sRet, sRetN, sDrop, sIf, sNever, sSetP, sAppP, sClrP, sRevP, fR, pmVar, pmIx, pmIxT, MR.putAt, OT.put, OT.at, gmName, gmTup, gmLst, gsNil, gsCons, rVar, rC, rOp, rUn, rCb, rCbZ, rOpZ, rCall, rAnd, rOr, rNot, rIf, rIs, rCh, rCh3, rTup, rLst, rSl, cNone, cSome, rRepr, dRepr, rInDct, rIdx, rIdxD, iR3s, small, qNil, qCons, qApp, lApp, bR, bAnd, bOr, bNot, tR, tD, tmAnd, tmOr, tmNot, yVar_eq, yMov, yR, yAuto, dY, yD, dR, dOp, dOpR, dCb, dAnd, dOr, dNot, yCall, yCallA, yCallI, yCallIT, yCb, yCbA, yOp, yOpA, lfO, yTup, yLst, oNil, oCons, isNo, lNil, lCons, asB, asInt, asL, asT, iL, iT, iE, iZ, iV, yRng1_eq, iR1_eq, iR2_eq, lcStep, calmAt, wipeE, rst, sApp, yPop_eq, sDPutM, ySortD, yDNew, gmName, toD_d, toD_tup, toD_lst, toDs_nil, toDs_cons, toDs_ints, toDs_fpr, toDs_prs, lfs_ints, lfs_fpr, intsO_len, prsO_len, fprO_len, rng_len, intsO_snoc, prsO_snoc, lstO_rg, rOpZ, rCbZ, isNo_lstO, toD_dnew, ySl, ySlA, neS_self, eqS_self,  rRevL, yRevL, yRevLA, yPop0, sExt, gStrI,  lstO_prs, lstO_ints, toD_lstO, kp_int, kp_bool, kp_tuple, kp_list, kp_str, isIntB, isBoolB, isTupB, isListB, isStrB, gAdd_i, gSub_i, gLt_i, gLe_i, gGt_i, gGe_i, gMul_r, gMul_l, gMod_i, gDiv_i, gPow_i, gNeg, gEqI, gNeI, gEqS, gNeS, gIsN, gNotN, gIsB, gNotB, gIxL, gIxT, gLen, gMax2, gMin2, gInt, gAll, asBools_map, isN, OT.lf, OT.lfs, flat, atI_0, atI_1, ixN_0, ixN_1, rgD_len, enumD_len, trues_len, Int.toNat_natCast, List.length_map, eq_self, Option.bind_some, Option.bind_none, Option.map_some, Option.map_none, List.getElem?_cons_zero, List.getElem?_cons_succ, List.set_cons_zero, List.set_cons_succ, List.map_cons, List.map_nil, List.replicate, List.nil_append, List.cons_append, List.length_cons, List.length_nil, List.all_cons, List.all_nil, if_true, if_false, reduceIte, tfl_int, tfl_bool, tfl_none, tfl_str, tfl_list, Bool.true_and, Bool.and_true, Bool.false_and, Bool.and_false, Bool.true_or, Bool.or_true, Bool.false_or, Bool.or_false, Bool.not_true, Bool.not_false, Bool.false_eq_true, decide_true, decide_false, true_and, and_true, false_and, and_false, or_true, true_or, *])
/-! texts of numbers -/
def sg (d : Nat) : Str := ⟨#[48 + d]⟩
def fg (n : Nat) : Str := if 9 < n then sg (n / 10) ++ sg (n % 10) else sg n
theorem toStr_fg : ∀ n : Nat, n < 100 → (toString ((n : Nat) : Int) : Str) = fg n := by decide +kernel
theorem ix_sg : ∀ d : Nat, d < 10 → gIxS (.str "0123456789") (.int (d : Nat)) = some (.str (sg d)) := by
  intro d hd
  have h : ∀ d : Nat, d < 10 → atI ("0123456789" : Str).cps.toList ((d : Nat) : Int) = some (48 + d) := by decide +kernel
  unfold gIxS
  simp only []
  rw [if_pos (by decide +kernel), h d hd]
  rfl
theorem figs1 {d : Nat} (hd : d < 10) : m__law_figures__r1 [.int (d : Nat)] = some (.d (.str (sg d))) := by
  have g := ix_sg d hd
  have c : decide ((9 : Int) < (d : Int)) = false := by rw [decide_eq_false_iff_not]; omega
  unfold m__law_figures__r1 B__law_figures__r1
  refine fin_eq ?_
  generalize (d : Int) = D at *
  refine w_seq (w_if (c := false) (by walk_at "ev" <;> exact rfl) (fun z => by cases z) (fun _ => ?_))
  refine w_next ?_
  simp only [sqK]
  exact w_end (by walk_at "ev" <;> exact rfl) rfl rfl
theorem sg_len (d : Nat) : (sg d).length = 1 := rfl
theorem fg_len (n : Nat) : 1 ≤ (fg n).length ∧ (fg n).length ≤ 2 := by
  unfold fg
  split
  · rw [str_app_len, sg_len, sg_len]; omega
  · rw [sg_len]; omega
theorem figs2 {n : Nat} (hn : n < 100) : m__law_figures__r2 [.int (n : Nat)] = some (.d (.str (fg n))) := by
  unfold m__law_figures__r2 B__law_figures__r2
  refine fin_eq ?_
  unfold fg
  by_cases h : 9 < n
  · rw [if_pos h]
    have c : decide ((9 : Int) < (n : Int)) = true := by rw [decide_eq_true_eq]; omega
    have f1 := figs1 (d := n / 10) (by omega)
    have g2 := ix_sg (n % 10) (by omega)
    have e1 : (n : Int) / 10 = ((n / 10 : Nat) : Int) := by omega
    have e2 : (n : Int) % 10 = ((n % 10 : Nat) : Int) := by omega
    have ten : (0 : Int) < 10 ∧ (10 : Int) < 1073741824 := by decide
    have ad : gAddS (.str (sg (n / 10))) (.str (sg (n % 10))) = some (.str (sg (n / 10) ++ sg (n % 10))) := by
      unfold gAddS
      exact if_pos (by rw [sg_len, sg_len]; decide)
    generalize sg (n / 10) ++ sg (n % 10) = R at *
    generalize ((n / 10 : Nat) : Int) = P at *
    generalize ((n % 10 : Nat) : Int) = T at *
    generalize (n : Int) = N at *
    refine w_seq (w_if (c := true) (by walk_at "ev" <;> exact rfl) (fun _ => ?_) (fun z => by cases z))
    refine w_ret (W.of (by walk_at "ev" <;> exact rfl) ?_)
    exact rfl
  · rw [if_neg h]
    have c : decide ((9 : Int) < (n : Int)) = false := by rw [decide_eq_false_iff_not]; omega
    have g := ix_sg n (by omega)
    generalize (n : Int) = N at *
    refine w_seq (w_if (c := false) (by walk_at "ev" <;> exact rfl) (fun z => by cases z) (fun _ => ?_))
    refine w_next ?_
    simp only [sqK]
    exact w_end (by walk_at "ev" <;> exact rfl) rfl rfl
/-! a web written -/
def tieT (p : Int × Int) : Str := fg p.1.toNat ++ "-" ++ fg p.2.toNat
def wT (w : Wb) : Str := Txt.join " " (fg w.1 :: w.2.map tieT)
def addT (acc : Str) (p : Int × Int) : Str := acc ++ " " ++ fg p.1.toNat ++ "-" ++ fg p.2.toNat
theorem str_ext {a b : Str} (h : a.cps = b.cps) : a = b := by cases a; cases b; cases h; rfl
theorem app_cps (a b : Str) : (a ++ b).cps = a.cps ++ b.cps := rfl
theorem addT_eq (acc : Str) (p : Int × Int) : addT acc p = ⟨acc.cps ++ (" " : Str).cps ++ (tieT p).cps⟩ := by
  apply str_ext
  unfold addT tieT
  simp only [app_cps, Array.append_assoc]
theorem wT_fold (w : Wb) : wT w = w.2.foldl addT (fg w.1) := by
  show (⟨(w.2.map tieT).foldl (fun acc p => acc ++ (" " : Str).cps ++ p.cps) (fg w.1).cps⟩ : Str) = _
  have gen : ∀ (ts : List (Int × Int)) (acc : Str), (⟨(ts.map tieT).foldl (fun acc p => acc ++ (" " : Str).cps ++ p.cps) acc.cps⟩ : Str) = ts.foldl addT acc := by
    intro ts
    induction ts with
    | nil => intro acc; rfl
    | cons t ts ih =>
      intro acc
      simp only [List.map_cons, List.foldl_cons]
      rw [addT_eq]
      exact ih _
  exact gen w.2 (fg w.1)
theorem tieT_len (p : Int × Int) : (tieT p).length ≤ 5 := by
  unfold tieT
  have := fg_len p.1.toNat
  have := fg_len p.2.toNat
  rw [str_app_len, str_app_len]
  have e : ("-" : Str).length = 1 := by decide +kernel
  omega
theorem addT_len (acc : Str) (p : Int × Int) : (addT acc p).length ≤ acc.length + 6 := by
  unfold addT
  have := fg_len p.1.toNat
  have := fg_len p.2.toNat
  have e : ("-" : Str).length = 1 := by decide +kernel
  have e2 : (" " : Str).length = 1 := by decide +kernel
  simp only [str_app_len]
  omega
end z82
namespace z82
open PySem L2 PL MR SH SQ
local macro_rules | `(tactic| walk_at "ev") => `(tactic| simp (config := {decide := true}) only [ini, fin, finI, sSeq, sNext, sAsg, sAsgG, sRet, sRetN, sDrop, sIf, sNever, sSetP, sAppP, sClrP, sRevP, fR, pmVar, pmIx, pmIxT, MR.putAt, OT.put, OT.at, gmName, gmTup, gmLst, gsNil, gsCons, rVar, rC, rOp, rUn, rCb, rCbZ, rOpZ, rJs, rTxt, rCall, rAnd, rOr, rNot, rIf, rIs, rCh, rCh3, rTup, rLst, rSl, cNone, cSome, rRepr, dRepr, rInDct, rIdx, rIdxD, iR3s, small, qNil, qCons, qApp, lApp, bR, bAnd, bOr, bNot, tR, tD, tmAnd, tmOr, tmNot, yVar_eq, yMov, yR, yAuto, dY, yD, dR, dOp, dOpR, dCb, dAnd, dOr, dNot, yCall, yCallA, yCallI, yCallIT, yCb, yCbA, yOp, yOpA, lfO, yTup, yLst, oNil, oCons, isNo, lNil, lCons, asB, asInt, asL, asT, iL, iT, iE, iZ, iV, yRng1_eq, iR1_eq, iR2_eq, lcStep, calmAt, wipeE, rst, sApp, yPop_eq, sDPutM, ySortD, yDNew, gmName, toD_d, toD_tup, toD_lst, toDs_nil, toDs_cons, toDs_ints, toDs_fpr, toDs_prs, lfs_ints, lfs_fpr, intsO_len, prsO_len, fprO_len, rng_len, intsO_snoc, prsO_snoc, lstO_rg, rOpZ, rCbZ, isNo_lstO, toD_dnew, ySl, ySlA, neS_self, eqS_self,  rRevL, yRevL, yRevLA, yPop0, sExt, gStrI,  lstO_prs, lstO_ints, toD_lstO, kp_int, kp_bool, kp_tuple, kp_list, kp_str, isIntB, isBoolB, isTupB, isListB, isStrB, gAdd_i, gSub_i, gLt_i, gLe_i, gGt_i, gGe_i, gMul_r, gMul_l, gMod_i, gDiv_i, gPow_i, gNeg, gEqI, gNeI, gEqS, gNeS, gIsN, gNotN, gIsB, gNotB, gIxL, gIxT, gLen, gMax2, gMin2, gInt, gAll, asBools_map, isN, OT.lf, OT.lfs, flat, atI_0, atI_1, ixN_0, ixN_1, rgD_len, enumD_len, trues_len, Int.toNat_natCast, List.length_map, eq_self, Option.bind_some, Option.bind_none, Option.map_some, Option.map_none, List.getElem?_cons_zero, List.getElem?_cons_succ, List.set_cons_zero, List.set_cons_succ, List.map_cons, List.map_nil, List.replicate, List.nil_append, List.cons_append, List.length_cons, List.length_nil, List.all_cons, List.all_nil, if_true, if_false, reduceIte, tfl_int, tfl_bool, tfl_none, tfl_str, tfl_list, Bool.true_and, Bool.and_true, Bool.false_and, Bool.and_false, Bool.true_or, Bool.or_true, Bool.false_or, Bool.or_false, Bool.not_true, Bool.not_false, Bool.false_eq_true, decide_true, decide_false, true_and, and_true, false_and, and_false, or_true, true_or, *])
theorem w2_bd {w : Wb} (h : WbOk w) : ∀ p ∈ w.2, ∃ a b : Nat, p = ((a : Int), (b : Int)) ∧ a < 100 ∧ b < 100 := by
  intro p hp
  have b := h.ok.in' p hp
  have := h.hi
  exact ⟨p.1.toNat, p.2.toNat, by apply Prod.ext <;> simp <;> omega, by omega, by omega⟩
theorem shown_ok {w : Wb} (h : WbOk w) : m__law_shown [wbD w] = some (.d (.str (wT w))) := by
  have bd := w2_bd h
  have hl := h.len
  have hn := h.hi
  rw [wT_fold]
  obtain ⟨n, ts⟩ := w
  simp only at bd hl hn ⊢
  unfold m__law_shown B__law_shown
  refine fin_eq ?_
  simp only [wbD, WD]
  have f := figs2 (n := n) (by omega)
  have tlp : tfl (.list (ts.map pairD)) = false := by simp [tfl]
  have l0 : (fg n).length ≤ 2 := (fg_len n).2
  generalize fg n = T0 at *
  refine w_st (by walk_at "ev" <;> exact rfl) ?_
  clear f
  refine w_seq (w_forT (fun i ρ => ∃ (T : Str) (X2 X3 : OT), ρ = [.d (.tuple [.int (n : Nat), .list (ts.map pairD)]), .d (.str T), X2, X3] ∧ T = (ts.take i).foldl addT T0 ∧ T.length ≤ 2 + 6 * i) (as := ts) (enc := pairD) (by walk_at "ev" <;> exact rfl) ⟨T0, _, _, rfl, rfl, by omega⟩ (fun i p ρ2 hp hs => ?_) ?_)
  · obtain ⟨T, X2, X3, rfl, hT, hTl⟩ := hs
    have hi : i < ts.length := (List.getElem?_eq_some_iff.mp hp).1
    obtain ⟨a, b, rfl, ha, hb⟩ := bd p (List.mem_of_getElem? hp)
    have fa := figs2 ha
    have fb := figs2 hb
    have tk : (ts.take (i + 1)).foldl addT T0 = addT T ((a : Int), (b : Int)) := by
      rw [List.take_add_one, hp, List.foldl_append, ← hT]
      rfl
    have al := addT_len T ((a : Int), (b : Int))
    have ea : addT T ((a : Int), (b : Int)) = T ++ " " ++ fg a ++ "-" ++ fg b := by
      unfold addT
      simp
    rw [ea] at tk al
    have fla := fg_len a
    have flb := fg_len b
    have s1 : (" " : Str).length = 1 := by decide +kernel
    have s2 : ("-" : Str).length = 1 := by decide +kernel
    have g1 : gAddS (.str T) (.str " ") = some (.str (T ++ " ")) := if_pos (by omega)
    have g2 : gAddS (.str (T ++ " ")) (.str (fg a)) = some (.str (T ++ " " ++ fg a)) := if_pos (by rw [str_app_len]; omega)
    have g3 : gAddS (.str (T ++ " " ++ fg a)) (.str "-") = some (.str (T ++ " " ++ fg a ++ "-")) := if_pos (by rw [str_app_len, str_app_len]; omega)
    have g4 : gAddS (.str (T ++ " " ++ fg a ++ "-")) (.str (fg b)) = some (.str (T ++ " " ++ fg a ++ "-" ++ fg b)) := if_pos (by rw [str_app_len, str_app_len, str_app_len]; omega)
    have fin : (T ++ " " ++ fg a ++ "-" ++ fg b).length ≤ 2 + 6 * (i + 1) := by omega
    clear hT al ea hp bd fla flb s1 s2
    have goal : ∀ X2 X3 : OT, lpK (fun ρ => ∃ (T' : Str) (X2 X3 : OT), ρ = [.d (.tuple [.int (n : Nat), .list (ts.map pairD)]), .d (.str T'), X2, X3] ∧ T' = (ts.take (i + 1)).foldl addT T0 ∧ T'.length ≤ 2 + 6 * (i + 1)) (sqK (sRet (yMov 1)) (endK fun x => x = OT.d (.str (ts.foldl addT T0)))) .nx [.d (.tuple [.int (n : Nat), .list (ts.map pairD)]), .d (.str (T ++ " " ++ fg a ++ "-" ++ fg b)), X2, X3] :=
      fun X2 X3 => ⟨_, _, _, rfl, tk.symm, fin⟩
    clear tk fin
    generalize (" " : Str) = SP at *
    generalize ("-" : Str) = MI at *
    generalize T ++ SP = T1 at *
    generalize T1 ++ fg a = T2 at *
    generalize T2 ++ MI = T3 at *
    generalize T3 ++ fg b = T4 at *
    generalize fg a = FA at *
    generalize fg b = FB at *
    apply exw
    · simp only [pairD]
      walk_at "ev" <;> exact rfl
    refine W.of (r := .nx) (by walk_at "ev" <;> exact rfl) ?_
    exact goal _ _
  · rintro ρ2 ⟨T, X2, X3, rfl, hT, hTl⟩
    rw [List.take_length] at hT
    subst hT
    exact w_end (by walk_at "ev" <;> exact rfl) rfl rfl
theorem asStrs_map : ∀ ys : List Str, asStrs (ys.map .str) = some ys
  | [] => rfl
  | y :: ys => by
    show (asStrs (ys.map .str)).map (fun zs => y :: zs) = _
    rw [asStrs_map ys]
    rfl
theorem w_dJoin {a : Rm} {d : Dm} {s : Str} {ρ : MR.Env} {Q : D → MR.Env → Prop} (ha : a ρ = some (.str s)) (h : W d ρ fun x ρ1 => ∃ ys : List Str, x = .list (ys.map .str) ∧ (ys.map (·.length)).sum + ys.length * s.length ≤ 1000000 ∧ Q (.str (Txt.join s ys)) ρ1) : W (dJoin a d) ρ Q := by
  obtain ⟨x, ρ1, e, ys, rfl, hl, q⟩ := h
  refine ⟨_, ρ1, ?_, q⟩
  unfold dJoin
  rw [ha]
  simp only [e, Option.bind_some, asL]
  unfold gJoin
  rw [asStrs_map, Option.bind_some, if_pos hl]
  rfl
theorem sum_le (m : Nat) : ∀ ys : List Str, (∀ y ∈ ys, y.length ≤ m) → (ys.map (·.length)).sum ≤ ys.length * m
  | [], _ => by simp
  | y :: ys, h => by
    have a := h y List.mem_cons_self
    have b := sum_le m ys fun z hz => h z (List.mem_cons_of_mem _ hz)
    simp only [List.map_cons, List.sum_cons, List.length_cons, Nat.add_mul, Nat.one_mul]
    omega
theorem pair_str {a b : Nat} (ha : a < 100) (hb : b < 100) : catS [.str (fg a), .str "-", .str (fg b)] Str.empty = some (fg a ++ "-" ++ fg b) := by
  have fa := fg_len a
  have fb := fg_len b
  have s2 : ("-" : Str).length = 1 := by decide +kernel
  have s0 : (Str.empty).length = 0 := rfl
  have e0 : Str.empty ++ fg a = fg a := by
    apply str_ext
    rw [app_cps]
    show #[] ++ (fg a).cps = _
    simp
  unfold catS
  rw [if_pos (by omega), e0]
  unfold catS
  rw [if_pos (by omega)]
  unfold catS
  rw [if_pos (by rw [str_app_len]; omega)]
  rfl
theorem txt_nat {n : Nat} (h : n < 100) : dTxt (.int (n : Nat)) = some (fg n) := by
  unfold dTxt
  simp only []
  rw [if_pos (by omega), toStr_fg n h]
theorem written_ok {w : Wb} (h : WbOk w) : m_written_web [wbD w] = some (.d (.str (wT w))) := by
  have bd := w2_bd h
  have hl := h.len
  have hn := h.hi
  obtain ⟨n, ts⟩ := w
  simp only at bd hl hn
  have hres : wT (n, ts) = Txt.join " " (fg n :: ts.map tieT) := rfl
  rw [hres]
  clear hres
  unfold m_written_web B_written_web
  refine fin_eq ?_
  simp only [wbD, WD]
  have tlp : tfl (.list (ts.map pairD)) = false := by simp [tfl]
  have s0 : ((n : Int).natAbs.log2 < 1920) := log2_lt (by omega)
  have s1 : Str.ofString (toString ((n : Nat) : Int)) = fg n := toStr_fg n (by omega)
  have sep : (" " : Str).length = 1 := by decide +kernel
  have sm := sum_le 5 (fg n :: ts.map tieT) (fun y hy => by
    rcases List.mem_cons.mp hy with rfl | hy
    · have := fg_len n; omega
    · obtain ⟨p, _, rfl⟩ := List.mem_map.mp hy
      exact tieT_len p)
  rw [List.length_cons, List.length_map] at sm
  have js : ((fg n :: ts.map tieT).map (·.length)).sum + (fg n :: ts.map tieT).length * (" " : Str).length ≤ 1000000 := by
    rw [sep, List.length_cons, List.length_map]
    omega
  generalize (" " : Str) = SP at *
  clear sm sep
  generalize hF : fg n = F at *
  refine w_st (by walk_at "ev" <;> exact rfl) ?_
  clear hF
  refine w_ret (w_yD (w_dJoin rfl (w_dY (w_yOp (w_dYof (r := .nd .lst [.d (.str F)]) (x := .list [.str F]) (by walk_at "ev" <;> exact rfl) (by rw [toD_lst, toDs_cons, toDs_nil]; rfl) (w_dY (w_lcmT (fun p : Int × Int => OT.d (.str (tieT p))) (as := ts) (enc := pairD) (by walk_at "ev" <;> exact rfl) rfl (by omega) (fun p hp => ?_) ?_)))))))
  · obtain ⟨a, b, rfl, ha, hb⟩ := bd p hp
    have e := pair_str ha hb
    have ta := txt_nat ha
    have tb := txt_nat hb
    have ti : tieT ((a : Int), (b : Int)) = fg a ++ "-" ++ fg b := by
      unfold tieT
      simp
    rw [ti]
    generalize fg a ++ "-" ++ fg b = R at *
    generalize fg a = FA at *
    generalize fg b = FB at *
    clear js s1
    simp only [pairD]
    refine W.of (by walk_at "ev" <;> exact rfl) ?_
    exact ⟨rfl, rfl⟩
  · have ct : GCat (.list [.str F]) (.list (ts.map fun p => .str (tieT p))) = some (lstO ((F :: ts.map tieT).map .str)) := by
      rw [GCat_ok (by simp; omega)]
      simp [lstO, List.map_map, Function.comp_def]
    exact ⟨_, by rw [toD_lst, toDs_mapD (fun p : Int × Int => PyData.str (tieT p))]; rfl, _, ct, _, toD_lstO _, _, rfl, js, rfl⟩
end z82
namespace z82
open PySem L2 PL MR SH SQ
local macro_rules | `(tactic| walk_at "ev") => `(tactic| simp (config := {decide := true}) only [ini, fin, finI, sSeq, sNext, sAsg, sAsgG, sRet, sRetN, sDrop, sIf, sNever, sSetP, sAppP, sClrP, sRevP, fR, pmVar, pmIx, pmIxT, MR.putAt, OT.put, OT.at, gmName, gmTup, gmLst, gsNil, gsCons, rVar, rC, rOp, rUn, rCb, rCbZ, rOpZ, rJs, rTxt, rCall, rAnd, rOr, rNot, rIf, rIs, rCh, rCh3, rTup, rLst, rSl, cNone, cSome, rRepr, dRepr, rInDct, rIdx, rIdxD, iR3s, small, qNil, qCons, qApp, lApp, bR, bAnd, bOr, bNot, tR, tD, tmAnd, tmOr, tmNot, yVar_eq, yMov, yR, yAuto, dY, yD, dR, dOp, dOpR, dCb, dAnd, dOr, dNot, yCall, yCallA, yCallI, yCallIT, yCb, yCbA, yOp, yOpA, lfO, yTup, yLst, oNil, oCons, isNo, lNil, lCons, asB, asInt, asL, asT, iL, iT, iE, iZ, iV, yRng1_eq, iR1_eq, iR2_eq, lcStep, calmAt, wipeE, rst, sApp, yPop_eq, sDPutM, ySortD, yDNew, gmName, toD_d, toD_tup, toD_lst, toDs_nil, toDs_cons, toDs_ints, toDs_fpr, toDs_prs, lfs_ints, lfs_fpr, intsO_len, prsO_len, fprO_len, rng_len, intsO_snoc, prsO_snoc, lstO_rg, rOpZ, rCbZ, isNo_lstO, toD_dnew, ySl, ySlA, neS_self, eqS_self,  rRevL, yRevL, yRevLA, yPop0, sExt, gStrI,  lstO_prs, lstO_ints, toD_lstO, kp_int, kp_bool, kp_tuple, kp_list, kp_str, isIntB, isBoolB, isTupB, isListB, isStrB, gAdd_i, gSub_i, gLt_i, gLe_i, gGt_i, gGe_i, gMul_r, gMul_l, gMod_i, gDiv_i, gPow_i, gNeg, gEqI, gNeI, gEqS, gNeS, gIsN, gNotN, gIsB, gNotB, gIxL, gIxT, gLen, gMax2, gMin2, gInt, gAll, asBools_map, isN, OT.lf, OT.lfs, flat, atI_0, atI_1, ixN_0, ixN_1, rgD_len, enumD_len, trues_len, Int.toNat_natCast, List.length_map, eq_self, Option.bind_some, Option.bind_none, Option.map_some, Option.map_none, List.getElem?_cons_zero, List.getElem?_cons_succ, List.set_cons_zero, List.set_cons_succ, List.map_cons, List.map_nil, List.replicate, List.nil_append, List.cons_append, List.length_cons, List.length_nil, List.all_cons, List.all_nil, if_true, if_false, reduceIte, tfl_int, tfl_bool, tfl_none, tfl_str, tfl_list, Bool.true_and, Bool.and_true, Bool.false_and, Bool.and_false, Bool.true_or, Bool.or_true, Bool.false_or, Bool.or_false, Bool.not_true, Bool.not_false, Bool.false_eq_true, decide_true, decide_false, true_and, and_true, false_and, and_false, or_true, true_or, *])
def Sm7 (s : Str) : Prop := ∀ c ∈ s.cps.toList, c < 128
theorem sm_app {a b : Str} (ha : Sm7 a) (hb : Sm7 b) : Sm7 (a ++ b) := fun c hc => by
  rw [app_cps, Array.toList_append] at hc
  rcases List.mem_append.mp hc with hc | hc
  · exact ha c hc
  · exact hb c hc
theorem sm_fg {n : Nat} (h : n < 100) : Sm7 (fg n) := by
  have sg1 : ∀ d, d < 10 → Sm7 (sg d) := fun d hd c hc => by
    have : c = 48 + d := by simpa [sg] using hc
    omega
  unfold fg
  split
  · exact sm_app (sg1 _ (by omega)) (sg1 _ (by omega))
  · exact sg1 _ (by omega)
theorem sm_wT {w : Wb} (h : WbOk w) : Sm7 (wT w) ∧ (wT w).length ≤ 800 := by
  have bd := w2_bd h
  have hl := h.len
  have s1 : Sm7 " " := by
    have : ∀ c ∈ (" " : Str).cps.toList, c < 128 := by decide +kernel
    exact this
  have s2 : Sm7 "-" := by
    have : ∀ c ∈ ("-" : Str).cps.toList, c < 128 := by decide +kernel
    exact this
  rw [wT_fold]
  have gen : ∀ (ts : List (Int × Int)) (acc : Str), (∀ p ∈ ts, ∃ a b : Nat, p = ((a : Int), (b : Int)) ∧ a < 100 ∧ b < 100) → Sm7 acc → Sm7 (ts.foldl addT acc) ∧ (ts.foldl addT acc).length ≤ acc.length + 6 * ts.length := by
    intro ts
    induction ts with
    | nil => intro acc _ ha; exact ⟨ha, by simp⟩
    | cons p ts ih =>
      intro acc hp ha
      obtain ⟨a, b, e, h1, h2⟩ := hp p List.mem_cons_self
      have q := ih (addT acc p) (fun r hr => hp r (List.mem_cons_of_mem _ hr)) (by
        rw [e]
        unfold addT
        exact sm_app (sm_app (sm_app (sm_app ha s1) (sm_fg (by simpa using h1))) s2) (sm_fg (by simpa using h2)))
      have al := addT_len acc p
      simp only [List.foldl_cons, List.length_cons]
      exact ⟨q.1, by omega⟩
  have g := gen w.2 (fg w.1) bd (sm_fg (by have := h.hi; omega))
  have f := fg_len w.1
  exact ⟨g.1, by omega⟩
theorem repr_txt {s : Str} (h : Sm7 s) (hl : s.length ≤ 20000) : gRepr (.str s) = some (.str (PyData.shown (.str s))) := by
  have ls : PyData.leavesShort 13 (.str s) = true := by
    simp only [PyData.leavesShort, List.all_eq_true, decide_eq_true_eq]
    intro c hc
    have := h c hc
    omega
  have e := PyData.shown_fits_bulk (B := 13) (by omega) (by omega) ls (by
    show s.cps.size ≤ 2 ^ 20
    have : s.length = s.cps.size := rfl
    omega)
  unfold gRepr
  have so : PyData.strOk s = true := by
    unfold PyData.strOk
    rw [← Array.all_toList, List.all_eq_true]
    intro c hc
    have := h c hc
    simp
    omega
  simp [PyData.canLay0, PyData.depth, PyData.showable, e, so]
theorem show_ok {w : Wb} (h : WbOk w) : m_show_web [wbD w] = some (.d (.str (wT w))) := by
  have f1 : SH.m_look_at_web [wbD w] = some (.d .none) := look_ok h.ok h.lo h.hi h.len
  have f2 := written_ok h
  generalize wbD w = WD at *
  generalize wT w = T at *
  unfold m_show_web B_show_web
  refine fin_eq ?_
  refine w_st (by walk_at "ev" <;> exact rfl) ?_
  exact w_end (by walk_at "ev" <;> exact rfl) rfl rfl
theorem wrs_ok {ws : List Wb} (h : ∀ w ∈ ws, WbOk w) (hl : ws.length ≤ 12) (hne : ws ≠ []) : m_written_webs [.list (ws.map wbD)] = some (.d (.str (Txt.join " * " (ws.map wT)))) := by
  have sep : (" * " : Str).length = 3 := by decide +kernel
  have sm := sum_le 800 (ws.map wT) (fun y hy => by
    obtain ⟨w, hw, rfl⟩ := List.mem_map.mp hy
    exact (sm_wT (h w hw)).2)
  rw [List.length_map] at sm
  have js : ((ws.map wT).map (·.length)).sum + (ws.map wT).length * (" * " : Str).length ≤ 1000000 := by
    rw [sep, List.length_map]
    omega
  have em : (ws.map wbD).isEmpty = false := by
    cases ws with
    | nil => exact (hne rfl).elim
    | cons a b => rfl
  unfold m_written_webs B_written_webs
  generalize (" * " : Str) = SP at *
  refine fin_eq ?_
  have tlw : tfl (.list (ws.map wbD)) = false := by simp [tfl]
  have hb : bList (rVar 0) [.d (.list (ws.map wbD)), .no] = some true := by
    simp [bList, rVar, OT.toD, em]
  refine w_seq (w_if (c := false) (by walk_at "ev" <;> exact rfl) (fun z => by cases z) (fun _ => ?_))
  refine w_next ?_
  simp only [sqK]
  clear em hb
  refine w_ret (w_yD (w_dJoin rfl (w_dY (w_lcmT (fun w : Wb => OT.d (.str (wT w))) (as := ws) (enc := wbD) (by walk_at "ev" <;> exact rfl) rfl (by omega) (fun w hw => ?_) ?_))))
  · have f := written_ok (h w hw)
    generalize wbD w = WD at *
    generalize wT w = T at *
    clear js tlw sm
    refine W.of (by walk_at "ev" <;> exact rfl) ?_
    exact ⟨rfl, rfl⟩
  · refine ⟨_, by rw [toD_lst, toDs_mapD (fun w : Wb => PyData.str (wT w))]; rfl, ws.map wT, ?_, js, rfl⟩
    rw [List.map_map]
    rfl
theorem shows_ok {ws : List Wb} (h : ∀ w ∈ ws, WbOk w) (hl : ws.length ≤ 12) (hne : ws ≠ []) : m_show_webs [.list (ws.map wbD)] = some (.d (.str (Txt.join " * " (ws.map wT)))) := by
  have f1 := look_webs_ok h hl
  have f2 := wrs_ok h hl hne
  generalize PyData.list (ws.map wbD) = WD at *
  generalize Txt.join " * " (ws.map wT) = T at *
  unfold m_show_webs B_show_webs
  refine fin_eq ?_
  refine w_st (by walk_at "ev" <;> exact rfl) ?_
  exact w_end (by walk_at "ev" <;> exact rfl) rfl rfl
theorem shows_nil : m_show_webs [.list []] = some (.d (.str "none")) := by
  have f1 : SH.m_look_at_webs [.list []] = some (.d .none) := look_webs_ok (ws := []) (by simp) (by simp)
  have f2 : m_written_webs [.list []] = some (.d (.str "none")) := by
    clear f1
    unfold m_written_webs B_written_webs
    refine fin_eq ?_
    generalize ("none" : Str) = NN at *
    have hb : bList (rVar 0) [.d (.list []), .no] = some false := by
      simp [bList, rVar, OT.toD]
    refine w_seq (w_if (c := true) (by walk_at "ev" <;> exact rfl) (fun _ => ?_) (fun z => by cases z))
    refine w_ret (W.of (by walk_at "ev" <;> exact rfl) ?_)
    exact rfl
  generalize ("none" : Str) = NN at *
  unfold m_show_webs B_show_webs
  refine fin_eq ?_
  refine w_st (by walk_at "ev" <;> exact rfl) ?_
  exact w_end (by walk_at "ev" <;> exact rfl) rfl rfl
end z82
namespace z83
open PySem L2 PL MR SH SQ
open z82 (sg fg tieT wT Sm7 str_ext app_cps)
local macro_rules | `(tactic| walk_at "ev") => `(tactic| simp (config := {decide := true}) only [ini, fin, finI, sSeq, sNext, sAsg, sAsgG, sRet, sRetN, sDrop, sIf, sNever, sSetP, sAppP, sClrP, sRevP, fR, pmVar, pmIx, pmIxT, MR.putAt, OT.put, OT.at, gmName, gmTup, gmLst, gsNil, gsCons, rVar, rC, rOp, rUn, rCb, rCbZ, rOpZ, rJs, rTxt, rCall, rAnd, rOr, rNot, rIf, rIs, rCh, rCh3, rTup, rLst, rSl, cNone, cSome, rRepr, dRepr, rInDct, rIdx, rIdxD, iR3s, small, qNil, qCons, qApp, lApp, bR, bAnd, bOr, bNot, tR, tD, tmAnd, tmOr, tmNot, yVar_eq, yMov, yR, yAuto, dY, yD, dR, dOp, dOpR, dCb, dAnd, dOr, dNot, yCall, yCallA, yCallI, yCallIT, yCb, yCbA, yOp, yOpA, lfO, yTup, yLst, oNil, oCons, isNo, lNil, lCons, asB, asInt, asL, asT, iL, iT, iE, iZ, iV, yRng1_eq, iR1_eq, iR2_eq, lcStep, calmAt, wipeE, rst, sApp, yPop_eq, sDPutM, ySortD, yDNew, gmName, toD_d, toD_tup, toD_lst, toDs_nil, toDs_cons, toDs_ints, toDs_fpr, toDs_prs, lfs_ints, lfs_fpr, intsO_len, prsO_len, fprO_len, rng_len, intsO_snoc, prsO_snoc, lstO_rg, rOpZ, rCbZ, isNo_lstO, toD_dnew, ySl, ySlA, neS_self, eqS_self,  rRevL, yRevL, yRevLA, yPop0, sExt, gStrI,  lstO_prs, lstO_ints, toD_lstO, kp_int, kp_bool, kp_tuple, kp_list, kp_str, isIntB, isBoolB, isTupB, isListB, isStrB, gAdd_i, gSub_i, gLt_i, gLe_i, gGt_i, gGe_i, gMul_r, gMul_l, gMod_i, gDiv_i, gPow_i, gNeg, gEqI, gNeI, gEqS, gNeS, gIsN, gNotN, gIsB, gNotB, gIxL, gIxT, gLen, gMax2, gMin2, gInt, gAll, asBools_map, isN, OT.lf, OT.lfs, flat, atI_0, atI_1, ixN_0, ixN_1, rgD_len, enumD_len, trues_len, Int.toNat_natCast, List.length_map, eq_self, Option.bind_some, Option.bind_none, Option.map_some, Option.map_none, List.getElem?_cons_zero, List.getElem?_cons_succ, List.set_cons_zero, List.set_cons_succ, List.map_cons, List.map_nil, List.replicate, List.nil_append, List.cons_append, List.length_cons, List.length_nil, List.all_cons, List.all_nil, if_true, if_false, reduceIte, tfl_int, tfl_bool, tfl_none, tfl_str, tfl_list, Bool.true_and, Bool.and_true, Bool.false_and, Bool.and_false, Bool.true_or, Bool.or_true, Bool.false_or, Bool.or_false, Bool.not_true, Bool.not_false, Bool.false_eq_true, decide_true, decide_false, true_and, and_true, false_and, and_false, or_true, true_or, *])
theorem shows_eq : z83.m_show_webs = z82.m_show_webs := rfl
theorem show_eq : z83.m_show_web = z82.m_show_web := rfl
theorem iS_of {d : Dm} {ρ ρ' : MR.Env} {z : Str} (h : d ρ = some (.str z, ρ')) : iS d ρ = some (sgnD z, ρ') := by
  unfold iS
  rw [h]
  rfl
theorem ySplit_of {a b : Rm} {ρ : MR.Env} {s t : Str} (ha : a ρ = some (.str s)) (hb : b ρ = some (.str t)) (h1 : (t.length == 0) = false) (h2 : s.length ≤ 1000000) : ySplit a b ρ = some (lstO ((Txt.split s t).map .str), ρ) := by
  unfold ySplit
  rw [ha, hb]
  exact if_pos ⟨h1, h2⟩
theorem yPart_of {a b : Rm} {ρ : MR.Env} {s t : Str} (ha : a ρ = some (.str s)) (hb : b ρ = some (.str t)) (h1 : (t.length == 0) = false) (h2 : s.length ≤ 1000000) : yPart a b ρ = some (.nd .tup [.d (.str (Txt.partition s t).1), .d (.str (Txt.partition s t).2.1), .d (.str (Txt.partition s t).2.2)], ρ) := by
  unfold yPart
  rw [ha, hb]
  exact if_pos ⟨h1, h2⟩
/-! a number read -/
theorem int_fg {n : Nat} (h : n < 100) : PySem.intText? (fg n) = some ((n : Nat) : Int) := by
  have g : ∀ n : Nat, n < 100 → PySem.intText? (fg n) = some ((n : Nat) : Int) := by decide +kernel
  exact g n h
theorem all_fg {n : Nat} (h : n < 100) : ((fg n).cps.toList.all fun c => decide (c ∈ ("0123456789" : Str).cps.toList)) = true := by
  have g : ∀ n : Nat, n < 100 → ((fg n).cps.toList.all fun c => decide (c ∈ ("0123456789" : Str).cps.toList)) = true := by decide +kernel
  exact g n h
theorem zero_fg {n : Nat} (h : n < 100) : 1 < (fg n).length → gIxS (.str (fg n)) (.int 0) ≠ some (.str "0") ∧ ∃ s, gIxS (.str (fg n)) (.int 0) = some (.str s) := by
  have g : ∀ n : Nat, n < 100 → 1 < (fg n).length → (atI (fg n).cps.toList 0 ≠ some 48 ∧ (atI (fg n).cps.toList 0).isSome = true) := by decide +kernel
  intro hl
  have q := g n h hl
  have fl := z82.fg_len n
  unfold gIxS
  simp only []
  rw [if_pos (by omega)]
  cases e : atI (fg n).cps.toList 0 with
  | none => rw [e] at q; simp at q
  | some c =>
    rw [e] at q
    refine ⟨fun z => ?_, _, rfl⟩
    have z2 : (⟨#[c]⟩ : Str) = "0" := by simpa using z
    have z3 : (⟨#[48]⟩ : Str) = "0" := by decide +kernel
    rw [← z3] at z2
    have : c = 48 := by simpa using z2
    exact q.1 (by rw [this])
theorem number_in_ok {n : Nat} (h : n < 100) : m_number_in [.str (fg n), .int 2] = some (.d (.int (n : Nat))) := by
  have fl := z82.fg_len n
  have lenS : gLenS [.str (fg n)] = some (.int ((fg n).length : Nat)) := if_pos (by omega)
  have iS : gIntS [.str (fg n)] = some (.int (n : Nat)) := by
    unfold gIntS
    simp only []
    rw [if_pos (by omega), int_fg h]
    rfl
  have al := all_fg h
  have zf := zero_fg h
  have c1 : decide ((1 : Int) ≤ ((fg n).length : Nat)) = true := by rw [decide_eq_true_eq]; omega
  have c2 : decide (((fg n).length : Int) ≤ 2) = true := by rw [decide_eq_true_eq]; omega
  have sl : (fg n).cps.toList.length ≤ 1000000 := by
    show (fg n).length ≤ 1000000
    omega
  have sgn : sgnD (fg n) = (fg n).cps.toList.map fun c => .str ⟨#[c]⟩ := rfl
  unfold m_number_in B_number_in
  refine fin_eq ?_
  generalize hF : fg n = F at *
  refine w_seq (w_sif (w_tOr (w_tR (c := false) (by walk_at "ev" <;> exact rfl) ⟨(fun z => by cases z), fun _ => ?_⟩)))
  refine w_tNot (w_tD (w_dCb (w_lCons (w_dY (w_lcmT (fun _ : Nat => OT.d (.bool true)) (as := F.cps.toList) (enc := fun c : Nat => .str ⟨#[c]⟩) (iS_of (ρ' := [.d (.str F), .d (.int 2), .no]) (by clear lenS iS al zf; walk_at "ev" <;> exact rfl)) rfl sl (fun c hc => ?_) ?_)))))
  · have g : gInSg (.str ⟨#[c]⟩) (.str "0123456789") = some (.bool true) := by
      have := List.all_eq_true.mp al c hc
      show some (PyData.bool (decide (c ∈ ("0123456789" : Str).cps.toList))) = _
      rw [this]
    clear lenS iS al zf
    generalize ("0123456789" : Str) = DG at *
    generalize (⟨#[c]⟩ : Str) = SC at *
    refine W.of (by walk_at "ev" <;> exact rfl) ?_
    exact ⟨rfl, rfl⟩
  have alT : gAll [.list (F.cps.toList.map fun _ : Nat => PyData.bool true)] = some (.bool true) := by
    have e : (F.cps.toList.map fun _ : Nat => PyData.bool true) = (F.cps.toList.map fun _ => true).map .bool := by rw [List.map_map]; rfl
    unfold gAll
    simp only [e, asBools_map, Option.map_some]
    congr 2
    rw [List.all_eq_true]
    intro x hx
    obtain ⟨a, _, rfl⟩ := List.mem_map.mp hx
    rfl
  refine ⟨_, by rw [toD_lst, toDs_mapD (fun _ : Nat => PyData.bool true)]; rfl, w_lNil ⟨.bool true, alT, true, rfl, (fun z => by cases z), fun _ => ?_⟩⟩
  simp only [wipeE, rst, List.getElem?_cons_zero, List.getElem?_cons_succ, List.set_cons_zero, List.set_cons_succ]
  refine w_next ?_
  simp only [sqK]
  clear alT al sgn sl c1 c2
  by_cases h1 : 1 < F.length
  · obtain ⟨z1, s, z2⟩ := zf h1
    have ne : decide (s = ("0" : Str)) = false := by
      rw [decide_eq_false_iff_not]
      intro z
      rw [z] at z2
      exact z1 z2
    have d : decide ((1 : Int) < (F.length : Nat)) = true := by rw [decide_eq_true_eq]; omega
    clear zf z1 h1
    generalize ("0" : Str) = Z0 at *
    refine w_seq (w_if (c := false) (by walk_at "ev" <;> exact rfl) (fun z => by cases z) (fun _ => ?_))
    refine w_next ?_
    simp only [sqK]
    exact w_end (by walk_at "ev" <;> exact rfl) rfl rfl
  · have d : decide ((1 : Int) < (F.length : Nat)) = false := by rw [decide_eq_false_iff_not]; omega
    clear zf h1
    refine w_seq (w_if (c := false) (by walk_at "ev" <;> exact rfl) (fun z => by cases z) (fun _ => ?_))
    refine w_next ?_
    simp only [sqK]
    exact w_end (by walk_at "ev" <;> exact rfl) rfl rfl
end z83
namespace z82
open PySem L2 PL MR SH SQ
local macro_rules | `(tactic| walk_at "ev") => `(tactic| simp (config := {decide := true}) only [ini, fin, finI, sSeq, sNext, sAsg, sAsgG, sRet, sRetN, sDrop, sIf, sNever, sSetP, sAppP, sClrP, sRevP, fR, pmVar, pmIx, pmIxT, MR.putAt, OT.put, OT.at, gmName, gmTup, gmLst, gsNil, gsCons, rVar, rC, rOp, rUn, rCb, rCbZ, rOpZ, rJs, rTxt, rCall, rAnd, rOr, rNot, rIf, rIs, rCh, rCh3, rTup, rLst, rSl, cNone, cSome, rRepr, dRepr, rInDct, rIdx, rIdxD, iR3s, small, qNil, qCons, qApp, lApp, bR, bAnd, bOr, bNot, tR, tD, tmAnd, tmOr, tmNot, yVar_eq, yMov, yR, yAuto, dY, yD, dR, dOp, dOpR, dCb, dAnd, dOr, dNot, yCall, yCallA, yCallI, yCallIT, yCb, yCbA, yOp, yOpA, lfO, yTup, yLst, oNil, oCons, isNo, lNil, lCons, asB, asInt, asL, asT, iL, iT, iE, iZ, iV, yRng1_eq, iR1_eq, iR2_eq, lcStep, calmAt, wipeE, rst, sApp, yPop_eq, sDPutM, ySortD, yDNew, gmName, toD_d, toD_tup, toD_lst, toDs_nil, toDs_cons, toDs_ints, toDs_fpr, toDs_prs, lfs_ints, lfs_fpr, intsO_len, prsO_len, fprO_len, rng_len, intsO_snoc, prsO_snoc, lstO_rg, rOpZ, rCbZ, isNo_lstO, toD_dnew, ySl, ySlA, neS_self, eqS_self,  rRevL, yRevL, yRevLA, yPop0, sExt, gStrI,  lstO_prs, lstO_ints, toD_lstO, kp_int, kp_bool, kp_tuple, kp_list, kp_str, isIntB, isBoolB, isTupB, isListB, isStrB, gAdd_i, gSub_i, gLt_i, gLe_i, gGt_i, gGe_i, gMul_r, gMul_l, gMod_i, gDiv_i, gPow_i, gNeg, gEqI, gNeI, gEqS, gNeS, gIsN, gNotN, gIsB, gNotB, gIxL, gIxT, gLen, gMax2, gMin2, gInt, gAll, asBools_map, isN, OT.lf, OT.lfs, flat, atI_0, atI_1, ixN_0, ixN_1, rgD_len, enumD_len, trues_len, Int.toNat_natCast, List.length_map, eq_self, Option.bind_some, Option.bind_none, Option.map_some, Option.map_none, List.getElem?_cons_zero, List.getElem?_cons_succ, List.set_cons_zero, List.set_cons_succ, List.map_cons, List.map_nil, List.replicate, List.nil_append, List.cons_append, List.length_cons, List.length_nil, List.all_cons, List.all_nil, if_true, if_false, reduceIte, tfl_int, tfl_bool, tfl_none, tfl_str, tfl_list, Bool.true_and, Bool.and_true, Bool.false_and, Bool.and_false, Bool.true_or, Bool.or_true, Bool.false_or, Bool.or_false, Bool.not_true, Bool.not_false, Bool.false_eq_true, decide_true, decide_false, true_and, and_true, false_and, and_false, or_true, true_or, *])
def tla {α : Type} (k : Nat) (xs : List α) : List α := xs.drop (xs.length - k)
theorem tla_len {α : Type} (k : Nat) (xs : List α) : (tla k xs).length = min k xs.length := by
  unfold tla
  rw [List.length_drop]
  omega
theorem tla_map {α β : Type} (f : α → β) (k : Nat) (xs : List α) : (tla k xs).map f = tla k (xs.map f) := by
  unfold tla
  rw [List.map_drop, List.length_map]
theorem tla_mem {α : Type} {k : Nat} {xs : List α} {x : α} (h : x ∈ tla k xs) : x ∈ xs := List.mem_of_mem_drop h
theorem cut_neg (xs : List D) {k : Nat} (hk : 1 ≤ k) : cutD xs (some (-(k : Int))) Option.none = tla k xs := by
  unfold cutD tla
  have e1 : HT.sIx xs.length 0 (some (-(k : Int))) = xs.length - k := by
    unfold HT.sIx
    simp only []
    split <;> omega
  have e2 : HT.sIx xs.length xs.length Option.none = xs.length := rfl
  rw [e1, e2]
  rw [List.take_of_length_le (by rw [List.length_drop]; omega)]
theorem w_yOpAP (P : MR.Env → Prop) {G : D → D → Option OT} {a b : Rm} {da db : Dm} {ρ : MR.Env} {x y : D} {r : OT} {Q : OT → MR.Env → Prop} (ha : a ρ = some x) (hb : b ρ = some y) (hG : G x y = some r) (p1 : P ρ) (hd : W da ρ fun x' ρ1 => x' = x ∧ W db ρ1 fun y' ρ2 => y' = y ∧ P ρ2) (k : ∀ ρ', P ρ' → Q r ρ') : W (yOpA G a b da db) ρ Q := by
  obtain ⟨x', ρ1, e1, rfl, y', ρ2, e2, rfl, p2⟩ := hd
  by_cases l : r.lf = true
  · refine ⟨r, ρ, ?_, k _ p1⟩
    unfold yOpA
    rw [ha, Option.bind_some, hb, Option.bind_some, hG]
    simp only [lfO, l, if_true]
  · refine ⟨r, ρ2, ?_, k _ p2⟩
    unfold yOpA
    rw [ha, Option.bind_some, hb, Option.bind_some, hG]
    simp only [lfO, l, if_false]
    unfold yOp
    rw [e1]
    simp only [Option.bind_some, e2, hG]
    rfl
theorem w_ySlAP (P : MR.Env → Prop) {ra : Rm} {a : Dm} {lo hi : Cm} {ρ ρ1 : MR.Env} {xs : List D} {l h : Option Int} {Q : OT → MR.Env → Prop} (h1 : ra ρ = some (.list xs)) (h2 : a ρ = some (.list xs, ρ1)) (h3 : lo ρ = some l) (h4 : hi ρ = some h) (h5 : lo ρ1 = some l) (h6 : hi ρ1 = some h) (p1 : P ρ) (p2 : P ρ1) (k : ∀ ρ', P ρ' → Q (lstO (cutD xs l h)) ρ') : W (ySlA ra a lo hi) ρ Q := by
  by_cases lf : (lstO (cutD xs l h)).lf = true
  · refine ⟨_, ρ, ?_, k _ p1⟩
    unfold ySlA
    rw [h1]
    simp only [Option.bind_some, asL, h3, h4, lfO, lf, if_true]
  · refine ⟨_, ρ1, ?_, k _ p2⟩
    unfold ySlA
    rw [h1]
    simp only [Option.bind_some, asL, h3, h4, lfO, lf, if_false]
    unfold ySl
    rw [h2]
    simp only [Option.bind_some, asL, h5, h6]
    rfl
end z82
namespace SH
open PySem L2 PL MR
/-! ### rows beside: unlike, rising, tied -/
/-! tied just where beside -/
end SH
namespace SH
open PySem L2 PL MR
/-! ### products of webs -/
theorem dm {t k w : Int} (h0 : 0 ≤ k) (h1 : k < w) : (t * w + k) / w = t ∧ (t * w + k) % w = k := by
  constructor
  · rw [Int.add_comm, Int.add_mul_ediv_right _ _ (by omega), Int.ediv_eq_zero_of_lt h0 h1, Int.zero_add]
  · rw [Int.add_comm, Int.add_mul_emod_self_right]; exact Int.emod_eq_of_lt h0 h1
theorem dm_back (x : Int) {w : Int} (h : 0 < w) : x = x / w * w + x % w ∧ 0 ≤ x % w ∧ x % w < w := ⟨by rw [Int.mul_comm]; exact (Int.mul_ediv_add_emod x w).symm, Int.emod_nonneg _ (by omega), Int.emod_lt_of_pos _ h⟩
theorem dd (x : Int) {v w : Int} (hv : 0 < v) (hw : 0 < w) : x / w / v = x / (v * w) ∧ x / w % v = x % (v * w) / w ∧ x % w = x % (v * w) % w := by
  have e1 : x / w / v = x / (v * w) := by rw [Int.mul_comm, Int.ediv_ediv_of_nonneg (by omega)]
  have d1 := dm_back x hw
  have d2 := dm_back (x / w) hv
  have hvw : 0 < v * w := Int.mul_pos hv hw
  have d3 := dm_back x hvw
  have e2 : x % (v * w) = x / w % v * w + x % w := by
    have : x = x / (v * w) * (v * w) + (x / w % v * w + x % w) := by
      rw [← e1]
      calc x = x / w * w + x % w := d1.1
        _ = (x / w / v * v + x / w % v) * w + x % w := by rw [← d2.1]
        _ = x / w / v * (v * w) + (x / w % v * w + x % w) := by rw [Int.add_mul, Int.mul_assoc, Int.add_assoc]
    omega
  have d4 := dm (t := x / w % v) d1.2.1 d1.2.2
  rw [e2, d4.1, d4.2]
  exact ⟨e1, rfl, rfl⟩
/-! how many places and ties -/
/-! the product is tied where the rows are -/
end SH
namespace SH
open PySem L2 PL MR
local macro_rules | `(tactic| walk_at "ev") => `(tactic| simp (config := {decide := true}) only [ini, fin, finI, sSeq, sNext, sAsg, sAsgG, sRet, sRetN, sDrop, sIf, sNever, sSetP, sAppP, sClrP, sRevP, fR, pmVar, pmIx, pmIxT, MR.putAt, OT.put, OT.at, gmName, gmTup, gmLst, gsNil, gsCons, rVar, rC, rOp, rUn, rCb, rCbZ, rOpZ, rCall, rAnd, rOr, rNot, rIf, rIs, rCh, rCh3, rTup, rLst, rSl, cNone, cSome, rRepr, dRepr, rInDct, rIdx, small, qNil, qCons, qApp, lApp, bR, bAnd, bOr, bNot, tR, tD, tmAnd, tmOr, tmNot, yVar_eq, yMov, yR, yAuto, dY, yD, dR, dOp, dOpR, dCb, dAnd, dOr, dNot, yCall, yCallA, yCallI, yCallIT, yCb, yCbA, yOp, yOpA, lfO, yTup, yLst, oNil, oCons, isNo, lNil, lCons, asB, asInt, asL, asT, iL, iT, iE, iZ, iV, yRng1_eq, iR1_eq, iR2_eq, lcStep, calmAt, wipeE, rst, sApp, yPop_eq, sDPutM, ySortD, yDNew, gmName, toD_d, toD_tup, toD_lst, toDs_nil, toDs_cons, toDs_ints, toDs_fpr, toDs_prs, lfs_ints, lfs_fpr, intsO_len, prsO_len, fprO_len, rng_len, intsO_snoc, prsO_snoc, lstO_rg, rOpZ, rCbZ, isNo_lstO, toD_dnew, ySl, ySlA, neS_self, eqS_self,  rRevL, yRevL, yRevLA, yPop0, sExt, gStrI,  lstO_prs, lstO_ints, toD_lstO, kp_int, kp_bool, kp_tuple, kp_list, kp_str, isIntB, isBoolB, isTupB, isListB, isStrB, gAdd_i, gSub_i, gLt_i, gLe_i, gGt_i, gGe_i, gMul_r, gMul_l, gMod_i, gDiv_i, gPow_i, gNeg, gEqI, gNeI, gEqS, gNeS, gIsN, gNotN, gIsB, gNotB, gIxL, gIxT, gLen, gMax2, gMin2, gInt, gAll, asBools_map, isN, OT.lf, OT.lfs, flat, atI_0, atI_1, ixN_0, ixN_1, rgD_len, enumD_len, trues_len, Int.toNat_natCast, List.length_map, eq_self, Option.bind_some, Option.bind_none, Option.map_some, Option.map_none, List.getElem?_cons_zero, List.getElem?_cons_succ, List.set_cons_zero, List.set_cons_succ, List.map_cons, List.map_nil, List.replicate, List.nil_append, List.cons_append, List.length_cons, List.length_nil, List.all_cons, List.all_nil, if_true, if_false, reduceIte, tfl_int, tfl_bool, tfl_none, tfl_str, tfl_list, Bool.true_and, Bool.and_true, Bool.false_and, Bool.and_false, Bool.true_or, Bool.or_true, Bool.false_or, Bool.or_false, Bool.not_true, Bool.not_false, Bool.false_eq_true, decide_true, decide_false, true_and, and_true, false_and, and_false, or_true, true_or, *])
end SH
namespace SH
open PySem L2 PL MR
local macro_rules | `(tactic| walk_at "ev") => `(tactic| simp (config := {decide := true}) only [ini, fin, finI, sSeq, sNext, sAsg, sAsgG, sRet, sRetN, sDrop, sIf, sNever, sSetP, sAppP, sClrP, sRevP, fR, pmVar, pmIx, pmIxT, MR.putAt, OT.put, OT.at, gmName, gmTup, gmLst, gsNil, gsCons, rVar, rC, rOp, rUn, rCb, rCbZ, rOpZ, rCall, rAnd, rOr, rNot, rIf, rIs, rCh, rCh3, rTup, rLst, rSl, cNone, cSome, rRepr, dRepr, rInDct, rIdx, small, qNil, qCons, qApp, lApp, bR, bAnd, bOr, bNot, tR, tD, tmAnd, tmOr, tmNot, yVar_eq, yMov, yR, yAuto, dY, yD, dR, dOp, dOpR, dCb, dAnd, dOr, dNot, yCall, yCallA, yCallI, yCallIT, yCb, yCbA, yOp, yOpA, lfO, yTup, yLst, oNil, oCons, isNo, lNil, lCons, asB, asInt, asL, asT, iL, iT, iE, iZ, iV, yRng1_eq, iR1_eq, iR2_eq, lcStep, calmAt, wipeE, rst, sApp, yPop_eq, sDPutM, ySortD, yDNew, gmName, toD_d, toD_tup, toD_lst, toDs_nil, toDs_cons, toDs_ints, toDs_fpr, toDs_prs, lfs_ints, lfs_fpr, intsO_len, prsO_len, fprO_len, rng_len, intsO_snoc, prsO_snoc, lstO_rg, rOpZ, rCbZ, isNo_lstO, toD_dnew, ySl, ySlA, neS_self, eqS_self,  rRevL, yRevL, yRevLA, yPop0, sExt, gStrI,  lstO_prs, lstO_ints, toD_lstO, kp_int, kp_bool, kp_tuple, kp_list, kp_str, isIntB, isBoolB, isTupB, isListB, isStrB, gAdd_i, gSub_i, gLt_i, gLe_i, gGt_i, gGe_i, gMul_r, gMul_l, gMod_i, gDiv_i, gPow_i, gNeg, gEqI, gNeI, gEqS, gNeS, gIsN, gNotN, gIsB, gNotB, gIxL, gIxT, gLen, gMax2, gMin2, gInt, gAll, asBools_map, isN, OT.lf, OT.lfs, flat, atI_0, atI_1, ixN_0, ixN_1, rgD_len, enumD_len, trues_len, Int.toNat_natCast, List.length_map, eq_self, Option.bind_some, Option.bind_none, Option.map_some, Option.map_none, List.getElem?_cons_zero, List.getElem?_cons_succ, List.set_cons_zero, List.set_cons_succ, List.map_cons, List.map_nil, List.replicate, List.nil_append, List.cons_append, List.length_cons, List.length_nil, List.all_cons, List.all_nil, if_true, if_false, reduceIte, tfl_int, tfl_bool, tfl_none, tfl_str, tfl_list, Bool.true_and, Bool.and_true, Bool.false_and, Bool.and_false, Bool.true_or, Bool.or_true, Bool.false_or, Bool.or_false, Bool.not_true, Bool.not_false, Bool.false_eq_true, decide_true, decide_false, true_and, and_true, false_and, and_false, or_true, true_or, *])
theorem lf_wbO (w : Wb) : (wbO w).lf = true := by
  have := lfs_fpr w.2
  simp [wbO, OT.lf, OT.lfs, tfl_int, this]
/-! numbers of rows of parts -/
end SH
namespace z82
open PySem L2 PL MR SH SQ
local macro_rules | `(tactic| walk_at "ev") => `(tactic| simp (config := {decide := true}) only [ini, fin, finI, sSeq, sNext, sAsg, sAsgG, sRet, sRetN, sDrop, sIf, sNever, sSetP, sAppP, sClrP, sRevP, fR, pmVar, pmIx, pmIxT, MR.putAt, OT.put, OT.at, gmName, gmTup, gmLst, gsNil, gsCons, rVar, rC, rOp, rUn, rCb, rCbZ, rOpZ, rJs, rTxt, rCall, rAnd, rOr, rNot, rIf, rIs, rCh, rCh3, rTup, rLst, rSl, cNone, cSome, rRepr, dRepr, rInDct, rIdx, rIdxD, iR3s, small, qNil, qCons, qApp, lApp, bR, bAnd, bOr, bNot, tR, tD, tmAnd, tmOr, tmNot, yVar_eq, yMov, yR, yAuto, dY, yD, dR, dOp, dOpR, dCb, dAnd, dOr, dNot, yCall, yCallA, yCallI, yCallIT, yCb, yCbA, yOp, yOpA, lfO, yTup, yLst, oNil, oCons, isNo, lNil, lCons, asB, asInt, asL, asT, iL, iT, iE, iZ, iV, yRng1_eq, iR1_eq, iR2_eq, lcStep, calmAt, wipeE, rst, sApp, yPop_eq, sDPutM, ySortD, yDNew, gmName, toD_d, toD_tup, toD_lst, toDs_nil, toDs_cons, toDs_ints, toDs_fpr, toDs_prs, lfs_ints, lfs_fpr, intsO_len, prsO_len, fprO_len, rng_len, intsO_snoc, prsO_snoc, lstO_rg, rOpZ, rCbZ, isNo_lstO, toD_dnew, ySl, ySlA, neS_self, eqS_self,  rRevL, yRevL, yRevLA, yPop0, sExt, gStrI,  lstO_prs, lstO_ints, toD_lstO, kp_int, kp_bool, kp_tuple, kp_list, kp_str, isIntB, isBoolB, isTupB, isListB, isStrB, gAdd_i, gSub_i, gLt_i, gLe_i, gGt_i, gGe_i, gMul_r, gMul_l, gMod_i, gDiv_i, gPow_i, gNeg, gEqI, gNeI, gEqS, gNeS, gIsN, gNotN, gIsB, gNotB, gIxL, gIxT, gLen, gMax2, gMin2, gInt, gAll, asBools_map, isN, OT.lf, OT.lfs, flat, atI_0, atI_1, ixN_0, ixN_1, rgD_len, enumD_len, trues_len, Int.toNat_natCast, List.length_map, eq_self, Option.bind_some, Option.bind_none, Option.map_some, Option.map_none, List.getElem?_cons_zero, List.getElem?_cons_succ, List.set_cons_zero, List.set_cons_succ, List.map_cons, List.map_nil, List.replicate, List.nil_append, List.cons_append, List.length_cons, List.length_nil, List.all_cons, List.all_nil, if_true, if_false, reduceIte, tfl_int, tfl_bool, tfl_none, tfl_str, tfl_list, Bool.true_and, Bool.and_true, Bool.false_and, Bool.and_false, Bool.true_or, Bool.or_true, Bool.false_or, Bool.or_false, Bool.not_true, Bool.not_false, Bool.false_eq_true, decide_true, decide_false, true_and, and_true, false_and, and_false, or_true, true_or, *])
noncomputable def B_turn : Sm :=
 (sSeq (sAsg 5 (yAuto (rOp gIxL (rCall SQ.m__law_numbers 3 (qCons (rVar 4) (qCons (rOp gAdd (rC (.int 500)) (rVar 3)) (qCons (rLst (qCons (rC (.int 4)) qNil)) qNil)))) (rC (.int 0))) (yD (dOpR gIxL (dY (yCallA SQ.m__law_numbers 3 (qCons (rVar 4) (qCons (rOp gAdd (rC (.int 500)) (rVar 3)) (qCons (rLst (qCons (rC (.int 4)) qNil)) qNil))) (lCons (dY (yVar 4)) (lCons (dR (rOp gAdd (rC (.int 500)) (rVar 3))) (lCons (dY (yLst (oCons (yR (rC (.int 4))) oNil))) lNil))))) (rC (.int 0))))))
 (sSeq (sAsg 6 (yCallA SQ.m__law_web 5 (qCons (rOp gDiv (rVar 4) (rC (.int 4))) (qCons (rVar 3) (qCons (rOp gIxL (rLst (qCons (rC (.int 3)) (qCons (rC (.int 8)) (qCons (rC (.int 11)) (qCons (rC (.int 40)) qNil))))) (rVar 5)) (qCons (rOp gIxL (rLst (qCons (rC (.int 3)) (qCons (rC (.int 9)) (qCons (rC (.int 30)) (qCons (rC (.int 60)) qNil))))) (rVar 5)) (qCons (rC (.bool true)) qNil))))) (lCons (dR (rOp gDiv (rVar 4) (rC (.int 4)))) (lCons (dY (yVar 3)) (lCons (dY (yAuto (rOp gIxL (rLst (qCons (rC (.int 3)) (qCons (rC (.int 8)) (qCons (rC (.int 11)) (qCons (rC (.int 40)) qNil))))) (rVar 5)) (yD (dOpR gIxL (dY (yLst (oCons (yR (rC (.int 3))) (oCons (yR (rC (.int 8))) (oCons (yR (rC (.int 11))) (oCons (yR (rC (.int 40))) oNil)))))) (rVar 5))))) (lCons (dY (yAuto (rOp gIxL (rLst (qCons (rC (.int 3)) (qCons (rC (.int 9)) (qCons (rC (.int 30)) (qCons (rC (.int 60)) qNil))))) (rVar 5)) (yD (dOpR gIxL (dY (yLst (oCons (yR (rC (.int 3))) (oCons (yR (rC (.int 9))) (oCons (yR (rC (.int 30))) (oCons (yR (rC (.int 60))) oNil)))))) (rVar 5))))) (lCons (dR (rC (.bool true))) lNil)))))))
 (sSeq (sAsg 7 (yR (rRepr (rVar 6))))
 (sSeq (sAsg 2 (yOpA GCat (rSl (rVar 2) (cSome (rOp gSub (rC (.int 1)) (rC (.int 12)))) cNone) (rLst (qCons (rCall m__law_shown 1 (qCons (rVar 6) qNil)) qNil)) (dY (ySlA (rVar 2) (dY (yVar 2)) (cSome (rOp gSub (rC (.int 1)) (rC (.int 12)))) cNone)) (dY (yLst (oCons (yCallA m__law_shown 1 (qCons (rVar 6) qNil) (lCons (dY (yVar 6)) lNil)) oNil)))))
 (sSeq (sAsg 1 (yOpA GCat (rSl (rVar 1) (cSome (rOp gSub (rC (.int 1)) (rC (.int 12)))) cNone) (rLst (qCons (rVar 6) qNil)) (dY (ySlA (rVar 1) (dY (yVar 1)) (cSome (rOp gSub (rC (.int 1)) (rC (.int 12)))) cNone)) (dY (yLst (oCons (yVar 6) oNil)))))
 (sSeq (sAsg 8 (yR (rOp gAdd (rC (.int 1)) (rOp gMod (rVar 3) (rC (.int 12))))))
 (sSeq (sAsg 9 (ySlA (rVar 1) (dY (yVar 1)) (cSome (rUn gNeg (rVar 8))) cNone))
 (sSeq (sAsg 10 (yD (dJoin (rC (.str " * ")) (dY (ySlA (rVar 2) (dY (yVar 2)) (cSome (rUn gNeg (rVar 8))) cNone)))))
 (sSeq (sIf (tR (bOr (bR (rOp gNeS (rRepr (rCall m_show_web 1 (qCons (rVar 6) qNil))) (rRepr (rOp gIxL (rVar 2) (rUn gNeg (rC (.int 1))))))) (bR (rOp gNeS (rRepr (rVar 6)) (rVar 7)))))
 (sRet (yR (rC (.bool false))))
 sNext)
 (sIf (tR (bAnd (bR (rOp gEqI (rOp gMod (rVar 3) (rC (.int 5))) (rC (.int 0)))) (bR (rOp gNeS (rCall m_show_webs 1 (qCons (rVar 9) qNil)) (rVar 10)))))
 (sRet (yR (rC (.bool false))))
 sNext))))))))))
theorem turn_gen {NS WD : D} {at0 : Nat} {cell d most more : Int} {W1 T2 W6 X5 X6 X7 X8 X9 X10 : OT} {WS TS WS' TS' : List D} {T R RT : Str} {ys : List Str}
    (ha : at0 ≤ 1000) (tW : OT.toD W1 = some (.list WS)) (tT : OT.toD T2 = some (.list TS))
    (e5 : SQ.m__law_numbers [.int cell, .int (500 + (at0 : Int)), .list [.int 4]] = some (.nd .lst (intsO [d])))
    (a1 : atI [PyData.int 3, .int 8, .int 11, .int 40] d = some (.int most)) (a2 : atI [PyData.int 3, .int 9, .int 30, .int 60] d = some (.int more))
    (e6 : SQ.m__law_web [.int (cell / 4), .int (at0 : Nat), .int most, .int more, .bool true] = some W6) (l6 : W6.lf = true) (t6 : OT.toD W6 = some WD) (n6 : isNo W6 = false)
    (r6 : gRepr WD = some (.str R)) (sh : m__law_shown [WD] = some (.d (.str T)))
    (lfT : (lstO (cutD TS (some (-11)) Option.none)).lf = true) (ctT : GCat (.list (cutD TS (some (-11)) Option.none)) (.list [.str T]) = some (lstO TS')) (lT : (lstO TS').lf = true)
    (ctW : GCat (.list (cutD WS (some (-11)) Option.none)) (.list [WD]) = some (lstO WS'))
    (lfT2 : (lstO (cutD TS' (some (-(1 + (at0 : Int) % 12))) Option.none)).lf = true) (jo : cutD TS' (some (-(1 + (at0 : Int) % 12))) Option.none = ys.map .str) (js : (ys.map (·.length)).sum + ys.length * (" * " : Str).length ≤ 1000000)
    (sw : m_show_web [WD] = some (.d (.str T))) (rT : gRepr (.str T) = some (.str RT)) (lastT : atI TS' (-1) = some (.str T))
    (sws : m_show_webs [.list (cutD WS' (some (-(1 + (at0 : Int) % 12))) Option.none)] = some (.d (.str (Txt.join " * " ys))))
    {Q : Fl → MR.Env → Prop} (hQ : ∀ W1 X6 X9, OT.toD W1 = some (.list WS') → Q .nx [.d NS, W1, lstO TS', .d (.int (at0 : Nat)), .d (.int cell), .d (.int d), X6, .d (.str R), .d (.int (1 + (at0 : Int) % 12)), X9, .d (.str (Txt.join " * " ys))]) :
    W B_turn [.d NS, W1, T2, .d (.int (at0 : Nat)), .d (.int cell), X5, X6, X7, X8, X9, X10] Q := by
  have four : (0 : Int) < 4 ∧ (4 : Int) < 1073741824 := by decide
  have twelve : (0 : Int) < 12 := by decide
  have tn := toDs_ints [d]
  unfold B_turn
  refine w_st (ρ1 := [.d NS, W1, T2, .d (.int (at0 : Nat)), .d (.int cell), .d (.int d), X6, X7, X8, X9, X10]) (by clear hQ; walk_at "ev" <;> exact rfl) ?_
  clear e5 tn
  refine w_st (ρ1 := [.d NS, W1, T2, .d (.int (at0 : Nat)), .d (.int cell), .d (.int d), W6, X7, X8, X9, X10]) (by clear hQ; walk_at "ev" <;> exact rfl) ?_
  clear e6 a1 a2
  refine w_st (ρ1 := [.d NS, W1, T2, .d (.int (at0 : Nat)), .d (.int cell), .d (.int d), W6, .d (.str R), X8, X9, X10]) (by clear hQ; walk_at "ev" <;> exact rfl) ?_
  -- the texts
  have y2 : yOpA GCat (rSl (rVar 2) (cSome (rOp gSub (rC (.int 1)) (rC (.int 12)))) cNone) (rLst (qCons (rCall m__law_shown 1 (qCons (rVar 6) qNil)) qNil)) (dY (ySlA (rVar 2) (dY (yVar 2)) (cSome (rOp gSub (rC (.int 1)) (rC (.int 12)))) cNone)) (dY (yLst (oCons (yCallA m__law_shown 1 (qCons (rVar 6) qNil) (lCons (dY (yVar 6)) lNil)) oNil)))
      [.d NS, W1, T2, .d (.int (at0 : Nat)), .d (.int cell), .d (.int d), W6, .d (.str R), X8, X9, X10] = some (lstO TS', [.d NS, W1, T2, .d (.int (at0 : Nat)), .d (.int cell), .d (.int d), W6, .d (.str R), X8, X9, X10]) := by
    refine yOpA_both (x := .list (cutD TS (some (-11)) Option.none)) (y := .list [.str T]) (by clear hQ; walk_at "ev" <;> exact rfl) (by clear hQ; walk_at "ev" <;> exact rfl) ctT ?_
    refine yOp_of (x := .list (cutD TS (some (-11)) Option.none)) (y := .list [.str T]) (dY_of (ySlA_lf (xs := TS) (l := some (-11)) (h := Option.none) (by clear hQ; walk_at "ev" <;> exact rfl) rfl rfl lfT) (toD_lstO _)) (dY_of (r := .nd .lst [.d (.str T)]) (by clear hQ; walk_at "ev" <;> exact rfl) (by rw [toD_lst, toDs_cons, toDs_nil]; rfl)) ctT
  refine w_seq (w_asg (W.of y2 ?_))
  clear y2 ctT lfT sh
  simp only [sqK, List.set_cons_zero, List.set_cons_succ]
  -- the webs
  refine w_seq (w_asg (w_yOpAP (fun ρ => ∃ V1 S6, ρ = [.d NS, V1, lstO TS', .d (.int (at0 : Nat)), .d (.int cell), .d (.int d), S6, .d (.str R), X8, X9, X10] ∧ OT.toD V1 = some (.list WS) ∧ OT.toD S6 = some WD) (x := .list (cutD WS (some (-11)) Option.none)) (y := .list [WD]) (r := lstO WS') (by clear hQ; walk_at "ev" <;> exact rfl) (by clear hQ; walk_at "ev" <;> exact rfl) ctW ⟨W1, W6, rfl, tW, t6⟩ ?_ ?_))
  · refine w_dY (w_ySlAP (fun ρ => ∃ V1, ρ = [.d NS, V1, lstO TS', .d (.int (at0 : Nat)), .d (.int cell), .d (.int d), W6, .d (.str R), X8, X9, X10] ∧ OT.toD V1 = some (.list WS)) (xs := WS) (l := some (-11)) (h := Option.none) (by clear hQ; walk_at "ev" <;> exact rfl) (ρ1 := [.d NS, .d (.list WS), lstO TS', .d (.int (at0 : Nat)), .d (.int cell), .d (.int d), W6, .d (.str R), X8, X9, X10]) (by clear hQ; walk_at "ev" <;> exact rfl) rfl rfl rfl rfl ⟨_, rfl, tW⟩ ⟨_, rfl, toD_d _⟩ fun ρ' hp => ?_)
    obtain ⟨V1, rfl, hV⟩ := hp
    refine ⟨_, toD_lstO _, rfl, ?_⟩
    refine w_dYof (r := .nd .lst [.d WD]) (x := .list [WD]) (ρ' := [.d NS, V1, lstO TS', .d (.int (at0 : Nat)), .d (.int cell), .d (.int d), .d WD, .d (.str R), X8, X9, X10]) (by clear hQ; walk_at "ev" <;> exact rfl) (by rw [toD_lst, toDs_cons, toDs_nil]; rfl) ⟨rfl, V1, _, rfl, hV, toD_d _⟩
  rintro ρ' ⟨V1, S6, rfl, hV, hS⟩
  simp only [sqK, List.set_cons_zero, List.set_cons_succ]
  clear ctW tW
  have tl2 : OT.toD (lstO WS') = some (.list WS') := toD_lstO _
  have tl1 : OT.toD (lstO TS') = some (.list TS') := toD_lstO _
  generalize lstO WS' = V2 at *
  generalize lstO TS' = T3 at *
  refine w_st (ρ1 := [.d NS, V2, T3, .d (.int (at0 : Nat)), .d (.int cell), .d (.int d), S6, .d (.str R), .d (.int (1 + (at0 : Int) % 12)), X9, X10]) (by clear hQ; walk_at "ev" <;> exact rfl) ?_
  generalize 1 + (at0 : Int) % 12 = M at *
  refine w_seq (w_asg (w_ySlAP (fun ρ => ∃ V1, ρ = [.d NS, V1, T3, .d (.int (at0 : Nat)), .d (.int cell), .d (.int d), S6, .d (.str R), .d (.int M), X9, X10] ∧ OT.toD V1 = some (.list WS')) (xs := WS') (l := some (-M)) (h := Option.none) (by clear hQ; walk_at "ev" <;> exact rfl) (ρ1 := [.d NS, .d (.list WS'), T3, .d (.int (at0 : Nat)), .d (.int cell), .d (.int d), S6, .d (.str R), .d (.int M), X9, X10]) (by clear hQ; walk_at "ev" <;> exact rfl) (by clear hQ; walk_at "ev" <;> exact rfl) rfl (by clear hQ; walk_at "ev" <;> exact rfl) rfl ⟨_, rfl, tl2⟩ ⟨_, rfl, toD_d _⟩ fun ρ' hp => ?_))
  obtain ⟨V3, rfl, hV3⟩ := hp
  simp only [sqK, List.set_cons_zero, List.set_cons_succ]
  have tl9 : OT.toD (lstO (cutD WS' (some (-M)) Option.none)) = some (.list (cutD WS' (some (-M)) Option.none)) := toD_lstO _
  generalize lstO (cutD WS' (some (-M)) Option.none) = V9 at *
  generalize cutD WS' (some (-M)) Option.none = WM at *
  have l10 : ySlA (rVar 2) (dY (yVar 2)) (cSome (rUn gNeg (rVar 8))) cNone [.d NS, V3, T3, .d (.int (at0 : Nat)), .d (.int cell), .d (.int d), S6, .d (.str R), .d (.int M), V9, X10] = some (lstO (cutD TS' (some (-M)) Option.none), [.d NS, V3, T3, .d (.int (at0 : Nat)), .d (.int cell), .d (.int d), S6, .d (.str R), .d (.int M), V9, X10]) :=
    ySlA_lf (by clear hQ; walk_at "ev" <;> exact rfl) (by clear hQ; walk_at "ev" <;> exact rfl) rfl lfT2
  refine w_seq (w_asg (w_yD (w_dJoin rfl (w_dYof l10 (toD_lstO _) ⟨ys, by rw [jo], js, ?_⟩))))
  simp only [sqK, List.set_cons_zero, List.set_cons_succ]
  clear l10 jo lfT2 js tl2
  generalize Txt.join (" * ") ys = DU at *
  refine w_seq (w_if (c := false) (by walk_at "ev" <;> exact rfl) (fun z => by cases z) (fun _ => ?_))
  refine w_next ?_
  simp only [sqK]
  have five : (0 : Int) < 5 := by decide
  by_cases c : (at0 : Int) % 5 = 0
  · have c' : decide ((at0 : Int) % 5 = 0) = true := decide_eq_true c
    clear c
    refine w_if (c := false) (by walk_at "ev" <;> exact rfl) (fun z => by cases z) (fun _ => ?_)
    exact w_next (hQ _ _ _ hV3)
  · have c' : decide ((at0 : Int) % 5 = 0) = false := decide_eq_false c
    clear c
    refine w_if (c := false) (by walk_at "ev" <;> exact rfl) (fun z => by cases z) (fun _ => ?_)
    exact w_next (hQ _ _ _ hV3)
theorem SA_last (xs : List D) (x : D) : atI (xs ++ [x]) (-1) = some x := by
  have e : ixN (xs ++ [x]).length (-1) = some xs.length := by
    unfold ixN
    rw [List.length_append, List.length_singleton]
    split <;> (try split) <;> (try simp) <;> omega
  unfold atI
  rw [e]
  simp
theorem lf_strs (ys : List Str) : (lstO (ys.map PyData.str)).lf = true := by
  show OT.lfs ((ys.map PyData.str).map OT.d) = true
  induction ys with
  | nil => simp [OT.lfs]
  | cons y ys ih => simp [OT.lfs, OT.lf, flat] at ih ⊢; exact ih
theorem turn_ok {NS : D} {at0 : Nat} (ha : at0 ≤ 1000) (cell : Int) {W1 T2 X5 X6 X7 X8 X9 X10 : OT} {ws : List Wb} (hw : ∀ w ∈ ws, WbOk w) (hl : ws.length ≤ 12) (tW : OT.toD W1 = some (.list (ws.map wbD))) (tT : OT.toD T2 = some (.list ((ws.map wT).map .str)))
    {Q : Fl → MR.Env → Prop} (hQ : ∀ W1 T2 X5 X6 X7 X8 X9 X10, ∀ ws' : List Wb, (∀ w ∈ ws', WbOk w) → ws'.length ≤ 12 → OT.toD W1 = some (.list (ws'.map wbD)) → OT.toD T2 = some (.list ((ws'.map wT).map .str)) → Q .nx [.d NS, W1, T2, .d (.int (at0 : Nat)), .d (.int cell), X5, X6, X7, X8, X9, X10]) :
    W B_turn [.d NS, W1, T2, .d (.int (at0 : Nat)), .d (.int cell), X5, X6, X7, X8, X9, X10] Q := by
  obtain ⟨ds, e5, l5, g5⟩ := numbers_ok cell (500 + (at0 : Int)) (by omega) [4] (by simp) (by intro s hs; simp at hs; omega)
  obtain ⟨d, rfl⟩ : ∃ d, ds = [d] := List.length_eq_one_iff.mp l5
  have g5 : 0 ≤ d ∧ d < 4 := g5 0 (by simp)
  have key : ∃ (most : Int) (more : Nat), 1 ≤ most ∧ most ≤ 40 ∧ more ≤ 60 ∧ atI [PyData.int 3, .int 8, .int 11, .int 40] d = some (.int most) ∧ atI [PyData.int 3, .int 9, .int 30, .int 60] d = some (.int (more : Nat)) := by
    have : d = 0 ∨ d = 1 ∨ d = 2 ∨ d = 3 := by omega
    rcases this with rfl | rfl | rfl | rfl
    · exact ⟨3, 3, by omega, by omega, by omega, rfl, rfl⟩
    · exact ⟨8, 9, by omega, by omega, by omega, rfl, rfl⟩
    · exact ⟨11, 30, by omega, by omega, by omega, rfl, rfl⟩
    · exact ⟨40, 60, by omega, by omega, by omega, rfl, rfl⟩
  obtain ⟨most, more, m1, m2, m3, a1, a2⟩ := key
  obtain ⟨w, e6, h, _⟩ := web_ok (cell / 4) (at0 : Nat) (by omega) most m1 m2 more m3 true
  have l11 : (tla 11 ws).length ≤ 11 := by rw [tla_len]; omega
  have hin : ∀ v ∈ tla 11 ws ++ [w], WbOk v := fun v hv => by
    rcases List.mem_append.mp hv with hv | hv
    · exact hw v (tla_mem hv)
    · rw [List.mem_singleton.mp hv]; exact h
  have hln : (tla 11 ws ++ [w]).length ≤ 12 := by rw [List.length_append]; simp; omega
  have c11T : cutD ((ws.map wT).map PyData.str) (some (-11)) Option.none = ((tla 11 ws).map wT).map .str := by
    rw [show (-11 : Int) = -((11 : Nat) : Int) from rfl, cut_neg _ (by omega), tla_map, tla_map]
  have c11W : cutD (ws.map wbD) (some (-11)) Option.none = (tla 11 ws).map wbD := by
    rw [show (-11 : Int) = -((11 : Nat) : Int) from rfl, cut_neg _ (by omega), tla_map]
  obtain ⟨m, hm, hm1, hm2⟩ : ∃ m : Nat, 1 + (at0 : Int) % 12 = (m : Int) ∧ 1 ≤ m ∧ m ≤ 12 := ⟨(1 + (at0 : Int) % 12).toNat, by omega, by omega, by omega⟩
  have cmT : cutD (((tla 11 ws ++ [w]).map wT).map PyData.str) (some (-(1 + (at0 : Int) % 12))) Option.none = ((tla m (tla 11 ws ++ [w])).map wT).map .str := by
    rw [hm, cut_neg _ hm1, tla_map, tla_map]
  have cmW : cutD ((tla 11 ws ++ [w]).map wbD) (some (-(1 + (at0 : Int) % 12))) Option.none = (tla m (tla 11 ws ++ [w])).map wbD := by
    rw [hm, cut_neg _ hm1, tla_map]
  have lm : (tla m (tla 11 ws ++ [w])).length ≤ 12 := by rw [tla_len]; omega
  have nm : tla m (tla 11 ws ++ [w]) ≠ [] := fun z => by
    have := tla_len m (tla 11 ws ++ [w])
    rw [z] at this
    simp at this
    omega
  have hmm : ∀ v ∈ tla m (tla 11 ws ++ [w]), WbOk v := fun v hv => hin v (tla_mem hv)
  have sep : (" * " : Str).length = 3 := by decide +kernel
  have sm := sum_le 800 ((tla m (tla 11 ws ++ [w])).map wT) (fun y hy => by
    obtain ⟨v, hv, rfl⟩ := List.mem_map.mp hy
    exact (sm_wT (hmm v hv)).2)
  rw [List.length_map] at sm
  have sws := shows_ok hmm lm nm
  refine turn_gen (WD := wbD w) (WS := ws.map wbD) (TS := (ws.map wT).map .str) (WS' := (tla 11 ws ++ [w]).map wbD) (TS' := ((tla 11 ws ++ [w]).map wT).map .str) (T := wT w) (ys := (tla m (tla 11 ws ++ [w])).map wT) ha tW tT e5 a1 a2 e6 (lf_wbO w) (toD_wbO w) rfl ((nice_wb h).repr (by omega) (by omega)) (shown_ok h)
    (by rw [c11T]; exact lf_strs _) ?_ (lf_strs _) ?_ (by rw [cmT]; exact lf_strs _) cmT (by rw [sep, List.length_map]; omega) (show_ok h) (repr_txt (sm_wT h).1 (by have := (sm_wT h).2; omega)) ?_ (by rw [cmW]; exact sws) ?_
  · rw [c11T, GCat_ok (by simp; omega)]
    simp
  · rw [c11W, GCat_ok (by simp; omega)]
    simp
  · have := SA_last (((tla 11 ws).map wT).map PyData.str) (PyData.str (wT w))
    simpa using this
  · intro W1 X6 X9 hW
    exact hQ _ _ _ _ _ _ _ _ (tla 11 ws ++ [w]) hin hln hW (toD_lstO _)
theorem eq_nil (ns : List Int) : gEqD (.list (ns.map .int)) (.list []) = some (.bool (decide (ns = []))) := by
  have s : SeqAt.shaped (.list (ns.map .int)) = true := by
    have g : ∀ ns : List Int, PyData.canLayAll0 (ns.map .int) = true ∧ PyData.depthAll (ns.map .int) = 0 := by
      intro ns
      induction ns with
      | nil => exact ⟨rfl, rfl⟩
      | cons n ns ih => simp [PyData.canLayAll0, PyData.canLay0, PyData.depthAll, PyData.depth, ih.1, ih.2]
    simp [SeqAt.shaped, PyData.canLay0, PyData.depth, (g ns).1, (g ns).2]
  have s2 : SeqAt.shaped (.list []) = true := rfl
  unfold gEqD
  rw [s, s2]
  cases ns with
  | nil => rfl
  | cons n ns => rfl
theorem goal (ns : List Int) (hl : ns.length ≤ 63) : z82.m_law [.list (ns.map .int)] = some (.d (.bool true)) := by
  have nil1 := shows_nil
  have rn : gRepr (.str "none") = some (.str "'none'") := by
    have a := repr_txt (s := "none") (by
      have : ∀ c ∈ ("none" : Str).cps.toList, c < 128 := by decide +kernel
      exact this) (by decide +kernel)
    rw [a]
    have b : PyData.shown (.str "none") = ("'none'" : Str) := by decide +kernel
    rw [b]
  have eqn := eq_nil ns
  obtain ⟨k, hk, hk1⟩ : ∃ k : Nat, (if decide (ns = []) = true then (1 : Int) else 0) = (k : Int) ∧ k ≤ 1 := by
    split
    · exact ⟨1, rfl, by omega⟩
    · exact ⟨0, rfl, by omega⟩
  have c60 : cutD (ns.map PyData.int) Option.none (some (60 : Int)) = (ns.take 60).map .int := by
    unfold cutD
    rw [show (60 : Int) = ((60 : Nat) : Int) from rfl, HT.sIx_nat]
    have e0 : HT.sIx (ns.map PyData.int).length 0 Option.none = 0 := rfl
    rw [e0, List.drop_zero, Nat.sub_zero, List.map_take, List.length_map]
    apply List.take_eq_take_iff.mpr
    rw [List.length_map]
    omega
  unfold z82.m_law B_law
  refine fin_eq ?_
  have lfi : (lstO ((ns.take 60).map PyData.int)).lf = true := by
    show OT.lfs (((ns.take 60).map PyData.int).map OT.d) = true
    rw [List.map_map]
    exact lfs_ints (ns.take 60)
  have rp : yRep (yLst (oCons (yR (rC (.int 8))) oNil)) (rCb gInt (qCons (rOp gEqD (rVar 0) (rLst qNil)) qNil)) [.d (.list (ns.map .int)), .nd .lst [], .nd .lst [], .no, .no, .no, .no, .no, .no, .no, .no] = some (lstO (List.replicate k (.int 8)), [.d (.list (ns.map .int)), .nd .lst [], .nd .lst [], .no, .no, .no, .no, .no, .no, .no, .no]) :=
    yRep_one (k := k) (x := .int 8) (by walk_at "ev" <;> exact rfl) (by walk_at "ev" <;> exact rfl) (by omega)
  have it : iE (lCons (dY (yOp GCat (dY (ySlA (rVar 0) (dY (yVar 0)) cNone (cSome (rC (.int 60))))) (dY (yRep (yLst (oCons (yR (rC (.int 8))) oNil)) (rCb gInt (qCons (rOp gEqD (rVar 0) (rLst qNil)) qNil)))))) lNil) [.d (.list (ns.map .int)), .nd .lst [], .nd .lst [], .no, .no, .no, .no, .no, .no, .no, .no] = some (((ns.take 60 ++ List.replicate k 8).zipIdx).map fun p : Int × Nat => PyData.tuple [.int (p.2 : Nat), .int p.1], [.d (.list (ns.map .int)), .nd .lst [], .nd .lst [], .no, .no, .no, .no, .no, .no, .no, .no]) := by
    have hA := dY_of (ySlA_lf (ra := rVar 0) (a := dY (yVar 0)) (lo := cNone) (hi := cSome (rC (.int 60))) (ρ := [.d (.list (ns.map .int)), .nd .lst [], .nd .lst [], .no, .no, .no, .no, .no, .no, .no, .no]) (xs := ns.map .int) (l := Option.none) (h := some 60) rfl rfl rfl (by rw [c60]; exact lfi)) (toD_lstO _)
    rw [c60] at hA
    have hE := dY_of (yOp_of hA (dY_of rp (toD_lstO _)) (GCat_ok (by simp; omega))) (toD_lstO _)
    have r8 : (ns.take 60).map PyData.int ++ List.replicate k (PyData.int 8) = (ns.take 60 ++ List.replicate k 8).map .int := by
      rw [List.map_append, List.map_replicate]
    rw [r8] at hE
    unfold iE lCons lNil
    rw [hE]
    simp only [Option.bind_some, Option.map_some]
    rw [enumD_map]
  clear rp lfi c60 hk eqn
  refine w_seq (w_if (c := false) (ρ1 := [.d (.list (ns.map .int)), .no, .no, .no, .no, .no, .no, .no, .no, .no, .no]) (by clear it; walk_at "ev" <;> exact rfl) (fun z => by cases z) (fun _ => ?_))
  refine w_next ?_
  clear nil1 rn
  simp only [sqK]
  refine w_st (ρ1 := [.d (.list (ns.map .int)), .nd .lst [], .no, .no, .no, .no, .no, .no, .no, .no, .no]) (by walk_at "ev" <;> exact rfl) ?_
  refine w_st (ρ1 := [.d (.list (ns.map .int)), .nd .lst [], .nd .lst [], .no, .no, .no, .no, .no, .no, .no, .no]) (by walk_at "ev" <;> exact rfl) ?_
  refine w_seq (w_forT (fun i ρ => ∃ (ws : List Wb) (W1 T2 X3 X4 X5 X6 X7 X8 X9 X10 : OT), ρ = [.d (.list (ns.map .int)), W1, T2, X3, X4, X5, X6, X7, X8, X9, X10] ∧ (∀ w ∈ ws, WbOk w) ∧ ws.length ≤ 12 ∧ OT.toD W1 = some (.list (ws.map wbD)) ∧ OT.toD T2 = some (.list ((ws.map wT).map .str))) (as := (ns.take 60 ++ List.replicate k 8).zipIdx) (enc := fun p : Int × Nat => .tuple [.int (p.2 : Nat), .int p.1]) it ⟨[], _, _, _, _, _, _, _, _, _, _, rfl, by simp, by simp, by rw [toD_lst, toDs_nil]; rfl, by rw [toD_lst, toDs_nil]; rfl⟩ (fun i p ρ2 hp hs => ?_) ?_)
  · obtain ⟨ws, W1, T2, X3, X4, X5, X6, X7, X8, X9, X10, rfl, hw, hl2, hW, hT⟩ := hs
    obtain ⟨c, a⟩ := p
    have ha : a < 61 := by
      have := List.mem_zipIdx' (List.mem_of_getElem? hp)
      simp at this
      omega
    refine ⟨_, rfl, turn_ok (at0 := a) (by omega) c hw hl2 hW hT fun W1 T2 X5 X6 X7 X8 X9 X10 ws' h1 h2 h3 h4 => ?_⟩
    exact ⟨ws', _, _, _, _, _, _, _, _, _, _, rfl, h1, h2, h3, h4⟩
  · rintro ρ2 ⟨ws, W1, T2, X3, X4, X5, X6, X7, X8, X9, X10, rfl, hw, hl2, hW, hT⟩
    clear it hT hW hw
    exact w_end (by walk_at "ev" <;> exact rfl) rfl rfl
end z82
namespace z83
open PySem L2 PL MR SH SQ
open z82 (sg fg tieT wT Sm7 str_ext app_cps)
local macro_rules | `(tactic| walk_at "ev") => `(tactic| simp (config := {decide := true}) only [ini, fin, finI, sSeq, sNext, sAsg, sAsgG, sRet, sRetN, sDrop, sIf, sNever, sSetP, sAppP, sClrP, sRevP, fR, pmVar, pmIx, pmIxT, MR.putAt, OT.put, OT.at, gmName, gmTup, gmLst, gsNil, gsCons, rVar, rC, rOp, rUn, rCb, rCbZ, rOpZ, rJs, rTxt, rCall, rAnd, rOr, rNot, rIf, rIs, rCh, rCh3, rTup, rLst, rSl, cNone, cSome, rRepr, dRepr, rInDct, rIdx, rIdxD, iR3s, small, qNil, qCons, qApp, lApp, bR, bAnd, bOr, bNot, tR, tD, tmAnd, tmOr, tmNot, yVar_eq, yMov, yR, yAuto, dY, yD, dR, dOp, dOpR, dCb, dAnd, dOr, dNot, yCall, yCallA, yCallI, yCallIT, yCb, yCbA, yOp, yOpA, lfO, yTup, yLst, oNil, oCons, isNo, lNil, lCons, asB, asInt, asL, asT, iL, iT, iE, iZ, iV, yRng1_eq, iR1_eq, iR2_eq, lcStep, calmAt, wipeE, rst, sApp, yPop_eq, sDPutM, ySortD, yDNew, gmName, toD_d, toD_tup, toD_lst, toDs_nil, toDs_cons, toDs_ints, toDs_fpr, toDs_prs, lfs_ints, lfs_fpr, intsO_len, prsO_len, fprO_len, rng_len, intsO_snoc, prsO_snoc, lstO_rg, rOpZ, rCbZ, isNo_lstO, toD_dnew, ySl, ySlA, neS_self, eqS_self,  rRevL, yRevL, yRevLA, yPop0, sExt, gStrI,  lstO_prs, lstO_ints, toD_lstO, kp_int, kp_bool, kp_tuple, kp_list, kp_str, isIntB, isBoolB, isTupB, isListB, isStrB, gAdd_i, gSub_i, gLt_i, gLe_i, gGt_i, gGe_i, gMul_r, gMul_l, gMod_i, gDiv_i, gPow_i, gNeg, gEqI, gNeI, gEqS, gNeS, gIsN, gNotN, gIsB, gNotB, gIxL, gIxT, gLen, gMax2, gMin2, gInt, gAll, asBools_map, isN, OT.lf, OT.lfs, flat, atI_0, atI_1, ixN_0, ixN_1, rgD_len, enumD_len, trues_len, Int.toNat_natCast, List.length_map, eq_self, Option.bind_some, Option.bind_none, Option.map_some, Option.map_none, List.getElem?_cons_zero, List.getElem?_cons_succ, List.set_cons_zero, List.set_cons_succ, List.map_cons, List.map_nil, List.replicate, List.nil_append, List.cons_append, List.length_cons, List.length_nil, List.all_cons, List.all_nil, if_true, if_false, reduceIte, tfl_int, tfl_bool, tfl_none, tfl_str, tfl_list, Bool.true_and, Bool.and_true, Bool.false_and, Bool.and_false, Bool.true_or, Bool.or_true, Bool.false_or, Bool.or_false, Bool.not_true, Bool.not_false, Bool.false_eq_true, decide_true, decide_false, true_and, and_true, false_and, and_false, or_true, true_or, *])
theorem dig_fg {n : Nat} (h : n < 100) : ∀ c ∈ (fg n).cps.toList, 48 ≤ c ∧ c ≤ 57 := by
  have g : ∀ n : Nat, n < 100 → ((fg n).cps.toList.all fun c => decide (48 ≤ c ∧ c ≤ 57)) = true := by decide +kernel
  intro c hc
  simpa using List.all_eq_true.mp (g n h) c hc
theorem tie_in_ok {a b : Nat} (ha : a < 100) (hb : b < 100) : m_tie_in [.str (fg a ++ "-" ++ fg b)] = some (.nd .tup [.d (.int (a : Nat)), .d (.int (b : Nat))]) := by
  have fa := z82.fg_len a
  have fb := z82.fg_len b
  have s2 : ("-" : Str).length = 1 := by decide +kernel
  have ey : TL.tl ("-" : Str) = [45] := by decide +kernel
  have pt : Txt.partition (fg a ++ "-" ++ fg b) "-" = (fg a, ("-" : Str), fg b) := TL.partition_app ey fun hc => by
    have := dig_fg ha 45 hc
    omega
  have hl : (fg a ++ "-" ++ fg b).length ≤ 1000000 := by rw [str_app_len, str_app_len]; omega
  have n1 := number_in_ok ha
  have n2 := number_in_ok hb
  unfold m_tie_in B_tie_in
  generalize ("-" : Str) = MI at *
  generalize fg a ++ MI ++ fg b = T at *
  refine fin_eq ?_
  have yp := yPart_of (a := rVar 0) (b := rC (.str MI)) (ρ := [.d (.str T), .no, .no, .no]) (s := T) (t := MI) rfl rfl (by rw [s2]; rfl) hl
  rw [pt] at yp
  generalize fg a = FA at *
  generalize fg b = FB at *
  clear pt ey
  refine w_seq (w_asgG (w_dYof yp (x := .tuple [.str FA, .str MI, .str FB]) (by rw [toD_tup, toDs_cons, toDs_cons, toDs_cons, toDs_nil]; rfl) ⟨[.d (.str T), .d (.str FA), .d (.str MI), .d (.str FB)], rfl, ?_⟩))
  simp only [sqK]
  clear yp
  exact w_end (by walk_at "ev" <;> exact rfl) rfl rfl
def wbP (w : Wb) : OT := .nd .tup [.d (.int (w.1 : Nat)), .nd .lst (prsO w.2)]
theorem toD_wbP (w : Wb) : OT.toD (wbP w) = some (wbD w) := by
  simp [wbP, wbD, WD, toD_tup, toDs_cons, toDs_nil, toD_d, toD_lst, toDs_prs]
theorem isNo_wbP (w : Wb) : isNo (wbP w) = false := rfl
theorem cut_one (x : D) (xs : List D) : cutD (x :: xs) (some 1) Option.none = xs := by
  unfold cutD
  rw [show (1 : Int) = ((1 : Nat) : Int) from rfl, HT.sIx_nat]
  have e0 : HT.sIx (x :: xs).length (x :: xs).length Option.none = (x :: xs).length := rfl
  rw [e0]
  have : min 1 (x :: xs).length = 1 := by simp
  rw [this]
  simp
theorem web_in_ok {w : Wb} (h : WbOk w) : m_web_in [.str (wT w)] = some (wbP w) := by
  have bd := z82.w2_bd h
  have hl := h.len
  have hn := h.hi
  have wl := (z82.sm_wT h).2
  have flt : SH.m_web_fault [wbD w] = some (.d .none) := fault_ok h.ok h.lo h.hi h.len
  have ey : TL.tl (" " : Str) = [32] := by decide +kernel
  have sp : Txt.split (wT w) " " = fg w.1 :: w.2.map tieT := TL.split_join ey (by decide +kernel) (by simp) fun p hp => by
    have dg : ∀ n : Nat, n < 100 → 32 ∉ TL.tl (fg n) := fun n hn hc => by
      have := dig_fg hn 32 hc
      omega
    rcases List.mem_cons.mp hp with rfl | hp
    · exact dg _ (by omega)
    · obtain ⟨q, hq, rfl⟩ := List.mem_map.mp hp
      obtain ⟨a, b, rfl, ha, hb⟩ := bd q hq
      have e : tieT ((a : Int), (b : Int)) = fg a ++ "-" ++ fg b := by unfold tieT; simp
      rw [e, TL.tl_append, TL.tl_append]
      intro hc
      rcases List.mem_append.mp hc with hc | hc
      · rcases List.mem_append.mp hc with hc | hc
        · exact dg a ha hc
        · have : TL.tl ("-" : Str) = [45] := by decide +kernel
          rw [this] at hc
          simp at hc
      · exact dg b hb hc
  have s1 : (" " : Str).length = 1 := by decide +kernel
  have tw := toD_wbP w
  obtain ⟨n, ts⟩ := w
  simp only at bd hl hn sp
  have hw : wbP (n, ts) = .nd .tup [.d (.int (n : Nat)), .nd .lst (prsO ts)] := rfl
  have ni := number_in_ok (n := n) (by omega)
  unfold m_web_in B_web_in
  generalize (" " : Str) = SP at *
  generalize wT (n, ts) = T at *
  have ys := ySplit_of (a := rVar 0) (b := rC (.str SP)) (ρ := [.d (.str T), .no, .no, .no]) (s := T) (t := SP) rfl rfl (by rw [s1]; rfl) (by omega)
  rw [sp] at ys
  clear sp ey
  refine fin_eq ?_
  refine w_seq (w_asg (W.of ys ?_))
  clear ys
  simp only [sqK, List.set_cons_zero, List.set_cons_succ]
  have lfs := z82.lf_strs (ts.map tieT)
  have rest : lstO (ts.map tieT |>.map PyData.str) = lstO (ts.map tieT |>.map PyData.str) := rfl
  have tl1 : OT.toD (lstO (((fg n) :: ts.map tieT).map PyData.str)) = some (.list (((fg n) :: ts.map tieT).map PyData.str)) := toD_lstO _
  have cut := cut_one (.str (fg n)) ((ts.map tieT).map .str)
  have a0 : atI (((fg n) :: ts.map tieT).map PyData.str) 0 = some (.str (fg n)) := atI_0 _ _
  have ml : ((fg n) :: ts.map tieT).map PyData.str = .str (fg n) :: (ts.map tieT).map .str := rfl
  rw [← ml] at cut
  clear ml rest
  have lts : ts.length ≤ 1000000 := by omega
  generalize hL : ((fg n) :: ts.map tieT).map PyData.str = L at *
  generalize lstO L = W1 at *
  have hit : iL (dY (ySlA (rVar 1) (dY (yVar 1)) (cSome (rC (.int 1))) cNone)) [.d (.str T), W1, .no, .no] = some (ts.map (fun p => PyData.str (tieT p)), [.d (.str T), W1, .no, .no]) := by
    have s := ySlA_lf (ra := rVar 1) (a := dY (yVar 1)) (lo := cSome (rC (.int 1))) (hi := cNone) (ρ := [.d (.str T), W1, .no, .no]) (xs := L) (l := some 1) (h := Option.none) (by clear lfs; walk_at "ev" <;> exact rfl) rfl rfl (by rw [cut]; exact lfs)
    unfold iL
    rw [dY_of s (toD_lstO _), cut, List.map_map]
    rfl
  generalize hF : fg n = F at *
  clear hL hF lfs cut
  refine w_seq (w_asg (w_yTup (w_oCons (W.of (r := .d (.int (n : Nat))) (ρ' := [.d (.str T), W1, .no, .no]) (by clear hit; walk_at "ev" <;> exact rfl) ⟨rfl, w_oCons ((w_lcmT (fun p : Int × Int => OT.nd .tup [.d (.int p.1), .d (.int p.2)]) (as := ts) (enc := fun p : Int × Int => PyData.str (tieT p)) hit rfl lts (fun p hp => ?_) ?_))⟩))))
  · obtain ⟨a, b, rfl, ha, hb⟩ := bd p hp
    have e : tieT ((a : Int), (b : Int)) = fg a ++ "-" ++ fg b := by unfold tieT; simp
    have t := tie_in_ok ha hb
    rw [e]
    generalize fg a ++ "-" ++ fg b = R at *
    clear hit a0 ni tl1
    refine W.of (by walk_at "ev" <;> exact rfl) ?_
    exact ⟨rfl, rfl⟩
  clear hit
  have us : ts.map (fun p : Int × Int => OT.nd .tup [.d (.int p.1), .d (.int p.2)]) = prsO ts := rfl
  rw [us]
  refine ⟨rfl, w_oNil ⟨by show 2 ≤ 1000000; decide, ?_⟩⟩
  simp only [sqK, wipeE, rst, List.getElem?_cons_zero, List.getElem?_cons_succ, List.set_cons_zero, List.set_cons_succ]
  rw [← hw]
  have nw := isNo_wbP (n, ts)
  clear hw us a0 ni
  generalize wbP (n, ts) = W2 at *
  refine w_ret ?_
  have t1 : tR (bR (rOp gIsN (rCall SH.m_web_fault 1 (qCons (rVar 2) qNil)) (rC .none))) [.d (.str T), W1, W2, .no] = some (true, [.d (.str T), W1, W2, .no]) := by
    walk_at "ev" <;> exact rfl
  refine ⟨W2, [.d (.str T), W1, .no, .no], ?_, ?_⟩
  · unfold yIf
    rw [t1]
    simp only [Option.bind_some, if_true]
    unfold yMov
    simp only [List.getElem?_cons_succ, List.getElem?_cons_zero]
    clear t1 tw flt
    cases W2 with
    | no => cases nw
    | d x => rfl
    | nd k us => rfl
    | fl us => rfl
    | ex x => rfl
  · cases W2 with
    | no => cases nw
    | d x => exact rfl
    | nd k us => exact rfl
    | fl us => exact rfl
    | ex x => cases tw
end z83
namespace z83
open PySem L2 PL MR SH SQ
open z82 (sg fg tieT wT Sm7 str_ext app_cps)
local macro_rules | `(tactic| walk_at "ev") => `(tactic| simp (config := {decide := true}) only [ini, fin, finI, sSeq, sNext, sAsg, sAsgG, sRet, sRetN, sDrop, sIf, sNever, sSetP, sAppP, sClrP, sRevP, fR, pmVar, pmIx, pmIxT, MR.putAt, OT.put, OT.at, gmName, gmTup, gmLst, gsNil, gsCons, rVar, rC, rOp, rUn, rCb, rCbZ, rOpZ, rJs, rTxt, rCall, rAnd, rOr, rNot, rIf, rIs, rCh, rCh3, rTup, rLst, rSl, cNone, cSome, rRepr, dRepr, rInDct, rIdx, rIdxD, iR3s, small, qNil, qCons, qApp, lApp, bR, bAnd, bOr, bNot, tR, tD, tmAnd, tmOr, tmNot, yVar_eq, yMov, yR, yAuto, dY, yD, dR, dOp, dOpR, dCb, dAnd, dOr, dNot, yCall, yCallA, yCallI, yCallIT, yCb, yCbA, yOp, yOpA, lfO, yTup, yLst, oNil, oCons, isNo, lNil, lCons, asB, asInt, asL, asT, iL, iT, iE, iZ, iV, yRng1_eq, iR1_eq, iR2_eq, lcStep, calmAt, wipeE, rst, sApp, yPop_eq, sDPutM, ySortD, yDNew, gmName, toD_d, toD_tup, toD_lst, toDs_nil, toDs_cons, toDs_ints, toDs_fpr, toDs_prs, lfs_ints, lfs_fpr, intsO_len, prsO_len, fprO_len, rng_len, intsO_snoc, prsO_snoc, lstO_rg, rOpZ, rCbZ, isNo_lstO, toD_dnew, ySl, ySlA, neS_self, eqS_self,  rRevL, yRevL, yRevLA, yPop0, sExt, gStrI,  lstO_prs, lstO_ints, toD_lstO, kp_int, kp_bool, kp_tuple, kp_list, kp_str, isIntB, isBoolB, isTupB, isListB, isStrB, gAdd_i, gSub_i, gLt_i, gLe_i, gGt_i, gGe_i, gMul_r, gMul_l, gMod_i, gDiv_i, gPow_i, gNeg, gEqI, gNeI, gEqS, gNeS, gIsN, gNotN, gIsB, gNotB, gIxL, gIxT, gLen, gMax2, gMin2, gInt, gAll, asBools_map, isN, OT.lf, OT.lfs, flat, atI_0, atI_1, ixN_0, ixN_1, rgD_len, enumD_len, trues_len, Int.toNat_natCast, List.length_map, eq_self, Option.bind_some, Option.bind_none, Option.map_some, Option.map_none, List.getElem?_cons_zero, List.getElem?_cons_succ, List.set_cons_zero, List.set_cons_succ, List.map_cons, List.map_nil, List.replicate, List.nil_append, List.cons_append, List.length_cons, List.length_nil, List.all_cons, List.all_nil, if_true, if_false, reduceIte, tfl_int, tfl_bool, tfl_none, tfl_str, tfl_list, Bool.true_and, Bool.and_true, Bool.false_and, Bool.and_false, Bool.true_or, Bool.or_true, Bool.false_or, Bool.or_false, Bool.not_true, Bool.not_false, Bool.false_eq_true, decide_true, decide_false, true_and, and_true, false_and, and_false, or_true, true_or, *])
theorem pre_at {l : List Nat} (h : TL.pre [32, 42, 32] l = true) : l[1]? = some 42 := by
  unfold TL.pre at h
  have h : l.take 3 = [32, 42, 32] := by simpa using h
  have : (l.take 3)[1]? = some 42 := by rw [h]; rfl
  rw [List.getElem?_take] at this
  simpa using this
theorem free3 {p rest : List Nat} (h : 42 ∉ p) : ∀ i, i < p.length → TL.pre [32, 42, 32] ((p ++ ([32, 42, 32] ++ rest)).drop i) = false := fun i hi => by
  cases hp : TL.pre [32, 42, 32] ((p ++ ([32, 42, 32] ++ rest)).drop i) with
  | false => rfl
  | true =>
    have e := pre_at hp
    rw [List.getElem?_drop] at e
    by_cases c : i + 1 < p.length
    · rw [List.getElem?_append_left c] at e
      exact (h (List.mem_of_getElem? e)).elim
    · rw [List.getElem?_append_right (by omega)] at e
      have : i + 1 - p.length = 0 := by omega
      rw [this] at e
      simp at e
theorem free3_last {p : List Nat} (h : 42 ∉ p) : ∀ i, i < p.length → TL.pre [32, 42, 32] (p.drop i) = false := fun i hi => by
  cases hp : TL.pre [32, 42, 32] (p.drop i) with
  | false => rfl
  | true =>
    have e := pre_at hp
    rw [List.getElem?_drop] at e
    exact (h (List.mem_of_getElem? e)).elim
theorem spl_join3 : ∀ {parts : List (List Nat)}, parts ≠ [] → (∀ p ∈ parts, 42 ∉ p) → TL.spl [32, 42, 32] 0 [] (TL.joinL [32, 42, 32] parts) = parts
  | [], h, _ => (h rfl).elim
  | [p], _, hp => by
    show TL.spl [32, 42, 32] 0 [] p = [p]
    rw [TL.spl_last (free3_last (hp p (by simp)))]
    rfl
  | p :: q :: r, _, hp => by
    show TL.spl [32, 42, 32] 0 [] (p ++ ([32, 42, 32] ++ TL.joinL [32, 42, 32] (q :: r))) = p :: q :: r
    rw [TL.spl_part (by simp) (free3 (hp p (by simp))), spl_join3 (by simp) fun z hz => hp z (List.mem_cons_of_mem _ hz)]
    rfl
theorem split_join3 {parts : List Str} (hne : parts ≠ []) (hp : ∀ p ∈ parts, 42 ∉ TL.tl p) : Txt.split (Txt.join " * " parts) " * " = parts := by
  have ey : TL.tl (" * " : Str) = [32, 42, 32] := by decide +kernel
  refine TL.map_tl_inj ?_
  rw [TL.split_spl _ (" * " : Str) (by rw [ey]; simp) (TL.kind_ok (by decide +kernel)), TL.join_eq, TL.tl_join, ey]
  refine spl_join3 (fun e => hne (List.map_eq_nil_iff.mp e)) fun p h => ?_
  obtain ⟨z, hz, rfl⟩ := List.mem_map.mp h
  exact hp z hz
/-- the signs of a written web -/
theorem wT_signs {w : Wb} (h : WbOk w) : ∀ c ∈ TL.tl (wT w), c = 32 ∨ c = 45 ∨ (48 ≤ c ∧ c ≤ 57) := by
  have bd := z82.w2_bd h
  rw [z82.wT_fold]
  have e1 : TL.tl (" " : Str) = [32] := by decide +kernel
  have e2 : TL.tl ("-" : Str) = [45] := by decide +kernel
  have gen : ∀ (ts : List (Int × Int)) (acc : Str), (∀ p ∈ ts, ∃ a b : Nat, p = ((a : Int), (b : Int)) ∧ a < 100 ∧ b < 100) → (∀ c ∈ TL.tl acc, c = 32 ∨ c = 45 ∨ (48 ≤ c ∧ c ≤ 57)) → ∀ c ∈ TL.tl (ts.foldl z82.addT acc), c = 32 ∨ c = 45 ∨ (48 ≤ c ∧ c ≤ 57) := by
    intro ts
    induction ts with
    | nil => intro acc _ ha; exact ha
    | cons p ts ih =>
      intro acc hp ha
      obtain ⟨a, b, e, h1, h2⟩ := hp p List.mem_cons_self
      refine ih _ (fun r hr => hp r (List.mem_cons_of_mem _ hr)) ?_
      rw [e]
      unfold z82.addT
      simp only [TL.tl_append, e1, e2, Int.toNat_natCast]
      intro c hc
      rcases List.mem_append.mp hc with hc | hc
      · rcases List.mem_append.mp hc with hc | hc
        · rcases List.mem_append.mp hc with hc | hc
          · rcases List.mem_append.mp hc with hc | hc
            · exact ha c hc
            · exact .inl (by simpa using hc)
          · exact .inr (.inr (dig_fg h1 c hc))
        · exact .inr (.inl (by simpa using hc))
      · exact .inr (.inr (dig_fg h2 c hc))
  exact gen w.2 (fg w.1) bd fun c hc => .inr (.inr (dig_fg (by have := h.hi; omega) c hc))
theorem w_sApp' {i : Nat} {y : Ym} {ρ : MR.Env} {Q : Fl → MR.Env → Prop} {us : List OT} (h0 : ρ[i]? = some (.nd .lst us)) (h : W y ρ fun r ρ1 => isNo r = false ∧ ∃ ts, ρ1[i]? = some (.nd .lst ts) ∧ ts.length ≤ 1000000 ∧ Q .nx (ρ1.set i (.nd .lst (ts ++ [r])))) : W (sApp i y) ρ Q := by
  obtain ⟨r, ρ1, e, n, ts, e2, l, q⟩ := h
  refine ⟨_, _, ?_, q⟩
  unfold sApp
  rw [h0]
  simp only [e, Option.bind_some, n, e2, l, if_true, Bool.false_eq_true, if_false]
theorem read_web_ok {w : Wb} (h : WbOk w) : m_read_web [.str (wT w)] = some (wbP w) := by
  have f := web_in_ok h
  have lf : (wbP w).lf = true := by
    have : ∀ ts : List (Int × Int), OT.lfs (prsO ts) = true := fun ts => by
      induction ts with
      | nil => simp [OT.lfs, prsO]
      | cons t ts ih => simp [OT.lfs, OT.lf, prsO, tfl_int] at ih ⊢; exact ih
    simp [wbP, OT.lf, OT.lfs, tfl_int, this]
  have td := toD_wbP w
  have nn : gIsN (wbD w) .none = some (.bool false) := rfl
  have hw : wbP w = .nd .tup [.d (.int (w.1 : Nat)), .nd .lst (prsO w.2)] := rfl
  unfold m_read_web B_read_web
  generalize wT w = T at *
  refine fin_eq ?_
  have t1 : tR (bR (rIs "str" (rVar 0))) [.d (.str T), .no] = some (true, [.d (.str T), .no]) := by
    clear f td nn hw lf
    walk_at "ev" <;> exact rfl
  have y1 : yCallA m_web_in 1 (qCons (rVar 0) qNil) (lCons (dY (yVar 0)) lNil) [.d (.str T), .no] = some (wbP w, [.d (.str T), .no]) := yCallA_any (ds := [.str T]) (by clear f td nn hw lf t1; walk_at "ev" <;> exact rfl) (by clear f td nn hw lf t1; walk_at "ev" <;> exact rfl) rfl f
  have y2 : yIf (tR (bR (rIs "str" (rVar 0)))) (yCallA m_web_in 1 (qCons (rVar 0) qNil) (lCons (dY (yVar 0)) lNil)) (yR (rC .none)) [.d (.str T), .no] = some (wbP w, [.d (.str T), .no]) := by
    unfold yIf
    rw [t1]
    exact y1
  refine w_seq (w_asg (W.of y2 ?_))
  clear y1 y2 t1 f
  simp only [sqK, List.set_cons_zero, List.set_cons_succ]
  refine w_seq (w_if (c := false) (ρ1 := [.d (.str T), wbP w]) (by clear hw lf; walk_at "ev" <;> exact rfl) (fun z => by cases z) (fun _ => ?_))
  refine w_next ?_
  simp only [sqK]
  rw [hw]
  clear hw td nn lf
  exact w_end (by walk_at "ev" <;> exact rfl) rfl rfl
theorem lf_wbP (w : Wb) : (wbP w).lf = true := by
  have : ∀ ts : List (Int × Int), OT.lfs (prsO ts) = true := fun ts => by
    induction ts with
    | nil => simp [OT.lfs, prsO]
    | cons t ts ih => simp [OT.lfs, OT.lf, prsO, tfl_int] at ih ⊢; exact ih
  simp [wbP, OT.lf, OT.lfs, tfl_int, this]
theorem ne_none {s : Str} (h : ∀ c ∈ TL.tl s, c < 100) : decide (s = ("none" : Str)) = false := by
  rw [decide_eq_false_iff_not]
  rintro rfl
  have : 110 ∈ TL.tl ("none" : Str) := by decide +kernel
  have := h 110 this
  omega
theorem join_signs {ws : List Wb} (h : ∀ w ∈ ws, WbOk w) : ∀ c ∈ TL.tl (Txt.join " * " (ws.map wT)), c < 100 := by
  have e1 : TL.tl (" * " : Str) = [32, 42, 32] := by decide +kernel
  rw [TL.join_eq, TL.tl_join, e1]
  have gen : ∀ ws : List Wb, (∀ w ∈ ws, WbOk w) → ∀ c ∈ TL.joinL [32, 42, 32] ((ws.map wT).map TL.tl), c < 100 := by
    intro ws
    induction ws with
    | nil => intro _ c hc; cases hc
    | cons w ws ih =>
      intro h c hc
      have a := wT_signs (h w List.mem_cons_self)
      cases ws with
      | nil =>
        have := a c hc
        omega
      | cons v vs =>
        have hc : c ∈ TL.tl (wT w) ++ ([32, 42, 32] ++ TL.joinL [32, 42, 32] (((v :: vs).map wT).map TL.tl)) := hc
        rcases List.mem_append.mp hc with hc | hc
        · have := a c hc
          omega
        · rcases List.mem_append.mp hc with hc | hc
          · simp at hc
            omega
          · exact ih (fun z hz => h z (List.mem_cons_of_mem _ hz)) c hc
  exact gen ws h
theorem read_webs_ok {ws : List Wb} (h : ∀ w ∈ ws, WbOk w) (hl : ws.length ≤ 12) (hne : ws ≠ []) (tl : (Txt.join " * " (ws.map wT)).length ≤ 1000000) : m_read_webs [.str (Txt.join " * " (ws.map wT))] = some (.nd .lst (ws.map wbP)) := by
  have sp : Txt.split (Txt.join " * " (ws.map wT)) " * " = ws.map wT := split_join3 (by simpa using hne) fun p hp => by
    obtain ⟨w, hw, rfl⟩ := List.mem_map.mp hp
    intro hc
    have := wT_signs (h w hw) 42 hc
    omega
  have nn := ne_none (join_signs h)
  have s3 : ((" * " : Str).length == 0) = false := by decide +kernel
  unfold m_read_webs B_read_webs
  generalize (" * " : Str) = SP at *
  generalize ("none" : Str) = NN at *
  generalize Txt.join SP (ws.map wT) = T at *
  refine fin_eq ?_
  refine w_seq (w_if (c := false) (ρ1 := [.d (.str T), .no, .no, .no, .no]) (by walk_at "ev" <;> exact rfl) (fun z => by cases z) (fun _ => ?_))
  refine w_next ?_
  simp only [sqK]
  refine w_st (ρ1 := [.d (.str T), .nd .lst [], .no, .no, .no]) (by walk_at "ev" <;> exact rfl) ?_
  have it : iE (lCons (dY (ySplit (rVar 0) (rC (.str SP)))) lNil) [.d (.str T), .nd .lst [], .no, .no, .no] = some ((ws.zipIdx).map fun p : Wb × Nat => PyData.tuple [.int (p.2 : Nat), .str (wT p.1)], [.d (.str T), .nd .lst [], .no, .no, .no]) := by
    have ys := ySplit_of (a := rVar 0) (b := rC (.str SP)) (ρ := [.d (.str T), .nd .lst [], .no, .no, .no]) (s := T) (t := SP) rfl rfl s3 tl
    rw [sp] at ys
    unfold iE lCons lNil
    rw [dY_of ys (toD_lstO _)]
    simp only [Option.bind_some, Option.map_some]
    rw [List.map_map]
    exact congrArg (fun z => some (z, _)) (enumD_map (fun w : Wb => PyData.str (wT w)) ws)
  clear sp
  refine w_seq (w_if (c := true) (ρ1 := [.d (.str T), .nd .lst [], .no, .no, .no]) (by clear it; walk_at "ev" <;> exact rfl) (fun _ => ?_) (fun z => by cases z))
  refine w_forT (fun i ρ => ∃ (X2 X3 X4 : OT), ρ = [.d (.str T), .nd .lst ((ws.take i).map wbP), X2, X3, X4]) (as := ws.zipIdx) (enc := fun p : Wb × Nat => PyData.tuple [.int (p.2 : Nat), .str (wT p.1)]) it ⟨_, _, _, rfl⟩ (fun i p ρ2 hp hs => ?_) ?_
  · obtain ⟨X2, X3, X4, rfl⟩ := hs
    obtain ⟨w, j⟩ := p
    rw [List.getElem?_zipIdx] at hp
    obtain ⟨w', hw', e⟩ := Option.map_eq_some_iff.mp hp
    simp only [Nat.zero_add, Prod.mk.injEq] at e
    obtain ⟨rfl, rfl⟩ := e
    have hi : i < ws.length := (List.getElem?_eq_some_iff.mp hw').1
    have f := web_in_ok (h w' (List.mem_of_getElem? hw'))
    have td := toD_wbP w'
    have lf := lf_wbP w'
    have gn : gIsN (wbD w') .none = some (.bool false) := rfl
    have tk : (ws.take (i + 1)).map wbP = (ws.take i).map wbP ++ [wbP w'] := by
      rw [List.take_add_one, hw', List.map_append]
      rfl
    have ll : ((ws.take i).map wbP).length ≤ 1000000 := by simp; omega
    have hw2 : wbP w' = .nd .tup [.d (.int (w'.1 : Nat)), .nd .lst (prsO w'.2)] := rfl
    have d12 : decide ((i : Int) = 12) = false := by rw [decide_eq_false_iff_not]; omega
    rw [tk]
    clear it tk hp hw' nn s3
    generalize (ws.take i).map wbP = AC at *
    rw [wbD_eq] at td
    clear gn
    have nwb : isNo (wbP w') = false := rfl
    refine ⟨[.d (.str T), .nd .lst AC, .d (.int (i : Nat)), .d (.str (wT w')), X4], rfl, ?_⟩
    generalize wT w' = TT at *
    refine w_st (ρ1 := [.d (.str T), .nd .lst AC, .d (.int (i : Nat)), .d (.str TT), wbP w']) (by clear hw2; walk_at "ev" <;> exact rfl) ?_
    refine w_seq (w_if (c := false) (ρ1 := [.d (.str T), .nd .lst AC, .d (.int (i : Nat)), .d (.str TT), wbP w']) (by clear hw2; walk_at "ev" <;> exact rfl) (fun z => by cases z) (fun _ => ?_))
    refine w_next ?_
    simp only [sqK]
    refine w_sApp' rfl (W.of (r := wbP w') (ρ' := [.d (.str T), .nd .lst AC, .d (.int (i : Nat)), .d (.str TT), .no]) (by rw [hw2]; rfl) ⟨nwb, AC, rfl, ll, ?_⟩)
    exact ⟨_, _, _, rfl⟩
  · rintro ρ2 ⟨X2, X3, X4, rfl⟩
    simp only [sqK]
    rw [List.length_zipIdx, List.take_length]
    clear it
    exact w_end (by walk_at "ev" <;> exact rfl) rfl rfl
end z83
namespace z83
open PySem L2 PL MR SH SQ
open z82 (sg fg tieT wT Sm7 str_ext app_cps sum_le fg_len tieT_len toStr_fg w2_bd w_dJoin)
local macro_rules | `(tactic| walk_at "ev") => `(tactic| simp (config := {decide := true}) only [ini, fin, finI, sSeq, sNext, sAsg, sAsgG, sRet, sRetN, sDrop, sIf, sNever, sSetP, sAppP, sClrP, sRevP, fR, pmVar, pmIx, pmIxT, MR.putAt, OT.put, OT.at, gmName, gmTup, gmLst, gsNil, gsCons, rVar, rC, rOp, rUn, rCb, rCbZ, rOpZ, rJs, rTxt, rCall, rAnd, rOr, rNot, rIf, rIs, rCh, rCh3, rTup, rLst, rSl, cNone, cSome, rRepr, dRepr, rInDct, rIdx, rIdxD, iR3s, small, qNil, qCons, qApp, lApp, bR, bAnd, bOr, bNot, tR, tD, tmAnd, tmOr, tmNot, yVar_eq, yMov, yR, yAuto, dY, yD, dR, dOp, dOpR, dCb, dAnd, dOr, dNot, yCall, yCallA, yCallI, yCallIT, yCb, yCbA, yOp, yOpA, lfO, yTup, yLst, oNil, oCons, isNo, lNil, lCons, asB, asInt, asL, asT, iL, iT, iE, iZ, iV, yRng1_eq, iR1_eq, iR2_eq, lcStep, calmAt, wipeE, rst, sApp, yPop_eq, sDPutM, ySortD, yDNew, gmName, toD_d, toD_tup, toD_lst, toDs_nil, toDs_cons, toDs_ints, toDs_fpr, toDs_prs, lfs_ints, lfs_fpr, intsO_len, prsO_len, fprO_len, rng_len, intsO_snoc, prsO_snoc, lstO_rg, rOpZ, rCbZ, isNo_lstO, toD_dnew, ySl, ySlA, neS_self, eqS_self,  rRevL, yRevL, yRevLA, yPop0, sExt, gStrI,  lstO_prs, lstO_ints, toD_lstO, kp_int, kp_bool, kp_tuple, kp_list, kp_str, isIntB, isBoolB, isTupB, isListB, isStrB, gAdd_i, gSub_i, gLt_i, gLe_i, gGt_i, gGe_i, gMul_r, gMul_l, gMod_i, gDiv_i, gPow_i, gNeg, gEqI, gNeI, gEqS, gNeS, gIsN, gNotN, gIsB, gNotB, gIxL, gIxT, gLen, gMax2, gMin2, gInt, gAll, asBools_map, isN, OT.lf, OT.lfs, flat, atI_0, atI_1, ixN_0, ixN_1, rgD_len, enumD_len, trues_len, Int.toNat_natCast, List.length_map, eq_self, Option.bind_some, Option.bind_none, Option.map_some, Option.map_none, List.getElem?_cons_zero, List.getElem?_cons_succ, List.set_cons_zero, List.set_cons_succ, List.map_cons, List.map_nil, List.replicate, List.nil_append, List.cons_append, List.length_cons, List.length_nil, List.all_cons, List.all_nil, if_true, if_false, reduceIte, tfl_int, tfl_bool, tfl_none, tfl_str, tfl_list, Bool.true_and, Bool.and_true, Bool.false_and, Bool.and_false, Bool.true_or, Bool.or_true, Bool.false_or, Bool.or_false, Bool.not_true, Bool.not_false, Bool.false_eq_true, decide_true, decide_false, true_and, and_true, false_and, and_false, or_true, true_or, *])
theorem shown_ok {w : Wb} (h : WbOk w) : m__law_shown [wbD w] = some (.d (.str (wT w))) := by
  have bd := w2_bd h
  have hl := h.len
  have hn := h.hi
  obtain ⟨n, ts⟩ := w
  simp only at bd hl hn
  have hres : wT (n, ts) = Txt.join " " (fg n :: ts.map tieT) := rfl
  rw [hres]
  clear hres
  unfold m__law_shown B__law_shown
  refine fin_eq ?_
  simp only [wbD, WD]
  have tlp : tfl (.list (ts.map pairD)) = false := by simp [tfl]
  have s0 : ((n : Int).natAbs.log2 < 1920) := log2_lt (by omega)
  have s1 : Str.ofString (toString ((n : Nat) : Int)) = fg n := toStr_fg n (by omega)
  have sep : (" " : Str).length = 1 := by decide +kernel
  have sm := sum_le 5 (fg n :: ts.map tieT) (fun y hy => by
    rcases List.mem_cons.mp hy with rfl | hy
    · have := fg_len n; omega
    · obtain ⟨p, _, rfl⟩ := List.mem_map.mp hy
      exact tieT_len p)
  rw [List.length_cons, List.length_map] at sm
  have js : ((fg n :: ts.map tieT).map (·.length)).sum + (fg n :: ts.map tieT).length * (" " : Str).length ≤ 1000000 := by
    rw [sep, List.length_cons, List.length_map]
    omega
  generalize (" " : Str) = SP at *
  clear sm sep
  generalize hF : fg n = F at *
  clear hF
  refine w_ret (w_yD (w_dJoin rfl (w_dY (w_yOp (w_dYof (r := .nd .lst [.d (.str F)]) (x := .list [.str F]) (ρ' := [.d (.tuple [.int (n : Nat), .list (ts.map pairD)]), .no, .no]) (by walk_at "ev" <;> exact rfl) (by rw [toD_lst, toDs_cons, toDs_nil]; rfl) (w_dY (w_lcmT (fun p : Int × Int => OT.d (.str (tieT p))) (as := ts) (enc := pairD) (by walk_at "ev" <;> exact rfl) rfl (by omega) (fun p hp => ?_) ?_)))))))
  · obtain ⟨a, b, rfl, ha, hb⟩ := bd p hp
    have a0 : ((a : Int).natAbs.log2 < 1920) := log2_lt (by omega)
    have a1 : Str.ofString (toString ((a : Nat) : Int)) = fg a := toStr_fg a ha
    have b0 : ((b : Int).natAbs.log2 < 1920) := log2_lt (by omega)
    have b1 : Str.ofString (toString ((b : Nat) : Int)) = fg b := toStr_fg b hb
    have fla := fg_len a
    have flb := fg_len b
    have s2 : ("-" : Str).length = 1 := by decide +kernel
    have g1 : gAddS (.str (fg a)) (.str "-") = some (.str (fg a ++ "-")) := if_pos (by omega)
    have g2 : gAddS (.str (fg a ++ "-")) (.str (fg b)) = some (.str (fg a ++ "-" ++ fg b)) := if_pos (by rw [str_app_len]; omega)
    have ti : tieT ((a : Int), (b : Int)) = fg a ++ "-" ++ fg b := by
      unfold tieT
      simp
    rw [ti]
    generalize ("-" : Str) = MI at *
    generalize fg a ++ MI ++ fg b = R at *
    generalize fg a ++ MI = R1 at *
    generalize fg a = FA at *
    generalize fg b = FB at *
    clear js s1 s0 fla flb s2
    simp only [pairD]
    refine W.of (by walk_at "ev" <;> exact rfl) ?_
    exact ⟨rfl, rfl⟩
  · have ct : GCat (.list [.str F]) (.list (ts.map fun p => .str (tieT p))) = some (lstO ((F :: ts.map tieT).map .str)) := by
      rw [GCat_ok (by simp; omega)]
      simp [lstO, List.map_map, Function.comp_def]
    exact ⟨_, by rw [toD_lst, toDs_mapD (fun p : Int × Int => PyData.str (tieT p))]; rfl, _, ct, _, toD_lstO _, _, rfl, js, rfl⟩
theorem read_ok {w : Wb} (h : WbOk w) : m__law_read [wbD w] = some (.d (.bool true)) := by
  have f1 := shown_ok h
  have f2 : m_show_web [wbD w] = some (.d (.str (wT w))) := by rw [show_eq]; exact z82.show_ok h
  have f3 := read_web_ok h
  have rp := (nice_wb h).repr (by omega) (by omega)
  have td := toD_wbP w
  have hw : wbP w = .nd .tup [.d (.int (w.1 : Nat)), .nd .lst (prsO w.2)] := rfl
  have c1 := rg1_n (n := 2) (by omega)
  rw [rgD0, show ((2 : Nat) : Int) = 2 from rfl] at c1
  have l0 : w.2.length ≤ 1000000 := by have := h.len; omega
  have t0 : tfl (.tuple [.int 0, .int 0]) = true := by simp [tfl]
  unfold m__law_read B__law_read
  generalize wT w = T at *
  generalize PyData.shown (wbD w) = R at *
  generalize wbD w = WD at *
  refine fin_eq ?_
  refine w_st (ρ1 := [.d WD, .d (.str T), .no, .no]) (by clear hw; walk_at "ev" <;> exact rfl) ?_
  refine w_seq (w_if (c := false) (ρ1 := [.d WD, .d (.str T), .no, .no]) (by clear hw; walk_at "ev" <;> exact rfl) (fun z => by cases z) (fun _ => ?_))
  refine w_next ?_
  simp only [sqK]
  refine w_seq (w_forT (fun i ρ => ∃ (X2 X3 : OT), ρ = [.d WD, .d (.str T), X2, X3]) (as := List.range 2) (enc := fun k : Nat => PyData.int (k : Int)) (ρ1 := [.d WD, .d (.str T), .no, .no]) (by clear f1 f2 f3 hw; walk_at "ev" <;> exact rfl) ⟨_, _, rfl⟩ (fun i p ρ2 hp hs => ?_) ?_)
  · obtain ⟨X2, X3, rfl⟩ := hs
    have lf := lf_wbP w
    clear c1
    refine ⟨[.d WD, .d (.str T), .d (.int (p : Nat)), X3], rfl, ?_⟩
    refine w_st (ρ1 := [.d WD, .d (.str T), .d (.int (p : Nat)), wbP w]) (by clear hw; walk_at "ev" <;> exact rfl) ?_
    refine w_seq (w_if (c := false) (ρ1 := [.d WD, .d (.str T), .d (.int (p : Nat)), wbP w]) (by clear hw; walk_at "ev" <;> exact rfl) (fun z => by cases z) (fun _ => ?_))
    refine w_next ?_
    simp only [sqK]
    rw [hw]
    clear hw td f1 f2 f3 lf
    refine W.of (r := .nx) (by walk_at "ev" <;> exact rfl) ?_
    exact ⟨_, _, rfl⟩
  · rintro ρ2 ⟨X2, X3, rfl⟩
    clear hw
    exact w_end (by walk_at "ev" <;> exact rfl) rfl rfl
end z83
namespace z83
open PySem L2 PL MR SH SQ
open z82 (sg fg tieT wT Sm7 str_ext app_cps sum_le fg_len tieT_len toStr_fg w2_bd w_dJoin)
local macro_rules | `(tactic| walk_at "ev") => `(tactic| simp (config := {decide := true}) only [ini, fin, finI, sSeq, sNext, sAsg, sAsgG, sRet, sRetN, sDrop, sIf, sNever, sSetP, sAppP, sClrP, sRevP, fR, pmVar, pmIx, pmIxT, MR.putAt, OT.put, OT.at, gmName, gmTup, gmLst, gsNil, gsCons, rVar, rC, rOp, rUn, rCb, rCbZ, rOpZ, rJs, rTxt, rCall, rAnd, rOr, rNot, rIf, rIs, rCh, rCh3, rTup, rLst, rSl, cNone, cSome, rRepr, dRepr, rInDct, rIdx, rIdxD, iR3s, small, qNil, qCons, qApp, lApp, bR, bAnd, bOr, bNot, tR, tD, tmAnd, tmOr, tmNot, yVar_eq, yMov, yR, yAuto, dY, yD, dR, dOp, dOpR, dCb, dAnd, dOr, dNot, yCall, yCallA, yCallI, yCallIT, yCb, yCbA, yOp, yOpA, lfO, yTup, yLst, oNil, oCons, isNo, lNil, lCons, asB, asInt, asL, asT, iL, iT, iE, iZ, iV, yRng1_eq, iR1_eq, iR2_eq, lcStep, calmAt, wipeE, rst, sApp, yPop_eq, sDPutM, ySortD, yDNew, gmName, toD_d, toD_tup, toD_lst, toDs_nil, toDs_cons, toDs_ints, toDs_fpr, toDs_prs, lfs_ints, lfs_fpr, intsO_len, prsO_len, fprO_len, rng_len, intsO_snoc, prsO_snoc, lstO_rg, rOpZ, rCbZ, isNo_lstO, toD_dnew, ySl, ySlA, neS_self, eqS_self,  rRevL, yRevL, yRevLA, yPop0, sExt, gStrI,  lstO_prs, lstO_ints, toD_lstO, kp_int, kp_bool, kp_tuple, kp_list, kp_str, isIntB, isBoolB, isTupB, isListB, isStrB, gAdd_i, gSub_i, gLt_i, gLe_i, gGt_i, gGe_i, gMul_r, gMul_l, gMod_i, gDiv_i, gPow_i, gNeg, gEqI, gNeI, gEqS, gNeS, gIsN, gNotN, gIsB, gNotB, gIxL, gIxT, gLen, gMax2, gMin2, gInt, gAll, asBools_map, isN, OT.lf, OT.lfs, flat, atI_0, atI_1, ixN_0, ixN_1, rgD_len, enumD_len, trues_len, Int.toNat_natCast, List.length_map, eq_self, Option.bind_some, Option.bind_none, Option.map_some, Option.map_none, List.getElem?_cons_zero, List.getElem?_cons_succ, List.set_cons_zero, List.set_cons_succ, List.map_cons, List.map_nil, List.replicate, List.nil_append, List.cons_append, List.length_cons, List.length_nil, List.all_cons, List.all_nil, if_true, if_false, reduceIte, tfl_int, tfl_bool, tfl_none, tfl_str, tfl_list, Bool.true_and, Bool.and_true, Bool.false_and, Bool.and_false, Bool.true_or, Bool.or_true, Bool.false_or, Bool.or_false, Bool.not_true, Bool.not_false, Bool.false_eq_true, decide_true, decide_false, true_and, and_true, false_and, and_false, or_true, true_or, *])
def fwK (P : MR.Env → Prop) : Fl → MR.Env → Prop
  | .nx, ρ => P ρ
  | .ct, ρ => P ρ
  | _, _ => False
theorem w_forW (I : Nat → MR.Env → Prop) {i x : Nat} {b : Sm} {ρ : MR.Env} {ts : List OT} {Q : Fl → MR.Env → Prop} (h : ρ[i]? = some (.nd .lst ts)) (h0 : I 0 ρ)
    (hs : ∀ k ρ2, k < ts.length → I k ρ2 → x < ρ2.length ∧ ∃ us t, ρ2[i]? = some (.nd .lst us) ∧ us[k]? = some t ∧ W b ((ρ2.set i .no).set x t) (fwK (fun ρ3 => ∃ t', ρ3[x]? = some t' ∧ I (k + 1) ((ρ3.set x .no).set i (.nd .lst ((us.set k .no).set k t'))))))
    (hq : ∀ ρ2, I ts.length ρ2 → Q .nx ρ2) : W (sForW i x b) ρ Q := by
  have gen : ∀ (m k : Nat) (ρ2 : MR.Env), k + m = ts.length → I k ρ2 → ∃ fl ρ', mForW i x b k m ρ2 = some (fl, ρ') ∧ Q fl ρ' := by
    intro m
    induction m with
    | zero => intro k ρ2 hk hi; exact ⟨.nx, ρ2, rfl, hq ρ2 (by rw [← hk]; exact hi)⟩
    | succ m ih =>
      intro k ρ2 hk hi
      obtain ⟨hl, us, t, e1, e2, fl, ρ3, e3, q⟩ := hs k ρ2 (by omega) hi
      unfold mForW
      rw [if_neg (by omega), e1]
      simp only []
      rw [e2]
      simp only []
      rw [e3]
      cases fl with
      | nx =>
        obtain ⟨t', g1, g2⟩ := q
        simp only [putW, g1, Option.bind_some]
        exact ih (k + 1) _ (by omega) g2
      | ct =>
        obtain ⟨t', g1, g2⟩ := q
        simp only [putW, g1, Option.bind_some]
        exact ih (k + 1) _ (by omega) g2
      | bk => exact q.elim
      | rt r => exact q.elim
      | xc x => exact q.elim
  obtain ⟨fl, ρ', e, q⟩ := gen ts.length 0 _ (by omega) h0
  refine ⟨fl, ρ', ?_, q⟩
  unfold sForW
  rw [h]
  exact e
def wbQ (w : Wb) : OT := .nd .tup [.d (.int (w.1 : Nat)), .nd .lst (prsO w.2 ++ [.d (.tuple [.int 0, .int 0])])]
theorem toDs_wbPs (ws : List Wb) : OT.toDs (ws.map wbP) = some (ws.map wbD) := by
  induction ws with
  | nil => simp [toDs_nil]
  | cons w ws ih => rw [List.map_cons, toDs_cons, toD_wbP, ih]; rfl
theorem loop_ok {X0 X1 X2 X3 : OT} {ws : List Wb} (h : ∀ w ∈ ws, WbOk w) {Q : Fl → MR.Env → Prop} (hQ : Q .nx [X0, X1, X2, X3, .nd .lst (ws.map wbQ), .no]) :
    W (sForW 4 5 (sAppP 5 (pmIxT (pmVar 5) (rC (.int 1))) (fR (rTup (qCons (rC (.int 0)) (qCons (rC (.int 0)) qNil)))))) [X0, X1, X2, X3, .nd .lst (ws.map wbP), .no] Q := by
  refine w_forW (ts := ws.map wbP) (fun k ρ => ρ = [X0, X1, X2, X3, .nd .lst ((ws.take k).map wbQ ++ (ws.drop k).map wbP), .no]) rfl (by simp) (fun k ρ2 hk hs => ?_) (fun ρ2 hs => ?_)
  · subst hs
    rw [List.length_map] at hk
    have hw : ws[k]? = some ws[k] := List.getElem?_eq_getElem hk
    have hm := h ws[k] (List.getElem_mem hk)
    have hd : ws.drop k = ws[k] :: ws.drop (k + 1) := List.drop_eq_getElem_cons hk
    have ht : ws.take (k + 1) = ws.take k ++ [ws[k]] := by rw [List.take_add_one, hw]; rfl
    generalize ws[k] = w at *
    have lk : ((ws.take k).map wbQ).length = k := by simp; omega
    rw [hd, List.map_cons]
    have gx : ((ws.take k).map wbQ ++ wbP w :: (ws.drop (k + 1)).map wbP)[k]? = some (wbP w) := by
      rw [List.getElem?_append_right (by omega), lk, Nat.sub_self]
      rfl
    refine ⟨by simp, _, _, rfl, gx, ?_⟩
    have t0 : tfl (.tuple [.int 0, .int 0]) = true := by simp [tfl]
    have l0 : w.2.length ≤ 1000000 := by have := hm.len; omega
    have st : ∀ us : List OT, us.length = k → ∀ (a b c : OT) (vs : List OT), ((us ++ a :: vs).set k b).set k c = us ++ c :: vs := by
      intro us hu a b c vs
      rw [List.set_append_right _ _ (by omega), hu, Nat.sub_self, List.set_cons_zero, List.set_append_right _ _ (by omega), hu, Nat.sub_self, List.set_cons_zero]
    have st2 := st ((ws.take k).map wbQ) lk
    have hwb : wbP w = .nd .tup [.d (.int (w.1 : Nat)), .nd .lst (prsO w.2)] := rfl
    have hQ2 : (fun ρ3 : MR.Env => ∃ t', ρ3[5]? = some t' ∧ ((ρ3.set 5 .no).set 4 (.nd .lst (((((ws.take k).map wbQ ++ wbP w :: (ws.drop (k + 1)).map wbP).set k .no).set k t')))) = [X0, X1, X2, X3, .nd .lst ((ws.take (k + 1)).map wbQ ++ (ws.drop (k + 1)).map wbP), .no]) [X0, X1, X2, X3, .no, wbQ w] := by
      refine ⟨wbQ w, rfl, ?_⟩
      rw [st2, ht, List.map_append, List.append_assoc]
      rfl
    have e : sAppP 5 (pmIxT (pmVar 5) (rC (.int 1))) (fR (rTup (qCons (rC (.int 0)) (qCons (rC (.int 0)) qNil)))) [X0, X1, X2, X3, .no, wbP w] = some (.nx, [X0, X1, X2, X3, .no, wbQ w]) := by
      clear hQ2 st2 st gx lk hw hd ht
      rw [hwb]
      clear hwb
      walk_at "ev" <;> exact rfl
    exact ⟨_, _, e, hQ2⟩
  · subst hs
    rw [List.length_map, List.take_length, List.drop_length, List.map_nil, List.append_nil]
    exact hQ
end z83
namespace z83
open PySem L2 PL MR SH SQ
open z82 (sg fg tieT wT Sm7 str_ext app_cps sum_le fg_len tieT_len toStr_fg w2_bd w_dJoin sm_wT)
local macro_rules | `(tactic| walk_at "ev") => `(tactic| simp (config := {decide := true}) only [ini, fin, finI, sSeq, sNext, sAsg, sAsgG, sRet, sRetN, sDrop, sIf, sNever, sSetP, sAppP, sClrP, sRevP, fR, pmVar, pmIx, pmIxT, MR.putAt, OT.put, OT.at, gmName, gmTup, gmLst, gsNil, gsCons, rVar, rC, rOp, rUn, rCb, rCbZ, rOpZ, rJs, rTxt, rCall, rAnd, rOr, rNot, rIf, rIs, rCh, rCh3, rTup, rLst, rSl, cNone, cSome, rRepr, dRepr, rInDct, rIdx, rIdxD, iR3s, small, qNil, qCons, qApp, lApp, bR, bAnd, bOr, bNot, tR, tD, tmAnd, tmOr, tmNot, yVar_eq, yMov, yR, yAuto, dY, yD, dR, dOp, dOpR, dCb, dAnd, dOr, dNot, yCall, yCallA, yCallI, yCallIT, yCb, yCbA, yOp, yOpA, lfO, yTup, yLst, oNil, oCons, isNo, lNil, lCons, asB, asInt, asL, asT, iL, iT, iE, iZ, iV, yRng1_eq, iR1_eq, iR2_eq, lcStep, calmAt, wipeE, rst, sApp, yPop_eq, sDPutM, ySortD, yDNew, gmName, toD_d, toD_tup, toD_lst, toDs_nil, toDs_cons, toDs_ints, toDs_fpr, toDs_prs, lfs_ints, lfs_fpr, intsO_len, prsO_len, fprO_len, rng_len, intsO_snoc, prsO_snoc, lstO_rg, rOpZ, rCbZ, isNo_lstO, toD_dnew, ySl, ySlA, neS_self, eqS_self,  rRevL, yRevL, yRevLA, yPop0, sExt, gStrI,  lstO_prs, lstO_ints, toD_lstO, kp_int, kp_bool, kp_tuple, kp_list, kp_str, isIntB, isBoolB, isTupB, isListB, isStrB, gAdd_i, gSub_i, gLt_i, gLe_i, gGt_i, gGe_i, gMul_r, gMul_l, gMod_i, gDiv_i, gPow_i, gNeg, gEqI, gNeI, gEqS, gNeS, gIsN, gNotN, gIsB, gNotB, gIxL, gIxT, gLen, gMax2, gMin2, gInt, gAll, asBools_map, isN, OT.lf, OT.lfs, flat, atI_0, atI_1, ixN_0, ixN_1, rgD_len, enumD_len, trues_len, Int.toNat_natCast, List.length_map, eq_self, Option.bind_some, Option.bind_none, Option.map_some, Option.map_none, List.getElem?_cons_zero, List.getElem?_cons_succ, List.set_cons_zero, List.set_cons_succ, List.map_cons, List.map_nil, List.replicate, List.nil_append, List.cons_append, List.length_cons, List.length_nil, List.all_cons, List.all_nil, if_true, if_false, reduceIte, tfl_int, tfl_bool, tfl_none, tfl_str, tfl_list, Bool.true_and, Bool.and_true, Bool.false_and, Bool.and_false, Bool.true_or, Bool.or_true, Bool.false_or, Bool.or_false, Bool.not_true, Bool.not_false, Bool.false_eq_true, decide_true, decide_false, true_and, and_true, false_and, and_false, or_true, true_or, *])
theorem ne_ints (ns : List Int) : gNeD (.list (ns.map .int)) (.list (ns.map .int)) = some (.bool false) := by
  have s : SeqAt.shaped (.list (ns.map .int)) = true := by
    have g : ∀ ns : List Int, PyData.canLayAll0 (ns.map .int) = true ∧ PyData.depthAll (ns.map .int) = 0 := by
      intro ns
      induction ns with
      | nil => exact ⟨rfl, rfl⟩
      | cons n ns ih => simp [PyData.canLayAll0, PyData.canLay0, PyData.depthAll, PyData.depth, ih.1, ih.2]
    simp [SeqAt.shaped, PyData.canLay0, PyData.depth, (g ns).1, (g ns).2]
  unfold gNeD
  rw [s]
  simp [PyData.eqv, eqv_ints]
def wbX (w : Wb) : D := .tuple [.int (w.1 : Nat), .list (w.2.map pairD ++ [.tuple [.int 0, .int 0]])]
theorem toD_wbQ (w : Wb) : OT.toD (wbQ w) = some (wbX w) := by
  have h : ∀ ts : List (Int × Int), OT.toDs (prsO ts ++ [.d (.tuple [.int 0, .int 0])]) = some (ts.map pairD ++ [.tuple [.int 0, .int 0]]) := by
    intro ts
    induction ts with
    | nil => simp [prsO, toDs_cons, toDs_nil, toD_d]
    | cons t ts ih =>
      have e : prsO (t :: ts) ++ [.d (.tuple [.int 0, .int 0])] = .nd .tup [.d (.int t.1), .d (.int t.2)] :: (prsO ts ++ [.d (.tuple [.int 0, .int 0])]) := rfl
      rw [e, toDs_cons, toD_tup, toDs_cons, toD_d, toDs_cons, toD_d, toDs_nil, ih]
      rfl
  unfold wbQ
  rw [toD_tup, toDs_cons, toD_d, toDs_cons, toD_lst, h, toDs_nil]
  rfl
theorem toDs_wbQs (ws : List Wb) : OT.toDs (ws.map wbQ) = some (ws.map wbX) := by
  induction ws with
  | nil => simp [toDs_nil]
  | cons w ws ih => rw [List.map_cons, toDs_cons, toD_wbQ, ih]; rfl
theorem joinL_len (S : List Nat) : ∀ ps : List (List Nat), (TL.joinL S ps).length ≤ (ps.map (·.length)).sum + ps.length * S.length
  | [] => by simp [TL.joinL]
  | [p] => by simp [TL.joinL]
  | p :: q :: ps => by
    have ih := joinL_len S (q :: ps)
    have e : TL.joinL S (p :: q :: ps) = p ++ (S ++ TL.joinL S (q :: ps)) := by simp [TL.joinL]
    rw [e, List.length_append, List.length_append]
    simp only [List.map_cons, List.sum_cons, List.length_cons] at ih ⊢
    have : (ps.length + 1 + 1) * S.length = (ps.length + 1) * S.length + S.length := by rw [Nat.succ_mul]
    omega
theorem join_len (y : Str) (ps : List Str) : (Txt.join y ps).length ≤ (ps.map (·.length)).sum + ps.length * y.length := by
  rw [TL.len_tl, TL.join_eq, TL.tl_join]
  have a := joinL_len (TL.tl y) (ps.map TL.tl)
  rw [List.map_map, List.length_map] at a
  have e : ((fun l : List Nat => l.length) ∘ TL.tl) = fun s : Str => s.length := by
    funext s
    exact (TL.len_tl s).symm
  rw [e, ← TL.len_tl] at a
  exact a
theorem all_read_ok {ws : List Wb} (h : ∀ w ∈ ws, WbOk w) (hl : ws.length ≤ 12) (hne : ws ≠ []) : m__law_all_read [.list (ws.map wbD)] = some (.d (.bool true)) := by
  have sep : (" * " : Str).length = 3 := by decide +kernel
  have sm := sum_le 800 (ws.map wT) (fun y hy => by
    obtain ⟨v, hv, rfl⟩ := List.mem_map.mp hy
    exact (sm_wT (h v hv)).2)
  rw [List.length_map] at sm
  have js : ((ws.map wT).map (·.length)).sum + (ws.map wT).length * (" * " : Str).length ≤ 1000000 := by
    rw [sep, List.length_map]
    omega
  have tl : (Txt.join " * " (ws.map wT)).length ≤ 1000000 := Nat.le_trans (join_len _ _) js
  have f1 : m_show_webs [.list (ws.map wbD)] = some (.d (.str (Txt.join " * " (ws.map wT)))) := by rw [shows_eq]; exact z82.shows_ok h hl hne
  have f2 := read_webs_ok h hl hne tl
  have rp := (nice_wbs h hl).repr (by omega) (by omega)
  have td := toDs_wbPs ws
  have tq := toDs_wbQs ws
  have c1 := rg1_n (n := 2) (by omega)
  rw [rgD0, show ((2 : Nat) : Int) = 2 from rfl] at c1
  have lfp : OT.lfs (ws.map wbP) = true := by
    clear h hl hne sm js tl f1 f2 rp td tq
    induction ws with
    | nil => simp [OT.lfs]
    | cons w ws ih => rw [List.map_cons]; simp [OT.lfs, lf_wbP w, ih]
  unfold m__law_all_read B__law_all_read
  refine fin_eq ?_
  refine w_seq (w_asg (w_yD (w_dJoin rfl (w_dY (w_lcmT (fun w : Wb => OT.d (.str (wT w))) (as := ws) (enc := wbD) (ρ1 := [.d (.list (ws.map wbD)), .no, .no, .no, .no, .no]) (by walk_at "ev" <;> exact rfl) rfl (by omega) (fun w hw => ?_) ?_)))))
  · have f := shown_ok (h w hw)
    clear f1 f2 rp td tq c1 lfp js tl sm
    generalize wT w = T at *
    generalize wbD w = X at *
    generalize PyData.list (ws.map wbD) = Y at *
    refine W.of (by walk_at "ev" <;> exact rfl) ?_
    exact ⟨rfl, rfl⟩
  refine ⟨_, (by rw [toD_lst, toDs_mapD (fun w : Wb => PyData.str (wT w))]; rfl), ws.map wT, by rw [List.map_map]; rfl, js, ?_⟩
  simp only [sqK, rst, wipeE, List.set_cons_zero, List.set_cons_succ, List.getElem?_cons_zero, List.getElem?_cons_succ]
  clear js sm tl sep
  generalize (" * " : Str) = SP at *
  generalize Txt.join SP (ws.map wT) = T at *
  generalize hR : PyData.shown (.list (ws.map wbD)) = R at *
  clear hR
  have hWL : ∀ x ∈ ws, True := fun _ _ => trivial
  refine w_seq (w_if (c := false) (ρ1 := [.d (.list (ws.map wbD)), .d (.str T), .no, .no, .no, .no]) (by walk_at "ev" <;> exact rfl) (fun z => by cases z) (fun _ => ?_))
  refine w_next ?_
  simp only [sqK]
  refine w_seq (w_forT (fun i ρ => ∃ (X3 X4 : OT), ρ = [.d (.list (ws.map wbD)), .d (.str T), .no, X3, X4, .no]) (as := List.range 2) (enc := fun k : Nat => PyData.int (k : Int)) (ρ1 := [.d (.list (ws.map wbD)), .d (.str T), .no, .no, .no, .no]) (by walk_at "ev" <;> exact rfl) ⟨_, _, rfl⟩ (fun i p ρ2 hp hs => ?_) ?_)
  · obtain ⟨X3, X4, rfl⟩ := hs
    clear c1
    refine ⟨[.d (.list (ws.map wbD)), .d (.str T), .no, .d (.int (p : Nat)), X4, .no], rfl, ?_⟩
    refine w_st (ρ1 := [.d (.list (ws.map wbD)), .d (.str T), .no, .d (.int (p : Nat)), .nd .lst (ws.map wbP), .no]) (by walk_at "ev" <;> exact rfl) ?_
    refine w_seq (w_if (c := false) (ρ1 := [.d (.list (ws.map wbD)), .d (.str T), .no, .d (.int (p : Nat)), .nd .lst (ws.map wbP), .no]) (by walk_at "ev" <;> exact rfl) (fun z => by cases z) (fun _ => ?_))
    refine w_next ?_
    simp only [sqK]
    refine w_seq (loop_ok h ?_)
    simp only [sqK]
    have hb1 : bSet (inN [4]) 0 [.d (.list (ws.map wbD)), .d (.str T), .no, .d (.int (p : Nat)), .nd .lst (ws.map wbQ), .no] = some [.d (.list (ws.map wbD)), .d (.str T), .no, .d (.int (p : Nat)), .d (.list (ws.map wbX)), .no] := by
      simp [bSet, inN, toD_lst, tq]
    refine w_seq (w_borrow rfl hb1 ?_)
    refine w_sif (w_tD (w_dOp (w_dY (w_lcmT (fun w : Wb => OT.d (.int ((w.2.length + 1 : Nat) : Int))) (as := ws) (enc := wbX) (by walk_at "ev" <;> exact rfl) rfl (by omega) (fun w hw => ?_) ?_))))
    · rw [show wbX w = .tuple [.int (w.1 : Nat), .list (w.2.map pairD ++ [.tuple [.int 0, .int 0]])] from rfl]
      clear hb1 f1 f2 rp td tq lfp
      refine W.of (by walk_at "ev" <;> exact rfl) ?_
      exact ⟨by simp, rfl⟩
    refine ⟨_, (by rw [toD_lst, toDs_mapD (fun w : Wb => PyData.int ((w.2.length + 1 : Nat) : Int))]; rfl), ?_⟩
    refine w_dY (w_lcmT (fun w : Wb => OT.d (.int ((w.2.length + 1 : Nat) : Int))) (as := ws) (enc := wbD) (by walk_at "ev" <;> exact rfl) rfl (by omega) (fun w hw => ?_) ?_)
    · rw [wbD_eq]
      clear hb1 f1 f2 rp td tq lfp
      refine W.of (by walk_at "ev" <;> exact rfl) ?_
      exact ⟨rfl, rfl⟩
    refine ⟨_, (by rw [toD_lst, toDs_mapD (fun w : Wb => PyData.int ((w.2.length + 1 : Nat) : Int))]; rfl), ?_⟩
    have ne := ne_ints (ws.map fun w => ((w.2.length + 1 : Nat) : Int))
    rw [List.map_map] at ne
    refine ⟨_, ne, _, rfl, (fun z => by cases z), fun _ => w_next ?_⟩
    refine ⟨rfl, ?_⟩
    have hbk : bBack (inN [4]) (inN [0]) 0 [.d (.list (ws.map wbD)), .d (.str T), .no, .d (.int (p : Nat)), .nd .lst (ws.map wbQ), .no] [.d (.list (ws.map wbD)), .d (.str T), .no, .d (.int (p : Nat)), .d (.list (ws.map wbX)), .no] = [.d (.list (ws.map wbD)), .d (.str T), .no, .d (.int (p : Nat)), .nd .lst (ws.map wbQ), .no] := by
      have lfl : OT.lf (.d (.list (ws.map wbD))) = false := by simp [OT.lf, tfl, flat]
      simp [bBack, inN, lfl, dOnly, OT.lf, tfl_int, tfl_str]
    simp only [sqK, rst, wipeE, List.set_cons_zero, List.set_cons_succ, List.getElem?_cons_zero, List.getElem?_cons_succ]
    show W (sAppW 4 (pmVar 4) (pmIx (pmVar 4) (rC (.int 0)))) (bBack (inN [4]) (inN [0]) 0 [.d (.list (ws.map wbD)), .d (.str T), .no, .d (.int (p : Nat)), .nd .lst (ws.map wbQ), .no] [.d (.list (ws.map wbD)), .d (.str T), .no, .d (.int (p : Nat)), .d (.list (ws.map wbX)), .no]) _
    rw [hbk]
    clear hb1 f1 f2 rp td tq lfp ne
    obtain ⟨w0, wr, hw0⟩ : ∃ w0 wr, ws = w0 :: wr := by
      cases ws with
      | nil => exact absurd rfl hne
      | cons a b => exact ⟨a, b, rfl⟩
    have hq0 : ws.map wbQ = wbQ w0 :: wr.map wbQ := by rw [hw0]; rfl
    have lq : (wbQ w0 :: wr.map wbQ).length ≤ 1000000 := by rw [← hq0, List.length_map]; omega
    rw [hq0]
    have e : ∃ V, sAppW 4 (pmVar 4) (pmIx (pmVar 4) (rC (.int 0))) [.d (.list (ws.map wbD)), .d (.str T), .no, .d (.int (p : Nat)), .nd .lst (wbQ w0 :: wr.map wbQ), .no] = some (.nx, [.d (.list (ws.map wbD)), .d (.str T), .no, .d (.int (p : Nat)), V, .no]) := by
      refine ⟨.nd .lst ((wbQ w0 :: wr.map wbQ) ++ [.no]), ?_⟩
      have ix : ixN (wbQ w0 :: wr.map wbQ).length 0 = some 0 := ixN_0 _
      unfold sAppW pmIx pmVar rC
      generalize hL : wbQ w0 :: wr.map wbQ = L at *
      simp only [List.getElem?_cons_succ, List.getElem?_cons_zero, Option.map_some, Option.bind_some, lq, if_true, ix]
      rw [← hL]
      rfl
    obtain ⟨V, e⟩ := e
    exact W.of e ⟨_, _, rfl⟩
  · rintro ρ2 ⟨X3, X4, rfl⟩
    exact w_end (by walk_at "ev" <;> exact rfl) rfl rfl
end z83
namespace z83
open PySem L2 PL MR SH SQ
open z82 (sg fg tieT wT Sm7 str_ext app_cps sum_le fg_len tieT_len toStr_fg w2_bd w_dJoin sm_wT tla tla_len tla_map tla_mem cut_neg w_yOpAP w_ySlAP SA_last eq_nil)
local macro_rules | `(tactic| walk_at "ev") => `(tactic| simp (config := {decide := true}) only [ini, fin, finI, sSeq, sNext, sAsg, sAsgG, sRet, sRetN, sDrop, sIf, sNever, sSetP, sAppP, sClrP, sRevP, fR, pmVar, pmIx, pmIxT, MR.putAt, OT.put, OT.at, gmName, gmTup, gmLst, gsNil, gsCons, rVar, rC, rOp, rUn, rCb, rCbZ, rOpZ, rJs, rTxt, rCall, rAnd, rOr, rNot, rIf, rIs, rCh, rCh3, rTup, rLst, rSl, cNone, cSome, rRepr, dRepr, rInDct, rIdx, rIdxD, iR3s, small, qNil, qCons, qApp, lApp, bR, bAnd, bOr, bNot, tR, tD, tmAnd, tmOr, tmNot, yVar_eq, yMov, yR, yAuto, dY, yD, dR, dOp, dOpR, dCb, dAnd, dOr, dNot, yCall, yCallA, yCallI, yCallIT, yCb, yCbA, yOp, yOpA, lfO, yTup, yLst, oNil, oCons, isNo, lNil, lCons, asB, asInt, asL, asT, iL, iT, iE, iZ, iV, yRng1_eq, iR1_eq, iR2_eq, lcStep, calmAt, wipeE, rst, sApp, yPop_eq, sDPutM, ySortD, yDNew, gmName, toD_d, toD_tup, toD_lst, toDs_nil, toDs_cons, toDs_ints, toDs_fpr, toDs_prs, lfs_ints, lfs_fpr, intsO_len, prsO_len, fprO_len, rng_len, intsO_snoc, prsO_snoc, lstO_rg, rOpZ, rCbZ, isNo_lstO, toD_dnew, ySl, ySlA, neS_self, eqS_self,  rRevL, yRevL, yRevLA, yPop0, sExt, gStrI,  lstO_prs, lstO_ints, toD_lstO, kp_int, kp_bool, kp_tuple, kp_list, kp_str, isIntB, isBoolB, isTupB, isListB, isStrB, gAdd_i, gSub_i, gLt_i, gLe_i, gGt_i, gGe_i, gMul_r, gMul_l, gMod_i, gDiv_i, gPow_i, gNeg, gEqI, gNeI, gEqS, gNeS, gIsN, gNotN, gIsB, gNotB, gIxL, gIxT, gLen, gMax2, gMin2, gInt, gAll, asBools_map, isN, OT.lf, OT.lfs, flat, atI_0, atI_1, ixN_0, ixN_1, rgD_len, enumD_len, trues_len, Int.toNat_natCast, List.length_map, eq_self, Option.bind_some, Option.bind_none, Option.map_some, Option.map_none, List.getElem?_cons_zero, List.getElem?_cons_succ, List.set_cons_zero, List.set_cons_succ, List.map_cons, List.map_nil, List.replicate, List.nil_append, List.cons_append, List.length_cons, List.length_nil, List.all_cons, List.all_nil, if_true, if_false, reduceIte, tfl_int, tfl_bool, tfl_none, tfl_str, tfl_list, Bool.true_and, Bool.and_true, Bool.false_and, Bool.and_false, Bool.true_or, Bool.or_true, Bool.false_or, Bool.or_false, Bool.not_true, Bool.not_false, Bool.false_eq_true, decide_true, decide_false, true_and, and_true, false_and, and_false, or_true, true_or, *])
noncomputable def B_turn : Sm :=
  (sSeq (sAsg 7 (yAuto (rOp gIxL (rCall SQ.m__law_numbers 3 (qCons (rVar 6) (qCons (rOp gAdd (rC (.int 500)) (rVar 5)) (qCons (rLst (qCons (rC (.int 4)) qNil)) qNil)))) (rC (.int 0))) (yD (dOpR gIxL (dY (yCallA SQ.m__law_numbers 3 (qCons (rVar 6) (qCons (rOp gAdd (rC (.int 500)) (rVar 5)) (qCons (rLst (qCons (rC (.int 4)) qNil)) qNil))) (lCons (dY (yVar 6)) (lCons (dR (rOp gAdd (rC (.int 500)) (rVar 5))) (lCons (dY (yLst (oCons (yR (rC (.int 4))) oNil))) lNil))))) (rC (.int 0))))))
 (sSeq (sAsg 4 (yOpA GCat (rSl (rVar 4) (cSome (rOp gSub (rC (.int 1)) (rC (.int 12)))) cNone) (rLst (qCons (rCall SQ.m__law_web 5 (qCons (rOp gDiv (rVar 6) (rC (.int 4))) (qCons (rVar 5) (qCons (rOp gIxL (rLst (qCons (rC (.int 3)) (qCons (rC (.int 8)) (qCons (rC (.int 11)) (qCons (rC (.int 40)) qNil))))) (rVar 7)) (qCons (rOp gIxL (rLst (qCons (rC (.int 3)) (qCons (rC (.int 9)) (qCons (rC (.int 30)) (qCons (rC (.int 60)) qNil))))) (rVar 7)) (qCons (rC (.bool true)) qNil)))))) qNil)) (dY (ySlA (rVar 4) (dY (yVar 4)) (cSome (rOp gSub (rC (.int 1)) (rC (.int 12)))) cNone)) (dY (yLst (oCons (yCallA SQ.m__law_web 5 (qCons (rOp gDiv (rVar 6) (rC (.int 4))) (qCons (rVar 5) (qCons (rOp gIxL (rLst (qCons (rC (.int 3)) (qCons (rC (.int 8)) (qCons (rC (.int 11)) (qCons (rC (.int 40)) qNil))))) (rVar 7)) (qCons (rOp gIxL (rLst (qCons (rC (.int 3)) (qCons (rC (.int 9)) (qCons (rC (.int 30)) (qCons (rC (.int 60)) qNil))))) (rVar 7)) (qCons (rC (.bool true)) qNil))))) (lCons (dR (rOp gDiv (rVar 6) (rC (.int 4)))) (lCons (dY (yVar 5)) (lCons (dY (yAuto (rOp gIxL (rLst (qCons (rC (.int 3)) (qCons (rC (.int 8)) (qCons (rC (.int 11)) (qCons (rC (.int 40)) qNil))))) (rVar 7)) (yD (dOpR gIxL (dY (yLst (oCons (yR (rC (.int 3))) (oCons (yR (rC (.int 8))) (oCons (yR (rC (.int 11))) (oCons (yR (rC (.int 40))) oNil)))))) (rVar 7))))) (lCons (dY (yAuto (rOp gIxL (rLst (qCons (rC (.int 3)) (qCons (rC (.int 9)) (qCons (rC (.int 30)) (qCons (rC (.int 60)) qNil))))) (rVar 7)) (yD (dOpR gIxL (dY (yLst (oCons (yR (rC (.int 3))) (oCons (yR (rC (.int 9))) (oCons (yR (rC (.int 30))) (oCons (yR (rC (.int 60))) oNil)))))) (rVar 7))))) (lCons (dR (rC (.bool true))) lNil)))))) oNil)))))
 (sSeq (sIf (tR (bNot (bR (rCall m__law_read 1 (qCons (rOp gIxL (rVar 4) (rUn gNeg (rC (.int 1)))) qNil)))))
 (sRet (yR (rC (.bool false))))
 sNext)
 (sIf (tR (bAnd (bR (rOp gEqI (rOp gMod (rVar 5) (rC (.int 5))) (rC (.int 0)))) (bNot (bR (rCall m__law_all_read 1 (qCons (rSl (rVar 4) (cSome (rOp gSub (rUn gNeg (rC (.int 1))) (rOp gMod (rVar 5) (rC (.int 12))))) cNone) qNil))))))
 (sRet (yR (rC (.bool false))))
 sNext))))
theorem turn_gen {NS : D} {at0 : Nat} {cell d most more : Int} {X1 X2 X3 W4 X7 : OT} {U : List OT} {UD : List D} {WS WS' : List D}
    (ha : at0 ≤ 1000) (tW : OT.toD W4 = some (.list WS))
    (e5 : SQ.m__law_numbers [.int cell, .int (500 + (at0 : Int)), .list [.int 4]] = some (.nd .lst (intsO [d])))
    (a1 : atI [PyData.int 3, .int 8, .int 11, .int 40] d = some (.int most)) (a2 : atI [PyData.int 3, .int 9, .int 30, .int 60] d = some (.int more))
    (e6 : SQ.m__law_web [.int (cell / 4), .int (at0 : Nat), .int most, .int more, .bool true] = some (.nd .tup U)) (l6 : OT.lfs U = true) (t6 : OT.toDs U = some UD)
    (ctW : GCat (.list (cutD WS (some (-11)) Option.none)) (.list [.tuple UD]) = some (lstO WS'))
    (lastW : atI WS' (-1) = some (.tuple UD)) (rd : m__law_read [.tuple UD] = some (.d (.bool true)))
    (ard : m__law_all_read [.list (cutD WS' (some (-1 - (at0 : Int) % 12)) Option.none)] = some (.d (.bool true)))
    {Q : Fl → MR.Env → Prop} (hQ : ∀ W4 X7, OT.toD W4 = some (.list WS') → Q .nx [.d NS, X1, X2, X3, W4, .d (.int (at0 : Nat)), .d (.int cell), X7]) :
    W B_turn [.d NS, X1, X2, X3, W4, .d (.int (at0 : Nat)), .d (.int cell), X7] Q := by
  have four : (0 : Int) < 4 ∧ (4 : Int) < 1073741824 := by decide
  have twelve : (0 : Int) < 12 := by decide
  have tn := toDs_ints [d]
  unfold B_turn
  refine w_st (ρ1 := [.d NS, X1, X2, X3, W4, .d (.int (at0 : Nat)), .d (.int cell), .d (.int d)]) (by clear hQ; walk_at "ev" <;> exact rfl) ?_
  clear e5 tn
  refine w_seq (w_asg (w_yOpAP (fun ρ => ∃ V4, ρ = [.d NS, X1, X2, X3, V4, .d (.int (at0 : Nat)), .d (.int cell), .d (.int d)] ∧ OT.toD V4 = some (.list WS)) (x := .list (cutD WS (some (-11)) Option.none)) (y := .list [.tuple UD]) (r := lstO WS') (by clear hQ; walk_at "ev" <;> exact rfl) (by clear hQ; walk_at "ev" <;> exact rfl) ctW ⟨W4, rfl, tW⟩ ?_ ?_))
  · refine w_dY (w_ySlAP (fun ρ => ∃ V4, ρ = [.d NS, X1, X2, X3, V4, .d (.int (at0 : Nat)), .d (.int cell), .d (.int d)] ∧ OT.toD V4 = some (.list WS)) (xs := WS) (l := some (-11)) (h := Option.none) (by clear hQ; walk_at "ev" <;> exact rfl) (ρ1 := [.d NS, X1, X2, X3, .d (.list WS), .d (.int (at0 : Nat)), .d (.int cell), .d (.int d)]) (by clear hQ; walk_at "ev" <;> exact rfl) rfl rfl rfl rfl ⟨_, rfl, tW⟩ ⟨_, rfl, toD_d _⟩ fun ρ' hp => ?_)
    obtain ⟨V4, rfl, hV⟩ := hp
    refine ⟨_, toD_lstO _, rfl, ?_⟩
    refine w_dYof (r := .nd .lst [.nd .tup U]) (x := .list [.tuple UD]) (ρ' := [.d NS, X1, X2, X3, V4, .d (.int (at0 : Nat)), .d (.int cell), .d (.int d)]) (by clear hQ; walk_at "ev" <;> exact rfl) (by rw [toD_lst, toDs_cons, toD_tup, t6, toDs_nil]; rfl) ⟨rfl, V4, rfl, hV⟩
  rintro ρ' ⟨V4, rfl, hV⟩
  simp only [sqK, List.set_cons_zero, List.set_cons_succ]
  clear ctW tW e6 a1 a2 hV
  have tl2 : OT.toD (lstO WS') = some (.list WS') := toD_lstO _
  generalize lstO WS' = V2 at *
  refine w_seq (w_if (c := false) (ρ1 := [.d NS, X1, X2, X3, V2, .d (.int (at0 : Nat)), .d (.int cell), .d (.int d)]) (by clear hQ; walk_at "ev" <;> exact rfl) (fun z => by cases z) (fun _ => ?_))
  refine w_next ?_
  simp only [sqK]
  have five : (0 : Int) < 5 := by decide
  by_cases c : (at0 : Int) % 5 = 0
  · have c' : decide ((at0 : Int) % 5 = 0) = true := decide_eq_true c
    clear c
    refine w_if (c := false) (ρ1 := [.d NS, X1, X2, X3, V2, .d (.int (at0 : Nat)), .d (.int cell), .d (.int d)]) (by clear hQ; walk_at "ev" <;> exact rfl) (fun z => by cases z) (fun _ => ?_)
    exact w_next (hQ _ _ tl2)
  · have c' : decide ((at0 : Int) % 5 = 0) = false := decide_eq_false c
    clear c
    refine w_if (c := false) (ρ1 := [.d NS, X1, X2, X3, V2, .d (.int (at0 : Nat)), .d (.int cell), .d (.int d)]) (by clear hQ; walk_at "ev" <;> exact rfl) (fun z => by cases z) (fun _ => ?_)
    exact w_next (hQ _ _ tl2)
end z83
namespace z83
open PySem L2 PL MR SH SQ
open z82 (sg fg tieT wT Sm7 str_ext app_cps sum_le fg_len tieT_len toStr_fg w2_bd w_dJoin sm_wT tla tla_len tla_map tla_mem cut_neg SA_last eq_nil)
local macro_rules | `(tactic| walk_at "ev") => `(tactic| simp (config := {decide := true}) only [ini, fin, finI, sSeq, sNext, sAsg, sAsgG, sRet, sRetN, sDrop, sIf, sNever, sSetP, sAppP, sClrP, sRevP, fR, pmVar, pmIx, pmIxT, MR.putAt, OT.put, OT.at, gmName, gmTup, gmLst, gsNil, gsCons, rVar, rC, rOp, rUn, rCb, rCbZ, rOpZ, rJs, rTxt, rCall, rAnd, rOr, rNot, rIf, rIs, rCh, rCh3, rTup, rLst, rSl, cNone, cSome, rRepr, dRepr, rInDct, rIdx, rIdxD, iR3s, small, qNil, qCons, qApp, lApp, bR, bAnd, bOr, bNot, tR, tD, tmAnd, tmOr, tmNot, yVar_eq, yMov, yR, yAuto, dY, yD, dR, dOp, dOpR, dCb, dAnd, dOr, dNot, yCall, yCallA, yCallI, yCallIT, yCb, yCbA, yOp, yOpA, lfO, yTup, yLst, oNil, oCons, isNo, lNil, lCons, asB, asInt, asL, asT, iL, iT, iE, iZ, iV, yRng1_eq, iR1_eq, iR2_eq, lcStep, calmAt, wipeE, rst, sApp, yPop_eq, sDPutM, ySortD, yDNew, gmName, toD_d, toD_tup, toD_lst, toDs_nil, toDs_cons, toDs_ints, toDs_fpr, toDs_prs, lfs_ints, lfs_fpr, intsO_len, prsO_len, fprO_len, rng_len, intsO_snoc, prsO_snoc, lstO_rg, rOpZ, rCbZ, isNo_lstO, toD_dnew, ySl, ySlA, neS_self, eqS_self,  rRevL, yRevL, yRevLA, yPop0, sExt, gStrI,  lstO_prs, lstO_ints, toD_lstO, kp_int, kp_bool, kp_tuple, kp_list, kp_str, isIntB, isBoolB, isTupB, isListB, isStrB, gAdd_i, gSub_i, gLt_i, gLe_i, gGt_i, gGe_i, gMul_r, gMul_l, gMod_i, gDiv_i, gPow_i, gNeg, gEqI, gNeI, gEqS, gNeS, gIsN, gNotN, gIsB, gNotB, gIxL, gIxT, gLen, gMax2, gMin2, gInt, gAll, asBools_map, isN, OT.lf, OT.lfs, flat, atI_0, atI_1, ixN_0, ixN_1, rgD_len, enumD_len, trues_len, Int.toNat_natCast, List.length_map, eq_self, Option.bind_some, Option.bind_none, Option.map_some, Option.map_none, List.getElem?_cons_zero, List.getElem?_cons_succ, List.set_cons_zero, List.set_cons_succ, List.map_cons, List.map_nil, List.replicate, List.nil_append, List.cons_append, List.length_cons, List.length_nil, List.all_cons, List.all_nil, if_true, if_false, reduceIte, tfl_int, tfl_bool, tfl_none, tfl_str, tfl_list, Bool.true_and, Bool.and_true, Bool.false_and, Bool.and_false, Bool.true_or, Bool.or_true, Bool.false_or, Bool.or_false, Bool.not_true, Bool.not_false, Bool.false_eq_true, decide_true, decide_false, true_and, and_true, false_and, and_false, or_true, true_or, *])
theorem turn_ok {NS : D} {at0 : Nat} (ha : at0 ≤ 1000) (cell : Int) {X1 X2 X3 W4 X7 : OT} {ws : List Wb} (hw : ∀ w ∈ ws, WbOk w) (hl : ws.length ≤ 12) (tW : OT.toD W4 = some (.list (ws.map wbD)))
    {Q : Fl → MR.Env → Prop} (hQ : ∀ W4 X7, ∀ ws' : List Wb, (∀ w ∈ ws', WbOk w) → ws'.length ≤ 12 → OT.toD W4 = some (.list (ws'.map wbD)) → Q .nx [.d NS, X1, X2, X3, W4, .d (.int (at0 : Nat)), .d (.int cell), X7]) :
    W B_turn [.d NS, X1, X2, X3, W4, .d (.int (at0 : Nat)), .d (.int cell), X7] Q := by
  obtain ⟨ds, e5, l5, g5⟩ := numbers_ok cell (500 + (at0 : Int)) (by omega) [4] (by simp) (by intro s hs; simp at hs; omega)
  obtain ⟨d, rfl⟩ : ∃ d, ds = [d] := List.length_eq_one_iff.mp l5
  have g5 : 0 ≤ d ∧ d < 4 := g5 0 (by simp)
  have key : ∃ (most : Int) (more : Nat), 1 ≤ most ∧ most ≤ 40 ∧ more ≤ 60 ∧ atI [PyData.int 3, .int 8, .int 11, .int 40] d = some (.int most) ∧ atI [PyData.int 3, .int 9, .int 30, .int 60] d = some (.int (more : Nat)) := by
    have : d = 0 ∨ d = 1 ∨ d = 2 ∨ d = 3 := by omega
    rcases this with rfl | rfl | rfl | rfl
    · exact ⟨3, 3, by omega, by omega, by omega, rfl, rfl⟩
    · exact ⟨8, 9, by omega, by omega, by omega, rfl, rfl⟩
    · exact ⟨11, 30, by omega, by omega, by omega, rfl, rfl⟩
    · exact ⟨40, 60, by omega, by omega, by omega, rfl, rfl⟩
  obtain ⟨most, more, m1, m2, m3, a1, a2⟩ := key
  obtain ⟨w, e6, h, _⟩ := web_ok (cell / 4) (at0 : Nat) (by omega) most m1 m2 more m3 true
  have l11 : (tla 11 ws).length ≤ 11 := by rw [tla_len]; omega
  have hin : ∀ v ∈ tla 11 ws ++ [w], WbOk v := fun v hv => by
    rcases List.mem_append.mp hv with hv | hv
    · exact hw v (tla_mem hv)
    · rw [List.mem_singleton.mp hv]; exact h
  have hln : (tla 11 ws ++ [w]).length ≤ 12 := by rw [List.length_append]; simp; omega
  have c11W : cutD (ws.map wbD) (some (-11)) Option.none = (tla 11 ws).map wbD := by
    rw [show (-11 : Int) = -((11 : Nat) : Int) from rfl, cut_neg _ (by omega), tla_map]
  obtain ⟨m, hm, hm1, hm2⟩ : ∃ m : Nat, (-1 - (at0 : Int) % 12) = -(m : Int) ∧ 1 ≤ m ∧ m ≤ 12 := ⟨(1 + (at0 : Int) % 12).toNat, by omega, by omega, by omega⟩
  have cmW : cutD ((tla 11 ws ++ [w]).map wbD) (some (-1 - (at0 : Int) % 12)) Option.none = (tla m (tla 11 ws ++ [w])).map wbD := by
    rw [hm, cut_neg _ hm1, tla_map]
  have lm : (tla m (tla 11 ws ++ [w])).length ≤ 12 := by rw [tla_len]; omega
  have nm : tla m (tla 11 ws ++ [w]) ≠ [] := fun z => by
    have := tla_len m (tla 11 ws ++ [w])
    rw [z] at this
    simp at this
    omega
  have hmm : ∀ v ∈ tla m (tla 11 ws ++ [w]), WbOk v := fun v hv => hin v (tla_mem hv)
  have lfw : OT.lfs [OT.d (.int (w.1 : Nat)), .nd .lst (fprO w.2)] = true := by
    have := lf_wbO w
    unfold wbO at this
    simpa [OT.lf] using this
  refine turn_gen (UD := [.int (w.1 : Nat), .list (w.2.map pairD)]) (WS := ws.map wbD) (WS' := (tla 11 ws ++ [w]).map wbD) ha tW e5 a1 a2 e6 lfw (by simp [toDs_cons, toDs_nil, toD_d, toD_lst, toDs_fpr]) ?_ ?_ (read_ok h) (by rw [cmW]; exact all_read_ok hmm lm nm) ?_
  · rw [c11W, GCat_ok (by simp; omega), List.map_append]
    rfl
  · have := SA_last ((tla 11 ws).map wbD) (wbD w)
    rw [List.map_append]
    exact this
  · intro W4 X7 hW
    exact hQ _ _ (tla 11 ws ++ [w]) hin hln hW
theorem read_nil : m_read_webs [.str "none"] = some (.nd .lst []) := by
  unfold m_read_webs B_read_webs
  generalize (" * " : Str) = SP at *
  generalize ("none" : Str) = NN at *
  refine fin_eq ?_
  refine w_seq (w_if (c := false) (ρ1 := [.d (.str NN), .no, .no, .no, .no]) (by walk_at "ev" <;> exact rfl) (fun z => by cases z) (fun _ => ?_))
  refine w_next ?_
  simp only [sqK]
  refine w_st (ρ1 := [.d (.str NN), .nd .lst [], .no, .no, .no]) (by walk_at "ev" <;> exact rfl) ?_
  refine w_seq (w_if (c := false) (ρ1 := [.d (.str NN), .nd .lst [], .no, .no, .no]) (by walk_at "ev" <;> exact rfl) (fun z => by cases z) (fun _ => ?_))
  refine w_next ?_
  simp only [sqK]
  exact w_end (by walk_at "ev" <;> exact rfl) rfl rfl
theorem show_nil : m_show_webs [.list []] = some (.d (.str "none")) := by rw [shows_eq]; exact z82.shows_nil
def tk : Nat → List (Int × Int)
  | 0 => []
  | n + 1 => tk n ++ (List.range (15 - n)).map fun (j : Nat) => ((n : Int), (n : Int) + 1 + (j : Int))
theorem prs_tk (n : Nat) : prsO (tk (n + 1)) = prsO (tk n) ++ (List.range (15 - n)).map fun (j : Nat) => OT.nd .tup [.d (.int (n : Int)), .d (.int ((n : Int) + 1 + (j : Int)))] := by
  show prsO (tk n ++ _) = _
  unfold prsO
  rw [List.map_append, List.map_map]
  rfl
theorem tk_len {n : Nat} : n ≤ 16 → (tk n).length ≤ 240 := by
  have : ∀ n, (tk n).length ≤ 15 * n := by
    intro n
    induction n with
    | zero => simp [tk]
    | succ n ih =>
      show (tk n ++ _).length ≤ _
      rw [List.length_append, List.length_map, List.length_range]
      omega
  intro h
  have := this n
  omega
theorem wok2 : WbOk (2, [(0, 1)]) := ⟨⟨by decide, by unfold Lex; decide, by decide⟩, by decide, by decide, by decide⟩
theorem wok17 : WbOk (17, tk 16) := ⟨⟨by decide +kernel, by unfold Lex; decide +kernel, by decide +kernel⟩, by decide, by decide, by decide +kernel⟩
theorem wok40 : WbOk (40, []) := ⟨⟨by decide, by unfold Lex; decide, by decide⟩, by decide, by decide, by decide⟩
theorem first_ok {X0 X1 X2 X3 X4 X5 X6 X7 : OT} : (tmOr (tR (bR (rOp gNeS (rRepr (rCall m_read_webs 1 (qCons (rCall m_show_webs 1 (qCons (rLst qNil) qNil)) qNil))) (rC (.str "[]"))))) (tmNot (tD (dY (yCall m__law_all_read 1 (lCons (dY (yRep (yLst (oCons (yD (dY (yTup (oCons (yR (rC (.int 2))) (oCons (yLst (oCons (yTup (oCons (yR (rC (.int 0))) (oCons (yR (rC (.int 1))) oNil))) oNil)) oNil))))) oNil)) (rC (.int 3)))) lNil)))))) [X0, X1, X2, X3, X4, X5, X6, X7] = some (false, [X0, X1, X2, X3, X4, X5, X6, X7]) := by
  have f1 := read_nil
  have f2 := show_nil
  have f3 := all_read_ok (ws := List.replicate 3 (2, [(0, 1)])) (fun w hw => by rw [List.eq_of_mem_replicate hw]; exact wok2) (by simp) (by simp)
  rw [List.map_replicate, show wbD (2, [(0, 1)]) = .tuple [.int 2, .list [.tuple [.int 0, .int 1]]] from rfl] at f3
  have rn : gRepr (.list []) = some (.str "[]") := by
    have e : PyData.shown (.list []) = ("[]" : Str) := by decide +kernel
    have a : gRepr (.list []) = some (.str (PyData.shown (.list []))) := (nice_wbs (ws := []) (by simp) (by simp)).repr (by omega) (by omega)
    rw [a, e]
  have rp : yRep (yLst (oCons (yD (dY (yTup (oCons (yR (rC (.int 2))) (oCons (yLst (oCons (yTup (oCons (yR (rC (.int 0))) (oCons (yR (rC (.int 1))) oNil))) oNil)) oNil))))) oNil)) (rC (.int 3)) [X0, X1, X2, X3, X4, X5, X6, X7] = some (lstO (List.replicate 3 (.tuple [.int 2, .list [.tuple [.int 0, .int 1]]])), [X0, X1, X2, X3, X4, X5, X6, X7]) :=
    yRep_one (k := 3) (by walk_at "ev" <;> exact rfl) rfl (by omega)
  generalize ("[]" : Str) = BR at *
  generalize ("none" : Str) = NN at *
  generalize List.replicate 3 (PyData.tuple [.int 2, .list [.tuple [.int 0, .int 1]]]) = XL at *
  walk_at "ev" <;> exact rfl
theorem second_ok {X0 X2 X3 X4 X5 X6 X7 : OT} : ∃ X1, (tmOr (tR (bNot (bR (rCall m__law_read 1 (qCons (rTup (qCons (rC (.int 17)) (qCons (rVar 1) qNil))) qNil))))) (tmNot (tD (dY (yCall m__law_all_read 1 (lCons (dY (yOp GCat (dY (yLst (oCons (yTup (oCons (yR (rC (.int 17))) (oCons (yVar 1) oNil))) (oCons (yTup (oCons (yR (rC (.int 40))) (oCons (yLst oNil) oNil))) oNil)))) (dY (yRep (yLst (oCons (yD (dY (yTup (oCons (yR (rC (.int 17))) (oCons (yVar 1) oNil))))) oNil)) (rC (.int 10)))))) lNil)))))) [X0, .nd .lst (prsO (tk 16)), X2, X3, X4, X5, X6, X7] = some (false, [X0, X1, X2, X3, X4, X5, X6, X7]) := by
  have f1 := read_ok wok17
  have f3 := all_read_ok (ws := [(17, tk 16), (40, [])] ++ List.replicate 10 (17, tk 16)) (fun w hw => by
    rcases List.mem_append.mp hw with hw | hw
    · simp at hw
      rcases hw with rfl | rfl
      · exact wok17
      · exact wok40
    · rw [List.eq_of_mem_replicate hw]; exact wok17) (by simp) (by simp)
  rw [List.map_append, List.map_replicate] at f3
  have tp := toDs_prs (tk 16)
  rw [show wbD (17, tk 16) = .tuple [.int 17, .list ((tk 16).map pairD)] from rfl] at f1 f3
  simp only [List.map_cons, List.map_nil] at f3
  rw [show wbD (17, tk 16) = .tuple [.int 17, .list ((tk 16).map pairD)] from rfl, show wbD (40, []) = .tuple [.int 40, .list []] from rfl] at f3
  generalize (tk 16).map pairD = T at *
  generalize prsO (tk 16) = P at *
  refine ⟨.d (.list T), ?_⟩
  have rp : yRep (yLst (oCons (yD (dY (yTup (oCons (yR (rC (.int 17))) (oCons (yVar 1) oNil))))) oNil)) (rC (.int 10)) [X0, .d (.list T), X2, X3, X4, X5, X6, X7] = some (lstO (List.replicate 10 (.tuple [.int 17, .list T])), [X0, .d (.list T), X2, X3, X4, X5, X6, X7]) :=
    yRep_one (k := 10) (by clear f1 f3 tp; walk_at "ev" <;> exact rfl) rfl (by omega)
  have hB := dY_of rp (toD_lstO _)
  have hA : dY (yLst (oCons (yTup (oCons (yR (rC (.int 17))) (oCons (yVar 1) oNil))) (oCons (yTup (oCons (yR (rC (.int 40))) (oCons (yLst oNil) oNil))) oNil))) [X0, .nd .lst P, X2, X3, X4, X5, X6, X7] = some (.list [.tuple [.int 17, .list T], .tuple [.int 40, .list []]], [X0, .d (.list T), X2, X3, X4, X5, X6, X7]) := by
    clear f1 f3 rp hB
    walk_at "ev" <;> exact rfl
  have hC := dY_of (yOp_of hA hB (GCat_ok (by simp))) (toD_lstO _)
  clear hA hB rp
  generalize PyData.list ([.tuple [.int 17, .list T], .tuple [.int 40, .list []]] ++ List.replicate 10 (.tuple [.int 17, .list T])) = XL at *
  have t1 : (tR (bNot (bR (rCall m__law_read 1 (qCons (rTup (qCons (rC (.int 17)) (qCons (rVar 1) qNil))) qNil))))) [X0, .nd .lst P, X2, X3, X4, X5, X6, X7] = some (false, [X0, .nd .lst P, X2, X3, X4, X5, X6, X7]) := by
    clear f3 hC
    walk_at "ev" <;> exact rfl
  unfold tmOr
  rw [t1]
  simp only [Option.bind_some, Bool.false_eq_true, if_false]
  unfold tmNot tD yCall lCons lNil
  clear t1 f1 tp
  generalize dY (yOp GCat _ _) = YY at *
  walk_at "ev" <;> exact rfl
theorem goal (ns : List Int) (hl : ns.length ≤ 63) : z83.m_law [.list (ns.map .int)] = some (.d (.bool true)) := by
  have eqn := eq_nil ns
  obtain ⟨k, hk, hk1⟩ : ∃ k : Nat, (if decide (ns = []) = true then (1 : Int) else 0) = (k : Int) ∧ k ≤ 1 := by
    split
    · exact ⟨1, rfl, by omega⟩
    · exact ⟨0, rfl, by omega⟩
  have c60 : cutD (ns.map PyData.int) Option.none (some (60 : Int)) = (ns.take 60).map .int := by
    unfold cutD
    rw [show (60 : Int) = ((60 : Nat) : Int) from rfl, HT.sIx_nat]
    have e0 : HT.sIx (ns.map PyData.int).length 0 Option.none = 0 := rfl
    rw [e0, List.drop_zero, Nat.sub_zero, List.map_take, List.length_map]
    apply List.take_eq_take_iff.mpr
    rw [List.length_map]
    omega
  have c16 := rg1_n (n := 16) (by omega)
  rw [rgD0, show ((16 : Nat) : Int) = 16 from rfl] at c16
  unfold z83.m_law B_law
  refine fin_eq ?_
  have lfi : (lstO ((ns.take 60).map PyData.int)).lf = true := by
    show OT.lfs (((ns.take 60).map PyData.int).map OT.d) = true
    rw [List.map_map]
    exact lfs_ints (ns.take 60)
  refine w_seq (w_if (c := false) (ρ1 := [.d (.list (ns.map .int)), .no, .no, .no, .no, .no, .no, .no]) first_ok (fun z => by cases z) (fun _ => ?_))
  refine w_next ?_
  simp only [sqK]
  refine w_st (ρ1 := [.d (.list (ns.map .int)), .nd .lst [], .no, .no, .no, .no, .no, .no]) (by walk_at "ev" <;> exact rfl) ?_
  refine w_seq (w_forT (fun i ρ => ∃ X2, ρ = [.d (.list (ns.map .int)), .nd .lst (prsO (tk i)), X2, .no, .no, .no, .no, .no]) (as := List.range 16) (enc := fun k : Nat => PyData.int (k : Int)) (ρ1 := [.d (.list (ns.map .int)), .nd .lst [], .no, .no, .no, .no, .no, .no]) (by clear lfi eqn hk; walk_at "ev" <;> exact rfl) ⟨_, rfl⟩ (fun i p ρ2 hp hs => ?_) ?_)
  · obtain ⟨X2, rfl⟩ := hs
    obtain ⟨hi, rfl⟩ : i < 16 ∧ i = p := by
      have h := List.getElem?_eq_some_iff.mp hp
      obtain ⟨h1, h2⟩ := h
      simp at h1 h2
      exact ⟨h1, h2⟩
    refine ⟨[.d (.list (ns.map .int)), .nd .lst (prsO (tk i)), .d (.int (i : Nat)), .no, .no, .no, .no, .no], rfl, ?_⟩
    have r2 : rg2 [.int ((i : Int) + 1), .int 16] = some ((List.range (15 - i)).map fun j : Nat => PyData.int ((i : Int) + 1 + (j : Int))) := by
      rw [rg2_F]
      unfold rg2F
      simp only []
      rw [if_pos (by omega)]
      have : ((16 : Int) - ((i : Int) + 1)).toNat = 15 - i := by omega
      rw [this]
      rfl
    have tl := tk_len (n := i) (by omega)
    have pt := prs_tk i
    refine w_ext rfl (w_lcmT (fun j : Nat => OT.nd .tup [.d (.int (i : Int)), .d (.int ((i : Int) + 1 + (j : Int)))]) (as := List.range (15 - i)) (enc := fun j : Nat => PyData.int ((i : Int) + 1 + (j : Int))) (ρ1 := [.d (.list (ns.map .int)), .nd .lst (prsO (tk i)), .d (.int (i : Nat)), .no, .no, .no, .no, .no]) (by clear c16 c60 lfi eqn hk pt hp; walk_at "ev" <;> exact rfl) rfl (by simp; omega) (fun j hj => ?_) ?_)
    · clear c16 c60 lfi eqn hk pt hp r2
      refine W.of (by walk_at "ev" <;> exact rfl) ?_
      exact ⟨rfl, rfl⟩
    · refine ⟨_, _, rfl, rfl, by rw [prsO_len, List.length_map, List.length_range]; omega, ?_⟩
      rw [← pt]
      exact ⟨_, rfl⟩
  rintro ρ2 ⟨X2, rfl⟩
  rw [List.length_range]
  simp only [sqK]
  clear c16
  obtain ⟨X1, e2⟩ := second_ok (X0 := .d (.list (ns.map .int))) (X2 := X2) (X3 := .no) (X4 := .no) (X5 := .no) (X6 := .no) (X7 := .no)
  refine w_seq (w_if (c := false) e2 (fun z => by cases z) (fun _ => ?_))
  refine w_next ?_
  clear e2
  simp only [sqK]
  refine w_st (ρ1 := [.d (.list (ns.map .int)), X1, X2, .no, .nd .lst [], .no, .no, .no]) (by walk_at "ev" <;> exact rfl) ?_
  have rp : yRep (yLst (oCons (yR (rC (.int 8))) oNil)) (rCb gInt (qCons (rOp gEqD (rVar 0) (rLst qNil)) qNil)) [.d (.list (ns.map .int)), X1, X2, .no, .nd .lst [], .no, .no, .no] = some (lstO (List.replicate k (.int 8)), [.d (.list (ns.map .int)), X1, X2, .no, .nd .lst [], .no, .no, .no]) :=
    yRep_one (k := k) (x := .int 8) (by walk_at "ev" <;> exact rfl) (by walk_at "ev" <;> exact rfl) (by omega)
  have it : iE (lCons (dY (yOp GCat (dY (ySlA (rVar 0) (dY (yVar 0)) cNone (cSome (rC (.int 60))))) (dY (yRep (yLst (oCons (yR (rC (.int 8))) oNil)) (rCb gInt (qCons (rOp gEqD (rVar 0) (rLst qNil)) qNil)))))) lNil) [.d (.list (ns.map .int)), X1, X2, .no, .nd .lst [], .no, .no, .no] = some (((ns.take 60 ++ List.replicate k 8).zipIdx).map fun p : Int × Nat => PyData.tuple [.int (p.2 : Nat), .int p.1], [.d (.list (ns.map .int)), X1, X2, .no, .nd .lst [], .no, .no, .no]) := by
    have hA := dY_of (ySlA_lf (ra := rVar 0) (a := dY (yVar 0)) (lo := cNone) (hi := cSome (rC (.int 60))) (ρ := [.d (.list (ns.map .int)), X1, X2, .no, .nd .lst [], .no, .no, .no]) (xs := ns.map .int) (l := Option.none) (h := some 60) rfl rfl rfl (by rw [c60]; exact lfi)) (toD_lstO _)
    rw [c60] at hA
    have hE := dY_of (yOp_of hA (dY_of rp (toD_lstO _)) (GCat_ok (by simp; omega))) (toD_lstO _)
    have r8 : (ns.take 60).map PyData.int ++ List.replicate k (PyData.int 8) = (ns.take 60 ++ List.replicate k 8).map .int := by
      rw [List.map_append, List.map_replicate]
    rw [r8] at hE
    unfold iE lCons lNil
    rw [hE]
    simp only [Option.bind_some, Option.map_some]
    rw [enumD_map]
  clear rp lfi c60 hk eqn
  refine w_seq (w_forT (fun i ρ => ∃ (ws : List Wb) (W4 X5 X6 X7 : OT), ρ = [.d (.list (ns.map .int)), X1, X2, .no, W4, X5, X6, X7] ∧ (∀ w ∈ ws, WbOk w) ∧ ws.length ≤ 12 ∧ OT.toD W4 = some (.list (ws.map wbD))) (as := (ns.take 60 ++ List.replicate k 8).zipIdx) (enc := fun p : Int × Nat => .tuple [.int (p.2 : Nat), .int p.1]) it ⟨[], _, _, _, _, rfl, by simp, by simp, by rw [toD_lst, toDs_nil]; rfl⟩ (fun i p ρ2 hp hs => ?_) ?_)
  · obtain ⟨ws, W4, X5, X6, X7, rfl, hw, hl2, hW⟩ := hs
    obtain ⟨c, a⟩ := p
    have ha : a < 61 := by
      have := List.mem_zipIdx' (List.mem_of_getElem? hp)
      simp at this
      omega
    refine ⟨_, rfl, turn_ok (at0 := a) (by omega) c hw hl2 hW fun W4 X7 ws' h1 h2 h3 => ?_⟩
    exact ⟨ws', _, _, _, _, rfl, h1, h2, h3⟩
  · rintro ρ2 ⟨ws, W4, X5, X6, X7, rfl, hw, hl2, hW⟩
    clear it hW hw
    exact w_end (by walk_at "ev" <;> exact rfl) rfl rfl
end z83
open PySem PySem.W PyProof.Rows in
set_option maxHeartbeats 0 in
theorem PySem.Challenge.cw_webtimes_k83_webs_read_back_holds : PySem.Challenge.rw_webtimes_k83_webs_read_back.Holds := by
  w_on; o_law; k_head; (case hw => w_witness2)
  k_fill
  refine MR.walkQ (l := PySem.Challenge.rw_webtimes_k83_webs_read_back) (n := 63) (k := 7) (x := "_law_script") (CX := fun _ => L2.CX0) (sp := fun w => @MR.spP ⟨_⟩ 1 z83.m_law) rfl (by decide) rfl ⟨rfl, by decide, by decide⟩ (fun w h Y => PySem.W.kIn_of Y) ?F (fun w G a ns hl hS => z83.law_sp z83.goal hl hS) (fun _ _ _ _ _ h => h)
  case F =>
    intro w mg fa h KX G hmg
    refine' z83.all_mk KX G hmg ?a0 ?l0 ?c0 ?k0 ?a1 ?l1 ?c1 ?k1 ?a2 ?l2 ?c2 ?k2 ?a3 ?l3 ?c3 ?k3 ?a4 ?l4 ?c4 ?k4 ?a5 ?l5 ?c5 ?k5 ?a6 ?l6 ?c6 ?k6 ?a7 ?l7 ?c7 ?k7 ?a8 ?l8 ?c8 ?k8 ?a9 ?l9 ?c9 ?k9 ?a10 ?l10 ?c10 ?k10 ?a11 ?l11 ?c11 ?k11 ?a12 ?l12 ?c12 ?k12 ?a13 ?l13 ?c13 ?k13 ?a14 ?l14 ?c14 ?k14 ?a15 ?l15 ?c15 ?k15 ?a16 ?l16 ?c16 ?k16 ?a17 ?l17 ?c17 ?k17 ?a18 ?l18 ?c18 ?k18 ?a19 ?l19 ?c19 ?k19 ?a20 ?l20 ?c20 ?k20 ?z0 ?z1 ?z2 ?z3 ?z4 ?z5 ?z6 ?z7 ?z8 ?z9 ?z10 ?z11 ?z12 ?z13 ?z14 ?z15 ?z16 ?z17 ?z18 ?z19 ?z20
    (case a0 => k_is)
    (case l0 => k_is)
    (case c0 => k_is)
    (case k0 => k_is)
    (case a1 => k_is)
    (case l1 => k_is)
    (case c1 => k_is)
    (case k1 => k_is)
    (case a2 => k_is)
    (case l2 => k_is)
    (case c2 => k_is)
    (case k2 => k_is)
    (case a3 => k_is)
    (case l3 => k_is)
    (case c3 => k_is)
    (case k3 => k_is)
    (case a4 => k_is)
    (case l4 => k_is)
    (case c4 => k_is)
    (case k4 => k_is)
    (case a5 => k_is)
    (case l5 => k_is)
    (case c5 => k_is)
    (case k5 => k_is)
    (case a6 => k_is)
    (case l6 => k_is)
    (case c6 => k_is)
    (case k6 => k_is)
    (case a7 => k_is)
    (case l7 => k_is)
    (case c7 => k_is)
    (case k7 => k_is)
    (case a8 => k_is)
    (case l8 => k_is)
    (case c8 => k_is)
    (case k8 => k_is)
    (case a9 => k_is)
    (case l9 => k_is)
    (case c9 => k_is)
    (case k9 => k_is)
    (case a10 => k_is)
    (case l10 => k_is)
    (case c10 => k_is)
    (case k10 => k_is)
    (case a11 => k_is)
    (case l11 => k_is)
    (case c11 => k_is)
    (case k11 => k_is)
    (case a12 => k_is)
    (case l12 => k_is)
    (case c12 => k_is)
    (case k12 => k_is)
    (case a13 => k_is)
    (case l13 => k_is)
    (case c13 => k_is)
    (case k13 => k_is)
    (case a14 => k_is)
    (case l14 => k_is)
    (case c14 => k_is)
    (case k14 => k_is)
    (case a15 => k_is)
    (case l15 => k_is)
    (case c15 => k_is)
    (case k15 => k_is)
    (case a16 => k_is)
    (case l16 => k_is)
    (case c16 => k_is)
    (case k16 => k_is)
    (case a17 => k_is)
    (case l17 => k_is)
    (case c17 => k_is)
    (case k17 => k_is)
    (case a18 => k_is)
    (case l18 => k_is)
    (case c18 => k_is)
    (case k18 => k_is)
    (case a19 => k_is)
    (case l19 => k_is)
    (case c19 => k_is)
    (case k19 => k_is)
    (case a20 => k_is)
    (case l20 => k_is)
    (case c20 => k_is)
    (case k20 => k_is)
    (case z0 => k_is)
    (case z1 => k_is)
    (case z2 => k_is)
    (case z3 => k_is)
    (case z4 => k_is)
    (case z5 => k_is)
    (case z6 => k_is)
    (case z7 => k_is)
    (case z8 => k_is)
    (case z9 => k_is)
    (case z10 => k_is)
    (case z11 => k_is)
    (case z12 => k_is)
    (case z13 => k_is)
    (case z14 => k_is)
    (case z15 => k_is)
    (case z16 => k_is)
    (case z17 => k_is)
    (case z18 => k_is)
    (case z19 => k_is)
    (case z20 => k_is)
