/- Renamed variables give one shape; a place more behind a pattern. -/
import Derived.Test.YtgligipgjakecaaDoorPatPure
import Derived.Test.YtgligipgjakecaaDoorCoverPure
import Derived.Test.YtgligipgjakecaaDoorDistPure
namespace Go.Proofs.YtgligipgjakecaaDoor
set_option linter.unusedSimpArgs false
set_option linter.unusedVariables false
open Go.RowKit

theorem wrap_toNat_inj {a b : Nat} (ha : a < 18446744073709551616) (hb : b < 18446744073709551616) (h : IntKind.i64.wrap (a : Int) = IntKind.i64.wrap (b : Int)) : a = b := by
  rw [IntKind.wrap_i64, IntKind.wrap_i64] at h
  omega
theorem ofInt_inj {a b : Int} (ha : I64 a) (hb : I64 b) (h : BitVec.ofInt 64 a = BitVec.ofInt 64 b) : a = b := by
  have h1 := congrArg BitVec.toNat h
  rw [BitVec.toNat_ofInt, BitVec.toNat_ofInt] at h1
  obtain ⟨h2, h3⟩ := ha
  obtain ⟨h4, h5⟩ := hb
  have e : ((2 ^ 64 : Nat) : Int) = 18446744073709551616 := by decide
  rw [e] at h1
  omega
theorem xor_inj {a b x : Int} (ha : I64 a) (hb : I64 b) (h : bits .xor .i64 a x = bits .xor .i64 b x) : a = b := by
  have h1 : IntKind.i64.wrap ((BitVec.ofInt 64 a ^^^ BitVec.ofInt 64 x).toNat : Int) = IntKind.i64.wrap ((BitVec.ofInt 64 b ^^^ BitVec.ofInt 64 x).toNat : Int) := h
  have h2 := wrap_toNat_inj (BitVec.isLt _) (BitVec.isLt _) h1
  have h3 := BitVec.eq_of_toNat_eq h2
  have h4 := congrArg (· ^^^ BitVec.ofInt 64 x) h3
  simp only [BitVec.xor_assoc, BitVec.xor_self, BitVec.xor_zero] at h4
  exact ofInt_inj ha hb h4

def renS (f : Int → Int) (s : Slo) : Slo := if s.v = true then ⟨true, f s.n⟩ else s
theorem ren_var {f : Int → Int} {s : Slo} (h : s.v = true) : renS f s = ⟨true, f s.n⟩ := if_pos h
theorem ren_con {f : Int → Int} {s : Slo} (h : s.v = false) : renS f s = s := if_neg (by rw [h]; decide)
theorem ren_v (f : Int → Int) (s : Slo) : (renS f s).v = s.v := by
  cases h : s.v with
  | true => rw [ren_var h]
  | false => rw [ren_con h]; exact h
theorem firstI_ren {f : Int → Int} {n : Int} : ∀ {ss : List Slo}, (∀ t ∈ ss, t.v = true → f t.n = f n → t.n = n) → firstI (ss.map (renS f)) (f n) = firstI ss n
  | [], _ => rfl
  | t :: r, h => by
    have ih := firstI_ren (ss := r) (fun u hu => h u (by simp [hu]))
    rw [List.map_cons]
    unfold firstI
    have hv : varIs (f n) (renS f t) = varIs n t := by
      rw [Bool.eq_iff_iff, varIs_iff, varIs_iff, ren_v]
      constructor
      · rintro ⟨h1, h2⟩
        rw [ren_var h1] at h2
        exact ⟨h1, h t (by simp) h1 h2⟩
      · rintro ⟨h1, h2⟩
        rw [ren_var h1, h2]
        exact ⟨h1, rfl⟩
    rw [hv, ih]
theorem shapeC_ren {f : Int → Int} {ss : List Slo} (h : ∀ s ∈ ss, ∀ t ∈ ss, s.v = true → t.v = true → f t.n = f s.n → t.n = s.n) : shapeC (ss.map (renS f)) = shapeC ss := by
  unfold shapeC
  rw [List.map_map]
  apply List.map_congr_left
  intro s hs
  show cellS _ (renS f s) = _
  cases hv : s.v with
  | true =>
    rw [cellS_var (by rw [ren_v]; exact hv), cellS_var hv, ren_var hv]
    dsimp only
    rw [firstI_ren (fun t ht htv he => h s hs t ht hv htv he)]
  | false => rw [cellS_con (by rw [ren_v]; exact hv), cellS_con hv, ren_con hv]
theorem ren_ok {f : Int → Int} {q : Int} {ss : List Slo} (h : ShapeOk q ss) : ShapeOk q (ss.map (renS f)) := by
  refine ⟨h.1, fun s hs hv => ?_⟩
  obtain ⟨t, ht, rfl⟩ := List.mem_map.1 hs
  rw [ren_v] at hv
  rw [ren_con hv]
  exact h.2 t ht hv

theorem firstI_app {n : Int} : ∀ {ss : List Slo} (t : Slo), (∃ s ∈ ss, varIs n s = true) → firstI (ss ++ [t]) n = firstI ss n
  | [], t, h => by obtain ⟨s, hs, _⟩ := h; cases hs
  | u :: r, t, h => by
    rw [List.cons_append]
    unfold firstI
    by_cases hv : varIs n u = true
    · rw [if_pos hv, if_pos hv]
    · rw [if_neg hv, if_neg hv]
      obtain ⟨s, hs, hsv⟩ := h
      have hr : ∃ s ∈ r, varIs n s = true := by
        rcases List.mem_cons.1 hs with h1 | h1
        · rw [h1] at hsv; exact absurd hsv hv
        · exact ⟨s, h1, hsv⟩
      rw [firstI_app t hr]
theorem firstI_fresh {n : Int} : ∀ {ss : List Slo} {t : Slo}, (∀ s ∈ ss, varIs n s = false) → varIs n t = true → firstI (ss ++ [t]) n = ss.length
  | [], t, _, h => by
    show firstI [t] n = 0
    unfold firstI
    rw [if_pos h]
  | u :: r, t, h1, h => by
    rw [List.cons_append]
    unfold firstI
    rw [if_neg (by rw [h1 u (by simp)]; decide), firstI_fresh (fun s hs => h1 s (by simp [hs])) h]
    rfl
theorem shapeC_app (ss : List Slo) (t : Slo) : shapeC (ss ++ [t]) = shapeC ss ++ [cellS (ss ++ [t]) t] := by
  unfold shapeC
  rw [List.map_append]
  congr 1
  apply List.map_congr_left
  intro s hs
  cases hv : s.v with
  | true =>
    rw [cellS_var hv, cellS_var hv, firstI_app t ⟨s, hs, varIs_iff.2 ⟨hv, rfl⟩⟩]
  | false => rw [cellS_con hv, cellS_con hv]
theorem shapeC_seven (ss : List Slo) : shapeC (ss ++ [⟨false, 7⟩]) = shapeC ss ++ [7] := by rw [shapeC_app, cellS_con rfl]
theorem shapeC_fresh {ss : List Slo} {n : Int} (h : ∀ s ∈ ss, varIs n s = false) : shapeC (ss ++ [⟨true, n⟩]) = shapeC ss ++ [-1 - (ss.length : Int)] := by
  rw [shapeC_app, cellS_var rfl]
  dsimp only
  rw [firstI_fresh h (varIs_iff.2 ⟨rfl, rfl⟩)]
theorem app_ok {q : Int} {ss : List Slo} {t : Slo} (h : ShapeOk q ss) (ht : t.v = false → 0 ≤ t.n) : ShapeOk q (ss ++ [t]) := by
  refine ⟨h.1, fun s hs hv => ?_⟩
  rcases List.mem_append.1 hs with h1 | h1
  · exact h.2 s h1 hv
  · simp only [List.mem_singleton] at h1
    rw [h1] at hv ⊢
    exact ht hv

/-- The wider shape covers the narrower one, never the other way round. -/
theorem cov_wide {q : Int} {C : List Int} (h1 : Vld q (C ++ [-1 - (C.length : Int)])) (h2 : Vld q (C ++ [7])) (hs : FitC C C) : covB q (C ++ [-1 - (C.length : Int)]) q (C ++ [7]) = true ∧ covB q (C ++ [7]) q (C ++ [-1 - (C.length : Int)]) = false := by
  constructor
  · unfold covB
    rw [vldB_yes h2, Bool.true_and]
    refine fitB_iff.2 ⟨h1, rfl, by simp, fun i c hc => ?_⟩
    unfold Asks
    rcases at_snoc rfl hc with ⟨hi, hc'⟩ | ⟨hi, hc'⟩
    · have h3 := hs.2 i c hc'
      unfold Asks at h3
      rw [List.getElem?_append_left hi, h3]
      by_cases hn : c < 0
      · rw [if_pos hn, if_pos hn]
        have h4 := (h1.2 i c hc hn).1
        rw [List.getElem?_append_left (by omega)]
      · rw [if_neg hn, if_neg hn]
    · subst hi hc'
      rw [if_pos (by omega), at10_neg]
  · cases hb : covB q (C ++ [7]) q (C ++ [-1 - (C.length : Int)]) with
    | false => rfl
    | true =>
      unfold covB at hb
      rw [Bool.and_eq_true] at hb
      have h3 := (fitB_iff.1 hb.2).2.2.2 C.length 7 (by simp)
      unfold Asks at h3
      rw [if_neg (by decide)] at h3
      simp at h3
      omega

/-- The numbers of a pattern's variables. -/
def varNs (ss : List Slo) : List Int := (ss.filter (·.v)).map (·.n)
theorem varNs_len (ss : List Slo) : (varNs ss).length ≤ ss.length := by unfold varNs; rw [List.length_map]; exact List.length_filter_le _ _
theorem varNs_mem {ss : List Slo} {n : Int} (h : ∃ s ∈ ss, varIs n s = true) : n ∈ varNs ss := by
  obtain ⟨s, hs, hv⟩ := h
  obtain ⟨h1, h2⟩ := varIs_iff.1 hv
  exact List.mem_map.2 ⟨s, List.mem_filter.2 ⟨hs, h1⟩, h2⟩
/-- Of the numbers 0 to the length one is unused. -/
theorem used_few {ss : List Slo} {k : Nat} (h : ∀ m < k, ∃ s ∈ ss, varIs (m : Int) s = true) : k ≤ ss.length := by
  have h1 : ∀ j, j ≤ k → j ≤ cntL (varNs ss) j := by
    intro j
    induction j with
    | zero => intro _; omega
    | succ j ih =>
      intro hj
      have h2 := ih (by omega)
      have h3 := cntL_step (varNs ss) j (varNs_mem (h j (by omega)))
      omega
  have h4 := h1 k (Nat.le_refl _)
  have h5 := cntL_le (varNs ss) k
  have h6 := varNs_len ss
  omega
end Go.Proofs.YtgligipgjakecaaDoor
