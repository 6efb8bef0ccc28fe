/- The law's ints and shapes, the document's Same: the same lists? -/
import Derived.Test.YtgligipgjakecaaDoorAlphaValid
namespace Go.Proofs.YtgligipgjakecaaDoor
set_option linter.unusedSimpArgs false
set_option linter.unusedVariables false
open Go.RowKit

theorem size_alloc10 (w : World) (o : Obj) : (w.alloc o).heap.size = w.heap.size + 1 := by simp
theorem ext_of {α : Type} {l m : List α} (hl : l.length = m.length) (h : ∀ i, i < l.length → l[i]? = m[i]?) : l = m := by
  apply List.ext_getElem?
  intro i
  rcases Nat.lt_or_ge i l.length with h1 | h1
  · exact h i h1
  · rw [List.getElem?_eq_none h1, List.getElem?_eq_none (by omega)]
theorem upto_next {α : Type} {l m : List α} {k : Nat} (h : ∀ i, i < k → l[i]? = m[i]?) (hk : l[k]? = m[k]?) : ∀ i, i < k + 1 → l[i]? = m[i]? := by
  intro i hi
  rcases Nat.lt_or_ge i k with h1 | h1
  · exact h i h1
  · obtain rfl : i = k := by omega
    exact hk

set_option maxHeartbeats 1000000 in
theorem ints_any {w : World} {u v : Value} {l m : List Int} (h1 : Has elInt w u l) (h2 : Has elInt w v m) :
    Calls Tryd.prog 21 #[u, v] w fun e w' => e = .returned (.bool (decide (l = m))) ∧ Below w.heap.size w w' := by
  obtain ⟨va, vc, rfl, -, -, hlen⟩ := h1.shape
  obtain ⟨ua, uc, rfl, -, -, hlen2⟩ := h2.shape
  by_cases hl : l.length = m.length
  · have H1 := hide h1
    have H2 := hide h2
    have HE := hide hl
    clear h1 h2
    rw [← hl] at H2 ⊢
    clear hl hlen2
    go_enter Tryd.func21, Tryd.ntmps21
    go_wp2
    go_loopw [5] (fun i wl => ∃ k : Nat, k ≤ l.length ∧ i = .int .i64 k ∧ Hid (∀ i, i < k → l[i]? = m[i]?) ∧ Hid (Below w.heap.size w wl)) (fun i _ => l.length - (intOf i).toNat)
    case atStart => exact ⟨0, by omega, rfl, fun i h => by omega, Below.refl _ _⟩
    case round =>
      obtain ⟨k, hk, rfl, HK, HB⟩ := hrel
      by_cases hlt : k < l.length
      · have hi : (k : Int) < (l.length : Int) := by omega
        have hi0 : (0 : Int) ≤ (k : Int) := by omega
        obtain ⟨b, bo, rfl, -, -, hrow⟩ := H1.out.row (by omega)
        obtain ⟨c, co, rfl, -, -, krow⟩ := H2.out.row (by have := HE.out; omega)
        obtain ⟨t, hx⟩ : ∃ t, l[k]? = some t := ⟨_, List.getElem?_eq_getElem hlt⟩
        obtain ⟨s, hy⟩ : ∃ s, m[k]? = some s := ⟨_, List.getElem?_eq_getElem (by have := HE.out; omega)⟩
        have y0 := over_cell (kept_cell HB.out (hrow k t hx 0 _ rfl))
        have z0 := over_cell (kept_cell HB.out (krow k s hy 0 _ rfl))
        simp only [elInt, Nat.add_zero, Nat.mul_one] at y0 z0
        have HX := hide hx
        have HY := hide hy
        clear hrow hx krow hy
        by_cases he : t = s
        · subst he
          have hq : (t != t) = false := by simp
          go_wp2
          refine wp_region_over (fun W => W = wr) (by kernel_rfl) (by kernel_rfl) rfl ?_
          rintro W rfl
          repeat (go_big_quiet_step (first | fail))
          refine wpQuiet_nil ?_
          rintro _ ⟨z, rfl⟩
          go_wp2
          go_roundw
          case rel => exact ⟨k + 1, by omega, by go_num, upto_next HK.out (by rw [HX.out, HY.out]), HB.out.trans ((over_below W z).mono HB.out.size)⟩
          case measure => simp [intOf]; omega
        · have hq : (t != s) = true := by simp [he]
          have HN : Hid (decide (l = m) = false) := by
            show _ = _
            rw [decide_eq_false_iff_not]
            intro h
            have h1 := HX.out
            rw [h, HY.out] at h1
            exact he (by simpa using h1.symm)
          go_wp2
          refine wp_region_over (fun W => W = wr) (by kernel_rfl) (by kernel_rfl) rfl ?_
          rintro W rfl
          repeat (go_big_quiet_step (first | fail))
          refine wpQuiet_nil ?_
          rintro _ ⟨z, rfl⟩
          go_wp2
          go_ret
          exact ⟨by rw [HN.out]; rfl, HB.out.trans ((over_below W z).mono HB.out.size)⟩
      · obtain rfl : k = l.length := by omega
        have hi : ¬ (l.length : Int) < (l.length : Int) := by omega
        have HN : Hid (decide (l = m) = true) := decide_eq_true (ext_of HE.out HK.out)
        go_wp2
        go_ret
        exact ⟨by rw [HN.out]; rfl, HB.out⟩
  · have HN : Hid (decide (l = m) = false) := by
      show _ = _
      rw [decide_eq_false_iff_not]
      intro h
      rw [h] at hl
      exact hl rfl
    have hl1 : ((l.length : Int) != (m.length : Int)) = true := by simp; omega
    have hl2 : ¬ (l.length : Int) = (m.length : Int) := by omega
    clear h1 h2
    obtain ⟨x, hx⟩ : ∃ x, l.length = x := ⟨_, rfl⟩
    obtain ⟨y, hy⟩ : ∃ y, m.length = y := ⟨_, rfl⟩
    rw [hx] at hl hl1 hl2 ⊢
    rw [hy] at hl hl1 hl2 ⊢
    go_enter Tryd.func21, Tryd.ntmps21
    go_wp2
    go_ret
    exact ⟨by rw [HN.out]; rfl, Below.refl _ _⟩

set_option maxHeartbeats 1000000 in
theorem same_any {w : World} {q p : Int} {u v : Value} {l m : List Int} (h1 : Has elInt w u l) (h2 : Has elInt w v m) :
    Calls Tryd.prog 7 #[.agg #[.int .i64 q, u], .agg #[.int .i64 p, v]] w fun e w' => e = .returned (.bool (decide (q = p ∧ l = m))) ∧ Below w.heap.size w w' := by
  obtain ⟨va, vc, rfl, -, -, hlen⟩ := h1.shape
  obtain ⟨ua, uc, rfl, -, -, hlen2⟩ := h2.shape
  have HB0 : Hid (Below w.heap.size w ((w.alloc (.cells #[.int .i64 q, .slice va l.length vc] 25)).alloc (.cells #[.int .i64 p, .slice ua m.length uc] 25))) := belot (belo1 w _) (belo1 _ _)
  obtain ⟨r, hr⟩ : ∃ r, decide (q = p ∧ l = m) = r := ⟨_, rfl⟩
  rw [hr]
  by_cases hqp : q = p
  · subst hqp
    have HR : Hid (decide (l = m) = r) := by show _ = _; rw [← hr]; simp
    clear hr
    by_cases hl : l.length = m.length
    · have H1 := hide (h1.kept HB0.out)
      have H2 := hide (h2.kept HB0.out)
      have HE := hide hl
      clear h1 h2
      rw [← hl] at H2 HB0 H1 ⊢
      clear hl hlen2
      obtain ⟨W0, hW0⟩ : ∃ W0, W0 = (w.alloc (.cells #[.int .i64 q, .slice va l.length vc] 25)).alloc (.cells #[.int .i64 q, .slice ua l.length uc] 25) := ⟨_, rfl⟩
      have b1 : W0.cell? ⟨w.heap.size, 1, none⟩ = some (.slice va l.length vc) := by
        rw [hW0]
        exact kept_cell (belo1 _ _) (new_cells (cs := #[.int .i64 q, .slice va l.length vc]) 1 _ rfl)
      have b2 : W0.cell? ⟨w.heap.size + 1, 1, none⟩ = some (.slice ua l.length uc) := by
        rw [hW0]
        have := new_cells (w := w.alloc (.cells #[.int .i64 q, .slice va l.length vc] 25)) (t := 25) (cs := #[.int .i64 q, .slice ua l.length uc]) 1 _ rfl
        simp only [size_alloc10] at this
        exact this
      go_enter Tryd.func7, Tryd.ntmps7
      go_wp2
      rw [← hW0] at HB0 H1 H2 ⊢
      clear hW0
      go_loopw [5] (fun i wl => ∃ k : Nat, k ≤ l.length ∧ i = .int .i64 k ∧ Hid (∀ i, i < k → l[i]? = m[i]?) ∧ Hid (Below W0.heap.size W0 wl)) (fun i _ => l.length - (intOf i).toNat)
      case atStart => exact ⟨0, by omega, rfl, fun i h => by omega, Below.refl _ _⟩
      case round =>
        obtain ⟨k, hk, rfl, HK, HB⟩ := hrel
        have b1k := kept_cell HB.out b1
        have b2k := kept_cell HB.out b2
        by_cases hlt : k < l.length
        · have hi : (k : Int) < (l.length : Int) := by omega
          have hi0 : (0 : Int) ≤ (k : Int) := by omega
          obtain ⟨b, bo, rfl, -, -, hrow⟩ := H1.out.row (by omega)
          obtain ⟨c, co, rfl, -, -, krow⟩ := H2.out.row (by have := HE.out; omega)
          obtain ⟨t, hx⟩ : ∃ t, l[k]? = some t := ⟨_, List.getElem?_eq_getElem hlt⟩
          obtain ⟨s, hy⟩ : ∃ s, m[k]? = some s := ⟨_, List.getElem?_eq_getElem (by have := HE.out; omega)⟩
          have y0 := over_cell (kept_cell HB.out (hrow k t hx 0 _ rfl))
          have z0 := over_cell (kept_cell HB.out (krow k s hy 0 _ rfl))
          have b1o := over_cell b1k
          have b2o := over_cell b2k
          simp only [elInt, Nat.add_zero, Nat.mul_one] at y0 z0
          have HX := hide hx
          have HY := hide hy
          clear hrow hx krow hy
          by_cases he : t = s
          · subst he
            have hq : (t != t) = false := by simp
            go_wp2
            refine wp_region_over (fun W => W = wr) (by kernel_rfl) (by kernel_rfl) rfl ?_
            rintro W rfl
            repeat (go_big_quiet_step (first | fail))
            refine wpQuiet_nil ?_
            rintro _ ⟨z, rfl⟩
            go_wp2
            go_roundw
            case rel => exact ⟨k + 1, by omega, by go_num, upto_next HK.out (by rw [HX.out, HY.out]), HB.out.trans ((over_below W z).mono HB.out.size)⟩
            case measure => simp [intOf]; omega
          · have hq : (t != s) = true := by simp [he]
            have HN : Hid (decide (l = m) = false) := by
              show _ = _
              rw [decide_eq_false_iff_not]
              intro h
              have h1 := HX.out
              rw [h, HY.out] at h1
              exact he (by simpa using h1.symm)
            go_wp2
            refine wp_region_over (fun W => W = wr) (by kernel_rfl) (by kernel_rfl) rfl ?_
            rintro W rfl
            repeat (go_big_quiet_step (first | fail))
            refine wpQuiet_nil ?_
            rintro _ ⟨z, rfl⟩
            go_wp2
            go_ret
            exact ⟨by rw [← HR.out, HN.out]; rfl, belot HB0.out (HB.out.trans ((over_below W z).mono HB.out.size))⟩
        · obtain rfl : k = l.length := by omega
          have hi : ¬ (l.length : Int) < (l.length : Int) := by omega
          have HN : Hid (decide (l = m) = true) := decide_eq_true (ext_of HE.out HK.out)
          go_wp2
          go_ret
          exact ⟨by rw [← HR.out, HN.out]; rfl, belot HB0.out HB.out⟩
    · have HN : Hid (r = false) := by
        show _ = _
        rw [← HR.out, decide_eq_false_iff_not]
        intro h
        rw [h] at hl
        exact hl rfl
      clear HR
      have hl1 : ((l.length : Int) != (m.length : Int)) = true := by simp; omega
      have hl2 : ¬ (l.length : Int) = (m.length : Int) := by omega
      clear h1 h2
      obtain ⟨x, hx⟩ : ∃ x, l.length = x := ⟨_, rfl⟩
      obtain ⟨y, hy⟩ : ∃ y, m.length = y := ⟨_, rfl⟩
      rw [hx] at hl hl1 hl2 HB0 ⊢
      rw [hy] at hl hl1 hl2 HB0 ⊢
      go_enter Tryd.func7, Tryd.ntmps7
      go_wp2
      go_ret
      exact ⟨by rw [HN.out]; rfl, HB0.out⟩
  · have HN : Hid (r = false) := by
      show _ = _
      rw [← hr, decide_eq_false_iff_not]
      exact fun h => hqp h.1
    clear hr
    have hq1 : (q != p) = true := by simp [hqp]
    clear h1 h2
    go_enter Tryd.func7, Tryd.ntmps7
    go_wp2
    go_ret
    exact ⟨by rw [HN.out]; rfl, HB0.out⟩

/-- What a shape (or a row) says, wherever it lies. -/
def rk (r : Roe) : Int × List Int := (r.q, r.l)

end Go.Proofs.YtgligipgjakecaaDoor
