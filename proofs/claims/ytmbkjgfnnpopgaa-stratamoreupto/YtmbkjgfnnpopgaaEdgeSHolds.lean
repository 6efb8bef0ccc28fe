/- strata.Holds. -/
import Derived.Test.YtmbkjgfnnpopgaaEdgeHolds
namespace Go.Proofs.Ytmbkjgfnnpopgaa
set_option linter.unusedSimpArgs false
set_option linter.unusedVariables false
open Go.RowKit
set_option maxRecDepth 100000

set_option maxHeartbeats 1000000 in
theorem holds_any {w : World} {v u : Value} {es : List Edg} {ls : List Int} (h : Has elEdg w v es) (hu : Has elInt w u ls) (n : Int) :
    Calls Try.prog 27 #[.int .i64 n, v, u] w fun e w' => e = .returned (.bool (holdsP n es ls)) ∧ Below w.heap.size w w' := by
  have HF := hide (fit_any h n)
  obtain ⟨va, vc, rfl, -, -, hlen⟩ := h.shape
  obtain ⟨ua, uc, rfl, -, -, hlen2⟩ := hu.shape
  have HL := hide h
  have HU := hide hu
  clear h hu
  unfold holdsP
  cases hfit : fitP n es with
  | false =>
    rw [hfit] at HF
    go_enter Try.func27, Try.ntmps27
    go_wp2_with (go_at_call 39; refine HF.out.mono ?_; rintro e w2 ⟨rfl, h2⟩; have HB2 := hide h2; clear h2)
    go_ret
    exact ⟨rfl, HB2.out⟩
  | true =>
    rw [hfit] at HF
    obtain ⟨⟨hn0, hn1⟩, hin⟩ := fit_in hfit
    have HI := hide hin
    clear hin hfit hn0 hn1
    by_cases hq : (ls.length : Int) = n
    · subst hq
      have hq' : ((ls.length : Int) != (ls.length : Int)) = false := by simp
      have HE : Hid ((true && (((ls.length : Int) == (ls.length : Int)) && (!ls.any neg0 && !es.any (eBad ls)))) = (!ls.any neg0 && !es.any (eBad ls))) := by show _ = _; simp
      rw [HE.out]
      obtain ⟨a, ha⟩ : ∃ a, ls.any neg0 = a := ⟨_, rfl⟩
      obtain ⟨c, hc⟩ : ∃ c, es.any (eBad ls) = c := ⟨_, rfl⟩
      rw [ha, hc]
      have HA := hide ha
      have HC := hide hc
      clear ha hc HE
      go_enter Try.func27, Try.ntmps27
      go_wp2_with (go_at_call 39; refine HF.out.mono ?_; rintro e w2 ⟨rfl, h2⟩; have HB2 := hide h2; clear h2)
      go_loopw [7, 21] (fun _ i wl => ∃ k : Nat, k ≤ ls.length ∧ i = .int .i64 k ∧ Hid (∀ x ∈ ls.take k, neg0 x = false) ∧ Hid (Below w.heap.size w wl)) (fun _ i _ => ls.length - (intOf i).toNat)
      case atStart => exact ⟨0, by omega, rfl, by show ∀ x ∈ ls.take 0, neg0 x = false; simp, HB2⟩
      case round =>
        obtain ⟨k, hk, rfl, HK, HB⟩ := hrel
        clear HB2
        by_cases hlt : k < ls.length
        · have hi : (k : Int) < (ls.length : Int) := by omega
          have hi0 : (0 : Int) ≤ (k : Int) := by omega
          obtain ⟨b, off, rfl, -, -, hrow⟩ := HU.out.row (by omega)
          obtain ⟨x, hx⟩ : ∃ x, ls[k]? = some x := ⟨_, List.getElem?_eq_getElem hlt⟩
          have y0 := kept_cell HB.out (hrow k x hx 0 _ rfl)
          simp only [elInt, Nat.add_zero, Nat.mul_one] at y0
          have HX := hide hx
          clear hrow hx
          cases he : neg0 x with
          | true =>
            have HE : Hid (a = true) := by show _ = _; rw [← HA.out]; exact any_at HX.out he
            unfold neg0 at he
            go_wp2
            go_ret
            exact ⟨by rw [HE.out]; rfl, HB.out⟩
          | false =>
            have HF2 := hide (all_snoc HX.out HK.out he)
            unfold neg0 at he
            go_wp2
            go_roundw
            case rel => exact ⟨k + 1, by omega, by go_num, HF2, HB⟩
            case measure => simp [intOf]; omega
        · obtain rfl : k = ls.length := by omega
          have hi : ¬ (ls.length : Int) < (ls.length : Int) := by omega
          have HEa : Hid (a = false) := by show _ = _; rw [← HA.out]; exact any_no HK.out
          clear HA HK
          go_wp2
          go_loopw [9, 32] (fun _ i wl => ∃ k : Nat, k ≤ es.length ∧ i = .int .i64 k ∧ Hid (∀ x ∈ es.take k, eBad ls x = false) ∧ Hid (Below w.heap.size w wl)) (fun _ i _ => es.length - (intOf i).toNat)
          case atStart => exact ⟨0, by omega, rfl, by show ∀ x ∈ es.take 0, eBad ls x = false; simp, HB⟩
          case round =>
            clear HB
            obtain ⟨k, hk, rfl, HK, HB⟩ := hrel
            by_cases hlt : k < es.length
            · have hi : (k : Int) < (es.length : Int) := by omega
              have hi0 : (0 : Int) ≤ (k : Int) := by omega
              obtain ⟨b, off, rfl, -, -, hrow⟩ := HL.out.row (by omega)
              obtain ⟨x, hx⟩ : ∃ x, es[k]? = some x := ⟨_, List.getElem?_eq_getElem hlt⟩
              have y0 := kept_cell HB.out (hrow k x hx 0 _ rfl)
              have y1 := kept_cell HB.out (hrow k x hx 1 _ rfl)
              have y2 := kept_cell HB.out (hrow k x hx 2 _ rfl)
              have y3 := kept_cell HB.out (hrow k x hx 3 _ rfl)
              simp only [elEdg, Nat.add_zero] at y0 y1 y2 y3
              obtain ⟨g1, g2, g3, g4⟩ := HI.out x (List.mem_of_getElem? hx)
              have HX := hide hx
              clear hrow hx
              obtain ⟨f, t, g, r⟩ := x
              obtain ⟨kf, rfl⟩ : ∃ kf : Nat, f = kf := ⟨f.toNat, by dsimp only at g1; omega⟩
              obtain ⟨kt, rfl⟩ : ∃ kt : Nat, t = kt := ⟨t.toNat, by dsimp only at g3; omega⟩
              dsimp only at g1 g2 g3 g4 y0 y1 y2 y3
              obtain ⟨ub, uo, rfl, -, -, urow⟩ := HU.out.row (by omega)
              obtain ⟨lf, hlf⟩ : ∃ x, ls[kf]? = some x := ⟨_, List.getElem?_eq_getElem (by omega)⟩
              obtain ⟨lt, hlt'⟩ : ∃ x, ls[kt]? = some x := ⟨_, List.getElem?_eq_getElem (by omega)⟩
              have z0 := kept_cell HB.out (urow kf lf hlf 0 _ rfl)
              have z1 := kept_cell HB.out (urow kt lt hlt' 0 _ rfl)
              simp only [elInt, Nat.add_zero, Nat.mul_one] at z0 z1
              have HD : Hid (eBad ls ⟨kf, kt, g, r⟩ = (decide (lt < lf) || (g && (lt == lf)))) := by
                show _ = _
                unfold eBad lv
                simp [hlf, hlt']
              clear urow hlf hlt'
              have hb1 := belo1 wr (.cells #[.int .i64 kf, .int .i64 kt, .bool g, .int .i64 r] 39)
              obtain ⟨Y, hY⟩ : ∃ Y, Y = wr.alloc (.cells #[.int .i64 kf, .int .i64 kt, .bool g, .int .i64 r] 39) := ⟨_, rfl⟩
              rw [← hY] at hb1
              have HBa := hide (HB.out.trans (hb1.mono HB.out.size))
              have c0 := over_cell (kept_cell hb1 z0)
              have c1 := over_cell (kept_cell hb1 z1)
              have e0 : ∀ x, (over Y x).cell? ⟨wr.heap.size, 0, none⟩ = some (.int .i64 kf) := over_cell (by rw [hY]; simp)
              have e1 : ∀ x, (over Y x).cell? ⟨wr.heap.size, 1, none⟩ = some (.int .i64 kt) := over_cell (by rw [hY]; simp)
              have e2 : ∀ x, (over Y x).cell? ⟨wr.heap.size, 2, none⟩ = some (.bool g) := over_cell (by rw [hY]; simp)
              clear hb1 z0 z1
              go_wp2
              rw [← hY]
              clear hY y0 y1 y2 y3
              cases he : eBad ls ⟨kf, kt, g, r⟩ with
              | true =>
                have HE : Hid (c = true) := by show _ = _; rw [← HC.out]; exact any_at HX.out he
                have hd := HD.out
                rw [he] at hd
                clear he HD
                cases h1 : decide (lt < lf) with
                | true =>
                  clear hd
                  refine wp_region_over (fun W => W = Y) (by kernel_rfl) (by kernel_rfl) rfl ?_
                  rintro W rfl
                  repeat (go_big_quiet_step (first | fail))
                  refine wpQuiet_nil ?_
                  rintro _ ⟨z, rfl⟩
                  have HBz := hide (HBa.out.trans ((over_below W z).mono HBa.out.size))
                  go_wp2
                  go_ret
                  exact ⟨by rw [HEa.out, HE.out]; rfl, HBz.out⟩
                | false =>
                  rw [h1] at hd
                  simp only [Bool.false_or] at hd
                  replace hd := hd.symm
                  rw [Bool.and_eq_true] at hd
                  obtain ⟨rfl, h2⟩ := hd
                  refine wp_region_over (fun W => W = Y) (by kernel_rfl) (by kernel_rfl) rfl ?_
                  rintro W rfl
                  repeat (go_big_quiet_step (first | fail))
                  refine wpQuiet_nil ?_
                  rintro _ ⟨z, rfl⟩
                  have HBz := hide (HBa.out.trans ((over_below W z).mono HBa.out.size))
                  go_wp2
                  go_ret
                  exact ⟨by rw [HEa.out, HE.out]; rfl, HBz.out⟩
              | false =>
                have HF2 := hide (all_snoc HX.out HK.out he)
                have hd := HD.out
                rw [he] at hd
                replace hd := hd.symm
                rw [Bool.or_eq_false_iff] at hd
                obtain ⟨h1, h2⟩ := hd
                clear he HD
                cases g
                · clear h2
                  refine wp_region_over (fun W => W = Y) (by kernel_rfl) (by kernel_rfl) rfl ?_
                  rintro W rfl
                  repeat (go_big_quiet_step (first | fail))
                  refine wpQuiet_nil ?_
                  rintro _ ⟨z, rfl⟩
                  have HBz := hide (HBa.out.trans ((over_below W z).mono HBa.out.size))
                  go_wp2
                  go_roundw
                  case rel => exact ⟨k + 1, by omega, by go_num, HF2, HBz⟩
                  case measure => simp [intOf]; omega
                · simp only [Bool.true_and] at h2
                  refine wp_region_over (fun W => W = Y) (by kernel_rfl) (by kernel_rfl) rfl ?_
                  rintro W rfl
                  repeat (go_big_quiet_step (first | fail))
                  refine wpQuiet_nil ?_
                  rintro _ ⟨z, rfl⟩
                  have HBz := hide (HBa.out.trans ((over_below W z).mono HBa.out.size))
                  go_wp2
                  go_roundw
                  case rel => exact ⟨k + 1, by omega, by go_num, HF2, HBz⟩
                  case measure => simp [intOf]; omega
            · obtain rfl : k = es.length := by omega
              have hi : ¬ (es.length : Int) < (es.length : Int) := by omega
              have HE : Hid (c = false) := by show _ = _; rw [← HC.out]; exact any_no HK.out
              go_wp2
              go_ret
              exact ⟨by rw [HEa.out, HE.out]; rfl, HB.out⟩
    · have hq' : ((ls.length : Int) != n) = true := by simpa using hq
      have hq2 : ((ls.length : Int) == n) = false := by simpa using hq
      rw [hq2]
      clear hq
      go_enter Try.func27, Try.ntmps27
      go_wp2_with (go_at_call 39; refine HF.out.mono ?_; rintro e w2 ⟨rfl, h2⟩; have HB2 := hide h2; clear h2)
      go_ret
      exact ⟨rfl, HB2.out⟩
end Go.Proofs.Ytmbkjgfnnpopgaa
