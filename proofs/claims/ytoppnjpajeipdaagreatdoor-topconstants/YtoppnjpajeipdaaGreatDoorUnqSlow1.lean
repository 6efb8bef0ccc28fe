/- strconv.unquote at a string that begins with a double quote: the way with escapes. -/
import Derived.Test.YtoppnjpajeipdaaGreatDoorProg
import Derived.Test.YtoppnjpajeipdaaGreatDoorUnqLoop
namespace Go.Proofs.YtoppnjpajeipdaaGreatDoor
set_option linter.unusedSimpArgs false
set_option linter.unusedVariables false
open Go.RowKit

set_option maxHeartbeats 8000000 in
set_option maxRecDepth 100000 in
theorem unq_slow1 (s : ByteArray) (w : World) (hs : s.size ≤ 2000000) (h1 : 1 < s.size) (h0 : s[0].toNat = 34) (j : Nat) (hj : idxZ (s.extract 1 s.size) 34 = j) (hj2 : j + 2 ≤ s.size) (hl : SynLaid w) (hu : UtfLaid w) (ha : hasC (s.extract 0 (j + 2)) 92 = true)
    (UC : ∀ (s : ByteArray) (w : World), s.size ≤ 140737488351232 → 0 < s.size → SynLaid w → UtfLaid w → Calls Tryz.prog 75 #[.string s, .int .u8 34] w fun e w' => UAns s e ∧ Below w.heap.size w w') :
    Calls Tryz.prog 53 #[.string s, .bool true] w fun e w' => QAns s e ∧ Below w.heap.size w w' := by
  obtain ⟨i0, hi0, hz0, hy1, hy2⟩ := info_parts Tryz.infoByte
  have HI := hide (fun W => index_any (s.extract 1 s.size) 34 W)
  rw [hj] at HI
  have HC := hide (fun W => contains_any (s.extract 0 (j + 2)) 92 (by decide) W)
  have HD := hide (fun W => contains_any (s.extract 0 (j + 2)) 10 (by decide) W)
  have HU := hide hu
  have HL := hide hl
  have HUC := hide UC
  have HV : Hid (∀ W, Below w.heap.size w W → Calls Tryz.prog 73 #[.string (s.extract 1 (j + 1))] W fun e w' => e = .returned (.bool (Lib.validD (s.extract 1 (j + 1)).data.toList)) ∧ Below W.heap.size W w') :=
    fun W h => valid8_any (s.extract 1 (j + 1)) W (by rw [ByteArray.size_extract]; omega) (HU.out.kept h)
  have g0 : (1 : Int) ≤ (s.size : Int) := by omega
  have g1 : ¬ (s.size : Int) < 2 := by omega
  have g2 : (0 : Int) < (s.size : Int) := by omega
  have g3 : ((j : Int) + 2) ≤ (s.size : Int) := by omega
  have g4 : ¬ (j : Int) < 0 := by omega
  have hx : (s[0].toNat : Int) = 34 := by omega
  have he : (s.extract 1 s.size).size = s.size - 1 := by rw [ByteArray.size_extract]; omega
  clear hj h0 hu hl UC
  rw [ha] at HC
  clear ha
  go_enter Tryz.func53, Tryz.ntmps53
  go_wp2_with (first
    | (go_at_call 71; refine (HI.out _).mono ?_; rintro e w' ⟨rfl, hw'⟩; have hw' := hw'.symm; subst hw')
    | (go_at_call 72; with_reducible refine (HC.out _).mono ?_; rintro e w' ⟨rfl, hw'⟩; have hw' := hw'.symm; subst hw')
    | (go_at_call 72; with_reducible refine (HD.out _).mono ?_; rintro e w' ⟨rfl, hw'⟩; have hw' := hw'.symm; subst hw')
    | (go_at_call 73; refine (HV.out _ (Below.refl _ _)).mono ?_; rintro e w1 ⟨rfl, hb1⟩)
    | (at_make; refine wpList_make_own _ rfl _ _ 56 rfl w.heap.size 5 i0 (.int .u8 0) 1 Tryz.underlying56 hi0 hz0 hy1 _ _ _ (3 * (j + 2) / 2) rfl rfl (by go_num) (by rw [hy2]; omega) (by unfold maxLen; omega) (by first | exact Nat.le_refl _ | exact hb1.size) ?_; intro w2 hown hgrow; have HB0 : Hid (Below w.heap.size w w2) := (by first | exact (Below.refl _ _).grown hgrow (Nat.le_refl _) (by simp) | exact hb1.grown hgrow hb1.size (by simp)); have HO0 := hide hown; clear hown hgrow))
  clear HI HC HD HV g0 g2 g3
  go_loopw [0, 14] (fun tv v wr => ∃ (t : ByteArray) (vs : List Int), tv = .string t ∧ t.size ≤ s.size ∧ vs.length + 4 * t.size ≤ 4 * s.size ∧ Hid (wr.ownsRow w.heap.size 5 1 v vs.length (vs.map (Value.int .u8))) ∧ Hid (Below w.heap.size w wr) ∧ Hid (Left s t vs)) (fun tv _ _ => strLen tv)
  case atStart => exact ⟨_, [], rfl, by omega, by simp; omega, HO0.out, HB0.out, Left.start⟩
  case round =>
    clear HO0 HB0
    obtain ⟨t, vs, rfl, ht, hvs, HO, HB, HF⟩ := hrel
    obtain ⟨ao, cap, rfl⟩ := own_shape HO.out
    obtain ⟨ty, p, hc⟩ := HL.out.kept HB.out
    by_cases hz : t.size = 0
    · have hz1 : ¬ (0 : Int) < (t.size : Int) := by omega
      have HQ := hide (HF.out.none hz)
      clear HUC hz
      go_wp2
      go_region
      all_goals (try go_wp2)
      all_goals exact bodyPost_ret (v := .tuple #[.string ⟨#[]⟩, .string s, .iface ty p]) (by simp [results, Tryz.results53, go_sem]) rfl ⟨QAns.bad _ _ _ _ rfl ⟨Nat.le_refl _, HQ.out⟩, HB.out.drew⟩
    · have hz1 : (0 : Int) < (t.size : Int) := by omega
      have hz2 : 0 < t.size := by omega
      clear hz
      by_cases h34 : t[0].toNat = 34
      · have hq : (t[0].toNat : Int) = 34 := by omega
        have HQ := hide (HF.out.quote hz2 h34)
        have hconv := text_string HO.out
        clear HUC h34
        go_wp2
        exact bodyPost_ret (v := .tuple #[.string (strOf vs), .string (t.extract 1 t.size), .nilIface]) (by simp [results, Tryz.results53, go_sem]) rfl ⟨QAns.okk _ _ rfl ⟨by rw [strOf_size]; omega, by rw [ByteArray.size_extract]; omega, HQ.out⟩, HB.out⟩
      · have HU1 := hide (HUC.out t wr (by omega) hz2 (HL.out.kept HB.out) (HU.out.kept HB.out))
        by_cases h10 : t[0].toNat = 10
        · have hq : (t[0].toNat : Int) = 10 := by omega
          have HQ := hide (HF.out.bad hz2 h34 (.inr h10))
          clear h10 h34 hc HUC HF
          go_wp2_with fail
          refine HU1.out.mono ?_
          rintro e w1 ⟨hans, hb1⟩
          have HB1 := hide (HB.out.trans (hb1.mono HB.out.size))
          obtain ⟨ty, p, hc⟩ := HL.out.kept HB1.out
          clear hb1 HU1 HB HO
          rcases hans with ⟨v, mb, t', rfl, hok⟩ | ⟨v, mb, t', ty', p', rfl, hbad⟩
          · clear hok
            go_wp2
            go_region
            all_goals (try go_wp2)
            all_goals exact bodyPost_ret (v := .tuple #[.string ⟨#[]⟩, .string s, .iface ty p]) (by simp [results, Tryz.results53, go_sem]) rfl ⟨QAns.bad _ _ _ _ rfl ⟨Nat.le_refl _, HQ.out⟩, HB1.out.drew⟩
          · clear hbad
            go_wp2
            go_region
            all_goals (try go_wp2)
            all_goals exact bodyPost_ret (v := .tuple #[.string ⟨#[]⟩, .string s, .iface ty p]) (by simp [results, Tryz.results53, go_sem]) rfl ⟨QAns.bad _ _ _ _ rfl ⟨Nat.le_refl _, HQ.out⟩, HB1.out.drew⟩
        · obtain ⟨x, hq⟩ : ∃ x : Int, (t[0].toNat : Int) = x := ⟨_, rfl⟩
          have x34 : (x == 34) = false := by simp; omega
          have x10 : (x == 10) = false := by simp; omega
          clear h10 hc HUC
          go_wp2_with fail
          refine HU1.out.mono ?_
          rintro e w1 ⟨hans, hb1⟩
          have HB1 := hide (HB.out.trans (hb1.mono HB.out.size))
          obtain ⟨ty, p, hc⟩ := HL.out.kept HB1.out
          have HO1 := hide (own_kept HO.out hb1)
          clear hb1 HU1 HO HB
          rcases hans with ⟨v, mb, t', rfl, hok⟩ | ⟨v, mb, t', ty', p', rfl, hbad⟩
          · obtain ⟨HF1, HF2⟩ := HF.out.ok hok hz2 h34
            have HF1 := hide HF1
            have HF2 := hide HF2
            have hlt := hok.1
            have hrg := hide hok.2.1
            clear hc HF hok h34
            by_cases hv : v < 128
            · have HF3 : Hid (Left s t' (vs ++ [v % 256])) := by
                cases mb with
                | true => exact HF2.out rfl _
                | false => exact HF1.out rfl
              clear HF1 HF2
              go_wp2_with (at_builtin; refine wpList_append_lies _ rfl _ _ 56 rfl w.heap.size 5 i0 (.int .u8 0) 1 1 Tryz.underlying56 hi0 hz0 hy1 hy2 rfl (by decide) (.slice ao vs.length cap) vs.length (vs.map (Value.int .u8)) rfl (World.ownsRow.alloc HO1.out _) ⟨w1.heap.size, 0, none⟩ 1 1 (([v % 256] : List Int).map (Value.int .u8)) rfl rfl (news_bytes w1 [v % 256]) (by simp [Value.oneCell']) (by decide) (by unfold maxLen; omega) (by omega) (by have := HB1.out.size; simp; omega) (w1.heap.size + 1) (by simp) ?_; intro gg cap' w3 hown1 hgrow hat hlt1)
              have HB3 := hide (grown_below HB1.out HB1.out.size HO1.out hgrow)
              have HO3 : Hid (w3.ownsRow w.heap.size 5 1 (.slice (some ⟨gg, 0, none⟩) (vs.length + 1) cap') (vs ++ [v % 256]).length ((vs ++ [v % 256]).map (Value.int .u8))) := by show World.ownsRow _ _ _ _ _ _ _; rw [List.length_append, List.map_append]; exact hown1
              clear hown1 hgrow hat hlt1 HO1 HB1
              go_wp2
              go_roundw
              case rel => exact ⟨t', vs ++ [v % 256], rfl, by omega, by rw [List.length_append, List.length_singleton]; omega, HO3.out, HB3.out, HF3.out⟩
              case measure => simp [strLen]; omega
            · cases mb with
              | false =>
                have HF3 := hide (HF1.out rfl)
                clear HF1 HF2
                go_wp2_with (at_builtin; refine wpList_append_lies _ rfl _ _ 56 rfl w.heap.size 5 i0 (.int .u8 0) 1 1 Tryz.underlying56 hi0 hz0 hy1 hy2 rfl (by decide) (.slice ao vs.length cap) vs.length (vs.map (Value.int .u8)) rfl (World.ownsRow.alloc HO1.out _) ⟨w1.heap.size, 0, none⟩ 1 1 (([v % 256] : List Int).map (Value.int .u8)) rfl rfl (news_bytes w1 [v % 256]) (by simp [Value.oneCell']) (by decide) (by unfold maxLen; omega) (by omega) (by have := HB1.out.size; simp; omega) (w1.heap.size + 1) (by simp) ?_; intro gg cap' w3 hown1 hgrow hat hlt1)
                have HB3 := hide (grown_below HB1.out HB1.out.size HO1.out hgrow)
                have HO3 : Hid (w3.ownsRow w.heap.size 5 1 (.slice (some ⟨gg, 0, none⟩) (vs.length + 1) cap') (vs ++ [v % 256]).length ((vs ++ [v % 256]).map (Value.int .u8))) := by show World.ownsRow _ _ _ _ _ _ _; rw [List.length_append, List.map_append]; exact hown1
                clear hown1 hgrow hat hlt1 HO1 HB1
                go_wp2
                go_roundw
                case rel => exact ⟨t', vs ++ [v % 256], rfl, by omega, by rw [List.length_append, List.length_singleton]; omega, HO3.out, HB3.out, HF3.out⟩
                case measure => simp [strLen]; omega
              | true =>
                have hr := hrg.out rfl
                have HA := hide (apprune_any w.heap.size (.slice ao vs.length cap) vs v hr w1 HO1.out (by omega) HB1.out.size)
                have HG := hide (HF2.out rfl)
                clear HF1 HF2 hrg hr
                go_wp2_with (go_at_call 76; refine HA.out.mono ?_; rintro e w3 ⟨v', us, rfl, hus, hown3, hb3⟩)
                have HF3 : Hid (Left s t' (vs ++ us)) := HG.out us
                have HO3 := hide hown3
                have HB3 := hide (HB1.out.trans hb3)
                clear HG hown3 hb3 HO1 HB1 HA
                go_wp2
                go_roundw
                case rel => exact ⟨t', vs ++ us, rfl, by omega, by rw [List.length_append]; omega, HO3.out, HB3.out, HF3.out⟩
                case measure => simp [strLen]; omega
          · have HQ := hide (HF.out.bad hz2 h34 (.inl hbad))
            clear h34 hbad HF
            go_wp2
            go_region
            all_goals (try go_wp2)
            all_goals exact bodyPost_ret (v := .tuple #[.string ⟨#[]⟩, .string s, .iface ty p]) (by simp [results, Tryz.results53, go_sem]) rfl ⟨QAns.bad _ _ _ _ rfl ⟨Nat.le_refl _, HQ.out⟩, HB1.out.drew⟩
end Go.Proofs.YtoppnjpajeipdaaGreatDoor
