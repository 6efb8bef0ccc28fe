/- What escape of edicttop answers: as lex.escape. -/
import Derived.Test.YtplldgkdjainlaaDoorProg
import Derived.Test.YtplldgkdjainlaaDoorTopBytes
import Derived.Test.YtplldgkdjainlaaDoorLexEsc
import Derived.Test.YtplldgkdjainlaaDoorGap
import Derived.Deep.RegionHeld3
namespace Go.Proofs.YtplldgkdjainlaaDoor
set_option linter.unusedSimpArgs false
set_option linter.unusedVariables false
open Go.RowKit

theorem ext_oneT (s : ByteArray) (i k : Nat) (h : i + k < s.size) : ∃ h2 : k < (s.extract i s.size).size, (s.extract i s.size)[k] = s[i + k] := by
  have hz : (s.extract i s.size).size = s.size - i := by rw [ByteArray.size_extract]; omega
  refine ⟨by omega, ?_⟩
  have h1 : (s.extract i s.size).data.toList[k]? = some (s.extract i s.size)[k] := by
    rw [Array.getElem?_toList]
    exact Array.getElem?_eq_getElem (by show k < (s.extract i s.size).size; omega)
  rw [extract_rest] at h1
  have h2 : (rest s i)[k]? = s.data.toList[i + k]? := by unfold rest; rw [List.getElem?_drop]
  rw [h2, Array.getElem?_toList, Array.getElem?_eq_getElem (by exact h)] at h1
  exact (Option.some.inj h1).symm
theorem hexX_at (s : ByteArray) (i : Nat) (h : i + 3 < s.size) : hexX (s.extract i s.size) = match hexD s[i + 2].toNat, hexD s[i + 3].toNat with | some a, some b => (((a * 16 + b : Nat) : Int), 4) | _, _ => (0, 0) := by
  have hz : (s.extract i s.size).size = s.size - i := by rw [ByteArray.size_extract]; omega
  unfold hexX
  rw [if_neg (by omega)]
  have hl : ((s.extract i s.size).extract 2 4).data.toList = [s[i + 2], s[i + 3]] := by
    rw [ByteArray.data_extract, Array.toList_extract, List.extract_eq_take_drop, extract_rest]
    rw [rest_cons s i (by omega), rest_cons s (i + 1) (by omega), rest_cons s (i + 2) (by omega), rest_cons s (i + 3) h]
    rfl
  rw [hl]
  unfold hexU
  cases h1 : hexD s[i + 2].toNat with
  | none => rfl
  | some a =>
    simp only
    unfold hexU
    cases h2 : hexD s[i + 3].toNat with
    | none => rfl
    | some b =>
      simp only
      unfold hexU
      simp
theorem hexT_cases (n : Nat) : (hexT n = -1 ∧ hexD n = none) ∨ (0 ≤ hexT n ∧ hexT n ≤ 15 ∧ hexD n = some (hexT n).toNat) := by
  unfold hexT
  cases h : hexD n with
  | none => exact .inl ⟨rfl, rfl⟩
  | some d =>
    have : d ≤ 15 := by
      unfold hexD at h
      repeat' split at h
      all_goals first | (injection h with h; omega) | cases h
    refine .inr ⟨by show (0 : Int) ≤ (d : Int); omega, by show (d : Int) ≤ 15; omega, ?_⟩
    show some d = some ((d : Int).toNat)
    rw [Int.toNat_natCast]
def escV (s : ByteArray) (i : Nat) : Value := .tuple #[.int .u8 (escX (s.extract i s.size)).1, .int .i64 (escX (s.extract i s.size)).2]
theorem escV_of {s : ByteArray} {i : Nat} {a b : Int} (h : escX (s.extract i s.size) = (a, b)) : escV s i = .tuple #[.int .u8 a, .int .i64 b] := by unfold escV; rw [h]
theorem escX_at (s : ByteArray) (i : Nat) (h : i + 1 < s.size) : escX (s.extract i s.size) = escOf (s.extract i s.size) (s[i + 1].toNat : Int) := by
  obtain ⟨h2, e⟩ := ext_oneT s i 1 h
  unfold escX
  rw [dif_pos h2, e]

set_option maxRecDepth 100000 in
set_option maxHeartbeats 4000000 in
theorem tesc_any (s : ByteArray) (i : Nat) (w : World) (hs : s.size ≤ 140737488351232) (hi : i < s.size) :
    Calls Tryd.prog 31 #[.string s, .int .i64 i] w fun e w' => e = .returned (escV s i) ∧ Below w.heap.size w w' := by
  by_cases h1 : i + 1 < s.size
  · have h1' : (i : Int) + 1 < (s.size : Int) := by omega
    have h1'' : ¬ (s.size : Int) ≤ (i : Int) + 1 := by omega
    have hX := escX_at s i h1
    obtain ⟨b, hb⟩ : ∃ b : Int, b = (s[i + 1].toNat : Int) := ⟨_, rfl⟩
    rw [← hb] at hX
    by_cases h34 : b = 34
    · have HV := hide (escV_of (hX.trans (show escOf (s.extract i s.size) b = (34, 2) from by rw [h34]; rfl)))
      have f34 : ((s[i + 1].toNat : Int) == 34) = true := by rw [← hb, h34]; rfl
      have f92 : ((s[i + 1].toNat : Int) == 92) = false := by rw [← hb, h34]; rfl
      have f110 : ((s[i + 1].toNat : Int) == 110) = false := by rw [← hb, h34]; rfl
      have f116 : ((s[i + 1].toNat : Int) == 116) = false := by rw [← hb, h34]; rfl
      have f114 : ((s[i + 1].toNat : Int) == 114) = false := by rw [← hb, h34]; rfl
      have f120 : ((s[i + 1].toNat : Int) == 120) = false := by rw [← hb, h34]; rfl
      have hv : (s[i + 1].toNat : Int) = 34 := by rw [← hb, h34]
      clear hX hb
      go_enter Tryd.func31, Tryd.ntmps31
      go_wp2
      go_ret2
      exact ⟨by rw [HV.out]; rfl, Below.refl _ _⟩
    by_cases h92 : b = 92
    · have HV := hide (escV_of (hX.trans (show escOf (s.extract i s.size) b = (92, 2) from by rw [h92]; rfl)))
      have f34 : ((s[i + 1].toNat : Int) == 34) = false := by rw [← hb, h92]; rfl
      have f92 : ((s[i + 1].toNat : Int) == 92) = true := by rw [← hb, h92]; rfl
      have f110 : ((s[i + 1].toNat : Int) == 110) = false := by rw [← hb, h92]; rfl
      have f116 : ((s[i + 1].toNat : Int) == 116) = false := by rw [← hb, h92]; rfl
      have f114 : ((s[i + 1].toNat : Int) == 114) = false := by rw [← hb, h92]; rfl
      have f120 : ((s[i + 1].toNat : Int) == 120) = false := by rw [← hb, h92]; rfl
      have hv : (s[i + 1].toNat : Int) = 92 := by rw [← hb, h92]
      clear hX hb
      go_enter Tryd.func31, Tryd.ntmps31
      go_wp2
      go_ret2
      exact ⟨by rw [HV.out]; rfl, Below.refl _ _⟩
    by_cases h110 : b = 110
    · have HV := hide (escV_of (hX.trans (show escOf (s.extract i s.size) b = (10, 2) from by rw [h110]; rfl)))
      have f34 : ((s[i + 1].toNat : Int) == 34) = false := by rw [← hb, h110]; rfl
      have f92 : ((s[i + 1].toNat : Int) == 92) = false := by rw [← hb, h110]; rfl
      have f110 : ((s[i + 1].toNat : Int) == 110) = true := by rw [← hb, h110]; rfl
      have f116 : ((s[i + 1].toNat : Int) == 116) = false := by rw [← hb, h110]; rfl
      have f114 : ((s[i + 1].toNat : Int) == 114) = false := by rw [← hb, h110]; rfl
      have f120 : ((s[i + 1].toNat : Int) == 120) = false := by rw [← hb, h110]; rfl
      clear hX hb
      go_enter Tryd.func31, Tryd.ntmps31
      go_wp2
      go_ret2
      exact ⟨by rw [HV.out]; rfl, Below.refl _ _⟩
    by_cases h116 : b = 116
    · have HV := hide (escV_of (hX.trans (show escOf (s.extract i s.size) b = (9, 2) from by rw [h116]; rfl)))
      have f34 : ((s[i + 1].toNat : Int) == 34) = false := by rw [← hb, h116]; rfl
      have f92 : ((s[i + 1].toNat : Int) == 92) = false := by rw [← hb, h116]; rfl
      have f110 : ((s[i + 1].toNat : Int) == 110) = false := by rw [← hb, h116]; rfl
      have f116 : ((s[i + 1].toNat : Int) == 116) = true := by rw [← hb, h116]; rfl
      have f114 : ((s[i + 1].toNat : Int) == 114) = false := by rw [← hb, h116]; rfl
      have f120 : ((s[i + 1].toNat : Int) == 120) = false := by rw [← hb, h116]; rfl
      clear hX hb
      go_enter Tryd.func31, Tryd.ntmps31
      go_wp2
      go_ret2
      exact ⟨by rw [HV.out]; rfl, Below.refl _ _⟩
    by_cases h114 : b = 114
    · have HV := hide (escV_of (hX.trans (show escOf (s.extract i s.size) b = (13, 2) from by rw [h114]; rfl)))
      have f34 : ((s[i + 1].toNat : Int) == 34) = false := by rw [← hb, h114]; rfl
      have f92 : ((s[i + 1].toNat : Int) == 92) = false := by rw [← hb, h114]; rfl
      have f110 : ((s[i + 1].toNat : Int) == 110) = false := by rw [← hb, h114]; rfl
      have f116 : ((s[i + 1].toNat : Int) == 116) = false := by rw [← hb, h114]; rfl
      have f114 : ((s[i + 1].toNat : Int) == 114) = true := by rw [← hb, h114]; rfl
      have f120 : ((s[i + 1].toNat : Int) == 120) = false := by rw [← hb, h114]; rfl
      clear hX hb
      go_enter Tryd.func31, Tryd.ntmps31
      go_wp2
      go_ret2
      exact ⟨by rw [HV.out]; rfl, Below.refl _ _⟩
    have f34 : ((s[i + 1].toNat : Int) == 34) = false := by rw [← hb]; simpa using h34
    have f92 : ((s[i + 1].toNat : Int) == 92) = false := by rw [← hb]; simpa using h92
    have f110 : ((s[i + 1].toNat : Int) == 110) = false := by rw [← hb]; simpa using h110
    have f116 : ((s[i + 1].toNat : Int) == 116) = false := by rw [← hb]; simpa using h116
    have f114 : ((s[i + 1].toNat : Int) == 114) = false := by rw [← hb]; simpa using h114
    by_cases h120 : b = 120
    · have f120 : ((s[i + 1].toNat : Int) == 120) = true := by rw [← hb, h120]; rfl
      have hX2 : escX (s.extract i s.size) = hexX (s.extract i s.size) := hX.trans (by rw [h120]; rfl)
      clear h34 h92 h110 h116 h114 hX hb h120
      by_cases h3 : i + 3 < s.size
      · have h3' : (i : Int) + 3 < (s.size : Int) := by omega
        have h2' : (i : Int) + 2 < (s.size : Int) := by omega
        have hx := hexX_at s i h3
        have b2 : (0 : Int) ≤ (s[i + 2].toNat : Int) ∧ (s[i + 2].toNat : Int) ≤ 255 := by have := s[i + 2].toNat_lt; omega
        have b3 : (0 : Int) ≤ (s[i + 3].toNat : Int) ∧ (s[i + 3].toNat : Int) ≤ 255 := by have := s[i + 3].toNat_lt; omega
        have H2 := hide (thex_any (s[i + 2].toNat : Int) w b2)
        have H2b := hide (fun W => thex_any (s[i + 2].toNat : Int) W b2)
        have H3b := hide (fun W => thex_any (s[i + 3].toNat : Int) W b3)
        have H3 := hide (thex_any (s[i + 3].toNat : Int) w b3)
        simp only [Int.toNat_natCast] at H2 H3 H2b H3b
        rcases hexT_cases s[i + 2].toNat with ⟨t1, t2⟩ | ⟨t1, t2, t3⟩
        · have HV := hide (escV_of (hX2.trans (hx.trans (by rw [t2]))))
          rw [t1] at H2
          clear hX2 hx t1 t2
          go_enter Tryd.func31, Tryd.ntmps31
          go_wp2_with (first | (go_at_call 37; with_reducible refine H2.out.mono ?_; rintro e w' ⟨rfl, hw'⟩; have hw' := hw'.symm; subst hw'))
          go_ret2
          exact ⟨by rw [HV.out]; rfl, Below.refl _ _⟩
        · rcases hexT_cases s[i + 3].toNat with ⟨u1, u2⟩ | ⟨u1, u2, u3⟩
          · have HV := hide (escV_of (hX2.trans (hx.trans (show _ = ((0 : Int), (0 : Int)) by rw [t3, u2]))))
            rw [u1] at H3
            clear hX2 hx u1 u2 t3
            generalize hexT s[i + 2].toNat = x at *
            go_enter Tryd.func31, Tryd.ntmps31
            go_wp2_with (first | (go_at_call 37; with_reducible refine H2.out.mono ?_; rintro e w' ⟨rfl, hw'⟩; have hw' := hw'.symm; subst hw') | (go_at_call 37; with_reducible refine H3.out.mono ?_; rintro e w' ⟨rfl, hw'⟩; have hw' := hw'.symm; subst hw'))
            go_ret2
            exact ⟨by rw [HV.out]; rfl, Below.refl _ _⟩
          · have HV := hide (escV_of (a := hexT s[i + 2].toNat * 16 + hexT s[i + 3].toNat) (b := 4) (hX2.trans (hx.trans (by rw [t3, u3]; simp only [Prod.mk.injEq, and_true]; omega))))
            clear hX2 hx t3 u3
            generalize hexT s[i + 2].toNat = x at *
            generalize hexT s[i + 3].toNat = y at *
            go_enter Tryd.func31, Tryd.ntmps31
            go_wp2_with (first | (go_at_call 37; with_reducible refine H2.out.mono ?_; rintro e w' ⟨rfl, hw'⟩; have hw' := hw'.symm; subst hw') | (go_at_call 37; with_reducible refine H3.out.mono ?_; rintro e w' ⟨rfl, hw'⟩; have hw' := hw'.symm; subst hw'))
            obtain ⟨bp, hbp⟩ : ∃ bp : Int, (s[i + 2].toNat : Int) = bp := ⟨_, rfl⟩
            obtain ⟨bq, hbq⟩ : ∃ bq : Int, (s[i + 3].toNat : Int) = bq := ⟨_, rfl⟩
            rw [hbp] at H2b b2
            rw [hbq] at H3b b3
            clear H2 H3
            have p2 : i + 2 < s.size := by omega
            have p3 : i + 3 < s.size := by omega
            have n2 : (0 : Int) ≤ (i : Int) + 2 := by omega
            have n3 : (0 : Int) ≤ (i : Int) + 3 := by omega
            have w2 : IntKind.i64.wrap ((i : Int) + 2) = (i : Int) + 2 := by rw [IntKind.wrap_i64]; omega
            have w3 : IntKind.i64.wrap ((i : Int) + 3) = (i : Int) + 3 := by rw [IntKind.wrap_i64]; omega
            have m2 : ((i : Int) + 2).toNat = i + 2 := by omega
            have m3 : ((i : Int) + 3).toNat = i + 3 := by omega
            have w4 : IntKind.i64.wrap (x * 16) = x * 16 := by rw [IntKind.wrap_i64]; omega
            have w5 : IntKind.i64.wrap (x * 16 + y) = x * 16 + y := by rw [IntKind.wrap_i64]; omega
            have w6 : IntKind.u8.wrap (x * 16 + y) = x * 16 + y := by rw [IntKind.wrap_u8]; omega
            go_region_held3 (fun _ => True) (exact trivial) (first | (go_at_call 37; with_reducible refine (H2b.out _).mono ?_; rintro e w' ⟨rfl, hw'⟩; have hw' := hw'.symm; subst hw') | (go_at_call 37; with_reducible refine (H3b.out _).mono ?_; rintro e w' ⟨rfl, hw'⟩; have hw' := hw'.symm; subst hw'))
            all_goals (try go_wp2)
            all_goals (go_ret2; exact ⟨by rw [HV.out]; first | rfl | exact ret_ei (by omega) rfl, (Below.refl _ _).drew⟩)
      · have h3' : ¬ (i : Int) + 3 < (s.size : Int) := by omega
        have HV := hide (escV_of (hX2.trans (show hexX (s.extract i s.size) = (0, 0) from by unfold hexX; rw [if_pos (by rw [ByteArray.size_extract]; omega)])))
        clear hX2
        go_enter Tryd.func31, Tryd.ntmps31
        go_wp2
        go_ret2
        exact ⟨by rw [HV.out]; rfl, Below.refl _ _⟩
    · have f120 : ((s[i + 1].toNat : Int) == 120) = false := by rw [← hb]; simpa using h120
      have HV := hide (escV_of (hX.trans (show escOf (s.extract i s.size) b = (0, 0) from by unfold escOf; rw [if_neg h34, if_neg h92, if_neg h110, if_neg h116, if_neg h114, if_neg h120])))
      clear hX hb h34 h92 h110 h116 h114 h120
      go_enter Tryd.func31, Tryd.ntmps31
      go_wp2
      go_ret2
      exact ⟨by rw [HV.out]; rfl, Below.refl _ _⟩
  · have h1' : (s.size : Int) ≤ (i : Int) + 1 := by omega
    have HV := hide (escV_of (s := s) (i := i) (show escX (s.extract i s.size) = (0, 0) from dif_neg (by rw [ByteArray.size_extract]; omega)))
    go_enter Tryd.func31, Tryd.ntmps31
    go_wp2
    go_ret2
    exact ⟨by rw [HV.out]; rfl, Below.refl _ _⟩
end Go.Proofs.YtplldgkdjainlaaDoor
