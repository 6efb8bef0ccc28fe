/- edictlaw02.LexPlaces returns true: places go on byte by byte. -/
import Derived.Test.YtdjmaefceojdpabProg
import Derived.Test.YtdjmaefceojdpabPlace
namespace Go.Proofs.Ytdjmaefceojdpab
set_option linter.unusedSimpArgs false
set_option linter.unusedVariables false
open Go.RowKit

theorem placeW_in (s : ByteArray) (k : Nat) (hl : s.size ≤ 65536) (hk : k ≤ s.size) :
    placeW s (k : Int) = (((placeL (s.data.toList.take k)).1 : Int), ((placeL (s.data.toList.take k)).2 : Int)) := if_pos ⟨hl, by omega, by omega⟩
theorem placeW_out (s : ByteArray) (k : Int) (h : k < 0 ∨ (s.size : Int) < k) : placeW s k = (0, 0) := if_neg (by omega)

theorem place_in (s : ByteArray) (k x y : Nat) (w : World) (hl : s.size ≤ 65536) (hk : k ≤ s.size) (h : placeL (s.data.toList.take k) = (x, y)) :
    Calls Try.prog 4 #[.string s, .int .i64 k] w fun e w' => e = .returned (.tuple #[.int .i64 x, .int .i64 y]) ∧ w' = w := by
  have := place_any s (k : Int) w (by omega) (by omega)
  rw [placeW_in s k hl hk, h] at this
  exact this
theorem place_out (s : ByteArray) (k : Int) (w : World) (hl : s.size ≤ 140737488351232) (h : k < 0 ∨ (s.size : Int) < k) (hk : -9223372036854775808 ≤ k ∧ k ≤ 9223372036854775807) :
    Calls Try.prog 4 #[.string s, .int .i64 k] w fun e w' => e = .returned (.tuple #[.int .i64 0, .int .i64 0]) ∧ w' = w := by
  have := place_any s k w hl hk
  rw [placeW_out s k h] at this
  exact this
theorem place_long (s : ByteArray) (k : Int) (w : World) (hs : s.size ≤ 140737488351232) (hl : ¬ s.size ≤ 65536) (hk : -9223372036854775808 ≤ k ∧ k ≤ 9223372036854775807) :
    Calls Try.prog 4 #[.string s, .int .i64 k] w fun e w' => e = .returned (.tuple #[.int .i64 0, .int .i64 0]) ∧ w' = w := by
  have := place_any s k w hs hk
  rw [show placeW s k = (0, 0) from if_neg (by omega)] at this
  exact this

theorem place_step (s : ByteArray) (k x y : Nat) (hk : k < s.size) (h : placeL (s.data.toList.take k) = (x, y)) :
    placeL (s.data.toList.take (k + 1)) = if s[k].toNat = 10 then (x + 1, 1) else (x, y + 1) := by
  rw [takeB_snoc s k hk, placeL_snoc, h]; rfl

theorem vint {a b : Int} (h : a = b) : Value.int .i64 a = Value.int .i64 b := by rw [h]

theorem place_next (s : ByteArray) (j x y : Nat) (w : World) (hl : s.size ≤ 65536) (hk : j < s.size) (h : placeL (s.data.toList.take (j + 1)) = (x, y)) :
    Calls Try.prog 4 #[.string s, .int .i64 ((j : Int) + 1)] w fun e w' => e = .returned (.tuple #[.int .i64 x, .int .i64 y]) ∧ w' = w := by
  have := place_in s (j + 1) x y w hl (by omega) h
  rw [show ((j + 1 : Nat) : Int) = (j : Int) + 1 from by omega] at this
  exact this

set_option maxHeartbeats 1000000 in
theorem placesEnd_any (s : ByteArray) (w : World) (hl : s.size ≤ 65536) (h8 : 800 < s.size) :
    Calls Try.prog 5 #[.string s] w fun e w' => e = .returned (.bool true) ∧ w' = w := by
  obtain ⟨m, hm⟩ : ∃ m : Nat, s.size = m + 400 := ⟨s.size - 400, by omega⟩
  rcases h0 : placeL (s.data.toList.take m) with ⟨x, y⟩
  have hb := placeL_le s m (by omega)
  rw [h0] at hb
  obtain ⟨b1, b2, b3, b4⟩ := hb
  simp only at b1 b2 b3 b4
  have HP := hide (place_in s m x y w hl (by omega) h0)
  rw [show (m : Int) = (s.size : Int) - 400 from by omega] at HP
  have HO := hide (place_out s ((s.size : Int) + 1) w (by omega) (by omega) (by omega))
  replace h0 := hide h0
  have f1 : ¬ (x : Int) < 1 := by omega
  have f2 : ¬ (y : Int) < 1 := by omega
  have hx : (x : Int) ≤ 65537 := by omega
  have hy : (y : Int) ≤ 65537 := by omega
  have HM := hide hm
  clear hm b1 b2 b3 b4
  go_enter Try.func5, Try.ntmps5
  go_wp2_with (go_at_call 4; refine HP.out.mono ?_; rintro e w' ⟨rfl, hw'⟩; have hw' := hw'.symm; subst hw')
  go_loop [3, 4, 5, 6, 7] (fun a b i _ _ => ∃ j u v : Nat, j ≤ s.size ∧ i = .int .i64 ((j : Int) + 1) ∧ a = .int .i64 u ∧ b = .int .i64 v ∧ Hid (placeL (s.data.toList.take j) = (u, v))) (fun _ _ i _ _ => s.size + 1 - (intOf i).toNat)
  case atStart => exact ⟨m, x, y, by have := HM.out; omega, vint (by have := HM.out; omega), rfl, rfl, h0⟩
  case round =>
    obtain ⟨j, u, v, hj, rfl, rfl, rfl, HE⟩ := hrel
    clear HP
    have hb := placeL_le s j hj
    rw [HE.out] at hb
    obtain ⟨b1, b2, b3, b4⟩ := hb
    simp only at b1 b2 b3 b4
    by_cases hlt : j < s.size
    · have hi : (j : Int) + 1 ≤ (s.size : Int) := by omega
      have hi' : (j : Int) < (s.size : Int) := by omega
      have HS := place_step s j u v hlt HE.out
      by_cases hbj : (s[j].toNat : Int) = 10
      · have e : ((s[j].toNat : Int) == 10) = true := by simpa using hbj
        rw [if_pos (by omega)] at HS
        have HC := hide (place_next s j _ _ w hl hlt HS)
        replace HS := hide HS
        go_wp2_with (go_at_call 4; refine HC.out.mono ?_; rintro e w' ⟨rfl, hw'⟩; have hw' := hw'.symm; subst hw')
        go_round
        case rel => exact ⟨j + 1, u + 1, 1, by omega, by go_num, by go_num, rfl, HS⟩
        case measure => simp [intOf]; omega
      · have e : ((s[j].toNat : Int) == 10) = false := by simpa using hbj
        rw [if_neg (by omega)] at HS
        have HC := hide (place_next s j _ _ w hl hlt HS)
        replace HS := hide HS
        go_wp2_with (go_at_call 4; refine HC.out.mono ?_; rintro e w' ⟨rfl, hw'⟩; have hw' := hw'.symm; subst hw')
        go_round
        case rel => exact ⟨j + 1, u, v + 1, by omega, by go_num, rfl, by go_num, HS⟩
        case measure => simp [intOf]; omega
    · have hi : ¬ (j : Int) + 1 ≤ (s.size : Int) := by omega
      go_wp2_with (go_at_call 4; refine HO.out.mono ?_; rintro e w' ⟨rfl, hw'⟩; have hw' := hw'.symm; subst hw')
      go_ret
      exact ⟨rfl, rfl⟩

set_option maxHeartbeats 2000000 in
theorem lexPlaces_walk (s : ByteArray) (w : World) (hs : s.size ≤ 140737488351232) :
    Calls Try.prog 3 #[.string s] w fun e w' => e = .returned (.bool true) ∧ Below w.heap.size w w' := by
  by_cases hl : (65536 : Int) < (s.size : Int)
  · have q1 : placeW s 0 = (0, 0) := if_neg (by omega)
    have q2 : placeW ⟨#[97]⟩ 1 = (1, 2) := by decide
    go_enter Try.func3, Try.ntmps3
    go_wp2_with (go_at_call 4; refine (place_any _ _ _ ?_ ?_).mono ?_; (first | exact hs | decide); (first | omega | decide); rintro e w' ⟨rfl, hw'⟩; have hw' := hw'.symm; subst hw')
    go_ret
    exact ⟨rfl, Below.refl _ _⟩
  have hl' : s.size ≤ 65536 := by omega
  go_enter Try.func3, Try.ntmps3
  go_wp2
  go_loop [7, 8, 9, 10, 11] (fun a b i _ _ => ∃ j u v : Nat, j ≤ s.size + 1 ∧ i = .int .i64 j ∧ a = .int .i64 u ∧ b = .int .i64 v ∧ Hid (j ≤ s.size → placeL (s.data.toList.take j) = (u, v))) (fun _ _ i _ _ => s.size + 1 - (intOf i).toNat)
  case atStart => exact ⟨0, 1, 1, by omega, rfl, rfl, rfl, fun _ => rfl⟩
  case round =>
    obtain ⟨j, u, v, hj, rfl, rfl, rfl, HE⟩ := hrel
    by_cases hle : j ≤ s.size
    · have hb := placeL_le s j hle
      rw [HE.out hle] at hb
      obtain ⟨b1, b2, b3, b4⟩ := hb
      simp only at b1 b2 b3 b4
      have q1 : placeW s (j : Int) = ((u : Int), (v : Int)) := by rw [placeW_in s j hl' hle, HE.out hle]
      have hi : (j : Int) ≤ (s.size : Int) := by omega
      by_cases hlt : j < s.size
      · have hi' : (j : Int) < (s.size : Int) := by omega
        have HS := place_step s j u v hlt (HE.out hle)
        have HZ : Hid (400 < j → j + 400 < s.size → Calls Try.prog 5 #[.string s] w fun e w' => e = .returned (.bool true) ∧ w' = w) := fun h1 h2 => placesEnd_any s w hl' (by omega)
        by_cases hq : 400 < j ∧ j + 400 < s.size
        · have HZ := hide (HZ.out hq.1 hq.2)
          have g1 : (400 : Int) < (j : Int) := by omega
          have g2 : (j : Int) + 400 < (s.size : Int) := by omega
          clear hq HS
          by_cases hbj : (s[j].toNat : Int) = 10
          · have e : ((s[j].toNat : Int) == 10) = true := by simpa using hbj
            go_wp2_with (first
              | (go_at_call 4; refine (place_any _ _ _ ?_ ?_).mono ?_; (first | exact hs | decide); (first | omega | decide); rintro e w' ⟨rfl, hw'⟩; have hw' := hw'.symm; subst hw')
              | (go_at_call 5; refine HZ.out.mono ?_; rintro e w' ⟨rfl, hw'⟩; have hw' := hw'.symm; subst hw'))
            go_ret
            exact ⟨rfl, Below.refl _ _⟩
          · have e : ((s[j].toNat : Int) == 10) = false := by simpa using hbj
            go_wp2_with (first
              | (go_at_call 4; refine (place_any _ _ _ ?_ ?_).mono ?_; (first | exact hs | decide); (first | omega | decide); rintro e w' ⟨rfl, hw'⟩; have hw' := hw'.symm; subst hw')
              | (go_at_call 5; refine HZ.out.mono ?_; rintro e w' ⟨rfl, hw'⟩; have hw' := hw'.symm; subst hw'))
            go_ret
            exact ⟨rfl, Below.refl _ _⟩
        · clear HZ
          by_cases g1 : (400 : Int) < (j : Int)
          · have g2 : ¬ (j : Int) + 400 < (s.size : Int) := by omega
            clear hq
            by_cases hbj : (s[j].toNat : Int) = 10
            · have e : ((s[j].toNat : Int) == 10) = true := by simpa using hbj
              rw [if_pos (by omega)] at HS
              replace HS := hide HS
              go_wp2_with (go_at_call 4; refine (place_any _ _ _ ?_ ?_).mono ?_; (first | exact hs | decide); (first | omega | decide); rintro e w' ⟨rfl, hw'⟩; have hw' := hw'.symm; subst hw')
              go_round
              case rel => exact ⟨j + 1, u + 1, 1, by omega, by go_num, by go_num, rfl, fun _ => HS.out⟩
              case measure => simp [intOf]; omega
            · have e : ((s[j].toNat : Int) == 10) = false := by simpa using hbj
              rw [if_neg (by omega)] at HS
              replace HS := hide HS
              go_wp2_with (go_at_call 4; refine (place_any _ _ _ ?_ ?_).mono ?_; (first | exact hs | decide); (first | omega | decide); rintro e w' ⟨rfl, hw'⟩; have hw' := hw'.symm; subst hw')
              go_round
              case rel => exact ⟨j + 1, u, v + 1, by omega, by go_num, rfl, by go_num, fun _ => HS.out⟩
              case measure => simp [intOf]; omega
          · clear hq
            by_cases hbj : (s[j].toNat : Int) = 10
            · have e : ((s[j].toNat : Int) == 10) = true := by simpa using hbj
              rw [if_pos (by omega)] at HS
              replace HS := hide HS
              go_wp2_with (go_at_call 4; refine (place_any _ _ _ ?_ ?_).mono ?_; (first | exact hs | decide); (first | omega | decide); rintro e w' ⟨rfl, hw'⟩; have hw' := hw'.symm; subst hw')
              go_round
              case rel => exact ⟨j + 1, u + 1, 1, by omega, by go_num, by go_num, rfl, fun _ => HS.out⟩
              case measure => simp [intOf]; omega
            · have e : ((s[j].toNat : Int) == 10) = false := by simpa using hbj
              rw [if_neg (by omega)] at HS
              replace HS := hide HS
              go_wp2_with (go_at_call 4; refine (place_any _ _ _ ?_ ?_).mono ?_; (first | exact hs | decide); (first | omega | decide); rintro e w' ⟨rfl, hw'⟩; have hw' := hw'.symm; subst hw')
              go_round
              case rel => exact ⟨j + 1, u, v + 1, by omega, by go_num, rfl, by go_num, fun _ => HS.out⟩
              case measure => simp [intOf]; omega
      · have hi' : ¬ (j : Int) < (s.size : Int) := by omega
        have hje : j = s.size := by omega
        have g2 : ¬ (j : Int) + 400 < (s.size : Int) := by omega
        replace hje := hide hje
        by_cases g1 : (400 : Int) < (j : Int)
        · go_wp2_with (go_at_call 4; refine (place_any _ _ _ ?_ ?_).mono ?_; (first | exact hs | decide); (first | omega | decide); rintro e w' ⟨rfl, hw'⟩; have hw' := hw'.symm; subst hw')
          go_round
          case rel => exact ⟨j + 1, u, v + 1, by omega, by go_num, rfl, by go_num, fun h => by have := hje.out; omega⟩
          case measure => simp [intOf]; omega
        · go_wp2_with (go_at_call 4; refine (place_any _ _ _ ?_ ?_).mono ?_; (first | exact hs | decide); (first | omega | decide); rintro e w' ⟨rfl, hw'⟩; have hw' := hw'.symm; subst hw')
          go_round
          case rel => exact ⟨j + 1, u, v + 1, by omega, by go_num, rfl, by go_num, fun h => by have := hje.out; omega⟩
          case measure => simp [intOf]; omega
    · have hi : ¬ (j : Int) ≤ (s.size : Int) := by omega
      have q1 : placeW s ((s.size : Int) + 1) = (0, 0) := placeW_out s _ (by omega)
      have q2 : placeW s (-1) = (0, 0) := placeW_out s _ (by omega)
      clear HE
      go_wp2_with (go_at_call 4; refine (place_any _ _ _ ?_ ?_).mono ?_; (first | exact hs | decide); (first | omega | decide); rintro e w' ⟨rfl, hw'⟩; have hw' := hw'.symm; subst hw')
      go_ret
      exact ⟨rfl, Below.refl _ _⟩

end Go.Proofs.Ytdjmaefceojdpab
