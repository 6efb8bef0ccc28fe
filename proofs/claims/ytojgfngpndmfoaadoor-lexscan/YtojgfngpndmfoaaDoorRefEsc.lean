/- What the document's hex and escape answer: as lex.escape. -/
import Derived.Test.YtojgfngpndmfoaaDoorProg
import Derived.Test.YtojgfngpndmfoaaDoorRefBytes
import Derived.Test.YtojgfngpndmfoaaDoorLexEsc
import Derived.Test.YtojgfngpndmfoaaDoorGap
namespace Go.Proofs.YtojgfngpndmfoaaDoor
set_option linter.unusedSimpArgs false
set_option linter.unusedVariables false
open Go.RowKit

def hexV (n : Nat) : Int := match hexD n with | some d => (d : Int) | none => -1

theorem hexV_bounds (n : Nat) : (hexV n = -1 ∧ hexD n = none) ∨ (0 ≤ hexV n ∧ hexV n ≤ 15 ∧ hexD n = some (hexV n).toNat) := by
  unfold hexV
  cases h : hexD n with
  | none => exact .inl ⟨rfl, rfl⟩
  | some d =>
    have : d ≤ 15 := by
      unfold hexD at h
      repeat' split at h
      all_goals first | (injection h with h; omega) | cases h
    refine .inr ⟨by show (0 : Int) ≤ (d : Int); omega, by show (d : Int) ≤ 15; omega, ?_⟩
    show some d = some ((d : Int).toNat)
    rw [Int.toNat_natCast]

set_option maxHeartbeats 1000000 in
theorem rhex_any (n : Int) (w : World) (h : 0 ≤ n ∧ n ≤ 255) :
    Calls Tryd.prog 70 #[.int .u8 n] w fun e w' => e = .returned (.int .i64 (hexV n.toNat)) ∧ w' = w := by
  have HD := hide (rdig_any n w h)
  by_cases h1 : 48 ≤ n ∧ n ≤ 57
  · have HV : Hid (hexV n.toNat = n - 48) := by
      show hexV n.toNat = _
      unfold hexV hexD
      rw [if_pos (by omega)]
      show ((n.toNat - 48 : Nat) : Int) = _
      omega
    rw [show bDig n = true from by simp [bDig, h1.1, h1.2]] at HD
    rw [HV.out]
    obtain ⟨a1, a2⟩ := h1
    go_enter Tryd.func70, Tryd.ntmps70
    go_wp2_with (go_at_call 33; refine HD.out.mono ?_; rintro e w' ⟨rfl, hw'⟩; have hw' := hw'.symm; subst hw')
    go_ret
    exact ⟨rfl, rfl⟩
  · have hd : bDig n = false := by
      cases hd : bDig n with
      | false => rfl
      | true =>
        unfold bDig at hd
        simp only [Bool.and_eq_true, decide_eq_true_eq] at hd
        exact absurd hd h1
    rw [hd] at HD
    have h1' : ¬ (48 ≤ n.toNat ∧ n.toNat ≤ 57) := by omega
    by_cases h2 : 97 ≤ n ∧ n ≤ 102
    · have HV : Hid (hexV n.toNat = n - 97 + 10) := by
        show hexV n.toNat = _
        unfold hexV hexD
        rw [if_neg h1', if_pos (by omega)]
        show ((n.toNat - 87 : Nat) : Int) = _
        omega
      rw [HV.out]
      obtain ⟨a1, a2⟩ := h2
      clear h1 h1' hd
      go_enter Tryd.func70, Tryd.ntmps70
      go_wp2_with (go_at_call 33; refine HD.out.mono ?_; rintro e w' ⟨rfl, hw'⟩; have hw' := hw'.symm; subst hw')
      go_ret
      exact ⟨rfl, rfl⟩
    · by_cases h3 : 65 ≤ n ∧ n ≤ 70
      · have HV : Hid (hexV n.toNat = n - 65 + 10) := by
          show hexV n.toNat = _
          unfold hexV hexD
          rw [if_neg h1', if_neg (by omega), if_pos (by omega)]
          show ((n.toNat - 55 : Nat) : Int) = _
          omega
        rw [HV.out]
        obtain ⟨a1, a2⟩ := h3
        have a3 : ¬ 97 ≤ n := by omega
        clear h1 h1' hd h2
        go_enter Tryd.func70, Tryd.ntmps70
        go_wp2_with (go_at_call 33; refine HD.out.mono ?_; rintro e w' ⟨rfl, hw'⟩; have hw' := hw'.symm; subst hw')
        go_ret
        exact ⟨rfl, rfl⟩
      · have HV : Hid (hexV n.toNat = -1) := by
          show hexV n.toNat = _
          unfold hexV hexD
          rw [if_neg h1', if_neg (by omega), if_neg (by omega)]
        rw [HV.out]
        clear h1 h1' hd
        by_cases b1 : 97 ≤ n
        · have b2 : ¬ n ≤ 102 := by omega
          have b3 : ¬ n ≤ 70 := by omega
          have b4 : 65 ≤ n := by omega
          clear h2 h3
          go_enter Tryd.func70, Tryd.ntmps70
          go_wp2_with (go_at_call 33; refine HD.out.mono ?_; rintro e w' ⟨rfl, hw'⟩; have hw' := hw'.symm; subst hw')
          go_ret
          exact ⟨rfl, rfl⟩
        · by_cases b2 : 65 ≤ n
          · have b3 : ¬ n ≤ 70 := by omega
            clear h2 h3
            go_enter Tryd.func70, Tryd.ntmps70
            go_wp2_with (go_at_call 33; refine HD.out.mono ?_; rintro e w' ⟨rfl, hw'⟩; have hw' := hw'.symm; subst hw')
            go_ret
            exact ⟨rfl, rfl⟩
          · clear h2 h3
            go_enter Tryd.func70, Tryd.ntmps70
            go_wp2_with (go_at_call 33; refine HD.out.mono ?_; rintro e w' ⟨rfl, hw'⟩; have hw' := hw'.symm; subst hw')
            go_ret
            exact ⟨rfl, rfl⟩

@[irreducible] def hexI (n : Int) : Int := hexV n.toNat

theorem rhexI (n : Int) (w : World) (h : 0 ≤ n ∧ n ≤ 255) :
    Calls Tryd.prog 70 #[.int .u8 n] w fun e w' => e = .returned (.int .i64 (hexI n)) ∧ w' = w := by
  unfold hexI; exact rhex_any n w h

theorem ext_byte (s : ByteArray) (o j : Nat) (h : o + j < s.size) : ∃ h' : j < (s.extract o s.size).size, (s.extract o s.size)[j]'h' = s[o + j] := by
  have hz : (s.extract o s.size).size = s.size - o := by rw [ByteArray.size_extract]; omega
  refine ⟨by omega, ?_⟩
  have e : (s.extract o s.size).data.toList = rest s o := extract_rest s o
  have h1 : (s.extract o s.size).data.toList[j]? = some ((s.extract o s.size)[j]'(by omega)) := by
    rw [Array.getElem?_toList]
    exact Array.getElem?_eq_getElem (by show j < (s.extract o s.size).size; omega)
  rw [e] at h1
  have h2 : (rest s o)[j]? = some s[o + j] := by
    unfold rest
    rw [List.getElem?_drop, Array.getElem?_toList]
    exact Array.getElem?_eq_getElem (by show o + j < s.size; exact h)
  rw [h2] at h1
  exact (Option.some.inj h1).symm

theorem hexX_two (s : ByteArray) (o : Nat) (h : o + 3 < s.size) : hexX (s.extract o s.size) = match hexD (s[o + 2]'(by omega)).toNat, hexD (s[o + 3]'h).toNat with | some a, some b => (((a * 16 + b : Nat) : Int), 4) | _, _ => (0, 0) := by
  have hz : (s.extract o s.size).size = s.size - o := by rw [ByteArray.size_extract]; omega
  have e : ((s.extract o s.size).extract 2 4).data.toList = [s[o + 2]'(by omega), s[o + 3]'h] := by
    rw [ByteArray.data_extract, Array.toList_extract, List.extract_eq_take_drop, extract_rest s o]
    unfold rest
    rw [List.drop_drop]
    apply List.ext_getElem?
    intro i
    rcases i with _ | _ | i
    · rw [List.getElem?_take_of_lt (by omega), List.getElem?_drop, Array.getElem?_toList]
      exact Array.getElem?_eq_getElem (by show o + 2 + 0 < s.size; omega)
    · rw [List.getElem?_take_of_lt (by omega), List.getElem?_drop, Array.getElem?_toList]
      exact Array.getElem?_eq_getElem (by show o + 2 + 1 < s.size; omega)
    · rw [List.getElem?_take_eq_none (by omega)]; simp
  unfold hexX
  rw [if_neg (by omega), e]
  unfold hexU
  cases h1 : hexD (s[o + 2]'(by omega)).toNat with
  | none => rfl
  | some a =>
    simp only
    unfold hexU
    cases h2 : hexD (s[o + 3]'h).toNat with
    | none => rfl
    | some b => simp [hexU]

set_option maxHeartbeats 2000000 in
set_option maxRecDepth 100000 in
theorem rescape_any (s : ByteArray) (o : Nat) (w : World) (hs : s.size ≤ 140737488351232) (ho : o < s.size) :
    Calls Tryd.prog 58 #[.string s, .int .i64 o] w fun e w' => e = .returned (.tuple #[.int .u8 (escX (s.extract o s.size)).1, .int .i64 (escX (s.extract o s.size)).2]) ∧ Below w.heap.size w w' := by
  have hz : (s.extract o s.size).size = s.size - o := by rw [ByteArray.size_extract]; omega
  by_cases h2 : ¬ o + 1 < s.size
  · rw [show escX (s.extract o s.size) = (0, 0) from dif_neg (by omega)]
    have h2' : (s.size : Int) ≤ (o : Int) + 1 := by omega
    clear hz h2
    go_enter Tryd.func58, Tryd.ntmps58
    go_wp2
    go_ret2
    exact ⟨rfl, Below.refl _ _⟩
  replace h2 : o + 1 < s.size := by omega
  have h2' : ¬ (s.size : Int) ≤ (o : Int) + 1 := by omega
  have h2'' : (o : Int) + 1 < (s.size : Int) := by omega
  obtain ⟨hx1, hx2⟩ := ext_byte s o 1 h2
  rw [show escX (s.extract o s.size) = escOf (s.extract o s.size) (s[o + 1].toNat : Int) from by rw [← hx2]; exact dif_pos hx1]
  have hbb : (0 : Int) ≤ (s[o + 1].toNat : Int) ∧ (s[o + 1].toNat : Int) ≤ 255 := by have := s[o + 1].toNat_lt; omega
  obtain ⟨b, hb⟩ : ∃ b : Int, b = (s[o + 1].toNat : Int) := ⟨_, rfl⟩
  rw [← hb] at hbb ⊢
  replace hb := hb.symm
  clear hx1 hx2
  by_cases h34 : b = 34
  · subst h34
    rw [show escOf (s.extract o s.size) 34 = (34, 2) from rfl]
    go_enter Tryd.func58, Tryd.ntmps58
    go_wp2
    go_ret2
    exact ⟨rfl, Below.refl _ _⟩
  by_cases h92 : b = 92
  · subst h92
    rw [show escOf (s.extract o s.size) 92 = (92, 2) from rfl]
    go_enter Tryd.func58, Tryd.ntmps58
    go_wp2
    go_ret2
    exact ⟨rfl, Below.refl _ _⟩
  by_cases h110 : b = 110
  · subst h110
    rw [show escOf (s.extract o s.size) 110 = (10, 2) from rfl]
    go_enter Tryd.func58, Tryd.ntmps58
    go_wp2
    go_ret2
    exact ⟨rfl, Below.refl _ _⟩
  by_cases h116 : b = 116
  · subst h116
    rw [show escOf (s.extract o s.size) 116 = (9, 2) from rfl]
    go_enter Tryd.func58, Tryd.ntmps58
    go_wp2
    go_ret2
    exact ⟨rfl, Below.refl _ _⟩
  by_cases h114 : b = 114
  · subst h114
    rw [show escOf (s.extract o s.size) 114 = (13, 2) from rfl]
    go_enter Tryd.func58, Tryd.ntmps58
    go_wp2
    go_ret2
    exact ⟨rfl, Below.refl _ _⟩
  have e1 : (b == 34) = false := by simpa using h34
  have e2 : (b == 92) = false := by simpa using h92
  have e3 : (b == 110) = false := by simpa using h110
  have e4 : (b == 116) = false := by simpa using h116
  have e5 : (b == 114) = false := by simpa using h114
  by_cases h120 : b = 120
  · subst h120
    rw [show escOf (s.extract o s.size) 120 = hexX (s.extract o s.size) from rfl]
    clear h34 h92 h110 h116 h114 e1 e2 e3 e4 e5
    by_cases h4 : o + 3 < s.size
    · have g1 : (o : Int) + 3 < (s.size : Int) := by omega
      have g2 : (o : Int) + 2 < (s.size : Int) := by omega
      rw [hexX_two s o h4]
      have ha : (0 : Int) ≤ (s[o + 2].toNat : Int) ∧ (s[o + 2].toNat : Int) ≤ 255 := by have := s[o + 2].toNat_lt; omega
      have hc : (0 : Int) ≤ (s[o + 3].toNat : Int) ∧ (s[o + 3].toNat : Int) ≤ 255 := by have := s[o + 3].toNat_lt; omega
      have QA : Hid (hexI (s[o + 2].toNat : Int) = hexV s[o + 2].toNat) := by show hexI _ = _; unfold hexI; rw [Int.toNat_natCast]
      have QC : Hid (hexI (s[o + 3].toNat : Int) = hexV s[o + 3].toNat) := by show hexI _ = _; unfold hexI; rw [Int.toNat_natCast]
      have va := hexV_bounds s[o + 2].toNat
      have vc := hexV_bounds s[o + 3].toNat
      generalize hexV s[o + 2].toNat = x at *
      generalize hexV s[o + 3].toNat = y at *
      rcases va with ⟨rfl, q1⟩ | ⟨p1, p2, q1⟩
      · rw [q1]
        clear q1 vc
        go_enter Tryd.func58, Tryd.ntmps58
        go_wp2_with (go_at_call 70; refine (rhexI _ _ (by first | exact ha | exact hc)).mono ?_; rintro e w' ⟨rfl, hw'⟩; have hw' := hw'.symm; subst hw'; first | rw [QA.out] | rw [QC.out])
        go_ret2
        exact ⟨rfl, Below.refl _ _⟩
      · rcases vc with ⟨rfl, q2⟩ | ⟨p3, p4, q2⟩
        · rw [q1, q2]
          clear q1 q2
          go_enter Tryd.func58, Tryd.ntmps58
          go_wp2_with (go_at_call 70; refine (rhexI _ _ (by first | exact ha | exact hc)).mono ?_; rintro e w' ⟨rfl, hw'⟩; have hw' := hw'.symm; subst hw'; first | rw [QA.out] | rw [QC.out])
          go_ret2
          exact ⟨rfl, Below.refl _ _⟩
        · rw [q1, q2]
          show Calls _ _ _ _ fun e w' => e = .returned (.tuple #[.int .u8 ((x.toNat * 16 + y.toNat : Nat) : Int), .int .i64 4]) ∧ Below w.heap.size w w'
          have HV : Hid (((x.toNat * 16 + y.toNat : Nat) : Int) = 16 * x + y) := by show _ = _; omega
          rw [HV.out]
          clear q1 q2
          go_enter Tryd.func58, Tryd.ntmps58
          go_wp2_with (go_at_call 70; refine (rhexI _ _ (by first | exact ha | exact hc)).mono ?_; rintro e w' ⟨rfl, hw'⟩; have hw' := hw'.symm; subst hw'; first | rw [QA.out] | rw [QC.out])
          have p1' : 0 ≤ hexI (s[o + 2].toNat : Int) := by rw [QA.out]; exact p1
          have p2' : hexI (s[o + 2].toNat : Int) ≤ 15 := by rw [QA.out]; exact p2
          have p3' : 0 ≤ hexI (s[o + 3].toNat : Int) := by rw [QC.out]; exact p3
          have p4' : hexI (s[o + 3].toNat : Int) ≤ 15 := by rw [QC.out]; exact p4
          refine wp_region_over (fun W => W = w) (by kernel_rfl) (by kernel_rfl) rfl ?_
          rintro W rfl
          repeat (go_big_quiet_step (first | (go_at_call 70; exact calls_over_same (rhexI _ _ (by first | exact ha | exact hc)))))
          refine wpQuiet_nil ?_
          rintro _ ⟨z, rfl⟩
          go_wp2
          go_ret2
          (rw [QA.out, QC.out]; exact ⟨rfl, over_below _ _⟩)
    · have g1 : ¬ (o : Int) + 3 < (s.size : Int) := by omega
      rw [show hexX (s.extract o s.size) = (0, 0) from if_pos (by omega)]
      go_enter Tryd.func58, Tryd.ntmps58
      go_wp2
      go_ret2
      exact ⟨rfl, Below.refl _ _⟩
  rw [show escOf (s.extract o s.size) b = (0, 0) from by unfold escOf; rw [if_neg h34, if_neg h92, if_neg h110, if_neg h116, if_neg h114, if_neg h120]]
  have e6 : (b == 120) = false := by simpa using h120
  clear h34 h92 h110 h116 h114 h120
  go_enter Tryd.func58, Tryd.ntmps58
  go_wp2
  go_ret2
  exact ⟨rfl, Below.refl _ _⟩

end Go.Proofs.YtojgfngpndmfoaaDoor
