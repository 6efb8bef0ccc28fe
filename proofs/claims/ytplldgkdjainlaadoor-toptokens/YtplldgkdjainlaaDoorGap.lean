/- lex.gap, at every text and every offset of it: it ends where the document's gap ends, and tells whether it is whole. -/
import Derived.Test.YtplldgkdjainlaaDoorProg
import Derived.Test.YtplldgkdjainlaaDoorGapPure
import Derived.Test.YtplldgkdjainlaaDoorStrLay
import Derived.Deep.LoopGhost
namespace Go.Proofs.YtplldgkdjainlaaDoor
set_option linter.unusedSimpArgs false
set_option linter.unusedVariables false
open Go.RowKit

theorem isBlank_any (n : Int) (w : World) (h : 0 ≤ n ∧ n ≤ 255) :
    Calls Tryd.prog 19 #[.int .u8 n] w fun e w' => e = .returned (.bool (blankN n)) ∧ w' = w := by
  by_cases h1 : n = 32
  · subst h1; rw [show blankN 32 = true from rfl]
    go_enter Tryd.func19, Tryd.ntmps19
    go_wp2
    go_ret
    exact ⟨rfl, rfl⟩
  by_cases h2 : n = 9
  · subst h2; rw [show blankN 9 = true from rfl]
    go_enter Tryd.func19, Tryd.ntmps19
    go_wp2
    go_ret
    exact ⟨rfl, rfl⟩
  by_cases h3 : n = 10
  · subst h3; rw [show blankN 10 = true from rfl]
    go_enter Tryd.func19, Tryd.ntmps19
    go_wp2
    go_ret
    exact ⟨rfl, rfl⟩
  by_cases h4 : n = 13
  · subst h4; rw [show blankN 13 = true from rfl]
    go_enter Tryd.func19, Tryd.ntmps19
    go_wp2
    go_ret
    exact ⟨rfl, rfl⟩
  rw [show blankN n = false from by simp [blankN, h1, h2, h3, h4]]
  have e1 : (n == 32) = false := by simpa using h1
  have e2 : (n == 9) = false := by simpa using h2
  have e3 : (n == 10) = false := by simpa using h3
  have e4 : (n == 13) = false := by simpa using h4
  go_enter Tryd.func19, Tryd.ntmps19
  go_wp2
  go_ret
  exact ⟨rfl, rfl⟩

theorem extract_rest (s : ByteArray) (k : Nat) : (s.extract k s.size).data.toList = rest s k := by
  rw [ByteArray.data_extract, Array.toList_extract, List.extract_eq_take_drop]
  unfold rest
  rw [List.take_of_length_le (by simp)]

theorem pre_opens (l : List UInt8) : Lib.hasPrefix l [47, 42] = opens l := by
  match l with
  | [] => rfl
  | [a] => show (([47, 42] : List UInt8).isPrefixOf [a]) = false; simp [List.isPrefixOf]
  | a :: b :: r =>
    show (([47, 42] : List UInt8).isPrefixOf (a :: b :: r)) = (a == 47 && b == 42)
    simp only [List.isPrefixOf, Bool.and_true]
    rw [Bool.beq_comm (a := a), Bool.beq_comm (a := b)]
theorem pre_closes (l : List UInt8) : Lib.hasPrefix l [42, 47] = closes l := by
  match l with
  | [] => rfl
  | [a] => show (([42, 47] : List UInt8).isPrefixOf [a]) = false; simp [List.isPrefixOf]
  | a :: b :: r =>
    show (([42, 47] : List UInt8).isPrefixOf (a :: b :: r)) = (a == 42 && b == 47)
    simp only [List.isPrefixOf, Bool.and_true]
    rw [Bool.beq_comm (a := a), Bool.beq_comm (a := b)]

theorem opens_call (s : ByteArray) (k : Nat) (w : World) :
    Calls Tryd.prog 20 #[.string (s.extract k s.size), .string ⟨#[47, 42]⟩] w fun e w' => e = .returned (.bool (opens (rest s k))) ∧ w' = w := by
  have := Any.strings_HasPrefix Tryd.lays99 (s.extract k s.size) ⟨#[47, 42]⟩ w
  rw [extract_rest, pre_opens] at this
  exact this
theorem closes_call (s : ByteArray) (k : Nat) (w : World) :
    Calls Tryd.prog 20 #[.string (s.extract k s.size), .string ⟨#[42, 47]⟩] w fun e w' => e = .returned (.bool (closes (rest s k))) ∧ w' = w := by
  have := Any.strings_HasPrefix Tryd.lays99 (s.extract k s.size) ⟨#[42, 47]⟩ w
  rw [extract_rest, pre_closes] at this
  exact this

theorem ret_ib {a b : Int} {c d : Bool} (h1 : a = b) (h2 : c = d) : Ending.returned (.tuple #[.int .i64 a, .bool c]) = .returned (.tuple #[.int .i64 b, .bool d]) := by rw [h1, h2]

set_option maxHeartbeats 2000000 in
set_option maxRecDepth 1000000 in
theorem gap_any (s : ByteArray) (o : Nat) (w : World) (hs : s.size ≤ 140737488351232) (ho : o ≤ s.size) :
    Calls Tryd.prog 11 #[.string s, .int .i64 o] w fun e w' => e = .returned (.tuple #[.int .i64 ((gapW s o).1 : Nat), .bool (gapW s o).2]) ∧ w' = w := by
  go_enter Tryd.func11, Tryd.ntmps11
  go_wp2
  go_step3
  go_wp2
  go_step3
  go_wp2
  go_loopg [1, 6, 7] (s.size - o) (fun g i _ _ wx => ∃ k : Nat, k ≤ s.size ∧ g = s.size - k ∧ i = .int .i64 k ∧ Hid (gapW s o = gapW s k) ∧ wx = w)
  case atStart => exact ⟨o, ho, rfl, rfl, rfl, rfl⟩
  case round =>
    obtain ⟨k, hk, hgk, rfl, HE, rfl⟩ := hrel
    by_cases hlt : k < s.size
    · have hi : (k : Int) < (s.size : Int) := by omega
      have hb : (0 : Int) ≤ (s[k].toNat : Int) ∧ (s[k].toNat : Int) ≤ 255 := by have := s[k].toNat_lt; omega
      have HB := hide (isBlank_any (s[k].toNat : Int) wr hb)
      have HO := hide (opens_call s k wr)
      by_cases hbl : blankN (s[k].toNat : Int) = true
      · have HG := hide (gapW_blank s k hlt hbl)
        go_wp2_with (first
          | (go_at_call 19; refine HB.out.mono ?_; rintro e w' ⟨rfl, hw'⟩; have hw' := hw'.symm; subst hw')
          | (go_at_call 20; refine HO.out.mono ?_; rintro e w' ⟨rfl, hw'⟩; have hw' := hw'.symm; subst hw'))
        go_roundg (s.size - (k + 1))
        case rel => exact ⟨k + 1, by omega, rfl, by go_num, HE.out.trans HG.out, rfl⟩
        case measure => omega
      have hbf : blankN (s[k].toNat : Int) = false := by simpa using hbl
      clear hbl
      by_cases h37 : (s[k].toNat : Int) = 37
      · have e1 : ((s[k].toNat : Int) == 37) = true := by simpa using h37
        have HG := hide (gapW_line s k hlt hbf h37)
        have HB := hide (isBlank_any 37 wr (by omega))
        rw [show blankN 37 = false from rfl] at HB
        have hm := hide (line_bounds s k hlt h37)
        go_wp2_with (first
          | (go_at_call 19; refine HB.out.mono ?_; rintro e w' ⟨rfl, hw'⟩; have hw' := hw'.symm; subst hw')
          | (go_at_call 20; refine HO.out.mono ?_; rintro e w' ⟨rfl, hw'⟩; have hw' := hw'.symm; subst hw'))
        obtain ⟨wo, hwo⟩ : ∃ wo : World, wo = wr := ⟨_, rfl⟩
        subst hwo
        go_loopg [1] (s.size - k) (fun g i wx => ∃ j : Nat, k ≤ j ∧ j ≤ s.size ∧ g = s.size - j ∧ i = .int .i64 j ∧ Hid (k + lineC (rest s k) = j + lineC (rest s j)) ∧ wx = wo)
        case atStart => exact ⟨k, Nat.le_refl _, hk, rfl, rfl, rfl, rfl⟩
        case round =>
          obtain ⟨j, hj0, hj, hgj, rfl, HF, rfl⟩ := hrel
          by_cases hjl : j < s.size
          · have hi2 : (j : Int) < (s.size : Int) := by omega
            by_cases hbj : (s[j].toNat : Int) = 10
            · have e2 : ((s[j].toNat : Int) == 10) = true := by simpa using hbj
              have HF2 : Hid (lineC (rest s j) = 0) := by
                show lineC (rest s j) = 0
                rw [rest_cons s j hjl]; unfold lineC; exact if_pos (by omega)
              have HM : Hid (k + lineC (rest s k) = j) := HF.out.trans (by rw [HF2.out]; rfl)
              have hkj : k < j := by have h1 := HM.out; have h2 := hm.out; omega
              go_wp2
              go_roundg (s.size - j)
              case rel => exact ⟨j, hj, rfl, rfl, HE.out.trans (HG.out.trans (by rw [HM.out])), rfl⟩
              case measure => omega
            · have e2 : ((s[j].toNat : Int) == 10) = false := by simpa using hbj
              have HF2 : Hid (lineC (rest s j) = lineC (rest s (j + 1)) + 1) := by
                show lineC (rest s j) = _
                rw [rest_cons s j hjl]; conv => lhs; unfold lineC
                exact if_neg (by omega)
              go_wp2
              go_roundg (s.size - (j + 1))
              case rel => exact ⟨j + 1, by omega, by omega, rfl, by go_num, by have h1 := HF.out; have h2 := HF2.out; show _ = _; omega, rfl⟩
              case measure => omega
          · have hi2 : ¬ (j : Int) < (s.size : Int) := by omega
            have HF2 : Hid (lineC (rest s j) = 0) := by
              show lineC (rest s j) = 0
              rw [rest_end s j (by omega)]; rfl
            have HM : Hid (k + lineC (rest s k) = j) := HF.out.trans (by rw [HF2.out]; rfl)
            go_wp2
            go_roundg (s.size - j)
            case rel => exact ⟨j, hj, rfl, rfl, HE.out.trans (HG.out.trans (by rw [HM.out])), rfl⟩
            case measure => omega
      have e1 : ((s[k].toNat : Int) == 37) = false := by simpa using h37
      by_cases hO : opens (rest s k) = true
      · have hbound := opens_len hO
        rw [rest_len] at hbound
        have HGB := hide fun h => gapW_bad s k hlt hbf h37 hO h
        have HGS := hide fun j h => gapW_block s k j hlt hbf h37 hO h
        go_wp2_with (first
          | (go_at_call 19; refine HB.out.mono ?_; rintro e w' ⟨rfl, hw'⟩; have hw' := hw'.symm; subst hw')
          | (go_at_call 20; refine HO.out.mono ?_; rintro e w' ⟨rfl, hw'⟩; have hw' := hw'.symm; subst hw'))
        obtain ⟨wo, hwo⟩ : ∃ wo : World, wo = wr := ⟨_, rfl⟩
        subst hwo
        clear HO HB
        go_loopg [1, 6, 7] (s.size - (k + 2)) (fun g a dv i wx => ∃ j d : Nat, k + 2 ≤ j ∧ j ≤ s.size ∧ 1 ≤ d ∧ d ≤ j ∧ g = s.size - j ∧ a = .int .i64 k ∧ i = .int .i64 j ∧ dv = .int .i64 d ∧ Hid (blockR s 1 (k + 2) = blockR s d j) ∧ wx = wo)
        case atStart => exact ⟨k + 2, 1, Nat.le_refl _, by omega, Nat.le_refl _, by omega, rfl, rfl, by go_num, rfl, rfl, rfl⟩
        case round =>
          obtain ⟨j, d, hj0, hj, hd1, hd, hgj, rfl, rfl, rfl, HF, rfl⟩ := hrel
          by_cases hjl : j < s.size
          · have hi2 : (j : Int) < (s.size : Int) := by omega
            have HO2 := hide (opens_call s j wr)
            have HC2 := hide (closes_call s j wr)
            by_cases hOj : opens (rest s j) = true
            · have h2 := opens_len hOj
              rw [rest_len] at h2
              have HN := hide (blockR_open (d := d) hOj)
              go_wp2_with (first
                | (go_at_call 20; refine HO2.out.mono ?_; rintro e w' ⟨rfl, hw'⟩; have hw' := hw'.symm; subst hw')
                | (go_at_call 20; refine HC2.out.mono ?_; rintro e w' ⟨rfl, hw'⟩; have hw' := hw'.symm; subst hw'))
              go_roundg (s.size - (j + 2))
              case rel => exact ⟨j + 2, d + 1, by omega, by omega, by omega, by omega, rfl, rfl, by go_num, by go_num, HF.out.trans HN.out, rfl⟩
              case measure => omega
            have hOj' : opens (rest s j) = false := by simpa using hOj
            clear hOj
            by_cases hCj : closes (rest s j) = true
            · have h2 := closes_len hCj
              rw [rest_len] at h2
              by_cases hd2 : d = 1
              · subst hd2
                have HL := hide (blockR_last hCj)
                have HJ : Hid (gapW s k = gapW s (j + 2)) := by
                  have h := HF.out.trans HL.out
                  unfold blockR at h
                  cases hbc : blockC 1 (rest s (k + 2)) with
                  | none => rw [hbc] at h; exfalso; revert h; simp only; omega
                  | some x =>
                    rw [hbc] at h
                    have := HGS.out x hbc
                    rw [show k + 2 + x = j + 2 from by simp only at h; omega] at this
                    exact this
                go_wp2_with (first
                  | (go_at_call 20; refine HO2.out.mono ?_; rintro e w' ⟨rfl, hw'⟩; have hw' := hw'.symm; subst hw')
                  | (go_at_call 20; refine HC2.out.mono ?_; rintro e w' ⟨rfl, hw'⟩; have hw' := hw'.symm; subst hw'))
                go_roundg (s.size - (j + 2))
                case rel => exact ⟨j + 2, by omega, rfl, by go_num, HE.out.trans HJ.out, rfl⟩
                case measure => omega
              · have HN := hide (blockR_close hCj hd2)
                have e3 : ((d : Int) - 1 == 0) = false := by simp; omega
                go_wp2_with (first
                  | (go_at_call 20; refine HO2.out.mono ?_; rintro e w' ⟨rfl, hw'⟩; have hw' := hw'.symm; subst hw')
                  | (go_at_call 20; refine HC2.out.mono ?_; rintro e w' ⟨rfl, hw'⟩; have hw' := hw'.symm; subst hw'))
                go_roundg (s.size - (j + 2))
                case rel => exact ⟨j + 2, d - 1, by omega, by omega, by omega, by omega, rfl, rfl, by go_num, by go_num, HF.out.trans HN.out, rfl⟩
                case measure => omega
            · have hCj' : closes (rest s j) = false := by simpa using hCj
              have HN := hide (blockR_else (d := d) hOj' hCj')
              clear hCj
              go_wp2_with (first
                | (go_at_call 20; refine HO2.out.mono ?_; rintro e w' ⟨rfl, hw'⟩; have hw' := hw'.symm; subst hw')
                | (go_at_call 20; refine HC2.out.mono ?_; rintro e w' ⟨rfl, hw'⟩; have hw' := hw'.symm; subst hw'))
              go_roundg (s.size - (j + 1))
              case rel => exact ⟨j + 1, d, by omega, by omega, by omega, by omega, rfl, rfl, by go_num, rfl, HF.out.trans HN.out, rfl⟩
              case measure => omega
          · have hi2 : ¬ (j : Int) < (s.size : Int) := by omega
            have HJ : Hid (gapW s k = (k, false)) := by
              have h := HF.out.trans (blockR_end (by omega))
              unfold blockR at h
              cases hbc : blockC 1 (rest s (k + 2)) with
              | none => exact HGB.out hbc
              | some x => rw [hbc] at h; exfalso; revert h; simp only; omega
            go_wp2
            try rw [Exit.noGoto_ret]
            go_ret2
            exact ⟨by rw [HE.out, HJ.out]; rfl, rfl⟩
      · have hO' : opens (rest s k) = false := by simpa using hO
        have HG := hide (gapW_stop s k hlt hbf h37 hO')
        clear hO
        go_wp2_with (first
          | (go_at_call 19; refine HB.out.mono ?_; rintro e w' ⟨rfl, hw'⟩; have hw' := hw'.symm; subst hw')
          | (go_at_call 20; refine HO.out.mono ?_; rintro e w' ⟨rfl, hw'⟩; have hw' := hw'.symm; subst hw'))
        try rw [Exit.noGoto_ret]
        go_ret2
        exact ⟨by rw [HE.out, HG.out]; rfl, rfl⟩
    · have hi : ¬ (k : Int) < (s.size : Int) := by omega
      have HG := hide (gapW_end s k (by omega))
      go_wp2
      try rw [Exit.noGoto_ret]
      go_ret2
      exact ⟨by rw [HE.out, HG.out]; rfl, rfl⟩

end Go.Proofs.YtplldgkdjainlaaDoor
