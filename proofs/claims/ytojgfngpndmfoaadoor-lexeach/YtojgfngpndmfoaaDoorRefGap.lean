/- The document's gap: what two, blank, comment and gap of the document's layer answer. -/
import Derived.Test.YtojgfngpndmfoaaDoorProg
import Derived.Test.YtojgfngpndmfoaaDoorGapPure
namespace Go.Proofs.YtojgfngpndmfoaaDoor
set_option linter.unusedSimpArgs false
set_option linter.unusedVariables false
open Go.RowKit

def twoS (s : ByteArray) (o : Nat) : ByteArray := if o + 2 ≤ s.size then s.extract o (o + 2) else ByteArray.empty

theorem two_any (s : ByteArray) (o : Nat) (w : World) (hs : s.size ≤ 140737488351232) (ho : o ≤ s.size) :
    Calls Tryd.prog 27 #[.string s, .int .i64 o] w fun e w' => e = .returned (.string (twoS s o)) ∧ w' = w := by
  by_cases h : o + 2 ≤ s.size
  · rw [show twoS s o = s.extract o (o + 2) from if_pos h]
    have h1 : ¬ ((s.size : Int) < (o : Int) + 2) := by omega
    have h2 : (o : Int) + 2 ≤ (s.size : Int) := by omega
    have h3 : (o : Int) ≤ (o : Int) + 2 := by omega
    have h4 : ((o : Int) + 2).toNat = o + 2 := by omega
    go_enter Tryd.func27, Tryd.ntmps27
    go_wp2
    go_ret
    exact ⟨rfl, rfl⟩
  · rw [show twoS s o = ByteArray.empty from if_neg h]
    have h1 : (s.size : Int) < (o : Int) + 2 := by omega
    go_enter Tryd.func27, Tryd.ntmps27
    go_wp2
    go_ret
    exact ⟨rfl, rfl⟩

theorem ret_bool' {a b : Bool} (h : a = b) : Ending.returned (.bool a) = .returned (.bool b) := by rw [h]

theorem refBlank_any (n : Int) (w : World) (h : 0 ≤ n ∧ n ≤ 255) :
    Calls Tryd.prog 28 #[.int .u8 n] w fun e w' => e = .returned (.bool (blankN n)) ∧ w' = w := by
  by_cases h1 : n = 32
  · subst h1; rw [show blankN 32 = true from rfl]
    go_enter Tryd.func28, Tryd.ntmps28
    go_wp2
    go_ret
    exact ⟨rfl, rfl⟩
  by_cases h2 : n = 9
  · subst h2; rw [show blankN 9 = true from rfl]
    go_enter Tryd.func28, Tryd.ntmps28
    go_wp2
    go_ret
    exact ⟨rfl, rfl⟩
  by_cases h3 : n = 10
  · subst h3; rw [show blankN 10 = true from rfl]
    go_enter Tryd.func28, Tryd.ntmps28
    go_wp2
    go_ret
    exact ⟨rfl, rfl⟩
  by_cases h4 : n = 13
  · subst h4; rw [show blankN 13 = true from rfl]
    go_enter Tryd.func28, Tryd.ntmps28
    go_wp2
    go_ret
    exact ⟨rfl, rfl⟩
  rw [show blankN n = false from by simp [blankN, h1, h2, h3, h4]]
  have e1 : (n == 32) = false := by simpa using h1
  have e2 : (n == 9) = false := by simpa using h2
  have e3 : (n == 10) = false := by simpa using h3
  have e4 : (n == 13) = false := by simpa using h4
  go_enter Tryd.func28, Tryd.ntmps28
  go_wp2
  go_ret
  exact ⟨rfl, rfl⟩

theorem ret_int {a b : Int} (h : a = b) : Ending.returned (.int .i64 a) = .returned (.int .i64 b) := by rw [h]

theorem two_list (s : ByteArray) (o : Nat) : (twoS s o).toList = if o + 2 ≤ s.size then (rest s o).take 2 else [] := by
  unfold twoS
  split
  · rw [ByteArray.toList_eq, ByteArray.data_extract, Array.toList_extract, List.extract_eq_take_drop]
    unfold rest
    rw [show o + 2 - o = 2 from by omega]
  · rw [ByteArray.toList_eq]; rfl
theorem two_opens (s : ByteArray) (o : Nat) : ((twoS s o).toList == [47, 42]) = opens (rest s o) := by
  rw [two_list]
  split
  · next h => rw [rest_cons s o (by omega), rest_cons s (o + 1) (by omega)]; exact opens_iff _ _ _
  · rw [opens_short (by rw [rest_len]; omega)]; rfl
theorem two_closes (s : ByteArray) (o : Nat) : ((twoS s o).toList == [42, 47]) = closes (rest s o) := by
  rw [two_list]
  split
  · next h => rw [rest_cons s o (by omega), rest_cons s (o + 1) (by omega)]; exact closes_iff _ _ _
  · rw [closes_short (by rw [rest_len]; omega)]; rfl

set_option maxHeartbeats 1000000 in
theorem comment_line (s : ByteArray) (o : Nat) (w : World) (hs : s.size ≤ 140737488351232) (ho : o < s.size) (hp : (s[o].toNat : Int) = 37) :
    Calls Tryd.prog 29 #[.string s, .int .i64 o] w fun e w' => e = .returned (.int .i64 ((o + lineC (rest s o) : Nat) : Int)) ∧ w' = w := by
  have e0 : ((s[o].toNat : Int) == 37) = true := by simpa using hp
  have ho' : (o : Int) < (s.size : Int) := by omega
  go_enter Tryd.func29, Tryd.ntmps29
  go_wp2
  go_loop [1] (fun i => ∃ k : Nat, o ≤ k ∧ k ≤ s.size ∧ i = .int .i64 k ∧ Hid (o + lineC (rest s o) = k + lineC (rest s k))) (fun i => s.size - (intOf i).toNat)
  case atStart => exact ⟨o, Nat.le_refl _, by omega, rfl, rfl⟩
  case round =>
    obtain ⟨k, hk0, hk, rfl, HE⟩ := hrel
    by_cases hlt : k < s.size
    · have hi : (k : Int) < (s.size : Int) := by omega
      by_cases hb : (s[k].toNat : Int) = 10
      · have e : ((s[k].toNat : Int) == 10) = true := by simpa using hb
        have e' : ((s[k].toNat : Int) != 10) = false := by simpa using hb
        have HF : Hid (lineC (rest s k) = 0) := by
          show lineC (rest s k) = 0
          rw [rest_cons s k hlt]; unfold lineC; exact if_pos (by omega)
        go_wp2
        go_ret
        exact ⟨ret_int (by have := HE.out; have := HF.out; omega), rfl⟩
      · have e : ((s[k].toNat : Int) == 10) = false := by simpa using hb
        have e' : ((s[k].toNat : Int) != 10) = true := by simpa using hb
        have HF : Hid (lineC (rest s k) = lineC (rest s (k + 1)) + 1) := by
          show lineC (rest s k) = _
          rw [rest_cons s k hlt]; conv => lhs; unfold lineC
          exact if_neg (by omega)
        go_wp2
        go_round
        case rel => exact ⟨k + 1, by omega, by omega, by go_num, by show _ = _; rw [HE.out, HF.out]; omega⟩
        case measure => simp [intOf]; omega
    · have hi : ¬ (k : Int) < (s.size : Int) := by omega
      have HF : Hid (lineC (rest s k) = 0) := by
        show lineC (rest s k) = 0
        rw [rest_end s k (by omega)]; rfl
      go_wp2
      go_ret
      exact ⟨ret_int (by have := HE.out; have := HF.out; omega), rfl⟩

set_option maxHeartbeats 1000000 in
theorem comment_block (s : ByteArray) (o : Nat) (w : World) (hs : s.size ≤ 140737488351232) (ho : o < s.size) (hp : ¬ (s[o].toNat : Int) = 37) (hop : opens (rest s o) = true) :
    Calls Tryd.prog 29 #[.string s, .int .i64 o] w fun e w' => e = .returned (.int .i64 (blockR s 1 (o + 2))) ∧ w' = w := by
  have e0 : ((s[o].toNat : Int) == 37) = false := by simpa using hp
  have ho' : (o : Int) < (s.size : Int) := by omega
  replace hop := hide hop
  go_enter Tryd.func29, Tryd.ntmps29
  go_wp2
  go_loop [1, 5, 6] (fun i dv _ => ∃ k d : Nat, k ≤ s.size ∧ d ≤ k ∧ i = .int .i64 k ∧ dv = .int .i64 d ∧ Hid ((k = o ∧ d = 0) ∨ (1 ≤ d ∧ blockR s 1 (o + 2) = blockR s d k))) (fun i _ _ => s.size - (intOf i).toNat)
  case atStart => exact ⟨o, 0, by omega, by omega, rfl, rfl, .inl ⟨rfl, rfl⟩⟩
  case round =>
    obtain ⟨k, d, hk, hd, rfl, rfl, HE⟩ := hrel
    by_cases hlt : k < s.size
    · have hi : (k : Int) < (s.size : Int) := by omega
      have HT := hide (two_any s k w hs hk)
      by_cases hO : opens (rest s k) = true
      · have e1 : ((twoS s k).toList == [47, 42]) = true := by rw [two_opens, hO]
        have e2 : ((d : Int) + 1 == 0) = false := by simp; omega
        have h2 := opens_len hO
        rw [rest_len] at h2
        replace hO := hide hO
        go_wp2_with (go_at_call 27; refine HT.out.mono ?_; rintro e w' ⟨rfl, hw'⟩; have hw' := hw'.symm; subst hw')
        go_round
        case rel =>
          refine ⟨k + 2, d + 1, by omega, by omega, by go_num, by go_num, .inr ⟨by omega, ?_⟩⟩
          rcases HE.out with ⟨rfl, rfl⟩ | ⟨_, h⟩
          · rfl
          · rw [h, blockR_open hO.out]
        case measure => simp [intOf]; omega
      have hO' : opens (rest s k) = false := by simpa using hO
      obtain ⟨hd1, HR⟩ : 1 ≤ d ∧ blockR s 1 (o + 2) = blockR s d k := by
        rcases HE.out with ⟨rfl, _⟩ | h
        · rw [hop.out] at hO'; cases hO'
        · exact h
      replace HR := hide HR
      have e1 : ((twoS s k).toList == [47, 42]) = false := by rw [two_opens, hO']
      clear hO HE
      by_cases hC : closes (rest s k) = true
      · have e2 : ((twoS s k).toList == [42, 47]) = true := by rw [two_closes, hC]
        have h2 := closes_len hC
        rw [rest_len] at h2
        replace hC := hide hC
        by_cases hd2 : d = 1
        · subst hd2
          go_wp2_with (go_at_call 27; refine HT.out.mono ?_; rintro e w' ⟨rfl, hw'⟩; have hw' := hw'.symm; subst hw')
          go_ret
          exact ⟨ret_int (by rw [HR.out, blockR_last hC.out]; omega), rfl⟩
        · have e3 : ((d : Int) - 1 == 0) = false := by simp; omega
          go_wp2_with (go_at_call 27; refine HT.out.mono ?_; rintro e w' ⟨rfl, hw'⟩; have hw' := hw'.symm; subst hw')
          go_round
          case rel => exact ⟨k + 2, d - 1, by omega, by omega, by go_num, by go_num, .inr ⟨by omega, by rw [HR.out, blockR_close hC.out hd2]⟩⟩
          case measure => simp [intOf]; omega
      · have hC' : closes (rest s k) = false := by simpa using hC
        have e2 : ((twoS s k).toList == [42, 47]) = false := by rw [two_closes, hC']
        have e3 : ((d : Int) == 0) = false := by simp; omega
        clear hC
        replace hO' := hide hO'
        replace hC' := hide hC'
        go_wp2_with (go_at_call 27; refine HT.out.mono ?_; rintro e w' ⟨rfl, hw'⟩; have hw' := hw'.symm; subst hw')
        go_round
        case rel => exact ⟨k + 1, d, by omega, by omega, by go_num, by go_num, .inr ⟨hd1, by rw [HR.out, blockR_else hO'.out hC'.out]⟩⟩
        case measure => simp [intOf]; omega
    · have hi : ¬ (k : Int) < (s.size : Int) := by omega
      have HR : Hid (blockR s 1 (o + 2) = -1) := by
        rcases HE.out with ⟨rfl, _⟩ | ⟨_, h⟩
        · exact absurd ho hlt
        · exact h.trans (blockR_end (by omega))
      go_wp2
      go_ret
      exact ⟨ret_int HR.out.symm, rfl⟩

def errB : Bool → Int | true => 0 | false => 16

set_option maxHeartbeats 2000000 in
theorem refGap_any (s : ByteArray) (o : Nat) (w : World) (hs : s.size ≤ 140737488351232) (ho : o ≤ s.size) :
    Calls Tryd.prog 18 #[.string s, .int .i64 o] w fun e w' => e = .returned (.tuple #[.int .i64 ((gapW s o).1 : Nat), .int .i64 (errB (gapW s o).2)]) ∧ w' = w := by
  go_enter Tryd.func18, Tryd.ntmps18
  go_wp2
  go_loop [1, 6, 7] (fun i _ _ => ∃ k : Nat, k ≤ s.size ∧ i = .int .i64 k ∧ Hid (gapW s o = gapW s k)) (fun i _ _ => s.size - (intOf i).toNat)
  case atStart => exact ⟨o, ho, rfl, rfl⟩
  case round =>
    obtain ⟨k, hk, rfl, HE⟩ := hrel
    by_cases hlt : k < s.size
    · have hi : (k : Int) < (s.size : Int) := by omega
      have hb : (0 : Int) ≤ (s[k].toNat : Int) ∧ (s[k].toNat : Int) ≤ 255 := by have := s[k].toNat_lt; omega
      have HT := hide (two_any s k w hs hk)
      have HB := hide (refBlank_any (s[k].toNat : Int) w hb)
      by_cases hbl : blankN (s[k].toNat : Int) = true
      · have HG := hide (gapW_blank s k hlt hbl)
        go_wp2_with (first
          | (go_at_call 27; refine HT.out.mono ?_; rintro e w' ⟨rfl, hw'⟩; have hw' := hw'.symm; subst hw')
          | (go_at_call 28; refine HB.out.mono ?_; rintro e w' ⟨rfl, hw'⟩; have hw' := hw'.symm; subst hw'))
        go_round
        case rel => exact ⟨k + 1, by omega, by go_num, HE.out.trans HG.out⟩
        case measure => simp [intOf]; omega
      have hbf : blankN (s[k].toNat : Int) = false := by simpa using hbl
      clear hbl
      by_cases h37 : (s[k].toNat : Int) = 37
      · have e1 : ((s[k].toNat : Int) == 37) = true := by simpa using h37
        have e1' : ((s[k].toNat : Int) != 37) = false := by simpa using h37
        have HG := hide (gapW_line s k hlt hbf h37)
        have HC := hide (comment_line s k w hs hlt h37)
        have HB := hide (refBlank_any 37 w (by omega))
        rw [show blankN 37 = false from rfl] at HB
        obtain ⟨m, hm⟩ : ∃ m, m = k + lineC (rest s k) := ⟨_, rfl⟩
        have hm1 : k < m ∧ m ≤ s.size := by rw [hm]; exact line_bounds s k hlt h37
        have hm2 := hide hm
        rw [← hm] at HC HG
        clear hm
        have hm3 : ¬ (m : Int) < 0 := by omega
        go_wp2_with (first
          | (go_at_call 27; refine HT.out.mono ?_; rintro e w' ⟨rfl, hw'⟩; have hw' := hw'.symm; subst hw')
          | (go_at_call 28; refine HB.out.mono ?_; rintro e w' ⟨rfl, hw'⟩; have hw' := hw'.symm; subst hw')
          | (go_at_call 29; refine HC.out.mono ?_; rintro e w' ⟨rfl, hw'⟩; have hw' := hw'.symm; subst hw'))
        go_round
        case rel => exact ⟨m, by omega, rfl, HE.out.trans HG.out⟩
        case measure => clear HG HC hm2 HE HT HB; simp [intOf]; omega
      have e1 : ((s[k].toNat : Int) == 37) = false := by simpa using h37
      have e1' : ((s[k].toNat : Int) != 37) = true := by simpa using h37
      by_cases hO : opens (rest s k) = true
      · have e2 : ((twoS s k).toList == [47, 42]) = true := by rw [two_opens, hO]
        have HC := hide (comment_block s k w hs hlt h37 hO)
        cases hbc : blockC 1 (rest s (k + 2)) with
        | none =>
          have hR : blockR s 1 (k + 2) = -1 := by unfold blockR; rw [hbc]
          rw [hR] at HC
          have HG := hide (gapW_bad s k hlt hbf h37 hO hbc)
          clear hR hbc hO
          go_wp2_with (first
            | (go_at_call 27; refine HT.out.mono ?_; rintro e w' ⟨rfl, hw'⟩; have hw' := hw'.symm; subst hw')
            | (go_at_call 28; refine HB.out.mono ?_; rintro e w' ⟨rfl, hw'⟩; have hw' := hw'.symm; subst hw')
            | (go_at_call 29; refine HC.out.mono ?_; rintro e w' ⟨rfl, hw'⟩; have hw' := hw'.symm; subst hw'))
          go_ret2
          exact ⟨by rw [HE.out, HG.out]; rfl, rfl⟩
        | some j =>
          have hR : blockR s 1 (k + 2) = ((k + 2 + j : Nat) : Int) := by unfold blockR; rw [hbc]
          rw [hR] at HC
          have hj := blockC_le _ _ _ hbc
          rw [rest_len] at hj
          have HG := hide (gapW_block s k j hlt hbf h37 hO hbc)
          obtain ⟨m, hm⟩ : ∃ m, m = k + 2 + j := ⟨_, rfl⟩
          rw [← hm] at HC HG
          have hm1 : k < m ∧ m ≤ s.size := by omega
          have hm3 : ¬ (m : Int) < 0 := by omega
          clear hR hbc hO hj hm
          go_wp2_with (first
            | (go_at_call 27; refine HT.out.mono ?_; rintro e w' ⟨rfl, hw'⟩; have hw' := hw'.symm; subst hw')
            | (go_at_call 28; refine HB.out.mono ?_; rintro e w' ⟨rfl, hw'⟩; have hw' := hw'.symm; subst hw')
            | (go_at_call 29; refine HC.out.mono ?_; rintro e w' ⟨rfl, hw'⟩; have hw' := hw'.symm; subst hw'))
          go_round
          case rel => exact ⟨m, by omega, rfl, HE.out.trans HG.out⟩
          case measure => simp [intOf]; omega
      · have hO' : opens (rest s k) = false := by simpa using hO
        have e2 : ((twoS s k).toList == [47, 42]) = false := by rw [two_opens, hO']
        have HG := hide (gapW_stop s k hlt hbf h37 hO')
        clear hO hO'
        go_wp2_with (first
          | (go_at_call 27; refine HT.out.mono ?_; rintro e w' ⟨rfl, hw'⟩; have hw' := hw'.symm; subst hw')
          | (go_at_call 28; refine HB.out.mono ?_; rintro e w' ⟨rfl, hw'⟩; have hw' := hw'.symm; subst hw'))
        go_ret2
        exact ⟨by rw [HE.out, HG.out]; rfl, rfl⟩
    · have hi : ¬ (k : Int) < (s.size : Int) := by omega
      have HG := hide (gapW_end s k (by omega))
      go_wp2
      go_ret2
      exact ⟨by rw [HE.out, HG.out]; rfl, rfl⟩

end Go.Proofs.YtojgfngpndmfoaaDoor
