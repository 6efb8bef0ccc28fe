/- The document's gap: what two, blank, comment and gap of the document's layer answer. What the document's sign answers: as lex.punctuation. What the document's token answers: as lex behind a gap. What the document's Scan answers: as lex.Scan. The document's check. The document's table of states finds the fault that parse's grammar finds, and its trees, cut out of the tokens, are the grammar's. The document's table of states and its cuts against parse's grammar: clauses, programs, facts, queries, one fact. -/
import Derived.Test.YtmdhjggijlhhgaaGreatDoorProg
import Derived.Test.YtmdhjggijlhhgaaGreatDoorGapPure
import Derived.Test.YtmdhjggijlhhgaaGreatDoorPkA
import Derived.Test.YtmdhjggijlhhgaaGreatDoorLexPunct
import Derived.Test.YtmdhjggijlhhgaaGreatDoorLexNext
import Derived.Test.YtmdhjggijlhhgaaGreatDoorLexScan
import Derived.Deep.RegionHeld3
import Derived.Test.YtmdhjggijlhhgaaGreatDoorRMove
import Derived.Test.YtmdhjggijlhhgaaGreatDoorRCnt
import Derived.Test.YtmdhjggijlhhgaaGreatDoorRCut
import Derived.Test.YtmdhjggijlhhgaaGreatDoorRTabPure

namespace Go.Proofs.YtmdhjggijlhhgaaGreatDoor
set_option linter.unusedSimpArgs false
set_option linter.unusedVariables false
open Go.RowKit

def twoS (s : ByteArray) (o : Nat) : ByteArray := if o + 2 ≤ s.size then s.extract o (o + 2) else ByteArray.empty

theorem two_any (s : ByteArray) (o : Nat) (w : World) (hs : s.size ≤ 140737488351232) (ho : o ≤ s.size) :
    Calls Tryz.prog 69 #[.string s, .int .i64 o] w fun e w' => e = .returned (.string (twoS s o)) ∧ w' = w := by
  by_cases h : o + 2 ≤ s.size
  · rw [show twoS s o = s.extract o (o + 2) from if_pos h]
    have h1 : ¬ ((s.size : Int) < (o : Int) + 2) := by omega
    have h2 : (o : Int) + 2 ≤ (s.size : Int) := by omega
    have h3 : (o : Int) ≤ (o : Int) + 2 := by omega
    have h4 : ((o : Int) + 2).toNat = o + 2 := by omega
    go_enter Tryz.func69, Tryz.ntmps69
    go_wp2
    go_ret
    exact ⟨rfl, rfl⟩
  · rw [show twoS s o = ByteArray.empty from if_neg h]
    have h1 : (s.size : Int) < (o : Int) + 2 := by omega
    go_enter Tryz.func69, Tryz.ntmps69
    go_wp2
    go_ret
    exact ⟨rfl, rfl⟩

theorem ret_bool' {a b : Bool} (h : a = b) : Ending.returned (.bool a) = .returned (.bool b) := by rw [h]

theorem refBlank_any (n : Int) (w : World) (h : 0 ≤ n ∧ n ≤ 255) :
    Calls Tryz.prog 70 #[.int .u8 n] w fun e w' => e = .returned (.bool (blankN n)) ∧ w' = w := by
  by_cases h1 : n = 32
  · subst h1; rw [show blankN 32 = true from rfl]
    go_enter Tryz.func70, Tryz.ntmps70
    go_wp2
    go_ret
    exact ⟨rfl, rfl⟩
  by_cases h2 : n = 9
  · subst h2; rw [show blankN 9 = true from rfl]
    go_enter Tryz.func70, Tryz.ntmps70
    go_wp2
    go_ret
    exact ⟨rfl, rfl⟩
  by_cases h3 : n = 10
  · subst h3; rw [show blankN 10 = true from rfl]
    go_enter Tryz.func70, Tryz.ntmps70
    go_wp2
    go_ret
    exact ⟨rfl, rfl⟩
  by_cases h4 : n = 13
  · subst h4; rw [show blankN 13 = true from rfl]
    go_enter Tryz.func70, Tryz.ntmps70
    go_wp2
    go_ret
    exact ⟨rfl, rfl⟩
  rw [show blankN n = false from by simp [blankN, h1, h2, h3, h4]]
  have e1 : (n == 32) = false := by simpa using h1
  have e2 : (n == 9) = false := by simpa using h2
  have e3 : (n == 10) = false := by simpa using h3
  have e4 : (n == 13) = false := by simpa using h4
  go_enter Tryz.func70, Tryz.ntmps70
  go_wp2
  go_ret
  exact ⟨rfl, rfl⟩

theorem ret_int {a b : Int} (h : a = b) : Ending.returned (.int .i64 a) = .returned (.int .i64 b) := by rw [h]

theorem two_list (s : ByteArray) (o : Nat) : (twoS s o).toList = if o + 2 ≤ s.size then (rest s o).take 2 else [] := by
  unfold twoS
  split
  · rw [ByteArray.toList_eq, ByteArray.data_extract, Array.toList_extract, List.extract_eq_take_drop]
    unfold rest
    rw [show o + 2 - o = 2 from by omega]
  · rw [ByteArray.toList_eq]; rfl
theorem two_opens (s : ByteArray) (o : Nat) : ((twoS s o).toList == [47, 42]) = opens (rest s o) := by
  rw [two_list]
  split
  · next h => rw [rest_cons s o (by omega), rest_cons s (o + 1) (by omega)]; exact opens_iff _ _ _
  · rw [opens_short (by rw [rest_len]; omega)]; rfl
theorem two_closes (s : ByteArray) (o : Nat) : ((twoS s o).toList == [42, 47]) = closes (rest s o) := by
  rw [two_list]
  split
  · next h => rw [rest_cons s o (by omega), rest_cons s (o + 1) (by omega)]; exact closes_iff _ _ _
  · rw [closes_short (by rw [rest_len]; omega)]; rfl

set_option maxHeartbeats 1000000 in
theorem comment_line (s : ByteArray) (o : Nat) (w : World) (hs : s.size ≤ 140737488351232) (ho : o < s.size) (hp : (s[o].toNat : Int) = 37) :
    Calls Tryz.prog 71 #[.string s, .int .i64 o] w fun e w' => e = .returned (.int .i64 ((o + lineC (rest s o) : Nat) : Int)) ∧ w' = w := by
  have e0 : ((s[o].toNat : Int) == 37) = true := by simpa using hp
  have ho' : (o : Int) < (s.size : Int) := by omega
  go_enter Tryz.func71, Tryz.ntmps71
  go_wp2
  go_loop [1] (fun i => ∃ k : Nat, o ≤ k ∧ k ≤ s.size ∧ i = .int .i64 k ∧ Hid (o + lineC (rest s o) = k + lineC (rest s k))) (fun i => s.size - (intOf i).toNat)
  case atStart => exact ⟨o, Nat.le_refl _, by omega, rfl, rfl⟩
  case round =>
    obtain ⟨k, hk0, hk, rfl, HE⟩ := hrel
    by_cases hlt : k < s.size
    · have hi : (k : Int) < (s.size : Int) := by omega
      by_cases hb : (s[k].toNat : Int) = 10
      · have e : ((s[k].toNat : Int) == 10) = true := by simpa using hb
        have e' : ((s[k].toNat : Int) != 10) = false := by simpa using hb
        have HF : Hid (lineC (rest s k) = 0) := by
          show lineC (rest s k) = 0
          rw [rest_cons s k hlt]; unfold lineC; exact if_pos (by omega)
        go_wp2
        go_ret
        exact ⟨ret_int (by have := HE.out; have := HF.out; omega), rfl⟩
      · have e : ((s[k].toNat : Int) == 10) = false := by simpa using hb
        have e' : ((s[k].toNat : Int) != 10) = true := by simpa using hb
        have HF : Hid (lineC (rest s k) = lineC (rest s (k + 1)) + 1) := by
          show lineC (rest s k) = _
          rw [rest_cons s k hlt]; conv => lhs; unfold lineC
          exact if_neg (by omega)
        go_wp2
        go_round
        case rel => exact ⟨k + 1, by omega, by omega, by go_num, by show _ = _; rw [HE.out, HF.out]; omega⟩
        case measure => simp [intOf]; omega
    · have hi : ¬ (k : Int) < (s.size : Int) := by omega
      have HF : Hid (lineC (rest s k) = 0) := by
        show lineC (rest s k) = 0
        rw [rest_end s k (by omega)]; rfl
      go_wp2
      go_ret
      exact ⟨ret_int (by have := HE.out; have := HF.out; omega), rfl⟩

set_option maxHeartbeats 1000000 in
theorem comment_block (s : ByteArray) (o : Nat) (w : World) (hs : s.size ≤ 140737488351232) (ho : o < s.size) (hp : ¬ (s[o].toNat : Int) = 37) (hop : opens (rest s o) = true) :
    Calls Tryz.prog 71 #[.string s, .int .i64 o] w fun e w' => e = .returned (.int .i64 (blockR s 1 (o + 2))) ∧ w' = w := by
  have e0 : ((s[o].toNat : Int) == 37) = false := by simpa using hp
  have ho' : (o : Int) < (s.size : Int) := by omega
  replace hop := hide hop
  go_enter Tryz.func71, Tryz.ntmps71
  go_wp2
  go_loop [1, 5, 6] (fun i dv _ => ∃ k d : Nat, k ≤ s.size ∧ d ≤ k ∧ i = .int .i64 k ∧ dv = .int .i64 d ∧ Hid ((k = o ∧ d = 0) ∨ (1 ≤ d ∧ blockR s 1 (o + 2) = blockR s d k))) (fun i _ _ => s.size - (intOf i).toNat)
  case atStart => exact ⟨o, 0, by omega, by omega, rfl, rfl, .inl ⟨rfl, rfl⟩⟩
  case round =>
    obtain ⟨k, d, hk, hd, rfl, rfl, HE⟩ := hrel
    by_cases hlt : k < s.size
    · have hi : (k : Int) < (s.size : Int) := by omega
      have HT := hide (two_any s k w hs hk)
      by_cases hO : opens (rest s k) = true
      · have e1 : ((twoS s k).toList == [47, 42]) = true := by rw [two_opens, hO]
        have e2 : ((d : Int) + 1 == 0) = false := by simp; omega
        have h2 := opens_len hO
        rw [rest_len] at h2
        replace hO := hide hO
        go_wp2_with (go_at_call 69; refine HT.out.mono ?_; rintro e w' ⟨rfl, hw'⟩; have hw' := hw'.symm; subst hw')
        go_round
        case rel =>
          refine ⟨k + 2, d + 1, by omega, by omega, by go_num, by go_num, .inr ⟨by omega, ?_⟩⟩
          rcases HE.out with ⟨rfl, rfl⟩ | ⟨_, h⟩
          · rfl
          · rw [h, blockR_open hO.out]
        case measure => simp [intOf]; omega
      have hO' : opens (rest s k) = false := by simpa using hO
      obtain ⟨hd1, HR⟩ : 1 ≤ d ∧ blockR s 1 (o + 2) = blockR s d k := by
        rcases HE.out with ⟨rfl, _⟩ | h
        · rw [hop.out] at hO'; cases hO'
        · exact h
      replace HR := hide HR
      have e1 : ((twoS s k).toList == [47, 42]) = false := by rw [two_opens, hO']
      clear hO HE
      by_cases hC : closes (rest s k) = true
      · have e2 : ((twoS s k).toList == [42, 47]) = true := by rw [two_closes, hC]
        have h2 := closes_len hC
        rw [rest_len] at h2
        replace hC := hide hC
        by_cases hd2 : d = 1
        · subst hd2
          go_wp2_with (go_at_call 69; refine HT.out.mono ?_; rintro e w' ⟨rfl, hw'⟩; have hw' := hw'.symm; subst hw')
          go_ret
          exact ⟨ret_int (by rw [HR.out, blockR_last hC.out]; omega), rfl⟩
        · have e3 : ((d : Int) - 1 == 0) = false := by simp; omega
          go_wp2_with (go_at_call 69; refine HT.out.mono ?_; rintro e w' ⟨rfl, hw'⟩; have hw' := hw'.symm; subst hw')
          go_round
          case rel => exact ⟨k + 2, d - 1, by omega, by omega, by go_num, by go_num, .inr ⟨by omega, by rw [HR.out, blockR_close hC.out hd2]⟩⟩
          case measure => simp [intOf]; omega
      · have hC' : closes (rest s k) = false := by simpa using hC
        have e2 : ((twoS s k).toList == [42, 47]) = false := by rw [two_closes, hC']
        have e3 : ((d : Int) == 0) = false := by simp; omega
        clear hC
        replace hO' := hide hO'
        replace hC' := hide hC'
        go_wp2_with (go_at_call 69; refine HT.out.mono ?_; rintro e w' ⟨rfl, hw'⟩; have hw' := hw'.symm; subst hw')
        go_round
        case rel => exact ⟨k + 1, d, by omega, by omega, by go_num, by go_num, .inr ⟨hd1, by rw [HR.out, blockR_else hO'.out hC'.out]⟩⟩
        case measure => simp [intOf]; omega
    · have hi : ¬ (k : Int) < (s.size : Int) := by omega
      have HR : Hid (blockR s 1 (o + 2) = -1) := by
        rcases HE.out with ⟨rfl, _⟩ | ⟨_, h⟩
        · exact absurd ho hlt
        · exact h.trans (blockR_end (by omega))
      go_wp2
      go_ret
      exact ⟨ret_int HR.out.symm, rfl⟩

def errB : Bool → Int | true => 0 | false => 16

set_option maxHeartbeats 2000000 in
theorem refGap_any (s : ByteArray) (o : Nat) (w : World) (hs : s.size ≤ 140737488351232) (ho : o ≤ s.size) :
    Calls Tryz.prog 59 #[.string s, .int .i64 o] w fun e w' => e = .returned (.tuple #[.int .i64 ((gapW s o).1 : Nat), .int .i64 (errB (gapW s o).2)]) ∧ w' = w := by
  go_enter Tryz.func59, Tryz.ntmps59
  go_wp2
  go_loop [1, 6, 7] (fun i _ _ => ∃ k : Nat, k ≤ s.size ∧ i = .int .i64 k ∧ Hid (gapW s o = gapW s k)) (fun i _ _ => s.size - (intOf i).toNat)
  case atStart => exact ⟨o, ho, rfl, rfl⟩
  case round =>
    obtain ⟨k, hk, rfl, HE⟩ := hrel
    by_cases hlt : k < s.size
    · have hi : (k : Int) < (s.size : Int) := by omega
      have hb : (0 : Int) ≤ (s[k].toNat : Int) ∧ (s[k].toNat : Int) ≤ 255 := by have := s[k].toNat_lt; omega
      have HT := hide (two_any s k w hs hk)
      have HB := hide (refBlank_any (s[k].toNat : Int) w hb)
      by_cases hbl : blankN (s[k].toNat : Int) = true
      · have HG := hide (gapW_blank s k hlt hbl)
        go_wp2_with (first
          | (go_at_call 69; refine HT.out.mono ?_; rintro e w' ⟨rfl, hw'⟩; have hw' := hw'.symm; subst hw')
          | (go_at_call 70; refine HB.out.mono ?_; rintro e w' ⟨rfl, hw'⟩; have hw' := hw'.symm; subst hw'))
        go_round
        case rel => exact ⟨k + 1, by omega, by go_num, HE.out.trans HG.out⟩
        case measure => simp [intOf]; omega
      have hbf : blankN (s[k].toNat : Int) = false := by simpa using hbl
      clear hbl
      by_cases h37 : (s[k].toNat : Int) = 37
      · have e1 : ((s[k].toNat : Int) == 37) = true := by simpa using h37
        have e1' : ((s[k].toNat : Int) != 37) = false := by simpa using h37
        have HG := hide (gapW_line s k hlt hbf h37)
        have HC := hide (comment_line s k w hs hlt h37)
        have HB := hide (refBlank_any 37 w (by omega))
        rw [show blankN 37 = false from rfl] at HB
        obtain ⟨m, hm⟩ : ∃ m, m = k + lineC (rest s k) := ⟨_, rfl⟩
        have hm1 : k < m ∧ m ≤ s.size := by rw [hm]; exact line_bounds s k hlt h37
        have hm2 := hide hm
        rw [← hm] at HC HG
        clear hm
        have hm3 : ¬ (m : Int) < 0 := by omega
        go_wp2_with (first
          | (go_at_call 69; refine HT.out.mono ?_; rintro e w' ⟨rfl, hw'⟩; have hw' := hw'.symm; subst hw')
          | (go_at_call 70; refine HB.out.mono ?_; rintro e w' ⟨rfl, hw'⟩; have hw' := hw'.symm; subst hw')
          | (go_at_call 71; refine HC.out.mono ?_; rintro e w' ⟨rfl, hw'⟩; have hw' := hw'.symm; subst hw'))
        go_round
        case rel => exact ⟨m, by omega, rfl, HE.out.trans HG.out⟩
        case measure => clear HG HC hm2 HE HT HB; simp [intOf]; omega
      have e1 : ((s[k].toNat : Int) == 37) = false := by simpa using h37
      have e1' : ((s[k].toNat : Int) != 37) = true := by simpa using h37
      by_cases hO : opens (rest s k) = true
      · have e2 : ((twoS s k).toList == [47, 42]) = true := by rw [two_opens, hO]
        have HC := hide (comment_block s k w hs hlt h37 hO)
        cases hbc : blockC 1 (rest s (k + 2)) with
        | none =>
          have hR : blockR s 1 (k + 2) = -1 := by unfold blockR; rw [hbc]
          rw [hR] at HC
          have HG := hide (gapW_bad s k hlt hbf h37 hO hbc)
          clear hR hbc hO
          go_wp2_with (first
            | (go_at_call 69; refine HT.out.mono ?_; rintro e w' ⟨rfl, hw'⟩; have hw' := hw'.symm; subst hw')
            | (go_at_call 70; refine HB.out.mono ?_; rintro e w' ⟨rfl, hw'⟩; have hw' := hw'.symm; subst hw')
            | (go_at_call 71; refine HC.out.mono ?_; rintro e w' ⟨rfl, hw'⟩; have hw' := hw'.symm; subst hw'))
          go_ret2
          exact ⟨by rw [HE.out, HG.out]; rfl, rfl⟩
        | some j =>
          have hR : blockR s 1 (k + 2) = ((k + 2 + j : Nat) : Int) := by unfold blockR; rw [hbc]
          rw [hR] at HC
          have hj := blockC_le _ _ _ hbc
          rw [rest_len] at hj
          have HG := hide (gapW_block s k j hlt hbf h37 hO hbc)
          obtain ⟨m, hm⟩ : ∃ m, m = k + 2 + j := ⟨_, rfl⟩
          rw [← hm] at HC HG
          have hm1 : k < m ∧ m ≤ s.size := by omega
          have hm3 : ¬ (m : Int) < 0 := by omega
          clear hR hbc hO hj hm
          go_wp2_with (first
            | (go_at_call 69; refine HT.out.mono ?_; rintro e w' ⟨rfl, hw'⟩; have hw' := hw'.symm; subst hw')
            | (go_at_call 70; refine HB.out.mono ?_; rintro e w' ⟨rfl, hw'⟩; have hw' := hw'.symm; subst hw')
            | (go_at_call 71; refine HC.out.mono ?_; rintro e w' ⟨rfl, hw'⟩; have hw' := hw'.symm; subst hw'))
          go_round
          case rel => exact ⟨m, by omega, rfl, HE.out.trans HG.out⟩
          case measure => simp [intOf]; omega
      · have hO' : opens (rest s k) = false := by simpa using hO
        have e2 : ((twoS s k).toList == [47, 42]) = false := by rw [two_opens, hO']
        have HG := hide (gapW_stop s k hlt hbf h37 hO')
        clear hO hO'
        go_wp2_with (first
          | (go_at_call 69; refine HT.out.mono ?_; rintro e w' ⟨rfl, hw'⟩; have hw' := hw'.symm; subst hw')
          | (go_at_call 70; refine HB.out.mono ?_; rintro e w' ⟨rfl, hw'⟩; have hw' := hw'.symm; subst hw'))
        go_ret2
        exact ⟨by rw [HE.out, HG.out]; rfl, rfl⟩
    · have hi : ¬ (k : Int) < (s.size : Int) := by omega
      have HG := hide (gapW_end s k (by omega))
      go_wp2
      go_ret2
      exact ⟨by rw [HE.out, HG.out]; rfl, rfl⟩

end Go.Proofs.YtmdhjggijlhhgaaGreatDoor

namespace Go.Proofs.YtmdhjggijlhhgaaGreatDoor
set_option linter.unusedSimpArgs false
set_option linter.unusedVariables false
open Go.RowKit
attribute [local go_sem] over_cellAt over_frozenAt over_setAt

theorem pre_two (s : ByteArray) (o : Nat) (a b : UInt8) : Lib.hasPrefix (rest s o) [a, b] = ((twoS s o).toList == [a, b]) := by
  rw [two_list]
  unfold Lib.hasPrefix
  split
  · next h =>
    rw [rest_cons s o (by omega), rest_cons s (o + 1) (by omega)]
    show ((a == _) && ((b == _) && true)) = ((_ == a) && ((_ == b) && true))
    rw [Bool.beq_comm (a := a), Bool.beq_comm (a := b)]
  · next h =>
    by_cases h1 : o < s.size
    · rw [rest_cons s o h1, rest_end s (o + 1) (by omega)]
      show ((a == _) && false) = false
      simp
    · rw [rest_end s o (by omega)]; rfl

theorem pre_one (s : ByteArray) (o : Nat) (ho : o < s.size) (a : UInt8) : Lib.hasPrefix (rest s o) [a] = (((s[o]'ho).toNat : Int) == (a.toNat : Int)) := by
  rw [rest_cons s o ho]
  show ((a == s[o]) && true) = _
  rw [Bool.and_true, Bool.eq_iff_iff]
  simp only [beq_iff_eq]
  constructor
  · rintro rfl; rfl
  · intro h
    exact (UInt8.toNat_inj.1 (by omega)).symm

theorem punct_sign (s : ByteArray) (o : Nat) (ho : o < s.size) (P : ByteArray) (hP : P = twoS s o) (b : Int) (hb : b = ((s[o]'ho).toNat : Int)) :
    punctX s o = if P.toList == [58, 45] then .tok ⟨9, ⟨#[]⟩, 0, 0, o, o + 2⟩
      else if P.toList == [33, 61] then .tok ⟨11, ⟨#[]⟩, 0, 2, o, o + 2⟩
      else if P.toList == [60, 61] then .tok ⟨11, ⟨#[]⟩, 0, 4, o, o + 2⟩
      else if P.toList == [62, 61] then .tok ⟨11, ⟨#[]⟩, 0, 6, o, o + 2⟩
      else if b == 60 then .tok ⟨11, ⟨#[]⟩, 0, 3, o, o + 1⟩
      else if b == 62 then .tok ⟨11, ⟨#[]⟩, 0, 5, o, o + 1⟩
      else if b == 61 then .tok ⟨11, ⟨#[]⟩, 0, 1, o, o + 1⟩
      else if b == 40 then .tok ⟨5, ⟨#[]⟩, 0, 0, o, o + 1⟩
      else if b == 41 then .tok ⟨6, ⟨#[]⟩, 0, 0, o, o + 1⟩
      else if b == 44 then .tok ⟨7, ⟨#[]⟩, 0, 0, o, o + 1⟩
      else if b == 46 then .tok ⟨8, ⟨#[]⟩, 0, 0, o, o + 1⟩
      else .bad 10 o := by
  subst hP hb
  unfold punctX marksT
  simp only [punctL, pre_two, pre_one s o ho]
  repeat rw [apply_ite (punctOf o)]
  rfl

set_option maxHeartbeats 4000000 in
set_option maxRecDepth 100000 in
theorem rsign_any (s : ByteArray) (o : Nat) (w : World) (hs : s.size ≤ 140737488351232) (ho : o < s.size) :
    Calls Tryz.prog 78 #[.string s, .int .i64 o] w fun e w' => e = .returned (punctX s o).val ∧ Below w.heap.size w w' := by
  have HT := hide (fun W => two_any s o W hs (by omega))
  obtain ⟨P, hP⟩ : ∃ P, P = twoS s o := ⟨_, rfl⟩
  obtain ⟨b, hb⟩ : ∃ b : Int, b = (s[o].toNat : Int) := ⟨_, rfl⟩
  rw [punct_sign s o ho P hP b hb]
  rw [← hP] at HT
  clear hP
  replace hb := hb.symm
  have ho' : (o : Int) < (s.size : Int) := by omega
  have hbb : 0 ≤ b ∧ b ≤ 255 := by have := s[o].toNat_lt; omega
  cases p0 : P.toList == [58, 45] with
  | true =>
    rw [if_pos rfl]
    go_enter Tryz.func78, Tryz.ntmps78
    go_wp2_with (go_at_call 69; refine (HT.out _).mono ?_; rintro e w' ⟨rfl, hw'⟩; have hw' := hw'.symm; subst hw')
    exact bodyPost_ret (v := (Nx.tok ⟨9, ⟨#[]⟩, 0, 0, o, o + 2⟩).val) (by simp [results, Tryz.results78, go_sem, Nx.val, Tok.val, faultVal]) rfl ⟨rfl, below3r _ _ _ _⟩
  | false =>
  rw [if_neg (by simp)]
  cases p1 : P.toList == [33, 61] with
  | true =>
    rw [if_pos rfl]
    go_enter Tryz.func78, Tryz.ntmps78
    go_wp2_with (go_at_call 69; refine (HT.out _).mono ?_; rintro e w' ⟨rfl, hw'⟩; have hw' := hw'.symm; subst hw')
    exact bodyPost_ret (v := (Nx.tok ⟨11, ⟨#[]⟩, 0, 2, o, o + 2⟩).val) (by simp [results, Tryz.results78, go_sem, Nx.val, Tok.val, faultVal]) rfl ⟨rfl, below3r _ _ _ _⟩
  | false =>
  rw [if_neg (by simp)]
  cases p2 : P.toList == [60, 61] with
  | true =>
    rw [if_pos rfl]
    go_enter Tryz.func78, Tryz.ntmps78
    go_wp2_with (go_at_call 69; refine (HT.out _).mono ?_; rintro e w' ⟨rfl, hw'⟩; have hw' := hw'.symm; subst hw')
    exact bodyPost_ret (v := (Nx.tok ⟨11, ⟨#[]⟩, 0, 4, o, o + 2⟩).val) (by simp [results, Tryz.results78, go_sem, Nx.val, Tok.val, faultVal]) rfl ⟨rfl, below3r _ _ _ _⟩
  | false =>
  rw [if_neg (by simp)]
  cases p3 : P.toList == [62, 61] with
  | true =>
    rw [if_pos rfl]
    go_enter Tryz.func78, Tryz.ntmps78
    go_wp2_with (go_at_call 69; refine (HT.out _).mono ?_; rintro e w' ⟨rfl, hw'⟩; have hw' := hw'.symm; subst hw')
    exact bodyPost_ret (v := (Nx.tok ⟨11, ⟨#[]⟩, 0, 6, o, o + 2⟩).val) (by simp [results, Tryz.results78, go_sem, Nx.val, Tok.val, faultVal]) rfl ⟨rfl, below3r _ _ _ _⟩
  | false =>
  rw [if_neg (by simp)]
  by_cases q0 : b = 60
  · subst q0
    rw [if_pos (by rfl)]
    go_enter Tryz.func78, Tryz.ntmps78
    go_wp2_with (go_at_call 69; refine (HT.out _).mono ?_; rintro e w' ⟨rfl, hw'⟩; have hw' := hw'.symm; subst hw')
    exact bodyPost_ret (v := (Nx.tok ⟨11, ⟨#[]⟩, 0, 3, o, o + 1⟩).val) (by simp [results, Tryz.results78, go_sem, Nx.val, Tok.val, faultVal]) rfl ⟨rfl, below3r _ _ _ _⟩
  have r0 : (b == 60) = false := by simpa using q0
  rw [if_neg (by rw [r0]; simp)]
  clear q0
  by_cases q1 : b = 62
  · subst q1
    rw [if_pos (by rfl)]
    go_enter Tryz.func78, Tryz.ntmps78
    go_wp2_with (go_at_call 69; refine (HT.out _).mono ?_; rintro e w' ⟨rfl, hw'⟩; have hw' := hw'.symm; subst hw')
    exact bodyPost_ret (v := (Nx.tok ⟨11, ⟨#[]⟩, 0, 5, o, o + 1⟩).val) (by simp [results, Tryz.results78, go_sem, Nx.val, Tok.val, faultVal]) rfl ⟨rfl, below3r _ _ _ _⟩
  have r1 : (b == 62) = false := by simpa using q1
  rw [if_neg (by rw [r1]; simp)]
  clear q1
  by_cases q2 : b = 61
  · subst q2
    rw [if_pos (by rfl)]
    go_enter Tryz.func78, Tryz.ntmps78
    go_wp2_with (go_at_call 69; refine (HT.out _).mono ?_; rintro e w' ⟨rfl, hw'⟩; have hw' := hw'.symm; subst hw')
    exact bodyPost_ret (v := (Nx.tok ⟨11, ⟨#[]⟩, 0, 1, o, o + 1⟩).val) (by simp [results, Tryz.results78, go_sem, Nx.val, Tok.val, faultVal]) rfl ⟨rfl, below3r _ _ _ _⟩
  have r2 : (b == 61) = false := by simpa using q2
  rw [if_neg (by rw [r2]; simp)]
  clear q2
  by_cases q3 : b = 40
  · subst q3
    rw [if_pos (by rfl)]
    go_enter Tryz.func78, Tryz.ntmps78
    go_wp2_with (go_at_call 69; refine (HT.out _).mono ?_; rintro e w' ⟨rfl, hw'⟩; have hw' := hw'.symm; subst hw')
    exact bodyPost_ret (v := (Nx.tok ⟨5, ⟨#[]⟩, 0, 0, o, o + 1⟩).val) (by simp [results, Tryz.results78, go_sem, Nx.val, Tok.val, faultVal]) rfl ⟨rfl, below3r _ _ _ _⟩
  have r3 : (b == 40) = false := by simpa using q3
  rw [if_neg (by rw [r3]; simp)]
  clear q3
  by_cases q4 : b = 41
  · subst q4
    rw [if_pos (by rfl)]
    go_enter Tryz.func78, Tryz.ntmps78
    go_wp2_with (go_at_call 69; refine (HT.out _).mono ?_; rintro e w' ⟨rfl, hw'⟩; have hw' := hw'.symm; subst hw')
    exact bodyPost_ret (v := (Nx.tok ⟨6, ⟨#[]⟩, 0, 0, o, o + 1⟩).val) (by simp [results, Tryz.results78, go_sem, Nx.val, Tok.val, faultVal]) rfl ⟨rfl, below3r _ _ _ _⟩
  have r4 : (b == 41) = false := by simpa using q4
  rw [if_neg (by rw [r4]; simp)]
  clear q4
  by_cases q5 : b = 44
  · subst q5
    rw [if_pos (by rfl)]
    go_enter Tryz.func78, Tryz.ntmps78
    go_wp2_with (go_at_call 69; refine (HT.out _).mono ?_; rintro e w' ⟨rfl, hw'⟩; have hw' := hw'.symm; subst hw')
    exact bodyPost_ret (v := (Nx.tok ⟨7, ⟨#[]⟩, 0, 0, o, o + 1⟩).val) (by simp [results, Tryz.results78, go_sem, Nx.val, Tok.val, faultVal]) rfl ⟨rfl, below3r _ _ _ _⟩
  have r5 : (b == 44) = false := by simpa using q5
  rw [if_neg (by rw [r5]; simp)]
  clear q5
  by_cases q6 : b = 46
  · subst q6
    rw [if_pos (by rfl)]
    go_enter Tryz.func78, Tryz.ntmps78
    go_wp2_with (go_at_call 69; refine (HT.out _).mono ?_; rintro e w' ⟨rfl, hw'⟩; have hw' := hw'.symm; subst hw')
    exact bodyPost_ret (v := (Nx.tok ⟨8, ⟨#[]⟩, 0, 0, o, o + 1⟩).val) (by simp [results, Tryz.results78, go_sem, Nx.val, Tok.val, faultVal]) rfl ⟨rfl, below3r _ _ _ _⟩
  have r6 : (b == 46) = false := by simpa using q6
  rw [if_neg (by rw [r6]; simp)]
  clear q6
  go_enter Tryz.func78, Tryz.ntmps78
  go_wp2_with (first | (go_at_call 69; refine (HT.out _).mono ?_; rintro e w' ⟨rfl, hw'⟩; have hw' := hw'.symm; subst hw') | (go_at_call 58; refine (rfault_any _ _ _).mono ?_; rintro e w' ⟨rfl, hb'⟩; obtain ⟨x, rfl⟩ := over_of hb'; clear hb'))
  exact bodyPost_ret (v := (Nx.bad 10 o).val) (by simp [results, Tryz.results78, go_sem, Nx.val, tokZero, faultVal]) rfl ⟨rfl, below3_over _ _ _ _ _⟩

end Go.Proofs.YtmdhjggijlhhgaaGreatDoor

namespace Go.Proofs.YtmdhjggijlhhgaaGreatDoor
set_option linter.unusedSimpArgs false
set_option linter.unusedVariables false
open Go.RowKit
attribute [local go_sem] over_cellAt over_frozenAt over_setAt

theorem getBang (r : ByteArray) (i : Nat) (h : i < r.size) : r.data[i]! = r[i]'h := getElem!_pos _ _ _

theorem begB_at (s : ByteArray) (o : Nat) (ho : o < s.size) : begB (s.extract o s.size) = (bDig ((s[o]'ho).toNat : Int) || (((s[o]'ho).toNat : Int) == 45 && (if h : o + 1 < s.size then bDig ((s[o + 1]'h).toNat : Int) else false))) := by
  have hz : (s.extract o s.size).size = s.size - o := by rw [ByteArray.size_extract]; omega
  obtain ⟨h0, e0⟩ := ext_byte s o 0 (by omega)
  unfold begB
  rw [getBang _ 0 h0, e0]
  by_cases h : o + 1 < s.size
  · obtain ⟨h1, e1⟩ := ext_byte s o 1 h
    rw [getBang _ 1 h1, e1, dif_pos h]
    have : decide (1 < (s.extract o s.size).size) = true := decide_eq_true (by omega)
    rw [this]; rfl
  · have : decide (1 < (s.extract o s.size).size) = false := decide_eq_false (by omega)
    rw [this, dif_neg h]; rfl

set_option maxHeartbeats 4000000 in
set_option maxRecDepth 100000 in
theorem rtoken_any (s : ByteArray) (o : Nat) (w : World) (hs : s.size ≤ 140737488351232) (ho : o ≤ s.size) :
    Calls Tryz.prog 60 #[.string s, .int .i64 o] w fun e w' => e = .returned (tokAt s o).val ∧ Below w.heap.size w w' := by
  by_cases hlt : o < s.size
  case neg =>
    have ho' : (s.size : Int) ≤ (o : Int) := by omega
    rw [show tokAt s o = .tok ⟨0, ⟨#[]⟩, 0, 0, o, o⟩ from dif_neg hlt]
    go_enter Tryz.func60, Tryz.ntmps60
    go_wp2
    exact bodyPost_ret (v := (Nx.tok ⟨0, ⟨#[]⟩, 0, 0, o, o⟩).val) (by simp [results, Tryz.results60, go_sem, Nx.val, Tok.val, faultVal]) rfl ⟨rfl, below2 _ _ _⟩
  have ho1 : ¬ (s.size : Int) ≤ (o : Int) := by omega
  have ho2 : (o : Int) < (s.size : Int) := by omega
  rw [show tokAt s o = _ from dif_pos hlt, begB_at s o hlt]
  have HW := hide (fun W h => rword_any s o W hs hlt h)
  have HP := hide (fun W h => rinteger_pos s o W hs hlt h)
  have HQ := hide (fun W => rquoted_any s o W hs hlt)
  have HS := hide (fun W => rsign_any s o W hs hlt)
  have hbb : (0 : Int) ≤ (s[o].toNat : Int) ∧ (s[o].toNat : Int) ≤ 255 := by have := s[o].toNat_lt; omega
  obtain ⟨b, hb⟩ : ∃ b : Int, b = (s[o].toNat : Int) := ⟨_, rfl⟩
  have HN : Hid (∀ W (h : o + 1 < s.size), b = 45 → bDig (s[o + 1].toNat : Int) = true → Calls Tryz.prog 76 #[.string s, .int .i64 o, .int .i64 ((o : Int) + 1)] W fun e w' => e = .returned (intX s o).val ∧ Below W.heap.size W w') := fun W h hm h' => rinteger_neg s o W hs h (hb.symm.trans hm) h'
  rw [← hb] at HW HP hbb ⊢
  replace hb := hb.symm
  have HLo := hide (fun W => rlow_any b W hbb)
  have HUp := hide (fun W => rup_any b W hbb)
  have hbw : Hid ((bLow b || (bUp b || b == 95)) = true → bWord b = true) := fun h => by
    show (bLow b || (bUp b || (bDig b || b == 95))) = true
    simp only [Bool.or_eq_true] at h ⊢
    rcases h with h | h | h
    · exact .inl h
    · exact .inr (.inl h)
    · exact .inr (.inr (.inr h))
  cases hlo : bLow b with
  | true =>
    have hw := hbw.out (by rw [hlo]; rfl)
    rw [if_pos (by rfl)]
    rw [hlo] at HLo
    clear HUp hlo
    obtain ⟨X, hX⟩ : ∃ X, wordX s o = X := ⟨_, rfl⟩
    rw [hX]
    have HK : Hid (∀ W, Calls Tryz.prog 74 #[.string s, .int .i64 o] W fun e w' => e = .returned X.val ∧ Below W.heap.size W w') := fun W => by rw [← hX]; exact HW.out W hw
    clear hX HW HP HN HQ HS hbw
    cases X with
    | tok t =>
      go_enter Tryz.func60, Tryz.ntmps60
      go_wp2_with (first | (go_at_call 72; refine (HLo.out _).mono ?_; rintro e w' ⟨rfl, hw'⟩; have hw' := hw'.symm; subst hw') | (go_at_call 74; refine (HK.out _).mono ?_; unfold Nx.val Tok.val tokZero faultVal; rintro e w' ⟨rfl, hb'⟩; obtain ⟨x, rfl⟩ := over_of hb'; clear hb'))
      exact bodyPost_ret (v := (Nx.tok t).val) (by simp [results, Tryz.results60, go_sem, Nx.val, Tok.val, tokZero, faultVal]) rfl ⟨rfl, below2_over _ _ _ _⟩
    | bad c p =>
      go_enter Tryz.func60, Tryz.ntmps60
      go_wp2_with (first | (go_at_call 72; refine (HLo.out _).mono ?_; rintro e w' ⟨rfl, hw'⟩; have hw' := hw'.symm; subst hw') | (go_at_call 74; refine (HK.out _).mono ?_; unfold Nx.val Tok.val tokZero faultVal; rintro e w' ⟨rfl, hb'⟩; obtain ⟨x, rfl⟩ := over_of hb'; clear hb'))
      exact bodyPost_ret (v := (Nx.bad c p).val) (by simp [results, Tryz.results60, go_sem, Nx.val, Tok.val, tokZero, faultVal]) rfl ⟨rfl, below2_over _ _ _ _⟩
  | false =>
  rw [hlo] at HLo
  cases hup : bUp b with
  | true =>
    have hw := hbw.out (by rw [hup]; simp)
    rw [if_pos (by rfl)]
    rw [hup] at HUp
    clear hup hlo
    obtain ⟨X, hX⟩ : ∃ X, wordX s o = X := ⟨_, rfl⟩
    rw [hX]
    have HK : Hid (∀ W, Calls Tryz.prog 74 #[.string s, .int .i64 o] W fun e w' => e = .returned X.val ∧ Below W.heap.size W w') := fun W => by rw [← hX]; exact HW.out W hw
    clear hX HW HP HN HQ HS hbw
    cases X with
    | tok t =>
      go_enter Tryz.func60, Tryz.ntmps60
      go_wp2_with (first | (go_at_call 72; refine (HLo.out _).mono ?_; rintro e w' ⟨rfl, hw'⟩; have hw' := hw'.symm; subst hw') | (go_at_call 73; refine (HUp.out _).mono ?_; rintro e w' ⟨rfl, hw'⟩; have hw' := hw'.symm; subst hw') | (go_at_call 74; refine (HK.out _).mono ?_; unfold Nx.val Tok.val tokZero faultVal; rintro e w' ⟨rfl, hb'⟩; obtain ⟨x, rfl⟩ := over_of hb'; clear hb'))
      exact bodyPost_ret (v := (Nx.tok t).val) (by simp [results, Tryz.results60, go_sem, Nx.val, Tok.val, tokZero, faultVal]) rfl ⟨rfl, below2_over _ _ _ _⟩
    | bad c p =>
      go_enter Tryz.func60, Tryz.ntmps60
      go_wp2_with (first | (go_at_call 72; refine (HLo.out _).mono ?_; rintro e w' ⟨rfl, hw'⟩; have hw' := hw'.symm; subst hw') | (go_at_call 73; refine (HUp.out _).mono ?_; rintro e w' ⟨rfl, hw'⟩; have hw' := hw'.symm; subst hw') | (go_at_call 74; refine (HK.out _).mono ?_; unfold Nx.val Tok.val tokZero faultVal; rintro e w' ⟨rfl, hb'⟩; obtain ⟨x, rfl⟩ := over_of hb'; clear hb'))
      exact bodyPost_ret (v := (Nx.bad c p).val) (by simp [results, Tryz.results60, go_sem, Nx.val, Tok.val, tokZero, faultVal]) rfl ⟨rfl, below2_over _ _ _ _⟩
  | false =>
  rw [hup] at HUp
  by_cases h95 : b = 95
  · have hw := hbw.out (by rw [h95]; rfl)
    rw [if_pos (by rw [h95]; rfl)]
    subst h95
    clear hup hlo
    obtain ⟨X, hX⟩ : ∃ X, wordX s o = X := ⟨_, rfl⟩
    rw [hX]
    have HK : Hid (∀ W, Calls Tryz.prog 74 #[.string s, .int .i64 o] W fun e w' => e = .returned X.val ∧ Below W.heap.size W w') := fun W => by rw [← hX]; exact HW.out W hw
    clear hX HW HP HN HQ HS hbw
    cases X with
    | tok t =>
      go_enter Tryz.func60, Tryz.ntmps60
      go_wp2_with (first | (go_at_call 72; refine (HLo.out _).mono ?_; rintro e w' ⟨rfl, hw'⟩; have hw' := hw'.symm; subst hw') | (go_at_call 73; refine (HUp.out _).mono ?_; rintro e w' ⟨rfl, hw'⟩; have hw' := hw'.symm; subst hw') | (go_at_call 74; refine (HK.out _).mono ?_; unfold Nx.val Tok.val tokZero faultVal; rintro e w' ⟨rfl, hb'⟩; obtain ⟨x, rfl⟩ := over_of hb'; clear hb'))
      exact bodyPost_ret (v := (Nx.tok t).val) (by simp [results, Tryz.results60, go_sem, Nx.val, Tok.val, tokZero, faultVal]) rfl ⟨rfl, below2_over _ _ _ _⟩
    | bad c p =>
      go_enter Tryz.func60, Tryz.ntmps60
      go_wp2_with (first | (go_at_call 72; refine (HLo.out _).mono ?_; rintro e w' ⟨rfl, hw'⟩; have hw' := hw'.symm; subst hw') | (go_at_call 73; refine (HUp.out _).mono ?_; rintro e w' ⟨rfl, hw'⟩; have hw' := hw'.symm; subst hw') | (go_at_call 74; refine (HK.out _).mono ?_; unfold Nx.val Tok.val tokZero faultVal; rintro e w' ⟨rfl, hb'⟩; obtain ⟨x, rfl⟩ := over_of hb'; clear hb'))
      exact bodyPost_ret (v := (Nx.bad c p).val) (by simp [results, Tryz.results60, go_sem, Nx.val, Tok.val, tokZero, faultVal]) rfl ⟨rfl, below2_over _ _ _ _⟩
  have e95 : (b == 95) = false := by simpa using h95
  rw [if_neg (by rw [e95]; simp)]
  clear h95
  cases hdi : bDig b with
  | true =>
    rw [if_pos (by rfl)]
    have HDi := hide (fun W => rdig_any b W hbb)
    rw [hdi] at HDi
    obtain ⟨X, hX⟩ : ∃ X, intX s o = X := ⟨_, rfl⟩
    rw [hX]
    have HK : Hid (∀ W, Calls Tryz.prog 76 #[.string s, .int .i64 o, .int .i64 o] W fun e w' => e = .returned X.val ∧ Below W.heap.size W w') := fun W => by rw [← hX]; exact HP.out W hdi
    clear hX HW HP HN HQ HS hbw
    cases X with
    | tok t =>
      go_enter Tryz.func60, Tryz.ntmps60
      go_wp2_with (first | (go_at_call 72; refine (HLo.out _).mono ?_; rintro e w' ⟨rfl, hw'⟩; have hw' := hw'.symm; subst hw') | (go_at_call 73; refine (HUp.out _).mono ?_; rintro e w' ⟨rfl, hw'⟩; have hw' := hw'.symm; subst hw') | (go_at_call 75; refine (HDi.out _).mono ?_; rintro e w' ⟨rfl, hw'⟩; have hw' := hw'.symm; subst hw') | (go_at_call 76; refine (HK.out _).mono ?_; unfold Nx.val Tok.val tokZero faultVal; rintro e w' ⟨rfl, hb'⟩; obtain ⟨x, rfl⟩ := over_of hb'; clear hb'))
      exact bodyPost_ret (v := (Nx.tok t).val) (by simp [results, Tryz.results60, go_sem, Nx.val, Tok.val, tokZero, faultVal]) rfl ⟨rfl, below2_over _ _ _ _⟩
    | bad c p =>
      go_enter Tryz.func60, Tryz.ntmps60
      go_wp2_with (first | (go_at_call 72; refine (HLo.out _).mono ?_; rintro e w' ⟨rfl, hw'⟩; have hw' := hw'.symm; subst hw') | (go_at_call 73; refine (HUp.out _).mono ?_; rintro e w' ⟨rfl, hw'⟩; have hw' := hw'.symm; subst hw') | (go_at_call 75; refine (HDi.out _).mono ?_; rintro e w' ⟨rfl, hw'⟩; have hw' := hw'.symm; subst hw') | (go_at_call 76; refine (HK.out _).mono ?_; unfold Nx.val Tok.val tokZero faultVal; rintro e w' ⟨rfl, hb'⟩; obtain ⟨x, rfl⟩ := over_of hb'; clear hb'))
      exact bodyPost_ret (v := (Nx.bad c p).val) (by simp [results, Tryz.results60, go_sem, Nx.val, Tok.val, tokZero, faultVal]) rfl ⟨rfl, below2_over _ _ _ _⟩
  | false =>
  by_cases h45 : b = 45
  · subst h45
    have QA : Hid (bDig 45 = false) := hdi
    by_cases h1 : o + 1 < s.size
    · have h1' : (o : Int) + 1 < (s.size : Int) := by omega
      have hcc : (0 : Int) ≤ (s[o + 1].toNat : Int) ∧ (s[o + 1].toNat : Int) ≤ 255 := by have := s[o + 1].toNat_lt; omega
      rw [dif_pos h1]
      cases hdc : bDig (s[o + 1].toNat : Int) with
      | true =>
        have QC := hide hdc
        rw [if_pos (by rfl)]
        obtain ⟨X, hX⟩ : ∃ X, intX s o = X := ⟨_, rfl⟩
        rw [hX]
        have HK : Hid (∀ W, Calls Tryz.prog 76 #[.string s, .int .i64 o, .int .i64 ((o : Int) + 1)] W fun e w' => e = .returned X.val ∧ Below W.heap.size W w') := fun W => by rw [← hX]; exact HN.out W h1 rfl hdc
        clear hX hdc HW HP HN HQ HS hbw
        cases X with
        | tok t =>
          go_enter Tryz.func60, Tryz.ntmps60
          go_wp2_with (first | (go_at_call 72; refine (HLo.out _).mono ?_; rintro e w' ⟨rfl, hw'⟩; have hw' := hw'.symm; subst hw') | (go_at_call 73; refine (HUp.out _).mono ?_; rintro e w' ⟨rfl, hw'⟩; have hw' := hw'.symm; subst hw') | (go_at_call 75; refine (rdig_any _ _ (by first | exact hbb | exact hcc)).mono ?_; rintro e w' ⟨rfl, hw'⟩; have hw' := hw'.symm; subst hw'; first | rw [QA.out] | rw [QC.out]) | (go_at_call 76; refine (HK.out _).mono ?_; unfold Nx.val Tok.val tokZero faultVal; rintro e w' ⟨rfl, hb'⟩; obtain ⟨x, rfl⟩ := over_of hb'; clear hb'))
          exact bodyPost_ret (v := (Nx.tok t).val) (by simp [results, Tryz.results60, go_sem, Nx.val, Tok.val, tokZero, faultVal]) rfl ⟨rfl, below2_over _ _ _ _⟩
        | bad c p =>
          go_enter Tryz.func60, Tryz.ntmps60
          go_wp2_with (first | (go_at_call 72; refine (HLo.out _).mono ?_; rintro e w' ⟨rfl, hw'⟩; have hw' := hw'.symm; subst hw') | (go_at_call 73; refine (HUp.out _).mono ?_; rintro e w' ⟨rfl, hw'⟩; have hw' := hw'.symm; subst hw') | (go_at_call 75; refine (rdig_any _ _ (by first | exact hbb | exact hcc)).mono ?_; rintro e w' ⟨rfl, hw'⟩; have hw' := hw'.symm; subst hw'; first | rw [QA.out] | rw [QC.out]) | (go_at_call 76; refine (HK.out _).mono ?_; unfold Nx.val Tok.val tokZero faultVal; rintro e w' ⟨rfl, hb'⟩; obtain ⟨x, rfl⟩ := over_of hb'; clear hb'))
          exact bodyPost_ret (v := (Nx.bad c p).val) (by simp [results, Tryz.results60, go_sem, Nx.val, Tok.val, tokZero, faultVal]) rfl ⟨rfl, below2_over _ _ _ _⟩
      | false =>
        have QC := hide hdc
        rw [if_neg (by simp), if_neg (by decide)]
        obtain ⟨X, hX⟩ : ∃ X, punctX s o = X := ⟨_, rfl⟩
        rw [hX]
        have HK : Hid (∀ W, Calls Tryz.prog 78 #[.string s, .int .i64 o] W fun e w' => e = .returned X.val ∧ Below W.heap.size W w') := fun W => by rw [← hX]; exact HS.out W
        clear hX hdc HW HP HN HQ HS hbw
        cases X with
        | tok t =>
          go_enter Tryz.func60, Tryz.ntmps60
          go_wp2_with (first | (go_at_call 72; refine (HLo.out _).mono ?_; rintro e w' ⟨rfl, hw'⟩; have hw' := hw'.symm; subst hw') | (go_at_call 73; refine (HUp.out _).mono ?_; rintro e w' ⟨rfl, hw'⟩; have hw' := hw'.symm; subst hw') | (go_at_call 75; refine (rdig_any _ _ (by first | exact hbb | exact hcc)).mono ?_; rintro e w' ⟨rfl, hw'⟩; have hw' := hw'.symm; subst hw'; first | rw [QA.out] | rw [QC.out]) | (go_at_call 78; refine (HK.out _).mono ?_; unfold Nx.val Tok.val tokZero faultVal; rintro e w' ⟨rfl, hb'⟩; obtain ⟨x, rfl⟩ := over_of hb'; clear hb'))
          exact bodyPost_ret (v := (Nx.tok t).val) (by simp [results, Tryz.results60, go_sem, Nx.val, Tok.val, tokZero, faultVal]) rfl ⟨rfl, below2_over _ _ _ _⟩
        | bad c p =>
          go_enter Tryz.func60, Tryz.ntmps60
          go_wp2_with (first | (go_at_call 72; refine (HLo.out _).mono ?_; rintro e w' ⟨rfl, hw'⟩; have hw' := hw'.symm; subst hw') | (go_at_call 73; refine (HUp.out _).mono ?_; rintro e w' ⟨rfl, hw'⟩; have hw' := hw'.symm; subst hw') | (go_at_call 75; refine (rdig_any _ _ (by first | exact hbb | exact hcc)).mono ?_; rintro e w' ⟨rfl, hw'⟩; have hw' := hw'.symm; subst hw'; first | rw [QA.out] | rw [QC.out]) | (go_at_call 78; refine (HK.out _).mono ?_; unfold Nx.val Tok.val tokZero faultVal; rintro e w' ⟨rfl, hb'⟩; obtain ⟨x, rfl⟩ := over_of hb'; clear hb'))
          exact bodyPost_ret (v := (Nx.bad c p).val) (by simp [results, Tryz.results60, go_sem, Nx.val, Tok.val, tokZero, faultVal]) rfl ⟨rfl, below2_over _ _ _ _⟩
    · have h1' : ¬ (o : Int) + 1 < (s.size : Int) := by omega
      rw [dif_neg h1, if_neg (by simp), if_neg (by decide)]
      have HDi := hide (fun W => rdig_any 45 W hbb)
      rw [hdi] at HDi
      obtain ⟨X, hX⟩ : ∃ X, punctX s o = X := ⟨_, rfl⟩
      rw [hX]
      have HK : Hid (∀ W, Calls Tryz.prog 78 #[.string s, .int .i64 o] W fun e w' => e = .returned X.val ∧ Below W.heap.size W w') := fun W => by rw [← hX]; exact HS.out W
      clear hX HW HP HN HQ HS hbw
      cases X with
      | tok t =>
        go_enter Tryz.func60, Tryz.ntmps60
        go_wp2_with (first | (go_at_call 72; refine (HLo.out _).mono ?_; rintro e w' ⟨rfl, hw'⟩; have hw' := hw'.symm; subst hw') | (go_at_call 73; refine (HUp.out _).mono ?_; rintro e w' ⟨rfl, hw'⟩; have hw' := hw'.symm; subst hw') | (go_at_call 75; refine (HDi.out _).mono ?_; rintro e w' ⟨rfl, hw'⟩; have hw' := hw'.symm; subst hw') | (go_at_call 78; refine (HK.out _).mono ?_; unfold Nx.val Tok.val tokZero faultVal; rintro e w' ⟨rfl, hb'⟩; obtain ⟨x, rfl⟩ := over_of hb'; clear hb'))
        exact bodyPost_ret (v := (Nx.tok t).val) (by simp [results, Tryz.results60, go_sem, Nx.val, Tok.val, tokZero, faultVal]) rfl ⟨rfl, below2_over _ _ _ _⟩
      | bad c p =>
        go_enter Tryz.func60, Tryz.ntmps60
        go_wp2_with (first | (go_at_call 72; refine (HLo.out _).mono ?_; rintro e w' ⟨rfl, hw'⟩; have hw' := hw'.symm; subst hw') | (go_at_call 73; refine (HUp.out _).mono ?_; rintro e w' ⟨rfl, hw'⟩; have hw' := hw'.symm; subst hw') | (go_at_call 75; refine (HDi.out _).mono ?_; rintro e w' ⟨rfl, hw'⟩; have hw' := hw'.symm; subst hw') | (go_at_call 78; refine (HK.out _).mono ?_; unfold Nx.val Tok.val tokZero faultVal; rintro e w' ⟨rfl, hb'⟩; obtain ⟨x, rfl⟩ := over_of hb'; clear hb'))
        exact bodyPost_ret (v := (Nx.bad c p).val) (by simp [results, Tryz.results60, go_sem, Nx.val, Tok.val, tokZero, faultVal]) rfl ⟨rfl, below2_over _ _ _ _⟩
  have e45 : (b == 45) = false := by simpa using h45
  rw [if_neg (by rw [e45]; simp)]
  clear h45
  have HDi := hide (fun W => rdig_any b W hbb)
  rw [hdi] at HDi
  clear hdi hup hlo
  by_cases h34 : b = 34
  · rw [if_pos h34]
    subst h34
    obtain ⟨X, hX⟩ : ∃ X, textX s o = X := ⟨_, rfl⟩
    rw [hX]
    have HK : Hid (∀ W, Calls Tryz.prog 77 #[.string s, .int .i64 o] W fun e w' => e = .returned X.val ∧ Below W.heap.size W w') := fun W => by rw [← hX]; exact HQ.out W
    clear hX HW HP HN HQ HS hbw
    cases X with
    | tok t =>
      go_enter Tryz.func60, Tryz.ntmps60
      go_wp2_with (first | (go_at_call 72; refine (HLo.out _).mono ?_; rintro e w' ⟨rfl, hw'⟩; have hw' := hw'.symm; subst hw') | (go_at_call 73; refine (HUp.out _).mono ?_; rintro e w' ⟨rfl, hw'⟩; have hw' := hw'.symm; subst hw') | (go_at_call 75; refine (HDi.out _).mono ?_; rintro e w' ⟨rfl, hw'⟩; have hw' := hw'.symm; subst hw') | (go_at_call 77; refine (HK.out _).mono ?_; unfold Nx.val Tok.val tokZero faultVal; rintro e w' ⟨rfl, hb'⟩; obtain ⟨x, rfl⟩ := over_of hb'; clear hb'))
      exact bodyPost_ret (v := (Nx.tok t).val) (by simp [results, Tryz.results60, go_sem, Nx.val, Tok.val, tokZero, faultVal]) rfl ⟨rfl, below2_over _ _ _ _⟩
    | bad c p =>
      go_enter Tryz.func60, Tryz.ntmps60
      go_wp2_with (first | (go_at_call 72; refine (HLo.out _).mono ?_; rintro e w' ⟨rfl, hw'⟩; have hw' := hw'.symm; subst hw') | (go_at_call 73; refine (HUp.out _).mono ?_; rintro e w' ⟨rfl, hw'⟩; have hw' := hw'.symm; subst hw') | (go_at_call 75; refine (HDi.out _).mono ?_; rintro e w' ⟨rfl, hw'⟩; have hw' := hw'.symm; subst hw') | (go_at_call 77; refine (HK.out _).mono ?_; unfold Nx.val Tok.val tokZero faultVal; rintro e w' ⟨rfl, hb'⟩; obtain ⟨x, rfl⟩ := over_of hb'; clear hb'))
      exact bodyPost_ret (v := (Nx.bad c p).val) (by simp [results, Tryz.results60, go_sem, Nx.val, Tok.val, tokZero, faultVal]) rfl ⟨rfl, below2_over _ _ _ _⟩
  rw [if_neg h34]
  have e34 : (b == 34) = false := by simpa using h34
  clear h34
  obtain ⟨X, hX⟩ : ∃ X, punctX s o = X := ⟨_, rfl⟩
  rw [hX]
  have HK : Hid (∀ W, Calls Tryz.prog 78 #[.string s, .int .i64 o] W fun e w' => e = .returned X.val ∧ Below W.heap.size W w') := fun W => by rw [← hX]; exact HS.out W
  clear hX HW HP HN HQ HS hbw
  cases X with
  | tok t =>
    go_enter Tryz.func60, Tryz.ntmps60
    go_wp2_with (first | (go_at_call 72; refine (HLo.out _).mono ?_; rintro e w' ⟨rfl, hw'⟩; have hw' := hw'.symm; subst hw') | (go_at_call 73; refine (HUp.out _).mono ?_; rintro e w' ⟨rfl, hw'⟩; have hw' := hw'.symm; subst hw') | (go_at_call 75; refine (HDi.out _).mono ?_; rintro e w' ⟨rfl, hw'⟩; have hw' := hw'.symm; subst hw') | (go_at_call 78; refine (HK.out _).mono ?_; unfold Nx.val Tok.val tokZero faultVal; rintro e w' ⟨rfl, hb'⟩; obtain ⟨x, rfl⟩ := over_of hb'; clear hb'))
    exact bodyPost_ret (v := (Nx.tok t).val) (by simp [results, Tryz.results60, go_sem, Nx.val, Tok.val, tokZero, faultVal]) rfl ⟨rfl, below2_over _ _ _ _⟩
  | bad c p =>
    go_enter Tryz.func60, Tryz.ntmps60
    go_wp2_with (first | (go_at_call 72; refine (HLo.out _).mono ?_; rintro e w' ⟨rfl, hw'⟩; have hw' := hw'.symm; subst hw') | (go_at_call 73; refine (HUp.out _).mono ?_; rintro e w' ⟨rfl, hw'⟩; have hw' := hw'.symm; subst hw') | (go_at_call 75; refine (HDi.out _).mono ?_; rintro e w' ⟨rfl, hw'⟩; have hw' := hw'.symm; subst hw') | (go_at_call 78; refine (HK.out _).mono ?_; unfold Nx.val Tok.val tokZero faultVal; rintro e w' ⟨rfl, hb'⟩; obtain ⟨x, rfl⟩ := over_of hb'; clear hb'))
    exact bodyPost_ret (v := (Nx.bad c p).val) (by simp [results, Tryz.results60, go_sem, Nx.val, Tok.val, tokZero, faultVal]) rfl ⟨rfl, below2_over _ _ _ _⟩

end Go.Proofs.YtmdhjggijlhhgaaGreatDoor

namespace Go.Proofs.YtmdhjggijlhhgaaGreatDoor
set_option linter.unusedSimpArgs false
set_option linter.unusedVariables false
open Go.RowKit
attribute [local go_sem] over_cellAt over_frozenAt over_setAt

theorem below1_over (w x : World) (o : Obj) : Below w.heap.size w (over (w.alloc o) x) := ((Below.refl _ _).alloc (Nat.le_refl _) _).trans ((over_below _ x).mono (by simp))

theorem news63 (W : World) (t : Tok) (o o' : Obj) : ∀ j u, (cells6 t)[j]? = some u → (((W.alloc o).alloc o').alloc (.cells #[.int .i64 t.k, .string t.t, .int .i64 t.n, .int .i64 t.op, .int .i64 (t.off : Int), .int .i64 (t.en : Int)] 85)).cell? ((⟨W.heap.size + 1 + 1, 0, none⟩ : Addr).add j) = some u := by
  have h := World.news_of_block (cs := #[.int .i64 t.k, .string t.t, .int .i64 t.n, .int .i64 t.op, .int .i64 (t.off : Int), .int .i64 (t.en : Int)]) (t := 85) (fr := (0, 0)) (heap_alloc_new ((W.alloc o).alloc o') (.cells #[.int .i64 t.k, .string t.t, .int .i64 t.n, .int .i64 t.op, .int .i64 (t.off : Int), .int .i64 (t.en : Int)] 85))
  rw [show ((W.alloc o).alloc o').heap.size = W.heap.size + 1 + 1 from by simp] at h
  exact h

theorem own_lt {w : World} {base size n k : Nat} {e : TypeId} {v : Value} {xs : List Value} (h : w.ownsRow base e size v n xs) (hk : w.heap.size ≤ k) : some k ≠ v.ownBlock := by
  intro e
  rcases h.2 with ⟨rfl, _⟩ | ⟨g, cap, cur, rfl, _, hb, _⟩
  · cases e
  · have : k = g := by simpa [Value.ownBlock] using e
    have := (Array.getElem?_eq_some_iff.1 hb).1
    omega

theorem grown_over3 {U V w1 : World} {v : Value} {e : TypeId} {size n : Nat} {xs : List Value} {o o' o'' : Obj} (hV : Below U.heap.size U V) (hown : V.ownsRow U.heap.size e size v n xs) (hg : (((V.alloc o).alloc o').alloc o'').grownBy w1 v.ownBlock) : ∃ z, w1 = over U z :=
  over_of (((((hV.alloc hV.size o).alloc (Nat.le_trans hV.size (by simp)) o').alloc (Nat.le_trans hV.size (by simp; omega)) o'')).grown hg (Nat.le_trans hV.size (by simp; omega)) (fun k hk => by
    rcases hown.2 with ⟨rfl, _⟩ | ⟨g, cap, cur, rfl, hbase, _⟩
    · cases hk
    · have : g = k := by simpa [Value.ownBlock] using hk
      omega))

theorem own_snoc6 {w1 : World} {base g cap : Nat} {L : List Tok} {t : Tok} (h : w1.ownsRow base 85 6 (.slice (some ⟨g, 0, none⟩) (L.length + 1) cap) (L.length + 1) (L.flatMap cells6 ++ cells6 t)) :
    w1.ownsRow base 85 6 (.slice (some ⟨g, 0, none⟩) (L.length + 1) cap) (L ++ [t]).length ((L ++ [t]).flatMap cells6) := by
  rw [List.flatMap_append, List.flatMap_singleton, List.length_append]; exact h

theorem box_kept {V w1 : World} {t : Tok} {base size n : Nat} {e : TypeId} {v : Value} {xs : List Value} {o' o'' : Obj} (hown : V.ownsRow base e size v n xs)
    (hg : (((V.alloc (.cells #[.int .i64 t.k, .string t.t, .int .i64 t.n, .int .i64 t.op, .int .i64 (t.off : Int), .int .i64 (t.en : Int)] 85)).alloc o').alloc o'').grownBy w1 v.ownBlock) :
    w1.cell? ⟨V.heap.size, 0, none⟩ = some (.int .i64 t.k) ∧ w1.cell? ⟨V.heap.size, 5, none⟩ = some (.int .i64 (t.en : Int)) := by
  constructor
  · rw [hg.cell_far _ (by show V.heap.size < _; simp; omega) (own_lt hown (Nat.le_refl _))]; exact kept_cell (below2 _ _ _) (by simp)
  · rw [hg.cell_far _ (by show V.heap.size < _; simp; omega) (own_lt hown (Nat.le_refl _))]; exact kept_cell (below2 _ _ _) (by simp)

theorem own_swap {U U' y : World} {size n : Nat} {e : TypeId} {v : Value} {xs : List Value} (hs : U'.heap.size = U.heap.size) (h : (over U y).ownsRow U.heap.size e size v n xs) : (over U' y).ownsRow U.heap.size e size v n xs := by
  refine ⟨h.1, ?_⟩
  rcases h.2 with h0 | ⟨g, cap, cur, hv, hbase, hb, rest⟩
  · exact .inl h0
  · refine .inr ⟨g, cap, cur, hv, hbase, ?_, rest⟩
    simp only [over] at hb ⊢
    rw [Array.getElem?_append_right (by omega)] at hb ⊢
    rw [hs]; exact hb

theorem own_set {w : World} {base size n : Nat} {e : TypeId} {v u : Value} {xs : List Value} {p : Addr} (h : w.ownsRow base e size v n xs) (hp : p.block < base) : (w.setCell p u).ownsRow base e size v n xs := by
  refine ⟨h.1, ?_⟩
  rcases h.2 with h0 | ⟨g, cap, cur, hv, hbase, hb, rest⟩
  · exact .inl h0
  · exact .inr ⟨g, cap, cur, hv, hbase, by rw [Below.heap_setCell _ _ _ _ (by omega)]; exact hb, rest⟩

theorem rscan_results {Z : World} {b : Nat} {c o : Int} {v : Value} (h : box3 b Z c 0 o) (tmps : Array Value) (ht : tmps.getD 3 undef = .pointer (some ⟨b, 0, none⟩)) (ht2 : tmps.getD 2 undef = v) :
    (results Tryz.f37 tmps).run Tryz.prog Z = .ok (.tuple #[v, .agg #[.int .i64 c, .int .i64 0, .int .i64 o]]) Z := by
  obtain ⟨x0, x1, x2, _⟩ := h.cells
  have ht' : tmps[3]?.getD undef = .pointer (some ⟨b, 0, none⟩) := by rw [← ht]; simp [Array.getD_eq_getD_getElem?]
  have ht2' : tmps[2]?.getD undef = v := by rw [← ht2]; simp [Array.getD_eq_getD_getElem?]
  simp [results, Tryz.results37, go_sem, ht', ht2', x0, x1, x2]

theorem scan_long {s : ByteArray} (h : 65536 < s.size) : scanX s = ([], 1, 0) := if_pos h
theorem scan_short {s : ByteArray} (h : ¬ 65536 < s.size) : scanX s = eachF (fun _ => true) s 0 [] := if_neg h

set_option maxHeartbeats 4000000 in
set_option maxRecDepth 100000 in
theorem rscan_any (s : ByteArray) (w : World) (hs : s.size ≤ 140737488351232) :
    Calls Tryz.prog 37 #[.string s] w fun e w' => ∃ v, e = .returned (.tuple #[v, faultVal (scanX s).2.1 (scanX s).2.2]) ∧ w'.ownsRow w.heap.size 85 6 v (scanX s).1.length ((scanX s).1.flatMap cells6) ∧ Below w.heap.size w w' := by
  obtain ⟨i0, hi0, hz0, hz1, hz2⟩ := info_parts Tryz.infoTok
  by_cases hlong : 65536 < s.size
  · rw [scan_long hlong]
    have hl : decide ((65536 : Int) < (s.size : Int)) = true := decide_eq_true (by omega)
    clear hlong
    go_enter Tryz.func37, Tryz.ntmps37
    go_wp2_with (go_at_call 58; refine (rfault_any _ 0 _).mono ?_; rintro e w' ⟨rfl, hb'⟩; obtain ⟨x, rfl⟩ := over_of hb'; clear hb')
    exact bodyPost_ret (v := .tuple #[.slice none 0 0, faultVal 1 0]) (by simp [results, Tryz.results37, go_sem, faultVal]) rfl ⟨_, rfl, World.ownsRow_nil _ _ _ _, below1_over _ _ _⟩
  · rw [scan_short hlong]
    have hl : decide ((65536 : Int) < (s.size : Int)) = false := decide_eq_false (by omega)
    have hsz : s.size ≤ 65536 := by omega
    clear hlong
    go_enter Tryz.func37, Tryz.ntmps37
    go_wp2
    go_loopw [4, 5, 6, 7, 8, 9] (fun l o _ _ _ _ wr => ∃ (O : Nat) (L : List Tok) (x : World), O ≤ s.size ∧ L.length ≤ O ∧ o = .int .i64 O ∧ Hid (eachF (fun _ => true) s 0 [] = eachF (fun _ => true) s O L) ∧ wr = over (w.alloc (.cells #[.int .i64 0, .int .i64 0, .int .i64 0] 27)) x ∧
      Hid (wr.ownsRow (w.alloc (.cells #[.int .i64 0, .int .i64 0, .int .i64 0] 27)).heap.size 85 6 l L.length (L.flatMap cells6))) (fun _ o _ _ _ _ _ => s.size - (intOf o).toNat)
    case atStart => exact ⟨0, [], _, by omega, by simp, rfl, rfl, over_eq (Below.refl _ _), World.ownsRow_nil _ _ _ _⟩
    case round =>
      obtain ⟨O, L, x, hO, hLO, rfl, HE, rfl, HW⟩ := hrel
      obtain ⟨ao, cp, rfl⟩ := own_shape HW.out
      have HG := hide (fun W => refGap_any s O W hs hO)
      have hgl := gapW_le s O hO
      have HX : Hid (nextX s O = if (gapW s O).2 then tokAt s (gapW s O).1 else .bad 16 (gapW s O).1) := rfl
      generalize gapW s O = G at *
      obtain ⟨g, c⟩ := G
      simp only at hgl HG HX
      cases c with
      | false =>
        have HB : Hid (eachF (fun _ => true) s 0 [] = (L, 16, g)) := HE.out.trans (eachF_bad HX.out)
        rw [show errB false = 16 from rfl] at HG
        clear HE HX
        go_wp2_with (first
          | (go_at_call 59; refine (HG.out _).mono ?_; rintro e w' ⟨rfl, hw'⟩; have hw' := hw'.symm; subst hw')
          | (go_at_call 58; refine (rfault_any _ _ _).mono ?_; rintro e V ⟨rfl, hb⟩; have HW1 := hide (own_kept HW.out hb); obtain ⟨y, rfl⟩ := over_of ((over_below _ _).trans (hb.mono (over_size _ _))); clear hb))
        exact bodyPost_ret (v := .tuple #[.slice ao L.length cp, faultVal 16 g]) (by simp [results, Tryz.results37, go_sem, faultVal]) rfl ⟨_, by rw [HB.out], by rw [HB.out]; exact own_mono (by simp) (own_swap (by simp) HW1.out), below1_over _ _ _⟩
      | true =>
        rw [show errB true = 0 from rfl] at HG
        have HX' : Hid (nextX s O = tokAt s g) := HX.out
        have HT := hide (fun W => rtoken_any s g W hs hgl.2)
        clear HX
        cases hn : tokAt s g with
        | bad c f =>
          have HB : Hid (eachF (fun _ => true) s 0 [] = (L, c, f)) := HE.out.trans (eachF_bad (HX'.out.trans hn))
          have hc : (c != 0) = true := by
            have := next_bad (HX'.out.trans hn)
            simp only [bne_iff_ne, ne_eq]
            omega
          rw [hn] at HT
          unfold Nx.val tokZero faultVal at HT
          clear HE HX' hn
          go_wp2_with (first
            | (go_at_call 59; refine (HG.out _).mono ?_; rintro e w' ⟨rfl, hw'⟩; have hw' := hw'.symm; subst hw')
            | (go_at_call 60; refine (HT.out _).mono ?_; rintro e V ⟨rfl, hb⟩; have HW1 := hide (own_kept HW.out hb); obtain ⟨y, rfl⟩ := over_of ((over_below _ _).trans (hb.mono (over_size _ _))); clear hb))
          obtain ⟨X, hX⟩ : ∃ X, X = ((over (w.alloc (.cells #[.int .i64 0, .int .i64 0, .int .i64 0] 27)) y).alloc (.cells #[.int .i64 0, .string ⟨#[]⟩, .int .i64 0, .int .i64 0, .int .i64 0, .int .i64 0] 85)).alloc (.cells #[.int .i64 c, .int .i64 0, .int .i64 (f : Int)] 27) := ⟨_, rfl⟩
          obtain ⟨fb, hfb⟩ : ∃ fb, fb = (over (w.alloc (.cells #[.int .i64 0, .int .i64 0, .int .i64 0] 27)) y).heap.size + 1 := ⟨_, rfl⟩
          have hos := over_size (w.alloc (.cells #[.int .i64 0, .int .i64 0, .int .i64 0] 27)) y
          have hU : (w.alloc (.cells #[.int .i64 0, .int .i64 0, .int .i64 0] 27)).heap.size = w.heap.size + 1 := by simp
          have hF : box3 fb X c 0 f := by
            rw [hX, hfb]
            have := heap_alloc_new ((over (w.alloc (.cells #[.int .i64 0, .int .i64 0, .int .i64 0] 27)) y).alloc (.cells #[.int .i64 0, .string ⟨#[]⟩, .int .i64 0, .int .i64 0, .int .i64 0, .int .i64 0] 85)) (.cells #[.int .i64 c, .int .i64 0, .int .i64 (f : Int)] 27)
            rw [show ((over (w.alloc (.cells #[.int .i64 0, .int .i64 0, .int .i64 0] 27)) y).alloc (.cells #[.int .i64 0, .string ⟨#[]⟩, .int .i64 0, .int .i64 0, .int .i64 0, .int .i64 0] 85)).heap.size = (over (w.alloc (.cells #[.int .i64 0, .int .i64 0, .int .i64 0] 27)) y).heap.size + 1 from by simp] at this
            exact this
          have hR : box3 w.heap.size X 0 0 0 := by
            rw [hX]
            have h1 : box3 w.heap.size (w.alloc (.cells #[.int .i64 0, .int .i64 0, .int .i64 0] 27)) 0 0 0 := heap_alloc_new w _
            exact (h1.kept (over_below _ y)).kept (below2 _ _ _)
          have hO2 : X.ownsRow (w.heap.size + 1) 85 6 (.slice ao L.length cp) L.length (L.flatMap cells6) := by
            rw [hX, ← hU]; exact own_kept HW1.out (below2 _ _ _)
          have hB2 : Below w.heap.size w X := by
            rw [hX]; exact (below1_over w y _).trans ((below2 _ _ _).mono (by omega))
          have n1 : ¬ w.heap.size = fb := by omega
          rw [← hX]
          try rw [← hfb]
          obtain ⟨f0, f1, f2, -⟩ := hF.cells
          obtain ⟨x0, x1, x2, z0, z1, z2, x3⟩ := hR.cells
          have HR := hide hR
          have HO2 := hide hO2
          have HB2 := hide hB2
          clear hX hfb hos hU hF hR hO2 hB2 HW HW1
          go_region
          go_wp2
          have hW1 := ((HB2.out.setCell (p := ⟨w.heap.size, 0, none⟩) (Nat.le_refl _) (.int .i64 c)).setCell (p := ⟨w.heap.size, 1, none⟩) (Nat.le_refl _) (.int .i64 0)).setCell (p := ⟨w.heap.size, 2, none⟩) (Nat.le_refl _) (.int .i64 (f : Int))
          have hO3 := own_set (p := ⟨w.heap.size, 2, none⟩) (u := .int .i64 (f : Int)) (own_set (p := ⟨w.heap.size, 1, none⟩) (u := .int .i64 0) (own_set (p := ⟨w.heap.size, 0, none⟩) (u := .int .i64 c) HO2.out (Nat.lt_succ_self _)) (Nat.lt_succ_self _)) (Nat.lt_succ_self _)
          refine bodyPost_ret (rscan_results (v := .slice ao L.length cp) (box3.drew (HR.out.put c 0 f)) _ rfl rfl) rfl ⟨_, by rw [HB.out]; rfl, ?_, ?_⟩
          · rw [HB.out]; exact own_mono (Nat.le_succ _) (own_drew hO3)
          · exact hW1.drew
        | tok t =>
          rw [hn] at HT
          unfold Nx.val Tok.val faultVal at HT
          have hnt := next_tok hO (HX'.out.trans hn)
          have HN := hide (HX'.out.trans hn)
          have hVb0 := over_below (w.alloc (.cells #[.int .i64 0, .int .i64 0, .int .i64 0] 27)) x
          obtain ⟨V0, hV0⟩ : ∃ V0, V0 = over (w.alloc (.cells #[.int .i64 0, .int .i64 0, .int .i64 0] 27)) x := ⟨_, rfl⟩
          rw [← hV0] at HW hVb0 ⊢
          have HVb0 := hide hVb0
          have HW0 := HW
          clear hV0 HW hVb0 HX' hn
          have hk : (t.k = 0 ∧ (t.k == 0) = true) ∨ ((t.k == 0) = false ∧ O < t.en ∧ t.en ≤ s.size ∧ ¬ t.k = 0) := by
            rcases hnt.2.2.2 with ⟨h, _⟩ | ⟨h, h1, h2⟩
            · exact .inl ⟨h, by simp [h]⟩
            · exact .inr ⟨by simp; omega, by omega, h2, by omega⟩
          clear hnt
          rcases hk with ⟨hk0, hk1⟩ | ⟨hk1, hen1, hen2, hk0⟩
          · have HB : Hid (eachF (fun _ => true) s 0 [] = (L ++ [t], 0, 0)) := HE.out.trans (eachF_stop HN.out (.inr hk0))
            clear hk0 HE HN
            go_wp2_with (first
            | (go_at_call 59; refine (HG.out _).mono ?_; rintro e w' ⟨rfl, hw'⟩; have hw' := hw'.symm; subst hw')
            | (go_at_call 60; refine (HT.out _).mono ?_; rintro e V ⟨rfl, hb⟩; have HW := hide (own_kept HW0.out hb); have HVb := hide (HVb0.out.trans (hb.mono HVb0.out.size)); have hVs : (w.alloc (.cells #[.int .i64 0, .int .i64 0, .int .i64 0] 27)).heap.size ≤ V.heap.size := HVb.out.size; clear hb HW0 HVb0)
            | (at_builtin; refine wpList_append_lies _ rfl _ _ 50 rfl (w.alloc (.cells #[.int .i64 0, .int .i64 0, .int .i64 0] 27)).heap.size 85 i0 (.agg #[.int .i64 0, .string ⟨#[]⟩, .int .i64 0, .int .i64 0, .int .i64 0, .int .i64 0]) 6 56 Tryz.underlying50 hi0 hz0 hz1 hz2 rfl (by decide) _ L.length (L.flatMap cells6) rfl (World.ownsRow.alloc (World.ownsRow.alloc (World.ownsRow.alloc HW.out _) _) _) ⟨V.heap.size + 1 + 1, 0, none⟩ 1 1 (cells6 t) rfl rfl (news63 V t _ _) (one6 t) (by decide) (by unfold maxLen; omega) (by omega) (by first | (simp; omega) | exact Nat.le_trans hVs (by simp; omega) | (simp at hVs ⊢; omega)) (V.heap.size + 3) (by simp) ?_; intro gg cap' w1 hown1 hgrow hat hlt1
               obtain ⟨c0, c5⟩ := box_kept HW.out hgrow
               obtain ⟨z, rfl⟩ := grown_over3 HVb.out HW.out hgrow
               have HO1 := hide (own_snoc6 hown1)
               clear hown1 hgrow hat hlt1 HW HVb))
            exact bodyPost_ret (v := .tuple #[.slice (some ⟨gg, 0, none⟩) (L.length + 1) cap', faultVal 0 0]) (by simp [results, Tryz.results37, go_sem, faultVal]) rfl ⟨_, by rw [HB.out], by rw [HB.out]; exact own_mono (by simp) HO1.out, below1_over _ _ _⟩
          · have HB : Hid (eachF (fun _ => true) s 0 [] = eachF (fun _ => true) s t.en (L ++ [t])) := HE.out.trans (eachF_go HN.out (by simp [hk0]) hen1 hen2)
            clear hk0 HE HN
            go_wp2_with (first
            | (go_at_call 59; refine (HG.out _).mono ?_; rintro e w' ⟨rfl, hw'⟩; have hw' := hw'.symm; subst hw')
            | (go_at_call 60; refine (HT.out _).mono ?_; rintro e V ⟨rfl, hb⟩; have HW := hide (own_kept HW0.out hb); have HVb := hide (HVb0.out.trans (hb.mono HVb0.out.size)); have hVs : (w.alloc (.cells #[.int .i64 0, .int .i64 0, .int .i64 0] 27)).heap.size ≤ V.heap.size := HVb.out.size; clear hb HW0 HVb0)
            | (at_builtin; refine wpList_append_lies _ rfl _ _ 50 rfl (w.alloc (.cells #[.int .i64 0, .int .i64 0, .int .i64 0] 27)).heap.size 85 i0 (.agg #[.int .i64 0, .string ⟨#[]⟩, .int .i64 0, .int .i64 0, .int .i64 0, .int .i64 0]) 6 56 Tryz.underlying50 hi0 hz0 hz1 hz2 rfl (by decide) _ L.length (L.flatMap cells6) rfl (World.ownsRow.alloc (World.ownsRow.alloc (World.ownsRow.alloc HW.out _) _) _) ⟨V.heap.size + 1 + 1, 0, none⟩ 1 1 (cells6 t) rfl rfl (news63 V t _ _) (one6 t) (by decide) (by unfold maxLen; omega) (by omega) (by first | (simp; omega) | exact Nat.le_trans hVs (by simp; omega) | (simp at hVs ⊢; omega)) (V.heap.size + 3) (by simp) ?_; intro gg cap' w1 hown1 hgrow hat hlt1
               obtain ⟨c0, c5⟩ := box_kept HW.out hgrow
               obtain ⟨z, rfl⟩ := grown_over3 HVb.out HW.out hgrow
               have HO1 := hide (own_snoc6 hown1)
               clear hown1 hgrow hat hlt1 HW HVb))
            go_roundw
            case rel => exact ⟨t.en, L ++ [t], z, hen2, by simp; omega, rfl, HB, rfl, HO1⟩
            case measure => simp [intOf]; omega

end Go.Proofs.YtmdhjggijlhhgaaGreatDoor

namespace Go.Proofs.YtmdhjggijlhhgaaGreatDoor
set_option linter.unusedSimpArgs false
set_option linter.unusedVariables false
open Go.RowKit

def ChkPost (w : World) (L : List Tok) (res : PR Unit) (e : Ending) (w' : World) : Prop :=
  match res with
  | .bad x o => e = .returned (.tuple #[.slice none 0 0, .agg #[.int .i64 x, .int .i64 0, .int .i64 o]]) ∧ Below w.heap.size w w'
  | .ok _ _ => ∃ v, e = .returned (.tuple #[v, .agg #[.int .i64 0, .int .i64 0, .int .i64 0]]) ∧ Lst elTok w' (fun b => w.heap.size ≤ b) v L ∧ Below w.heap.size w w'
theorem chkPost_bad {w w' : World} {L : List Tok} {x o : Int} {e : Ending} (h : ChkPost w L (.bad x o) e w') : e = .returned (.tuple #[.slice none 0 0, .agg #[.int .i64 x, .int .i64 0, .int .i64 o]]) ∧ Below w.heap.size w w' := h
theorem chkPost_ok {w w' : World} {L : List Tok} {u : Unit} {r : List Tok} {e : Ending} (h : ChkPost w L (.ok u r) e w') : ∃ v, e = .returned (.tuple #[v, .agg #[.int .i64 0, .int .i64 0, .int .i64 0]]) ∧ Lst elTok w' (fun b => w.heap.size ≤ b) v L ∧ Below w.heap.size w w' := h
theorem chkRes (W : World) (b : Nat) (v u0 u1 u2 : Value) (tmps : Array Value) (h4 : tmps[4]? = some v) (h5 : tmps[5]? = some (.pointer (some ⟨b, 0, none⟩))) (hb : W.heap[b]? = some (.cells #[u0, u1, u2] 27 (0, 0))) :
    (results Tryz.f21 tmps).run Tryz.prog W = .ok (.tuple #[v, .agg #[u0, u1, u2]]) W := by
  have c0 : W.cell? ⟨b, 0, none⟩ = some u0 := by simp [World.cell?, hb]
  have c1 : W.cell? ⟨b, 1, none⟩ = some u1 := by simp [World.cell?, hb]
  have c2 : W.cell? ⟨b, 2, none⟩ = some u2 := by simp [World.cell?, hb]
  simp [results, Tryz.results21, go_sem, h4, h5, c0, c1, c2]
theorem chk3_cells {W : World} {b : Nat} {u0 u1 u2 : Value} {T : TypeId} (h : W.heap[b]? = some (.cells #[u0, u1, u2] T (0, 0))) : (W.cell? ⟨b, 0, none⟩ = some u0 ∧ W.cell? ⟨b, 1, none⟩ = some u1 ∧ W.cell? ⟨b, 2, none⟩ = some u2) ∧ (W.frozen? ⟨b, 0, none⟩ = false ∧ W.frozen? ⟨b, 1, none⟩ = false ∧ W.frozen? ⟨b, 2, none⟩ = false) := by
  refine ⟨⟨?_, ?_, ?_⟩, ?_, ?_, ?_⟩ <;> simp [World.cell?, World.frozen?, h]
/-- What the loop keeps: the boxes of the answer, of the fault, of the counts, and the tokens. -/
structure ChkAt (w wr : World) (b7 : Nat) (ec eo : Int) (v : Value) (L : List Tok) (c : Cnt) : Prop where
  hb : Below w.heap.size w wr
  lt : w.heap.size < b7
  x5 : wr.heap[w.heap.size]? = some (.cells #[.int .i64 0, .int .i64 0, .int .i64 0] 27 (0, 0))
  x7 : wr.heap[b7]? = some (.cells #[.int .i64 ec, .int .i64 0, .int .i64 eo] 27 (0, 0))
  x9 : wr.heap[b7 + 1]? = some (.cells #[.int .i64 c.c, .int .i64 c.l, .int .i64 c.t] 88 (0, 0))
  tk : Lst elTok wr (fun b => w.heap.size < b ∧ b < b7) v L
theorem ChkAt.kept {w wr wr' : World} {b7 : Nat} {ec eo : Int} {v : Value} {L : List Tok} {c : Cnt} (h : ChkAt w wr b7 ec eo v L c) (hb : Below wr.heap.size wr wr') : ChkAt w wr' b7 ec eo v L c :=
  ⟨belowt2 h.hb hb, h.lt, by rw [hb.block _ (Array.getElem?_eq_some_iff.1 h.x5).1]; exact h.x5, by rw [hb.block _ (Array.getElem?_eq_some_iff.1 h.x7).1]; exact h.x7, by rw [hb.block _ (Array.getElem?_eq_some_iff.1 h.x9).1]; exact h.x9, h.tk.move fun b hl hF => ⟨hF, hb.block b hl⟩⟩
theorem ChkAt.set {w wr : World} {b7 : Nat} {ec eo : Int} {v : Value} {L : List Tok} {c : Cnt} (h : ChkAt w wr b7 ec eo v L c) (c' : Cnt) : ChkAt w (((wr.setCell ⟨b7 + 1, 0, none⟩ (.int .i64 c'.c)).setCell ⟨b7 + 1, 1, none⟩ (.int .i64 c'.l)).setCell ⟨b7 + 1, 2, none⟩ (.int .i64 c'.t)) b7 ec eo v L c' := by
  have ho : Only (fun k => k = b7 + 1) wr (((wr.setCell ⟨b7 + 1, 0, none⟩ (.int .i64 c'.c)).setCell ⟨b7 + 1, 1, none⟩ (.int .i64 c'.l)).setCell ⟨b7 + 1, 2, none⟩ (.int .i64 c'.t)) := (((Only.refl (fun k => k = b7 + 1) wr).setCell (p := ⟨b7 + 1, 0, none⟩) rfl _).setCell (p := ⟨b7 + 1, 1, none⟩) rfl _).setCell (p := ⟨b7 + 1, 2, none⟩) rfl _
  have hl := h.lt
  refine ⟨h.hb.trans (ho.below h.hb.size (fun k hk e => by omega)), hl, ?_, ?_, ?_, h.tk.move fun b hb hF => ⟨hF, ho.block b hb (by omega)⟩⟩
  · rw [ho.block _ (Array.getElem?_eq_some_iff.1 h.x5).1 (by omega)]; exact h.x5
  · rw [ho.block _ (Array.getElem?_eq_some_iff.1 h.x7).1 (by omega)]; exact h.x7
  · simp [World.setCell, Array.getElem?_modify, h.x9]
/-- The answer's box, written. -/
theorem ChkAt.fin {w wr : World} {b7 : Nat} {ec eo : Int} {v : Value} {L : List Tok} {c : Cnt} (h : ChkAt w wr b7 ec eo v L c) (x o : Int) :
    (((wr.setCell ⟨w.heap.size, 0, none⟩ (.int .i64 x)).setCell ⟨w.heap.size, 1, none⟩ (.int .i64 0)).setCell ⟨w.heap.size, 2, none⟩ (.int .i64 o)).heap[w.heap.size]? = some (.cells #[.int .i64 x, .int .i64 0, .int .i64 o] 27 (0, 0)) ∧ Below w.heap.size w (((wr.setCell ⟨w.heap.size, 0, none⟩ (.int .i64 x)).setCell ⟨w.heap.size, 1, none⟩ (.int .i64 0)).setCell ⟨w.heap.size, 2, none⟩ (.int .i64 o)) ∧ Lst elTok (((wr.setCell ⟨w.heap.size, 0, none⟩ (.int .i64 x)).setCell ⟨w.heap.size, 1, none⟩ (.int .i64 0)).setCell ⟨w.heap.size, 2, none⟩ (.int .i64 o)) (fun b => w.heap.size ≤ b) v L := by
  have ho : Only (fun k => k = w.heap.size) wr (((wr.setCell ⟨w.heap.size, 0, none⟩ (.int .i64 x)).setCell ⟨w.heap.size, 1, none⟩ (.int .i64 0)).setCell ⟨w.heap.size, 2, none⟩ (.int .i64 o)) := (((Only.refl (fun k => k = w.heap.size) wr).setCell (p := ⟨w.heap.size, 0, none⟩) rfl _).setCell (p := ⟨w.heap.size, 1, none⟩) rfl _).setCell (p := ⟨w.heap.size, 2, none⟩) rfl _
  refine ⟨by simp [World.setCell, Array.getElem?_modify, h.x5], h.hb.trans (ho.below h.hb.size (fun k hk e => by omega)), h.tk.move fun b hb hF => ⟨by omega, ho.block b hb (by omega)⟩⟩

set_option maxRecDepth 100000 in
set_option maxHeartbeats 4000000 in
theorem check_any (s : ByteArray) (f : Int) (w : World) (hs : s.size ≤ 140737488351232) :
    Calls Tryz.prog 21 #[.string s, .int .i64 f] w (ChkPost w (scanX s).1 (chkR (scanX s).2.1 ((scanX s).2.2 : Int) f f ⟨0, 0, 0⟩ (scanX s).1)) := by
  by_cases hlong : 65536 < s.size
  · have hl : decide ((65536 : Int) < (s.size : Int)) = true := decide_eq_true (by omega)
    rw [scan_long hlong]
    simp only
    rw [show chkR 1 ((0 : Nat) : Int) f f ⟨0, 0, 0⟩ [] = .bad 1 0 from by unfold chkR; rfl]
    clear hlong
    unfold ChkPost
    go_enter Tryz.func21, Tryz.ntmps21
    go_wp2
    exact bodyPost_ret (v := .tuple #[.slice none 0 0, .agg #[.int .i64 1, .int .i64 0, .int .i64 0]]) (by simp [results, Tryz.results21, go_sem]) rfl ⟨rfl, belowA _ _⟩
  · have hl : decide ((65536 : Int) < (s.size : Int)) = false := decide_eq_false (by omega)
    have HS := hide (rscan_any s (w.alloc (.cells #[.int .i64 0, .int .i64 0, .int .i64 0] 27)) hs)
    obtain ⟨g1, g2⟩ := scan_good s
    obtain ⟨g3, g4⟩ := scan_plain s
    clear hlong hs
    generalize scanX s = R at *
    obtain ⟨L, ec, eo⟩ := R
    simp only at g1 g2 g3 g4 HS ⊢
    have HGd : Hid (∀ t ∈ L, t.good ∧ t.plain) := fun t ht => ⟨g1 t ht, g3 t ht⟩
    obtain ⟨res, hres⟩ : ∃ res, chkR ec (eo : Int) f f ⟨0, 0, 0⟩ L = res := ⟨_, rfl⟩
    rw [hres]
    obtain ⟨Post, hPost⟩ : ∃ Post : Ending → World → Prop, Post = ChkPost w L res := ⟨_, rfl⟩
    rw [← hPost]
    have PB : Hid (∀ x o w', res = .bad x o → Below w.heap.size w w' → Post (.returned (.tuple #[.slice none 0 0, .agg #[.int .i64 x, .int .i64 0, .int .i64 o]])) w') := fun x o w' hr hb => by rw [hPost, hr]; exact ⟨rfl, hb⟩
    have PG : Hid (∀ v w', res = .ok () [] → Lst elTok w' (fun b => w.heap.size ≤ b) v L → Below w.heap.size w w' → Post (.returned (.tuple #[v, .agg #[.int .i64 0, .int .i64 0, .int .i64 0]])) w') := fun v w' hr h1 h2 => by rw [hPost, hr]; exact ⟨v, rfl, h1, h2⟩
    have HR0 : Hid (chkR ec (eo : Int) f f ⟨0, 0, 0⟩ (L.drop 0) = res) := hres
    obtain ⟨n, hn⟩ : ∃ n, n = L.length := ⟨_, rfl⟩
    rw [← hn] at g2
    have HN := hide hn
    clear hres hPost g1 g3 g4 hn
    unfold faultVal at HS
    go_enter Tryz.func21, Tryz.ntmps21
    go_wp2_with (go_at_call 37; refine HS.out.mono ?_; intro e w1 hq; obtain ⟨v, rfl, hown, hb1⟩ := hq; have hgr : Grow elTok 85 (w.alloc (.cells #[.int .i64 0, .int .i64 0, .int .i64 0] 27)).heap.size w1 v L := ⟨hown, fun x hx => HGd.out x hx⟩; obtain ⟨va, vc, rfl, -⟩ := hgr.shape; have HGr := hide hgr; have HB1 := hide hb1; rw [← HN.out]; rw [← HN.out] at HGr; clear hown hb1 hgr)
    obtain ⟨Y, hY⟩ : ∃ Y, Y = (w1.alloc (.cells #[.int .i64 ec, .int .i64 0, .int .i64 (eo : Int)] 27)).alloc (.cells #[.int .i64 0, .int .i64 0, .int .i64 0] 88) := ⟨_, rfl⟩
    have HA0 : Hid (ChkAt w Y w1.heap.size ec (eo : Int) (.slice va n vc) L ⟨0, 0, 0⟩) := by
      have hsz := HB1.out.size
      simp at hsz
      have hb2 := belowt2 (belowA w1 (.cells #[.int .i64 ec, .int .i64 0, .int .i64 (eo : Int)] 27)) (belowA (w1.alloc (.cells #[.int .i64 ec, .int .i64 0, .int .i64 (eo : Int)] 27)) (.cells #[.int .i64 0, .int .i64 0, .int .i64 0] 88))
      refine ⟨by rw [hY]; exact belowt2 (belowt2 (belowA _ _) HB1.out) hb2, by omega, ?_, ?_, ?_, ?_⟩
      · rw [hY, hb2.block _ (by omega), HB1.out.block _ (by simp)]; exact heap_alloc_new w _
      · rw [hY, (belowA (w1.alloc _) _).block _ (by simp)]; exact heap_alloc_new w1 _
      · rw [hY]
        have := heap_alloc_new (w1.alloc (.cells #[.int .i64 ec, .int .i64 0, .int .i64 (eo : Int)] 27)) (.cells #[.int .i64 0, .int .i64 0, .int .i64 0] 88)
        simpa using this
      · rw [hY]
        refine (HGr.out.new (by rw [← HN.out]; omega)).move fun b hb hF => ⟨⟨?_, hb⟩, hb2.block b hb⟩
        have : w.heap.size + 1 ≤ b := by simpa using hF
        omega
    try rw [← hY]
    try rw [← hY]
    clear hY HGr HB1 HS
    generalize w1.heap.size = b7 at *
    go_loopw [8, 26] (fun sv i wl => ∃ (j : Nat) (st : Int) (c : Cnt), j ≤ n ∧ i = .int .i64 j ∧ sv = .int .i64 st ∧ Hid (c.small j) ∧ Hid (chkR ec (eo : Int) f st c (L.drop j) = res) ∧ Hid (ChkAt w wl b7 ec (eo : Int) (.slice va n vc) L c)) (fun _ i _ => n - (intOf i).toNat)
    case atStart => exact ⟨0, f, ⟨0, 0, 0⟩, by omega, rfl, rfl, ⟨by simp, by simp, by simp⟩, HR0, HA0⟩
    case round =>
      clear HR0 HA0
      obtain ⟨j, st, c, hj, rfl, rfl, HSm, HR, HA⟩ := hrel
      by_cases hlt : j < n
      · have hi : (j : Int) < (n : Int) := by omega
        have hi0 : (0 : Int) ≤ (j : Int) := by omega
        obtain ⟨t, ht⟩ : ∃ t, L[j]? = some t := ⟨_, List.getElem?_eq_getElem (by rw [← HN.out]; exact hlt)⟩
        have HOk := hide (HGd.out t (List.mem_of_getElem? ht))
        obtain ⟨b2, o2, rfl, -, -, hr2⟩ := HA.out.tk.row (by rw [← HN.out]; omega)
        have y0 := hr2 j _ ht 0 _ rfl
        have y1 := hr2 j _ ht 1 _ rfl
        have y2 := hr2 j _ ht 2 _ rfl
        have y3 := hr2 j _ ht 3 _ rfl
        have y4 := hr2 j _ ht 4 _ rfl
        have y5 := hr2 j _ ht 5 _ rfl
        simp only [elTok, Nat.add_zero] at y0 y1 y2 y3 y4 y5
        have HRt : Hid (chkR ec (eo : Int) f st c (t :: L.drop (j + 1)) = res) := by
          have := HR.out
          rw [drop_at ht] at this
          exact this
        clear hr2 ht HR
        go_upto_region 9 with fail
        obtain ⟨Y, hY⟩ : ∃ Y, Y = wr.alloc (.cells #[.int .i64 t.k, .string t.t, .int .i64 t.n, .int .i64 t.op, .int .i64 (t.off : Int), .int .i64 (t.en : Int)] 85) := ⟨_, rfl⟩
        have HAY : Hid (ChkAt w Y b7 ec (eo : Int) (.slice (some ⟨b2, o2, none⟩) n vc) L c) := by
          have := HA.out.kept (belowA wr (.cells #[.int .i64 t.k, .string t.t, .int .i64 t.n, .int .i64 t.op, .int .i64 (t.off : Int), .int .i64 (t.en : Int)] 85))
          rw [hY]; exact this
        have q0 : Y.cell? ⟨wr.heap.size, 0, none⟩ = some (.int .i64 t.k) := by rw [hY]; exact new_cells 0 _ rfl
        have q4 : Y.cell? ⟨wr.heap.size, 4, none⟩ = some (.int .i64 (t.off : Int)) := by rw [hY]; exact new_cells 4 _ rfl
        have hbt : b7 + 1 < wr.heap.size := (Array.getElem?_eq_some_iff.1 HA.out.x9).1
        have hlt7 := HA.out.lt
        rw [← hY]
        clear hY HA y0 y1 y2 y3 y4 y5
        generalize wr.heap.size = bt at *
        obtain ⟨⟨p0, p1, p2⟩, f0, f1, f2⟩ := chk3_cells HAY.out.x5
        obtain ⟨⟨r0, r1, r2⟩, g0, g1, g2'⟩ := chk3_cells HAY.out.x9
        have n1 : ¬ w.heap.size = bt := by omega
        have n2 : ¬ w.heap.size = b7 + 1 := by omega
        obtain ⟨mv, hmv⟩ : ∃ mv, moveP f st t.k = mv := ⟨_, rfl⟩
        have HM0 := fun W => move_any f st t.k W
        simp only [hmv] at HM0
        have HM := hide HM0
        clear HM0
        by_cases hmm : mv = -1
        · have em : (mv == -1) = true := by simpa using hmm
          by_cases hk : t.k = 0
          · have e0 : (t.k == 0) = true := by simpa using hk
            have HRes : Hid (res = .bad 21 (t.off : Int)) := by show _ = _; rw [← HRt.out, chk_mis (hmv.trans hmm)]; simp [misK, hk]
            clear hk hmm hmv
            go_wp2_with (go_at_call 38; refine (HM.out _).mono ?_; rintro e w' ⟨rfl, hw'⟩; have hw' := hw'.symm; subst hw')
            go_region
            go_wp2
            refine bodyPost_ret (chkRes _ w.heap.size (.slice none 0 0) (.int .i64 21) (.int .i64 0) (.int .i64 (t.off : Int)) _ rfl rfl (HAY.out.fin 21 (t.off : Int)).1) rfl (PB.out _ _ _ HRes.out (HAY.out.fin 21 (t.off : Int)).2.1.drew)
          · have e0 : (t.k == 0) = false := by simpa using hk
            have HRes : Hid (res = .bad 20 (t.off : Int)) := by show _ = _; rw [← HRt.out, chk_mis (hmv.trans hmm)]; simp [misK, hk]
            clear hk hmm hmv
            go_wp2_with (go_at_call 38; refine (HM.out _).mono ?_; rintro e w' ⟨rfl, hw'⟩; have hw' := hw'.symm; subst hw')
            go_region
            go_wp2
            refine bodyPost_ret (chkRes _ w.heap.size (.slice none 0 0) (.int .i64 20) (.int .i64 0) (.int .i64 (t.off : Int)) _ rfl rfl (HAY.out.fin 20 (t.off : Int)).1) rfl (PB.out _ _ _ HRes.out (HAY.out.fin 20 (t.off : Int)).2.1.drew)
        · have em : (mv == -1) = false := by simpa using hmm
          have HTk := hide (fun W => rtake_any c st t.k W ⟨⟨HSm.out.1.1, by have := HSm.out.1.2; omega⟩, ⟨HSm.out.2.1.1, by have := HSm.out.2.1.2; omega⟩, HSm.out.2.2.1, by have := HSm.out.2.2.2; omega⟩)
          have HSm2 := hide (take_small (s := st) (k := t.k) HSm.out hi0)
          obtain ⟨c', hc'⟩ : ∃ c', takeC c st t.k = c' := ⟨_, rfl⟩
          have HRn : Hid ((if overC f c' ≠ 0 then PR.bad (overC f c') (t.off : Int) else chkR ec (eo : Int) f mv c' (L.drop (j + 1))) = res) := by
            have := HRt.out
            rw [chkR, hmv, if_neg hmm, hc'] at this
            exact this
          rw [hc'] at HTk HSm2
          have HOv := hide (fun W => rover_any c' f W)
          obtain ⟨ov, hov⟩ : ∃ ov, overC f c' = ov := ⟨_, rfl⟩
          rw [hov] at HOv HRn
          clear hmm hmv hc' hov HRt HSm
          go_upto_region 15 with (first
            | (go_at_call 38; refine (HM.out _).mono ?_; rintro e w' ⟨rfl, hw'⟩; have hw' := hw'.symm; subst hw')
            | (go_at_call 39; refine (HTk.out _).mono ?_; rintro e w2 ⟨rfl, hb2⟩; have HA2 := hide (HAY.out.kept hb2); have q0 := kept_cell hb2 q0; have q4 := kept_cell hb2 q4; obtain ⟨⟨r0, r1, r2⟩, g0, g1, g2'⟩ := chk3_cells HA2.out.x9; clear hb2 HAY))
          obtain ⟨Z, hZ⟩ : ∃ Z, Z = ((w2.setCell ⟨b7 + 1, 0, none⟩ (.int .i64 c'.c)).setCell ⟨b7 + 1, 1, none⟩ (.int .i64 c'.l)).setCell ⟨b7 + 1, 2, none⟩ (.int .i64 c'.t) := ⟨_, rfl⟩
          have HAZ : Hid (ChkAt w Z b7 ec (eo : Int) (.slice (some ⟨b2, o2, none⟩) n vc) L c') := by rw [hZ]; exact HA2.out.set c'
          have hoZ : Only (fun k => k = b7 + 1) w2 Z := by
            rw [hZ]
            exact (((Only.refl (fun k => k = b7 + 1) w2).setCell (p := ⟨b7 + 1, 0, none⟩) rfl _).setCell (p := ⟨b7 + 1, 1, none⟩) rfl _).setCell (p := ⟨b7 + 1, 2, none⟩) rfl _
          have s0 := hoZ.cell q0 (by dsimp only; omega)
          have s4 := hoZ.cell q4 (by dsimp only; omega)
          obtain ⟨⟨v0, v1, v2⟩, -, -, -⟩ := chk3_cells HAZ.out.x9
          rw [← hZ]
          clear hZ hoZ q0 q4 r0 r1 r2 g0 g1 g2' HA2 p0 p1 p2 f0 f1 f2
          by_cases hov : ov = 0
          · have eo0 : (ov != 0) = false := by simpa using hov
            have HRl : Hid (chkR ec (eo : Int) f mv c' (L.drop (j + 1)) = res) := by
              have := HRn.out
              rw [if_neg (by simpa using hov)] at this
              exact this
            clear hov HRn
            go_wp2_with (go_at_call 40; refine (HOv.out _).mono ?_; rintro e w3 ⟨rfl, hb3⟩; have HA3 := hide (HAZ.out.kept hb3); clear hb3)
            go_roundw
            case rel => exact ⟨j + 1, mv, c', by omega, by go_num, rfl, by have := HSm2.out; push_cast; exact this, HRl, HA3⟩
            case measure => simp [intOf]; omega
          · have eo0 : (ov != 0) = true := by simpa using hov
            have HRes : Hid (res = .bad ov (t.off : Int)) := by
              show _ = _
              have := HRn.out
              rw [if_pos hov] at this
              exact this.symm
            clear hov HRn
            go_wp2_with (go_at_call 40; refine (HOv.out _).mono ?_; rintro e w3 ⟨rfl, hb3⟩; have HA3 := hide (HAZ.out.kept hb3); have t4 := kept_cell hb3 s4; obtain ⟨⟨p0, p1, p2⟩, f0, f1, f2⟩ := chk3_cells HA3.out.x5; clear hb3)
            go_region
            go_wp2
            refine bodyPost_ret (chkRes _ w.heap.size (.slice none 0 0) (.int .i64 ov) (.int .i64 0) (.int .i64 (t.off : Int)) _ rfl rfl (HA3.out.fin ov (t.off : Int)).1) rfl (PB.out _ _ _ HRes.out (HA3.out.fin ov (t.off : Int)).2.1.drew)
      · obtain rfl : j = n := by omega
        have hi : ¬ (j : Int) < (j : Int) := by omega
        have hRl : (if ec = 0 then PR.ok () [] else PR.bad ec (eo : Int)) = res := by
          have := HR.out
          rw [List.drop_of_length_le (by rw [← HN.out]; omega)] at this
          unfold chkR at this
          exact this
        obtain ⟨⟨p0, p1, p2⟩, f0, f1, f2⟩ := chk3_cells HA.out.x5
        obtain ⟨⟨q0, q1, q2⟩, g0, g1, g2'⟩ := chk3_cells HA.out.x7
        have n1 : ¬ w.heap.size = b7 := by have := HA.out.lt; omega
        by_cases hec : ec = 0
        · have ee : (ec != 0) = false := by simpa using hec
          have HRes : Hid (res = .ok () []) := by show _ = _; rw [← hRl, if_pos hec]
          clear hec hRl HR
          go_wp2
          refine bodyPost_ret (chkRes _ w.heap.size (.slice va j vc) (.int .i64 0) (.int .i64 0) (.int .i64 0) _ rfl rfl (HA.out.fin 0 0).1) rfl (PG.out _ _ HRes.out (HA.out.fin 0 0).2.2 (HA.out.fin 0 0).2.1)
        · have ee : (ec != 0) = true := by simpa using hec
          have HRes : Hid (res = .bad ec (eo : Int)) := by show _ = _; rw [← hRl, if_neg hec]
          clear hec hRl HR
          go_wp2
          go_region
          go_wp2
          refine bodyPost_ret (chkRes _ w.heap.size (.slice none 0 0) (.int .i64 ec) (.int .i64 0) (.int .i64 (eo : Int)) _ rfl rfl (HA.out.fin ec (eo : Int)).1) rfl (PB.out _ _ _ HRes.out (HA.out.fin ec (eo : Int)).2.1.drew)
end Go.Proofs.YtmdhjggijlhhgaaGreatDoor

namespace Go.Proofs.YtmdhjggijlhhgaaGreatDoor
set_option linter.unusedSimpArgs false
set_option linter.unusedVariables false
open Go.RowKit

theorem mem_termKs {k : Int} : k ∈ termKs ↔ k = 2 ∨ k = 3 ∨ k = 1 ∨ k = 4 := by simp [termKs]
theorem mem_valueKs {k : Int} : k ∈ valueKs ↔ k = 3 ∨ k = 1 ∨ k = 4 := by simp [valueKs]

theorem st_head : ArgSt 0 2 3 4 termKs where
  mT := fun k hk => by rw [mem_termKs] at hk; rcases hk with rfl | rfl | rfl | rfl <;> decide
  mT' := fun k hk => by rw [mem_termKs] at hk; simp only [not_or] at hk; obtain ⟨a, b, c, d⟩ := hk; simp [moveP, moveHeadP, isTermB, a, b, c, d]
  mM7 := by decide
  mM6 := by decide
  mM' := fun k h7 h6 => by simp [moveP, moveHeadP, h7, h6]
  tT := fun c k hk => by rw [mem_termKs] at hk; rcases hk with rfl | rfl | rfl | rfl <;> simp [takeC]
  tM := fun c k hk => by rcases hk with rfl | rfl <;> simp [takeC]
  n1 := by decide
  n2 := by decide
  n3 := by decide
  kk := fun k hk => by rw [mem_termKs] at hk; omega
theorem st_lit {first : Int} (hf : first = 0 ∨ first = 5) : ArgSt first 9 10 13 termKs where
  mT := fun k hk => by rw [mem_termKs] at hk; rcases hf with rfl | rfl <;> rcases hk with rfl | rfl | rfl | rfl <;> decide
  mT' := fun k hk => by rw [mem_termKs] at hk; simp only [not_or] at hk; obtain ⟨a, b, c, d⟩ := hk; simp [moveP, moveBodyP, isTermB, a, b, c, d]
  mM7 := by rcases hf with rfl | rfl <;> decide
  mM6 := by rcases hf with rfl | rfl <;> decide
  mM' := fun k h7 h6 => by simp [moveP, moveBodyP, h7, h6]
  tT := fun c k hk => by rw [mem_termKs] at hk; rcases hk with rfl | rfl | rfl | rfl <;> simp [takeC]
  tM := fun c k hk => by rcases hk with rfl | rfl <;> simp [takeC]
  n1 := by decide
  n2 := by decide
  n3 := by decide
  kk := fun k hk => by rw [mem_termKs] at hk; omega
theorem st_facts : ArgSt 15 17 18 19 valueKs where
  mT := fun k hk => by rw [mem_valueKs] at hk; rcases hk with rfl | rfl | rfl <;> decide
  mT' := fun k hk => by rw [mem_valueKs] at hk; simp only [not_or] at hk; obtain ⟨a, b, c⟩ := hk; simp [moveP, moveFactP, isValueB, a, b, c]
  mM7 := by decide
  mM6 := by decide
  mM' := fun k h7 h6 => by simp [moveP, moveFactP, h7, h6]
  tT := fun c k hk => by rw [mem_valueKs] at hk; rcases hk with rfl | rfl | rfl <;> simp [takeC]
  tM := fun c k hk => by rcases hk with rfl | rfl <;> simp [takeC]
  n1 := by decide
  n2 := by decide
  n3 := by decide
  kk := fun k hk => by rw [mem_valueKs] at hk; omega
theorem st_one : ArgSt 20 22 23 24 valueKs where
  mT := fun k hk => by rw [mem_valueKs] at hk; rcases hk with rfl | rfl | rfl <;> decide
  mT' := fun k hk => by rw [mem_valueKs] at hk; simp only [not_or] at hk; obtain ⟨a, b, c⟩ := hk; simp [moveP, moveFactP, isValueB, a, b, c]
  mM7 := by decide
  mM6 := by decide
  mM' := fun k h7 h6 => by simp [moveP, moveFactP, h7, h6]
  tT := fun c k hk => by rw [mem_valueKs] at hk; rcases hk with rfl | rfl | rfl <;> simp [takeC]
  tM := fun c k hk => by rcases hk with rfl | rfl <;> simp [takeC]
  n1 := by decide
  n2 := by decide
  n3 := by decide
  kk := fun k hk => by rw [mem_valueKs] at hk; omega

theorem take_bad2 {ec eo first s x o : Int} {c : Cnt} {ks : List Int} {R : List Tok} (hm : ∀ t r, R = t :: r → t.k ∉ ks → moveP first s t.k = -1) (hw : Wf ec R) (h : takeP ec eo ks R = .bad x o) : chkR ec eo first s c R = .bad x o := by
  cases R with
  | nil => unfold takeP at h; cases h; exact chk_nil hw
  | cons t r =>
    simp only [takeP] at h
    by_cases hk : t.k ∈ ks
    · rw [if_pos hk] at h; cases h
    · rw [if_neg hk] at h; cases h; exact chk_mis (hm t r rfl hk)
theorem take_isok {ec eo : Int} {ks : List Int} {R r : List Tok} {t : Tok} (h : takeP ec eo ks R = .ok t r) : R = t :: r ∧ t.k ∈ ks := by
  cases R with
  | nil => unfold takeP at h; cases h
  | cons t' r' =>
    simp only [takeP] at h
    by_cases hk : t'.k ∈ ks
    · rw [if_pos hk] at h; cases h; exact ⟨rfl, hk⟩
    · rw [if_neg hk] at h; cases h

theorem atom_sim {ec eo first sN sT sM sE : Int} {ks : List Int} (H : ArgSt first sT sM sE ks) (hm : moveP first sN 5 = sT) (ht : ∀ c : Cnt, takeC c sN 5 = ⟨c.c, c.l, 0⟩) (name : Tok) (R : List Tok) (c : Cnt) (hl : Lim first c) (hw : Wf ec R) :
    (∀ x o, atomP ec eo ks name R = .bad x o → chkR ec eo first sN c R = .bad x o) ∧
    (∀ a r', atomP ec eo ks name R = .ok a r' → Wf ec r' ∧ ∃ P, R = P ++ r' ∧ a = atomR (name :: P) ∧ (∀ k, k = 7 ∨ k = 8 ∨ k = 9 → Closed k P) ∧ (P = [] ∨ ∃ l Q, P = l :: Q ∧ l.k = 5) ∧
      ∃ s' c', chkR ec eo first sN c R = chkR ec eo first s' c' r' ∧ c'.c = c.c ∧ c'.l = c.l ∧ Lim first c' ∧ (s' = sE ∨ (s' = sN ∧ R = r' ∧ ∃ t r, r' = t :: r ∧ t.k ≠ 5))) := by
  cases R with
  | nil => exact ⟨fun x o h => by unfold atomP at h; cases h; exact chk_nil hw, fun a r' h => by unfold atomP at h; cases h⟩
  | cons t r =>
    simp only [atomP]
    by_cases h5 : t.k = 5
    · rw [if_pos h5]
      have hl0 : Lim first ⟨c.c, c.l, 0⟩ := ⟨hl.1, hl.2.1, hl.2.2.1, by show (0 : Int) ≤ 8; decide⟩
      have e : chkR ec eo first sN c (t :: r) = chkR ec eo first sT ⟨c.c, c.l, 0⟩ r := chk_go (by rw [h5]; exact hm) H.n1 (by rw [h5]; exact ht c) hl0
      obtain ⟨i1, i2⟩ := args_sim (eo := eo) H r [] ⟨c.c, c.l, 0⟩ rfl hl0 (hw.tail (by omega))
      cases ha : argsP ec eo ks [] r with
      | bad x o => exact ⟨fun x' o' h => by cases h; rw [e]; exact i1 _ _ ha, fun a r' h => by cases h⟩
      | ok ts r2 =>
        obtain ⟨j1, j2, j3, P, j4, j5, j6⟩ := i2 _ _ ha
        refine ⟨fun x o h => (by cases h), fun a r' h => ?_⟩
        cases h
        refine ⟨j3, t :: P, by rw [j4]; rfl, ?_, fun k hk now out L => ?_, .inr ⟨t, P, rfl, h5⟩, sE, ⟨c.c, c.l, ts.length⟩, by rw [e, j1], rfl, rfl, ⟨hl.1, hl.2.1, hl.2.2.1, by show (ts.length : Int) ≤ 8; omega⟩, .inl rfl⟩
        · rw [j5]; simp [atomR, List.filter_cons, show isTermB t.k = false by simp [isTermB, h5]]
        · have d1 : depthP 0 t = 1 := by simp [depthP, h5]
          rw [List.cons_append, cutF, d1, if_neg (by omega), j6 k hk]
          simp
    · rw [if_neg h5]
      refine ⟨fun x o h => (by cases h), fun a r' h => ?_⟩
      cases h
      exact ⟨hw, [], rfl, by simp [atomR], fun k _ => Closed.nil k, .inl rfl, sN, c, rfl, rfl, rfl, hl, .inr ⟨rfl, rfl, t, r, rfl, h5⟩⟩

/-- Behind a literal: a comma or a dot. -/
def Fol (first s : Int) (c : Cnt) (r : List Tok) : Prop :=
  (∀ t r', r = t :: r' → t.k ≠ 7 → t.k ≠ 8 → moveP first s t.k = -1) ∧ moveP first s 7 = 5 ∧ moveP first s 8 = bhP first ∧ takeC c s 7 = c ∧ takeC c s 8 = c
theorem fol_end {first : Int} (c : Cnt) (r : List Tok) {s : Int} (hs : s = 13 ∨ s = 14) : Fol first s c r := by
  rcases hs with rfl | rfl <;> exact ⟨fun t r' _ h7 h8 => by simp [moveP, moveBodyP, h7, h8], by simp [moveP, moveBodyP], by simp [moveP, moveBodyP], by simp [takeC], by simp [takeC]⟩
theorem fol_neg {first : Int} (c : Cnt) {r r2 : List Tok} {t : Tok} (hr : r = t :: r2) (h5 : t.k ≠ 5) : Fol first 12 c r :=
  ⟨fun u r' e h7 h8 => by rw [hr] at e; cases e; simp [moveP, moveBodyP, h7, h8, h5], by simp [moveP, moveBodyP], by simp [moveP, moveBodyP], by simp [takeC], by simp [takeC]⟩
theorem fol_name {first : Int} (c : Cnt) {r r2 : List Tok} {t : Tok} (hr : r = t :: r2) (h5 : t.k ≠ 5) (h11 : t.k ≠ 11) : Fol first 6 c r :=
  ⟨fun u r' e h7 h8 => by rw [hr] at e; cases e; simp [moveP, moveBodyP, h7, h8, h5, h11], by simp [moveP, moveBodyP], by simp [moveP, moveBodyP], by simp [takeC], by simp [takeC]⟩

def litS (k : Int) : Int := if k = 1 then 6 else if k = 10 then 7 else 8
def LitKs : List Int := [1, 10, 2, 3, 4]

theorem closed3 {P : List Tok} {t : Tok} (h : ∀ k, k = 7 ∨ k = 8 ∨ k = 9 → Closed k P) (ht : t.k ≠ 5 ∧ t.k ≠ 6 ∧ t.k ≠ 7 ∧ t.k ≠ 8 ∧ t.k ≠ 9) : ∀ k, k = 7 ∨ k = 8 ∨ k = 9 → Closed k (t :: P) := fun k hk =>
  (h k hk).cons ht.1 ht.2.1 (by omega)

/-- A test: an operator and a right side. -/
theorem test_sim {ec eo first s1 : Int} (hs : s1 = 6 ∨ s1 = 8) (ft : Tok) (hft : ft.k = 1 ∨ ft.k = 2 ∨ ft.k = 3 ∨ ft.k = 4) (R : List Tok) (c : Cnt) (hl : Lim first c) (hw : Wf ec R) (h11 : s1 = 8 ∨ ∃ t r, R = t :: r ∧ t.k = 11) :
    (∀ x o, (match takeP ec eo [11] R with | .bad c o => PR.bad c o | .ok o1 r' => match takeP ec eo termKs r' with | .bad c o => .bad c o | .ok t2 r'' => .ok (⟨3, zeroAtom, o1.op, termP ft, termP t2, ft.off⟩ : PLit) r'') = .bad x o → chkR ec eo first s1 c R = .bad x o) ∧
    (∀ y r', (match takeP ec eo [11] R with | .bad c o => PR.bad c o | .ok o1 r' => match takeP ec eo termKs r' with | .bad c o => .bad c o | .ok t2 r'' => .ok (⟨3, zeroAtom, o1.op, termP ft, termP t2, ft.off⟩ : PLit) r'') = .ok y r' → Wf ec r' ∧ ∃ P, R = P ++ r' ∧ y = litR (ft :: P) ∧ LitOk (ft :: P) ∧ (∀ k, k = 7 ∨ k = 8 ∨ k = 9 → Closed k (ft :: P)) ∧
      ∃ s' c', chkR ec eo first s1 c R = chkR ec eo first s' c' r' ∧ c'.c = c.c ∧ c'.l = c.l ∧ Lim first c' ∧ Fol first s' c' r') := by
  have hm : ∀ t r, R = t :: r → t.k ∉ [(11 : Int)] → moveP first s1 t.k = -1 := fun t r e hk => by
    simp only [List.mem_singleton] at hk
    rcases h11 with rfl | ⟨t', r', e', h'⟩
    · simp [moveP, moveBodyP, hk]
    · rw [e] at e'; cases e'; exact absurd h' hk
  cases h1 : takeP ec eo [11] R with
  | bad x o => exact ⟨fun x' o' h => by cases h; exact take_bad2 hm hw h1, fun y r' h => by cases h⟩
  | ok o1 r1 =>
    obtain ⟨rfl, ho⟩ := take_isok h1
    simp only [List.mem_singleton] at ho
    have e1 : chkR ec eo first s1 c (o1 :: r1) = chkR ec eo first 11 c r1 := chk_go (by rw [ho]; rcases hs with rfl | rfl <;> simp [moveP, moveBodyP]) (by decide) (by rw [ho]; rcases hs with rfl | rfl <;> simp [takeC]) hl
    have hw1 : Wf ec r1 := hw.tail (by omega)
    have hm2 : ∀ t r, r1 = t :: r → t.k ∉ termKs → moveP first 11 t.k = -1 := fun t r e hk => by
      rw [mem_termKs] at hk; simp only [not_or] at hk; obtain ⟨a, b, c, d⟩ := hk
      simp [moveP, moveBodyP, isTermB, a, b, c, d]
    cases h2 : takeP ec eo termKs r1 with
    | bad x o => exact ⟨fun x' o' h => by simp only [h2] at h; cases h; rw [e1]; exact take_bad2 hm2 hw1 h2, fun y r' h => by simp only [h2] at h; cases h⟩
    | ok t2 r2 =>
      obtain ⟨rfl, hk2⟩ := take_isok h2
      rw [mem_termKs] at hk2
      refine ⟨fun x o h => (by simp only [h2] at h; cases h), fun y r' h => ?_⟩
      simp only [h2] at h
      cases h
      have e2 : chkR ec eo first 11 c (t2 :: r2) = chkR ec eo first 14 c r2 := chk_go (by rcases hk2 with h | h | h | h <;> rw [h] <;> simp [moveP, moveBodyP, isTermB]) (by decide) (by rcases hk2 with h | h | h | h <;> rw [h] <;> simp [takeC]) hl
      refine ⟨hw1.tail (by omega), [o1, t2], rfl, ?_, ?_, ?_, 14, c, by rw [e1, e2], rfl, rfl, hl, fol_end c _ (.inr rfl)⟩
      · have : ft.k ≠ 10 := by omega
        simp [litR, this, ho]
      · intro h; omega
      · clear h11 hm hm2
        exact closed3 (closed3 (closed3 (fun k _ => Closed.nil k) (by omega)) (by omega)) (by omega)

theorem lit_sim {ec eo first : Int} (hf : first = 0 ∨ first = 5) (ft : Tok) (hft : ft.k ∈ LitKs) (R : List Tok) (c : Cnt) (hl : Lim first c) (hw : Wf ec R) :
    (∀ x o, litP ec eo ft R = .bad x o → chkR ec eo first (litS ft.k) c R = .bad x o) ∧
    (∀ y r', litP ec eo ft R = .ok y r' → Wf ec r' ∧ ∃ P, R = P ++ r' ∧ y = litR (ft :: P) ∧ LitOk (ft :: P) ∧ (∀ k, k = 7 ∨ k = 8 ∨ k = 9 → Closed k (ft :: P)) ∧
      ∃ s' c', chkR ec eo first (litS ft.k) c R = chkR ec eo first s' c' r' ∧ c'.c = c.c ∧ c'.l = c.l ∧ Lim first c' ∧ Fol first s' c' r') := by
  simp only [LitKs, List.mem_cons, List.not_mem_nil, or_false] at hft
  unfold litP
  by_cases h10 : ft.k = 10
  · rw [if_pos h10, show litS ft.k = 7 by simp [litS, h10]]
    cases h1 : takeP ec eo [1] R with
    | bad x o => exact ⟨fun x' o' h => by cases h; exact take_bad2 (fun t r _ hk => by simp only [List.mem_singleton] at hk; simp [moveP, moveBodyP, hk]) hw h1, fun y r' h => by cases h⟩
    | ok n r1 =>
      obtain ⟨rfl, hn⟩ := take_isok h1
      simp only [List.mem_singleton] at hn
      have e1 : chkR ec eo first 7 c (n :: r1) = chkR ec eo first 12 c r1 := chk_go (by rw [hn]; simp [moveP, moveBodyP]) (by decide) (by rw [hn]; simp [takeC]) hl
      have hw1 : Wf ec r1 := hw.tail (by omega)
      obtain ⟨i1, i2⟩ := atom_sim (ec := ec) (eo := eo) (sN := 12) (st_lit hf) (by simp [moveP, moveBodyP]) (fun c => by simp [takeC]) n r1 c hl hw1
      cases h2 : atomP ec eo termKs n r1 with
      | bad x o => exact ⟨fun x' o' h => by simp only [h2] at h; cases h; rw [e1]; exact i1 _ _ h2, fun y r' h => by simp only [h2] at h; cases h⟩
      | ok a r2 =>
        obtain ⟨j1, P, j2, j3, j4, j5, s', c', j6, j7, j8, j9, j10⟩ := i2 _ _ h2
        refine ⟨fun x o h => (by simp only [h2] at h; cases h), fun y r' h => ?_⟩
        simp only [h2] at h
        cases h
        refine ⟨j1, n :: P, by rw [j2]; rfl, ?_, fun _ => by simp, closed3 (closed3 j4 (by omega)) (by omega), s', c', by rw [e1, j6], j7, j8, j9, ?_⟩
        · simp [litR, h10, j3]
        · rcases j10 with rfl | ⟨rfl, -, t, r, e, h5⟩
          · exact fol_end c' _ (.inl rfl)
          · exact fol_neg c' e h5
  · rw [if_neg h10]
    have hk : ft.k = 1 ∨ ft.k = 2 ∨ ft.k = 3 ∨ ft.k = 4 := by omega
    by_cases h1 : ft.k = 1
    · rw [show litS ft.k = 6 by simp [litS, h1]]
      simp only [h1, if_true]
      cases R with
      | nil => exact ⟨fun x o h => by cases h; exact chk_nil hw, fun y r' h => by cases h⟩
      | cons t r =>
        by_cases h11 : t.k = 11
        · simp only [h11, if_true]
          exact test_sim (.inl rfl) ft hk (t :: r) c hl hw (.inr ⟨t, r, rfl, h11⟩)
        · simp only [h11, if_false]
          obtain ⟨i1, i2⟩ := atom_sim (ec := ec) (eo := eo) (sN := 6) (st_lit hf) (by simp [moveP, moveBodyP]) (fun c => by simp [takeC]) ft (t :: r) c hl hw
          cases h2 : atomP ec eo termKs ft (t :: r) with
          | bad x o => exact ⟨fun x' o' h => by cases h; exact i1 _ _ h2, fun y r' h => by cases h⟩
          | ok a r2 =>
            obtain ⟨j1, P, j2, j3, j4, j5, s', c', j6, j7, j8, j9, j10⟩ := i2 _ _ h2
            refine ⟨fun x o h => (by cases h), fun y r' h => ?_⟩
            cases h
            refine ⟨j1, P, j2, ?_, fun h => absurd h h10, closed3 j4 (by omega), s', c', j6, j7, j8, j9, ?_⟩
            · rcases j5 with rfl | ⟨l, Q, rfl, hl5⟩
              · simp [litR, h10, j3]
              · match Q with
                | [] => simp [litR, h10, j3]
                | [u] => simp [litR, h10, j3, hl5]
                | u :: v :: w => simp [litR, h10, j3]
            · rcases j10 with rfl | ⟨rfl, e0, t', r', e, h5⟩
              · exact fol_end c' _ (.inl rfl)
              · exact fol_name c' e h5 (by rw [e] at e0; cases e0; exact h11)
    · rw [show litS ft.k = 8 by simp [litS, h1, h10]]
      simp only [h1, if_false]
      exact test_sim (.inr rfl) ft hk R c hl hw (.inl rfl)

theorem bodyF_succ (ec eo : Int) (n : Nat) (acc : List PLit) (R : List Tok) : bodyF ec eo (n + 1) acc R = match takeP ec eo [1, 10, 2, 3, 4] R with
    | .bad c o => .bad c o
    | .ok t r => if acc.length = 16 then .bad 23 t.off else match litP ec eo t r with
      | .bad c o => .bad c o
      | .ok x r' => match takeP ec eo [7, 8] r' with
        | .bad c o => .bad c o
        | .ok s r'' => if s.k = 8 then .ok (acc ++ [x]) r'' else bodyF ec eo n (acc ++ [x]) r'' := rfl

theorem body_sim {ec eo first : Int} (hf : first = 0 ∨ first = 5) : ∀ (n : Nat) (acc : List PLit) (R : List Tok) (c : Cnt), c.l = acc.length → Lim first c → Wf ec R → R.length < n →
    (∀ x o, bodyF ec eo n acc R = .bad x o → chkR ec eo first 5 c R = .bad x o) ∧
    (∀ b r', bodyF ec eo n acc R = .ok b r' → Wf ec r' ∧ ∃ P dot, R = P ++ dot :: r' ∧ dot.k = 8 ∧ Closed 8 P ∧ Closed 9 P ∧ BodyOk P ∧ b = acc ++ bodyR P ∧
      ∃ c', chkR ec eo first 5 c R = chkR ec eo first (bhP first) c' r' ∧ c'.c = c.c ∧ Lim first c')
  | 0, acc, R, c, hc, hl, hw, hn => absurd hn (Nat.not_lt_zero _)
  | n + 1, acc, R, c, hc, hl, hw, hn => by
    rw [bodyF_succ]
    have hm : ∀ t r, R = t :: r → t.k ∉ [(1 : Int), 10, 2, 3, 4] → moveP first 5 t.k = -1 := fun t r _ hk => by
      simp only [List.mem_cons, List.not_mem_nil, or_false, not_or] at hk
      obtain ⟨a, b, c, d, e⟩ := hk
      simp [moveP, moveBodyP, isTermB, a, b, c, d, e]
    cases h1 : takeP ec eo [1, 10, 2, 3, 4] R with
    | bad x o => exact ⟨fun x' o' h => by cases h; exact take_bad2 hm hw h1, fun y r' h => by cases h⟩
    | ok t r =>
      obtain ⟨rfl, ht⟩ := take_isok h1
      have hkt : t.k = 1 ∨ t.k = 10 ∨ t.k = 2 ∨ t.k = 3 ∨ t.k = 4 := by simpa using ht
      have hw1 : Wf ec r := hw.tail (by omega)
      have hmv : moveP first 5 t.k = litS t.k := by rcases hkt with h | h | h | h | h <;> rw [h] <;> simp [moveP, moveBodyP, litS, isTermB]
      have htk : takeC c 5 t.k = ⟨c.c, c.l + 1, c.t⟩ := by rcases hkt with h | h | h | h | h <;> rw [h] <;> simp [takeC]
      have hne : litS t.k ≠ -1 := by rcases hkt with h | h | h | h | h <;> rw [h] <;> decide
      simp only
      by_cases h16 : acc.length = 16
      · rw [if_pos h16]
        refine ⟨fun x o h => ?_, fun b r' h => by cases h⟩
        cases h
        refine chk_lim hmv hne htk ?_ (by decide)
        obtain ⟨g1, g2, g3, g4⟩ := hl
        unfold overC
        rw [if_neg (no_cls (c := ⟨c.c, c.l + 1, c.t⟩) g1 g2), if_pos (by simp only; omega)]
      · rw [if_neg h16]
        have hl2 : Lim first ⟨c.c, c.l + 1, c.t⟩ := ⟨hl.1, hl.2.1, by have := hl.2.2.1; simp only; omega, hl.2.2.2⟩
        have e1 : chkR ec eo first 5 c (t :: r) = chkR ec eo first (litS t.k) ⟨c.c, c.l + 1, c.t⟩ r := chk_go hmv hne htk hl2
        obtain ⟨i1, i2⟩ := lit_sim (ec := ec) (eo := eo) hf t ht r _ hl2 hw1
        cases h2 : litP ec eo t r with
        | bad x o => exact ⟨fun x' o' h => by cases h; rw [e1]; exact i1 _ _ h2, fun y r' h => by cases h⟩
        | ok x r1 =>
          obtain ⟨j1, P, j2, j3, j4, j5, s', c', j6, j7, j8, j9, f0, f7, f8, t7, t8⟩ := i2 _ _ h2
          simp only
          cases h3 : takeP ec eo [7, 8] r1 with
          | bad x' o' => exact ⟨fun x'' o'' h => by cases h; rw [e1, j6]; exact take_bad2 (fun t r e hk => by simp only [List.mem_cons, List.not_mem_nil, or_false, not_or] at hk; exact f0 t r e hk.1 hk.2) j1 h3, fun y r' h => by cases h⟩
          | ok s r2 =>
            obtain ⟨rfl, hs⟩ := take_isok h3
            have hs' : s.k = 7 ∨ s.k = 8 := by simpa using hs
            simp only
            by_cases h8 : s.k = 8
            · rw [if_pos h8]
              refine ⟨fun x o h => (by cases h), fun b r' h => ?_⟩
              cases h
              have e3 : chkR ec eo first s' c' (s :: r2) = chkR ec eo first (bhP first) c' r2 := chk_go (by rw [h8]; exact f8) (by rcases hf with rfl | rfl <;> decide) (by rw [h8]; exact t8) j9
              refine ⟨j1.tail (by omega), t :: P, s, by rw [j2]; rfl, h8, j5 8 (by omega), j5 9 (by omega), ?_, ?_, c', by rw [e1, j6, e3], by rw [j7], j9⟩
              · intro L hL; rw [cut_whole (j5 7 (by omega))] at hL; rw [List.mem_singleton.1 hL]; exact j4
              · unfold bodyR; rw [cut_whole (j5 7 (by omega))]; simp [j3]
            · rw [if_neg h8]
              have h7 : s.k = 7 := by omega
              have e3 : chkR ec eo first s' c' (s :: r2) = chkR ec eo first 5 c' r2 := chk_go (by rw [h7]; exact f7) (by decide) (by rw [h7]; exact t7) j9
              have hlen : r2.length < n := by
                have := congrArg List.length j2
                simp only [List.length_append, List.length_cons] at this hn
                omega
              obtain ⟨k1, k2⟩ := body_sim (eo := eo) hf n (acc ++ [x]) r2 c' (by rw [j8]; simp [hc]) j9 (j1.tail (by omega)) hlen
              refine ⟨fun x' o' h => by rw [e1, j6, e3]; exact k1 _ _ h, fun b r' h => ?_⟩
              obtain ⟨l1, P2, dot, l2, l3, l4, l5, l6, l7, c2, l8, l9, l10⟩ := k2 _ _ h
              have hcut : cutF 7 0 [] [] ((t :: P) ++ s :: P2) = [t :: P] ++ cutF 7 0 [] [] P2 := by
                rw [cut_sep (j5 7 (by omega)) h7 (by decide) (by decide), List.nil_append, cut_out]
              refine ⟨l1, (t :: P) ++ s :: P2, dot, by rw [j2, l2]; simp, l3, (j5 8 (by omega)).app (l4.cons (by omega) (by omega) (by omega)), (j5 9 (by omega)).app (l5.cons (by omega) (by omega) (by omega)), ?_, ?_, c2, by rw [e1, j6, e3, l8], by rw [l9, j7], l10⟩
              · intro L hL
                rw [hcut] at hL
                rcases List.mem_append.1 hL with h | h
                · rw [List.mem_singleton.1 h]; exact j4
                · exact l6 L h
              · rw [l7]; unfold bodyR; rw [hcut]; simp [j3]
end Go.Proofs.YtmdhjggijlhhgaaGreatDoor

namespace Go.Proofs.YtmdhjggijlhhgaaGreatDoor
set_option linter.unusedSimpArgs false
set_option linter.unusedVariables false
open Go.RowKit

theorem clause_sim {ec eo : Int} (name : Tok) (hn : name.k = 1) (R : List Tok) (c : Cnt) (hl : Lim 0 c) (hw : Wf ec R) :
    (∀ x o, clauseP ec eo name R = .bad x o → chkR ec eo 0 1 c R = .bad x o) ∧
    (∀ y r', clauseP ec eo name R = .ok y r' → Wf ec r' ∧ ∃ P dot, name :: R = P ++ dot :: r' ∧ dot.k = 8 ∧ Closed 8 P ∧ ClsOk P ∧ y = clsR P ∧
      ∃ c', chkR ec eo 0 1 c R = chkR ec eo 0 0 c' r' ∧ c'.c = c.c ∧ Lim 0 c') := by
  unfold clauseP
  obtain ⟨i1, i2⟩ := atom_sim (ec := ec) (eo := eo) (sN := 1) st_head (by decide) (fun c => by simp [takeC]) name R c hl hw
  cases h1 : atomP ec eo termKs name R with
  | bad x o => exact ⟨fun x' o' h => by cases h; exact i1 _ _ h1, fun y r' h => by cases h⟩
  | ok a r1 =>
    obtain ⟨j1, P, j2, j3, j4, -, s', c1, j6, j7, j8, j9, j10⟩ := i2 _ _ h1
    have hm : ∀ t r, r1 = t :: r → t.k ∉ [(8 : Int), 9] → moveP 0 s' t.k = -1 := fun t r e hk => by
      simp only [List.mem_cons, List.not_mem_nil, or_false, not_or] at hk
      rcases j10 with rfl | ⟨rfl, -, t', r', e', h5⟩
      · simp [moveP, moveHeadP, hk.1, hk.2]
      · rw [e] at e'; cases e'; simp [moveP, moveHeadP, hk.1, hk.2, h5]
    have hs4 : s' = 4 ∨ s' = 1 := j10.imp id (fun h => h.1)
    simp only
    cases h2 : takeP ec eo [8, 9] r1 with
    | bad x o => exact ⟨fun x' o' h => by cases h; rw [j6]; exact take_bad2 hm j1 h2, fun y r' h => by cases h⟩
    | ok s r2 =>
      obtain ⟨rfl, hs⟩ := take_isok h2
      have hs' : s.k = 8 ∨ s.k = 9 := by simpa using hs
      have hc3 := closed3 (t := name) j4 (by omega)
      simp only
      by_cases h9 : s.k = 9
      · rw [if_pos h9]
        have hl2 : Lim 0 ⟨c1.c, 0, c1.t⟩ := ⟨j9.1, j9.2.1, by show (0 : Int) ≤ 16; decide, j9.2.2.2⟩
        have e2 : chkR ec eo 0 s' c1 (s :: r2) = chkR ec eo 0 5 ⟨c1.c, 0, c1.t⟩ r2 := chk_go (by rw [h9]; rcases hs4 with rfl | rfl <;> decide) (by decide) (by rw [h9]; rcases hs4 with rfl | rfl <;> simp [takeC]) hl2
        obtain ⟨k1, k2⟩ := body_sim (eo := eo) (.inl rfl) (r2.length + 1) [] r2 ⟨c1.c, 0, c1.t⟩ rfl hl2 (j1.tail (by omega)) (by omega)
        unfold bodyP
        cases h3 : bodyF ec eo (r2.length + 1) [] r2 with
        | bad x o => exact ⟨fun x' o' h => by cases h; rw [j6, e2]; exact k1 _ _ h3, fun y r' h => by cases h⟩
        | ok b r3 =>
          obtain ⟨l1, P2, dot, l2, l3, l4, l5, l6, l7, c2, l8, l9, l10⟩ := k2 _ _ h3
          refine ⟨fun x o h => (by cases h), fun y r' h => ?_⟩
          cases h
          have hcut : cutF 9 0 [] [] ((name :: P) ++ s :: P2) = [name :: P, P2] := by
            rw [cut_sep (hc3 9 (by omega)) h9 (by decide) (by decide), cut_out, cut_whole l5]; rfl
          refine ⟨l1, (name :: P) ++ s :: P2, dot, by rw [j2, l2]; simp, l3, (hc3 8 (by omega)).app (l4.cons (by omega) (by omega) (by omega)), ?_, ?_, c2, by rw [j6, e2, l8]; rfl, by rw [l9]; exact j7, l10⟩
          · unfold ClsOk; rw [hcut]; exact ⟨by simp, fun _ => l6⟩
          · unfold clsR; rw [hcut, l7, j3]; simp
      · rw [if_neg h9]
        have h8 : s.k = 8 := by omega
        refine ⟨fun x o h => (by cases h), fun y r' h => ?_⟩
        cases h
        have e2 : chkR ec eo 0 s' c1 (s :: r2) = chkR ec eo 0 0 c1 r2 := chk_go (by rw [h8]; rcases hs4 with rfl | rfl <;> decide) (by decide) (by rw [h8]; rcases hs4 with rfl | rfl <;> simp [takeC]) j9
        refine ⟨j1.tail (by omega), name :: P, s, by rw [j2]; rfl, h8, hc3 8 (by omega), ?_, ?_, c1, by rw [j6, e2], j7, j9⟩
        · unfold ClsOk; rw [cut_whole (hc3 9 (by omega))]; exact ⟨by simp, fun h => by simp at h⟩
        · unfold clsR; rw [cut_whole (hc3 9 (by omega)), j3]; simp

theorem progF_succ (ec eo : Int) (n : Nat) (acc : List PCls) (R : List Tok) : progF ec eo (n + 1) acc R = match takeP ec eo [1, 0] R with
    | .bad c o => .bad c o
    | .ok t r => if t.k = 0 then .ok acc r else if acc.length = 512 then .bad 24 t.off else match clauseP ec eo t r with
      | .bad c o => .bad c o
      | .ok x r' => progF ec eo n (acc ++ [x]) r' := rfl
theorem chk_done {ec eo first s : Int} {c : Cnt} {t : Tok} {r : List Tok} (h : moveP first s t.k = 26) (hk : t.k = 0) (hc : takeC c s 0 = c) (hl : Lim first c) (hw : Wf ec (t :: r)) : chkR ec eo first s c (t :: r) = .ok () [] := by
  obtain ⟨rfl, rfl⟩ := hw.last hk
  rw [chk_go h (by decide) (by rw [hk]; exact hc) hl]
  unfold chkR; rw [if_pos rfl]
theorem cut_last {t : Tok} (h : t.k = 0) : cutF 8 0 [] [] [t] = [[t]] := cut_whole (Closed.one (by omega) (by omega) (by omega))

theorem prog_sim {ec eo : Int} : ∀ (n : Nat) (acc : List PCls) (R : List Tok) (c : Cnt), c.c = acc.length → Lim 0 c → Wf ec R → R.length < n →
    (∀ x o, progF ec eo n acc R = .bad x o → chkR ec eo 0 0 c R = .bad x o) ∧
    (∀ b r', progF ec eo n acc R = .ok b r' → chkR ec eo 0 0 c R = .ok () [] ∧ ∃ S last, cutF 8 0 [] [] R = S ++ [last] ∧ b = acc ++ S.map clsR ∧ ∀ L ∈ S, ClsOk L)
  | 0, acc, R, c, hc, hl, hw, hn => absurd hn (Nat.not_lt_zero _)
  | n + 1, acc, R, c, hc, hl, hw, hn => by
    rw [progF_succ]
    cases h1 : takeP ec eo [1, 0] R with
    | bad x o => exact ⟨fun x' o' h => by cases h; exact take_bad2 (fun t r _ hk => by simp only [List.mem_cons, List.not_mem_nil, or_false, not_or] at hk; simp [moveP, moveHeadP, hk.1, hk.2]) hw h1, fun y r' h => by cases h⟩
    | ok t r =>
      obtain ⟨rfl, ht⟩ := take_isok h1
      have ht' : t.k = 1 ∨ t.k = 0 := by simpa using ht
      simp only
      by_cases h0 : t.k = 0
      · rw [if_pos h0]
        obtain ⟨rfl, rfl⟩ := hw.last h0
        refine ⟨fun x o h => (by cases h), fun b r' h => ?_⟩
        cases h
        exact ⟨chk_done (by rw [h0]; decide) h0 (by simp [takeC]) hl hw, [], [t], cut_last h0, by simp, by simp⟩
      · rw [if_neg h0]
        have hk : t.k = 1 := by omega
        by_cases h5 : acc.length = 512
        · rw [if_pos h5]
          refine ⟨fun x o h => ?_, fun b r' h => (by cases h)⟩
          cases h
          refine chk_lim (n := 1) (c' := ⟨c.c + 1, c.l, c.t⟩) (by rw [hk]; decide) (by decide) (by rw [hk]; simp [takeC]) ?_ (by decide)
          unfold overC
          rw [if_pos (.inl ⟨rfl, by simp only; omega⟩)]
        · rw [if_neg h5]
          have hl2 : Lim 0 ⟨c.c + 1, c.l, c.t⟩ := ⟨fun h => by have := hl.1 h; simp only; omega, fun h => (by cases h), hl.2.2.1, hl.2.2.2⟩
          have e1 : chkR ec eo 0 0 c (t :: r) = chkR ec eo 0 1 ⟨c.c + 1, c.l, c.t⟩ r := chk_go (by rw [hk]; decide) (by decide) (by rw [hk]; simp [takeC]) hl2
          obtain ⟨i1, i2⟩ := clause_sim (ec := ec) (eo := eo) t hk r _ hl2 (hw.tail h0)
          cases h2 : clauseP ec eo t r with
          | bad x o => exact ⟨fun x' o' h => by cases h; rw [e1]; exact i1 _ _ h2, fun y r' h => by cases h⟩
          | ok y r1 =>
            obtain ⟨j1, P, dot, j2, j3, j4, j5, j6, c', j7, j8, j9⟩ := i2 _ _ h2
            have hlen : r1.length < n := by
              have := congrArg List.length j2
              simp only [List.length_append, List.length_cons] at this hn
              omega
            obtain ⟨k1, k2⟩ := prog_sim (eo := eo) n (acc ++ [y]) r1 c' (by rw [j8]; simp [hc]) j9 j1 hlen
            refine ⟨fun x o h => by rw [e1, j7]; exact k1 _ _ h, fun b r' h => ?_⟩
            obtain ⟨l1, S, last, l2, l3, l4⟩ := k2 _ _ h
            refine ⟨by rw [e1, j7, l1], P :: S, last, ?_, by rw [l3, j6]; simp, ?_⟩
            · rw [j2, cut_sep j4 j3 (by decide) (by decide), cut_out, l2]; rfl
            · intro L hL
              rcases List.mem_cons.1 hL with rfl | h
              · exact j5
              · exact l4 L h

theorem factsF_succ (ec eo : Int) (n : Nat) (acc : List PAtom) (R : List Tok) : factsF ec eo (n + 1) acc R = match takeP ec eo [1, 0] R with
    | .bad c o => .bad c o
    | .ok t r => if t.k = 0 then .ok acc r else if acc.length = 4096 then .bad 24 t.off else match atomP ec eo valueKs t r with
      | .bad c o => .bad c o
      | .ok x r' => match takeP ec eo [8] r' with
        | .bad c o => .bad c o
        | .ok _ r'' => factsF ec eo n (acc ++ [x]) r'' := rfl

theorem facts_sim {ec eo : Int} : ∀ (n : Nat) (acc : List PAtom) (R : List Tok) (c : Cnt), c.c = acc.length → Lim 15 c → Wf ec R → R.length < n →
    (∀ x o, factsF ec eo n acc R = .bad x o → chkR ec eo 15 15 c R = .bad x o) ∧
    (∀ b r', factsF ec eo n acc R = .ok b r' → chkR ec eo 15 15 c R = .ok () [] ∧ ∃ S last, cutF 8 0 [] [] R = S ++ [last] ∧ b = acc ++ S.map atomR ∧ ∀ L ∈ S, L ≠ [])
  | 0, acc, R, c, hc, hl, hw, hn => absurd hn (Nat.not_lt_zero _)
  | n + 1, acc, R, c, hc, hl, hw, hn => by
    rw [factsF_succ]
    cases h1 : takeP ec eo [1, 0] R with
    | bad x o => exact ⟨fun x' o' h => by cases h; exact take_bad2 (fun t r _ hk => by simp only [List.mem_cons, List.not_mem_nil, or_false, not_or] at hk; simp [moveP, moveFactP, hk.1, hk.2]) hw h1, fun y r' h => by cases h⟩
    | ok t r =>
      obtain ⟨rfl, ht⟩ := take_isok h1
      have ht' : t.k = 1 ∨ t.k = 0 := by simpa using ht
      simp only
      by_cases h0 : t.k = 0
      · rw [if_pos h0]
        obtain ⟨rfl, rfl⟩ := hw.last h0
        refine ⟨fun x o h => (by cases h), fun b r' h => ?_⟩
        cases h
        exact ⟨chk_done (by rw [h0]; decide) h0 (by simp [takeC]) hl hw, [], [t], cut_last h0, by simp, by simp⟩
      · rw [if_neg h0]
        have hk : t.k = 1 := by omega
        by_cases h5 : acc.length = 4096
        · rw [if_pos h5]
          refine ⟨fun x o h => ?_, fun b r' h => (by cases h)⟩
          cases h
          refine chk_lim (n := 16) (c' := ⟨c.c + 1, c.l, c.t⟩) (by rw [hk]; decide) (by decide) (by rw [hk]; simp [takeC]) ?_ (by decide)
          unfold overC
          rw [if_pos (.inr ⟨rfl, by simp only; omega⟩)]
        · rw [if_neg h5]
          have hl2 : Lim 15 ⟨c.c + 1, c.l, c.t⟩ := ⟨fun h => (by cases h), fun h => (by have := hl.2.1 h; show c.c + 1 ≤ 4096; omega), hl.2.2.1, hl.2.2.2⟩
          have e1 : chkR ec eo 15 15 c (t :: r) = chkR ec eo 15 16 ⟨c.c + 1, c.l, c.t⟩ r := chk_go (by rw [hk]; decide) (by decide) (by rw [hk]; simp [takeC]) hl2
          obtain ⟨i1, i2⟩ := atom_sim (ec := ec) (eo := eo) (sN := 16) st_facts (by decide) (fun c => by simp [takeC]) t r _ hl2 (hw.tail h0)
          cases h2 : atomP ec eo valueKs t r with
          | bad x o => exact ⟨fun x' o' h => by cases h; rw [e1]; exact i1 _ _ h2, fun y r' h => by cases h⟩
          | ok a r1 =>
            obtain ⟨j1, P, j2, j3, j4, -, s', c1, j6, j7, j8, j9, j10⟩ := i2 _ _ h2
            have hs4 : s' = 19 ∨ s' = 16 := j10.imp id (fun h => h.1)
            have hm : ∀ t r, r1 = t :: r → t.k ∉ [(8 : Int)] → moveP 15 s' t.k = -1 := fun t r e hk => by
              simp only [List.mem_singleton] at hk
              rcases j10 with rfl | ⟨rfl, -, t', r', e', h5⟩
              · simp [moveP, moveFactP, hk]
              · rw [e] at e'; cases e'; simp [moveP, moveFactP, hk, h5]
            simp only
            cases h3 : takeP ec eo [8] r1 with
            | bad x o => exact ⟨fun x' o' h => by cases h; rw [e1, j6]; exact take_bad2 hm j1 h3, fun y r' h => by cases h⟩
            | ok s r2 =>
              obtain ⟨rfl, hs⟩ := take_isok h3
              have h8 : s.k = 8 := by simpa using hs
              have e2 : chkR ec eo 15 s' c1 (s :: r2) = chkR ec eo 15 15 c1 r2 := chk_go (by rw [h8]; rcases hs4 with rfl | rfl <;> decide) (by decide) (by rw [h8]; rcases hs4 with rfl | rfl <;> simp [takeC]) j9
              have hlen : r2.length < n := by
                have := congrArg List.length j2
                simp only [List.length_append, List.length_cons] at this hn
                omega
              obtain ⟨k1, k2⟩ := facts_sim (eo := eo) n (acc ++ [a]) r2 c1 (by rw [j7]; simp [hc]) j9 (j1.tail (by omega)) hlen
              refine ⟨fun x o h => by rw [e1, j6, e2]; exact k1 _ _ h, fun b r' h => ?_⟩
              obtain ⟨l1, S, last, l2, l3, l4⟩ := k2 _ _ h
              have hc3 := closed3 (t := t) j4 (by omega)
              refine ⟨by rw [e1, j6, e2, l1], (t :: P) :: S, last, ?_, by rw [l3, j3]; simp, ?_⟩
              · rw [j2, show t :: (P ++ s :: r2) = (t :: P) ++ s :: r2 from rfl, cut_sep (hc3 8 (by omega)) h8 (by decide) (by decide), cut_out, l2]; rfl
              · intro L hL
                rcases List.mem_cons.1 hL with rfl | h
                · simp
                · exact l4 L h

theorem prog_meet {ec eo : Int} {R : List Tok} (hw : Wf ec R) :
    (∀ x o, progP ec eo R = .bad x o → chkR ec eo 0 0 ⟨0, 0, 0⟩ R = .bad x o) ∧
    (∀ b r', progP ec eo R = .ok b r' → chkR ec eo 0 0 ⟨0, 0, 0⟩ R = .ok () [] ∧ ∃ S last, cutF 8 0 [] [] R = S ++ [last] ∧ b = S.map clsR ∧ ∀ L ∈ S, ClsOk L) := by
  have := prog_sim (ec := ec) (eo := eo) (R.length + 1) [] R ⟨0, 0, 0⟩ rfl ⟨fun _ => by decide, fun _ => by decide, by decide, by decide⟩ hw (by omega)
  unfold progP
  simpa only [List.nil_append] using this
theorem facts_meet {ec eo : Int} {R : List Tok} (hw : Wf ec R) :
    (∀ x o, factsP ec eo R = .bad x o → chkR ec eo 15 15 ⟨0, 0, 0⟩ R = .bad x o) ∧
    (∀ b r', factsP ec eo R = .ok b r' → chkR ec eo 15 15 ⟨0, 0, 0⟩ R = .ok () [] ∧ ∃ S last, cutF 8 0 [] [] R = S ++ [last] ∧ b = S.map atomR ∧ ∀ L ∈ S, L ≠ []) := by
  have := facts_sim (ec := ec) (eo := eo) (R.length + 1) [] R ⟨0, 0, 0⟩ rfl ⟨fun _ => by decide, fun _ => by decide, by decide, by decide⟩ hw (by omega)
  unfold factsP
  simpa only [List.nil_append] using this
theorem query_meet {ec eo : Int} {R : List Tok} (hw : Wf ec R) :
    (∀ x o, queryP ec eo R = .bad x o → chkR ec eo 5 5 ⟨0, 0, 0⟩ R = .bad x o) ∧
    (∀ b r', queryP ec eo R = .ok b r' → chkR ec eo 5 5 ⟨0, 0, 0⟩ R = .ok () [] ∧ ∃ P last, cutF 8 0 [] [] R = [P, last] ∧ b = bodyR P ∧ BodyOk P) := by
  have hl : Lim 5 ⟨0, 0, 0⟩ := ⟨fun _ => by decide, fun _ => by decide, by decide, by decide⟩
  obtain ⟨k1, k2⟩ := body_sim (ec := ec) (eo := eo) (first := 5) (.inr rfl) (R.length + 1) [] R ⟨0, 0, 0⟩ rfl hl hw (by omega)
  unfold queryP bodyP
  cases h1 : bodyF ec eo (R.length + 1) [] R with
  | bad x o => exact ⟨fun x' o' h => by cases h; exact k1 _ _ h1, fun y r' h => by cases h⟩
  | ok b r =>
    obtain ⟨l1, P, dot, l2, l3, l4, -, l6, l7, c2, l8, l9, l10⟩ := k2 _ _ h1
    simp only
    have hb : chkR ec eo 5 5 ⟨0, 0, 0⟩ R = chkR ec eo 5 25 c2 r := l8
    cases h2 : takeP ec eo [0] r with
    | bad x o => exact ⟨fun x' o' h => by cases h; rw [hb]; exact take_bad2 (fun t r _ hk => by simp only [List.mem_singleton] at hk; simp [moveP, moveBodyP, hk]) l1 h2, fun y r' h => by cases h⟩
    | ok t r2 =>
      obtain ⟨rfl, ht⟩ := take_isok h2
      have h0 : t.k = 0 := by simpa using ht
      obtain ⟨rfl, rfl⟩ := l1.last h0
      refine ⟨fun x o h => (by cases h), fun b r' h => ?_⟩
      cases h
      refine ⟨by rw [hb]; exact chk_done (by rw [h0]; decide) h0 (by simp [takeC]) l10 l1, P, [t], ?_, by rw [l7]; simp, l6⟩
      rw [l2, cut_sep l4 l3 (by decide) (by decide), cut_out, cut_last h0]; rfl
theorem fact_meet {ec eo : Int} {R : List Tok} (hw : Wf ec R) :
    (∀ x o, factP ec eo R = .bad x o → chkR ec eo 20 20 ⟨0, 0, 0⟩ R = .bad x o) ∧
    (∀ b r', factP ec eo R = .ok b r' → chkR ec eo 20 20 ⟨0, 0, 0⟩ R = .ok () [] ∧ b = atomR R ∧ R ≠ []) := by
  have hl : Lim 20 ⟨0, 0, 0⟩ := ⟨fun _ => by decide, fun _ => by decide, by decide, by decide⟩
  unfold factP
  cases h1 : takeP ec eo [1] R with
  | bad x o => exact ⟨fun x' o' h => by cases h; exact take_bad2 (fun t r _ hk => by simp only [List.mem_singleton] at hk; simp [moveP, moveFactP, hk]) hw h1, fun y r' h => by cases h⟩
  | ok t r =>
    obtain ⟨rfl, ht⟩ := take_isok h1
    have hk : t.k = 1 := by simpa using ht
    have e1 : chkR ec eo 20 20 ⟨0, 0, 0⟩ (t :: r) = chkR ec eo 20 21 ⟨0, 0, 0⟩ r := chk_go (by rw [hk]; decide) (by decide) (by rw [hk]; simp [takeC]) hl
    obtain ⟨i1, i2⟩ := atom_sim (ec := ec) (eo := eo) (sN := 21) st_one (by decide) (fun c => by simp [takeC]) t r _ hl (hw.tail (by omega))
    simp only
    cases h2 : atomP ec eo valueKs t r with
    | bad x o => exact ⟨fun x' o' h => by cases h; rw [e1]; exact i1 _ _ h2, fun y r' h => by cases h⟩
    | ok a r1 =>
      obtain ⟨j1, P, j2, j3, j4, -, s', c1, j6, j7, j8, j9, j10⟩ := i2 _ _ h2
      have hs4 : s' = 24 ∨ s' = 21 := j10.imp id (fun h => h.1)
      have hm : ∀ t r, r1 = t :: r → t.k ∉ [(0 : Int)] → moveP 20 s' t.k = -1 := fun t r e hk => by
        simp only [List.mem_singleton] at hk
        rcases j10 with rfl | ⟨rfl, -, t', r', e', h5⟩
        · simp [moveP, moveFactP, hk]
        · rw [e] at e'; cases e'; simp [moveP, moveFactP, hk, h5]
      simp only
      cases h3 : takeP ec eo [0] r1 with
      | bad x o => exact ⟨fun x' o' h => by cases h; rw [e1, j6]; exact take_bad2 hm j1 h3, fun y r' h => by cases h⟩
      | ok e r2 =>
        obtain ⟨rfl, he⟩ := take_isok h3
        have h0 : e.k = 0 := by simpa using he
        obtain ⟨rfl, rfl⟩ := j1.last h0
        refine ⟨fun x o h => (by cases h), fun b r' h => ?_⟩
        cases h
        refine ⟨by rw [e1, j6]; exact chk_done (by rw [h0]; rcases hs4 with rfl | rfl <;> decide) h0 (by rcases hs4 with rfl | rfl <;> simp [takeC]) j9 j1, ?_, by simp⟩
        rw [j3, j2]
        simp [atomR, List.filter_append, List.filter_cons, show isTermB e.k = false by simp [isTermB, h0]]
end Go.Proofs.YtmdhjggijlhhgaaGreatDoor
