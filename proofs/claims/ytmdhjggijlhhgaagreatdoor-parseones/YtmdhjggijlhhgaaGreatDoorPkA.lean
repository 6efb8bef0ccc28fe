/- The document's byte tests, run and fault. What the document's hex and escape answer: as lex.escape. What the document's above answers: is the number written above the bound? Numbers written in digits: what ParseInt makes of them, and what the document's above says. What the document's word answers: as lex.word. What the document's integer answers: as lex.integer. What the document's quoted answers: as lex.text. -/
import Derived.Test.YtmdhjggijlhhgaaGreatDoorProg
import Derived.Test.YtmdhjggijlhhgaaGreatDoorLexInt
import Derived.Test.YtmdhjggijlhhgaaGreatDoorLexEsc
import Derived.Test.YtmdhjggijlhhgaaGreatDoorGap
import Derived.Laws.Cover1
import Derived.Test.YtmdhjggijlhhgaaGreatDoorLexText

namespace Go.Proofs.YtmdhjggijlhhgaaGreatDoor
set_option linter.unusedSimpArgs false
set_option linter.unusedVariables false
open Go.RowKit

theorem rlow_any (n : Int) (w : World) (h : 0 ≤ n ∧ n ≤ 255) :
    Calls Tryz.prog 72 #[.int .u8 n] w fun e w' => e = .returned (.bool (bLow n)) ∧ w' = w := by
  by_cases h1 : 97 ≤ n
  · by_cases h2 : n ≤ 122
    · rw [show bLow n = true from by simp [bLow, h1, h2]]
      go_enter Tryz.func72, Tryz.ntmps72
      go_wp2
      go_ret
      exact ⟨rfl, rfl⟩
    · rw [show bLow n = false from by simp [bLow, h1, h2]]
      go_enter Tryz.func72, Tryz.ntmps72
      go_wp2
      go_ret
      exact ⟨rfl, rfl⟩
  · rw [show bLow n = false from by simp [bLow, h1]]
    go_enter Tryz.func72, Tryz.ntmps72
    go_wp2
    go_ret
    exact ⟨rfl, rfl⟩
theorem rup_any (n : Int) (w : World) (h : 0 ≤ n ∧ n ≤ 255) :
    Calls Tryz.prog 73 #[.int .u8 n] w fun e w' => e = .returned (.bool (bUp n)) ∧ w' = w := by
  by_cases h1 : 65 ≤ n
  · by_cases h2 : n ≤ 90
    · rw [show bUp n = true from by simp [bUp, h1, h2]]
      go_enter Tryz.func73, Tryz.ntmps73
      go_wp2
      go_ret
      exact ⟨rfl, rfl⟩
    · rw [show bUp n = false from by simp [bUp, h1, h2]]
      go_enter Tryz.func73, Tryz.ntmps73
      go_wp2
      go_ret
      exact ⟨rfl, rfl⟩
  · rw [show bUp n = false from by simp [bUp, h1]]
    go_enter Tryz.func73, Tryz.ntmps73
    go_wp2
    go_ret
    exact ⟨rfl, rfl⟩
theorem rdig_any (n : Int) (w : World) (h : 0 ≤ n ∧ n ≤ 255) :
    Calls Tryz.prog 75 #[.int .u8 n] w fun e w' => e = .returned (.bool (bDig n)) ∧ w' = w := by
  by_cases h1 : 48 ≤ n
  · by_cases h2 : n ≤ 57
    · rw [show bDig n = true from by simp [bDig, h1, h2]]
      go_enter Tryz.func75, Tryz.ntmps75
      go_wp2
      go_ret
      exact ⟨rfl, rfl⟩
    · rw [show bDig n = false from by simp [bDig, h1, h2]]
      go_enter Tryz.func75, Tryz.ntmps75
      go_wp2
      go_ret
      exact ⟨rfl, rfl⟩
  · rw [show bDig n = false from by simp [bDig, h1]]
    go_enter Tryz.func75, Tryz.ntmps75
    go_wp2
    go_ret
    exact ⟨rfl, rfl⟩

theorem rword_byte (n : Int) (w : World) (h : 0 ≤ n ∧ n ≤ 255) :
    Calls Tryz.prog 100 #[.int .u8 n] w fun e w' => e = .returned (.bool (bWord n)) ∧ w' = w := by
  have HL := hide (rlow_any n w h)
  have HU := hide (rup_any n w h)
  have HD := hide (rdig_any n w h)
  have hd : Hid (bWord n = (bLow n || (bUp n || (bDig n || n == 95)))) := rfl
  rw [hd.out]
  by_cases h95 : n = 95
  · subst h95
    rw [show (bLow 95 || (bUp 95 || (bDig 95 || (95 : Int) == 95))) = true from rfl]
    rw [show bLow 95 = false from rfl] at HL
    rw [show bUp 95 = false from rfl] at HU
    rw [show bDig 95 = false from rfl] at HD
    go_enter Tryz.func100, Tryz.ntmps100
    go_wp2_with (first
      | (go_at_call 72; refine HL.out.mono ?_; rintro e w' ⟨rfl, hw'⟩; have hw' := hw'.symm; subst hw')
      | (go_at_call 73; refine HU.out.mono ?_; rintro e w' ⟨rfl, hw'⟩; have hw' := hw'.symm; subst hw')
      | (go_at_call 75; refine HD.out.mono ?_; rintro e w' ⟨rfl, hw'⟩; have hw' := hw'.symm; subst hw'))
    go_ret
    exact ⟨rfl, rfl⟩
  have e : (n == 95) = false := by simpa using h95
  rw [e]
  clear hd
  generalize bLow n = a at *
  generalize bUp n = b at *
  generalize bDig n = c at *
  cases a <;> cases b <;> cases c
  all_goals
    go_enter Tryz.func100, Tryz.ntmps100
    go_wp2_with (first
      | (go_at_call 72; refine HL.out.mono ?_; rintro e w' ⟨rfl, hw'⟩; have hw' := hw'.symm; subst hw')
      | (go_at_call 73; refine HU.out.mono ?_; rintro e w' ⟨rfl, hw'⟩; have hw' := hw'.symm; subst hw')
      | (go_at_call 75; refine HD.out.mono ?_; rintro e w' ⟨rfl, hw'⟩; have hw' := hw'.symm; subst hw'))
    go_ret
    exact ⟨rfl, rfl⟩

theorem rrun_any (s : ByteArray) (o : Nat) (w : World) (hs : s.size ≤ 140737488351232) (ho : o ≤ s.size) :
    Calls Tryz.prog 91 #[.string s, .int .i64 o] w fun e w' => e = .returned (.int .i64 ((o + runC (rest s o) : Nat) : Int)) ∧ w' = w := by
  go_enter Tryz.func91, Tryz.ntmps91
  go_wp2
  go_loop [1] (fun i => ∃ k : Nat, k ≤ s.size ∧ i = .int .i64 k ∧ Hid (o + runC (rest s o) = k + runC (rest s k))) (fun i => s.size - (intOf i).toNat)
  case atStart => exact ⟨o, ho, rfl, rfl⟩
  case round =>
    obtain ⟨k, hk, rfl, HE⟩ := hrel
    by_cases hlt : k < s.size
    · have hi : (k : Int) < (s.size : Int) := by omega
      have hb : (0 : Int) ≤ (s[k].toNat : Int) ∧ (s[k].toNat : Int) ≤ 255 := by have := s[k].toNat_lt; omega
      have HW := hide (rword_byte (s[k].toNat : Int) w hb)
      by_cases hw : bWord (s[k].toNat : Int) = true
      · have HF : Hid (runC (rest s k) = runC (rest s (k + 1)) + 1) := by
          show runC (rest s k) = _
          rw [rest_cons s k hlt]; conv => lhs; unfold runC
          exact if_pos hw
        go_wp2_with (go_at_call 100; refine HW.out.mono ?_; rintro e w' ⟨rfl, hw'⟩; have hw' := hw'.symm; subst hw')
        go_round
        case rel => exact ⟨k + 1, by omega, by go_num, by have h1 := HE.out; have h2 := HF.out; show _ = _; omega⟩
        case measure => simp [intOf]; omega
      · have hw2 : bWord (s[k].toNat : Int) = false := by simpa using hw
        have HF : Hid (runC (rest s k) = 0) := by
          show runC (rest s k) = _
          rw [rest_cons s k hlt]; unfold runC
          exact if_neg (by rw [hw2]; simp)
        clear hw
        go_wp2_with (go_at_call 100; refine HW.out.mono ?_; rintro e w' ⟨rfl, hw'⟩; have hw' := hw'.symm; subst hw')
        go_ret
        exact ⟨ret_i (by have := HE.out; have := HF.out; omega), rfl⟩
    · have hi : ¬ (k : Int) < (s.size : Int) := by omega
      have HF : Hid (runC (rest s k) = 0) := by
        show runC (rest s k) = 0
        rw [rest_end s k (by omega)]; rfl
      go_wp2
      go_ret
      exact ⟨ret_i (by have := HE.out; have := HF.out; omega), rfl⟩

theorem rfault_any (c : Int) (o : Nat) (w : World) :
    Calls Tryz.prog 58 #[.int .i64 c, .int .i64 o] w fun e w' => e = .returned (.agg #[.int .i64 c, .int .i64 0, .int .i64 (o : Int)]) ∧ Below w.heap.size w w' := by
  go_enter Tryz.func58, Tryz.ntmps58
  go_wp2
  exact bodyPost_ret (v := .agg #[.int .i64 c, .int .i64 0, .int .i64 (o : Int)]) (by simp [results, Tryz.results58, go_sem]) rfl ⟨rfl, (Below.refl _ _).alloc (Nat.le_refl _) _⟩

end Go.Proofs.YtmdhjggijlhhgaaGreatDoor

namespace Go.Proofs.YtmdhjggijlhhgaaGreatDoor
set_option linter.unusedSimpArgs false
set_option linter.unusedVariables false
open Go.RowKit

def hexV (n : Nat) : Int := match hexD n with | some d => (d : Int) | none => -1

theorem hexV_bounds (n : Nat) : (hexV n = -1 ∧ hexD n = none) ∨ (0 ≤ hexV n ∧ hexV n ≤ 15 ∧ hexD n = some (hexV n).toNat) := by
  unfold hexV
  cases h : hexD n with
  | none => exact .inl ⟨rfl, rfl⟩
  | some d =>
    have : d ≤ 15 := by
      unfold hexD at h
      repeat' split at h
      all_goals first | (injection h with h; omega) | cases h
    refine .inr ⟨by show (0 : Int) ≤ (d : Int); omega, by show (d : Int) ≤ 15; omega, ?_⟩
    show some d = some ((d : Int).toNat)
    rw [Int.toNat_natCast]

set_option maxHeartbeats 1000000 in
theorem rhex_any (n : Int) (w : World) (h : 0 ≤ n ∧ n ≤ 255) :
    Calls Tryz.prog 101 #[.int .u8 n] w fun e w' => e = .returned (.int .i64 (hexV n.toNat)) ∧ w' = w := by
  have HD := hide (rdig_any n w h)
  by_cases h1 : 48 ≤ n ∧ n ≤ 57
  · have HV : Hid (hexV n.toNat = n - 48) := by
      show hexV n.toNat = _
      unfold hexV hexD
      rw [if_pos (by omega)]
      show ((n.toNat - 48 : Nat) : Int) = _
      omega
    rw [show bDig n = true from by simp [bDig, h1.1, h1.2]] at HD
    rw [HV.out]
    obtain ⟨a1, a2⟩ := h1
    go_enter Tryz.func101, Tryz.ntmps101
    go_wp2_with (go_at_call 75; refine HD.out.mono ?_; rintro e w' ⟨rfl, hw'⟩; have hw' := hw'.symm; subst hw')
    go_ret
    exact ⟨rfl, rfl⟩
  · have hd : bDig n = false := by
      cases hd : bDig n with
      | false => rfl
      | true =>
        unfold bDig at hd
        simp only [Bool.and_eq_true, decide_eq_true_eq] at hd
        exact absurd hd h1
    rw [hd] at HD
    have h1' : ¬ (48 ≤ n.toNat ∧ n.toNat ≤ 57) := by omega
    by_cases h2 : 97 ≤ n ∧ n ≤ 102
    · have HV : Hid (hexV n.toNat = n - 97 + 10) := by
        show hexV n.toNat = _
        unfold hexV hexD
        rw [if_neg h1', if_pos (by omega)]
        show ((n.toNat - 87 : Nat) : Int) = _
        omega
      rw [HV.out]
      obtain ⟨a1, a2⟩ := h2
      clear h1 h1' hd
      go_enter Tryz.func101, Tryz.ntmps101
      go_wp2_with (go_at_call 75; refine HD.out.mono ?_; rintro e w' ⟨rfl, hw'⟩; have hw' := hw'.symm; subst hw')
      go_ret
      exact ⟨rfl, rfl⟩
    · by_cases h3 : 65 ≤ n ∧ n ≤ 70
      · have HV : Hid (hexV n.toNat = n - 65 + 10) := by
          show hexV n.toNat = _
          unfold hexV hexD
          rw [if_neg h1', if_neg (by omega), if_pos (by omega)]
          show ((n.toNat - 55 : Nat) : Int) = _
          omega
        rw [HV.out]
        obtain ⟨a1, a2⟩ := h3
        have a3 : ¬ 97 ≤ n := by omega
        clear h1 h1' hd h2
        go_enter Tryz.func101, Tryz.ntmps101
        go_wp2_with (go_at_call 75; refine HD.out.mono ?_; rintro e w' ⟨rfl, hw'⟩; have hw' := hw'.symm; subst hw')
        go_ret
        exact ⟨rfl, rfl⟩
      · have HV : Hid (hexV n.toNat = -1) := by
          show hexV n.toNat = _
          unfold hexV hexD
          rw [if_neg h1', if_neg (by omega), if_neg (by omega)]
        rw [HV.out]
        clear h1 h1' hd
        by_cases b1 : 97 ≤ n
        · have b2 : ¬ n ≤ 102 := by omega
          have b3 : ¬ n ≤ 70 := by omega
          have b4 : 65 ≤ n := by omega
          clear h2 h3
          go_enter Tryz.func101, Tryz.ntmps101
          go_wp2_with (go_at_call 75; refine HD.out.mono ?_; rintro e w' ⟨rfl, hw'⟩; have hw' := hw'.symm; subst hw')
          go_ret
          exact ⟨rfl, rfl⟩
        · by_cases b2 : 65 ≤ n
          · have b3 : ¬ n ≤ 70 := by omega
            clear h2 h3
            go_enter Tryz.func101, Tryz.ntmps101
            go_wp2_with (go_at_call 75; refine HD.out.mono ?_; rintro e w' ⟨rfl, hw'⟩; have hw' := hw'.symm; subst hw')
            go_ret
            exact ⟨rfl, rfl⟩
          · clear h2 h3
            go_enter Tryz.func101, Tryz.ntmps101
            go_wp2_with (go_at_call 75; refine HD.out.mono ?_; rintro e w' ⟨rfl, hw'⟩; have hw' := hw'.symm; subst hw')
            go_ret
            exact ⟨rfl, rfl⟩

@[irreducible] def hexI (n : Int) : Int := hexV n.toNat

theorem rhexI (n : Int) (w : World) (h : 0 ≤ n ∧ n ≤ 255) :
    Calls Tryz.prog 101 #[.int .u8 n] w fun e w' => e = .returned (.int .i64 (hexI n)) ∧ w' = w := by
  unfold hexI; exact rhex_any n w h

theorem ext_byte (s : ByteArray) (o j : Nat) (h : o + j < s.size) : ∃ h' : j < (s.extract o s.size).size, (s.extract o s.size)[j]'h' = s[o + j] := by
  have hz : (s.extract o s.size).size = s.size - o := by rw [ByteArray.size_extract]; omega
  refine ⟨by omega, ?_⟩
  have e : (s.extract o s.size).data.toList = rest s o := extract_rest s o
  have h1 : (s.extract o s.size).data.toList[j]? = some ((s.extract o s.size)[j]'(by omega)) := by
    rw [Array.getElem?_toList]
    exact Array.getElem?_eq_getElem (by show j < (s.extract o s.size).size; omega)
  rw [e] at h1
  have h2 : (rest s o)[j]? = some s[o + j] := by
    unfold rest
    rw [List.getElem?_drop, Array.getElem?_toList]
    exact Array.getElem?_eq_getElem (by show o + j < s.size; exact h)
  rw [h2] at h1
  exact (Option.some.inj h1).symm

theorem hexX_two (s : ByteArray) (o : Nat) (h : o + 3 < s.size) : hexX (s.extract o s.size) = match hexD (s[o + 2]'(by omega)).toNat, hexD (s[o + 3]'h).toNat with | some a, some b => (((a * 16 + b : Nat) : Int), 4) | _, _ => (0, 0) := by
  have hz : (s.extract o s.size).size = s.size - o := by rw [ByteArray.size_extract]; omega
  have e : ((s.extract o s.size).extract 2 4).data.toList = [s[o + 2]'(by omega), s[o + 3]'h] := by
    rw [ByteArray.data_extract, Array.toList_extract, List.extract_eq_take_drop, extract_rest s o]
    unfold rest
    rw [List.drop_drop]
    apply List.ext_getElem?
    intro i
    rcases i with _ | _ | i
    · rw [List.getElem?_take_of_lt (by omega), List.getElem?_drop, Array.getElem?_toList]
      exact Array.getElem?_eq_getElem (by show o + 2 + 0 < s.size; omega)
    · rw [List.getElem?_take_of_lt (by omega), List.getElem?_drop, Array.getElem?_toList]
      exact Array.getElem?_eq_getElem (by show o + 2 + 1 < s.size; omega)
    · rw [List.getElem?_take_eq_none (by omega)]; simp
  unfold hexX
  rw [if_neg (by omega), e]
  unfold hexU
  cases h1 : hexD (s[o + 2]'(by omega)).toNat with
  | none => rfl
  | some a =>
    simp only
    unfold hexU
    cases h2 : hexD (s[o + 3]'h).toNat with
    | none => rfl
    | some b => simp [hexU]

set_option maxHeartbeats 2000000 in
set_option maxRecDepth 100000 in
theorem rescape_any (s : ByteArray) (o : Nat) (w : World) (hs : s.size ≤ 140737488351232) (ho : o < s.size) :
    Calls Tryz.prog 93 #[.string s, .int .i64 o] w fun e w' => e = .returned (.tuple #[.int .u8 (escX (s.extract o s.size)).1, .int .i64 (escX (s.extract o s.size)).2]) ∧ Below w.heap.size w w' := by
  have hz : (s.extract o s.size).size = s.size - o := by rw [ByteArray.size_extract]; omega
  by_cases h2 : ¬ o + 1 < s.size
  · rw [show escX (s.extract o s.size) = (0, 0) from dif_neg (by omega)]
    have h2' : (s.size : Int) ≤ (o : Int) + 1 := by omega
    clear hz h2
    go_enter Tryz.func93, Tryz.ntmps93
    go_wp2
    go_ret2
    exact ⟨rfl, Below.refl _ _⟩
  replace h2 : o + 1 < s.size := by omega
  have h2' : ¬ (s.size : Int) ≤ (o : Int) + 1 := by omega
  have h2'' : (o : Int) + 1 < (s.size : Int) := by omega
  obtain ⟨hx1, hx2⟩ := ext_byte s o 1 h2
  rw [show escX (s.extract o s.size) = escOf (s.extract o s.size) (s[o + 1].toNat : Int) from by rw [← hx2]; exact dif_pos hx1]
  have hbb : (0 : Int) ≤ (s[o + 1].toNat : Int) ∧ (s[o + 1].toNat : Int) ≤ 255 := by have := s[o + 1].toNat_lt; omega
  obtain ⟨b, hb⟩ : ∃ b : Int, b = (s[o + 1].toNat : Int) := ⟨_, rfl⟩
  rw [← hb] at hbb ⊢
  replace hb := hb.symm
  clear hx1 hx2
  by_cases h34 : b = 34
  · subst h34
    rw [show escOf (s.extract o s.size) 34 = (34, 2) from rfl]
    go_enter Tryz.func93, Tryz.ntmps93
    go_wp2
    go_ret2
    exact ⟨rfl, Below.refl _ _⟩
  by_cases h92 : b = 92
  · subst h92
    rw [show escOf (s.extract o s.size) 92 = (92, 2) from rfl]
    go_enter Tryz.func93, Tryz.ntmps93
    go_wp2
    go_ret2
    exact ⟨rfl, Below.refl _ _⟩
  by_cases h110 : b = 110
  · subst h110
    rw [show escOf (s.extract o s.size) 110 = (10, 2) from rfl]
    go_enter Tryz.func93, Tryz.ntmps93
    go_wp2
    go_ret2
    exact ⟨rfl, Below.refl _ _⟩
  by_cases h116 : b = 116
  · subst h116
    rw [show escOf (s.extract o s.size) 116 = (9, 2) from rfl]
    go_enter Tryz.func93, Tryz.ntmps93
    go_wp2
    go_ret2
    exact ⟨rfl, Below.refl _ _⟩
  by_cases h114 : b = 114
  · subst h114
    rw [show escOf (s.extract o s.size) 114 = (13, 2) from rfl]
    go_enter Tryz.func93, Tryz.ntmps93
    go_wp2
    go_ret2
    exact ⟨rfl, Below.refl _ _⟩
  have e1 : (b == 34) = false := by simpa using h34
  have e2 : (b == 92) = false := by simpa using h92
  have e3 : (b == 110) = false := by simpa using h110
  have e4 : (b == 116) = false := by simpa using h116
  have e5 : (b == 114) = false := by simpa using h114
  by_cases h120 : b = 120
  · subst h120
    rw [show escOf (s.extract o s.size) 120 = hexX (s.extract o s.size) from rfl]
    clear h34 h92 h110 h116 h114 e1 e2 e3 e4 e5
    by_cases h4 : o + 3 < s.size
    · have g1 : (o : Int) + 3 < (s.size : Int) := by omega
      have g2 : (o : Int) + 2 < (s.size : Int) := by omega
      rw [hexX_two s o h4]
      have ha : (0 : Int) ≤ (s[o + 2].toNat : Int) ∧ (s[o + 2].toNat : Int) ≤ 255 := by have := s[o + 2].toNat_lt; omega
      have hc : (0 : Int) ≤ (s[o + 3].toNat : Int) ∧ (s[o + 3].toNat : Int) ≤ 255 := by have := s[o + 3].toNat_lt; omega
      have QA : Hid (hexI (s[o + 2].toNat : Int) = hexV s[o + 2].toNat) := by show hexI _ = _; unfold hexI; rw [Int.toNat_natCast]
      have QC : Hid (hexI (s[o + 3].toNat : Int) = hexV s[o + 3].toNat) := by show hexI _ = _; unfold hexI; rw [Int.toNat_natCast]
      have va := hexV_bounds s[o + 2].toNat
      have vc := hexV_bounds s[o + 3].toNat
      generalize hexV s[o + 2].toNat = x at *
      generalize hexV s[o + 3].toNat = y at *
      rcases va with ⟨rfl, q1⟩ | ⟨p1, p2, q1⟩
      · rw [q1]
        clear q1 vc
        go_enter Tryz.func93, Tryz.ntmps93
        go_wp2_with (go_at_call 101; refine (rhexI _ _ (by first | exact ha | exact hc)).mono ?_; rintro e w' ⟨rfl, hw'⟩; have hw' := hw'.symm; subst hw'; first | rw [QA.out] | rw [QC.out])
        go_ret2
        exact ⟨rfl, Below.refl _ _⟩
      · rcases vc with ⟨rfl, q2⟩ | ⟨p3, p4, q2⟩
        · rw [q1, q2]
          clear q1 q2
          go_enter Tryz.func93, Tryz.ntmps93
          go_wp2_with (go_at_call 101; refine (rhexI _ _ (by first | exact ha | exact hc)).mono ?_; rintro e w' ⟨rfl, hw'⟩; have hw' := hw'.symm; subst hw'; first | rw [QA.out] | rw [QC.out])
          go_ret2
          exact ⟨rfl, Below.refl _ _⟩
        · rw [q1, q2]
          show Calls _ _ _ _ fun e w' => e = .returned (.tuple #[.int .u8 ((x.toNat * 16 + y.toNat : Nat) : Int), .int .i64 4]) ∧ Below w.heap.size w w'
          have HV : Hid (((x.toNat * 16 + y.toNat : Nat) : Int) = 16 * x + y) := by show _ = _; omega
          rw [HV.out]
          clear q1 q2
          go_enter Tryz.func93, Tryz.ntmps93
          go_wp2_with (go_at_call 101; refine (rhexI _ _ (by first | exact ha | exact hc)).mono ?_; rintro e w' ⟨rfl, hw'⟩; have hw' := hw'.symm; subst hw'; first | rw [QA.out] | rw [QC.out])
          have p1' : 0 ≤ hexI (s[o + 2].toNat : Int) := by rw [QA.out]; exact p1
          have p2' : hexI (s[o + 2].toNat : Int) ≤ 15 := by rw [QA.out]; exact p2
          have p3' : 0 ≤ hexI (s[o + 3].toNat : Int) := by rw [QC.out]; exact p3
          have p4' : hexI (s[o + 3].toNat : Int) ≤ 15 := by rw [QC.out]; exact p4
          refine wp_region_over (fun W => W = w) (by kernel_rfl) (by kernel_rfl) rfl ?_
          rintro W rfl
          repeat (go_big_quiet_step (first | (go_at_call 101; exact calls_over_same (rhexI _ _ (by first | exact ha | exact hc)))))
          refine wpQuiet_nil ?_
          rintro _ ⟨z, rfl⟩
          go_wp2
          go_ret2
          (rw [QA.out, QC.out]; exact ⟨rfl, over_below _ _⟩)
    · have g1 : ¬ (o : Int) + 3 < (s.size : Int) := by omega
      rw [show hexX (s.extract o s.size) = (0, 0) from if_pos (by omega)]
      go_enter Tryz.func93, Tryz.ntmps93
      go_wp2
      go_ret2
      exact ⟨rfl, Below.refl _ _⟩
  rw [show escOf (s.extract o s.size) b = (0, 0) from by unfold escOf; rw [if_neg h34, if_neg h92, if_neg h110, if_neg h116, if_neg h114, if_neg h120]]
  have e6 : (b == 120) = false := by simpa using h120
  clear h34 h92 h110 h116 h114 h120
  go_enter Tryz.func93, Tryz.ntmps93
  go_wp2
  go_ret2
  exact ⟨rfl, Below.refl _ _⟩

end Go.Proofs.YtmdhjggijlhhgaaGreatDoor

namespace Go.Proofs.YtmdhjggijlhhgaaGreatDoor
set_option linter.unusedSimpArgs false
set_option linter.unusedVariables false
open Go.RowKit

def stripZ : List UInt8 → List UInt8
  | [] => []
  | c :: r => if c.toNat = 48 then stripZ r else c :: r

theorem ext_one (d : ByteArray) : (d.extract 1 d.size).data.toList = d.data.toList.drop 1 := extract_rest d 1

theorem list_zero (d : ByteArray) (h : 0 < d.size) : d.data.toList = d[0] :: d.data.toList.drop 1 := by
  have := rest_cons d 0 h
  unfold rest at this
  simpa using this

def aboveB (l m : List UInt8) : Bool := if (stripZ l).length = m.length then !(Op.bytesLess (stripZ l) m || stripZ l == m) else decide (m.length < (stripZ l).length)

theorem above_ret {d D m : ByteArray} (h : stripZ d.data.toList = D.data.toList) (hsz : D.size = m.size) :
    Ending.returned (.bool (!Op.bytesLess D.toList m.toList && !(D.toList == m.toList))) = .returned (.bool (aboveB d.data.toList m.data.toList)) := by
  unfold aboveB
  rw [h, if_pos (by simpa using hsz), ByteArray.toList_eq, ByteArray.toList_eq, Bool.not_or]
theorem above_ret2 {d D m : ByteArray} (h : stripZ d.data.toList = D.data.toList) (hsz : ¬ D.size = m.size) :
    Ending.returned (.bool (decide (m.size < D.size))) = .returned (.bool (aboveB d.data.toList m.data.toList)) := by
  unfold aboveB
  rw [h, if_neg (by simpa using hsz)]
  simp

set_option maxHeartbeats 1000000 in
set_option maxRecDepth 100000 in
theorem above_any (d m : ByteArray) (w : World) (hs : d.size ≤ 140737488351232) (hm : m.size ≤ 140737488351232) (hm0 : 0 < m.size) :
    Calls Tryz.prog 92 #[.string d, .string m] w fun e w' => e = .returned (.bool (aboveB d.data.toList m.data.toList)) ∧ w' = w := by
  go_enter Tryz.func92, Tryz.ntmps92
  go_wp2
  go_loop [0] (fun v => ∃ D : ByteArray, D.size ≤ 140737488351232 ∧ v = .string D ∧ Hid (stripZ d.data.toList = stripZ D.data.toList)) (fun v => match v with | .string D => D.size | _ => 0)
  case atStart => exact ⟨d, hs, rfl, rfl⟩
  case round =>
    obtain ⟨D, hD, rfl, HE⟩ := hrel
    by_cases hlt : 0 < D.size
    · have hi : (0 : Int) < (D.size : Int) := by omega
      have h1 : (1 : Int) ≤ (D.size : Int) := by omega
      have hl := list_zero D hlt
      obtain ⟨b, hb⟩ : ∃ b : Int, b = (D[0].toNat : Int) := ⟨_, rfl⟩
      by_cases h48 : b = 48
      · have HF : Hid (stripZ D.data.toList = stripZ (D.extract 1 D.size).data.toList) := by
          show stripZ _ = _
          rw [hl, ext_one]
          exact if_pos (by omega)
        have hz : (D.extract 1 D.size).size = D.size - 1 := by rw [ByteArray.size_extract]; omega
        replace hz := hide hz
        subst h48
        replace hb := hb.symm
        clear hl
        go_wp2
        go_round
        case rel => exact ⟨D.extract 1 D.size, by have := hz.out; omega, rfl, HE.out.trans HF.out⟩
        case measure => have := hz.out; simp; omega
      · have HF : Hid (stripZ D.data.toList = D.data.toList) := by
          show stripZ _ = _
          rw [hl]
          exact if_neg (by omega)
        have e48 : (b == 48) = false := by simpa using h48
        replace hb := hb.symm
        clear hl
        by_cases hsz : D.size = m.size
        · have e1 : ((D.size : Int) != (m.size : Int)) = false := by simp [hsz]
          replace hsz := hide hsz
          go_wp2
          go_ret
          exact ⟨above_ret (HE.out.trans HF.out) hsz.out, rfl⟩
        · have e1 : ((D.size : Int) != (m.size : Int)) = true := by simp; omega
          replace hsz := hide hsz
          go_wp2
          go_ret
          exact ⟨above_ret2 (HE.out.trans HF.out) hsz.out, rfl⟩
    · have hi : ¬ (0 : Int) < (D.size : Int) := by omega
      have HF : Hid (stripZ D.data.toList = D.data.toList) := by
        show stripZ _ = _
        rw [show D.data.toList = [] from List.length_eq_zero_iff.1 (by rw [Array.length_toList]; show D.size = 0; omega)]; rfl
      have hsz : ¬ D.size = m.size := by omega
      have e1 : ((D.size : Int) != (m.size : Int)) = true := by simp; omega
      replace hsz := hide hsz
      go_wp2
      go_ret
      exact ⟨above_ret2 (HE.out.trans HF.out) hsz.out, rfl⟩

end Go.Proofs.YtmdhjggijlhhgaaGreatDoor

namespace Go.Proofs.YtmdhjggijlhhgaaGreatDoor
set_option linter.unusedSimpArgs false
set_option linter.unusedVariables false
open Go.RowKit

def numS (a : Nat) (c : UInt8) : Nat := a * 10 + (c.toNat - 48)
def numA (acc : Nat) (l : List UInt8) : Nat := l.foldl numS acc
theorem numA_n (acc : Nat) : numA acc [] = acc := rfl
theorem numA_c (acc : Nat) (c : UInt8) (r : List UInt8) : numA acc (c :: r) = numA (acc * 10 + (c.toNat - 48)) r := by
  unfold numA; rw [List.foldl_cons, numS]

def AllD (l : List UInt8) : Prop := ∀ c ∈ l, 48 ≤ c.toNat ∧ c.toNat ≤ 57

theorem AllD.tail {c : UInt8} {r : List UInt8} (h : AllD (c :: r)) : AllD r := fun x hx => h x (List.mem_cons_of_mem _ hx)
theorem AllD.head {c : UInt8} {r : List UInt8} (h : AllD (c :: r)) : 48 ≤ c.toNat ∧ c.toNat ≤ 57 := h c List.mem_cons_self

theorem numA_split : ∀ (l : List UInt8) (acc : Nat), numA acc l = acc * 10 ^ l.length + numA 0 l
  | [], acc => by rw [numA_n, numA_n]; simp
  | c :: r, acc => by
    rw [numA_c, numA_c, numA_split r (acc * 10 + _), numA_split r (0 * 10 + _), List.length_cons, Nat.pow_succ, Nat.zero_mul, Nat.zero_add, Nat.add_mul, Nat.add_assoc, Nat.mul_assoc, Nat.mul_comm 10]

theorem numA_cons (c : UInt8) (r : List UInt8) : numA 0 (c :: r) = (c.toNat - 48) * 10 ^ r.length + numA 0 r := by
  rw [numA_c, numA_split, Nat.zero_mul, Nat.zero_add]

theorem numA_lt : ∀ (l : List UInt8), AllD l → numA 0 l < 10 ^ l.length
  | [], _ => by rw [numA_n]; simp
  | c :: r, h => by
    have h1 := numA_lt r h.tail
    have h2 := h.head
    rw [numA_cons, List.length_cons, Nat.pow_succ]
    have h3 : (c.toNat - 48) * 10 ^ r.length ≤ 9 * 10 ^ r.length := Nat.mul_le_mul_right _ (by omega)
    omega

theorem numA_low (c : UInt8) (r : List UInt8) (h : 49 ≤ c.toNat) : 10 ^ r.length ≤ numA 0 (c :: r) := by
  rw [numA_cons]
  have h3 : 1 * 10 ^ r.length ≤ (c.toNat - 48) * 10 ^ r.length := Nat.mul_le_mul_right _ (by omega)
  omega

theorem numA_strip : ∀ (l : List UInt8), AllD l → numA 0 (stripZ l) = numA 0 l ∧ AllD (stripZ l) ∧ (stripZ l = [] ∨ ∃ c r, stripZ l = c :: r ∧ 49 ≤ c.toNat)
  | [], h => ⟨rfl, h, .inl rfl⟩
  | c :: r, h => by
    unfold stripZ
    split
    · next h48 =>
      obtain ⟨h1, h2, h3⟩ := numA_strip r h.tail
      refine ⟨?_, h2, h3⟩
      rw [h1, numA_cons, h48]; simp
    · next h48 => exact ⟨rfl, h, .inr ⟨c, r, rfl, by have := h.head; omega⟩⟩

theorem less_num : ∀ (a b : List UInt8), AllD a → AllD b → a.length = b.length → (Op.bytesLess a b = true ↔ numA 0 a < numA 0 b) ∧ (a = b ↔ numA 0 a = numA 0 b)
  | [], [], _, _, _ => by simp [Op.bytesLess, numA_n]
  | [], _ :: _, _, _, h => by simp at h
  | _ :: _, [], _, _, h => by simp at h
  | x :: a, y :: b, ha, hb, h => by
    have hl : a.length = b.length := by simpa using h
    obtain ⟨i1, i2⟩ := less_num a b ha.tail hb.tail hl
    have la := numA_lt a ha.tail
    have lb := numA_lt b hb.tail
    have hx := ha.head
    have hy := hb.head
    rw [numA_cons, numA_cons, hl]
    rw [hl] at la
    have lt : (Op.bytesLess (x :: a) (y :: b) = true) ↔ (x.toNat < y.toNat ∨ (x.toNat = y.toNat ∧ Op.bytesLess a b = true)) := by
      rw [Op.bytesLess]
      simp only [Bool.or_eq_true, decide_eq_true_eq, Bool.and_eq_true, beq_iff_eq, UInt8.lt_iff_toNat_lt, UInt8.toNat_inj]
    have eq : (x :: a = y :: b) ↔ (x.toNat = y.toNat ∧ a = b) := by
      rw [List.cons.injEq, UInt8.toNat_inj]
    rw [lt, eq, i1, i2]
    generalize 10 ^ b.length = p at *
    generalize numA 0 a = A at *
    generalize numA 0 b = B at *
    rcases Nat.lt_trichotomy x.toNat y.toNat with hlt | heq | hgt
    · have h3 : (x.toNat - 48 + 1) * p ≤ (y.toNat - 48) * p := Nat.mul_le_mul_right _ (by omega)
      rw [Nat.add_mul] at h3
      constructor <;> constructor <;> intro _ <;> omega
    · rw [heq]
      constructor <;> constructor <;> intro _ <;> omega
    · have h3 : (y.toNat - 48 + 1) * p ≤ (x.toNat - 48) * p := Nat.mul_le_mul_right _ (by omega)
      rw [Nat.add_mul] at h3
      constructor <;> constructor <;> intro _ <;> omega

theorem above_num (l m : List UInt8) (hl : AllD l) (hm : AllD m) (c : UInt8) (r : List UInt8) (hc : m = c :: r) (h49 : 49 ≤ c.toNat) : aboveB l m = decide (numA 0 m < numA 0 l) := by
  obtain ⟨h1, h2, h3⟩ := numA_strip l hl
  unfold aboveB
  rw [← h1]
  have lm := numA_lt m hm
  have lw : 10 ^ r.length ≤ numA 0 m := by rw [hc]; exact numA_low c r h49
  split
  · next he =>
    obtain ⟨i1, i2⟩ := less_num _ m h2 hm he
    cases hb : Op.bytesLess (stripZ l) m with
    | true => have := i1.1 hb; simp; omega
    | false =>
      have hn : ¬ numA 0 (stripZ l) < numA 0 m := fun h => by rw [i1.2 h] at hb; cases hb
      by_cases e : stripZ l = m
      · have := i2.1 e; simp [e]
      · have : ¬ numA 0 (stripZ l) = numA 0 m := fun h => e (i2.2 h)
        rw [show (stripZ l == m) = false from by simpa using e]
        simp only [Bool.or_self, Bool.not_false]
        exact (decide_eq_true (by omega)).symm
  · next hne =>
    rcases Nat.lt_or_ge m.length (stripZ l).length with hlt | hge
    · rcases h3 with h0 | ⟨d, t, hd, h49'⟩
      · rw [h0] at hlt; simp at hlt
      · have hw := numA_low d t h49'
        rw [← hd] at hw
        have : 10 ^ m.length ≤ 10 ^ t.length := Nat.pow_le_pow_right (by decide) (by rw [hd] at hlt; simp at hlt; omega)
        simp only [decide_eq_decide]; omega
    · have hu := numA_lt _ h2
      have : 10 ^ (stripZ l).length ≤ 10 ^ r.length := Nat.pow_le_pow_right (by decide) (by rw [hc] at hge hne; simp at hge hne; omega)
      simp only [decide_eq_decide]; omega

theorem numA_ge : ∀ (l : List UInt8) (acc : Nat), acc ≤ numA acc l
  | [], _ => Nat.le_refl _
  | c :: r, acc => by
    rw [numA_c]
    exact Nat.le_trans (by omega) (numA_ge r _)

theorem parse_digits : ∀ (l : List UInt8) (acc : Nat), AllD l → acc ≤ 18446744073709551615 → Lib.parseUintM 18446744073709551615 acc l = if numA acc l ≤ 18446744073709551615 then .ok (numA acc l) else .range
  | [], acc, _, h => by rw [Lib.parseUintM, numA_n, if_pos h]
  | c :: r, acc, hd, h => by
    rw [Lib.parseUintM, numA_c, if_pos hd.head]
    have hge := numA_ge r (acc * 10 + (c.toNat - 48))
    split
    · rw [if_neg (by omega)]
    · split
      · rw [if_neg (by omega)]
      · exact parse_digits r _ hd.tail (by omega)

theorem parse_other : ∀ (l : List UInt8) (acc : Nat), ¬ AllD l → ∀ u, Lib.parseUintM 18446744073709551615 acc l ≠ .ok u
  | [], _, h, _ => absurd (fun c hc => by cases hc) h
  | c :: r, acc, h, u => by
    rw [Lib.parseUintM]
    split
    · next hc =>
      have hr : ¬ AllD r := fun hr => h (fun x hx => by
        rcases List.mem_cons.1 hx with rfl | hx
        · exact hc
        · exact hr x hx)
      split
      · intro he; cases he
      · split
        · intro he; cases he
        · exact parse_other r _ hr u
    · intro he; cases he

theorem int_pos (l : List UInt8) (c : UInt8) (r : List UInt8) (hl : l = c :: r) (hc : 48 ≤ c.toNat ∧ c.toNat ≤ 57) :
    (AllD l → numA 0 l ≤ 9223372036854775807 → Lib.parseIntB 64 l = .ok (numA 0 l : Int)) ∧ (¬ (AllD l ∧ numA 0 l ≤ 9223372036854775807) → ∀ v, Lib.parseIntB 64 l ≠ .ok v) := by
  have e : Lib.parseIntB 64 l = match Lib.parseUintM 18446744073709551615 0 l with
    | .syntax => .syntax
    | .range => .range
    | .ok u => if 9223372036854775808 ≤ u then .range else .ok (u : Int) := by
    rw [hl]
    unfold Lib.parseIntB Lib.parseUintB
    have n1 : ¬ c.toNat = 43 := by omega
    have n2 : ¬ c.toNat = 45 := by omega
    simp only [n1, n2, or_self, if_false, List.cons_ne_nil, not_false_eq_true, true_and, false_and]
    rfl
  constructor
  · intro hd hn
    rw [e, parse_digits l 0 hd (by decide), if_pos (by omega)]
    exact if_neg (by omega)
  · intro h v
    rw [e]
    by_cases hd : AllD l
    · have hn : ¬ numA 0 l ≤ 9223372036854775807 := fun hn => h ⟨hd, hn⟩
      rw [parse_digits l 0 hd (by decide)]
      split
      · intro he; cases he
      · intro he; cases he
      · next u hu =>
        split at hu
        · injection hu with hu
          rw [if_pos (by omega)]; intro he; cases he
        · cases hu
    · have := parse_other l 0 hd
      split
      · intro he; cases he
      · intro he; cases he
      · next u hu => exact absurd hu (this u)

theorem int_neg (l : List UInt8) (c : UInt8) (r : List UInt8) (hl : l = c :: r) (hc : c.toNat = 45) (hr : r ≠ []) :
    (AllD r → numA 0 r ≤ 9223372036854775808 → Lib.parseIntB 64 l = .ok (-(numA 0 r : Int))) ∧ (¬ (AllD r ∧ numA 0 r ≤ 9223372036854775808) → ∀ v, Lib.parseIntB 64 l ≠ .ok v) := by
  have e : Lib.parseIntB 64 l = match Lib.parseUintM 18446744073709551615 0 r with
    | .syntax => .syntax
    | .range => .range
    | .ok u => if 9223372036854775808 < u then .range else .ok (-(u : Int)) := by
    rw [hl]
    unfold Lib.parseIntB Lib.parseUintB
    simp only [hc, or_true, if_true, hr, if_false, not_true_eq_false, true_and, false_and]
    rfl
  constructor
  · intro hd hn
    rw [e, parse_digits r 0 hd (by decide), if_pos (by omega)]
    exact if_neg (by omega)
  · intro h v
    rw [e]
    by_cases hd : AllD r
    · have hn : ¬ numA 0 r ≤ 9223372036854775808 := fun hn => h ⟨hd, hn⟩
      rw [parse_digits r 0 hd (by decide)]
      split
      · intro he; cases he
      · intro he; cases he
      · next u hu =>
        split at hu
        · injection hu with hu
          rw [if_pos (by omega)]; intro he; cases he
        · cases hu
    · have := parse_other r 0 hd
      split
      · intro he; cases he
      · intro he; cases he
      · next u hu => exact absurd hu (this u)

theorem numA_app (acc : Nat) (a b : List UInt8) : numA acc (a ++ b) = numA (numA acc a) b := List.foldl_append

theorem numA_snoc (l : List UInt8) (acc : Nat) (c : UInt8) : numA acc (l ++ [c]) = numA acc l * 10 + (c.toNat - 48) := by
  rw [numA_app, numA_c, numA_n]

theorem numA_take (l : List UInt8) (k : Nat) : numA 0 (l.take k) ≤ numA 0 l := by
  have := numA_app 0 (l.take k) (l.drop k)
  rw [List.take_append_drop] at this
  rw [this]
  exact numA_ge _ _

end Go.Proofs.YtmdhjggijlhhgaaGreatDoor

namespace Go.Proofs.YtmdhjggijlhhgaaGreatDoor
set_option linter.unusedSimpArgs false
set_option linter.unusedVariables false
open Go.RowKit
attribute [local go_sem] over_cellAt over_frozenAt over_setAt

theorem below3_over (w x : World) (o p q : Obj) : Below w.heap.size w (over (((w.alloc o).alloc p).alloc q) x) := ((below2 w o p).alloc (by simp; omega) q).trans ((over_below _ x).mono (by simp; omega))
theorem below3r (w : World) (o p q : Obj) : Below w.heap.size w (((w.alloc o).alloc p).alloc q) := (below2 w o p).alloc (by simp; omega) q

theorem extract_zero (s : ByteArray) (o q : Nat) (ho : o < s.size) (h : o < q) (hq : q ≤ s.size) : (s.extract o q).data[0]! = s[o]'ho := by
  have hz : 0 < (s.extract o q).size := by rw [ByteArray.size_extract]; omega
  have e : (s.extract o q).data.toList = (rest s o).take (q - o) := by
    rw [ByteArray.data_extract, Array.toList_extract, List.extract_eq_take_drop]; rfl
  have h1 : (s.extract o q).data[0]! = (s.extract o q).data[0]'hz := getElem!_pos _ _ _
  have h2 : (s.extract o q).data.toList[0]? = some ((s.extract o q).data[0]'hz) := by
    rw [Array.getElem?_toList]
    exact Array.getElem?_eq_getElem hz
  rw [e, List.getElem?_take_of_lt (by omega), rest_cons s o (by omega)] at h2
  rw [h1]
  exact (Option.some.inj h2).symm

set_option maxHeartbeats 2000000 in
set_option maxRecDepth 100000 in
theorem rword_any (s : ByteArray) (o : Nat) (w : World) (hs : s.size ≤ 140737488351232) (ho : o < s.size) (hw : bWord (s[o].toNat : Int) = true) :
    Calls Tryz.prog 74 #[.string s, .int .i64 o] w fun e w' => e = .returned (wordX s o).val ∧ Below w.heap.size w w' := by
  have hm1 : 1 ≤ runC (rest s o) := by rw [rest_cons s o ho]; unfold runC; rw [if_pos hw]; omega
  have hm2 := runC_le (rest s o)
  rw [rest_len] at hm2
  have HR := hide (fun W => rrun_any s o W hs (by omega))
  have HX : Hid (wordX s o = if 64 < runC (rest s o) then .bad 14 o
    else if (s.extract o (o + runC (rest s o))).toList == [110, 111, 116] then .tok ⟨10, ⟨#[]⟩, 0, 0, o, o + runC (rest s o)⟩
    else if bLow ((s.extract o (o + runC (rest s o))).data[0]!).toNat then .tok ⟨1, s.extract o (o + runC (rest s o)), 0, 0, o, o + runC (rest s o)⟩
    else .tok ⟨2, s.extract o (o + runC (rest s o)), 0, 0, o, o + runC (rest s o)⟩) := rfl
  generalize runC (rest s o) = m at *
  rw [HX.out]
  clear HX
  obtain ⟨q, hq⟩ : ∃ q : Nat, q = o + m := ⟨_, rfl⟩
  have hq1 : (o : Int) < (q : Int) := by omega
  have hq2 : (q : Int) ≤ (s.size : Int) := by omega
  have hq3 : (o : Int) ≤ (q : Int) := by omega
  have ho' : (o : Int) < (s.size : Int) := by omega
  rw [← hq] at HR ⊢
  rw [extract_zero s o q ho (by omega) (by omega)]
  have hbb : (0 : Int) ≤ (s[o].toNat : Int) ∧ (s[o].toNat : Int) ≤ 255 := by have := s[o].toNat_lt; omega
  have HL := hide (fun W => rlow_any (s[o].toNat : Int) W hbb)
  by_cases h64 : 64 < m
  · rw [if_pos h64]
    have g1 : (64 : Int) < (q : Int) - (o : Int) := by omega
    replace hq := hide hq
    clear hbb HL hm1 hm2 h64 hw
    go_enter Tryz.func74, Tryz.ntmps74
    go_wp2_with (first
      | (go_at_call 91; refine (HR.out _).mono ?_; rintro e w' ⟨rfl, hw'⟩; have hw' := hw'.symm; subst hw')
      | (go_at_call 58; refine (rfault_any _ _ _).mono ?_; rintro e w' ⟨rfl, hb⟩; obtain ⟨x, rfl⟩ := over_of hb; clear hb))
    exact bodyPost_ret (v := (Nx.bad 14 o).val) (by simp [results, Tryz.results74, go_sem, Nx.val, tokZero, faultVal]) rfl ⟨rfl, below3_over _ _ _ _ _⟩
  rw [if_neg h64]
  have g1 : ¬ (64 : Int) < (q : Int) - (o : Int) := by omega
  cases hn : (s.extract o q).toList == [110, 111, 116] with
  | true =>
    rw [if_pos rfl]
    have hlow : bLow (s[o].toNat : Int) = true := by
      have h1 : (s.extract o q).toList = [110, 111, 116] := by simpa using hn
      have h2 := extract_zero s o q ho (by omega) (by omega)
      have h3 : (s.extract o q).data[0]! = 110 := by
        rw [ByteArray.toList_eq] at h1
        have : (s.extract o q).data = #[110, 111, 116] := by rw [← Array.toList_inj]; exact h1
        rw [this]; rfl
      rw [h3] at h2
      rw [← h2]; rfl
    rw [hlow] at HL
    replace hq := hide hq
    clear hbb hm1 hm2 h64 hw hlow
    go_enter Tryz.func74, Tryz.ntmps74
    go_wp2_with (first
      | (go_at_call 91; refine (HR.out _).mono ?_; rintro e w' ⟨rfl, hw'⟩; have hw' := hw'.symm; subst hw')
      | (go_at_call 72; refine (HL.out _).mono ?_; rintro e w' ⟨rfl, hw'⟩; have hw' := hw'.symm; subst hw'))
    exact bodyPost_ret (v := (Nx.tok ⟨10, ⟨#[]⟩, 0, 0, o, q⟩).val) (by simp [results, Tryz.results74, go_sem, Nx.val, Tok.val, faultVal]) rfl ⟨rfl, below3r _ _ _ _⟩
  | false =>
    rw [if_neg (by simp)]
    replace hq := hide hq
    clear hm1 hm2 h64 hw hbb
    cases hlow : bLow (s[o].toNat : Int) with
    | true =>
      rw [if_pos rfl]
      rw [hlow] at HL
      clear hlow
      go_enter Tryz.func74, Tryz.ntmps74
      go_wp2_with (first
        | (go_at_call 91; refine (HR.out _).mono ?_; rintro e w' ⟨rfl, hw'⟩; have hw' := hw'.symm; subst hw')
        | (go_at_call 72; refine (HL.out _).mono ?_; rintro e w' ⟨rfl, hw'⟩; have hw' := hw'.symm; subst hw'))
      exact bodyPost_ret (v := (Nx.tok ⟨1, s.extract o q, 0, 0, o, q⟩).val) (by simp [results, Tryz.results74, go_sem, Nx.val, Tok.val, faultVal]) rfl ⟨rfl, below3r _ _ _ _⟩
    | false =>
      rw [if_neg (by simp)]
      rw [hlow] at HL
      clear hlow
      go_enter Tryz.func74, Tryz.ntmps74
      go_wp2_with (first
        | (go_at_call 91; refine (HR.out _).mono ?_; rintro e w' ⟨rfl, hw'⟩; have hw' := hw'.symm; subst hw')
        | (go_at_call 72; refine (HL.out _).mono ?_; rintro e w' ⟨rfl, hw'⟩; have hw' := hw'.symm; subst hw'))
      exact bodyPost_ret (v := (Nx.tok ⟨2, s.extract o q, 0, 0, o, q⟩).val) (by simp [results, Tryz.results74, go_sem, Nx.val, Tok.val, faultVal]) rfl ⟨rfl, below3r _ _ _ _⟩

end Go.Proofs.YtmdhjggijlhhgaaGreatDoor

namespace Go.Proofs.YtmdhjggijlhhgaaGreatDoor
set_option linter.unusedSimpArgs false
set_option linter.unusedVariables false
open Go.RowKit
attribute [local go_sem] over_cellAt over_frozenAt over_setAt

theorem ext_at (s : ByteArray) (f q i : Nat) (h : f + i < q) (hq : q ≤ s.size) : (s.extract f q).data.toList[i]? = some (s[f + i]'(by omega)) := by
  rw [ByteArray.data_extract, Array.toList_extract, List.extract_eq_take_drop, List.getElem?_take_of_lt (by omega), List.getElem?_drop, Array.getElem?_toList]
  exact Array.getElem?_eq_getElem (by show f + i < s.size; omega)

theorem ext_len (s : ByteArray) (f q : Nat) (hq : q ≤ s.size) : (s.extract f q).data.toList.length = q - f := by
  rw [Array.length_toList]; show (s.extract f q).size = _; rw [ByteArray.size_extract]; omega

theorem bDig_iff (b : UInt8) : bDig (b.toNat : Int) = true ↔ 48 ≤ b.toNat ∧ b.toNat ≤ 57 := by
  unfold bDig
  simp only [Bool.and_eq_true, decide_eq_true_eq]
  omega

theorem all_bytes (s : ByteArray) (f q : Nat) (hq : q ≤ s.size) (h : ∀ j (hj : j < s.size), f ≤ j → j < q → bDig ((s[j]'hj).toNat : Int) = true) : AllD (s.extract f q).data.toList := by
  intro c hc
  obtain ⟨i, hi⟩ := List.mem_iff_getElem?.1 hc
  have hlt : i < q - f := by rw [← ext_len s f q hq]; exact (List.getElem?_eq_some_iff.1 hi).1
  rw [ext_at s f q i (by omega) hq] at hi
  have := Option.some.inj hi
  rw [← this]
  exact (bDig_iff _).1 (h (f + i) (by omega) (by omega) (by omega))

theorem not_all (s : ByteArray) (f q j : Nat) (hq : q ≤ s.size) (h1 : f ≤ j) (h2 : j < q) (h : bDig ((s[j]'(by omega)).toNat : Int) = false) : ¬ AllD (s.extract f q).data.toList := by
  intro ha
  have e := ext_at s f q (j - f) (by omega) hq
  have hm : s[f + (j - f)]'(by omega) ∈ (s.extract f q).data.toList := List.mem_iff_getElem?.2 ⟨_, e⟩
  have := (bDig_iff _).2 (ha _ hm)
  have e2 : s[f + (j - f)]'(by omega) = s[j]'(by omega) := by congr 1; omega
  rw [e2, h] at this
  cases this

theorem take_snoc8 (l : List UInt8) (k : Nat) (c : UInt8) (h : l[k]? = some c) : l.take (k + 1) = l.take k ++ [c] := by
  rw [List.take_add_one, h]; rfl


def bound_p : ByteArray := ⟨#[57, 50, 50, 51, 51, 55, 50, 48, 51, 54, 56, 53, 52, 55, 55, 53, 56, 48, 55]⟩
theorem bound_p_num : AllD bound_p.data.toList ∧ numA 0 bound_p.data.toList = 9223372036854775807 := by
  constructor
  · unfold AllD bound_p; decide
  · decide +kernel

set_option maxHeartbeats 2000000 in
set_option maxRecDepth 100000 in
theorem rint_pos (s : ByteArray) (o f q : Nat) (w : World) (X : Nx) (hs : s.size ≤ 140737488351232) (hno : ¬ (o : Int) < (f : Int)) (ho : o ≤ s.size) (hq : q = f + runC (rest s f)) (hfq : f < q) (hqs : q ≤ s.size)
    (h1 : ¬ AllD (s.extract f q).data.toList → X = .bad 13 o) (h2 : AllD (s.extract f q).data.toList → ¬ numA 0 (s.extract f q).data.toList ≤ 9223372036854775807 → X = .bad 13 o)
    (h3 : AllD (s.extract f q).data.toList → numA 0 (s.extract f q).data.toList ≤ 9223372036854775807 → X = .tok ⟨3, ⟨#[]⟩, (numA 0 (s.extract f q).data.toList : Int), 0, o, q⟩) :
    Calls Tryz.prog 76 #[.string s, .int .i64 o, .int .i64 f] w fun e w' => e = .returned X.val ∧ Below w.heap.size w w' := by
  have HR := hide (fun W => rrun_any s f W hs (by omega))
  rw [← hq] at HR
  replace hq := hide hq
  replace h1 := hide h1
  replace h2 := hide h2
  replace h3 := hide h3
  have hf1 : (f : Int) < (s.size : Int) := by omega
  have hq1 : (f : Int) ≤ (q : Int) := by omega
  have hq2 : (q : Int) ≤ (s.size : Int) := by omega
  go_enter Tryz.func76, Tryz.ntmps76
  go_wp2_with (first | (go_at_call 91; refine (HR.out _).mono ?_; rintro e w' ⟨rfl, hw'⟩; have hw' := hw'.symm; subst hw'))
  go_loop [9] (fun i => ∃ k : Nat, f ≤ k ∧ k ≤ q ∧ i = .int .i64 k ∧ Hid (∀ j (hj : j < s.size), f ≤ j → j < k → bDig ((s[j]'hj).toNat : Int) = true)) (fun i => q - (intOf i).toNat)
  case atStart => exact ⟨f, by omega, by omega, rfl, fun j hj ha hb => absurd hb (by omega)⟩
  case round =>
    obtain ⟨k, hk1, hk2, rfl, HK⟩ := hrel
    by_cases hlt : k < q
    · have hi : (k : Int) < (q : Int) := by omega
      have hi2 : (k : Int) < (s.size : Int) := by omega
      have hks : k < s.size := by omega
      have hbb : (0 : Int) ≤ (s[k].toNat : Int) ∧ (s[k].toNat : Int) ≤ 255 := by have := s[k].toNat_lt; omega
      have HD := hide (fun W => rdig_any (s[k].toNat : Int) W hbb)
      cases hd : bDig (s[k].toNat : Int) with
      | true =>
        rw [hd] at HD
        have HN : Hid (∀ j (hj : j < s.size), f ≤ j → j < k + 1 → bDig ((s[j]'hj).toNat : Int) = true) := fun j hj ha hb => by
          by_cases hjk : j = k
          · subst hjk; exact hd
          · exact HK.out j hj ha (by omega)
        clear HK hd
        go_wp2_with (first | (go_at_call 75; refine (HD.out _).mono ?_; rintro e w' ⟨rfl, hw'⟩; have hw' := hw'.symm; subst hw'))
        go_round
        case rel => exact ⟨k + 1, by omega, by omega, by go_num, HN⟩
        case measure => simp [intOf]; omega
      | false =>
        rw [hd] at HD
        have HX : Hid (X = .bad 13 o) := h1.out (not_all s f q k hqs hk1 hlt hd)
        clear HK hd
        go_wp2_with (first | (go_at_call 75; refine (HD.out _).mono ?_; rintro e w' ⟨rfl, hw'⟩; have hw' := hw'.symm; subst hw') | (go_at_call 58; refine (rfault_any _ _ _).mono ?_; rintro e w' ⟨rfl, hb'⟩; obtain ⟨x, rfl⟩ := over_of hb'; clear hb'))
        exact bodyPost_ret (v := (Nx.bad 13 o).val) (by simp [results, Tryz.results76, go_sem, Nx.val, tokZero, faultVal]) rfl ⟨by rw [HX.out], below2_over _ _ _ _⟩
    · obtain rfl : k = q := by omega
      have hall := all_bytes s f k hqs (fun j hj ha hb => HK.out j hj ha hb)
      have HA := hide (fun W => above_any (s.extract f k) bound_p W (by rw [ByteArray.size_extract]; omega) (by decide) (by decide))
      rw [above_num _ _ hall bound_p_num.1 57 _ rfl (by decide), bound_p_num.2] at HA
      clear HK
      by_cases hab : numA 0 (s.extract f k).data.toList ≤ 9223372036854775807
      · have HX : Hid (X = _) := h3.out hall hab
        rw [show decide (9223372036854775807 < numA 0 (s.extract f k).data.toList) = false from decide_eq_false (by omega)] at HA
        replace hab := hide hab
        replace hall := hide hall
        have hz : (s.extract f k).data.toList.length = k - f := ext_len s f k hqs
        have hz2 : (s.extract f k).size = k - f := by rw [ByteArray.size_extract]; omega
        replace hz := hide hz
        go_wp2_with (first | (go_at_call 92; refine (HA.out _).mono ?_; rintro e w' ⟨rfl, hw'⟩; have hw' := hw'.symm; subst hw'))
        clear HA HR h1 h2 h3
        generalize s.extract f k = D at HX hab hall hz hz2 ⊢
        go_loop [12, 13] (fun v i => ∃ m : Nat, m ≤ k - f ∧ i = .int .i64 m ∧ ∃ V : Int, v = .int .i64 V ∧ Hid (V = (numA 0 (D.data.toList.take m) : Int))) (fun _ i => (k - f) - (intOf i).toNat)
        case atStart => exact ⟨0, by omega, rfl, 0, rfl, by show _ = _; simp [numA_n]⟩
        case round =>
          obtain ⟨m, hm, rfl, V, rfl, HV⟩ := hrel
          by_cases hml : m < k - f
          · have hm1 : (m : Int) < (D.size : Int) := by omega
            have hmD : m < D.size := by omega
            have hd := hall.out (D[m]'hmD) (by rw [List.mem_iff_getElem?]; exact ⟨m, by rw [Array.getElem?_toList]; exact Array.getElem?_eq_getElem hmD⟩)
            have hsn := take_snoc8 D.data.toList m (D[m]'hmD) (by rw [Array.getElem?_toList]; exact Array.getElem?_eq_getElem hmD)
            have hn := numA_snoc (D.data.toList.take m) 0 (D[m]'hmD)
            rw [← hsn] at hn
            have hle := numA_take D.data.toList (m + 1)
            have hab' := hab.out
            have hV := HV.out
            obtain ⟨d, hdd⟩ : ∃ d : Int, d = ((D[m]'hmD).toNat : Int) := ⟨_, rfl⟩
            have d1 : 48 ≤ d := by omega
            have d2 : d ≤ 57 := by omega
            have r1 : -9223372036854775808 ≤ V * 10 := by omega
            have r2 : V * 10 ≤ 9223372036854775807 := by omega
            have r3 : -9223372036854775808 ≤ V * 10 + (d - 48) := by omega
            have r4 : V * 10 + (d - 48) ≤ 9223372036854775807 := by omega
            have HN : Hid (V * 10 + (d - 48) = (numA 0 (D.data.toList.take (m + 1)) : Int)) := by show _ = _; omega
            replace hdd := hdd.symm
            clear hd hsn hn hle hab' hV
            go_wp2
            go_round
            case rel => exact ⟨m + 1, by omega, by go_num, _, by first | rfl | go_num, HN⟩
            case measure => simp [intOf]; omega
          · obtain rfl : m = k - f := by omega
            have hm1 : ¬ ((k - f : Nat) : Int) < (D.size : Int) := by omega
            have HY : Hid (X = .tok ⟨3, ⟨#[]⟩, V, 0, o, k⟩) := by
              show X = _
              rw [HX.out, HV.out, ← hz.out, List.take_length]
            clear HX HV
            go_wp2
            exact bodyPost_ret (v := (Nx.tok ⟨3, ⟨#[]⟩, V, 0, o, k⟩).val) (by simp [results, Tryz.results76, go_sem, Nx.val, Tok.val, faultVal]) rfl ⟨by rw [HY.out], below2 _ _ _⟩
      · have HX : Hid (X = .bad 13 o) := h2.out hall hab
        rw [show decide (9223372036854775807 < numA 0 (s.extract f k).data.toList) = true from decide_eq_true (by omega)] at HA
        clear hab
        replace hall := hide hall
        go_wp2_with (first | (go_at_call 92; refine (HA.out _).mono ?_; rintro e w' ⟨rfl, hw'⟩; have hw' := hw'.symm; subst hw') | (go_at_call 58; refine (rfault_any _ _ _).mono ?_; rintro e w' ⟨rfl, hb'⟩; obtain ⟨x, rfl⟩ := over_of hb'; clear hb'))
        exact bodyPost_ret (v := (Nx.bad 13 o).val) (by simp [results, Tryz.results76, go_sem, Nx.val, tokZero, faultVal]) rfl ⟨by rw [HX.out], below2_over _ _ _ _⟩

def bound_n : ByteArray := ⟨#[57, 50, 50, 51, 51, 55, 50, 48, 51, 54, 56, 53, 52, 55, 55, 53, 56, 48, 56]⟩
theorem bound_n_num : AllD bound_n.data.toList ∧ numA 0 bound_n.data.toList = 9223372036854775808 := by
  constructor
  · unfold AllD bound_n; decide
  · decide +kernel

set_option maxHeartbeats 2000000 in
set_option maxRecDepth 100000 in
theorem rint_neg (s : ByteArray) (o f q : Nat) (w : World) (X : Nx) (hs : s.size ≤ 140737488351232) (hno : (o : Int) < (f : Int)) (ho : o ≤ s.size) (hq : q = f + runC (rest s f)) (hfq : f < q) (hqs : q ≤ s.size)
    (h1 : ¬ AllD (s.extract f q).data.toList → X = .bad 13 o) (h2 : AllD (s.extract f q).data.toList → ¬ numA 0 (s.extract f q).data.toList ≤ 9223372036854775808 → X = .bad 13 o)
    (h3 : AllD (s.extract f q).data.toList → numA 0 (s.extract f q).data.toList ≤ 9223372036854775808 → X = .tok ⟨3, ⟨#[]⟩, (-(numA 0 (s.extract f q).data.toList : Int)), 0, o, q⟩) :
    Calls Tryz.prog 76 #[.string s, .int .i64 o, .int .i64 f] w fun e w' => e = .returned X.val ∧ Below w.heap.size w w' := by
  have HR := hide (fun W => rrun_any s f W hs (by omega))
  rw [← hq] at HR
  replace hq := hide hq
  replace h1 := hide h1
  replace h2 := hide h2
  replace h3 := hide h3
  have hf1 : (f : Int) < (s.size : Int) := by omega
  have hq1 : (f : Int) ≤ (q : Int) := by omega
  have hq2 : (q : Int) ≤ (s.size : Int) := by omega
  go_enter Tryz.func76, Tryz.ntmps76
  go_wp2_with (first | (go_at_call 91; refine (HR.out _).mono ?_; rintro e w' ⟨rfl, hw'⟩; have hw' := hw'.symm; subst hw'))
  go_loop [9] (fun i => ∃ k : Nat, f ≤ k ∧ k ≤ q ∧ i = .int .i64 k ∧ Hid (∀ j (hj : j < s.size), f ≤ j → j < k → bDig ((s[j]'hj).toNat : Int) = true)) (fun i => q - (intOf i).toNat)
  case atStart => exact ⟨f, by omega, by omega, rfl, fun j hj ha hb => absurd hb (by omega)⟩
  case round =>
    obtain ⟨k, hk1, hk2, rfl, HK⟩ := hrel
    by_cases hlt : k < q
    · have hi : (k : Int) < (q : Int) := by omega
      have hi2 : (k : Int) < (s.size : Int) := by omega
      have hks : k < s.size := by omega
      have hbb : (0 : Int) ≤ (s[k].toNat : Int) ∧ (s[k].toNat : Int) ≤ 255 := by have := s[k].toNat_lt; omega
      have HD := hide (fun W => rdig_any (s[k].toNat : Int) W hbb)
      cases hd : bDig (s[k].toNat : Int) with
      | true =>
        rw [hd] at HD
        have HN : Hid (∀ j (hj : j < s.size), f ≤ j → j < k + 1 → bDig ((s[j]'hj).toNat : Int) = true) := fun j hj ha hb => by
          by_cases hjk : j = k
          · subst hjk; exact hd
          · exact HK.out j hj ha (by omega)
        clear HK hd
        go_wp2_with (first | (go_at_call 75; refine (HD.out _).mono ?_; rintro e w' ⟨rfl, hw'⟩; have hw' := hw'.symm; subst hw'))
        go_round
        case rel => exact ⟨k + 1, by omega, by omega, by go_num, HN⟩
        case measure => simp [intOf]; omega
      | false =>
        rw [hd] at HD
        have HX : Hid (X = .bad 13 o) := h1.out (not_all s f q k hqs hk1 hlt hd)
        clear HK hd
        go_wp2_with (first | (go_at_call 75; refine (HD.out _).mono ?_; rintro e w' ⟨rfl, hw'⟩; have hw' := hw'.symm; subst hw') | (go_at_call 58; refine (rfault_any _ _ _).mono ?_; rintro e w' ⟨rfl, hb'⟩; obtain ⟨x, rfl⟩ := over_of hb'; clear hb'))
        exact bodyPost_ret (v := (Nx.bad 13 o).val) (by simp [results, Tryz.results76, go_sem, Nx.val, tokZero, faultVal]) rfl ⟨by rw [HX.out], below2_over _ _ _ _⟩
    · obtain rfl : k = q := by omega
      have hall := all_bytes s f k hqs (fun j hj ha hb => HK.out j hj ha hb)
      have HA := hide (fun W => above_any (s.extract f k) bound_n W (by rw [ByteArray.size_extract]; omega) (by decide) (by decide))
      rw [above_num _ _ hall bound_n_num.1 57 _ rfl (by decide), bound_n_num.2] at HA
      clear HK
      by_cases hab : numA 0 (s.extract f k).data.toList ≤ 9223372036854775808
      · have HX : Hid (X = _) := h3.out hall hab
        rw [show decide (9223372036854775808 < numA 0 (s.extract f k).data.toList) = false from decide_eq_false (by omega)] at HA
        replace hab := hide hab
        replace hall := hide hall
        have hz : (s.extract f k).data.toList.length = k - f := ext_len s f k hqs
        have hz2 : (s.extract f k).size = k - f := by rw [ByteArray.size_extract]; omega
        replace hz := hide hz
        go_wp2_with (first | (go_at_call 92; refine (HA.out _).mono ?_; rintro e w' ⟨rfl, hw'⟩; have hw' := hw'.symm; subst hw'))
        clear HA HR h1 h2 h3
        generalize s.extract f k = D at HX hab hall hz hz2 ⊢
        go_loop [12, 13] (fun v i => ∃ m : Nat, m ≤ k - f ∧ i = .int .i64 m ∧ ∃ V : Int, v = .int .i64 V ∧ Hid (V = -(numA 0 (D.data.toList.take m) : Int))) (fun _ i => (k - f) - (intOf i).toNat)
        case atStart => exact ⟨0, by omega, rfl, 0, rfl, by show _ = _; simp [numA_n]⟩
        case round =>
          obtain ⟨m, hm, rfl, V, rfl, HV⟩ := hrel
          by_cases hml : m < k - f
          · have hm1 : (m : Int) < (D.size : Int) := by omega
            have hmD : m < D.size := by omega
            have hd := hall.out (D[m]'hmD) (by rw [List.mem_iff_getElem?]; exact ⟨m, by rw [Array.getElem?_toList]; exact Array.getElem?_eq_getElem hmD⟩)
            have hsn := take_snoc8 D.data.toList m (D[m]'hmD) (by rw [Array.getElem?_toList]; exact Array.getElem?_eq_getElem hmD)
            have hn := numA_snoc (D.data.toList.take m) 0 (D[m]'hmD)
            rw [← hsn] at hn
            have hle := numA_take D.data.toList (m + 1)
            have hab' := hab.out
            have hV := HV.out
            obtain ⟨d, hdd⟩ : ∃ d : Int, d = ((D[m]'hmD).toNat : Int) := ⟨_, rfl⟩
            have d1 : 48 ≤ d := by omega
            have d2 : d ≤ 57 := by omega
            have r1 : -9223372036854775808 ≤ V * 10 := by omega
            have r2 : V * 10 ≤ 9223372036854775807 := by omega
            have r3 : -9223372036854775808 ≤ V * 10 - (d - 48) := by omega
            have r4 : V * 10 - (d - 48) ≤ 9223372036854775807 := by omega
            have HN : Hid (V * 10 - (d - 48) = -(numA 0 (D.data.toList.take (m + 1)) : Int)) := by show _ = _; omega
            replace hdd := hdd.symm
            clear hd hsn hn hle hab' hV
            go_wp2
            go_round
            case rel => exact ⟨m + 1, by omega, by go_num, _, by first | rfl | go_num, HN⟩
            case measure => simp [intOf]; omega
          · obtain rfl : m = k - f := by omega
            have hm1 : ¬ ((k - f : Nat) : Int) < (D.size : Int) := by omega
            have HY : Hid (X = .tok ⟨3, ⟨#[]⟩, V, 0, o, k⟩) := by
              show X = _
              rw [HX.out, HV.out, ← hz.out, List.take_length]
            clear HX HV
            go_wp2
            exact bodyPost_ret (v := (Nx.tok ⟨3, ⟨#[]⟩, V, 0, o, k⟩).val) (by simp [results, Tryz.results76, go_sem, Nx.val, Tok.val, faultVal]) rfl ⟨by rw [HY.out], below2 _ _ _⟩
      · have HX : Hid (X = .bad 13 o) := h2.out hall hab
        rw [show decide (9223372036854775808 < numA 0 (s.extract f k).data.toList) = true from decide_eq_true (by omega)] at HA
        clear hab
        replace hall := hide hall
        go_wp2_with (first | (go_at_call 92; refine (HA.out _).mono ?_; rintro e w' ⟨rfl, hw'⟩; have hw' := hw'.symm; subst hw') | (go_at_call 58; refine (rfault_any _ _ _).mono ?_; rintro e w' ⟨rfl, hb'⟩; obtain ⟨x, rfl⟩ := over_of hb'; clear hb'))
        exact bodyPost_ret (v := (Nx.bad 13 o).val) (by simp [results, Tryz.results76, go_sem, Nx.val, tokZero, faultVal]) rfl ⟨by rw [HX.out], below2_over _ _ _ _⟩

theorem ext_list (s : ByteArray) (o q : Nat) : (s.extract o q).data.toList = (rest s o).take (q - o) := by
  rw [ByteArray.data_extract, Array.toList_extract, List.extract_eq_take_drop]; rfl

theorem ext_cons (s : ByteArray) (o q : Nat) (h : o < q) (hq : q ≤ s.size) : (s.extract o q).data.toList = s[o]'(by omega) :: (s.extract (o + 1) q).data.toList := by
  rw [ext_list, ext_list, rest_cons s o (by omega), show q - o = (q - (o + 1)) + 1 from by omega, List.take_succ_cons]

theorem dig_word (n : Int) (h : bDig n = true) : bWord n = true := by
  unfold bWord; rw [h]; simp

theorem intX_ok {s : ByteArray} {o q : Nat} {v : Int} (hq : q = o + 1 + runC (rest s (o + 1))) (h : Lib.parseIntB 64 (s.extract o q).data.toList = .ok v) : intX s o = .tok ⟨3, ⟨#[]⟩, v, 0, o, q⟩ := by
  unfold intX
  rw [← hq, h]

theorem intX_bad {s : ByteArray} {o q : Nat} (hq : q = o + 1 + runC (rest s (o + 1))) (h : ∀ v, Lib.parseIntB 64 (s.extract o q).data.toList ≠ .ok v) : intX s o = .bad 13 o := by
  unfold intX
  rw [← hq]
  split
  · next v hv => exact absurd hv (h v)
  · rfl

theorem rinteger_pos (s : ByteArray) (o : Nat) (w : World) (hs : s.size ≤ 140737488351232) (ho : o < s.size) (hd : bDig (s[o].toNat : Int) = true) :
    Calls Tryz.prog 76 #[.string s, .int .i64 o, .int .i64 o] w fun e w' => e = .returned (intX s o).val ∧ Below w.heap.size w w' := by
  have hr : runC (rest s o) = runC (rest s (o + 1)) + 1 := by
    rw [rest_cons s o ho]; conv => lhs; unfold runC
    exact if_pos (dig_word _ hd)
  have hle := runC_le (rest s o)
  rw [rest_len] at hle
  obtain ⟨q, hq⟩ : ∃ q, q = o + runC (rest s o) := ⟨_, rfl⟩
  have hq' : q = o + 1 + runC (rest s (o + 1)) := by omega
  have hl := ext_cons s o q (by omega) (by omega)
  obtain ⟨i1, i2⟩ := int_pos _ _ _ hl ((bDig_iff _).1 hd)
  exact rint_pos s o o q w (intX s o) hs (by omega) (by omega) hq (by omega) (by omega)
    (fun h => intX_bad hq' (i2 (fun h' => h h'.1))) (fun _ h => intX_bad hq' (i2 (fun h' => h h'.2))) (fun h h' => intX_ok hq' (i1 h h'))

theorem rinteger_neg (s : ByteArray) (o : Nat) (w : World) (hs : s.size ≤ 140737488351232) (ho : o + 1 < s.size) (hm : (s[o].toNat : Int) = 45) (hd : bDig (s[o + 1].toNat : Int) = true) :
    Calls Tryz.prog 76 #[.string s, .int .i64 o, .int .i64 ((o : Int) + 1)] w fun e w' => e = .returned (intX s o).val ∧ Below w.heap.size w w' := by
  have hr : runC (rest s (o + 1)) = runC (rest s (o + 1 + 1)) + 1 := by
    rw [rest_cons s (o + 1) ho]; conv => lhs; unfold runC
    exact if_pos (dig_word _ hd)
  have hle := runC_le (rest s (o + 1))
  rw [rest_len] at hle
  obtain ⟨q, hq⟩ : ∃ q, q = o + 1 + runC (rest s (o + 1)) := ⟨_, rfl⟩
  have hl := ext_cons s o q (by omega) (by omega)
  have hl2 := ext_cons s (o + 1) q (by omega) (by omega)
  obtain ⟨i1, i2⟩ := int_neg _ _ _ hl (by omega) (by rw [hl2]; simp)
  have := rint_neg s o (o + 1) q w (intX s o) hs (by omega) (by omega) hq (by omega) (by omega)
    (fun h => intX_bad hq (i2 (fun h' => h h'.1))) (fun _ h => intX_bad hq (i2 (fun h' => h h'.2))) (fun h h' => intX_ok hq (i1 h h'))
  rw [show ((o + 1 : Nat) : Int) = (o : Int) + 1 from by omega] at this
  exact this

end Go.Proofs.YtmdhjggijlhhgaaGreatDoor

namespace Go.Proofs.YtmdhjggijlhhgaaGreatDoor
set_option linter.unusedSimpArgs false
set_option linter.unusedVariables false
open Go.RowKit
attribute [local go_sem] over_cellAt over_frozenAt over_setAt

set_option maxHeartbeats 4000000 in
set_option maxRecDepth 100000 in
theorem rquoted_any (s : ByteArray) (o : Nat) (w : World) (hs : s.size ≤ 140737488351232) (ho : o < s.size) :
    Calls Tryz.prog 77 #[.string s, .int .i64 o] w fun e w' => e = .returned (textX s o).val ∧ Below w.heap.size w w' := by
  obtain ⟨i0, hi0, hz0, hz1, hz2⟩ := info_parts Tryz.infoByte
  go_enter Tryz.func77, Tryz.ntmps77
  go_wp2
  go_loopw [6, 7, 8, 9] (fun v i _ _ wr => ∃ (I : Nat) (vs : List Int) (x : World), I ≤ s.size ∧ vs.length ≤ 255 ∧ i = .int .i64 I ∧ Hid (textX s o = textF s o I vs) ∧ wr = over ((w.alloc (.cells #[.int .i64 0, .string ⟨#[]⟩, .int .i64 0, .int .i64 0, .int .i64 0, .int .i64 0] 85)).alloc (.cells #[.int .i64 0, .int .i64 0, .int .i64 0] 27)) x ∧
    Hid (wr.ownsRow ((w.alloc (.cells #[.int .i64 0, .string ⟨#[]⟩, .int .i64 0, .int .i64 0, .int .i64 0, .int .i64 0] 85)).alloc (.cells #[.int .i64 0, .int .i64 0, .int .i64 0] 27)).heap.size 5 1 v vs.length (vs.map (Value.int .u8)))) (fun _ i _ _ _ => s.size - (intOf i).toNat)
  case atStart => exact ⟨o + 1, [], _, by omega, by simp, by go_num, rfl, over_eq (Below.refl _ _), World.ownsRow_nil _ _ _ _⟩
  case round =>
    obtain ⟨I, vs, x, hI, hvs, rfl, HE, rfl, HO⟩ := hrel
    by_cases hlt : I < s.size
    · have hi : (I : Int) < (s.size : Int) := by omega
      have hi' : ¬ (s.size : Int) ≤ (I : Int) := by omega
      obtain ⟨b, hb⟩ : ∃ b : Int, b = (s[I].toNat : Int) := ⟨_, rfl⟩
      have hb256 : 0 ≤ b ∧ b ≤ 255 := by have := s[I].toNat_lt; omega
      have HF : Hid (textF s o I vs = if b < 32 then .bad 11 o
          else if b = 34 then .tok ⟨4, strOf vs, 0, 0, o, I + 1⟩
          else if b = 92 then
            if (escX (s.extract I s.size)).2.toNat = 0 then .bad 12 I
            else if vs.length = 255 then .bad 15 o
            else textF s o (I + (escX (s.extract I s.size)).2.toNat) (vs ++ [(escX (s.extract I s.size)).1])
          else if vs.length = 255 then .bad 15 o
          else textF s o (I + 1) (vs ++ [b])) := by
        show textF s o I vs = _
        rw [textF, dif_pos hlt, hb]; rfl
      replace hb := hb.symm
      by_cases h32 : b < 32
      · have HX : Hid (textX s o = .bad 11 o) := HE.out.trans (HF.out.trans (if_pos h32))
        have h32' : ¬ (32 : Int) ≤ b := by omega
        clear HF HE
        go_wp2_with (go_at_call 58; refine (calls_over (rfault_any _ _ _)).mono ?_; rintro e w' ⟨rfl, y, rfl⟩)
        exact bodyPost_ret (v := (Nx.bad 11 o).val) (by simp [results, Tryz.results77, go_sem, Nx.val, tokZero, faultVal]) rfl ⟨by rw [HX.out], below2_over _ _ _ _⟩
      have h32' : (32 : Int) ≤ b := by omega
      by_cases h34 : b = 34
      · have HX : Hid (textX s o = .tok ⟨4, strOf vs, 0, 0, o, I + 1⟩) := HE.out.trans (HF.out.trans (by rw [if_neg h32, if_pos h34]))
        have hconv := text_string HO.out
        subst h34
        clear HF HE
        go_wp2
        exact bodyPost_ret (v := (Nx.tok ⟨4, strOf vs, 0, 0, o, I + 1⟩).val) (by simp [results, Tryz.results77, go_sem, Nx.val, Tok.val, faultVal]) rfl ⟨by rw [HX.out], below2_over _ _ _ _⟩
      have e34 : (b == 34) = false := by simpa using h34
      by_cases h92 : b = 92
      · subst h92
        obtain ⟨hbd, hc0, hc1⟩ := escX_bounds (s.extract I s.size)
        have hesz : (s.extract I s.size).size = s.size - I := by rw [ByteArray.size_extract]; omega
        rw [hesz] at hbd
        have HQ : Hid (Calls Tryz.prog 93 #[.string s, .int .i64 I] (over ((w.alloc (.cells #[.int .i64 0, .string ⟨#[]⟩, .int .i64 0, .int .i64 0, .int .i64 0, .int .i64 0] 85)).alloc (.cells #[.int .i64 0, .int .i64 0, .int .i64 0] 27)) x) fun e w' => e = .returned (.tuple #[.int .u8 (escX (s.extract I s.size)).1, .int .i64 (escX (s.extract I s.size)).2]) ∧ Below (over ((w.alloc (.cells #[.int .i64 0, .string ⟨#[]⟩, .int .i64 0, .int .i64 0, .int .i64 0, .int .i64 0] 85)).alloc (.cells #[.int .i64 0, .int .i64 0, .int .i64 0] 27)) x).heap.size (over ((w.alloc (.cells #[.int .i64 0, .string ⟨#[]⟩, .int .i64 0, .int .i64 0, .int .i64 0, .int .i64 0] 85)).alloc (.cells #[.int .i64 0, .int .i64 0, .int .i64 0] 27)) x) w') :=
          rescape_any s I _ hs hlt
        generalize escX (s.extract I s.size) = P at *
        obtain ⟨c, n⟩ := P
        simp only at hbd hc0 hc1 HF HQ
        obtain ⟨ao, cp, rfl⟩ := own_shape HO.out
        by_cases hn : n = 0
        · subst hn
          have HX : Hid (textX s o = .bad 12 I) := HE.out.trans (HF.out.trans (by rw [if_neg h32, if_neg h34, if_pos trivial, if_pos (by decide)]))
          clear HF HE hbd HO
          go_wp2_with (first
            | (go_at_call 93; refine (calls_over HQ.out).mono ?_; rintro e w' ⟨rfl, y, rfl⟩)
            | (go_at_call 58; refine (calls_over (rfault_any _ _ _)).mono ?_; rintro e w' ⟨rfl, y, rfl⟩))
          exact bodyPost_ret (v := (Nx.bad 12 I).val) (by simp [results, Tryz.results77, go_sem, Nx.val, tokZero, faultVal]) rfl ⟨by rw [HX.out], below2_over _ _ _ _⟩
        obtain ⟨hn1, hn2⟩ : 0 < n ∧ n ≤ ((s.size - I : Nat) : Int) := hbd.resolve_left hn
        have en : (n == 0) = false := by simpa using hn
        have hn3 : (I : Int) + n ≤ (s.size : Int) := by omega
        by_cases h255 : vs.length = 255
        · have HX : Hid (textX s o = .bad 15 o) := HE.out.trans (HF.out.trans (by rw [if_neg h32, if_neg h34, if_pos trivial, if_neg (by omega), if_pos h255]))
          have e255 : ((vs.length : Int) == 255) = true := by simp [h255]
          clear HF HE HO
          replace h255 := hide h255
          go_wp2_with (first
            | (go_at_call 93; refine (calls_over HQ.out).mono ?_; rintro e w' ⟨rfl, y, rfl⟩)
            | (go_at_call 58; refine (calls_over (rfault_any _ _ _)).mono ?_; rintro e w' ⟨rfl, y, rfl⟩))
          exact bodyPost_ret (v := (Nx.bad 15 o).val) (by simp [results, Tryz.results77, go_sem, Nx.val, tokZero, faultVal]) rfl ⟨by rw [HX.out], below2_over _ _ _ _⟩
        · have HX : Hid (textX s o = textF s o (I + n.toNat) (vs ++ [c])) := HE.out.trans (HF.out.trans (by rw [if_neg h32, if_neg h34, if_pos trivial, if_neg (by omega), if_neg h255]))
          have e255 : ((vs.length : Int) == 255) = false := by simp; omega
          clear HF HE
          have HO0 := HO
          clear HO
          have hVb0 := over_below ((w.alloc (.cells #[.int .i64 0, .string ⟨#[]⟩, .int .i64 0, .int .i64 0, .int .i64 0, .int .i64 0] 85)).alloc (.cells #[.int .i64 0, .int .i64 0, .int .i64 0] 27)) x
          obtain ⟨V0, hV0⟩ : ∃ V0, V0 = over ((w.alloc (.cells #[.int .i64 0, .string ⟨#[]⟩, .int .i64 0, .int .i64 0, .int .i64 0, .int .i64 0] 85)).alloc (.cells #[.int .i64 0, .int .i64 0, .int .i64 0] 27)) x := ⟨_, rfl⟩
          rw [← hV0] at HQ HO0 hVb0 ⊢
          clear hV0
          replace hVb0 := hide hVb0
          go_wp2_with (first
            | (go_at_call 93; refine HQ.out.mono ?_; rintro e V ⟨rfl, hb⟩; have HO := hide (own_kept HO0.out hb); have hVb := hide (hVb0.out.trans (hb.mono hVb0.out.size)); have hVs : ((w.alloc (.cells #[.int .i64 0, .string ⟨#[]⟩, .int .i64 0, .int .i64 0, .int .i64 0, .int .i64 0] 85)).alloc (.cells #[.int .i64 0, .int .i64 0, .int .i64 0] 27)).heap.size ≤ V.heap.size := hVb.out.size; clear hb)
            | (at_builtin; refine wpList_append_own _ rfl _ _ 123 rfl ((w.alloc (.cells #[.int .i64 0, .string ⟨#[]⟩, .int .i64 0, .int .i64 0, .int .i64 0, .int .i64 0] 85)).alloc (.cells #[.int .i64 0, .int .i64 0, .int .i64 0] 27)).heap.size 5 i0 (.int .u8 0) 1 1 Tryz.underlying123 hi0 hz0 hz1 hz2 rfl (by decide) _ vs.length (vs.map (Value.int .u8)) rfl (World.ownsRow.alloc HO.out _) ⟨V.heap.size, 0, none⟩ 1 1 [.int .u8 c] rfl rfl (World.news_of_block (cs := #[.int .u8 c]) (t := 5) (fr := (0, 0)) (heap_alloc_new V _)) (by simp [Value.oneCell']) (by unfold maxLen; omega) (by omega) (Nat.le_trans hVs (by simp)) ?_; intro v' w1 hown1 hgrow hnil))
          obtain ⟨z, rfl⟩ := grown_over hVb.out HO.out hgrow
          have HN := hide (map_snoc8 hown1)
          clear hown1 hgrow hnil
          go_wp2
          go_roundw
          case rel => exact ⟨I + n.toNat, vs ++ [c], z, by omega, by simp; omega, by first | go_num | (congr 1; omega), HX, rfl, HN⟩
          case measure => simp [intOf]; omega
      · have e92 : (b == 92) = false := by simpa using h92
        by_cases h255 : vs.length = 255
        · have HX : Hid (textX s o = .bad 15 o) := HE.out.trans (HF.out.trans (by rw [if_neg h32, if_neg h34, if_neg h92, if_pos h255]))
          have e255 : ((vs.length : Int) == 255) = true := by simp [h255]
          clear HF HE
          obtain ⟨ao, cp, rfl⟩ := own_shape HO.out
          replace h255 := hide h255
          go_wp2_with (go_at_call 58; refine (calls_over (rfault_any _ _ _)).mono ?_; rintro e w' ⟨rfl, y, rfl⟩)
          exact bodyPost_ret (v := (Nx.bad 15 o).val) (by simp [results, Tryz.results77, go_sem, Nx.val, tokZero, faultVal]) rfl ⟨by rw [HX.out], below2_over _ _ _ _⟩
        · have HX : Hid (textX s o = textF s o (I + 1) (vs ++ [b])) := HE.out.trans (HF.out.trans (by rw [if_neg h32, if_neg h34, if_neg h92, if_neg h255]))
          have e255 : ((vs.length : Int) == 255) = false := by simp; omega
          clear HF HE
          obtain ⟨ao, cp, rfl⟩ := own_shape HO.out
          obtain ⟨V, hV⟩ : ∃ V, V = over ((w.alloc (.cells #[.int .i64 0, .string ⟨#[]⟩, .int .i64 0, .int .i64 0, .int .i64 0, .int .i64 0] 85)).alloc (.cells #[.int .i64 0, .int .i64 0, .int .i64 0] 27)) x := ⟨_, rfl⟩
          have hVb := hide (hV ▸ over_below ((w.alloc (.cells #[.int .i64 0, .string ⟨#[]⟩, .int .i64 0, .int .i64 0, .int .i64 0, .int .i64 0] 85)).alloc (.cells #[.int .i64 0, .int .i64 0, .int .i64 0] 27)) x)
          rw [← hV] at HO ⊢
          clear hV
          have hVs : ((w.alloc (.cells #[.int .i64 0, .string ⟨#[]⟩, .int .i64 0, .int .i64 0, .int .i64 0, .int .i64 0] 85)).alloc (.cells #[.int .i64 0, .int .i64 0, .int .i64 0] 27)).heap.size ≤ V.heap.size := hVb.out.size
          go_wp2_with (at_builtin; refine wpList_append_own _ rfl _ _ 123 rfl ((w.alloc (.cells #[.int .i64 0, .string ⟨#[]⟩, .int .i64 0, .int .i64 0, .int .i64 0, .int .i64 0] 85)).alloc (.cells #[.int .i64 0, .int .i64 0, .int .i64 0] 27)).heap.size 5 i0 (.int .u8 0) 1 1 Tryz.underlying123 hi0 hz0 hz1 hz2 rfl (by decide) _ vs.length (vs.map (Value.int .u8)) rfl (World.ownsRow.alloc HO.out _) ⟨V.heap.size, 0, none⟩ 1 1 [.int .u8 b] rfl rfl (World.news_of_block (cs := #[.int .u8 b]) (t := 5) (fr := (0, 0)) (heap_alloc_new V _)) (by simp [Value.oneCell']) (by unfold maxLen; omega) (by omega) (Nat.le_trans hVs (by simp)) ?_; intro v' w1 hown1 hgrow hnil)
          obtain ⟨z, rfl⟩ := grown_over hVb.out HO.out hgrow
          have HN := hide (map_snoc8 hown1)
          clear hown1 hgrow hnil
          go_wp2
          go_roundw
          case rel => exact ⟨I + 1, vs ++ [b], z, by omega, by simp; omega, by go_num, HX, rfl, HN⟩
          case measure => simp [intOf]; omega
    · have hi : (s.size : Int) ≤ (I : Int) := by omega
      have HX : Hid (textX s o = .bad 11 o) := HE.out.trans (by rw [textF, dif_neg hlt])
      clear HE
      go_wp2_with (go_at_call 58; refine (calls_over (rfault_any _ _ _)).mono ?_; rintro e w' ⟨rfl, y, rfl⟩)
      exact bodyPost_ret (v := (Nx.bad 11 o).val) (by simp [results, Tryz.results77, go_sem, Nx.val, tokZero, faultVal]) rfl ⟨by rw [HX.out], below2_over _ _ _ _⟩

end Go.Proofs.YtmdhjggijlhhgaaGreatDoor
