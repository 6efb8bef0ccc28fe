/- The byte tests of lex, and runEnd: the longest run of word bytes. -/
import Derived.Test.YtplldgkdjainlaaDoorProg
import Derived.Test.YtplldgkdjainlaaDoorGapPure
namespace Go.Proofs.YtplldgkdjainlaaDoor
set_option linter.unusedSimpArgs false
set_option linter.unusedVariables false
open Go.RowKit

def bLow (n : Int) : Bool := decide (97 ≤ n) && decide (n ≤ 122)
def bUp (n : Int) : Bool := decide (65 ≤ n) && decide (n ≤ 90)
def bDig (n : Int) : Bool := decide (48 ≤ n) && decide (n ≤ 57)
def bWord (n : Int) : Bool := bLow n || (bUp n || (bDig n || n == 95))

theorem ret_b {a b : Bool} (h : a = b) : Ending.returned (.bool a) = .returned (.bool b) := by rw [h]
theorem ret_i {a b : Int} (h : a = b) : Ending.returned (.int .i64 a) = .returned (.int .i64 b) := by rw [h]

theorem low_any (n : Int) (w : World) (h : 0 ≤ n ∧ n ≤ 255) :
    Calls Tryd.prog 22 #[.int .u8 n] w fun e w' => e = .returned (.bool (bLow n)) ∧ w' = w := by
  by_cases h1 : 97 ≤ n
  · by_cases h2 : n ≤ 122
    · rw [show bLow n = true from by simp [bLow, h1, h2]]
      go_enter Tryd.func22, Tryd.ntmps22
      go_wp2
      go_ret
      exact ⟨rfl, rfl⟩
    · rw [show bLow n = false from by simp [bLow, h1, h2]]
      go_enter Tryd.func22, Tryd.ntmps22
      go_wp2
      go_ret
      exact ⟨rfl, rfl⟩
  · rw [show bLow n = false from by simp [bLow, h1]]
    go_enter Tryd.func22, Tryd.ntmps22
    go_wp2
    go_ret
    exact ⟨rfl, rfl⟩
theorem up_any (n : Int) (w : World) (h : 0 ≤ n ∧ n ≤ 255) :
    Calls Tryd.prog 23 #[.int .u8 n] w fun e w' => e = .returned (.bool (bUp n)) ∧ w' = w := by
  by_cases h1 : 65 ≤ n
  · by_cases h2 : n ≤ 90
    · rw [show bUp n = true from by simp [bUp, h1, h2]]
      go_enter Tryd.func23, Tryd.ntmps23
      go_wp2
      go_ret
      exact ⟨rfl, rfl⟩
    · rw [show bUp n = false from by simp [bUp, h1, h2]]
      go_enter Tryd.func23, Tryd.ntmps23
      go_wp2
      go_ret
      exact ⟨rfl, rfl⟩
  · rw [show bUp n = false from by simp [bUp, h1]]
    go_enter Tryd.func23, Tryd.ntmps23
    go_wp2
    go_ret
    exact ⟨rfl, rfl⟩
theorem dig_any (n : Int) (w : World) (h : 0 ≤ n ∧ n ≤ 255) :
    Calls Tryd.prog 34 #[.int .u8 n] w fun e w' => e = .returned (.bool (bDig n)) ∧ w' = w := by
  by_cases h1 : 48 ≤ n
  · by_cases h2 : n ≤ 57
    · rw [show bDig n = true from by simp [bDig, h1, h2]]
      go_enter Tryd.func34, Tryd.ntmps34
      go_wp2
      go_ret
      exact ⟨rfl, rfl⟩
    · rw [show bDig n = false from by simp [bDig, h1, h2]]
      go_enter Tryd.func34, Tryd.ntmps34
      go_wp2
      go_ret
      exact ⟨rfl, rfl⟩
  · rw [show bDig n = false from by simp [bDig, h1]]
    go_enter Tryd.func34, Tryd.ntmps34
    go_wp2
    go_ret
    exact ⟨rfl, rfl⟩

theorem word_byte (n : Int) (w : World) (h : 0 ≤ n ∧ n ≤ 255) :
    Calls Tryd.prog 38 #[.int .u8 n] w fun e w' => e = .returned (.bool (bWord n)) ∧ w' = w := by
  have HL := hide (low_any n w h)
  have HU := hide (up_any n w h)
  have HD := hide (dig_any n w h)
  have hd : Hid (bWord n = (bLow n || (bUp n || (bDig n || n == 95)))) := rfl
  rw [hd.out]
  by_cases h95 : n = 95
  · subst h95
    rw [show (bLow 95 || (bUp 95 || (bDig 95 || (95 : Int) == 95))) = true from rfl]
    rw [show bLow 95 = false from rfl] at HL
    rw [show bUp 95 = false from rfl] at HU
    rw [show bDig 95 = false from rfl] at HD
    go_enter Tryd.func38, Tryd.ntmps38
    go_wp2_with (first
      | (go_at_call 22; refine HL.out.mono ?_; rintro e w' ⟨rfl, hw'⟩; have hw' := hw'.symm; subst hw')
      | (go_at_call 23; refine HU.out.mono ?_; rintro e w' ⟨rfl, hw'⟩; have hw' := hw'.symm; subst hw')
      | (go_at_call 34; refine HD.out.mono ?_; rintro e w' ⟨rfl, hw'⟩; have hw' := hw'.symm; subst hw'))
    go_ret
    exact ⟨rfl, rfl⟩
  have e : (n == 95) = false := by simpa using h95
  rw [e]
  clear hd
  generalize bLow n = a at *
  generalize bUp n = b at *
  generalize bDig n = c at *
  cases a <;> cases b <;> cases c
  all_goals
    go_enter Tryd.func38, Tryd.ntmps38
    go_wp2_with (first
      | (go_at_call 22; refine HL.out.mono ?_; rintro e w' ⟨rfl, hw'⟩; have hw' := hw'.symm; subst hw')
      | (go_at_call 23; refine HU.out.mono ?_; rintro e w' ⟨rfl, hw'⟩; have hw' := hw'.symm; subst hw')
      | (go_at_call 34; refine HD.out.mono ?_; rintro e w' ⟨rfl, hw'⟩; have hw' := hw'.symm; subst hw'))
    go_ret
    exact ⟨rfl, rfl⟩

/-- The longest run of word bytes. -/
def runC : List UInt8 → Nat
  | [] => 0
  | b :: r => if bWord b.toNat then runC r + 1 else 0

theorem runC_le : ∀ l : List UInt8, runC l ≤ l.length
  | [] => Nat.le_refl _
  | b :: r => by
    unfold runC
    split
    · have := runC_le r; simp; omega
    · simp

theorem runEnd_any (s : ByteArray) (o : Nat) (w : World) (hs : s.size ≤ 140737488351232) (ho : o ≤ s.size) :
    Calls Tryd.prog 33 #[.string s, .int .i64 o] w fun e w' => e = .returned (.int .i64 ((o + runC (rest s o) : Nat) : Int)) ∧ w' = w := by
  go_enter Tryd.func33, Tryd.ntmps33
  go_wp2
  go_loop [1] (fun i => ∃ k : Nat, k ≤ s.size ∧ i = .int .i64 k ∧ Hid (o + runC (rest s o) = k + runC (rest s k))) (fun i => s.size - (intOf i).toNat)
  case atStart => exact ⟨o, ho, rfl, rfl⟩
  case round =>
    obtain ⟨k, hk, rfl, HE⟩ := hrel
    by_cases hlt : k < s.size
    · have hi : (k : Int) < (s.size : Int) := by omega
      have hb : (0 : Int) ≤ (s[k].toNat : Int) ∧ (s[k].toNat : Int) ≤ 255 := by have := s[k].toNat_lt; omega
      have HW := hide (word_byte (s[k].toNat : Int) w hb)
      by_cases hw : bWord (s[k].toNat : Int) = true
      · have HF : Hid (runC (rest s k) = runC (rest s (k + 1)) + 1) := by
          show runC (rest s k) = _
          rw [rest_cons s k hlt]; conv => lhs; unfold runC
          exact if_pos hw
        go_wp2_with (go_at_call 38; refine HW.out.mono ?_; rintro e w' ⟨rfl, hw'⟩; have hw' := hw'.symm; subst hw')
        go_round
        case rel => exact ⟨k + 1, by omega, by go_num, by have h1 := HE.out; have h2 := HF.out; show _ = _; omega⟩
        case measure => simp [intOf]; omega
      · have hw2 : bWord (s[k].toNat : Int) = false := by simpa using hw
        have HF : Hid (runC (rest s k) = 0) := by
          show runC (rest s k) = _
          rw [rest_cons s k hlt]; unfold runC
          exact if_neg (by rw [hw2]; simp)
        clear hw
        go_wp2_with (go_at_call 38; refine HW.out.mono ?_; rintro e w' ⟨rfl, hw'⟩; have hw' := hw'.symm; subst hw')
        go_ret
        exact ⟨ret_i (by have := HE.out; have := HF.out; omega), rfl⟩
    · have hi : ¬ (k : Int) < (s.size : Int) := by omega
      have HF : Hid (runC (rest s k) = 0) := by
        show runC (rest s k) = 0
        rw [rest_end s k (by omega)]; rfl
      go_wp2
      go_ret
      exact ⟨ret_i (by have := HE.out; have := HF.out; omega), rfl⟩

end Go.Proofs.YtplldgkdjainlaaDoor
