/- What sym.IsName, IsVar and Valid answer, at every argument: the document's sentence of P1, as a plain test on bytes. -/
import Derived.Test.YtoppnjpajeipdaaGreatDoorProg
import Derived.Test.YtoppnjpajeipdaaGreatDoorOpen
import Derived.Test.YtoppnjpajeipdaaGreatDoorBox
import Derived.WalkSpells
import Derived.WalkLawsBesides
namespace Go.Proofs.YtoppnjpajeipdaaGreatDoor
set_option linter.unusedSimpArgs false
set_option linter.unusedVariables false
open Go.RowKit

def lowN (n : Int) : Bool := decide (97 ≤ n) && decide (n ≤ 122)
def upN (n : Int) : Bool := decide (65 ≤ n) && decide (n ≤ 90)
def digN (n : Int) : Bool := decide (48 ≤ n) && decide (n ≤ 57)
def wordN (n : Int) : Bool := lowN n || (upN n || (digN n || n == 95))
def wordB (b : UInt8) : Bool := wordN (b.toNat : Int)
def isWordL (l : List UInt8) : Bool := decide (1 ≤ l.length) && (decide (l.length ≤ 64) && l.all wordB)
def headN (l : List UInt8) : Int := match l with | b :: _ => (b.toNat : Int) | [] => 0
def isNameL (l : List UInt8) : Bool := isWordL l && (lowN (headN l) && !(l == [110, 111, 116]))
def isVarL (l : List UInt8) : Bool := isWordL l && (upN (headN l) || headN l == 95)
def validC (c : Con) : Bool :=
  if c.k = 1 then c.s.toList == [] else if c.k = 2 then c.n == 0 && isNameL c.s.toList else if c.k = 3 then c.n == 0 && decide (c.s.size ≤ 255) else false

theorem ret_bool {a b : Bool} (h : a = b) : Ending.returned (.bool a) = .returned (.bool b) := by rw [h]

theorem wordByte_any (n : Int) (w : World) (h : 0 ≤ n ∧ n ≤ 255) :
    Calls Tryz.prog 52 #[.int .u8 n] w fun e w' => e = .returned (.bool (wordN n)) ∧ w' = w := by
  have hw : ∀ b, wordN n = b → (Calls Tryz.prog 52 #[.int .u8 n] w fun e w' => e = .returned (.bool b) ∧ w' = w) → Calls Tryz.prog 52 #[.int .u8 n] w fun e w' => e = .returned (.bool (wordN n)) ∧ w' = w := fun b hb hc => by rw [hb]; exact hc
  have H := hide hw
  clear hw
  rcases (show n < 48 ∨ (48 ≤ n ∧ n ≤ 57) ∨ (57 < n ∧ n < 65) ∨ (65 ≤ n ∧ n ≤ 90) ∨ (90 < n ∧ n < 95) ∨ n = 95 ∨ n = 96 ∨ (97 ≤ n ∧ n ≤ 122) ∨ 122 < n from by omega) with h1 | ⟨h1, h2⟩ | ⟨h1, h2⟩ | ⟨h1, h2⟩ | ⟨h1, h2⟩ | rfl | rfl | ⟨h1, h2⟩ | h1
  · refine H.out false (by simp [wordN, lowN, upN, digN]; omega) ?_
    have e : (n == 95) = false := by simp; omega
    clear H
    go_enter Tryz.func52, Tryz.ntmps52
    go_wp2
    go_ret
    first | exact ⟨rfl, rfl⟩ | exact ⟨ret_bool (by simp; omega), rfl⟩
  · refine H.out true (by simp [wordN, lowN, upN, digN]; omega) ?_
    clear H
    go_enter Tryz.func52, Tryz.ntmps52
    go_wp2
    go_ret
    first | exact ⟨rfl, rfl⟩ | exact ⟨ret_bool (by simp; omega), rfl⟩
  · refine H.out false (by simp [wordN, lowN, upN, digN]; omega) ?_
    have e : (n == 95) = false := by simp; omega
    clear H
    go_enter Tryz.func52, Tryz.ntmps52
    go_wp2
    go_ret
    first | exact ⟨rfl, rfl⟩ | exact ⟨ret_bool (by simp; omega), rfl⟩
  · refine H.out true (by simp [wordN, lowN, upN, digN]; omega) ?_
    clear H
    go_enter Tryz.func52, Tryz.ntmps52
    go_wp2
    go_ret
    first | exact ⟨rfl, rfl⟩ | exact ⟨ret_bool (by simp; omega), rfl⟩
  · refine H.out false (by simp [wordN, lowN, upN, digN]; omega) ?_
    have e : (n == 95) = false := by simp; omega
    clear H
    go_enter Tryz.func52, Tryz.ntmps52
    go_wp2
    go_ret
    first | exact ⟨rfl, rfl⟩ | exact ⟨ret_bool (by simp; omega), rfl⟩
  · refine H.out true (by decide) ?_
    clear H
    go_enter Tryz.func52, Tryz.ntmps52
    go_wp2
    go_ret
    first | exact ⟨rfl, rfl⟩ | exact ⟨ret_bool (by simp; omega), rfl⟩
  · refine H.out false (by decide) ?_
    clear H
    go_enter Tryz.func52, Tryz.ntmps52
    go_wp2
    go_ret
    first | exact ⟨rfl, rfl⟩ | exact ⟨ret_bool (by simp; omega), rfl⟩
  · refine H.out true (by simp [wordN, lowN, upN, digN]; omega) ?_
    clear H
    go_enter Tryz.func52, Tryz.ntmps52
    go_wp2
    go_ret
    first | exact ⟨rfl, rfl⟩ | exact ⟨ret_bool (by simp; omega), rfl⟩
  · refine H.out false (by simp [wordN, lowN, upN, digN]; omega) ?_
    have e : (n == 95) = false := by simp; omega
    clear H
    go_enter Tryz.func52, Tryz.ntmps52
    go_wp2
    go_ret
    first | exact ⟨rfl, rfl⟩ | exact ⟨ret_bool (by simp; omega), rfl⟩

theorem take_snoc (s : ByteArray) (k : Nat) (h : k < s.size) : s.toList.take (k + 1) = s.toList.take k ++ [s[k]] := by
  rw [ByteArray.toList_eq]
  rw [List.take_succ_eq_append_getElem (by simpa using h)]
  rfl

theorem toListLen (a : ByteArray) : a.toList.length = a.size := by rw [ByteArray.toList_eq]; rfl

theorem mem_byte (s : ByteArray) (k : Nat) (h : k < s.size) : s[k] ∈ s.toList := by
  rw [ByteArray.toList_eq]
  exact List.getElem_mem (l := s.data.toList) (by simpa using h)

set_option maxHeartbeats 400000 in
theorem isWord_any (s : ByteArray) (w : World) (hs : s.size ≤ maxLen) :
    Calls Tryz.prog 36 #[.string s] w fun e w' => e = .returned (.bool (isWordL s.toList)) ∧ w' = w := by
  unfold maxLen at hs
  by_cases h0 : s.size = 0
  · have hf : isWordL s.toList = false := by unfold isWordL; rw [toListLen, h0]; rfl
    rw [hf]
    have h1 : (s.size : Int) < 1 := by omega
    clear hf
    go_enter Tryz.func36, Tryz.ntmps36
    go_wp2
    go_ret
    first | exact ⟨rfl, rfl⟩ | exact ⟨ret_bool (by simp; omega), rfl⟩
  · by_cases h64 : 64 < s.size
    · have hf : isWordL s.toList = false := by unfold isWordL; rw [toListLen]; simp; omega
      rw [hf]
      have h1 : ¬ (s.size : Int) < 1 := by omega
      have h2 : (64 : Int) < (s.size : Int) := by omega
      clear hf
      go_enter Tryz.func36, Tryz.ntmps36
      go_wp2
      go_ret
      first | exact ⟨rfl, rfl⟩ | exact ⟨ret_bool (by simp; omega), rfl⟩
    · have hw : Hid (isWordL s.toList = s.toList.all wordB) := by
        show isWordL s.toList = _
        unfold isWordL; rw [toListLen]
        rw [show decide (1 ≤ s.size) = true from by simp; omega, show decide (s.size ≤ 64) = true from by simp; omega]; rfl
      have h1 : ¬ (s.size : Int) < 1 := by omega
      have h2 : ¬ (64 : Int) < (s.size : Int) := by omega
      rw [hw.out]
      go_enter Tryz.func36, Tryz.ntmps36
      go_wp2
      go_loop [3, 14] (fun _ i => ∃ k : Nat, k ≤ s.size ∧ i = .int .i64 k ∧ Hid ((s.toList.take k).all wordB = true)) (fun _ i => s.size - (intOf i).toNat)
      case atStart => exact ⟨0, Nat.zero_le _, rfl, rfl⟩
      case round =>
        obtain ⟨k, hk, rfl, HA⟩ := hrel
        by_cases hlt : k < s.size
        · have hi : (k : Int) < (s.size : Int) := by omega
          have hb : (0 : Int) ≤ (s[k].toNat : Int) ∧ (s[k].toNat : Int) ≤ 255 := by have := s[k].toNat_lt; omega
          have HC := hide (wordByte_any (s[k].toNat : Int) w hb)
          by_cases hwb : wordN (s[k].toNat : Int) = true
          · have hwb' : Hid (wordB s[k] = true) := hwb
            go_wp2_with (go_at_call 52; refine HC.out.mono ?_; rintro e w' ⟨rfl, hw'⟩; have hw' := hw'.symm; subst hw')
            go_round
            case rel => exact ⟨k + 1, by omega, by go_num, by show (s.toList.take (k + 1)).all wordB = true; rw [take_snoc s k hlt, List.all_append, HA.out, List.all_cons, hwb'.out]; rfl⟩
            case measure => simp [intOf]; omega
          · have hwf : wordN (s[k].toNat : Int) = false := by simpa using hwb
            have hall : Hid (s.toList.all wordB = false) := by
              show s.toList.all wordB = false
              rw [List.all_eq_false]
              exact ⟨s[k], mem_byte s k hlt, by show ¬ wordB s[k] = true; exact hwb⟩
            clear hwb
            go_wp2_with (go_at_call 52; refine HC.out.mono ?_; rintro e w' ⟨rfl, hw'⟩; have hw' := hw'.symm; subst hw')
            go_ret
            exact ⟨by rw [hall.out]; rfl, rfl⟩
        · have hi : ¬ (k : Int) < (s.size : Int) := by omega
          go_wp2
          go_ret
          refine ⟨?_, rfl⟩
          have := HA.out
          rw [List.take_of_length_le (by rw [toListLen]; omega)] at this
          rw [this]; rfl

theorem toList_cons (s : ByteArray) (h : 0 < s.size) : ∃ r, s.toList = s[0] :: r := by
  rw [ByteArray.toList_eq]
  have h' : 0 < s.data.toList.length := by simpa using h
  refine ⟨s.data.toList.drop 1, ?_⟩
  have := List.drop_eq_getElem_cons h'
  rw [List.drop_zero] at this
  exact this

theorem isLower_any (n : Int) (w : World) (h : 0 ≤ n ∧ n ≤ 255) :
    Calls Tryz.prog 37 #[.int .u8 n] w fun e w' => e = .returned (.bool (lowN n)) ∧ w' = w := by
  have H : Hid (lowN n = (decide (97 ≤ n) && decide (n ≤ 122))) := rfl
  rw [H.out]
  go_enter Tryz.func37, Tryz.ntmps37
  go_wp2
  all_goals go_ret
  all_goals refine ⟨ret_bool ?_, rfl⟩
  all_goals first | rfl | (simp; done) | (simp; omega)

theorem head_of (s : ByteArray) (h : 0 < s.size) : headN s.toList = (s[0].toNat : Int) := by
  obtain ⟨r, hr⟩ := toList_cons s h
  rw [hr]; rfl

theorem word_pos {s : ByteArray} (hw : isWordL s.toList = true) : 0 < s.size := by
  unfold isWordL at hw
  simp only [Bool.and_eq_true, decide_eq_true_eq] at hw
  rw [toListLen] at hw
  omega

theorem isName_any (s : ByteArray) (w : World) (hs : s.size ≤ maxLen) :
    Calls Tryz.prog 24 #[.string s] w fun e w' => e = .returned (.bool (isNameL s.toList)) ∧ w' = w := by
  have HW := hide (isWord_any s w hs)
  have hd : Hid (isNameL s.toList = (isWordL s.toList && (lowN (headN s.toList) && !(s.toList == [110, 111, 116])))) := rfl
  rw [hd.out]
  clear hd
  cases hw : isWordL s.toList
  · go_enter Tryz.func24, Tryz.ntmps24
    go_wp2_with (go_at_call 36; refine HW.out.mono ?_; rintro e w' ⟨rfl, hw'⟩; have hw' := hw'.symm; subst hw')
    go_ret
    exact ⟨rfl, rfl⟩
  · have hpos := word_pos hw
    rw [head_of s hpos]
    have hi : (0 : Int) < (s.size : Int) := by omega
    have hb : (0 : Int) ≤ (s[0].toNat : Int) ∧ (s[0].toNat : Int) ≤ 255 := by have := s[0].toNat_lt; omega
    have HC := hide (isLower_any (s[0].toNat : Int) w hb)
    cases hl : lowN (s[0].toNat : Int)
    · go_enter Tryz.func24, Tryz.ntmps24
      go_wp2_with (first | (go_at_call 36; refine HW.out.mono ?_; rintro e w' ⟨rfl, hw'⟩; have hw' := hw'.symm; subst hw') | (go_at_call 37; refine HC.out.mono ?_; rintro e w' ⟨rfl, hw'⟩; have hw' := hw'.symm; subst hw'))
      go_ret
      exact ⟨rfl, rfl⟩
    · go_enter Tryz.func24, Tryz.ntmps24
      go_wp2_with (first | (go_at_call 36; refine HW.out.mono ?_; rintro e w' ⟨rfl, hw'⟩; have hw' := hw'.symm; subst hw') | (go_at_call 37; refine HC.out.mono ?_; rintro e w' ⟨rfl, hw'⟩; have hw' := hw'.symm; subst hw'))
      go_ret
      first | exact ⟨rfl, rfl⟩ | exact ⟨ret_bool (by simp), rfl⟩

theorem valid_any (c : Con) (w : World) (hc : c.ok) :
    Calls Tryz.prog 8 #[c.val] w fun e w' => e = .returned (.bool (validC c)) ∧ Below w.heap.size w w' := by
  obtain ⟨k, n, s⟩ := c
  have hs : s.size ≤ maxLen := by have := hc.2.2; unfold maxLen; simp only at this; omega
  have hs2 : s.size ≤ 140737488351232 := hc.2.2
  have hd : Hid (validC ⟨k, n, s⟩ = if k = 1 then s.toList == [] else if k = 2 then n == 0 && isNameL s.toList else if k = 3 then n == 0 && decide (s.size ≤ 255) else false) := rfl
  rw [hd.out]
  clear hd hc
  unfold Con.val
  by_cases h1 : k = 1
  · subst h1
    rw [if_pos rfl]
    go_enter Tryz.func8, Tryz.ntmps8
    go_wp2
    go_ret
    first | exact ⟨rfl, (Below.refl _ _).alloc (Nat.le_refl _) _⟩ | exact ⟨ret_bool (by simp), (Below.refl _ _).alloc (Nat.le_refl _) _⟩
  · have e1 : (k == 1) = false := by simp [h1]
    rw [if_neg h1]
    by_cases h2 : k = 2
    · subst h2
      rw [if_pos rfl]
      have HN := hide (fun w => isName_any s w hs)
      cases hn : (n == 0)
      · go_enter Tryz.func8, Tryz.ntmps8
        go_wp2
        go_ret
        exact ⟨rfl, (Below.refl _ _).alloc (Nat.le_refl _) _⟩
      · go_enter Tryz.func8, Tryz.ntmps8
        go_wp2_with (go_at_call 24; refine (HN.out _).mono ?_; rintro e w' ⟨rfl, hw'⟩; have hw' := hw'.symm; subst hw')
        go_ret
        first | exact ⟨rfl, (Below.refl _ _).alloc (Nat.le_refl _) _⟩ | exact ⟨ret_bool (by simp), (Below.refl _ _).alloc (Nat.le_refl _) _⟩
    · have e2 : (k == 2) = false := by simp [h2]
      rw [if_neg h2]
      by_cases h3 : k = 3
      · subst h3
        rw [if_pos rfl]
        cases hn : (n == 0)
        · go_enter Tryz.func8, Tryz.ntmps8
          go_wp2
          go_ret
          exact ⟨rfl, (Below.refl _ _).alloc (Nat.le_refl _) _⟩
        · go_enter Tryz.func8, Tryz.ntmps8
          go_wp2
          all_goals go_ret
          all_goals refine ⟨ret_bool ?_, (Below.refl _ _).alloc (Nat.le_refl _) _⟩
          all_goals first | rfl | (simp; done) | (simp; omega)
      · have e3 : (k == 3) = false := by simp [h3]
        rw [if_neg h3]
        go_enter Tryz.func8, Tryz.ntmps8
        go_wp2
        go_ret
        exact ⟨rfl, (Below.refl _ _).alloc (Nat.le_refl _) _⟩
end Go.Proofs.YtoppnjpajeipdaaGreatDoor
