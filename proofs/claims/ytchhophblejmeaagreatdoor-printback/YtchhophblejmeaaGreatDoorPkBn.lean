/- The laws' own mod and lines of edictlaw04. -/
import Derived.Test.YtchhophblejmeaaGreatDoorProg
import Derived.Test.YtchhophblejmeaaGreatDoorPkBb

namespace Go.Proofs.YtchhophblejmeaaGreatDoor
set_option linter.unusedSimpArgs false
set_option linter.unusedVariables false
open Go.RowKit

def mod9 (n : Int) : Int := (n.tmod 9 + 9) % 9
set_option maxRecDepth 100000 in
set_option maxHeartbeats 1000000 in
theorem mod4_9 (n : Int) (w : World) : Calls Tryz.prog 15 #[.int .i64 n, .int .i64 9] w fun e w' => e = .returned (.int .i64 (mod9 n)) ∧ w' = w := by
  have h1 := Int.tmod_lt_of_pos n (show (0 : Int) < 9 by decide)
  have h2 := Int.lt_tmod_of_pos n (show (0 : Int) < 9 by decide)
  by_cases h0 : n.tmod 9 < 0
  · have HE : Hid (mod9 n = n.tmod 9 + 9) := by show _ = _; unfold mod9; omega
    have hw : wrap64 (n.tmod 9 + 9) = n.tmod 9 + 9 := by unfold wrap64; omega
    rw [HE.out]
    clear HE
    go_enter Tryz.func15, Tryz.ntmps15
    go_wp2
    go_ret
    exact ⟨rfl, rfl⟩
  · have HE : Hid (mod9 n = n.tmod 9) := by show _ = _; unfold mod9; omega
    rw [HE.out]
    clear HE
    go_enter Tryz.func15, Tryz.ntmps15
    go_wp2
    go_ret
    exact ⟨rfl, rfl⟩

theorem lnOk_at : ∀ (l : List UInt8) (p : UInt8), LnOk p l → ∀ (i : Nat) (b : UInt8), l[i]? = some b → (b = 10 ∧ ((i = 0 ∧ p = 46) ∨ (0 < i ∧ l[i - 1]? = some 46))) ∨ (b ≠ 10 ∧ 32 ≤ b.toNat ∧ b.toNat ≤ 126)
  | [], _, _, i, b, hb => by simp at hb
  | a :: r, p, h, 0, b, hb => by
    cases hb
    rcases h.1 with ⟨h1, h2⟩ | ⟨h1, h2⟩
    · exact .inl ⟨h1, .inl ⟨rfl, h2⟩⟩
    · exact .inr ⟨fun e => by subst e; exact absurd h1 (by decide), h1, h2⟩
  | a :: r, p, h, i + 1, b, hb => by
    rcases lnOk_at r a h.2 i b hb with ⟨h1, h2⟩ | h1
    · refine .inl ⟨h1, .inr ⟨by omega, ?_⟩⟩
      rcases h2 with ⟨rfl, rfl⟩ | ⟨h3, h4⟩
      · rfl
      · obtain ⟨j, rfl⟩ : ∃ j, i = j + 1 := ⟨i - 1, by omega⟩
        exact h4
    · exact .inr h1
/-- A text in lines, as the law asks. -/
structure Lined (s : ByteArray) (m : Nat) : Prop where
  at_ : ∀ (i : Nat) (h : i < s.size), (s[i] = 10 ∧ ∃ h0 : 0 < i, s[i - 1] = 46) ∨ (s[i] ≠ 10 ∧ 32 ≤ s[i].toNat ∧ s[i].toNat ≤ 126)
  num : s.data.toList.count 10 = m
  last : s.size = 0 ∨ ∃ h : 0 < s.size, s[s.size - 1] = 10
theorem get_data (s : ByteArray) (i : Nat) (h : i < s.size) : s.data.toList[i]? = some s[i] := by
  rw [Array.getElem?_toList]
  exact Array.getElem?_eq_getElem h
theorem lined_of {s : ByteArray} {m : Nat} (h : LnOk 0 s.data.toList) (hc : s.data.toList.count 10 = m) (hl : s.data.toList = [] ∨ s.data.toList.getLast? = some 10) : Lined s m where
  at_ i hi := by
    rcases lnOk_at _ _ h i s[i] (get_data s i hi) with ⟨h1, ⟨-, h2⟩ | ⟨h2, h3⟩⟩ | h1
    · exact absurd h2 (by decide)
    · refine .inl ⟨h1, h2, ?_⟩
      rw [get_data s (i - 1) (by omega)] at h3
      exact Option.some.inj h3
    · exact .inr h1
  num := hc
  last := by
    rcases hl with hl | hl
    · exact .inl (by have := congrArg List.length hl; exact this)
    · have h0 : 0 < s.size := by
        rcases Nat.eq_zero_or_pos s.size with h0 | h0
        · have : s.data.toList = [] := List.length_eq_zero_iff.1 h0
          rw [this] at hl; cases hl
        · exact h0
      refine .inr ⟨h0, ?_⟩
      rw [List.getLast?_eq_getElem?] at hl
      have := get_data s (s.size - 1) (by omega)
      have e : s.data.toList.length = s.size := rfl
      rw [e, this] at hl
      exact Option.some.inj hl
theorem count_take (s : ByteArray) (i : Nat) (h : i < s.size) : (s.data.toList.take (i + 1)).count 10 = (s.data.toList.take i).count 10 + (if s[i] = 10 then 1 else 0) := by
  rw [List.take_add_one, get_data s i h, Option.toList_some, List.count_append, List.count_singleton]
  by_cases hb : s[i] = 10
  · rw [hb]; rfl
  · rw [if_neg hb, if_neg (by simpa using hb)]

set_option maxRecDepth 100000 in
set_option maxHeartbeats 4000000 in
theorem lines_any (s : ByteArray) (m : Nat) (w : World) (h : Lined s m) (hs : s.size ≤ 140737488351232) :
    Calls Tryz.prog 9 #[.string s, .int .i64 m] w fun e w' => e = .returned (.bool true) ∧ w' = w := by
  have HH := hide h
  have hm : m ≤ s.size := by rw [← h.num]; exact List.count_le_length
  clear h
  go_enter Tryz.func9, Tryz.ntmps9
  go_wp2
  go_loopw [1, 5] (fun nv i wl => ∃ k c : Nat, k ≤ s.size ∧ c ≤ m ∧ nv = .int .i64 ((m : Int) - c) ∧ i = .int .i64 k ∧ Hid (c = (s.data.toList.take k).count 10) ∧ wl = w) (fun _ i _ => s.size - (intOf i).toNat)
  case atStart => exact ⟨0, 0, by omega, by omega, by simp, rfl, rfl, rfl⟩
  case round =>
    obtain ⟨k, c, hk, hc, rfl, rfl, HC, rfl⟩ := hrel
    by_cases hlt : k < s.size
    · have hi : (k : Int) < (s.size : Int) := by omega
      have hi0 : (0 : Int) ≤ (k : Int) := by omega
      have HT := hide (count_take s k hlt)
      have hle : (s.data.toList.take (k + 1)).count 10 ≤ m := by
        rw [← HH.out.num]
        exact List.Sublist.count_le 10 (List.take_sublist _ _)
      rcases HH.out.at_ k hlt with ⟨h10, h0, h46⟩ | ⟨h10, h32, h126⟩
      · have HC2 : Hid (c + 1 = (s.data.toList.take (k + 1)).count 10) := by show _ = _; rw [HT.out, if_pos h10, HC.out]
        have hcm : c + 1 ≤ m := by rw [HC2.out]; exact hle
        obtain ⟨x, hx⟩ : ∃ x : Int, x = (s[k].toNat : Int) := ⟨_, rfl⟩
        obtain ⟨y, hy⟩ : ∃ y : Int, y = (s[k - 1].toNat : Int) := ⟨_, rfl⟩
        have e1 : (x == 10) = true := by rw [hx, h10]; rfl
        have e2 : (y != 46) = false := by rw [hy, h46]; rfl
        have e3 : ((k : Int) == 0) = false := by simp; omega
        have hw1 : wrap64 ((m : Int) - c - 1) = (m : Int) - (c + 1 : Nat) := by unfold wrap64; omega
        go_wp2
        go_roundw
        case rel => exact ⟨k + 1, c + 1, by omega, hcm, by go_num, by go_num, HC2, trivial⟩
        case measure => simp [intOf]; omega
      · have HC2 : Hid (c = (s.data.toList.take (k + 1)).count 10) := by show _ = _; rw [HT.out, if_neg h10, HC.out]; rfl
        have hne : ¬ (s[k].toNat : Int) = 10 := by
          intro e
          apply h10
          apply UInt8.toNat_inj.1
          have e2 : s[k].toNat = 10 := by omega
          rw [e2]
          rfl
        have e1 : ((s[k].toNat : Int) == 10) = false := by simpa using hne
        have e2 : ¬ (s[k].toNat : Int) < 32 := by omega
        have e3 : ¬ (126 : Int) < (s[k].toNat : Int) := by omega
        go_wp2
        go_roundw
        case rel => exact ⟨k + 1, c, by omega, hc, rfl, by go_num, HC2, trivial⟩
        case measure => simp [intOf]; omega
    · obtain rfl : k = s.size := by omega
      have hi : ¬ (s.size : Int) < (s.size : Int) := by omega
      have hcm : c = m := by rw [HC.out, ← HH.out.num, List.take_of_length_le (show s.data.toList.length ≤ s.size from Nat.le_refl _)]
      subst hcm
      have e0 : (c : Int) - c = 0 := by omega
      rw [e0]
      rcases HH.out.last with h0 | ⟨h0, hl⟩
      · have e1 : (s.toList == []) = true := by
          have : s.data.toList = [] := List.length_eq_zero_iff.1 h0
          rw [ByteArray.toList_eq, this]; rfl
        clear HC
        go_wp2
        go_ret
        exact ⟨rfl, rfl⟩
      · have e1 : (s.toList == []) = false := by
          cases hq : (s.toList == []) with
          | false => rfl
          | true =>
            have : s.data.toList = [] := by rw [← ByteArray.toList_eq]; simpa using hq
            have e : s.data.toList.length = s.size := rfl
            have h9 : s.size = 0 := by rw [← e, this]; rfl
            omega
        clear HC
        go_wp2
        go_ret
        exact ⟨rfl, rfl⟩
end Go.Proofs.YtchhophblejmeaaGreatDoor
