/- What the document's own Bytes and Compare (edictref01) answer at every argument: the same order as Order.lean's. -/
import Derived.Test.YthhoiejjejdffaaCmp
namespace Go.Proofs.Ythhoiejjejdffaa
set_option linter.unusedSimpArgs false
set_option linter.unusedVariables false
open Go.RowKit

theorem cmpL_drop (a b : List UInt8) (k : Nat) (h : a.take k = b.take k) : cmpL a b = cmpL (a.drop k) (b.drop k) := by
  have h1 : a = a.take k ++ a.drop k := (List.take_append_drop k a).symm
  have h2 : b = a.take k ++ b.drop k := by rw [h]; exact (List.take_append_drop k b).symm
  generalize a.take k = p at h1 h2
  generalize a.drop k = x at h1 ⊢
  generalize b.drop k = y at h2 ⊢
  rw [h1, h2, cmpL_pre]

theorem toList_len (a : ByteArray) : a.toList.length = a.size := by rw [ByteArray.toList_eq]; rfl

theorem drop_byte (a : ByteArray) (k : Nat) (h : k < a.size) : a.toList.drop k = a[k] :: a.toList.drop (k + 1) := by
  rw [ByteArray.toList_eq]
  rw [List.drop_eq_getElem_cons (by simpa using h)]
  rfl

theorem take_byte (a : ByteArray) (k : Nat) (h : k < a.size) : a.toList.take (k + 1) = a.toList.take k ++ [a[k]] := by
  rw [ByteArray.toList_eq]
  rw [List.take_succ_eq_append_getElem (by simpa using h)]
  rfl

theorem bytes_lt (a b : ByteArray) (k : Nat) (h : a.toList.take k = b.toList.take k) (ha : k < a.size) (hb : k < b.size) (hl : (a[k].toNat : Int) < (b[k].toNat : Int)) : cmpL a.toList b.toList = -1 := by
  rw [cmpL_drop _ _ k h, drop_byte a k ha, drop_byte b k hb, cmpL, if_pos (by rw [u8_lt]; omega)]
theorem bytes_gt (a b : ByteArray) (k : Nat) (h : a.toList.take k = b.toList.take k) (ha : k < a.size) (hb : k < b.size) (hl : (b[k].toNat : Int) < (a[k].toNat : Int)) : cmpL a.toList b.toList = 1 := by
  rw [cmpL_drop _ _ k h, drop_byte a k ha, drop_byte b k hb, cmpL, if_neg (by rw [u8_lt]; omega), if_pos (by rw [u8_lt]; omega)]
theorem bytes_same (a b : ByteArray) (k : Nat) (h : a.toList.take k = b.toList.take k) (ha : k < a.size) (hb : k < b.size) (h1 : ¬ (a[k].toNat : Int) < (b[k].toNat : Int)) (h2 : ¬ (b[k].toNat : Int) < (a[k].toNat : Int)) : a.toList.take (k + 1) = b.toList.take (k + 1) := by
  rw [take_byte a k ha, take_byte b k hb, h, u8_eq (x := a[k]) (y := b[k]) (by omega)]
theorem bytes_end (a b : ByteArray) (k : Nat) (h : a.toList.take k = b.toList.take k) (ha : a.size ≤ k) (hb : k < b.size) : cmpL a.toList b.toList = -1 := by
  rw [cmpL_drop _ _ k h, drop_byte b k hb, List.drop_of_length_le (by rw [toList_len]; omega)]; rfl
theorem bytes_end2 (a b : ByteArray) (k : Nat) (h : a.toList.take k = b.toList.take k) (ha : k < a.size) (hb : b.size ≤ k) : cmpL a.toList b.toList = 1 := by
  rw [cmpL_drop _ _ k h, drop_byte a k ha, List.drop_of_length_le (l := b.toList) (by rw [toList_len]; omega)]; rfl
theorem bytes_end3 (a b : ByteArray) (k : Nat) (h : a.toList.take k = b.toList.take k) (ha : a.size ≤ k) (hb : b.size ≤ k) : cmpL a.toList b.toList = 0 := by
  rw [cmpL_drop _ _ k h, List.drop_of_length_le (by rw [toList_len]; omega), List.drop_of_length_le (by rw [toList_len]; omega)]; rfl


set_option maxHeartbeats 1000000 in
theorem refBytes_any (a b : ByteArray) (w : World) (sa : a.size ≤ maxLen) (sb : b.size ≤ maxLen) :
    Calls Try.prog 92 #[.string a, .string b] w fun e w' => e = .returned (.int .i64 (cmpL a.toList b.toList)) ∧ ∃ n, w' = w.drewN n := by
  unfold maxLen at sa sb
  go_enter Try.func92, Try.ntmps92
  go_wp2
  go_loopw [5] (fun i wr => ∃ k : Nat, k ≤ a.size ∧ k ≤ b.size ∧ i = .int .i64 k ∧ Hid (a.toList.take k = b.toList.take k) ∧ ∃ n, wr = w.drewN n) (fun i _ => a.size - (intOf i).toNat)
  case atStart => exact ⟨0, Nat.zero_le _, Nat.zero_le _, rfl, rfl, 0, rfl⟩
  case round =>
    obtain ⟨k, hka, hkb, rfl, H, n, rfl⟩ := hrel
    by_cases ha : k < a.size
    · by_cases hb : k < b.size
      · have hai : (k : Int) < (a.size : Int) := by omega
        have hbi : (k : Int) < (b.size : Int) := by omega
        go_wp2
        go_quiet (fail)
        by_cases h1 : (a[k].toNat : Int) < (b[k].toNat : Int)
        · go_wp2
          go_ret
          exact ⟨by rw [bytes_lt a b k H.out ha hb h1]; rfl, _, World.drewN_drewN _ _ _⟩
        · go_wp2
          go_quiet (fail)
          by_cases h2 : (b[k].toNat : Int) < (a[k].toNat : Int)
          · go_wp2
            go_ret
            exact ⟨by rw [bytes_gt a b k H.out ha hb h2]; rfl, _, World.drewN_drewN _ _ _⟩
          · go_wp2
            go_roundw
            case rel => exact ⟨k + 1, by omega, by omega, by go_num, bytes_same a b k H.out ha hb (by omega) (by omega), _, rfl⟩
            case measure => simp [intOf]; omega
      · have hbi : ¬ (k : Int) < (b.size : Int) := by omega
        have e : k = b.size := by omega
        have hgt : (b.size : Int) < (a.size : Int) := by omega
        go_wp2
        go_ret
        exact ⟨by rw [bytes_end2 a b k H.out ha (by omega)]; rfl, n, rfl⟩
    · by_cases hb : k < b.size
      · have hlt : (a.size : Int) < (b.size : Int) := by omega
        go_wp2
        go_ret
        exact ⟨by rw [bytes_end a b k H.out (by omega) hb]; rfl, n, rfl⟩
      · have hlt : ¬ (a.size : Int) < (b.size : Int) := by omega
        have hlt2 : ¬ (b.size : Int) < (a.size : Int) := by omega
        go_wp2
        go_ret
        exact ⟨by rw [bytes_end3 a b k H.out (by omega) (by omega)]; rfl, n, rfl⟩

set_option maxHeartbeats 1000000 in
theorem refCompare_any (a b : Con) (w : World) (sa : a.s.size ≤ maxLen) (sb : b.s.size ≤ maxLen) :
    Calls Try.prog 74 #[a.val, b.val] w fun e w' => e = .returned (.int .i64 (cmpC a b)) ∧ Below w.heap.size w w' := by
  have hc := cmpC_cases a b
  obtain ⟨k, n, s⟩ := a
  obtain ⟨k', n', s'⟩ := b
  unfold Con.val
  simp only at hc sa sb
  rcases hc with ⟨h1, e⟩ | ⟨h1, e⟩ | ⟨h0, h1, e⟩ | ⟨h0, h1, e⟩ | ⟨h0, h1, e⟩
  all_goals have H := hide e
  all_goals clear e
  · have e1 : (k != k') = true := by simp; omega
    go_enter Try.func74, Try.ntmps74
    go_wp2
    go_ret
    exact ⟨by rw [H.out]; rfl, ((Below.refl _ _).alloc (Nat.le_refl _) _).alloc (by simp) _⟩
  · have e1 : (k != k') = true := by simp; omega
    have e2 : ¬ k < k' := by omega
    go_enter Try.func74, Try.ntmps74
    go_wp2
    go_ret
    exact ⟨by rw [H.out]; rfl, ((Below.refl _ _).alloc (Nat.le_refl _) _).alloc (by simp) _⟩
  · subst h0
    have e1 : (k != k) = false := by simp
    have e2 : (n != n') = true := by simp; omega
    go_enter Try.func74, Try.ntmps74
    go_wp2
    go_ret
    exact ⟨by rw [H.out]; rfl, ((Below.refl _ _).alloc (Nat.le_refl _) _).alloc (by simp) _⟩
  · subst h0
    have e1 : (k != k) = false := by simp
    have e2 : (n != n') = true := by simp; omega
    have e3 : ¬ n < n' := by omega
    go_enter Try.func74, Try.ntmps74
    go_wp2
    go_ret
    exact ⟨by rw [H.out]; rfl, ((Below.refl _ _).alloc (Nat.le_refl _) _).alloc (by simp) _⟩
  · subst h0
    subst h1
    have e1 : (k != k) = false := by simp
    have e2 : (n != n) = false := by simp
    go_enter Try.func74, Try.ntmps74
    go_wp2_with (go_at_call 92; refine (refBytes_any _ _ _ sa sb).mono ?_; rintro e w' ⟨rfl, m, rfl⟩)
    go_ret
    exact ⟨by rw [H.out]; rfl, (((Below.refl _ _).alloc (Nat.le_refl _) _).alloc (by simp) _).trans (below_drewN _ _ _)⟩
end Go.Proofs.Ythhoiejjejdffaa
