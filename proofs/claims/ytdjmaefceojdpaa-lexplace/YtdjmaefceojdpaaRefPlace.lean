/- The document's Place, at every text and every offset: line and column by one walk over the bytes ahead. -/
import Derived.Test.YtdjmaefceojdpaaProg
import Derived.Test.YtdjmaefceojdpaaOpen
import Derived.WalkSpells
import Derived.WalkLawsBesides
namespace Go.Proofs.Ytdjmaefceojdpaa
set_option linter.unusedSimpArgs false
set_option linter.unusedVariables false
open Go.RowKit

def stepP (p : Nat × Nat) (b : UInt8) : Nat × Nat := if b.toNat = 10 then (p.1 + 1, 1) else (p.1, p.2 + 1)
def placeL (l : List UInt8) : Nat × Nat := l.foldl stepP (1, 1)

theorem placeL_snoc (l : List UInt8) (b : UInt8) : placeL (l ++ [b]) = stepP (placeL l) b := by
  unfold placeL; rw [List.foldl_append]; rfl

theorem takeB_snoc (s : ByteArray) (k : Nat) (h : k < s.size) : s.data.toList.take (k + 1) = s.data.toList.take k ++ [s[k]] := by
  rw [List.take_succ_eq_append_getElem (by simpa using h)]
  rfl

theorem placeL_le (s : ByteArray) : ∀ k : Nat, k ≤ s.size → (placeL (s.data.toList.take k)).1 ≤ k + 1 ∧ (placeL (s.data.toList.take k)).2 ≤ k + 1 ∧ 1 ≤ (placeL (s.data.toList.take k)).1 ∧ 1 ≤ (placeL (s.data.toList.take k)).2
  | 0, _ => ⟨Nat.le_refl _, Nat.le_refl _, Nat.le_refl _, Nat.le_refl _⟩
  | k + 1, h => by
    obtain ⟨a, b, c, d⟩ := placeL_le s k (by omega)
    rw [takeB_snoc s k (by omega), placeL_snoc]
    unfold stepP
    split <;> refine ⟨?_, ?_, ?_, ?_⟩ <;> simp <;> omega

def placeW (s : ByteArray) (off : Int) : Int × Int :=
  if s.size ≤ 65536 ∧ 0 ≤ off ∧ off ≤ s.size then (((placeL (s.data.toList.take off.toNat)).1 : Int), ((placeL (s.data.toList.take off.toNat)).2 : Int)) else (0, 0)

theorem ret_two {a b c d : Int} (h1 : a = c) (h2 : b = d) : Ending.returned (.tuple #[.int .i64 a, .int .i64 b]) = .returned (.tuple #[.int .i64 c, .int .i64 d]) := by rw [h1, h2]

set_option maxHeartbeats 400000 in
theorem refPlace_any (s : ByteArray) (off : Int) (w : World) (hs : s.size ≤ 140737488351232) (ho : -9223372036854775808 ≤ off ∧ off ≤ 9223372036854775807) :
    Calls Try.prog 28 #[.string s, .int .i64 off] w fun e w' => e = .returned (.tuple #[.int .i64 (placeW s off).1, .int .i64 (placeW s off).2]) ∧ w' = w := by
  by_cases hl : (65536 : Int) < (s.size : Int)
  · rw [show placeW s off = (0, 0) from if_neg (by omega)]
    go_enter Try.func28, Try.ntmps28
    go_wp2
    go_ret2
    exact ⟨rfl, rfl⟩
  by_cases hn : off < 0
  · rw [show placeW s off = (0, 0) from if_neg (by omega)]
    go_enter Try.func28, Try.ntmps28
    go_wp2
    go_ret2
    exact ⟨rfl, rfl⟩
  by_cases hg : (s.size : Int) < off
  · rw [show placeW s off = (0, 0) from if_neg (by omega)]
    go_enter Try.func28, Try.ntmps28
    go_wp2
    go_ret2
    exact ⟨rfl, rfl⟩
  obtain ⟨o, rfl⟩ : ∃ o : Nat, off = o := ⟨off.toNat, by omega⟩
  have hR : Hid (placeW s (o : Int) = (((placeL (s.data.toList.take o)).1 : Int), ((placeL (s.data.toList.take o)).2 : Int))) := by
    show placeW s (o : Int) = _
    exact if_pos ⟨by omega, by omega, by omega⟩
  rw [hR.out]
  clear ho
  go_enter Try.func28, Try.ntmps28
  go_wp2
  go_loop [6, 7, 8] (fun a b i => ∃ k : Nat, k ≤ o ∧ i = .int .i64 k ∧ a = .int .i64 ((placeL (s.data.toList.take k)).1 : Nat) ∧ b = .int .i64 ((placeL (s.data.toList.take k)).2 : Nat)) (fun _ _ i => o - (intOf i).toNat)
  case atStart => exact ⟨0, Nat.zero_le _, rfl, rfl, rfl⟩
  case round =>
    obtain ⟨k, hk, rfl, rfl, rfl⟩ := hrel
    by_cases hlt : k < o
    · have hi : (k : Int) < (o : Int) := by omega
      have hks : k < s.size := by omega
      have hks' : (k : Int) < (s.size : Int) := by omega
      obtain ⟨b1, b2, b3, b4⟩ := placeL_le s k (by omega)
      have hq := hide (placeL_snoc (s.data.toList.take k) s[k])
      have hq2 := hide (takeB_snoc s k hks)
      generalize hP : placeL (s.data.toList.take k) = P at *
      obtain ⟨x, y⟩ := P
      replace hP := hide hP
      simp only at b1 b2 b3 b4
      by_cases hb : (s[k].toNat : Int) = 10
      · have e : ((s[k].toNat : Int) == 10) = true := by simpa using hb
        have hq3 : Hid (placeL (s.data.toList.take (k + 1)) = (x + 1, 1)) := by
          show _ = _
          rw [hq2.out, hq.out]; exact if_pos (by omega)
        go_wp2
        go_round
        case rel => exact ⟨k + 1, by omega, by go_num, by rw [hq3.out]; go_num, by rw [hq3.out]; rfl⟩
        case measure => simp [intOf]; omega
      · have e : ((s[k].toNat : Int) == 10) = false := by simpa using hb
        have hq3 : Hid (placeL (s.data.toList.take (k + 1)) = (x, y + 1)) := by
          show _ = _
          rw [hq2.out, hq.out]; exact if_neg (by omega)
        go_wp2
        go_round
        case rel => exact ⟨k + 1, by omega, by go_num, by rw [hq3.out], by rw [hq3.out]; go_num⟩
        case measure => simp [intOf]; omega
    · have hi : ¬ (k : Int) < (o : Int) := by omega
      obtain rfl : k = o := by omega
      go_wp2
      go_ret2
      exact ⟨rfl, rfl⟩

end Go.Proofs.Ytdjmaefceojdpaa
