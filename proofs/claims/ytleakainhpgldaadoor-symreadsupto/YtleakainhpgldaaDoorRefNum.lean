/- The document's number: the integer that digits tell. -/
import Derived.Test.YtleakainhpgldaaDoorProg
import Derived.Test.YtleakainhpgldaaDoorReadPure
namespace Go.Proofs.YtleakainhpgldaaDoor
set_option linter.unusedSimpArgs false
set_option linter.unusedVariables false
open Go.RowKit

/-- The value of digits, one behind the other. -/
def valN : List UInt8 → Nat → Nat
  | [], a => a
  | b :: r, a => valN r (10 * a + (b.toNat - 48))
theorem valN_app (l r : List UInt8) (a : Nat) : valN (l ++ r) a = valN r (valN l a) := by
  induction l generalizing a with
  | nil => rfl
  | cons b t ih => exact ih _
theorem valN_dec : ∀ u : Nat, valN (Lib.decDigits u) 0 = u := by
  intro u
  induction u using Nat.strongRecOn with
  | ind u ih =>
    rw [Lib.decDigits]
    split
    · next h =>
      show valN [] (10 * 0 + ((UInt8.ofNat (48 + u)).toNat - 48)) = u
      rw [dig_nat h]
      show 10 * 0 + (48 + u - 48) = u
      omega
    · next h =>
      rw [valN_app, ih (u / 10) (by omega)]
      show valN [] (10 * (u / 10) + ((UInt8.ofNat (48 + u % 10)).toNat - 48)) = u
      rw [dig_nat (by omega)]
      show 10 * (u / 10) + (48 + u % 10 - 48) = u
      omega
theorem valN_mono : ∀ (l : List UInt8) (a : Nat), a ≤ valN l a
  | [], a => Nat.le_refl _
  | b :: r, a => Nat.le_trans (by omega) (valN_mono r (10 * a + (b.toNat - 48)))

/-- What the loop keeps, where the string is an integer's text. -/
def NInv (s : ByteArray) (k : Nat) (v : Int) : Prop := ∀ n : Int, I64 n → s.data.toList = Lib.itoa n → v = -(valN ((s.data.toList.drop (if n < 0 then 1 else 0)).take (k - (if n < 0 then 1 else 0))) 0 : Int)

theorem itoa_abs (n : Int) : (Lib.itoa n).drop (if n < 0 then 1 else 0) = Lib.decDigits n.natAbs := by
  unfold Lib.itoa
  by_cases h : n < 0
  · rw [if_pos h, if_pos h]; rfl
  · rw [if_neg h, if_neg h, show n.toNat = n.natAbs from by omega]; rfl

theorem NInv.start {s : ByteArray} : NInv s 0 0 := fun n _ e => by simp [valN]
theorem wrap64_id {x : Int} (h : I64 x) : wrap64 x = x := by unfold I64 at h; unfold wrap64; omega
/-- A digit more. -/
theorem NInv.digit {s : ByteArray} {k : Nat} {v : Int} (h : NInv s k v) (hk : k < s.size) (hd : 48 ≤ s[k].toNat ∧ s[k].toNat ≤ 57) : NInv s (k + 1) (wrap64 (wrap64 (10 * v) - ((s[k].toNat : Int) - 48))) := by
  intro n hn e
  have hv := h n hn e
  generalize hj : (if n < 0 then 1 else 0) = j at *
  have hds : s.data.toList.drop j = Lib.decDigits n.natAbs := by rw [e, ← hj, itoa_abs]
  have hsk : s.data.toList[k]? = some s[k] := by rw [List.getElem?_eq_getElem (by simpa using hk)]; rfl
  have hjk : j ≤ k := by
    rcases Nat.lt_or_ge k j with hlt | hge
    · exfalso
      by_cases h0 : n < 0
      · rw [if_pos h0] at hj
        have hk0 : k = 0 := by omega
        subst hk0
        rw [e] at hsk
        unfold Lib.itoa at hsk
        rw [if_pos h0] at hsk
        simp at hsk
        rw [← hsk] at hd
        exact absurd hd.1 (by decide)
      · rw [if_neg h0] at hj; omega
    · exact hge
  have hstep : (s.data.toList.drop j).take (k + 1 - j) = (s.data.toList.drop j).take (k - j) ++ [s[k]] := by
    rw [show k + 1 - j = (k - j) + 1 by omega, List.take_add_one, List.getElem?_drop, show j + (k - j) = k by omega, hsk]
    rfl
  have hle : valN ((s.data.toList.drop j).take (k + 1 - j)) 0 ≤ n.natAbs := by
    have h1 := valN_dec n.natAbs
    rw [← hds] at h1
    have h2 : s.data.toList.drop j = (s.data.toList.drop j).take (k + 1 - j) ++ (s.data.toList.drop j).drop (k + 1 - j) := (List.take_append_drop _ _).symm
    rw [h2, valN_app] at h1
    have h3 := valN_mono ((s.data.toList.drop j).drop (k + 1 - j)) (valN ((s.data.toList.drop j).take (k + 1 - j)) 0)
    omega
  rw [hstep, valN_app] at hle ⊢
  generalize valN ((s.data.toList.drop j).take (k - j)) 0 = A at *
  have hz : valN [s[k]] A = 10 * A + (s[k].toNat - 48) := rfl
  rw [hz] at hle ⊢
  unfold I64 at hn
  subst hv
  rw [wrap64_id (x := 10 * -(A : Int)) (by unfold I64; omega), wrap64_id (by unfold I64; omega)]
  omega
theorem NInv.other {s : ByteArray} {k : Nat} {v : Int} (h : NInv s k v) (hk : k < s.size) (hd : ¬ (48 ≤ s[k].toNat ∧ s[k].toNat ≤ 57)) : NInv s (k + 1) v := by
  intro n hn e
  have hv := h n hn e
  have hsk : s.data.toList[k]? = some s[k] := by rw [List.getElem?_eq_getElem (by simpa using hk)]; rfl
  by_cases h0 : n < 0
  · rw [if_pos h0] at hv ⊢
    by_cases hk0 : k = 0
    · subst hk0
      simp [valN] at hv ⊢
      exact hv
    · exfalso
      have hm : s[k] ∈ Lib.decDigits n.natAbs := by
        have := itoa_abs n
        rw [if_pos h0, ← e] at this
        rw [← this]
        refine List.mem_of_getElem? (i := k - 1) ?_
        rw [List.getElem?_drop, show 1 + (k - 1) = k by omega, hsk]
      exact hd (dec_digs _ _ hm)
  · exfalso
    have hm : s[k] ∈ Lib.decDigits n.natAbs := by
      have := itoa_abs n
      rw [if_neg h0, ← e] at this
      rw [← this]
      refine List.mem_of_getElem? (i := k) ?_
      rw [List.getElem?_drop, Nat.zero_add, hsk]
    exact hd (dec_digs _ _ hm)
/-- At the end. -/
theorem NInv.done {s : ByteArray} {k : Nat} {v : Int} (h : NInv s k v) (hk : s.size ≤ k) (n : Int) (hn : I64 n) (e : s.data.toList = Lib.itoa n) : v = -(n.natAbs : Int) := by
  rw [h n hn e]
  have hl : s.data.toList.length = s.size := rfl
  rw [List.take_of_length_le (by rw [List.length_drop]; omega), e, itoa_abs, valN_dec]
end Go.Proofs.YtleakainhpgldaaDoor
