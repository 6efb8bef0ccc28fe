/- What spells of edicttop answers at a word. -/
import Derived.Test.YtplldgkdjainlaaDoorProg
import Derived.Test.YtplldgkdjainlaaDoorTopBytes
import Derived.Test.YtplldgkdjainlaaDoorLexEachPure
import Derived.Test.YtplldgkdjainlaaDoorBelowA
import Derived.Test.YtplldgkdjainlaaDoorLexChain2
import Derived.Deep.RegionWith
import Derived.Deep.RegionHeld3
namespace Go.Proofs.YtplldgkdjainlaaDoor
set_option linter.unusedSimpArgs false
set_option linter.unusedVariables false
open Go.RowKit

theorem str_neT {q : ByteArray} (h : 0 < q.size) : (q.toList == []) = false := by
  cases hq : (q.toList == []) with
  | false => rfl
  | true =>
    have h1 : q.toList = [] := by simpa using hq
    rw [ByteArray.toList_eq] at h1
    have h2 : q.data.toList.length = q.size := rfl
    rw [h1] at h2
    simp at h2
    omega
set_option maxRecDepth 100000 in
set_option maxHeartbeats 4000000 in
theorem sp_word1 (q : ByteArray) (o en : Int) (w : World) (h0 : 0 < q.size) (h64 : q.size ≤ 64) (hw : ∀ (i : Nat) (h : i < q.size), bWord (q[i].toNat : Int) = true) (hd : bDig (q[0].toNat : Int) = false) (hl : 97 ≤ (q[0].toNat : Int) ∧ (q[0].toNat : Int) ≤ 122) (hn : (q.toList == [110, 111, 116]) = false) :
    Calls Tryd.prog 14 #[.string q, .agg #[.int .i64 1, .string q, .int .i64 0, .int .i64 0, .int .i64 o, .int .i64 en]] w fun e w' => e = .returned (.bool true) ∧ Below w.heap.size w w' := by
  have hne := str_neT h0
  have heq : (q.toList == q.toList) = true := by simp
  have hnn : (q.toList != [110, 111, 116]) = true := by rw [bne, hn]; rfl
  have h0' : (0 : Int) < (q.size : Int) := by omega
  have h64' : (q.size : Int) ≤ 64 := by omega
  have HW := hide hw
  have HDg := hide (fun W => tdig_any (q[0].toNat : Int) W (by have := q[0].toNat_lt; omega))
  rw [hd] at HDg
  have HBl := hide (belowA w (.cells #[.int .i64 1, .string q, .int .i64 0, .int .i64 0, .int .i64 o, .int .i64 en] 32))
  clear hw hd hnn
  go_enter Tryd.func14, Tryd.ntmps14
  go_wp2
  go_loopw [5] (fun i wl => ∃ j : Nat, j ≤ q.size ∧ i = .int .i64 j ∧ wl = w.alloc (.cells #[.int .i64 1, .string q, .int .i64 0, .int .i64 0, .int .i64 o, .int .i64 en] 32)) (fun i _ => q.size - (intOf i).toNat)
  case atStart => exact ⟨0, by omega, rfl, rfl⟩
  case round =>
    obtain ⟨j, hj, rfl, rfl⟩ := hrel
    by_cases hlt : j < q.size
    · have hi : (j : Int) < (q.size : Int) := by omega
      have hi0 : (0 : Int) ≤ (j : Int) := by omega
      have HWj := hide (fun W => tword_any (q[j].toNat : Int) W (by have := q[j].toNat_lt; omega))
      rw [HW.out j hlt] at HWj
      go_wp2_with (go_at_call 15; refine (HWj.out _).mono ?_; rintro e w' ⟨rfl, hw'⟩; have hw' := hw'.symm; subst hw')
      go_roundw
      case rel => exact ⟨j + 1, by omega, by go_num, trivial⟩
      case measure => simp [intOf]; omega
    · have hi : ¬ (j : Int) < (q.size : Int) := by omega
      obtain ⟨l1, l2⟩ := hl
      go_wp2_with (go_at_call 16; refine (HDg.out _).mono ?_; rintro e w' ⟨rfl, hw'⟩; have hw' := hw'.symm; subst hw')
      go_ret
      exact ⟨rfl, HBl.out⟩

set_option maxRecDepth 100000 in
set_option maxHeartbeats 4000000 in
theorem sp_word2 (q : ByteArray) (o en : Int) (w : World) (h0 : 0 < q.size) (h64 : q.size ≤ 64) (hw : ∀ (i : Nat) (h : i < q.size), bWord (q[i].toNat : Int) = true) (hd : bDig (q[0].toNat : Int) = false) (hl : ¬ (97 ≤ (q[0].toNat : Int) ∧ (q[0].toNat : Int) ≤ 122)) (hn : (q.toList == [110, 111, 116]) = false) :
    Calls Tryd.prog 14 #[.string q, .agg #[.int .i64 2, .string q, .int .i64 0, .int .i64 0, .int .i64 o, .int .i64 en]] w fun e w' => e = .returned (.bool true) ∧ Below w.heap.size w w' := by
  have hne := str_neT h0
  have heq : (q.toList == q.toList) = true := by simp
  have hnn : (q.toList != [110, 111, 116]) = true := by rw [bne, hn]; rfl
  have h0' : (0 : Int) < (q.size : Int) := by omega
  have h64' : (q.size : Int) ≤ 64 := by omega
  have HW := hide hw
  have HDg := hide (fun W => tdig_any (q[0].toNat : Int) W (by have := q[0].toNat_lt; omega))
  rw [hd] at HDg
  have HBl := hide (belowA w (.cells #[.int .i64 2, .string q, .int .i64 0, .int .i64 0, .int .i64 o, .int .i64 en] 32))
  clear hw hd hnn
  go_enter Tryd.func14, Tryd.ntmps14
  go_wp2
  go_loopw [5] (fun i wl => ∃ j : Nat, j ≤ q.size ∧ i = .int .i64 j ∧ wl = w.alloc (.cells #[.int .i64 2, .string q, .int .i64 0, .int .i64 0, .int .i64 o, .int .i64 en] 32)) (fun i _ => q.size - (intOf i).toNat)
  case atStart => exact ⟨0, by omega, rfl, rfl⟩
  case round =>
    obtain ⟨j, hj, rfl, rfl⟩ := hrel
    by_cases hlt : j < q.size
    · have hi : (j : Int) < (q.size : Int) := by omega
      have hi0 : (0 : Int) ≤ (j : Int) := by omega
      have HWj := hide (fun W => tword_any (q[j].toNat : Int) W (by have := q[j].toNat_lt; omega))
      rw [HW.out j hlt] at HWj
      go_wp2_with (go_at_call 15; refine (HWj.out _).mono ?_; rintro e w' ⟨rfl, hw'⟩; have hw' := hw'.symm; subst hw')
      go_roundw
      case rel => exact ⟨j + 1, by omega, by go_num, trivial⟩
      case measure => simp [intOf]; omega
    · have hi : ¬ (j : Int) < (q.size : Int) := by omega
      by_cases l1 : 97 ≤ (q[0].toNat : Int)
      · have l2 : ¬ (q[0].toNat : Int) ≤ 122 := fun h => hl ⟨l1, h⟩
        go_wp2_with (go_at_call 16; refine (HDg.out _).mono ?_; rintro e w' ⟨rfl, hw'⟩; have hw' := hw'.symm; subst hw')
        go_ret
        exact ⟨rfl, HBl.out⟩
      · clear hl
        go_wp2_with (go_at_call 16; refine (HDg.out _).mono ?_; rintro e w' ⟨rfl, hw'⟩; have hw' := hw'.symm; subst hw')
        go_ret
        exact ⟨rfl, HBl.out⟩

end Go.Proofs.YtplldgkdjainlaaDoor
