/- strconv.index, strconv.contains, utf8.ValidString: their contracts. -/
import Derived.Test.YtoppnjpajeipdaaGreatDoorProg
import Derived.Test.YtoppnjpajeipdaaGreatDoorUnqIdx
import Derived.Test.YtoppnjpajeipdaaGreatDoorUnqChar
import Derived.Shelf.Unicode.ValidAny
namespace Go.Proofs.YtoppnjpajeipdaaGreatDoor
set_option linter.unusedSimpArgs false
set_option linter.unusedVariables false
open Go.RowKit

set_option maxRecDepth 100000 in
theorem index_any (s : ByteArray) (c : Int) (w : World) :
    Calls Tryz.prog 71 #[.string s, .int .u8 c] w fun e w' => e = .returned (.int .i64 (idxZ s c)) ∧ w' = w := by
  unfold idxZ
  go_enter Tryz.func71, Tryz.ntmps71
  go_wp2
  rw [run_callFunc_extern Tryz.func89 (by kernel_rfl) (by kernel_rfl) (by kernel_rfl) (e := Extern.BytealgIndexByte.indexByte) (by kernel_rfl), Lib.run_indexByteString]
  simp only [Result.andThen]
  rw [Oper.upon_value]
  go_wp2
  go_ret
  exact ⟨rfl, rfl⟩

theorem contains_no (s : ByteArray) (c : Int) (w : World) (h : idxZ s c = -1) :
    Calls Tryz.prog 72 #[.string s, .int .u8 c] w fun e w' => e = .returned (.bool false) ∧ w' = w := by
  have HI := hide (index_any s c w)
  rw [h] at HI
  clear h
  go_enter Tryz.func72, Tryz.ntmps72
  go_wp2_with (go_at_call 71; refine HI.out.mono ?_; rintro e w' ⟨rfl, hw'⟩; have hw' := hw'.symm; subst hw')
  go_ret
  exact ⟨rfl, rfl⟩
theorem contains_yes (s : ByteArray) (c : Int) (w : World) (j : Nat) (h : idxZ s c = j) :
    Calls Tryz.prog 72 #[.string s, .int .u8 c] w fun e w' => e = .returned (.bool true) ∧ w' = w := by
  have HI := hide (index_any s c w)
  rw [h] at HI
  have hj : (0 : Int) ≤ (j : Int) := by omega
  have hne : ((j : Int) == -1) = false := by simp
  clear h
  go_enter Tryz.func72, Tryz.ntmps72
  go_wp2_with (go_at_call 71; refine HI.out.mono ?_; rintro e w' ⟨rfl, hw'⟩; have hw' := hw'.symm; subst hw')
  go_ret
  exact ⟨rfl, rfl⟩
/-- Whether c stands in s. -/
def hasC (s : ByteArray) (c : Int) : Bool := !(idxZ s c == -1)
theorem contains_any (s : ByteArray) (c : Int) (hc : 0 ≤ c ∧ c ≤ 255) (w : World) :
    Calls Tryz.prog 72 #[.string s, .int .u8 c] w fun e w' => e = .returned (.bool (hasC s c)) ∧ w' = w := by
  rcases idx_ints s c hc with ⟨j, e, _⟩ | ⟨e, _⟩
  · have : hasC s c = true := by unfold hasC; rw [e]; simp
    rw [this]; exact contains_yes s c w j e
  · have : hasC s c = false := by unfold hasC; rw [e]; rfl
    rw [this]; exact contains_no s c w e
theorem hasC_no {s : ByteArray} {c : Int} (h : hasC s c = false) : idxZ s c = -1 := by
  unfold hasC at h
  simpa using h
theorem valid8_any (s : ByteArray) (w : World) (hs : s.size ≤ 140737488351232) (ht : UtfLaid w) :
    Calls Tryz.prog 73 #[.string s] w fun e w' => e = .returned (.bool (Lib.validD s.data.toList)) ∧ Below w.heap.size w w' :=
  Any.utf8_ValidString Tryz.lays196 s w (by omega) ht
theorem UtfLaid.kept {w w' : World} (h : UtfLaid w) (hb : Below w.heap.size w w') : UtfLaid w' := Utf8Tabs_below h hb
end Go.Proofs.YtoppnjpajeipdaaGreatDoor
