/- What a finding's line says, on plain bytes. -/
import Derived.Test.YtfopnijgkhpoiaaDoorProg
import Derived.Test.YtfopnijgkhpoiaaDoorByteRow
import Derived.Lib.ItoaNum
import Derived.Lib.ItoaLen
namespace Go.Proofs.YtfopnijgkhpoiaaDoor
set_option linter.unusedSimpArgs false
set_option linter.unusedVariables false
open Go.RowKit

def clB : List UInt8 := [99, 108, 97, 117, 115, 101, 32]
/-- A finding's message, by its kind. -/
def msgL (k c o : Int) (nm : List UInt8) : List UInt8 :=
  if k = 1 then clB ++ (Lib.itoa c ++ ([32, 105, 115, 32] ++ (clB ++ (Lib.itoa o ++ [32, 97, 103, 97, 105, 110]))))
  else if k = 2 then clB ++ (Lib.itoa c ++ ([32, 105, 115, 32, 99, 111, 118, 101, 114, 101, 100, 32, 98, 121, 32] ++ (clB ++ Lib.itoa o)))
  else if k = 3 then clB ++ (Lib.itoa c ++ [32, 110, 101, 118, 101, 114, 32, 102, 105, 114, 101, 115])
  else if k = 4 then [118, 97, 114, 105, 97, 98, 108, 101, 32] ++ (nm ++ [32, 115, 116, 97, 110, 100, 115, 32, 111, 110, 99, 101])
  else if k = 5 then [116, 104, 101, 32, 116, 101, 115, 116, 32, 97, 108, 119, 97, 121, 115, 32, 104, 111, 108, 100, 115]
  else if k = 6 then [112, 114, 101, 100, 105, 99, 97, 116, 101, 32] ++ (nm ++ [32, 105, 115, 32, 117, 115, 101, 100, 32, 110, 111, 119, 104, 101, 114, 101])
  else []

theorem itoa_le {n : Int} (h : I64 n) : (Lib.itoa n).length ≤ 21 := by
  have := Lib.itoa_length_le n h.1 h.2
  omega

theorem msgL_len {k c o : Int} {nm : List UInt8} (hc : I64 c) (ho : I64 o) : (msgL k c o nm).length ≤ nm.length + 100 := by
  have h1 := itoa_le hc
  have h2 := itoa_le ho
  unfold msgL clB
  repeat' split
  all_goals simp only [List.length_append, List.length_cons, List.length_nil]
  all_goals omega

theorem arr_list (s : ByteArray) : s = ⟨s.data.toList.toArray⟩ := by
  obtain ⟨a⟩ := s
  simp

theorem cat_run (a b : ByteArray) (h : a.size + b.size ≤ 1000000000000000) (w : World) : (Op.stringOp .add a b).run Tryd.prog w = .ok (.string (a ++ b)) w := by
  have h1 : ¬ (((a.size + b.size : Nat) : Int) > IntKind.i64.max) := by show ¬ _ > (9223372036854775807 : Int); omega
  unfold Op.stringOp
  simp only
  rw [if_neg h1]
  rfl
theorem cat_ar (l m : List UInt8) : (⟨l.toArray⟩ : ByteArray) ++ (⟨m.toArray⟩ : ByteArray) = ⟨(l ++ m).toArray⟩ := by
  have e : ((⟨l.toArray⟩ : ByteArray) ++ (⟨m.toArray⟩ : ByteArray)).data = (l ++ m).toArray := by rw [ByteArray.data_append]; simp
  exact congrArg ByteArray.mk e
theorem ar_size (l : List UInt8) : (⟨l.toArray⟩ : ByteArray).size = l.length := by show l.toArray.size = _; simp

/-- Two strings one behind the other, the whole a letter. -/
theorem cat_is (l m : List UInt8) {a b : ByteArray} (ha : a = ⟨l.toArray⟩) (hb : b = ⟨m.toArray⟩) (h : l.length + m.length ≤ 1000000000000000) :
    ∃ c : ByteArray, c = ⟨(l ++ m).toArray⟩ ∧ ∀ W : World, (Op.stringOp .add a b).run Tryd.prog W = .ok (.string c) W :=
  ⟨_, rfl, fun W => by
    subst ha hb
    rw [cat_run _ _ (by rw [ar_size, ar_size]; exact h), cat_ar]⟩
end Go.Proofs.YtfopnijgkhpoiaaDoor
