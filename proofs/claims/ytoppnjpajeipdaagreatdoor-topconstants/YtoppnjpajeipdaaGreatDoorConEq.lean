/- '==' and '!=' between two constants (structs of three fields): all three fields are the same. -/
import Derived.Test.YtoppnjpajeipdaaGreatDoorProg
import Derived.Test.YtoppnjpajeipdaaGreatDoorOrder
import Derived.WalkKit
namespace Go.Proofs.YtoppnjpajeipdaaGreatDoor
set_option linter.unusedSimpArgs false
set_option linter.unusedVariables false
open Go.RowKit

def conEq (a b : Con) : Bool := a.k == b.k && (a.n == b.n && a.s.toList == b.s.toList)

theorem conEq_iff (a b : Con) : conEq a b = true ↔ a = b := by
  unfold conEq
  simp only [Bool.and_eq_true, beq_iff_eq]
  constructor
  · rintro ⟨h1, h2, h3⟩
    cases a; cases b
    simp only at h1 h2 h3
    rw [h1, h2, toList_inj h3]
  · rintro rfl; exact ⟨rfl, rfl, rfl⟩

theorem conEq_cmp (a b : Con) : (cmpC a b == 0) = conEq a b := by
  unfold conEq
  rw [Bool.eq_iff_iff]
  simp only [beq_iff_eq, Bool.and_eq_true]
  exact cmpC_zero a b

theorem conEq_refl (a : Con) : conEq a a = true := (conEq_iff a a).2 rfl

theorem eqCon (a b : Con) (w : World) : (binOp .eql 26 (.agg #[.int .i64 a.k, .int .i64 a.n, .string a.s]) (.agg #[.int .i64 b.k, .int .i64 b.n, .string b.s])).run Tryz.prog w = .ok (.bool (conEq a b)) w := by
  have h1 := run_equalIn_struct (P := Tryz.prog) w 9999 26 #[.int .i64 a.k, .int .i64 a.n, .string a.s] #[.int .i64 b.k, .int .i64 b.n, .string b.s] (by kernel_rfl) (by kernel_rfl)
  simp only [binOp]
  simp only [Op.equal, Op.maxDepth, Sem.run_bind]
  unfold conEq
  by_cases e1 : a.k = b.k
  · by_cases e2 : a.n = b.n
    · by_cases e3 : a.s.toList = b.s.toList
      · go_simp
      · go_simp
    · go_simp
  · go_simp

theorem neqCon (a b : Con) (w : World) : (binOp .neq 26 (.agg #[.int .i64 a.k, .int .i64 a.n, .string a.s]) (.agg #[.int .i64 b.k, .int .i64 b.n, .string b.s])).run Tryz.prog w = .ok (.bool (!conEq a b)) w := by
  have h1 := run_equalIn_struct (P := Tryz.prog) w 9999 26 #[.int .i64 a.k, .int .i64 a.n, .string a.s] #[.int .i64 b.k, .int .i64 b.n, .string b.s] (by kernel_rfl) (by kernel_rfl)
  simp only [binOp]
  simp only [Op.equal, Op.maxDepth, Sem.run_bind]
  unfold conEq
  by_cases e1 : a.k = b.k
  · by_cases e2 : a.n = b.n
    · by_cases e3 : a.s.toList = b.s.toList
      · go_simp
      · go_simp
    · go_simp
  · go_simp
end Go.Proofs.YtoppnjpajeipdaaGreatDoor
