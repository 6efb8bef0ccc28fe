/- edictlaw08.ints, equalEdges, equalInts: a copy; the same lists are the same. -/
import Derived.Test.YtmbkjgfnnpopgabEdgeMem
import Derived.Test.YtmbkjgfnnpopgabOverAt
namespace Go.Proofs.Ytmbkjgfnnpopgab
set_option linter.unusedSimpArgs false
set_option linter.unusedVariables false
open Go.RowKit


theorem neqEdg (a : Edg) (w : World) : (binOp .neq 44 (.agg #[.int .i64 a.f, .int .i64 a.t, .bool a.neg, .int .i64 a.r]) (.agg #[.int .i64 a.f, .int .i64 a.t, .bool a.neg, .int .i64 a.r])).run Try.prog w = .ok (.bool false) w := by
  have h1 := run_equalIn_struct (P := Try.prog) w 9999 44 #[.int .i64 a.f, .int .i64 a.t, .bool a.neg, .int .i64 a.r] #[.int .i64 a.f, .int .i64 a.t, .bool a.neg, .int .i64 a.r] (by kernel_rfl) (by kernel_rfl)
  simp only [binOp]
  simp only [Op.equal, Op.maxDepth, Sem.run_bind]
  go_simp


end Go.Proofs.Ytmbkjgfnnpopgab
