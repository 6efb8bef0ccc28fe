/- What the program's start-up lays, for LintTexts: the tables by which strconv counts digits and bits. -/
import Derived.Test.YtfopnijgkhpoiaaDoorProg
import Derived.Test.YtfopnijgkhpoiaaDoorRows
import Derived.Test.YtfopnijgkhpoiaaDoorFindItoa
import Derived.Lib.LaidTab
import Derived.Lib.LaidU8
import Derived.MakeChecks
import Derived.OpenShut
import Derived.ProofKit
import Derived.LaidMore
import Derived.Stop.Joined
namespace Go.Proofs.YtfopnijgkhpoiaaDoor
set_option linter.unusedSimpArgs false
set_option linter.unusedVariables false
open Go.RowKit

theorem tPow : (Tryd.prog.globals[1]?).map (·.type) = some 65 := by kernel_rfl
theorem laid_tx {W : World} (h : laidMetH Tryd.prog Rows.lintTextsUptoRow.laid W) : TabI W := by
  rw [MakeChecks.laidMetH_plain _ _ _ (by kernel_rfl)] at h
  obtain ⟨g, t, cs, fuel, p, hg, ht, hv, hd⟩ := Lib.laidMet.reads h (show ("internal/strconv.uint64pow10", Rows.laid_internal_strconv_uint64pow10) ∈ Rows.lintTextsUptoRow.laid from .tail _ (.tail _ (.head _)))
  obtain rfl := Option.some.inj (gPowI.symm.trans hg)
  obtain rfl := Option.some.inj (tPow.symm.trans ht)
  have hcs := Lib.cells_of_tab (k := .u64) (zs := Lib.pow10Tab) Tryd.underlying65 Tryd.underlying58 (by kernel_rfl) (by kernel_rfl) hd
  unfold TabI Lib.TabIs
  rw [hv, ← hcs]
end Go.Proofs.YtfopnijgkhpoiaaDoor
