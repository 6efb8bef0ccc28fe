/- The law's shapesOf: shapes with lists of their own. -/
import Derived.Test.YtgligipgjakecaaDoorAlphaSame
import Derived.Test.YtgligipgjakecaaDoorSpread
import Derived.Deep.RegionHeld3
namespace Go.Proofs.YtgligipgjakecaaDoor
set_option linter.unusedSimpArgs false
set_option linter.unusedVariables false
open Go.RowKit

theorem Tryd.infoShp : (Tryd.prog.info? 25).map (fun i => (i.zero, i.size, i.bytes)) = some (some (.agg #[.int .i64 0, .slice none 0 0]), 2, 32) := by kernel_rfl
theorem Tryd.infoInt10 : (Tryd.prog.info? 3).map (fun i => (i.zero, i.size, i.bytes)) = some (some (.int .i64 0), 1, 8) := by kernel_rfl
theorem take_snoc10 {α : Type} {l : List α} {k : Nat} {x : α} (hx : l[k]? = some x) : l.take (k + 1) = l.take k ++ [x] := by rw [List.take_add_one, hx]; rfl

/-- A shape whose cells were made behind a list lies elsewhere than that list. -/
theorem roe_new {w0 V V' : World} {e : TypeId} {base : Nat} {m v : Value} {L : List Roe} {l : List Int} {t : TypeId} {q : Int} (hm : Grow elRoe t base w0 m L) (hb : base ≤ w0.heap.size) (hq : I64 q) (hl : l.length < 1073741824) (h : Grow elInt e w0.heap.size V v l) (hV : Below V.heap.size V V') :
    elRoe.ok V' (fun b => base ≤ b ∧ m.ownBlock ≠ some b) ⟨q, v, l⟩ :=
  ⟨hq, (h.new hl).move fun b hlt hF => ⟨⟨Nat.le_trans hb hF, fun e => by have := own_lt6 hm.1 b e; omega⟩, hV.block b hlt⟩⟩

end Go.Proofs.YtgligipgjakecaaDoor
