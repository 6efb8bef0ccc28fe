/- What spells of edicttop answers at a mark or an operator. -/
import Derived.Test.YtplldgkdjainlaaDoorProg
import Derived.Test.YtplldgkdjainlaaDoorTopSpW
namespace Go.Proofs.YtplldgkdjainlaaDoor
set_option linter.unusedSimpArgs false
set_option linter.unusedVariables false
open Go.RowKit

def topMarks : List Value := [.string ⟨#[]⟩, .string ⟨#[]⟩, .string ⟨#[]⟩, .string ⟨#[]⟩, .string ⟨#[]⟩, .string ⟨#[40]⟩, .string ⟨#[41]⟩, .string ⟨#[44]⟩, .string ⟨#[46]⟩, .string ⟨#[58, 45]⟩, .string ⟨#[110, 111, 116]⟩, .string ⟨#[]⟩]
def topOps : List Value := [.string ⟨#[]⟩, .string ⟨#[61]⟩, .string ⟨#[33, 61]⟩, .string ⟨#[60]⟩, .string ⟨#[60, 61]⟩, .string ⟨#[62]⟩, .string ⟨#[62, 61]⟩]
/-- The tables of spellings as the program's text lays them. -/
structure TopLaid (w : World) : Prop where
  marks : ∀ (i : Nat) v, topMarks[i]? = some v → w.cell? ⟨1, i, none⟩ = some v
  ops : ∀ (i : Nat) v, topOps[i]? = some v → w.cell? ⟨0, i, none⟩ = some v
theorem TopLaid.kept {w w' : World} (h : TopLaid w) (hb : Below w.heap.size w w') : TopLaid w' :=
  ⟨fun i v hv => kept_cell hb (h.marks i v hv), fun i v hv => kept_cell hb (h.ops i v hv)⟩

set_option maxRecDepth 100000 in
set_option maxHeartbeats 4000000 in
theorem sp_mark5 (o en : Int) (w : World) (ht : TopLaid w) :
    Calls Tryd.prog 14 #[.string ⟨#[40]⟩, .agg #[.int .i64 5, .string ⟨#[]⟩, .int .i64 0, .int .i64 0, .int .i64 o, .int .i64 en]] w fun e w' => e = .returned (.bool true) ∧ Below w.heap.size w w' := by
  have c0 := kept_cell (belowA w (.cells #[.int .i64 5, .string ⟨#[]⟩, .int .i64 0, .int .i64 0, .int .i64 o, .int .i64 en] 32)) (ht.marks 5 _ rfl)
  have HBl := hide (belowA w (.cells #[.int .i64 5, .string ⟨#[]⟩, .int .i64 0, .int .i64 0, .int .i64 o, .int .i64 en] 32))
  clear ht
  go_enter Tryd.func14, Tryd.ntmps14
  go_wp2
  go_ret
  exact ⟨rfl, HBl.out⟩

set_option maxRecDepth 100000 in
set_option maxHeartbeats 4000000 in
theorem sp_mark6 (o en : Int) (w : World) (ht : TopLaid w) :
    Calls Tryd.prog 14 #[.string ⟨#[41]⟩, .agg #[.int .i64 6, .string ⟨#[]⟩, .int .i64 0, .int .i64 0, .int .i64 o, .int .i64 en]] w fun e w' => e = .returned (.bool true) ∧ Below w.heap.size w w' := by
  have c0 := kept_cell (belowA w (.cells #[.int .i64 6, .string ⟨#[]⟩, .int .i64 0, .int .i64 0, .int .i64 o, .int .i64 en] 32)) (ht.marks 6 _ rfl)
  have HBl := hide (belowA w (.cells #[.int .i64 6, .string ⟨#[]⟩, .int .i64 0, .int .i64 0, .int .i64 o, .int .i64 en] 32))
  clear ht
  go_enter Tryd.func14, Tryd.ntmps14
  go_wp2
  go_ret
  exact ⟨rfl, HBl.out⟩

set_option maxRecDepth 100000 in
set_option maxHeartbeats 4000000 in
theorem sp_mark7 (o en : Int) (w : World) (ht : TopLaid w) :
    Calls Tryd.prog 14 #[.string ⟨#[44]⟩, .agg #[.int .i64 7, .string ⟨#[]⟩, .int .i64 0, .int .i64 0, .int .i64 o, .int .i64 en]] w fun e w' => e = .returned (.bool true) ∧ Below w.heap.size w w' := by
  have c0 := kept_cell (belowA w (.cells #[.int .i64 7, .string ⟨#[]⟩, .int .i64 0, .int .i64 0, .int .i64 o, .int .i64 en] 32)) (ht.marks 7 _ rfl)
  have HBl := hide (belowA w (.cells #[.int .i64 7, .string ⟨#[]⟩, .int .i64 0, .int .i64 0, .int .i64 o, .int .i64 en] 32))
  clear ht
  go_enter Tryd.func14, Tryd.ntmps14
  go_wp2
  go_ret
  exact ⟨rfl, HBl.out⟩

set_option maxRecDepth 100000 in
set_option maxHeartbeats 4000000 in
theorem sp_mark8 (o en : Int) (w : World) (ht : TopLaid w) :
    Calls Tryd.prog 14 #[.string ⟨#[46]⟩, .agg #[.int .i64 8, .string ⟨#[]⟩, .int .i64 0, .int .i64 0, .int .i64 o, .int .i64 en]] w fun e w' => e = .returned (.bool true) ∧ Below w.heap.size w w' := by
  have c0 := kept_cell (belowA w (.cells #[.int .i64 8, .string ⟨#[]⟩, .int .i64 0, .int .i64 0, .int .i64 o, .int .i64 en] 32)) (ht.marks 8 _ rfl)
  have HBl := hide (belowA w (.cells #[.int .i64 8, .string ⟨#[]⟩, .int .i64 0, .int .i64 0, .int .i64 o, .int .i64 en] 32))
  clear ht
  go_enter Tryd.func14, Tryd.ntmps14
  go_wp2
  go_ret
  exact ⟨rfl, HBl.out⟩

set_option maxRecDepth 100000 in
set_option maxHeartbeats 4000000 in
theorem sp_mark9 (o en : Int) (w : World) (ht : TopLaid w) :
    Calls Tryd.prog 14 #[.string ⟨#[58, 45]⟩, .agg #[.int .i64 9, .string ⟨#[]⟩, .int .i64 0, .int .i64 0, .int .i64 o, .int .i64 en]] w fun e w' => e = .returned (.bool true) ∧ Below w.heap.size w w' := by
  have c0 := kept_cell (belowA w (.cells #[.int .i64 9, .string ⟨#[]⟩, .int .i64 0, .int .i64 0, .int .i64 o, .int .i64 en] 32)) (ht.marks 9 _ rfl)
  have HBl := hide (belowA w (.cells #[.int .i64 9, .string ⟨#[]⟩, .int .i64 0, .int .i64 0, .int .i64 o, .int .i64 en] 32))
  clear ht
  go_enter Tryd.func14, Tryd.ntmps14
  go_wp2
  go_ret
  exact ⟨rfl, HBl.out⟩

set_option maxRecDepth 100000 in
set_option maxHeartbeats 4000000 in
theorem sp_mark10 (o en : Int) (w : World) (ht : TopLaid w) :
    Calls Tryd.prog 14 #[.string ⟨#[110, 111, 116]⟩, .agg #[.int .i64 10, .string ⟨#[]⟩, .int .i64 0, .int .i64 0, .int .i64 o, .int .i64 en]] w fun e w' => e = .returned (.bool true) ∧ Below w.heap.size w w' := by
  have c0 := kept_cell (belowA w (.cells #[.int .i64 10, .string ⟨#[]⟩, .int .i64 0, .int .i64 0, .int .i64 o, .int .i64 en] 32)) (ht.marks 10 _ rfl)
  have HBl := hide (belowA w (.cells #[.int .i64 10, .string ⟨#[]⟩, .int .i64 0, .int .i64 0, .int .i64 o, .int .i64 en] 32))
  clear ht
  go_enter Tryd.func14, Tryd.ntmps14
  go_wp2
  go_ret
  exact ⟨rfl, HBl.out⟩

set_option maxRecDepth 100000 in
set_option maxHeartbeats 4000000 in
theorem sp_op1 (o en : Int) (w : World) (ht : TopLaid w) :
    Calls Tryd.prog 14 #[.string ⟨#[61]⟩, .agg #[.int .i64 11, .string ⟨#[]⟩, .int .i64 0, .int .i64 1, .int .i64 o, .int .i64 en]] w fun e w' => e = .returned (.bool true) ∧ Below w.heap.size w w' := by
  have c0 := kept_cell (belowA w (.cells #[.int .i64 11, .string ⟨#[]⟩, .int .i64 0, .int .i64 1, .int .i64 o, .int .i64 en] 32)) (ht.ops 1 _ rfl)
  have HBl := hide (belowA w (.cells #[.int .i64 11, .string ⟨#[]⟩, .int .i64 0, .int .i64 1, .int .i64 o, .int .i64 en] 32))
  clear ht
  go_enter Tryd.func14, Tryd.ntmps14
  go_wp2
  go_ret
  exact ⟨rfl, HBl.out⟩

set_option maxRecDepth 100000 in
set_option maxHeartbeats 4000000 in
theorem sp_op2 (o en : Int) (w : World) (ht : TopLaid w) :
    Calls Tryd.prog 14 #[.string ⟨#[33, 61]⟩, .agg #[.int .i64 11, .string ⟨#[]⟩, .int .i64 0, .int .i64 2, .int .i64 o, .int .i64 en]] w fun e w' => e = .returned (.bool true) ∧ Below w.heap.size w w' := by
  have c0 := kept_cell (belowA w (.cells #[.int .i64 11, .string ⟨#[]⟩, .int .i64 0, .int .i64 2, .int .i64 o, .int .i64 en] 32)) (ht.ops 2 _ rfl)
  have HBl := hide (belowA w (.cells #[.int .i64 11, .string ⟨#[]⟩, .int .i64 0, .int .i64 2, .int .i64 o, .int .i64 en] 32))
  clear ht
  go_enter Tryd.func14, Tryd.ntmps14
  go_wp2
  go_ret
  exact ⟨rfl, HBl.out⟩

set_option maxRecDepth 100000 in
set_option maxHeartbeats 4000000 in
theorem sp_op3 (o en : Int) (w : World) (ht : TopLaid w) :
    Calls Tryd.prog 14 #[.string ⟨#[60]⟩, .agg #[.int .i64 11, .string ⟨#[]⟩, .int .i64 0, .int .i64 3, .int .i64 o, .int .i64 en]] w fun e w' => e = .returned (.bool true) ∧ Below w.heap.size w w' := by
  have c0 := kept_cell (belowA w (.cells #[.int .i64 11, .string ⟨#[]⟩, .int .i64 0, .int .i64 3, .int .i64 o, .int .i64 en] 32)) (ht.ops 3 _ rfl)
  have HBl := hide (belowA w (.cells #[.int .i64 11, .string ⟨#[]⟩, .int .i64 0, .int .i64 3, .int .i64 o, .int .i64 en] 32))
  clear ht
  go_enter Tryd.func14, Tryd.ntmps14
  go_wp2
  go_ret
  exact ⟨rfl, HBl.out⟩

set_option maxRecDepth 100000 in
set_option maxHeartbeats 4000000 in
theorem sp_op4 (o en : Int) (w : World) (ht : TopLaid w) :
    Calls Tryd.prog 14 #[.string ⟨#[60, 61]⟩, .agg #[.int .i64 11, .string ⟨#[]⟩, .int .i64 0, .int .i64 4, .int .i64 o, .int .i64 en]] w fun e w' => e = .returned (.bool true) ∧ Below w.heap.size w w' := by
  have c0 := kept_cell (belowA w (.cells #[.int .i64 11, .string ⟨#[]⟩, .int .i64 0, .int .i64 4, .int .i64 o, .int .i64 en] 32)) (ht.ops 4 _ rfl)
  have HBl := hide (belowA w (.cells #[.int .i64 11, .string ⟨#[]⟩, .int .i64 0, .int .i64 4, .int .i64 o, .int .i64 en] 32))
  clear ht
  go_enter Tryd.func14, Tryd.ntmps14
  go_wp2
  go_ret
  exact ⟨rfl, HBl.out⟩

set_option maxRecDepth 100000 in
set_option maxHeartbeats 4000000 in
theorem sp_op5 (o en : Int) (w : World) (ht : TopLaid w) :
    Calls Tryd.prog 14 #[.string ⟨#[62]⟩, .agg #[.int .i64 11, .string ⟨#[]⟩, .int .i64 0, .int .i64 5, .int .i64 o, .int .i64 en]] w fun e w' => e = .returned (.bool true) ∧ Below w.heap.size w w' := by
  have c0 := kept_cell (belowA w (.cells #[.int .i64 11, .string ⟨#[]⟩, .int .i64 0, .int .i64 5, .int .i64 o, .int .i64 en] 32)) (ht.ops 5 _ rfl)
  have HBl := hide (belowA w (.cells #[.int .i64 11, .string ⟨#[]⟩, .int .i64 0, .int .i64 5, .int .i64 o, .int .i64 en] 32))
  clear ht
  go_enter Tryd.func14, Tryd.ntmps14
  go_wp2
  go_ret
  exact ⟨rfl, HBl.out⟩

set_option maxRecDepth 100000 in
set_option maxHeartbeats 4000000 in
theorem sp_op6 (o en : Int) (w : World) (ht : TopLaid w) :
    Calls Tryd.prog 14 #[.string ⟨#[62, 61]⟩, .agg #[.int .i64 11, .string ⟨#[]⟩, .int .i64 0, .int .i64 6, .int .i64 o, .int .i64 en]] w fun e w' => e = .returned (.bool true) ∧ Below w.heap.size w w' := by
  have c0 := kept_cell (belowA w (.cells #[.int .i64 11, .string ⟨#[]⟩, .int .i64 0, .int .i64 6, .int .i64 o, .int .i64 en] 32)) (ht.ops 6 _ rfl)
  have HBl := hide (belowA w (.cells #[.int .i64 11, .string ⟨#[]⟩, .int .i64 0, .int .i64 6, .int .i64 o, .int .i64 en] 32))
  clear ht
  go_enter Tryd.func14, Tryd.ntmps14
  go_wp2
  go_ret
  exact ⟨rfl, HBl.out⟩

end Go.Proofs.YtplldgkdjainlaaDoor
