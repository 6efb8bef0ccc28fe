/- The law's filled and same. -/
import Derived.Test.YtgligipgjakecaaDoorAlphaSame
import Derived.Test.YtgligipgjakecaaDoorPatPure
import Derived.Test.YtgligipgjakecaaDoorShapesOf
namespace Go.Proofs.YtgligipgjakecaaDoor
set_option linter.unusedSimpArgs false
set_option linter.unusedVariables false
open Go.RowKit

theorem bits_i64 (op : BinOp) (a b : Int) : I64 (bits op .i64 a b) := by
  have h : ∃ n, bits op .i64 a b = IntKind.i64.wrap n := by
    unfold bits
    exact ⟨_, rfl⟩
  obtain ⟨n, hn⟩ := h
  rw [hn, IntKind.wrap_i64]
  exact ⟨by omega, by omega⟩
/-- The number in place of a variable. -/
def fillN (x n : Int) : Int := bits .and .i64 (bits .xor .i64 n x) 65535


set_option maxHeartbeats 1000000 in
theorem lsame_any {w : World} {q p : Int} {u v : Value} {l m : List Int} (h1 : Has elInt w u l) (h2 : Has elInt w v m) :
    Calls Tryd.prog 13 #[.agg #[.int .i64 q, u], .agg #[.int .i64 p, v]] w fun e w' => e = .returned (.bool (decide (q = p ∧ l = m))) ∧ Below w.heap.size w w' := by
  obtain ⟨va, vc, rfl, -, -, hlen⟩ := h1.shape
  obtain ⟨ua, uc, rfl, -, -, hlen2⟩ := h2.shape
  have HB0 : Hid (Below w.heap.size w ((w.alloc (.cells #[.int .i64 q, .slice va l.length vc] 25)).alloc (.cells #[.int .i64 p, .slice ua m.length uc] 25))) := belot (belo1 w _) (belo1 _ _)
  have HC := hide (ints_any (h1.kept HB0.out) (h2.kept HB0.out))
  clear h1 h2
  obtain ⟨r, hr⟩ : ∃ r, decide (q = p ∧ l = m) = r := ⟨_, rfl⟩
  rw [hr]
  obtain ⟨t, ht⟩ : ∃ t, decide (l = m) = t := ⟨_, rfl⟩
  rw [ht] at HC
  by_cases hqp : q = p
  · subst hqp
    have HR : Hid (r = t) := by show _ = _; rw [← hr, ← ht]; simp
    clear hr ht
    go_enter Tryd.func13, Tryd.ntmps13
    go_wp2_with (go_at_call 21; refine HC.out.mono ?_; rintro e w2 ⟨rfl, h2⟩; have HB2 := hide (belot HB0.out h2); clear h2)
    go_ret
    exact ⟨by rw [HR.out]; rfl, HB2.out⟩
  · have HN : Hid (r = false) := by
      show _ = _
      rw [← hr, decide_eq_false_iff_not]
      exact fun h => hqp h.1
    clear hr ht
    have hq1 : (q == p) = false := by simp [hqp]
    go_enter Tryd.func13, Tryd.ntmps13
    go_wp2
    go_ret
    exact ⟨by rw [HN.out]; rfl, HB0.out⟩
end Go.Proofs.YtgligipgjakecaaDoor
