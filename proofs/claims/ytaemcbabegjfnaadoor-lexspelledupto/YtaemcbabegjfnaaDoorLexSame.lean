/- Lists of tokens in memory that say the same: edictlaw02.same. -/
import Derived.Test.YtaemcbabegjfnaaDoorProg
import Derived.Test.YtaemcbabegjfnaaDoorLexLocal2
import Derived.Test.YtaemcbabegjfnaaDoorLexLaw
import Derived.Test.YtaemcbabegjfnaaDoorSameTok
namespace Go.Proofs.YtaemcbabegjfnaaDoor
set_option linter.unusedSimpArgs false
set_option linter.unusedVariables false
open Go.RowKit
attribute [local go_sem] over_cellAt over_frozenAt over_setAt

theorem fault_ne (c : Int) (f : Int) (hc : c ≠ 0) (w : World) : (binOp .neq 33 (.agg #[.int .i64 c, .int .i64 0, .int .i64 f]) (.agg #[.int .i64 0, .int .i64 0, .int .i64 0])).run Tryd.prog w = .ok (.bool true) w := by
  have h1 := run_equalIn_struct (P := Tryd.prog) w 9999 33 #[.int .i64 c, .int .i64 0, .int .i64 f] #[.int .i64 0, .int .i64 0, .int .i64 0] (by kernel_rfl) (by kernel_rfl)
  simp only [binOp]
  simp only [Op.equal, Op.maxDepth, Sem.run_bind]
  go_simp

theorem ended_fault (ao : Option Addr) (n cap : Nat) (c : Int) (f m : Nat) (hc : c ≠ 0) (w : World) :
    Calls Tryd.prog 7 #[.slice ao n cap, .agg #[.int .i64 c, .int .i64 0, .int .i64 (f : Int)], .int .i64 m] w fun e w' => e = .returned (.bool false) ∧ Below w.heap.size w w' := by
  have hf := fault_ne c f hc
  go_enter Tryd.func7, Tryd.ntmps7
  go_wp2
  go_ret
  exact ⟨rfl, (Below.refl _ _).alloc (Nat.le_refl _) _⟩

/-- What Scan and ended say of a text: idle, or not. -/
theorem ended_scan (s : ByteArray) (v : Value) (base : Nat) (W : World) (hs : s.size ≤ 140737488351232) (hown : W.ownsRow base 24 6 v (scanX s).1.length ((scanX s).1.flatMap cells6)) :
    ∃ ao cp, v = .slice ao (scanX s).1.length cp ∧ ∀ W', Below W.heap.size W W' →
      Calls Tryd.prog 7 #[.slice ao (scanX s).1.length cp, .agg #[.int .i64 (scanX s).2.1, .int .i64 0, .int .i64 ((scanX s).2.2 : Int)], .int .i64 (s.size : Int)] W' fun e w' => e = .returned (.bool (decide ((scanX s).2.1 = 0))) ∧ Below W'.heap.size W' w' := by
  obtain ⟨ao, cp, hv⟩ := own_shape hown
  refine ⟨ao, cp, hv, fun W' hb => ?_⟩
  by_cases hc : (scanX s).2.1 = 0
  · have hsz : s.size ≤ 65536 := by
      rcases Nat.lt_or_ge 65536 s.size with h | h
      · have e1 : scanX s = ([], 1, 0) := if_pos h
        rw [e1] at hc
        cases hc
      · exact h
    have T := scan_toks s hsz
    obtain ⟨hf0, h0, hz2, hz3⟩ := toks_zero T hc
    have hlen := toks_len T
    obtain ⟨g, cap, hv2, _, _, hrow⟩ := own_toks hown h0
    rw [hv] at hv2
    injection hv2 with e1 _ e2
    subst e1 e2
    rw [hc, hf0, show decide ((0 : Int) = 0) = true from rfl]
    exact ended_any g cp s.size _ W' h0 (by omega) (fun i t hi => (hrow i t hi).kept hb) hz3 hz2
  · have := ended_fault ao (scanX s).1.length cp (scanX s).2.1 (scanX s).2.2 s.size hc W'
    rw [show decide ((scanX s).2.1 = 0) = false from by simp [hc]]
    exact this

theorem below_chain {w w1 w2 : World} {o : Obj} (h1 : Below w.heap.size w w1) (h2 : Below (w1.alloc o).heap.size (w1.alloc o) w2) : Below w.heap.size w w2 := by
  have hU : Below w1.heap.size w1 (w1.alloc o) := (Below.refl _ _).alloc (Nat.le_refl _) _
  have h := h1.trans (hU.mono h1.size)
  exact h.trans (h2.mono h.size)

end Go.Proofs.YtaemcbabegjfnaaDoor
