/- tableStep's Cut. -/
import Derived.Test.YtbagefemhidbjaaTabSteps
namespace Go.Proofs.Ytbagefemhidbjaa
set_option linter.unusedSimpArgs false
set_option linter.unusedVariables false
open Go.RowKit Go.Maps

variable {w0 W : World} {p m pt : Nat} {ao : Option Addr} {v : Value} {ks : List Con} {b : Nat}

set_option maxRecDepth 100000 in
set_option maxHeartbeats 4000000 in
theorem tstep_cut (h : DuoT w0 W p m pt ao v ks ks b) (hbl : b < 4194304) (c : Con) (z : Int) (hc : c.ok) :
    Calls Try.prog 26 #[.pointer (some ⟨p, 0, none⟩), .pointer (some ⟨pt, 0, none⟩), .agg #[.int .i64 7, .int .i64 c.k, .int .i64 c.n, .string c.s, .int .i64 z]] W (TStepOk w0 p m pt b) := by
  have HD := hide (h.grow ((Below.refl _ W).alloc (Nat.le_refl _) (.cells #[.int .i64 7, .int .i64 c.k, .int .i64 c.n, .string c.s, .int .i64 z] 67)))
  have hplt := h.xlt (q := p) (.inl rfl)
  have hylt := h.ylt (q := pt) (.inl rfl)
  have c1 : (W.alloc (.cells #[.int .i64 7, .int .i64 c.k, .int .i64 c.n, .string c.s, .int .i64 z] 67)).cell? ⟨W.heap.size, 1, none⟩ = some (.int .i64 c.k) := by simp
  have c2 : (W.alloc (.cells #[.int .i64 7, .int .i64 c.k, .int .i64 c.n, .string c.s, .int .i64 z] 67)).cell? ⟨W.heap.size, 2, none⟩ = some (.int .i64 c.n) := by simp
  have c3 : (W.alloc (.cells #[.int .i64 7, .int .i64 c.k, .int .i64 c.n, .string c.s, .int .i64 z] 67)).cell? ⟨W.heap.size, 3, none⟩ = some (.string c.s) := by simp
  have c4 : (W.alloc (.cells #[.int .i64 7, .int .i64 c.k, .int .i64 c.n, .string c.s, .int .i64 z] 67)).cell? ⟨W.heap.size, 4, none⟩ = some (.int .i64 z) := by simp
  have HNF : Hid (¬ foot p m ao W.heap.size) := fun hf => by have := h.xlt hf; omega
  have HNR : Hid (¬ footT pt v W.heap.size) := fun hf => by have := h.ylt hf; omega
  have HBb : Hid (Below W.heap.size W (W.alloc (.cells #[.int .i64 7, .int .i64 c.k, .int .i64 c.n, .string c.s, .int .i64 z] 67))) := (Below.refl _ W).alloc (Nat.le_refl _) _
  clear h
  go_enter Try.func26, Try.ntmps26
  go_upto_region 25 with fail
  obtain ⟨W1, hW1⟩ : ∃ W1, W1 = W.alloc (.cells #[.int .i64 7, .int .i64 c.k, .int .i64 c.n, .string c.s, .int .i64 z] 67) := ⟨_, rfl⟩
  rw [← hW1] at c1 c2 c3 c4 HD HBb ⊢
  have hs1 : W.heap.size < W1.heap.size := by rw [hW1]; simp
  clear hW1
  obtain ⟨B, hB⟩ : ∃ B, B = W.heap.size := ⟨_, rfl⟩
  rw [← hB] at c1 c2 c3 c4 HNF HNR hs1 ⊢
  clear hB
  have HX := hide (fun V hb => HD.out.cutx z (W' := V) hb)
  have hlx := HD.out.lx
  clear c1 c2 c3
  go_region_held3 (fun V => V.cell? ⟨B, 4, none⟩ = some (.int .i64 z))
    (first
      | go_keep
      | exact hk4
      | exact c4)
    (first | (go_at_call 59; refine (HX.out _ (below_drewN _ W1 _)).mono ?_; rintro e V1 ⟨rfl, hI⟩; have HI := hide hI.out; have hk4 : V1.cell? ⟨B, 4, none⟩ = some (.int .i64 z) := (by obtain ⟨_, _, _, _, _, i3, _⟩ := HI.out; exact i3.cell (kept_cell (below_drewN _ W1 _) c4) HNF.out); clear hI))
  all_goals
    obtain ⟨ao2, hD2⟩ := (HD.out.grow (below_drewN _ W1 _)).symTo HI.out (HD.out.ndx.sublist (List.take_sublist _ _)) (fun k hk => HD.out.ok k (.inl (List.mem_of_mem_take hk))) (by rw [List.length_take]; omega)
    have HY := hide (hD2.cuty z)
    clear hD2
    go_wp2_with (go_at_call 60; refine HY.out.mono ?_; rintro e V2 ⟨rfl, hJ⟩; have HJ := hide hJ.out; clear hJ HY)
    go_ret
    obtain ⟨v3, hD3⟩ := HJ.out
    exact ⟨rfl, _, _, _, hD3.up (Nat.le_succ b)⟩

end Go.Proofs.Ytbagefemhidbjaa
