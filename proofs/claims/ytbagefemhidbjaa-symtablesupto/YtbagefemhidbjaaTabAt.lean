/- tableStep's At. -/
import Derived.Test.YtbagefemhidbjaaTabSteps
namespace Go.Proofs.Ytbagefemhidbjaa
set_option linter.unusedSimpArgs false
set_option linter.unusedVariables false
open Go.RowKit Go.Maps

variable {w0 W : World} {p m pt : Nat} {ao : Option Addr} {v : Value} {ks : List Con} {b : Nat}

set_option maxRecDepth 100000 in
set_option maxHeartbeats 4000000 in
theorem tstep_at_aux (h : DuoT w0 W p m pt ao v ks ks b) (hbl : b < 4194304) (c : Con) (z : Int) (hc : c.ok) (d : Con) (o : Bool) (HX : Hid (∀ V, Below W.heap.size W V → Calls Try.prog 47 #[.pointer (some ⟨p, 0, none⟩), .int .i64 z] V fun e w' => e = .returned (.tuple #[.agg #[.int .i64 d.k, .int .i64 d.n, .string d.s], .bool o]) ∧ Below V.heap.size V w')) (HY : Hid (∀ V, Below W.heap.size W V → Calls Try.prog 52 #[.pointer (some ⟨pt, 0, none⟩), .int .i64 z] V fun e w' => e = .returned (.tuple #[.agg #[.int .i64 d.k, .int .i64 d.n, .string d.s], .bool o]) ∧ Below V.heap.size V w')) :
    Calls Try.prog 26 #[.pointer (some ⟨p, 0, none⟩), .pointer (some ⟨pt, 0, none⟩), .agg #[.int .i64 3, .int .i64 c.k, .int .i64 c.n, .string c.s, .int .i64 z]] W (TStepOk w0 p m pt b) := by
  have HD := hide (h.grow ((Below.refl _ W).alloc (Nat.le_refl _) (.cells #[.int .i64 3, .int .i64 c.k, .int .i64 c.n, .string c.s, .int .i64 z] 67)))
  have hplt := h.xlt (q := p) (.inl rfl)
  have hylt := h.ylt (q := pt) (.inl rfl)
  have c1 : (W.alloc (.cells #[.int .i64 3, .int .i64 c.k, .int .i64 c.n, .string c.s, .int .i64 z] 67)).cell? ⟨W.heap.size, 1, none⟩ = some (.int .i64 c.k) := by simp
  have c2 : (W.alloc (.cells #[.int .i64 3, .int .i64 c.k, .int .i64 c.n, .string c.s, .int .i64 z] 67)).cell? ⟨W.heap.size, 2, none⟩ = some (.int .i64 c.n) := by simp
  have c3 : (W.alloc (.cells #[.int .i64 3, .int .i64 c.k, .int .i64 c.n, .string c.s, .int .i64 z] 67)).cell? ⟨W.heap.size, 3, none⟩ = some (.string c.s) := by simp
  have c4 : (W.alloc (.cells #[.int .i64 3, .int .i64 c.k, .int .i64 c.n, .string c.s, .int .i64 z] 67)).cell? ⟨W.heap.size, 4, none⟩ = some (.int .i64 z) := by simp
  have HNF : Hid (¬ foot p m ao W.heap.size) := fun hf => by have := h.xlt hf; omega
  have HNR : Hid (¬ footT pt v W.heap.size) := fun hf => by have := h.ylt hf; omega
  have HBb : Hid (Below W.heap.size W (W.alloc (.cells #[.int .i64 3, .int .i64 c.k, .int .i64 c.n, .string c.s, .int .i64 z] 67))) := (Below.refl _ W).alloc (Nat.le_refl _) _
  clear h
  go_enter Try.func26, Try.ntmps26
  go_upto_region 9 with fail
  obtain ⟨W1, hW1⟩ : ∃ W1, W1 = W.alloc (.cells #[.int .i64 3, .int .i64 c.k, .int .i64 c.n, .string c.s, .int .i64 z] 67) := ⟨_, rfl⟩
  rw [← hW1] at c1 c2 c3 c4 HD HBb ⊢
  have hs1 : W.heap.size < W1.heap.size := by rw [hW1]; simp
  clear hW1
  obtain ⟨B, hB⟩ : ∃ B, B = W.heap.size := ⟨_, rfl⟩
  rw [← hB] at c1 c2 c3 c4 HNF HNR hs1 ⊢
  clear hB
  have hS := fun V => same_any d d V
  rw [conEq_refl] at hS
  unfold Con.val at hS
  have HS := hide hS
  clear hS c1 c2 c3
  go_cut [11, 12] (fun t u wc => ∃ b1, t = .pointer (some ⟨b1, 0, none⟩) ∧ u = .bool o ∧ Hid (conAt wc b1 0 d) ∧ Hid (Below W1.heap.size W1 wc))
  case first =>
    have hAl := (Below.refl W1.heap.size W1).alloc (Nat.le_refl _) (.cells #[.int .i64 0, .int .i64 0, .string ⟨#[]⟩] 34)
    go_region_held3 (fun V => V.cell? ⟨B, 4, none⟩ = some (.int .i64 z))
      (first
        | go_keep
        | exact hk4
        | exact (((((Below.refl W1.heap.size V1).setCell (Nat.le_refl _) _).setCell (Nat.le_refl _) _).setCell (Nat.le_refl _) _).cell hs1).trans hk4
        | exact kept_cell hAl c4
        | exact c4)
      (first
        | (go_at_call 47; refine (HX.out _ (HBb.out.trans (below_drewN _ W1 1))).mono ?_; rintro e V1 ⟨rfl, hb1⟩; have HV1 : Hid (Below W1.heap.size W1 V1) := (below_drewN _ W1 1).trans hb1; have hk4 : V1.cell? ⟨B, 4, none⟩ = some (.int .i64 z) := kept_cell HV1.out c4; clear hb1)
        | (go_at_call 47; refine (HX.out _ (HBb.out.trans ((hAl.trans (below_drewN _ _ 1)).mono HBb.out.size))).mono ?_; rintro e V1 ⟨rfl, hb1⟩; have hx : V1.heap[W1.heap.size]? = some (.cells #[.int .i64 0, .int .i64 0, .string ⟨#[]⟩] 34 (0, 0)) := (hb1.block W1.heap.size (by show W1.heap.size < (W1.alloc _).heap.size; rw [World.size_alloc]; omega)).trans (heap_alloc_new W1 _); have HV1 : Hid (Below W1.heap.size W1 V1) := (hAl.trans (below_drewN _ _ 1)).trans (hb1.mono (by show W1.heap.size ≤ (W1.alloc _).heap.size; rw [World.size_alloc]; omega)); have hk4 : V1.cell? ⟨B, 4, none⟩ = some (.int .i64 z) := kept_cell HV1.out c4; have q0 : V1.cell? ⟨W1.heap.size, 0, none⟩ = some (.int .i64 0) := (by simp [World.cell?, hx]); have q1 : V1.cell? ⟨W1.heap.size, 1, none⟩ = some (.int .i64 0) := (by simp [World.cell?, hx]); have q2 : V1.cell? ⟨W1.heap.size, 2, none⟩ = some (.string ⟨#[]⟩) := (by simp [World.cell?, hx]); have f0 : V1.frozen? ⟨W1.heap.size, 0, none⟩ = false := (by simp [World.frozen?, hx]); have f1 : V1.frozen? ⟨W1.heap.size, 1, none⟩ = false := (by simp [World.frozen?, hx]); have f2 : V1.frozen? ⟨W1.heap.size, 2, none⟩ = false := (by simp [World.frozen?, hx]); have HXX := hide hx; clear hb1 hx))
    all_goals (go_wp2; go_meet)
    · exact ⟨V1.heap.size, rfl, rfl, conAt_new V1 d _, HV1.out.alloc HV1.out.size _⟩
    · refine ⟨W1.heap.size, rfl, rfl, ?_, ((HV1.out.setCell (Nat.le_refl _) _).setCell (Nat.le_refl _) _).setCell (Nat.le_refl _) _⟩
      show conAt _ _ _ _
      have hx := HXX.out
      refine ⟨?_, ?_, ?_⟩ <;> first | (simp [go_sem, q0, q1, q2]; done) | (simp [World.setCell, World.cell?, Array.getElem?_modify, hx]; done)
    done
  case rest =>
    obtain ⟨b1, rfl, rfl, HX1, HV2⟩ := hcut
    have e4 := kept_cell HV2.out c4
    go_upto_region 10 with fail
    have HYc := hide (HY.out wc (HBb.out.trans (HV2.out.mono HBb.out.size)))
    go_upto_region 11 with (go_at_call 52; refine HYc.out.mono ?_; rintro e V3 ⟨rfl, hb3⟩; have HV3 : Hid (Below wc.heap.size wc V3) := hb3; clear hb3 HYc)
    obtain ⟨V4, hV4⟩ : ∃ V4, V4 = V3.alloc (.cells #[.int .i64 d.k, .int .i64 d.n, .string d.s] 34) := ⟨_, rfl⟩
    have hx2 : conAt V4 V3.heap.size 0 d := by rw [hV4]; exact conAt_new V3 d _
    have HV4 : Hid (Below wc.heap.size wc V4) := by show Below _ _ _; rw [hV4]; exact HV3.out.alloc HV3.out.size _
    rw [← hV4]
    clear hV4
    obtain ⟨b2, hb2⟩ : ∃ b2, b2 = V3.heap.size := ⟨_, rfl⟩
    rw [← hb2] at hx2 ⊢
    clear hb2
    obtain ⟨y0, y1, y2⟩ := hx2
    obtain ⟨x0, x1, x2⟩ := conAt_kept HX1.out HV4.out
    go_wp2_with (go_at_call 53; refine (HS.out _).mono ?_; rintro e V5 ⟨rfl, hb5⟩; have HV5 : Hid (Below V4.heap.size V4 V5) := hb5; clear hb5)
    go_ret
    exact ⟨rfl, ao, v, ks, ((((HD.out.up (Nat.le_succ b)).grow HV2.out).grow HV4.out).grow HV5.out)⟩

end Go.Proofs.Ytbagefemhidbjaa
