/- tableStep's Sorted and Ranks. -/
import Derived.Test.YtbagefemhidbjaaTabSteps
namespace Go.Proofs.Ytbagefemhidbjaa
set_option linter.unusedSimpArgs false
set_option linter.unusedVariables false
open Go.RowKit Go.Maps

variable {w0 W : World} {p m pt : Nat} {ao : Option Addr} {v : Value} {ks : List Con} {b : Nat}

set_option maxRecDepth 100000 in
set_option maxHeartbeats 4000000 in
theorem tstep_sorted (h : DuoT w0 W p m pt ao v ks ks b) (hbl : b < 4194304) (c : Con) (z : Int) (hc : c.ok) :
    Calls Try.prog 26 #[.pointer (some ⟨p, 0, none⟩), .pointer (some ⟨pt, 0, none⟩), .agg #[.int .i64 8, .int .i64 c.k, .int .i64 c.n, .string c.s, .int .i64 z]] W (TStepOk w0 p m pt b) := by
  have HD := hide (h.grow ((Below.refl _ W).alloc (Nat.le_refl _) (.cells #[.int .i64 8, .int .i64 c.k, .int .i64 c.n, .string c.s, .int .i64 z] 67)))
  have hplt := h.xlt (q := p) (.inl rfl)
  have hylt := h.ylt (q := pt) (.inl rfl)
  have c1 : (W.alloc (.cells #[.int .i64 8, .int .i64 c.k, .int .i64 c.n, .string c.s, .int .i64 z] 67)).cell? ⟨W.heap.size, 1, none⟩ = some (.int .i64 c.k) := by simp
  have c2 : (W.alloc (.cells #[.int .i64 8, .int .i64 c.k, .int .i64 c.n, .string c.s, .int .i64 z] 67)).cell? ⟨W.heap.size, 2, none⟩ = some (.int .i64 c.n) := by simp
  have c3 : (W.alloc (.cells #[.int .i64 8, .int .i64 c.k, .int .i64 c.n, .string c.s, .int .i64 z] 67)).cell? ⟨W.heap.size, 3, none⟩ = some (.string c.s) := by simp
  have c4 : (W.alloc (.cells #[.int .i64 8, .int .i64 c.k, .int .i64 c.n, .string c.s, .int .i64 z] 67)).cell? ⟨W.heap.size, 4, none⟩ = some (.int .i64 z) := by simp
  have HNF : Hid (¬ foot p m ao W.heap.size) := fun hf => by have := h.xlt hf; omega
  have HNR : Hid (¬ footT pt v W.heap.size) := fun hf => by have := h.ylt hf; omega
  have HBb : Hid (Below W.heap.size W (W.alloc (.cells #[.int .i64 8, .int .i64 c.k, .int .i64 c.n, .string c.s, .int .i64 z] 67))) := (Below.refl _ W).alloc (Nat.le_refl _) _
  clear h
  go_enter Try.func26, Try.ntmps26
  go_upto_region 28 with fail
  obtain ⟨W1, hW1⟩ : ∃ W1, W1 = W.alloc (.cells #[.int .i64 8, .int .i64 c.k, .int .i64 c.n, .string c.s, .int .i64 z] 67) := ⟨_, rfl⟩
  rw [← hW1] at c1 c2 c3 c4 HD HBb ⊢
  have hs1 : W.heap.size < W1.heap.size := by rw [hW1]; simp
  clear hW1
  obtain ⟨B, hB⟩ : ∃ B, B = W.heap.size := ⟨_, rfl⟩
  rw [← hB] at c1 c2 c3 c4 HNF HNR hs1 ⊢
  clear hB
  have hlx := HD.out.lx
  obtain ⟨n, cap, hn, hI⟩ := HD.out.x
  have HX := hide (sorted_any sortIds_is hI HD.out.ndx HD.out.lx)
  clear hI c1 c2 c3 c4
  go_upto_region 29 with (go_at_call 13; refine HX.out.mono ?_; rintro e V1 ⟨g, rfl, hr, hb⟩; have HR := hide hr; have HV1 : Hid (Below W1.heap.size W1 V1) := hb; clear hr hb HX)
  have HD1 := hide (HD.out.grow HV1.out)
  have HY := hide (tsorted_any HD1.out.y HD1.out.ly HD1.out.ndy (fun c hc => HD1.out.ok c (.inr hc)))
  go_upto_region 30 with (go_at_call 61; refine HY.out.mono ?_; rintro e V2 ⟨v', rfl, hn⟩; have HN := hide hn.out; clear hn HY)
  obtain ⟨a, cap', hv⟩ := HN.out.shape
  subst hv
  have hln : (sortL ks).length = ks.length := by exact sortL_len ks
  rw [hln] at HN ⊢
  have hN1 : NumsF V1 (some ⟨g, 0, none⟩) ks.length (fun i => (sortL ks).getD i 0) := fun _ => ⟨g, rfl, fun i hi => (own_row HR.out).1.cell hi⟩
  have HS := hide (ints_same _ _ _ ks.length cap' _ V2 (hN1.kept HN.out.bel) (HN.out.nums hln) hlx)
  have HD2 := hide (HD1.out.grow HN.out.bel)
  clear hN1
  go_wp2_with (go_at_call 18; refine HS.out.mono ?_; rintro e V3 ⟨rfl, hb3⟩; have HV3 : Hid (Below V2.heap.size V2 V3) := hb3; clear hb3)
  go_ret
  exact ⟨rfl, ao, v, ks, (HD2.out.up (Nat.le_succ b)).grow HV3.out⟩

set_option maxRecDepth 100000 in
set_option maxHeartbeats 4000000 in
theorem tstep_ranks (h : DuoT w0 W p m pt ao v ks ks b) (hbl : b < 4194304) (c : Con) (z : Int) (hc : c.ok) :
    Calls Try.prog 26 #[.pointer (some ⟨p, 0, none⟩), .pointer (some ⟨pt, 0, none⟩), .agg #[.int .i64 9, .int .i64 c.k, .int .i64 c.n, .string c.s, .int .i64 z]] W (TStepOk w0 p m pt b) := by
  have HD := hide (h.grow ((Below.refl _ W).alloc (Nat.le_refl _) (.cells #[.int .i64 9, .int .i64 c.k, .int .i64 c.n, .string c.s, .int .i64 z] 67)))
  have hplt := h.xlt (q := p) (.inl rfl)
  have hylt := h.ylt (q := pt) (.inl rfl)
  have c1 : (W.alloc (.cells #[.int .i64 9, .int .i64 c.k, .int .i64 c.n, .string c.s, .int .i64 z] 67)).cell? ⟨W.heap.size, 1, none⟩ = some (.int .i64 c.k) := by simp
  have c2 : (W.alloc (.cells #[.int .i64 9, .int .i64 c.k, .int .i64 c.n, .string c.s, .int .i64 z] 67)).cell? ⟨W.heap.size, 2, none⟩ = some (.int .i64 c.n) := by simp
  have c3 : (W.alloc (.cells #[.int .i64 9, .int .i64 c.k, .int .i64 c.n, .string c.s, .int .i64 z] 67)).cell? ⟨W.heap.size, 3, none⟩ = some (.string c.s) := by simp
  have c4 : (W.alloc (.cells #[.int .i64 9, .int .i64 c.k, .int .i64 c.n, .string c.s, .int .i64 z] 67)).cell? ⟨W.heap.size, 4, none⟩ = some (.int .i64 z) := by simp
  have HNF : Hid (¬ foot p m ao W.heap.size) := fun hf => by have := h.xlt hf; omega
  have HNR : Hid (¬ footT pt v W.heap.size) := fun hf => by have := h.ylt hf; omega
  have HBb : Hid (Below W.heap.size W (W.alloc (.cells #[.int .i64 9, .int .i64 c.k, .int .i64 c.n, .string c.s, .int .i64 z] 67))) := (Below.refl _ W).alloc (Nat.le_refl _) _
  clear h
  go_enter Try.func26, Try.ntmps26
  go_upto_region 32 with fail
  obtain ⟨W1, hW1⟩ : ∃ W1, W1 = W.alloc (.cells #[.int .i64 9, .int .i64 c.k, .int .i64 c.n, .string c.s, .int .i64 z] 67) := ⟨_, rfl⟩
  rw [← hW1] at c1 c2 c3 c4 HD HBb ⊢
  have hs1 : W.heap.size < W1.heap.size := by rw [hW1]; simp
  clear hW1
  obtain ⟨B, hB⟩ : ∃ B, B = W.heap.size := ⟨_, rfl⟩
  rw [← hB] at c1 c2 c3 c4 HNF HNR hs1 ⊢
  clear hB
  have hlx := HD.out.lx
  obtain ⟨n, cap, hn, hI⟩ := HD.out.x
  have HX := hide (ranks_any sortIds_is hI HD.out.ndx HD.out.lx)
  clear hI c1 c2 c3 c4
  go_upto_region 33 with (go_at_call 14; refine HX.out.mono ?_; rintro e V1 ⟨g, rfl, hr, _, hb⟩; have HR := hide hr; have HV1 : Hid (Below W1.heap.size W1 V1) := hb; clear hr hb HX)
  have HD1 := hide (HD.out.grow HV1.out)
  have HY := hide (tranks_any HD1.out.y HD1.out.ly HD1.out.ndy (fun c hc => HD1.out.ok c (.inr hc)))
  go_upto_region 34 with (go_at_call 62; refine HY.out.mono ?_; rintro e V2 ⟨v', rfl, hn⟩; have HN := hide hn.out; clear hn HY)
  obtain ⟨a, cap', hv⟩ := HN.out.shape
  subst hv
  have hln : (ranksL ks).length = ks.length := by unfold ranksL; simp
  rw [hln] at HN ⊢
  have hN1 : NumsF V1 (some ⟨g, 0, none⟩) ks.length (fun i => (ranksL ks).getD i 0) := fun _ => ⟨g, rfl, fun i hi => by rw [HR.out.cell hi]; show some (encI _) = some (Value.int _ _); unfold ranksL encI; dsimp only; rw [List.getD_eq_getElem?_getD, List.getElem?_map, List.getElem?_range hi]; rfl⟩
  have HS := hide (ints_same _ _ _ ks.length cap' _ V2 (hN1.kept HN.out.bel) (HN.out.nums hln) hlx)
  have HD2 := hide (HD1.out.grow HN.out.bel)
  clear hN1
  go_wp2_with (go_at_call 18; refine HS.out.mono ?_; rintro e V3 ⟨rfl, hb3⟩; have HV3 : Hid (Below V2.heap.size V2 V3) := hb3; clear hb3)
  go_ret
  exact ⟨rfl, ao, v, ks, (HD2.out.up (Nat.le_succ b)).grow HV3.out⟩

end Go.Proofs.Ytbagefemhidbjaa
