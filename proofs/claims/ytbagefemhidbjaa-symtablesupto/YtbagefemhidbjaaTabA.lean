/- tableStep's At, Const, Len. -/
import Derived.Test.YtbagefemhidbjaaTabSteps
import Derived.Test.YtbagefemhidbjaaTabAt
import Derived.Test.YtbagefemhidbjaaTabConst
namespace Go.Proofs.Ytbagefemhidbjaa
set_option linter.unusedSimpArgs false
set_option linter.unusedVariables false
open Go.RowKit Go.Maps

variable {w0 W : World} {p m pt : Nat} {ao : Option Addr} {v : Value} {ks : List Con} {b : Nat}

theorem tstep_at (h : DuoT w0 W p m pt ao v ks ks b) (hbl : b < 4194304) (c : Con) (z : Int) (hc : c.ok) :
    Calls Try.prog 26 #[.pointer (some ⟨p, 0, none⟩), .pointer (some ⟨pt, 0, none⟩), .agg #[.int .i64 3, .int .i64 c.k, .int .i64 c.n, .string c.s, .int .i64 z]] W (TStepOk w0 p m pt b) := by
  have hlx := h.lx
  obtain ⟨n, cap, hn, hI⟩ := h.x
  by_cases hi : ∃ j : Nat, z = j ∧ j < ks.length
  · obtain ⟨j, rfl, hj⟩ := hi
    have hk : ks[j]? = some ks[j] := List.getElem?_eq_getElem hj
    exact tstep_at_aux h hbl c j hc ks[j] true (hide fun V hb => atCon_in (hI.grow hb) (by omega) hk) (hide fun V hb => tat_in (h.y.grow hb) h.ly hk)
  · have hz : z < 0 ∨ (ks.length : Int) ≤ z := by
      by_cases h0 : z < 0
      · exact .inl h0
      · refine .inr (Int.not_lt.1 fun h1 => hi ⟨z.toNat, by omega, by omega⟩)
    exact tstep_at_aux h hbl c z hc Con.zero false (hide fun V hb => atCon_out (hI.grow hb) (by omega) hz) (hide fun V hb => tat_out (h.y.grow hb) h.ly hz)

theorem tstep_const (h : DuoT w0 W p m pt ao v ks ks b) (hbl : b < 4194304) (c : Con) (z : Int) (hc : c.ok) :
    Calls Try.prog 26 #[.pointer (some ⟨p, 0, none⟩), .pointer (some ⟨pt, 0, none⟩), .agg #[.int .i64 4, .int .i64 c.k, .int .i64 c.n, .string c.s, .int .i64 z]] W (TStepOk w0 p m pt b) := by
  have hlx := h.lx
  obtain ⟨n, cap, hn, hI⟩ := h.x
  by_cases hi : ∃ j : Nat, z = j ∧ j < ks.length
  · obtain ⟨j, rfl, hj⟩ := hi
    have hk : ks[j]? = some ks[j] := List.getElem?_eq_getElem hj
    exact tstep_const_aux h hbl c j hc ks[j] 0 (hide fun V hb => tConst_in (hI.grow hb) (by omega) hk) (hide fun V hb => tconst_in (h.y.grow hb) h.ly hk)
  · have hz : z < 0 ∨ (ks.length : Int) ≤ z := by
      by_cases h0 : z < 0
      · exact .inl h0
      · refine .inr (Int.not_lt.1 fun h1 => hi ⟨z.toNat, by omega, by omega⟩)
    exact tstep_const_aux h hbl c z hc Con.zero 2 (hide fun V hb => tConst_out (hI.grow hb) (by omega) hz) (hide fun V hb => tconst_out (h.y.grow hb) h.ly hz)

set_option maxRecDepth 100000 in
set_option maxHeartbeats 4000000 in
theorem tstep_len (h : DuoT w0 W p m pt ao v ks ks b) (hbl : b < 4194304) (c : Con) (z : Int) (hc : c.ok) :
    Calls Try.prog 26 #[.pointer (some ⟨p, 0, none⟩), .pointer (some ⟨pt, 0, none⟩), .agg #[.int .i64 5, .int .i64 c.k, .int .i64 c.n, .string c.s, .int .i64 z]] W (TStepOk w0 p m pt b) := by
  have HD := hide (h.grow ((Below.refl _ W).alloc (Nat.le_refl _) (.cells #[.int .i64 5, .int .i64 c.k, .int .i64 c.n, .string c.s, .int .i64 z] 67)))
  have hplt := h.xlt (q := p) (.inl rfl)
  have hylt := h.ylt (q := pt) (.inl rfl)
  have c1 : (W.alloc (.cells #[.int .i64 5, .int .i64 c.k, .int .i64 c.n, .string c.s, .int .i64 z] 67)).cell? ⟨W.heap.size, 1, none⟩ = some (.int .i64 c.k) := by simp
  have c2 : (W.alloc (.cells #[.int .i64 5, .int .i64 c.k, .int .i64 c.n, .string c.s, .int .i64 z] 67)).cell? ⟨W.heap.size, 2, none⟩ = some (.int .i64 c.n) := by simp
  have c3 : (W.alloc (.cells #[.int .i64 5, .int .i64 c.k, .int .i64 c.n, .string c.s, .int .i64 z] 67)).cell? ⟨W.heap.size, 3, none⟩ = some (.string c.s) := by simp
  have c4 : (W.alloc (.cells #[.int .i64 5, .int .i64 c.k, .int .i64 c.n, .string c.s, .int .i64 z] 67)).cell? ⟨W.heap.size, 4, none⟩ = some (.int .i64 z) := by simp
  have HNF : Hid (¬ foot p m ao W.heap.size) := fun hf => by have := h.xlt hf; omega
  have HNR : Hid (¬ footT pt v W.heap.size) := fun hf => by have := h.ylt hf; omega
  have HBb : Hid (Below W.heap.size W (W.alloc (.cells #[.int .i64 5, .int .i64 c.k, .int .i64 c.n, .string c.s, .int .i64 z] 67))) := (Below.refl _ W).alloc (Nat.le_refl _) _
  clear h
  go_enter Try.func26, Try.ntmps26
  go_upto_region 17 with fail
  obtain ⟨W1, hW1⟩ : ∃ W1, W1 = W.alloc (.cells #[.int .i64 5, .int .i64 c.k, .int .i64 c.n, .string c.s, .int .i64 z] 67) := ⟨_, rfl⟩
  rw [← hW1] at c1 c2 c3 c4 HD HBb ⊢
  have hs1 : W.heap.size < W1.heap.size := by rw [hW1]; simp
  clear hW1
  obtain ⟨B, hB⟩ : ∃ B, B = W.heap.size := ⟨_, rfl⟩
  rw [← hB] at c1 c2 c3 c4 HNF HNR hs1 ⊢
  clear hB
  obtain ⟨n, cap, hn, hI⟩ := HD.out.x
  have hX := lenCon_any hI
  have hY := tlen_any HD.out.y
  obtain ⟨len, hlen⟩ : ∃ len, len = ks.length := ⟨_, rfl⟩
  rw [← hlen] at hX hY
  have HX := hide hX
  have HY := hide hY
  clear hX hY hlen hI c1 c2 c3 c4
  go_wp2_with (first
    | (go_at_call 12; refine HX.out.mono ?_; rintro e w' ⟨rfl, hw'⟩; have hw' := hw'.symm; subst hw')
    | (go_at_call 55; refine HY.out.mono ?_; rintro e w' ⟨rfl, hw'⟩; have hw' := hw'.symm; subst hw'))
  go_ret
  exact ⟨rfl, ao, v, ks, HD.out.up (Nat.le_succ b)⟩

set_option maxRecDepth 100000 in
set_option maxHeartbeats 4000000 in
theorem tstep_other (h : DuoT w0 W p m pt ao v ks ks b) (hbl : b < 4194304) {k : Int} (hk : ¬ (1 ≤ k ∧ k ≤ 9)) (c : Con) (z : Int) (hc : c.ok) :
    Calls Try.prog 26 #[.pointer (some ⟨p, 0, none⟩), .pointer (some ⟨pt, 0, none⟩), .agg #[.int .i64 k, .int .i64 c.k, .int .i64 c.n, .string c.s, .int .i64 z]] W (TStepOk w0 p m pt b) := by
  have HD := hide (h.grow ((Below.refl _ W).alloc (Nat.le_refl _) (.cells #[.int .i64 k, .int .i64 c.k, .int .i64 c.n, .string c.s, .int .i64 z] 67)))
  have hplt := h.xlt (q := p) (.inl rfl)
  have hylt := h.ylt (q := pt) (.inl rfl)
  have c1 : (W.alloc (.cells #[.int .i64 k, .int .i64 c.k, .int .i64 c.n, .string c.s, .int .i64 z] 67)).cell? ⟨W.heap.size, 1, none⟩ = some (.int .i64 c.k) := by simp
  have c2 : (W.alloc (.cells #[.int .i64 k, .int .i64 c.k, .int .i64 c.n, .string c.s, .int .i64 z] 67)).cell? ⟨W.heap.size, 2, none⟩ = some (.int .i64 c.n) := by simp
  have c3 : (W.alloc (.cells #[.int .i64 k, .int .i64 c.k, .int .i64 c.n, .string c.s, .int .i64 z] 67)).cell? ⟨W.heap.size, 3, none⟩ = some (.string c.s) := by simp
  have c4 : (W.alloc (.cells #[.int .i64 k, .int .i64 c.k, .int .i64 c.n, .string c.s, .int .i64 z] 67)).cell? ⟨W.heap.size, 4, none⟩ = some (.int .i64 z) := by simp
  have HNF : Hid (¬ foot p m ao W.heap.size) := fun hf => by have := h.xlt hf; omega
  have HNR : Hid (¬ footT pt v W.heap.size) := fun hf => by have := h.ylt hf; omega
  have HBb : Hid (Below W.heap.size W (W.alloc (.cells #[.int .i64 k, .int .i64 c.k, .int .i64 c.n, .string c.s, .int .i64 z] 67))) := (Below.refl _ W).alloc (Nat.le_refl _) _
  clear h
  have k1 : k ≠ 1 := by omega
  have k2 : k ≠ 2 := by omega
  have k3 : k ≠ 3 := by omega
  have k4 : k ≠ 4 := by omega
  have k5 : k ≠ 5 := by omega
  have k6 : k ≠ 6 := by omega
  have k7 : k ≠ 7 := by omega
  have k8 : k ≠ 8 := by omega
  have k9 : k ≠ 9 := by omega
  go_enter Try.func26, Try.ntmps26
  go_upto_region 35 with fail
  obtain ⟨W1, hW1⟩ : ∃ W1, W1 = W.alloc (.cells #[.int .i64 k, .int .i64 c.k, .int .i64 c.n, .string c.s, .int .i64 z] 67) := ⟨_, rfl⟩
  rw [← hW1] at c1 c2 c3 c4 HD HBb ⊢
  have hs1 : W.heap.size < W1.heap.size := by rw [hW1]; simp
  clear hW1
  obtain ⟨B, hB⟩ : ∃ B, B = W.heap.size := ⟨_, rfl⟩
  rw [← hB] at c1 c2 c3 c4 HNF HNR hs1 ⊢
  clear hB
  go_wp2
  go_ret
  exact ⟨rfl, ao, v, ks, HD.out.up (Nat.le_succ b)⟩

end Go.Proofs.Ytbagefemhidbjaa
