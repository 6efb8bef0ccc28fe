/- tableStep's All. -/
import Derived.Test.YtbagefemhidbjaaTabSteps
namespace Go.Proofs.Ytbagefemhidbjaa
set_option linter.unusedSimpArgs false
set_option linter.unusedVariables false
open Go.RowKit Go.Maps

variable {w0 W : World} {p m pt : Nat} {ao : Option Addr} {v : Value} {ks : List Con} {b : Nat}

theorem IsCons.take {w : World} {a : Option Addr} {n : Nat} {L : List Con} (h : IsCons w a n L) {d : Nat} (hd : d ≤ n) : IsCons w a d (L.take d) := by
  obtain ⟨h1, h2, h3, h4⟩ := h
  refine ⟨by rw [List.length_take]; omega, by omega, fun c hc => h3 c (List.mem_of_mem_take hc), fun h0 => ?_⟩
  obtain ⟨b, off, ha, hr⟩ := h4 (by omega)
  refine ⟨b, off, ha, fun i x hi => hr i x ?_⟩
  rw [List.getElem?_take] at hi
  split at hi
  · exact hi
  · cases hi

set_option maxRecDepth 100000 in
set_option maxHeartbeats 4000000 in
theorem tstep_all (h : DuoT w0 W p m pt ao v ks ks b) (hbl : b < 4194304) (c : Con) (z : Int) (hc : c.ok) :
    Calls Try.prog 26 #[.pointer (some ⟨p, 0, none⟩), .pointer (some ⟨pt, 0, none⟩), .agg #[.int .i64 6, .int .i64 c.k, .int .i64 c.n, .string c.s, .int .i64 z]] W (TStepOk w0 p m pt b) := by
  have HD := hide (h.grow ((Below.refl _ W).alloc (Nat.le_refl _) (.cells #[.int .i64 6, .int .i64 c.k, .int .i64 c.n, .string c.s, .int .i64 z] 67)))
  have hplt := h.xlt (q := p) (.inl rfl)
  have hylt := h.ylt (q := pt) (.inl rfl)
  have c1 : (W.alloc (.cells #[.int .i64 6, .int .i64 c.k, .int .i64 c.n, .string c.s, .int .i64 z] 67)).cell? ⟨W.heap.size, 1, none⟩ = some (.int .i64 c.k) := by simp
  have c2 : (W.alloc (.cells #[.int .i64 6, .int .i64 c.k, .int .i64 c.n, .string c.s, .int .i64 z] 67)).cell? ⟨W.heap.size, 2, none⟩ = some (.int .i64 c.n) := by simp
  have c3 : (W.alloc (.cells #[.int .i64 6, .int .i64 c.k, .int .i64 c.n, .string c.s, .int .i64 z] 67)).cell? ⟨W.heap.size, 3, none⟩ = some (.string c.s) := by simp
  have c4 : (W.alloc (.cells #[.int .i64 6, .int .i64 c.k, .int .i64 c.n, .string c.s, .int .i64 z] 67)).cell? ⟨W.heap.size, 4, none⟩ = some (.int .i64 z) := by simp
  have HNF : Hid (¬ foot p m ao W.heap.size) := fun hf => by have := h.xlt hf; omega
  have HNR : Hid (¬ footT pt v W.heap.size) := fun hf => by have := h.ylt hf; omega
  have HBb : Hid (Below W.heap.size W (W.alloc (.cells #[.int .i64 6, .int .i64 c.k, .int .i64 c.n, .string c.s, .int .i64 z] 67))) := (Below.refl _ W).alloc (Nat.le_refl _) _
  clear h
  go_enter Try.func26, Try.ntmps26
  go_upto_region 19 with fail
  obtain ⟨W1, hW1⟩ : ∃ W1, W1 = W.alloc (.cells #[.int .i64 6, .int .i64 c.k, .int .i64 c.n, .string c.s, .int .i64 z] 67) := ⟨_, rfl⟩
  rw [← hW1] at c1 c2 c3 c4 HD HBb ⊢
  have hs1 : W.heap.size < W1.heap.size := by rw [hW1]; simp
  clear hW1
  obtain ⟨B, hB⟩ : ∃ B, B = W.heap.size := ⟨_, rfl⟩
  rw [← hB] at c1 c2 c3 c4 HNF HNR hs1 ⊢
  clear hB
  have hlx := HD.out.lx
  obtain ⟨n, cap, hn, hI⟩ := HD.out.x
  have HX := hide (pairs_any hI HD.out.lx z)
  clear hI c1 c2 c3
  go_upto_region 20 with (go_at_call 56; refine HX.out.mono ?_; rintro e V1 ⟨v1, rfl, hr⟩; have HR := hide hr; have HV1 : Hid (Below W1.heap.size W1 V1) := hr.bel; clear hr HX)
  have HD1 := hide (HD.out.grow HV1.out)
  have HY := hide (tall_any HD1.out.y HD1.out.ly)
  go_upto_region 21 with (go_at_call 57; refine HY.out.mono ?_; rintro e V2 ⟨v2, rfl, hn⟩; have HN := hide hn.out; clear hn HY)
  have hok : ∀ c ∈ ks, c.ok := fun c hc => HD.out.ok c (.inl hc)
  have hdl : dP ks.length z ≤ ks.length := by unfold dP; split <;> omega
  obtain ⟨a1, cp1, hv1, _, hc1, _⟩ := holds_cons HR.out.row (fun c hc => hok c (List.mem_of_mem_take hc)) (by rw [List.length_take]; omega)
  obtain ⟨a2, cp2, hv2, hcp, hc2, _⟩ := holds_cons HN.out.row hok (by omega)
  subst hv1 hv2
  have hc1 := hc1.kept HN.out.bel
  have hlt : (ks.take (dP ks.length z)).length = dP ks.length z := by rw [List.length_take]; omega
  rw [hlt] at hc1 ⊢
  have HD2 := hide (HD1.out.grow HN.out.bel)
  have e4 := kept_cell HN.out.bel (kept_cell HV1.out c4)
  have hc3 := hc2.take hdl
  have HS := hide (fun (V : World) (hb : Below V2.heap.size V2 V) => consts_same a1 a2 (dP ks.length z) cp1 cp2 _ V (hc1.kept hb) (hc3.kept hb))
  have HP : Hid ((0 < z → z < ks.length → (dP ks.length z : Int) = z) ∧ (¬ (0 < z ∧ z < ks.length) → dP ks.length z = ks.length)) := by
    show _ ∧ _
    unfold dP
    constructor
    · intro h1 h2; rw [if_pos ⟨h1, by omega⟩]; omega
    · intro h1; split <;> omega
  obtain ⟨d, hd⟩ : ∃ d, d = dP ks.length z := ⟨_, rfl⟩
  obtain ⟨len, hlen⟩ : ∃ len, len = ks.length := ⟨_, rfl⟩
  rw [← hd] at HP HS ⊢
  rw [← hlen] at HP hcp hlx ⊢
  rw [← hd, ← hlen] at hdl
  have HCP := hide hcp
  clear hd hlen hc1 hc2 hc3 hlt hcp c4
  have HDL := hide hdl
  clear hdl
  by_cases hz : 0 < z
  · by_cases hz2 : z < len
    · have hdz := HP.out.1 hz hz2
      subst hdz
      have := HCP.out
      go_wp2_with (go_at_call 58; refine (HS.out _ (Below.refl _ _)).mono ?_; rintro e V3 ⟨rfl, hb3⟩; have HV3 : Hid (Below V2.heap.size V2 V3) := hb3; clear hb3)
      go_ret
      exact ⟨rfl, ao, v, ks, (HD2.out.up (Nat.le_succ b)).grow HV3.out⟩
    · have hdz := HP.out.2 (fun h => hz2 h.2)
      subst hdz
      go_wp2_with (go_at_call 58; refine (HS.out _ (Below.refl _ _)).mono ?_; rintro e V3 ⟨rfl, hb3⟩; have HV3 : Hid (Below V2.heap.size V2 V3) := hb3; clear hb3)
      go_ret
      exact ⟨rfl, ao, v, ks, (HD2.out.up (Nat.le_succ b)).grow HV3.out⟩
  · have hdz := HP.out.2 (fun h => hz h.1)
    subst hdz
    go_wp2_with (go_at_call 58; refine (HS.out _ (Below.refl _ _)).mono ?_; rintro e V3 ⟨rfl, hb3⟩; have HV3 : Hid (Below V2.heap.size V2 V3) := hb3; clear hb3)
    go_ret
    exact ⟨rfl, ao, v, ks, (HD2.out.up (Nat.le_succ b)).grow HV3.out⟩

end Go.Proofs.Ytbagefemhidbjaa
