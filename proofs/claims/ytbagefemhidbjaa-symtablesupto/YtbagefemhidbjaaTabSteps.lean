/- edictlaw01's tableStep: one call on both answers alike, and leaves both alike. -/
import Derived.Test.YtbagefemhidbjaaDuoT
import Derived.Test.YtbagefemhidbjaaPairs
import Derived.Test.YtbagefemhidbjaaTabRanks
import Derived.Test.YtbagefemhidbjaaConstsSame
import Derived.Test.YtbagefemhidbjaaRanks
import Derived.Test.YtbagefemhidbjaaSortIds
import Derived.Deep.RegionHeld3
namespace Go.Proofs.Ytbagefemhidbjaa
set_option linter.unusedSimpArgs false
set_option linter.unusedVariables false
open Go.RowKit Go.Maps

variable {w0 W : World} {p m pt : Nat} {ao : Option Addr} {v : Value} {ks : List Con} {b : Nat}

/-- What a step is to do. -/
def TStepOk (w0 : World) (p m pt : Nat) (b : Nat) (e : Ending) (w' : World) : Prop := e = .returned (.bool true) ∧ ∃ ao' v' ks', DuoT w0 w' p m pt ao' v' ks' ks' (b + 1)

set_option maxRecDepth 100000 in
set_option maxHeartbeats 4000000 in
theorem tstep_intern (h : DuoT w0 W p m pt ao v ks ks b) (hbl : b < 4194304) (c : Con) (z : Int) (hc : c.ok) :
    Calls Try.prog 26 #[.pointer (some ⟨p, 0, none⟩), .pointer (some ⟨pt, 0, none⟩), .agg #[.int .i64 1, .int .i64 c.k, .int .i64 c.n, .string c.s, .int .i64 z]] W (TStepOk w0 p m pt b) := by
  have HD := hide (h.grow ((Below.refl _ W).alloc (Nat.le_refl _) (.cells #[.int .i64 1, .int .i64 c.k, .int .i64 c.n, .string c.s, .int .i64 z] 67)))
  have hplt := h.xlt (q := p) (.inl rfl)
  have hylt := h.ylt (q := pt) (.inl rfl)
  have c1 : (W.alloc (.cells #[.int .i64 1, .int .i64 c.k, .int .i64 c.n, .string c.s, .int .i64 z] 67)).cell? ⟨W.heap.size, 1, none⟩ = some (.int .i64 c.k) := by simp
  have c2 : (W.alloc (.cells #[.int .i64 1, .int .i64 c.k, .int .i64 c.n, .string c.s, .int .i64 z] 67)).cell? ⟨W.heap.size, 2, none⟩ = some (.int .i64 c.n) := by simp
  have c3 : (W.alloc (.cells #[.int .i64 1, .int .i64 c.k, .int .i64 c.n, .string c.s, .int .i64 z] 67)).cell? ⟨W.heap.size, 3, none⟩ = some (.string c.s) := by simp
  have c4 : (W.alloc (.cells #[.int .i64 1, .int .i64 c.k, .int .i64 c.n, .string c.s, .int .i64 z] 67)).cell? ⟨W.heap.size, 4, none⟩ = some (.int .i64 z) := by simp
  have HNF : Hid (¬ foot p m ao W.heap.size) := fun hf => by have := h.xlt hf; omega
  have HNR : Hid (¬ footT pt v W.heap.size) := fun hf => by have := h.ylt hf; omega
  have HBb : Hid (Below W.heap.size W (W.alloc (.cells #[.int .i64 1, .int .i64 c.k, .int .i64 c.n, .string c.s, .int .i64 z] 67))) := (Below.refl _ W).alloc (Nat.le_refl _) _
  clear h
  go_enter Try.func26, Try.ntmps26
  go_upto_region 3 with fail
  obtain ⟨W1, hW1⟩ : ∃ W1, W1 = W.alloc (.cells #[.int .i64 1, .int .i64 c.k, .int .i64 c.n, .string c.s, .int .i64 z] 67) := ⟨_, rfl⟩
  rw [← hW1] at c1 c2 c3 c4 HD HBb ⊢
  have hs1 : W.heap.size < W1.heap.size := by rw [hW1]; simp
  clear hW1
  obtain ⟨B, hB⟩ : ∃ B, B = W.heap.size := ⟨_, rfl⟩
  rw [← hB] at c1 c2 c3 c4 HNF HNR hs1 ⊢
  clear hB
  have hI0 := HD.out.int hbl hc (Below.refl _ W1)
  unfold Con.val at hI0
  have HOK : Hid (∀ k ∈ addT ks c, k.ok) := addT_ok (fun k hk => HD.out.ok k (.inl hk)) hc
  obtain ⟨iT, hiT⟩ : ∃ iT, iT = idT ks c := ⟨_, rfl⟩
  obtain ⟨eT, heT⟩ : ∃ eT, eT = erT ks c := ⟨_, rfl⟩
  have HiT := hide hiT
  have HeT := hide heT
  rw [← hiT, ← heT] at hI0
  have HX := hide hI0
  clear hI0 hiT heT
  go_upto_region 4 with (go_at_call 40; refine HX.out.mono ?_; rintro e W2 ⟨rfl, hI⟩; have HI := hide hI.out; clear hI HX)
  obtain ⟨ao2, hD2⟩ := HD.out.symTo HI.out (addT_nodup HD.out.ndx c) HOK.out (addT_len HD.out.lx c)
  obtain ⟨_, _, _, _, _, i3, _⟩ := HI.out
  have d1 := i3.cell c1 HNF.out
  have d2 := i3.cell c2 HNF.out
  have d3 := i3.cell c3 HNF.out
  have hR := hD2.rint hc
  unfold Con.val at hR
  rw [← HiT.out, ← HeT.out] at hR
  have HY := hide hR
  clear hR hD2 i3 c1 c2 c3 c4
  go_wp2_with (go_at_call 50; refine HY.out.mono ?_; rintro e W3 ⟨rfl, hJ⟩; have HJ := hide hJ.out; clear hJ HY)
  go_ret
  obtain ⟨v3, hD3, _⟩ := HJ.out
  exact ⟨rfl, _, _, _, hD3⟩

open Classical in
noncomputable def posJ (ks : List Con) (c : Con) : Int := if c ∈ ks then (posT ks c : Int) else -1

theorem DuoT.findx (h : DuoT w0 W p m pt ao v ks ks b) {c : Con} (hc : c.ok) {V : World} (hb : Below W.heap.size W V) :
    Calls Try.prog 16 #[.pointer (some ⟨p, 0, none⟩), c.val] V fun e w' => e = .returned (.int .i64 (posJ ks c)) ∧ Below V.heap.size V w' := by
  obtain ⟨n, cap, hn, hI⟩ := h.x
  unfold posJ
  by_cases hin : c ∈ ks
  · rw [if_pos hin]; exact findCon_some (hI.grow hb) hc (posT_is hin)
  · rw [if_neg hin]; exact findCon_none (hI.grow hb) hc (fun k hk => h.ok k (.inl hk)) hin
theorem DuoT.findy (h : DuoT w0 W p m pt ao v ks ks b) {c : Con} {V : World} (hb : Below W.heap.size W V) :
    Calls Try.prog 51 #[.pointer (some ⟨pt, 0, none⟩), c.val] V fun e w' => e = .returned (.int .i64 (posJ ks c)) ∧ Below V.heap.size V w' := by
  unfold posJ
  by_cases hin : c ∈ ks
  · rw [if_pos hin]; exact tfind_any (h.y.grow hb) h.ly c _ (.inr ⟨_, rfl, posT_is hin, fun j hj e => by have := nodupC_at h.ndy e (posT_is hin); omega⟩)
  · rw [if_neg hin]; exact tfind_any (h.y.grow hb) h.ly c _ (.inl ⟨rfl, hin⟩)

set_option maxRecDepth 100000 in
set_option maxHeartbeats 4000000 in
theorem tstep_find (h : DuoT w0 W p m pt ao v ks ks b) (hbl : b < 4194304) (c : Con) (z : Int) (hc : c.ok) :
    Calls Try.prog 26 #[.pointer (some ⟨p, 0, none⟩), .pointer (some ⟨pt, 0, none⟩), .agg #[.int .i64 2, .int .i64 c.k, .int .i64 c.n, .string c.s, .int .i64 z]] W (TStepOk w0 p m pt b) := by
  have HD := hide (h.grow ((Below.refl _ W).alloc (Nat.le_refl _) (.cells #[.int .i64 2, .int .i64 c.k, .int .i64 c.n, .string c.s, .int .i64 z] 67)))
  have hplt := h.xlt (q := p) (.inl rfl)
  have hylt := h.ylt (q := pt) (.inl rfl)
  have c1 : (W.alloc (.cells #[.int .i64 2, .int .i64 c.k, .int .i64 c.n, .string c.s, .int .i64 z] 67)).cell? ⟨W.heap.size, 1, none⟩ = some (.int .i64 c.k) := by simp
  have c2 : (W.alloc (.cells #[.int .i64 2, .int .i64 c.k, .int .i64 c.n, .string c.s, .int .i64 z] 67)).cell? ⟨W.heap.size, 2, none⟩ = some (.int .i64 c.n) := by simp
  have c3 : (W.alloc (.cells #[.int .i64 2, .int .i64 c.k, .int .i64 c.n, .string c.s, .int .i64 z] 67)).cell? ⟨W.heap.size, 3, none⟩ = some (.string c.s) := by simp
  have c4 : (W.alloc (.cells #[.int .i64 2, .int .i64 c.k, .int .i64 c.n, .string c.s, .int .i64 z] 67)).cell? ⟨W.heap.size, 4, none⟩ = some (.int .i64 z) := by simp
  have HNF : Hid (¬ foot p m ao W.heap.size) := fun hf => by have := h.xlt hf; omega
  have HNR : Hid (¬ footT pt v W.heap.size) := fun hf => by have := h.ylt hf; omega
  have HBb : Hid (Below W.heap.size W (W.alloc (.cells #[.int .i64 2, .int .i64 c.k, .int .i64 c.n, .string c.s, .int .i64 z] 67))) := (Below.refl _ W).alloc (Nat.le_refl _) _
  clear h
  go_enter Try.func26, Try.ntmps26
  go_upto_region 7 with fail
  obtain ⟨W1, hW1⟩ : ∃ W1, W1 = W.alloc (.cells #[.int .i64 2, .int .i64 c.k, .int .i64 c.n, .string c.s, .int .i64 z] 67) := ⟨_, rfl⟩
  rw [← hW1] at c1 c2 c3 c4 HD HBb ⊢
  have hs1 : W.heap.size < W1.heap.size := by rw [hW1]; simp
  clear hW1
  obtain ⟨B, hB⟩ : ∃ B, B = W.heap.size := ⟨_, rfl⟩
  rw [← hB] at c1 c2 c3 c4 HNF HNR hs1 ⊢
  clear hB
  have hX := fun z => calls_over (HD.out.findx hc (over_below W1 z))
  have hY := fun z => calls_over (HD.out.findy (c := c) (over_below W1 z))
  unfold Con.val at hX hY
  have G1 := hide hX
  have G2 := hide hY
  clear hX hY
  refine wp_region_over (fun V => W1 = V) (by kernel_rfl) (by kernel_rfl) rfl ?_
  rintro _ rfl
  have c1' := over_cell c1
  have c2' := over_cell c2
  have c3' := over_cell c3
  clear c1 c2 c3 c4
  repeat (go_big_quiet_step (first | (go_at_call 16; exact G1.out _) | (go_at_call 51; exact G2.out _)))
  refine wpQuiet_nil ?_
  rintro _ ⟨y, rfl⟩
  go_wp2
  go_ret
  exact ⟨rfl, ao, v, ks, (HD.out.up (Nat.le_succ b)).grow (over_below W1 y)⟩

set_option maxRecDepth 100000 in
set_option maxHeartbeats 4000000 in
theorem tstep_const_aux (h : DuoT w0 W p m pt ao v ks ks b) (hbl : b < 4194304) (c : Con) (z : Int) (hc : c.ok) (d : Con) (o : Int) (HX : Hid (∀ V, Below W.heap.size W V → Calls Try.prog 15 #[.pointer (some ⟨p, 0, none⟩), .int .i64 z] V fun e w' => e = .returned (.tuple #[.agg #[.int .i64 d.k, .int .i64 d.n, .string d.s], .int .i64 o]) ∧ Below V.heap.size V w')) (HY : Hid (∀ V, Below W.heap.size W V → Calls Try.prog 54 #[.pointer (some ⟨pt, 0, none⟩), .int .i64 z] V fun e w' => e = .returned (.tuple #[.agg #[.int .i64 d.k, .int .i64 d.n, .string d.s], .int .i64 o]) ∧ Below V.heap.size V w')) :
    Calls Try.prog 26 #[.pointer (some ⟨p, 0, none⟩), .pointer (some ⟨pt, 0, none⟩), .agg #[.int .i64 4, .int .i64 c.k, .int .i64 c.n, .string c.s, .int .i64 z]] W (TStepOk w0 p m pt b) := by
  have HD := hide (h.grow ((Below.refl _ W).alloc (Nat.le_refl _) (.cells #[.int .i64 4, .int .i64 c.k, .int .i64 c.n, .string c.s, .int .i64 z] 67)))
  have hplt := h.xlt (q := p) (.inl rfl)
  have hylt := h.ylt (q := pt) (.inl rfl)
  have c1 : (W.alloc (.cells #[.int .i64 4, .int .i64 c.k, .int .i64 c.n, .string c.s, .int .i64 z] 67)).cell? ⟨W.heap.size, 1, none⟩ = some (.int .i64 c.k) := by simp
  have c2 : (W.alloc (.cells #[.int .i64 4, .int .i64 c.k, .int .i64 c.n, .string c.s, .int .i64 z] 67)).cell? ⟨W.heap.size, 2, none⟩ = some (.int .i64 c.n) := by simp
  have c3 : (W.alloc (.cells #[.int .i64 4, .int .i64 c.k, .int .i64 c.n, .string c.s, .int .i64 z] 67)).cell? ⟨W.heap.size, 3, none⟩ = some (.string c.s) := by simp
  have c4 : (W.alloc (.cells #[.int .i64 4, .int .i64 c.k, .int .i64 c.n, .string c.s, .int .i64 z] 67)).cell? ⟨W.heap.size, 4, none⟩ = some (.int .i64 z) := by simp
  have HNF : Hid (¬ foot p m ao W.heap.size) := fun hf => by have := h.xlt hf; omega
  have HNR : Hid (¬ footT pt v W.heap.size) := fun hf => by have := h.ylt hf; omega
  have HBb : Hid (Below W.heap.size W (W.alloc (.cells #[.int .i64 4, .int .i64 c.k, .int .i64 c.n, .string c.s, .int .i64 z] 67))) := (Below.refl _ W).alloc (Nat.le_refl _) _
  clear h
  go_enter Try.func26, Try.ntmps26
  go_upto_region 13 with fail
  obtain ⟨W1, hW1⟩ : ∃ W1, W1 = W.alloc (.cells #[.int .i64 4, .int .i64 c.k, .int .i64 c.n, .string c.s, .int .i64 z] 67) := ⟨_, rfl⟩
  rw [← hW1] at c1 c2 c3 c4 HD HBb ⊢
  have hs1 : W.heap.size < W1.heap.size := by rw [hW1]; simp
  clear hW1
  obtain ⟨B, hB⟩ : ∃ B, B = W.heap.size := ⟨_, rfl⟩
  rw [← hB] at c1 c2 c3 c4 HNF HNR hs1 ⊢
  clear hB
  have hS := fun V => same_any d d V
  rw [conEq_refl] at hS
  unfold Con.val at hS
  have HS := hide hS
  clear hS c1 c2 c3
  have HXc := hide (HX.out W1 HBb.out)
  go_upto_region 14 with (go_at_call 15; refine HXc.out.mono ?_; rintro e V1 ⟨rfl, hb1⟩; have HV1 : Hid (Below W1.heap.size W1 V1) := hb1; clear hb1 HXc)
  obtain ⟨V2, hV2⟩ : ∃ V2, V2 = V1.alloc (.cells #[.int .i64 d.k, .int .i64 d.n, .string d.s] 34) := ⟨_, rfl⟩
  have hx1 : conAt V2 V1.heap.size 0 d := by rw [hV2]; exact conAt_new V1 d _
  have HV2 : Hid (Below W1.heap.size W1 V2) := by show Below _ _ _; rw [hV2]; exact HV1.out.alloc HV1.out.size _
  rw [← hV2]
  clear hV2
  obtain ⟨b1, hb1⟩ : ∃ b1, b1 = V1.heap.size := ⟨_, rfl⟩
  rw [← hb1] at hx1 ⊢
  clear hb1
  have HX1 := hide hx1
  clear hx1
  have e4 := kept_cell HV2.out c4
  have HYc := hide (HY.out V2 (HBb.out.trans (HV2.out.mono HBb.out.size)))
  go_upto_region 15 with (go_at_call 54; refine HYc.out.mono ?_; rintro e V3 ⟨rfl, hb3⟩; have HV3 : Hid (Below V2.heap.size V2 V3) := hb3; clear hb3 HYc)
  obtain ⟨V4, hV4⟩ : ∃ V4, V4 = V3.alloc (.cells #[.int .i64 d.k, .int .i64 d.n, .string d.s] 34) := ⟨_, rfl⟩
  have hx2 : conAt V4 V3.heap.size 0 d := by rw [hV4]; exact conAt_new V3 d _
  have HV4 : Hid (Below V2.heap.size V2 V4) := by show Below _ _ _; rw [hV4]; exact HV3.out.alloc HV3.out.size _
  rw [← hV4]
  clear hV4
  obtain ⟨b2, hb2⟩ : ∃ b2, b2 = V3.heap.size := ⟨_, rfl⟩
  rw [← hb2] at hx2 ⊢
  clear hb2
  obtain ⟨y0, y1, y2⟩ := hx2
  obtain ⟨x0, x1, x2⟩ := conAt_kept HX1.out HV4.out
  go_wp2_with (go_at_call 53; refine (HS.out _).mono ?_; rintro e V5 ⟨rfl, hb5⟩; have HV5 : Hid (Below V4.heap.size V4 V5) := hb5; clear hb5)
  go_ret
  exact ⟨rfl, ao, v, ks, ((((HD.out.up (Nat.le_succ b)).grow HV2.out).grow HV4.out).grow HV5.out)⟩

end Go.Proofs.Ytbagefemhidbjaa
