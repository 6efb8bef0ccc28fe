/- edictlaw01's idsStep: All, and All ahead of a Cut: the steps. -/
import Derived.Test.YtbagefemhidbjaaIdsAll
namespace Go.Proofs.Ytbagefemhidbjaa
set_option linter.unusedSimpArgs false
set_option linter.unusedVariables false
open Go.RowKit Go.Maps

variable {w0 W : World} {p m py : Nat} {ao : Option Addr} {v : Value} {ks kx ky : List ByteArray} {b : Nat}

set_option maxRecDepth 100000 in
set_option maxHeartbeats 4000000 in
theorem step_all (h : Duo w0 W p m py ao v ks ks b) (hbl : b + 1 < 2097152) (k : ByteArray) (z : Int) (hk : k.size ≤ 140737488351232) :
    Calls Try.prog 9 #[.pointer (some ⟨p, 0, none⟩), .pointer (some ⟨py, 0, none⟩), .agg #[.int .i64 5, .string k, .int .i64 z]] W (StepOk w0 p m py b) := by
  have HD := hide (h.boxed (.cells #[.int .i64 5, .string k, .int .i64 z] 30))
  have hplt := h.xlt (q := p) (.inl rfl)
  have hylt := h.ylt (q := py) (.inl rfl)
  have c1 : (W.alloc (.cells #[.int .i64 5, .string k, .int .i64 z] 30)).cell? ⟨W.heap.size, 1, none⟩ = some (.string k) := by simp
  have c2 : (W.alloc (.cells #[.int .i64 5, .string k, .int .i64 z] 30)).cell? ⟨W.heap.size, 2, none⟩ = some (.int .i64 z) := by simp
  have HNF : Hid (¬ foot p m ao W.heap.size) := fun hf => by have := h.xlt hf; omega
  have HNR : Hid (¬ footR py v W.heap.size) := fun hf => by have := h.ylt hf; omega
  clear h
  go_enter Try.func9, Try.ntmps9
  go_upto_region 13 with fail
  obtain ⟨W1, hW1⟩ : ∃ W1, W1 = W.alloc (.cells #[.int .i64 5, .string k, .int .i64 z] 30) := ⟨_, rfl⟩
  rw [← hW1] at c1 c2 HD ⊢
  have hs1 : W.heap.size < W1.heap.size := by rw [hW1]; simp
  clear hW1
  obtain ⟨B, hB⟩ : ∃ B, B = W.heap.size := ⟨_, rfl⟩
  rw [← hB] at c1 c2 HNF HNR hs1 ⊢
  clear hB
  have hlx := HD.out.lx
  have hal := addS_len ks k
  have HE := hide (HD.out.every hbl z hk)
  have HOK : Hid (∀ s ∈ addS ks k, s.size ≤ 140737488351232) := addS_ok (fun s hs => HD.out.ok s (.inl hs)) hk
  obtain ⟨qs, hqs⟩ : ∃ qs, qs = addS ks k := ⟨_, rfl⟩
  have HQS := hide hqs
  rw [← hqs] at HE HOK hal
  clear hqs
  go_upto_region 14 with (go_at_call 32; refine HE.out.mono ?_; rintro e W2 ⟨a1, n1, k1, a2, n2, k2, rfl, hp⟩; have HP := hide hp.out; clear hp HE)
  obtain ⟨w1, ao2, hI, hD, s1, s2, l1, l2⟩ := HP.out
  obtain ⟨_, _, _, _, _, i3, _⟩ := hI
  have c1' : W2.cell? ⟨B, 1, none⟩ = some (.string k) := kept_cell s1.bel (i3.cell c1 HNF.out)
  have c2' : W2.cell? ⟨B, 2, none⟩ = some (.int .i64 z) := kept_cell s1.bel (i3.cell c2 HNF.out)
  have hn2 : n2 ≤ 2097152 := by omega
  have hd : n1 = dOf n2 z := by rw [← l1, ← l2, take_dOf, List.length_take]; unfold dOf; omega
  have hn1 : n1 ≤ n2 := by rw [hd]; unfold dOf; omega
  have HDF := hide hd
  have HI1 := hide (s1.strs l1 (by omega) (fun s hs => HOK.out s (List.mem_of_mem_take hs)))
  have HI2 := hide (s2.strs l2 (by omega) HOK.out)
  have HD1 := hide hD
  have HY := hide ((hD.grow s1.bel).rint (by omega) hk (by rw [← HQS.out]; omega))
  have HS1 := hide s1
  have HS2 := hide s2
  have HL1 := hide l1
  have HL2 := hide l2
  clear HP i3 hD s1 s2 l1 l2 hd
  go_upto_region 15 with (go_at_call 27; refine HY.out.mono ?_; rintro e W3 ⟨rfl, hJ⟩; have HJ := hide hJ.out; clear hJ HY)
  obtain ⟨v3, hD3, hO3⟩ := HJ.out
  have c2c : W3.cell? ⟨B, 2, none⟩ = some (.int .i64 z) := hO3.cell c2' HNR.out
  have HJ1 := hide (strs_only (v := v) HS1.out HI1.out hO3 (fun q hq => HD1.out.ylt hq))
  have HJ2 := hide (strs_only (v := v) HS2.out HI2.out hO3 (fun q hq => HD1.out.ylt hq))
  rw [← HQS.out] at hD3
  have HD3 := hide hD3
  have HA := hide (rall_any hD3.y (by have := HL2.out; omega))
  clear HJ hD3 hO3 HI1 HI2 HS1 HS2 c1 c2 c1' c2'
  go_upto_region 16 with (go_at_call 33; refine HA.out.mono ?_; rintro e W4 ⟨vL, rfl, hp⟩; have HP := hide hp.out; obtain ⟨aL, cL, hv⟩ := hp.out.shape; rw [HL2.out] at hv; subst hv; clear hp HA)
  have c2d : W4.cell? ⟨B, 2, none⟩ = some (.int .i64 z) := kept_cell HP.out.bel c2c
  have HIL := hide (HP.out.strs HL2.out (by omega) HOK.out)
  obtain ⟨hcp, hcm⟩ := sl_cap HP.out HL2.out
  have HF := first_any aL n2 cL n1 z qs W4 HIL.out hcp hcm (by rw [HDF.out]; exact dOf_is _ _)
  replace HF := hide HF
  have HT1 := hide (strings_same a2 aL n2 k2 cL qs W4 (strs_kept HJ2.out HP.out.bel) HIL.out)
  have HT2 : Hid (∀ V, Below W4.heap.size W4 V → Calls Try.prog 35 #[.slice a1 n1 k1, .slice aL n1 cL] V fun e w' => e = .returned (.bool true) ∧ Below V.heap.size V w') := fun V hb => strings_same a1 aL n1 k1 cL (qs.take z.toNat) V (strs_kept (strs_kept HJ1.out HP.out.bel) hb) (by
    have h1 := (strs_kept HIL.out hb).take hn1
    have h2 : qs.take z.toNat = qs.take n1 := by rw [take_dOf, HL2.out, ← HDF.out]
    rw [h2]; exact h1)
  have HD4 := hide (HD3.out.grow HP.out.bel)
  clear hcp hcm c2c
  go_wp2_with (first
    | (go_at_call 34; refine HF.out.mono ?_; rintro e w' ⟨rfl, hw'⟩; have hw' := hw'.symm; subst hw'; clear HF)
    | (go_at_call 35; refine HT1.out.mono ?_; rintro e W5 ⟨rfl, hb5⟩; have HB5 := hide hb5; clear hb5 HT1)
    | (go_at_call 35; refine (HT2.out _ HB5.out).mono ?_; rintro e W6 ⟨rfl, hb6⟩; have HB6 := hide hb6; clear hb6 HT2))
  go_ret
  exact ⟨rfl, _, _, _, (HD4.out.grow HB5.out).grow HB6.out⟩

set_option maxRecDepth 100000 in
set_option maxHeartbeats 4000000 in
theorem step_short (h : Duo w0 W p m py ao v ks ks b) (hbl : b + 1 < 2097152) (k : ByteArray) (z : Int) (hk : k.size ≤ 140737488351232) :
    Calls Try.prog 9 #[.pointer (some ⟨p, 0, none⟩), .pointer (some ⟨py, 0, none⟩), .agg #[.int .i64 7, .string k, .int .i64 z]] W (StepOk w0 p m py b) := by
  have HD := hide (h.boxed (.cells #[.int .i64 7, .string k, .int .i64 z] 30))
  have hplt := h.xlt (q := p) (.inl rfl)
  have hylt := h.ylt (q := py) (.inl rfl)
  have c1 : (W.alloc (.cells #[.int .i64 7, .string k, .int .i64 z] 30)).cell? ⟨W.heap.size, 1, none⟩ = some (.string k) := by simp
  have c2 : (W.alloc (.cells #[.int .i64 7, .string k, .int .i64 z] 30)).cell? ⟨W.heap.size, 2, none⟩ = some (.int .i64 z) := by simp
  have HNF : Hid (¬ foot p m ao W.heap.size) := fun hf => by have := h.xlt hf; omega
  have HNR : Hid (¬ footR py v W.heap.size) := fun hf => by have := h.ylt hf; omega
  clear h
  go_enter Try.func9, Try.ntmps9
  go_upto_region 22 with fail
  obtain ⟨W1, hW1⟩ : ∃ W1, W1 = W.alloc (.cells #[.int .i64 7, .string k, .int .i64 z] 30) := ⟨_, rfl⟩
  rw [← hW1] at c1 c2 HD ⊢
  have hs1 : W.heap.size < W1.heap.size := by rw [hW1]; simp
  clear hW1
  obtain ⟨B, hB⟩ : ∃ B, B = W.heap.size := ⟨_, rfl⟩
  rw [← hB] at c1 c2 HNF HNR hs1 ⊢
  clear hB
  have hlx := HD.out.lx
  have HY := hide (HD.out.cuty (by omega) z)
  have hql : (ks.take (dOf ks.length z)).length ≤ b := by rw [List.length_take]; omega
  have HOK : Hid (∀ s ∈ ks.take (dOf ks.length z), s.size ≤ 140737488351232) := fun s hs => HD.out.ok s (.inl (List.mem_of_mem_take hs))
  have HND : Hid ((ks.take (dOf ks.length z)).Nodup) := HD.out.ndx.sublist (List.take_sublist _ _)
  have HCX : Hid (∀ (V : World) (v2 : Value), Duo w0 V p m py ao v2 ks (ks.take (dOf ks.length z)) b → ∀ U, Below V.heap.size V U → Calls Try.prog 36 #[.pointer (some ⟨p, 0, none⟩), .int .i64 z] U fun e w' => e = .returned (.tuple #[]) ∧ Hid (IntSaid U p m ao b (ks.take (dOf ks.length z)) w')) := fun V v2 hD U hb => hD.cutx (by omega) z hb
  obtain ⟨qs, hqs⟩ : ∃ qs, qs = ks.take (dOf ks.length z) := ⟨_, rfl⟩
  rw [← hqs] at HY hql HOK HND HCX
  clear hqs
  go_upto_region 23 with (go_at_call 37; refine HY.out.mono ?_; rintro e W2 ⟨rfl, hJ⟩; have HJ := hide hJ.out; clear hJ HY)
  obtain ⟨v2, hD2, hO2⟩ := HJ.out
  have c2' : W2.cell? ⟨B, 2, none⟩ = some (.int .i64 z) := hO2.cell c2 HNR.out
  have HC := hide (cutShort_any (N := b) (qs := qs) z (hD2.xlt (.inl rfl)) (hD2.xlt (.inr (.inl rfl))) (fun a ha => hD2.xlt (.inr (.inr ⟨a, ha, rfl⟩))) (fun U hb => HCX.out W2 v2 hD2 U hb) (by omega))
  have HD2 := hide hD2
  clear HJ hD2 hO2 c1 c2
  go_upto_region 24 with (go_at_call 38; refine HC.out.mono ?_; rintro e W3 ⟨vS, rfl, hp⟩; have HP := hide hp.out; clear hp HC)
  obtain ⟨w1, hI, s1, _⟩ := HP.out
  obtain ⟨ao3, hD3⟩ := HD2.out.symTo hI (Nat.le_refl _) (Nat.le_refl _) HND.out HOK.out hql
  obtain ⟨a1, k1, rfl⟩ := s1.shape
  obtain ⟨n, hn⟩ : ∃ n, n = qs.length := ⟨_, rfl⟩
  have HN := hide hn
  rw [← hn] at s1 hql ⊢
  have HI1 := hide (s1.strs hn.symm (by omega) HOK.out)
  have HD3 := hide (hD3.grow s1.bel)
  have HA := hide (rall_any HD3.out.y (by rw [← hn]; omega))
  clear HP hI hD3 s1 hn
  go_upto_region 25 with (go_at_call 33; refine HA.out.mono ?_; rintro e W4 ⟨vL, rfl, hp⟩; have HP := hide hp.out; obtain ⟨aL, cL, hv⟩ := hp.out.shape; rw [← HN.out] at hv; subst hv; clear hp HA)
  have HIL := hide (HP.out.strs HN.out.symm (by omega) HOK.out)
  have HT1 := hide (strings_same a1 aL n k1 cL qs W4 (strs_kept HI1.out HP.out.bel) HIL.out)
  have HD4 := hide (HD3.out.grow HP.out.bel)
  go_wp2_with (first
    | (go_at_call 35; refine HT1.out.mono ?_; rintro e W5 ⟨rfl, hb5⟩; have HB5 := hide hb5; clear hb5 HT1))
  go_ret
  exact ⟨rfl, _, _, _, (HD4.out.grow HB5.out).up (Nat.le_succ b)⟩
end Go.Proofs.Ytbagefemhidbjaa
