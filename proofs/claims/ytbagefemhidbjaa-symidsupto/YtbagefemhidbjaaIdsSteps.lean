/- edictlaw01's idsStep: the other steps. -/
import Derived.Test.YtbagefemhidbjaaIdsStep
namespace Go.Proofs.Ytbagefemhidbjaa
set_option linter.unusedSimpArgs false
set_option linter.unusedVariables false
open Go.RowKit Go.Maps

variable {w0 W : World} {p m py : Nat} {ao : Option Addr} {v : Value} {ks kx ky : List ByteArray} {b : Nat}

open Classical in
noncomputable def posI (ks : List ByteArray) (k : ByteArray) : Int := if k ∈ ks then (posS ks k : Int) else -1

theorem Duo.findx (h : Duo w0 W p m py ao v kx ky b) {k : ByteArray} (hk : k.size ≤ 140737488351232) {V : World} (hb : Below W.heap.size W V) :
    Calls Try.prog 23 #[.pointer (some ⟨p, 0, none⟩), .string k] V fun e w' => e = .returned (.int .i64 (posI kx k)) ∧ w' = V := by
  obtain ⟨n, cap, hn, hI⟩ := h.x
  unfold posI
  by_cases hin : k ∈ kx
  · rw [if_pos hin]; exact findStr_some (hI.grow hb) (size_max hk) (idx_nodup hin)
  · rw [if_neg hin]; exact findStr_none (hI.grow hb) (size_max hk) hin
theorem Duo.findy (h : Duo w0 W p m py ao v kx ky b) (hbl : b < 2097152) {k : ByteArray} {V : World} (hb : Below W.heap.size W V) :
    Calls Try.prog 29 #[.pointer (some ⟨py, 0, none⟩), .string k] V fun e w' => e = .returned (.int .i64 (posI ky k)) ∧ w' = V := by
  have := h.ly
  unfold posI
  by_cases hin : k ∈ ky
  · rw [if_pos hin]; exact rfind_some (h.y.grow hb) h.ndy (by omega) (idx_nodup hin)
  · rw [if_neg hin]; exact rfind_none (h.y.grow hb) (by omega) hin

set_option maxRecDepth 100000 in
set_option maxHeartbeats 4000000 in
theorem step_find (h : Duo w0 W p m py ao v ks ks b) (hbl : b + 1 < 2097152) (k : ByteArray) (z : Int) (hk : k.size ≤ 140737488351232) :
    Calls Try.prog 9 #[.pointer (some ⟨p, 0, none⟩), .pointer (some ⟨py, 0, none⟩), .agg #[.int .i64 2, .string k, .int .i64 z]] W (StepOk w0 p m py b) := by
  have HD := hide (h.boxed (.cells #[.int .i64 2, .string k, .int .i64 z] 30))
  have hplt := h.xlt (q := p) (.inl rfl)
  have hylt := h.ylt (q := py) (.inl rfl)
  have c1 : (W.alloc (.cells #[.int .i64 2, .string k, .int .i64 z] 30)).cell? ⟨W.heap.size, 1, none⟩ = some (.string k) := by simp
  have c2 : (W.alloc (.cells #[.int .i64 2, .string k, .int .i64 z] 30)).cell? ⟨W.heap.size, 2, none⟩ = some (.int .i64 z) := by simp
  have HNF : Hid (¬ foot p m ao W.heap.size) := fun hf => by have := h.xlt hf; omega
  have HNR : Hid (¬ footR py v W.heap.size) := fun hf => by have := h.ylt hf; omega
  clear h
  go_enter Try.func9, Try.ntmps9
  go_upto_region 5 with fail
  obtain ⟨W1, hW1⟩ : ∃ W1, W1 = W.alloc (.cells #[.int .i64 2, .string k, .int .i64 z] 30) := ⟨_, rfl⟩
  rw [← hW1] at c1 c2 HD ⊢
  have hs1 : W.heap.size < W1.heap.size := by rw [hW1]; simp
  clear hW1
  obtain ⟨B, hB⟩ : ∃ B, B = W.heap.size := ⟨_, rfl⟩
  rw [← hB] at c1 c2 HNF HNR hs1 ⊢
  clear hB
  have HX := hide (fun V hb => HD.out.findx hk (V := V) hb)
  have HY := hide (fun V hb => HD.out.findy (by omega) (k := k) (V := V) hb)
  have hd1 : ∀ n, (W1.drewN n).cell? ⟨B, 1, none⟩ = some (.string k) := fun n => c1
  have G1 : Hid (∀ n, Calls Try.prog 23 #[.pointer (some ⟨p, 0, none⟩), .string k] (W1.drewN n) fun e w' => e = .returned (.int .i64 (posI ks k)) ∧ ∃ n', w' = W1.drewN n') := fun n => (HX.out _ (below_drewN _ W1 n)).mono fun e w' ⟨he, hw⟩ => ⟨he, n, hw⟩
  have G2 : Hid (∀ n, Calls Try.prog 29 #[.pointer (some ⟨py, 0, none⟩), .string k] (W1.drewN n) fun e w' => e = .returned (.int .i64 (posI ks k)) ∧ ∃ n', w' = W1.drewN n') := fun n => (HY.out _ (below_drewN _ W1 n)).mono fun e w' ⟨he, hw⟩ => ⟨he, n, hw⟩
  go_region_held3 (fun V => V.cell? ⟨B, 1, none⟩ = some (.string k))
    (first
      | go_keep
      | exact c1)
    (first
      | (go_at_call 23; refine (HX.out _ (below_drewN _ W1 1)).mono ?_; rintro e w' ⟨rfl, hw'⟩; have hw' := hw'.symm; subst hw')
      | (go_at_call 29; refine (HY.out _ (below_drewN _ W1 1)).mono ?_; rintro e w' ⟨rfl, hw'⟩; have hw' := hw'.symm; subst hw'))
  go_wp2
  go_ret
  exact ⟨rfl, ao, v, ks, (HD.out.up (Nat.le_succ b)).grow (below_drewN _ W1 1)⟩

set_option maxRecDepth 100000 in
set_option maxHeartbeats 4000000 in
theorem step_len (h : Duo w0 W p m py ao v ks ks b) (hbl : b + 1 < 2097152) (k : ByteArray) (z : Int) (hk : k.size ≤ 140737488351232) :
    Calls Try.prog 9 #[.pointer (some ⟨p, 0, none⟩), .pointer (some ⟨py, 0, none⟩), .agg #[.int .i64 4, .string k, .int .i64 z]] W (StepOk w0 p m py b) := by
  have HD := hide (h.boxed (.cells #[.int .i64 4, .string k, .int .i64 z] 30))
  have hplt := h.xlt (q := p) (.inl rfl)
  have hylt := h.ylt (q := py) (.inl rfl)
  have c1 : (W.alloc (.cells #[.int .i64 4, .string k, .int .i64 z] 30)).cell? ⟨W.heap.size, 1, none⟩ = some (.string k) := by simp
  have c2 : (W.alloc (.cells #[.int .i64 4, .string k, .int .i64 z] 30)).cell? ⟨W.heap.size, 2, none⟩ = some (.int .i64 z) := by simp
  have HNF : Hid (¬ foot p m ao W.heap.size) := fun hf => by have := h.xlt hf; omega
  have HNR : Hid (¬ footR py v W.heap.size) := fun hf => by have := h.ylt hf; omega
  clear h
  go_enter Try.func9, Try.ntmps9
  go_upto_region 11 with fail
  obtain ⟨W1, hW1⟩ : ∃ W1, W1 = W.alloc (.cells #[.int .i64 4, .string k, .int .i64 z] 30) := ⟨_, rfl⟩
  rw [← hW1] at c1 c2 HD ⊢
  have hs1 : W.heap.size < W1.heap.size := by rw [hW1]; simp
  clear hW1
  obtain ⟨B, hB⟩ : ∃ B, B = W.heap.size := ⟨_, rfl⟩
  rw [← hB] at c1 c2 HNF HNR hs1 ⊢
  clear hB
  obtain ⟨n, cap, -, hI⟩ := HD.out.x
  have HX := hide (lenStr_any hI)
  have HY := hide (rlen_any HD.out.y)
  clear hI
  generalize ks.length = len at HX HY
  go_wp2_with (first
    | (go_at_call 21; refine HX.out.mono ?_; rintro e w' ⟨rfl, hw'⟩; have hw' := hw'.symm; subst hw')
    | (go_at_call 31; refine HY.out.mono ?_; rintro e w' ⟨rfl, hw'⟩; have hw' := hw'.symm; subst hw'))
  go_ret
  exact ⟨rfl, ao, v, ks, HD.out.up (Nat.le_succ b)⟩

set_option maxRecDepth 100000 in
set_option maxHeartbeats 4000000 in
theorem step_at (h : Duo w0 W p m py ao v ks ks b) (hbl : b + 1 < 2097152) (k : ByteArray) (z : Int) (hk : k.size ≤ 140737488351232) :
    Calls Try.prog 9 #[.pointer (some ⟨p, 0, none⟩), .pointer (some ⟨py, 0, none⟩), .agg #[.int .i64 3, .string k, .int .i64 z]] W (StepOk w0 p m py b) := by
  have HD := hide (h.boxed (.cells #[.int .i64 3, .string k, .int .i64 z] 30))
  have hplt := h.xlt (q := p) (.inl rfl)
  have hylt := h.ylt (q := py) (.inl rfl)
  have c1 : (W.alloc (.cells #[.int .i64 3, .string k, .int .i64 z] 30)).cell? ⟨W.heap.size, 1, none⟩ = some (.string k) := by simp
  have c2 : (W.alloc (.cells #[.int .i64 3, .string k, .int .i64 z] 30)).cell? ⟨W.heap.size, 2, none⟩ = some (.int .i64 z) := by simp
  have HNF : Hid (¬ foot p m ao W.heap.size) := fun hf => by have := h.xlt hf; omega
  have HNR : Hid (¬ footR py v W.heap.size) := fun hf => by have := h.ylt hf; omega
  clear h
  go_enter Try.func9, Try.ntmps9
  go_upto_region 7 with fail
  obtain ⟨W1, hW1⟩ : ∃ W1, W1 = W.alloc (.cells #[.int .i64 3, .string k, .int .i64 z] 30) := ⟨_, rfl⟩
  rw [← hW1] at c1 c2 HD ⊢
  have hs1 : W.heap.size < W1.heap.size := by rw [hW1]; simp
  clear hW1
  obtain ⟨B, hB⟩ : ∃ B, B = W.heap.size := ⟨_, rfl⟩
  rw [← hB] at c1 c2 HNF HNR hs1 ⊢
  clear hB
  obtain ⟨n, cap, -, hI⟩ := HD.out.x
  have hlx := HD.out.lx
  by_cases hz : z < 0 ∨ (ks.length : Int) ≤ z
  · have HX := hide (atStr_out hI (by omega) hz)
    have HY := hide (rat_out HD.out.y (by omega) hz)
    clear hI
    go_wp2_with (first
      | (go_at_call 22; refine HX.out.mono ?_; rintro e w' ⟨rfl, hw'⟩; have hw' := hw'.symm; subst hw')
      | (go_at_call 30; refine HY.out.mono ?_; rintro e w' ⟨rfl, hw'⟩; have hw' := hw'.symm; subst hw'))
    go_ret
    exact ⟨rfl, ao, v, ks, HD.out.up (Nat.le_succ b)⟩
  · obtain ⟨i, rfl⟩ : ∃ i : Nat, z = i := ⟨z.toNat, by omega⟩
    obtain ⟨s, hs⟩ : ∃ s, ks[i]? = some s := ⟨_, List.getElem?_eq_getElem (by omega)⟩
    have HX := hide (atStr_in hI (by omega) hs)
    have HY := hide (rat_in HD.out.y (by omega) hs)
    clear hI hs
    go_wp2_with (first
      | (go_at_call 22; refine HX.out.mono ?_; rintro e w' ⟨rfl, hw'⟩; have hw' := hw'.symm; subst hw')
      | (go_at_call 30; refine HY.out.mono ?_; rintro e w' ⟨rfl, hw'⟩; have hw' := hw'.symm; subst hw'))
    go_ret
    exact ⟨rfl, ao, v, ks, HD.out.up (Nat.le_succ b)⟩

set_option maxRecDepth 100000 in
set_option maxHeartbeats 4000000 in
theorem step_cut (h : Duo w0 W p m py ao v ks ks b) (hbl : b + 1 < 2097152) (k : ByteArray) (z : Int) (hk : k.size ≤ 140737488351232) :
    Calls Try.prog 9 #[.pointer (some ⟨p, 0, none⟩), .pointer (some ⟨py, 0, none⟩), .agg #[.int .i64 6, .string k, .int .i64 z]] W (StepOk w0 p m py b) := by
  have HD := hide (h.boxed (.cells #[.int .i64 6, .string k, .int .i64 z] 30))
  have hplt := h.xlt (q := p) (.inl rfl)
  have hylt := h.ylt (q := py) (.inl rfl)
  have c1 : (W.alloc (.cells #[.int .i64 6, .string k, .int .i64 z] 30)).cell? ⟨W.heap.size, 1, none⟩ = some (.string k) := by simp
  have c2 : (W.alloc (.cells #[.int .i64 6, .string k, .int .i64 z] 30)).cell? ⟨W.heap.size, 2, none⟩ = some (.int .i64 z) := by simp
  have HNF : Hid (¬ foot p m ao W.heap.size) := fun hf => by have := h.xlt hf; omega
  have HNR : Hid (¬ footR py v W.heap.size) := fun hf => by have := h.ylt hf; omega
  clear h
  go_enter Try.func9, Try.ntmps9
  go_upto_region 19 with fail
  obtain ⟨W1, hW1⟩ : ∃ W1, W1 = W.alloc (.cells #[.int .i64 6, .string k, .int .i64 z] 30) := ⟨_, rfl⟩
  rw [← hW1] at c1 c2 HD ⊢
  have hs1 : W.heap.size < W1.heap.size := by rw [hW1]; simp
  clear hW1
  obtain ⟨B, hB⟩ : ∃ B, B = W.heap.size := ⟨_, rfl⟩
  rw [← hB] at c1 c2 HNF HNR hs1 ⊢
  clear hB
  have HX := hide (HD.out.cutx (by omega) z (Below.refl _ W1))
  have HTK : Hid ((ks.take (dOf ks.length z)).length ≤ b) := by show _ ≤ _; rw [List.length_take]; have := HD.out.lx; omega
  go_wp2_with (first
    | (go_at_call 36; refine HX.out.mono ?_; rintro e W2 ⟨rfl, hI⟩; obtain ⟨ao2, hD2⟩ := HD.out.symTo hI.out (Nat.le_refl _) (Nat.le_refl _) (HD.out.ndx.sublist (List.take_sublist _ _)) (fun k hk => HD.out.ok k (.inl (List.mem_of_mem_take hk))) HTK.out; obtain ⟨_, _, _, _, _, i3, _⟩ := hI.out; have c2' : W2.cell? ⟨B, 2, none⟩ = some (.int .i64 z) := i3.cell c2 HNF.out; have HY := hide (hD2.cuty (by omega) z); clear hI hD2 i3)
    | (go_at_call 37; refine HY.out.mono ?_; rintro e W3 ⟨rfl, hJ⟩; obtain ⟨v3, hD3, -⟩ := hJ.out; have HD3 := hide hD3; clear hJ hD3))
  go_ret
  exact ⟨rfl, ao2, v3, _, HD3.out.up (Nat.le_succ b)⟩

set_option maxRecDepth 100000 in
set_option maxHeartbeats 2000000 in
theorem step_other (h : Duo w0 W p m py ao v ks ks b) (k : ByteArray) (y z : Int) (h1 : (y == 1) = false) (h2 : (y == 2) = false) (h3 : (y == 3) = false) (h4 : (y == 4) = false) (h5 : (y == 5) = false) (h6 : (y == 6) = false) (h7 : (y == 7) = false) :
    Calls Try.prog 9 #[.pointer (some ⟨p, 0, none⟩), .pointer (some ⟨py, 0, none⟩), .agg #[.int .i64 y, .string k, .int .i64 z]] W (StepOk w0 p m py b) := by
  have HD := hide (h.boxed (.cells #[.int .i64 y, .string k, .int .i64 z] 30))
  clear h
  go_enter Try.func9, Try.ntmps9
  go_wp2
  go_ret
  exact ⟨rfl, ao, v, ks, HD.out.up (Nat.le_succ b)⟩
end Go.Proofs.Ytbagefemhidbjaa
