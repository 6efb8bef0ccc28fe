/- The law of sums of lists: its walk. -/
import Derived.Test.YtiacdadgnofhjabRefSum
import Derived.Test.YtiacdadgnofhjabOverAt
namespace Go.Proofs.Ytiacdadgnofhjab
set_option linter.unusedSimpArgs false
set_option linter.unusedVariables false
open Go.RowKit

theorem flatU_len (l : List Nat) : (l.flatMap elU.cells).length = l.length * 1 := flatE_len elU l
theorem flatU_one (l : List Nat) : ∀ u ∈ l.flatMap elU.cells, u.oneCell' = true := by
  intro u hu
  obtain ⟨x, _, hx⟩ := List.mem_flatMap.1 hu
  simp only [elU, List.mem_singleton] at hx
  subst hx
  rfl
theorem Lst.news {w : World} {ao : Option Addr} {n cap : Nat} {l : List Nat} (h : Has elU w (.slice ao n cap) l) : ∀ ad, ao = some ad → ∀ j u, (l.flatMap elU.cells)[j]? = some u → w.cell? (ad.add j) = some u := by
  intro ad e j u hu
  have hj : j < l.length := by
    have := (List.getElem?_eq_some_iff.1 hu).1
    rw [flatU_len] at this
    omega
  obtain ⟨b, off, e2, -, -, hrow⟩ := h.row (by omega)
  rw [e] at e2
  injection e2 with e2
  subst e2
  have h2 := flatE_at elU l j 0 l[j] (List.getElem?_eq_getElem hj) (by decide)
  rw [show j * elU.size + 0 = j from by simp [elU], hu] at h2
  have h3 := hrow j l[j] (List.getElem?_eq_getElem hj) 0 u h2.symm
  rw [addr_add]
  simpa [elU] using h3

theorem Lst.pre {w : World} {F : Nat → Prop} {ad : Addr} {m cap : Nat} {l r : List Nat} (h : Lst elU w F (.slice (some ad) m cap) (l ++ r)) : Lst elU w F (.slice (some ad) l.length cap) l := by
  obtain ⟨ao, c, e, h1, h2, h3, h4, h5⟩ := h
  injection e with e1 e2 e3
  subst e1 e3
  rw [List.length_append] at h1 h3
  refine ⟨_, _, rfl, by omega, fun h => (by cases h), by omega, fun x hx => h4 x (List.mem_append_left _ hx), fun hp => ?_⟩
  obtain ⟨b, off, e2, hb, hF, hc⟩ := h5 (by rw [List.length_append]; omega)
  exact ⟨b, off, e2, hb, hF, fun i x hx j u hu => hc i x (by rw [List.getElem?_append_left (List.getElem?_eq_some_iff.1 hx).1]; exact hx) j u hu⟩

set_option maxHeartbeats 1000000 in
theorem same_any9 {w : World} {v1 v2 : Value} {L : List Nat} (h1 : Has elU w v1 L) (h2 : Has elU w v2 L) :
    Calls Try.prog 6 #[v1, v2] w fun e w' => e = .returned (.bool true) ∧ Below w.heap.size w w' := by
  obtain ⟨va, vc, rfl, -, -, hlen⟩ := h1.shape
  obtain ⟨ua, uc, rfl, -, -, -⟩ := h2.shape
  have H1 := hide h1
  have H2 := hide h2
  clear h1 h2
  go_enter Try.func6, Try.ntmps6
  go_wp2
  go_loopw [13] (fun i wl => ∃ k : Nat, k ≤ L.length ∧ i = .int .i64 k ∧ Hid (Below w.heap.size w wl)) (fun i _ => L.length - (intOf i).toNat)
  case atStart => exact ⟨0, by omega, rfl, Below.refl _ _⟩
  case round =>
    obtain ⟨k, hk, rfl, HB⟩ := hrel
    by_cases hlt : k < L.length
    · have hi : (k : Int) < (L.length : Int) := by omega
      have hi0 : (0 : Int) ≤ (k : Int) := by omega
      obtain ⟨b, bo, rfl, -, -, hrow⟩ := H1.out.row (by omega)
      obtain ⟨c, co, rfl, -, -, krow⟩ := H2.out.row (by omega)
      obtain ⟨t, hx⟩ : ∃ t, L[k]? = some t := ⟨_, List.getElem?_eq_getElem hlt⟩
      have y0 := over_cell (kept_cell HB.out (hrow k t hx 0 _ rfl))
      have z0 := over_cell (kept_cell HB.out (krow k t hx 0 _ rfl))
      simp only [elU, Nat.add_zero, Nat.mul_one] at y0 z0
      have hq : (t != t) = false := by simp
      clear hrow hx krow
      go_wp2
      refine wp_region_over (fun W => W = wr) (by kernel_rfl) (by kernel_rfl) rfl ?_
      rintro W rfl
      repeat (go_big_quiet_step (first | fail))
      refine wpQuiet_nil ?_
      rintro _ ⟨z, rfl⟩
      go_wp2
      go_roundw
      case rel => exact ⟨k + 1, by omega, by go_num, HB.out.trans ((over_below W z).mono HB.out.size)⟩
      case measure => simp [intOf]; omega
    · obtain rfl : k = L.length := by omega
      have hi : ¬ (L.length : Int) < (L.length : Int) := by omega
      go_wp2
      go_ret
      exact ⟨rfl, HB.out⟩
set_option maxHeartbeats 1000000 in
theorem boundSums_walk (v : Value) (l : List Nat) (w : World) (h : Has elU w v l) (hb : l.length ≤ 1048576) :
    Calls Try.prog 3 #[v] w fun e w' => e = .returned (.bool true) ∧ Below w.heap.size w w' := by
  obtain ⟨i0, hi0, hz0, hz1, hz2⟩ := info_parts Try.infoU
  obtain ⟨va, vc, rfl, -, hno, hlen⟩ := h.shape
  have HL := hide h
  have HNo := hide hno
  clear h hno
  go_enter Try.func3, Try.ntmps3
  go_wp2_with (at_builtin; refine wpList_append_any rfl _ _ 22 rfl w.heap.size 23 i0 _ 1 8 Try.underlying22 hi0 hz0 hz1 hz2 rfl (by decide) _ 0 [] rfl (World.ownsRow_nil _ _ _ _) va l.length vc (l.flatMap elU.cells) rfl HNo.out (flatU_len l) HL.out.news (flatU_one l) (by unfold maxLen; omega) (by omega) (Nat.le_refl _) ?_)
  intro v1 w1 ho1 hg1
  have HG := hide (show Grow elU 23 w.heap.size w1 v1 l from ⟨ho1, fun x hx => HL.out.ok hx⟩)
  have HB := hide (below_grown (Below.refl w.heap.size w) (World.ownsRow_nil _ _ 23 1) hg1 (Nat.le_refl _))
  obtain ⟨a1, c1, rfl, -, -⟩ := HG.out.shape
  have HG2 := hide (HG.out.kept (belo1 w1 (.cells #[.int .u64 77] 23)))
  have HB2 := hide (HB.out.alloc HB.out.size (.cells #[.int .u64 77] 23))
  have HS := hide HB.out.size
  clear ho1 hg1 HG HB
  go_wp2_with (at_builtin; refine wpList_push (w0 := w) elU rfl _ _ 22 rfl w.heap.size 23 i0 _ 8 Try.underlying22 hi0 hz0 hz1 hz2 rfl (by decide) _ l l.length rfl rfl HG2.out 77 w1.heap.size 1 rfl (fun j u hu => new_cells j u hu) (by show _ < _; omega) (by omega) HB2.out (by simp; have := HS.out; omega) ?_)
  intro g cap w2 HG3 HB3 HGr
  clear HGr HG2 HB2 HS
  have HA := hide (HG3.out.list (by simp; omega))
  have hcap : l.length + 1 ≤ cap := by
    obtain ⟨ga, gc, e, h1, -⟩ := HG3.out.shape
    injection e with e1 e2 e3
    rw [← e3, List.length_append] at h1
    exact h1
  have hc1 : (l.length : Int) ≤ (cap : Int) := by omega
  have hc2 : (l.length : Int) + 1 ≤ (cap : Int) := by omega
  have HI := hide (HA.out.pre)
  have HY : Hid (w2.cell? ⟨g, l.length, none⟩ = some (.int .u64 77)) := by
    show _ = _
    obtain ⟨b, off, e, -, -, hrow⟩ := HA.out.row (by simp)
    injection e with e
    injection e with e1 e2
    subst e1 e2
    have := hrow l.length 77 (by simp) 0 (.int .u64 77) rfl
    simpa [elU] using this
  have HS1 := hide (bsum_any HI.out)
  have HS2 := hide (rsum_any (HL.out.kept HB3.out) hb)
  obtain ⟨z, hz⟩ : ∃ z, cutN l.sum = z := ⟨_, rfl⟩
  rw [hz] at HS1 HS2
  clear HG3 HA hcap hz
  go_wp2_with (first
    | (go_at_call 4; refine HS1.out.mono ?_; rintro e w3 ⟨rfl, hw⟩; have hw := hw.symm; subst hw; clear HS1)
    | (go_at_call 5; refine HS2.out.mono ?_; rintro e w3 ⟨rfl, hb3⟩; have HB4 := hide hb3; clear hb3 HS2)
    | (go_at_call 6; refine (same_any9 (HI.out.kept HB4.out) (HL.out.kept (HB3.out.trans (HB4.out.mono HB3.out.size)))).mono ?_; rintro e w4 ⟨rfl, hb4⟩; have HB5 := hide (HB4.out.trans (hb4.mono HB4.out.size)); have y0 := kept_cell HB5.out HY.out; clear hb4 HB4)
    | (go_at_call 4; refine (bsum_any (Lst.nil elU _ _)).mono ?_; rintro e w5 ⟨rfl, hw⟩; have hw := hw.symm; subst hw))
  go_ret
  exact ⟨rfl, HB3.out.trans (HB5.out.mono HB3.out.size)⟩
end Go.Proofs.Ytiacdadgnofhjab
