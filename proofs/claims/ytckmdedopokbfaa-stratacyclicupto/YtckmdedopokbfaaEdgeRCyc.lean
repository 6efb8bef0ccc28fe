/- The document's Cyclic. -/
import Derived.Test.YtckmdedopokbfaaEdgeCyc
import Derived.Laws.Cover3
namespace Go.Proofs.Ytckmdedopokbfaa
set_option linter.unusedSimpArgs false
set_option linter.unusedVariables false
open Go.RowKit

theorem ed_at {es : List Edg} {k : Nat} {x : Edg} (h : es[k]? = some x) : ed es (k : Int) = x := by unfold ed; simp [h]
theorem wk_at {l : List Int} {k : Nat} {x : Int} (h : l[k]? = some x) : wk l k = x := by unfold wk; simp [h]

set_option maxHeartbeats 1000000 in
theorem rcyclic_any {w : World} {v u : Value} {es : List Edg} {ls : List Int} (h : Has elEdg w v es) (hu : Has elInt w u ls) (n : Int) :
    Calls Try.prog 17 #[.int .i64 n, v, u] w fun e w' => e = .returned (.bool (cyclicP n es ls)) ∧ Below w.heap.size w w' := by
  have HF := hide (rfit_any h n)
  obtain ⟨va, vc, rfl, -, -, hlen⟩ := h.shape
  obtain ⟨ua, uc, rfl, -, -, hlen2⟩ := hu.shape
  have HL := hide h
  have HU := hide hu
  clear h hu
  unfold cyclicP
  cases hfit : fitP n es with
  | false =>
    rw [hfit] at HF
    go_enter Try.func17, Try.ntmps17
    go_wp2_with (go_at_call 19; refine HF.out.mono ?_; rintro e w2 ⟨rfl, h2⟩; have HB2 := hide h2; clear h2)
    go_ret
    exact ⟨rfl, HB2.out⟩
  | true =>
    rw [hfit] at HF
    clear hfit
    by_cases hq : ls.length = 0
    · have hq' : ((ls.length : Int) == 0) = true := by simpa using hq
      have hq2 : (ls.length == 0) = true := by simpa using hq
      rw [hq2]
      clear hq
      go_enter Try.func17, Try.ntmps17
      go_wp2_with (go_at_call 19; refine HF.out.mono ?_; rintro e w2 ⟨rfl, h2⟩; have HB2 := hide h2; clear h2)
      go_ret
      exact ⟨rfl, HB2.out⟩
    · have hq' : ((ls.length : Int) == 0) = false := by rw [beq_eq_false_iff_ne]; omega
      have hq2 : (ls.length == 0) = false := by simpa using hq
      rw [hq2]
      have hpos : 0 < ls.length := by omega
      clear hq hq2
      obtain ⟨a, ha⟩ : ∃ a, ls.any (outN es.length) = a := ⟨_, rfl⟩
      obtain ⟨c, hc⟩ : ∃ c, cycB es ls = c := ⟨_, rfl⟩
      obtain ⟨d, hd⟩ : ∃ d, ls.any (negW es) = d := ⟨_, rfl⟩
      rw [ha, hc, hd]
      have HA := hide ha
      have HC := hide hc
      have HD := hide hd
      clear ha hc hd
      go_enter Try.func17, Try.ntmps17
      go_wp2_with (go_at_call 19; refine HF.out.mono ?_; rintro e w2 ⟨rfl, h2⟩; have HB2 := hide h2; clear h2)
      go_loopw [7, 8] (fun g i wl => ∃ (k : Nat) (b : Bool), k ≤ ls.length ∧ i = .int .i64 k ∧ g = .bool b ∧ Hid (b = (ls.take k).any (negW es)) ∧ Hid (∀ x ∈ ls.take k, outN es.length x = false) ∧ Hid (Below w.heap.size w wl)) (fun _ i _ => ls.length - (intOf i).toNat)
      case atStart => exact ⟨0, false, by omega, rfl, rfl, by show _ = _; simp, by show ∀ x ∈ ls.take 0, outN es.length x = false; simp, HB2⟩
      case round =>
        obtain ⟨k, bb, hk, rfl, rfl, HN, HK, HB⟩ := hrel
        clear HB2
        by_cases hlt : k < ls.length
        · have hi : (k : Int) < (ls.length : Int) := by omega
          have hi0 : (0 : Int) ≤ (k : Int) := by omega
          obtain ⟨ub, uo, rfl, -, -, hrow⟩ := HU.out.row (by omega)
          obtain ⟨x, hx⟩ : ∃ x, ls[k]? = some x := ⟨_, List.getElem?_eq_getElem hlt⟩
          have y0 := kept_cell HB.out (hrow k x hx 0 _ rfl)
          simp only [elInt, Nat.add_zero, Nat.mul_one] at y0
          have HX := hide hx
          clear hrow hx
          cases he : outN es.length x with
          | true =>
            have HE : Hid (a = true) := by show _ = _; rw [← HA.out]; exact any_at HX.out he
            rcases outN_true he with g | ⟨g1, g⟩
            · have q1 : decide (x < 0) = true := by simpa using g
              clear he g
              go_wp2
              go_ret
              exact ⟨by rw [HE.out]; rfl, HB.out⟩
            · have q1 : decide (x < 0) = false := by simpa using g1
              have q2 : decide ((es.length : Int) ≤ x) = true := by simpa using g
              clear he g g1
              go_wp2
              go_ret
              exact ⟨by rw [HE.out]; rfl, HB.out⟩
          | false =>
            have HF2 := hide (all_snoc HX.out HK.out he)
            obtain ⟨j, rfl, hj⟩ := outN_false he
            have q1 : decide ((j : Int) < 0) = false := by simp
            have q2 : decide ((es.length : Int) ≤ (j : Int)) = false := by simpa using hj
            have q3 : decide (es.length ≤ j) = false := by simpa using hj
            have hj' : (j : Int) < (es.length : Int) := by omega
            have hj0 : (0 : Int) ≤ (j : Int) := by omega
            obtain ⟨b, off, rfl, -, -, erow⟩ := HL.out.row (by omega)
            obtain ⟨e, hex⟩ : ∃ x, es[j]? = some x := ⟨_, List.getElem?_eq_getElem hj⟩
            have z2 := kept_cell HB.out (erow j e hex 2 _ rfl)
            simp only [elEdg] at z2
            have HN2 : Hid ((ls.take (k + 1)).any (negW es) = (bb || e.neg)) := by
              show _ = _
              rw [take_snoc8 HX.out, List.any_append, ← HN.out]
              unfold negW
              simp [ed_at hex]
            clear he hj erow hex
            cases bb
            · go_wp2
              go_roundw
              case rel => exact ⟨k + 1, e.neg, by omega, by go_num, rfl, by show _ = _; rw [HN2.out]; rfl, HF2, HB⟩
              case measure => simp [intOf]; omega
            · go_wp2
              go_roundw
              case rel => exact ⟨k + 1, true, by omega, by go_num, rfl, by show _ = _; rw [HN2.out]; rfl, HF2, HB⟩
              case measure => simp [intOf]; omega
        · obtain rfl : k = ls.length := by omega
          have hi : ¬ (ls.length : Int) < (ls.length : Int) := by omega
          have HEa : Hid (a = false) := by show _ = _; rw [← HA.out]; exact any_no HK.out
          have HEd : Hid (bb = d) := by show _ = _; rw [HN.out, List.take_of_length_le (Nat.le_refl _)]; exact HD.out
          have HIn : Hid (∀ x ∈ ls, ∃ k : Nat, x = k ∧ k < es.length) := by
            have h1 := HK.out
            rw [List.take_of_length_le (Nat.le_refl _)] at h1
            exact fun x hx => outN_false (h1 x hx)
          clear HA HK HN HD
          go_wp2
          go_loopw [9, 10] (fun i _ wl => ∃ k : Nat, k ≤ ls.length ∧ i = .int .i64 k ∧ Hid (∀ i, i < k → nextOk es ls i = true) ∧ Hid (Below w.heap.size w wl)) (fun i _ _ => ls.length - (intOf i).toNat)
          case atStart => exact ⟨0, by omega, rfl, by show ∀ i, i < 0 → _; intro i h; omega, HB⟩
          case round =>
            clear HB
            obtain ⟨k, hk, rfl, HK, HB⟩ := hrel
            by_cases hlt : k < ls.length
            · have hi : (k : Int) < (ls.length : Int) := by omega
              have hi0 : (0 : Int) ≤ (k : Int) := by omega
              have HNx : Hid (nxt ls.length k = (k + 1) % ls.length) := by
                show _ = _
                unfold nxt
                split
                · rename_i hh
                  rw [hh, Nat.mod_self]
                · rw [Nat.mod_eq_of_lt (by omega)]
              have hnx : (k + 1) % ls.length < ls.length := Nat.mod_lt _ hpos
              have hr1 : ((k : Int) + 1) % (ls.length : Int) < (ls.length : Int) := Int.emod_lt_of_pos _ (by omega)
              have hr0 : 0 ≤ ((k : Int) + 1) % (ls.length : Int) := Int.emod_nonneg _ (by omega)
              obtain ⟨ub, uo, rfl, -, -, urow⟩ := HU.out.row (by omega)
              obtain ⟨x, hx⟩ : ∃ x, ls[k]? = some x := ⟨_, List.getElem?_eq_getElem hlt⟩
              obtain ⟨y, hy⟩ : ∃ x, ls[(k + 1) % ls.length]? = some x := ⟨_, List.getElem?_eq_getElem hnx⟩
              obtain ⟨mx, rfl, hmx⟩ := HIn.out x (List.mem_of_getElem? hx)
              obtain ⟨my, rfl, hmy⟩ := HIn.out y (List.mem_of_getElem? hy)
              obtain ⟨eb, eo, rfl, -, -, erow⟩ := HL.out.row (by omega)
              obtain ⟨ex, hex⟩ : ∃ x, es[mx]? = some x := ⟨_, List.getElem?_eq_getElem hmx⟩
              obtain ⟨ey, hey⟩ : ∃ x, es[my]? = some x := ⟨_, List.getElem?_eq_getElem hmy⟩
              have u0 := over_cell (kept_cell HB.out (urow k _ hx 0 _ rfl))
              have u1 := kept_cell HB.out (urow ((k + 1) % ls.length) _ hy 0 _ rfl)
              have v0 := over_cell (kept_cell HB.out (erow mx _ hex 1 _ rfl))
              have v1 := over_cell (kept_cell HB.out (erow my _ hey 0 _ rfl))
              simp only [elInt, elEdg, Nat.add_zero, Nat.mul_one] at u0 u1 v0 v1
              have hmx' : (mx : Int) < (es.length : Int) := by omega
              have hmy' : (my : Int) < (es.length : Int) := by omega
              have hmx0 : (0 : Int) ≤ (mx : Int) := by omega
              have hmy0 : (0 : Int) ≤ (my : Int) := by omega
              have HQ : Hid (nextOk es ls k = (ex.t == ey.f)) := by
                show _ = _
                unfold nextOk
                rw [HNx.out, wk_at hx, wk_at hy, ed_at hex, ed_at hey]
              clear urow erow hx hy hex hey hmx hmy hnx
              cases he : (ex.t == ey.f) with
              | true =>
                rw [he] at HQ
                have hne : (ex.t != ey.f) = false := by unfold bne; rw [he]; rfl
                have HK2 : Hid (∀ i, i < k + 1 → nextOk es ls i = true) := by
                  show ∀ i, i < k + 1 → nextOk es ls i = true
                  intro i hi
                  rcases Nat.lt_succ_iff_lt_or_eq.1 hi with h | h
                  · exact HK.out i h
                  · rw [h]; exact HQ.out
                clear he
                go_wp2
                refine wp_region_over (fun W => W = wr) (by kernel_rfl) (by kernel_rfl) rfl ?_
                rintro W rfl
                repeat (go_big_quiet_step (first | fail))
                refine wpQuiet_nil ?_
                rintro _ ⟨z, rfl⟩
                have HBz := hide (HB.out.trans ((over_below W z).mono HB.out.size))
                go_wp2
                go_roundw
                case rel => exact ⟨k + 1, by omega, by go_num, HK2, HBz⟩
                case measure => simp [intOf]; omega
              | false =>
                rw [he] at HQ
                have hne : (ex.t != ey.f) = true := by unfold bne; rw [he]; rfl
                have HE : Hid (c = false) := by show _ = _; rw [← HC.out]; exact cyc_no' hlt HQ.out
                clear he
                go_wp2
                refine wp_region_over (fun W => W = wr) (by kernel_rfl) (by kernel_rfl) rfl ?_
                rintro W rfl
                repeat (go_big_quiet_step (first | fail))
                refine wpQuiet_nil ?_
                rintro _ ⟨z, rfl⟩
                have HBz := hide (HB.out.trans ((over_below W z).mono HB.out.size))
                go_wp2
                go_ret
                exact ⟨by rw [HEa.out, HE.out]; rfl, HBz.out⟩
            · obtain rfl : k = ls.length := by omega
              have hi : ¬ (ls.length : Int) < (ls.length : Int) := by omega
              have HE : Hid (c = true) := by show _ = _; rw [← HC.out]; exact cyc_yes' HK.out
              go_wp2
              go_ret
              exact ⟨by rw [HEa.out, HE.out, ← HEd.out]; rfl, HB.out⟩
end Go.Proofs.Ytckmdedopokbfaa
