/- The law of a meter: its walk. -/
import Derived.Test.YtidllcbagfhndaaMeterBack
import Derived.Test.YtidllcbagfhndaaBigMem
namespace Go.Proofs.Ytidllcbagfhndaa
set_option linter.unusedSimpArgs false
set_option linter.unusedVariables false
open Go.RowKit

theorem newMeter_ex {lim : Nat} (hl : lim < 18446744073709551616) (w : World) :
    Calls Try.prog 5 #[.int .u64 (lim : Int)] w fun e w' => ∃ b, e = .returned (.pointer (some ⟨b, 0, none⟩)) ∧ MetAt w' b lim 0 ∧ Below w.heap.size w w' ∧ w.heap.size ≤ b :=
  (newMeter_any hl w).mono fun e w' ⟨h1, h2, h3, h4⟩ => ⟨_, h1, h2, h3, Nat.le_refl _⟩
theorem left_is {w : World} {b lim used r : Nat} (h : MetAt w b lim used) (hr : lim - used = r) :
    Calls Try.prog 8 #[.pointer (some ⟨b, 0, none⟩)] w fun e w' => e = .returned (.int .u64 (r : Int)) ∧ MetAt w' b lim used ∧ Touch b w w' := by
  subst hr
  exact left_any h

/-- Two meters of one limit, made since w0. -/
structure KeepAt (w0 w : World) (b c lim u v : Nat) : Prop where
  one : MetAt w b lim u
  two : MetAt w c lim v
  ne : b ≠ c
  low : w0.heap.size ≤ b ∧ w0.heap.size ≤ c
  below : Below w0.heap.size w0 w
theorem KeepAt.at1 {w0 w w' : World} {b c lim u v u' : Nat} (h : KeepAt w0 w b c lim u v) (g : MetAt w' b lim u') (t : Touch b w w') : KeepAt w0 w' b c lim u' v :=
  ⟨g, h.two.other t (Ne.symm h.ne), h.ne, h.low, t.below h.below h.low.1⟩
theorem KeepAt.at2 {w0 w w' : World} {b c lim u v v' : Nat} (h : KeepAt w0 w b c lim u v) (g : MetAt w' c lim v') (t : Touch c w w') : KeepAt w0 w' b c lim u v' :=
  ⟨h.one.other t h.ne, g, h.ne, h.low, t.below h.below h.low.2⟩

set_option maxRecDepth 100000 in
set_option maxHeartbeats 4000000 in
theorem boundMeterKeeps_walk (lim : Nat) (p : Value) (xs : List Nat) (q : Value) (ys : List Nat) (w : World) (hl : lim < 18446744073709551616) (hx : Has elU w p xs) (hx9 : xs.length ≤ 1048576) (hy : Has elU w q ys) (hy9 : ys.length ≤ 1048576) :
    Calls Try.prog 3 #[.int .u64 (lim : Int), p, q] w fun e w' => e = .returned (.bool true) ∧ Below w.heap.size w w' := by
  obtain ⟨xa, xc, rfl, -, -, hxl⟩ := hx.shape
  obtain ⟨ya, yc, rfl, -, -, hyl⟩ := hy.shape
  have HX := hide hx
  have HY := hide hy
  have HL := hide hl
  have N1 := hide (newMeter_ex hl w)
  have N2 := hide (fun V => newMeter_ex hl V)
  clear hx hy hl hx9 hy9
  go_enter Try.func3, Try.ntmps3
  go_wp2_with (first
    | (go_at_call 5; refine N1.out.mono ?_; rintro e w1 ⟨b, rfl, g1, g2, g3⟩; have M1 := hide g1; have B1 := hide g2; have L1 := hide g3; clear g1 g2 g3 N1)
    | (go_at_call 5; refine (N2.out _).mono ?_; rintro e w2 ⟨c, rfl, g1, g2, g3⟩; have HK0 : Hid (KeepAt w w2 b c lim 0 0) := ⟨M1.out.kept g2, g1, by have := M1.out.inside; omega, ⟨L1.out, Nat.le_trans B1.out.size g3⟩, B1.out.trans (g2.mono B1.out.size)⟩; clear g1 g2 g3 N2 M1 B1 L1))
  go_loopw [9, 19] (fun x y wl => ∃ (u k : Nat), k ≤ xs.length ∧ x = .int .u64 (u : Int) ∧ y = .int .i64 (k : Int) ∧ Hid (KeepAt w wl b c lim u 0)) (fun _ y _ => xs.length - (intOf y).toNat)
  case atStart => exact ⟨0, 0, by omega, rfl, rfl, HK0⟩
  case round =>
    clear HK0
    obtain ⟨u, k, hk, rfl, rfl, HK⟩ := hrel
    by_cases hlt : k < xs.length
    · have hi : (k : Int) < (xs.length : Int) := by omega
      have hi0 : (0 : Int) ≤ (k : Int) := by omega
      obtain ⟨xb, xo, rfl, -, -, hrow⟩ := HX.out.row (by omega)
      obtain ⟨x, hx⟩ : ∃ x, xs[k]? = some x := ⟨_, List.getElem?_eq_getElem hlt⟩
      have y0 := kept_cell HK.out.below (hrow k x hx 0 _ rfl)
      simp only [elU, Nat.add_zero, Nat.mul_one] at y0
      obtain ⟨r, hr⟩ : ∃ r, lim - u = r := ⟨_, rfl⟩
      have ew : IntKind.u64.wrap ((lim : Int) - (u : Int)) = (r : Int) := by rw [IntKind.wrap_u64]; have := HK.out.one.le; have := HK.out.one.lt; omega
      have HRr := hide hr
      clear hrow hx hr
      -- what was handed in, behind what the calls wrote
      have HYr : Hid (∀ V : World, Below w.heap.size w V → ∀ (m y : Nat), ys[m]? = some y → ∃ yb yo, ya = some ⟨yb, yo, none⟩ ∧ V.cell? ⟨yb, yo + m, none⟩ = some (.int .u64 (y : Int))) := fun V hV m y hm => by
        obtain ⟨yb, yo, e, -, -, h2⟩ := HY.out.row (by have := (List.getElem?_eq_some_iff.1 hm).1; omega)
        have := kept_cell hV (h2 m y hm 0 _ rfl)
        simp only [elU, Nat.add_zero, Nat.mul_one] at this
        exact ⟨yb, yo, e, this⟩
      by_cases hxr : x ≤ r
      · obtain ⟨u1, hu1⟩ : ∃ u1, u + x = u1 := ⟨_, rfl⟩
        obtain ⟨r1, hr1⟩ : ∃ r1, lim - u1 = r1 := ⟨_, rfl⟩
        have S1 := hide (spend_yes (n := x) HK.out.one (by rw [HRr.out]; exact hxr))
        rw [hu1] at S1
        have eu : IntKind.u64.wrap ((u : Int) + (x : Int)) = (u1 : Int) := by rw [IntKind.wrap_u64]; have := HK.out.one.le; have := HK.out.one.lt; have := HRr.out; omega
        have er : IntKind.u64.wrap ((lim : Int) - (u1 : Int)) = (r1 : Int) := by rw [IntKind.wrap_u64]; have := HK.out.one.le; have := HK.out.one.lt; have := HRr.out; omega
        have HLe : Hid (u1 ≤ lim ∧ lim < 18446744073709551616) := by show _ ∧ _; have := HK.out.one.le; have := HK.out.one.lt; have := HRr.out; omega
        have HRa := hide hr1
        clear hu1 hr1 HRr
        by_cases hky : k < ys.length
        · obtain ⟨y, hy⟩ : ∃ y, ys[k]? = some y := ⟨_, List.getElem?_eq_getElem hky⟩
          obtain ⟨yb, yo, rfl, -⟩ := HYr.out w (Below.refl _ _) k y hy
          have hki : (k : Int) < (ys.length : Int) := by omega
          have HYc : Hid (∀ V : World, Below w.heap.size w V → V.cell? ⟨yb, yo + k, none⟩ = some (.int .u64 (y : Int))) := fun V hV => by
            obtain ⟨yb', yo', e, h⟩ := HYr.out V hV k y hy
            injection e with e
            injection e with e1 e2
            subst e1 e2
            exact h
          obtain ⟨m, hm⟩ : ∃ m, min u1 y = m := ⟨_, rfl⟩
          obtain ⟨u2, hu2⟩ : ∃ u2, u1 - m = u2 := ⟨_, rfl⟩
          obtain ⟨r2, hr2⟩ : ∃ r2, lim - u2 = r2 := ⟨_, rfl⟩
          have HRf := hide (fun V (h : MetAt V b lim u1) => refund_any (n := y) h)
          simp only [hm, hu2] at HRf
          have ew2 : IntKind.u64.wrap ((lim : Int) - (u2 : Int)) = (r2 : Int) := by rw [IntKind.wrap_u64]; have := HLe.out; omega
          have ew3 : IntKind.u64.wrap ((u1 : Int) - (m : Int)) = (u2 : Int) := by rw [IntKind.wrap_u64]; have := HLe.out; omega
          have HRb := hide hr2
          clear hr2 hu2 hy HYr
          by_cases hmin : u1 ≤ y
          · have hm2 : u1 = m := by omega
            rw [← hm2, Int.sub_self] at ew3
            clear hm hm2
            go_wp2_with (first
              | (go_at_call 6; with_reducible refine S1.out.mono ?_; rintro e w2 ⟨rfl, g1, g2⟩; replace HK := hide (HK.out.at1 g1 g2); clear g1 g2 S1)
              | (go_at_call 7; with_reducible refine (used_any HK.out.one).mono ?_; rintro e w2 ⟨rfl, g1, g2⟩; replace HK := hide (HK.out.at1 g1 g2); clear g1 g2)
              | (go_at_call 7; with_reducible refine (used_any HK.out.two).mono ?_; rintro e w2 ⟨rfl, g1, g2⟩; replace HK := hide (HK.out.at2 g1 g2); have z0 := HYc.out _ HK.out.below; clear g1 g2)
              | (go_at_call 8; with_reducible refine (left_is HK.out.one HRa.out).mono ?_; rintro e w2 ⟨rfl, g1, g2⟩; replace HK := hide (HK.out.at1 g1 g2); clear g1 g2 HRa)
              | (go_at_call 9; with_reducible refine (HRf.out _ HK.out.one).mono ?_; rintro e w2 ⟨rfl, g1, g2⟩; replace HK := hide (HK.out.at1 g1 g2); have z1 := HYc.out _ HK.out.below; clear g1 g2 HRf)
              | (go_at_call 8; with_reducible refine (left_is HK.out.one HRb.out).mono ?_; rintro e w2 ⟨rfl, g1, g2⟩; replace HK := hide (HK.out.at1 g1 g2); clear g1 g2 HRb))
            go_roundw
            case rel => exact ⟨u2, k + 1, by omega, by go_num, by go_num, HK⟩
            case measure => simp [intOf]; omega
          · have hm2 : y = m := by omega
            have hmin2 : y ≤ u1 := by omega
            rw [← hm2] at ew3
            clear hm hm2
            go_wp2_with (first
              | (go_at_call 6; with_reducible refine S1.out.mono ?_; rintro e w2 ⟨rfl, g1, g2⟩; replace HK := hide (HK.out.at1 g1 g2); clear g1 g2 S1)
              | (go_at_call 7; with_reducible refine (used_any HK.out.one).mono ?_; rintro e w2 ⟨rfl, g1, g2⟩; replace HK := hide (HK.out.at1 g1 g2); clear g1 g2)
              | (go_at_call 7; with_reducible refine (used_any HK.out.two).mono ?_; rintro e w2 ⟨rfl, g1, g2⟩; replace HK := hide (HK.out.at2 g1 g2); have z0 := HYc.out _ HK.out.below; clear g1 g2)
              | (go_at_call 8; with_reducible refine (left_is HK.out.one HRa.out).mono ?_; rintro e w2 ⟨rfl, g1, g2⟩; replace HK := hide (HK.out.at1 g1 g2); clear g1 g2 HRa)
              | (go_at_call 9; with_reducible refine (HRf.out _ HK.out.one).mono ?_; rintro e w2 ⟨rfl, g1, g2⟩; replace HK := hide (HK.out.at1 g1 g2); have z1 := HYc.out _ HK.out.below; clear g1 g2 HRf)
              | (go_at_call 8; with_reducible refine (left_is HK.out.one HRb.out).mono ?_; rintro e w2 ⟨rfl, g1, g2⟩; replace HK := hide (HK.out.at1 g1 g2); clear g1 g2 HRb))
            go_roundw
            case rel => exact ⟨u2, k + 1, by omega, by go_num, by go_num, HK⟩
            case measure => simp [intOf]; omega
        · have hki : ¬ (k : Int) < (ys.length : Int) := by omega
          clear HYr
          go_wp2_with (first
            | (go_at_call 6; with_reducible refine S1.out.mono ?_; rintro e w2 ⟨rfl, g1, g2⟩; replace HK := hide (HK.out.at1 g1 g2); clear g1 g2 S1)
            | (go_at_call 7; with_reducible refine (used_any HK.out.one).mono ?_; rintro e w2 ⟨rfl, g1, g2⟩; replace HK := hide (HK.out.at1 g1 g2); clear g1 g2)
            | (go_at_call 7; with_reducible refine (used_any HK.out.two).mono ?_; rintro e w2 ⟨rfl, g1, g2⟩; replace HK := hide (HK.out.at2 g1 g2); clear g1 g2)
            | (go_at_call 8; with_reducible refine (left_is HK.out.one HRa.out).mono ?_; rintro e w2 ⟨rfl, g1, g2⟩; replace HK := hide (HK.out.at1 g1 g2); clear g1 g2 HRa))
          go_roundw
          case rel => exact ⟨u1, k + 1, by omega, by go_num, by go_num, HK⟩
          case measure => simp [intOf]; omega
      · have S1 := hide (spend_no (n := x) HK.out.one (by rw [HRr.out]; exact hxr))
        have HLe : Hid (u ≤ lim ∧ lim < 18446744073709551616) := ⟨HK.out.one.le, HK.out.one.lt⟩
        have HRa := HRr
        clear HRr
        by_cases hky : k < ys.length
        · obtain ⟨y, hy⟩ : ∃ y, ys[k]? = some y := ⟨_, List.getElem?_eq_getElem hky⟩
          obtain ⟨yb, yo, rfl, -⟩ := HYr.out w (Below.refl _ _) k y hy
          have hki : (k : Int) < (ys.length : Int) := by omega
          have HYc : Hid (∀ V : World, Below w.heap.size w V → V.cell? ⟨yb, yo + k, none⟩ = some (.int .u64 (y : Int))) := fun V hV => by
            obtain ⟨yb', yo', e, h⟩ := HYr.out V hV k y hy
            injection e with e
            injection e with e1 e2
            subst e1 e2
            exact h
          obtain ⟨m, hm⟩ : ∃ m, min u y = m := ⟨_, rfl⟩
          obtain ⟨u2, hu2⟩ : ∃ u2, u - m = u2 := ⟨_, rfl⟩
          obtain ⟨r2, hr2⟩ : ∃ r2, lim - u2 = r2 := ⟨_, rfl⟩
          have HRf := hide (fun V (h : MetAt V b lim u) => refund_any (n := y) h)
          simp only [hm, hu2] at HRf
          have ew2 : IntKind.u64.wrap ((lim : Int) - (u2 : Int)) = (r2 : Int) := by rw [IntKind.wrap_u64]; have := HLe.out; omega
          have ew3 : IntKind.u64.wrap ((u : Int) - (m : Int)) = (u2 : Int) := by rw [IntKind.wrap_u64]; have := HLe.out; omega
          have HRb := hide hr2
          clear hr2 hu2 hy HYr
          by_cases hmin : u ≤ y
          · have hm2 : u = m := by omega
            rw [← hm2, Int.sub_self] at ew3
            clear hm hm2
            go_wp2_with (first
              | (go_at_call 6; with_reducible refine S1.out.mono ?_; rintro e w2 ⟨rfl, g1, g2⟩; replace HK := hide (HK.out.at1 g1 g2); clear g1 g2 S1)
              | (go_at_call 7; with_reducible refine (used_any HK.out.one).mono ?_; rintro e w2 ⟨rfl, g1, g2⟩; replace HK := hide (HK.out.at1 g1 g2); clear g1 g2)
              | (go_at_call 7; with_reducible refine (used_any HK.out.two).mono ?_; rintro e w2 ⟨rfl, g1, g2⟩; replace HK := hide (HK.out.at2 g1 g2); have z0 := HYc.out _ HK.out.below; clear g1 g2)
              | (go_at_call 8; with_reducible refine (left_is HK.out.one HRa.out).mono ?_; rintro e w2 ⟨rfl, g1, g2⟩; replace HK := hide (HK.out.at1 g1 g2); clear g1 g2 HRa)
              | (go_at_call 9; with_reducible refine (HRf.out _ HK.out.one).mono ?_; rintro e w2 ⟨rfl, g1, g2⟩; replace HK := hide (HK.out.at1 g1 g2); have z1 := HYc.out _ HK.out.below; clear g1 g2 HRf)
              | (go_at_call 8; with_reducible refine (left_is HK.out.one HRb.out).mono ?_; rintro e w2 ⟨rfl, g1, g2⟩; replace HK := hide (HK.out.at1 g1 g2); clear g1 g2 HRb))
            go_roundw
            case rel => exact ⟨u2, k + 1, by omega, by go_num, by go_num, HK⟩
            case measure => simp [intOf]; omega
          · have hm2 : y = m := by omega
            have hmin2 : y ≤ u := by omega
            rw [← hm2] at ew3
            clear hm hm2
            go_wp2_with (first
              | (go_at_call 6; with_reducible refine S1.out.mono ?_; rintro e w2 ⟨rfl, g1, g2⟩; replace HK := hide (HK.out.at1 g1 g2); clear g1 g2 S1)
              | (go_at_call 7; with_reducible refine (used_any HK.out.one).mono ?_; rintro e w2 ⟨rfl, g1, g2⟩; replace HK := hide (HK.out.at1 g1 g2); clear g1 g2)
              | (go_at_call 7; with_reducible refine (used_any HK.out.two).mono ?_; rintro e w2 ⟨rfl, g1, g2⟩; replace HK := hide (HK.out.at2 g1 g2); have z0 := HYc.out _ HK.out.below; clear g1 g2)
              | (go_at_call 8; with_reducible refine (left_is HK.out.one HRa.out).mono ?_; rintro e w2 ⟨rfl, g1, g2⟩; replace HK := hide (HK.out.at1 g1 g2); clear g1 g2 HRa)
              | (go_at_call 9; with_reducible refine (HRf.out _ HK.out.one).mono ?_; rintro e w2 ⟨rfl, g1, g2⟩; replace HK := hide (HK.out.at1 g1 g2); have z1 := HYc.out _ HK.out.below; clear g1 g2 HRf)
              | (go_at_call 8; with_reducible refine (left_is HK.out.one HRb.out).mono ?_; rintro e w2 ⟨rfl, g1, g2⟩; replace HK := hide (HK.out.at1 g1 g2); clear g1 g2 HRb))
            go_roundw
            case rel => exact ⟨u2, k + 1, by omega, by go_num, by go_num, HK⟩
            case measure => simp [intOf]; omega
        · have hki : ¬ (k : Int) < (ys.length : Int) := by omega
          clear HYr
          go_wp2_with (first
            | (go_at_call 6; with_reducible refine S1.out.mono ?_; rintro e w2 ⟨rfl, g1, g2⟩; replace HK := hide (HK.out.at1 g1 g2); clear g1 g2 S1)
            | (go_at_call 7; with_reducible refine (used_any HK.out.one).mono ?_; rintro e w2 ⟨rfl, g1, g2⟩; replace HK := hide (HK.out.at1 g1 g2); clear g1 g2)
            | (go_at_call 7; with_reducible refine (used_any HK.out.two).mono ?_; rintro e w2 ⟨rfl, g1, g2⟩; replace HK := hide (HK.out.at2 g1 g2); clear g1 g2)
            | (go_at_call 8; with_reducible refine (left_is HK.out.one HRa.out).mono ?_; rintro e w2 ⟨rfl, g1, g2⟩; replace HK := hide (HK.out.at1 g1 g2); clear g1 g2 HRa))
          go_roundw
          case rel => exact ⟨u, k + 1, by omega, by go_num, by go_num, HK⟩
          case measure => simp [intOf]; omega
    · obtain rfl : k = xs.length := by omega
      have hi : ¬ (xs.length : Int) < (xs.length : Int) := by omega
      have hz : lim - (0 + lim) = 0 := by omega
      go_wp2_with (first
        | (go_at_call 8; with_reducible refine (left_is HK.out.two (Nat.sub_zero lim)).mono ?_; rintro e w2 ⟨rfl, g1, g2⟩; replace HK := hide (HK.out.at2 g1 g2); clear g1 g2)
        | (go_at_call 6; with_reducible refine (spend_yes HK.out.two (by omega)).mono ?_; rintro e w2 ⟨rfl, g1, g2⟩; replace HK := hide (HK.out.at2 g1 g2); clear g1 g2)
        | (go_at_call 8; with_reducible refine (left_is HK.out.two hz).mono ?_; rintro e w2 ⟨rfl, g1, g2⟩; replace HK := hide (HK.out.at2 g1 g2); clear g1 g2)
        | (go_at_call 7; with_reducible refine (used_any HK.out.one).mono ?_; rintro e w2 ⟨rfl, g1, g2⟩; replace HK := hide (HK.out.at1 g1 g2); clear g1 g2))
      go_ret
      exact ⟨rfl, HK.out.below⟩
end Go.Proofs.Ytidllcbagfhndaa
