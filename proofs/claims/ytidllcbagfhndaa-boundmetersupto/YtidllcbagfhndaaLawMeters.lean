/- The law of scripts over meters: its walk. -/
import Derived.Test.YtidllcbagfhndaaMeterSix
import Derived.Test.YtidllcbagfhndaaModRun
namespace Go.Proofs.Ytidllcbagfhndaa
set_option linter.unusedSimpArgs false
set_option linter.unusedVariables false
open Go.RowKit

/-- One step of a script. -/
structure Opr where
  k : Int
  m : Int
  n : Nat
def elOpr : El Opr where
  cells c := [.int .i64 c.k, .int .i64 c.m, .int .u64 (c.n : Int)]
  size := 3
  pos := by decide
  len _ := rfl
  ok _ _ c := I64 c.k ∧ I64 c.m ∧ c.n < 18446744073709551616
  one _ u hu := by simp only [List.mem_cons, List.not_mem_nil, or_false] at hu; rcases hu with rfl | rfl | rfl <;> rfl
  move h _ := h
theorem elOpr_ok {w : World} {F : Nat → Prop} {c : Opr} (h : elOpr.ok w F c) : I64 c.k ∧ I64 c.m ∧ c.n < 18446744073709551616 := h

theorem newMeter_lit0 (w : World) : Calls Try.prog 5 #[.int .u64 0] w fun e w' => ∃ b, e = .returned (.pointer (some ⟨b, 0, none⟩)) ∧ MetAt w' b 0 0 ∧ Below w.heap.size w w' ∧ w.heap.size ≤ b := newMeter_ex (lim := 0) (by omega) w
theorem newMeter_lit1 (w : World) : Calls Try.prog 5 #[.int .u64 1] w fun e w' => ∃ b, e = .returned (.pointer (some ⟨b, 0, none⟩)) ∧ MetAt w' b 1 0 ∧ Below w.heap.size w w' ∧ w.heap.size ≤ b := newMeter_ex (lim := 1) (by omega) w
theorem rnewMeter_lit0 (w : World) : Calls Try.prog 10 #[.int .u64 0] w fun e w' => ∃ b, e = .returned (.pointer (some ⟨b, 0, none⟩)) ∧ RefAt w' b 0 0 ∧ Below w.heap.size w w' ∧ w.heap.size ≤ b := rnewMeter_ex (lim := 0) (by omega) w
theorem rrefund_any {w : World} {b lim used n : Nat} (h : RefAt w b lim used) :
    Calls Try.prog 13 #[.pointer (some ⟨b, 0, none⟩), .int .u64 (n : Int)] w fun e w' => e = .returned (.tuple #[]) ∧ RefAt w' b lim (used - min used n) ∧ Touch b w w' :=
  rrefund_is (m := min used n) h (by omega) rfl
theorem rspend_any {w : World} {b lim used n : Nat} (h : RefAt w b lim used) (hn : n ≤ lim - used) :
    Calls Try.prog 12 #[.pointer (some ⟨b, 0, none⟩), .int .u64 (n : Int)] w fun e w' => e = .returned (.bool true) ∧ RefAt w' b lim (used + n) ∧ Touch b w w' := rspend_yes h hn rfl
theorem Touch.cell {b c o : Nat} {w w' : World} {v : Value} (t : Touch b w w') (h : w.cell? ⟨c, o, none⟩ = some v) (hn : c ≠ b) : w'.cell? ⟨c, o, none⟩ = some v := by
  rw [World.cell?_of_block (w := w) (t.other c hn)]; exact h

set_option maxRecDepth 100000 in
set_option maxHeartbeats 8000000 in
theorem boundMeters_walk (p : Value) (os : List Opr) (w : World) (h : Has elOpr w p os) (ho9 : os.length ≤ 1048576) :
    Calls Try.prog 4 #[p] w fun e w' => e = .returned (.bool true) ∧ Below w.heap.size w w' := by
  obtain ⟨oa, oc, rfl, -, -, hol⟩ := h.shape
  have HO := hide h
  clear h ho9
  have HK0 : Hid (SixAt w ((w.alloc (.cells #[.pointer none, .pointer none, .pointer none, .pointer none] 31)).alloc (.cells #[.pointer none, .pointer none, .pointer none, .pointer none] 33)) w.heap.size (w.heap.size + 1) 0 0 (fun _ => 0) (fun _ => 0) (fun _ => 0) (fun _ => 0) (fun _ => 0) (fun _ => 0)) := by
    obtain ⟨W, hW⟩ : ∃ W, w.alloc (.cells #[.pointer none, .pointer none, .pointer none, .pointer none] 31) = W := ⟨_, rfl⟩
    have s : W.heap.size = w.heap.size + 1 := by rw [← hW]; simp
    have h1 : W.heap[w.heap.size]? = some (.cells #[.pointer none, .pointer none, .pointer none, .pointer none] 31 (0, 0)) := by rw [← hW]; exact heap_alloc_new _ _
    have b1 : Below w.heap.size w W := by rw [← hW]; exact belo1 _ _
    have b2 := belo1 W (.cells #[.pointer none, .pointer none, .pointer none, .pointer none] 33)
    rw [hW, ← s]
    exact ⟨⟨(b2.block _ (by omega)).trans h1, fun i hi => by omega, fun i j hi => by omega, ⟨Nat.le_refl _, fun i hi => by omega⟩, by omega⟩, ⟨heap_alloc_new _ _, fun i hi => by omega, fun i j hi => by omega, ⟨by omega, fun i hi => by omega⟩, by omega⟩, belot b1 b2⟩
  go_enter Try.func4, Try.ntmps4
  go_wp2
  go_loopw [10] (fun y wl => ∃ (k : Nat) (bm cm L U : Nat → Nat), k ≤ 3 ∧ y = .int .i64 (k : Int) ∧ Hid (SixAt w wl w.heap.size (w.heap.size + 1) k k bm L U cm L U)) (fun y _ => 3 - (intOf y).toNat)
  case atStart => exact ⟨0, _, _, _, _, by omega, rfl, HK0⟩
  case round =>
    clear HK0
    obtain ⟨k, bm, cm, L, U, hk, rfl, HK⟩ := hrel
    by_cases hlt : k < 3
    · have hi : (k : Int) < 3 := by omega
      have hi0 : (0 : Int) ≤ (k : Int) := by omega
      go_wp2_with (first
        | (go_at_call 5; refine (newMeter_lit0 _).mono ?_; rintro e w1 ⟨b, rfl, g1, g2, g3⟩; obtain ⟨v0, cA⟩ := (HK.out.kept g2).one.any (show k < 4 by omega); have fA := (HK.out.kept g2).one.fz k; have HK1 := hide (HK.out.new1 (.inr ⟨rfl, rfl⟩) hlt g1 g3 g2); clear g1 g2 g3 HK)
        | (go_at_call 10; refine (rnewMeter_lit0 _).mono ?_; rintro e w2 ⟨c, rfl, g1, g2, g3⟩; obtain ⟨v1, cC⟩ := (HK1.out.kept g2).two.any (show k < 4 by omega); have fC := (HK1.out.kept g2).two.fz k; have HK2 := hide (HK1.out.new2 (.inr ⟨rfl, rfl⟩) hlt g1 g3 g2); clear g1 g2 g3 HK1))
      go_roundw
      case rel => exact ⟨k + 1, _, _, _, _, by omega, by go_num, HK2⟩
      case measure => simp [intOf]; omega
    · have hi : ¬ (k : Int) < 3 := by omega
      have hk3 : k = 3 := by omega
      have HK0 : Hid (SixAt w wr w.heap.size (w.heap.size + 1) 3 3 bm L U cm L U) := by rw [← hk3]; exact HK
      clear HK hlt hk hk3
      go_wp2
      go_loopw [22] (fun y wl => ∃ (j : Nat) (bm cm L U : Nat → Nat), j ≤ os.length ∧ y = .int .i64 (j : Int) ∧ Hid (SixAt w wl w.heap.size (w.heap.size + 1) 3 3 bm L U cm L U)) (fun y _ => os.length - (intOf y).toNat)
      case atStart => exact ⟨0, _, _, _, _, by omega, rfl, HK0⟩
      case round =>
        clear HK0 bm cm L U
        obtain ⟨k2, bm, cm, L, U, hk, rfl, HK⟩ := hrel
        by_cases hlt : k2 < os.length
        · have hi2 : (k2 : Int) < (os.length : Int) := by omega
          have hi0 : (0 : Int) ≤ (k2 : Int) := by omega
          obtain ⟨xb, xo, rfl, -, -, hrow⟩ := HO.out.row (by omega)
          obtain ⟨x, hx⟩ : ∃ x, os[k2]? = some x := ⟨_, List.getElem?_eq_getElem hlt⟩
          have y0 := kept_cell HK.out.below (hrow k2 x hx 0 _ rfl)
          have y1 := kept_cell HK.out.below (hrow k2 x hx 1 _ rfl)
          have y2 := kept_cell HK.out.below (hrow k2 x hx 2 _ rfl)
          simp only [elOpr, Nat.add_zero] at y0 y1 y2
          have hok := elOpr_ok (HO.out.ok (List.mem_of_getElem? hx))
          obtain ⟨kd, om, n⟩ := x
          dsimp only at y0 y1 y2 hok
          obtain ⟨i, hi4⟩ : ∃ i : Nat, om % 4 = i := ⟨(om % 4).toNat, by omega⟩
          have hi3 : i < 4 := by omega
          have MD := hide (fun V => mod_any (k := 4) hok.2.1 (by decide) (by decide) V)
          rw [hi4] at MD
          have HN := hide hok.2.2
          clear hrow hx hok hi4
          obtain ⟨V, hV⟩ : ∃ V, wr.alloc (.cells #[.int .i64 kd, .int .i64 om, .int .u64 (n : Int)] 36) = V := ⟨_, rfl⟩
          have BV : Hid (Below wr.heap.size wr V) := by rw [← hV]; exact belo1 _ _
          have q0 : V.cell? ⟨wr.heap.size, 0, none⟩ = some (.int .i64 kd) := by rw [← hV]; exact new_cells 0 _ rfl
          have q1 : V.cell? ⟨wr.heap.size, 1, none⟩ = some (.int .i64 om) := by rw [← hV]; exact new_cells 1 _ rfl
          have q2 : V.cell? ⟨wr.heap.size, 2, none⟩ = some (.int .u64 (n : Int)) := by rw [← hV]; exact new_cells 2 _ rfl
          have HV := hide hV
          have HB : Hid (∀ j, j < 3 → wr.heap.size ≠ bm j ∧ wr.heap.size ≠ cm j) := fun j hj => ⟨by have := HK.out.one.inB kindM hj; omega, by have := HK.out.two.inB kindR hj; omega⟩
          have HBA : Hid (wr.heap.size ≠ w.heap.size ∧ wr.heap.size ≠ w.heap.size + 1) := ⟨by have := HK.out.one.inA; omega, by have := HK.out.two.inA; omega⟩
          have HKV := hide (HK.out.kept BV.out)
          clear hV HK BV
          have i0 : (0 : Int) ≤ (i : Int) := by omega
          have i4 : (i : Int) < 4 := by omega
          by_cases h0 : kd = 0
          · have ke0 : (kd == 0) = true := by simp; omega
            clear h0
            by_cases hi9 : i < 3
            · have hi93 : (i : Int) < 3 := by omega
              go_wp2_with (first
                | (go_at_call 11; rw [HV.out]; refine (MD.out _).mono ?_; rintro e w2 ⟨rfl, hw⟩; have hw := hw.symm; subst hw; clear MD)
                | (go_at_call 5; refine (newMeter_ex HN.out _).mono ?_; rintro e w3 ⟨b, rfl, g1, g2, g3⟩; obtain ⟨v0, cA⟩ := (HKV.out.kept g2).one.any hi3; have fA := (HKV.out.kept g2).one.fz i; have K1 := hide (HKV.out.new1 (.inl ⟨rfl, hi9⟩) hi9 g1 g3 g2); have q3 := (Touch.set w.heap.size w3 i (.pointer (some ⟨b, 0, none⟩))).cell (kept_cell g2 q2) HBA.out.1; clear g1 g2 g3)
                | (go_at_call 10; refine (rnewMeter_ex HN.out _).mono ?_; rintro e w4 ⟨c, rfl, g1, g2, g3⟩; obtain ⟨v1, cC⟩ := (K1.out.kept g2).two.any hi3; have fC := (K1.out.kept g2).two.fz i; have K2 := hide (K1.out.new2 (.inl ⟨rfl, hi9⟩) hi9 g1 g3 g2); clear g1 g2 g3))
              go_roundw
              case rel => exact ⟨k2 + 1, _, _, _, _, by omega, by go_num, K2⟩
              case measure => simp [intOf]; omega
            · have hi93 : ¬ (i : Int) < 3 := by omega
              go_wp2_with (first
                | (go_at_call 11; rw [HV.out]; refine (MD.out _).mono ?_; rintro e w2 ⟨rfl, hw⟩; have hw := hw.symm; subst hw; clear MD))
              go_roundw
              case rel => exact ⟨k2 + 1, _, _, _, _, by omega, by go_num, HKV⟩
              case measure => simp [intOf]; omega
          · by_cases h1 : kd = 1
            · have ke0 : (kd == 0) = false := by simp; omega
              have ke1 : (kd == 1) = true := by simp; omega
              clear h0 h1
              by_cases hi9 : i < 3
              · by_cases hn : n ≤ L i - U i
                · have cA := HKV.out.one.cell hi9
                  have cC := HKV.out.two.cell hi9
                  have KD := hide (HKV.out.kept (Below.refl _ _).drew)
                  go_wp2_with (first
                    | (go_at_call 11; rw [HV.out]; refine (MD.out _).mono ?_; rintro e w2 ⟨rfl, hw⟩; have hw := hw.symm; subst hw; clear MD))
                  go_region_held3 (fun w' => w'.cell? ⟨w.heap.size, i, none⟩ = some (.pointer (some ⟨bm i, 0, none⟩)) ∧ w'.cell? ⟨w.heap.size + 1, i, none⟩ = some (.pointer (some ⟨cm i, 0, none⟩)) ∧ w'.cell? ⟨wr.heap.size, 2, none⟩ = some (.int .u64 (n : Int)))
                    (first
                      | exact ⟨cA, cC, q2⟩
                      | exact s2
                      | exact s3)
                    (first
                      | (go_at_call 6; refine (spend_yes (KD.out.one.met i hi9) hn).mono ?_; rintro e w2 ⟨rfl, g1, g2⟩; have K2 := hide (KD.out.call1 hi9 g1 g2); have s2 := And.intro (K2.out.one.cell hi9) (And.intro (K2.out.two.cell hi9) (g2.cell (show V.drew.cell? _ = _ from q2) (HB.out i hi9).1)); clear g1 g2)
                      | (go_at_call 12; refine (rspend_any (K2.out.two.met i hi9) hn).mono ?_; rintro e w3 ⟨rfl, g1, g2⟩; have K3 := hide (K2.out.call2 hi9 g1 g2); have s3 := And.intro (K3.out.one.cell hi9) (And.intro (K3.out.two.cell hi9) (g2.cell s2.2.2 (HB.out i hi9).2)); clear g1 g2))
                  go_wp2
                  go_roundw
                  case rel => exact ⟨k2 + 1, _, _, _, _, by omega, by go_num, K3⟩
                  case measure => simp [intOf]; omega
                · have cA := HKV.out.one.cell hi9
                  have cC := HKV.out.two.cell hi9
                  have KD := hide (HKV.out.kept (Below.refl _ _).drew)
                  go_wp2_with (first
                    | (go_at_call 11; rw [HV.out]; refine (MD.out _).mono ?_; rintro e w2 ⟨rfl, hw⟩; have hw := hw.symm; subst hw; clear MD))
                  go_region_held3 (fun w' => w'.cell? ⟨w.heap.size, i, none⟩ = some (.pointer (some ⟨bm i, 0, none⟩)) ∧ w'.cell? ⟨w.heap.size + 1, i, none⟩ = some (.pointer (some ⟨cm i, 0, none⟩)) ∧ w'.cell? ⟨wr.heap.size, 2, none⟩ = some (.int .u64 (n : Int)))
                    (first
                      | exact ⟨cA, cC, q2⟩
                      | exact s2
                      | exact s3)
                    (first
                      | (go_at_call 6; refine (spend_no (KD.out.one.met i hi9) hn).mono ?_; rintro e w2 ⟨rfl, g1, g2⟩; have K2 := hide (KD.out.call1 hi9 g1 g2); have s2 := And.intro (K2.out.one.cell hi9) (And.intro (K2.out.two.cell hi9) (g2.cell (show V.drew.cell? _ = _ from q2) (HB.out i hi9).1)); clear g1 g2)
                      | (go_at_call 12; refine (rspend_no (K2.out.two.met i hi9) hn).mono ?_; rintro e w3 ⟨rfl, g1, g2⟩; have K3 := hide (K2.out.call2 hi9 g1 g2); have s3 := And.intro (K3.out.one.cell hi9) (And.intro (K3.out.two.cell hi9) (g2.cell s2.2.2 (HB.out i hi9).2)); clear g1 g2))
                  rw [upF_same] at K3
                  go_wp2
                  go_roundw
                  case rel => exact ⟨k2 + 1, _, _, _, _, by omega, by go_num, K3⟩
                  case measure => simp [intOf]; omega
              · have hi33 : i = 3 := by omega
                have cA : V.cell? ⟨w.heap.size, i, none⟩ = some (.pointer none) := by rw [hi33]; exact HKV.out.one.cell3
                have cC : V.cell? ⟨w.heap.size + 1, i, none⟩ = some (.pointer none) := by rw [hi33]; exact HKV.out.two.cell3
                clear hi33
                go_wp2_with (first
                  | (go_at_call 11; rw [HV.out]; refine (MD.out _).mono ?_; rintro e w2 ⟨rfl, hw⟩; have hw := hw.symm; subst hw; clear MD))
                go_region_held3 (fun w' => w'.cell? ⟨w.heap.size, i, none⟩ = some (.pointer none) ∧ w'.cell? ⟨w.heap.size + 1, i, none⟩ = some (.pointer none) ∧ w'.cell? ⟨wr.heap.size, 2, none⟩ = some (.int .u64 (n : Int)))
                  (first
                    | exact ⟨cA, cC, q2⟩
                    | (go_keep; done))
                  (first
                    | (go_at_call 6; refine (nil_spend n _).mono ?_; rintro e w2 ⟨rfl, hw⟩; have hw := hw.symm; subst hw)
                    | (go_at_call 12; refine (nil_rspend n _).mono ?_; rintro e w2 ⟨rfl, kk, hw⟩; subst hw))
                have HKD := hide (HKV.out.kept (below_drewN _ V (1 + kk)))
                go_wp2
                go_roundw
                case rel => exact ⟨k2 + 1, _, _, _, _, by omega, by go_num, HKD⟩
                case measure => simp [intOf]; omega
            · by_cases h2 : kd = 2
              · have ke0 : (kd == 0) = false := by simp; omega
                have ke1 : (kd == 1) = false := by simp; omega
                have ke2 : (kd == 2) = true := by simp; omega
                clear h0 h1 h2
                by_cases hi9 : i < 3
                · have cA := HKV.out.one.cell hi9
                  have cC := HKV.out.two.cell hi9
                  have KD := hide (HKV.out.kept (Below.refl _ _).drew)
                  go_wp2_with (first
                    | (go_at_call 11; rw [HV.out]; refine (MD.out _).mono ?_; rintro e w2 ⟨rfl, hw⟩; have hw := hw.symm; subst hw; clear MD))
                  go_region_held3 (fun w' => w'.cell? ⟨w.heap.size, i, none⟩ = some (.pointer (some ⟨bm i, 0, none⟩)) ∧ w'.cell? ⟨w.heap.size + 1, i, none⟩ = some (.pointer (some ⟨cm i, 0, none⟩)) ∧ w'.cell? ⟨wr.heap.size, 2, none⟩ = some (.int .u64 (n : Int)))
                    (first
                      | exact ⟨cA, cC, q2⟩
                      | exact s2)
                    (first
                      | (go_at_call 9; refine (refund_any (n := n) (KD.out.one.met i hi9)).mono ?_; rintro e w2 ⟨rfl, g1, g2⟩; have K2 := hide (KD.out.call1 hi9 g1 g2); have s2 := And.intro (K2.out.one.cell hi9) (And.intro (K2.out.two.cell hi9) (g2.cell (show V.drew.cell? _ = _ from q2) (HB.out i hi9).1)); clear g1 g2))
                  go_wp2
                  have KE := hide (K2.out.kept (Below.refl _ _).drew)
                  go_region_held3 (fun w' => w'.cell? ⟨w.heap.size, i, none⟩ = some (.pointer (some ⟨bm i, 0, none⟩)) ∧ w'.cell? ⟨w.heap.size + 1, i, none⟩ = some (.pointer (some ⟨cm i, 0, none⟩)) ∧ w'.cell? ⟨wr.heap.size, 2, none⟩ = some (.int .u64 (n : Int)))
                    (first
                      | exact s2
                      | exact s3)
                    (first
                      | (go_at_call 13; refine (rrefund_any (n := n) (KE.out.two.met i hi9)).mono ?_; rintro e w2 ⟨rfl, g1, g2⟩; have K3 := hide (KE.out.call2 hi9 g1 g2); have s3 := And.intro (K3.out.one.cell hi9) (And.intro (K3.out.two.cell hi9) (g2.cell (show _ = _ from s2.2.2) (HB.out i hi9).2)); clear g1 g2))
                  go_wp2
                  go_roundw
                  case rel => exact ⟨k2 + 1, _, _, _, _, by omega, by go_num, K3⟩
                  case measure => simp [intOf]; omega
                · have hi33 : i = 3 := by omega
                  have cA : V.cell? ⟨w.heap.size, i, none⟩ = some (.pointer none) := by rw [hi33]; exact HKV.out.one.cell3
                  have cC : V.cell? ⟨w.heap.size + 1, i, none⟩ = some (.pointer none) := by rw [hi33]; exact HKV.out.two.cell3
                  clear hi33
                  go_wp2_with (first
                    | (go_at_call 11; rw [HV.out]; refine (MD.out _).mono ?_; rintro e w2 ⟨rfl, hw⟩; have hw := hw.symm; subst hw; clear MD))
                  go_region_held3 (fun w' => w'.cell? ⟨w.heap.size, i, none⟩ = some (.pointer none) ∧ w'.cell? ⟨w.heap.size + 1, i, none⟩ = some (.pointer none) ∧ w'.cell? ⟨wr.heap.size, 2, none⟩ = some (.int .u64 (n : Int)))
                    (first
                      | exact ⟨cA, cC, q2⟩
                      | (go_keep; done))
                    (first
                      | (go_at_call 9; refine (nil_refund n _).mono ?_; rintro e w2 ⟨rfl, hw⟩; have hw := hw.symm; subst hw))
                  go_wp2
                  go_region_held3 (fun w' => w'.cell? ⟨w.heap.size, i, none⟩ = some (.pointer none) ∧ w'.cell? ⟨w.heap.size + 1, i, none⟩ = some (.pointer none) ∧ w'.cell? ⟨wr.heap.size, 2, none⟩ = some (.int .u64 (n : Int)))
                    (first
                      | exact ⟨cA, cC, q2⟩
                      | (go_keep; done))
                    (first
                      | (go_at_call 13; refine (nil_rrefund n _).mono ?_; rintro e w2 ⟨rfl, hw⟩; have hw := hw.symm; subst hw))
                  have HKD := hide ((HKV.out.kept (Below.refl _ _).drew).kept (Below.refl _ _).drew)
                  go_wp2
                  go_roundw
                  case rel => exact ⟨k2 + 1, _, _, _, _, by omega, by go_num, HKD⟩
                  case measure => simp [intOf]; omega
              · by_cases h3 : kd = 3
                · have ke0 : (kd == 0) = false := by simp; omega
                  have ke1 : (kd == 1) = false := by simp; omega
                  have ke2 : (kd == 2) = false := by simp; omega
                  have ke3 : (kd == 3) = true := by simp; omega
                  clear h0 h1 h2 h3
                  by_cases hi9 : i < 3
                  · have cA := HKV.out.one.cell hi9
                    have cC := HKV.out.two.cell hi9
                    have KD := hide (HKV.out.kept (Below.refl _ _).drew)
                    go_wp2_with (first
                      | (go_at_call 11; rw [HV.out]; refine (MD.out _).mono ?_; rintro e w2 ⟨rfl, hw⟩; have hw := hw.symm; subst hw; clear MD))
                    go_region_held3 (fun w' => w'.cell? ⟨w.heap.size, i, none⟩ = some (.pointer (some ⟨bm i, 0, none⟩)) ∧ w'.cell? ⟨w.heap.size + 1, i, none⟩ = some (.pointer (some ⟨cm i, 0, none⟩)) ∧ w'.cell? ⟨wr.heap.size, 2, none⟩ = some (.int .u64 (n : Int)))
                      (first
                        | exact ⟨cA, cC, q2⟩
                        | exact s2
                        | exact s3)
                      (first
                        | (go_at_call 7; refine (used_any (KD.out.one.met i hi9)).mono ?_; rintro e w2 ⟨rfl, g1, g2⟩; have K2 := hide (KD.out.call1 hi9 g1 g2); have s2 := And.intro (K2.out.one.cell hi9) (And.intro (K2.out.two.cell hi9) (g2.cell (show V.drew.cell? _ = _ from q2) (HB.out i hi9).1)); clear g1 g2)
                        | (go_at_call 14; refine (rused_any (K2.out.two.met i hi9)).mono ?_; rintro e w3 ⟨rfl, g1, g2⟩; have K3 := hide (K2.out.call2 hi9 g1 g2); have s3 := And.intro (K3.out.one.cell hi9) (And.intro (K3.out.two.cell hi9) (g2.cell s2.2.2 (HB.out i hi9).2)); clear g1 g2))
                    rw [upF_same] at K3
                    go_wp2
                    go_roundw
                    case rel => exact ⟨k2 + 1, _, _, _, _, by omega, by go_num, K3⟩
                    case measure => simp [intOf]; omega
                  · have hi33 : i = 3 := by omega
                    have cA : V.cell? ⟨w.heap.size, i, none⟩ = some (.pointer none) := by rw [hi33]; exact HKV.out.one.cell3
                    have cC : V.cell? ⟨w.heap.size + 1, i, none⟩ = some (.pointer none) := by rw [hi33]; exact HKV.out.two.cell3
                    clear hi33
                    go_wp2_with (first
                      | (go_at_call 11; rw [HV.out]; refine (MD.out _).mono ?_; rintro e w2 ⟨rfl, hw⟩; have hw := hw.symm; subst hw; clear MD))
                    go_region_held3 (fun w' => w'.cell? ⟨w.heap.size, i, none⟩ = some (.pointer none) ∧ w'.cell? ⟨w.heap.size + 1, i, none⟩ = some (.pointer none) ∧ w'.cell? ⟨wr.heap.size, 2, none⟩ = some (.int .u64 (n : Int)))
                      (first
                        | exact ⟨cA, cC, q2⟩
                        | (go_keep; done))
                      (first
                        | (go_at_call 7; refine (nil_used _).mono ?_; rintro e w2 ⟨rfl, hw⟩; have hw := hw.symm; subst hw)
                        | (go_at_call 14; refine (nil_rused _).mono ?_; rintro e w2 ⟨rfl, hw⟩; have hw := hw.symm; subst hw))
                    have HKD := hide (HKV.out.kept (Below.refl _ _).drew)
                    go_wp2
                    go_roundw
                    case rel => exact ⟨k2 + 1, _, _, _, _, by omega, by go_num, HKD⟩
                    case measure => simp [intOf]; omega
                · by_cases h4 : kd = 4
                  · have ke0 : (kd == 0) = false := by simp; omega
                    have ke1 : (kd == 1) = false := by simp; omega
                    have ke2 : (kd == 2) = false := by simp; omega
                    have ke3 : (kd == 3) = false := by simp; omega
                    have ke4 : (kd == 4) = true := by simp; omega
                    clear h0 h1 h2 h3 h4
                    by_cases hi9 : i < 3
                    · have cA := HKV.out.one.cell hi9
                      have cC := HKV.out.two.cell hi9
                      have KD := hide (HKV.out.kept (Below.refl _ _).drew)
                      go_wp2_with (first
                        | (go_at_call 11; rw [HV.out]; refine (MD.out _).mono ?_; rintro e w2 ⟨rfl, hw⟩; have hw := hw.symm; subst hw; clear MD))
                      go_region_held3 (fun w' => w'.cell? ⟨w.heap.size, i, none⟩ = some (.pointer (some ⟨bm i, 0, none⟩)) ∧ w'.cell? ⟨w.heap.size + 1, i, none⟩ = some (.pointer (some ⟨cm i, 0, none⟩)) ∧ w'.cell? ⟨wr.heap.size, 2, none⟩ = some (.int .u64 (n : Int)))
                        (first
                          | exact ⟨cA, cC, q2⟩
                          | exact s2
                          | exact s3)
                        (first
                          | (go_at_call 8; refine (left_is (KD.out.one.met i hi9) rfl).mono ?_; rintro e w2 ⟨rfl, g1, g2⟩; have K2 := hide (KD.out.call1 hi9 g1 g2); have s2 := And.intro (K2.out.one.cell hi9) (And.intro (K2.out.two.cell hi9) (g2.cell (show V.drew.cell? _ = _ from q2) (HB.out i hi9).1)); clear g1 g2)
                          | (go_at_call 15; refine (rleft_is (K2.out.two.met i hi9) rfl).mono ?_; rintro e w3 ⟨rfl, g1, g2⟩; have K3 := hide (K2.out.call2 hi9 g1 g2); have s3 := And.intro (K3.out.one.cell hi9) (And.intro (K3.out.two.cell hi9) (g2.cell s2.2.2 (HB.out i hi9).2)); clear g1 g2))
                      rw [upF_same] at K3
                      go_wp2
                      go_roundw
                      case rel => exact ⟨k2 + 1, _, _, _, _, by omega, by go_num, K3⟩
                      case measure => simp [intOf]; omega
                    · have hi33 : i = 3 := by omega
                      have cA : V.cell? ⟨w.heap.size, i, none⟩ = some (.pointer none) := by rw [hi33]; exact HKV.out.one.cell3
                      have cC : V.cell? ⟨w.heap.size + 1, i, none⟩ = some (.pointer none) := by rw [hi33]; exact HKV.out.two.cell3
                      clear hi33
                      go_wp2_with (first
                        | (go_at_call 11; rw [HV.out]; refine (MD.out _).mono ?_; rintro e w2 ⟨rfl, hw⟩; have hw := hw.symm; subst hw; clear MD))
                      go_region_held3 (fun w' => w'.cell? ⟨w.heap.size, i, none⟩ = some (.pointer none) ∧ w'.cell? ⟨w.heap.size + 1, i, none⟩ = some (.pointer none) ∧ w'.cell? ⟨wr.heap.size, 2, none⟩ = some (.int .u64 (n : Int)))
                        (first
                          | exact ⟨cA, cC, q2⟩
                          | (go_keep; done))
                        (first
                          | (go_at_call 8; refine (nil_left _).mono ?_; rintro e w2 ⟨rfl, hw⟩; have hw := hw.symm; subst hw)
                          | (go_at_call 15; refine (nil_rleft _).mono ?_; rintro e w2 ⟨rfl, hw⟩; have hw := hw.symm; subst hw))
                      have HKD := hide (HKV.out.kept (Below.refl _ _).drew)
                      go_wp2
                      go_roundw
                      case rel => exact ⟨k2 + 1, _, _, _, _, by omega, by go_num, HKD⟩
                      case measure => simp [intOf]; omega
                  · have ke0 : (kd == 0) = false := by simp; omega
                    have ke1 : (kd == 1) = false := by simp; omega
                    have ke2 : (kd == 2) = false := by simp; omega
                    have ke3 : (kd == 3) = false := by simp; omega
                    have ke4 : (kd == 4) = false := by simp; omega
                    clear h0 h1 h2 h3 h4
                    go_wp2_with (first
                      | (go_at_call 11; rw [HV.out]; refine (MD.out _).mono ?_; rintro e w2 ⟨rfl, hw⟩; have hw := hw.symm; subst hw; clear MD))
                    go_roundw
                    case rel => exact ⟨k2 + 1, _, _, _, _, by omega, by go_num, HKV⟩
                    case measure => simp [intOf]; omega
        · obtain rfl : k2 = os.length := by omega
          have hi2 : ¬ (os.length : Int) < (os.length : Int) := by omega
          go_wp2_with (first
            | (go_at_call 5; refine (newMeter_lit1 _).mono ?_; rintro e w2 ⟨b, rfl, g1, g2, g3⟩; have M1 := hide g1; have B1 := hide (HK.out.below.trans (g2.mono HK.out.below.size)); have L1 := hide (Nat.le_trans HK.out.below.size g3); clear g1 g2 g3)
            | (go_at_call 8; refine (left_is (r := 1) M1.out rfl).mono ?_; rintro e w3 ⟨rfl, g1, g2⟩; have M2 := hide g1; have B2 := hide (g2.below B1.out L1.out); clear g1 g2)
            | (go_at_call 6; refine (spend_yes (n := 1) M2.out (by omega)).mono ?_; rintro e w4 ⟨rfl, g1, g2⟩; have B3 := hide (g2.below B2.out L1.out); clear g1 g2))
          go_ret
          exact ⟨rfl, B3.out⟩
end Go.Proofs.Ytidllcbagfhndaa
