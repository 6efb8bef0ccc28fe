/- print's and the document's reasons for a literal. -/
import Derived.Test.YtpkpajjdpiebfaaProg
import Derived.Test.YtpkpajjdpiebfaaRefAtom
namespace Go.Proofs.Ytpkpajjdpiebfaa
set_option linter.unusedSimpArgs false
set_option linter.unusedVariables false
open Go.RowKit

theorem lit_cells (w : World) (k : Int) (p : ByteArray) (ao : Option Addr) (len cap : Nat) (aoff op lk ln : Int) (ls : ByteArray) (lo rk rn : Int) (rs : ByteArray) (ro off : Int) (w' : World) (hb : Below (w.alloc (.cells #[.int .i64 k, .string p, .slice ao len cap, .int .i64 aoff, .int .i64 op, .int .i64 lk, .int .i64 ln, .string ls, .int .i64 lo, .int .i64 rk, .int .i64 rn, .string rs, .int .i64 ro, .int .i64 off] 59)).heap.size (w.alloc (.cells #[.int .i64 k, .string p, .slice ao len cap, .int .i64 aoff, .int .i64 op, .int .i64 lk, .int .i64 ln, .string ls, .int .i64 lo, .int .i64 rk, .int .i64 rn, .string rs, .int .i64 ro, .int .i64 off] 59)) w') :
    w'.cell? ⟨w.heap.size, 1, none⟩ = some (.string p) ∧ w'.cell? ⟨w.heap.size, 2, none⟩ = some (.slice ao len cap) ∧ w'.cell? ⟨w.heap.size, 3, none⟩ = some (.int .i64 aoff) ∧ w'.cell? ⟨w.heap.size, 9, none⟩ = some (.int .i64 rk) ∧ w'.cell? ⟨w.heap.size, 10, none⟩ = some (.int .i64 rn) ∧ w'.cell? ⟨w.heap.size, 11, none⟩ = some (.string rs) ∧ w'.cell? ⟨w.heap.size, 12, none⟩ = some (.int .i64 ro) :=
  ⟨kept_cell hb (by go_simp), kept_cell hb (by go_simp), kept_cell hb (by go_simp), kept_cell hb (by go_simp), kept_cell hb (by go_simp), kept_cell hb (by go_simp), kept_cell hb (by go_simp)⟩

set_option maxHeartbeats 2000000 in
theorem whyLit (x : Ltr) (w : World) (h : x.at w) :
    Calls Try.prog 56 #[x.val] w fun e w' => e = .returned (.int .i64 (litE x)) ∧ Below w.heap.size w w' := by
  obtain ⟨k, a, op, ⟨lk, ln, ls, lo⟩, ⟨rk, rn, rs, ro⟩, off⟩ := x
  obtain ⟨-, ha, -, hL, hR, -⟩ := h
  have HA := hide (fun w1 (hb : Below w.heap.size w w1) => whyAtom a w1 (ha.kept hb))
  have HZ : Hid (∀ k n s o w1, Calls Try.prog 65 #[.agg #[.int .i64 k, .int .i64 n, .string s, .int .i64 o]] w1 fun e w' => e = .returned (.bool (noTerm ⟨k, n, s, o⟩)) ∧ Below w1.heap.size w1 w') := fun k n s o w1 => isEmpty_any ⟨k, n, s, o⟩ w1
  have HT : Hid (∀ k n s o w1, Trm.ok ⟨k, n, s, o⟩ → Calls Try.prog 54 #[.agg #[.int .i64 k, .int .i64 n, .string s, .int .i64 o]] w1 fun e w' => e = .returned (.int .i64 (termE ⟨k, n, s, o⟩)) ∧ Below w1.heap.size w1 w') := fun k n s o w1 hh => whyTerm ⟨k, n, s, o⟩ w1 hh
  have HL : Hid (Trm.ok ⟨lk, ln, ls, lo⟩) := hL
  have HR : Hid (Trm.ok ⟨rk, rn, rs, ro⟩) := hR
  obtain ⟨p, ao, len, cap, aoff, ts⟩ := a
  have HS : Hid (ts.length = len) := ha.2.2.1
  have hl2 : len ≤ 140737488351232 := by have := ha.2.2.2.1; dsimp only at this; omega
  have hp2 : p.size ≤ 140737488351232 := ha.1
  clear ha hL hR
  unfold Atm.val at HA
  unfold Ltr.val
  dsimp only at HA ⊢

  by_cases k1 : k = 1
  · subst k1
    by_cases h0 : op = 0
    · subst h0
      cases z1 : noTerm ⟨lk, ln, ls, lo⟩
      · have HE : Hid (litE ⟨1, ⟨p, ao, len, cap, aoff, ts⟩, 0, ⟨lk, ln, ls, lo⟩, ⟨rk, rn, rs, ro⟩, off⟩ = 2) := by show litE _ = _; unfold litE; simp [z1]
        rw [HE.out]
        clear HE
        go_enter Try.func56, Try.ntmps56
        have HB := hide (Below.refl (w.alloc (.cells #[.int .i64 1, .string p, .slice ao len cap, .int .i64 aoff, .int .i64 0, .int .i64 lk, .int .i64 ln, .string ls, .int .i64 lo, .int .i64 rk, .int .i64 rn, .string rs, .int .i64 ro, .int .i64 off] 59)).heap.size (w.alloc (.cells #[.int .i64 1, .string p, .slice ao len cap, .int .i64 aoff, .int .i64 0, .int .i64 lk, .int .i64 ln, .string ls, .int .i64 lo, .int .i64 rk, .int .i64 rn, .string rs, .int .i64 ro, .int .i64 off] 59)))
        have HX := hide (fun w' (hb : Below (w.alloc (.cells #[.int .i64 1, .string p, .slice ao len cap, .int .i64 aoff, .int .i64 0, .int .i64 lk, .int .i64 ln, .string ls, .int .i64 lo, .int .i64 rk, .int .i64 rn, .string rs, .int .i64 ro, .int .i64 off] 59)).heap.size (w.alloc (.cells #[.int .i64 1, .string p, .slice ao len cap, .int .i64 aoff, .int .i64 0, .int .i64 lk, .int .i64 ln, .string ls, .int .i64 lo, .int .i64 rk, .int .i64 rn, .string rs, .int .i64 ro, .int .i64 off] 59)) w') => lit_cells w 1 p ao len cap aoff 0 lk ln ls lo rk rn rs ro off w' hb)
        go_wp2_with (first | (go_at_call 65; refine (HZ.out _ _ _ _ _).mono ?_; rintro e w' ⟨rfl, hz⟩; have HB := hide (belowt HB.out hz); clear hz; obtain ⟨c1, c2, c3, c9, c10, c11, c12⟩ := HX.out _ HB.out) | (go_at_call 42; refine (HA.out _ (below1t HB.out)).mono ?_; rintro e w' ⟨rfl, hz⟩; have HB := hide (belowt HB.out hz); clear hz; obtain ⟨c1, c2, c3, c9, c10, c11, c12⟩ := HX.out _ HB.out) | (go_at_call 54; refine (HT.out _ _ _ _ _ (by first | exact HL.out | exact HR.out)).mono ?_; rintro e w' ⟨rfl, hz⟩; have HB := hide (belowt HB.out hz); clear hz; obtain ⟨c1, c2, c3, c9, c10, c11, c12⟩ := HX.out _ HB.out))
        go_ret
        exact ⟨rfl, below1t HB.out⟩
      · cases z2 : noTerm ⟨rk, rn, rs, ro⟩
        · have HE : Hid (litE ⟨1, ⟨p, ao, len, cap, aoff, ts⟩, 0, ⟨lk, ln, ls, lo⟩, ⟨rk, rn, rs, ro⟩, off⟩ = 2) := by show litE _ = _; unfold litE; simp [z1, z2]
          rw [HE.out]
          clear HE
          go_enter Try.func56, Try.ntmps56
          have HB := hide (Below.refl (w.alloc (.cells #[.int .i64 1, .string p, .slice ao len cap, .int .i64 aoff, .int .i64 0, .int .i64 lk, .int .i64 ln, .string ls, .int .i64 lo, .int .i64 rk, .int .i64 rn, .string rs, .int .i64 ro, .int .i64 off] 59)).heap.size (w.alloc (.cells #[.int .i64 1, .string p, .slice ao len cap, .int .i64 aoff, .int .i64 0, .int .i64 lk, .int .i64 ln, .string ls, .int .i64 lo, .int .i64 rk, .int .i64 rn, .string rs, .int .i64 ro, .int .i64 off] 59)))
          have HX := hide (fun w' (hb : Below (w.alloc (.cells #[.int .i64 1, .string p, .slice ao len cap, .int .i64 aoff, .int .i64 0, .int .i64 lk, .int .i64 ln, .string ls, .int .i64 lo, .int .i64 rk, .int .i64 rn, .string rs, .int .i64 ro, .int .i64 off] 59)).heap.size (w.alloc (.cells #[.int .i64 1, .string p, .slice ao len cap, .int .i64 aoff, .int .i64 0, .int .i64 lk, .int .i64 ln, .string ls, .int .i64 lo, .int .i64 rk, .int .i64 rn, .string rs, .int .i64 ro, .int .i64 off] 59)) w') => lit_cells w 1 p ao len cap aoff 0 lk ln ls lo rk rn rs ro off w' hb)
          go_wp2_with (first | (go_at_call 65; refine (HZ.out _ _ _ _ _).mono ?_; rintro e w' ⟨rfl, hz⟩; have HB := hide (belowt HB.out hz); clear hz; obtain ⟨c1, c2, c3, c9, c10, c11, c12⟩ := HX.out _ HB.out) | (go_at_call 42; refine (HA.out _ (below1t HB.out)).mono ?_; rintro e w' ⟨rfl, hz⟩; have HB := hide (belowt HB.out hz); clear hz; obtain ⟨c1, c2, c3, c9, c10, c11, c12⟩ := HX.out _ HB.out) | (go_at_call 54; refine (HT.out _ _ _ _ _ (by first | exact HL.out | exact HR.out)).mono ?_; rintro e w' ⟨rfl, hz⟩; have HB := hide (belowt HB.out hz); clear hz; obtain ⟨c1, c2, c3, c9, c10, c11, c12⟩ := HX.out _ HB.out))
          go_ret
          exact ⟨rfl, below1t HB.out⟩
        · have HE : Hid (litE ⟨1, ⟨p, ao, len, cap, aoff, ts⟩, 0, ⟨lk, ln, ls, lo⟩, ⟨rk, rn, rs, ro⟩, off⟩ = atomE p ts) := by show litE _ = _; unfold litE; simp [z1, z2]
          rw [HE.out]
          clear HE
          go_enter Try.func56, Try.ntmps56
          have HB := hide (Below.refl (w.alloc (.cells #[.int .i64 1, .string p, .slice ao len cap, .int .i64 aoff, .int .i64 0, .int .i64 lk, .int .i64 ln, .string ls, .int .i64 lo, .int .i64 rk, .int .i64 rn, .string rs, .int .i64 ro, .int .i64 off] 59)).heap.size (w.alloc (.cells #[.int .i64 1, .string p, .slice ao len cap, .int .i64 aoff, .int .i64 0, .int .i64 lk, .int .i64 ln, .string ls, .int .i64 lo, .int .i64 rk, .int .i64 rn, .string rs, .int .i64 ro, .int .i64 off] 59)))
          have HX := hide (fun w' (hb : Below (w.alloc (.cells #[.int .i64 1, .string p, .slice ao len cap, .int .i64 aoff, .int .i64 0, .int .i64 lk, .int .i64 ln, .string ls, .int .i64 lo, .int .i64 rk, .int .i64 rn, .string rs, .int .i64 ro, .int .i64 off] 59)).heap.size (w.alloc (.cells #[.int .i64 1, .string p, .slice ao len cap, .int .i64 aoff, .int .i64 0, .int .i64 lk, .int .i64 ln, .string ls, .int .i64 lo, .int .i64 rk, .int .i64 rn, .string rs, .int .i64 ro, .int .i64 off] 59)) w') => lit_cells w 1 p ao len cap aoff 0 lk ln ls lo rk rn rs ro off w' hb)
          go_wp2_with (first | (go_at_call 65; refine (HZ.out _ _ _ _ _).mono ?_; rintro e w' ⟨rfl, hz⟩; have HB := hide (belowt HB.out hz); clear hz; obtain ⟨c1, c2, c3, c9, c10, c11, c12⟩ := HX.out _ HB.out) | (go_at_call 42; refine (HA.out _ (below1t HB.out)).mono ?_; rintro e w' ⟨rfl, hz⟩; have HB := hide (belowt HB.out hz); clear hz; obtain ⟨c1, c2, c3, c9, c10, c11, c12⟩ := HX.out _ HB.out) | (go_at_call 54; refine (HT.out _ _ _ _ _ (by first | exact HL.out | exact HR.out)).mono ?_; rintro e w' ⟨rfl, hz⟩; have HB := hide (belowt HB.out hz); clear hz; obtain ⟨c1, c2, c3, c9, c10, c11, c12⟩ := HX.out _ HB.out))
          go_ret
          exact ⟨rfl, below1t HB.out⟩
    · have h0' : (op != 0) = true := by simpa using h0
      have HE : Hid (litE ⟨1, ⟨p, ao, len, cap, aoff, ts⟩, op, ⟨lk, ln, ls, lo⟩, ⟨rk, rn, rs, ro⟩, off⟩ = 2) := by show litE _ = _; unfold litE; simp [h0]
      rw [HE.out]
      clear HE h0
      go_enter Try.func56, Try.ntmps56
      have HB := hide (Below.refl (w.alloc (.cells #[.int .i64 1, .string p, .slice ao len cap, .int .i64 aoff, .int .i64 op, .int .i64 lk, .int .i64 ln, .string ls, .int .i64 lo, .int .i64 rk, .int .i64 rn, .string rs, .int .i64 ro, .int .i64 off] 59)).heap.size (w.alloc (.cells #[.int .i64 1, .string p, .slice ao len cap, .int .i64 aoff, .int .i64 op, .int .i64 lk, .int .i64 ln, .string ls, .int .i64 lo, .int .i64 rk, .int .i64 rn, .string rs, .int .i64 ro, .int .i64 off] 59)))
      have HX := hide (fun w' (hb : Below (w.alloc (.cells #[.int .i64 1, .string p, .slice ao len cap, .int .i64 aoff, .int .i64 op, .int .i64 lk, .int .i64 ln, .string ls, .int .i64 lo, .int .i64 rk, .int .i64 rn, .string rs, .int .i64 ro, .int .i64 off] 59)).heap.size (w.alloc (.cells #[.int .i64 1, .string p, .slice ao len cap, .int .i64 aoff, .int .i64 op, .int .i64 lk, .int .i64 ln, .string ls, .int .i64 lo, .int .i64 rk, .int .i64 rn, .string rs, .int .i64 ro, .int .i64 off] 59)) w') => lit_cells w 1 p ao len cap aoff op lk ln ls lo rk rn rs ro off w' hb)
      go_wp2_with (first | (go_at_call 65; refine (HZ.out _ _ _ _ _).mono ?_; rintro e w' ⟨rfl, hz⟩; have HB := hide (belowt HB.out hz); clear hz; obtain ⟨c1, c2, c3, c9, c10, c11, c12⟩ := HX.out _ HB.out) | (go_at_call 42; refine (HA.out _ (below1t HB.out)).mono ?_; rintro e w' ⟨rfl, hz⟩; have HB := hide (belowt HB.out hz); clear hz; obtain ⟨c1, c2, c3, c9, c10, c11, c12⟩ := HX.out _ HB.out) | (go_at_call 54; refine (HT.out _ _ _ _ _ (by first | exact HL.out | exact HR.out)).mono ?_; rintro e w' ⟨rfl, hz⟩; have HB := hide (belowt HB.out hz); clear hz; obtain ⟨c1, c2, c3, c9, c10, c11, c12⟩ := HX.out _ HB.out))
      go_ret
      exact ⟨rfl, below1t HB.out⟩

  by_cases k2 : k = 2
  · subst k2
    by_cases h0 : op = 0
    · subst h0
      cases z1 : noTerm ⟨lk, ln, ls, lo⟩
      · have HE : Hid (litE ⟨2, ⟨p, ao, len, cap, aoff, ts⟩, 0, ⟨lk, ln, ls, lo⟩, ⟨rk, rn, rs, ro⟩, off⟩ = 2) := by show litE _ = _; unfold litE; simp [z1]
        rw [HE.out]
        clear HE
        go_enter Try.func56, Try.ntmps56
        have HB := hide (Below.refl (w.alloc (.cells #[.int .i64 2, .string p, .slice ao len cap, .int .i64 aoff, .int .i64 0, .int .i64 lk, .int .i64 ln, .string ls, .int .i64 lo, .int .i64 rk, .int .i64 rn, .string rs, .int .i64 ro, .int .i64 off] 59)).heap.size (w.alloc (.cells #[.int .i64 2, .string p, .slice ao len cap, .int .i64 aoff, .int .i64 0, .int .i64 lk, .int .i64 ln, .string ls, .int .i64 lo, .int .i64 rk, .int .i64 rn, .string rs, .int .i64 ro, .int .i64 off] 59)))
        have HX := hide (fun w' (hb : Below (w.alloc (.cells #[.int .i64 2, .string p, .slice ao len cap, .int .i64 aoff, .int .i64 0, .int .i64 lk, .int .i64 ln, .string ls, .int .i64 lo, .int .i64 rk, .int .i64 rn, .string rs, .int .i64 ro, .int .i64 off] 59)).heap.size (w.alloc (.cells #[.int .i64 2, .string p, .slice ao len cap, .int .i64 aoff, .int .i64 0, .int .i64 lk, .int .i64 ln, .string ls, .int .i64 lo, .int .i64 rk, .int .i64 rn, .string rs, .int .i64 ro, .int .i64 off] 59)) w') => lit_cells w 2 p ao len cap aoff 0 lk ln ls lo rk rn rs ro off w' hb)
        go_wp2_with (first | (go_at_call 65; refine (HZ.out _ _ _ _ _).mono ?_; rintro e w' ⟨rfl, hz⟩; have HB := hide (belowt HB.out hz); clear hz; obtain ⟨c1, c2, c3, c9, c10, c11, c12⟩ := HX.out _ HB.out) | (go_at_call 42; refine (HA.out _ (below1t HB.out)).mono ?_; rintro e w' ⟨rfl, hz⟩; have HB := hide (belowt HB.out hz); clear hz; obtain ⟨c1, c2, c3, c9, c10, c11, c12⟩ := HX.out _ HB.out) | (go_at_call 54; refine (HT.out _ _ _ _ _ (by first | exact HL.out | exact HR.out)).mono ?_; rintro e w' ⟨rfl, hz⟩; have HB := hide (belowt HB.out hz); clear hz; obtain ⟨c1, c2, c3, c9, c10, c11, c12⟩ := HX.out _ HB.out))
        go_ret
        exact ⟨rfl, below1t HB.out⟩
      · cases z2 : noTerm ⟨rk, rn, rs, ro⟩
        · have HE : Hid (litE ⟨2, ⟨p, ao, len, cap, aoff, ts⟩, 0, ⟨lk, ln, ls, lo⟩, ⟨rk, rn, rs, ro⟩, off⟩ = 2) := by show litE _ = _; unfold litE; simp [z1, z2]
          rw [HE.out]
          clear HE
          go_enter Try.func56, Try.ntmps56
          have HB := hide (Below.refl (w.alloc (.cells #[.int .i64 2, .string p, .slice ao len cap, .int .i64 aoff, .int .i64 0, .int .i64 lk, .int .i64 ln, .string ls, .int .i64 lo, .int .i64 rk, .int .i64 rn, .string rs, .int .i64 ro, .int .i64 off] 59)).heap.size (w.alloc (.cells #[.int .i64 2, .string p, .slice ao len cap, .int .i64 aoff, .int .i64 0, .int .i64 lk, .int .i64 ln, .string ls, .int .i64 lo, .int .i64 rk, .int .i64 rn, .string rs, .int .i64 ro, .int .i64 off] 59)))
          have HX := hide (fun w' (hb : Below (w.alloc (.cells #[.int .i64 2, .string p, .slice ao len cap, .int .i64 aoff, .int .i64 0, .int .i64 lk, .int .i64 ln, .string ls, .int .i64 lo, .int .i64 rk, .int .i64 rn, .string rs, .int .i64 ro, .int .i64 off] 59)).heap.size (w.alloc (.cells #[.int .i64 2, .string p, .slice ao len cap, .int .i64 aoff, .int .i64 0, .int .i64 lk, .int .i64 ln, .string ls, .int .i64 lo, .int .i64 rk, .int .i64 rn, .string rs, .int .i64 ro, .int .i64 off] 59)) w') => lit_cells w 2 p ao len cap aoff 0 lk ln ls lo rk rn rs ro off w' hb)
          go_wp2_with (first | (go_at_call 65; refine (HZ.out _ _ _ _ _).mono ?_; rintro e w' ⟨rfl, hz⟩; have HB := hide (belowt HB.out hz); clear hz; obtain ⟨c1, c2, c3, c9, c10, c11, c12⟩ := HX.out _ HB.out) | (go_at_call 42; refine (HA.out _ (below1t HB.out)).mono ?_; rintro e w' ⟨rfl, hz⟩; have HB := hide (belowt HB.out hz); clear hz; obtain ⟨c1, c2, c3, c9, c10, c11, c12⟩ := HX.out _ HB.out) | (go_at_call 54; refine (HT.out _ _ _ _ _ (by first | exact HL.out | exact HR.out)).mono ?_; rintro e w' ⟨rfl, hz⟩; have HB := hide (belowt HB.out hz); clear hz; obtain ⟨c1, c2, c3, c9, c10, c11, c12⟩ := HX.out _ HB.out))
          go_ret
          exact ⟨rfl, below1t HB.out⟩
        · have HE : Hid (litE ⟨2, ⟨p, ao, len, cap, aoff, ts⟩, 0, ⟨lk, ln, ls, lo⟩, ⟨rk, rn, rs, ro⟩, off⟩ = atomE p ts) := by show litE _ = _; unfold litE; simp [z1, z2]
          rw [HE.out]
          clear HE
          go_enter Try.func56, Try.ntmps56
          have HB := hide (Below.refl (w.alloc (.cells #[.int .i64 2, .string p, .slice ao len cap, .int .i64 aoff, .int .i64 0, .int .i64 lk, .int .i64 ln, .string ls, .int .i64 lo, .int .i64 rk, .int .i64 rn, .string rs, .int .i64 ro, .int .i64 off] 59)).heap.size (w.alloc (.cells #[.int .i64 2, .string p, .slice ao len cap, .int .i64 aoff, .int .i64 0, .int .i64 lk, .int .i64 ln, .string ls, .int .i64 lo, .int .i64 rk, .int .i64 rn, .string rs, .int .i64 ro, .int .i64 off] 59)))
          have HX := hide (fun w' (hb : Below (w.alloc (.cells #[.int .i64 2, .string p, .slice ao len cap, .int .i64 aoff, .int .i64 0, .int .i64 lk, .int .i64 ln, .string ls, .int .i64 lo, .int .i64 rk, .int .i64 rn, .string rs, .int .i64 ro, .int .i64 off] 59)).heap.size (w.alloc (.cells #[.int .i64 2, .string p, .slice ao len cap, .int .i64 aoff, .int .i64 0, .int .i64 lk, .int .i64 ln, .string ls, .int .i64 lo, .int .i64 rk, .int .i64 rn, .string rs, .int .i64 ro, .int .i64 off] 59)) w') => lit_cells w 2 p ao len cap aoff 0 lk ln ls lo rk rn rs ro off w' hb)
          go_wp2_with (first | (go_at_call 65; refine (HZ.out _ _ _ _ _).mono ?_; rintro e w' ⟨rfl, hz⟩; have HB := hide (belowt HB.out hz); clear hz; obtain ⟨c1, c2, c3, c9, c10, c11, c12⟩ := HX.out _ HB.out) | (go_at_call 42; refine (HA.out _ (below1t HB.out)).mono ?_; rintro e w' ⟨rfl, hz⟩; have HB := hide (belowt HB.out hz); clear hz; obtain ⟨c1, c2, c3, c9, c10, c11, c12⟩ := HX.out _ HB.out) | (go_at_call 54; refine (HT.out _ _ _ _ _ (by first | exact HL.out | exact HR.out)).mono ?_; rintro e w' ⟨rfl, hz⟩; have HB := hide (belowt HB.out hz); clear hz; obtain ⟨c1, c2, c3, c9, c10, c11, c12⟩ := HX.out _ HB.out))
          go_ret
          exact ⟨rfl, below1t HB.out⟩
    · have h0' : (op != 0) = true := by simpa using h0
      have HE : Hid (litE ⟨2, ⟨p, ao, len, cap, aoff, ts⟩, op, ⟨lk, ln, ls, lo⟩, ⟨rk, rn, rs, ro⟩, off⟩ = 2) := by show litE _ = _; unfold litE; simp [h0]
      rw [HE.out]
      clear HE h0
      go_enter Try.func56, Try.ntmps56
      have HB := hide (Below.refl (w.alloc (.cells #[.int .i64 2, .string p, .slice ao len cap, .int .i64 aoff, .int .i64 op, .int .i64 lk, .int .i64 ln, .string ls, .int .i64 lo, .int .i64 rk, .int .i64 rn, .string rs, .int .i64 ro, .int .i64 off] 59)).heap.size (w.alloc (.cells #[.int .i64 2, .string p, .slice ao len cap, .int .i64 aoff, .int .i64 op, .int .i64 lk, .int .i64 ln, .string ls, .int .i64 lo, .int .i64 rk, .int .i64 rn, .string rs, .int .i64 ro, .int .i64 off] 59)))
      have HX := hide (fun w' (hb : Below (w.alloc (.cells #[.int .i64 2, .string p, .slice ao len cap, .int .i64 aoff, .int .i64 op, .int .i64 lk, .int .i64 ln, .string ls, .int .i64 lo, .int .i64 rk, .int .i64 rn, .string rs, .int .i64 ro, .int .i64 off] 59)).heap.size (w.alloc (.cells #[.int .i64 2, .string p, .slice ao len cap, .int .i64 aoff, .int .i64 op, .int .i64 lk, .int .i64 ln, .string ls, .int .i64 lo, .int .i64 rk, .int .i64 rn, .string rs, .int .i64 ro, .int .i64 off] 59)) w') => lit_cells w 2 p ao len cap aoff op lk ln ls lo rk rn rs ro off w' hb)
      go_wp2_with (first | (go_at_call 65; refine (HZ.out _ _ _ _ _).mono ?_; rintro e w' ⟨rfl, hz⟩; have HB := hide (belowt HB.out hz); clear hz; obtain ⟨c1, c2, c3, c9, c10, c11, c12⟩ := HX.out _ HB.out) | (go_at_call 42; refine (HA.out _ (below1t HB.out)).mono ?_; rintro e w' ⟨rfl, hz⟩; have HB := hide (belowt HB.out hz); clear hz; obtain ⟨c1, c2, c3, c9, c10, c11, c12⟩ := HX.out _ HB.out) | (go_at_call 54; refine (HT.out _ _ _ _ _ (by first | exact HL.out | exact HR.out)).mono ?_; rintro e w' ⟨rfl, hz⟩; have HB := hide (belowt HB.out hz); clear hz; obtain ⟨c1, c2, c3, c9, c10, c11, c12⟩ := HX.out _ HB.out))
      go_ret
      exact ⟨rfl, below1t HB.out⟩

  by_cases k3 : k = 3
  · subst k3
    by_cases o1 : op < 1
    · have HE : Hid (litE ⟨3, ⟨p, ao, len, cap, aoff, ts⟩, op, ⟨lk, ln, ls, lo⟩, ⟨rk, rn, rs, ro⟩, off⟩ = 2) := by show litE _ = _; unfold litE; simp [o1]
      rw [HE.out]
      clear HE
      go_enter Try.func56, Try.ntmps56
      have HB := hide (Below.refl (w.alloc (.cells #[.int .i64 3, .string p, .slice ao len cap, .int .i64 aoff, .int .i64 op, .int .i64 lk, .int .i64 ln, .string ls, .int .i64 lo, .int .i64 rk, .int .i64 rn, .string rs, .int .i64 ro, .int .i64 off] 59)).heap.size (w.alloc (.cells #[.int .i64 3, .string p, .slice ao len cap, .int .i64 aoff, .int .i64 op, .int .i64 lk, .int .i64 ln, .string ls, .int .i64 lo, .int .i64 rk, .int .i64 rn, .string rs, .int .i64 ro, .int .i64 off] 59)))
      have HX := hide (fun w' (hb : Below (w.alloc (.cells #[.int .i64 3, .string p, .slice ao len cap, .int .i64 aoff, .int .i64 op, .int .i64 lk, .int .i64 ln, .string ls, .int .i64 lo, .int .i64 rk, .int .i64 rn, .string rs, .int .i64 ro, .int .i64 off] 59)).heap.size (w.alloc (.cells #[.int .i64 3, .string p, .slice ao len cap, .int .i64 aoff, .int .i64 op, .int .i64 lk, .int .i64 ln, .string ls, .int .i64 lo, .int .i64 rk, .int .i64 rn, .string rs, .int .i64 ro, .int .i64 off] 59)) w') => lit_cells w 3 p ao len cap aoff op lk ln ls lo rk rn rs ro off w' hb)
      go_wp2_with (first | (go_at_call 65; refine (HZ.out _ _ _ _ _).mono ?_; rintro e w' ⟨rfl, hz⟩; have HB := hide (belowt HB.out hz); clear hz; obtain ⟨c1, c2, c3, c9, c10, c11, c12⟩ := HX.out _ HB.out) | (go_at_call 42; refine (HA.out _ (below1t HB.out)).mono ?_; rintro e w' ⟨rfl, hz⟩; have HB := hide (belowt HB.out hz); clear hz; obtain ⟨c1, c2, c3, c9, c10, c11, c12⟩ := HX.out _ HB.out) | (go_at_call 54; refine (HT.out _ _ _ _ _ (by first | exact HL.out | exact HR.out)).mono ?_; rintro e w' ⟨rfl, hz⟩; have HB := hide (belowt HB.out hz); clear hz; obtain ⟨c1, c2, c3, c9, c10, c11, c12⟩ := HX.out _ HB.out))
      go_ret
      exact ⟨rfl, below1t HB.out⟩
    · by_cases o6 : 6 < op
      · have HE : Hid (litE ⟨3, ⟨p, ao, len, cap, aoff, ts⟩, op, ⟨lk, ln, ls, lo⟩, ⟨rk, rn, rs, ro⟩, off⟩ = 2) := by show litE _ = _; unfold litE; simp [o1, o6]
        rw [HE.out]
        clear HE
        go_enter Try.func56, Try.ntmps56
        have HB := hide (Below.refl (w.alloc (.cells #[.int .i64 3, .string p, .slice ao len cap, .int .i64 aoff, .int .i64 op, .int .i64 lk, .int .i64 ln, .string ls, .int .i64 lo, .int .i64 rk, .int .i64 rn, .string rs, .int .i64 ro, .int .i64 off] 59)).heap.size (w.alloc (.cells #[.int .i64 3, .string p, .slice ao len cap, .int .i64 aoff, .int .i64 op, .int .i64 lk, .int .i64 ln, .string ls, .int .i64 lo, .int .i64 rk, .int .i64 rn, .string rs, .int .i64 ro, .int .i64 off] 59)))
        have HX := hide (fun w' (hb : Below (w.alloc (.cells #[.int .i64 3, .string p, .slice ao len cap, .int .i64 aoff, .int .i64 op, .int .i64 lk, .int .i64 ln, .string ls, .int .i64 lo, .int .i64 rk, .int .i64 rn, .string rs, .int .i64 ro, .int .i64 off] 59)).heap.size (w.alloc (.cells #[.int .i64 3, .string p, .slice ao len cap, .int .i64 aoff, .int .i64 op, .int .i64 lk, .int .i64 ln, .string ls, .int .i64 lo, .int .i64 rk, .int .i64 rn, .string rs, .int .i64 ro, .int .i64 off] 59)) w') => lit_cells w 3 p ao len cap aoff op lk ln ls lo rk rn rs ro off w' hb)
        go_wp2_with (first | (go_at_call 65; refine (HZ.out _ _ _ _ _).mono ?_; rintro e w' ⟨rfl, hz⟩; have HB := hide (belowt HB.out hz); clear hz; obtain ⟨c1, c2, c3, c9, c10, c11, c12⟩ := HX.out _ HB.out) | (go_at_call 42; refine (HA.out _ (below1t HB.out)).mono ?_; rintro e w' ⟨rfl, hz⟩; have HB := hide (belowt HB.out hz); clear hz; obtain ⟨c1, c2, c3, c9, c10, c11, c12⟩ := HX.out _ HB.out) | (go_at_call 54; refine (HT.out _ _ _ _ _ (by first | exact HL.out | exact HR.out)).mono ?_; rintro e w' ⟨rfl, hz⟩; have HB := hide (belowt HB.out hz); clear hz; obtain ⟨c1, c2, c3, c9, c10, c11, c12⟩ := HX.out _ HB.out))
        go_ret
        exact ⟨rfl, below1t HB.out⟩
      · cases hp : (p.toList == [])
        · have HE : Hid (litE ⟨3, ⟨p, ao, len, cap, aoff, ts⟩, op, ⟨lk, ln, ls, lo⟩, ⟨rk, rn, rs, ro⟩, off⟩ = 2) := by show litE _ = _; unfold litE; dsimp only; rw [hp]; simp [o1, o6]
          rw [HE.out]
          clear HE
          go_enter Try.func56, Try.ntmps56
          have HB := hide (Below.refl (w.alloc (.cells #[.int .i64 3, .string p, .slice ao len cap, .int .i64 aoff, .int .i64 op, .int .i64 lk, .int .i64 ln, .string ls, .int .i64 lo, .int .i64 rk, .int .i64 rn, .string rs, .int .i64 ro, .int .i64 off] 59)).heap.size (w.alloc (.cells #[.int .i64 3, .string p, .slice ao len cap, .int .i64 aoff, .int .i64 op, .int .i64 lk, .int .i64 ln, .string ls, .int .i64 lo, .int .i64 rk, .int .i64 rn, .string rs, .int .i64 ro, .int .i64 off] 59)))
          have HX := hide (fun w' (hb : Below (w.alloc (.cells #[.int .i64 3, .string p, .slice ao len cap, .int .i64 aoff, .int .i64 op, .int .i64 lk, .int .i64 ln, .string ls, .int .i64 lo, .int .i64 rk, .int .i64 rn, .string rs, .int .i64 ro, .int .i64 off] 59)).heap.size (w.alloc (.cells #[.int .i64 3, .string p, .slice ao len cap, .int .i64 aoff, .int .i64 op, .int .i64 lk, .int .i64 ln, .string ls, .int .i64 lo, .int .i64 rk, .int .i64 rn, .string rs, .int .i64 ro, .int .i64 off] 59)) w') => lit_cells w 3 p ao len cap aoff op lk ln ls lo rk rn rs ro off w' hb)
          go_wp2_with (first | (go_at_call 65; refine (HZ.out _ _ _ _ _).mono ?_; rintro e w' ⟨rfl, hz⟩; have HB := hide (belowt HB.out hz); clear hz; obtain ⟨c1, c2, c3, c9, c10, c11, c12⟩ := HX.out _ HB.out) | (go_at_call 42; refine (HA.out _ (below1t HB.out)).mono ?_; rintro e w' ⟨rfl, hz⟩; have HB := hide (belowt HB.out hz); clear hz; obtain ⟨c1, c2, c3, c9, c10, c11, c12⟩ := HX.out _ HB.out) | (go_at_call 54; refine (HT.out _ _ _ _ _ (by first | exact HL.out | exact HR.out)).mono ?_; rintro e w' ⟨rfl, hz⟩; have HB := hide (belowt HB.out hz); clear hz; obtain ⟨c1, c2, c3, c9, c10, c11, c12⟩ := HX.out _ HB.out))
          go_ret
          exact ⟨rfl, below1t HB.out⟩
        · by_cases hn : 0 < len
          · have HE : Hid (litE ⟨3, ⟨p, ao, len, cap, aoff, ts⟩, op, ⟨lk, ln, ls, lo⟩, ⟨rk, rn, rs, ro⟩, off⟩ = 2) := by show litE _ = _; unfold litE; dsimp only; rw [hp, HS.out]; simp [o1, o6, hn]
            rw [HE.out]
            clear HE
            have hn' : (0 : Int) < (len : Int) := by omega
            go_enter Try.func56, Try.ntmps56
            have HB := hide (Below.refl (w.alloc (.cells #[.int .i64 3, .string p, .slice ao len cap, .int .i64 aoff, .int .i64 op, .int .i64 lk, .int .i64 ln, .string ls, .int .i64 lo, .int .i64 rk, .int .i64 rn, .string rs, .int .i64 ro, .int .i64 off] 59)).heap.size (w.alloc (.cells #[.int .i64 3, .string p, .slice ao len cap, .int .i64 aoff, .int .i64 op, .int .i64 lk, .int .i64 ln, .string ls, .int .i64 lo, .int .i64 rk, .int .i64 rn, .string rs, .int .i64 ro, .int .i64 off] 59)))
            have HX := hide (fun w' (hb : Below (w.alloc (.cells #[.int .i64 3, .string p, .slice ao len cap, .int .i64 aoff, .int .i64 op, .int .i64 lk, .int .i64 ln, .string ls, .int .i64 lo, .int .i64 rk, .int .i64 rn, .string rs, .int .i64 ro, .int .i64 off] 59)).heap.size (w.alloc (.cells #[.int .i64 3, .string p, .slice ao len cap, .int .i64 aoff, .int .i64 op, .int .i64 lk, .int .i64 ln, .string ls, .int .i64 lo, .int .i64 rk, .int .i64 rn, .string rs, .int .i64 ro, .int .i64 off] 59)) w') => lit_cells w 3 p ao len cap aoff op lk ln ls lo rk rn rs ro off w' hb)
            go_wp2_with (first | (go_at_call 65; refine (HZ.out _ _ _ _ _).mono ?_; rintro e w' ⟨rfl, hz⟩; have HB := hide (belowt HB.out hz); clear hz; obtain ⟨c1, c2, c3, c9, c10, c11, c12⟩ := HX.out _ HB.out) | (go_at_call 42; refine (HA.out _ (below1t HB.out)).mono ?_; rintro e w' ⟨rfl, hz⟩; have HB := hide (belowt HB.out hz); clear hz; obtain ⟨c1, c2, c3, c9, c10, c11, c12⟩ := HX.out _ HB.out) | (go_at_call 54; refine (HT.out _ _ _ _ _ (by first | exact HL.out | exact HR.out)).mono ?_; rintro e w' ⟨rfl, hz⟩; have HB := hide (belowt HB.out hz); clear hz; obtain ⟨c1, c2, c3, c9, c10, c11, c12⟩ := HX.out _ HB.out))
            go_ret
            exact ⟨rfl, below1t HB.out⟩
          · have hn' : ¬ (0 : Int) < (len : Int) := by omega
            by_cases t1 : termE ⟨lk, ln, ls, lo⟩ = 0
            · have HE : Hid (litE ⟨3, ⟨p, ao, len, cap, aoff, ts⟩, op, ⟨lk, ln, ls, lo⟩, ⟨rk, rn, rs, ro⟩, off⟩ = termE ⟨rk, rn, rs, ro⟩) := by show litE _ = _; unfold litE; dsimp only; rw [hp, HS.out]; simp [o1, o6, hn, t1]
              rw [HE.out]
              clear HE
              go_enter Try.func56, Try.ntmps56
              have HB := hide (Below.refl (w.alloc (.cells #[.int .i64 3, .string p, .slice ao len cap, .int .i64 aoff, .int .i64 op, .int .i64 lk, .int .i64 ln, .string ls, .int .i64 lo, .int .i64 rk, .int .i64 rn, .string rs, .int .i64 ro, .int .i64 off] 59)).heap.size (w.alloc (.cells #[.int .i64 3, .string p, .slice ao len cap, .int .i64 aoff, .int .i64 op, .int .i64 lk, .int .i64 ln, .string ls, .int .i64 lo, .int .i64 rk, .int .i64 rn, .string rs, .int .i64 ro, .int .i64 off] 59)))
              have HX := hide (fun w' (hb : Below (w.alloc (.cells #[.int .i64 3, .string p, .slice ao len cap, .int .i64 aoff, .int .i64 op, .int .i64 lk, .int .i64 ln, .string ls, .int .i64 lo, .int .i64 rk, .int .i64 rn, .string rs, .int .i64 ro, .int .i64 off] 59)).heap.size (w.alloc (.cells #[.int .i64 3, .string p, .slice ao len cap, .int .i64 aoff, .int .i64 op, .int .i64 lk, .int .i64 ln, .string ls, .int .i64 lo, .int .i64 rk, .int .i64 rn, .string rs, .int .i64 ro, .int .i64 off] 59)) w') => lit_cells w 3 p ao len cap aoff op lk ln ls lo rk rn rs ro off w' hb)
              go_wp2_with (first | (go_at_call 65; refine (HZ.out _ _ _ _ _).mono ?_; rintro e w' ⟨rfl, hz⟩; have HB := hide (belowt HB.out hz); clear hz; obtain ⟨c1, c2, c3, c9, c10, c11, c12⟩ := HX.out _ HB.out) | (go_at_call 42; refine (HA.out _ (below1t HB.out)).mono ?_; rintro e w' ⟨rfl, hz⟩; have HB := hide (belowt HB.out hz); clear hz; obtain ⟨c1, c2, c3, c9, c10, c11, c12⟩ := HX.out _ HB.out) | (go_at_call 54; refine (HT.out _ _ _ _ _ (by first | exact HL.out | exact HR.out)).mono ?_; rintro e w' ⟨rfl, hz⟩; have HB := hide (belowt HB.out hz); clear hz; obtain ⟨c1, c2, c3, c9, c10, c11, c12⟩ := HX.out _ HB.out))
              go_ret
              exact ⟨rfl, below1t HB.out⟩
            · have t1' : (termE ⟨lk, ln, ls, lo⟩ != 0) = true := by simpa using t1
              have HE : Hid (litE ⟨3, ⟨p, ao, len, cap, aoff, ts⟩, op, ⟨lk, ln, ls, lo⟩, ⟨rk, rn, rs, ro⟩, off⟩ = termE ⟨lk, ln, ls, lo⟩) := by show litE _ = _; unfold litE; dsimp only; rw [hp, HS.out]; simp [o1, o6, hn, t1]
              rw [HE.out]
              clear HE t1
              go_enter Try.func56, Try.ntmps56
              have HB := hide (Below.refl (w.alloc (.cells #[.int .i64 3, .string p, .slice ao len cap, .int .i64 aoff, .int .i64 op, .int .i64 lk, .int .i64 ln, .string ls, .int .i64 lo, .int .i64 rk, .int .i64 rn, .string rs, .int .i64 ro, .int .i64 off] 59)).heap.size (w.alloc (.cells #[.int .i64 3, .string p, .slice ao len cap, .int .i64 aoff, .int .i64 op, .int .i64 lk, .int .i64 ln, .string ls, .int .i64 lo, .int .i64 rk, .int .i64 rn, .string rs, .int .i64 ro, .int .i64 off] 59)))
              have HX := hide (fun w' (hb : Below (w.alloc (.cells #[.int .i64 3, .string p, .slice ao len cap, .int .i64 aoff, .int .i64 op, .int .i64 lk, .int .i64 ln, .string ls, .int .i64 lo, .int .i64 rk, .int .i64 rn, .string rs, .int .i64 ro, .int .i64 off] 59)).heap.size (w.alloc (.cells #[.int .i64 3, .string p, .slice ao len cap, .int .i64 aoff, .int .i64 op, .int .i64 lk, .int .i64 ln, .string ls, .int .i64 lo, .int .i64 rk, .int .i64 rn, .string rs, .int .i64 ro, .int .i64 off] 59)) w') => lit_cells w 3 p ao len cap aoff op lk ln ls lo rk rn rs ro off w' hb)
              go_wp2_with (first | (go_at_call 65; refine (HZ.out _ _ _ _ _).mono ?_; rintro e w' ⟨rfl, hz⟩; have HB := hide (belowt HB.out hz); clear hz; obtain ⟨c1, c2, c3, c9, c10, c11, c12⟩ := HX.out _ HB.out) | (go_at_call 42; refine (HA.out _ (below1t HB.out)).mono ?_; rintro e w' ⟨rfl, hz⟩; have HB := hide (belowt HB.out hz); clear hz; obtain ⟨c1, c2, c3, c9, c10, c11, c12⟩ := HX.out _ HB.out) | (go_at_call 54; refine (HT.out _ _ _ _ _ (by first | exact HL.out | exact HR.out)).mono ?_; rintro e w' ⟨rfl, hz⟩; have HB := hide (belowt HB.out hz); clear hz; obtain ⟨c1, c2, c3, c9, c10, c11, c12⟩ := HX.out _ HB.out))
              go_ret
              exact ⟨rfl, below1t HB.out⟩
  have e1 : (k == 1) = false := by simpa using k1
  have e2 : (k == 2) = false := by simpa using k2
  have e3 : (k == 3) = false := by simpa using k3
  have HE : Hid (litE ⟨k, ⟨p, ao, len, cap, aoff, ts⟩, op, ⟨lk, ln, ls, lo⟩, ⟨rk, rn, rs, ro⟩, off⟩ = 2) := by show litE _ = _; unfold litE; simp [k1, k2, k3]
  rw [HE.out]
  clear HE k1 k2 k3
  go_enter Try.func56, Try.ntmps56
  have HB := hide (Below.refl (w.alloc (.cells #[.int .i64 k, .string p, .slice ao len cap, .int .i64 aoff, .int .i64 op, .int .i64 lk, .int .i64 ln, .string ls, .int .i64 lo, .int .i64 rk, .int .i64 rn, .string rs, .int .i64 ro, .int .i64 off] 59)).heap.size (w.alloc (.cells #[.int .i64 k, .string p, .slice ao len cap, .int .i64 aoff, .int .i64 op, .int .i64 lk, .int .i64 ln, .string ls, .int .i64 lo, .int .i64 rk, .int .i64 rn, .string rs, .int .i64 ro, .int .i64 off] 59)))
  have HX := hide (fun w' (hb : Below (w.alloc (.cells #[.int .i64 k, .string p, .slice ao len cap, .int .i64 aoff, .int .i64 op, .int .i64 lk, .int .i64 ln, .string ls, .int .i64 lo, .int .i64 rk, .int .i64 rn, .string rs, .int .i64 ro, .int .i64 off] 59)).heap.size (w.alloc (.cells #[.int .i64 k, .string p, .slice ao len cap, .int .i64 aoff, .int .i64 op, .int .i64 lk, .int .i64 ln, .string ls, .int .i64 lo, .int .i64 rk, .int .i64 rn, .string rs, .int .i64 ro, .int .i64 off] 59)) w') => lit_cells w k p ao len cap aoff op lk ln ls lo rk rn rs ro off w' hb)
  go_wp2_with (first | (go_at_call 65; refine (HZ.out _ _ _ _ _).mono ?_; rintro e w' ⟨rfl, hz⟩; have HB := hide (belowt HB.out hz); clear hz; obtain ⟨c1, c2, c3, c9, c10, c11, c12⟩ := HX.out _ HB.out) | (go_at_call 42; refine (HA.out _ (below1t HB.out)).mono ?_; rintro e w' ⟨rfl, hz⟩; have HB := hide (belowt HB.out hz); clear hz; obtain ⟨c1, c2, c3, c9, c10, c11, c12⟩ := HX.out _ HB.out) | (go_at_call 54; refine (HT.out _ _ _ _ _ (by first | exact HL.out | exact HR.out)).mono ?_; rintro e w' ⟨rfl, hz⟩; have HB := hide (belowt HB.out hz); clear hz; obtain ⟨c1, c2, c3, c9, c10, c11, c12⟩ := HX.out _ HB.out))
  go_ret
  exact ⟨rfl, below1t HB.out⟩

set_option maxHeartbeats 2000000 in
theorem rlit (x : Ltr) (w : World) (h : x.at w) :
    Calls Try.prog 23 #[x.val] w fun e w' => e = .returned (.int .i64 (litE x)) ∧ Below w.heap.size w w' := by
  obtain ⟨k, a, op, ⟨lk, ln, ls, lo⟩, ⟨rk, rn, rs, ro⟩, off⟩ := x
  obtain ⟨-, ha, -, hL, hR, -⟩ := h
  have HA := hide (fun w1 (hb : Below w.heap.size w w1) => ratom a w1 (ha.kept hb))
  have HZ : Hid (∀ k n s o w1, Calls Try.prog 41 #[.agg #[.int .i64 k, .int .i64 n, .string s, .int .i64 o]] w1 fun e w' => e = .returned (.bool (noTerm ⟨k, n, s, o⟩)) ∧ Below w1.heap.size w1 w') := fun k n s o w1 => zero_any ⟨k, n, s, o⟩ w1
  have HT : Hid (∀ k n s o w1, Trm.ok ⟨k, n, s, o⟩ → Calls Try.prog 40 #[.agg #[.int .i64 k, .int .i64 n, .string s, .int .i64 o]] w1 fun e w' => e = .returned (.int .i64 (termE ⟨k, n, s, o⟩)) ∧ Below w1.heap.size w1 w') := fun k n s o w1 hh => rterm ⟨k, n, s, o⟩ w1 hh
  have HL : Hid (Trm.ok ⟨lk, ln, ls, lo⟩) := hL
  have HR : Hid (Trm.ok ⟨rk, rn, rs, ro⟩) := hR
  obtain ⟨p, ao, len, cap, aoff, ts⟩ := a
  have HS : Hid (ts.length = len) := ha.2.2.1
  have hl2 : len ≤ 140737488351232 := by have := ha.2.2.2.1; dsimp only at this; omega
  have hp2 : p.size ≤ 140737488351232 := ha.1
  clear ha hL hR
  unfold Atm.val at HA
  unfold Ltr.val
  dsimp only at HA ⊢

  by_cases k1 : k = 1
  · subst k1
    by_cases h0 : op = 0
    · subst h0
      cases z1 : noTerm ⟨lk, ln, ls, lo⟩
      · have HE : Hid (litE ⟨1, ⟨p, ao, len, cap, aoff, ts⟩, 0, ⟨lk, ln, ls, lo⟩, ⟨rk, rn, rs, ro⟩, off⟩ = 2) := by show litE _ = _; unfold litE; simp [z1]
        rw [HE.out]
        clear HE
        go_enter Try.func23, Try.ntmps23
        have HB := hide (Below.refl (w.alloc (.cells #[.int .i64 1, .string p, .slice ao len cap, .int .i64 aoff, .int .i64 0, .int .i64 lk, .int .i64 ln, .string ls, .int .i64 lo, .int .i64 rk, .int .i64 rn, .string rs, .int .i64 ro, .int .i64 off] 59)).heap.size (w.alloc (.cells #[.int .i64 1, .string p, .slice ao len cap, .int .i64 aoff, .int .i64 0, .int .i64 lk, .int .i64 ln, .string ls, .int .i64 lo, .int .i64 rk, .int .i64 rn, .string rs, .int .i64 ro, .int .i64 off] 59)))
        have HX := hide (fun w' (hb : Below (w.alloc (.cells #[.int .i64 1, .string p, .slice ao len cap, .int .i64 aoff, .int .i64 0, .int .i64 lk, .int .i64 ln, .string ls, .int .i64 lo, .int .i64 rk, .int .i64 rn, .string rs, .int .i64 ro, .int .i64 off] 59)).heap.size (w.alloc (.cells #[.int .i64 1, .string p, .slice ao len cap, .int .i64 aoff, .int .i64 0, .int .i64 lk, .int .i64 ln, .string ls, .int .i64 lo, .int .i64 rk, .int .i64 rn, .string rs, .int .i64 ro, .int .i64 off] 59)) w') => lit_cells w 1 p ao len cap aoff 0 lk ln ls lo rk rn rs ro off w' hb)
        go_wp2_with (first | (go_at_call 41; refine (HZ.out _ _ _ _ _).mono ?_; rintro e w' ⟨rfl, hz⟩; have HB := hide (belowt HB.out hz); clear hz; obtain ⟨c1, c2, c3, c9, c10, c11, c12⟩ := HX.out _ HB.out) | (go_at_call 22; refine (HA.out _ (below1t HB.out)).mono ?_; rintro e w' ⟨rfl, hz⟩; have HB := hide (belowt HB.out hz); clear hz; obtain ⟨c1, c2, c3, c9, c10, c11, c12⟩ := HX.out _ HB.out) | (go_at_call 40; refine (HT.out _ _ _ _ _ (by first | exact HL.out | exact HR.out)).mono ?_; rintro e w' ⟨rfl, hz⟩; have HB := hide (belowt HB.out hz); clear hz; obtain ⟨c1, c2, c3, c9, c10, c11, c12⟩ := HX.out _ HB.out))
        go_ret
        exact ⟨rfl, below1t HB.out⟩
      · cases z2 : noTerm ⟨rk, rn, rs, ro⟩
        · have HE : Hid (litE ⟨1, ⟨p, ao, len, cap, aoff, ts⟩, 0, ⟨lk, ln, ls, lo⟩, ⟨rk, rn, rs, ro⟩, off⟩ = 2) := by show litE _ = _; unfold litE; simp [z1, z2]
          rw [HE.out]
          clear HE
          go_enter Try.func23, Try.ntmps23
          have HB := hide (Below.refl (w.alloc (.cells #[.int .i64 1, .string p, .slice ao len cap, .int .i64 aoff, .int .i64 0, .int .i64 lk, .int .i64 ln, .string ls, .int .i64 lo, .int .i64 rk, .int .i64 rn, .string rs, .int .i64 ro, .int .i64 off] 59)).heap.size (w.alloc (.cells #[.int .i64 1, .string p, .slice ao len cap, .int .i64 aoff, .int .i64 0, .int .i64 lk, .int .i64 ln, .string ls, .int .i64 lo, .int .i64 rk, .int .i64 rn, .string rs, .int .i64 ro, .int .i64 off] 59)))
          have HX := hide (fun w' (hb : Below (w.alloc (.cells #[.int .i64 1, .string p, .slice ao len cap, .int .i64 aoff, .int .i64 0, .int .i64 lk, .int .i64 ln, .string ls, .int .i64 lo, .int .i64 rk, .int .i64 rn, .string rs, .int .i64 ro, .int .i64 off] 59)).heap.size (w.alloc (.cells #[.int .i64 1, .string p, .slice ao len cap, .int .i64 aoff, .int .i64 0, .int .i64 lk, .int .i64 ln, .string ls, .int .i64 lo, .int .i64 rk, .int .i64 rn, .string rs, .int .i64 ro, .int .i64 off] 59)) w') => lit_cells w 1 p ao len cap aoff 0 lk ln ls lo rk rn rs ro off w' hb)
          go_wp2_with (first | (go_at_call 41; refine (HZ.out _ _ _ _ _).mono ?_; rintro e w' ⟨rfl, hz⟩; have HB := hide (belowt HB.out hz); clear hz; obtain ⟨c1, c2, c3, c9, c10, c11, c12⟩ := HX.out _ HB.out) | (go_at_call 22; refine (HA.out _ (below1t HB.out)).mono ?_; rintro e w' ⟨rfl, hz⟩; have HB := hide (belowt HB.out hz); clear hz; obtain ⟨c1, c2, c3, c9, c10, c11, c12⟩ := HX.out _ HB.out) | (go_at_call 40; refine (HT.out _ _ _ _ _ (by first | exact HL.out | exact HR.out)).mono ?_; rintro e w' ⟨rfl, hz⟩; have HB := hide (belowt HB.out hz); clear hz; obtain ⟨c1, c2, c3, c9, c10, c11, c12⟩ := HX.out _ HB.out))
          go_ret
          exact ⟨rfl, below1t HB.out⟩
        · have HE : Hid (litE ⟨1, ⟨p, ao, len, cap, aoff, ts⟩, 0, ⟨lk, ln, ls, lo⟩, ⟨rk, rn, rs, ro⟩, off⟩ = atomE p ts) := by show litE _ = _; unfold litE; simp [z1, z2]
          rw [HE.out]
          clear HE
          go_enter Try.func23, Try.ntmps23
          have HB := hide (Below.refl (w.alloc (.cells #[.int .i64 1, .string p, .slice ao len cap, .int .i64 aoff, .int .i64 0, .int .i64 lk, .int .i64 ln, .string ls, .int .i64 lo, .int .i64 rk, .int .i64 rn, .string rs, .int .i64 ro, .int .i64 off] 59)).heap.size (w.alloc (.cells #[.int .i64 1, .string p, .slice ao len cap, .int .i64 aoff, .int .i64 0, .int .i64 lk, .int .i64 ln, .string ls, .int .i64 lo, .int .i64 rk, .int .i64 rn, .string rs, .int .i64 ro, .int .i64 off] 59)))
          have HX := hide (fun w' (hb : Below (w.alloc (.cells #[.int .i64 1, .string p, .slice ao len cap, .int .i64 aoff, .int .i64 0, .int .i64 lk, .int .i64 ln, .string ls, .int .i64 lo, .int .i64 rk, .int .i64 rn, .string rs, .int .i64 ro, .int .i64 off] 59)).heap.size (w.alloc (.cells #[.int .i64 1, .string p, .slice ao len cap, .int .i64 aoff, .int .i64 0, .int .i64 lk, .int .i64 ln, .string ls, .int .i64 lo, .int .i64 rk, .int .i64 rn, .string rs, .int .i64 ro, .int .i64 off] 59)) w') => lit_cells w 1 p ao len cap aoff 0 lk ln ls lo rk rn rs ro off w' hb)
          go_wp2_with (first | (go_at_call 41; refine (HZ.out _ _ _ _ _).mono ?_; rintro e w' ⟨rfl, hz⟩; have HB := hide (belowt HB.out hz); clear hz; obtain ⟨c1, c2, c3, c9, c10, c11, c12⟩ := HX.out _ HB.out) | (go_at_call 22; refine (HA.out _ (below1t HB.out)).mono ?_; rintro e w' ⟨rfl, hz⟩; have HB := hide (belowt HB.out hz); clear hz; obtain ⟨c1, c2, c3, c9, c10, c11, c12⟩ := HX.out _ HB.out) | (go_at_call 40; refine (HT.out _ _ _ _ _ (by first | exact HL.out | exact HR.out)).mono ?_; rintro e w' ⟨rfl, hz⟩; have HB := hide (belowt HB.out hz); clear hz; obtain ⟨c1, c2, c3, c9, c10, c11, c12⟩ := HX.out _ HB.out))
          go_ret
          exact ⟨rfl, below1t HB.out⟩
    · have h0' : (op != 0) = true := by simpa using h0
      have HE : Hid (litE ⟨1, ⟨p, ao, len, cap, aoff, ts⟩, op, ⟨lk, ln, ls, lo⟩, ⟨rk, rn, rs, ro⟩, off⟩ = 2) := by show litE _ = _; unfold litE; simp [h0]
      rw [HE.out]
      clear HE h0
      go_enter Try.func23, Try.ntmps23
      have HB := hide (Below.refl (w.alloc (.cells #[.int .i64 1, .string p, .slice ao len cap, .int .i64 aoff, .int .i64 op, .int .i64 lk, .int .i64 ln, .string ls, .int .i64 lo, .int .i64 rk, .int .i64 rn, .string rs, .int .i64 ro, .int .i64 off] 59)).heap.size (w.alloc (.cells #[.int .i64 1, .string p, .slice ao len cap, .int .i64 aoff, .int .i64 op, .int .i64 lk, .int .i64 ln, .string ls, .int .i64 lo, .int .i64 rk, .int .i64 rn, .string rs, .int .i64 ro, .int .i64 off] 59)))
      have HX := hide (fun w' (hb : Below (w.alloc (.cells #[.int .i64 1, .string p, .slice ao len cap, .int .i64 aoff, .int .i64 op, .int .i64 lk, .int .i64 ln, .string ls, .int .i64 lo, .int .i64 rk, .int .i64 rn, .string rs, .int .i64 ro, .int .i64 off] 59)).heap.size (w.alloc (.cells #[.int .i64 1, .string p, .slice ao len cap, .int .i64 aoff, .int .i64 op, .int .i64 lk, .int .i64 ln, .string ls, .int .i64 lo, .int .i64 rk, .int .i64 rn, .string rs, .int .i64 ro, .int .i64 off] 59)) w') => lit_cells w 1 p ao len cap aoff op lk ln ls lo rk rn rs ro off w' hb)
      go_wp2_with (first | (go_at_call 41; refine (HZ.out _ _ _ _ _).mono ?_; rintro e w' ⟨rfl, hz⟩; have HB := hide (belowt HB.out hz); clear hz; obtain ⟨c1, c2, c3, c9, c10, c11, c12⟩ := HX.out _ HB.out) | (go_at_call 22; refine (HA.out _ (below1t HB.out)).mono ?_; rintro e w' ⟨rfl, hz⟩; have HB := hide (belowt HB.out hz); clear hz; obtain ⟨c1, c2, c3, c9, c10, c11, c12⟩ := HX.out _ HB.out) | (go_at_call 40; refine (HT.out _ _ _ _ _ (by first | exact HL.out | exact HR.out)).mono ?_; rintro e w' ⟨rfl, hz⟩; have HB := hide (belowt HB.out hz); clear hz; obtain ⟨c1, c2, c3, c9, c10, c11, c12⟩ := HX.out _ HB.out))
      go_ret
      exact ⟨rfl, below1t HB.out⟩

  by_cases k2 : k = 2
  · subst k2
    by_cases h0 : op = 0
    · subst h0
      cases z1 : noTerm ⟨lk, ln, ls, lo⟩
      · have HE : Hid (litE ⟨2, ⟨p, ao, len, cap, aoff, ts⟩, 0, ⟨lk, ln, ls, lo⟩, ⟨rk, rn, rs, ro⟩, off⟩ = 2) := by show litE _ = _; unfold litE; simp [z1]
        rw [HE.out]
        clear HE
        go_enter Try.func23, Try.ntmps23
        have HB := hide (Below.refl (w.alloc (.cells #[.int .i64 2, .string p, .slice ao len cap, .int .i64 aoff, .int .i64 0, .int .i64 lk, .int .i64 ln, .string ls, .int .i64 lo, .int .i64 rk, .int .i64 rn, .string rs, .int .i64 ro, .int .i64 off] 59)).heap.size (w.alloc (.cells #[.int .i64 2, .string p, .slice ao len cap, .int .i64 aoff, .int .i64 0, .int .i64 lk, .int .i64 ln, .string ls, .int .i64 lo, .int .i64 rk, .int .i64 rn, .string rs, .int .i64 ro, .int .i64 off] 59)))
        have HX := hide (fun w' (hb : Below (w.alloc (.cells #[.int .i64 2, .string p, .slice ao len cap, .int .i64 aoff, .int .i64 0, .int .i64 lk, .int .i64 ln, .string ls, .int .i64 lo, .int .i64 rk, .int .i64 rn, .string rs, .int .i64 ro, .int .i64 off] 59)).heap.size (w.alloc (.cells #[.int .i64 2, .string p, .slice ao len cap, .int .i64 aoff, .int .i64 0, .int .i64 lk, .int .i64 ln, .string ls, .int .i64 lo, .int .i64 rk, .int .i64 rn, .string rs, .int .i64 ro, .int .i64 off] 59)) w') => lit_cells w 2 p ao len cap aoff 0 lk ln ls lo rk rn rs ro off w' hb)
        go_wp2_with (first | (go_at_call 41; refine (HZ.out _ _ _ _ _).mono ?_; rintro e w' ⟨rfl, hz⟩; have HB := hide (belowt HB.out hz); clear hz; obtain ⟨c1, c2, c3, c9, c10, c11, c12⟩ := HX.out _ HB.out) | (go_at_call 22; refine (HA.out _ (below1t HB.out)).mono ?_; rintro e w' ⟨rfl, hz⟩; have HB := hide (belowt HB.out hz); clear hz; obtain ⟨c1, c2, c3, c9, c10, c11, c12⟩ := HX.out _ HB.out) | (go_at_call 40; refine (HT.out _ _ _ _ _ (by first | exact HL.out | exact HR.out)).mono ?_; rintro e w' ⟨rfl, hz⟩; have HB := hide (belowt HB.out hz); clear hz; obtain ⟨c1, c2, c3, c9, c10, c11, c12⟩ := HX.out _ HB.out))
        go_ret
        exact ⟨rfl, below1t HB.out⟩
      · cases z2 : noTerm ⟨rk, rn, rs, ro⟩
        · have HE : Hid (litE ⟨2, ⟨p, ao, len, cap, aoff, ts⟩, 0, ⟨lk, ln, ls, lo⟩, ⟨rk, rn, rs, ro⟩, off⟩ = 2) := by show litE _ = _; unfold litE; simp [z1, z2]
          rw [HE.out]
          clear HE
          go_enter Try.func23, Try.ntmps23
          have HB := hide (Below.refl (w.alloc (.cells #[.int .i64 2, .string p, .slice ao len cap, .int .i64 aoff, .int .i64 0, .int .i64 lk, .int .i64 ln, .string ls, .int .i64 lo, .int .i64 rk, .int .i64 rn, .string rs, .int .i64 ro, .int .i64 off] 59)).heap.size (w.alloc (.cells #[.int .i64 2, .string p, .slice ao len cap, .int .i64 aoff, .int .i64 0, .int .i64 lk, .int .i64 ln, .string ls, .int .i64 lo, .int .i64 rk, .int .i64 rn, .string rs, .int .i64 ro, .int .i64 off] 59)))
          have HX := hide (fun w' (hb : Below (w.alloc (.cells #[.int .i64 2, .string p, .slice ao len cap, .int .i64 aoff, .int .i64 0, .int .i64 lk, .int .i64 ln, .string ls, .int .i64 lo, .int .i64 rk, .int .i64 rn, .string rs, .int .i64 ro, .int .i64 off] 59)).heap.size (w.alloc (.cells #[.int .i64 2, .string p, .slice ao len cap, .int .i64 aoff, .int .i64 0, .int .i64 lk, .int .i64 ln, .string ls, .int .i64 lo, .int .i64 rk, .int .i64 rn, .string rs, .int .i64 ro, .int .i64 off] 59)) w') => lit_cells w 2 p ao len cap aoff 0 lk ln ls lo rk rn rs ro off w' hb)
          go_wp2_with (first | (go_at_call 41; refine (HZ.out _ _ _ _ _).mono ?_; rintro e w' ⟨rfl, hz⟩; have HB := hide (belowt HB.out hz); clear hz; obtain ⟨c1, c2, c3, c9, c10, c11, c12⟩ := HX.out _ HB.out) | (go_at_call 22; refine (HA.out _ (below1t HB.out)).mono ?_; rintro e w' ⟨rfl, hz⟩; have HB := hide (belowt HB.out hz); clear hz; obtain ⟨c1, c2, c3, c9, c10, c11, c12⟩ := HX.out _ HB.out) | (go_at_call 40; refine (HT.out _ _ _ _ _ (by first | exact HL.out | exact HR.out)).mono ?_; rintro e w' ⟨rfl, hz⟩; have HB := hide (belowt HB.out hz); clear hz; obtain ⟨c1, c2, c3, c9, c10, c11, c12⟩ := HX.out _ HB.out))
          go_ret
          exact ⟨rfl, below1t HB.out⟩
        · have HE : Hid (litE ⟨2, ⟨p, ao, len, cap, aoff, ts⟩, 0, ⟨lk, ln, ls, lo⟩, ⟨rk, rn, rs, ro⟩, off⟩ = atomE p ts) := by show litE _ = _; unfold litE; simp [z1, z2]
          rw [HE.out]
          clear HE
          go_enter Try.func23, Try.ntmps23
          have HB := hide (Below.refl (w.alloc (.cells #[.int .i64 2, .string p, .slice ao len cap, .int .i64 aoff, .int .i64 0, .int .i64 lk, .int .i64 ln, .string ls, .int .i64 lo, .int .i64 rk, .int .i64 rn, .string rs, .int .i64 ro, .int .i64 off] 59)).heap.size (w.alloc (.cells #[.int .i64 2, .string p, .slice ao len cap, .int .i64 aoff, .int .i64 0, .int .i64 lk, .int .i64 ln, .string ls, .int .i64 lo, .int .i64 rk, .int .i64 rn, .string rs, .int .i64 ro, .int .i64 off] 59)))
          have HX := hide (fun w' (hb : Below (w.alloc (.cells #[.int .i64 2, .string p, .slice ao len cap, .int .i64 aoff, .int .i64 0, .int .i64 lk, .int .i64 ln, .string ls, .int .i64 lo, .int .i64 rk, .int .i64 rn, .string rs, .int .i64 ro, .int .i64 off] 59)).heap.size (w.alloc (.cells #[.int .i64 2, .string p, .slice ao len cap, .int .i64 aoff, .int .i64 0, .int .i64 lk, .int .i64 ln, .string ls, .int .i64 lo, .int .i64 rk, .int .i64 rn, .string rs, .int .i64 ro, .int .i64 off] 59)) w') => lit_cells w 2 p ao len cap aoff 0 lk ln ls lo rk rn rs ro off w' hb)
          go_wp2_with (first | (go_at_call 41; refine (HZ.out _ _ _ _ _).mono ?_; rintro e w' ⟨rfl, hz⟩; have HB := hide (belowt HB.out hz); clear hz; obtain ⟨c1, c2, c3, c9, c10, c11, c12⟩ := HX.out _ HB.out) | (go_at_call 22; refine (HA.out _ (below1t HB.out)).mono ?_; rintro e w' ⟨rfl, hz⟩; have HB := hide (belowt HB.out hz); clear hz; obtain ⟨c1, c2, c3, c9, c10, c11, c12⟩ := HX.out _ HB.out) | (go_at_call 40; refine (HT.out _ _ _ _ _ (by first | exact HL.out | exact HR.out)).mono ?_; rintro e w' ⟨rfl, hz⟩; have HB := hide (belowt HB.out hz); clear hz; obtain ⟨c1, c2, c3, c9, c10, c11, c12⟩ := HX.out _ HB.out))
          go_ret
          exact ⟨rfl, below1t HB.out⟩
    · have h0' : (op != 0) = true := by simpa using h0
      have HE : Hid (litE ⟨2, ⟨p, ao, len, cap, aoff, ts⟩, op, ⟨lk, ln, ls, lo⟩, ⟨rk, rn, rs, ro⟩, off⟩ = 2) := by show litE _ = _; unfold litE; simp [h0]
      rw [HE.out]
      clear HE h0
      go_enter Try.func23, Try.ntmps23
      have HB := hide (Below.refl (w.alloc (.cells #[.int .i64 2, .string p, .slice ao len cap, .int .i64 aoff, .int .i64 op, .int .i64 lk, .int .i64 ln, .string ls, .int .i64 lo, .int .i64 rk, .int .i64 rn, .string rs, .int .i64 ro, .int .i64 off] 59)).heap.size (w.alloc (.cells #[.int .i64 2, .string p, .slice ao len cap, .int .i64 aoff, .int .i64 op, .int .i64 lk, .int .i64 ln, .string ls, .int .i64 lo, .int .i64 rk, .int .i64 rn, .string rs, .int .i64 ro, .int .i64 off] 59)))
      have HX := hide (fun w' (hb : Below (w.alloc (.cells #[.int .i64 2, .string p, .slice ao len cap, .int .i64 aoff, .int .i64 op, .int .i64 lk, .int .i64 ln, .string ls, .int .i64 lo, .int .i64 rk, .int .i64 rn, .string rs, .int .i64 ro, .int .i64 off] 59)).heap.size (w.alloc (.cells #[.int .i64 2, .string p, .slice ao len cap, .int .i64 aoff, .int .i64 op, .int .i64 lk, .int .i64 ln, .string ls, .int .i64 lo, .int .i64 rk, .int .i64 rn, .string rs, .int .i64 ro, .int .i64 off] 59)) w') => lit_cells w 2 p ao len cap aoff op lk ln ls lo rk rn rs ro off w' hb)
      go_wp2_with (first | (go_at_call 41; refine (HZ.out _ _ _ _ _).mono ?_; rintro e w' ⟨rfl, hz⟩; have HB := hide (belowt HB.out hz); clear hz; obtain ⟨c1, c2, c3, c9, c10, c11, c12⟩ := HX.out _ HB.out) | (go_at_call 22; refine (HA.out _ (below1t HB.out)).mono ?_; rintro e w' ⟨rfl, hz⟩; have HB := hide (belowt HB.out hz); clear hz; obtain ⟨c1, c2, c3, c9, c10, c11, c12⟩ := HX.out _ HB.out) | (go_at_call 40; refine (HT.out _ _ _ _ _ (by first | exact HL.out | exact HR.out)).mono ?_; rintro e w' ⟨rfl, hz⟩; have HB := hide (belowt HB.out hz); clear hz; obtain ⟨c1, c2, c3, c9, c10, c11, c12⟩ := HX.out _ HB.out))
      go_ret
      exact ⟨rfl, below1t HB.out⟩

  by_cases k3 : k = 3
  · subst k3
    by_cases o1 : op < 1
    · have HE : Hid (litE ⟨3, ⟨p, ao, len, cap, aoff, ts⟩, op, ⟨lk, ln, ls, lo⟩, ⟨rk, rn, rs, ro⟩, off⟩ = 2) := by show litE _ = _; unfold litE; simp [o1]
      rw [HE.out]
      clear HE
      go_enter Try.func23, Try.ntmps23
      have HB := hide (Below.refl (w.alloc (.cells #[.int .i64 3, .string p, .slice ao len cap, .int .i64 aoff, .int .i64 op, .int .i64 lk, .int .i64 ln, .string ls, .int .i64 lo, .int .i64 rk, .int .i64 rn, .string rs, .int .i64 ro, .int .i64 off] 59)).heap.size (w.alloc (.cells #[.int .i64 3, .string p, .slice ao len cap, .int .i64 aoff, .int .i64 op, .int .i64 lk, .int .i64 ln, .string ls, .int .i64 lo, .int .i64 rk, .int .i64 rn, .string rs, .int .i64 ro, .int .i64 off] 59)))
      have HX := hide (fun w' (hb : Below (w.alloc (.cells #[.int .i64 3, .string p, .slice ao len cap, .int .i64 aoff, .int .i64 op, .int .i64 lk, .int .i64 ln, .string ls, .int .i64 lo, .int .i64 rk, .int .i64 rn, .string rs, .int .i64 ro, .int .i64 off] 59)).heap.size (w.alloc (.cells #[.int .i64 3, .string p, .slice ao len cap, .int .i64 aoff, .int .i64 op, .int .i64 lk, .int .i64 ln, .string ls, .int .i64 lo, .int .i64 rk, .int .i64 rn, .string rs, .int .i64 ro, .int .i64 off] 59)) w') => lit_cells w 3 p ao len cap aoff op lk ln ls lo rk rn rs ro off w' hb)
      go_wp2_with (first | (go_at_call 41; refine (HZ.out _ _ _ _ _).mono ?_; rintro e w' ⟨rfl, hz⟩; have HB := hide (belowt HB.out hz); clear hz; obtain ⟨c1, c2, c3, c9, c10, c11, c12⟩ := HX.out _ HB.out) | (go_at_call 22; refine (HA.out _ (below1t HB.out)).mono ?_; rintro e w' ⟨rfl, hz⟩; have HB := hide (belowt HB.out hz); clear hz; obtain ⟨c1, c2, c3, c9, c10, c11, c12⟩ := HX.out _ HB.out) | (go_at_call 40; refine (HT.out _ _ _ _ _ (by first | exact HL.out | exact HR.out)).mono ?_; rintro e w' ⟨rfl, hz⟩; have HB := hide (belowt HB.out hz); clear hz; obtain ⟨c1, c2, c3, c9, c10, c11, c12⟩ := HX.out _ HB.out))
      go_ret
      exact ⟨rfl, below1t HB.out⟩
    · by_cases o6 : 6 < op
      · have HE : Hid (litE ⟨3, ⟨p, ao, len, cap, aoff, ts⟩, op, ⟨lk, ln, ls, lo⟩, ⟨rk, rn, rs, ro⟩, off⟩ = 2) := by show litE _ = _; unfold litE; simp [o1, o6]
        rw [HE.out]
        clear HE
        go_enter Try.func23, Try.ntmps23
        have HB := hide (Below.refl (w.alloc (.cells #[.int .i64 3, .string p, .slice ao len cap, .int .i64 aoff, .int .i64 op, .int .i64 lk, .int .i64 ln, .string ls, .int .i64 lo, .int .i64 rk, .int .i64 rn, .string rs, .int .i64 ro, .int .i64 off] 59)).heap.size (w.alloc (.cells #[.int .i64 3, .string p, .slice ao len cap, .int .i64 aoff, .int .i64 op, .int .i64 lk, .int .i64 ln, .string ls, .int .i64 lo, .int .i64 rk, .int .i64 rn, .string rs, .int .i64 ro, .int .i64 off] 59)))
        have HX := hide (fun w' (hb : Below (w.alloc (.cells #[.int .i64 3, .string p, .slice ao len cap, .int .i64 aoff, .int .i64 op, .int .i64 lk, .int .i64 ln, .string ls, .int .i64 lo, .int .i64 rk, .int .i64 rn, .string rs, .int .i64 ro, .int .i64 off] 59)).heap.size (w.alloc (.cells #[.int .i64 3, .string p, .slice ao len cap, .int .i64 aoff, .int .i64 op, .int .i64 lk, .int .i64 ln, .string ls, .int .i64 lo, .int .i64 rk, .int .i64 rn, .string rs, .int .i64 ro, .int .i64 off] 59)) w') => lit_cells w 3 p ao len cap aoff op lk ln ls lo rk rn rs ro off w' hb)
        go_wp2_with (first | (go_at_call 41; refine (HZ.out _ _ _ _ _).mono ?_; rintro e w' ⟨rfl, hz⟩; have HB := hide (belowt HB.out hz); clear hz; obtain ⟨c1, c2, c3, c9, c10, c11, c12⟩ := HX.out _ HB.out) | (go_at_call 22; refine (HA.out _ (below1t HB.out)).mono ?_; rintro e w' ⟨rfl, hz⟩; have HB := hide (belowt HB.out hz); clear hz; obtain ⟨c1, c2, c3, c9, c10, c11, c12⟩ := HX.out _ HB.out) | (go_at_call 40; refine (HT.out _ _ _ _ _ (by first | exact HL.out | exact HR.out)).mono ?_; rintro e w' ⟨rfl, hz⟩; have HB := hide (belowt HB.out hz); clear hz; obtain ⟨c1, c2, c3, c9, c10, c11, c12⟩ := HX.out _ HB.out))
        go_ret
        exact ⟨rfl, below1t HB.out⟩
      · cases hp : (p.toList == [])
        · have HE : Hid (litE ⟨3, ⟨p, ao, len, cap, aoff, ts⟩, op, ⟨lk, ln, ls, lo⟩, ⟨rk, rn, rs, ro⟩, off⟩ = 2) := by show litE _ = _; unfold litE; dsimp only; rw [hp]; simp [o1, o6]
          rw [HE.out]
          clear HE
          go_enter Try.func23, Try.ntmps23
          have HB := hide (Below.refl (w.alloc (.cells #[.int .i64 3, .string p, .slice ao len cap, .int .i64 aoff, .int .i64 op, .int .i64 lk, .int .i64 ln, .string ls, .int .i64 lo, .int .i64 rk, .int .i64 rn, .string rs, .int .i64 ro, .int .i64 off] 59)).heap.size (w.alloc (.cells #[.int .i64 3, .string p, .slice ao len cap, .int .i64 aoff, .int .i64 op, .int .i64 lk, .int .i64 ln, .string ls, .int .i64 lo, .int .i64 rk, .int .i64 rn, .string rs, .int .i64 ro, .int .i64 off] 59)))
          have HX := hide (fun w' (hb : Below (w.alloc (.cells #[.int .i64 3, .string p, .slice ao len cap, .int .i64 aoff, .int .i64 op, .int .i64 lk, .int .i64 ln, .string ls, .int .i64 lo, .int .i64 rk, .int .i64 rn, .string rs, .int .i64 ro, .int .i64 off] 59)).heap.size (w.alloc (.cells #[.int .i64 3, .string p, .slice ao len cap, .int .i64 aoff, .int .i64 op, .int .i64 lk, .int .i64 ln, .string ls, .int .i64 lo, .int .i64 rk, .int .i64 rn, .string rs, .int .i64 ro, .int .i64 off] 59)) w') => lit_cells w 3 p ao len cap aoff op lk ln ls lo rk rn rs ro off w' hb)
          go_wp2_with (first | (go_at_call 41; refine (HZ.out _ _ _ _ _).mono ?_; rintro e w' ⟨rfl, hz⟩; have HB := hide (belowt HB.out hz); clear hz; obtain ⟨c1, c2, c3, c9, c10, c11, c12⟩ := HX.out _ HB.out) | (go_at_call 22; refine (HA.out _ (below1t HB.out)).mono ?_; rintro e w' ⟨rfl, hz⟩; have HB := hide (belowt HB.out hz); clear hz; obtain ⟨c1, c2, c3, c9, c10, c11, c12⟩ := HX.out _ HB.out) | (go_at_call 40; refine (HT.out _ _ _ _ _ (by first | exact HL.out | exact HR.out)).mono ?_; rintro e w' ⟨rfl, hz⟩; have HB := hide (belowt HB.out hz); clear hz; obtain ⟨c1, c2, c3, c9, c10, c11, c12⟩ := HX.out _ HB.out))
          go_ret
          exact ⟨rfl, below1t HB.out⟩
        · by_cases hn : 0 < len
          · have HE : Hid (litE ⟨3, ⟨p, ao, len, cap, aoff, ts⟩, op, ⟨lk, ln, ls, lo⟩, ⟨rk, rn, rs, ro⟩, off⟩ = 2) := by show litE _ = _; unfold litE; dsimp only; rw [hp, HS.out]; simp [o1, o6, hn]
            rw [HE.out]
            clear HE
            have hn' : (0 : Int) < (len : Int) := by omega
            go_enter Try.func23, Try.ntmps23
            have HB := hide (Below.refl (w.alloc (.cells #[.int .i64 3, .string p, .slice ao len cap, .int .i64 aoff, .int .i64 op, .int .i64 lk, .int .i64 ln, .string ls, .int .i64 lo, .int .i64 rk, .int .i64 rn, .string rs, .int .i64 ro, .int .i64 off] 59)).heap.size (w.alloc (.cells #[.int .i64 3, .string p, .slice ao len cap, .int .i64 aoff, .int .i64 op, .int .i64 lk, .int .i64 ln, .string ls, .int .i64 lo, .int .i64 rk, .int .i64 rn, .string rs, .int .i64 ro, .int .i64 off] 59)))
            have HX := hide (fun w' (hb : Below (w.alloc (.cells #[.int .i64 3, .string p, .slice ao len cap, .int .i64 aoff, .int .i64 op, .int .i64 lk, .int .i64 ln, .string ls, .int .i64 lo, .int .i64 rk, .int .i64 rn, .string rs, .int .i64 ro, .int .i64 off] 59)).heap.size (w.alloc (.cells #[.int .i64 3, .string p, .slice ao len cap, .int .i64 aoff, .int .i64 op, .int .i64 lk, .int .i64 ln, .string ls, .int .i64 lo, .int .i64 rk, .int .i64 rn, .string rs, .int .i64 ro, .int .i64 off] 59)) w') => lit_cells w 3 p ao len cap aoff op lk ln ls lo rk rn rs ro off w' hb)
            go_wp2_with (first | (go_at_call 41; refine (HZ.out _ _ _ _ _).mono ?_; rintro e w' ⟨rfl, hz⟩; have HB := hide (belowt HB.out hz); clear hz; obtain ⟨c1, c2, c3, c9, c10, c11, c12⟩ := HX.out _ HB.out) | (go_at_call 22; refine (HA.out _ (below1t HB.out)).mono ?_; rintro e w' ⟨rfl, hz⟩; have HB := hide (belowt HB.out hz); clear hz; obtain ⟨c1, c2, c3, c9, c10, c11, c12⟩ := HX.out _ HB.out) | (go_at_call 40; refine (HT.out _ _ _ _ _ (by first | exact HL.out | exact HR.out)).mono ?_; rintro e w' ⟨rfl, hz⟩; have HB := hide (belowt HB.out hz); clear hz; obtain ⟨c1, c2, c3, c9, c10, c11, c12⟩ := HX.out _ HB.out))
            go_ret
            exact ⟨rfl, below1t HB.out⟩
          · have hn' : ¬ (0 : Int) < (len : Int) := by omega
            by_cases t1 : termE ⟨lk, ln, ls, lo⟩ = 0
            · have HE : Hid (litE ⟨3, ⟨p, ao, len, cap, aoff, ts⟩, op, ⟨lk, ln, ls, lo⟩, ⟨rk, rn, rs, ro⟩, off⟩ = termE ⟨rk, rn, rs, ro⟩) := by show litE _ = _; unfold litE; dsimp only; rw [hp, HS.out]; simp [o1, o6, hn, t1]
              rw [HE.out]
              clear HE
              go_enter Try.func23, Try.ntmps23
              have HB := hide (Below.refl (w.alloc (.cells #[.int .i64 3, .string p, .slice ao len cap, .int .i64 aoff, .int .i64 op, .int .i64 lk, .int .i64 ln, .string ls, .int .i64 lo, .int .i64 rk, .int .i64 rn, .string rs, .int .i64 ro, .int .i64 off] 59)).heap.size (w.alloc (.cells #[.int .i64 3, .string p, .slice ao len cap, .int .i64 aoff, .int .i64 op, .int .i64 lk, .int .i64 ln, .string ls, .int .i64 lo, .int .i64 rk, .int .i64 rn, .string rs, .int .i64 ro, .int .i64 off] 59)))
              have HX := hide (fun w' (hb : Below (w.alloc (.cells #[.int .i64 3, .string p, .slice ao len cap, .int .i64 aoff, .int .i64 op, .int .i64 lk, .int .i64 ln, .string ls, .int .i64 lo, .int .i64 rk, .int .i64 rn, .string rs, .int .i64 ro, .int .i64 off] 59)).heap.size (w.alloc (.cells #[.int .i64 3, .string p, .slice ao len cap, .int .i64 aoff, .int .i64 op, .int .i64 lk, .int .i64 ln, .string ls, .int .i64 lo, .int .i64 rk, .int .i64 rn, .string rs, .int .i64 ro, .int .i64 off] 59)) w') => lit_cells w 3 p ao len cap aoff op lk ln ls lo rk rn rs ro off w' hb)
              go_wp2_with (first | (go_at_call 41; refine (HZ.out _ _ _ _ _).mono ?_; rintro e w' ⟨rfl, hz⟩; have HB := hide (belowt HB.out hz); clear hz; obtain ⟨c1, c2, c3, c9, c10, c11, c12⟩ := HX.out _ HB.out) | (go_at_call 22; refine (HA.out _ (below1t HB.out)).mono ?_; rintro e w' ⟨rfl, hz⟩; have HB := hide (belowt HB.out hz); clear hz; obtain ⟨c1, c2, c3, c9, c10, c11, c12⟩ := HX.out _ HB.out) | (go_at_call 40; refine (HT.out _ _ _ _ _ (by first | exact HL.out | exact HR.out)).mono ?_; rintro e w' ⟨rfl, hz⟩; have HB := hide (belowt HB.out hz); clear hz; obtain ⟨c1, c2, c3, c9, c10, c11, c12⟩ := HX.out _ HB.out))
              go_ret
              exact ⟨rfl, below1t HB.out⟩
            · have t1' : (termE ⟨lk, ln, ls, lo⟩ != 0) = true := by simpa using t1
              have HE : Hid (litE ⟨3, ⟨p, ao, len, cap, aoff, ts⟩, op, ⟨lk, ln, ls, lo⟩, ⟨rk, rn, rs, ro⟩, off⟩ = termE ⟨lk, ln, ls, lo⟩) := by show litE _ = _; unfold litE; dsimp only; rw [hp, HS.out]; simp [o1, o6, hn, t1]
              rw [HE.out]
              clear HE t1
              go_enter Try.func23, Try.ntmps23
              have HB := hide (Below.refl (w.alloc (.cells #[.int .i64 3, .string p, .slice ao len cap, .int .i64 aoff, .int .i64 op, .int .i64 lk, .int .i64 ln, .string ls, .int .i64 lo, .int .i64 rk, .int .i64 rn, .string rs, .int .i64 ro, .int .i64 off] 59)).heap.size (w.alloc (.cells #[.int .i64 3, .string p, .slice ao len cap, .int .i64 aoff, .int .i64 op, .int .i64 lk, .int .i64 ln, .string ls, .int .i64 lo, .int .i64 rk, .int .i64 rn, .string rs, .int .i64 ro, .int .i64 off] 59)))
              have HX := hide (fun w' (hb : Below (w.alloc (.cells #[.int .i64 3, .string p, .slice ao len cap, .int .i64 aoff, .int .i64 op, .int .i64 lk, .int .i64 ln, .string ls, .int .i64 lo, .int .i64 rk, .int .i64 rn, .string rs, .int .i64 ro, .int .i64 off] 59)).heap.size (w.alloc (.cells #[.int .i64 3, .string p, .slice ao len cap, .int .i64 aoff, .int .i64 op, .int .i64 lk, .int .i64 ln, .string ls, .int .i64 lo, .int .i64 rk, .int .i64 rn, .string rs, .int .i64 ro, .int .i64 off] 59)) w') => lit_cells w 3 p ao len cap aoff op lk ln ls lo rk rn rs ro off w' hb)
              go_wp2_with (first | (go_at_call 41; refine (HZ.out _ _ _ _ _).mono ?_; rintro e w' ⟨rfl, hz⟩; have HB := hide (belowt HB.out hz); clear hz; obtain ⟨c1, c2, c3, c9, c10, c11, c12⟩ := HX.out _ HB.out) | (go_at_call 22; refine (HA.out _ (below1t HB.out)).mono ?_; rintro e w' ⟨rfl, hz⟩; have HB := hide (belowt HB.out hz); clear hz; obtain ⟨c1, c2, c3, c9, c10, c11, c12⟩ := HX.out _ HB.out) | (go_at_call 40; refine (HT.out _ _ _ _ _ (by first | exact HL.out | exact HR.out)).mono ?_; rintro e w' ⟨rfl, hz⟩; have HB := hide (belowt HB.out hz); clear hz; obtain ⟨c1, c2, c3, c9, c10, c11, c12⟩ := HX.out _ HB.out))
              go_ret
              exact ⟨rfl, below1t HB.out⟩
  have e1 : (k == 1) = false := by simpa using k1
  have e2 : (k == 2) = false := by simpa using k2
  have e3 : (k == 3) = false := by simpa using k3
  have HE : Hid (litE ⟨k, ⟨p, ao, len, cap, aoff, ts⟩, op, ⟨lk, ln, ls, lo⟩, ⟨rk, rn, rs, ro⟩, off⟩ = 2) := by show litE _ = _; unfold litE; simp [k1, k2, k3]
  rw [HE.out]
  clear HE k1 k2 k3
  go_enter Try.func23, Try.ntmps23
  have HB := hide (Below.refl (w.alloc (.cells #[.int .i64 k, .string p, .slice ao len cap, .int .i64 aoff, .int .i64 op, .int .i64 lk, .int .i64 ln, .string ls, .int .i64 lo, .int .i64 rk, .int .i64 rn, .string rs, .int .i64 ro, .int .i64 off] 59)).heap.size (w.alloc (.cells #[.int .i64 k, .string p, .slice ao len cap, .int .i64 aoff, .int .i64 op, .int .i64 lk, .int .i64 ln, .string ls, .int .i64 lo, .int .i64 rk, .int .i64 rn, .string rs, .int .i64 ro, .int .i64 off] 59)))
  have HX := hide (fun w' (hb : Below (w.alloc (.cells #[.int .i64 k, .string p, .slice ao len cap, .int .i64 aoff, .int .i64 op, .int .i64 lk, .int .i64 ln, .string ls, .int .i64 lo, .int .i64 rk, .int .i64 rn, .string rs, .int .i64 ro, .int .i64 off] 59)).heap.size (w.alloc (.cells #[.int .i64 k, .string p, .slice ao len cap, .int .i64 aoff, .int .i64 op, .int .i64 lk, .int .i64 ln, .string ls, .int .i64 lo, .int .i64 rk, .int .i64 rn, .string rs, .int .i64 ro, .int .i64 off] 59)) w') => lit_cells w k p ao len cap aoff op lk ln ls lo rk rn rs ro off w' hb)
  go_wp2_with (first | (go_at_call 41; refine (HZ.out _ _ _ _ _).mono ?_; rintro e w' ⟨rfl, hz⟩; have HB := hide (belowt HB.out hz); clear hz; obtain ⟨c1, c2, c3, c9, c10, c11, c12⟩ := HX.out _ HB.out) | (go_at_call 22; refine (HA.out _ (below1t HB.out)).mono ?_; rintro e w' ⟨rfl, hz⟩; have HB := hide (belowt HB.out hz); clear hz; obtain ⟨c1, c2, c3, c9, c10, c11, c12⟩ := HX.out _ HB.out) | (go_at_call 40; refine (HT.out _ _ _ _ _ (by first | exact HL.out | exact HR.out)).mono ?_; rintro e w' ⟨rfl, hz⟩; have HB := hide (belowt HB.out hz); clear hz; obtain ⟨c1, c2, c3, c9, c10, c11, c12⟩ := HX.out _ HB.out))
  go_ret
  exact ⟨rfl, below1t HB.out⟩

end Go.Proofs.Ytpkpajjdpiebfaa
