/- The document's Firings. -/
import Derived.Test.YtihkhnljjegopaaBoundFire
import Derived.Test.YtihkhnljjegopaaRefBound
namespace Go.Proofs.Ytihkhnljjegopaa
set_option linter.unusedSimpArgs false
set_option linter.unusedVariables false
open Go.RowKit

set_option maxHeartbeats 1000000 in
theorem plain_any {d : Int} (hd : I64 d) (w : World) :
    Calls Try.prog 22 #[.int .i64 d] w fun e w' => e = .returned (.int .u64 ((d.toNat : Nat) : Int)) ∧ w' = w := by
  by_cases d0 : d < 0
  · have e1 : d.toNat = 0 := by omega
    rw [e1]
    go_enter Try.func22, Try.ntmps22
    go_wp2
    go_ret
    exact ⟨rfl, rfl⟩
  · obtain ⟨a, rfl⟩ : ∃ a : Nat, d = a := ⟨d.toNat, by omega⟩
    have w1 : IntKind.u64.wrap (a : Int) = (a : Int) := by rw [IntKind.wrap_u64]; have := hd.2; omega
    rw [Int.toNat_natCast]
    go_enter Try.func22, Try.ntmps22
    go_wp2
    go_ret
    exact ⟨rfl, rfl⟩

set_option maxHeartbeats 1000000 in
theorem rfirings_any {w : World} {v : Value} {l : List Rul} (h : Has elRul w v l) (hl : l.length ≤ 1048576) {d : Int} (hd : I64 d) :
    Calls Try.prog 13 #[.int .i64 d, v] w fun e w' => e = .returned (.int .u64 ((cutN (fires d l) : Nat) : Int)) ∧ Below w.heap.size w w' := by
  obtain ⟨va, vc, rfl, -, -, hlen⟩ := h.shape
  have HL := hide h
  have HD := hide hd
  clear h hd
  go_enter Try.func13, Try.ntmps13
  go_wp2
  go_loopw [5, 10] (fun v y wl => ∃ (k : Nat) (o : List Nat), k ≤ l.length ∧ y = .int .i64 k ∧ Hid (Dig o ∧ cutN (val o) = cutN (fires d (l.take k)) ∧ o.length ≤ 4 + k) ∧ Hid (Grow elU 27 w.heap.size wl v o) ∧ Hid (Below w.heap.size w wl)) (fun _ y _ => l.length - (intOf y).toNat)
  case atStart => exact ⟨0, [], by omega, rfl, ⟨Dig.nil, rfl, by simp⟩, Grow.nil _ _ _ _, Below.refl _ _⟩
  case round =>
    obtain ⟨k, o, hk, rfl, P1, G1, B1⟩ := hrel
    obtain ⟨oa, oc, rfl, -, -⟩ := G1.out.shape
    by_cases hlt : k < l.length
    · have hi : (k : Int) < (l.length : Int) := by omega
      have hi0 : (0 : Int) ≤ (k : Int) := by omega
      obtain ⟨b, off, rfl, -, -, hrow⟩ := HL.out.row (by omega)
      obtain ⟨r, hx⟩ : ∃ r, l[k]? = some r := ⟨_, List.getElem?_eq_getElem hlt⟩
      have y0 := kept_cell B1.out (hrow k r hx 0 _ rfl)
      have y1 := kept_cell B1.out (hrow k r hx 1 _ rfl)
      have y2 := kept_cell B1.out (hrow k r hx 2 _ rfl)
      have y3 := kept_cell B1.out (hrow k r hx 3 _ rfl)
      have y4 := kept_cell B1.out (hrow k r hx 4 _ rfl)
      have y5 := kept_cell B1.out (hrow k r hx 5 _ rfl)
      have y6 := kept_cell B1.out (hrow k r hx 6 _ rfl)
      simp only [elRul, Nat.add_zero] at y0 y1 y2 y3 y4 y5 y6
      have hok := elRul_ok (HL.out.ok (List.mem_of_getElem? hx))
      obtain ⟨ra, rc, hrv, -, -, hrl⟩ := hok.2.2.2.2.1.shape
      obtain ⟨ha, hc, hhv, -⟩ := (elPat_ok hok.1).2.shape
      obtain ⟨pa, pc, hpv, -⟩ := hok.2.1.shape
      obtain ⟨ta, tc, htv, -⟩ := hok.2.2.1.shape
      obtain ⟨na, nc, hnv, -⟩ := hok.2.2.2.1.shape
      rw [hrv] at y5
      rw [hhv] at y1
      rw [hpv] at y2
      rw [htv] at y3
      rw [hnv] at y4
      have HSn := hide (fires_snoc d hx)
      obtain ⟨dn, hdn⟩ : ∃ dn : Nat, d.toNat = dn := ⟨_, rfl⟩
      obtain ⟨vl, hvl⟩ : ∃ vl : Nat, r.vs.length = vl := ⟨_, rfl⟩
      rw [hvl] at y5 HSn hrl
      rw [hdn] at HSn
      obtain ⟨z, hz⟩ : ∃ z, cutN (dn ^ vl) = z := ⟨_, rfl⟩
      have HPl := hide (fun V => plain_any HD.out V)
      rw [hdn] at HPl
      have HPw := hide (fun V => rpow_any (x := dn) (n := vl) (by have := HD.out.2; omega) (by omega) V)
      rw [hz] at HPw
      have HOf := hide (fun V => of_any (a := z) (by rw [← hz]; exact cutN_lt _) V)
      have HZ := hide hz
      have w1 : IntKind.u64.wrap (vl : Int) = (vl : Int) := by rw [IntKind.wrap_u64]; omega
      clear hrow hx hok hrv hhv hpv htv hnv hdn hvl hz
      go_wp2
      obtain ⟨W, hW⟩ : ∃ W, wr.alloc (.cells #[.int .i64 r.h.q, .slice ha r.h.ss.length hc, .slice pa r.ps.length pc, .slice ta r.ts.length tc, .slice na r.ns.length nc, .slice ra vl rc, .int .i64 r.c] 42) = W := ⟨_, rfl⟩
      have c5 : W.cell? ⟨wr.heap.size, 5, none⟩ = some (.slice ra vl rc) := by rw [← hW]; exact new_cells 5 _ rfl
      have BW : Hid (Below wr.heap.size wr W) := by rw [← hW]; exact belo1 _ _
      have B2 := hide (B1.out.trans (BW.out.mono B1.out.size))
      have G2 := hide (G1.out.kept BW.out)
      rw [hW]
      clear y0 y1 y2 y3 y4 y5 y6 hW G1 B1 BW
      go_region_held3 (fun w' => w'.cell? ⟨wr.heap.size, 5, none⟩ = some (.slice ra vl rc))
        (first
          | exact c5
          | exact s2
          | exact s3
          | exact s4
          | (go_keep; done))
        (first
          | (go_at_call 22; refine (HPl.out _).mono ?_; rintro e w2 ⟨rfl, hw⟩; have hw := hw.symm; subst hw)
          | (go_at_call 21; refine (HPw.out _).mono ?_; rintro e w2 ⟨rfl, hb2⟩; have b2 : Below W.heap.size W w2 := (below_drewN _ W 1).trans hb2; have s2 := kept_cell b2 c5; have C2 := hide b2; clear hb2 b2 HPw)
          | (go_at_call 20; refine (HOf.out _).mono ?_; rintro e w3 ⟨v3, rfl, l3, hg3, hd3, hv3, hl3, hb3⟩; obtain ⟨qa, qc, rfl, -, -⟩ := hg3.shape; have G3 := hide hg3; have P3 : Hid (Dig l3 ∧ val l3 = z ∧ l3.length ≤ 4) := ⟨hd3, hv3, hl3⟩; have s3 := kept_cell (C2.out.trans (hb3.mono C2.out.size)) c5; have C3 := hide (C2.out.trans (hb3.mono C2.out.size)); clear hg3 hd3 hv3 hl3 hb3 HOf C2)
          | (go_at_call 19; refine (plus_any ((G2.out.kept C3.out).list (by have := P1.out.2.2; omega)) (G3.out.list (by have := P3.out.2.2; omega)) P1.out.1 P3.out.1 (by have := P1.out.2.2; have := P3.out.2.2; omega)).mono ?_; rintro e w4 ⟨v4, rfl, l4, hg4, hd4, hv4, hl4, hb4⟩; obtain ⟨ma, mc, rfl, -, -⟩ := hg4.shape; have B4 := hide (B2.out.trans (C3.out.mono B2.out.size)); have G4 := hide (hg4.mono B4.out.size); have P4 : Hid (Dig l4 ∧ cutN (val l4) = cutN (fires d (l.take (k + 1))) ∧ l4.length ≤ 4 + (k + 1)) := ⟨hd4, by rw [hv4, P3.out.2.1, HSn.out, ← HZ.out, cutN_add', ← cutN_add, P1.out.2.1, cutN_add], by have := P1.out.2.2; have := P3.out.2.2; omega⟩; have s4 := kept_cell (C3.out.trans (hb4.mono C3.out.size)) c5; have B5 := hide (B4.out.trans (hb4.mono B4.out.size)); clear hg4 hd4 hv4 hl4 hb4))
      go_wp2
      go_roundw
      case rel => exact ⟨k + 1, l4, by omega, by go_num, P4, G4, B5⟩
      case measure => simp [intOf]; omega
    · obtain rfl : k = l.length := by omega
      have hi : ¬ (l.length : Int) < (l.length : Int) := by omega
      have HC := hide (cut_any (G1.out.list (by have := P1.out.2.2; omega)) P1.out.1)
      have HE : Hid (cutN (fires d l) = cutN (val o)) := by show _ = _; rw [P1.out.2.1, List.take_of_length_le (Nat.le_refl _)]
      go_wp2_with (go_at_call 23; refine HC.out.mono ?_; rintro e w4 ⟨rfl, hw⟩; have hw := hw.symm; subst hw)
      go_ret
      exact ⟨by rw [HE.out]; rfl, B1.out⟩
end Go.Proofs.Ytihkhnljjegopaa
