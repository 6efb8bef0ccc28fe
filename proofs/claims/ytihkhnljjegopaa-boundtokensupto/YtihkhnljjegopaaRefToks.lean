/- The document's Tokens. -/
import Derived.Test.YtihkhnljjegopaaRefFire
import Derived.Test.YtihkhnljjegopaaBoundToks
namespace Go.Proofs.Ytihkhnljjegopaa
set_option linter.unusedSimpArgs false
set_option linter.unusedVariables false
open Go.RowKit

set_option maxHeartbeats 1000000 in
theorem rtokens_any {w : World} {av nv ev : Value} {l : List Nod} (h : Has elNod w nv l) (hl : l.length ≤ 1048576) {d : Int} (hd : I64 d) :
    Calls Try.prog 14 #[.int .i64 d, .agg #[av, nv, ev]] w fun e w' => e = .returned (.int .u64 ((cutN (toks d l) : Nat) : Int)) ∧ Below w.heap.size w w' := by
  obtain ⟨va, vc, rfl, -, -, hlen⟩ := h.shape
  obtain ⟨W, hW⟩ : ∃ W, w.alloc (.cells #[av, .slice va l.length vc, ev] 34) = W := ⟨_, rfl⟩
  have BW : Hid (Below w.heap.size w W) := by rw [← hW]; exact belo1 _ _
  have HL := hide (h.kept BW.out)
  have HD := hide hd
  have HW := hide hW
  clear h hd hW
  go_enter Try.func14, Try.ntmps14
  go_wp2
  rw [HW.out]
  go_loopw [5, 11] (fun v y wl => ∃ (k : Nat) (o : List Nat), k ≤ l.length ∧ y = .int .i64 k ∧ Hid (Dig o ∧ cutN (val o) = cutN (toks d (l.take k)) ∧ o.length ≤ 4 + k) ∧ Hid (Grow elU 27 W.heap.size wl v o) ∧ Hid (Below W.heap.size W wl)) (fun _ y _ => l.length - (intOf y).toNat)
  case atStart => exact ⟨0, [], by omega, rfl, ⟨Dig.nil, rfl, by simp⟩, Grow.nil _ _ _ _, Below.refl _ _⟩
  case round =>
    obtain ⟨k, o, hk, rfl, P1, G1, B1⟩ := hrel
    obtain ⟨oa, oc, rfl, -, -⟩ := G1.out.shape
    by_cases hlt : k < l.length
    · have hi : (k : Int) < (l.length : Int) := by omega
      have hi0 : (0 : Int) ≤ (k : Int) := by omega
      obtain ⟨b, off, rfl, -, -, hrow⟩ := HL.out.row (by omega)
      obtain ⟨r, hx⟩ : ∃ r, l[k]? = some r := ⟨_, List.getElem?_eq_getElem hlt⟩
      have y0 := kept_cell B1.out (hrow k r hx 0 _ rfl)
      have y1 := kept_cell B1.out (hrow k r hx 1 _ rfl)
      have y2 := kept_cell B1.out (hrow k r hx 2 _ rfl)
      have y3 := kept_cell B1.out (hrow k r hx 3 _ rfl)
      have y4 := kept_cell B1.out (hrow k r hx 4 _ rfl)
      have y5 := kept_cell B1.out (hrow k r hx 5 _ rfl)
      have y6 := kept_cell B1.out (hrow k r hx 6 _ rfl)
      have y7 := kept_cell B1.out (hrow k r hx 7 _ rfl)
      have y8 := kept_cell B1.out (hrow k r hx 8 _ rfl)
      have y9 := kept_cell B1.out (hrow k r hx 9 _ rfl)
      have y10 := kept_cell B1.out (hrow k r hx 10 _ rfl)
      simp only [elNod, Nat.add_zero] at y0 y1 y2 y3 y4 y5 y6 y7 y8 y9 y10
      have hok := elNod_ok (HL.out.ok (List.mem_of_getElem? hx))
      obtain ⟨ra, rc, hrv, -, -, -⟩ := hok.2.2.2.1.shape
      obtain ⟨ha, hc, hhv, -⟩ := hok.2.2.2.2.1.shape
      rw [hrv] at y3
      rw [hhv] at y4
      have HOk := hide hok
      have HX := hide hx
      clear hrow hx hok hrv hhv
      by_cases h0 : r.k = 0
      · have HSn : Hid (toks d (l.take (k + 1)) = toks d (l.take k)) := by show _ = _; unfold toks; rw [tokL_snoc d HX.out, nodeP, if_pos h0, List.append_nil]
        have h0' : (r.k != 0) = false := by simpa using h0
        obtain ⟨V, hV⟩ : ∃ V, wr.alloc (.cells #[.int .i64 r.k, .int .i64 r.p, .int .i64 r.a, .slice ra r.ls.length rc, .slice ha r.ns.length hc, .int .i64 r.t.op, .bool r.t.l.v, .int .i64 r.t.l.n, .bool r.t.r.v, .int .i64 r.t.r.n, .int .i64 r.w] 51) = V := ⟨_, rfl⟩
        have BV : Hid (Below wr.heap.size wr V) := by rw [← hV]; exact belo1 _ _
        have HV := hide hV
        clear h0 hV
        go_wp2
        rw [HV.out]
        go_roundw
        case rel => exact ⟨k + 1, o, by omega, by go_num, ⟨P1.out.1, by rw [HSn.out]; exact P1.out.2.1, by have := P1.out.2.2; omega⟩, G1.out.kept BV.out, B1.out.trans (BV.out.mono B1.out.size)⟩
        case measure => simp [intOf]; omega
      · obtain ⟨dn, hdn⟩ : ∃ dn : Nat, d.toNat = dn := ⟨_, rfl⟩
        obtain ⟨vl, hvl⟩ : ∃ vl : Nat, r.w.toNat = vl := ⟨_, rfl⟩
        have HSn : Hid (toks d (l.take (k + 1)) = toks d (l.take k) + dn ^ vl) := by show _ = _; unfold toks; rw [tokL_snoc d HX.out, nodeP, if_neg h0, hdn, hvl, List.sum_append]; simp
        have h0' : (r.k != 0) = true := by simpa using h0
        obtain ⟨z, hz⟩ : ∃ z, cutN (dn ^ vl) = z := ⟨_, rfl⟩
        have HPl := hide (fun V => plain_any HD.out V)
        rw [hdn] at HPl
        have HPv := hide (fun V => plain_any HOk.out.2.2.2.2.2.2 V)
        rw [hvl] at HPv
        have HPw := hide (fun V => rpow_any (x := dn) (n := vl) (by have := HD.out.2; omega) (by have := HOk.out.2.2.2.2.2.2.2; omega) V)
        rw [hz] at HPw
        have HOf := hide (fun V => of_any (a := z) (by rw [← hz]; exact cutN_lt _) V)
        have HZ := hide hz
        obtain ⟨V, hV⟩ : ∃ V, wr.alloc (.cells #[.int .i64 r.k, .int .i64 r.p, .int .i64 r.a, .slice ra r.ls.length rc, .slice ha r.ns.length hc, .int .i64 r.t.op, .bool r.t.l.v, .int .i64 r.t.l.n, .bool r.t.r.v, .int .i64 r.t.r.n, .int .i64 r.w] 51) = V := ⟨_, rfl⟩
        have c5 : V.cell? ⟨wr.heap.size, 10, none⟩ = some (.int .i64 r.w) := by rw [← hV]; exact new_cells 10 _ rfl
        have BV : Hid (Below wr.heap.size wr V) := by rw [← hV]; exact belo1 _ _
        have B2 := hide (B1.out.trans (BV.out.mono B1.out.size))
        have G2 := hide (G1.out.kept BV.out)
        have HV := hide hV
        clear h0 hdn hvl hz hV G1 B1 BV
        go_wp2
        rw [HV.out]
        clear y0 y1 y2 y3 y4 y5 y6 y7 y8 y9 y10
        go_region_held3 (fun w' => w'.cell? ⟨wr.heap.size, 10, none⟩ = some (.int .i64 r.w))
          (first
            | exact c5
            | exact s2
            | exact s3
            | exact s4
            | (go_keep; done))
          (first
            | (go_at_call 22; refine (HPl.out _).mono ?_; rintro e w2 ⟨rfl, hw⟩; have hw := hw.symm; subst hw; clear HPl)
            | (go_at_call 22; refine (HPv.out _).mono ?_; rintro e w2 ⟨rfl, hw⟩; have hw := hw.symm; subst hw; clear HPv)
            | (go_at_call 21; refine (HPw.out _).mono ?_; rintro e w2 ⟨rfl, hb2⟩; have b2 : Below V.heap.size V w2 := (below_drewN _ V 1).trans hb2; have s2 := kept_cell b2 c5; have C2 := hide b2; clear hb2 b2 HPw)
            | (go_at_call 20; refine (HOf.out _).mono ?_; rintro e w3 ⟨v3, rfl, l3, hg3, hd3, hv3, hl3, hb3⟩; obtain ⟨qa, qc, rfl, -, -⟩ := hg3.shape; have G3 := hide hg3; have P3 : Hid (Dig l3 ∧ val l3 = z ∧ l3.length ≤ 4) := ⟨hd3, hv3, hl3⟩; have s3 := kept_cell (C2.out.trans (hb3.mono C2.out.size)) c5; have C3 := hide (C2.out.trans (hb3.mono C2.out.size)); clear hg3 hd3 hv3 hl3 hb3 HOf C2)
            | (go_at_call 19; refine (plus_any ((G2.out.kept C3.out).list (by have := P1.out.2.2; omega)) (G3.out.list (by have := P3.out.2.2; omega)) P1.out.1 P3.out.1 (by have := P1.out.2.2; have := P3.out.2.2; omega)).mono ?_; rintro e w4 ⟨v4, rfl, l4, hg4, hd4, hv4, hl4, hb4⟩; obtain ⟨ma, mc, rfl, -, -⟩ := hg4.shape; have B4 := hide (B2.out.trans (C3.out.mono B2.out.size)); have G4 := hide (hg4.mono B4.out.size); have P4 : Hid (Dig l4 ∧ cutN (val l4) = cutN (toks d (l.take (k + 1))) ∧ l4.length ≤ 4 + (k + 1)) := ⟨hd4, by rw [hv4, P3.out.2.1, HSn.out, ← HZ.out, cutN_add', ← cutN_add, P1.out.2.1, cutN_add], by have := P1.out.2.2; have := P3.out.2.2; omega⟩; have s4 := kept_cell (C3.out.trans (hb4.mono C3.out.size)) c5; have B5 := hide (B4.out.trans (hb4.mono B4.out.size)); clear hg4 hd4 hv4 hl4 hb4))
        go_wp2
        go_roundw
        case rel => exact ⟨k + 1, l4, by omega, by go_num, P4, G4, B5⟩
        case measure => simp [intOf]; omega
    · obtain rfl : k = l.length := by omega
      have hi : ¬ (l.length : Int) < (l.length : Int) := by omega
      have HC := hide (cut_any (G1.out.list (by have := P1.out.2.2; omega)) P1.out.1)
      have HE : Hid (cutN (toks d l) = cutN (val o)) := by show _ = _; rw [P1.out.2.1, List.take_of_length_le (Nat.le_refl _)]
      go_wp2_with (go_at_call 23; refine HC.out.mono ?_; rintro e w4 ⟨rfl, hw⟩; have hw := hw.symm; subst hw)
      go_ret
      exact ⟨by rw [HE.out]; rfl, BW.out.trans (B1.out.mono BW.out.size)⟩
end Go.Proofs.Ytihkhnljjegopaa
