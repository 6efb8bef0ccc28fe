/- What strata's homes answers: of every predicate the least one of its component. -/
import Derived.Test.YtmbkjgfnnpopgabWalkStart
namespace Go.Proofs.Ytmbkjgfnnpopgab
set_option linter.unusedSimpArgs false
set_option linter.unusedVariables false
open Go.RowKit Go.Maps

set_option maxHeartbeats 1000000 in
theorem homes_any {w : World} {gl n c : Nat} {T N : Nat → Nat → Bool} {F : Nat → Nat → Int} (h : LinksAt w gl n T N F) (hn : n ≤ 128) :
    Calls Try.prog 24 #[.agg #[.int .i64 (n : Int), .slice (some ⟨gl, 0, none⟩) (n * n) c]] w fun e w' => ∃ (g : Nat) (H : Nat → Int), e = .returned (.slice (some ⟨g, 0, none⟩) n n) ∧ w.heap.size ≤ g ∧ w'.rowIs g 3 n (fun i => .int .i64 (H i)) ∧ (∀ v, v < n → LeastOf (Ed n T) v (H v)) ∧ Below w.heap.size w w' := by
  have HL := hide h
  have hmk := fun W : World => run_make_row' (P := Try.prog) 36 3 (.int .i64 0) 8 Try.underlying36 Try.infoInt9 rfl .i64 .i64 n (by omega) (by omega) W
  have HF := hide (fun W : World => filled_any (w := W) (-1) hn)
  clear h
  go_enter Try.func24, Try.ntmps24
  go_wp2
  go_step3
  have hb0 := belo1 w (.cells #[.int .i64 (n : Int), .slice (some ⟨gl, 0, none⟩) (n * n) c] 47)
  obtain ⟨Y, hY⟩ : ∃ Y, Y = w.alloc (.cells #[.int .i64 (n : Int), .slice (some ⟨gl, 0, none⟩) (n * n) c] 47) := ⟨_, rfl⟩
  have b0 : Y.cell? ⟨w.heap.size, 0, none⟩ = some (.int .i64 (n : Int)) := by rw [hY]; simp
  have b1 : Y.cell? ⟨w.heap.size, 1, none⟩ = some (.slice (some ⟨gl, 0, none⟩) (n * n) c) := by rw [hY]; simp
  have hsz : Y.heap.size = w.heap.size + 1 := by rw [hY]; simp
  rw [← hY] at hb0 ⊢
  have HB0 := hide hb0
  clear hY hb0
  have HSz := hide hsz
  clear hsz
  have HSc : Hid (∀ V : World, Below Y.heap.size Y V → V.cell? ⟨w.heap.size, 0, none⟩ = some (.int .i64 (n : Int)) ∧ V.cell? ⟨w.heap.size, 1, none⟩ = some (.slice (some ⟨gl, 0, none⟩) (n * n) c)) := fun V hV => ⟨kept_cell hV b0, kept_cell hV b1⟩
  have HF1 := HF
  have HF2 := HF
  clear HF
  go_wp2
  go_cut [3] (fun t wx => ∃ p gp gw gh, t = .pointer (some ⟨p, 0, none⟩) ∧ Hid (WalkAt Y.heap.size wx p n gl c ⟨[], [], fun _ => -1, fun _ => 0, fun _ => -1⟩ none 0 none 0 gp gw gh) ∧ Hid (Below Y.heap.size Y wx))
  case first =>
    have S0 := hide (St.start Y n)
    have S1 := hide (St.mk' (V := Y) (k := Y.heap.size) rfl S0.out)
    have S2 := hide (St.bx (V := Y) (k := Y.heap.size) rfl S0.out)
    have S3 := hide (St.bx (k := Y.heap.size + 1) (by simp) S1.out)
    have S4 := hide (St.mk' (k := Y.heap.size + 1) (by simp) S2.out)
    have D0 := hide (St.drew S0.out)
    have D1 := hide (St.drew S1.out)
    have D2 := hide (St.drew S2.out)
    have D3 := hide (St.drew S3.out)
    have D4 := hide (St.drew S4.out)
    clear S0 S1 S2 S3 S4
    go_region_held3 (fun w' => w'.cell? ⟨w.heap.size, 0, none⟩ = some (.int .i64 (n : Int)) ∧ w'.cell? ⟨w.heap.size, 1, none⟩ = some (.slice (some ⟨gl, 0, none⟩) (n * n) c))
      (first
        | with_reducible exact ⟨b0, b1⟩
        | with_reducible exact HSc.out _ (St.be D0.out)
        | with_reducible exact HSc.out _ (St.be D1.out)
        | with_reducible exact HSc.out _ (St.be D2.out)
        | with_reducible exact HSc.out _ (St.be D3.out)
        | with_reducible exact HSc.out _ (St.be D4.out)
        | with_reducible exact HSc.out _ (St.be T0.out)
        | with_reducible exact HSc.out _ (St.be T1.out)
        | with_reducible exact HSc.out _ (St.be T2.out)
        | with_reducible exact HSc.out _ (St.be T3.out)
        | with_reducible exact HSc.out _ (St.be T4.out)
        | with_reducible exact HSc.out _ (St.be U0.out)
        | with_reducible exact HSc.out _ (St.be U1.out)
        | with_reducible exact HSc.out _ (St.be U2.out)
        | with_reducible exact HSc.out _ (St.be U3.out)
        | with_reducible exact HSc.out _ (St.be U4.out)
        | (refine HSc.out _ ?_; (iterate 7 (with_reducible refine Below.setCell ?_ (St.pge U0.out) _)); with_reducible exact St.be U0.out)
        | (refine HSc.out _ ?_; (iterate 7 (with_reducible refine Below.setCell ?_ (St.pge U1.out) _)); with_reducible exact St.be U1.out)
        | (refine HSc.out _ ?_; with_reducible refine Below.alloc ?_ (St.be U0.out).size _; with_reducible exact St.be U0.out)
        | (refine HSc.out _ ?_; with_reducible refine Below.alloc ?_ (St.be U1.out).size _; with_reducible exact St.be U1.out)
        | (refine HSc.out _ ?_; with_reducible refine Below.alloc ?_ (Nat.le_trans (St.be U0.out).size (belo1 _ _).size) _; with_reducible refine Below.alloc ?_ (St.be U0.out).size _; with_reducible exact St.be U0.out))
      (first
        | (go_at_call 31; refine (HF1.out _).mono ?_; clear HF1; rintro e w2 ⟨g1, rfl, h1, h2, h3⟩; (first | (with_reducible have HSt1 := hide (St.c1 D0.out h1 h2 h3)) | (with_reducible have HSt1 := hide (St.c1 D1.out h1 h2 h3)) | (with_reducible have HSt1 := hide (St.c1 D2.out h1 h2 h3)) | (with_reducible have HSt1 := hide (St.c1 D3.out h1 h2 h3)) | (with_reducible have HSt1 := hide (St.c1 D4.out h1 h2 h3))); clear h1 h2 h3; have T0 := HSt1; (try have T1 := hide (St.mk' (V := w2) (k := w2.heap.size) rfl HSt1.out)); (try have T2 := hide (St.bx (V := w2) (k := w2.heap.size) rfl HSt1.out)); (try have T3 := hide (St.bx (k := w2.heap.size + 1) (by simp) T1.out)); (try have T4 := hide (St.mk' (k := w2.heap.size + 1) (by simp) T2.out)))
        | (go_at_call 31; refine (HF2.out _).mono ?_; clear HF2; rintro e w3 ⟨g2, rfl, h1, h2, h3⟩; (first | (with_reducible have HSt2 := hide (St.c2 T0.out h1 h2 h3)) | (with_reducible have HSt2 := hide (St.c2 T1.out h1 h2 h3)) | (with_reducible have HSt2 := hide (St.c2 T2.out h1 h2 h3)) | (with_reducible have HSt2 := hide (St.c2 T3.out h1 h2 h3)) | (with_reducible have HSt2 := hide (St.c2 T4.out h1 h2 h3))); clear h1 h2 h3; have U0 := HSt2; (try have U1 := hide (St.mk' (V := w3) (k := w3.heap.size) rfl HSt2.out)); (try have U2 := hide (St.bx (V := w3) (k := w3.heap.size) rfl HSt2.out)); (try have U3 := hide (St.bx (k := w3.heap.size + 1) (by simp) U1.out)); (try have U4 := hide (St.mk' (k := w3.heap.size + 1) (by simp) U2.out)); (try (obtain ⟨⟨q0, q1, q2, q3, q4, q5, q6⟩, r0⟩ := (HSt2.out.rb _ rfl).2.facts)); (try (obtain ⟨⟨p0, p1, p2, p3, p4, p5, p6⟩, l0⟩ := (U1.out.rb _ rfl).2.facts))))
    all_goals (go_wp2; go_meet)
    all_goals first
      | (with_reducible refine St.end7 ?_; with_reducible exact U0.out)
      | (with_reducible refine St.end7 ?_; with_reducible exact U1.out)
      | (with_reducible refine St.endA ?_ ?_; with_reducible exact U0.out; rfl)
      | (with_reducible refine St.endA ?_ ?_; with_reducible exact U1.out; simp)
      | (with_reducible refine St.endB ?_ rfl; with_reducible exact U0.out)
  case rest =>
    obtain ⟨p, gp, gw, gh, rfl, HW, HB⟩ := hcut
    clear HSc HF1 HF2 hmk
    have HL1 := hide (HL.out.kept HB0.out)
    have HgY : Hid (gl < Y.heap.size) := HL1.out.lt
    have hYs := HSz.out
    go_wp2
    go_step3
    go_wp2
    have HT0 := hide (TInv.start n (Ed n T) (fun _ => 0) (fun v hv => by omega))
    go_loopw [4] (fun _ wl => ∃ (s : Tj) (po oo : Option Addr) (pc oc : Nat), Hid (WalkAt Y.heap.size wl p n gl c s po pc oo oc gp gw gh) ∧ Hid (TInv n (Ed n T) s) ∧ Hid (Below Y.heap.size Y wl)) (fun _ wl => muW gp p n wl)
    case atStart => exact ⟨_, _, _, _, _, HW, HT0, HB⟩
    case round =>
      clear HW HT0 HB
      obtain ⟨s, po, oo, pc, oc, HW, HT, HB⟩ := hrel
      have hwr : Y.heap.size ≤ wr.heap.size := HB.out.size
      have hb0 : wr.cell? ⟨w.heap.size, 0, none⟩ = some (.int .i64 (n : Int)) := by rw [HB.out.cell (by dsimp only; omega)]; exact b0
      have HLr := hide (HL1.out.low HB.out HgY.out)
      have HPn : Hid (∀ v ∈ s.path, v < n) := fun v hv => (HT.out.mem (HT.out.sub v hv)).2.2.1
      have HPl : Hid (s.path.length ≤ 128) := by show _ ≤ _; have := HT.out.lens; omega
      have HOl : Hid (s.opn.length ≤ 128) := by show _ ≤ _; have := HT.out.len; omega
      go_wp2
      clear hb0
      obtain ⟨wo, hwo⟩ : ∃ wo, wo = wr := ⟨_, rfl⟩
      rw [← hwo] at HW HB hwr HLr
      have HWo := hide hwo
      clear hwo
      go_loopw [4, 18] (fun _ i wl => ∃ k : Nat, k ≤ n ∧ i = .int .i64 k ∧ Hid (∀ q, q < k → mayB s T q = false) ∧ Hid (Below wo.heap.size wo wl)) (fun _ i _ => n - (intOf i).toNat)
      case atStart => exact ⟨0, by omega, rfl, by show ∀ q, q < 0 → _; intro q h; omega, by show Below _ _ _; rw [HWo.out]; exact Below.refl _ _⟩
      case round =>
        obtain ⟨k, hk, rfl, HK, HBk⟩ := hrel
        have hwk : Y.heap.size ≤ wr.heap.size := Nat.le_trans hwr HBk.out.size
        by_cases hlt : k < n
        · have hi : (k : Int) < (n : Int) := by omega
          have hi0 : (0 : Int) ≤ (k : Int) := by omega
          have HM := hide (mayEnter_any (HW.out.kept HBk.out) (HLr.out.kept HBk.out) hn hlt HPn.out HPl.out)
          obtain ⟨b, hb⟩ : ∃ b, mayB s T k = b := ⟨_, rfl⟩
          rw [hb] at HM
          have HMb := hide hb
          clear hb
          cases b with
          | false =>
            have HK2 : Hid (∀ q, q < k + 1 → mayB s T q = false) := by
              show ∀ q, q < k + 1 → mayB s T q = false
              intro q hq
              rcases Nat.lt_succ_iff_lt_or_eq.1 hq with h | h
              · exact HK.out q h
              · rw [h]; exact HMb.out
            go_wp2_with (go_at_call 32; refine HM.out.mono ?_; rintro e w2 ⟨rfl, h2⟩; have HB2 := hide (HBk.out.trans (h2.mono HBk.out.size)); clear h2)
            go_roundw
            case rel => exact ⟨k + 1, by omega, by go_num, HK2, HB2⟩
            case measure => simp [intOf]; omega
          | true =>
            have hmay := (mayB_iff s T k).1 HMb.out
            have HTn : Hid (TInv n (Ed n T) (s.enter k)) := HT.out.enter hlt hmay.1 (by
              rcases hmay.2 with h | ⟨P, t, h1, h2⟩
              · exact .inl h
              · exact .inr ⟨P, t, h1, HPn.out t (by rw [h1]; simp), hlt, h2⟩)
            have HMu := hide (muS_enter hlt hmay.1)
            clear hmay
            go_wp2_with (first
              | (go_at_call 32; refine HM.out.mono ?_; rintro e w2 ⟨rfl, h2⟩; have HB2 := hide (HBk.out.trans (h2.mono HBk.out.size)); clear h2; have HE := hide (enter_any (HW.out.kept HB2.out) hn hlt HPl.out HOl.out (Nat.le_trans hwr HB2.out.size)))
              | (go_at_call 33; refine HE.out.mono ?_; rintro e w3 ⟨rfl, po', pc', oo', oc', h3, h4⟩; have HW3 := hide h3; have HB3 := hide ((HB.out.trans (HB2.out.mono hwr)).trans h4); clear h3 h4))
            exact ⟨⟨_, _, _, _, _, HW3, HTn, HB3⟩, by rw [← HWo.out, muW_eq HW3.out, muW_eq HW.out]; exact HMu.out⟩
        · obtain rfl : k = n := by omega
          have hi : ¬ (k : Int) < (k : Int) := by omega
          have HWk := hide (HW.out.kept HBk.out)
          have HBw := hide (HB.out.trans (HBk.out.mono hwr))
          have c2 := HWk.out.fields.2.2.1
          by_cases hnil : s.path.length = 0
          · have d1 : ((s.path.length : Int) == 0) = true := by simpa using hnil
            have c6 := HWk.out.fields.2.2.2.2.2.2
            have HN := hide (List.eq_nil_of_length_eq_zero hnil)
            have HF : Hid (∀ v, v < k → LeastOf (Ed k T) v (s.home v)) := HT.out.ends HN.out (fun v hv => by
              rcases Int.lt_or_le (s.place v) 0 with h | h
              · have h1 := HK.out v hv
                rw [mayB_nil h HN.out] at h1
                cases h1
              · exact h)
            clear hnil
            go_wp2
            go_ret
            exact ⟨gh, s.home, rfl, by have := HWk.out.bs; omega, HWk.out.home, HF.out, HB0.out.trans (HBw.out.mono HB0.out.size)⟩
          · have d1 : ((s.path.length : Int) == 0) = false := by rw [beq_eq_false_iff_ne]; omega
            obtain ⟨t, ht⟩ : ∃ t, s.path[s.path.length - 1]? = some t := ⟨_, List.getElem?_eq_getElem (by omega)⟩
            have hE : s.path = s.path.take (s.path.length - 1) ++ [t] := by rw [← take_snoc8 ht, show s.path.length - 1 + 1 = s.path.length by omega, List.take_length]
            have HLv := hide (leave_any HWk.out (HLr.out.kept HBk.out) HgY.out hn HT.out hE (fun q hq => by
              rcases Int.lt_or_le (s.place q) 0 with h | h
              · have h1 := HK.out q hq.2.1
                rw [mayB_at h hE, hq.2.2] at h1
                cases h1
              · exact h) hwk)
            have HPm : Hid ((s.path.take (s.path.length - 1)).length < s.path.length) := by show _ < _; rw [List.length_take]; omega
            clear ht hE hnil
            go_wp2_with (go_at_call 34; refine HLv.out.mono ?_; rintro e w3 ⟨rfl, s', po', pc', oo', oc', h3, h4, h5, h6, h7⟩; have HW3 := hide h3; have HT3 := hide h4; have HP3 := hide (And.intro h5 h6); have HB3 := hide (HBw.out.trans h7); clear h3 h4 h5 h6 h7)
            refine ⟨⟨_, _, _, _, _, HW3, HT3, HB3⟩, ?_⟩
            rw [← HWo.out, muW_eq HW3.out, muW_eq HW.out]
            unfold muS
            rw [HP3.out.1, show (fun i => decide (s'.place i < 0)) = fun i => decide (s.place i < 0) from funext fun i => by rw [HP3.out.2]]
            have := HPm.out
            omega
end Go.Proofs.Ytmbkjgfnnpopgab
