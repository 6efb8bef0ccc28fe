/- What strata.newGraph makes. -/
import Derived.Test.YtjifhmlfnnagcaaGraphNew
import Derived.Test.YtjifhmlfnnagcaaEdgeRFit
namespace Go.Proofs.Ytjifhmlfnnagcaa
set_option linter.unusedSimpArgs false
set_option linter.unusedVariables false
open Go.RowKit Go.Maps

theorem fit_in8 {n : Int} {es : List Edg} (h : fitP n es = true) : (0 ≤ n ∧ n ≤ 128) ∧ ∀ x ∈ es, 0 ≤ x.f ∧ x.f < n ∧ 0 ≤ x.t ∧ x.t < n := by
  unfold fitP at h
  simp only [Bool.and_eq_true, decide_eq_true_eq, Bool.not_eq_true', List.any_eq_false] at h
  refine ⟨⟨h.1, h.2.1⟩, fun x hx => eOut_false ?_⟩
  have := h.2.2 x hx
  simpa using this

theorem heap_other {w : World} {g i b : Nat} {v : Value} (h : b ≠ g) : (w.setCell ⟨g, i, none⟩ v).heap[b]? = w.heap[b]? := by
  simp [World.setCell, Array.getElem?_modify, Ne.symm h]

set_option maxHeartbeats 1000000 in
theorem newGraph_any {w : World} {v : Value} {es : List Edg} {n : Nat} (h : Has elEdg w v es) (hfit : fitP n es = true) :
    Calls Try.prog 25 #[.int .i64 (n : Int), v] w fun e w' => ∃ gl, e = .returned (.agg #[.int .i64 (n : Int), .slice (some ⟨gl, 0, none⟩) (n * n) (n * n)]) ∧ w.heap.size ≤ gl ∧ LinksAt w' gl n (lnkT es) (lnkN es) (lnkF es) ∧ Below w.heap.size w w' := by
  obtain ⟨va, vc, rfl, -, -, hlen⟩ := h.shape
  obtain ⟨⟨-, hn⟩, hin⟩ := fit_in8 hfit
  have hn' : n ≤ 128 := by omega
  obtain ⟨o, hmk, hlk⟩ := makeLnks n hn'
  have hnn : n * n ≤ 16384 := Nat.le_trans (Nat.mul_le_mul hn' hn') (by decide)
  have hnn' : (n : Int) * (n : Int) ≤ 16384 := by have : ((n * n : Nat) : Int) ≤ 16384 := by omega
                                                  simpa using this
  have hnn0 : 0 ≤ (n : Int) * (n : Int) := Int.mul_nonneg (by omega) (by omega)
  have HL := hide h
  have HI := hide hin
  have HK := hide hlk
  clear h hin hlk hfit
  go_enter Try.func25, Try.ntmps25
  go_wp2
  have HS0 : Hid (∃ gl, gl = w.heap.size + 1) := ⟨_, rfl⟩
  go_loopw [6, 7, 8, 17] (fun _ _ _ i wl => ∃ k : Nat, k ≤ es.length ∧ i = .int .i64 k ∧ Hid (LinksAt wl (w.heap.size + 1) n (lnkT (es.take k)) (lnkN (es.take k)) (lnkF (es.take k))) ∧ Hid (wl.heap[w.heap.size + 1 + 1]? = some (.cells #[.int .i64 (n : Int), .slice (some ⟨w.heap.size + 1, 0, none⟩) (n * n) (n * n)] 48 (0, 0))) ∧ Hid (wl.heap[w.heap.size]? = some (.cells #[.int .i64 0, .slice none 0 0] 48 (0, 0))) ∧ Hid (Below w.heap.size w wl) ∧ Hid (w.heap.size + 1 + 1 + 1 ≤ wl.heap.size)) (fun _ _ _ i _ => es.length - (intOf i).toNat)
  case atStart =>
    refine ⟨0, by omega, rfl, ?_, ?_, ?_, ?_, ?_⟩
    · show LinksAt _ _ _ _ _ _
      have h1 := (HK.out (w.alloc (.cells #[.int .i64 0, .slice none 0 0] 48))).kept (belo1 _ (.cells #[.int .i64 (n : Int), .slice (some ⟨w.heap.size + 1, 0, none⟩) (n * n) (n * n)] 48))
      rw [show (w.alloc (.cells #[.int .i64 0, .slice none 0 0] 48)).heap.size = w.heap.size + 1 by simp] at h1
      exact h1.congr fun u v _ _ => ⟨rfl, rfl, by simp [lnkF, lnkT]⟩
    · show _ = _
      have h1 := heap_alloc_new ((w.alloc (.cells #[.int .i64 0, .slice none 0 0] 48)).alloc o) (.cells #[.int .i64 (n : Int), .slice (some ⟨w.heap.size + 1, 0, none⟩) (n * n) (n * n)] 48)
      simpa using h1
    · show _ = _
      have h1 := heap_alloc_new w (.cells #[.int .i64 0, .slice none 0 0] 48)
      rw [heap_alloc_old _ _ (by simp; omega), heap_alloc_old _ _ (by simp)]
      exact h1
    · exact ((((Below.refl _ w).alloc (Nat.le_refl _) _).alloc (by simp) _).alloc (by simp; omega) _)
    · show _ ≤ _; simp
  case round =>
    obtain ⟨k, hk, rfl, HLk, HGb, HRb, HB, HSz⟩ := hrel
    clear HS0
    have g0 : wr.cell? ⟨w.heap.size + 1 + 1, 0, none⟩ = some (.int .i64 (n : Int)) := by simp [World.cell?, HGb.out]
    have g1 : wr.cell? ⟨w.heap.size + 1 + 1, 1, none⟩ = some (.slice (some ⟨w.heap.size + 1, 0, none⟩) (n * n) (n * n)) := by simp [World.cell?, HGb.out]
    by_cases hlt : k < es.length
    · have hi : (k : Int) < (es.length : Int) := by omega
      have hi0 : (0 : Int) ≤ (k : Int) := by omega
      obtain ⟨b, off, rfl, -, -, hrow⟩ := HL.out.row (by omega)
      obtain ⟨x, hx⟩ : ∃ x, es[k]? = some x := ⟨_, List.getElem?_eq_getElem hlt⟩
      have y0 := kept_cell HB.out (hrow k x hx 0 _ rfl)
      have y1 := kept_cell HB.out (hrow k x hx 1 _ rfl)
      have y2 := kept_cell HB.out (hrow k x hx 2 _ rfl)
      have y3 := kept_cell HB.out (hrow k x hx 3 _ rfl)
      simp only [elEdg, Nat.add_zero] at y0 y1 y2 y3
      obtain ⟨q1, q2, q3, q4⟩ := HI.out x (List.mem_of_getElem? hx)
      have HTk := hide (take_snoc8 hx)
      clear hrow hx
      obtain ⟨f, t, g, r⟩ := x
      obtain ⟨kf, rfl⟩ : ∃ kf : Nat, f = kf := ⟨f.toNat, by dsimp only at q1; omega⟩
      obtain ⟨kt, rfl⟩ : ∃ kt : Nat, t = kt := ⟨t.toNat, by dsimp only at q3; omega⟩
      dsimp only at q1 q2 q3 q4 y0 y1 y2 y3
      have hkf : kf < n := by omega
      have hkt : kt < n := by omega
      have HQ : Hid (kf < n ∧ kt < n) := ⟨hkf, hkt⟩
      have HLn : Hid ((es.take k).length = k) := by show _ = _; rw [List.length_take]; omega
      have HC := hide (fun W : World => link_any (w := W) (gl := w.heap.size + 1) (c := n * n) hn' hkf hkt)
      have HB0 := hide (belo1 wr (.cells #[.int .i64 (kf : Int), .int .i64 (kt : Int), .bool g, .int .i64 r] 25))
      have g0' := kept_cell HB0.out g0
      have g1' := kept_cell HB0.out g1
      have HE : Hid ((wr.alloc (.cells #[.int .i64 (kf : Int), .int .i64 (kt : Int), .bool g, .int .i64 r] 25)).cell? ⟨wr.heap.size, 2, none⟩ = some (.bool g)) := by show _ = _; simp
      obtain ⟨L, hL⟩ : ∃ L, es.take k = L := ⟨_, rfl⟩
      rw [hL] at HLk HTk HLn
      clear hL q1 q2 q3 q4 hkf hkt
      go_wp2_with (go_at_call 34; refine (HC.out _).mono ?_; rintro e w2 ⟨rfl, h2⟩; have HW2 := hide (HB0.out.trans (h2.mono HB0.out.size)); have HE2 := hide (kept_cell h2 HE.out); clear h2; clear y0 y1 y2 y3 g0 g1 g0' g1'; have HL2 := hide (HLk.out.kept HW2.out); have c0 := (HL2.out.cells HQ.out.1 HQ.out.2).1; revert c0)
      intro c0
      obtain ⟨-, c1, c2⟩ := HL2.out.cells HQ.out.1 HQ.out.2
      have z0 := HL2.out.frozen ((kf * n + kt) * 3)
      have z1 := HL2.out.frozen ((kf * n + kt) * 3 + 1)
      have z2 := HL2.out.frozen ((kf * n + kt) * 3 + 2)
      have e2 := HE2.out
      have HSn := hide (fun a b => lnk_snoc (L := L) (u := kf) (v := kt) (g := g) (r := r) a b)
      rw [HLn.out] at HSn
      have HG2 : Hid (w2.heap[w.heap.size + 1 + 1]? = some (.cells #[.int .i64 (n : Int), .slice (some ⟨w.heap.size + 1, 0, none⟩) (n * n) (n * n)] 48 (0, 0))) := by show _ = _; rw [HW2.out.block _ (by have := HSz.out; omega)]; exact HGb.out
      have HR2 : Hid (w2.heap[w.heap.size]? = some (.cells #[.int .i64 0, .slice none 0 0] 48 (0, 0))) := by show _ = _; rw [HW2.out.block _ (by have := HSz.out; omega)]; exact HRb.out
      have HB2 := hide (HB.out.trans (HW2.out.mono HB.out.size))
      have HSz2 : Hid (w.heap.size + 1 + 1 + 1 ≤ w2.heap.size) := by show _ ≤ _; have := HSz.out; have := HW2.out.size; omega
      have hne : ¬ wr.heap.size = w.heap.size + 1 := by have := HSz.out; omega
      have hne' : ¬ w.heap.size + 1 = wr.heap.size := by have := HSz.out; omega
      clear HGb HRb HB HSz HW2 HE2 HB0 HE HC HLk
      obtain ⟨T0, hT0⟩ : ∃ x, lnkT L kf kt = x := ⟨_, rfl⟩
      obtain ⟨N0, hN0⟩ : ∃ x, lnkN L kf kt = x := ⟨_, rfl⟩
      obtain ⟨F0, hF0⟩ : ∃ x, lnkF L kf kt = x := ⟨_, rfl⟩
      rw [hT0] at c0
      rw [hN0] at c1
      rw [hF0] at c2
      have HT0 := hide hT0
      have HN0 := hide hN0
      have HF0 := hide hF0
      clear hT0 hN0 hF0
      have fin : ∀ V : World, LinksAt V (w.heap.size + 1) n (upd2 (lnkT L) kf kt true) (upd2 (lnkN L) kf kt (N0 || g)) (upd2 (lnkF L) kf kt (if T0 then F0 else (k : Int))) → LinksAt V (w.heap.size + 1) n (lnkT (es.take (k + 1))) (lnkN (es.take (k + 1))) (lnkF (es.take (k + 1))) := fun V hV => by
        rw [HTk.out]
        refine hV.congr fun a b _ _ => ?_
        obtain ⟨e1, e2, e3⟩ := HSn.out a b
        rw [HN0.out] at e2
        rw [HT0.out, HF0.out] at e3
        exact ⟨e1.symm, e2.symm, e3.symm⟩
      have HFin := hide fin
      clear fin
      cases T0 with
      | true =>
        have HW : Hid (LinksAt (w2.setCell ⟨w.heap.size + 1, (kf * n + kt) * 3 + 1, none⟩ (.bool (N0 || g))) (w.heap.size + 1) n (lnkT (es.take (k + 1))) (lnkN (es.take (k + 1))) (lnkF (es.take (k + 1)))) := by
          refine HFin.out _ (((HL2.out.put HQ.out.1 HQ.out.2).2.1 (N0 || g)).congr fun a b _ _ => ⟨?_, rfl, ?_⟩)
          · unfold upd2; split
            · rename_i h; rw [h.1, h.2]; exact HT0.out
            · rfl
          · unfold upd2; split
            · rename_i h; rw [h.1, h.2]; simpa using HF0.out
            · rfl
        cases N0
        · rw [Bool.false_or] at HW
          go_wp2
          go_roundw
          case rel => exact ⟨k + 1, by omega, by go_num, HW, (by show _ = _; rw [heap_other (by omega)]; exact HG2.out), (by show _ = _; rw [heap_other (by omega)]; exact HR2.out), HB2.out.setCell (by dsimp only; omega) _, by show _ ≤ _; have := HSz2.out; simpa using this⟩
          case measure => simp [intOf]; omega
        · rw [Bool.true_or] at HW
          go_wp2
          go_roundw
          case rel => exact ⟨k + 1, by omega, by go_num, HW, (by show _ = _; rw [heap_other (by omega)]; exact HG2.out), (by show _ = _; rw [heap_other (by omega)]; exact HR2.out), HB2.out.setCell (by dsimp only; omega) _, by show _ ≤ _; have := HSz2.out; simpa using this⟩
          case measure => simp [intOf]; omega
      | false =>
        have HW : Hid (LinksAt (((w2.setCell ⟨w.heap.size + 1, (kf * n + kt) * 3, none⟩ (.bool true)).setCell ⟨w.heap.size + 1, (kf * n + kt) * 3 + 2, none⟩ (.int .i64 (k : Int))).setCell ⟨w.heap.size + 1, (kf * n + kt) * 3 + 1, none⟩ (.bool (N0 || g))) (w.heap.size + 1) n (lnkT (es.take (k + 1))) (lnkN (es.take (k + 1))) (lnkF (es.take (k + 1)))) := by
          refine HFin.out _ ?_
          have h1 := (HL2.out.put HQ.out.1 HQ.out.2).1 true
          have h2 := (h1.put HQ.out.1 HQ.out.2).2.2 (k : Int)
          exact (h2.put HQ.out.1 HQ.out.2).2.1 (N0 || g)
        cases N0
        · rw [Bool.false_or] at HW
          go_wp2
          go_roundw
          case rel => exact ⟨k + 1, by omega, by go_num, HW, (by show _ = _; rw [heap_other (by omega), heap_other (by omega), heap_other (by omega)]; exact HG2.out), (by show _ = _; rw [heap_other (by omega), heap_other (by omega), heap_other (by omega)]; exact HR2.out), ((HB2.out.setCell (by dsimp only; omega) _).setCell (by dsimp only; omega) _).setCell (by dsimp only; omega) _, by show _ ≤ _; have := HSz2.out; simpa using this⟩
          case measure => simp [intOf]; omega
        · rw [Bool.true_or] at HW
          go_wp2
          go_roundw
          case rel => exact ⟨k + 1, by omega, by go_num, HW, (by show _ = _; rw [heap_other (by omega), heap_other (by omega), heap_other (by omega)]; exact HG2.out), (by show _ = _; rw [heap_other (by omega), heap_other (by omega), heap_other (by omega)]; exact HR2.out), ((HB2.out.setCell (by dsimp only; omega) _).setCell (by dsimp only; omega) _).setCell (by dsimp only; omega) _, by show _ ≤ _; have := HSz2.out; simpa using this⟩
          case measure => simp [intOf]; omega
    · obtain rfl : k = es.length := by omega
      have hi : ¬ (es.length : Int) < (es.length : Int) := by omega
      rw [List.take_of_length_le (Nat.le_refl _)] at HLk
      have r0 : wr.cell? ⟨w.heap.size, 0, none⟩ = some (.int .i64 0) := by simp [World.cell?, HRb.out]
      have r1 : wr.cell? ⟨w.heap.size, 1, none⟩ = some (.slice none 0 0) := by simp [World.cell?, HRb.out]
      have f0 : wr.frozen? ⟨w.heap.size, 0, none⟩ = false := by simp [World.frozen?, HRb.out]
      have f1 : wr.frozen? ⟨w.heap.size, 1, none⟩ = false := by simp [World.frozen?, HRb.out]
      go_wp2
      have HLf : Hid (LinksAt ((wr.setCell ⟨w.heap.size, 0, none⟩ (.int .i64 (n : Int))).setCell ⟨w.heap.size, 1, none⟩ (.slice (some ⟨w.heap.size + 1, 0, none⟩) (n * n) (n * n))) (w.heap.size + 1) n (lnkT es) (lnkN es) (lnkF es)) := HLk.out.same (by simp [World.setCell, Array.getElem?_modify])
      exact bodyPost_ret (v := .agg #[.int .i64 (n : Int), .slice (some ⟨w.heap.size + 1, 0, none⟩) (n * n) (n * n)]) (by simp [results, Try.results25, go_sem, r0, r1]) rfl ⟨_, rfl, by omega, HLf.out, (HB.out.setCell (by dsimp only; omega) _).setCell (by dsimp only; omega) _⟩
end Go.Proofs.Ytjifhmlfnnagcaa
