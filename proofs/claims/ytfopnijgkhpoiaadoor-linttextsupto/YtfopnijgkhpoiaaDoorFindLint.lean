/- lint.Text: the findings' lines, one behind the other. -/
import Derived.Test.YtfopnijgkhpoiaaDoorProg
import Derived.Test.YtfopnijgkhpoiaaDoorFindMem
namespace Go.Proofs.YtfopnijgkhpoiaaDoor
set_option linter.unusedSimpArgs false
set_option linter.unusedVariables false
open Go.RowKit

set_option maxHeartbeats 8000000 in
set_option maxRecDepth 100000 in
theorem lintText_any {w : World} {v : Value} {fs : List Fnd} (src : ByteArray) (h : Has elFnd w v fs) (hs : src.size ≤ 2000000) (hfl : fs.length ≤ 1048576) (ht : TabI w) :
    Calls Tryd.prog 5 #[.string src, v] w fun e w' => e = .returned (.string ⟨(textL src fs).toArray⟩) ∧ Below w.heap.size w w' := by
  obtain ⟨ao, cap, rfl, -, -, hlen⟩ := h.shape
  have HOk : Hid (∀ p ∈ fs, p.ok) := fun p hp => h.ok hp
  have HP := hide h
  have HT := hide ht
  have htl := ht.lt
  clear h ht
  obtain ⟨n, hn⟩ : ∃ n, n = fs.length := ⟨_, rfl⟩
  rw [← hn] at hlen hfl ⊢
  have HN := hide hn
  clear hn
  obtain ⟨B, hB⟩ : ∃ B, B = w.heap.size := ⟨_, rfl⟩
  have H0 : Hid (BIs B [] (w.alloc (.cells #[.pointer none, .slice none 0 0] 34))) := by rw [hB]; exact Lib.fresh_isBuilder _ _ w
  have HB0 : Hid (Below B w (w.alloc (.cells #[.pointer none, .slice none 0 0] 34))) := by rw [hB]; exact (Below.refl _ _).alloc (Nat.le_refl _) _
  have HBe := hide hB
  rw [← hB] at htl
  go_enter Tryd.func5, Tryd.ntmps5
  go_wp2_with fail
  rw [← hB]
  clear hB
  generalize w.alloc (.cells #[.pointer none, .slice none 0 0] 34) = W0 at *
  go_loopw [11] (fun i wl => ∃ k : Nat, k ≤ n ∧ i = .int .i64 k ∧ Hid (BIs B (textL src (fs.take k)) wl) ∧ Hid (Below B w wl)) (fun i _ => n - (intOf i).toNat)
  case atStart => exact ⟨0, Nat.zero_le _, rfl, H0.out, HB0.out⟩
  case round =>
    clear H0 HB0
    obtain ⟨k, hk, rfl, HI, HB⟩ := hrel
    have hBw := HI.out.lt
    by_cases hlt : k < n
    · have hi : (k : Int) < (n : Int) := by omega
      have hi0' : (0 : Int) ≤ (k : Int) := by omega
      obtain ⟨x, hx⟩ : ∃ x, fs[k]? = some x := ⟨_, List.getElem?_eq_getElem (by have := HN.out; omega)⟩
      obtain ⟨pb, off, rfl, hpb, -, hrow⟩ := (HP.out).row (by have := HN.out; omega)
      have hok := HOk.out x (List.mem_of_getElem? hx)
      have hpB : pb < B := by rw [HBe.out]; exact hpb
      have c0 := below_cell HB.out (hrow k x hx 0 _ rfl) hpB
      have c1 := below_cell HB.out (hrow k x hx 1 _ rfl) hpB
      have c2 := below_cell HB.out (hrow k x hx 2 _ rfl) hpB
      have c3 := below_cell HB.out (hrow k x hx 3 _ rfl) hpB
      have c4 := below_cell HB.out (hrow k x hx 4 _ rfl) hpB
      simp only [elFnd, Nat.add_zero] at c0 c1 c2 c3 c4
      have HTk : Hid (textL src (fs.take (k + 1)) = textL src (fs.take k) ++ x.line src) := text_take src fs hx
      have HTl : Hid ((textL src (fs.take k)).length ≤ 10000000000000) := by
        show _ ≤ _
        have := text_len hs (take_ok HOk.out k)
        have h2 : (fs.take k).length ≤ k := by rw [List.length_take]; omega
        omega
      have hml := Fnd.msg_len hok
      obtain ⟨q1, q2, q3, q4⟩ := hok
      have HM : Hid (∀ W, Below B w W → Calls Tryd.prog 9 #[.agg #[.int .i64 x.k, .int .i64 x.c, .int .i64 x.o, .int .i64 x.f, .string x.nm]] W fun e w' => e = .returned (.string ⟨x.msg.toArray⟩) ∧ Below W.heap.size W w') := fun W hb => mess_any x.k x.c x.o x.f x.nm W q1 q2 (by omega) (HT.out.keptB hb htl)
      have HW : Hid (∀ (W : World) (l : List UInt8), l.length ≤ 10000000000000 → BIs B l W → Below B w W → Calls Tryd.prog 10 #[.pointer (some ⟨B, 0, none⟩), .string src, .int .i64 x.f, .string ⟨x.msg.toArray⟩] W fun e w' => e = .returned (.tuple #[]) ∧ BIs B (l ++ lineL src x.f x.msg) w' ∧ Below B W w') := fun W l hl hI hb => writeLine_any src _ x.f x.msg rfl hs q3 (by omega) (by omega) hI (HT.out.keptB hb htl) htl
      have HLn : Hid (x.line src = if x.msg = [] then [] else lineL src x.f x.msg) := rfl
      obtain ⟨M, hM⟩ : ∃ M, M = x.msg := ⟨_, rfl⟩
      rw [← hM] at HM HW HLn
      obtain ⟨MB, hMB⟩ : ∃ MB : ByteArray, MB = ⟨M.toArray⟩ := ⟨_, rfl⟩
      rw [← hMB] at HM HW
      clear hrow hx q1 q2 q3 q4 hml hM HP
      have HMB := hide hMB
      clear hMB
      by_cases hm : M = []
      · have hMe := mt_nil HMB.out hm
        rw [hMe] at HM
        have HLe : Hid (x.line src = []) := by show _ = _; rw [HLn.out, if_pos hm]
        clear hMe hm HMB
        go_wp2_with (go_at_call 9; refine (HM.out _ (HB.out.alloc (Nat.le_of_lt hBw) _)).mono ?_; rintro e w2 ⟨rfl, hb2⟩; have HB2 := hide ((HB.out.alloc (Nat.le_of_lt hBw) _).trans (hb2.mono (by simp; omega))); have HI2 := hide ((HI.out.kept ((Below.refl _ _).alloc (Nat.le_refl _) _)).kept hb2); clear hb2)
        go_roundw
        case rel => exact ⟨k + 1, by omega, by go_num, by (show BIs _ _ _; rw [HTk.out, HLe.out, List.append_nil]; exact HI2.out), HB2.out⟩
        case measure => simp [intOf]; omega
      · obtain ⟨hn1, hn2⟩ := mt_not HMB.out hm
        have HLe : Hid (x.line src = lineL src x.f M) := by show _ = _; rw [HLn.out, if_neg hm]
        clear hm HMB
        go_wp2_with fail
        refine (HM.out _ (HB.out.alloc (Nat.le_of_lt hBw) _)).mono ?_
        rintro e w2 ⟨rfl, hb2⟩
        have hbx : w2.heap[wr.heap.size]? = some (.cells #[.int .i64 x.k, .int .i64 x.c, .int .i64 x.o, .int .i64 x.f, .string x.nm] 27 (0, 0)) := (hb2.block wr.heap.size (by simp)).trans (heap_alloc_new wr _)
        have z3 : w2.cell? ⟨wr.heap.size, 3, none⟩ = some (.int .i64 x.f) := by
          rw [Lib.cell_of_heap hbx]
          rfl
        have HB2 := hide ((HB.out.alloc (Nat.le_of_lt hBw) _).trans (hb2.mono (by simp; omega)))
        have HI2 := hide ((HI.out.kept ((Below.refl _ _).alloc (Nat.le_refl _) _)).kept hb2)
        clear hb2 hbx
        go_wp2_with fail
        refine (HW.out _ _ HTl.out HI2.out HB2.out).mono ?_
        rintro e w3 ⟨rfl, h3, hb3⟩
        have HI3 := hide h3
        have HB3 := hide (HB2.out.trans hb3)
        clear h3 hb3 z3
        go_wp2
        go_roundw
        case rel => exact ⟨k + 1, by omega, by go_num, by (show BIs _ _ _; rw [HTk.out, HLe.out]; exact HI3.out), HB3.out⟩
        case measure => simp [intOf]; omega
    · obtain rfl : k = n := by omega
      have hi : ¬ (k : Int) < (k : Int) := by omega
      have HS := hide (str_any HI.out)
      rw [List.take_of_length_le (by rw [HN.out]; exact Nat.le_refl _)] at HS
      go_wp2_with (go_at_call 11; refine HS.out.mono ?_; rintro e w2 ⟨rfl, hb2⟩)
      go_ret
      exact ⟨rfl, by rw [← HBe.out]; exact HB.out.trans hb2⟩
end Go.Proofs.YtfopnijgkhpoiaaDoor
