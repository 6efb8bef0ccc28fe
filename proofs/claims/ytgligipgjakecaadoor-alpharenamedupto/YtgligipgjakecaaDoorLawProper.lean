/- The law's proper, merged and put: a pattern made anew, slot by slot. (By mk_pat.py.) -/
import Derived.Test.YtgligipgjakecaaDoorPatBuild
import Derived.Test.YtgligipgjakecaaDoorAlphaSame
namespace Go.Proofs.YtgligipgjakecaaDoor
set_option linter.unusedSimpArgs false
set_option linter.unusedVariables false
open Go.RowKit

def mergeS (a b : Int) (s : Slo) : Slo := subS (fun n => if n = a then ⟨true, b⟩ else ⟨true, n⟩) s
def putS (a c : Int) (s : Slo) : Slo := subS (fun n => if n = a then ⟨false, max c 0⟩ else ⟨true, n⟩) s
theorem slo_ext {s t : Slo} (h1 : s.v = t.v) (h2 : s.n = t.n) : s = t := by cases s; cases t; cases h1; cases h2; rfl
theorem proper_var {s : Slo} (h : s.v = true) : properS s = s := if_pos h
theorem proper_con {s : Slo} (h : s.v = false) : properS s = ⟨false, max s.n 0⟩ := if_neg (by rw [h]; decide)
theorem merge_con {a b : Int} {s : Slo} (h : s.v = false) : mergeS a b s = s := if_neg (by rw [h]; decide)
theorem merge_hit {a b : Int} {s : Slo} (h : s.v = true) (hn : s.n = a) : mergeS a b s = ⟨true, b⟩ := by unfold mergeS subS; rw [if_pos h]; exact if_pos hn
theorem merge_miss {a b : Int} {s : Slo} (h : s.v = true) (hn : ¬ s.n = a) : mergeS a b s = s := by unfold mergeS subS; rw [if_pos h]; exact (if_neg hn).trans (slo_ext h.symm rfl)
theorem put_con {a b : Int} {s : Slo} (h : s.v = false) : putS a b s = s := if_neg (by rw [h]; decide)
theorem put_hit {a b : Int} {s : Slo} (h : s.v = true) (hn : s.n = a) : putS a b s = ⟨false, max b 0⟩ := by unfold putS subS; rw [if_pos h]; exact if_pos hn
theorem put_miss {a b : Int} {s : Slo} (h : s.v = true) (hn : ¬ s.n = a) : putS a b s = s := by unfold putS subS; rw [if_pos h]; exact (if_neg hn).trans (slo_ext h.symm rfl)
theorem max0_i64 {x : Int} (h : I64 x) : I64 (max x 0) := by obtain ⟨h1, h2⟩ := h; exact ⟨by omega, by omega⟩
theorem max_alt (x : Int) : (if x < 0 then (0 : Int) else x) = max x 0 := by split <;> omega

theorem boxes3 {w : World} {q Q : Int} {v : Value} {W : World} (hW : W = ((w.alloc (.cells #[.int .i64 q, v] 29)).alloc (.cells #[.int .i64 0, .slice none 0 0] 29)).alloc (.cells #[.int .i64 Q, .slice none 0 0] 29)) :
    Below w.heap.size w W ∧ W.cell? ⟨w.heap.size, 0, none⟩ = some (.int .i64 q) ∧ W.cell? ⟨w.heap.size, 1, none⟩ = some v ∧ W.heap[w.heap.size + 1]? = some (.cells #[.int .i64 0, .slice none 0 0] 29 (0, 0)) ∧ PatAt W W (w.heap.size + 1 + 1) (w.heap.size + 1 + 1 + 1) Q (.slice none 0 0) [] := by
  subst hW
  have h1 := heap_alloc_new (w.alloc (.cells #[.int .i64 q, v] 29)) (.cells #[.int .i64 0, .slice none 0 0] 29)
  have h2 := heap_alloc_new ((w.alloc (.cells #[.int .i64 q, v] 29)).alloc (.cells #[.int .i64 0, .slice none 0 0] 29)) (.cells #[.int .i64 Q, .slice none 0 0] 29)
  simp only [size_alloc10] at h1 h2
  refine ⟨belot (belot (belo1 w _) (belo1 _ _)) (belo1 _ _), kept_cell (belot (belo1 _ _) (belo1 _ _)) (new_cells (cs := #[.int .i64 q, v]) 0 _ rfl), kept_cell (belot (belo1 _ _) (belo1 _ _)) (new_cells (cs := #[.int .i64 q, v]) 1 _ rfl), ?_, h2, Grow.nil _ _ _ _, Below.refl _ _, by omega, by simp only [size_alloc10]; omega⟩
  rw [(belo1 _ _).block _ (by simp only [size_alloc10]; omega)]
  exact h1

set_option maxRecDepth 100000 in
set_option maxHeartbeats 4000000 in
theorem proper_any {w : World} {q : Int} {v : Value} {ss : List Slo} (hq : I64 q) (h : Has elSlo w v ss) :
    Calls Tryd.prog 12 #[.agg #[.int .i64 q, v]] w fun e w' => ∃ u, e = .returned (.agg #[.int .i64 (max q 0), u]) ∧ Grow elSlo 37 w.heap.size w' u (ss.map (properS)) ∧ Below w.heap.size w w' := by
  obtain ⟨i0, hi0', hz0, hz1, hz2⟩ := info_parts Tryd.infoSlo
  obtain ⟨va, vc, rfl, -, -, hlen⟩ := h.shape
  obtain ⟨Q, hQ⟩ : ∃ Q, max q 0 = Q := ⟨_, rfl⟩
  have hmax : (if q < 0 then (0 : Int) else q) = Q := by rw [← hQ]; exact max_alt q
  rw [hQ]
  clear hQ
  obtain ⟨W, hW⟩ : ∃ W, W = ((w.alloc (.cells #[.int .i64 q, .slice va ss.length vc] 29)).alloc (.cells #[.int .i64 0, .slice none 0 0] 29)).alloc (.cells #[.int .i64 Q, .slice none 0 0] 29) := ⟨_, rfl⟩
  obtain ⟨hb, c0, c1, hr, hP⟩ := boxes3 hW
  have HWb := hide hb
  have HLs := hide (h.kept hb)
  have HP0 := hide hP
  have HR0 := hide hr
  have HC := hide c1
  have HWd := hide hW
  obtain ⟨qb, hqb⟩ : ∃ qb, w.heap.size + 1 + 1 = qb := ⟨_, rfl⟩
  have HQb := hide hqb
  rw [hqb] at HP0
  have HL0 : Hid (Lst elSlo W (fun b => b < w.heap.size) (.slice va ss.length vc) ss) := h.move fun b hlt _ => ⟨hlt, hb.block b hlt⟩
  clear h hb c0 c1 hr hP hW hqb HLs
  go_enter Tryd.func12, Tryd.ntmps12
  go_wp2
  rw [← HWd.out, HQb.out]
  have hqb : w.heap.size + 1 < qb := by have := HQb.out; omega
  clear HWd HQb
  go_loopw [4] (fun i wl => ∃ (k : Nat) (u : Value), k ≤ ss.length ∧ i = .int .i64 k ∧ Hid (PatAt W wl qb (qb + 1) Q u ((ss.take k).map (properS)))) (fun i _ => ss.length - (intOf i).toNat)
  case atStart => exact ⟨0, _, by omega, rfl, HP0⟩
  case round =>
    obtain ⟨k, u, hk, rfl, HP⟩ := hrel
    have d1 := below_cell HP.out.low HC.out (by dsimp only; omega)
    have HLk : Hid (((ss.take k).map (properS)).length = k) := by show _ = _; rw [List.length_map, List.length_take]; omega
    obtain ⟨ua, uc, hu, -, -⟩ := HP.out.row.shape
    rw [HLk.out] at hu
    subst hu
    by_cases hlt : k < ss.length
    · have hi : (k : Int) < (ss.length : Int) := by omega
      have hi0 : (0 : Int) ≤ (k : Int) := by omega
      have HLr : Hid (Lst elSlo wr (fun b => b < w.heap.size) (.slice va ss.length vc) ss) := HL0.out.move fun b hb hF => ⟨hF, HP.out.low.block b (by omega)⟩
      obtain ⟨b, off, rfl, -, hbw, hrow⟩ := HLr.out.row (by omega)
      obtain ⟨s, hs⟩ : ∃ s, ss[k]? = some s := ⟨_, List.getElem?_eq_getElem hlt⟩
      have y0 := hrow k s hs 0 _ rfl
      have y1 := hrow k s hs 1 _ rfl
      simp only [elSlo, Nat.add_zero] at y0 y1
      have hsn : I64 s.n := HLr.out.ok (List.mem_of_getElem? hs)
      have HTk : Hid ((ss.take (k + 1)).map (properS) = (ss.take k).map (properS) ++ [properS s]) := by show _ = _; rw [List.take_add_one, hs, List.map_append]; rfl
      clear hrow hs
      cases hv : s.v with
      | true =>
        rw [hv] at y0
        have HEq : Hid (properS s = ⟨true, s.n⟩) := by show _ = _; rw [proper_var hv]; exact slo_ext hv rfl
        have htn : I64 (s.n) := hsn
        have HB1 : Hid (Below wr.heap.size wr ((wr.alloc (.cells #[.bool true, .int .i64 (s.n)] 37)).alloc (.cells #[.bool true, .int .i64 (s.n)] 37))) := belot (belo1 wr _) (belo1 _ _)
        have HG2 := hide (HP.out.row.kept HB1.out)
        have HB2 : Hid (Below (qb + 1) wr ((wr.alloc (.cells #[.bool true, .int .i64 (s.n)] 37)).alloc (.cells #[.bool true, .int .i64 (s.n)] 37))) := HB1.out.mono HP.out.sz
        have HS2 : Hid (qb + 1 ≤ ((wr.alloc (.cells #[.bool true, .int .i64 (s.n)] 37)).alloc (.cells #[.bool true, .int .i64 (s.n)] 37)).heap.size) := by show _ ≤ _; have := HP.out.sz; simp only [size_alloc10]; omega
        have HNw : Hid (∀ (j : Nat) (u : Value), (elSlo.cells (⟨true, s.n⟩ : Slo))[j]? = some u → ((wr.alloc (.cells #[.bool true, .int .i64 (s.n)] 37)).alloc (.cells #[.bool true, .int .i64 (s.n)] 37)).cell? ⟨wr.heap.size + 1, j, none⟩ = some u) := fun j u hu => by
          have h1 := slot_new (V := wr.alloc (.cells #[.bool true, .int .i64 (s.n)] 37)) (s := ⟨true, s.n⟩) (t := 37) j u hu
          simp only [size_alloc10] at h1
          exact h1
        have p1 := HP.out.c1
        have p2 := kept_cell (belo1 wr (.cells #[.bool true, .int .i64 (s.n)] 37)) p1
        have hne : qb ≠ wr.heap.size := by have := HP.out.sz; omega
        go_wp2_with (at_builtin; refine wpList_push (w0 := wr) elSlo rfl _ _ 27 rfl (qb + 1) 37 i0 _ 16 Tryd.underlying27 hi0' hz0 hz1 hz2 rfl (by decide) _ ((ss.take k).map (properS)) k HLk.out rfl HG2.out (⟨true, s.n⟩ : Slo) (wr.heap.size + 1) 1 rfl HNw.out htn (by omega) HB2.out HS2.out ?_; intro g cap' w1 HG1 HB1' HGr; obtain ⟨t0, t1, t2, hPn⟩ := HP.out.grown HG1.out HB1'.out; have HPn := hide hPn; clear HGr hPn t0)
        go_roundw
        case rel => exact ⟨k + 1, _, by omega, by go_num, by rw [HTk.out, HEq.out]; exact HPn⟩
        case measure => simp [intOf]; omega
      | false =>
        rw [hv] at y0
        have hmx := max_alt s.n
        obtain ⟨M, hM⟩ : ∃ M, max s.n 0 = M := ⟨_, rfl⟩
        rw [hM] at hmx
        have HMx := hide hM
        have hMi : I64 M := by rw [← hM]; exact max0_i64 hsn
        clear hM
        have HEq : Hid (properS s = ⟨false, M⟩) := by show _ = _; rw [proper_con hv, HMx.out]
        have htn : I64 (M) := hMi
        have HB1 : Hid (Below wr.heap.size wr ((wr.alloc (.cells #[.bool false, .int .i64 (M)] 37)).alloc (.cells #[.bool false, .int .i64 (M)] 37))) := belot (belo1 wr _) (belo1 _ _)
        have HG2 := hide (HP.out.row.kept HB1.out)
        have HB2 : Hid (Below (qb + 1) wr ((wr.alloc (.cells #[.bool false, .int .i64 (M)] 37)).alloc (.cells #[.bool false, .int .i64 (M)] 37))) := HB1.out.mono HP.out.sz
        have HS2 : Hid (qb + 1 ≤ ((wr.alloc (.cells #[.bool false, .int .i64 (M)] 37)).alloc (.cells #[.bool false, .int .i64 (M)] 37)).heap.size) := by show _ ≤ _; have := HP.out.sz; simp only [size_alloc10]; omega
        have HNw : Hid (∀ (j : Nat) (u : Value), (elSlo.cells (⟨false, M⟩ : Slo))[j]? = some u → ((wr.alloc (.cells #[.bool false, .int .i64 (M)] 37)).alloc (.cells #[.bool false, .int .i64 (M)] 37)).cell? ⟨wr.heap.size + 1, j, none⟩ = some u) := fun j u hu => by
          have h1 := slot_new (V := wr.alloc (.cells #[.bool false, .int .i64 (M)] 37)) (s := ⟨false, M⟩) (t := 37) j u hu
          simp only [size_alloc10] at h1
          exact h1
        have p1 := HP.out.c1
        have p2 := kept_cell (belo1 wr (.cells #[.bool false, .int .i64 (M)] 37)) p1
        have hne : qb ≠ wr.heap.size := by have := HP.out.sz; omega
        go_wp2_with (at_builtin; refine wpList_push (w0 := wr) elSlo rfl _ _ 27 rfl (qb + 1) 37 i0 _ 16 Tryd.underlying27 hi0' hz0 hz1 hz2 rfl (by decide) _ ((ss.take k).map (properS)) k HLk.out rfl HG2.out (⟨false, M⟩ : Slo) (wr.heap.size + 1) 1 rfl HNw.out htn (by omega) HB2.out HS2.out ?_; intro g cap' w1 HG1 HB1' HGr; obtain ⟨t0, t1, t2, hPn⟩ := HP.out.grown HG1.out HB1'.out; have HPn := hide hPn; clear HGr hPn t0)
        go_roundw
        case rel => exact ⟨k + 1, _, by omega, by go_num, by rw [HTk.out, HEq.out]; exact HPn⟩
        case measure => simp [intOf]; omega
    · obtain rfl : k = ss.length := by omega
      have hi : ¬ (ss.length : Int) < (ss.length : Int) := by omega
      rw [List.take_of_length_le (Nat.le_refl _)] at HP
      have HRr : Hid (wr.heap[w.heap.size + 1]? = some (.cells #[.int .i64 0, .slice none 0 0] 29 (0, 0))) := by show _ = _; rw [HP.out.low.block _ (by omega)]; exact HR0.out
      have r0 : wr.cell? ⟨w.heap.size + 1, 0, none⟩ = some (.int .i64 0) := by simp [World.cell?, HRr.out]
      have r1 : wr.cell? ⟨w.heap.size + 1, 1, none⟩ = some (.slice none 0 0) := by simp [World.cell?, HRr.out]
      have q0 : wr.frozen? ⟨w.heap.size + 1, 0, none⟩ = false := by simp [World.frozen?, HRr.out]
      have q1 : wr.frozen? ⟨w.heap.size + 1, 1, none⟩ = false := by simp [World.frozen?, HRr.out]
      have p0 := HP.out.c0
      have p1 := HP.out.c1
      go_wp2
      refine bodyPost_ret (v := .agg #[.int .i64 Q, .slice ua ss.length uc]) (by simp [results, Tryd.results12, go_sem, r0, r1]) rfl ⟨_, rfl, ?_, ((HWb.out.trans (HP.out.low.mono (by omega))).setCell (by dsimp only; omega) _).setCell (by dsimp only; omega) _⟩
      refine (HP.out.row.above fun b hb _ => ?_).mono (by omega)
      rw [Below.heap_setCell _ _ _ _ (by dsimp only; omega), Below.heap_setCell _ _ _ _ (by dsimp only; omega)]


end Go.Proofs.YtgligipgjakecaaDoor
