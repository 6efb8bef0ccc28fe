/- alpha.Distinct. -/
import Derived.Test.YtgligipgjakecaaDoorAlphaMeet
import Derived.Test.YtgligipgjakecaaDoorAlphaShape
import Derived.Test.YtgligipgjakecaaDoorDistPure
import Derived.Test.YtgligipgjakecaaDoorPush
namespace Go.Proofs.YtgligipgjakecaaDoor
set_option linter.unusedSimpArgs false
set_option linter.unusedVariables false
open Go.RowKit Go.Maps

theorem Tryd.infoShp10 : (Tryd.prog.info? 25).map (fun i => (i.zero, i.size, i.bytes)) = some (some (.agg #[.int .i64 0, .slice none 0 0]), 2, 32) := by kernel_rfl
theorem vld_none : vldB (-1) [] = false := vldB_no fun h => by have := h.1; omega
theorem has_none (w : World) : Has elInt w (.slice none 0 0) [] := Lst.nil _ _ _

set_option maxRecDepth 100000 in
set_option maxHeartbeats 4000000 in
theorem distinct_any {w : World} {v : Value} {ps : List Pat} (h : Has elPat w v ps) (ht : TabLaid w) :
    Calls Tryd.prog 11 #[v] w fun e w' => ∃ u, e = .returned u ∧ ∃ l, Has elRoe w' u l ∧ l.map rk = distL ps ∧ Below w.heap.size w w' := by
  obtain ⟨i0, hi0', hz0, hz1, hz2⟩ := info_parts Tryd.infoShp10
  obtain ⟨va, vc, rfl, -, -, hlen⟩ := h.shape
  have hmm := @run_makeMap Tryd.prog
  obtain ⟨W, hW⟩ : ∃ W, W = w.alloc (.map #[] 0) := ⟨_, rfl⟩
  obtain ⟨m, hm⟩ : ∃ m, w.heap.size = m := ⟨_, rfl⟩
  have HWb : Hid (Below w.heap.size w W) := by rw [hW]; exact belo1 _ _
  have HWs : Hid (W.heap.size = m + 1) := by rw [hW, ← hm]; exact size_alloc10 _ _
  have HM0 : Hid (MeetAt W m 0 []) := by
    refine ⟨fun _ => none, ?_, fun q cs h => (by cases h), fun _ _ _ => rfl⟩
    rw [hW, ← hm]
    exact MapVal.made Tryd.prog 9 w
  have HL0 : Hid (Lst elPat W (fun b => b < m) (.slice va ps.length vc) ps) := h.move fun b hb _ => ⟨by rw [← hm]; exact hb, HWb.out.block b hb⟩
  have HTl : Hid (∀ V : World, Below w.heap.size w V → TabLaid V) := fun V hV => ht.kept hV
  have HWd := hide hW
  have HMd := hide hm
  clear h ht hW hm
  go_enter Tryd.func11, Tryd.ntmps11
  go_wp2
  rw [← HWd.out, HMd.out]
  have hms : w.heap.size = m := HMd.out
  clear HWd HMd hmm
  go_loopw [3, 11] (fun s i wl => ∃ (k : Nat) (l : List Roe), k ≤ ps.length ∧ i = .int .i64 k ∧ Hid (l.map rk = distL (ps.take k)) ∧ Hid (Grow elRoe 25 (m + 1) wl s l) ∧ Hid (MeetAt wl m k (distL (ps.take k))) ∧ Hid (Only (fun b => b = m) W wl)) (fun _ i _ => ps.length - (intOf i).toNat)
  case atStart => exact ⟨0, [], by omega, rfl, rfl, Grow.nil _ _ _ _, HM0, Only.refl _ _⟩
  case round =>
    obtain ⟨k, l, hk, rfl, HE, HG, HM, HO⟩ := hrel
    have HBw : Hid (Below w.heap.size w wr) := HWb.out.trans (HO.out.below (by have := HWs.out; omega) (fun b hb => by omega))
    have HLn : Hid (l.length ≤ k) := by
      show _ ≤ _
      have h1 := congrArg List.length HE.out
      have h2 := distL_len ps k
      rw [List.length_map] at h1
      omega
    obtain ⟨ga, gc, hgv, -, -⟩ := HG.out.shape
    subst hgv
    by_cases hlt : k < ps.length
    · have hi : (k : Int) < (ps.length : Int) := by omega
      have hi0 : (0 : Int) ≤ (k : Int) := by omega
      have HLr : Hid (Lst elPat wr (fun b => b < m) (.slice va ps.length vc) ps) := HL0.out.move fun b hb hF => ⟨hF, HO.out.block b hb (by omega)⟩
      obtain ⟨b, off, rfl, -, hbm, hrow⟩ := HLr.out.row (by omega)
      obtain ⟨p, hp⟩ : ∃ p, ps[k]? = some p := ⟨_, List.getElem?_eq_getElem hlt⟩
      have y0 := hrow k p hp 0 _ rfl
      have y1 := hrow k p hp 1 _ rfl
      simp only [elPat, Nat.add_zero] at y0 y1
      have hpk := elPat_ok (HLr.out.ok (List.mem_of_getElem? hp))
      have HPs := hide hpk.2.all
      have hpq := hpk.1
      obtain ⟨pa, pc, hpv, -, -, -⟩ := hpk.2.shape
      have HTk := hide (distL_snoc hp)
      obtain ⟨q, pv, ss⟩ := p
      dsimp only at y0 y1 hpk HPs hpq hpv
      subst hpv
      clear hrow hp hpk
      have HB1 : Hid (Below wr.heap.size wr (wr.alloc (.cells #[.int .i64 q, .slice pa ss.length pc] 29))) := belo1 _ _
      have HSh := hide (shape_any (q := q) (HPs.out.kept HB1.out))
      by_cases hok : ShapeOk q ss
      · have HSk : Hid (Calls Tryd.prog 6 #[.agg #[.int .i64 q, .slice pa ss.length pc]] (wr.alloc (.cells #[.int .i64 q, .slice pa ss.length pc] 29)) fun e w' => ∃ u, e = .returned (.agg #[.int .i64 q, u]) ∧ Lst elInt w' (fun b => wr.heap.size ≤ b) u (shapeC ss) ∧ Below wr.heap.size wr w') := HSh.out.mono fun e w' ⟨ha, hb⟩ => by
          rcases ha with ⟨_, u, he, hl⟩ | ⟨hno, _⟩
          · exact ⟨u, he, hl.move fun b _ hF => ⟨by simp only [size_alloc10] at hF; omega, rfl⟩, belot HB1.out hb⟩
          · exact absurd hok hno
        have HVd := hide (vldB_yes (shape_vld hok))
        have HCl : Hid (∀ c ∈ shapeC ss, True) := fun _ _ => trivial
        clear HSh
        go_upto_region 7 with (go_at_call 6; refine HSk.out.mono ?_; rintro e w2 ⟨u, rfl, hl, hb⟩; have HL2 := hide hl; have HB2 := hide hb; obtain ⟨ua, uc, hu, -⟩ := hl.shape; subst hu; clear hl hb)
        obtain ⟨V1, hV1⟩ : ∃ V1, V1 = w2.alloc (.cells #[.int .i64 q, .slice ua (shapeC ss).length uc] 25) := ⟨_, rfl⟩
        have HV1b : Hid (Below w2.heap.size w2 V1) := by rw [hV1]; exact belo1 _ _
        have e0 : V1.cell? ⟨w2.heap.size, 0, none⟩ = some (.int .i64 q) := by rw [hV1]; exact new_cells (cs := #[.int .i64 q, .slice ua (shapeC ss).length uc]) 0 _ rfl
        have e1 : V1.cell? ⟨w2.heap.size, 1, none⟩ = some (.slice ua (shapeC ss).length uc) := by rw [hV1]; exact new_cells (cs := #[.int .i64 q, .slice ua (shapeC ss).length uc]) 1 _ rfl
        obtain ⟨SB, hSB⟩ : ∃ SB, w2.heap.size = SB := ⟨_, rfl⟩
        have HVb : Hid (Below wr.heap.size wr V1) := belot HB2.out HV1b.out
        have HL3 : Hid (Lst elInt V1 (fun b => wr.heap.size ≤ b) (.slice ua (shapeC ss).length uc) (shapeC ss)) := HL2.out.move fun b hb hF => ⟨hF, HV1b.out.block b hb⟩
        have HM1 := hide (HM.out.kept HVb.out)
        have HG1 := hide (HG.out.kept HVb.out)
        have HSm : Hid (m < SB) := by show _ < _; have := HM.out.lt; have := HB2.out.size; omega
        have HO1 : Hid (Only (fun b => b = m) W V1) := HO.out.trans (Only.of_below HVb.out _)
        have HT1 := hide (HTl.out _ (HBw.out.trans (HVb.out.mono HBw.out.size)))
        rw [← hV1]
        rw [hSB] at e0 e1 ⊢
        clear hV1 hSB y0 y1 HSk HL2 HB2 HV1b
        have HCv := hide (valid_any (q := q) HL3.out.all)
        rw [HVd.out] at HCv
        obtain ⟨cs, hcs⟩ : ∃ cs, shapeC ss = cs := ⟨_, rfl⟩
        have HCs := hide hcs
        rw [hcs] at HCv HL3 e1 ⊢
        clear hcs
        by_cases hin : (q, cs) ∈ distL (ps.take k)
        · have HEq : Hid (distL (ps.take (k + 1)) = distL (ps.take k)) := by show _ = _; rw [HTk.out]; exact distS_old (by dsimp only; rw [HCs.out]; exact hin)
          go_wp2_with (first
            | (go_at_call 8; refine HCv.out.mono ?_; rintro e w3 ⟨rfl, h3⟩; have HY3 := hide h3; have HC3 := hide (isNew_old (HM1.out.kept h3) hpq (HL3.out.all.kept h3) (HT1.out.kept h3) hin); have f0 := kept_cell h3 e0; have f1 := kept_cell h3 e1; clear h3 e0 e1)
            | (go_at_call 20; refine HC3.out.mono ?_; rintro e w4 ⟨rfl, h4⟩; have HY4 := hide (belot HY3.out h4); clear h4 HC3))
          go_roundw
          case rel => exact ⟨k + 1, l, by omega, by go_num, by rw [HEq.out]; exact HE, HG1.out.kept HY4.out, by rw [HEq.out]; exact (HM1.out.kept HY4.out).mono (by omega), HO1.out.trans (Only.of_below HY4.out _)⟩
          case measure => simp [intOf]; omega
        · have HEq : Hid (distL (ps.take (k + 1)) = distL (ps.take k) ++ [(q, cs)]) := by show _ = _; rw [HTk.out, ← HCs.out]; exact distS_new hok (by dsimp only; rw [HCs.out]; exact hin)
          have hl30 : l.length + 1 < 1073741824 := by have := HLn.out; omega
          go_upto_region 8 with (first
            | (go_at_call 8; refine HCv.out.mono ?_; rintro e w3 ⟨rfl, h3⟩; have HY3 := hide h3; have HC3 := hide (isNew_new (HM1.out.kept h3) (by omega) hpq (HL3.out.all.kept h3) (HT1.out.kept h3) hin); have f0 := kept_cell h3 e0; have f1 := kept_cell h3 e1; clear h3 e0 e1)
            | (go_at_call 20; refine HC3.out.mono ?_; rintro e w4 ⟨rfl, hm4, ho4⟩; have HM4 := hide hm4; have HO4 := hide ho4; have g0 := ho4.cell f0 (by dsimp only; have := HSm.out; omega); have g1 := ho4.cell f1 (by dsimp only; have := HSm.out; omega); clear hm4 ho4 HC3 f0 f1))
          have HG3 := hide (HG1.out.kept HY3.out)
          have HG4 : Hid (Grow elRoe 25 (m + 1) w4 (.slice ga l.length gc) l) := HG3.out.above fun b hb hlt => HO4.out.block b hlt (by omega)
          have HL4 : Hid (Lst elInt w4 (fun b => wr.heap.size ≤ b) (.slice ua cs.length uc) cs) := HL3.out.move fun b hb hF => ⟨hF, by rw [HO4.out.block b (Nat.lt_of_lt_of_le hb HY3.out.size) (by have := HM.out.lt; omega), HY3.out.block b hb]⟩
          have HOw : Hid (∀ j, (Value.slice ga l.length gc).ownBlock = some j → j < wr.heap.size) := fun j hj => own_lt6 HG.out.1 j hj
          have HOk : Hid (elRoe.ok (w4.alloc (.cells #[.int .i64 q, .slice ua cs.length uc] 25)) (fun b => m + 1 ≤ b ∧ (Value.slice ga l.length gc).ownBlock ≠ some b) ⟨q, .slice ua cs.length uc, cs⟩) := ⟨hpq, HL4.out.move fun b hb hF => ⟨⟨by have := HM.out.lt; omega, fun e => by have := HOw.out b e; omega⟩, (belo1 w4 _).block b hb⟩⟩
          have HG5 := hide (HG4.out.kept (belo1 w4 (.cells #[.int .i64 q, .slice ua cs.length uc] 25)))
          have HS4 : Hid (m + 1 ≤ w4.heap.size) := by show _ ≤ _; have := HO4.out.size; have := HY3.out.size; have := HSm.out; have := lt_of_cell g0; dsimp only at this; omega
          have HB5 : Hid (Below (m + 1) w4 (w4.alloc (.cells #[.int .i64 q, .slice ua cs.length uc] 25))) := (belo1 w4 _).mono HS4.out
          have HS5 : Hid (m + 1 ≤ (w4.alloc (.cells #[.int .i64 q, .slice ua cs.length uc] 25)).heap.size) := by show _ ≤ _; have := HS4.out; simp only [size_alloc10]; omega
          go_wp2_with (at_builtin; refine wpList_push (w0 := w4) elRoe rfl _ _ 32 rfl (m + 1) 25 i0 _ 32 Tryd.underlying32 hi0' hz0 hz1 hz2 rfl (by decide) _ l l.length rfl rfl HG5.out ⟨q, .slice ua cs.length uc, cs⟩ w4.heap.size 1 rfl (fun j u hu => new_cells (cs := #[.int .i64 q, .slice ua cs.length uc]) j u hu) HOk.out hl30 HB5.out HS5.out ?_; intro g cap' w5 HG6 HB6 HGr; clear HGr)
          have HO5 : Hid (Only (fun b => b = m) W w4) := HO1.out.trans ((Only.of_below HY3.out _).trans HO4.out)
          have HO6 : Hid (Only (fun b => b = m) W w5) := ⟨HB6.out.os.trans HO5.out.os, HB6.out.tape.trans HO5.out.tape, HB6.out.output.trans HO5.out.output, Nat.le_trans HO5.out.size HB6.out.size, fun b hb hne => by rw [HB6.out.block b (by have := HWs.out; omega)]; exact HO5.out.block b hb hne⟩
          go_roundw
          case rel => exact ⟨k + 1, _, by omega, by go_num, by show _ = _; rw [HEq.out, List.map_append, HE.out]; rfl, HG6, by rw [HEq.out]; exact HM4.out.same (HB6.out.block _ (by omega)), HO6⟩
          case measure => simp [intOf]; omega
      · have HSk : Hid (Calls Tryd.prog 6 #[.agg #[.int .i64 q, .slice pa ss.length pc]] (wr.alloc (.cells #[.int .i64 q, .slice pa ss.length pc] 29)) fun e w' => e = .returned (.agg #[.int .i64 (-1), .slice none 0 0]) ∧ Below wr.heap.size wr w') := HSh.out.mono fun e w' ⟨ha, hb⟩ => by
          rcases ha with ⟨hyes, _⟩ | ⟨_, he⟩
          · exact absurd hyes hok
          · exact ⟨he, belot HB1.out hb⟩
        have HEq : Hid (distL (ps.take (k + 1)) = distL (ps.take k)) := by show _ = _; rw [HTk.out]; exact distS_no hok
        have HVn := hide (fun V : World => valid_any (q := -1) (has_none V))
        rw [vld_none] at HVn
        clear HSh
        go_wp2_with (first
          | (go_at_call 6; refine HSk.out.mono ?_; rintro e w2 ⟨rfl, hb⟩; have HB2 := hide hb; clear hb)
          | (go_at_call 8; refine (HVn.out _).mono ?_; rintro e w3 ⟨rfl, h3⟩; have HB3 := hide (belot HB2.out (belot (belo1 w2 _) h3)); clear h3))
        go_roundw
        case rel => exact ⟨k + 1, l, by omega, by go_num, by rw [HEq.out]; exact HE, HG.out.kept HB3.out, by rw [HEq.out]; exact (HM.out.kept HB3.out).mono (by omega), HO.out.trans (Only.of_below HB3.out _)⟩
        case measure => simp [intOf]; omega
    · obtain rfl : k = ps.length := by omega
      have hi : ¬ (ps.length : Int) < (ps.length : Int) := by omega
      rw [List.take_of_length_le (Nat.le_refl _)] at HE
      go_wp2
      go_ret
      exact ⟨_, rfl, l, HG.out.list (by have := HLn.out; omega), HE.out, by have h := HBw.out; first | exact h | (rw [hms] at h; exact h)⟩
end Go.Proofs.YtgligipgjakecaaDoor
