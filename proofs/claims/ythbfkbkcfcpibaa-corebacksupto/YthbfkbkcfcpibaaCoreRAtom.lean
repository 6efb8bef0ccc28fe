/- What the document's atomOf answers. -/
import Derived.Test.YthbfkbkcfcpibaaCoreAtom
namespace Go.Proofs.Ythbfkbkcfcpibaa
set_option linter.unusedSimpArgs false
set_option linter.unusedVariables false
open Go.RowKit

/-- An atom and a bool as they come back. -/
def AtomRes (w w' : World) (ps : List Prd) (cs : List Con) (vs : List ByteArray) (p : Pat) (e : Ending) : Prop :=
  (wholeP ps cs vs p = false ∧ e = .returned (.tuple #[.agg #[.string ⟨#[]⟩, .slice none 0 0, .int .i64 0], .bool false])) ∨
  (wholeP ps cs vs p = true ∧ ∃ v, e = .returned (.tuple #[.agg #[.string (nameP ps p.q), v, .int .i64 0], .bool true]) ∧ Lst elTrm w' (fun b => w.heap.size ≤ b) v (p.ss.map (tP cs vs)))

theorem heap_set1 {w : World} {b i : Nat} {v : Value} {cur : Array Value} {t : TypeId} {fr : Nat × Nat} (h : w.heap[b]? = some (.cells cur t fr)) : (w.setCell ⟨b, i, none⟩ v).heap[b]? = some (.cells (cur.set! i v) t fr) := by
  simp [World.setCell, Array.getElem?_modify, h]
theorem heap_set4 {w : World} {b : Nat} {t : TypeId} {fr : Nat × Nat} {a0 a1 a2 a3 v0 v1 v2 v3 : Value} (h : w.heap[b]? = some (.cells #[a0, a1, a2, a3] t fr)) : ((((w.setCell ⟨b, 0, none⟩ v0).setCell ⟨b, 1, none⟩ v1).setCell ⟨b, 2, none⟩ v2).setCell ⟨b, 3, none⟩ v3).heap[b]? = some (.cells #[v0, v1, v2, v3] t fr) := heap_set1 (heap_set1 (heap_set1 (heap_set1 h)))
theorem heap_set3 {w : World} {b : Nat} {t : TypeId} {fr : Nat × Nat} {a0 a1 a2 v0 v1 v2 : Value} (h : w.heap[b]? = some (.cells #[a0, a1, a2] t fr)) : (((w.setCell ⟨b, 0, none⟩ v0).setCell ⟨b, 1, none⟩ v1).setCell ⟨b, 2, none⟩ v2).heap[b]? = some (.cells #[v0, v1, v2] t fr) := heap_set1 (heap_set1 (heap_set1 h))

set_option maxRecDepth 100000 in
set_option maxHeartbeats 1000000 in
theorem ratomOf_any {w : World} {pv cv rv fv vv : Value} {ps : List Prd} {cs : List Con} {vs : List ByteArray} {p : Pat} (hp : Has elPrd w pv ps) (hc : Has elCon w cv cs) (hs : Has elStr w vv vs) (h : elPat.ok w (fun _ => True) p) :
    Calls Try.prog 17 #[.agg #[pv, cv, rv, fv], .agg #[.int .i64 p.q, p.v], vv] w fun e w' => AtomRes w w' ps cs vs p e ∧ Below w.heap.size w w' := by
  obtain ⟨pq, pvv, ss⟩ := p
  have hl := (elPat_ok h).2
  clear h
  dsimp only at hl ⊢
  obtain ⟨ga, gc, rfl, -, -, hlen⟩ := hl.shape
  obtain ⟨pa, pc, rfl, -, -, -⟩ := hp.shape
  cases hx : idx ps pq with
  | none =>
    have HR : Hid (wholeP ps cs vs ⟨pq, .slice ga ss.length gc, ss⟩ = false) := by show _ = _; simp [wholeP, hx]
    rcases idx_none hx with hn | ⟨k, rfl, hk⟩
    · clear hc hs hx hp hl
      go_enter Try.func17, Try.ntmps17
      go_wp2
      exact bodyPost_ret (v := .tuple #[.agg #[.string ⟨#[]⟩, .slice none 0 0, .int .i64 0], .bool false]) (by simp [results, Try.results17, go_sem]) rfl ⟨.inl ⟨HR.out, rfl⟩, by first | exact below3 w _ _ _ | exact below4 w _ _ _ _⟩
    · have hk' : (ps.length : Int) ≤ (k : Int) := by omega
      have hk0 : ¬ (k : Int) < 0 := by omega
      clear hc hs hx hp hl
      go_enter Try.func17, Try.ntmps17
      go_wp2
      exact bodyPost_ret (v := .tuple #[.agg #[.string ⟨#[]⟩, .slice none 0 0, .int .i64 0], .bool false]) (by simp [results, Try.results17, go_sem]) rfl ⟨.inl ⟨HR.out, rfl⟩, by first | exact below3 w _ _ _ | exact below4 w _ _ _ _⟩
  | some x =>
    have HR : Hid (wholeP ps cs vs ⟨pq, .slice ga ss.length gc, ss⟩ = ss.all (wholeS cs vs)) := by show _ = _; simp [wholeP, hx]
    have HN : Hid (nameP ps pq = x.s) := by show _ = _; unfold nameP; rw [hx]; rfl
    obtain ⟨k0, rfl, hk0, hx⟩ := idx_some hx
    obtain ⟨pb, po, rfl, -, -, hprow⟩ := hp.row (by omega)
    have c0 := fun a b c => kept_cell (below3 w a b c) (hprow k0 x hx 0 _ rfl)
    simp only [elPrd, Nat.add_zero] at c0
    have hk0' : (k0 : Int) < (ps.length : Int) := by omega
    have hk00 : ¬ (k0 : Int) < 0 := by omega
    have HS := hide hl
    have HC := hide hc
    have HV := hide hs
    clear hp hc hs hl hprow hx
    go_enter Try.func17, Try.ntmps17
    go_wp2
    obtain ⟨Y, hY⟩ : ∃ Y, Y = ((((w.alloc (.cells #[.slice (some ⟨pb, po, none⟩) ps.length pc, cv, rv, fv] 27)).alloc (.cells #[.int .i64 k0, .slice ga ss.length gc] 56)).alloc (.cells #[.string ⟨#[]⟩, .slice none 0 0, .int .i64 0] 30)).alloc (.cells #[.string x.s, .slice none 0 0, .int .i64 0] 30)) := ⟨_, rfl⟩
    have HSz : Hid (Y.heap.size = w.heap.size + 1 + 1 + 1 + 1) := by show _ = _; rw [hY]; simp
    have HB0 : Hid (Below w.heap.size w Y) := by rw [hY]; exact below4 w _ _ _ _
    have HX : Hid (coreAt Y w.heap.size (.slice (some ⟨pb, po, none⟩) ps.length pc) cv rv fv ∧ twoAt Y (w.heap.size + 1) (.int .i64 k0) (.slice ga ss.length gc) ∧ Y.heap[w.heap.size + 1 + 1]? = some (.cells #[.string ⟨#[]⟩, .slice none 0 0, .int .i64 0] 30 (0, 0)) ∧ Y.heap[w.heap.size + 1 + 1 + 1]? = some (.cells #[.string x.s, .slice none 0 0, .int .i64 0] 30 (0, 0))) := by
      show _ ∧ _
      rw [hY]
      refine ⟨(coreAt_new _ _ _ _ _ _).kept (below3 _ _ _ _), (twoAt_new _ _ _ _ (by simp)).kept (belo2 _ _ _), ?_, ?_⟩
      · have h1 := heap_alloc_new ((w.alloc (.cells #[.slice (some ⟨pb, po, none⟩) ps.length pc, cv, rv, fv] 27)).alloc (.cells #[.int .i64 k0, .slice ga ss.length gc] 56)) (.cells #[.string ⟨#[]⟩, .slice none 0 0, .int .i64 0] 30)
        rw [size_alloc1, size_alloc1] at h1
        rw [heap_alloc_old _ _ (by simp)]
        exact h1
      · have h1 := heap_alloc_new (((w.alloc (.cells #[.slice (some ⟨pb, po, none⟩) ps.length pc, cv, rv, fv] 27)).alloc (.cells #[.int .i64 k0, .slice ga ss.length gc] 56)).alloc (.cells #[.string ⟨#[]⟩, .slice none 0 0, .int .i64 0] 30)) (.cells #[.string x.s, .slice none 0 0, .int .i64 0] 30)
        rw [size_alloc1, size_alloc1, size_alloc1] at h1
        exact h1
    rw [← hY]
    clear hY c0
    have HOk := hide (fun s (_ : s ∈ ss) => tP_ok (cs := cs) (vs := vs) (fun c hc => HC.out.ok hc) (fun s hs => HV.out.ok hs) s)
    have HT : Hid (∀ V : World, Below w.heap.size w V → ∀ s, Calls Try.prog 18 #[.agg #[.slice (some ⟨pb, po, none⟩) ps.length pc, cv, rv, fv], .agg #[.bool s.v, .int .i64 s.n], vv] V fun e w' => e = .returned (.tuple #[(tP cs vs s).val, .bool (wholeS cs vs s)]) ∧ Below V.heap.size V w') := fun V hV s => rtermOf_any (HC.out.kept hV) (HV.out.kept hV)
    go_loopw [9, 10, 11] (fun i _ _ wl => ∃ k : Nat, ∃ va vc, k ≤ ss.length ∧ i = .int .i64 k ∧ Hid (Grow elTrm 66 (w.heap.size + 1 + 1 + 1 + 1) wl (.slice va k vc) ((ss.take k).map (tP cs vs))) ∧ Hid (wl.heap[w.heap.size + 1 + 1 + 1]? = some (.cells #[.string x.s, .slice va k vc, .int .i64 0] 30 (0, 0))) ∧ Hid ((ss.take k).all (wholeS cs vs) = true) ∧ Hid (Below (w.heap.size + 1 + 1 + 1) Y wl)) (fun i _ _ _ => ss.length - (intOf i).toNat)
    case atStart => exact ⟨0, none, 0, by omega, rfl, Grow.nil _ _ _ _, HX.out.2.2.2, by show (ss.take 0).all _ = true; simp, Below.refl _ _⟩
    case round =>
      obtain ⟨k, va, vc, hk, rfl, HG, HA, HK, HB⟩ := hrel
      have hsz : w.heap.size + 1 + 1 + 1 + 1 ≤ wr.heap.size := by have := HB.out.size; rw [HSz.out] at this; exact this
      have HBw : Hid (Below w.heap.size w wr) := HB0.out.trans (HB.out.mono (by omega))
      have HC1 := hide (HX.out.1.below HB.out (by omega))
      have HP1 := hide (HX.out.2.1.below HB.out (by omega))
      by_cases hlt : k < ss.length
      · have hi : (k : Int) < (ss.length : Int) := by omega
        have hi0 : (0 : Int) ≤ (k : Int) := by omega
        obtain ⟨b, off, rfl, -, -, hrow⟩ := HS.out.row (by omega)
        obtain ⟨s, hs⟩ : ∃ s, ss[k]? = some s := ⟨_, List.getElem?_eq_getElem hlt⟩
        have x0 := kept_cell HBw.out (hrow k s hs 0 _ rfl)
        have x1 := kept_cell HBw.out (hrow k s hs 1 _ rfl)
        simp only [elSlo, Nat.add_zero] at x0 x1
        have HTs := hide (fun V hV => HT.out V hV s)
        have HTk : Hid ((ss.take (k + 1)).map (tP cs vs) = (ss.take k).map (tP cs vs) ++ [tP cs vs s]) := by show _ = _; rw [List.take_add_one, hs, List.map_append]; rfl
        have HLn : Hid (((ss.take k).map (tP cs vs)).length = k) := by show _ = _; rw [List.length_map, List.length_take]; omega
        have HTa : Hid ((ss.take (k + 1)).all (wholeS cs vs) = wholeS cs vs s) := by show _ = _; rw [List.take_add_one, hs, List.all_append, HK.out]; simp
        have HAt : Hid (wholeS cs vs s = false → ss.all (wholeS cs vs) = false) := fun h => by
          rw [List.all_eq_false]
          exact ⟨s, List.mem_of_getElem? hs, by rw [h]; simp⟩
        have HTo := hide (HOk.out s (List.mem_of_getElem? hs))
        generalize tP cs vs s = t at *
        generalize wholeS cs vs s = ws at *
        clear hrow hs
        obtain ⟨sv, sn⟩ := s
        obtain ⟨tk, tn, tx, tq⟩ := t
        unfold Trm.val at HTs
        dsimp only at x0 x1 HTs
        have hp1 := HP1.out.2
        have HSc : Hid (∀ V : World, Below wr.heap.size wr V → V.cell? ⟨w.heap.size, 0, none⟩ = some (.slice (some ⟨pb, po, none⟩) ps.length pc) ∧ V.cell? ⟨w.heap.size, 1, none⟩ = some cv ∧ V.cell? ⟨w.heap.size, 2, none⟩ = some rv ∧ V.cell? ⟨w.heap.size, 3, none⟩ = some fv ∧ V.cell? ⟨w.heap.size + 1, 1, none⟩ = some (.slice (some ⟨b, off, none⟩) ss.length gc) ∧ V.cell? ⟨b, off + k * 2, none⟩ = some (.bool sv) ∧ V.cell? ⟨b, off + k * 2 + 1, none⟩ = some (.int .i64 sn)) := fun V hV => by
          obtain ⟨c0, c1, c2, c3⟩ := HC1.out.kept hV
          exact ⟨c0, c1, c2, c3, kept_cell hV hp1, kept_cell hV x0, kept_cell hV x1⟩
        go_upto_region 7 with fail
        clear hp1 x0 x1
        go_cut [10, 11] (fun t10 t11 wx => ∃ T, t10 = .pointer (some ⟨T, 0, none⟩) ∧ t11 = .bool ws ∧ Hid (wx.heap[T]? = some (.cells #[.int .i64 tk, .int .i64 tn, .string tx, .int .i64 tq] 66 (0, 0))) ∧ Hid (Below wr.heap.size wr wx) ∧ Hid (wr.heap.size ≤ T))
        case first =>
          go_region_held3 (fun V => V.cell? ⟨w.heap.size, 0, none⟩ = some (.slice (some ⟨pb, po, none⟩) ps.length pc) ∧ V.cell? ⟨w.heap.size, 1, none⟩ = some cv ∧ V.cell? ⟨w.heap.size, 2, none⟩ = some rv ∧ V.cell? ⟨w.heap.size, 3, none⟩ = some fv ∧ V.cell? ⟨w.heap.size + 1, 1, none⟩ = some (.slice (some ⟨b, off, none⟩) ss.length gc) ∧ V.cell? ⟨b, off + k * 2, none⟩ = some (.bool sv) ∧ V.cell? ⟨b, off + k * 2 + 1, none⟩ = some (.int .i64 sn))
            (first
              | exact HSc.out _ (Below.refl _ _)
              | exact HSc.out _ ((Below.refl _ wr).drew)
              | exact HSc.out _ HB2.out
              | exact HSc.out _ (((Below.refl _ wr).drew).alloc (Nat.le_refl _) _)
              | exact HSc.out _ (HB2.out.alloc HB2.out.size _)
              | exact HSc.out _ ((((HB2.out.setCell (Nat.le_refl _) _).setCell (Nat.le_refl _) _).setCell (Nat.le_refl _) _).setCell (Nat.le_refl _) _))
            (first
              | (go_at_call 18; refine (HTs.out _ (by first | exact HBw.out.drew | exact (HBw.out.alloc HBw.out.size _).drew)).mono ?_; rintro e w2 ⟨rfl, h2⟩; have HB2 : Hid (Below wr.heap.size wr w2) := (by first | exact ((Below.refl _ wr).drew).trans h2 | exact (((Below.refl _ wr).alloc (Nat.le_refl _) _).drew).trans (h2.mono (by simp))); try (have hbx : w2.heap[wr.heap.size]? = some (.cells #[.int .i64 0, .int .i64 0, .string ⟨#[]⟩, .int .i64 0] 66 (0, 0)) := (by rw [h2.block _ (by simp)]; exact heap_alloc_new wr _); have hy0 : w2.cell? ⟨wr.heap.size, 0, none⟩ = some (.int .i64 0) := (by simp [World.cell?, hbx]); have hy1 : w2.cell? ⟨wr.heap.size, 1, none⟩ = some (.int .i64 0) := (by simp [World.cell?, hbx]); have hy2 : w2.cell? ⟨wr.heap.size, 2, none⟩ = some (.string ⟨#[]⟩) := (by simp [World.cell?, hbx]); have hy3 : w2.cell? ⟨wr.heap.size, 3, none⟩ = some (.int .i64 0) := (by simp [World.cell?, hbx]); have hf0 : w2.frozen? ⟨wr.heap.size, 0, none⟩ = false := (by simp [World.frozen?, hbx]); have hf1 : w2.frozen? ⟨wr.heap.size, 1, none⟩ = false := (by simp [World.frozen?, hbx]); have hf2 : w2.frozen? ⟨wr.heap.size, 2, none⟩ = false := (by simp [World.frozen?, hbx]); have hf3 : w2.frozen? ⟨wr.heap.size, 3, none⟩ = false := (by simp [World.frozen?, hbx]); have HBX := hide hbx; clear hbx); clear h2))
          all_goals (go_wp2; go_meet)
          · exact ⟨w2.heap.size, rfl, rfl, heap_alloc_new _ _, HB2.out.alloc HB2.out.size _, HB2.out.size⟩
          · exact ⟨wr.heap.size, rfl, rfl, heap_set4 HBX.out, (((HB2.out.setCell (Nat.le_refl _) _).setCell (Nat.le_refl _) _).setCell (Nat.le_refl _) _).setCell (Nat.le_refl _) _, Nat.le_refl _⟩
        case rest =>
          obtain ⟨T, rfl, rfl, HTb, HBx, hT⟩ := hcut
          have hT := hT.out
          have HG1 := hide (HG.out.kept HBx.out)
          have HA1 : Hid (wc.heap[w.heap.size + 1 + 1 + 1]? = some (.cells #[.string x.s, .slice va k vc, .int .i64 0] 30 (0, 0))) := by show _ = _; rw [HBx.out.block _ (lt_of_heap HA.out)]; exact HA.out
          have HB1 : Hid (Below (w.heap.size + 1 + 1 + 1) Y wc) := HB.out.trans (HBx.out.mono (by omega))
          have HBw1 : Hid (Below w.heap.size w wc) := HBw.out.trans (HBx.out.mono HBw.out.size)
          clear HG HA HB HBw HSc HTs HC1 HP1
          cases ws with
          | false =>
            have HRb : Hid (wc.heap[w.heap.size + 1 + 1]? = some (.cells #[.string ⟨#[]⟩, .slice none 0 0, .int .i64 0] 30 (0, 0))) := by show _ = _; rw [HB1.out.block _ (by omega)]; exact HX.out.2.2.1
            have hb0 : wc.cell? ⟨w.heap.size + 1 + 1, 0, none⟩ = some (.string ⟨#[]⟩) := by simp [World.cell?, HRb.out]
            have hb1 : wc.cell? ⟨w.heap.size + 1 + 1, 1, none⟩ = some (.slice none 0 0) := by simp [World.cell?, HRb.out]
            have hb2 : wc.cell? ⟨w.heap.size + 1 + 1, 2, none⟩ = some (.int .i64 0) := by simp [World.cell?, HRb.out]
            have hf0 : wc.frozen? ⟨w.heap.size + 1 + 1, 0, none⟩ = false := by simp [World.frozen?, HRb.out]
            have hf1 : wc.frozen? ⟨w.heap.size + 1 + 1, 1, none⟩ = false := by simp [World.frozen?, HRb.out]
            have hf2 : wc.frozen? ⟨w.heap.size + 1 + 1, 2, none⟩ = false := by simp [World.frozen?, HRb.out]
            go_wp2
            refine bodyPost_ret (v := .tuple #[.agg #[.string ⟨#[]⟩, .slice none 0 0, .int .i64 0], .bool false]) (by simp [results, Try.results17, go_sem, hb0, hb1, hb2]) rfl ⟨.inl ⟨by rw [HR.out]; exact HAt.out (by first | rfl | trivial), rfl⟩, ((HBw1.out.setCell (by dsimp only; omega) _).setCell (by dsimp only; omega) _).setCell (by dsimp only; omega) _⟩
          | true =>
            have ha1 : wc.cell? ⟨w.heap.size + 1 + 1 + 1, 1, none⟩ = some (.slice va k vc) := by simp [World.cell?, HA1.out]
            have ht0 : wc.cell? ⟨T, 0, none⟩ = some (.int .i64 tk) := by simp [World.cell?, HTb.out]
            have ht1 : wc.cell? ⟨T, 1, none⟩ = some (.int .i64 tn) := by simp [World.cell?, HTb.out]
            have ht2 : wc.cell? ⟨T, 2, none⟩ = some (.string tx) := by simp [World.cell?, HTb.out]
            have ht3 : wc.cell? ⟨T, 3, none⟩ = some (.int .i64 tq) := by simp [World.cell?, HTb.out]
            obtain ⟨i0, hi0', hz0, hz1, hz2⟩ := info_parts Try.infoTrm7
            have HOw := hide (HG1.out.kept (belo1 wc (.cells #[.int .i64 tk, .int .i64 tn, .string tx, .int .i64 tq] 66)))
            have hown := HOw.out.1
            rw [HLn.out] at hown
            go_wp2_with (at_builtin; refine wpList_append_lies _ rfl _ _ 28 rfl (w.heap.size + 1 + 1 + 1 + 1) 66 i0 (.agg #[.int .i64 0, .int .i64 0, .string ⟨#[]⟩, .int .i64 0]) 4 40 Try.underlying28 hi0' hz0 hz1 hz2 rfl (by decide) (.slice va k vc) k (((ss.take k).map (tP cs vs)).flatMap elTrm.cells) rfl hown ⟨wc.heap.size, 0, none⟩ 1 1 [.int .i64 tk, .int .i64 tn, .string tx, .int .i64 tq] rfl rfl (World.news_of_block (cs := #[.int .i64 tk, .int .i64 tn, .string tx, .int .i64 tq]) (t := 66) (fr := (0, 0)) (heap_alloc_new wc _)) (by simp [Value.oneCell']) (by decide) (by unfold maxLen; omega) (by omega) (by have := HBx.out.size; simp; omega) (wc.heap.size + 1) (by simp) ?_; intro gg cap2 w3 hown3 hgrow hat hlt3; have HA3 : Hid (w3.heap[w.heap.size + 1 + 1 + 1]? = some (.cells #[.string x.s, .slice va k vc, .int .i64 0] 30 (0, 0))) := (by show _ = _; rw [HOw.out.low hgrow (by omega) (by simp; have := lt_of_heap HA1.out; omega), heap_alloc_old _ _ (lt_of_heap HA1.out)]; exact HA1.out); have HG3 := hide (HOw.out.push (x := ⟨tk, tn, tx, tq⟩) HTo.out HLn.out (size_alloc1 wc _) hown3 hgrow hat); have HB3 : Hid (Below (w.heap.size + 1 + 1 + 1) Y w3) := ((HB1.out.alloc (by have := HBx.out.size; omega) _).grown hgrow (by simp; have := HBx.out.size; omega) (fun j hj => by have := own_new hown j hj; omega)); have ha3 : w3.cell? ⟨w.heap.size + 1 + 1 + 1, 1, none⟩ = some (.slice va k vc) := (by simp [World.cell?, HA3.out]); have hf3 : w3.frozen? ⟨w.heap.size + 1 + 1 + 1, 1, none⟩ = false := (by simp [World.frozen?, HA3.out]); clear hown3 hgrow hat hlt3)
            go_roundw
            case rel =>
              refine ⟨k + 1, some ⟨gg, 0, none⟩, cap2, by omega, by go_num, ?_, ?_, HTa, HB3.out.setCell (by dsimp only; omega) _⟩
              · show Grow _ _ _ _ _ _
                rw [HTk.out]
                exact HG3.out.above fun b hb _ => heap_other (by omega)
              · show _ = _
                exact heap_set1 HA3.out
            case measure => simp [intOf]; omega
      · obtain rfl : k = ss.length := by omega
        have hi : ¬ (ss.length : Int) < (ss.length : Int) := by omega
        rw [List.take_of_length_le (Nat.le_refl _)] at HG HK
        have hp1 := HP1.out.2
        have ha0 : wr.cell? ⟨w.heap.size + 1 + 1 + 1, 0, none⟩ = some (.string x.s) := by simp [World.cell?, HA.out]
        have ha1 : wr.cell? ⟨w.heap.size + 1 + 1 + 1, 1, none⟩ = some (.slice va ss.length vc) := by simp [World.cell?, HA.out]
        have ha2 : wr.cell? ⟨w.heap.size + 1 + 1 + 1, 2, none⟩ = some (.int .i64 0) := by simp [World.cell?, HA.out]
        have HRb : Hid (wr.heap[w.heap.size + 1 + 1]? = some (.cells #[.string ⟨#[]⟩, .slice none 0 0, .int .i64 0] 30 (0, 0))) := by show _ = _; rw [HB.out.block _ (by omega)]; exact HX.out.2.2.1
        have hb0 : wr.cell? ⟨w.heap.size + 1 + 1, 0, none⟩ = some (.string ⟨#[]⟩) := by simp [World.cell?, HRb.out]
        have hb1 : wr.cell? ⟨w.heap.size + 1 + 1, 1, none⟩ = some (.slice none 0 0) := by simp [World.cell?, HRb.out]
        have hb2 : wr.cell? ⟨w.heap.size + 1 + 1, 2, none⟩ = some (.int .i64 0) := by simp [World.cell?, HRb.out]
        have hf0 : wr.frozen? ⟨w.heap.size + 1 + 1, 0, none⟩ = false := by simp [World.frozen?, HRb.out]
        have hf1 : wr.frozen? ⟨w.heap.size + 1 + 1, 1, none⟩ = false := by simp [World.frozen?, HRb.out]
        have hf2 : wr.frozen? ⟨w.heap.size + 1 + 1, 2, none⟩ = false := by simp [World.frozen?, HRb.out]
        go_wp2
        refine bodyPost_ret (v := .tuple #[.agg #[.string x.s, .slice va ss.length vc, .int .i64 0], .bool true]) (by simp [results, Try.results17, go_sem, hb0, hb1, hb2]) rfl ⟨.inr ⟨by rw [HR.out]; exact HK.out, _, by rw [HN.out], ?_⟩, ((HBw.out.setCell (by dsimp only; omega) _).setCell (by dsimp only; omega) _).setCell (by dsimp only; omega) _⟩
        exact ((HG.out.above fun b hb _ => by rw [heap_other (by omega), heap_other (by omega), heap_other (by omega)]).mono (by omega)).new (by simpa using hlen)
end Go.Proofs.Ythbfkbkcfcpibaa
