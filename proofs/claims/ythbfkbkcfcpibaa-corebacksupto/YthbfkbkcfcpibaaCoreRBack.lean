/- What the document's Back answers. -/
import Derived.Test.YthbfkbkcfcpibaaCoreBack
import Derived.Test.YthbfkbkcfcpibaaRegionLast
namespace Go.Proofs.Ythbfkbkcfcpibaa
set_option linter.unusedSimpArgs false
set_option linter.unusedVariables false
open Go.RowKit

def gName (ps : List Prd) (cs : List Con) (vs : List ByteArray) (p : Pat) : ByteArray := if wholeP ps cs vs p then nameP ps p.q else ⟨#[]⟩
def gTs (ps : List Prd) (cs : List Con) (vs : List ByteArray) (p : Pat) : List Trm := if wholeP ps cs vs p then p.ss.map (tP cs vs) else []
theorem AtomRes.one {w w' : World} {ps : List Prd} {cs : List Con} {vs : List ByteArray} {p : Pat} {e : Ending} (h : AtomRes w w' ps cs vs p e) :
    ∃ va vc, e = .returned (.tuple #[.agg #[.string (gName ps cs vs p), .slice va (gTs ps cs vs p).length vc, .int .i64 0], .bool (wholeP ps cs vs p)]) ∧ Lst elTrm w' (fun b => w.heap.size ≤ b) (.slice va (gTs ps cs vs p).length vc) (gTs ps cs vs p) := by
  unfold gName gTs
  rcases h with ⟨h1, h2⟩ | ⟨h1, v, h2, h3⟩
  · rw [h1]
    exact ⟨none, 0, h2, Lst.nil _ _ _⟩
  · rw [h1]
    obtain ⟨va, vc, rfl, -⟩ := h3.shape
    exact ⟨va, vc, h2, h3⟩
theorem gName_whole {ps : List Prd} {cs : List Con} {vs : List ByteArray} {p : Pat} (h : wholeP ps cs vs p = true) : gName ps cs vs p = nameP ps p.q := by unfold gName; rw [h]; rfl
theorem gTs_whole {ps : List Prd} {cs : List Con} {vs : List ByteArray} {p : Pat} (h : wholeP ps cs vs p = true) : gTs ps cs vs p = p.ss.map (tP cs vs) := by unfold gTs; rw [h]; rfl
theorem gName_ok {ps : List Prd} {cs : List Con} {vs : List ByteArray} (h : ∀ p ∈ ps, p.s.size ≤ 140737488351232) (p : Pat) : (gName ps cs vs p).size ≤ 140737488351232 := by
  unfold gName
  split
  · exact nameP_ok h _
  · exact nil_size

set_option maxRecDepth 100000 in
set_option maxHeartbeats 8000000 in
theorem rback_any {w : World} {pv cv rv fv : Value} {ps : List Prd} {cs : List Con} {rs : List Rul} {n : Int} (hp : Has elPrd w pv ps) (hc : Has elCon w cv cs) (hr : Has elRul w rv rs) (hb : ∀ r ∈ rs, bigR r) :
    Calls Try.prog 6 #[.agg #[pv, cv, rv, fv], .int .i64 n] w fun e w' => BackRes w w' ps cs rs n e ∧ Below w.heap.size w w' := by
  obtain ⟨ra, rc, rfl, -, -, hlen⟩ := hr.shape
  have HB2 : Hid (∀ a b, Below w.heap.size w ((w.alloc a).alloc b)) := fun a b => belo2 w a b
  cases hx : idx rs n with
  | none =>
    have HR : Hid (idx rs n = none) := hx
    rcases idx_none hx with hn | ⟨k, rfl, hk⟩
    · clear hc hx hp hr
      go_enter Try.func6, Try.ntmps6
      go_wp2
      exact bodyPost_ret (v := .tuple #[.agg #[.string ⟨#[]⟩, .slice none 0 0, .int .i64 0, .slice none 0 0], .int .i64 50]) (by simp [results, Try.results6, go_sem]) rfl ⟨.inl ⟨HR.out, rfl⟩, HB2.out _ _⟩
    · have hk' : (rs.length : Int) ≤ (k : Int) := by omega
      have hk0 : ¬ (k : Int) < 0 := by omega
      clear hc hx hp hr
      go_enter Try.func6, Try.ntmps6
      go_wp2
      exact bodyPost_ret (v := .tuple #[.agg #[.string ⟨#[]⟩, .slice none 0 0, .int .i64 0, .slice none 0 0], .int .i64 50]) (by simp [results, Try.results6, go_sem]) rfl ⟨.inl ⟨HR.out, rfl⟩, HB2.out _ _⟩
  | some r =>
    have HI := hide hx
    obtain ⟨k, rfl, hk, hx⟩ := idx_some hx
    obtain ⟨b, off, rfl, -, -, hrow⟩ := hr.row (by omega)
    have x := fun j u hu a b => kept_cell (HB2.out a b) (hrow k r hx j u hu)
    have HOk := hide (hr.ok (List.mem_of_getElem? hx))
    have HBg := hide (hb r (List.mem_of_getElem? hx))
    have HP := hide hp
    have HC := hide hc
    clear hrow hx hp hc hr hb
    obtain ⟨⟨q, hv, hs⟩, pw, l1, tv, l2, nv, l3, vv, vs, cl⟩ := r
    obtain ⟨r0, r1, r2, r3, r4, r5⟩ := elRul_ok HOk.out
    dsimp only at r0 r1 r2 r3 r4 r5
    obtain ⟨ha, hcap, hg, -, -, -⟩ := (elPat_ok r0).2.shape
    dsimp only at hg
    subst hg
    obtain ⟨pa, pc, rfl, -, -, -⟩ := r1.shape
    obtain ⟨ta, tc, rfl, -, -, -⟩ := r2.shape
    obtain ⟨na, nc, rfl, -, -, -⟩ := r3.shape
    obtain ⟨va, vc, rfl, -, -, -⟩ := r4.shape
    clear r0 r1 r2 r3 r4 r5
    have x0 := x 0 _ rfl
    have x1 := x 1 _ rfl
    have x2 := x 2 _ rfl
    have x3 := x 3 _ rfl
    have x4 := x 4 _ rfl
    have x5 := x 5 _ rfl
    have x6 := x 6 _ rfl
    simp only [elRul, Nat.add_zero] at x0 x1 x2 x3 x4 x5 x6
    clear x
    have hk' : (k : Int) < (rs.length : Int) := by omega
    have hk0 : ¬ (k : Int) < 0 := by omega
    have hk00 : (0 : Int) ≤ (k : Int) := by omega
    go_enter Try.func6, Try.ntmps6
    go_wp2_with fail
    clear x0 x1 x2 x3 x4 x5 x6
    obtain ⟨Y, hY⟩ : ∃ Y, Y = (((w.alloc (.cells #[pv, cv, .slice (some ⟨b, off, none⟩) rs.length rc, fv] 27)).alloc (.cells #[.string ⟨#[]⟩, .slice none 0 0, .int .i64 0, .slice none 0 0] 33)).alloc (.cells #[.int .i64 q, .slice ha hs.length hcap, .slice pa l1.length pc, .slice ta l2.length tc, .slice na l3.length nc, .slice va vs.length vc, .int .i64 cl] 60)) := ⟨_, rfl⟩
    have HSz : Hid (Y.heap.size = w.heap.size + 1 + 1 + 1) := by show _ = _; rw [hY]; simp
    have HB0 : Hid (Below w.heap.size w Y) := by rw [hY]; exact below3 w _ _ _
    have HX : Hid (coreAt Y w.heap.size pv cv (.slice (some ⟨b, off, none⟩) rs.length rc) fv ∧ ruleAt Y (w.heap.size + 1 + 1) q (.slice ha hs.length hcap) (.slice pa l1.length pc) (.slice ta l2.length tc) (.slice na l3.length nc) (.slice va vs.length vc) cl ∧ Y.heap[w.heap.size + 1]? = some (.cells #[.string ⟨#[]⟩, .slice none 0 0, .int .i64 0, .slice none 0 0] 33 (0, 0))) := by
      show _ ∧ _
      rw [hY]
      refine ⟨(coreAt_new _ _ _ _ _ _).kept (belo2 _ _ _), ruleAt_new _ _ _ _ _ _ _ _ _ (by simp), ?_⟩
      rw [heap_alloc_old _ _ (by simp)]
      have h1 := heap_alloc_new (w.alloc (.cells #[pv, cv, .slice (some ⟨b, off, none⟩) rs.length rc, fv] 27)) (.cells #[.string ⟨#[]⟩, .slice none 0 0, .int .i64 0, .slice none 0 0] 33)
      rw [size_alloc1] at h1
      exact h1
    rw [← hY]
    clear hY
    obtain ⟨r0, r1, r2, r3, r4, r5⟩ := elRul_ok HOk.out
    dsimp only at r0 r1 r2 r3 r4 r5
    have HR0 := hide r0
    have HR1 := hide r1
    have HR2 := hide r2
    have HR3 := hide r3
    have HR4 := hide r4
    clear r0 r1 r2 r3 r4 r5
    refine (ratomOf_any (rv := .slice (some ⟨b, off, none⟩) rs.length rc) (fv := fv) (p := ⟨q, .slice ha hs.length hcap, hs⟩) (HP.out.kept HB0.out) (HC.out.kept HB0.out) (HR4.out.kept HB0.out) (elPat.kept HR0.out HB0.out)).mono ?_
    rintro e w0 ⟨har, h1⟩
    obtain ⟨ua, uc, rfl, hl⟩ := har.one
    have HH := hide hl
    have HBy := hide h1
    have HB1 := hide (HB0.out.trans (h1.mono HB0.out.size))
    clear har hl h1
    obtain ⟨nm, hnm⟩ : ∃ x, gName ps cs vs ⟨q, .slice ha hs.length hcap, hs⟩ = x := ⟨_, rfl⟩
    obtain ⟨ht, hht⟩ : ∃ x, gTs ps cs vs ⟨q, .slice ha hs.length hcap, hs⟩ = x := ⟨_, rfl⟩
    obtain ⟨G0, hG0⟩ : ∃ x, wholeP ps cs vs ⟨q, .slice ha hs.length hcap, hs⟩ = x := ⟨_, rfl⟩
    have HGn : Hid (G0 = true → nm = nameP ps q ∧ ht = hs.map (tP cs vs)) := fun h => by
      rw [← hG0] at h
      rw [← hnm, ← hht, gName_whole h, gTs_whole h]
      exact ⟨rfl, rfl⟩
    have HG0 := hide hG0
    rw [hht] at HH
    rw [hnm, hht, hG0]
    clear hnm hht hG0
    go_wp2
    obtain ⟨w1, hw1⟩ : ∃ V, V = w0.alloc (.cells #[.string nm, .slice ua ht.length uc, .int .i64 0] 30) := ⟨_, rfl⟩
    have hs1 : w0.heap.size + 1 = w1.heap.size := by rw [hw1]; simp
    have hb1b : Below w0.heap.size w0 w1 := by rw [hw1]; exact belo1 _ _
    have HHb := hide (HH.out.move (G := fun b => Y.heap.size ≤ b) fun b hb hF => ⟨hF, hb1b.block b hb⟩)
    have HByb := hide (HBy.out.trans (hb1b.mono HBy.out.size))
    have HB1b := hide (HB1.out.trans (hb1b.mono HB1.out.size))
    rw [← hw1, hs1]
    clear hw1 hs1 hb1b HH HBy HB1
    generalize w0.heap.size = hdp
    clear w0
    have HH := HHb
    have HBy := HByb
    have HB1 := HB1b
    clear HHb HByb HB1b
    have HNm := hide (fun p => gName_ok (ps := ps) (cs := cs) (vs := vs) (fun p hp => (HP.out.ok hp).1) p)
    have HA0 : Hid ((w1.alloc (.cells #[.string nm, .slice ua ht.length uc, .int .i64 0, .slice none 0 0] 33)).heap[w1.heap.size]? = some (.cells #[.string nm, .slice ua ht.length uc, .int .i64 0, .slice none 0 0] 33 (0, 0))) := heap_alloc_new _ _
    have HBz0 : Hid (Below w1.heap.size w1 (w1.alloc (.cells #[.string nm, .slice ua ht.length uc, .int .i64 0, .slice none 0 0] 33))) := belo1 _ _
    go_loopw [8, 10, 11] (fun g i _ wl => ∃ k : Nat, ∃ ba bc, ∃ L : List Lix, k ≤ l1.length ∧ i = .int .i64 k ∧ g = .bool (G0 && (l1.take k).all (wholeP ps cs vs)) ∧ Hid (Grow elLix 68 (w1.heap.size + 1) wl (.slice ba L.length bc) L) ∧ Hid (wl.heap[w1.heap.size]? = some (.cells #[.string nm, .slice ua ht.length uc, .int .i64 0, .slice ba L.length bc] 33 (0, 0))) ∧ Hid (L.length ≤ 0 + k) ∧ Hid ((G0 && (l1.take k).all (wholeP ps cs vs)) = true → L.map Lix.d = [] ++ (l1.take k).map (atomL 1 ps cs vs)) ∧ Hid (Below w1.heap.size w1 wl)) (fun g i _ _ => l1.length - (intOf i).toNat)
    case atStart => exact ⟨0, none, 0, [], by omega, rfl, by simp, Grow.nil _ _ _ _, HA0.out, by show (0 : Nat) ≤ _; omega, fun _ => rfl, HBz0.out⟩
    case round =>
      obtain ⟨k, ba, bc, L, hk, rfl, hg, HG, HA, HLk, HD, HB⟩ := hrel
      obtain ⟨gk, hgk⟩ : ∃ x, (G0 && (l1.take k).all (wholeP ps cs vs)) = x := ⟨_, rfl⟩
      rw [hgk] at hg HD
      subst hg
      have HGk := hide hgk
      clear hgk
      have hsz : w1.heap.size + 1 ≤ wr.heap.size := lt_of_heap HA.out
      have hsz3 : w.heap.size + 1 + 1 + 1 ≤ w1.heap.size := by have := HBy.out.size; rw [HSz.out] at this; exact this
      have HBw : Hid (Below w.heap.size w wr) := HB1.out.trans (HB.out.mono HB1.out.size)
      have HBy2 : Hid (Below Y.heap.size Y wr) := HBy.out.trans (HB.out.mono HBy.out.size)
      obtain ⟨z0, z1, z2, z3, z4, z5, z6⟩ := HX.out.2.1.kept HBy2.out
      go_upto_region 7 with fail
      go_cut [52] (fun t wx => t = .bool (decide (k < l1.length) && gk) ∧ wx = wr)
      case first =>
        by_cases hlt : k < l1.length
        · have hi : (k : Int) < (l1.length : Int) := by omega
          cases gk <;> (go_wp2; go_meet; exact ⟨by simp [hlt], rfl⟩)
        · have hi : ¬ (k : Int) < (l1.length : Int) := by omega
          go_wp2
          go_meet
          exact ⟨by simp [hlt], rfl⟩
      case rest =>
        obtain ⟨rfl, hwc⟩ := hcut
        rw [hwc]
        clear hwc wc
        clear z0 z1 z2 z3 z4 z5 z6
        cases hX : (decide (k < l1.length) && gk) with
        | true =>
          rw [Bool.and_eq_true, decide_eq_true_iff] at hX
          obtain ⟨hlt, rfl⟩ := hX
          have hi0 : (0 : Int) ≤ (k : Int) := by omega
          have hi : (k : Int) < (l1.length : Int) := by omega
          obtain ⟨-, -, -, -, -, hll⟩ := HR1.out.shape
          obtain ⟨eb, eo, he, -, -, hrow⟩ := HR1.out.row (by omega)
          subst he
          obtain ⟨p, hp⟩ : ∃ s, l1[k]? = some s := ⟨_, List.getElem?_eq_getElem hlt⟩
          have HEl := hide (HR1.out.ok (List.mem_of_getElem? hp))
          have x0 := kept_cell HBw.out (hrow k p hp 0 _ rfl)
          have x1 := kept_cell HBw.out (hrow k p hp 1 _ rfl)
          simp only [elPat, Nat.add_zero] at x0 x1
          have HTk : Hid ((l1.take (k + 1)).map (atomL 1 ps cs vs) = (l1.take k).map (atomL 1 ps cs vs) ++ [atomL 1 ps cs vs p]) := by show _ = _; rw [List.take_add_one, hp, List.map_append]; rfl
          have HTa : Hid ((G0 && (l1.take (k + 1)).all (wholeP ps cs vs)) = wholeP ps cs vs p) := by
            show _ = _
            have h0 := HGk.out
            rw [Bool.and_eq_true] at h0
            rw [List.take_add_one, hp, List.all_append, h0.1, h0.2]
            simp
          have HDt := hide (HD.out rfl)
          clear HD
          clear hrow hp
          obtain ⟨i0, hi0', hz0, hz1, hz2⟩ := info_parts Try.infoLit7
          obtain ⟨pq, pvv, ss⟩ := p
          obtain ⟨ga, gc, hg, -, -, -⟩ := (elPat_ok HEl.out).2.shape
          dsimp only at hg
          subst hg
          dsimp only at x0 x1
          have HCa : Hid (∀ V : World, Below w.heap.size w V → Calls Try.prog 17 #[.agg #[pv, cv, .slice (some ⟨b, off, none⟩) rs.length rc, fv], .agg #[.int .i64 pq, .slice ga ss.length gc], .slice va vs.length vc] V fun e w' => (∃ va vc, e = .returned (.tuple #[.agg #[.string (gName ps cs vs ⟨pq, .slice ga ss.length gc, ss⟩), .slice va (gTs ps cs vs ⟨pq, .slice ga ss.length gc, ss⟩).length vc, .int .i64 0], .bool (wholeP ps cs vs ⟨pq, .slice ga ss.length gc, ss⟩)]) ∧ Lst elTrm w' (fun b => V.heap.size ≤ b) (.slice va (gTs ps cs vs ⟨pq, .slice ga ss.length gc, ss⟩).length vc) (gTs ps cs vs ⟨pq, .slice ga ss.length gc, ss⟩)) ∧ Below V.heap.size V w') := fun V hV => (ratomOf_any (p := ⟨pq, .slice ga ss.length gc, ss⟩) (HP.out.kept hV) (HC.out.kept hV) (HR4.out.kept hV) (elPat.kept HEl.out hV)).mono fun e w' h => ⟨h.1.one, h.2⟩
          have HGx : Hid (wholeP ps cs vs ⟨pq, .slice ga ss.length gc, ss⟩ = true → (⟨1, gName ps cs vs ⟨pq, .slice ga ss.length gc, ss⟩, 0, gTs ps cs vs ⟨pq, .slice ga ss.length gc, ss⟩, 0, noT, noT, 0⟩ : LD) = atomL 1 ps cs vs ⟨pq, .slice ga ss.length gc, ss⟩) := fun h => by rw [gName_whole h, gTs_whole h]; rfl
          have HNp := hide (HNm.out ⟨pq, .slice ga ss.length gc, ss⟩)
          generalize gName ps cs vs ⟨pq, .slice ga ss.length gc, ss⟩ = gn at *
          generalize gTs ps cs vs ⟨pq, .slice ga ss.length gc, ss⟩ = gt at *
          generalize wholeP ps cs vs ⟨pq, .slice ga ss.length gc, ss⟩ = gw at *
          have HSc : Hid (∀ V : World, Below wr.heap.size wr V → V.cell? ⟨w.heap.size, 0, none⟩ = some pv ∧ V.cell? ⟨w.heap.size, 1, none⟩ = some cv ∧ V.cell? ⟨w.heap.size, 2, none⟩ = some (.slice (some ⟨b, off, none⟩) rs.length rc) ∧ V.cell? ⟨w.heap.size, 3, none⟩ = some fv ∧ V.cell? ⟨w.heap.size + 1 + 1, 2, none⟩ = some (.slice (some ⟨eb, eo, none⟩) l1.length pc) ∧ V.cell? ⟨w.heap.size + 1 + 1, 5, none⟩ = some (.slice va vs.length vc) ∧ V.cell? ⟨eb, eo + k * 2, none⟩ = some (.int .i64 pq) ∧ V.cell? ⟨eb, eo + k * 2 + 1, none⟩ = some (.slice ga ss.length gc)) := fun V hV => by
            obtain ⟨c0, c1, c2, c3⟩ := (HX.out.1.kept HBy2.out).kept hV
            obtain ⟨z0, z1, z2, z3, z4, z5, z6⟩ := (HX.out.2.1.kept HBy2.out).kept hV
            exact ⟨c0, c1, c2, c3, z2, z5, kept_cell hV x0, kept_cell hV x1⟩
          clear x0 x1
          go_upto_region 10 with fail
          obtain ⟨Z, hZ⟩ : ∃ Z, Z = wr.alloc (.cells #[.string ⟨#[]⟩, .slice none 0 0, .int .i64 0] 30) := ⟨_, rfl⟩
          have HZ : Hid (Below wr.heap.size wr Z) := by rw [hZ]; exact belo1 _ _
          have HZs : Hid (Z.heap.size = wr.heap.size + 1) := by show _ = _; rw [hZ]; simp
          have HZb : Hid (Z.heap[wr.heap.size]? = some (.cells #[.string ⟨#[]⟩, .slice none 0 0, .int .i64 0] 30 (0, 0))) := by show _ = _; rw [hZ]; exact heap_alloc_new _ _
          have HBz := hide (HBw.out.trans (HZ.out.mono HBw.out.size))
          rw [← hZ]
          clear hZ
          go_region_held3 (fun V => V.cell? ⟨w.heap.size, 0, none⟩ = some pv ∧ V.cell? ⟨w.heap.size, 1, none⟩ = some cv ∧ V.cell? ⟨w.heap.size, 2, none⟩ = some (.slice (some ⟨b, off, none⟩) rs.length rc) ∧ V.cell? ⟨w.heap.size, 3, none⟩ = some fv ∧ V.cell? ⟨w.heap.size + 1 + 1, 2, none⟩ = some (.slice (some ⟨eb, eo, none⟩) l1.length pc) ∧ V.cell? ⟨w.heap.size + 1 + 1, 5, none⟩ = some (.slice va vs.length vc) ∧ V.cell? ⟨eb, eo + k * 2, none⟩ = some (.int .i64 pq) ∧ V.cell? ⟨eb, eo + k * 2 + 1, none⟩ = some (.slice ga ss.length gc))
            (first
              | exact HSc.out _ HZ.out
              | exact HSc.out _ HZ.out.drew
              | exact HSc.out _ HB2w.out
              | exact HSc.out _ (((HB2w.out.setCell (Nat.le_refl _) _).setCell (Nat.le_refl _) _).setCell (Nat.le_refl _) _))
            (first
              | (go_at_call 17; refine (HCa.out _ HBz.out.drew).mono ?_; rintro e w2 ⟨⟨da, dc, rfl, hl2⟩, h2⟩; have HB2 : Hid (Below Z.heap.size Z w2) := ((Below.refl _ Z).drew).trans h2; have HL2 := hide hl2; have hbx : w2.heap[wr.heap.size]? = some (.cells #[.string ⟨#[]⟩, .slice none 0 0, .int .i64 0] 30 (0, 0)) := (by rw [HB2.out.block _ (by rw [HZs.out]; omega)]; exact HZb.out); have hy0 : w2.cell? ⟨wr.heap.size, 0, none⟩ = some (.string ⟨#[]⟩) := (by simp [World.cell?, hbx]); have hf0 : w2.frozen? ⟨wr.heap.size, 0, none⟩ = false := (by simp [World.frozen?, hbx]); have hy1 : w2.cell? ⟨wr.heap.size, 1, none⟩ = some (.slice none 0 0) := (by simp [World.cell?, hbx]); have hf1 : w2.frozen? ⟨wr.heap.size, 1, none⟩ = false := (by simp [World.frozen?, hbx]); have hy2 : w2.cell? ⟨wr.heap.size, 2, none⟩ = some (.int .i64 0) := (by simp [World.cell?, hbx]); have hf2 : w2.frozen? ⟨wr.heap.size, 2, none⟩ = false := (by simp [World.frozen?, hbx]); have HBX := hide hbx; have HB2w : Hid (Below wr.heap.size wr w2) := HZ.out.trans (HB2.out.mono HZ.out.size); clear hbx h2 hl2))
          obtain ⟨w3, hw3⟩ : ∃ V, V = ((w2.setCell ⟨wr.heap.size, 0, none⟩ (.string gn)).setCell ⟨wr.heap.size, 1, none⟩ (.slice da gt.length dc)).setCell ⟨wr.heap.size, 2, none⟩ (.int .i64 0) := ⟨_, rfl⟩
          have HB3 : Hid (Below wr.heap.size wr w3) := by rw [hw3]; exact ((HB2w.out.setCell (Nat.le_refl _) _).setCell (Nat.le_refl _) _).setCell (Nat.le_refl _) _
          have HA3 : Hid (w3.heap[wr.heap.size]? = some (.cells #[.string gn, .slice da gt.length dc, .int .i64 0] 30 (0, 0))) := by show _ = _; rw [hw3]; exact heap_set3 HBX.out
          have HL3 : Hid (Lst elTrm w3 (fun b => wr.heap.size + 1 ≤ b) (.slice da gt.length dc) gt) := HL2.out.move fun b hb hF => by
            have hF' : Z.heap.size ≤ b := hF
            rw [HZs.out] at hF'
            refine ⟨hF', ?_⟩
            rw [hw3, heap_other (by omega), heap_other (by omega), heap_other (by omega)]
          rw [← hw3]
          clear hw3 hy0 hy1 hy2 hf0 hf1 hf2 HBX HL2 HSc
          have ha3 : w3.cell? ⟨w1.heap.size, 3, none⟩ = some (.slice ba L.length bc) := kept_cell HB3.out (by simp [World.cell?, HA.out])
          have hq0 : w3.cell? ⟨wr.heap.size, 0, none⟩ = some (.string gn) := by simp [World.cell?, HA3.out]
          have hq1 : w3.cell? ⟨wr.heap.size, 1, none⟩ = some (.slice da gt.length dc) := by simp [World.cell?, HA3.out]
          have hq2 : w3.cell? ⟨wr.heap.size, 2, none⟩ = some (.int .i64 0) := by simp [World.cell?, HA3.out]
          have HOw := hide (HG.out.kept (HB3.out.trans ((belo1 w3 (.cells #[.int .i64 1, .string gn, .slice da gt.length dc, .int .i64 0, .int .i64 0, .int .i64 0, .int .i64 0, .string ⟨#[]⟩, .int .i64 0, .int .i64 0, .int .i64 0, .string ⟨#[]⟩, .int .i64 0, .int .i64 0] 68)).mono HB3.out.size)))
          have hs3 := HB3.out.size
          have hLl : L.length < 1073741824 := by have := HLk.out; have := HBg.out; unfold bigR at this; dsimp only at this; omega
          go_wp2_with (at_builtin; refine wpList_append_lies _ rfl _ _ 31 rfl (w1.heap.size + 1) 68 i0 (.agg #[.int .i64 0, .string ⟨#[]⟩, .slice none 0 0, .int .i64 0, .int .i64 0, .int .i64 0, .int .i64 0, .string ⟨#[]⟩, .int .i64 0, .int .i64 0, .int .i64 0, .string ⟨#[]⟩, .int .i64 0, .int .i64 0]) 14 152 Try.underlying31 hi0' hz0 hz1 hz2 rfl (by decide) (.slice ba L.length bc) L.length (L.flatMap elLix.cells) rfl HOw.out.1 ⟨w3.heap.size, 0, none⟩ 1 1 [.int .i64 1, .string gn, .slice da gt.length dc, .int .i64 0, .int .i64 0, .int .i64 0, .int .i64 0, .string ⟨#[]⟩, .int .i64 0, .int .i64 0, .int .i64 0, .string ⟨#[]⟩, .int .i64 0, .int .i64 0] rfl rfl (World.news_of_block (cs := #[.int .i64 1, .string gn, .slice da gt.length dc, .int .i64 0, .int .i64 0, .int .i64 0, .int .i64 0, .string ⟨#[]⟩, .int .i64 0, .int .i64 0, .int .i64 0, .string ⟨#[]⟩, .int .i64 0, .int .i64 0]) (t := 68) (fr := (0, 0)) (heap_alloc_new w3 _)) (by simp [Value.oneCell']) (by decide) (by unfold maxLen; omega) (by omega) (by simp; omega) (w3.heap.size + 1) (by simp) ?_; intro gg cap2 w5 hown5 hgrow hat hlt5; have HG5 := hide (HOw.out.push (x := (⟨1, ⟨gn, .slice da gt.length dc, 0, gt⟩, 0, noT, noT, 0⟩ : Lix)) ⟨I64_1, ⟨HNp.out, I64_0, HL3.out.move (G := fun b => w1.heap.size + 1 ≤ b ∧ (Value.slice ba L.length bc).ownBlock ≠ some b) fun b hb hF => ⟨⟨by have hF' : wr.heap.size + 1 ≤ b := hF; omega, fun e => by have := own_lt6 HG.out.1 b e; have hF' : wr.heap.size + 1 ≤ b := hF; omega⟩, heap_alloc_old _ _ hb⟩⟩, I64_0, noT_ok, noT_ok, I64_0⟩ rfl (size_alloc1 w3 _) hown5 hgrow hat); have hlow : ∀ b, b < w1.heap.size + 1 → w5.heap[b]? = wr.heap[b]? := (fun b hb => by rw [HOw.out.low hgrow hb (by simp; omega), heap_alloc_old _ _ (by omega), HB3.out.block _ (by omega)]); have HA5 : Hid (w5.heap[w1.heap.size]? = some (.cells #[.string nm, .slice ua ht.length uc, .int .i64 0, .slice ba L.length bc] 33 (0, 0))) := (by show _ = _; rw [hlow _ (by omega)]; exact HA.out); have HB5 : Hid (Below w1.heap.size w1 w5) := (((HB.out.trans (HB3.out.mono HB.out.size)).alloc (by omega) _).grown hgrow (by simp; omega) (fun j hj => by have := own_new HG.out.1 j hj; omega)); clear hown5 hgrow hat hlt5 hlow; have ha5 : w5.cell? ⟨w1.heap.size, 3, none⟩ = some (.slice ba L.length bc) := (by simp [World.cell?, HA5.out]); have hf5 : w5.frozen? ⟨w1.heap.size, 3, none⟩ = false := (by simp [World.frozen?, HA5.out]))
          go_roundw
          case rel =>
            refine ⟨k + 1, some ⟨gg, 0, none⟩, cap2, L ++ [(⟨1, ⟨gn, .slice da gt.length dc, 0, gt⟩, 0, noT, noT, 0⟩ : Lix)], by omega, by go_num, by rw [HTa.out], ?_, ?_, by show _ ≤ _; rw [List.length_append]; have := HLk.out; simp only [List.length_singleton]; omega, ?_, HB5.out.setCell (by dsimp only; omega) _⟩
            · rw [List.length_append]
              exact HG5.out.above fun b hb _ => heap_other (by omega)
            · show _ = _
              rw [List.length_append]
              exact heap_set1 HA5.out
            · intro h
              rw [HTa.out] at h
              rw [List.map_append, HDt.out, HTk.out, ← HGx.out h, ← List.append_assoc]
              rfl
          case measure => simp [intOf]; omega
        | false =>
          obtain ⟨G1, hG1⟩ : ∃ x, (G0 && l1.all (wholeP ps cs vs)) = x := ⟨_, rfl⟩
          have hgG : G1 = gk := by
            symm
            rw [← HGk.out]
            rw [← hG1]
            rcases Nat.lt_or_ge k l1.length with hlt | hge
            · have hgf : gk = false := by simpa [hlt] using hX
              rw [← HGk.out] at hgf
              rw [hgf]
              symm
              rw [Bool.and_eq_false_iff] at hgf ⊢
              rcases hgf with h | h
              · exact .inl h
              · right
                rw [List.all_eq_false] at h ⊢
                obtain ⟨x, hx, hf⟩ := h
                exact ⟨x, List.mem_of_mem_take hx, hf⟩
            · rw [List.take_of_length_le hge]
          have HDn : Hid (G1 = true → L.map Lix.d = [] ++ l1.map (atomL 1 ps cs vs)) := fun h => by
            have h1 : gk = true := by rw [← hgG]; exact h
            have hge : l1.length ≤ k := by simpa [h1] using hX
            have := HD.out h1
            rw [List.take_of_length_le hge] at this
            exact this
          have HLn : Hid (L.length ≤ 0 + l1.length) := by show _ ≤ _; have := HLk.out; omega
          have HG1 := hide hG1
          subst hgG
          clear HD HLk HGk hX hG1
          have HDn' : Hid (G1 = true → L.map Lix.d = l1.map (atomL 1 ps cs vs)) := fun h => by have := HDn.out h; rwa [List.nil_append] at this
          have HLn' : Hid (L.length ≤ l1.length) := by show _ ≤ _; have := HLn.out; omega
          clear HDn HLn
          go_wp2
          go_loopw [8, 12, 13, 14, 15, 16] (fun g i _ _ _ _ wl => ∃ k : Nat, ∃ ba bc, ∃ L : List Lix, k ≤ l2.length ∧ i = .int .i64 k ∧ g = .bool (G1 && (l2.take k).all (wholeT cs vs)) ∧ Hid (Grow elLix 68 (w1.heap.size + 1) wl (.slice ba L.length bc) L) ∧ Hid (wl.heap[w1.heap.size]? = some (.cells #[.string nm, .slice ua ht.length uc, .int .i64 0, .slice ba L.length bc] 33 (0, 0))) ∧ Hid (L.length ≤ l1.length + k) ∧ Hid ((G1 && (l2.take k).all (wholeT cs vs)) = true → L.map Lix.d = l1.map (atomL 1 ps cs vs) ++ (l2.take k).map (testL cs vs)) ∧ Hid (Below w1.heap.size w1 wl)) (fun g i _ _ _ _ _ => l2.length - (intOf i).toNat)
          case atStart => exact ⟨0, ba, bc, L, by omega, rfl, by simp, HG, HA, by show _ ≤ _; have := HLn'.out; omega, fun h => by rw [HDn'.out (by simpa using h)]; simp, HB⟩
          case round =>
            obtain ⟨k, ba, bc, L, hk, rfl, hg, HG, HA, HLk, HD, HB⟩ := hrel
            obtain ⟨gk, hgk⟩ : ∃ x, (G1 && (l2.take k).all (wholeT cs vs)) = x := ⟨_, rfl⟩
            rw [hgk] at hg HD
            subst hg
            have HGk := hide hgk
            clear hgk
            have hsz : w1.heap.size + 1 ≤ wr.heap.size := lt_of_heap HA.out
            have hsz3 : w.heap.size + 1 + 1 + 1 ≤ w1.heap.size := by have := HBy.out.size; rw [HSz.out] at this; exact this
            have HBw : Hid (Below w.heap.size w wr) := HB1.out.trans (HB.out.mono HB1.out.size)
            have HBy2 : Hid (Below Y.heap.size Y wr) := HBy.out.trans (HB.out.mono HBy.out.size)
            obtain ⟨z0, z1, z2, z3, z4, z5, z6⟩ := HX.out.2.1.kept HBy2.out
            go_upto_region 13 with fail
            go_cut [81] (fun t wx => t = .bool (decide (k < l2.length) && gk) ∧ wx = wr)
            case first =>
              by_cases hlt : k < l2.length
              · have hi : (k : Int) < (l2.length : Int) := by omega
                cases gk <;> (go_wp2; go_meet; exact ⟨by simp [hlt], rfl⟩)
              · have hi : ¬ (k : Int) < (l2.length : Int) := by omega
                go_wp2
                go_meet
                exact ⟨by simp [hlt], rfl⟩
            case rest =>
              obtain ⟨rfl, hwc⟩ := hcut
              rw [hwc]
              clear hwc wc
              clear z0 z1 z2 z3 z4 z5 z6
              cases hX : (decide (k < l2.length) && gk) with
              | true =>
                rw [Bool.and_eq_true, decide_eq_true_iff] at hX
                obtain ⟨hlt, rfl⟩ := hX
                have hi0 : (0 : Int) ≤ (k : Int) := by omega
                have hi : (k : Int) < (l2.length : Int) := by omega
                obtain ⟨-, -, -, -, -, hll⟩ := HR2.out.shape
                obtain ⟨eb, eo, he, -, -, hrow⟩ := HR2.out.row (by omega)
                subst he
                obtain ⟨p, hp⟩ : ∃ s, l2[k]? = some s := ⟨_, List.getElem?_eq_getElem hlt⟩
                have HEl := hide (HR2.out.ok (List.mem_of_getElem? hp))
                have x0 := kept_cell HBw.out (hrow k p hp 0 _ rfl)
                have x1 := kept_cell HBw.out (hrow k p hp 1 _ rfl)
                have x2 := kept_cell HBw.out (hrow k p hp 2 _ rfl)
                have x3 := kept_cell HBw.out (hrow k p hp 3 _ rfl)
                have x4 := kept_cell HBw.out (hrow k p hp 4 _ rfl)
                simp only [elTes, Nat.add_zero] at x0 x1 x2 x3 x4
                have HTk : Hid ((l2.take (k + 1)).map (testL cs vs) = (l2.take k).map (testL cs vs) ++ [testL cs vs p]) := by show _ = _; rw [List.take_add_one, hp, List.map_append]; rfl
                have HTa : Hid ((G1 && (l2.take (k + 1)).all (wholeT cs vs)) = wholeT cs vs p) := by
                  show _ = _
                  have h0 := HGk.out
                  rw [Bool.and_eq_true] at h0
                  rw [List.take_add_one, hp, List.all_append, h0.1, h0.2]
                  simp
                have HDt := hide (HD.out rfl)
                clear HD
                clear hrow hp
                obtain ⟨i0, hi0', hz0, hz1, hz2⟩ := info_parts Try.infoLit7
                obtain ⟨op, ⟨lv, ln⟩, ⟨rw', rn⟩⟩ := p
                dsimp only at x0 x1 x2 x3 x4
                have HCa : Hid (∀ V : World, Below w.heap.size w V → ∀ v n, Calls Try.prog 18 #[.agg #[pv, cv, .slice (some ⟨b, off, none⟩) rs.length rc, fv], .agg #[.bool v, .int .i64 n], .slice va vs.length vc] V fun e w' => e = .returned (.tuple #[(tP cs vs ⟨v, n⟩).val, .bool (wholeS cs vs ⟨v, n⟩)]) ∧ Below V.heap.size V w') := fun V hV v n => rtermOf_any (s := ⟨v, n⟩) (HC.out.kept hV) (HR4.out.kept hV)
                have HTo := hide (And.intro (tP_ok (cs := cs) (vs := vs) (fun c hc => HC.out.ok hc) (fun s hs => HR4.out.ok hs) ⟨lv, ln⟩) (tP_ok (cs := cs) (vs := vs) (fun c hc => HC.out.ok hc) (fun s hs => HR4.out.ok hs) ⟨rw', rn⟩))
                have HC1 := hide (fun V hV => HCa.out V hV lv ln)
                have HC2 := hide (fun V hV => HCa.out V hV rw' rn)
                have HDl : Hid (testL cs vs ⟨op, ⟨lv, ln⟩, ⟨rw', rn⟩⟩ = ⟨3, ⟨#[]⟩, 0, [], op, tP cs vs ⟨lv, ln⟩, tP cs vs ⟨rw', rn⟩, 0⟩) := rfl
                have HWt : Hid (wholeT cs vs ⟨op, ⟨lv, ln⟩, ⟨rw', rn⟩⟩ = (wholeS cs vs ⟨lv, ln⟩ && wholeS cs vs ⟨rw', rn⟩)) := by show _ = _; simp [wholeT]
                rw [HWt.out] at HTa
                clear HWt HCa
                generalize tP cs vs ⟨lv, ln⟩ = t1 at *
                generalize tP cs vs ⟨rw', rn⟩ = t2 at *
                generalize wholeS cs vs ⟨lv, ln⟩ = g1 at *
                generalize wholeS cs vs ⟨rw', rn⟩ = g2 at *
                obtain ⟨t1k, t1n, t1s, t1o⟩ := t1
                obtain ⟨t2k, t2n, t2s, t2o⟩ := t2
                unfold Trm.val at HC1 HC2
                dsimp only at HC1 HC2
                have HOwr : Hid (Below wr.heap.size wr wr) := Below.refl _ _
                have HQwr := HBw
                have HSc : Hid (∀ V : World, Below wr.heap.size wr V → V.cell? ⟨w.heap.size, 0, none⟩ = some pv ∧ V.cell? ⟨w.heap.size, 1, none⟩ = some cv ∧ V.cell? ⟨w.heap.size, 2, none⟩ = some (.slice (some ⟨b, off, none⟩) rs.length rc) ∧ V.cell? ⟨w.heap.size, 3, none⟩ = some fv ∧ V.cell? ⟨w.heap.size + 1 + 1, 3, none⟩ = some (.slice (some ⟨eb, eo, none⟩) l2.length tc) ∧ V.cell? ⟨w.heap.size + 1 + 1, 5, none⟩ = some (.slice va vs.length vc) ∧ V.cell? ⟨eb, eo + k * 5 + 1, none⟩ = some (.bool lv) ∧ V.cell? ⟨eb, eo + k * 5 + 2, none⟩ = some (.int .i64 ln)) := fun V hV => by
                  have hV' : Below wr.heap.size wr V := HOwr.out.trans (hV.mono HOwr.out.size)
                  obtain ⟨c0, c1, c2, c3⟩ := (HX.out.1.kept HBy2.out).kept hV'
                  obtain ⟨z0, z1, z2, z3, z4, z5, z6⟩ := (HX.out.2.1.kept HBy2.out).kept hV'
                  exact ⟨c0, c1, c2, c3, z3, z5, kept_cell hV' x1, kept_cell hV' x2⟩
                go_upto_region 15 with fail
                go_cut [13, 14] (fun qa qb wx => ∃ T, qa = .pointer (some ⟨T, 0, none⟩) ∧ qb = .bool g1 ∧ Hid (wx.heap[T]? = some (.cells #[.int .i64 t1k, .int .i64 t1n, .string t1s, .int .i64 t1o] 66 (0, 0))) ∧ Hid (Below wr.heap.size wr wx) ∧ Hid (wr.heap.size ≤ T))
                case first =>
                  go_region_held3 (fun V => V.cell? ⟨w.heap.size, 0, none⟩ = some pv ∧ V.cell? ⟨w.heap.size, 1, none⟩ = some cv ∧ V.cell? ⟨w.heap.size, 2, none⟩ = some (.slice (some ⟨b, off, none⟩) rs.length rc) ∧ V.cell? ⟨w.heap.size, 3, none⟩ = some fv ∧ V.cell? ⟨w.heap.size + 1 + 1, 3, none⟩ = some (.slice (some ⟨eb, eo, none⟩) l2.length tc) ∧ V.cell? ⟨w.heap.size + 1 + 1, 5, none⟩ = some (.slice va vs.length vc) ∧ V.cell? ⟨eb, eo + k * 5 + 1, none⟩ = some (.bool lv) ∧ V.cell? ⟨eb, eo + k * 5 + 2, none⟩ = some (.int .i64 ln))
                    (first
                      | exact HSc.out _ (Below.refl _ _)
                      | exact HSc.out _ ((Below.refl _ wr).drew)
                      | exact HSc.out _ HB2.out
                      | exact HSc.out _ (((Below.refl _ wr).drew).alloc (Nat.le_refl _) _)
                      | exact HSc.out _ (HB2.out.alloc HB2.out.size _)
                      | exact HSc.out _ ((((HB2.out.setCell (Nat.le_refl _) _).setCell (Nat.le_refl _) _).setCell (Nat.le_refl _) _).setCell (Nat.le_refl _) _))
                    (first
                      | (go_at_call 18; refine (HC1.out _ (by first | exact HQwr.out.drew | exact (HQwr.out.alloc HQwr.out.size _).drew)).mono ?_; rintro e w2 ⟨rfl, h2⟩; have HB2 : Hid (Below wr.heap.size wr w2) := (by first | exact ((Below.refl _ wr).drew).trans h2 | exact (((Below.refl _ wr).alloc (Nat.le_refl _) _).drew).trans (h2.mono (by simp))); try (have hbx : w2.heap[wr.heap.size]? = some (.cells #[.int .i64 0, .int .i64 0, .string ⟨#[]⟩, .int .i64 0] 66 (0, 0)) := (by rw [h2.block _ (by simp)]; exact heap_alloc_new wr _); have hy0 : w2.cell? ⟨wr.heap.size, 0, none⟩ = some (.int .i64 0) := (by simp [World.cell?, hbx]); have hf0 : w2.frozen? ⟨wr.heap.size, 0, none⟩ = false := (by simp [World.frozen?, hbx]); have hy1 : w2.cell? ⟨wr.heap.size, 1, none⟩ = some (.int .i64 0) := (by simp [World.cell?, hbx]); have hf1 : w2.frozen? ⟨wr.heap.size, 1, none⟩ = false := (by simp [World.frozen?, hbx]); have hy2 : w2.cell? ⟨wr.heap.size, 2, none⟩ = some (.string ⟨#[]⟩) := (by simp [World.cell?, hbx]); have hf2 : w2.frozen? ⟨wr.heap.size, 2, none⟩ = false := (by simp [World.frozen?, hbx]); have hy3 : w2.cell? ⟨wr.heap.size, 3, none⟩ = some (.int .i64 0) := (by simp [World.cell?, hbx]); have hf3 : w2.frozen? ⟨wr.heap.size, 3, none⟩ = false := (by simp [World.frozen?, hbx]); have HBX := hide hbx; clear hbx); clear h2))
                  all_goals (go_wp2; go_meet)
                  · exact ⟨w2.heap.size, rfl, rfl, heap_alloc_new _ _, HB2.out.alloc HB2.out.size _, HB2.out.size⟩
                  · exact ⟨wr.heap.size, rfl, rfl, heap_set4 HBX.out, (((HB2.out.setCell (Nat.le_refl _) _).setCell (Nat.le_refl _) _).setCell (Nat.le_refl _) _).setCell (Nat.le_refl _) _, Nat.le_refl _⟩
                case rest =>
                  obtain ⟨T1, rfl, rfl, HT1, HBa, hT1⟩ := hcut
                  have hT1 := hT1.out
                  generalize wc = wa at *
                  have HOwa : Hid (Below wr.heap.size wr wa) := HBa
                  have HQwa := hide (HBw.out.trans (HBa.out.mono HBw.out.size))
                  clear HSc HC1
                  have HSc : Hid (∀ V : World, Below wa.heap.size wa V → V.cell? ⟨w.heap.size, 0, none⟩ = some pv ∧ V.cell? ⟨w.heap.size, 1, none⟩ = some cv ∧ V.cell? ⟨w.heap.size, 2, none⟩ = some (.slice (some ⟨b, off, none⟩) rs.length rc) ∧ V.cell? ⟨w.heap.size, 3, none⟩ = some fv ∧ V.cell? ⟨w.heap.size + 1 + 1, 3, none⟩ = some (.slice (some ⟨eb, eo, none⟩) l2.length tc) ∧ V.cell? ⟨w.heap.size + 1 + 1, 5, none⟩ = some (.slice va vs.length vc) ∧ V.cell? ⟨eb, eo + k * 5 + 3, none⟩ = some (.bool rw') ∧ V.cell? ⟨eb, eo + k * 5 + 4, none⟩ = some (.int .i64 rn)) := fun V hV => by
                    have hV' : Below wr.heap.size wr V := HOwa.out.trans (hV.mono HOwa.out.size)
                    obtain ⟨c0, c1, c2, c3⟩ := (HX.out.1.kept HBy2.out).kept hV'
                    obtain ⟨z0, z1, z2, z3, z4, z5, z6⟩ := (HX.out.2.1.kept HBy2.out).kept hV'
                    exact ⟨c0, c1, c2, c3, z3, z5, kept_cell hV' x3, kept_cell hV' x4⟩
                  go_upto_region 16 with fail
                  go_cut [15, 16] (fun qa qb wx => ∃ T, qa = .pointer (some ⟨T, 0, none⟩) ∧ qb = .bool g2 ∧ Hid (wx.heap[T]? = some (.cells #[.int .i64 t2k, .int .i64 t2n, .string t2s, .int .i64 t2o] 66 (0, 0))) ∧ Hid (Below wa.heap.size wa wx) ∧ Hid (wa.heap.size ≤ T))
                  case first =>
                    go_region_held3 (fun V => V.cell? ⟨w.heap.size, 0, none⟩ = some pv ∧ V.cell? ⟨w.heap.size, 1, none⟩ = some cv ∧ V.cell? ⟨w.heap.size, 2, none⟩ = some (.slice (some ⟨b, off, none⟩) rs.length rc) ∧ V.cell? ⟨w.heap.size, 3, none⟩ = some fv ∧ V.cell? ⟨w.heap.size + 1 + 1, 3, none⟩ = some (.slice (some ⟨eb, eo, none⟩) l2.length tc) ∧ V.cell? ⟨w.heap.size + 1 + 1, 5, none⟩ = some (.slice va vs.length vc) ∧ V.cell? ⟨eb, eo + k * 5 + 3, none⟩ = some (.bool rw') ∧ V.cell? ⟨eb, eo + k * 5 + 4, none⟩ = some (.int .i64 rn))
                      (first
                        | exact HSc.out _ (Below.refl _ _)
                        | exact HSc.out _ ((Below.refl _ wa).drew)
                        | exact HSc.out _ HB2.out
                        | exact HSc.out _ (((Below.refl _ wa).drew).alloc (Nat.le_refl _) _)
                        | exact HSc.out _ (HB2.out.alloc HB2.out.size _)
                        | exact HSc.out _ ((((HB2.out.setCell (Nat.le_refl _) _).setCell (Nat.le_refl _) _).setCell (Nat.le_refl _) _).setCell (Nat.le_refl _) _))
                      (first
                        | (go_at_call 18; refine (HC2.out _ (by first | exact HQwa.out.drew | exact (HQwa.out.alloc HQwa.out.size _).drew)).mono ?_; rintro e w2 ⟨rfl, h2⟩; have HB2 : Hid (Below wa.heap.size wa w2) := (by first | exact ((Below.refl _ wa).drew).trans h2 | exact (((Below.refl _ wa).alloc (Nat.le_refl _) _).drew).trans (h2.mono (by simp))); try (have hbx : w2.heap[wa.heap.size]? = some (.cells #[.int .i64 0, .int .i64 0, .string ⟨#[]⟩, .int .i64 0] 66 (0, 0)) := (by rw [h2.block _ (by simp)]; exact heap_alloc_new wa _); have hy0 : w2.cell? ⟨wa.heap.size, 0, none⟩ = some (.int .i64 0) := (by simp [World.cell?, hbx]); have hf0 : w2.frozen? ⟨wa.heap.size, 0, none⟩ = false := (by simp [World.frozen?, hbx]); have hy1 : w2.cell? ⟨wa.heap.size, 1, none⟩ = some (.int .i64 0) := (by simp [World.cell?, hbx]); have hf1 : w2.frozen? ⟨wa.heap.size, 1, none⟩ = false := (by simp [World.frozen?, hbx]); have hy2 : w2.cell? ⟨wa.heap.size, 2, none⟩ = some (.string ⟨#[]⟩) := (by simp [World.cell?, hbx]); have hf2 : w2.frozen? ⟨wa.heap.size, 2, none⟩ = false := (by simp [World.frozen?, hbx]); have hy3 : w2.cell? ⟨wa.heap.size, 3, none⟩ = some (.int .i64 0) := (by simp [World.cell?, hbx]); have hf3 : w2.frozen? ⟨wa.heap.size, 3, none⟩ = false := (by simp [World.frozen?, hbx]); have HBX := hide hbx; clear hbx); clear h2))
                    all_goals (go_wp2; go_meet)
                    · exact ⟨w2.heap.size, rfl, rfl, heap_alloc_new _ _, HB2.out.alloc HB2.out.size _, HB2.out.size⟩
                    · exact ⟨wa.heap.size, rfl, rfl, heap_set4 HBX.out, (((HB2.out.setCell (Nat.le_refl _) _).setCell (Nat.le_refl _) _).setCell (Nat.le_refl _) _).setCell (Nat.le_refl _) _, Nat.le_refl _⟩
                  case rest =>
                    obtain ⟨T2, rfl, rfl, HT2, HBb, hT2⟩ := hcut
                    have hT2 := hT2.out
                    generalize wc = wb at *
                    have HB3 := hide (HBa.out.trans (HBb.out.mono HBa.out.size))
                    have HT1b : Hid (wb.heap[T1]? = some (.cells #[.int .i64 t1k, .int .i64 t1n, .string t1s, .int .i64 t1o] 66 (0, 0))) := by show _ = _; rw [HBb.out.block _ (lt_of_heap HT1.out)]; exact HT1.out
                    clear HSc HC2
                    have HSc : Hid (∀ V : World, Below wb.heap.size wb V → V.cell? ⟨w1.heap.size, 3, none⟩ = some (.slice ba L.length bc) ∧ V.cell? ⟨w.heap.size + 1 + 1, 3, none⟩ = some (.slice (some ⟨eb, eo, none⟩) l2.length tc) ∧ V.cell? ⟨eb, eo + k * 5, none⟩ = some (.int .i64 op) ∧ V.cell? ⟨T1, 0, none⟩ = some (.int .i64 t1k) ∧ V.cell? ⟨T1, 1, none⟩ = some (.int .i64 t1n) ∧ V.cell? ⟨T1, 2, none⟩ = some (.string t1s) ∧ V.cell? ⟨T1, 3, none⟩ = some (.int .i64 t1o) ∧ V.cell? ⟨T2, 0, none⟩ = some (.int .i64 t2k) ∧ V.cell? ⟨T2, 1, none⟩ = some (.int .i64 t2n) ∧ V.cell? ⟨T2, 2, none⟩ = some (.string t2s) ∧ V.cell? ⟨T2, 3, none⟩ = some (.int .i64 t2o)) := fun V hV => by
                      have hV' : Below wr.heap.size wr V := HB3.out.trans (hV.mono HB3.out.size)
                      obtain ⟨z0, z1, z2, z3, z4, z5, z6⟩ := (HX.out.2.1.kept HBy2.out).kept hV'
                      exact ⟨kept_cell hV' (by simp [World.cell?, HA.out]), z3, kept_cell hV' x0, kept_cell hV (by simp [World.cell?, HT1b.out]), kept_cell hV (by simp [World.cell?, HT1b.out]), kept_cell hV (by simp [World.cell?, HT1b.out]), kept_cell hV (by simp [World.cell?, HT1b.out]), kept_cell hV (by simp [World.cell?, HT2.out]), kept_cell hV (by simp [World.cell?, HT2.out]), kept_cell hV (by simp [World.cell?, HT2.out]), kept_cell hV (by simp [World.cell?, HT2.out])⟩
                    have hs3 := HB3.out.size
                    have hLl : L.length < 1073741824 := by have := HLk.out; have := HBg.out; unfold bigR at this; dsimp only at this; omega
                    have HLl := hide hLl
                    clear x0 x1 x2 x3 x4
                    go_upto_region 17 with fail
                    go_cut [8] (fun t wx => t = .bool (g1 && g2) ∧ wx = wb)
                    case first =>
                      cases g1 <;> (go_wp2; go_meet; exact ⟨rfl, rfl⟩)
                    case rest =>
                      obtain ⟨rfl, hwc⟩ := hcut
                      rw [hwc]
                      clear hwc
                      go_upto_region 18 with fail
                      refine wp_region_last (by kernel_rfl) (fun V => V.cell? ⟨w1.heap.size, 3, none⟩ = some (.slice ba L.length bc) ∧ V.cell? ⟨w.heap.size + 1 + 1, 3, none⟩ = some (.slice (some ⟨eb, eo, none⟩) l2.length tc) ∧ V.cell? ⟨eb, eo + k * 5, none⟩ = some (.int .i64 op) ∧ V.cell? ⟨T1, 0, none⟩ = some (.int .i64 t1k) ∧ V.cell? ⟨T1, 1, none⟩ = some (.int .i64 t1n) ∧ V.cell? ⟨T1, 2, none⟩ = some (.string t1s) ∧ V.cell? ⟨T1, 3, none⟩ = some (.int .i64 t1o) ∧ V.cell? ⟨T2, 0, none⟩ = some (.int .i64 t2k) ∧ V.cell? ⟨T2, 1, none⟩ = some (.int .i64 t2n) ∧ V.cell? ⟨T2, 2, none⟩ = some (.string t2s) ∧ V.cell? ⟨T2, 3, none⟩ = some (.int .i64 t2o)) 14 ?_
                      have HS1 := HSc.out wb.drew (Below.refl _ wb).drew
                      refine wpAnyM_take (i := 0) (v := ?_) rfl (by kernel_rfl) (by kernel_rfl) (by kernel_rfl) (by kernel_rfl) (fun _ _ _ h => h) HS1 (Or.inl ⟨by rfl, ?_⟩) ?_
                      rotate_left
                      · (intro w hSw; (try dsimp only at hSw); go_simp; try with_reducible rfl)
                      simp only [Act.put, List.setIfInBounds_toArray, List.set_cons_zero, List.set_cons_succ]
                      refine wpAnyM_take (i := 1) (v := ?_) rfl (by kernel_rfl) (by kernel_rfl) (by kernel_rfl) (by kernel_rfl) (fun _ _ _ h => h) HS1 (Or.inl ⟨by rfl, ?_⟩) ?_
                      rotate_left
                      · (intro w hSw; (try dsimp only at hSw); go_simp; try with_reducible rfl)
                      simp only [Act.put, List.setIfInBounds_toArray, List.set_cons_zero, List.set_cons_succ]
                      refine wpAnyM_take (i := 2) (v := ?_) rfl (by kernel_rfl) (by kernel_rfl) (by kernel_rfl) (by kernel_rfl) (fun _ _ _ h => h) HS1 (Or.inl ⟨by rfl, ?_⟩) ?_
                      rotate_left
                      · (intro w hSw; (try dsimp only at hSw); go_simp; try with_reducible rfl)
                      simp only [Act.put, List.setIfInBounds_toArray, List.set_cons_zero, List.set_cons_succ]
                      refine wpAnyM_take (i := 3) (v := ?_) rfl (by kernel_rfl) (by kernel_rfl) (by kernel_rfl) (by kernel_rfl) (fun _ _ _ h => h) HS1 (Or.inl ⟨by rfl, ?_⟩) ?_
                      rotate_left
                      · (intro w hSw; (try dsimp only at hSw); go_simp; try with_reducible rfl)
                      simp only [Act.put, List.setIfInBounds_toArray, List.set_cons_zero, List.set_cons_succ]
                      refine wpAnyM_take (i := 4) (v := ?_) rfl (by kernel_rfl) (by kernel_rfl) (by kernel_rfl) (by kernel_rfl) (fun _ _ _ h => h) HS1 (Or.inl ⟨by rfl, ?_⟩) ?_
                      rotate_left
                      · (intro w hSw; (try dsimp only at hSw); go_simp; try with_reducible rfl)
                      simp only [Act.put, List.setIfInBounds_toArray, List.set_cons_zero, List.set_cons_succ]
                      refine wpAnyM_take (i := 5) (v := ?_) rfl (by kernel_rfl) (by kernel_rfl) (by kernel_rfl) (by kernel_rfl) (fun _ _ _ h => h) HS1 (Or.inl ⟨by rfl, ?_⟩) ?_
                      rotate_left
                      · (intro w hSw; (try dsimp only at hSw); go_simp; try with_reducible rfl)
                      simp only [Act.put, List.setIfInBounds_toArray, List.set_cons_zero, List.set_cons_succ]
                      refine wpAnyM_take (i := 6) (v := ?_) rfl (by kernel_rfl) (by kernel_rfl) (by kernel_rfl) (by kernel_rfl) (fun _ _ _ h => h) HS1 (Or.inl ⟨by rfl, ?_⟩) ?_
                      rotate_left
                      · (intro w hSw; (try dsimp only at hSw); go_simp; try with_reducible rfl)
                      simp only [Act.put, List.setIfInBounds_toArray, List.set_cons_zero, List.set_cons_succ]
                      refine wpAnyM_take (i := 7) (v := ?_) rfl (by kernel_rfl) (by kernel_rfl) (by kernel_rfl) (by kernel_rfl) (fun _ _ _ h => h) HS1 (Or.inl ⟨by rfl, ?_⟩) ?_
                      rotate_left
                      · (intro w hSw; (try dsimp only at hSw); go_simp; try with_reducible rfl)
                      simp only [Act.put, List.setIfInBounds_toArray, List.set_cons_zero, List.set_cons_succ]
                      refine wpAnyM_take (i := 8) (v := ?_) rfl (by kernel_rfl) (by kernel_rfl) (by kernel_rfl) (by kernel_rfl) (fun _ _ _ h => h) HS1 (Or.inl ⟨by rfl, ?_⟩) ?_
                      rotate_left
                      · (intro w hSw; (try dsimp only at hSw); go_simp; try with_reducible rfl)
                      simp only [Act.put, List.setIfInBounds_toArray, List.set_cons_zero, List.set_cons_succ]
                      refine wpAnyM_take (i := 9) (v := ?_) rfl (by kernel_rfl) (by kernel_rfl) (by kernel_rfl) (by kernel_rfl) (fun _ _ _ h => h) HS1 (Or.inl ⟨by rfl, ?_⟩) ?_
                      rotate_left
                      · (intro w hSw; (try dsimp only at hSw); go_simp; try with_reducible rfl)
                      simp only [Act.put, List.setIfInBounds_toArray, List.set_cons_zero, List.set_cons_succ]
                      refine wpAnyM_one (i := 10) (by kernel_rfl) rfl (fun K hK => ?_)
                      go_simp
                      refine hK.out _ _ HS1 (fun _ => ?_)
                      clear hK K
                      have HS3 := HSc.out (wb.alloc (.cells #[.int .i64 3, .string ⟨#[]⟩, .slice none 0 0, .int .i64 0, .int .i64 op, .int .i64 t1k, .int .i64 t1n, .string t1s, .int .i64 t1o, .int .i64 t2k, .int .i64 t2n, .string t2s, .int .i64 t2o, .int .i64 0] 68)).drew (belo1 wb _).drew
                      refine wpAnyM_one (i := 11) (by kernel_rfl) rfl (fun K hK => ?_)
                      go_simp
                      refine hK.out _ _ HS3 (fun _ => ?_)
                      clear hK K
                      have HOw := hide (HG.out.kept (HB3.out.trans (((belo1 wb (.cells #[.int .i64 3, .string ⟨#[]⟩, .slice none 0 0, .int .i64 0, .int .i64 op, .int .i64 t1k, .int .i64 t1n, .string t1s, .int .i64 t1o, .int .i64 t2k, .int .i64 t2n, .string t2s, .int .i64 t2o, .int .i64 0] 68)).drew).mono HB3.out.size)))
                      refine wpAnyM_one (i := 12) (by kernel_rfl) rfl (fun K hK => ?_)
                      refine step_append_lies _ (by rfl) _ _ _ (by rfl) (w1.heap.size + 1) 68 i0 _ 14 152 Try.underlying31 hi0' hz0 hz1 hz2 rfl (by decide) (.slice ba L.length bc) L.length (L.flatMap elLix.cells) (by rfl) HOw.out.1 ⟨wb.heap.size, 0, none⟩ 1 1 [.int .i64 3, .string ⟨#[]⟩, .slice none 0 0, .int .i64 0, .int .i64 op, .int .i64 t1k, .int .i64 t1n, .string t1s, .int .i64 t1o, .int .i64 t2k, .int .i64 t2n, .string t2s, .int .i64 t2o, .int .i64 0] (by rfl) (by rfl) (World.news_of_block (cs := #[.int .i64 3, .string ⟨#[]⟩, .slice none 0 0, .int .i64 0, .int .i64 op, .int .i64 t1k, .int .i64 t1n, .string t1s, .int .i64 t1o, .int .i64 t2k, .int .i64 t2n, .string t2s, .int .i64 t2o, .int .i64 0]) (t := 68) (fr := (0, 0)) (heap_alloc_new wb _)) (by simp [Value.oneCell']) (by omega) (by have := HLl.out; unfold maxLen; omega) (by have := HLl.out; omega) (by simp; omega) (wb.heap.size + 1) (by simp) ?_
                      intro gg cap2 w5 hown5 hgrow hat hlt5
                      have HG5 := hide (HOw.out.push (x := (⟨3, ⟨⟨#[]⟩, .slice none 0 0, 0, []⟩, op, ⟨t1k, t1n, t1s, t1o⟩, ⟨t2k, t2n, t2s, t2o⟩, 0⟩ : Lix)) ⟨I64_3, ⟨nil_size, I64_0, Lst.nil _ _ _⟩, HEl.out.1, HTo.out.1, HTo.out.2, I64_0⟩ rfl (size_alloc1 wb _) hown5 hgrow hat)
                      have hkeep : ∀ b, b < wb.heap.size → some b ≠ (Value.slice ba L.length bc).ownBlock → w5.heap[b]? = wb.heap[b]? := fun b hb hne => by rw [hgrow.block b (by simp; omega) hne]; exact heap_alloc_old _ _ hb
                      have hlow : ∀ b, b < w1.heap.size + 1 → w5.heap[b]? = wb.heap[b]? := fun b hb => hkeep b (by omega) (fun e => by have := own_new HG.out.1 b e.symm; omega)
                      have HA5 : Hid (w5.heap[w1.heap.size]? = some (.cells #[.string nm, .slice ua ht.length uc, .int .i64 0, .slice ba L.length bc] 33 (0, 0))) := by show _ = _; rw [hlow _ (by omega), HB3.out.block _ (by omega)]; exact HA.out
                      have HB5 : Hid (Below w1.heap.size w1 w5) := ((((HB.out.trans (HB3.out.mono HB.out.size)).alloc (by omega) _).drew).grown hgrow (by simp; omega) (fun j hj => by have := own_new HG.out.1 j hj; omega))
                      have HS5 : w5.cell? ⟨w1.heap.size, 3, none⟩ = some (.slice ba L.length bc) ∧ w5.cell? ⟨w.heap.size + 1 + 1, 3, none⟩ = some (.slice (some ⟨eb, eo, none⟩) l2.length tc) ∧ w5.cell? ⟨eb, eo + k * 5, none⟩ = some (.int .i64 op) ∧ w5.cell? ⟨T1, 0, none⟩ = some (.int .i64 t1k) ∧ w5.cell? ⟨T1, 1, none⟩ = some (.int .i64 t1n) ∧ w5.cell? ⟨T1, 2, none⟩ = some (.string t1s) ∧ w5.cell? ⟨T1, 3, none⟩ = some (.int .i64 t1o) ∧ w5.cell? ⟨T2, 0, none⟩ = some (.int .i64 t2k) ∧ w5.cell? ⟨T2, 1, none⟩ = some (.int .i64 t2n) ∧ w5.cell? ⟨T2, 2, none⟩ = some (.string t2s) ∧ w5.cell? ⟨T2, 3, none⟩ = some (.int .i64 t2o) := by
                        have hx := HSc.out wb (Below.refl _ _)
                        have heb : eb < w.heap.size := by obtain ⟨b', o', e', hb', -⟩ := HR2.out.row (by omega); cases e'; exact hb'
                        have hle := HB1.out.size
                        have hcell : ∀ b o, b < w1.heap.size + 1 → w5.cell? ⟨b, o, none⟩ = wb.cell? ⟨b, o, none⟩ := fun b o hb => World.cell?_of_block (hlow b hb)
                        have ho := own_lt6 HG.out.1
                        have hcell2 : ∀ b o, wr.heap.size ≤ b → b < wb.heap.size → w5.cell? ⟨b, o, none⟩ = wb.cell? ⟨b, o, none⟩ := fun b o hb hb2 => World.cell?_of_block (hkeep b hb2 (fun e => by have := ho b e.symm; omega))
                        have hT1s := lt_of_heap HT1b.out
                        have hT2s := lt_of_heap HT2.out
                        have hwa := HBa.out.size
                        refine ⟨?_, ?_, ?_, ?_, ?_, ?_, ?_, ?_, ?_, ?_, ?_⟩ <;> first | (rw [hcell _ _ (by omega)]; simp only [hx]) | (rw [hcell2 _ _ (by omega) (by omega)]; simp only [hx])
                      clear hown5 hgrow hat hlt5 HS3 hkeep hlow
                      have ha5 : w5.cell? ⟨w1.heap.size, 3, none⟩ = some (.slice ba L.length bc) := by simp [World.cell?, HA5.out]
                      have hf5 : w5.frozen? ⟨w1.heap.size, 3, none⟩ = false := by simp [World.frozen?, HA5.out]
                      refine hK.out _ _ HS5 (fun _ => ?_)
                      clear hK K
                      try simp only [Act.put, List.setIfInBounds_toArray, List.set_cons_zero, List.set_cons_succ]
                      refine wpAnyM_one (i := 13) (by kernel_rfl) rfl (fun K hK => ?_)
                      go_simp
                      refine hK.out _ _ HS5 (fun _ => ?_)
                      clear hK K
                      clear HS5 HSc
                      refine wpAnyM_end (by kernel_rfl) rfl (by kernel_rfl) (fun K hK => ?_)
                      go_simp
                      refine hK.out _ _ ?_
                      clear hK K
                      go_wp2
                      go_roundw
                      case rel =>
                        refine ⟨k + 1, some ⟨gg, 0, none⟩, cap2, L ++ [(⟨3, ⟨⟨#[]⟩, .slice none 0 0, 0, []⟩, op, ⟨t1k, t1n, t1s, t1o⟩, ⟨t2k, t2n, t2s, t2o⟩, 0⟩ : Lix)], by omega, by go_num, by rw [HTa.out], ?_, ?_, by show _ ≤ _; rw [List.length_append]; have := HLk.out; simp only [List.length_singleton]; omega, ?_, HB5.out.setCell (by dsimp only; omega) _⟩
                        · rw [List.length_append]
                          exact HG5.out.above fun b hb _ => heap_other (by omega)
                        · show _ = _
                          rw [List.length_append]
                          exact heap_set1 HA5.out
                        · intro h
                          rw [HTa.out] at h
                          rw [List.map_append, HDt.out, HTk.out, HDl.out, ← List.append_assoc]
                          rfl
                      case measure => simp [intOf]; omega
              | false =>
                obtain ⟨G2, hG2⟩ : ∃ x, (G1 && l2.all (wholeT cs vs)) = x := ⟨_, rfl⟩
                have hgG : G2 = gk := by
                  symm
                  rw [← HGk.out]
                  rw [← hG2]
                  rcases Nat.lt_or_ge k l2.length with hlt | hge
                  · have hgf : gk = false := by simpa [hlt] using hX
                    rw [← HGk.out] at hgf
                    rw [hgf]
                    symm
                    rw [Bool.and_eq_false_iff] at hgf ⊢
                    rcases hgf with h | h
                    · exact .inl h
                    · right
                      rw [List.all_eq_false] at h ⊢
                      obtain ⟨x, hx, hf⟩ := h
                      exact ⟨x, List.mem_of_mem_take hx, hf⟩
                  · rw [List.take_of_length_le hge]
                have HDn : Hid (G2 = true → L.map Lix.d = l1.map (atomL 1 ps cs vs) ++ l2.map (testL cs vs)) := fun h => by
                  have h1 : gk = true := by rw [← hgG]; exact h
                  have hge : l2.length ≤ k := by simpa [h1] using hX
                  have := HD.out h1
                  rw [List.take_of_length_le hge] at this
                  exact this
                have HLn : Hid (L.length ≤ l1.length + l2.length) := by show _ ≤ _; have := HLk.out; omega
                have HG2 := hide hG2
                subst hgG
                clear HD HLk HGk hX hG2
                have HDm' := HDn
                have HLm' := HLn
                clear HDn HLn
                go_wp2
                go_loopw [8, 17, 18] (fun g i _ wl => ∃ k : Nat, ∃ ba bc, ∃ L : List Lix, k ≤ l3.length ∧ i = .int .i64 k ∧ g = .bool (G2 && (l3.take k).all (wholeP ps cs vs)) ∧ Hid (Grow elLix 68 (w1.heap.size + 1) wl (.slice ba L.length bc) L) ∧ Hid (wl.heap[w1.heap.size]? = some (.cells #[.string nm, .slice ua ht.length uc, .int .i64 0, .slice ba L.length bc] 33 (0, 0))) ∧ Hid (L.length ≤ (l1.length + l2.length) + k) ∧ Hid ((G2 && (l3.take k).all (wholeP ps cs vs)) = true → L.map Lix.d = (l1.map (atomL 1 ps cs vs) ++ l2.map (testL cs vs)) ++ (l3.take k).map (atomL 2 ps cs vs)) ∧ Hid (Below w1.heap.size w1 wl)) (fun g i _ _ => l3.length - (intOf i).toNat)
                case atStart => exact ⟨0, ba, bc, L, by omega, rfl, by simp, HG, HA, by show _ ≤ _; have := HLm'.out; omega, fun h => by rw [HDm'.out (by simpa using h)]; simp, HB⟩
                case round =>
                  obtain ⟨k, ba, bc, L, hk, rfl, hg, HG, HA, HLk, HD, HB⟩ := hrel
                  obtain ⟨gk, hgk⟩ : ∃ x, (G2 && (l3.take k).all (wholeP ps cs vs)) = x := ⟨_, rfl⟩
                  rw [hgk] at hg HD
                  subst hg
                  have HGk := hide hgk
                  clear hgk
                  have hsz : w1.heap.size + 1 ≤ wr.heap.size := lt_of_heap HA.out
                  have hsz3 : w.heap.size + 1 + 1 + 1 ≤ w1.heap.size := by have := HBy.out.size; rw [HSz.out] at this; exact this
                  have HBw : Hid (Below w.heap.size w wr) := HB1.out.trans (HB.out.mono HB1.out.size)
                  have HBy2 : Hid (Below Y.heap.size Y wr) := HBy.out.trans (HB.out.mono HBy.out.size)
                  obtain ⟨z0, z1, z2, z3, z4, z5, z6⟩ := HX.out.2.1.kept HBy2.out
                  go_upto_region 20 with fail
                  go_cut [135] (fun t wx => t = .bool (decide (k < l3.length) && gk) ∧ wx = wr)
                  case first =>
                    by_cases hlt : k < l3.length
                    · have hi : (k : Int) < (l3.length : Int) := by omega
                      cases gk <;> (go_wp2; go_meet; exact ⟨by simp [hlt], rfl⟩)
                    · have hi : ¬ (k : Int) < (l3.length : Int) := by omega
                      go_wp2
                      go_meet
                      exact ⟨by simp [hlt], rfl⟩
                  case rest =>
                    obtain ⟨rfl, hwc⟩ := hcut
                    rw [hwc]
                    clear hwc wc
                    clear z0 z1 z2 z3 z4 z5 z6
                    cases hX : (decide (k < l3.length) && gk) with
                    | true =>
                      rw [Bool.and_eq_true, decide_eq_true_iff] at hX
                      obtain ⟨hlt, rfl⟩ := hX
                      have hi0 : (0 : Int) ≤ (k : Int) := by omega
                      have hi : (k : Int) < (l3.length : Int) := by omega
                      obtain ⟨-, -, -, -, -, hll⟩ := HR3.out.shape
                      obtain ⟨eb, eo, he, -, -, hrow⟩ := HR3.out.row (by omega)
                      subst he
                      obtain ⟨p, hp⟩ : ∃ s, l3[k]? = some s := ⟨_, List.getElem?_eq_getElem hlt⟩
                      have HEl := hide (HR3.out.ok (List.mem_of_getElem? hp))
                      have x0 := kept_cell HBw.out (hrow k p hp 0 _ rfl)
                      have x1 := kept_cell HBw.out (hrow k p hp 1 _ rfl)
                      simp only [elPat, Nat.add_zero] at x0 x1
                      have HTk : Hid ((l3.take (k + 1)).map (atomL 2 ps cs vs) = (l3.take k).map (atomL 2 ps cs vs) ++ [atomL 2 ps cs vs p]) := by show _ = _; rw [List.take_add_one, hp, List.map_append]; rfl
                      have HTa : Hid ((G2 && (l3.take (k + 1)).all (wholeP ps cs vs)) = wholeP ps cs vs p) := by
                        show _ = _
                        have h0 := HGk.out
                        rw [Bool.and_eq_true] at h0
                        rw [List.take_add_one, hp, List.all_append, h0.1, h0.2]
                        simp
                      have HDt := hide (HD.out rfl)
                      clear HD
                      clear hrow hp
                      obtain ⟨i0, hi0', hz0, hz1, hz2⟩ := info_parts Try.infoLit7
                      obtain ⟨pq, pvv, ss⟩ := p
                      obtain ⟨ga, gc, hg, -, -, -⟩ := (elPat_ok HEl.out).2.shape
                      dsimp only at hg
                      subst hg
                      dsimp only at x0 x1
                      have HCa : Hid (∀ V : World, Below w.heap.size w V → Calls Try.prog 17 #[.agg #[pv, cv, .slice (some ⟨b, off, none⟩) rs.length rc, fv], .agg #[.int .i64 pq, .slice ga ss.length gc], .slice va vs.length vc] V fun e w' => (∃ va vc, e = .returned (.tuple #[.agg #[.string (gName ps cs vs ⟨pq, .slice ga ss.length gc, ss⟩), .slice va (gTs ps cs vs ⟨pq, .slice ga ss.length gc, ss⟩).length vc, .int .i64 0], .bool (wholeP ps cs vs ⟨pq, .slice ga ss.length gc, ss⟩)]) ∧ Lst elTrm w' (fun b => V.heap.size ≤ b) (.slice va (gTs ps cs vs ⟨pq, .slice ga ss.length gc, ss⟩).length vc) (gTs ps cs vs ⟨pq, .slice ga ss.length gc, ss⟩)) ∧ Below V.heap.size V w') := fun V hV => (ratomOf_any (p := ⟨pq, .slice ga ss.length gc, ss⟩) (HP.out.kept hV) (HC.out.kept hV) (HR4.out.kept hV) (elPat.kept HEl.out hV)).mono fun e w' h => ⟨h.1.one, h.2⟩
                      have HGx : Hid (wholeP ps cs vs ⟨pq, .slice ga ss.length gc, ss⟩ = true → (⟨2, gName ps cs vs ⟨pq, .slice ga ss.length gc, ss⟩, 0, gTs ps cs vs ⟨pq, .slice ga ss.length gc, ss⟩, 0, noT, noT, 0⟩ : LD) = atomL 2 ps cs vs ⟨pq, .slice ga ss.length gc, ss⟩) := fun h => by rw [gName_whole h, gTs_whole h]; rfl
                      have HNp := hide (HNm.out ⟨pq, .slice ga ss.length gc, ss⟩)
                      generalize gName ps cs vs ⟨pq, .slice ga ss.length gc, ss⟩ = gn at *
                      generalize gTs ps cs vs ⟨pq, .slice ga ss.length gc, ss⟩ = gt at *
                      generalize wholeP ps cs vs ⟨pq, .slice ga ss.length gc, ss⟩ = gw at *
                      have HSc : Hid (∀ V : World, Below wr.heap.size wr V → V.cell? ⟨w.heap.size, 0, none⟩ = some pv ∧ V.cell? ⟨w.heap.size, 1, none⟩ = some cv ∧ V.cell? ⟨w.heap.size, 2, none⟩ = some (.slice (some ⟨b, off, none⟩) rs.length rc) ∧ V.cell? ⟨w.heap.size, 3, none⟩ = some fv ∧ V.cell? ⟨w.heap.size + 1 + 1, 4, none⟩ = some (.slice (some ⟨eb, eo, none⟩) l3.length nc) ∧ V.cell? ⟨w.heap.size + 1 + 1, 5, none⟩ = some (.slice va vs.length vc) ∧ V.cell? ⟨eb, eo + k * 2, none⟩ = some (.int .i64 pq) ∧ V.cell? ⟨eb, eo + k * 2 + 1, none⟩ = some (.slice ga ss.length gc)) := fun V hV => by
                        obtain ⟨c0, c1, c2, c3⟩ := (HX.out.1.kept HBy2.out).kept hV
                        obtain ⟨z0, z1, z2, z3, z4, z5, z6⟩ := (HX.out.2.1.kept HBy2.out).kept hV
                        exact ⟨c0, c1, c2, c3, z4, z5, kept_cell hV x0, kept_cell hV x1⟩
                      clear x0 x1
                      go_upto_region 23 with fail
                      obtain ⟨Z, hZ⟩ : ∃ Z, Z = wr.alloc (.cells #[.string ⟨#[]⟩, .slice none 0 0, .int .i64 0] 30) := ⟨_, rfl⟩
                      have HZ : Hid (Below wr.heap.size wr Z) := by rw [hZ]; exact belo1 _ _
                      have HZs : Hid (Z.heap.size = wr.heap.size + 1) := by show _ = _; rw [hZ]; simp
                      have HZb : Hid (Z.heap[wr.heap.size]? = some (.cells #[.string ⟨#[]⟩, .slice none 0 0, .int .i64 0] 30 (0, 0))) := by show _ = _; rw [hZ]; exact heap_alloc_new _ _
                      have HBz := hide (HBw.out.trans (HZ.out.mono HBw.out.size))
                      rw [← hZ]
                      clear hZ
                      go_region_held3 (fun V => V.cell? ⟨w.heap.size, 0, none⟩ = some pv ∧ V.cell? ⟨w.heap.size, 1, none⟩ = some cv ∧ V.cell? ⟨w.heap.size, 2, none⟩ = some (.slice (some ⟨b, off, none⟩) rs.length rc) ∧ V.cell? ⟨w.heap.size, 3, none⟩ = some fv ∧ V.cell? ⟨w.heap.size + 1 + 1, 4, none⟩ = some (.slice (some ⟨eb, eo, none⟩) l3.length nc) ∧ V.cell? ⟨w.heap.size + 1 + 1, 5, none⟩ = some (.slice va vs.length vc) ∧ V.cell? ⟨eb, eo + k * 2, none⟩ = some (.int .i64 pq) ∧ V.cell? ⟨eb, eo + k * 2 + 1, none⟩ = some (.slice ga ss.length gc))
                        (first
                          | exact HSc.out _ HZ.out
                          | exact HSc.out _ HZ.out.drew
                          | exact HSc.out _ HB2w.out
                          | exact HSc.out _ (((HB2w.out.setCell (Nat.le_refl _) _).setCell (Nat.le_refl _) _).setCell (Nat.le_refl _) _))
                        (first
                          | (go_at_call 17; refine (HCa.out _ HBz.out.drew).mono ?_; rintro e w2 ⟨⟨da, dc, rfl, hl2⟩, h2⟩; have HB2 : Hid (Below Z.heap.size Z w2) := ((Below.refl _ Z).drew).trans h2; have HL2 := hide hl2; have hbx : w2.heap[wr.heap.size]? = some (.cells #[.string ⟨#[]⟩, .slice none 0 0, .int .i64 0] 30 (0, 0)) := (by rw [HB2.out.block _ (by rw [HZs.out]; omega)]; exact HZb.out); have hy0 : w2.cell? ⟨wr.heap.size, 0, none⟩ = some (.string ⟨#[]⟩) := (by simp [World.cell?, hbx]); have hf0 : w2.frozen? ⟨wr.heap.size, 0, none⟩ = false := (by simp [World.frozen?, hbx]); have hy1 : w2.cell? ⟨wr.heap.size, 1, none⟩ = some (.slice none 0 0) := (by simp [World.cell?, hbx]); have hf1 : w2.frozen? ⟨wr.heap.size, 1, none⟩ = false := (by simp [World.frozen?, hbx]); have hy2 : w2.cell? ⟨wr.heap.size, 2, none⟩ = some (.int .i64 0) := (by simp [World.cell?, hbx]); have hf2 : w2.frozen? ⟨wr.heap.size, 2, none⟩ = false := (by simp [World.frozen?, hbx]); have HBX := hide hbx; have HB2w : Hid (Below wr.heap.size wr w2) := HZ.out.trans (HB2.out.mono HZ.out.size); clear hbx h2 hl2))
                      obtain ⟨w3, hw3⟩ : ∃ V, V = ((w2.setCell ⟨wr.heap.size, 0, none⟩ (.string gn)).setCell ⟨wr.heap.size, 1, none⟩ (.slice da gt.length dc)).setCell ⟨wr.heap.size, 2, none⟩ (.int .i64 0) := ⟨_, rfl⟩
                      have HB3 : Hid (Below wr.heap.size wr w3) := by rw [hw3]; exact ((HB2w.out.setCell (Nat.le_refl _) _).setCell (Nat.le_refl _) _).setCell (Nat.le_refl _) _
                      have HA3 : Hid (w3.heap[wr.heap.size]? = some (.cells #[.string gn, .slice da gt.length dc, .int .i64 0] 30 (0, 0))) := by show _ = _; rw [hw3]; exact heap_set3 HBX.out
                      have HL3 : Hid (Lst elTrm w3 (fun b => wr.heap.size + 1 ≤ b) (.slice da gt.length dc) gt) := HL2.out.move fun b hb hF => by
                        have hF' : Z.heap.size ≤ b := hF
                        rw [HZs.out] at hF'
                        refine ⟨hF', ?_⟩
                        rw [hw3, heap_other (by omega), heap_other (by omega), heap_other (by omega)]
                      rw [← hw3]
                      clear hw3 hy0 hy1 hy2 hf0 hf1 hf2 HBX HL2 HSc
                      have ha3 : w3.cell? ⟨w1.heap.size, 3, none⟩ = some (.slice ba L.length bc) := kept_cell HB3.out (by simp [World.cell?, HA.out])
                      have hq0 : w3.cell? ⟨wr.heap.size, 0, none⟩ = some (.string gn) := by simp [World.cell?, HA3.out]
                      have hq1 : w3.cell? ⟨wr.heap.size, 1, none⟩ = some (.slice da gt.length dc) := by simp [World.cell?, HA3.out]
                      have hq2 : w3.cell? ⟨wr.heap.size, 2, none⟩ = some (.int .i64 0) := by simp [World.cell?, HA3.out]
                      have HOw := hide (HG.out.kept (HB3.out.trans ((belo1 w3 (.cells #[.int .i64 2, .string gn, .slice da gt.length dc, .int .i64 0, .int .i64 0, .int .i64 0, .int .i64 0, .string ⟨#[]⟩, .int .i64 0, .int .i64 0, .int .i64 0, .string ⟨#[]⟩, .int .i64 0, .int .i64 0] 68)).mono HB3.out.size)))
                      have hs3 := HB3.out.size
                      have hLl : L.length < 1073741824 := by have := HLk.out; have := HBg.out; unfold bigR at this; dsimp only at this; omega
                      go_wp2_with (at_builtin; refine wpList_append_lies _ rfl _ _ 31 rfl (w1.heap.size + 1) 68 i0 (.agg #[.int .i64 0, .string ⟨#[]⟩, .slice none 0 0, .int .i64 0, .int .i64 0, .int .i64 0, .int .i64 0, .string ⟨#[]⟩, .int .i64 0, .int .i64 0, .int .i64 0, .string ⟨#[]⟩, .int .i64 0, .int .i64 0]) 14 152 Try.underlying31 hi0' hz0 hz1 hz2 rfl (by decide) (.slice ba L.length bc) L.length (L.flatMap elLix.cells) rfl HOw.out.1 ⟨w3.heap.size, 0, none⟩ 1 1 [.int .i64 2, .string gn, .slice da gt.length dc, .int .i64 0, .int .i64 0, .int .i64 0, .int .i64 0, .string ⟨#[]⟩, .int .i64 0, .int .i64 0, .int .i64 0, .string ⟨#[]⟩, .int .i64 0, .int .i64 0] rfl rfl (World.news_of_block (cs := #[.int .i64 2, .string gn, .slice da gt.length dc, .int .i64 0, .int .i64 0, .int .i64 0, .int .i64 0, .string ⟨#[]⟩, .int .i64 0, .int .i64 0, .int .i64 0, .string ⟨#[]⟩, .int .i64 0, .int .i64 0]) (t := 68) (fr := (0, 0)) (heap_alloc_new w3 _)) (by simp [Value.oneCell']) (by decide) (by unfold maxLen; omega) (by omega) (by simp; omega) (w3.heap.size + 1) (by simp) ?_; intro gg cap2 w5 hown5 hgrow hat hlt5; have HG5 := hide (HOw.out.push (x := (⟨2, ⟨gn, .slice da gt.length dc, 0, gt⟩, 0, noT, noT, 0⟩ : Lix)) ⟨I64_2, ⟨HNp.out, I64_0, HL3.out.move (G := fun b => w1.heap.size + 1 ≤ b ∧ (Value.slice ba L.length bc).ownBlock ≠ some b) fun b hb hF => ⟨⟨by have hF' : wr.heap.size + 1 ≤ b := hF; omega, fun e => by have := own_lt6 HG.out.1 b e; have hF' : wr.heap.size + 1 ≤ b := hF; omega⟩, heap_alloc_old _ _ hb⟩⟩, I64_0, noT_ok, noT_ok, I64_0⟩ rfl (size_alloc1 w3 _) hown5 hgrow hat); have hlow : ∀ b, b < w1.heap.size + 1 → w5.heap[b]? = wr.heap[b]? := (fun b hb => by rw [HOw.out.low hgrow hb (by simp; omega), heap_alloc_old _ _ (by omega), HB3.out.block _ (by omega)]); have HA5 : Hid (w5.heap[w1.heap.size]? = some (.cells #[.string nm, .slice ua ht.length uc, .int .i64 0, .slice ba L.length bc] 33 (0, 0))) := (by show _ = _; rw [hlow _ (by omega)]; exact HA.out); have HB5 : Hid (Below w1.heap.size w1 w5) := (((HB.out.trans (HB3.out.mono HB.out.size)).alloc (by omega) _).grown hgrow (by simp; omega) (fun j hj => by have := own_new HG.out.1 j hj; omega)); clear hown5 hgrow hat hlt5 hlow; have ha5 : w5.cell? ⟨w1.heap.size, 3, none⟩ = some (.slice ba L.length bc) := (by simp [World.cell?, HA5.out]); have hf5 : w5.frozen? ⟨w1.heap.size, 3, none⟩ = false := (by simp [World.frozen?, HA5.out]))
                      go_roundw
                      case rel =>
                        refine ⟨k + 1, some ⟨gg, 0, none⟩, cap2, L ++ [(⟨2, ⟨gn, .slice da gt.length dc, 0, gt⟩, 0, noT, noT, 0⟩ : Lix)], by omega, by go_num, by rw [HTa.out], ?_, ?_, by show _ ≤ _; rw [List.length_append]; have := HLk.out; simp only [List.length_singleton]; omega, ?_, HB5.out.setCell (by dsimp only; omega) _⟩
                        · rw [List.length_append]
                          exact HG5.out.above fun b hb _ => heap_other (by omega)
                        · show _ = _
                          rw [List.length_append]
                          exact heap_set1 HA5.out
                        · intro h
                          rw [HTa.out] at h
                          rw [List.map_append, HDt.out, HTk.out, ← HGx.out h, ← List.append_assoc]
                          rfl
                      case measure => simp [intOf]; omega
                    | false =>
                      obtain ⟨G3, hG3⟩ : ∃ x, (G2 && l3.all (wholeP ps cs vs)) = x := ⟨_, rfl⟩
                      have hgG : G3 = gk := by
                        symm
                        rw [← HGk.out]
                        rw [← hG3]
                        rcases Nat.lt_or_ge k l3.length with hlt | hge
                        · have hgf : gk = false := by simpa [hlt] using hX
                          rw [← HGk.out] at hgf
                          rw [hgf]
                          symm
                          rw [Bool.and_eq_false_iff] at hgf ⊢
                          rcases hgf with h | h
                          · exact .inl h
                          · right
                            rw [List.all_eq_false] at h ⊢
                            obtain ⟨x, hx, hf⟩ := h
                            exact ⟨x, List.mem_of_mem_take hx, hf⟩
                        · rw [List.take_of_length_le hge]
                      have HDn : Hid (G3 = true → L.map Lix.d = (l1.map (atomL 1 ps cs vs) ++ l2.map (testL cs vs)) ++ l3.map (atomL 2 ps cs vs)) := fun h => by
                        have h1 : gk = true := by rw [← hgG]; exact h
                        have hge : l3.length ≤ k := by simpa [h1] using hX
                        have := HD.out h1
                        rw [List.take_of_length_le hge] at this
                        exact this
                      have HLn : Hid (L.length ≤ (l1.length + l2.length) + l3.length) := by show _ ≤ _; have := HLk.out; omega
                      have HG3 := hide hG3
                      subst hgG
                      clear HD HLk HGk hX hG3
                      have HWR : Hid (wholeR ps cs ⟨⟨q, .slice ha hs.length hcap, hs⟩, .slice pa l1.length pc, l1, .slice ta l2.length tc, l2, .slice na l3.length nc, l3, .slice va vs.length vc, vs, cl⟩ = G3) := by
                        show _ = _
                        unfold wholeR
                        dsimp only
                        rw [← HG3.out, ← HG2.out, ← HG1.out, ← HG0.out]
                        generalize wholeP ps cs vs ⟨q, .slice ha hs.length hcap, hs⟩ = a1
                        generalize l1.all (wholeP ps cs vs) = a2
                        generalize l2.all (wholeT cs vs) = a3
                        generalize l3.all (wholeP ps cs vs) = a4
                        cases a1 <;> cases a2 <;> cases a3 <;> cases a4 <;> rfl
                      have HGa : Hid (G3 = true → G0 = true) := fun h => by
                        have h3 := HG3.out; rw [h, Bool.and_eq_true] at h3
                        have h2 := HG2.out; rw [h3.1, Bool.and_eq_true] at h2
                        have h1 := HG1.out; rw [h2.1, Bool.and_eq_true] at h1
                        exact h1.1
                      have HRb : Hid (wr.heap[w.heap.size + 1]? = some (.cells #[.string ⟨#[]⟩, .slice none 0 0, .int .i64 0, .slice none 0 0] 33 (0, 0))) := by show _ = _; rw [HBy2.out.block _ (by rw [HSz.out]; omega)]; exact HX.out.2.2
                      have hb0 : wr.cell? ⟨w.heap.size + 1, 0, none⟩ = some (.string ⟨#[]⟩) := by simp [World.cell?, HRb.out]
                      have hb1 : wr.cell? ⟨w.heap.size + 1, 1, none⟩ = some (.slice none 0 0) := by simp [World.cell?, HRb.out]
                      have hb2 : wr.cell? ⟨w.heap.size + 1, 2, none⟩ = some (.int .i64 0) := by simp [World.cell?, HRb.out]
                      have hb3 : wr.cell? ⟨w.heap.size + 1, 3, none⟩ = some (.slice none 0 0) := by simp [World.cell?, HRb.out]
                      have hf0 : wr.frozen? ⟨w.heap.size + 1, 0, none⟩ = false := by simp [World.frozen?, HRb.out]
                      have hf1 : wr.frozen? ⟨w.heap.size + 1, 1, none⟩ = false := by simp [World.frozen?, HRb.out]
                      have hf2 : wr.frozen? ⟨w.heap.size + 1, 2, none⟩ = false := by simp [World.frozen?, HRb.out]
                      have hf3 : wr.frozen? ⟨w.heap.size + 1, 3, none⟩ = false := by simp [World.frozen?, HRb.out]
                      have hLl : L.length < 1073741824 := by have := HLn.out; have := HBg.out; unfold bigR at this; dsimp only at this; omega
                      have HLl := hide hLl
                      clear hLl
                      cases G3 with
                      | false =>
                        go_wp2
                        exact bodyPost_ret (v := .tuple #[.agg #[.string ⟨#[]⟩, .slice none 0 0, .int .i64 0, .slice none 0 0], .int .i64 2]) (by simp [results, Try.results6, go_sem, hb0, hb1, hb2, hb3]) rfl ⟨.inr (.inl ⟨_, HI.out, HWR.out, rfl⟩), (((HBw.out.setCell (by dsimp only; omega) _).setCell (by dsimp only; omega) _).setCell (by dsimp only; omega) _).setCell (by dsimp only; omega) _⟩
                      | true =>
                        obtain ⟨hn1, hn2⟩ := HGn.out (HGa.out rfl)
                        have HN1 := hide hn1
                        have HN2 := hide hn2
                        clear hn1 hn2
                        have ha0 : wr.cell? ⟨w1.heap.size, 0, none⟩ = some (.string nm) := by simp [World.cell?, HA.out]
                        have ha1 : wr.cell? ⟨w1.heap.size, 1, none⟩ = some (.slice ua ht.length uc) := by simp [World.cell?, HA.out]
                        have ha2 : wr.cell? ⟨w1.heap.size, 2, none⟩ = some (.int .i64 0) := by simp [World.cell?, HA.out]
                        have ha3 : wr.cell? ⟨w1.heap.size, 3, none⟩ = some (.slice ba L.length bc) := by simp [World.cell?, HA.out]
                        go_wp2
                        refine bodyPost_ret (v := .tuple #[.agg #[.string nm, .slice ua ht.length uc, .int .i64 0, .slice ba L.length bc], .int .i64 0]) (by simp [results, Try.results6, go_sem, hb0, hb1, hb2, hb3]) rfl ⟨.inr (.inr ⟨_, HI.out, HWR.out, .slice ua ht.length uc, .slice ba L.length bc, by rw [HN1.out], ?_, L, ?_, HDn.out (by first | rfl | trivial)⟩), (((HBw.out.setCell (by dsimp only; omega) _).setCell (by dsimp only; omega) _).setCell (by dsimp only; omega) _).setCell (by dsimp only; omega) _⟩
                        · dsimp only
                          rw [← HN2.out]
                          refine HH.out.move fun b hb hF => ?_
                          have hF' : Y.heap.size ≤ b := hF
                          rw [HSz.out] at hF'
                          refine ⟨by omega, ?_⟩
                          rw [heap_other (by omega), heap_other (by omega), heap_other (by omega), heap_other (by omega)]
                          exact HB.out.block b hb
                        · refine (HG.out.new HLl.out).move fun b hb hF => ?_
                          have hF' : w1.heap.size + 1 ≤ b := hF
                          refine ⟨by omega, ?_⟩
                          rw [heap_other (by omega), heap_other (by omega), heap_other (by omega), heap_other (by omega)]
end Go.Proofs.Ythbfkbkcfcpibaa
