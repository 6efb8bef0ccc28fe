/- What core.Back answers. -/
import Derived.Test.YthbfkbkcfcpibaaCoreClause
namespace Go.Proofs.Ythbfkbkcfcpibaa
set_option linter.unusedSimpArgs false
set_option linter.unusedVariables false
open Go.RowKit

def noClause : Value := .agg #[.string ⟨#[]⟩, .slice none 0 0, .int .i64 0, .slice none 0 0]
/-- A clause and a number as they come back. -/
def BackRes (w w' : World) (ps : List Prd) (cs : List Con) (rs : List Rul) (n : Int) (e : Ending) : Prop :=
  (idx rs n = none ∧ e = .returned (.tuple #[noClause, .int .i64 50])) ∨
  (∃ r, idx rs n = some r ∧ wholeR ps cs r = false ∧ e = .returned (.tuple #[noClause, .int .i64 2])) ∨
  (∃ r, idx rs n = some r ∧ wholeR ps cs r = true ∧ ∃ hv bv, e = .returned (.tuple #[.agg #[.string (nameP ps r.h.q), hv, .int .i64 0, bv], .int .i64 0]) ∧ IsClause w w' ps cs r hv bv)

def bigR (r : Rul) : Prop := r.ps.length + r.ts.length + r.ns.length < 1073741824

set_option maxRecDepth 100000 in
set_option maxHeartbeats 1000000 in
theorem back_any {w : World} {pv cv rv fv : Value} {ps : List Prd} {cs : List Con} {rs : List Rul} {n : Int} (hp : Has elPrd w pv ps) (hc : Has elCon w cv cs) (hr : Has elRul w rv rs) (hb : ∀ r ∈ rs, bigR r) :
    Calls Try.prog 5 #[.agg #[pv, cv, rv, fv], .int .i64 n] w fun e w' => BackRes w w' ps cs rs n e ∧ Below w.heap.size w w' := by
  obtain ⟨ra, rc, rfl, -, -, hlen⟩ := hr.shape
  have HB2 : Hid (∀ a b, Below w.heap.size w ((w.alloc a).alloc b)) := fun a b => belo2 w a b
  cases hx : idx rs n with
  | none =>
    have HR : Hid (idx rs n = none) := hx
    rcases idx_none hx with hn | ⟨k, rfl, hk⟩
    · clear hc hx hp hr
      go_enter Try.func5, Try.ntmps5
      go_wp2
      exact bodyPost_ret (v := .tuple #[.agg #[.string ⟨#[]⟩, .slice none 0 0, .int .i64 0, .slice none 0 0], .int .i64 50]) (by simp [results, Try.results5, go_sem]) rfl ⟨.inl ⟨HR.out, rfl⟩, HB2.out _ _⟩
    · have hk' : (rs.length : Int) ≤ (k : Int) := by omega
      have hk0 : ¬ (k : Int) < 0 := by omega
      clear hc hx hp hr
      go_enter Try.func5, Try.ntmps5
      go_wp2
      exact bodyPost_ret (v := .tuple #[.agg #[.string ⟨#[]⟩, .slice none 0 0, .int .i64 0, .slice none 0 0], .int .i64 50]) (by simp [results, Try.results5, go_sem]) rfl ⟨.inl ⟨HR.out, rfl⟩, HB2.out _ _⟩
  | some r =>
    have HI := hide hx
    obtain ⟨k, rfl, hk, hx⟩ := idx_some hx
    obtain ⟨b, off, rfl, -, -, hrow⟩ := hr.row (by omega)
    have x := fun j u hu a b => kept_cell (HB2.out a b) (hrow k r hx j u hu)
    have HOk := hide (hr.ok (List.mem_of_getElem? hx))
    have HBg := hide (hb r (List.mem_of_getElem? hx))
    have HP := hide hp
    have HC := hide hc
    clear hrow hx hp hc hr hb
    obtain ⟨⟨q, hv, hs⟩, pw, l1, tv, l2, nv, l3, vv, vs, cl⟩ := r
    obtain ⟨r0, r1, r2, r3, r4, r5⟩ := elRul_ok HOk.out
    dsimp only at r0 r1 r2 r3 r4 r5
    obtain ⟨ha, hcap, hg, -, -, -⟩ := (elPat_ok r0).2.shape
    dsimp only at hg
    subst hg
    obtain ⟨pa, pc, rfl, -, -, -⟩ := r1.shape
    obtain ⟨ta, tc, rfl, -, -, -⟩ := r2.shape
    obtain ⟨na, nc, rfl, -, -, -⟩ := r3.shape
    obtain ⟨va, vc, rfl, -, -, -⟩ := r4.shape
    clear r0 r1 r2 r3 r4 r5
    have x0 := x 0 _ rfl
    have x1 := x 1 _ rfl
    have x2 := x 2 _ rfl
    have x3 := x 3 _ rfl
    have x4 := x 4 _ rfl
    have x5 := x 5 _ rfl
    have x6 := x 6 _ rfl
    simp only [elRul, Nat.add_zero] at x0 x1 x2 x3 x4 x5 x6
    clear x
    have hk' : (k : Int) < (rs.length : Int) := by omega
    have hk0 : ¬ (k : Int) < 0 := by omega
    have hk00 : (0 : Int) ≤ (k : Int) := by omega
    go_enter Try.func5, Try.ntmps5
    go_wp2_with fail
    clear x0 x1 x2 x3 x4 x5 x6
    obtain ⟨Y, hY⟩ : ∃ Y, Y = (((w.alloc (.cells #[pv, cv, .slice (some ⟨b, off, none⟩) rs.length rc, fv] 27)).alloc (.cells #[.string ⟨#[]⟩, .slice none 0 0, .int .i64 0, .slice none 0 0] 33)).alloc (.cells #[.int .i64 q, .slice ha hs.length hcap, .slice pa l1.length pc, .slice ta l2.length tc, .slice na l3.length nc, .slice va vs.length vc, .int .i64 cl] 60)) := ⟨_, rfl⟩
    have HSz : Hid (Y.heap.size = w.heap.size + 1 + 1 + 1) := by show _ = _; rw [hY]; simp
    have HB0 : Hid (Below w.heap.size w Y) := by rw [hY]; exact below3 w _ _ _
    have HX : Hid (coreAt Y w.heap.size pv cv (.slice (some ⟨b, off, none⟩) rs.length rc) fv ∧ ruleAt Y (w.heap.size + 1 + 1) q (.slice ha hs.length hcap) (.slice pa l1.length pc) (.slice ta l2.length tc) (.slice na l3.length nc) (.slice va vs.length vc) cl ∧ Y.heap[w.heap.size + 1]? = some (.cells #[.string ⟨#[]⟩, .slice none 0 0, .int .i64 0, .slice none 0 0] 33 (0, 0))) := by
      show _ ∧ _
      rw [hY]
      refine ⟨(coreAt_new _ _ _ _ _ _).kept (belo2 _ _ _), ruleAt_new _ _ _ _ _ _ _ _ _ (by simp), ?_⟩
      rw [heap_alloc_old _ _ (by simp)]
      have h1 := heap_alloc_new (w.alloc (.cells #[pv, cv, .slice (some ⟨b, off, none⟩) rs.length rc, fv] 27)) (.cells #[.string ⟨#[]⟩, .slice none 0 0, .int .i64 0, .slice none 0 0] 33)
      rw [size_alloc1] at h1
      exact h1
    rw [← hY]
    clear hY
    have HWr := wholeRule_any (rv := .slice (some ⟨b, off, none⟩) rs.length rc) (fv := fv) (HP.out.kept HB0.out) (HC.out.kept HB0.out) (elRul.kept HOk.out HB0.out)
    dsimp only at HWr
    refine HWr.mono ?_
    rintro e w1 ⟨rfl, h1⟩
    clear HWr
    have HB1 : Hid (Below Y.heap.size Y w1) := h1
    have HBw := hide (HB0.out.trans (h1.mono HB0.out.size))
    clear h1
    have HRb : Hid (w1.heap[w.heap.size + 1]? = some (.cells #[.string ⟨#[]⟩, .slice none 0 0, .int .i64 0, .slice none 0 0] 33 (0, 0))) := by show _ = _; rw [HB1.out.block _ (by rw [HSz.out]; omega)]; exact HX.out.2.2
    cases he : wholeR ps cs ⟨⟨q, .slice ha hs.length hcap, hs⟩, .slice pa l1.length pc, l1, .slice ta l2.length tc, l2, .slice na l3.length nc, l3, .slice va vs.length vc, vs, cl⟩ with
    | false =>
      have HE := hide he
      have hb0 : w1.cell? ⟨w.heap.size + 1, 0, none⟩ = some (.string ⟨#[]⟩) := by simp [World.cell?, HRb.out]
      have hb1 : w1.cell? ⟨w.heap.size + 1, 1, none⟩ = some (.slice none 0 0) := by simp [World.cell?, HRb.out]
      have hb2 : w1.cell? ⟨w.heap.size + 1, 2, none⟩ = some (.int .i64 0) := by simp [World.cell?, HRb.out]
      have hb3 : w1.cell? ⟨w.heap.size + 1, 3, none⟩ = some (.slice none 0 0) := by simp [World.cell?, HRb.out]
      have hf0 : w1.frozen? ⟨w.heap.size + 1, 0, none⟩ = false := by simp [World.frozen?, HRb.out]
      have hf1 : w1.frozen? ⟨w.heap.size + 1, 1, none⟩ = false := by simp [World.frozen?, HRb.out]
      have hf2 : w1.frozen? ⟨w.heap.size + 1, 2, none⟩ = false := by simp [World.frozen?, HRb.out]
      have hf3 : w1.frozen? ⟨w.heap.size + 1, 3, none⟩ = false := by simp [World.frozen?, HRb.out]
      clear he
      go_wp2_with fail
      exact bodyPost_ret (v := .tuple #[.agg #[.string ⟨#[]⟩, .slice none 0 0, .int .i64 0, .slice none 0 0], .int .i64 2]) (by simp [results, Try.results5, go_sem, hb0, hb1, hb2, hb3]) rfl ⟨.inr (.inl ⟨_, HI.out, HE.out, rfl⟩), (((HBw.out.setCell (by dsimp only; omega) _).setCell (by dsimp only; omega) _).setCell (by dsimp only; omega) _).setCell (by dsimp only; omega) _⟩
    | true =>
      have HE := hide he
      clear he
      obtain ⟨⟨c0, c1, c2, c3⟩, ⟨z0, z1, z2, z3, z4, z5, z6⟩, -⟩ := And.intro (HX.out.1.kept HB1.out) (And.intro (HX.out.2.1.kept HB1.out) trivial)
      go_wp2_with fail
      have HWr := clauseOf_any (rv := .slice (some ⟨b, off, none⟩) rs.length rc) (fv := fv) (HP.out.kept HBw.out) (HC.out.kept HBw.out) (elRul.kept HOk.out HBw.out) HE.out HBg.out
      dsimp only at HWr
      refine HWr.mono ?_
      rintro e w2 ⟨⟨hv, bv, rfl, hcl⟩, h2⟩
      clear HWr c0 c1 c2 c3 z0 z1 z2 z3 z4 z5 z6
      obtain ⟨hl, L, hL, hd⟩ := hcl
      dsimp only at hl
      obtain ⟨ua, uc, rfl, -, -, -⟩ := hl.shape
      obtain ⟨xa, xc, rfl, -, -, -⟩ := hL.shape
      have HL1 := hide hl
      have HL2 := hide hL
      have HD := hide hd
      clear hl hL hd
      have HRb2 : Hid (w2.heap[w.heap.size + 1]? = some (.cells #[.string ⟨#[]⟩, .slice none 0 0, .int .i64 0, .slice none 0 0] 33 (0, 0))) := by show _ = _; rw [h2.block _ (lt_of_heap HRb.out)]; exact HRb.out
      have hb0 : w2.cell? ⟨w.heap.size + 1, 0, none⟩ = some (.string ⟨#[]⟩) := by simp [World.cell?, HRb2.out]
      have hb1 : w2.cell? ⟨w.heap.size + 1, 1, none⟩ = some (.slice none 0 0) := by simp [World.cell?, HRb2.out]
      have hb2 : w2.cell? ⟨w.heap.size + 1, 2, none⟩ = some (.int .i64 0) := by simp [World.cell?, HRb2.out]
      have hb3 : w2.cell? ⟨w.heap.size + 1, 3, none⟩ = some (.slice none 0 0) := by simp [World.cell?, HRb2.out]
      have hf0 : w2.frozen? ⟨w.heap.size + 1, 0, none⟩ = false := by simp [World.frozen?, HRb2.out]
      have hf1 : w2.frozen? ⟨w.heap.size + 1, 1, none⟩ = false := by simp [World.frozen?, HRb2.out]
      have hf2 : w2.frozen? ⟨w.heap.size + 1, 2, none⟩ = false := by simp [World.frozen?, HRb2.out]
      have hf3 : w2.frozen? ⟨w.heap.size + 1, 3, none⟩ = false := by simp [World.frozen?, HRb2.out]
      have HB2w := hide (HBw.out.trans (h2.mono HBw.out.size))
      have hsz1 : w.heap.size + 1 + 1 + 1 ≤ w1.heap.size := by have := HB1.out.size; rw [HSz.out] at this; exact this
      clear h2
      go_wp2_with fail
      refine bodyPost_ret (v := .tuple #[.agg #[.string (nameP ps q), .slice ua (hs.map (tP cs vs)).length uc, .int .i64 0, .slice xa L.length xc], .int .i64 0]) (by simp [results, Try.results5, go_sem, hb0, hb1, hb2, hb3]) rfl ⟨.inr (.inr ⟨_, HI.out, HE.out, _, _, rfl, ?_, L, ?_, HD.out⟩), (((HB2w.out.setCell (by dsimp only; omega) _).setCell (by dsimp only; omega) _).setCell (by dsimp only; omega) _).setCell (by dsimp only; omega) _⟩
      · refine HL1.out.move fun b hb hF => ?_
        have hF' : w1.heap.size ≤ b := hF
        refine ⟨by omega, ?_⟩
        rw [heap_other (by omega), heap_other (by omega), heap_other (by omega), heap_other (by omega)]
      · refine HL2.out.move fun b hb hF => ?_
        have hF' : w1.heap.size ≤ b := hF
        refine ⟨by omega, ?_⟩
        rw [heap_other (by omega), heap_other (by omega), heap_other (by omega), heap_other (by omega)]
end Go.Proofs.Ythbfkbkcfcpibaa
