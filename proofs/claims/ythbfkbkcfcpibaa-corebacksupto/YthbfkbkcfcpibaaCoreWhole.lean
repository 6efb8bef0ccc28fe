/- What core.wholeSlots, wholePatterns, wholeRule answer. -/
import Derived.Test.YthbfkbkcfcpibaaCoreTerm
namespace Go.Proofs.Ythbfkbkcfcpibaa
set_option linter.unusedSimpArgs false
set_option linter.unusedVariables false
open Go.RowKit

def wholeS (cs : List Con) (vs : List ByteArray) (s : Slo) : Bool := (termP cs vs s).isSome
theorem wholeS_var (cs : List Con) (vs : List ByteArray) (n : Int) : wholeS cs vs ⟨true, n⟩ = (decide (0 ≤ n) && decide (n < (vs.length : Int))) := by
  simp [wholeS, termP, idx_isSome]
theorem wholeS_con (cs : List Con) (vs : List ByteArray) (n : Int) : wholeS cs vs ⟨false, n⟩ = (decide (0 ≤ n) && decide (n < (cs.length : Int))) := by
  simp [wholeS, termP, idx_isSome]

set_option maxHeartbeats 1000000 in
theorem wholeSlots_any {w : World} {pv cv rv fv hv pw tv nv vv sv : Value} {q cl : Int} {cs : List Con} {vs : List ByteArray} {ss : List Slo} (hc : Has elCon w cv cs) (hs : Has elStr w vv vs) (h : Has elSlo w sv ss) :
    Calls Try.prog 27 #[.agg #[pv, cv, rv, fv], .agg #[.int .i64 q, hv, pw, tv, nv, vv, .int .i64 cl], sv] w fun e w' => e = .returned (.bool (ss.all (wholeS cs vs))) ∧ Below w.heap.size w w' := by
  obtain ⟨ca, cc, rfl, -, -, -⟩ := hc.shape
  obtain ⟨va, vc, rfl, -, -, -⟩ := hs.shape
  obtain ⟨sa, sc, rfl, -, -, hlen⟩ := h.shape
  have HB0 : Hid (Below w.heap.size w ((w.alloc (.cells #[pv, .slice ca cs.length cc, rv, fv] 27)).alloc (.cells #[.int .i64 q, hv, pw, tv, nv, .slice va vs.length vc, .int .i64 cl] 60))) := ((Below.refl _ w).alloc (Nat.le_refl _) _).alloc (by simp) _
  have HS := hide h
  clear hc hs h
  go_enter Try.func27, Try.ntmps27
  go_wp2
  obtain ⟨Y, hY⟩ : ∃ Y, Y = ((w.alloc (.cells #[pv, .slice ca cs.length cc, rv, fv] 27)).alloc (.cells #[.int .i64 q, hv, pw, tv, nv, .slice va vs.length vc, .int .i64 cl] 60)) := ⟨_, rfl⟩
  have HP : Hid (Y.cell? ⟨w.heap.size, 1, none⟩ = some (.slice ca cs.length cc) ∧ Y.cell? ⟨w.heap.size + 1, 5, none⟩ = some (.slice va vs.length vc)) := by
    show _ ∧ _
    rw [hY]; constructor <;> simp
  rw [← hY] at HB0 ⊢
  clear hY
  go_loopw [8, 11] (fun _ i wl => ∃ k : Nat, k ≤ ss.length ∧ i = .int .i64 k ∧ Hid ((ss.take k).all (wholeS cs vs) = true) ∧ Hid (Below Y.heap.size Y wl)) (fun _ i _ => ss.length - (intOf i).toNat)
  case atStart => exact ⟨0, by omega, rfl, by show (ss.take 0).all _ = true; simp, Below.refl _ _⟩
  case round =>
    obtain ⟨k, hk, rfl, HK, HB⟩ := hrel
    have HBw := hide (HB0.out.trans (HB.out.mono HB0.out.size))
    have y0 := fun o => kept_cell (belo1 wr o) (kept_cell HB.out HP.out.1)
    have y1 := fun o => kept_cell (belo1 wr o) (kept_cell HB.out HP.out.2)
    by_cases hlt : k < ss.length
    · have hi : (k : Int) < (ss.length : Int) := by omega
      have hi0 : (0 : Int) ≤ (k : Int) := by omega
      obtain ⟨b, off, rfl, -, -, hrow⟩ := HS.out.row (by omega)
      obtain ⟨s, hs⟩ : ∃ s, ss[k]? = some s := ⟨_, List.getElem?_eq_getElem hlt⟩
      have x0 := kept_cell HBw.out (hrow k s hs 0 _ rfl)
      have x1 := kept_cell HBw.out (hrow k s hs 1 _ rfl)
      simp only [elSlo, Nat.add_zero] at x0 x1
      have HTk : Hid ((ss.take (k + 1)).all (wholeS cs vs) = wholeS cs vs s) := by
        show _ = _
        rw [List.take_add_one, hs, List.all_append, HK.out]
        simp
      have HAt : Hid (wholeS cs vs s = false → ss.all (wholeS cs vs) = false) := fun h => by
        rw [List.all_eq_false]
        exact ⟨s, List.mem_of_getElem? hs, by rw [h]; simp⟩
      clear hrow hs
      obtain ⟨v, n⟩ := s
      cases v with
      | true =>
        have HWn := hide (withinStr n va vs.length vc)
        rw [← wholeS_var cs] at HWn
        cases he : wholeS cs vs ⟨true, n⟩ with
        | true =>
          rw [he] at HWn HTk
          go_wp2_with (go_at_call 39; refine (HWn.out _).mono ?_; rintro e w' ⟨rfl, hw'⟩; have hw' := hw'.symm; subst hw')
          go_roundw
          case rel => exact ⟨k + 1, by omega, by go_num, HTk, HB.out.alloc HB.out.size _⟩
          case measure => simp [intOf]; omega
        | false =>
          rw [he] at HWn
          go_wp2_with (go_at_call 39; refine (HWn.out _).mono ?_; rintro e w' ⟨rfl, hw'⟩; have hw' := hw'.symm; subst hw')
          go_ret
          exact ⟨by rw [HAt.out he]; rfl, HBw.out.alloc HBw.out.size _⟩
      | false =>
        have HWn := hide (withinCon n ca cs.length cc)
        rw [← wholeS_con cs vs] at HWn
        cases he : wholeS cs vs ⟨false, n⟩ with
        | true =>
          rw [he] at HWn HTk
          go_wp2_with (go_at_call 31; refine (HWn.out _).mono ?_; rintro e w' ⟨rfl, hw'⟩; have hw' := hw'.symm; subst hw')
          go_roundw
          case rel => exact ⟨k + 1, by omega, by go_num, HTk, HB.out.alloc HB.out.size _⟩
          case measure => simp [intOf]; omega
        | false =>
          rw [he] at HWn
          go_wp2_with (go_at_call 31; refine (HWn.out _).mono ?_; rintro e w' ⟨rfl, hw'⟩; have hw' := hw'.symm; subst hw')
          go_ret
          exact ⟨by rw [HAt.out he]; rfl, HBw.out.alloc HBw.out.size _⟩
    · obtain rfl : k = ss.length := by omega
      have hi : ¬ (ss.length : Int) < (ss.length : Int) := by omega
      have HF : Hid (ss.all (wholeS cs vs) = true) := by
        have := HK.out
        rw [List.take_of_length_le (Nat.le_refl _)] at this
        exact this
      go_wp2
      go_ret
      exact ⟨by rw [HF.out]; rfl, HBw.out⟩

def wholeP (ps : List Prd) (cs : List Con) (vs : List ByteArray) (p : Pat) : Bool := (idx ps p.q).isSome && p.ss.all (wholeS cs vs)

set_option maxHeartbeats 1000000 in
theorem wholePatterns_any {w : World} {pv cv rv fv hv pw tv nv vv sv : Value} {q cl : Int} {ps : List Prd} {cs : List Con} {vs : List ByteArray} {l : List Pat} (hp : Has elPrd w pv ps) (hc : Has elCon w cv cs) (hs : Has elStr w vv vs) (h : Has elPat w sv l) :
    Calls Try.prog 26 #[.agg #[pv, cv, rv, fv], .agg #[.int .i64 q, hv, pw, tv, nv, vv, .int .i64 cl], sv] w fun e w' => e = .returned (.bool (l.all (wholeP ps cs vs))) ∧ Below w.heap.size w w' := by
  obtain ⟨pa, pc, rfl, -, -, -⟩ := hp.shape
  obtain ⟨sa, sc, rfl, -, -, hlen⟩ := h.shape
  have HB0 : Hid (Below w.heap.size w ((w.alloc (.cells #[.slice pa ps.length pc, cv, rv, fv] 27)).alloc (.cells #[.int .i64 q, hv, pw, tv, nv, vv, .int .i64 cl] 60))) := ((Below.refl _ w).alloc (Nat.le_refl _) _).alloc (by simp) _
  have HS := hide h
  have HC := hide hc
  have HV := hide hs
  clear hp hc hs h
  go_enter Try.func26, Try.ntmps26
  go_wp2
  obtain ⟨Y, hY⟩ : ∃ Y, Y = ((w.alloc (.cells #[.slice pa ps.length pc, cv, rv, fv] 27)).alloc (.cells #[.int .i64 q, hv, pw, tv, nv, vv, .int .i64 cl] 60)) := ⟨_, rfl⟩
  have HP : Hid (Y.cell? ⟨w.heap.size, 0, none⟩ = some (.slice pa ps.length pc) ∧ Y.cell? ⟨w.heap.size, 1, none⟩ = some cv ∧ Y.cell? ⟨w.heap.size, 2, none⟩ = some rv ∧ Y.cell? ⟨w.heap.size, 3, none⟩ = some fv ∧ 
     Y.cell? ⟨w.heap.size + 1, 0, none⟩ = some (.int .i64 q) ∧ Y.cell? ⟨w.heap.size + 1, 1, none⟩ = some hv ∧ Y.cell? ⟨w.heap.size + 1, 2, none⟩ = some pw ∧ Y.cell? ⟨w.heap.size + 1, 3, none⟩ = some tv ∧ Y.cell? ⟨w.heap.size + 1, 4, none⟩ = some nv ∧ Y.cell? ⟨w.heap.size + 1, 5, none⟩ = some vv ∧ Y.cell? ⟨w.heap.size + 1, 6, none⟩ = some (.int .i64 cl)) := by
    show _ ∧ _
    rw [hY]; refine ⟨?_, ?_, ?_, ?_, ?_, ?_, ?_, ?_, ?_, ?_, ?_⟩ <;> simp
  rw [← hY] at HB0 ⊢
  clear hY
  go_loopw [8, 11] (fun _ i wl => ∃ k : Nat, k ≤ l.length ∧ i = .int .i64 k ∧ Hid ((l.take k).all (wholeP ps cs vs) = true) ∧ Hid (Below Y.heap.size Y wl)) (fun _ i _ => l.length - (intOf i).toNat)
  case atStart => exact ⟨0, by omega, rfl, by show (l.take 0).all _ = true; simp, Below.refl _ _⟩
  case round =>
    obtain ⟨k, hk, rfl, HK, HB⟩ := hrel
    have HBw := hide (HB0.out.trans (HB.out.mono HB0.out.size))
    by_cases hlt : k < l.length
    · have hi : (k : Int) < (l.length : Int) := by omega
      have hi0 : (0 : Int) ≤ (k : Int) := by omega
      obtain ⟨b, off, rfl, -, -, hrow⟩ := HS.out.row (by omega)
      obtain ⟨p, hp⟩ : ∃ s, l[k]? = some s := ⟨_, List.getElem?_eq_getElem hlt⟩
      have HOk := hide (HS.out.ok (List.mem_of_getElem? hp))
      have x0 := kept_cell HBw.out (hrow k p hp 0 _ rfl)
      have x1 := kept_cell HBw.out (hrow k p hp 1 _ rfl)
      simp only [elPat, Nat.add_zero] at x0 x1
      have HTk : Hid ((l.take (k + 1)).all (wholeP ps cs vs) = wholeP ps cs vs p) := by
        show _ = _
        rw [List.take_add_one, hp, List.all_append, HK.out]
        simp
      have HAt : Hid (wholeP ps cs vs p = false → l.all (wholeP ps cs vs) = false) := fun h => by
        rw [List.all_eq_false]
        exact ⟨p, List.mem_of_getElem? hp, by rw [h]; simp⟩
      clear hrow hp
      obtain ⟨pq, pvv, ss⟩ := p
      obtain ⟨ga, gc, hg, -, -, -⟩ := (elPat_ok HOk.out).2.shape
      simp only at hg
      subst hg
      have HWn := hide (withinPred pq pa ps.length pc)
      have HE : Hid (wholeP ps cs vs ⟨pq, .slice ga ss.length gc, ss⟩ = ((decide (0 ≤ pq) && decide (pq < (ps.length : Int))) && ss.all (wholeS cs vs))) := by
        show _ = _
        simp [wholeP, idx_isSome]
      have HBx : Hid (Below w.heap.size w (wr.alloc (.cells #[.int .i64 pq, .slice ga ss.length gc] 56))) := HBw.out.alloc HBw.out.size _
      have HWs := hide (wholeSlots_any (pv := .slice pa ps.length pc) (rv := rv) (fv := fv) (hv := hv) (pw := pw) (tv := tv) (nv := nv) (q := q) (cl := cl) (HC.out.kept HBx.out) (HV.out.kept HBx.out) ((elPat_ok HOk.out).2.kept HBx.out))
      have HBy : Hid (Below Y.heap.size Y (wr.alloc (.cells #[.int .i64 pq, .slice ga ss.length gc] 56))) := HB.out.alloc HB.out.size _
      obtain ⟨y0, y1, y2, y3, y4, y5, y6, y7, y8, y9, y10⟩ := HP.out
      have y0 := kept_cell HBy.out y0
      have y1 := kept_cell HBy.out y1
      have y2 := kept_cell HBy.out y2
      have y3 := kept_cell HBy.out y3
      have y4 := kept_cell HBy.out y4
      have y5 := kept_cell HBy.out y5
      have y6 := kept_cell HBy.out y6
      have y7 := kept_cell HBy.out y7
      have y8 := kept_cell HBy.out y8
      have y9 := kept_cell HBy.out y9
      have y10 := kept_cell HBy.out y10
      cases h1 : (decide (0 ≤ pq) && decide (pq < (ps.length : Int))) with
      | false =>
        rw [h1] at HWn HE
        go_wp2_with (first | (go_at_call 30; refine (HWn.out _).mono ?_; rintro e w' ⟨rfl, hw'⟩; have hw' := hw'.symm; subst hw') | (go_at_call 27; refine HWs.out.mono ?_; rintro e w' ⟨rfl, hb⟩))
        go_ret
        exact ⟨by rw [HAt.out HE.out]; rfl, HBx.out⟩
      | true =>
        rw [h1] at HWn HE
        rw [HE.out, Bool.true_and] at HTk HAt
        cases h2 : ss.all (wholeS cs vs) with
        | false =>
          rw [h2] at HWs HAt
          go_wp2_with (first | (go_at_call 30; refine (HWn.out _).mono ?_; rintro e w' ⟨rfl, hw'⟩; have hw' := hw'.symm; subst hw') | (go_at_call 27; refine HWs.out.mono ?_; rintro e w' ⟨rfl, hb⟩))
          go_ret
          exact ⟨by rw [HAt.out (by first | rfl | trivial)]; rfl, HBx.out.trans (hb.mono HBx.out.size)⟩
        | true =>
          rw [h2] at HWs HTk
          go_wp2_with (first | (go_at_call 30; refine (HWn.out _).mono ?_; rintro e w' ⟨rfl, hw'⟩; have hw' := hw'.symm; subst hw') | (go_at_call 27; refine HWs.out.mono ?_; rintro e w' ⟨rfl, hb⟩))
          go_roundw
          case rel => exact ⟨k + 1, by omega, by go_num, HTk, HBy.out.trans (hb.mono HBy.out.size)⟩
          case measure => simp [intOf]; omega
    · obtain rfl : k = l.length := by omega
      have hi : ¬ (l.length : Int) < (l.length : Int) := by omega
      have HF : Hid (l.all (wholeP ps cs vs) = true) := by
        have := HK.out
        rw [List.take_of_length_le (Nat.le_refl _)] at this
        exact this
      go_wp2
      go_ret
      exact ⟨by rw [HF.out]; rfl, HBw.out⟩

/-- A core, a rule in a block of its own (a parameter by value). -/
def coreAt (w : World) (b : Nat) (pv cv rv fv : Value) : Prop := w.cell? ⟨b, 0, none⟩ = some pv ∧ w.cell? ⟨b, 1, none⟩ = some cv ∧ w.cell? ⟨b, 2, none⟩ = some rv ∧ w.cell? ⟨b, 3, none⟩ = some fv
def ruleAt (w : World) (b : Nat) (q : Int) (hv pv tv nv vv : Value) (cl : Int) : Prop := w.cell? ⟨b, 0, none⟩ = some (.int .i64 q) ∧ w.cell? ⟨b, 1, none⟩ = some hv ∧ w.cell? ⟨b, 2, none⟩ = some pv ∧ w.cell? ⟨b, 3, none⟩ = some tv ∧ w.cell? ⟨b, 4, none⟩ = some nv ∧ w.cell? ⟨b, 5, none⟩ = some vv ∧ w.cell? ⟨b, 6, none⟩ = some (.int .i64 cl)
theorem coreAt.kept {w w' : World} {b : Nat} {pv cv rv fv : Value} (h : coreAt w b pv cv rv fv) (hb : Below w.heap.size w w') : coreAt w' b pv cv rv fv := ⟨kept_cell hb h.1, kept_cell hb h.2.1, kept_cell hb h.2.2.1, kept_cell hb h.2.2.2⟩
theorem ruleAt.kept {w w' : World} {b : Nat} {q cl : Int} {hv pv tv nv vv : Value} (h : ruleAt w b q hv pv tv nv vv cl) (hb : Below w.heap.size w w') : ruleAt w' b q hv pv tv nv vv cl := ⟨kept_cell hb h.1, kept_cell hb h.2.1, kept_cell hb h.2.2.1, kept_cell hb h.2.2.2.1, kept_cell hb h.2.2.2.2.1, kept_cell hb h.2.2.2.2.2.1, kept_cell hb h.2.2.2.2.2.2⟩

theorem coreAt.below {B : Nat} {w w' : World} {b : Nat} {pv cv rv fv : Value} (h : coreAt w b pv cv rv fv) (hb : Below B w w') (hB : b < B) : coreAt w' b pv cv rv fv := ⟨below_cell hb h.1 hB, below_cell hb h.2.1 hB, below_cell hb h.2.2.1 hB, below_cell hb h.2.2.2 hB⟩
theorem coreAt_new (w : World) (pv cv rv fv : Value) (t : TypeId) : coreAt (w.alloc (.cells #[pv, cv, rv, fv] t)) w.heap.size pv cv rv fv := by
  refine ⟨?_, ?_, ?_, ?_⟩ <;> simp
theorem ruleAt_new (w : World) (q : Int) (hv pv tv nv vv : Value) (cl : Int) (t : TypeId) {n : Nat} (hn : w.heap.size = n) : ruleAt (w.alloc (.cells #[.int .i64 q, hv, pv, tv, nv, vv, .int .i64 cl] t)) n q hv pv tv nv vv cl := by
  subst hn
  refine ⟨?_, ?_, ?_, ?_, ?_, ?_, ?_⟩ <;> simp
def twoAt (w : World) (b : Nat) (u v : Value) : Prop := w.cell? ⟨b, 0, none⟩ = some u ∧ w.cell? ⟨b, 1, none⟩ = some v
theorem twoAt.kept {w w' : World} {b : Nat} {u v : Value} (h : twoAt w b u v) (hb : Below w.heap.size w w') : twoAt w' b u v := ⟨kept_cell hb h.1, kept_cell hb h.2⟩
theorem twoAt.below {B : Nat} {w w' : World} {b : Nat} {u v : Value} (h : twoAt w b u v) (hb : Below B w w') (hB : b < B) : twoAt w' b u v := ⟨below_cell hb h.1 hB, below_cell hb h.2 hB⟩
theorem twoAt_new (w : World) (u v : Value) (t : TypeId) {n : Nat} (hn : w.heap.size = n) : twoAt (w.alloc (.cells #[u, v] t)) n u v := by
  subst hn
  constructor <;> simp
theorem belo2 (w : World) (a b : Obj) : Below w.heap.size w ((w.alloc a).alloc b) := ((Below.refl _ w).alloc (Nat.le_refl _) _).alloc (by simp) _
def wholeT (cs : List Con) (vs : List ByteArray) (t : Tes) : Bool := [t.l, t.r].all (wholeS cs vs)
def wholeR (ps : List Prd) (cs : List Con) (r : Rul) : Bool := wholeP ps cs r.vs r.h && (r.ps.all (wholeP ps cs r.vs) && (r.ns.all (wholeP ps cs r.vs) && r.ts.all (wholeT cs r.vs)))

theorem size_alloc1 (w : World) (o : Obj) : (w.alloc o).heap.size = w.heap.size + 1 := by simp

set_option maxHeartbeats 1000000 in
theorem wholeRule_any {w : World} {pv cv rv fv : Value} {ps : List Prd} {cs : List Con} {r : Rul} (hp : Has elPrd w pv ps) (hc : Has elCon w cv cs) (hr : elRul.ok w (fun _ => True) r) :
    Calls Try.prog 15 #[.agg #[pv, cv, rv, fv], .agg #[.int .i64 r.h.q, r.h.v, r.pv, r.tv, r.nv, r.vv, .int .i64 r.c]] w fun e w' => e = .returned (.bool (wholeR ps cs r)) ∧ Below w.heap.size w w' := by
  obtain ⟨⟨q, hv, hs⟩, pw, l1, tv, l2, nv, l3, vv, vs, cl⟩ := r
  obtain ⟨r0, r1, r2, r3, r4, r5⟩ := elRul_ok hr
  dsimp only at r0 r1 r2 r3 r4 r5 ⊢
  obtain ⟨ha, hcap, hg, -, -, -⟩ := (elPat_ok r0).2.shape
  dsimp only at hg
  subst hg
  obtain ⟨ta, tc, rfl, -, -, hlen⟩ := r2.shape
  have HR0 := hide r0
  have HR1 := hide r1
  have HR2 := hide r2
  have HR3 := hide r3
  have HR4 := hide r4
  have HP := hide hp
  have HC := hide hc
  have HX : Hid (coreAt ((w.alloc (.cells #[pv, cv, rv, fv] 27)).alloc (.cells #[.int .i64 q, .slice ha hs.length hcap, pw, .slice ta l2.length tc, nv, vv, .int .i64 cl] 60)) w.heap.size pv cv rv fv ∧ ruleAt ((w.alloc (.cells #[pv, cv, rv, fv] 27)).alloc (.cells #[.int .i64 q, .slice ha hs.length hcap, pw, .slice ta l2.length tc, nv, vv, .int .i64 cl] 60)) (w.heap.size + 1) q (.slice ha hs.length hcap) pw (.slice ta l2.length tc) nv vv cl) := by
    show _ ∧ _
    refine ⟨⟨?_, ?_, ?_, ?_⟩, ?_, ?_, ?_, ?_, ?_, ?_, ?_⟩ <;> simp
  have HB : Hid (Below w.heap.size w ((w.alloc (.cells #[pv, cv, rv, fv] 27)).alloc (.cells #[.int .i64 q, .slice ha hs.length hcap, pw, .slice ta l2.length tc, nv, vv, .int .i64 cl] 60))) := ((Below.refl _ w).alloc (Nat.le_refl _) _).alloc (by simp) _
  clear hr r0 r1 r2 r3 r4 r5 hp hc
  unfold wholeR
  dsimp only
  go_enter Try.func15, Try.ntmps15
  go_wp2_with fail
  obtain ⟨Y, hY⟩ : ∃ Y, Y = ((w.alloc (.cells #[pv, cv, rv, fv] 27)).alloc (.cells #[.int .i64 q, .slice ha hs.length hcap, pw, .slice ta l2.length tc, nv, vv, .int .i64 cl] 60)) := ⟨_, rfl⟩
  have HSz : Hid (Y.heap.size = w.heap.size + 1 + 1) := by show _ = _; rw [hY]; simp
  rw [← hY] at HX HB ⊢
  clear hY
  have HB1 : Hid (Below w.heap.size w (Y.alloc (.cells #[.int .i64 q, .slice ha hs.length hcap] 56))) := HB.out.alloc HB.out.size _
  have HX1 := hide (And.intro (HX.out.1.kept (belo1 Y (.cells #[.int .i64 q, .slice ha hs.length hcap] 56))) (HX.out.2.kept (belo1 Y (.cells #[.int .i64 q, .slice ha hs.length hcap] 56))))
  have hone := has_new elPat Y 56 [⟨q, .slice ha hs.length hcap, hs⟩] #[.int .i64 q, .slice ha hs.length hcap] rfl (F := fun _ => True) trivial (by
    intro x hx
    simp only [List.mem_singleton] at hx
    subst hx
    exact elPat.kept HR0.out HB1.out) (by simp)
  rw [HSz.out] at hone
  refine (wholePatterns_any (HP.out.kept HB1.out) (HC.out.kept HB1.out) (HR4.out.kept HB1.out) hone).mono ?_
  rintro e w1 ⟨rfl, h1⟩
  simp only [List.all_cons, List.all_nil, Bool.and_true]
  have HB2 := hide (HB1.out.trans (h1.mono HB1.out.size))
  have HX2 := hide (And.intro (HX1.out.1.kept h1) (HX1.out.2.kept h1))
  clear hone h1 HX HX1 HB HB1 HSz
  cases he : wholeP ps cs vs ⟨q, .slice ha hs.length hcap, hs⟩ with
  | false =>
    go_wp2_with fail
    go_ret
    exact ⟨by rw [he]; rfl, HB2.out⟩
  | true =>
    have HE1 := hide he
    clear he
    obtain ⟨⟨x0, x1, x2, x3⟩, z0, z1, z2, z3, z4, z5, z6⟩ := HX2.out
    go_wp2_with fail
    refine (wholePatterns_any (HP.out.kept HB2.out) (HC.out.kept HB2.out) (HR4.out.kept HB2.out) (HR1.out.kept HB2.out)).mono ?_
    rintro e w2 ⟨rfl, h1⟩
    have HB3 := hide (HB2.out.trans (h1.mono HB2.out.size))
    have HX3 := hide (And.intro (HX2.out.1.kept h1) (HX2.out.2.kept h1))
    clear h1 HX2 HB2 x0 x1 x2 x3 z0 z1 z2 z3 z4 z5 z6
    cases he : l1.all (wholeP ps cs vs) with
    | false =>
      go_wp2_with fail
      go_ret
      exact ⟨by rw [HE1.out, he]; rfl, HB3.out⟩
    | true =>
      have HE2 := hide he
      clear he
      obtain ⟨⟨x0, x1, x2, x3⟩, z0, z1, z2, z3, z4, z5, z6⟩ := HX3.out
      go_wp2_with fail
      refine (wholePatterns_any (HP.out.kept HB3.out) (HC.out.kept HB3.out) (HR4.out.kept HB3.out) (HR3.out.kept HB3.out)).mono ?_
      rintro e w3 ⟨rfl, h1⟩
      have HB4 := hide (HB3.out.trans (h1.mono HB3.out.size))
      have HX4 := hide (And.intro (HX3.out.1.kept h1) (HX3.out.2.kept h1))
      clear h1 HX3 HB3 x0 x1 x2 x3 z0 z1 z2 z3 z4 z5 z6
      cases he : l3.all (wholeP ps cs vs) with
      | false =>
        go_wp2_with fail
        go_ret
        exact ⟨by rw [HE1.out, HE2.out, he]; rfl, HB4.out⟩
      | true =>
        have HE3 := hide he
        clear he
        have z3 := HX4.out.2.2.2.2.1
        go_wp2
        clear z3
        go_loopw [6, 33] (fun _ i wl => ∃ k : Nat, k ≤ l2.length ∧ i = .int .i64 k ∧ Hid ((l2.take k).all (wholeT cs vs) = true) ∧ Hid (Below w3.heap.size w3 wl)) (fun _ i _ => l2.length - (intOf i).toNat)
        case atStart => exact ⟨0, by omega, rfl, by show (l2.take 0).all _ = true; simp, Below.refl _ _⟩
        case round =>
          obtain ⟨k, hk, rfl, HK, HB⟩ := hrel
          have HBw := hide (HB4.out.trans (HB.out.mono HB4.out.size))
          by_cases hlt : k < l2.length
          · have hi : (k : Int) < (l2.length : Int) := by omega
            have hi0 : (0 : Int) ≤ (k : Int) := by omega
            obtain ⟨b, off, rfl, -, -, hrow⟩ := HR2.out.row (by omega)
            obtain ⟨t, ht⟩ : ∃ s, l2[k]? = some s := ⟨_, List.getElem?_eq_getElem hlt⟩
            have HOk := hide (HR2.out.ok (List.mem_of_getElem? ht))
            have x0 := kept_cell HBw.out (hrow k t ht 0 _ rfl)
            have x1 := kept_cell HBw.out (hrow k t ht 1 _ rfl)
            have x2 := kept_cell HBw.out (hrow k t ht 2 _ rfl)
            have x3 := kept_cell HBw.out (hrow k t ht 3 _ rfl)
            have x4 := kept_cell HBw.out (hrow k t ht 4 _ rfl)
            simp only [elTes, Nat.add_zero] at x0 x1 x2 x3 x4
            have HTk : Hid ((l2.take (k + 1)).all (wholeT cs vs) = wholeT cs vs t) := by
              show _ = _
              rw [List.take_add_one, ht, List.all_append, HK.out]
              simp
            have HAt : Hid (wholeT cs vs t = false → l2.all (wholeT cs vs) = false) := fun h => by
              rw [List.all_eq_false]
              exact ⟨t, List.mem_of_getElem? ht, by rw [h]; simp⟩
            clear hrow ht
            obtain ⟨op, ⟨lv, ln⟩, ⟨rv', rn⟩⟩ := t
            dsimp only at x0 x1 x2 x3 x4 HTk HAt
            have hB5 : Below wr.heap.size wr ((wr.alloc (.cells #[.int .i64 op, .bool lv, .int .i64 ln, .bool rv', .int .i64 rn] 74)).alloc (.cells #[.bool lv, .int .i64 ln, .bool rv', .int .i64 rn] 72)) := ((Below.refl _ _).alloc (Nat.le_refl _) _).alloc (by simp) _
            have HB5 := hide (HBw.out.trans (hB5.mono HBw.out.size))
            have HB6 := hide (HB.out.trans (hB5.mono HB.out.size))
            obtain ⟨⟨c0, c1, c2, c3⟩, z0, z1, z2, z3, z4, z5, z6⟩ := And.intro (HX4.out.1.kept (HB.out.alloc HB.out.size (.cells #[.int .i64 op, .bool lv, .int .i64 ln, .bool rv', .int .i64 rn] 74))) (HX4.out.2.kept (HB.out.alloc HB.out.size (.cells #[.int .i64 op, .bool lv, .int .i64 ln, .bool rv', .int .i64 rn] 74)))
            have hone := has_new elSlo (wr.alloc (.cells #[.int .i64 op, .bool lv, .int .i64 ln, .bool rv', .int .i64 rn] 74)) 72 [⟨lv, ln⟩, ⟨rv', rn⟩] #[.bool lv, .int .i64 ln, .bool rv', .int .i64 rn] rfl (F := fun _ => True) trivial (by
              intro x hx
              simp only [List.mem_cons, List.not_mem_nil, or_false] at hx
              rcases hx with rfl | rfl
              · exact HOk.out.2.1
              · exact HOk.out.2.2) (by simp)
            have HWs := hide (wholeSlots_any (pv := pv) (rv := rv) (fv := fv) (hv := .slice ha hs.length hcap) (pw := pw) (tv := .slice (some ⟨b, off, none⟩) l2.length tc) (nv := nv) (q := q) (cl := cl) (HC.out.kept HB5.out) (HR4.out.kept HB5.out) hone)
            rw [size_alloc1] at HWs
            clear hone hB5
            change Hid (Calls _ _ _ _ fun e w' => e = .returned (.bool (wholeT cs vs ⟨op, ⟨lv, ln⟩, ⟨rv', rn⟩⟩)) ∧ _) at HWs
            cases he : wholeT cs vs ⟨op, ⟨lv, ln⟩, ⟨rv', rn⟩⟩ with
            | true =>
              rw [he] at HWs HTk
              go_wp2_with (go_at_call 27; refine HWs.out.mono ?_; rintro e w' ⟨rfl, hb⟩)
              go_roundw
              case rel => exact ⟨k + 1, by omega, by go_num, HTk, HB6.out.trans (hb.mono HB6.out.size)⟩
              case measure => simp [intOf]; omega
            | false =>
              rw [he] at HWs
              go_wp2_with (go_at_call 27; refine HWs.out.mono ?_; rintro e w' ⟨rfl, hb⟩)
              go_ret
              exact ⟨by rw [HE1.out, HE2.out, HE3.out, HAt.out he]; rfl, HB5.out.trans (hb.mono HB5.out.size)⟩
          · obtain rfl : k = l2.length := by omega
            have hi : ¬ (l2.length : Int) < (l2.length : Int) := by omega
            have HF : Hid (l2.all (wholeT cs vs) = true) := by
              have := HK.out
              rw [List.take_of_length_le (Nat.le_refl _)] at this
              exact this
            go_wp2
            go_ret
            exact ⟨by rw [HE1.out, HE2.out, HE3.out, HF.out]; rfl, HBw.out⟩
end Go.Proofs.Ythbfkbkcfcpibaa
