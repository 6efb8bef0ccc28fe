/- What core.atomOf and the document's atomOf answer. -/
import Derived.Test.YthbfkbkcfcpibaaCoreWhole
import Derived.Laws.MakeOwn
import Derived.Deep.RegionHeld3
import Derived.Deep.DeepCutAuto
import Derived.Deep.Cut
namespace Go.Proofs.Ythbfkbkcfcpibaa
set_option linter.unusedSimpArgs false
set_option linter.unusedVariables false
open Go.RowKit

def tP (cs : List Con) (vs : List ByteArray) (s : Slo) : Trm := getT (termP cs vs s)
def nameP (ps : List Prd) (q : Int) : ByteArray := ((idx ps q).map Prd.s).getD ⟨#[]⟩

theorem tP_some {cs : List Con} {vs : List ByteArray} {s : Slo} (h : wholeS cs vs s = true) : termP cs vs s = some (tP cs vs s) := by
  unfold wholeS at h
  unfold tP getT
  cases hx : termP cs vs s with
  | none => rw [hx] at h; cases h
  | some t => rfl
theorem I64_0 : I64 0 := ⟨by decide, by decide⟩
theorem I64_4 : I64 4 := ⟨by decide, by decide⟩
theorem noT_ok : noT.ok := ⟨⟨I64_0, I64_0, by decide⟩, I64_0⟩
theorem tP_ok {cs : List Con} {vs : List ByteArray} (hc : ∀ c ∈ cs, c.ok) (hv : ∀ s ∈ vs, s.size ≤ 140737488351232) (s : Slo) : (tP cs vs s).ok := by
  unfold tP getT
  cases hx : termP cs vs s with
  | none => exact noT_ok
  | some t =>
    unfold termP at hx
    split at hx
    · simp only [Option.map_eq_some_iff] at hx
      obtain ⟨x, hx, rfl⟩ := hx
      obtain ⟨k, _, _, h⟩ := idx_some hx
      exact ⟨⟨I64_4, I64_0, hv x (List.mem_of_getElem? h)⟩, I64_0⟩
    · simp only [Option.map_eq_some_iff] at hx
      obtain ⟨x, hx, rfl⟩ := hx
      obtain ⟨k, _, _, h⟩ := idx_some hx
      exact ⟨hc x (List.mem_of_getElem? h), I64_0⟩

theorem Try.infoTrm7 : (Try.prog.info? 66).map (fun i => (i.zero, i.size, i.bytes)) = some (some (.agg #[.int .i64 0, .int .i64 0, .string ⟨#[]⟩, .int .i64 0]), 4, 40) := by kernel_rfl

theorem makeTrms (n : Nat) (hn : n < 1073741824) : ∃ o, (∀ w : World, (Instr.makeSlice 28 (.int .i64 (n : Int)) (.int .i64 (n : Int))).run Try.prog w = .ok (.slice (some ⟨w.heap.size, 0, none⟩) n n) (w.alloc o)) ∧ ∀ w : World, Fill elTrm 66 (w.alloc o) w.heap.size n [] := by
  obtain ⟨i0, hi0, hz0, hz1, hz2⟩ := info_parts Try.infoTrm7
  refine ⟨.cells (madeCells (Value.cells (.agg #[.int .i64 0, .int .i64 0, .string ⟨#[]⟩, .int .i64 0])) (n * 4)) 66, fun w => ?_, fun w => ⟨_, heap_alloc_new _ _, ?_, Nat.zero_le _, fun i x h => by simp at h⟩⟩
  · have := run_make (P := Try.prog) w 28 66 i0 _ Try.underlying28 hi0 hz0 .i64 .i64 (n : Int) (n : Int) (by omega) (by omega) (by rw [hz2]; omega) (by omega)
    rw [hz1] at this
    simpa only [Int.toNat_natCast] using this
  · rw [size_madeCells]; rfl

theorem cell_other {w : World} {g i : Nat} {v : Value} {a : Addr} (h : a.block ≠ g) : (w.setCell ⟨g, i, none⟩ v).cell? a = w.cell? a := by
  refine World.cell?_of_block ?_
  simp [World.setCell, Array.getElem?_modify, Ne.symm h]

theorem heap_other {w : World} {g i b : Nat} {v : Value} (h : b ≠ g) : (w.setCell ⟨g, i, none⟩ v).heap[b]? = w.heap[b]? := by
  simp [World.setCell, Array.getElem?_modify, Ne.symm h]
theorem lt_of_heap {w : World} {b : Nat} {o : Obj} (h : w.heap[b]? = some o) : b < w.heap.size := (Array.getElem?_eq_some_iff.1 h).1

set_option maxHeartbeats 1000000 in
theorem atomOf_any {w : World} {pv cv rv fv hv pw tv nv vv : Value} {q cl : Int} {ps : List Prd} {cs : List Con} {vs : List ByteArray} {p : Pat} (hp : Has elPrd w pv ps) (hc : Has elCon w cv cs) (hs : Has elStr w vv vs) (h : elPat.ok w (fun _ => True) p) (hw : wholeP ps cs vs p = true) :
    Calls Try.prog 28 #[.agg #[pv, cv, rv, fv], .agg #[.int .i64 q, hv, pw, tv, nv, vv, .int .i64 cl], .agg #[.int .i64 p.q, p.v]] w fun e w' => ∃ v, e = .returned (.agg #[.string (nameP ps p.q), v, .int .i64 0]) ∧ Lst elTrm w' (fun b => w.heap.size ≤ b) v (p.ss.map (tP cs vs)) ∧ Below w.heap.size w w' := by
  obtain ⟨pq, pvv, ss⟩ := p
  have hl := (elPat_ok h).2
  clear h
  dsimp only at hl ⊢
  obtain ⟨ga, gc, rfl, -, -, hlen⟩ := hl.shape
  unfold wholeP at hw
  rw [Bool.and_eq_true] at hw
  obtain ⟨hw1, hw2⟩ := hw
  dsimp only at hw1 hw2
  obtain ⟨x, hx⟩ := Option.isSome_iff_exists.1 hw1
  have hnm : nameP ps pq = x.s := by unfold nameP; rw [hx]; rfl
  rw [hnm]
  obtain ⟨k0, rfl, hk0, hx⟩ := idx_some hx
  obtain ⟨pa, pc, rfl, -, -, -⟩ := hp.shape
  obtain ⟨pb, po, rfl, -, -, hprow⟩ := hp.row (by omega)
  have c0 := fun a b c d => kept_cell (below4 w a b c d) (hprow k0 x hx 0 _ rfl)
  have c0' := fun a b c d e => kept_cell (below5 w a b c d e) (hprow k0 x hx 0 _ rfl)
  simp only [elPrd, Nat.add_zero] at c0 c0'
  have hk0' : (k0 : Int) < (ps.length : Int) := by omega
  have hk00 : (0 : Int) ≤ (k0 : Int) := by omega
  have HS := hide hl
  have HC := hide hc
  have HV := hide hs
  have HW := hide hw2
  obtain ⟨o, hmk, hfl⟩ := makeTrms ss.length hlen
  have HFl := hide hfl
  clear hfl
  clear hp hc hs hl hw1 hw2 hprow hx hnm
  have HB0 : Hid (Below w.heap.size w ((((w.alloc (.cells #[.slice (some ⟨pb, po, none⟩) ps.length pc, cv, rv, fv] 27)).alloc (.cells #[.int .i64 q, hv, pw, tv, nv, vv, .int .i64 cl] 60)).alloc (.cells #[.int .i64 k0, .slice ga ss.length gc] 56)).alloc (.cells #[.string ⟨#[]⟩, .slice none 0 0, .int .i64 0] 30))) := below4 w _ _ _ _
  go_enter Try.func28, Try.ntmps28
  go_upto_region 1 with fail
  obtain ⟨Y, hY⟩ : ∃ Y, Y = ((((w.alloc (.cells #[.slice (some ⟨pb, po, none⟩) ps.length pc, cv, rv, fv] 27)).alloc (.cells #[.int .i64 q, hv, pw, tv, nv, vv, .int .i64 cl] 60)).alloc (.cells #[.int .i64 k0, .slice ga ss.length gc] 56)).alloc (.cells #[.string ⟨#[]⟩, .slice none 0 0, .int .i64 0] 30)) := ⟨_, rfl⟩
  have HSz : Hid (Y.heap.size = w.heap.size + 1 + 1 + 1 + 1) := by show _ = _; rw [hY]; simp
  have HX : Hid (coreAt Y w.heap.size (.slice (some ⟨pb, po, none⟩) ps.length pc) cv rv fv ∧ ruleAt Y (w.heap.size + 1) q hv pw tv nv vv cl ∧ twoAt Y (w.heap.size + 1 + 1) (.int .i64 k0) (.slice ga ss.length gc) ∧ Y.heap[w.heap.size + 1 + 1 + 1]? = some (.cells #[.string ⟨#[]⟩, .slice none 0 0, .int .i64 0] 30 (0, 0)) ∧ Y.cell? ⟨pb, po + k0 * 2, none⟩ = some (.string x.s)) := by
    show _ ∧ _
    rw [hY]
    exact ⟨(coreAt_new _ _ _ _ _ _).kept (below3 _ _ _ _), (ruleAt_new _ _ _ _ _ _ _ _ _ (by simp)).kept (belo2 _ _ _), (twoAt_new _ _ _ _ (by simp)).kept (belo1 _ _), by have := heap_alloc_new (((w.alloc (.cells #[.slice (some ⟨pb, po, none⟩) ps.length pc, cv, rv, fv] 27)).alloc (.cells #[.int .i64 q, hv, pw, tv, nv, vv, .int .i64 cl] 60)).alloc (.cells #[.int .i64 k0, .slice ga ss.length gc] 56)) (.cells #[.string ⟨#[]⟩, .slice none 0 0, .int .i64 0] 30); simpa using this, c0 _ _ _ _⟩
  rw [← hY] at HB0 ⊢
  clear hY c0 c0'
  have HSc : Hid (∀ V : World, Below Y.heap.size Y V → V.cell? ⟨w.heap.size, 0, none⟩ = some (.slice (some ⟨pb, po, none⟩) ps.length pc) ∧ V.cell? ⟨w.heap.size + 1 + 1, 0, none⟩ = some (.int .i64 k0) ∧ V.cell? ⟨w.heap.size + 1 + 1, 1, none⟩ = some (.slice ga ss.length gc) ∧ V.cell? ⟨pb, po + k0 * 2, none⟩ = some (.string x.s)) := fun V hV => ⟨kept_cell hV HX.out.1.1, kept_cell hV HX.out.2.2.1.1, kept_cell hV HX.out.2.2.1.2, kept_cell hV HX.out.2.2.2.2⟩
  have hS0 := HSc.out Y (Below.refl _ _)
  obtain ⟨hs0, hs1, hs2, hs3⟩ := hS0
  go_cut [7] (fun t wx => ∃ A g, t = .pointer (some ⟨A, 0, none⟩) ∧ Hid (wx.heap[A]? = some (.cells #[.string x.s, .slice (some ⟨g, 0, none⟩) ss.length ss.length, .int .i64 0] 30 (0, 0))) ∧ Hid (Fill elTrm 66 wx g ss.length []) ∧ Hid (Below Y.heap.size Y wx) ∧ Hid (Y.heap.size ≤ A ∧ Y.heap.size ≤ g ∧ A ≠ g))
  case first =>
    go_region_held3 (fun w' => w'.cell? ⟨w.heap.size, 0, none⟩ = some (.slice (some ⟨pb, po, none⟩) ps.length pc) ∧ w'.cell? ⟨w.heap.size + 1 + 1, 0, none⟩ = some (.int .i64 k0) ∧ w'.cell? ⟨w.heap.size + 1 + 1, 1, none⟩ = some (.slice ga ss.length gc) ∧ w'.cell? ⟨pb, po + k0 * 2, none⟩ = some (.string x.s))
      (first
        | exact HSc.out _ (Below.refl _ _)
        | exact HSc.out _ ((Below.refl _ Y).drew)
        | exact HSc.out _ (((Below.refl _ Y).drew).alloc (Nat.le_refl _) _)
        | exact HSc.out _ ((((Below.refl _ Y).drew).alloc (Nat.le_refl _) _).alloc (by simp) _))
      (fail)
    all_goals (go_wp2; go_meet)
    · exact ⟨_, Y.heap.size, rfl, (by have := heap_alloc_new (Y.alloc o) (.cells #[.string x.s, .slice (some ⟨Y.heap.size, 0, none⟩) ss.length ss.length, .int .i64 0] 30); rw [size_alloc1] at this; exact this), (HFl.out Y).kept (belo1 _ _).drew, (belo2 Y _ _).drew, by show _ ∧ _; omega⟩
    · exact ⟨_, Y.heap.size + 1, rfl, (by have := heap_alloc_old (Y.alloc (.cells #[.string x.s, .slice (some ⟨Y.heap.size + 1, 0, none⟩) ss.length ss.length, .int .i64 0] 30)) o (r := Y.heap.size) (by simp); rw [heap_alloc_new] at this; exact this), (by have := HFl.out (Y.alloc (.cells #[.string x.s, .slice (some ⟨Y.heap.size + 1, 0, none⟩) ss.length ss.length, .int .i64 0] 30)); rw [size_alloc1] at this; exact this), (belo2 Y _ _).drew, by show _ ∧ _; omega⟩
  case rest =>
    obtain ⟨A, g, rfl, HA, HG, HBx, HAg⟩ := hcut
    clear HSc hs0 hs1 hs2 hs3
    have hs2 := kept_cell HBx.out HX.out.2.2.1.2
    have HOk := hide (fun s (_ : s ∈ ss) => tP_ok (cs := cs) (vs := vs) (fun c hc => HC.out.ok hc) (fun s hs => HV.out.ok hs) s)
    have HT : Hid (∀ V : World, Below w.heap.size w V → ∀ s ∈ ss, Calls Try.prog 29 #[.agg #[.slice (some ⟨pb, po, none⟩) ps.length pc, cv, rv, fv], .agg #[.int .i64 q, hv, pw, tv, nv, vv, .int .i64 cl], .agg #[.bool s.v, .int .i64 s.n]] V fun e w' => e = .returned (tP cs vs s).val ∧ Below V.heap.size V w') := fun V hV s hs => termOf_any (HC.out.kept hV) (HV.out.kept hV) (tP_some (List.all_eq_true.1 HW.out s hs))
    go_wp2
    clear hs2
    go_loopw [8, 9, 25] (fun _ _ i wl => ∃ k : Nat, k ≤ ss.length ∧ i = .int .i64 k ∧ Hid (Fill elTrm 66 wl g ss.length ((ss.take k).map (tP cs vs))) ∧ Hid (wl.heap[A]? = some (.cells #[.string x.s, .slice (some ⟨g, 0, none⟩) ss.length ss.length, .int .i64 0] 30 (0, 0))) ∧ Hid (Below Y.heap.size Y wl)) (fun _ _ i _ => ss.length - (intOf i).toNat)
    case atStart => exact ⟨0, by omega, rfl, by show Fill _ _ _ _ _ _; simpa using HG.out, HA, HBx⟩
    case round =>
      clear HA HG HBx
      obtain ⟨k, hk, rfl, HG, HA, HB⟩ := hrel
      have HBw := hide (HB0.out.trans (HB.out.mono HB0.out.size))
      have HC1 := hide (HX.out.1.kept HB.out)
      have HR1 := hide (HX.out.2.1.kept HB.out)
      by_cases hlt : k < ss.length
      · have hi : (k : Int) < (ss.length : Int) := by omega
        have hi0 : (0 : Int) ≤ (k : Int) := by omega
        obtain ⟨b, off, rfl, -, -, hrow⟩ := HS.out.row (by omega)
        obtain ⟨s, hs⟩ : ∃ s, ss[k]? = some s := ⟨_, List.getElem?_eq_getElem hlt⟩
        have x0 := kept_cell HBw.out (hrow k s hs 0 _ rfl)
        have x1 := kept_cell HBw.out (hrow k s hs 1 _ rfl)
        simp only [elSlo, Nat.add_zero] at x0 x1
        have HTs := hide (fun V hV => HT.out V hV s (List.mem_of_getElem? hs))
        have HTk : Hid ((ss.take (k + 1)).map (tP cs vs) = (ss.take k).map (tP cs vs) ++ [tP cs vs s]) := by show _ = _; rw [List.take_add_one, hs, List.map_append]; rfl
        have HLn : Hid (((ss.take k).map (tP cs vs)).length = k) := by show _ = _; rw [List.length_map, List.length_take]; omega
        generalize tP cs vs s = t at *
        clear hrow hs
        obtain ⟨sv, sn⟩ := s
        obtain ⟨tk, tn, tx, tq⟩ := t
        unfold Trm.val at HTs
        dsimp only at x0 x1 HTs
        obtain ⟨Z, hZ⟩ : ∃ Z, Z = wr.alloc (.cells #[.bool sv, .int .i64 sn] 72) := ⟨_, rfl⟩
        have HZ : Hid (Below wr.heap.size wr Z) := by rw [hZ]; exact belo1 _ _
        have HS2 : Hid (twoAt Z wr.heap.size (.bool sv) (.int .i64 sn)) := by rw [hZ]; exact twoAt_new _ _ _ _ rfl
        have HSc : Hid (∀ V : World, Below Z.heap.size Z V → V.cell? ⟨w.heap.size, 0, none⟩ = some (.slice (some ⟨pb, po, none⟩) ps.length pc) ∧ V.cell? ⟨w.heap.size, 1, none⟩ = some cv ∧ V.cell? ⟨w.heap.size, 2, none⟩ = some rv ∧ V.cell? ⟨w.heap.size, 3, none⟩ = some fv ∧ V.cell? ⟨w.heap.size + 1, 0, none⟩ = some (.int .i64 q) ∧ V.cell? ⟨w.heap.size + 1, 1, none⟩ = some hv ∧ V.cell? ⟨w.heap.size + 1, 2, none⟩ = some pw ∧ V.cell? ⟨w.heap.size + 1, 3, none⟩ = some tv ∧ V.cell? ⟨w.heap.size + 1, 4, none⟩ = some nv ∧ V.cell? ⟨w.heap.size + 1, 5, none⟩ = some vv ∧ V.cell? ⟨w.heap.size + 1, 6, none⟩ = some (.int .i64 cl) ∧ V.cell? ⟨wr.heap.size, 0, none⟩ = some (.bool sv) ∧ V.cell? ⟨wr.heap.size, 1, none⟩ = some (.int .i64 sn) ∧ V.cell? ⟨A, 1, none⟩ = some (.slice (some ⟨g, 0, none⟩) ss.length ss.length)) := fun V hV => by
          obtain ⟨c0, c1, c2, c3⟩ := (HC1.out.kept HZ.out).kept hV
          obtain ⟨r0, r1, r2, r3, r4, r5, r6⟩ := (HR1.out.kept HZ.out).kept hV
          obtain ⟨s0, s1⟩ := HS2.out.kept hV
          exact ⟨c0, c1, c2, c3, r0, r1, r2, r3, r4, r5, r6, s0, s1, kept_cell hV (kept_cell HZ.out (by simp [World.cell?, HA.out]))⟩
        have hgw : w.heap.size + 1 + 1 + 1 + 1 ≤ g := by have := HAg.out.2.1; rw [HSz.out] at this; exact this
        have hgr : g < wr.heap.size := HG.out.lt
        have hAg : A ≠ g := HAg.out.2.2
        have HSt : Hid (∀ (V : World) (a b c d : Nat) (e f h i : Value), Below Z.heap.size Z V → (fun V : World => V.cell? ⟨w.heap.size, 0, none⟩ = some (.slice (some ⟨pb, po, none⟩) ps.length pc) ∧ V.cell? ⟨w.heap.size, 1, none⟩ = some cv ∧ V.cell? ⟨w.heap.size, 2, none⟩ = some rv ∧ V.cell? ⟨w.heap.size, 3, none⟩ = some fv ∧ V.cell? ⟨w.heap.size + 1, 0, none⟩ = some (.int .i64 q) ∧ V.cell? ⟨w.heap.size + 1, 1, none⟩ = some hv ∧ V.cell? ⟨w.heap.size + 1, 2, none⟩ = some pw ∧ V.cell? ⟨w.heap.size + 1, 3, none⟩ = some tv ∧ V.cell? ⟨w.heap.size + 1, 4, none⟩ = some nv ∧ V.cell? ⟨w.heap.size + 1, 5, none⟩ = some vv ∧ V.cell? ⟨w.heap.size + 1, 6, none⟩ = some (.int .i64 cl) ∧ V.cell? ⟨wr.heap.size, 0, none⟩ = some (.bool sv) ∧ V.cell? ⟨wr.heap.size, 1, none⟩ = some (.int .i64 sn) ∧ V.cell? ⟨A, 1, none⟩ = some (.slice (some ⟨g, 0, none⟩) ss.length ss.length)) ((((V.setCell ⟨g, a, none⟩ e).setCell ⟨g, b, none⟩ f).setCell ⟨g, c, none⟩ h).setCell ⟨g, d, none⟩ i)) := fun V a b c d e f h i hV => by
          have := HSc.out V hV
          dsimp only
          refine ⟨?_, ?_, ?_, ?_, ?_, ?_, ?_, ?_, ?_, ?_, ?_, ?_, ?_, ?_⟩ <;> (rw [cell_other (by dsimp only; omega), cell_other (by dsimp only; omega), cell_other (by dsimp only; omega), cell_other (by dsimp only; omega)]; simp only [this])
        have HBz := hide (HBw.out.trans (HZ.out.mono HBw.out.size))
        have HFz := hide (HG.out.kept HZ.out)
        go_wp2_with fail
        rw [← hZ]
        clear hZ
        go_region_held3 (fun V => V.cell? ⟨w.heap.size, 0, none⟩ = some (.slice (some ⟨pb, po, none⟩) ps.length pc) ∧ V.cell? ⟨w.heap.size, 1, none⟩ = some cv ∧ V.cell? ⟨w.heap.size, 2, none⟩ = some rv ∧ V.cell? ⟨w.heap.size, 3, none⟩ = some fv ∧ V.cell? ⟨w.heap.size + 1, 0, none⟩ = some (.int .i64 q) ∧ V.cell? ⟨w.heap.size + 1, 1, none⟩ = some hv ∧ V.cell? ⟨w.heap.size + 1, 2, none⟩ = some pw ∧ V.cell? ⟨w.heap.size + 1, 3, none⟩ = some tv ∧ V.cell? ⟨w.heap.size + 1, 4, none⟩ = some nv ∧ V.cell? ⟨w.heap.size + 1, 5, none⟩ = some vv ∧ V.cell? ⟨w.heap.size + 1, 6, none⟩ = some (.int .i64 cl) ∧ V.cell? ⟨wr.heap.size, 0, none⟩ = some (.bool sv) ∧ V.cell? ⟨wr.heap.size, 1, none⟩ = some (.int .i64 sn) ∧ V.cell? ⟨A, 1, none⟩ = some (.slice (some ⟨g, 0, none⟩) ss.length ss.length))
          (first
            | exact HSc.out _ (Below.refl _ _)
            | exact HSc.out _ ((Below.refl _ Z).drew)
            | exact HSc.out _ HB2.out
            | exact HSt.out _ _ _ _ _ _ _ _ _ HB2.out)
          (first
            | (go_at_call 29; refine (HTs.out _ (HBz.out.drew)).mono ?_; rintro e w2 ⟨rfl, h2⟩; have HB2 : Hid (Below Z.heap.size Z w2) := ((Below.refl _ Z).drew).trans h2; have HF2 := hide (HFz.out.kept HB2.out); obtain ⟨⟨y0, hy0⟩, hf0⟩ := HF2.out.cell hlt (j := 0) (by decide); obtain ⟨⟨y1, hy1⟩, hf1⟩ := HF2.out.cell hlt (j := 1) (by decide); obtain ⟨⟨y2, hy2⟩, hf2⟩ := HF2.out.cell hlt (j := 2) (by decide); obtain ⟨⟨y3, hy3⟩, hf3⟩ := HF2.out.cell hlt (j := 3) (by decide); simp only [elTrm, Nat.add_zero] at hy0 hf0 hy1 hf1 hy2 hf2 hy3 hf3; clear h2))
        go_wp2
        go_roundw
        case rel =>
          refine ⟨k + 1, by omega, by go_num, ?_, ?_, ?_⟩
          · show Fill _ _ _ _ _ _
            rw [HTk.out]
            exact HF2.out.set HLn.out hlt ⟨tk, tn, tx, tq⟩
          · show _ = _
            rw [heap_other hAg, heap_other hAg, heap_other hAg, heap_other hAg, HB2.out.block A (Nat.lt_of_lt_of_le (lt_of_heap HA.out) HZ.out.size), HZ.out.block A (lt_of_heap HA.out)]
            exact HA.out
          · exact ((((((HB.out.trans (HZ.out.mono HB.out.size)).trans (HB2.out.mono (Nat.le_trans HB.out.size HZ.out.size))).setCell (by have := HAg.out.2.1; exact this) _).setCell (by have := HAg.out.2.1; exact this) _).setCell (by have := HAg.out.2.1; exact this) _).setCell (by have := HAg.out.2.1; exact this) _)
        case measure => simp [intOf]; omega
      · obtain rfl : k = ss.length := by omega
        have hi : ¬ (ss.length : Int) < (ss.length : Int) := by omega
        rw [List.take_of_length_le (Nat.le_refl _)] at HG
        have hA0 : wr.cell? ⟨A, 0, none⟩ = some (.string x.s) := by simp [World.cell?, HA.out]
        have hA1 : wr.cell? ⟨A, 1, none⟩ = some (.slice (some ⟨g, 0, none⟩) ss.length ss.length) := by simp [World.cell?, HA.out]
        have hA2 : wr.cell? ⟨A, 2, none⟩ = some (.int .i64 0) := by simp [World.cell?, HA.out]
        have HRb : Hid (wr.heap[w.heap.size + 1 + 1 + 1]? = some (.cells #[.string ⟨#[]⟩, .slice none 0 0, .int .i64 0] 30 (0, 0))) := by
          show _ = _
          rw [HB.out.block _ (by rw [HSz.out]; omega)]
          exact HX.out.2.2.2.1
        have hb0 : wr.cell? ⟨w.heap.size + 1 + 1 + 1, 0, none⟩ = some (.string ⟨#[]⟩) := by simp [World.cell?, HRb.out]
        have hb1 : wr.cell? ⟨w.heap.size + 1 + 1 + 1, 1, none⟩ = some (.slice none 0 0) := by simp [World.cell?, HRb.out]
        have hb2 : wr.cell? ⟨w.heap.size + 1 + 1 + 1, 2, none⟩ = some (.int .i64 0) := by simp [World.cell?, HRb.out]
        have hf0 : wr.frozen? ⟨w.heap.size + 1 + 1 + 1, 0, none⟩ = false := by simp [World.frozen?, HRb.out]
        have hf1 : wr.frozen? ⟨w.heap.size + 1 + 1 + 1, 1, none⟩ = false := by simp [World.frozen?, HRb.out]
        have hf2 : wr.frozen? ⟨w.heap.size + 1 + 1 + 1, 2, none⟩ = false := by simp [World.frozen?, HRb.out]
        go_wp2
        have hgw : w.heap.size + 1 + 1 + 1 + 1 ≤ g := by have := HAg.out.2.1; rw [HSz.out] at this; exact this
        refine bodyPost_ret (v := .agg #[.string x.s, .slice (some ⟨g, 0, none⟩) ss.length ss.length, .int .i64 0]) (by simp [results, Try.results28, go_sem, hb0, hb1, hb2]) rfl ⟨_, rfl, ?_, ((HBw.out.setCell (by dsimp only; omega) _).setCell (by dsimp only; omega) _).setCell (by dsimp only; omega) _⟩
        refine Fill.list (e := 66) (HG.out.same ?_) (by simp) ?_ (by omega) hlen
        · rw [heap_other (by omega), heap_other (by omega), heap_other (by omega)]
        · intro t ht
          obtain ⟨s, hs, rfl⟩ := List.mem_map.1 ht
          exact HOk.out s hs
end Go.Proofs.Ythbfkbkcfcpibaa
