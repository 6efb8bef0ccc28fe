/- What core.factOf, Fact answer. -/
import Derived.Test.YthbfkbkcfcpibaaCoreFact
namespace Go.Proofs.Ythbfkbkcfcpibaa
set_option linter.unusedSimpArgs false
set_option linter.unusedVariables false
open Go.RowKit

theorem Try.infoCon7 : (Try.prog.info? 46).map (fun i => (i.zero, i.size, i.bytes)) = some (some (.agg #[.int .i64 0, .int .i64 0, .string ⟨#[]⟩]), 3, 32) := by kernel_rfl
theorem makeCons (n : Nat) (hn : n < 1073741824) : ∃ o, (∀ w : World, (Instr.makeSlice 23 (.int .i64 (n : Int)) (.int .i64 (n : Int))).run Try.prog w = .ok (.slice (some ⟨w.heap.size, 0, none⟩) n n) (w.alloc o)) ∧ ∀ w : World, Fill elCon 46 (w.alloc o) w.heap.size n [] := by
  obtain ⟨i0, hi0, hz0, hz1, hz2⟩ := info_parts Try.infoCon7
  refine ⟨.cells (madeCells (Value.cells (.agg #[.int .i64 0, .int .i64 0, .string ⟨#[]⟩])) (n * 3)) 46, fun w => ?_, fun w => ⟨_, heap_alloc_new _ _, ?_, Nat.zero_le _, fun i x h => by simp at h⟩⟩
  · have := run_make (P := Try.prog) w 23 46 i0 _ Try.underlying23 hi0 hz0 .i64 .i64 (n : Int) (n : Int) (by omega) (by omega) (by rw [hz2]; omega) (by omega)
    rw [hz1] at this
    simpa only [Int.toNat_natCast] using this
  · rw [size_madeCells]; rfl

set_option maxRecDepth 100000 in
set_option maxHeartbeats 1000000 in
theorem factOf_any {w : World} {pv cv rv fv : Value} {ps : List Prd} {cs : List Con} {r : Roe} (hp : Has elPrd w pv ps) (hc : Has elCon w cv cs) (hr : elRoe.ok w (fun _ => True) r) (hw : rowW ps cs r = true) :
    Calls Try.prog 21 #[.agg #[pv, cv, rv, fv], .agg #[.int .i64 r.q, r.v]] w fun e w' => ∃ v, e = .returned (.agg #[.string (nameP ps r.q), v]) ∧ Lst elCon w' (fun b => w.heap.size ≤ b) v (r.l.map (cP cs)) ∧ Below w.heap.size w w' := by
  obtain ⟨q, v, l⟩ := r
  have hl := (elRoe_ok hr).2
  clear hr
  dsimp only at hl ⊢
  obtain ⟨la, lc, rfl, -, -, hlen⟩ := hl.shape
  obtain ⟨pa, pc, rfl, -, -, -⟩ := hp.shape
  obtain ⟨ca, cc, rfl, -, -, -⟩ := hc.shape
  unfold rowW at hw
  dsimp only at hw
  cases hx : idx ps q with
  | none => rw [hx] at hw; cases hw
  | some x =>
  rw [hx] at hw
  dsimp only at hw
  rw [Bool.and_eq_true] at hw
  have HW := hide hw.2
  have hnm : nameP ps q = x.s := by unfold nameP; rw [hx]; rfl
  rw [hnm]
  obtain ⟨k0, rfl, hk0, hx⟩ := idx_some hx
  obtain ⟨pb, po, rfl, -, -, hprow⟩ := hp.row (by omega)
  have c0 := hprow k0 x hx 0 _ rfl
  simp only [elPrd, Nat.add_zero] at c0
  have hk0' : (k0 : Int) < (ps.length : Int) := by omega
  have hk00 : (0 : Int) ≤ (k0 : Int) := by omega
  have HS := hide hl
  have HC := hide hc
  obtain ⟨o, hmk, hfl⟩ := makeCons l.length hlen
  have HFl := hide hfl
  clear hp hc hl hprow hx hnm hfl hw
  have HB0 : Hid (Below w.heap.size w (((w.alloc (.cells #[.slice (some ⟨pb, po, none⟩) ps.length pc, .slice ca cs.length cc, rv, fv] 27)).alloc (.cells #[.int .i64 k0, .slice la l.length lc] 44)).alloc (.cells #[.string ⟨#[]⟩, .slice none 0 0] 39))) := below3 w _ _ _
  go_enter Try.func21, Try.ntmps21
  go_upto_region 1 with fail
  obtain ⟨Y, hY⟩ : ∃ Y, Y = (((w.alloc (.cells #[.slice (some ⟨pb, po, none⟩) ps.length pc, .slice ca cs.length cc, rv, fv] 27)).alloc (.cells #[.int .i64 k0, .slice la l.length lc] 44)).alloc (.cells #[.string ⟨#[]⟩, .slice none 0 0] 39)) := ⟨_, rfl⟩
  have HSz : Hid (Y.heap.size = w.heap.size + 1 + 1 + 1) := by show _ = _; rw [hY]; simp
  have HX : Hid (coreAt Y w.heap.size (.slice (some ⟨pb, po, none⟩) ps.length pc) (.slice ca cs.length cc) rv fv ∧ twoAt Y (w.heap.size + 1) (.int .i64 k0) (.slice la l.length lc) ∧ Y.heap[w.heap.size + 1 + 1]? = some (.cells #[.string ⟨#[]⟩, .slice none 0 0] 39 (0, 0)) ∧ Y.cell? ⟨pb, po + k0 * 2, none⟩ = some (.string x.s)) := by
    show _ ∧ _
    rw [hY]
    refine ⟨(coreAt_new _ _ _ _ _ _).kept (belo2 _ _ _), (twoAt_new _ _ _ _ (by simp)).kept (belo1 _ _), ?_, kept_cell HB0.out c0⟩
    have h1 := heap_alloc_new ((w.alloc (.cells #[.slice (some ⟨pb, po, none⟩) ps.length pc, .slice ca cs.length cc, rv, fv] 27)).alloc (.cells #[.int .i64 k0, .slice la l.length lc] 44)) (.cells #[.string ⟨#[]⟩, .slice none 0 0] 39)
    rw [size_alloc1, size_alloc1] at h1
    exact h1
  rw [← hY] at HB0 ⊢
  clear hY c0
  have HSc : Hid (∀ V : World, Below Y.heap.size Y V → V.cell? ⟨w.heap.size, 0, none⟩ = some (.slice (some ⟨pb, po, none⟩) ps.length pc) ∧ V.cell? ⟨w.heap.size + 1, 0, none⟩ = some (.int .i64 k0) ∧ V.cell? ⟨w.heap.size + 1, 1, none⟩ = some (.slice la l.length lc) ∧ V.cell? ⟨pb, po + k0 * 2, none⟩ = some (.string x.s)) := fun V hV => ⟨kept_cell hV HX.out.1.1, kept_cell hV HX.out.2.1.1, kept_cell hV HX.out.2.1.2, kept_cell hV HX.out.2.2.2⟩
  obtain ⟨hs0, hs1, hs2, hs3⟩ := HSc.out Y (Below.refl _ _)
  go_cut [5] (fun t wx => ∃ A g, t = .pointer (some ⟨A, 0, none⟩) ∧ Hid (wx.heap[A]? = some (.cells #[.string x.s, .slice (some ⟨g, 0, none⟩) l.length l.length] 39 (0, 0))) ∧ Hid (Fill elCon 46 wx g l.length []) ∧ Hid (Below Y.heap.size Y wx) ∧ Hid (Y.heap.size ≤ A ∧ Y.heap.size ≤ g ∧ A ≠ g))
  case first =>
    go_region_held3 (fun V => V.cell? ⟨w.heap.size, 0, none⟩ = some (.slice (some ⟨pb, po, none⟩) ps.length pc) ∧ V.cell? ⟨w.heap.size + 1, 0, none⟩ = some (.int .i64 k0) ∧ V.cell? ⟨w.heap.size + 1, 1, none⟩ = some (.slice la l.length lc) ∧ V.cell? ⟨pb, po + k0 * 2, none⟩ = some (.string x.s))
      (first
        | exact HSc.out _ (Below.refl _ _)
        | exact HSc.out _ ((Below.refl _ Y).drew)
        | exact HSc.out _ (((Below.refl _ Y).drew).alloc (Nat.le_refl _) _)
        | exact HSc.out _ ((((Below.refl _ Y).drew).alloc (Nat.le_refl _) _).alloc (by simp) _))
      (fail)
    all_goals (go_wp2; go_meet)
    · exact ⟨_, Y.heap.size, rfl, (by have := heap_alloc_new (Y.alloc o) (.cells #[.string x.s, .slice (some ⟨Y.heap.size, 0, none⟩) l.length l.length] 39); rw [size_alloc1] at this; exact this), (HFl.out Y).kept (belo1 _ _).drew, (belo2 Y _ _).drew, by show _ ∧ _; omega⟩
    · exact ⟨_, Y.heap.size + 1, rfl, (by have := heap_alloc_old (Y.alloc (.cells #[.string x.s, .slice (some ⟨Y.heap.size + 1, 0, none⟩) l.length l.length] 39)) o (r := Y.heap.size) (by simp); rw [heap_alloc_new] at this; exact this), (by have := HFl.out (Y.alloc (.cells #[.string x.s, .slice (some ⟨Y.heap.size + 1, 0, none⟩) l.length l.length] 39)); rw [size_alloc1] at this; exact this), (belo2 Y _ _).drew, by show _ ∧ _; omega⟩
  case rest =>
    obtain ⟨A, g, rfl, HA, HG, HBx, HAg⟩ := hcut
    clear HSc hs0 hs1 hs2 hs3
    have hs2 := kept_cell HBx.out HX.out.2.1.2
    have HOk := hide (fun n (_ : n ∈ l) => cP_ok (cs := cs) (fun c hc => HC.out.ok hc) n)
    go_wp2
    clear hs2
    go_loopw [6, 7, 23] (fun _ _ i wl => ∃ k : Nat, k ≤ l.length ∧ i = .int .i64 k ∧ Hid (Fill elCon 46 wl g l.length ((l.take k).map (cP cs))) ∧ Hid (wl.heap[A]? = some (.cells #[.string x.s, .slice (some ⟨g, 0, none⟩) l.length l.length] 39 (0, 0))) ∧ Hid (Below Y.heap.size Y wl)) (fun _ _ i _ => l.length - (intOf i).toNat)
    case atStart => exact ⟨0, by omega, rfl, by show Fill _ _ _ _ _ _; simpa using HG.out, HA, HBx⟩
    case round =>
      clear HA HG HBx
      obtain ⟨k, hk, rfl, HG, HA, HB⟩ := hrel
      have HBw := hide (HB0.out.trans (HB.out.mono HB0.out.size))
      by_cases hlt : k < l.length
      · have hi : (k : Int) < (l.length : Int) := by omega
        have hi0 : (0 : Int) ≤ (k : Int) := by omega
        obtain ⟨b, off, rfl, -, -, hrow⟩ := HS.out.row (by omega)
        obtain ⟨n, hn⟩ : ∃ s, l[k]? = some s := ⟨_, List.getElem?_eq_getElem hlt⟩
        have x0 := kept_cell HBw.out (hrow k n hn 0 _ rfl)
        simp only [elInt, Nat.add_zero, Nat.mul_one] at x0
        have hin := List.all_eq_true.1 HW.out n (List.mem_of_getElem? hn)
        obtain ⟨c, hc⟩ := Option.isSome_iff_exists.1 hin
        have hcp : cP cs n = c := by unfold cP; rw [hc]; rfl
        have HTk : Hid ((l.take (k + 1)).map (cP cs) = (l.take k).map (cP cs) ++ [c]) := by show _ = _; rw [List.take_add_one, hn, List.map_append, ← hcp]; rfl
        have HLn : Hid (((l.take k).map (cP cs)).length = k) := by show _ = _; rw [List.length_map, List.length_take]; omega
        obtain ⟨m, rfl, hm, hc⟩ := idx_some hc
        obtain ⟨cb, co, rfl, -, -, hcrow⟩ := HC.out.row (by omega)
        have y0 := kept_cell HBw.out (hcrow m c hc 0 _ rfl)
        have y1 := kept_cell HBw.out (hcrow m c hc 1 _ rfl)
        have y2 := kept_cell HBw.out (hcrow m c hc 2 _ rfl)
        simp only [elCon, Nat.add_zero] at y0 y1 y2
        have hm1 : (m : Int) < (cs.length : Int) := by omega
        have hm0 : (0 : Int) ≤ (m : Int) := by omega
        have hcb : cb < w.heap.size := by obtain ⟨b', o', e', hb', -⟩ := HC.out.row (by omega); cases e'; exact hb'
        clear hrow hn hin hcp hc hcrow
        obtain ⟨ck, cn, cx⟩ := c
        dsimp only at y0 y1 y2
        have HSc : Hid (∀ V : World, Below wr.heap.size wr V → V.cell? ⟨A, 1, none⟩ = some (.slice (some ⟨g, 0, none⟩) l.length l.length) ∧ V.cell? ⟨w.heap.size, 1, none⟩ = some (.slice (some ⟨cb, co, none⟩) cs.length cc) ∧ V.cell? ⟨cb, co + m * 3, none⟩ = some (.int .i64 ck) ∧ V.cell? ⟨cb, co + m * 3 + 1, none⟩ = some (.int .i64 cn) ∧ V.cell? ⟨cb, co + m * 3 + 2, none⟩ = some (.string cx)) := fun V hV => ⟨kept_cell hV (by simp [World.cell?, HA.out]), kept_cell hV (HX.out.1.kept HB.out).2.1, kept_cell hV y0, kept_cell hV y1, kept_cell hV y2⟩
        have hgw : w.heap.size + 1 + 1 + 1 ≤ g := by have := HAg.out.2.1; rw [HSz.out] at this; exact this
        have hAg : A ≠ g := HAg.out.2.2
        obtain ⟨⟨u0, hu0⟩, hf0⟩ := HG.out.cell hlt (j := 0) (by decide)
        obtain ⟨⟨u1, hu1⟩, hf1⟩ := HG.out.cell hlt (j := 1) (by decide)
        obtain ⟨⟨u2, hu2⟩, hf2⟩ := HG.out.cell hlt (j := 2) (by decide)
        simp only [elCon, Nat.add_zero] at hu0 hf0 hu1 hf1 hu2 hf2
        have HSt : Hid (∀ (a b c : Nat) (e f h : Value), (fun V : World => V.cell? ⟨A, 1, none⟩ = some (.slice (some ⟨g, 0, none⟩) l.length l.length) ∧ V.cell? ⟨w.heap.size, 1, none⟩ = some (.slice (some ⟨cb, co, none⟩) cs.length cc) ∧ V.cell? ⟨cb, co + m * 3, none⟩ = some (.int .i64 ck) ∧ V.cell? ⟨cb, co + m * 3 + 1, none⟩ = some (.int .i64 cn) ∧ V.cell? ⟨cb, co + m * 3 + 2, none⟩ = some (.string cx)) (((wr.drew.setCell ⟨g, a, none⟩ e).setCell ⟨g, b, none⟩ f).setCell ⟨g, c, none⟩ h)) := fun a b c e f h => by
          have := HSc.out wr.drew (Below.refl _ wr).drew
          dsimp only
          refine ⟨?_, ?_, ?_, ?_, ?_⟩ <;> (rw [cell_other (by dsimp only; omega), cell_other (by dsimp only; omega), cell_other (by dsimp only; omega)]; simp only [this])
        clear y0 y1 y2
        go_wp2_with fail
        clear x0
        go_region_held3 (fun V => V.cell? ⟨A, 1, none⟩ = some (.slice (some ⟨g, 0, none⟩) l.length l.length) ∧ V.cell? ⟨w.heap.size, 1, none⟩ = some (.slice (some ⟨cb, co, none⟩) cs.length cc) ∧ V.cell? ⟨cb, co + m * 3, none⟩ = some (.int .i64 ck) ∧ V.cell? ⟨cb, co + m * 3 + 1, none⟩ = some (.int .i64 cn) ∧ V.cell? ⟨cb, co + m * 3 + 2, none⟩ = some (.string cx))
          (first
            | exact HSc.out _ (Below.refl _ _)
            | exact HSc.out _ ((Below.refl _ wr).drew)
            | exact HSt.out _ _ _ _ _ _)
          (fail)
        go_wp2
        go_roundw
        case rel =>
          refine ⟨k + 1, by omega, by go_num, ?_, ?_, ?_⟩
          · show Fill _ _ _ _ _ _
            rw [HTk.out]
            exact HG.out.set HLn.out hlt ⟨ck, cn, cx⟩
          · show _ = _
            exact ((heap_other hAg).trans ((heap_other hAg).trans (heap_other hAg))).trans HA.out
          · exact (((HB.out.drew).setCell (by have := HAg.out.2.1; exact this) _).setCell (by have := HAg.out.2.1; exact this) _).setCell (by have := HAg.out.2.1; exact this) _
        case measure => simp [intOf]; omega
      · obtain rfl : k = l.length := by omega
        have hi : ¬ (l.length : Int) < (l.length : Int) := by omega
        rw [List.take_of_length_le (Nat.le_refl _)] at HG
        have hA0 : wr.cell? ⟨A, 0, none⟩ = some (.string x.s) := by simp [World.cell?, HA.out]
        have hA1 : wr.cell? ⟨A, 1, none⟩ = some (.slice (some ⟨g, 0, none⟩) l.length l.length) := by simp [World.cell?, HA.out]
        have HRb : Hid (wr.heap[w.heap.size + 1 + 1]? = some (.cells #[.string ⟨#[]⟩, .slice none 0 0] 39 (0, 0))) := by
          show _ = _
          rw [HB.out.block _ (by rw [HSz.out]; omega)]
          exact HX.out.2.2.1
        have hb0 : wr.cell? ⟨w.heap.size + 1 + 1, 0, none⟩ = some (.string ⟨#[]⟩) := by simp [World.cell?, HRb.out]
        have hb1 : wr.cell? ⟨w.heap.size + 1 + 1, 1, none⟩ = some (.slice none 0 0) := by simp [World.cell?, HRb.out]
        have hf0 : wr.frozen? ⟨w.heap.size + 1 + 1, 0, none⟩ = false := by simp [World.frozen?, HRb.out]
        have hf1 : wr.frozen? ⟨w.heap.size + 1 + 1, 1, none⟩ = false := by simp [World.frozen?, HRb.out]
        have hgw : w.heap.size + 1 + 1 + 1 ≤ g := by have := HAg.out.2.1; rw [HSz.out] at this; exact this
        go_wp2
        refine bodyPost_ret (v := .agg #[.string x.s, .slice (some ⟨g, 0, none⟩) l.length l.length]) (by simp [results, Try.results21, go_sem, hb0, hb1]) rfl ⟨_, rfl, ?_, (HBw.out.setCell (by dsimp only; omega) _).setCell (by dsimp only; omega) _⟩
        refine Fill.list (e := 46) (HG.out.same ?_) (by simp) ?_ (by omega) hlen
        · rw [heap_other (by omega), heap_other (by omega)]
        · intro t ht
          obtain ⟨s, hs, rfl⟩ := List.mem_map.1 ht
          exact HOk.out s hs

/-- A fact and a number as they come back. -/
def FactRes (w w' : World) (ps : List Prd) (cs : List Con) (r : Roe) (e : Ending) : Prop :=
  (rowW ps cs r = false ∧ e = .returned (.tuple #[.agg #[.string ⟨#[]⟩, .slice none 0 0], .int .i64 2])) ∨
  (rowW ps cs r = true ∧ ∃ v, e = .returned (.tuple #[.agg #[.string (nameP ps r.q), v], .int .i64 0]) ∧ Lst elCon w' (fun b => w.heap.size ≤ b) v (r.l.map (cP cs)))

set_option maxRecDepth 100000 in
set_option maxHeartbeats 1000000 in
theorem fact_any {w : World} {pv cv rv fv : Value} {ps : List Prd} {cs : List Con} {r : Roe} (hp : Has elPrd w pv ps) (hc : Has elCon w cv cs) (hr : elRoe.ok w (fun _ => True) r) :
    Calls Try.prog 8 #[.agg #[pv, cv, rv, fv], .agg #[.int .i64 r.q, r.v]] w fun e w' => FactRes w w' ps cs r e ∧ Below w.heap.size w w' := by
  obtain ⟨q, v, l⟩ := r
  have HRo := hide hr
  obtain ⟨la, lc, hg, -, -, -⟩ := (elRoe_ok hr).2.shape
  dsimp only at hg
  subst hg
  have HP := hide hp
  have HC := hide hc
  clear hr hp hc
  dsimp only
  go_enter Try.func8, Try.ntmps8
  go_wp2_with fail
  obtain ⟨Y, hY⟩ : ∃ Y, Y = (((w.alloc (.cells #[pv, cv, rv, fv] 27)).alloc (.cells #[.int .i64 q, .slice la l.length lc] 44)).alloc (.cells #[.string ⟨#[]⟩, .slice none 0 0] 39)) := ⟨_, rfl⟩
  have HSz : Hid (Y.heap.size = w.heap.size + 1 + 1 + 1) := by show _ = _; rw [hY]; simp
  have HB0 : Hid (Below w.heap.size w Y) := by rw [hY]; exact below3 w _ _ _
  have HX : Hid (coreAt Y w.heap.size pv cv rv fv ∧ twoAt Y (w.heap.size + 1) (.int .i64 q) (.slice la l.length lc) ∧ Y.heap[w.heap.size + 1 + 1]? = some (.cells #[.string ⟨#[]⟩, .slice none 0 0] 39 (0, 0))) := by
    show _ ∧ _
    rw [hY]
    refine ⟨(coreAt_new _ _ _ _ _ _).kept (belo2 _ _ _), (twoAt_new _ _ _ _ (by simp)).kept (belo1 _ _), ?_⟩
    have h1 := heap_alloc_new ((w.alloc (.cells #[pv, cv, rv, fv] 27)).alloc (.cells #[.int .i64 q, .slice la l.length lc] 44)) (.cells #[.string ⟨#[]⟩, .slice none 0 0] 39)
    rw [size_alloc1, size_alloc1] at h1
    exact h1
  rw [← hY]
  clear hY
  refine (wholeRow_any (r := ⟨q, .slice la l.length lc, l⟩) (HP.out.kept HB0.out) (HC.out.kept HB0.out) (elRoe.kept HRo.out HB0.out)).mono ?_
  rintro e w1 ⟨rfl, h1⟩
  have HB1 : Hid (Below Y.heap.size Y w1) := h1
  have HBw := hide (HB0.out.trans (h1.mono HB0.out.size))
  clear h1
  have HRb : Hid (w1.heap[w.heap.size + 1 + 1]? = some (.cells #[.string ⟨#[]⟩, .slice none 0 0] 39 (0, 0))) := by show _ = _; rw [HB1.out.block _ (by rw [HSz.out]; omega)]; exact HX.out.2.2
  cases he : rowW ps cs ⟨q, .slice la l.length lc, l⟩ with
  | false =>
    have HE := hide he
    have hb0 : w1.cell? ⟨w.heap.size + 1 + 1, 0, none⟩ = some (.string ⟨#[]⟩) := by simp [World.cell?, HRb.out]
    have hb1 : w1.cell? ⟨w.heap.size + 1 + 1, 1, none⟩ = some (.slice none 0 0) := by simp [World.cell?, HRb.out]
    have hf0 : w1.frozen? ⟨w.heap.size + 1 + 1, 0, none⟩ = false := by simp [World.frozen?, HRb.out]
    have hf1 : w1.frozen? ⟨w.heap.size + 1 + 1, 1, none⟩ = false := by simp [World.frozen?, HRb.out]
    clear he
    go_wp2_with fail
    exact bodyPost_ret (v := .tuple #[.agg #[.string ⟨#[]⟩, .slice none 0 0], .int .i64 2]) (by simp [results, Try.results8, go_sem, hb0, hb1]) rfl ⟨.inl ⟨HE.out, rfl⟩, (HBw.out.setCell (by dsimp only; omega) _).setCell (by dsimp only; omega) _⟩
  | true =>
    have HE := hide he
    clear he
    obtain ⟨⟨c0, c1, c2, c3⟩, r0, r1⟩ := And.intro (HX.out.1.kept HB1.out) (HX.out.2.1.kept HB1.out)
    go_wp2_with fail
    refine (factOf_any (r := ⟨q, .slice la l.length lc, l⟩) (HP.out.kept HBw.out) (HC.out.kept HBw.out) (elRoe.kept HRo.out HBw.out) HE.out).mono ?_
    rintro e w2 ⟨v2, rfl, hl2, h2⟩
    clear c0 c1 c2 c3 r0 r1
    obtain ⟨ua, uc, rfl, -, -, -⟩ := hl2.shape
    have HL := hide hl2
    have HRb2 : Hid (w2.heap[w.heap.size + 1 + 1]? = some (.cells #[.string ⟨#[]⟩, .slice none 0 0] 39 (0, 0))) := by show _ = _; rw [h2.block _ (lt_of_heap HRb.out)]; exact HRb.out
    have hb0 : w2.cell? ⟨w.heap.size + 1 + 1, 0, none⟩ = some (.string ⟨#[]⟩) := by simp [World.cell?, HRb2.out]
    have hb1 : w2.cell? ⟨w.heap.size + 1 + 1, 1, none⟩ = some (.slice none 0 0) := by simp [World.cell?, HRb2.out]
    have hf0 : w2.frozen? ⟨w.heap.size + 1 + 1, 0, none⟩ = false := by simp [World.frozen?, HRb2.out]
    have hf1 : w2.frozen? ⟨w.heap.size + 1 + 1, 1, none⟩ = false := by simp [World.frozen?, HRb2.out]
    have HB2w := hide (HBw.out.trans (h2.mono HBw.out.size))
    have hsz1 : w.heap.size + 1 + 1 + 1 ≤ w1.heap.size := by have := HB1.out.size; rw [HSz.out] at this; exact this
    clear h2 hl2
    go_wp2_with fail
    refine bodyPost_ret (v := .tuple #[.agg #[.string (nameP ps q), .slice ua (l.map (cP cs)).length uc], .int .i64 0]) (by simp [results, Try.results8, go_sem, hb0, hb1]) rfl ⟨.inr ⟨HE.out, _, rfl, ?_⟩, (HB2w.out.setCell (by dsimp only; omega) _).setCell (by dsimp only; omega) _⟩
    refine HL.out.move fun b hb hF => ?_
    have hF' : w1.heap.size ≤ b := hF
    refine ⟨by omega, ?_⟩
    rw [heap_other (by omega), heap_other (by omega)]
end Go.Proofs.Ythbfkbkcfcpibaa
