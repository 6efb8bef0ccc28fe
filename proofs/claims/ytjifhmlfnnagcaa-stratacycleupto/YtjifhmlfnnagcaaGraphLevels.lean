/- (strata.graph).levels: the least levels. -/
import Derived.Test.YtjifhmlfnnagcaaGraphAsked
import Derived.Test.YtjifhmlfnnagcaaLawApart
namespace Go.Proofs.Ytjifhmlfnnagcaa
set_option linter.unusedSimpArgs false
set_option linter.unusedVariables false
open Go.RowKit Go.Maps

theorem CompsAt.base_ {base : Nat} {w : World} {n : Nat} {es : List Edg} {H : Nat → Int} {reps : List Nat} {M : Nat → Value} {tc i gt r gr cr ln : Nat} (h : CompsAt base w n (lnkT es) H reps M (.slice (some ⟨gt, 0, none⟩) reps.length tc)) (hr : reps[i]? = some r) (hc : w.cell? ⟨gt, i, none⟩ = some (.slice (some ⟨gr, 0, none⟩) ln cr)) : base ≤ gt ∧ base ≤ gr := by
  have hi : i < reps.length := (List.getElem?_eq_some_iff.1 hr).1
  have ho : w.ownsRow base 33 1 (.slice (some ⟨gt, 0, none⟩) reps.length tc) (reps.map M).length (reps.map M) := by rw [List.length_map]; exact h.told.own
  obtain ⟨gt', cap, e, -, hcs⟩ := own_cells ho (by rw [List.length_map]; omega)
  have e1 : gt = gt' := by injection e with e1; injection e1 with e2; injection e2
  subst e1
  have h1 := hcs i (M r) (by rw [List.getElem?_map, hr]; rfl)
  rw [hc, Option.some.injEq] at h1
  exact ⟨own_new h.told.own gt rfl, own_new (h.told.lst r (h.greedy.rep r (List.mem_of_getElem? hr)).1) gr (by rw [← h1]; rfl)⟩

theorem nd_not {L : List Nat} (hnd : L.Nodup) {j p : Nat} (hp : L[j]? = some p) : p ∉ L.take j := fun hmem => by
  obtain ⟨q, hq, e⟩ := List.getElem_of_mem hmem
  have hq' : q < j := by simp at hq; omega
  have e2 : L[q]? = some p := by rw [← e, List.getElem_take]; exact List.getElem?_eq_getElem _
  have := idxOf_at hnd e2
  have := idxOf_at hnd hp
  omega
theorem nd_len {n : Nat} {L : List Nat} (hnd : L.Nodup) (hl : ∀ p ∈ L, p < n) : L.length ≤ n := by
  have key : ∀ j, j ≤ L.length → cnt n (dnL (fun _ => false) (L.take j)) = j := by
    intro j
    induction j with
    | zero => intro _; unfold cnt dnL; simp
    | succ j ih =>
      intro hj
      have hp : L[j]? = some L[j] := List.getElem?_eq_getElem (by omega)
      rw [take_snoc8 hp, cnt_snoc (hl _ (List.mem_of_getElem? hp)) (by unfold dnL; simpa using nd_not hnd hp), ih (by omega)]
  rw [← key L.length (Nat.le_refl _)]
  exact cnt_le _ _

set_option maxHeartbeats 1000000 in
theorem levels_at {w : World} {gl n c : Nat} {es : List Edg} {N : Nat → Nat → Bool} {F : Nat → Nat → Int} (h : LinksAt w gl n (lnkT es) N F) (hn : n ≤ 128) (hNT : ∀ u v, N u v = true → lnkT es u v = true) (hno : ∀ u v, u < n → v < n → N u v = true → ¬ Mut (Ed n (lnkT es)) u v) :
    Calls Try.prog 28 #[.agg #[.int .i64 (n : Int), .slice (some ⟨gl, 0, none⟩) (n * n) c]] w fun e w' => ∃ (g : Nat) (X : Nat → Int), e = .returned (.slice (some ⟨g, 0, none⟩) n n) ∧ w'.rowIs g 3 n (fun i => .int .i64 (X i)) ∧ (Least n (lnkT es) N X ∧ ∀ p, p < n → X p ≤ n) ∧ w.heap.size ≤ g ∧ Below w.heap.size w w' := by
  have hmk := fun W : World => run_make_row' (P := Try.prog) 33 3 (.int .i64 0) 8 Try.underlying33 Try.infoInt9 rfl .i64 .i64 n (by omega) (by omega) W
  have HL := hide h
  have HNT := hide hNT
  have HNo := hide hno
  clear hNT hno
  have hglt := h.lt
  have hb0 := belo1 w (.cells #[.int .i64 (n : Int), .slice (some ⟨gl, 0, none⟩) (n * n) c] 48)
  have hb1 := belo1 (w.alloc (.cells #[.int .i64 (n : Int), .slice (some ⟨gl, 0, none⟩) (n * n) c] 48)) (.cells (madeCells #[.int .i64 0] n) 3)
  have HCm := hide (comps_any (c := c) ((h.kept hb0).kept hb1) hn)
  have hrow := World.rowIs_made (w.alloc (.cells #[.int .i64 (n : Int), .slice (some ⟨gl, 0, none⟩) (n * n) c] 48)) (.int .i64 0) n 3
  have hgr : ((w.alloc (.cells #[.int .i64 (n : Int), .slice (some ⟨gl, 0, none⟩) (n * n) c] 48)).alloc (.cells (madeCells #[.int .i64 0] n) 3)).heap[w.heap.size]? = some (.cells #[.int .i64 (n : Int), .slice (some ⟨gl, 0, none⟩) (n * n) c] 48 (0, 0)) := by rw [heap_alloc_old _ _ (by simp)]; exact heap_alloc_new _ _
  have hs1 : (w.alloc (.cells #[.int .i64 (n : Int), .slice (some ⟨gl, 0, none⟩) (n * n) c] 48)).heap.size = w.heap.size + 1 := by simp
  rw [hs1] at hrow
  have HY : Hid (((w.alloc (.cells #[.int .i64 (n : Int), .slice (some ⟨gl, 0, none⟩) (n * n) c] 48)).alloc (.cells (madeCells #[.int .i64 0] n) 3)).heap.size = w.heap.size + 2) := by show _ = _; simp
  have HRw := hide hrow
  have HGr := hide hgr
  have HB2 := hide (hb0.trans (hb1.mono (by rw [hs1]; omega)))
  clear h hb0 hb1 hrow hgr hs1
  go_enter Try.func28, Try.ntmps28
  go_wp2_with (go_at_call 26; refine HCm.out.mono ?_; rintro e w1 ⟨tv, H, reps, M, rfl, h1, h2, h3, h4, h5⟩; have HC := hide (show CompsAt (w.heap.size + 2) w1 n (lnkT es) H reps M tv from ⟨h1, h2, stuck_none h1 h3, HY.out ▸ h4⟩); have HR1 := hide (HRw.out.of_block (h5.block _ HRw.out.lt)); have HG1 : Hid (w1.heap[w.heap.size]? = some (.cells #[.int .i64 (n : Int), .slice (some ⟨gl, 0, none⟩) (n * n) c] 48 (0, 0))) := (by show _ = _; rw [h5.block _ (by rw [HY.out]; omega)]; exact HGr.out); have HB1 := hide (HB2.out.trans (h5.mono HB2.out.size)); have hs1 : w.heap.size + 2 ≤ w1.heap.size := (by have := h5.size; rw [HY.out] at this; exact this); obtain ⟨ta, tc, htv, -, -, -⟩ := own_shape6 h4.own; have hrl := own_small h4.own; clear h1 h2 h3 h4 h5 HCm HY HRw HGr HB2; subst htv)
  have HNd : Hid (reps.length ≤ n) := nd_len HC.out.greedy.nd (fun p hp => (HC.out.greedy.rep p hp).1)
  have HHne : Hid (∀ u v, u < n → v < n → N u v = true → H u ≠ H v) := fun u v hu hv hN e => HNo.out u v hu hv hN ((least_eq (HC.out.least u hu) (HC.out.least v hv)).1 e)
  go_loopw [17] (fun iv wl => ∃ (i : Nat) (X : Nat → Int), i ≤ reps.length ∧ iv = .int .i64 i ∧ Hid (wl.rowIs (w.heap.size + 1) 3 n (fun p => .int .i64 (X p))) ∧ Hid (LvInv n (lnkT es) N H reps i X) ∧ Hid (Only (fun b => b = w.heap.size + 1) w1 wl)) (fun iv _ => reps.length - (intOf iv).toNat)
  case atStart => exact ⟨0, fun _ => 0, by omega, rfl, HR1, LvInv.start _ _ _ _ _, Only.refl _ _⟩
  case round =>
    clear HR1
    obtain ⟨i, X, hi, rfl, HR, HI, HO⟩ := hrel
    obtain ⟨V, hV⟩ : ∃ V, V = wr := ⟨_, rfl⟩
    subst hV
    by_cases hlt : i < reps.length
    · have hi1 : (i : Int) < (reps.length : Int) := by omega
      have hi0 : (0 : Int) ≤ (i : Int) := by omega
      obtain ⟨gt, r, gr, cr, L, rfl, hr, hL, t0, hpos, hLn, hcs⟩ := HC.out.at_ hlt
      obtain ⟨bt, br⟩ := HC.out.base_ hr t0
      have y0 := HO.out.cell t0 (fun e => by dsimp only at e; omega)
      have HCs : Hid (∀ (j x : Nat), L[j]? = some x → V.cell? ⟨gr, j, none⟩ = some (.int .i64 (x : Int)) ∧ x < n ∧ H x = (r : Int)) := fun j x hj => ⟨HO.out.cell (hcs j x hj).1 (fun e => by dsimp only at e; omega), (hcs j x hj).2⟩
      have HCw : Hid (∀ (j x : Nat), L[j]? = some x → w1.cell? ⟨gr, j, none⟩ = some (.int .i64 (x : Int)) ∧ x < n ∧ H x = (r : Int)) := hcs
      have hbr : gr ≠ w.heap.size + 1 := by omega
      have HLe := hide hL
      have HRr := hide hr
      clear hcs hL hr t0 bt br
      have HBV : Hid (Below w.heap.size w V) := HB1.out.trans (HO.out.below (by omega) (fun k hk e => by omega))
      have HGV : Hid (V.heap[w.heap.size]? = some (.cells #[.int .i64 (n : Int), .slice (some ⟨gl, 0, none⟩) (n * n) c] 48 (0, 0))) := by show _ = _; rw [HO.out.block _ (by omega) (fun e => by omega)]; exact HG1.out
      have HXb : Hid (∀ p, p < n → 0 ≤ X p ∧ X p ≤ 1000000) := fun p hp => by have := HI.out.nn p hp; have := HNd.out; omega
      go_wp2
      go_loopw [6, 23] (fun lv jv wl => ∃ (j : Nat) (m : Int), j ≤ L.length ∧ jv = .int .i64 j ∧ lv = .int .i64 m ∧ Hid (0 ≤ m ∧ (∀ p ∈ L.take j, askV (lnkT es) N X p n ≤ m) ∧ (m = 0 ∨ ∃ p ∈ L.take j, askV (lnkT es) N X p n = m) ∧ m ≤ 2000000) ∧ Hid (Below V.heap.size V wl)) (fun _ jv _ => L.length - (intOf jv).toNat)
      case atStart => exact ⟨0, 0, by omega, rfl, rfl, ⟨by omega, by simp, .inl rfl, by omega⟩, Below.refl _ _⟩
      case round =>
        clear y0
        obtain ⟨j, m, hj, rfl, rfl, HM, HB⟩ := hrel
        by_cases hlt2 : j < L.length
        · have hj1 : (j : Int) < (L.length : Int) := by omega
          have hj0 : (0 : Int) ≤ (j : Int) := by omega
          obtain ⟨p, hp⟩ : ∃ p, L[j]? = some p := ⟨_, List.getElem?_eq_getElem hlt2⟩
          obtain ⟨c1, hpk, hpr⟩ := HCs.out j p hp
          have y1 := kept_cell HB.out c1
          have HTk := hide (take_snoc8 hp)
          have HGr : Hid (wr.heap[w.heap.size]? = some (.cells #[.int .i64 (n : Int), .slice (some ⟨gl, 0, none⟩) (n * n) c] 48 (0, 0))) := by show _ = _; rw [HB.out.block _ (Array.getElem?_eq_some_iff.1 HGV.out).1]; exact HGV.out
          have x0 : wr.cell? ⟨w.heap.size, 0, none⟩ = some (.int .i64 (n : Int)) := by simp [World.cell?, HGr.out]
          have x1 : wr.cell? ⟨w.heap.size, 1, none⟩ = some (.slice (some ⟨gl, 0, none⟩) (n * n) c) := by simp [World.cell?, HGr.out]
          have HAs := hide (asked_any (c := c) (HL.out.low (HBV.out.trans (HB.out.mono HBV.out.size)) hglt) hn hpk (HR.out.of_block (HB.out.block _ HR.out.lt)) HXb.out)
          have HA0 := hide (askV_nonneg (lnkT es) N X p n)
          have HA1 : Hid (askV (lnkT es) N X p n ≤ 1000001) := askV_le (by omega) n (fun u hu _ => by have := HXb.out u hu; omega) (fun u hu _ => by have := HXb.out u hu; omega)
          obtain ⟨a, ha⟩ : ∃ a, askV (lnkT es) N X p n = a := ⟨_, rfl⟩
          rw [ha] at HAs HA0 HA1
          have hM4 := HM.out.2.2.2
          have hM0 := HM.out.1
          have ha0 := HA0.out
          have ha1 := HA1.out
          have HN : Hid (∀ m', m' = max m a → 0 ≤ m' ∧ (∀ p ∈ L.take (j + 1), askV (lnkT es) N X p n ≤ m') ∧ (m' = 0 ∨ ∃ p ∈ L.take (j + 1), askV (lnkT es) N X p n = m') ∧ m' ≤ 2000000) := fun m' hm' => by
            have e : (m ≤ a ∧ m' = a) ∨ (¬ m ≤ a ∧ m' = m) := by omega
            have e1 : m ≤ m' ∧ a ≤ m' ∧ 0 ≤ m' ∧ m' ≤ 2000000 := by omega
            clear hm'
            rw [HTk.out]
            refine ⟨e1.2.2.1, fun q hq => ?_, ?_, e1.2.2.2⟩
            · rcases List.mem_append.1 hq with hq | hq
              · exact Int.le_trans (HM.out.2.1 q hq) e1.1
              · simp only [List.mem_singleton] at hq; rw [hq, ha]; exact e1.2.1
            · rcases e with ⟨-, e⟩ | ⟨-, e⟩
              · right; exact ⟨p, by simp, by rw [ha, e]⟩
              · rcases HM.out.2.2.1 with g3 | ⟨q, hq, g3⟩
                · left; rw [e, g3]
                · right; exact ⟨q, by simp [hq], by rw [g3, e]⟩
          clear ha hp c1 hpr HA0 HA1
          by_cases hm : m < a
          · go_wp2_with (go_at_call 40; refine HAs.out.mono ?_; rintro e w2 ⟨rfl, h2⟩; have HB2 := hide (HB.out.trans (h2.mono HB.out.size)); clear h2 HAs HB)
            go_roundw
            case rel => exact ⟨j + 1, a, by omega, by go_num, by simp <;> omega, HN.out a (by omega), HB2⟩
            case measure => simp [intOf]; omega
          · go_wp2_with (go_at_call 40; refine HAs.out.mono ?_; rintro e w2 ⟨rfl, h2⟩; have HB2 := hide (HB.out.trans (h2.mono HB.out.size)); clear h2 HAs HB)
            go_roundw
            case rel => exact ⟨j + 1, m, by omega, by go_num, by simp <;> omega, HN.out m (by omega), HB2⟩
            case measure => simp [intOf]; omega
        · obtain rfl : j = L.length := by omega
          have hj1 : ¬ (L.length : Int) < (L.length : Int) := by omega
          rw [List.take_of_length_le (Nat.le_refl _)] at HM
          have HO1 := hide (HO.out.trans (Only.of_below HB.out _))
          have HR1 := hide ((HR.out.of_block (HB.out.block _ HR.out.lt)).congr (g := fun p => .int .i64 (if p ∈ L.take 0 then m else X p)) (fun p _ => by simp))
          clear HB
          go_wp2
          go_loopw [36] (fun jv wl => ∃ j : Nat, j ≤ L.length ∧ jv = .int .i64 j ∧ Hid (wl.rowIs (w.heap.size + 1) 3 n (fun p => .int .i64 (if p ∈ L.take j then m else X p))) ∧ Hid (Only (fun b => b = w.heap.size + 1) w1 wl)) (fun jv _ => L.length - (intOf jv).toNat)
          case atStart => exact ⟨0, by omega, rfl, HR1, HO1⟩
          case round =>
            clear HR1 HO1
            obtain ⟨j, hj, rfl, HR2, HO2⟩ := hrel
            by_cases hlt2 : j < L.length
            · have hj1 : (j : Int) < (L.length : Int) := by omega
              have hj0 : (0 : Int) ≤ (j : Int) := by omega
              obtain ⟨p, hp⟩ : ∃ p, L[j]? = some p := ⟨_, List.getElem?_eq_getElem hlt2⟩
              obtain ⟨c1, hpk, hpr⟩ := HCw.out j p hp
              have y1 := HO2.out.cell c1 (fun e => hbr e)
              have y2 := HR2.out.cell hpk
              have y2f := HR2.out.frozen p
              have hp2 : (p : Int) < (n : Int) := by omega
              have hp3 : (0 : Int) ≤ (p : Int) := by omega
              have HTk := hide (take_snoc8 hp)
              have HRn := hide ((HR2.out.set p (.int .i64 m)).congr (g := fun q => .int .i64 (if q ∈ L.take (j + 1) then m else X q)) (fun q _ => by
                rw [HTk.out]
                by_cases e : q = p
                · subst e; simp
                · simp [e]))
              have HOn : Hid (Only (fun b => b = w.heap.size + 1) w1 (wr.setCell ⟨w.heap.size + 1, p, none⟩ (.int .i64 m))) := HO2.out.setCell rfl _
              clear hp c1 hpr
              go_wp2
              go_roundw
              case rel => exact ⟨j + 1, by omega, by go_num, HRn, HOn⟩
              case measure => simp [intOf]; omega
            · obtain rfl : j = L.length := by omega
              have hj1 : ¬ (L.length : Int) < (L.length : Int) := by omega
              rw [List.take_of_length_le (Nat.le_refl _)] at HR2
              have HRn := hide (HR2.out.congr (g := fun p => .int .i64 (if H p = (r : Int) then m else X p)) (fun p hp => by
                by_cases e : H p = (r : Int)
                · rw [if_pos e, if_pos (by rw [HLe.out]; exact mem_memL.2 ⟨hp, e⟩)]
                · rw [if_neg e, if_neg (fun hm => e (by rw [HLe.out] at hm; exact (mem_memL.1 hm).2))]))
              have HIn := hide (HI.out.next (m := m) HC.out.least HC.out.greedy HRr.out HNT.out HHne.out HM.out.1 (by rw [← HLe.out]; exact HM.out.2.1) (by rw [← HLe.out]; exact HM.out.2.2.1))
              clear HR2 HI HM
              go_wp2
              go_roundw
              case rel => exact ⟨i + 1, _, by omega, by go_num, HRn, HIn, HO2⟩
              case measure => simp [intOf]; omega
    · obtain rfl : i = reps.length := by omega
      have hi1 : ¬ (reps.length : Int) < (reps.length : Int) := by omega
      have HD := hide (And.intro (HI.out.done (dn_all HC.out.least HC.out.all)) (fun p (hp : p < n) => show X p ≤ (n : Int) by have := HI.out.nn p hp; have := HNd.out; omega))
      have HBV : Hid (Below w.heap.size w V) := HB1.out.trans (HO.out.below (by omega) (fun k hk e => by omega))
      clear HI
      go_wp2
      go_ret
      exact ⟨_, rfl, X, HR.out, HD.out, by omega, HBV.out⟩
theorem levels_any {w : World} {gl n c : Nat} {es : List Edg} {N : Nat → Nat → Bool} {F : Nat → Nat → Int} (h : LinksAt w gl n (lnkT es) N F) (hn : n ≤ 128) (hNT : ∀ u v, N u v = true → lnkT es u v = true) (hno : ∀ u v, u < n → v < n → N u v = true → ¬ Mut (Ed n (lnkT es)) u v) :
    Calls Try.prog 28 #[.agg #[.int .i64 (n : Int), .slice (some ⟨gl, 0, none⟩) (n * n) c]] w fun e w' => ∃ (g : Nat) (X : Nat → Int), e = .returned (.slice (some ⟨g, 0, none⟩) n n) ∧ w'.rowIs g 3 n (fun i => .int .i64 (X i)) ∧ (Least n (lnkT es) N X ∧ ∀ p, p < n → X p ≤ n) ∧ Below w.heap.size w w' :=
  (levels_at h hn hNT hno).mono fun _ _ ⟨g, X, a, b, c, _, d⟩ => ⟨g, X, a, b, c, d⟩
end Go.Proofs.Ytjifhmlfnnagcaa
