/- The law of the edges' order: its walk. -/
import Derived.Test.YtkbicgkocmibfaaOrderPure
namespace Go.Proofs.Ytkbicgkocmibfaa
set_option linter.unusedSimpArgs false
set_option linter.unusedVariables false
open Go.RowKit Go.Maps

theorem CompsAt.has_ {base : Nat} {w : World} {n : Nat} {es : List Edg} {H : Nat → Int} {reps : List Nat} {M : Nat → Value} {ta : Option Addr} {tc i : Nat} (h : CompsAt base w n (lnkT es) H reps M (.slice ta reps.length tc)) (hi : i < reps.length) (hn : n ≤ 128) : ∃ (gt : Nat) (va : Value), ta = some ⟨gt, 0, none⟩ ∧ w.cell? ⟨gt, i, none⟩ = some va ∧ Has elInt w va ((memL H n reps[i]).map fun (u : Nat) => (u : Int)) := by
  have hr : reps[i]? = some reps[i] := List.getElem?_eq_getElem hi
  obtain ⟨r1, r2⟩ := h.greedy.rep _ (List.mem_of_getElem? hr)
  have ho : w.ownsRow base 29 1 (.slice ta reps.length tc) (reps.map M).length (reps.map M) := by rw [List.length_map]; exact h.told.own
  obtain ⟨gt, cap, e, -, hc⟩ := own_cells ho (by rw [List.length_map]; omega)
  have hlen : (memL H n reps[i]).length ≤ n := nd_len (nd_memL _ _ _) (fun p hp => (mem_memL.1 hp).1)
  exact ⟨gt, M reps[i], by injection e, hc i _ (by rw [List.getElem?_map, hr]; rfl), own_has (h.told.lst _ r1) (by omega) (fun x hx => by have := (mem_memL.1 hx).1; omega)⟩

theorem fitP_same {n : Int} {es es' : List Edg} (h : ∀ x, x ∈ es' ↔ x ∈ es) : fitP n es' = fitP n es := by
  have h1 : es'.any (eOut n) = es.any (eOut n) := by
    rw [Bool.eq_iff_iff]
    simp only [List.any_eq_true, h]
  unfold fitP
  rw [h1]

theorem levels_bad {w : World} {v : Value} {es : List Edg} {n : Nat} (h : Has elEdg w v es) (hfit : fitP n es = true) (hb : HasBad n es) :
    Calls Try.prog 13 #[.int .i64 (n : Int), v] w fun e w' => e = .returned (.tuple #[.slice none 0 0, .int .i64 40]) ∧ Below w.heap.size w w' :=
  (levels_fit h hfit).mono fun e w' ⟨h1, h2⟩ => ⟨h1.elim (fun h => h.2) (fun h => absurd hb h.1), h2⟩
theorem levels_good {w : World} {v : Value} {es : List Edg} {n : Nat} (h : Has elEdg w v es) (hfit : fitP n es = true) (hb : ¬ HasBad n es) :
    Calls Try.prog 13 #[.int .i64 (n : Int), v] w fun e w' => ∃ (g : Nat) (X : Nat → Int), e = .returned (.tuple #[.slice (some ⟨g, 0, none⟩) n n, .int .i64 0]) ∧ w'.rowIs g 3 n (fun i => .int .i64 (X i)) ∧ (Least n (lnkT es) (lnkN es) X ∧ ∀ p, p < n → X p ≤ n) ∧ Below w.heap.size w w' :=
  (levels_fit h hfit).mono fun e w' ⟨h1, h2⟩ => h1.elim (fun h => absurd h.1 hb) (fun ⟨_, g, X, a, b, c⟩ => ⟨g, X, a, b, c, h2⟩)

theorem comps_same {base base' : Nat} {w : World} {n : Nat} {es : List Edg} {H H' : Nat → Int} {reps reps' : List Nat} {M M' : Nat → Value} {ta ta' : Option Addr} {tc tc' : Nat} (hn : n ≤ 128) (h : CompsAt base w n (lnkT es) H reps M (.slice ta reps.length tc)) (h' : CompsAt base' w n (lnkT es) H' reps' M' (.slice ta' reps'.length tc')) :
    ∀ i, i < reps.length → ∃ (ga gb : Nat) (L : List Int) (va vb : Value), ta = some ⟨ga, 0, none⟩ ∧ ta' = some ⟨gb, 0, none⟩ ∧ w.cell? ⟨ga, i, none⟩ = some va ∧ w.cell? ⟨gb, i, none⟩ = some vb ∧ Has elInt w va L ∧ Has elInt w vb L := fun i hi => by
  have he := home_uniq h.least h'.least
  have hr := greedy_uniq he h.greedy h'.greedy h.all h'.all
  subst hr
  obtain ⟨ga, va, a1, a2, a3⟩ := h.has_ hi hn
  obtain ⟨gb, vb, b1, b2, b3⟩ := h'.has_ hi hn
  rw [← memL_congr he] at b3
  exact ⟨ga, gb, _, va, vb, a1, b1, a2, b2, a3, b3⟩

set_option maxRecDepth 100000 in
set_option maxHeartbeats 2000000 in
theorem strataOrder_walk (n : Int) (v : Value) (es : List Edg) (u : Value) (ls : List Int) (w : World) (hn : I64 n) (h : Has elEdg w v es) (hes : es.length ≤ 1048576) (hu : Has elInt w u ls) (hls : ls.length ≤ 1048576) :
    Calls Try.prog 4 #[.int .i64 n, v, u] w fun e w' => e = .returned (.bool true) ∧ Below w.heap.size w w' := by
  obtain ⟨i0, hi0, hz0, hz1, hz2⟩ := info_parts Try.infoEdg
  obtain ⟨va, vc, rfl, -, -, hlen⟩ := h.shape
  obtain ⟨ua, uc, rfl, -, -, hlen2⟩ := hu.shape
  have HL := hide h
  have HU := hide hu
  have HF := hide (lfit_any h n)
  clear h hu hn
  have hfc : fitP n es = false ∨ fitP n es = true := by cases fitP n es <;> simp
  rcases hfc with hf | hf
  · rw [hf] at HF
    go_enter Try.func4, Try.ntmps4
    go_wp2_with (go_at_call 9; refine HF.out.mono ?_)
    rintro e w1 ⟨rfl, b1⟩
    have HB1 := hide b1
    clear b1
    go_wp2
    go_ret
    exact ⟨rfl, HB1.out⟩
  · rw [hf] at HF
    obtain ⟨⟨hk0, hk1⟩, hin⟩ := fit_in8 hf
    obtain ⟨k, rfl⟩ : ∃ k : Nat, n = k := ⟨n.toNat, by omega⟩
    have HIn := hide hin
    have HFt := hide hf
    clear hin hf hk0
    have hk : k ≤ 128 := by omega
    clear hk1
    go_enter Try.func4, Try.ntmps4
    go_wp2_with (go_at_call 9; refine HF.out.mono ?_)
    rintro e w1 ⟨rfl, b1⟩
    have HB1 := hide b1
    clear b1 HF
    go_wp2
    go_loopw [7, 8] (fun ov iv wl => ∃ (m : Nat) (oth : List Edg), m ≤ es.length ∧ iv = .int .i64 ((m : Int) - 1) ∧ Hid (oth.length + m = es.length ∧ ∀ x, x ∈ oth ↔ x ∈ es.drop m) ∧ Hid (Grow elEdg 31 w.heap.size wl ov oth) ∧ Hid (Below w.heap.size w wl)) (fun _ iv _ => (intOf iv + 1).toNat)
    case atStart => exact ⟨es.length, [], Nat.le_refl _, rfl, ⟨by simp, by simp⟩, Grow.nil _ _ _ _, HB1⟩
    case round =>
      clear HB1
      obtain ⟨m, oth, hm, rfl, HO, HG, HB⟩ := hrel
      cases m with
      | succ m =>
        have hm1 : (m : Int) < (es.length : Int) := by omega
        have hm0 : (0 : Int) ≤ (m : Int) := by omega
        have hms : ((m + 1 : Nat) : Int) - 1 = (m : Int) := by omega
        rw [hms]
        obtain ⟨b, off, rfl, -, -, hrow⟩ := HL.out.row (by omega)
        obtain ⟨x, hx⟩ : ∃ x, es[m]? = some x := ⟨_, List.getElem?_eq_getElem (by omega)⟩
        have y0 := kept_cell HB.out (hrow m x hx 0 _ rfl)
        have y1 := kept_cell HB.out (hrow m x hx 1 _ rfl)
        have y2 := kept_cell HB.out (hrow m x hx 2 _ rfl)
        have y3 := kept_cell HB.out (hrow m x hx 3 _ rfl)
        simp only [elEdg, Nat.add_zero] at y0 y1 y2 y3
        have HOk := hide (HL.out.ok (List.mem_of_getElem? hx))
        have HOn : Hid ((oth ++ [x]).length + m = es.length ∧ ∀ y, y ∈ oth ++ [x] ↔ y ∈ es.drop m) := by
          obtain ⟨h1, h2⟩ := HO.out
          refine ⟨by simp; omega, fun y => ?_⟩
          obtain ⟨hml, hxe⟩ := List.getElem?_eq_some_iff.1 hx
          rw [List.drop_eq_getElem_cons hml, hxe]
          rw [List.mem_append, List.mem_singleton, List.mem_cons, h2 y]
          exact Or.comm
        obtain ⟨q, hq⟩ : ∃ q, oth.length = q := ⟨_, rfl⟩
        have hq1 : q ≤ 1048576 := by have := HO.out.1; omega
        have HLn := hide hq
        obtain ⟨oa, oc, hsh, -, -⟩ := HG.out.shape
        rw [hq] at hsh
        subst hsh
        have HG2 := hide (HG.out.kept (belo1 wr (.cells #[.int .i64 x.f, .int .i64 x.t, .bool x.neg, .int .i64 x.r] 31)))
        have HB2 := hide (HB.out.alloc HB.out.size (.cells #[.int .i64 x.f, .int .i64 x.t, .bool x.neg, .int .i64 x.r] 31))
        have HS := hide HB.out.size
        clear hrow hx HG HO hq
        go_wp2_with (at_builtin; refine wpList_push (w0 := w) elEdg rfl _ _ 22 rfl w.heap.size 31 i0 _ 32 Try.underlying22 hi0 hz0 hz1 hz2 rfl (by decide) _ oth q HLn.out rfl HG2.out x wr.heap.size 1 rfl (fun j u hu => new_cells j u hu) HOk.out (by omega) HB2.out (by simp; have := HS.out; omega) ?_)
        intro g cap' w2 HG3 HB3 HGr
        clear HGr
        go_wp2
        go_roundw
        case rel => exact ⟨m, oth ++ [x], by omega, by go_num, HOn, HG3, HB3⟩
        case measure => simp [intOf] <;> omega
      | zero =>
        have hz : ¬ (0 : Int) ≤ -1 := by omega
        have hms : ((0 : Nat) : Int) - 1 = -1 := by omega
        rw [hms]
        have HSt : Hid (oth.length ≤ es.length + 0 ∧ ∀ x, x ∈ oth ↔ x ∈ es) := ⟨by have := HO.out.1; omega, by simpa using HO.out.2⟩
        clear HO
        go_wp2
        go_loopw [7, 9] (fun ov iv wl => ∃ (j : Nat) (oth : List Edg), j ≤ ls.length ∧ iv = .int .i64 j ∧ Hid (oth.length ≤ es.length + j ∧ ∀ x, x ∈ oth ↔ x ∈ es) ∧ Hid (Grow elEdg 31 w.heap.size wl ov oth) ∧ Hid (Below w.heap.size w wl)) (fun _ iv _ => ls.length - (intOf iv).toNat)
        case atStart => exact ⟨0, oth, by omega, rfl, HSt, HG, HB⟩
        case round =>
          clear HSt HG HB
          obtain ⟨j, oth, hj, rfl, HO, HG, HB⟩ := hrel
          by_cases hlt : j < ls.length
          · have hj1 : (j : Int) < (ls.length : Int) := by omega
            have hj0 : (0 : Int) ≤ (j : Int) := by omega
            obtain ⟨bu, offu, rfl, -, -, hrowu⟩ := HU.out.row (by omega)
            obtain ⟨t, ht⟩ : ∃ t, ls[j]? = some t := ⟨_, List.getElem?_eq_getElem hlt⟩
            have z0 := kept_cell HB.out (hrowu j t ht 0 _ rfl)
            simp only [elInt, Nat.add_zero, Nat.mul_one] at z0
            have HOs : Hid (oth.length ≤ es.length + (j + 1) ∧ ∀ x, x ∈ oth ↔ x ∈ es) := ⟨by have := HO.out.1; omega, HO.out.2⟩
            clear hrowu ht
            by_cases ht0 : 0 ≤ t
            · by_cases ht1 : t < (es.length : Int)
              · obtain ⟨m, rfl⟩ : ∃ m : Nat, t = m := ⟨t.toNat, by omega⟩
                have hml : m < es.length := by omega
                obtain ⟨b, off, rfl, -, -, hrow⟩ := HL.out.row (by omega)
                obtain ⟨x, hx⟩ : ∃ x, es[m]? = some x := ⟨_, List.getElem?_eq_getElem hml⟩
                have y0 := kept_cell HB.out (hrow m x hx 0 _ rfl)
                have y1 := kept_cell HB.out (hrow m x hx 1 _ rfl)
                have y2 := kept_cell HB.out (hrow m x hx 2 _ rfl)
                have y3 := kept_cell HB.out (hrow m x hx 3 _ rfl)
                simp only [elEdg, Nat.add_zero] at y0 y1 y2 y3
                have HOk := hide (HL.out.ok (List.mem_of_getElem? hx))
                have HOn : Hid ((oth ++ [x]).length ≤ es.length + (j + 1) ∧ ∀ y, y ∈ oth ++ [x] ↔ y ∈ es) := by
                  obtain ⟨h1, h2⟩ := HO.out
                  have hxm := List.mem_of_getElem? hx
                  refine ⟨by simp; omega, fun y => ?_⟩
                  rw [List.mem_append, List.mem_singleton, h2 y]
                  exact ⟨fun h => h.elim id (fun e => e ▸ hxm), .inl⟩
                obtain ⟨q, hq⟩ : ∃ q, oth.length = q := ⟨_, rfl⟩
                have hq1 : q ≤ 2097152 := by have := HO.out.1; omega
                have HLn := hide hq
                obtain ⟨oa, oc, hsh, -, -⟩ := HG.out.shape
                rw [hq] at hsh
                subst hsh
                have HG2 := hide (HG.out.kept (belo1 wr (.cells #[.int .i64 x.f, .int .i64 x.t, .bool x.neg, .int .i64 x.r] 31)))
                have HB2 := hide (HB.out.alloc HB.out.size (.cells #[.int .i64 x.f, .int .i64 x.t, .bool x.neg, .int .i64 x.r] 31))
                have HS := hide HB.out.size
                clear hrow hx HG HO hq HOs
                go_wp2_with (at_builtin; refine wpList_push (w0 := w) elEdg rfl _ _ 22 rfl w.heap.size 31 i0 _ 32 Try.underlying22 hi0 hz0 hz1 hz2 rfl (by decide) _ oth q HLn.out rfl HG2.out x wr.heap.size 1 rfl (fun j u hu => new_cells j u hu) HOk.out (by omega) HB2.out (by simp; have := HS.out; omega) ?_)
                intro g cap' w2 HG3 HB3 HGr
                clear HGr
                go_wp2
                go_roundw
                case rel => exact ⟨j + 1, oth ++ [x], by omega, by go_num, HOn, HG3, HB3⟩
                case measure => simp [intOf]; omega
              · go_wp2
                go_roundw
                case rel => exact ⟨j + 1, oth, by omega, by go_num, HOs, HG, HB⟩
                case measure => simp [intOf]; omega
            · go_wp2
              go_roundw
              case rel => exact ⟨j + 1, oth, by omega, by go_num, HOs, HG, HB⟩
              case measure => simp [intOf]; omega
          · obtain rfl : j = ls.length := by omega
            have hj1 : ¬ (ls.length : Int) < (ls.length : Int) := by omega
            have hol : oth.length < 1073741824 := by have := HO.out.1; omega
            have HMs := hide HO.out.2
            have HOt := hide (HG.out.list hol)
            have HFo : Hid (fitP k oth = true) := by show _ = _; rw [fitP_same HMs.out]; exact HFt.out
            obtain ⟨oa, oc, hsh, -, -⟩ := HG.out.shape
            subst hsh
            have HE0 := hide (edges_any (HL.out.kept HB.out))
            clear HG HO
            have hkc : (0 : Int) < (k : Int) ∨ ¬ (0 : Int) < (k : Int) := by omega
            have hbc : HasBad k es ∨ ¬ HasBad k es := Classical.em _
            rcases hbc with hb | hb
            · have HBo : Hid (HasBad k oth) := (same_bad HMs.out).2 hb
              have HBd := hide hb
              clear hb
              rcases hkc with hkp | hkp
              · go_wp2_with (first
                  | (go_at_call 11; refine HE0.out.mono ?_; rintro e w2 ⟨g1, rfl, hg1, b2⟩; obtain ⟨ga, gc, rfl, -, -⟩ := hg1.shape; have HO2 := hide (HOt.out.kept b2); have HB2 := hide (HB.out.trans (b2.mono HB.out.size)); have HC0 := hide (components_fit (hg1.list hlen) HFt.out); clear HE0 hg1 b2 HB HOt)
                  | (go_at_call 10; refine HC0.out.mono ?_; rintro e w3 ⟨tv, H, reps, M, rfl, hc, b3⟩; obtain ⟨ta, tc, htv, -, -, -⟩ := own_shape6 hc.told.own; subst htv; have HCa := hide hc; have HO3 := hide (HO2.out.kept b3); have HB3 := hide (HB2.out.trans (b3.mono HB2.out.size)); have HC1 := hide (components_fit (HO2.out.kept b3) HFo.out); clear HC0 hc b3 HB2 HO2)
                  | (go_at_call 10; refine HC1.out.mono ?_; rintro e w4 ⟨tv', H', reps', M', rfl, hc, b4⟩; obtain ⟨ta', tc', htv, -, -, -⟩ := own_shape6 hc.told.own; subst htv; rw [same_lnkT HMs.out] at hc; have hre := greedy_uniq (home_uniq HCa.out.least hc.least) HCa.out.greedy hc.greedy HCa.out.all hc.all; subst hre; have HCa4 := hide (HCa.out.kept b4); have HCb := hide hc; have HO4 := hide (HO3.out.kept b4); have HB4 := hide (HB3.out.trans (b4.mono HB3.out.size)); have HE1 := hide (edges_any (HL.out.kept (HB3.out.trans (b4.mono HB3.out.size)))); have hrl : reps.length ≤ k := (nd_len HCa.out.greedy.nd (fun p hp => (HCa.out.greedy.rep p hp).1)); have hr0 : (0 : Int) < (k : Int) → ¬ (reps.length : Int) = 0 := (fun h0 e => by have h1 := dn_all HCa.out.least HCa.out.all 0 (by omega); have h2 : reps = [] := List.eq_nil_of_length_eq_zero (by omega); rw [h2] at h1; simp [dn] at h1); have hrl2 : (reps.length : Int) ≤ (k : Int) := (by omega); have hr1 := hr0 hkp; have hr2 : ¬ reps.length = 0 := (by omega); have hr3 : ¬ reps = [] := (fun e => hr2 (by rw [e]; rfl)); have hr4 : ((reps.length : Int) == 0) = false := (by simpa using hr3); clear hr0 HC1 hc b4 HB3 HO3 HCa)
                  | (go_at_call 11; refine HE1.out.mono ?_; rintro e w5 ⟨g1, rfl, hg1, b5⟩; obtain ⟨ga, gc, rfl, -, -⟩ := hg1.shape; have HO5 := hide (HO4.out.kept b5); have HB5 := hide (HB4.out.trans (b5.mono HB4.out.size)); have HCa5 := hide (HCa4.out.kept b5); have HCb5 := hide (HCb.out.kept b5); have HV0 := hide (levels_bad (hg1.list hlen) HFt.out HBd.out); clear HE1 hg1 b5 HB4 HO4 HCa4 HCb)
                  | (go_at_call 13; refine HV0.out.mono ?_; rintro e w6 ⟨rfl, b6⟩; have HB6 := hide (HB5.out.trans (b6.mono HB5.out.size)); have HCa6 := hide (HCa5.out.kept b6); have HCb6 := hide (HCb5.out.kept b6); have HV1 := hide (levels_bad (HO5.out.kept b6) HFo.out HBo.out); clear HV0 b6 HB5 HO5 HCa5 HCb5)
                  | (go_at_call 13; refine HV1.out.mono ?_; rintro e w7 ⟨rfl, b7⟩; have HB7 := hide (HB6.out.trans (b7.mono HB6.out.size)); have HQ := hide (equalLists_any (ca := tc) (cb := tc') (by omega) (comps_same hk (HCa6.out.kept b7) (HCb6.out.kept b7))); clear HV1 b7 HB6 HCa6 HCb6)
                  | (go_at_call 14; refine HQ.out.mono ?_; rintro e w8 ⟨rfl, b8⟩; have HB8 := hide (HB7.out.trans (b8.mono HB7.out.size)); have HQ2 := hide (equalInts_any (w := w8) (Lst.nil elInt _ _) (Lst.nil elInt _ _)); clear HQ b8 HB7)
                  | (go_at_call 15; refine HQ2.out.mono ?_; rintro e w9 ⟨rfl, b9⟩; have HB9 := hide (HB8.out.trans (b9.mono HB8.out.size)); clear HQ2 b9 HB8))
                go_ret
                exact ⟨rfl, HB9.out⟩
              · go_wp2_with (first
                  | (go_at_call 11; refine HE0.out.mono ?_; rintro e w2 ⟨g1, rfl, hg1, b2⟩; obtain ⟨ga, gc, rfl, -, -⟩ := hg1.shape; have HO2 := hide (HOt.out.kept b2); have HB2 := hide (HB.out.trans (b2.mono HB.out.size)); have HC0 := hide (components_fit (hg1.list hlen) HFt.out); clear HE0 hg1 b2 HB HOt)
                  | (go_at_call 10; refine HC0.out.mono ?_; rintro e w3 ⟨tv, H, reps, M, rfl, hc, b3⟩; obtain ⟨ta, tc, htv, -, -, -⟩ := own_shape6 hc.told.own; subst htv; have HCa := hide hc; have HO3 := hide (HO2.out.kept b3); have HB3 := hide (HB2.out.trans (b3.mono HB2.out.size)); have HC1 := hide (components_fit (HO2.out.kept b3) HFo.out); clear HC0 hc b3 HB2 HO2)
                  | (go_at_call 10; refine HC1.out.mono ?_; rintro e w4 ⟨tv', H', reps', M', rfl, hc, b4⟩; obtain ⟨ta', tc', htv, -, -, -⟩ := own_shape6 hc.told.own; subst htv; rw [same_lnkT HMs.out] at hc; have hre := greedy_uniq (home_uniq HCa.out.least hc.least) HCa.out.greedy hc.greedy HCa.out.all hc.all; subst hre; have HCa4 := hide (HCa.out.kept b4); have HCb := hide hc; have HO4 := hide (HO3.out.kept b4); have HB4 := hide (HB3.out.trans (b4.mono HB3.out.size)); have HE1 := hide (edges_any (HL.out.kept (HB3.out.trans (b4.mono HB3.out.size)))); have hrl : reps.length ≤ k := (nd_len HCa.out.greedy.nd (fun p hp => (HCa.out.greedy.rep p hp).1)); have hr0 : (0 : Int) < (k : Int) → ¬ (reps.length : Int) = 0 := (fun h0 e => by have h1 := dn_all HCa.out.least HCa.out.all 0 (by omega); have h2 : reps = [] := List.eq_nil_of_length_eq_zero (by omega); rw [h2] at h1; simp [dn] at h1); have hrl2 : (reps.length : Int) ≤ (k : Int) := (by omega); clear hr0 HC1 hc b4 HB3 HO3 HCa)
                  | (go_at_call 11; refine HE1.out.mono ?_; rintro e w5 ⟨g1, rfl, hg1, b5⟩; obtain ⟨ga, gc, rfl, -, -⟩ := hg1.shape; have HO5 := hide (HO4.out.kept b5); have HB5 := hide (HB4.out.trans (b5.mono HB4.out.size)); have HCa5 := hide (HCa4.out.kept b5); have HCb5 := hide (HCb.out.kept b5); have HV0 := hide (levels_bad (hg1.list hlen) HFt.out HBd.out); clear HE1 hg1 b5 HB4 HO4 HCa4 HCb)
                  | (go_at_call 13; refine HV0.out.mono ?_; rintro e w6 ⟨rfl, b6⟩; have HB6 := hide (HB5.out.trans (b6.mono HB5.out.size)); have HCa6 := hide (HCa5.out.kept b6); have HCb6 := hide (HCb5.out.kept b6); have HV1 := hide (levels_bad (HO5.out.kept b6) HFo.out HBo.out); clear HV0 b6 HB5 HO5 HCa5 HCb5)
                  | (go_at_call 13; refine HV1.out.mono ?_; rintro e w7 ⟨rfl, b7⟩; have HB7 := hide (HB6.out.trans (b7.mono HB6.out.size)); have HQ := hide (equalLists_any (ca := tc) (cb := tc') (by omega) (comps_same hk (HCa6.out.kept b7) (HCb6.out.kept b7))); clear HV1 b7 HB6 HCa6 HCb6)
                  | (go_at_call 14; refine HQ.out.mono ?_; rintro e w8 ⟨rfl, b8⟩; have HB8 := hide (HB7.out.trans (b8.mono HB7.out.size)); have HQ2 := hide (equalInts_any (w := w8) (Lst.nil elInt _ _) (Lst.nil elInt _ _)); clear HQ b8 HB7)
                  | (go_at_call 15; refine HQ2.out.mono ?_; rintro e w9 ⟨rfl, b9⟩; have HB9 := hide (HB8.out.trans (b9.mono HB8.out.size)); clear HQ2 b9 HB8))
                go_ret
                exact ⟨rfl, HB9.out⟩
            · have HBo : Hid (¬ HasBad k oth) := fun h => hb ((same_bad HMs.out).1 h)
              have HBd := hide hb
              clear hb
              rcases hkc with hkp | hkp
              · go_wp2_with (first
                  | (go_at_call 11; refine HE0.out.mono ?_; rintro e w2 ⟨g1, rfl, hg1, b2⟩; obtain ⟨ga, gc, rfl, -, -⟩ := hg1.shape; have HO2 := hide (HOt.out.kept b2); have HB2 := hide (HB.out.trans (b2.mono HB.out.size)); have HC0 := hide (components_fit (hg1.list hlen) HFt.out); clear HE0 hg1 b2 HB HOt)
                  | (go_at_call 10; refine HC0.out.mono ?_; rintro e w3 ⟨tv, H, reps, M, rfl, hc, b3⟩; obtain ⟨ta, tc, htv, -, -, -⟩ := own_shape6 hc.told.own; subst htv; have HCa := hide hc; have HO3 := hide (HO2.out.kept b3); have HB3 := hide (HB2.out.trans (b3.mono HB2.out.size)); have HC1 := hide (components_fit (HO2.out.kept b3) HFo.out); clear HC0 hc b3 HB2 HO2)
                  | (go_at_call 10; refine HC1.out.mono ?_; rintro e w4 ⟨tv', H', reps', M', rfl, hc, b4⟩; obtain ⟨ta', tc', htv, -, -, -⟩ := own_shape6 hc.told.own; subst htv; rw [same_lnkT HMs.out] at hc; have hre := greedy_uniq (home_uniq HCa.out.least hc.least) HCa.out.greedy hc.greedy HCa.out.all hc.all; subst hre; have HCa4 := hide (HCa.out.kept b4); have HCb := hide hc; have HO4 := hide (HO3.out.kept b4); have HB4 := hide (HB3.out.trans (b4.mono HB3.out.size)); have HE1 := hide (edges_any (HL.out.kept (HB3.out.trans (b4.mono HB3.out.size)))); have hrl : reps.length ≤ k := (nd_len HCa.out.greedy.nd (fun p hp => (HCa.out.greedy.rep p hp).1)); have hr0 : (0 : Int) < (k : Int) → ¬ (reps.length : Int) = 0 := (fun h0 e => by have h1 := dn_all HCa.out.least HCa.out.all 0 (by omega); have h2 : reps = [] := List.eq_nil_of_length_eq_zero (by omega); rw [h2] at h1; simp [dn] at h1); have hrl2 : (reps.length : Int) ≤ (k : Int) := (by omega); have hr1 := hr0 hkp; have hr2 : ¬ reps.length = 0 := (by omega); have hr3 : ¬ reps = [] := (fun e => hr2 (by rw [e]; rfl)); have hr4 : ((reps.length : Int) == 0) = false := (by simpa using hr3); clear hr0 HC1 hc b4 HB3 HO3 HCa)
                  | (go_at_call 11; refine HE1.out.mono ?_; rintro e w5 ⟨g1, rfl, hg1, b5⟩; obtain ⟨ga, gc, rfl, -, -⟩ := hg1.shape; have HO5 := hide (HO4.out.kept b5); have HB5 := hide (HB4.out.trans (b5.mono HB4.out.size)); have HCa5 := hide (HCa4.out.kept b5); have HCb5 := hide (HCb.out.kept b5); have HV0 := hide (levels_good (hg1.list hlen) HFt.out HBd.out); clear HE1 hg1 b5 HB4 HO4 HCa4 HCb)
                  | (go_at_call 13; refine HV0.out.mono ?_; rintro e w6 ⟨gx, X, rfl, r6, x6, b6⟩; have HB6 := hide (HB5.out.trans (b6.mono HB5.out.size)); have HCa6 := hide (HCa5.out.kept b6); have HCb6 := hide (HCb5.out.kept b6); have HX6 := hide x6; have HR6 := hide r6; have HV1 := hide (levels_good (HO5.out.kept b6) HFo.out HBo.out); clear HV0 b6 r6 x6 HB5 HO5 HCa5 HCb5)
                  | (go_at_call 13; refine HV1.out.mono ?_; rintro e w7 ⟨gy, Y, rfl, r7, x7, b7⟩; have HB7 := hide (HB6.out.trans (b7.mono HB6.out.size)); have HQ := hide (equalLists_any (ca := tc) (cb := tc') (by omega) (comps_same hk (HCa6.out.kept b7) (HCb6.out.kept b7))); rw [same_lnkT HMs.out, same_lnkN HMs.out] at x7; have hxy : (List.range k).map Y = (List.range k).map X := (List.map_congr_left (fun p hp => (x7.1.uniq HX6.out.1 p (List.mem_range.1 hp)))); have HU7 := hide (row_has (HR6.out.of_block (b7.block _ HR6.out.lt)) (fun i hi => ⟨by have := HX6.out.1.nn i hi; omega, by have := HX6.out.2 i hi; omega⟩) hk); have hv7 := row_has r7 (fun i hi => ⟨by have := x7.1.nn i hi; omega, by have := x7.2 i hi; omega⟩) hk; rw [hxy] at hv7; have HV7 := hide hv7; clear HV1 b7 r7 x7 hxy hv7 HB6 HCa6 HCb6 HR6 HX6)
                  | (go_at_call 14; refine HQ.out.mono ?_; rintro e w8 ⟨rfl, b8⟩; have HB8 := hide (HB7.out.trans (b8.mono HB7.out.size)); have HQ2 := hide (equalInts_any (HU7.out.kept b8) (HV7.out.kept b8)); clear HQ b8 HB7 HU7 HV7)
                  | (go_at_call 15; refine HQ2.out.mono ?_; rintro e w9 ⟨rfl, b9⟩; have HB9 := hide (HB8.out.trans (b9.mono HB8.out.size)); clear HQ2 b9 HB8))
                go_ret
                exact ⟨rfl, HB9.out⟩
              · go_wp2_with (first
                  | (go_at_call 11; refine HE0.out.mono ?_; rintro e w2 ⟨g1, rfl, hg1, b2⟩; obtain ⟨ga, gc, rfl, -, -⟩ := hg1.shape; have HO2 := hide (HOt.out.kept b2); have HB2 := hide (HB.out.trans (b2.mono HB.out.size)); have HC0 := hide (components_fit (hg1.list hlen) HFt.out); clear HE0 hg1 b2 HB HOt)
                  | (go_at_call 10; refine HC0.out.mono ?_; rintro e w3 ⟨tv, H, reps, M, rfl, hc, b3⟩; obtain ⟨ta, tc, htv, -, -, -⟩ := own_shape6 hc.told.own; subst htv; have HCa := hide hc; have HO3 := hide (HO2.out.kept b3); have HB3 := hide (HB2.out.trans (b3.mono HB2.out.size)); have HC1 := hide (components_fit (HO2.out.kept b3) HFo.out); clear HC0 hc b3 HB2 HO2)
                  | (go_at_call 10; refine HC1.out.mono ?_; rintro e w4 ⟨tv', H', reps', M', rfl, hc, b4⟩; obtain ⟨ta', tc', htv, -, -, -⟩ := own_shape6 hc.told.own; subst htv; rw [same_lnkT HMs.out] at hc; have hre := greedy_uniq (home_uniq HCa.out.least hc.least) HCa.out.greedy hc.greedy HCa.out.all hc.all; subst hre; have HCa4 := hide (HCa.out.kept b4); have HCb := hide hc; have HO4 := hide (HO3.out.kept b4); have HB4 := hide (HB3.out.trans (b4.mono HB3.out.size)); have HE1 := hide (edges_any (HL.out.kept (HB3.out.trans (b4.mono HB3.out.size)))); have hrl : reps.length ≤ k := (nd_len HCa.out.greedy.nd (fun p hp => (HCa.out.greedy.rep p hp).1)); have hr0 : (0 : Int) < (k : Int) → ¬ (reps.length : Int) = 0 := (fun h0 e => by have h1 := dn_all HCa.out.least HCa.out.all 0 (by omega); have h2 : reps = [] := List.eq_nil_of_length_eq_zero (by omega); rw [h2] at h1; simp [dn] at h1); have hrl2 : (reps.length : Int) ≤ (k : Int) := (by omega); clear hr0 HC1 hc b4 HB3 HO3 HCa)
                  | (go_at_call 11; refine HE1.out.mono ?_; rintro e w5 ⟨g1, rfl, hg1, b5⟩; obtain ⟨ga, gc, rfl, -, -⟩ := hg1.shape; have HO5 := hide (HO4.out.kept b5); have HB5 := hide (HB4.out.trans (b5.mono HB4.out.size)); have HCa5 := hide (HCa4.out.kept b5); have HCb5 := hide (HCb.out.kept b5); have HV0 := hide (levels_good (hg1.list hlen) HFt.out HBd.out); clear HE1 hg1 b5 HB4 HO4 HCa4 HCb)
                  | (go_at_call 13; refine HV0.out.mono ?_; rintro e w6 ⟨gx, X, rfl, r6, x6, b6⟩; have HB6 := hide (HB5.out.trans (b6.mono HB5.out.size)); have HCa6 := hide (HCa5.out.kept b6); have HCb6 := hide (HCb5.out.kept b6); have HX6 := hide x6; have HR6 := hide r6; have HV1 := hide (levels_good (HO5.out.kept b6) HFo.out HBo.out); clear HV0 b6 r6 x6 HB5 HO5 HCa5 HCb5)
                  | (go_at_call 13; refine HV1.out.mono ?_; rintro e w7 ⟨gy, Y, rfl, r7, x7, b7⟩; have HB7 := hide (HB6.out.trans (b7.mono HB6.out.size)); have HQ := hide (equalLists_any (ca := tc) (cb := tc') (by omega) (comps_same hk (HCa6.out.kept b7) (HCb6.out.kept b7))); rw [same_lnkT HMs.out, same_lnkN HMs.out] at x7; have hxy : (List.range k).map Y = (List.range k).map X := (List.map_congr_left (fun p hp => (x7.1.uniq HX6.out.1 p (List.mem_range.1 hp)))); have HU7 := hide (row_has (HR6.out.of_block (b7.block _ HR6.out.lt)) (fun i hi => ⟨by have := HX6.out.1.nn i hi; omega, by have := HX6.out.2 i hi; omega⟩) hk); have hv7 := row_has r7 (fun i hi => ⟨by have := x7.1.nn i hi; omega, by have := x7.2 i hi; omega⟩) hk; rw [hxy] at hv7; have HV7 := hide hv7; clear HV1 b7 r7 x7 hxy hv7 HB6 HCa6 HCb6 HR6 HX6)
                  | (go_at_call 14; refine HQ.out.mono ?_; rintro e w8 ⟨rfl, b8⟩; have HB8 := hide (HB7.out.trans (b8.mono HB7.out.size)); have HQ2 := hide (equalInts_any (HU7.out.kept b8) (HV7.out.kept b8)); clear HQ b8 HB7 HU7 HV7)
                  | (go_at_call 15; refine HQ2.out.mono ?_; rintro e w9 ⟨rfl, b9⟩; have HB9 := hide (HB8.out.trans (b9.mono HB8.out.size)); clear HQ2 b9 HB8))
                go_ret
                exact ⟨rfl, HB9.out⟩
end Go.Proofs.Ytkbicgkocmibfaa
