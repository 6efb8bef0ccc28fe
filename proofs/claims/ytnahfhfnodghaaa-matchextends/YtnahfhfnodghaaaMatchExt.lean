/- What match.Extend answers. -/
import Derived.Test.YtnahfhfnodghaaaMatchWide
namespace Go.Proofs.Ytnahfhfnodghaaa
set_option linter.unusedSimpArgs false
set_option linter.unusedVariables false
open Go.RowKit

theorem cell_far {w : World} {a p : Addr} {v u : Value} (h : w.cell? p = some u) (hne : p.block ≠ a.block) : (w.setCell a v).cell? p = some u := by
  unfold World.cell? at *
  rw [Below.heap_setCell _ _ _ _ hne]
  exact h

theorem startL_I64 {sub : List Int} {n : Nat} (h : ∀ x ∈ sub, I64 x) : ∀ x ∈ startL sub n, I64 x := by
  intro x hx
  obtain ⟨i, _, rfl⟩ := List.mem_map.1 hx
  unfold startP
  split
  · rename_i y hy
    split
    · exact ⟨by omega, by omega⟩
    · exact h y (List.mem_of_getElem? hy)
  · exact ⟨by omega, by omega⟩

set_option maxRecDepth 100000 in
set_option maxHeartbeats 2000000 in
theorem extend_any {w : World} {q : Int} {pa aa sa : Option Addr} {pl pc al ac sl sc : Nat} {ss : List Slt} {args sub : List Int} (hp : IsSlts w pa pl ss) (ha : IsNums w aa al args) (hs : IsNums w sa sl sub) :
    Calls Try.prog 10 #[.agg #[.int .i64 q, .slice pa pl pc], .slice aa al ac, .slice sa sl sc] w fun e w' => ListRes w w' (extendP ss args sub) e ∧ Below w.heap.size w w' := by
  have HP := hide hp
  have HA := hide ha
  have HS := hide hs
  have hz := hp.2.1
  have hz1 := ha.2.1
  have hz2 := hs.2.1
  have HB0 : Hid (Below w.heap.size w (w.alloc (.cells #[.int .i64 q, .slice pa pl pc] 24))) := (Below.refl _ _).alloc (Nat.le_refl _) _
  clear hp ha hs
  by_cases hl : al = pl
  · subst hl
    have HCt := hide (containsSlot (cap := pc) (HP.out.kept HB0.out))
    cases hns : ss.any noSlot with
    | true =>
      have HR := hide (extend_noSlot (args := args) (sub := sub) (by rw [HP.out.1, HA.out.1]) hns)
      rw [hns] at HCt
      go_enter Try.func10, Try.ntmps10
      go_wp2_with (go_at_call 22; refine HCt.out.mono ?_; rintro e w1 ⟨rfl, h1⟩; have HB1 := hide (HB0.out.trans (h1.mono HB0.out.size)); clear h1)
      go_ret2
      exact ⟨.inl ⟨HR.out, rfl⟩, HB1.out⟩
    | false =>
      have HR := hide (extend_run (args := args) (sub := sub) (by rw [HP.out.1, HA.out.1]) hns)
      rw [hns] at HCt
      have c0 : (w.alloc (.cells #[.int .i64 q, .slice pa al pc] 24)).cell? ⟨w.heap.size, 0, none⟩ = some (.int .i64 q) := by simp
      have c1 : (w.alloc (.cells #[.int .i64 q, .slice pa al pc] 24)).cell? ⟨w.heap.size, 1, none⟩ = some (.slice pa al pc) := by simp
      have HNs := hide hns
      clear hns
      go_enter Try.func10, Try.ntmps10
      go_wp2_with (go_at_call 22; refine HCt.out.mono ?_; rintro e w1 ⟨rfl, h1⟩; have d0 := kept_cell h1 c0; have d1 := kept_cell h1 c1; have HB1 := hide (HB0.out.trans (h1.mono HB0.out.size)); clear h1)
      refine (widened_any (HP.out.kept HB1.out) (HS.out.kept HB1.out) HNs.out).mono ?_
      rintro e w2 ⟨g, rfl, hg, hA, h1⟩
      have d0' := kept_cell h1 d0
      have d1' := kept_cell h1 d1
      have HB2 := hide (HB1.out.trans (h1.mono HB1.out.size))
      have HG : Hid (w.heap.size ≤ g) := Nat.le_trans HB1.out.size hg
      have HA2 := hide hA
      clear h1 hA hg d0 d1 c0 c1 HCt HB0
      rw [← HS.out.1] at HA2 ⊢
      obtain ⟨W, hW⟩ : ∃ W, widthP ss sub.length = W := ⟨_, rfl⟩
      rw [hW] at HA2 HR ⊢
      have HWl : Hid (W ≤ 17592186044416) := by
        rw [← hW]
        exact Nat.le_trans (widthP_le ss sub.length (by simpa using HNs.out)) (Nat.max_le.2 ⟨by rw [HS.out.1]; omega, by decide⟩)
      have HWv : Hid (∀ s ∈ ss, s.v = true → s.n.toNat < W) := fun s hs hv => by rw [← hW]; exact widthP_var ss _ hs hv
      clear hW
      go_wp2
      -- LOOP
      go_loopw [9, 10, 11, 29] (fun _ _ _ i wl => ∃ k : Nat, k ≤ al ∧ i = .int .i64 k ∧ Hid (∃ cur : List Int, ArE wl g cur ∧ cur.length = W ∧ (∀ x ∈ cur, I64 x) ∧ runP (ss.zip args) (startL sub W) = runP ((ss.zip args).drop k) cur) ∧ Hid (Below w.heap.size w wl)) (fun _ _ _ i _ => al - (intOf i).toNat)
      case atStart => exact ⟨0, by omega, rfl, ⟨_, HA2.out, startL_len _ _, startL_I64 HS.out.2.2.1, rfl⟩, HB2.out⟩
      case round =>
        obtain ⟨k, hk, rfl, HC, HB⟩ := hrel
        obtain ⟨cur, hCA, hCl, hCi, hCr⟩ := HC.out
        by_cases hlt : k < al
        · have hi : (k : Int) < (al : Int) := by omega
          have hi0 : (0 : Int) ≤ (k : Int) := by omega
          obtain ⟨b1, o1, rfl, hr1⟩ := HP.out.2.2.2 (by omega)
          obtain ⟨b2, o2, rfl, hr2⟩ := HA.out.2.2.2 (by omega)
          obtain ⟨s, hs⟩ : ∃ s, ss[k]? = some s := ⟨_, List.getElem?_eq_getElem (by rw [HP.out.1]; omega)⟩
          obtain ⟨a, ha⟩ : ∃ a, args[k]? = some a := ⟨_, List.getElem?_eq_getElem (by rw [HA.out.1]; omega)⟩
          obtain ⟨x0, x1⟩ := (hr1 k s hs).kept HB.out
          have HSn := hide (HP.out.2.2.1 s (List.mem_of_getElem? hs))
          have HWs := hide (HWv.out s (List.mem_of_getElem? hs))
          have HAi := hide (HA.out.2.2.1 a (List.mem_of_getElem? ha))
          have hns : noSlot s = false := by have := HNs.out; simp only [List.any_eq_false, Bool.not_eq_true] at this; exact this s (List.mem_of_getElem? hs)
          have HDr : Hid ((ss.zip args).drop k = (s, a) :: (ss.zip args).drop (k + 1)) := by
            show _ = _
            have hz : (ss.zip args)[k]? = some (s, a) := by rw [List.getElem?_zip_eq_some]; exact ⟨hs, ha⟩
            rw [List.drop_eq_getElem_cons (List.getElem?_eq_some_iff.1 hz).1, (List.getElem?_eq_some_iff.1 hz).2]
          have HRun : Hid (runP (ss.zip args) (startL sub W) = match stepP cur (s, a) with | some c => runP ((ss.zip args).drop (k + 1)) c | none => none) := by
            show _ = _
            rw [hCr, HDr.out, runP]
            cases stepP cur (s, a) <;> rfl
          have HBx : Hid (Below w.heap.size w (wr.alloc (.cells #[.bool s.v, .int .i64 s.n] 43))) := HB.out.alloc HB.out.size _
          have y0 := kept_cell HBx.out (hr2 k a ha)
          have HC1 : Hid (ArE (wr.alloc (.cells #[.bool s.v, .int .i64 s.n] 43)) g cur) := hCA.kept ((Below.refl _ _).alloc (Nat.le_refl _) _)
          have HGlt := hide hCA.lt
          have HCl0 := hide hCl
          have HCi0 := hide hCi
          clear hr1 hr2 hs ha hCA hCl hCi hCr HC HDr
          obtain ⟨sv, sn⟩ := s
          simp only at *
          simp only [noSlot, Bool.or_eq_false_iff, decide_eq_false_iff_not] at hns
          obtain ⟨hn0, hn16⟩ := hns
          clear hn16
          cases sv with
          | false =>
            have HC2 := HC1
            have HCl := HCl0
            have HCi := HCi0
            have HBv := HBx
            have HSt : Hid (stepP cur (⟨false, sn⟩, a) = if a < 0 ∨ idP ⟨false, sn⟩ cur ≠ a then none else some cur) := by show _ = _; simp [stepP]
            clear HC1 HCl0 HCi0 HBx HWs
            have HId := hide (idOf_any (s := ⟨false, sn⟩) (cap := W) HSn.out (show IsNums (wr.alloc (.cells #[.bool false, .int .i64 sn] 43)) (some ⟨g, 0, none⟩) W cur from by have := HC2.out.nums HCi.out (by rw [HCl.out]; have := HWl.out; omega); rw [HCl.out] at this; exact this))
            unfold Slt.val at HId
            by_cases ha0 : a < 0
            · have HRn : Hid (extendP ss args sub = none) := by show _ = _; rw [HR.out, HRun.out, HSt.out, if_pos (.inl ha0)]
              clear HId HSt
              go_wp2
              go_ret2
              exact ⟨.inl ⟨HRn.out, rfl⟩, HBv.out⟩
            · by_cases hia : idP ⟨false, sn⟩ cur = a
              · have HRn : Hid (extendP ss args sub = runP ((ss.zip args).drop (k + 1)) cur) := by show _ = _; rw [HR.out, HRun.out, HSt.out, if_neg (by rw [hia]; omega)]
                have hia2 : (idP ⟨false, sn⟩ cur != a) = false := by simpa using hia
                clear HSt hia
                go_wp2_with (go_at_call 25; refine HId.out.mono ?_; rintro e w4 ⟨rfl, h4⟩; have HC4 := hide (HC2.out.kept h4); have HB4 := hide (HBv.out.trans (h4.mono HBv.out.size)); clear h4)
                go_roundw
                case rel => exact ⟨k + 1, by omega, by go_num, ⟨_, HC4.out, HCl.out, HCi.out, by rw [← HRn.out]; exact HR.out.symm⟩, HB4.out⟩
                case measure => simp [intOf]; omega
              · have HRn : Hid (extendP ss args sub = none) := by show _ = _; rw [HR.out, HRun.out, HSt.out, if_pos (.inr hia)]
                have hia2 : (idP ⟨false, sn⟩ cur != a) = true := by simpa using hia
                clear HSt hia
                go_wp2_with (go_at_call 25; refine HId.out.mono ?_; rintro e w4 ⟨rfl, h4⟩; have HB4 := hide (HBv.out.trans (h4.mono HBv.out.size)); clear h4)
                go_ret2
                exact ⟨.inl ⟨HRn.out, rfl⟩, HB4.out⟩
          | true =>
            obtain ⟨m, rfl⟩ : ∃ m : Nat, sn = m := ⟨sn.toNat, by omega⟩
            have hmW : m < W := by have := HWs.out rfl; simpa using this
            have hmW1 : (m : Int) < (W : Int) := by omega
            have hm0 : (0 : Int) ≤ (m : Int) := by omega
            obtain ⟨x, hx⟩ : ∃ x, cur[m]? = some x := ⟨_, List.getElem?_eq_getElem (by rw [HCl0.out]; exact hmW)⟩
            have c0 := HC1.out.at hx
            have f0 := HC1.out.fz m
            have HIx := hide (idP_var (s := ⟨true, (m : Int)⟩) rfl rfl hx)
            have HXm := hide hx
            have hgn : wr.heap.size ≠ g := by have := HGlt.out; omega
            have z0 := cell_far (v := .int .i64 a) (a := ⟨g, m, none⟩) (show (wr.alloc (.cells #[.bool true, .int .i64 (m : Int)] 43)).cell? ⟨wr.heap.size, 0, none⟩ = some (.bool true) from by simp) hgn
            have z1 := cell_far (v := .int .i64 a) (a := ⟨g, m, none⟩) (show (wr.alloc (.cells #[.bool true, .int .i64 (m : Int)] 43)).cell? ⟨wr.heap.size, 1, none⟩ = some (.int .i64 (m : Int)) from by simp) hgn
            clear hx HWs hgn
            by_cases hx0 : x < 0
            · have HC2 := hide (HC1.out.set m a)
              have HCl : Hid ((cur.set m a).length = W) := by show _ = _; rw [List.length_set]; exact HCl0.out
              have HCi : Hid (∀ y ∈ cur.set m a, I64 y) := fun y hy => by
                rcases List.mem_or_eq_of_mem_set hy with h | h
                · exact HCi0.out y h
                · rw [h]; exact HAi.out
              have HBv : Hid (Below w.heap.size w ((wr.alloc (.cells #[.bool true, .int .i64 (m : Int)] 43)).setCell ⟨g, m, none⟩ (.int .i64 a))) := HBx.out.setCell (by have := HG.out; simp; omega) _
              have HSt : Hid (stepP cur (⟨true, (m : Int)⟩, a) = if a < 0 ∨ idP ⟨true, (m : Int)⟩ (cur.set m a) ≠ a then none else some (cur.set m a)) := by
                show _ = _
                have hid : idP ⟨true, (m : Int)⟩ cur < 0 := by rw [HIx.out, if_pos hx0]; decide
                simp only [stepP, hid, and_self, if_true, Int.toNat_natCast]
              clear HC1 HCl0 HCi0 HBx HIx
              have HId := hide (idOf_any (s := ⟨true, (m : Int)⟩) (cap := W) HSn.out (show IsNums ((wr.alloc (.cells #[.bool true, .int .i64 (m : Int)] 43)).setCell ⟨g, m, none⟩ (.int .i64 a)) (some ⟨g, 0, none⟩) W (cur.set m a) from by have := HC2.out.nums HCi.out (by rw [HCl.out]; have := HWl.out; omega); rw [HCl.out] at this; exact this))
              unfold Slt.val at HId
              by_cases ha0 : a < 0
              · have HRn : Hid (extendP ss args sub = none) := by show _ = _; rw [HR.out, HRun.out, HSt.out, if_pos (.inl ha0)]
                clear HId HSt
                go_wp2
                go_ret2
                exact ⟨.inl ⟨HRn.out, rfl⟩, HBv.out⟩
              · by_cases hia : idP ⟨true, (m : Int)⟩ (cur.set m a) = a
                · have HRn : Hid (extendP ss args sub = runP ((ss.zip args).drop (k + 1)) (cur.set m a)) := by show _ = _; rw [HR.out, HRun.out, HSt.out, if_neg (by rw [hia]; omega)]
                  have hia2 : (idP ⟨true, (m : Int)⟩ (cur.set m a) != a) = false := by simpa using hia
                  clear HSt hia
                  go_wp2_with (go_at_call 25; refine HId.out.mono ?_; rintro e w4 ⟨rfl, h4⟩; have HC4 := hide (HC2.out.kept h4); have HB4 := hide (HBv.out.trans (h4.mono HBv.out.size)); clear h4)
                  go_roundw
                  case rel => exact ⟨k + 1, by omega, by go_num, ⟨_, HC4.out, HCl.out, HCi.out, by rw [← HRn.out]; exact HR.out.symm⟩, HB4.out⟩
                  case measure => simp [intOf]; omega
                · have HRn : Hid (extendP ss args sub = none) := by show _ = _; rw [HR.out, HRun.out, HSt.out, if_pos (.inr hia)]
                  have hia2 : (idP ⟨true, (m : Int)⟩ (cur.set m a) != a) = true := by simpa using hia
                  clear HSt hia
                  go_wp2_with (go_at_call 25; refine HId.out.mono ?_; rintro e w4 ⟨rfl, h4⟩; have HB4 := hide (HBv.out.trans (h4.mono HBv.out.size)); clear h4)
                  go_ret2
                  exact ⟨.inl ⟨HRn.out, rfl⟩, HB4.out⟩
            · have HC2 := HC1
              have HCl := HCl0
              have HCi := HCi0
              have HBv := HBx
              have HSt : Hid (stepP cur (⟨true, (m : Int)⟩, a) = if a < 0 ∨ idP ⟨true, (m : Int)⟩ cur ≠ a then none else some cur) := by
                show _ = _
                have hid : ¬ idP ⟨true, (m : Int)⟩ cur < 0 := by rw [HIx.out, if_neg hx0]; exact hx0
                simp only [stepP, hid, and_false, if_false]
              clear HC1 HCl0 HCi0 HBx HIx
              have HId := hide (idOf_any (s := ⟨true, (m : Int)⟩) (cap := W) HSn.out (show IsNums (wr.alloc (.cells #[.bool true, .int .i64 (m : Int)] 43)) (some ⟨g, 0, none⟩) W cur from by have := HC2.out.nums HCi.out (by rw [HCl.out]; have := HWl.out; omega); rw [HCl.out] at this; exact this))
              unfold Slt.val at HId
              by_cases ha0 : a < 0
              · have HRn : Hid (extendP ss args sub = none) := by show _ = _; rw [HR.out, HRun.out, HSt.out, if_pos (.inl ha0)]
                clear HId HSt
                go_wp2
                go_ret2
                exact ⟨.inl ⟨HRn.out, rfl⟩, HBv.out⟩
              · by_cases hia : idP ⟨true, (m : Int)⟩ cur = a
                · have HRn : Hid (extendP ss args sub = runP ((ss.zip args).drop (k + 1)) cur) := by show _ = _; rw [HR.out, HRun.out, HSt.out, if_neg (by rw [hia]; omega)]
                  have hia2 : (idP ⟨true, (m : Int)⟩ cur != a) = false := by simpa using hia
                  clear HSt hia
                  go_wp2_with (go_at_call 25; refine HId.out.mono ?_; rintro e w4 ⟨rfl, h4⟩; have HC4 := hide (HC2.out.kept h4); have HB4 := hide (HBv.out.trans (h4.mono HBv.out.size)); clear h4)
                  go_roundw
                  case rel => exact ⟨k + 1, by omega, by go_num, ⟨_, HC4.out, HCl.out, HCi.out, by rw [← HRn.out]; exact HR.out.symm⟩, HB4.out⟩
                  case measure => simp [intOf]; omega
                · have HRn : Hid (extendP ss args sub = none) := by show _ = _; rw [HR.out, HRun.out, HSt.out, if_pos (.inr hia)]
                  have hia2 : (idP ⟨true, (m : Int)⟩ cur != a) = true := by simpa using hia
                  clear HSt hia
                  go_wp2_with (go_at_call 25; refine HId.out.mono ?_; rintro e w4 ⟨rfl, h4⟩; have HB4 := hide (HBv.out.trans (h4.mono HBv.out.size)); clear h4)
                  go_ret2
                  exact ⟨.inl ⟨HRn.out, rfl⟩, HB4.out⟩
        · obtain rfl : k = al := by omega
          have hi : ¬ (k : Int) < (k : Int) := by omega
          have HRn : Hid (extendP ss args sub = some cur) := by
            show _ = _
            rw [HR.out, hCr, List.drop_eq_nil_of_le (by rw [List.length_zip, HP.out.1, HA.out.1]; omega)]
            rfl
          have HCA := hide hCA
          have HCl := hide hCl
          have HCi := hide hCi
          clear hCA hCl hCi hCr HC
          go_wp2
          go_ret2
          refine ⟨.inr ⟨cur, some ⟨g, 0, none⟩, W, HRn.out, by rw [HCl.out]; rfl, HCA.out.nums HCi.out (by rw [HCl.out]; have := HWl.out; omega), by rw [HCl.out]; exact Nat.le_refl _, (fun h => by cases h), fun ad h => by cases h; exact HG.out⟩, HB.out⟩
      -- POOL
  · have HR := hide (extend_len (ss := ss) (args := args) (sub := sub) (by rw [HP.out.1, HA.out.1]; exact Ne.symm hl))
    have hl1 : ¬ ((al : Int) = (pl : Int)) := by omega
    have hl2 : ((al : Int) != (pl : Int)) = true := by simpa using hl1
    go_enter Try.func10, Try.ntmps10
    go_wp2
    go_ret2
    exact ⟨.inl ⟨HR.out, rfl⟩, HB0.out⟩
end Go.Proofs.Ytnahfhfnodghaaa
