/- Copy. -/
import Derived.Test.YtbmefnpilgdejaaStoreLaw10
namespace Go.Proofs.Ytbmefnpilgdejaa
set_option linter.unusedSimpArgs false
set_option linter.unusedVariables false
open Go.RowKit Go.Maps

set_option maxRecDepth 100000 in
set_option maxHeartbeats 4000000 in
theorem copy_st {w : World} {p : Nat} {own : Own} {ar : List Int} {C : List (List Int)} {M : Nat} (h : St w p own ar C M) (hM : M < 68719476736) (har : ar ≠ []) (hbad : ar.any badAr = false) :
    Calls Try.prog 17 #[.pointer (some ⟨p, 0, none⟩)] w fun e w' => ∃ p2, e = .returned (.pointer (some ⟨p2, 0, none⟩)) ∧ ∃ own2, St w' p2 own2 ar C (8 * C.length) ∧ TagsFrom own2 w.heap.size ∧ Below w.heap.size w w' := by
  have HS := hide h
  obtain ⟨L, S, hR, hSn, hlim⟩ := h
  obtain ⟨ao, ac, hva, har2⟩ := hR.ar
  rw [hSn.eAr] at hva har2
  obtain ⟨ba, oa, rfl, -, hac⟩ := har2.resolve_left har
  have c0 := hR.c0
  rw [hva] at c0
  obtain ⟨vr, cr, hvr, -, -⟩ := hR.rows.form
  have c1 := hR.c1
  rw [hvr, hSn.eC] at c1
  have hI : IsInts w (some ⟨ba, oa, none⟩) ar.length ar := ⟨rfl, by have := hSn.arL; omega, fun x hx => by have := hSn.arI x hx; exact ⟨by omega, by omega⟩, fun _ => ⟨ba, oa, rfl, hac⟩⟩
  have HE := hide (empty_any (cap := ac) hI (fun e => by cases e))
  have HAl := hide (And.intro hSn.arL hbad)
  have HR := hide hR
  have HSn := hide hSn
  obtain ⟨N, hN⟩ : ∃ N, C.length = N := ⟨_, rfl⟩
  rw [hN] at c1 ⊢
  have HN := hide hN
  have hNM : N ≤ M := by have := hSn.num.1; omega
  have HVr : Hid (L.vr = .slice vr N cr) := by show _ = _; rw [hvr, hSn.eC, hN]
  obtain ⟨al, hal⟩ : ∃ al, ar.length = al := ⟨_, rfl⟩
  rw [hal] at c0 HE
  clear hR hSn hlim hva har2 hac hvr hI hN hal har hbad
  go_enter Try.func17, Try.ntmps17
  go_wp2_with fail
  refine HE.out.mono ?_
  rintro e w2 ⟨v2, rfl, f2⟩
  obtain ⟨p2, own2, rfl, s2, t2, b2⟩ := f2.st HAl.out.1 HAl.out.2
  have d1 := kept_cell b2 c1
  have H2 : Hid (∃ own2, St w2 p2 own2 ar (C.take 0) (8 * 0) ∧ TagsFrom own2 w.heap.size) := ⟨own2, s2, t2⟩
  have HB2 := hide b2
  have hu := Try.underlying54
  clear f2 s2 t2 b2 c0 c1 HE
  go_wp2
  clear d1
  go_loopw [5, 18] (fun _ i wl => ∃ k : Nat, k ≤ N ∧ i = .int .i64 k ∧ Hid (∃ own2, St wl p2 own2 ar (C.take k) (8 * k) ∧ TagsFrom own2 w.heap.size) ∧ Hid (Below w.heap.size w wl)) (fun _ i _ => N - (intOf i).toNat)
  case atStart => exact ⟨0, by omega, rfl, H2.out, HB2.out⟩
  case round =>
    clear H2 HB2
    obtain ⟨k, hk, rfl, HSt, HB⟩ := hrel
    by_cases hlt : k < N
    · have hi : (k : Int) < (N : Int) := by omega
      have hi0 : (0 : Int) ≤ (k : Int) := by omega
      obtain ⟨c, hc⟩ : ∃ c, C[k]? = some c := ⟨_, List.getElem?_eq_getElem (by rw [HN.out]; omega)⟩
      obtain ⟨g, cap, hg, hrg, -⟩ := St.range HR.out HSn.out hc
      rw [HVr.out, Value.slice.injEq] at hg
      obtain ⟨rfl, -, -⟩ := hg
      have hok := HSn.out.ok c (List.mem_of_getElem? hc)
      obtain ⟨h9, hI9, -⟩ := hok.len HSn.out.arI
      have HRg : Hid (wr.rangeAt g (k * 9) (ints c)) := fun j v hv => kept_cell HB.out (hrg j v hv)
      have hinf : (Try.prog.info? 54).map (·.size) = some (ints c).length := by rw [List.length_map, h9]; kernel_rfl
      have hinf2 : (Try.prog.info? 54).map (·.size) = some (ints c).toArray.size := by rw [List.size_toArray, List.length_map, h9]; kernel_rfl
      have HAll := hide (all_oneCell_toArray (cs := ints c) (fun v hv => by obtain ⟨x, _, rfl⟩ := List.mem_map.1 hv; rfl))
      have HTh : Hid (∀ u : World, (u.alloc (.cells zeros9.toArray 54)).there u.heap.size 0 (ints c).toArray.size) := fun u => there9 u (by rw [List.size_toArray, List.length_map, h9])
      have HNm : Hid (c ∉ C.take k) := fun hm => by
        obtain ⟨j, hj⟩ := List.mem_iff_getElem?.1 hm
        have hjk : j < k := by have := (List.getElem?_eq_some_iff.1 hj).1; rw [List.length_take] at this; omega
        rw [List.getElem?_take_of_lt hjk] at hj
        have := (List.getElem?_inj (by rw [HN.out]; omega) HSn.out.nd).1 (hj.trans hc.symm)
        omega
      have HTk : Hid (C.take (k + 1) = C.take k ++ [c]) := by show _ = _; rw [List.take_add_one, hc]; rfl
      have HOk := hide hok
      clear hc hrg hok h9 hI9
      go_upto_region 7 with
        (first
          | ((with_reducible refine wpList_load_mid ?_ 54 (.tmp 20) ?_ g (k * 9) ?_ (ints c) _ HRg.out hu ?_ hinf ?_); rfl; rfl; rfl; rfl)
          | ((with_reducible refine wpList_store_mid ?_ 54 (.tmp 5) (.tmp 21) ?_ wr.heap.size 0 (ints c).toArray ?_ ?_ (HTh.out wr) hinf2 HAll.out ?_); rfl; rfl; rfl; rfl))
      simp only [Act.put]
      obtain ⟨WB, hWB⟩ : ∃ WB, WB = (wr.alloc (.cells zeros9.toArray 54)).setCells wr.heap.size 0 (ints c) := ⟨_, rfl⟩
      have hOA := setCells_only wr.heap.size (ints c) 0 (wr.alloc (.cells zeros9.toArray 54))
      have hBW : Below wr.heap.size wr WB := by
        rw [hWB]
        have h1 : Below wr.heap.size wr (wr.alloc (.cells zeros9.toArray 54)) := (Below.refl _ _).alloc (Nat.le_refl _) _
        exact h1.trans (hOA.below h1.size (fun k hk e => by omega))
      have HRB : Hid (WB.rangeAt wr.heap.size 0 (ints c)) := by
        show World.rangeAt _ _ _ _
        rw [hWB]; exact World.rangeAt_setCells_same _ _ _ _ (by have := HTh.out wr; rw [List.size_toArray] at this; exact this)
      obtain ⟨own3, s3, t3⟩ := HSt.out
      have HBr := hide (bring_st (s3.below hBW) (by omega) HOk.out HNm.out)
      have HT3 := hide t3
      have HWB := hide (HB.out.trans (hBW.mono HB.out.size))
      rw [← hWB]
      clear hWB hOA hBW s3 t3 HSt
      go_wp2_with
        (first
          | ((with_reducible refine wpList_load_mid ?_ 54 (.tmp 5) ?_ wr.heap.size 0 ?_ (ints c) _ HRB.out hu ?_ hinf ?_); rfl; rfl; rfl; rfl)
          | (go_at_call 25; refine HBr.out.mono ?_; rintro e w4 ⟨rfl, own4, s4, t4⟩; obtain ⟨g1, g2⟩ := t4.from HT3.out HWB.out.size; have HB4 := hide (HWB.out.trans g2); have HS4 : Hid (∃ own2, St w4 p2 own2 ar (C.take (k + 1)) (8 * (k + 1)) ∧ TagsFrom own2 w.heap.size) := (by refine ⟨own4, ?_, g1⟩; rw [HTk.out]; exact s4); clear s4 t4 g1 g2))
      go_roundw
      case rel => exact ⟨k + 1, by omega, by go_num, HS4.out, HB4.out⟩
      case measure => simp [intOf]; omega
    · obtain rfl : k = N := by omega
      have hi : ¬ (k : Int) < (k : Int) := by omega
      have hfull : C.take k = C := List.take_of_length_le (by rw [HN.out]; exact Nat.le_refl _)
      rw [hfull] at HSt
      go_wp2
      go_ret
      obtain ⟨own3, s3, t3⟩ := HSt.out
      exact ⟨p2, rfl, own3, s3, t3, HB.out⟩
end Go.Proofs.Ytbmefnpilgdejaa
