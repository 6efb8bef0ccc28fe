/- slices.SortFunc, handed ids and Sorted's function: the ids in the order of their constants. -/
import Derived.Test.YtbagefemhidbjaaSorted
import Derived.Test.YtbagefemhidbjaaSortILay
import Derived.Shelf.SlSortCmp.NoneTotal
namespace Go.Proofs.Ytbagefemhidbjaa
set_option linter.unusedSimpArgs false
set_option linter.unusedVariables false
open Go.RowKit Go.Maps Go.Shelf Go.Sort Go.Proofs

theorem sortIds_is : SortIdsSaid := by
  intro W base n₀ p m nn cap B g cap' ao ks hT hnd hl hB hrow hgB
  have hglt : n₀ ≤ g ∧ g < W.heap.size := hrow.lt g rfl
  have hgfoot : ¬ foot p m ao g := fun hf => by
    rcases hrow.2 with ⟨h', _⟩ | ⟨g', cap'', cur, hs, hbase, hb, _⟩
    · cases h'
    cases hs
    rcases hf with rfl | rfl | ⟨a, ha, rfl⟩
    · rw [hT.fields] at hb
      simp only [Option.some.injEq, Obj.cells.injEq] at hb
      exact absurd hb.2.1 (by decide)
    · obtain ⟨es, clock, hm⟩ := hT.map.block
      rw [hm] at hb
      exact absurd hb (by simp)
    · rcases hT.row.2 with ⟨e, _⟩ | ⟨g2, cap2, cur2, e, hb2, hh, _⟩
      · rw [ha] at e; exact absurd e (by simp)
      · rw [ha] at e
        simp only [Value.slice.injEq, Option.some.injEq] at e
        rw [e.1] at hb
        rw [hh] at hb
        simp only [Option.some.injEq, Obj.cells.injEq] at hb
        exact absurd hb.2.1 (by decide)
  by_cases h0 : ks.length = 0
  · rw [h0]
    have := AnyF.slices_SortFunc_none (P := Try.prog) { Try.sortInt with } (some ⟨g, 0, none⟩) cap' (.func (.func 45) #[] #[.pointer (some ⟨B, 0, none⟩)]) W
    refine this.mono ?_
    rintro e w' ⟨rfl, rfl⟩
    refine ⟨rfl, ?_, Only.refl _ _⟩
    rw [h0] at hrow
    have hs : sortL ks = [] := List.length_eq_zero_iff.1 (by rw [sortL_len, h0])
    rw [hs]
    exact hrow
  · have : Inhabited (Fin ks.length) := ⟨⟨0, by omega⟩⟩
    have hrow' : W.ownsRow n₀ 3 1 (.slice (some ⟨g, 0, none⟩) ks.length cap') ks.length ((fins ks.length).map encF) := by
      have e : (List.range ks.length).map encI = (fins ks.length).map encF := by rw [← fins_val, List.map_map]; rfl
      rw [e] at hrow; exact hrow
    obtain ⟨hH, hlt⟩ := own_holds1 encF hrow' (fins_len _)
    have eg : ∀ args w, (callFunc 45 args).run Try.prog w = .ok (.enter 45 args) w := enters_of Try.func45 (by kernel_rfl) rfl
    have hcmp : CmpLays1 Try.prog 45 #[.pointer (some ⟨B, 0, none⟩)] encF (cfI ks) g 0 (fins ks.length).toArray.size W := by
      intro q os dk hdk x y
      have ho := only_sorted1 (g := g) (m := q) (w := W) (os := os) (d := dk) encF
      have hT2 := hT.only ho (fun e => hgfoot (.inl e.symm)) (fun e => hgfoot (.inr (.inl e.symm))) (fun a ha e => hgfoot (.inr (.inr ⟨a, ha, e.symm⟩)))
      have hB2 := ho.cell hB (fun e => hgB e.symm)
      have hx : ks[x.val]? = some ks[x] := List.getElem?_eq_getElem x.2
      have hy : ks[y.val]? = some ks[y] := List.getElem?_eq_getElem y.2
      refine (cmpFn_gro hT2 hl hB2 hx hy).mono ?_
      rintro e w' ⟨he, z, hz⟩
      exact ⟨he, z.q, z.os, hz⟩
    have hsz : (fins ks.length).toArray.size = ks.length := by simp [fins_len]
    have := Any.slices_SortFunc_total Try.sortInt encF (fun _ => rfl) (cfI ks) (cfI_swo ks) 45 #[.pointer (some ⟨B, 0, none⟩)] g 0 cap' (fins ks.length).toArray W eg hcmp hH hlt (by rw [hsz]; omega) (cfI_total hnd)
    rw [hsz] at this
    refine this.mono ?_
    rintro e w' ⟨rfl, q, os, hw⟩
    subst hw
    refine ⟨rfl, ?_, only_sorted1 encF⟩
    have h3 := own_sorted1 (m := q) (os := os) (l := (fins ks.length).mergeSort fun x y => !(ltOf (cfI ks)) y x) encF hrow' (by rw [List.length_mergeSort, fins_len])
    have e : (sortL ks).map encI = ((fins ks.length).mergeSort fun x y => !(ltOf (cfI ks)) y x).map encF := by unfold sortL; rw [List.map_map]; rfl
    rw [e]
    exact h3
end Go.Proofs.Ytbagefemhidbjaa
