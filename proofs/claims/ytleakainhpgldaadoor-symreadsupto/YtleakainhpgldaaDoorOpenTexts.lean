/- A list of texts out of what was read, each text's length by the bulk. -/
import Derived.Test.YtleakainhpgldaaDoorOpen
import Derived.Test.YtleakainhpgldaaDoorUpto
namespace Go.Proofs.YtleakainhpgldaaDoor
set_option linter.unusedSimpArgs false
set_option linter.unusedVariables false
open Go.RowKit Go.Deep Go.ChangeShapes Go.WideShapes Go.ChangeAt Go.Joins

theorem open_texts {H : Type} {enc : TypeId × Value → H} {P : Program} {w : World} {t e : TypeId} {ao : Option Addr} {len cap : Nat} {d : DataW H} {ps : List MemPlace} {ts : List TypeId} {ds : List (DataW H)} {j : Nat}
    (ht : P.underlying t = some (.slice e)) (he : P.underlying e = some .string) (ce : P.cellsOf e = 1) (be : P.bytesOf e = 16)
    (h : DataW.Trod enc P w 0 (fun _ => true) true t (.slice ao len cap) d ps)
    (hsz : (DataW.weightsEach P ts ds).all (· ≤ reachBytes) = true) (hts : ts[j]? = some t) (hds : ds[j]? = some d) (hk : Rows.uptoBulk d ≤ 1048576) :
    ∃ ss, IsStrs w ao len ss ∧ ∀ s ∈ ss, s.size ≤ 1048576 := by
  obtain ⟨ss, hss⟩ := open_strings2 ht he ce be h hsz hts hds
  refine ⟨ss, hss, fun s hs => ?_⟩
  obtain ⟨i, hi⟩ := List.mem_iff_getElem?.1 hs
  have hilt : i < len := by have := (List.getElem?_eq_some_iff.1 hi).1; have := hss.1; omega
  obtain ⟨b, off, rfl, hrow⟩ := hss.2.2.2 (by omega)
  have hcell := hrow i s hi
  obtain ⟨fuel, hf⟩ := h
  rcases open_slice ht hf with ⟨h1, _⟩ | ⟨a, len', cap', m, n, D, Pl, h1, hb, hl, hm, hmm, hx, hel⟩
  · simp [Value.cells] at h1
  · simp [Value.cells] at h1
    obtain ⟨rfl, rfl, rfl⟩ := h1
    simp only [if_true] at hmm
    subst hmm
    simp only [Prod.mk.injEq] at hx
    obtain ⟨cs', g1, g2⟩ := hel i (by omega)
    rw [addr_add, ce, Nat.mul_one] at g1
    obtain ⟨_, hl3, g3⟩ := World.cells?_some g1
    obtain ⟨s', e0, hy, _⟩ := DataW.trod_string he g2
    subst e0
    have g4 := g3 0 (by omega)
    rw [addr_add, Nat.add_zero, hcell] at g4
    have hss' : s = s' := by simpa using g4
    subst hss'
    have hD := congrArg Prod.fst hy
    simp only at hD
    rw [hx.1] at hk
    simp only [Rows.uptoBulk] at hk
    have hb2 := bulk_mem (H := H) (l := List.map D (List.range len)) (j := i) (d := D i) (by simp [hilt])
    rw [hD] at hb2
    simp only [Rows.uptoBulk] at hb2
    have hlen : s.data.toList.length = s.size := rfl
    omega
end Go.Proofs.YtleakainhpgldaaDoor
