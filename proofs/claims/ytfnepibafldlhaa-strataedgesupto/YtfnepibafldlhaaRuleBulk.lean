/- Rules that were read, with how many atoms they have in all. -/
import Derived.Test.YtfnepibafldlhaaOpenRules
import Derived.Test.YtfnepibafldlhaaRuleEdges
namespace Go.Proofs.Ytfnepibafldlhaa
set_option linter.unusedSimpArgs false
set_option linter.unusedVariables false
open Go.RowKit Go.Deep Go.ChangeShapes Go.WideShapes Go.ChangeAt Go.Joins

section
variable {H : Type} {enc : TypeId × Value → H} {P : Program} {w : World}

theorem bulk_sum {α : Type} (wt : α → Nat) : ∀ (l : List α) (ds : List (DataW H)), l.length = ds.length → (∀ (i : Nat) z d, l[i]? = some z → ds[i]? = some d → wt z ≤ Rows.uptoBulk d) → (l.map wt).sum ≤ Rows.uptoBulkAll ds
  | [], _, _, _ => Nat.zero_le _
  | z :: l, [], h, _ => by simp at h
  | z :: l, d :: ds, h, hh => by
    have h1 := bulk_sum wt l ds (by simpa using h) (fun i z d hz hd => hh (i + 1) z d (by simpa using hz) (by simpa using hd))
    have h2 := hh 0 z d rfl rfl
    simp only [List.map_cons, List.sum_cons, Rows.uptoBulkAll]
    omega

theorem lst_valw {α : Type} (E : El α) (wt : α → Nat) {t e : TypeId} {v : Value} {x : DataW H × List MemPlace} {fuel : Nat}
    (ht : P.underlying t = some (.slice e)) (ce : P.cellsOf e = E.size)
    (hf : DataW.trod enc P w 0 (fun _ => true) true fuel t [v] = some x) (hk : Rows.uptoBulk x.1 ≤ 1048576)
    (hel : ∀ cs fuel y, DataW.trod enc P w 0 (fun _ => true) true fuel e cs = some y → Rows.uptoBulk y.1 ≤ 1048576 → cs.length = E.size → ∃ z : α, cs = E.cells z ∧ E.ok w (fun _ => True) z ∧ wt z ≤ Rows.uptoBulk y.1) :
    ∃ l, Has E w v l ∧ l.length ≤ Rows.uptoBulk x.1 ∧ (l.map wt).sum ≤ Rows.uptoBulk x.1 := by
  rcases open_slice ht hf with ⟨h1, _⟩ | ⟨a, len, cap, m, n, D, Pl, h1, hb, hl, hm, hmm, hx, hrow⟩
  · simp only [List.cons.injEq, and_true] at h1
    exact ⟨[], by rw [h1]; exact Lst.nil _ _ _, Nat.zero_le _, Nat.zero_le _⟩
  · simp only [List.cons.injEq, and_true] at h1
    simp only [if_true] at hmm
    subst hmm
    obtain ⟨b, off, spot⟩ := a
    have hbk : Rows.uptoBulkAll ((List.range len).map D) ≤ Rows.uptoBulk x.1 := by
      rw [hx]
      simp only [Rows.uptoBulk]
      omega
    have hlb := bulkRange D len
    by_cases hlen : 0 < len
    · have hspot : spot = none := by
        obtain ⟨cs', g1, _⟩ := hrow 0 (by omega)
        rw [ce] at g1
        obtain ⟨_, hl3, g2⟩ := World.cells?_some g1
        have g3 := g2 0 E.pos
        have g4 : w.cell? ⟨b, off, spot⟩ = some (cs'[0]'(by rw [hl3]; exact E.pos)) := by
          simp only [Nat.zero_mul, Addr.add, if_true] at g3
          rw [g3]; exact List.getElem?_eq_getElem _
        exact World.cell?_spot g4
      subst hspot
      obtain ⟨l, h2, h3⟩ := list_of_each (R := fun i (z : α) => (E.ok w (fun _ => True) z ∧ wt z ≤ Rows.uptoBulk (D i)) ∧ ∀ j u, (E.cells z)[j]? = some u → w.cell? ⟨b, off + i * E.size + j, none⟩ = some u) len (fun i hi => by
        obtain ⟨cs, g1, g2⟩ := hrow i (by omega)
        rw [addr_add, ce] at g1
        obtain ⟨_, hl3, hc⟩ := World.cells?_some g1
        have hbi := bulkAt (D := D) hi
        obtain ⟨z, rfl, hz, hwt⟩ := hel cs _ _ g2 (by dsimp only; omega) hl3
        refine ⟨z, ⟨hz, hwt⟩, fun j u hu => ?_⟩
        have hj : j < E.size := by have := (List.getElem?_eq_some_iff.1 hu).1; rw [E.len] at this; exact this
        have := hc j hj
        rw [addr_add] at this
        rw [this]; exact hu)
      subst h2
      have hlt : b < w.heap.size := by
        obtain ⟨z, hz⟩ : ∃ z, l[0]? = some z := ⟨_, List.getElem?_eq_getElem hlen⟩
        obtain ⟨u, hu⟩ : ∃ u, (E.cells z)[0]? = some u := ⟨_, List.getElem?_eq_getElem (by rw [E.len]; exact E.pos)⟩
        exact lt_of_cell ((h3 0 z hz).2 0 u hu)
      refine ⟨l, ⟨_, _, h1, hl, (fun h => by cases h), by omega, fun z hz => ?_, fun _ => ⟨b, off, rfl, hlt, trivial, fun i z hz => (h3 i z hz).2⟩⟩, by omega, Nat.le_trans (bulk_sum wt l ((List.range l.length).map D) (by simp) fun i z d hz hd => ?_) hbk⟩
      · obtain ⟨i, hi⟩ := List.mem_iff_getElem?.1 hz
        exact (h3 i z hi).1.1
      · have hi := (List.getElem?_eq_some_iff.1 hz).1
        rw [List.getElem?_map, List.getElem?_range hi] at hd
        simp only [Option.map_some, Option.some.injEq] at hd
        rw [← hd]
        exact (h3 i z hz).1.2
    · obtain rfl : len = 0 := by omega
      exact ⟨[], ⟨_, _, h1, hl, (fun h => by cases h), by simp, by simp, fun h => by simp at h⟩, Nat.zero_le _, Nat.zero_le _⟩
theorem rule_elw (cs : List Value) (fuel : Nat) (y : DataW H × List MemPlace) (hd : DataW.trod enc Try.prog w 0 (fun _ => true) true fuel 33 cs = some y) (hk : Rows.uptoBulk y.1 ≤ 1048576) (hl : cs.length = 7) : ∃ z, cs = elRul.cells z ∧ elRul.ok w (fun _ => True) z ∧ atomsN z ≤ Rows.uptoBulk y.1 := by
  obtain ⟨y0, y1, y2, y3, y4, y5, n, hy, hlen, t0, t1, t2, t3, t4, t5⟩ := trodStruct6 Try.underlying33 hd
  rw [hy] at hk
  simp only [Rows.uptoBulk, Rows.uptoBulkAll] at hk
  match cs, hl with
  | [v0, v1, v2, v3, v4, v5, v6], _ =>
    simp only [cInt, cPat, cPats, cTests, cStrs, List.drop_zero, List.drop_succ_cons, List.take_succ_cons, List.take_zero] at t0 t1 t2 t3 t4 t5
    obtain ⟨a, e0, ha⟩ := pat_el _ _ _ t0 (by omega) rfl
    obtain ⟨l1, k1, n1⟩ := lst_val elPat Try.underlying29 cPat t1 (by omega) pat_el
    obtain ⟨l2, k2, _⟩ := lst_val elTes Try.underlying30 cTest t2 (by omega) test_el
    obtain ⟨l3, k3, n3⟩ := lst_val elPat Try.underlying29 cPat t3 (by omega) pat_el
    obtain ⟨l4, k4, _⟩ := lst_val elStr Try.underlying31 cStr t4 (by omega) str_el
    obtain ⟨b, e5, hb⟩ := int_el _ _ _ t5 (by omega) rfl
    simp only [elPat, elInt, List.cons.injEq, and_true] at e0 e5
    obtain ⟨rfl, rfl⟩ := e0
    subst e5
    exact ⟨⟨a, v2, l1, v3, l2, v4, l3, v5, l4, b⟩, rfl, ⟨ha, k1, k2, k3, k4, hb⟩, by rw [hy]; simp only [Rows.uptoBulk, Rows.uptoBulkAll, atomsN]; omega⟩

theorem open_rulesw {r : Reach} {b0 : Nat} {v : Value} {d : DataW H} {ps : List MemPlace}
    (hv : Value.okWide Try.prog w r b0 22 v) (h : DataW.Trod enc Try.prog w 0 (fun _ => true) true 22 v d ps) (hk : Rows.uptoBulk d ≤ 1048576) :
    ∃ l, Has elRul w v l ∧ (l.length ≤ 1048576 ∧ (edgesP l).length ≤ 1048576) := by
  obtain ⟨ao, len, cap, rfl⟩ := okWide_slice Try.underlying22 hv
  obtain ⟨fuel, hf⟩ := h
  obtain ⟨l, hl, hn, hm⟩ := lst_valw elRul atomsN Try.underlying22 cRule (x := (d, ps)) hf hk rule_elw
  exact ⟨l, hl, Nat.le_trans hn hk, by rw [edgesP_length]; exact Nat.le_trans hm hk⟩
end
end Go.Proofs.Ytfnepibafldlhaa
