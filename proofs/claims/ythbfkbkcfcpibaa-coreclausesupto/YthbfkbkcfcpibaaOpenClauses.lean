/- A list of clauses by value, by the bulk of what is read: no clause holds many terms. -/
import Derived.Test.YthbfkbkcfcpibaaOpenCore
import Derived.Test.YthbfkbkcfcpibaaCoreVars
namespace Go.Proofs.Ythbfkbkcfcpibaa
set_option linter.unusedSimpArgs false
set_option linter.unusedVariables false
open Go.RowKit Go.Deep Go.ChangeShapes Go.WideShapes Go.ChangeAt Go.Joins

section
variable {H : Type} {enc : TypeId × Value → H} {P : Program} {w : World}
theorem bulkAll_app : ∀ a b : List (DataW H), Rows.uptoBulkAll (a ++ b) = Rows.uptoBulkAll a + Rows.uptoBulkAll b
  | [], b => by simp [Rows.uptoBulkAll]
  | x :: a, b => by simp only [List.cons_append, Rows.uptoBulkAll, bulkAll_app a b]; omega
theorem bulk_sumR (D : Nat → DataW H) (f : Nat → Nat) : ∀ len, (∀ i, i < len → f i ≤ Rows.uptoBulk (D i)) → ((List.range len).map f).sum ≤ Rows.uptoBulkAll ((List.range len).map D)
  | 0, _ => by simp
  | n + 1, h => by
    rw [List.range_succ, List.map_append, List.map_append, bulkAll_app, List.sum_append]
    have h1 := bulk_sumR D f n (fun i hi => h i (by omega))
    have h2 := h n (by omega)
    simp only [List.map_cons, List.map_nil, List.sum_cons, List.sum_nil, Rows.uptoBulkAll]
    omega
theorem range_sum {α : Type} (μ : α → Nat) (l : List α) : (List.range l.length).map (fun i => (l[i]?.map μ).getD 0) = l.map μ := by
  apply List.ext_getElem?
  intro i
  rw [List.getElem?_map, List.getElem?_map]
  by_cases hi : i < l.length
  · rw [List.getElem?_range hi, List.getElem?_eq_getElem hi]
    simp [List.getElem?_eq_getElem hi]
  · rw [List.getElem?_eq_none (by simp; omega), List.getElem?_eq_none (by omega)]
    rfl

theorem lst_sum {α : Type} (E : El α) (μ : α → Nat) {t e : TypeId} {v : Value} {x : DataW H × List MemPlace} {fuel : Nat}
    (ht : P.underlying t = some (.slice e)) (ce : P.cellsOf e = E.size)
    (hf : DataW.trod enc P w 0 (fun _ => true) true fuel t [v] = some x) (hk : Rows.uptoBulk x.1 ≤ 1048576)
    (hel : ∀ cs fuel y, DataW.trod enc P w 0 (fun _ => true) true fuel e cs = some y → Rows.uptoBulk y.1 ≤ 1048576 → cs.length = E.size → ∃ z : α, cs = E.cells z ∧ E.ok w (fun _ => True) z ∧ μ z ≤ Rows.uptoBulk y.1) :
    ∃ l, Has E w v l ∧ (l.map μ).sum ≤ Rows.uptoBulk x.1 := by
  rcases open_slice ht hf with ⟨h1, _⟩ | ⟨a, len, cap, m, n, D, Pl, h1, hb, hl, hm, hmm, hx, hrow⟩
  · simp only [List.cons.injEq, and_true] at h1
    exact ⟨[], by rw [h1]; exact Lst.nil _ _ _, Nat.zero_le _⟩
  · simp only [List.cons.injEq, and_true] at h1
    simp only [if_true] at hmm
    subst hmm
    obtain ⟨b, off, spot⟩ := a
    have hbk : Rows.uptoBulkAll ((List.range len).map D) ≤ Rows.uptoBulk x.1 := by
      rw [hx]
      simp only [Rows.uptoBulk]
      omega
    have hlb := bulkRange D len
    by_cases hlen : 0 < len
    · have hspot : spot = none := by
        obtain ⟨cs', g1, _⟩ := hrow 0 (by omega)
        rw [ce] at g1
        obtain ⟨_, hl3, g2⟩ := World.cells?_some g1
        have g3 := g2 0 E.pos
        have g4 : w.cell? ⟨b, off, spot⟩ = some (cs'[0]'(by rw [hl3]; exact E.pos)) := by
          simp only [Nat.zero_mul, Addr.add, if_true] at g3
          rw [g3]; exact List.getElem?_eq_getElem _
        exact World.cell?_spot g4
      subst hspot
      obtain ⟨l, h2, h3⟩ := list_of_each (R := fun i (z : α) => E.ok w (fun _ => True) z ∧ (∀ j u, (E.cells z)[j]? = some u → w.cell? ⟨b, off + i * E.size + j, none⟩ = some u) ∧ μ z ≤ Rows.uptoBulk (D i)) len (fun i hi => by
        obtain ⟨cs, g1, g2⟩ := hrow i (by omega)
        rw [addr_add, ce] at g1
        obtain ⟨_, hl3, hc⟩ := World.cells?_some g1
        have hbi := bulkAt (D := D) hi
        obtain ⟨z, rfl, hz, hμ⟩ := hel cs _ _ g2 (by dsimp only; omega) hl3
        refine ⟨z, hz, fun j u hu => ?_, hμ⟩
        have hj : j < E.size := by have := (List.getElem?_eq_some_iff.1 hu).1; rw [E.len] at this; exact this
        have := hc j hj
        rw [addr_add] at this
        rw [this]; exact hu)
      subst h2
      have hlt : b < w.heap.size := by
        obtain ⟨z, hz⟩ : ∃ z, l[0]? = some z := ⟨_, List.getElem?_eq_getElem hlen⟩
        obtain ⟨u, hu⟩ : ∃ u, (E.cells z)[0]? = some u := ⟨_, List.getElem?_eq_getElem (by rw [E.len]; exact E.pos)⟩
        exact lt_of_cell ((h3 0 z hz).2.1 0 u hu)
      have hsum := bulk_sumR D (fun i => (l[i]?.map μ).getD 0) l.length (fun i hi => by
        have hz : l[i]? = some l[i] := List.getElem?_eq_getElem hi
        have := (h3 i _ hz).2.2
        simpa [hz] using this)
      rw [range_sum] at hsum
      refine ⟨l, ⟨_, _, h1, hl, (fun h => by cases h), by omega, fun z hz => ?_, fun _ => ⟨b, off, rfl, hlt, trivial, fun i z hz => (h3 i z hz).2.1⟩⟩, by omega⟩
      obtain ⟨i, hi⟩ := List.mem_iff_getElem?.1 hz
      exact (h3 i z hi).1
    · obtain rfl : len = 0 := by omega
      exact ⟨[], ⟨_, _, h1, hl, (fun h => by cases h), by simp, by simp, fun h => by simp at h⟩, Nat.zero_le _⟩
end

def elClB : El Clx where
  cells := elClx.cells
  size := 4
  pos := by decide
  len _ := rfl
  ok w F c := elClx.ok w F c ∧ c.h.ts.length + (sumT c.ls + 2 * c.ls.length) < 500000000
  one h := elClx.one h.1
  move h hm := ⟨elClx.move h.1 hm, h.2⟩
theorem Lst.clauses {w : World} {F : Nat → Prop} {v : Value} {l : List Clx} (h : Lst elClB w F v l) : Lst elClx w F v l ∧ ∀ c ∈ l, c.h.ts.length + (sumT c.ls + 2 * c.ls.length) < 500000000 := by
  obtain ⟨ao, cap, e, h1, h2, h3, h4, h5⟩ := h
  exact ⟨⟨ao, cap, e, h1, h2, h3, fun x hx => (h4 x hx).1, h5⟩, fun x hx => (h4 x hx).2⟩
theorem sum_two (ls : List Lix) : (ls.map fun x => x.a.ts.length + 2).sum = sumT ls + 2 * ls.length := by
  unfold sumT
  induction ls with
  | nil => rfl
  | cons x r ih => simp only [List.map_cons, List.sum_cons, List.length_cons, ih]; omega

section
variable {H : Type} {enc : TypeId × Value → H} {w : World}
set_option maxRecDepth 100000
theorem cTerm : Try.prog.cellsOf 66 = 4 := by kernel_rfl
theorem cTerms : Try.prog.cellsOf 28 = 1 := by kernel_rfl
theorem cAtom : Try.prog.cellsOf 30 = 3 := by kernel_rfl
theorem cLit : Try.prog.cellsOf 68 = 14 := by kernel_rfl
theorem cLits : Try.prog.cellsOf 31 = 1 := by kernel_rfl
theorem cClause : Try.prog.cellsOf 33 = 4 := by kernel_rfl

theorem term_el (cs : List Value) (fuel : Nat) (y : DataW H × List MemPlace) (hd : DataW.trod enc Try.prog w 0 (fun _ => true) true fuel 66 cs = some y) (hk : Rows.uptoBulk y.1 ≤ 1048576) (hl : cs.length = 4) : ∃ z, cs = elTrm.cells z ∧ elTrm.ok w (fun _ => True) z := by
  obtain ⟨y0, y1, y2, y3, n, hy, hlen, t0, t1, t2, t3⟩ := trod_struct4 Try.underlying66 hd
  rw [hy] at hk
  simp only [Rows.uptoBulk, Rows.uptoBulkAll] at hk
  match cs, hl with
  | [v0, v1, v2, v3], _ =>
    simp only [cInt, cI64, cStr, List.drop_zero, List.drop_succ_cons, List.take_succ_cons, List.take_zero] at t0 t1 t2 t3
    obtain ⟨a, e0, ha⟩ := int_el _ _ _ t0 (by omega) rfl
    obtain ⟨b, e1, _, hb⟩ := DataW.trod_int Try.underlying2 t1
    obtain ⟨c, e2, hc⟩ := str_el _ _ _ t2 (by omega) rfl
    obtain ⟨q, e3, hq⟩ := int_el _ _ _ t3 (by omega) rfl
    simp only [elStr, elInt, List.cons.injEq, and_true] at e0 e1 e2 e3
    subst e0 e1 e2 e3
    exact ⟨⟨a, b, c, q⟩, rfl, ⟨ha, bounds_i64 hb, hc⟩, hq⟩
theorem atom_el (cs : List Value) (fuel : Nat) (y : DataW H × List MemPlace) (hd : DataW.trod enc Try.prog w 0 (fun _ => true) true fuel 30 cs = some y) (hk : Rows.uptoBulk y.1 ≤ 1048576) (hl : cs.length = 3) : ∃ z, cs = elAtx.cells z ∧ elAtx.ok w (fun _ => True) z ∧ z.ts.length ≤ Rows.uptoBulk y.1 := by
  obtain ⟨y0, y1, y2, n, hy, hlen, t0, t1, t2⟩ := trod_struct3 Try.underlying30 hd
  rw [hy] at hk ⊢
  simp only [Rows.uptoBulk, Rows.uptoBulkAll] at hk ⊢
  match cs, hl with
  | [v0, v1, v2], _ =>
    simp only [cInt, cStr, cTerms, List.drop_zero, List.drop_succ_cons, List.take_succ_cons, List.take_zero] at t0 t1 t2
    obtain ⟨a, e0, ha⟩ := str_el _ _ _ t0 (by omega) rfl
    obtain ⟨l, hl, b1⟩ := lst_val elTrm Try.underlying28 cTerm t1 (by omega) term_el
    obtain ⟨b, e2, hb⟩ := int_el _ _ _ t2 (by omega) rfl
    simp only [elStr, elInt, List.cons.injEq, and_true] at e0 e2
    subst e0 e2
    exact ⟨⟨a, v1, b, l⟩, rfl, ⟨ha, hb, hl⟩, by dsimp only; omega⟩
theorem lit_el (cs : List Value) (fuel : Nat) (y : DataW H × List MemPlace) (hd : DataW.trod enc Try.prog w 0 (fun _ => true) true fuel 68 cs = some y) (hk : Rows.uptoBulk y.1 ≤ 1048576) (hl : cs.length = 14) : ∃ z, cs = elLix.cells z ∧ elLix.ok w (fun _ => True) z ∧ z.a.ts.length + 2 ≤ Rows.uptoBulk y.1 := by
  obtain ⟨y0, y1, y2, y3, y4, y5, n, hy, hlen, t0, t1, t2, t3, t4, t5⟩ := trodStruct6 Try.underlying68 hd
  rw [hy] at hk ⊢
  simp only [Rows.uptoBulk, Rows.uptoBulkAll] at hk ⊢
  match cs, hl with
  | [v0, v1, v2, v3, v4, v5, v6, v7, v8, v9, v10, v11, v12, v13], _ =>
    simp only [cInt, cAtom, cTerm, List.drop_zero, List.drop_succ_cons, List.take_succ_cons, List.take_zero] at t0 t1 t2 t3 t4 t5
    obtain ⟨a, e0, ha⟩ := int_el _ _ _ t0 (by omega) rfl
    obtain ⟨at1, e1, hat, hal⟩ := atom_el _ _ _ t1 (by omega) rfl
    obtain ⟨b, e2, hb⟩ := int_el _ _ _ t2 (by omega) rfl
    obtain ⟨l, e3, hl⟩ := term_el _ _ _ t3 (by omega) rfl
    obtain ⟨r, e4, hr⟩ := term_el _ _ _ t4 (by omega) rfl
    obtain ⟨f, e5, hf⟩ := int_el _ _ _ t5 (by omega) rfl
    simp only [elAtx, elTrm, elInt, List.cons.injEq, and_true] at e0 e1 e2 e3 e4 e5
    obtain ⟨rfl, rfl, rfl⟩ := e1
    obtain ⟨rfl, rfl, rfl, rfl⟩ := e3
    obtain ⟨rfl, rfl, rfl, rfl⟩ := e4
    subst e0 e2 e5
    have p0 := bulk_pos y0.1
    have p2 := bulk_pos y2.1
    exact ⟨⟨a, at1, b, l, r, f⟩, rfl, ⟨ha, hat, hb, hl, hr, hf⟩, by dsimp only; omega⟩
theorem clause_el (cs : List Value) (fuel : Nat) (y : DataW H × List MemPlace) (hd : DataW.trod enc Try.prog w 0 (fun _ => true) true fuel 33 cs = some y) (hk : Rows.uptoBulk y.1 ≤ 1048576) (hl : cs.length = 4) : ∃ z, cs = elClB.cells z ∧ elClB.ok w (fun _ => True) z := by
  obtain ⟨y0, y1, n, hy, hlen, t0, t1⟩ := trod_struct2 Try.underlying33 hd
  rw [hy] at hk
  simp only [Rows.uptoBulk, Rows.uptoBulkAll] at hk
  match cs, hl with
  | [v0, v1, v2, v3], _ =>
    simp only [cAtom, cLits, List.drop_zero, List.drop_succ_cons, List.take_succ_cons, List.take_zero] at t0 t1
    obtain ⟨h, e0, hh, hhl⟩ := atom_el _ _ _ t0 (by omega) rfl
    obtain ⟨l, hl, hs⟩ := lst_sum elLix (fun x => x.a.ts.length + 2) Try.underlying31 cLit t1 (by omega) lit_el
    rw [sum_two] at hs
    simp only [elAtx, List.cons.injEq, and_true] at e0
    obtain ⟨rfl, rfl, rfl⟩ := e0
    exact ⟨⟨h, v3, l⟩, rfl, ⟨hh, hl⟩, by dsimp only; omega⟩

theorem open_clauses {r : Reach} {b0 : Nat} {v : Value} {d : DataW H} {ps : List MemPlace}
    (hv : Value.okWide Try.prog w r b0 48 v) (h : DataW.Trod enc Try.prog w 0 (fun _ => true) true 48 v d ps) (hk : Rows.uptoBulk d ≤ 1048576) :
    ∃ l, Has elClx w v l ∧ ∀ c ∈ l, c.h.ts.length + (sumT c.ls + 2 * c.ls.length) < 500000000 := by
  obtain ⟨ao, len, cap, rfl⟩ := okWide_slice Try.underlying48 hv
  obtain ⟨fuel, hf⟩ := h
  obtain ⟨l, hl, _⟩ := lst_val elClB Try.underlying48 cClause (x := (d, ps)) hf hk clause_el
  exact ⟨l, hl.clauses.1, hl.clauses.2⟩
end
end Go.Proofs.Ythbfkbkcfcpibaa
