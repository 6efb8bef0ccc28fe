/- A core by value, by the bulk of what is read: its rules' bodies are not long. -/
import Derived.Test.YthbfkbkcfcpibaaOpenCore
namespace Go.Proofs.Ythbfkbkcfcpibaa
set_option linter.unusedSimpArgs false
set_option linter.unusedVariables false
open Go.RowKit Go.Deep Go.ChangeShapes Go.WideShapes Go.ChangeAt Go.Joins

def elRulB : El Rul where
  cells := elRul.cells
  size := 7
  pos := by decide
  len _ := rfl
  ok w F c := elRul.ok w F c ∧ c.ps.length + c.ts.length + c.ns.length < 1073741824
  one h := elRul.one h.1
  move h hm := ⟨elRul.move h.1 hm, h.2⟩
theorem Lst.rules {w : World} {F : Nat → Prop} {v : Value} {l : List Rul} (h : Lst elRulB w F v l) : Lst elRul w F v l ∧ ∀ r ∈ l, r.ps.length + r.ts.length + r.ns.length < 1073741824 := by
  obtain ⟨ao, cap, e, h1, h2, h3, h4, h5⟩ := h
  exact ⟨⟨ao, cap, e, h1, h2, h3, fun x hx => (h4 x hx).1, h5⟩, fun x hx => (h4 x hx).2⟩

section
variable {H : Type} {enc : TypeId × Value → H} {w : World}
set_option maxRecDepth 100000
theorem rule_elB (cs : List Value) (fuel : Nat) (y : DataW H × List MemPlace) (hd : DataW.trod enc Try.prog w 0 (fun _ => true) true fuel 60 cs = some y) (hk : Rows.uptoBulk y.1 ≤ 1048576) (hl : cs.length = 7) : ∃ z, cs = elRulB.cells z ∧ elRulB.ok w (fun _ => True) z := by
  obtain ⟨y0, y1, y2, y3, y4, y5, n, hy, hlen, t0, t1, t2, t3, t4, t5⟩ := trodStruct6 Try.underlying60 hd
  rw [hy] at hk
  simp only [Rows.uptoBulk, Rows.uptoBulkAll] at hk
  match cs, hl with
  | [v0, v1, v2, v3, v4, v5, v6], _ =>
    simp only [cInt, cPat, cPats, cTests, cStrs, List.drop_zero, List.drop_succ_cons, List.take_succ_cons, List.take_zero] at t0 t1 t2 t3 t4 t5
    obtain ⟨a, e0, ha⟩ := pat_el _ _ _ t0 (by omega) rfl
    obtain ⟨l1, k1, b1⟩ := lst_val elPat Try.underlying57 cPat t1 (by omega) pat_el
    obtain ⟨l2, k2, b2⟩ := lst_val elTes Try.underlying58 cTest t2 (by omega) test_el
    obtain ⟨l3, k3, b3⟩ := lst_val elPat Try.underlying57 cPat t3 (by omega) pat_el
    obtain ⟨l4, k4, _⟩ := lst_val elStr Try.underlying49 cStr t4 (by omega) str_el
    obtain ⟨b, e5, hb⟩ := int_el _ _ _ t5 (by omega) rfl
    simp only [elPat, elInt, List.cons.injEq, and_true] at e0 e5
    obtain ⟨rfl, rfl⟩ := e0
    subst e5
    exact ⟨⟨a, v2, l1, v3, l2, v4, l3, v5, l4, b⟩, rfl, ⟨ha, k1, k2, k3, k4, hb⟩, by dsimp only; omega⟩

theorem open_coreB {r : Reach} {b0 : Nat} {v : Value} {d : DataW H} {ps : List MemPlace}
    (hv : Value.okWide Try.prog w r b0 27 v) (h : DataW.Trod enc Try.prog w 0 (fun _ => true) true 27 v d ps) (hk : Rows.uptoBulk d ≤ 1048576) :
    ∃ c : Cor, v = c.val ∧ c.ok w ∧ ∀ r ∈ c.rs, r.ps.length + r.ts.length + r.ns.length < 1073741824 := by
  obtain ⟨cs, rfl, hs⟩ := okWide_struct Try.underlying27 hv
  rw [cCore] at hs
  obtain ⟨l⟩ := cs
  match l, hs with
  | [v0, v1, v2, v3], _ =>
    obtain ⟨fuel, hf⟩ := h
    obtain ⟨y0, y1, y2, y3, n, hx, _, t0, t1, t2, t3⟩ := trod_struct4 Try.underlying27 hf
    rw [(Prod.mk.inj hx).1] at hk
    simp only [Rows.uptoBulk, Rows.uptoBulkAll] at hk
    simp only [cPreds, cCons, cRules, cRows, Value.cells, List.drop_zero, List.drop_succ_cons, List.take_succ_cons, List.take_zero] at t0 t1 t2 t3
    obtain ⟨l0, k0, _⟩ := lst_val elPrd Try.underlying22 cPred t0 (by omega) pred_el
    obtain ⟨l1, k1, _⟩ := lst_val elCon Try.underlying23 cCon t1 (by omega) con_el
    obtain ⟨l2, k2, _⟩ := lst_val elRulB Try.underlying24 cRule t2 (by omega) rule_elB
    obtain ⟨l3, k3, _⟩ := lst_val elRoe Try.underlying25 cRow t3 (by omega) row_el
    exact ⟨⟨v0, l0, v1, l1, v2, l2, v3, l3⟩, rfl, ⟨k0, k1, k2.rules.1, k3⟩, k2.rules.2⟩
end
end Go.Proofs.Ythbfkbkcfcpibaa
