/- Lists of numbers as keys: arrays of ints. -/
import Derived.Test.YtcofoddjcgmmkaaProg
import Derived.Test.YtcofoddjcgmmkaaStoreMem
import Derived.Test.YtcofoddjcgmmkaaOpen
namespace Go.Proofs.Ytcofoddjcgmmkaa
set_option linter.unusedSimpArgs false
set_option linter.unusedVariables false
open Go.RowKit Go.Maps

theorem mapM_each {α β : Type} {f : α → Option β} {g : α → β} : ∀ (l : List α), (∀ x ∈ l, f x = some (g x)) → l.mapM f = some (l.map g)
  | [], _ => by simp
  | a :: r, h => by
    rw [List.mapM_cons, h a (by simp), mapM_each r (fun x hx => h x (by simp [hx]))]
    rfl

theorem keyOf_ints {P : Program} {k e : TypeId} {n : Nat} (hk : P.underlying k = some (.array n e)) (he : P.underlying e = some (.int .i64)) (ce : P.cellsOf e = 1) (ck : P.cellsOf k = n) (kt : P.keyType k = true) (hd : 0 < P.types.size)
    {c : List Int} (hc : c.length = n) (hI : ∀ x ∈ c, I64 x) : keyOf P k (.agg (ints c).toArray) = some (litI c) := by
  obtain ⟨d, hd⟩ : ∃ d, P.types.size + 1 = d + 1 + 1 := ⟨P.types.size - 1, by omega⟩
  unfold keyOf
  simp only [hk, hd]
  rw [if_pos (by rw [kt]; simp [Value.formed, hk, ck, hc])]
  have h1 : P.keyLits (d + 1 + 1) k (ints c) = some (c.map (Lit.int .i64)) := by
    unfold Program.keyLits
    simp only [hk]
    rw [if_pos (by simp [ck, hc])]
    rw [mapM_each (g := fun i => [Lit.int .i64 (c.getD i 0)]) (List.range n) (fun i hi => ?_)]
    · simp only [Option.map_some, Option.some.injEq]
      have e1 : ((List.range n).map (fun i => [Lit.int .i64 (c.getD i 0)])).flatten = (List.range n).map (fun i => Lit.int .i64 (c.getD i 0)) := by
        generalize List.range n = l
        induction l with
        | nil => rfl
        | cons a r ih => rw [List.map_cons, List.flatten_cons, ih]; rfl
      rw [e1]
      apply List.ext_getElem?
      intro i
      rcases Nat.lt_or_ge i n with hi | hi
      · rw [List.getElem?_map, List.getElem?_range hi, List.getElem?_map, List.getElem?_eq_getElem (by omega)]
        simp [List.getD, List.getElem?_eq_getElem (show i < c.length by omega)]
      · rw [List.getElem?_eq_none (by simp; omega), List.getElem?_eq_none (by simp; omega)]
    · rw [List.mem_range] at hi
      have e2 : ((ints c).drop (i * P.cellsOf e)).take (P.cellsOf e) = [.int .i64 (c.getD i 0)] := by
        have hl : i < (ints c).length := by simp; omega
        rw [ce, Nat.mul_one, List.drop_eq_getElem_cons hl]
        simp [List.getD, List.getElem?_eq_getElem (show i < c.length by omega)]
      rw [e2]
      have hx : I64 (c.getD i 0) := by
        have : c.getD i 0 ∈ c := by
          simp only [List.getD, List.getElem?_eq_getElem (show i < c.length by omega), Option.getD_some]
          exact List.getElem_mem _
        exact hI _ this
      unfold Program.keyLits
      simp only [he]
      rw [if_pos ⟨trivial, WalkArith.wf_i64 hx⟩]
  simp only [Value.cells]
  rw [h1]
  rfl

theorem keyOf_cells {c : List Int} (hc : c.length = 9) (hI : ∀ x ∈ c, I64 x) : keyOf Try.prog 56 (.agg (ints c).toArray) = some (litI c) :=
  keyOf_ints Try.underlying56 Try.underlying3 (by kernel_rfl) (by kernel_rfl) (by kernel_rfl) (of_decide_eq_true (by kernel_rfl)) hc hI
theorem keyOf_spot {c : List Int} (hc : c.length = 3) (hI : ∀ x ∈ c, I64 x) : keyOf Try.prog 78 (.agg (ints c).toArray) = some (litI c) :=
  keyOf_ints Try.underlying78 Try.underlying3 (by kernel_rfl) (by kernel_rfl) (by kernel_rfl) (of_decide_eq_true (by kernel_rfl)) hc hI
theorem keyOf_pred {x : Int} (hI : I64 x) : keyOf Try.prog 3 (.int .i64 x) = some (.int .i64 x) := keyOf_int_mk Try.underlying3 (WalkArith.wf_i64 hI)

theorem litI_inj9 {a b : List Int} (ha : a.length = 9) (hb : b.length = 9) (hIa : ∀ x ∈ a, I64 x) (hIb : ∀ x ∈ b, I64 x) (h : litI a = litI b) : a = b := by
  have h1 := keyOf_cells ha hIa
  have h2 := keyOf_cells hb hIb
  rw [← h] at h2
  have := (Keyed.of_law lawCells).inj h1 h2
  simp only [Value.agg.injEq] at this
  have h3 : ints a = ints b := by simpa using congrArg Array.toList this
  exact (List.map_inj_right (fun x y e => by cases e; rfl)).1 h3
theorem litI_inj3 {a b : List Int} (ha : a.length = 3) (hb : b.length = 3) (hIa : ∀ x ∈ a, I64 x) (hIb : ∀ x ∈ b, I64 x) (h : litI a = litI b) : a = b := by
  have h1 := keyOf_spot ha hIa
  have h2 := keyOf_spot hb hIb
  rw [← h] at h2
  have := (Keyed.of_law lawSpot).inj h1 h2
  simp only [Value.agg.injEq] at this
  have h3 : ints a = ints b := by simpa using congrArg Array.toList this
  exact (List.map_inj_right (fun x y e => by cases e; rfl)).1 h3
end Go.Proofs.Ytcofoddjcgmmkaa
