/- The tokens' list in memory. -/
import Derived.Test.YtplldgkdjainlaaDoorProg
import Derived.Test.YtplldgkdjainlaaDoorLexToks
namespace Go.Proofs.YtplldgkdjainlaaDoor
set_option linter.unusedSimpArgs false
set_option linter.unusedVariables false
open Go.RowKit

theorem tok_self (t : Tok) (w : World) : (binOp .eql 32 (.agg #[.int .i64 t.k, .string t.t, .int .i64 t.n, .int .i64 t.op, .int .i64 (t.off : Int), .int .i64 (t.en : Int)]) (.agg #[.int .i64 t.k, .string t.t, .int .i64 t.n, .int .i64 t.op, .int .i64 (t.off : Int), .int .i64 (t.en : Int)])).run Tryd.prog w = .ok (.bool true) w := by
  have h1 := run_equalIn_struct (P := Tryd.prog) w 9999 32 #[.int .i64 t.k, .string t.t, .int .i64 t.n, .int .i64 t.op, .int .i64 (t.off : Int), .int .i64 (t.en : Int)] #[.int .i64 t.k, .string t.t, .int .i64 t.n, .int .i64 t.op, .int .i64 (t.off : Int), .int .i64 (t.en : Int)] (by kernel_rfl) (by kernel_rfl)
  simp only [binOp]
  simp only [Op.equal, Op.maxDepth, Sem.run_bind]
  go_simp

theorem fault_self (w : World) : (binOp .neq 25 (.agg #[.int .i64 0, .int .i64 0, .int .i64 0]) (.agg #[.int .i64 0, .int .i64 0, .int .i64 0])).run Tryd.prog w = .ok (.bool false) w := by
  have h1 := run_equalIn_struct (P := Tryd.prog) w 9999 25 #[.int .i64 0, .int .i64 0, .int .i64 0] #[.int .i64 0, .int .i64 0, .int .i64 0] (by kernel_rfl) (by kernel_rfl)
  simp only [binOp]
  simp only [Op.equal, Op.maxDepth, Sem.run_bind]
  go_simp

/-- The token t lies in six cells. -/
structure TokAt (w : World) (g o : Nat) (t : Tok) : Prop where
  c0 : w.cell? ⟨g, o, none⟩ = some (.int .i64 t.k)
  c1 : w.cell? ⟨g, o + 1, none⟩ = some (.string t.t)
  c2 : w.cell? ⟨g, o + 2, none⟩ = some (.int .i64 t.n)
  c3 : w.cell? ⟨g, o + 3, none⟩ = some (.int .i64 t.op)
  c4 : w.cell? ⟨g, o + 4, none⟩ = some (.int .i64 (t.off : Int))
  c5 : w.cell? ⟨g, o + 5, none⟩ = some (.int .i64 (t.en : Int))

theorem TokAt.kept {w w' : World} {g o : Nat} {t : Tok} (h : TokAt w g o t) (hb : Below w.heap.size w w') : TokAt w' g o t :=
  ⟨kept_cell hb h.c0, kept_cell hb h.c1, kept_cell hb h.c2, kept_cell hb h.c3, kept_cell hb h.c4, kept_cell hb h.c5⟩

theorem flat6_at : ∀ (L : List Tok) (i : Nat) (t : Tok) (j : Nat), L[i]? = some t → j < 6 → (L.flatMap cells6)[i * 6 + j]? = (cells6 t)[j]?
  | [], i, t, j, h, _ => by simp at h
  | x :: r, 0, t, j, h, hj => by
    obtain rfl : x = t := by simpa using h
    rw [List.flatMap_cons, Nat.zero_mul, Nat.zero_add, List.getElem?_append_left (by show j < 6; exact hj)]
  | x :: r, i + 1, t, j, h, hj => by
    rw [List.flatMap_cons, List.getElem?_append_right (by show 6 ≤ _; omega)]
    have := flat6_at r i t j (by simpa using h) hj
    rw [← this]
    congr 1
    show (i + 1) * 6 + j - 6 = _
    omega

theorem own_toks {w : World} {base : Nat} {v : Value} {L : List Tok} (h : w.ownsRow base 32 6 v L.length (L.flatMap cells6)) (h0 : 0 < L.length) :
    ∃ g cap, v = .slice (some ⟨g, 0, none⟩) L.length cap ∧ base ≤ g ∧ g < w.heap.size ∧ ∀ i t, L[i]? = some t → TokAt w g (i * 6) t := by
  rcases h.2 with ⟨_, h1⟩ | ⟨g, cap, cur, hv, hbase, hb, h1, h2, h3, h4⟩
  · omega
  refine ⟨g, cap, hv, hbase, (Array.getElem?_eq_some_iff.1 hb).1, fun i t hi => ?_⟩
  have hlt : i < L.length := (List.getElem?_eq_some_iff.1 hi).1
  have key : ∀ j u, j < 6 → (cells6 t)[j]? = some u → w.cell? ⟨g, i * 6 + j, none⟩ = some u := fun j u hj hu => by
    have e := flat6_at L i t j hi hj
    rw [← h4, List.getElem?_take_of_lt (by omega), Array.getElem?_toList, hu] at e
    simp only [World.cell?, hb]
    simp only [Option.isSome_none, Bool.false_eq_true, if_false]
    exact e
  exact ⟨key 0 _ (by omega) rfl, key 1 _ (by omega) rfl, key 2 _ (by omega) rfl, key 3 _ (by omega) rfl, key 4 _ (by omega) rfl, key 5 _ (by omega) rfl⟩

def endTok (n : Nat) : Tok := ⟨0, ⟨#[]⟩, 0, 0, n, n⟩

end Go.Proofs.YtplldgkdjainlaaDoor
