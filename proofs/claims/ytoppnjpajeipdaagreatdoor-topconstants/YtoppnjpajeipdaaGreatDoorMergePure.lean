/- The document's merge of two lists of constants: the plain merge, in new memory. -/
import Derived.Test.YtoppnjpajeipdaaGreatDoorCmp
import Derived.Test.YtoppnjpajeipdaaGreatDoorOpen
import Derived.Test.YtoppnjpajeipdaaGreatDoorBox
import Derived.Laws.AppendOwn
import Derived.Deep.AppendLies
import Derived.Deep.DeepCutAuto
import Derived.Deep.LoopGhost
namespace Go.Proofs.YtoppnjpajeipdaaGreatDoor
set_option linter.unusedSimpArgs false
set_option linter.unusedVariables false
open Go.RowKit

def cells3 (c : Con) : List Value := [.int .i64 c.k, .int .i64 c.n, .string c.s]
def leC (a b : Con) : Bool := decide (cmpC a b ≤ 0)

/-- A slice value that the call itself made holds the constants cs. -/
def Holds3 (base : Nat) (w : World) (v : Value) (cs : List Con) : Prop := w.ownsRow base 26 3 v cs.length (cs.flatMap cells3)

theorem Tryz.info3 : (Tryz.prog.info? 26).map (fun i => (i.zero, i.size, i.bytes)) = some (some (.agg #[.int .i64 0, .int .i64 0, .string ⟨#[]⟩]), 3, 32) := by kernel_rfl

theorem IsCons.kept {w w' : World} {ao : Option Addr} {len : Nat} {cs : List Con} (h : IsCons w ao len cs) (hb : Below w.heap.size w w') : IsCons w' ao len cs := by
  obtain ⟨h1, h2, h3, h4⟩ := h
  refine ⟨h1, h2, h3, fun hp => ?_⟩
  obtain ⟨b, off, e, hr⟩ := h4 hp
  exact ⟨b, off, e, fun i c hc => conAt_kept (hr i c hc) hb⟩

theorem holds_snoc {base : Nat} {w : World} {v : Value} {out : List Con} {n : Nat} {x : Con} (hn : n = out.length) (h : w.ownsRow base 26 3 v (n + 1) (out.flatMap cells3 ++ [.int .i64 x.k, .int .i64 x.n, .string x.s])) : Holds3 base w v (out ++ [x]) := by
  subst hn
  unfold Holds3
  rw [List.flatMap_append, List.flatMap_singleton, List.length_append]
  exact h

theorem drop_at {l : List Con} {p : Nat} {x : Con} (h : l[p]? = some x) : l.drop p = x :: l.drop (p + 1) := by
  obtain ⟨hlt, rfl⟩ := List.getElem?_eq_some_iff.1 h
  exact List.drop_eq_getElem_cons hlt

theorem step_a {xs ys out : List Con} {p q : Nat} {x y : Con} (hx : xs[p]? = some x) (hy : ys[q]? = some y) (hc : leC x y = true) (h : out ++ List.merge (xs.drop p) (ys.drop q) leC = List.merge xs ys leC) : (out ++ [x]) ++ List.merge (xs.drop (p + 1)) (ys.drop q) leC = List.merge xs ys leC := by
  rw [← h, drop_at hx, drop_at hy, List.cons_merge_cons, if_pos hc]
  simp
theorem step_b {xs ys out : List Con} {p q : Nat} {x y : Con} (hx : xs[p]? = some x) (hy : ys[q]? = some y) (hc : leC x y = false) (h : out ++ List.merge (xs.drop p) (ys.drop q) leC = List.merge xs ys leC) : (out ++ [y]) ++ List.merge (xs.drop p) (ys.drop (q + 1)) leC = List.merge xs ys leC := by
  rw [← h, drop_at hx, drop_at hy, List.cons_merge_cons, if_neg (by rw [hc]; decide)]
  simp
theorem step_a0 {xs ys out : List Con} {p q : Nat} {x : Con} (hx : xs[p]? = some x) (hy : ys.length ≤ q) (h : out ++ List.merge (xs.drop p) (ys.drop q) leC = List.merge xs ys leC) : (out ++ [x]) ++ List.merge (xs.drop (p + 1)) (ys.drop q) leC = List.merge xs ys leC := by
  rw [← h, List.drop_of_length_le hy, drop_at hx]
  simp
theorem step_b0 {xs ys out : List Con} {p q : Nat} {y : Con} (hx : xs.length ≤ p) (hy : ys[q]? = some y) (h : out ++ List.merge (xs.drop p) (ys.drop q) leC = List.merge xs ys leC) : (out ++ [y]) ++ List.merge (xs.drop p) (ys.drop (q + 1)) leC = List.merge xs ys leC := by
  rw [← h, List.drop_of_length_le hx, drop_at hy]
  simp
theorem step_end {xs ys out : List Con} {p q : Nat} (hx : xs.length ≤ p) (hy : ys.length ≤ q) (h : out ++ List.merge (xs.drop p) (ys.drop q) leC = List.merge xs ys leC) : out = List.merge xs ys leC := by
  rw [← h, List.drop_of_length_le hx, List.drop_of_length_le hy]
  simp

theorem len_snoc {out : List Con} {x : Con} {n m : Nat} (h : out.length = n) (hm : n + 1 = m) : Hid ((out ++ [x]).length = m) := by
  show (out ++ [x]).length = m
  rw [List.length_append, h]; exact hm

theorem holds_grow {base : Nat} {w w' : World} {v : Value} {out : List Con} (h : Holds3 base w v out) (hb : Below w.heap.size w w') : Holds3 base w' v out :=
  World.ownsRow.kept (row := none) h ⟨hb.os, hb.tape, hb.output, hb.size, fun k hk _ => hb.block k hk⟩ (by cases hv : v.ownBlock <;> simp)
end Go.Proofs.YtoppnjpajeipdaaGreatDoor
