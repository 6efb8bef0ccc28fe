/- (*Table).Const: the constant with an id. -/
import Derived.Test.YthhoiejjejdffaaTable
import Derived.Test.YthhoiejjejdffaaOverAt
namespace Go.Proofs.Ythhoiejjejdffaa
set_option linter.unusedSimpArgs false
set_option linter.unusedVariables false
open Go.RowKit Go.Maps
attribute [local go_sem] over_cellAt over_frozenAt over_setAt

set_option maxRecDepth 100000 in
set_option maxHeartbeats 2000000 in
theorem tConst_in {base : Nat} {w : World} {p m n : Nat} {ao : Option Addr} {cap : Nat} {ks : List Con} (h : TableAt base w p m n ao cap ks) (hl : ks.length < 2199023255552) {i : Nat} {c : Con} (hi : ks[i]? = some c) :
    Calls Try.prog 15 #[.pointer (some ⟨p, 0, none⟩), .int .i64 i] w fun e w' => e = .returned (.tuple #[c.val, .int .i64 0]) ∧ Below w.heap.size w w' := by
  have hA := atCon_in (h.grow ((Below.refl _ _).alloc (Nat.le_refl _) (.cells #[.int .i64 0, .int .i64 0, .string ⟨#[]⟩] 34))) hl hi
  have hplt := h.plt
  unfold Con.val at hA ⊢
  have HA := hide hA
  clear hA h hi
  go_enter Try.func15, Try.ntmps15
  go_upto_region 6 with (go_at_call 47; refine HA.out.mono ?_; rintro e w1 ⟨rfl, hb1⟩; have HB1 := hide hb1; clear hb1)
  obtain ⟨b, hb⟩ : ∃ b, b = w1.heap.size := ⟨_, rfl⟩
  have c0 : (w1.alloc (.cells #[.int .i64 c.k, .int .i64 c.n, .string c.s] 34)).cell? ⟨b, 0, none⟩ = some (.int .i64 c.k) := by rw [hb]; simp
  have c1 : (w1.alloc (.cells #[.int .i64 c.k, .int .i64 c.n, .string c.s] 34)).cell? ⟨b, 1, none⟩ = some (.int .i64 c.n) := by rw [hb]; simp
  have c2 : (w1.alloc (.cells #[.int .i64 c.k, .int .i64 c.n, .string c.s] 34)).cell? ⟨b, 2, none⟩ = some (.string c.s) := by rw [hb]; simp
  rw [← hb]
  clear hb
  have hB2 := HB1.out.alloc HB1.out.size (.cells #[.int .i64 c.k, .int .i64 c.n, .string c.s] 34)
  obtain ⟨z, hz⟩ := over_of hB2
  rw [hz] at c0 c1 c2 ⊢
  clear hz hB2
  go_wp2
  exact bodyPost_ret (v := .tuple #[.agg #[.int .i64 c.k, .int .i64 c.n, .string c.s], .int .i64 0]) (by simp [results, Try.results15, go_sem]) rfl ⟨rfl, over_bel ((Below.refl _ _).alloc (Nat.le_refl _) _) (by simp)⟩
end Go.Proofs.Ythhoiejjejdffaa
