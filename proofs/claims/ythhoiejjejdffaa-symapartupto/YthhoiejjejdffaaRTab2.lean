/- The document's Table: At, Const, Len, Intern. -/
import Derived.Test.YthhoiejjejdffaaRTab
import Derived.Test.YthhoiejjejdffaaTabConst
namespace Go.Proofs.Ythhoiejjejdffaa
set_option linter.unusedSimpArgs false
set_option linter.unusedVariables false
open Go.RowKit Go.Maps
attribute [local go_sem] over_cellAt over_frozenAt over_setAt

variable {base : Nat} {w w' : World} {p : Nat} {v : Value} {ks : List Con}

theorem tlen_any (h : RTab base w p v ks) :
    Calls Try.prog 55 #[.pointer (some ⟨p, 0, none⟩)] w fun e w' => e = .returned (.int .i64 ks.length) ∧ w' = w := by
  obtain ⟨a, cap, rfl⟩ := h.shape
  have c0 := h.c0
  clear h
  generalize ks.length = len at *
  go_enter Try.func55, Try.ntmps55
  go_wp2
  go_ret
  exact ⟨rfl, rfl⟩

theorem tat_in (h : RTab base w p v ks) (hl : ks.length ≤ 65536) {i : Nat} {c : Con} (hi : ks[i]? = some c) :
    Calls Try.prog 52 #[.pointer (some ⟨p, 0, none⟩), .int .i64 i] w fun e w' => e = .returned (.tuple #[c.val, .bool true]) ∧ Below w.heap.size w w' := by
  have hlt : i < ks.length := (List.getElem?_eq_some_iff.1 hi).1
  obtain ⟨a, cap, rfl⟩ := h.shape
  obtain ⟨g, rfl, e0, e1, e2⟩ := h.at rfl hi
  have c0 := h.c0
  have hplt := h.plt
  have hglt : g < w.heap.size := lt_of_cell e0
  clear h hi
  unfold Con.val
  generalize ks.length = len at *
  have h1 : ¬ (i : Int) < 0 := by omega
  have h2 : (i : Int) < (len : Int) := by omega
  go_enter Try.func52, Try.ntmps52
  go_wp2
  exact bodyPost_ret (v := .tuple #[.agg #[.int .i64 c.k, .int .i64 c.n, .string c.s], .bool true]) (by simp [results, Try.results52, go_sem]) rfl ⟨rfl, (Below.refl _ _).alloc (Nat.le_refl _) _⟩

theorem tat_out (h : RTab base w p v ks) (hl : ks.length ≤ 65536) {i : Int} (hi : i < 0 ∨ (ks.length : Int) ≤ i) :
    Calls Try.prog 52 #[.pointer (some ⟨p, 0, none⟩), .int .i64 i] w fun e w' => e = .returned (.tuple #[Con.zero.val, .bool false]) ∧ Below w.heap.size w w' := by
  obtain ⟨a, cap, rfl⟩ := h.shape
  have c0 := h.c0
  have hplt := h.plt
  clear h
  unfold Con.val Con.zero
  generalize ks.length = len at *
  rcases hi with hi | hi
  · go_enter Try.func52, Try.ntmps52
    go_wp2
    exact bodyPost_ret (v := .tuple #[.agg #[.int .i64 0, .int .i64 0, .string ⟨#[]⟩], .bool false]) (by simp [results, Try.results52, go_sem]) rfl ⟨rfl, (Below.refl _ _).alloc (Nat.le_refl _) _⟩
  · have h1 : ¬ i < 0 := by omega
    have h2 : ¬ i < (len : Int) := by omega
    go_enter Try.func52, Try.ntmps52
    go_wp2
    exact bodyPost_ret (v := .tuple #[.agg #[.int .i64 0, .int .i64 0, .string ⟨#[]⟩], .bool false]) (by simp [results, Try.results52, go_sem]) rfl ⟨rfl, (Below.refl _ _).alloc (Nat.le_refl _) _⟩

theorem tconst_in (h : RTab base w p v ks) (hl : ks.length ≤ 65536) {i : Nat} {c : Con} (hi : ks[i]? = some c) :
    Calls Try.prog 54 #[.pointer (some ⟨p, 0, none⟩), .int .i64 i] w fun e w' => e = .returned (.tuple #[c.val, .int .i64 0]) ∧ Below w.heap.size w w' := by
  have hlt : i < ks.length := (List.getElem?_eq_some_iff.1 hi).1
  obtain ⟨a, cap, rfl⟩ := h.shape
  obtain ⟨g, rfl, e0, e1, e2⟩ := h.at rfl hi
  have c0 := h.c0
  have hplt := h.plt
  have hglt : g < w.heap.size := lt_of_cell e0
  clear h hi
  unfold Con.val
  generalize ks.length = len at *
  have h1 : ¬ (i : Int) < 0 := by omega
  have h2 : (i : Int) < (len : Int) := by omega
  go_enter Try.func54, Try.ntmps54
  go_wp2
  exact bodyPost_ret (v := .tuple #[.agg #[.int .i64 c.k, .int .i64 c.n, .string c.s], .int .i64 0]) (by simp [results, Try.results54, go_sem]) rfl ⟨rfl, (Below.refl _ _).alloc (Nat.le_refl _) _⟩

theorem tconst_out (h : RTab base w p v ks) (hl : ks.length ≤ 65536) {i : Int} (hi : i < 0 ∨ (ks.length : Int) ≤ i) :
    Calls Try.prog 54 #[.pointer (some ⟨p, 0, none⟩), .int .i64 i] w fun e w' => e = .returned (.tuple #[Con.zero.val, .int .i64 2]) ∧ Below w.heap.size w w' := by
  obtain ⟨a, cap, rfl⟩ := h.shape
  have c0 := h.c0
  have hplt := h.plt
  clear h
  unfold Con.val Con.zero
  generalize ks.length = len at *
  rcases hi with hi | hi
  · go_enter Try.func54, Try.ntmps54
    go_wp2
    exact bodyPost_ret (v := .tuple #[.agg #[.int .i64 0, .int .i64 0, .string ⟨#[]⟩], .int .i64 2]) (by simp [results, Try.results54, go_sem]) rfl ⟨rfl, (Below.refl _ _).alloc (Nat.le_refl _) _⟩
  · have h1 : ¬ i < 0 := by omega
    have h2 : ¬ i < (len : Int) := by omega
    go_enter Try.func54, Try.ntmps54
    go_wp2
    exact bodyPost_ret (v := .tuple #[.agg #[.int .i64 0, .int .i64 0, .string ⟨#[]⟩], .int .i64 2]) (by simp [results, Try.results54, go_sem]) rfl ⟨rfl, (Below.refl _ _).alloc (Nat.le_refl _) _⟩

set_option maxRecDepth 100000 in
set_option maxHeartbeats 2000000 in
theorem tConst_out {m n cap : Nat} {ao : Option Addr} (h : TableAt base w p m n ao cap ks) (hl : ks.length < 2199023255552) {i : Int} (hi : i < 0 ∨ (ks.length : Int) ≤ i) :
    Calls Try.prog 15 #[.pointer (some ⟨p, 0, none⟩), .int .i64 i] w fun e w' => e = .returned (.tuple #[Con.zero.val, .int .i64 2]) ∧ Below w.heap.size w w' := by
  have hA := atCon_out (h.grow ((Below.refl _ _).alloc (Nat.le_refl _) (.cells #[.int .i64 0, .int .i64 0, .string ⟨#[]⟩] 34))) hl hi
  have hplt := h.plt
  unfold Con.val Con.zero at hA ⊢
  have HA := hide hA
  clear hA h hi
  go_enter Try.func15, Try.ntmps15
  go_upto_region 5 with (go_at_call 47; refine HA.out.mono ?_; rintro e w1 ⟨rfl, hb1⟩; have HB1 := hide hb1; clear hb1)
  have hB2 := HB1.out.alloc HB1.out.size (.cells #[.int .i64 0, .int .i64 0, .string ⟨#[]⟩] 34)
  obtain ⟨z, hz⟩ := over_of hB2
  rw [hz]
  clear hz hB2
  go_wp2
  exact bodyPost_ret (v := .tuple #[.agg #[.int .i64 0, .int .i64 0, .string ⟨#[]⟩], .int .i64 2]) (by simp [results, Try.results15, go_sem]) rfl ⟨rfl, over_bel ((Below.refl _ _).alloc (Nat.le_refl _) _) (by simp)⟩

/-- What Intern and Cut of the document's Table may change. -/
def footT (p : Nat) (v : Value) (k : Nat) : Prop := k = p ∨ v.ownBlock = some k

theorem RTab.push (h : RTab base w p v ks) {W0 W4 : World} (hb0 : Below w.heap.size w W0) {tmp : Obj} {c : Con} {gg cap' : Nat} (hown : W4.ownsRow base 34 3 (.slice (some ⟨gg, 0, none⟩) (ks.length + 1) cap') (ks.length + 1) (ks.flatMap cells3 ++ cells3 c))
    (hg : (W0.alloc tmp).grownBy W4 v.ownBlock) (hat : v.ownBlock = some gg ∨ w.heap.size ≤ gg) :
    RTab base (W4.setCell ⟨p, 0, none⟩ (.slice (some ⟨gg, 0, none⟩) (ks.length + 1) cap')) p (.slice (some ⟨gg, 0, none⟩) (ks.length + 1) cap') (ks ++ [c]) ∧ Only (footT p v) w (W4.setCell ⟨p, 0, none⟩ (.slice (some ⟨gg, 0, none⟩) (ks.length + 1) cap')) := by
  have hplt := h.plt
  have hs0 := hb0.size
  have hpg : gg ≠ p := by
    rcases hat with h1 | h1
    · exact fun e => h.own_ne (by rw [h1, e])
    · omega
  have hb : Boxed W4 p 103 v := (hg.block p (by rw [World.size_alloc]; omega) (fun e => h.own_ne e.symm)).trans ((Below.heap_alloc _ _ _ (by omega)).trans ((hb0.block p hplt).trans h.fields))
  refine ⟨⟨hb.set _, h.hp, ?_⟩, ?_⟩
  · have := ownsRow_setCell_other hown (a := ⟨p, 0, none⟩) (by simp [Value.ownBlock, hpg]) (.slice (some ⟨gg, 0, none⟩) (ks.length + 1) cap')
    have e : (ks ++ [c]).flatMap cells3 = ks.flatMap cells3 ++ cells3 c := by simp
    show World.ownsRow _ _ _ _ _ _ _
    rw [e, List.length_append]
    exact this
  · have ho : Only (footT p v) w W4 := by
      refine ⟨hg.os.trans hb0.os, hg.tape.trans hb0.tape, hg.output.trans hb0.output, Nat.le_trans (by rw [World.size_alloc]; omega) hg.size, fun k hk hn => ?_⟩
      rw [hg.block k (by rw [World.size_alloc]; omega) (fun e => hn (.inr e.symm)), Below.heap_alloc _ _ _ (by omega)]
      exact hb0.block k hk
    exact ho.setCell (p := ⟨p, 0, none⟩) (.inl rfl) _
end Go.Proofs.Ythhoiejjejdffaa
