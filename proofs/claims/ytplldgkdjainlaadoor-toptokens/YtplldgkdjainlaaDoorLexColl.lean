/- A list of tokens that a function literal collects: what it holds, and what one call of Scan's literal does. -/
import Derived.Test.YtplldgkdjainlaaDoorProg
import Derived.Test.YtplldgkdjainlaaDoorLexNext
import Derived.Test.YtplldgkdjainlaaDoorIdsBase
namespace Go.Proofs.YtplldgkdjainlaaDoor
set_option linter.unusedSimpArgs false
set_option linter.unusedVariables false
open Go.RowKit

def cells6 (t : Tok) : List Value := [.int .i64 t.k, .string t.t, .int .i64 t.n, .int .i64 t.op, .int .i64 (t.off : Int), .int .i64 (t.en : Int)]
theorem Tryd.infoTok : (Tryd.prog.info? 32).map (fun i => (i.zero, i.size, i.bytes)) = some (some (.agg #[.int .i64 0, .string ⟨#[]⟩, .int .i64 0, .int .i64 0, .int .i64 0, .int .i64 0]), 6, 56) := by kernel_rfl

/-- The variable at block p holds a slice of the tokens L, whose row lies at p or beyond. -/
structure Coll (W : World) (p : Nat) (v : Value) (L : List Tok) : Prop where
  box : W.heap[p]? = some (.cells #[v] 22 (0, 0))
  row : W.ownsRow p 32 6 v L.length (L.flatMap cells6)

theorem Coll.cell {W : World} {p : Nat} {v : Value} {L : List Tok} (h : Coll W p v L) : W.cell? ⟨p, 0, none⟩ = some v := by simp [World.cell?, h.box]
theorem Coll.frozen {W : World} {p : Nat} {v : Value} {L : List Tok} (h : Coll W p v L) : W.frozen? ⟨p, 0, none⟩ = false := by simp [World.frozen?, h.box]
theorem Coll.lt {W : World} {p : Nat} {v : Value} {L : List Tok} (h : Coll W p v L) : p < W.heap.size := (Array.getElem?_eq_some_iff.1 h.box).1
theorem Coll.ne {W : World} {p : Nat} {v : Value} {L : List Tok} (h : Coll W p v L) : v.ownBlock ≠ some p := by
  intro e
  rcases h.row.2 with ⟨rfl, _⟩ | ⟨g, cap, cur, rfl, _, hb, _⟩
  · cases e
  · have : g = p := by simpa [Value.ownBlock] using e
    subst this
    rw [h.box] at hb
    injection hb with hb
    injection hb with _ hb _
    exact absurd hb (by decide)
theorem Coll.blk {W : World} {p : Nat} {v : Value} {L : List Tok} (h : Coll W p v L) {k : Nat} (hk : v.ownBlock = some k) : p ≤ k ∧ k < W.heap.size := by
  rcases h.row.2 with ⟨rfl, _⟩ | ⟨g, cap, cur, rfl, hbase, hb, _⟩
  · cases hk
  · have : g = k := by simpa [Value.ownBlock] using hk
    subst this
    exact ⟨hbase, (Array.getElem?_eq_some_iff.1 hb).1⟩
theorem Coll.kept {W W' : World} {p : Nat} {v : Value} {L : List Tok} (h : Coll W p v L) (hb : Below W.heap.size W W') : Coll W' p v L where
  box := by rw [hb.block p h.lt]; exact h.box
  row := own_kept h.row hb

/-- What a call that collects may touch. -/
structure Step (W W' : World) (p : Nat) (v v' : Value) : Prop where
  only : Only (fun k => k = p ∨ v.ownBlock = some k) W W'
  fresh : ∀ k, v'.ownBlock = some k → v.ownBlock = some k ∨ W.heap.size ≤ k

theorem news6 (W : World) (t : Tok) (o : Obj) : ∀ j u, (cells6 t)[j]? = some u → ((W.alloc o).alloc (.cells #[.int .i64 t.k, .string t.t, .int .i64 t.n, .int .i64 t.op, .int .i64 (t.off : Int), .int .i64 (t.en : Int)] 32)).cell? ((⟨W.heap.size + 1, 0, none⟩ : Addr).add j) = some u := by
  have h := World.news_of_block (cs := #[.int .i64 t.k, .string t.t, .int .i64 t.n, .int .i64 t.op, .int .i64 (t.off : Int), .int .i64 (t.en : Int)]) (t := 32) (fr := (0, 0)) (heap_alloc_new (W.alloc o) (.cells #[.int .i64 t.k, .string t.t, .int .i64 t.n, .int .i64 t.op, .int .i64 (t.off : Int), .int .i64 (t.en : Int)] 32))
  rw [show (W.alloc o).heap.size = W.heap.size + 1 from by simp] at h
  exact h
theorem one6 (t : Tok) : ∀ u ∈ cells6 t, u.oneCell' = true := by simp [cells6, Value.oneCell']

theorem after_append {W w1 : World} {p g : Nat} {v : Value} {L : List Tok} {o o' : Obj} (h : Coll W p v L) (hg : ((W.alloc o).alloc o').grownBy w1 v.ownBlock) (hat : v.ownBlock = some g ∨ g = W.heap.size + 2) :
    w1.heap[p]? = some (.cells #[v] 22 (0, 0)) ∧ p ≠ g := by
  have hlt := h.lt
  refine ⟨?_, ?_⟩
  · rw [hg.block p (by simp; omega) (fun e => h.ne e.symm)]
    have hb : Below W.heap.size W ((W.alloc o).alloc o') := ((Below.refl _ _).alloc (Nat.le_refl _) _).alloc (by simp) _
    rw [hb.block p hlt]; exact h.box
  · rintro rfl
    rcases hat with e | e
    · exact h.ne e
    · omega

theorem coll_next {w1 : World} {p g cap : Nat} {v : Value} {L : List Tok} {t : Tok} (hb : w1.heap[p]? = some (.cells #[v] 22 (0, 0))) (hpg : p ≠ g)
    (hown : w1.ownsRow p 32 6 (.slice (some ⟨g, 0, none⟩) (L.length + 1) cap) (L.length + 1) (L.flatMap cells6 ++ cells6 t)) :
    Coll (w1.setCell ⟨p, 0, none⟩ (.slice (some ⟨g, 0, none⟩) (L.length + 1) cap)) p (.slice (some ⟨g, 0, none⟩) (L.length + 1) cap) (L ++ [t]) where
  box := by simp [World.setCell, Array.getElem?_modify, hb]
  row := by
    rw [List.flatMap_append, List.flatMap_singleton]
    refine ⟨hown.1.trans (by simp), ?_⟩
    rcases hown.2 with ⟨h0, _⟩ | ⟨g', cap', cur, hv, hbase, hblk, r1, r2, r3, r4⟩
    · cases h0
    · cases hv
      refine .inr ⟨g, cap, cur, by rw [List.length_append]; rfl, hbase, ?_, by rw [List.length_append]; exact r1, r2, r3, by rw [List.length_append]; exact r4⟩
      rw [Below.heap_setCell _ _ _ _ (Ne.symm hpg)]; exact hblk

theorem step_next {W w1 : World} {p g n cap : Nat} {v u : Value} {L : List Tok} {o o' : Obj} (h : Coll W p v L) (hg : ((W.alloc o).alloc o').grownBy w1 v.ownBlock) (hat : v.ownBlock = some g ∨ g = W.heap.size + 2) :
    Step W (w1.setCell ⟨p, 0, none⟩ u) p v (.slice (some ⟨g, 0, none⟩) n cap) where
  only := ((((Only.refl _ W).alloc o).alloc o').grown hg (fun k hk _ => .inr hk)).setCell (.inl rfl) u
  fresh k hk := by
    have : g = k := by simpa [Value.ownBlock] using hk
    subst this
    rcases hat with e | e
    · exact .inl e
    · exact .inr (by omega)

set_option maxHeartbeats 2000000 in
theorem scan1_any (W : World) (p : Nat) (v : Value) (L : List Tok) (t : Tok) (h : Coll W p v L) (hL : L.length ≤ 65536) :
    Calls Tryd.prog 8 #[t.val, .pointer (some ⟨p, 0, none⟩)] W fun e W' => e = .returned (.bool true) ∧ ∃ v', Coll W' p v' (L ++ [t]) ∧ Step W W' p v v' := by
  obtain ⟨i0, hi0, hz0, hz1, hz2⟩ := info_parts Tryd.infoTok
  have hc := h.cell
  have hf := h.frozen
  have hlt := h.lt
  have HC := hide h
  clear h
  unfold Tok.val
  have hp1 : ¬ p = W.heap.size := by omega
  go_enter Tryd.func8, Tryd.ntmps8
  go_wp2_with (at_builtin; refine wpList_append_lies _ rfl _ _ 22 rfl p 32 i0 (.agg #[.int .i64 0, .string ⟨#[]⟩, .int .i64 0, .int .i64 0, .int .i64 0, .int .i64 0]) 6 56 Tryd.underlying22 hi0 hz0 hz1 hz2 rfl (by decide) v L.length (L.flatMap cells6) rfl (World.ownsRow.alloc (World.ownsRow.alloc HC.out.row _) _) ⟨W.heap.size + 1, 0, none⟩ 1 1 (cells6 t) rfl rfl (news6 W t _) (one6 t) (by decide) (by unfold maxLen; omega) (by omega) (by simp; omega) (W.heap.size + 2) (by simp) ?_; intro g cap' w1 hown1 hgrow hat hlt1; obtain ⟨hbx, hpg⟩ := after_append HC.out hgrow hat; have hc1 : w1.cell? ⟨p, 0, none⟩ = some v := (by simp [World.cell?, hbx]); have hf1 : w1.frozen? ⟨p, 0, none⟩ = false := (by simp [World.frozen?, hbx]); have HW := hide hown1; have HGr := hide hgrow; have HAt := hide hat; have HBx := hide hbx; have HPg := hide hpg; clear hown1 hgrow hat hbx hpg hc hf)
  go_ret
  exact ⟨rfl, _, coll_next HBx.out HPg.out HW.out, step_next HC.out HGr.out HAt.out⟩

end Go.Proofs.YtplldgkdjainlaaDoor
