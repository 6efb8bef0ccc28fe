/- edictlaw02.LexEach: what its literal answers, and the list up to a stop. -/
import Derived.Test.YtojgfngpndmfoaaDoorProg
import Derived.Test.YtojgfngpndmfoaaDoorLawScan
namespace Go.Proofs.YtojgfngpndmfoaaDoor
set_option linter.unusedSimpArgs false
set_option linter.unusedVariables false
open Go.RowKit
attribute [local go_sem] over_cellAt over_frozenAt over_setAt

def atAns (stop : Int) : Nat → Bool := fun n => ((n : Int) != stop)

theorem each_at {s : ByteArray} {stop : Int} {o : Nat} {r : List Tok} {c : Int} {f : Nat} (h : Toks s o r c f) : ∀ L : List Tok,
    eachF (atAns stop) s o L = if (L.length : Int) ≤ stop ∧ stop - L.length < r.length then (L ++ r.take ((stop - L.length).toNat + 1), 0, 0) else (L ++ r, c, f) := by
  induction h with
  | bad h1 h2 => intro L; rw [eachF_bad h2, if_neg (by simp)]; simp
  | last h1 h2 h3 =>
    intro L
    rw [eachF_stop h2 (.inr h3)]
    split
    · next h =>
      have h' : stop - L.length < 1 := h.2
      rw [show (stop - L.length).toNat = 0 by omega]; rfl
    · rfl
  | more h1 h2 h3 h4 ih =>
    intro L
    obtain ⟨-, -, a, b⟩ := next_tok h1 h2
    obtain ⟨_, b1, b2⟩ := b.resolve_left (fun h => h3 h.1)
    by_cases ha : (L.length : Int) = stop
    · rw [eachF_stop h2 (.inl (by unfold atAns; simp [ha]))]
      rw [show (stop - L.length).toNat = 0 by omega, if_pos ⟨by omega, by rw [List.length_cons]; omega⟩]
      rfl
    · rw [eachF_go h2 (by unfold atAns; simp [ha, h3]) (by omega) b2, ih]
      rw [List.length_append, List.length_singleton, List.length_cons]
      split
      · next hc =>
        rw [if_pos (by omega)]
        rw [show (stop - L.length).toNat = (stop - ((L.length + 1 : Nat) : Int)).toNat + 1 by omega, List.append_assoc]; rfl
      · next hc => rw [if_neg (by omega), List.append_assoc]; rfl

theorem at_scan (s : ByteArray) (stop : Int) : eachX (atAns stop) s = if 0 ≤ stop ∧ stop < ((scanX s).1.length : Int) then ((scanX s).1.take (stop.toNat + 1), 0, 0) else scanX s := by
  by_cases h : 65536 < s.size
  · rw [scan_long h, show eachX (atAns stop) s = ([], 1, 0) from if_pos h, if_neg (by simp)]
  · have e : eachX (atAns stop) s = eachF (atAns stop) s 0 [] := if_neg h
    rw [e, each_at (scan_toks s (by omega)) []]
    simp

theorem stop_block {W w1 : World} {p q : Nat} {v : Value} {L : List Tok} {o o' : Obj} (h : Coll W p v L) (hg : ((W.alloc o).alloc o').grownBy w1 v.ownBlock) (hq : q < p) : w1.heap[q]? = W.heap[q]? := by
  have hlt := h.lt
  rw [hg.block q (by simp; omega) (fun e => by have := (h.blk e.symm).1; omega)]
  have hb : Below W.heap.size W ((W.alloc o).alloc o') := ((Below.refl _ _).alloc (Nat.le_refl _) _).alloc (by simp) _
  exact hb.block q (by omega)

set_option maxHeartbeats 2000000 in
theorem each1_any (W : World) (p q : Nat) (stop : Int) (v : Value) (L : List Tok) (t : Tok) (h : Coll W p v L) (hL : L.length ≤ 65536) (hqp : q < p) (hq : W.cell? ⟨q, 0, none⟩ = some (.int .i64 stop)) :
    Calls Tryd.prog 9 #[t.val, .pointer (some ⟨p, 0, none⟩), .pointer (some ⟨q, 0, none⟩)] W fun e W' => e = .returned (.bool (atAns stop L.length)) ∧ ∃ v', Coll W' p v' (L ++ [t]) ∧ Step W W' p v v' := by
  obtain ⟨i0, hi0, hz0, hz1, hz2⟩ := info_parts Tryd.infoTok
  have hc := h.cell
  have hf := h.frozen
  have hlt := h.lt
  have HC := hide h
  have HQ := hide hq
  clear h hq
  unfold Tok.val
  have hp1 : ¬ p = W.heap.size := by omega
  have hqn : ¬ q = p := by omega
  have HA : Hid (atAns stop L.length = ((L.length : Int) != stop)) := rfl
  rw [HA.out]
  clear HA
  go_enter Tryd.func9, Tryd.ntmps9
  go_wp2_with (at_builtin; refine wpList_append_lies _ rfl _ _ 22 rfl p 30 i0 (.agg #[.int .i64 0, .string ⟨#[]⟩, .int .i64 0, .int .i64 0, .int .i64 0, .int .i64 0]) 6 56 Tryd.underlying22 hi0 hz0 hz1 hz2 rfl (by decide) v L.length (L.flatMap cells6) rfl (World.ownsRow.alloc (World.ownsRow.alloc HC.out.row _) _) ⟨W.heap.size + 1, 0, none⟩ 1 1 (cells6 t) rfl rfl (news6 W t _) (one6 t) (by decide) (by unfold maxLen; omega) (by omega) (by simp; omega) (W.heap.size + 2) (by simp) ?_; intro g cap' w1 hown1 hgrow hat hlt1; obtain ⟨hbx, hpg⟩ := after_append HC.out hgrow hat; have hc1 : w1.cell? ⟨p, 0, none⟩ = some v := (by simp [World.cell?, hbx]); have hf1 : w1.frozen? ⟨p, 0, none⟩ = false := (by simp [World.frozen?, hbx]); have hq1 : w1.cell? ⟨q, 0, none⟩ = some (.int .i64 stop) := ((World.cell?_of_block (w := W) (stop_block HC.out hgrow hqp)).trans HQ.out); have HW := hide hown1; have HGr := hide hgrow; have HAt := hide hat; have HBx := hide hbx; have HPg := hide hpg; clear hown1 hgrow hat hbx hpg hc hf)
  go_ret
  exact ⟨rfl, _, coll_next HBx.out HPg.out HW.out, step_next HC.out HGr.out HAt.out⟩

end Go.Proofs.YtojgfngpndmfoaaDoor
