/- A store and lists of rows beside it, from call to call. -/
import Derived.Test.YtcofoddjcgmmkaaStoreLaw8
import Derived.Test.YtcofoddjcgmmkaaStoreLaw7
import Derived.Test.YtcofoddjcgmmkaaStoreUndo2
namespace Go.Proofs.Ytcofoddjcgmmkaa
set_option linter.unusedSimpArgs false
set_option linter.unusedVariables false
open Go.RowKit Go.Maps
variable {mk : Mk}

theorem join_take (W T : List Rw) : (joinP W T).take W.length = W := by
  refine snoc_ind (P := fun T => (joinP W T).take W.length = W) (List.take_length ..) (fun T r ih => ?_) T
  rw [joinP_snoc]
  unfold joinOne
  split
  · exact ih
  · rw [List.take_append_of_le_length (joinP_len W T).1, ih]

theorem Keeps.undo {w : World} {p : Nat} {own : Own} {ar : List Int} {W : List Rw} {M n : Nat} (h : mayR ar W = true) (hs : St mk w p own ar ((W.map cellsR).take n) M) : Keeps mk w p own ar (W.take n) M :=
  ⟨by rw [List.map_take]; exact hs, mayR_iff.2 fun r hr => mayR_iff.1 h r (List.mem_of_mem_take hr)⟩

theorem free_nil (w : World) (own : Own) : FreeRows w own none 0 [] := ⟨rfl, by decide, by simp, fun h => absurd h (by decide)⟩

/-- The store at p, made behind w1, holds K; the lists of L stand beside it. -/
def BackAt (mk : Mk) (w1 wl : World) (p : Nat) (ar : List Int) (L : List (Option Addr × List Rw)) (K : List Rw) (M : Nat) : Prop :=
  ∃ own, Keeps mk wl p own ar K M ∧ TagsFrom own w1.heap.size ∧ Below w1.heap.size w1 wl ∧ ∀ x ∈ L, FreeRows wl own x.1 x.2.length x.2

section
variable {w1 wl : World} {p : Nat} {ar : List Int} {L : List (Option Addr × List Rw)} {K : List Rw} {M : Nat}
theorem BackAt.bel (h : BackAt mk w1 wl p ar L K M) : Below w1.heap.size w1 wl := by obtain ⟨_, _, _, hB, _⟩ := h; exact hB
theorem BackAt.below {w' : World} (h : BackAt mk w1 wl p ar L K M) (hb : Below wl.heap.size wl w') : BackAt mk w1 w' p ar L K M := by
  obtain ⟨own, hK, hT, hB, hF⟩ := h
  exact ⟨own, hK.below hb, hT, hB.trans (hb.mono hB.size), fun x hx => (hF x hx).below hb⟩

theorem BackAt.add (h : BackAt mk w1 wl p ar L K M) (a : Option Addr) {R : List Rw} (hx : (a, R) ∈ L) (hm : mayR ar R = true) {n c : Nat} (hn : R.length = n) (hM : M + 8 * n < 549755813888) :
    Calls Try.prog 9 #[.pointer (some ⟨p, 0, none⟩), .slice a n c] wl fun e w' => e = .returned (.tuple #[.int .i64 ((joinP K R).length - K.length : Nat), .int .i64 0]) ∧ BackAt mk w1 w' p ar L (joinP K R) (M + 8 * n) := by
  subst hn
  obtain ⟨own, hK, hT, hB, hF⟩ := h
  obtain ⟨hj, hjm⟩ := add_join ar K R hK.2 hm
  have := add_ok (cap := c) hK.1 (hF _ hx) hm hM
  rw [hj, List.length_map, List.length_map] at this
  refine this.mono ?_
  rintro e w' ⟨rfl, own', s', t'⟩
  obtain ⟨g1, g2⟩ := t'.from hT hB.size
  exact ⟨rfl, own', ⟨s', hjm⟩, g1, hB.trans g2, fun y hy => (hF y hy).turn t'⟩

theorem BackAt.holds (h : BackAt mk w1 wl p ar L K M) (hM : M < 549755813888) (a : Option Addr) (hx : (a, K) ∈ L) {n c : Nat} (hn : K.length = n) {pr : Nat} (hpr : pr < 1000000) :
    Calls Try.prog 12 #[.pointer (some ⟨p, 0, none⟩), .int .i64 (pr : Int), .slice a n c] wl fun e w' => e = .returned (.bool true) ∧ BackAt mk w1 w' p ar L K M := by
  subst hn
  have h' := h
  obtain ⟨own, hK, hT, hB, hF⟩ := h
  refine (holds_st (wc := c) hK hM (hF _ hx) hpr).mono ?_
  rintro e w' ⟨rfl, hb⟩
  exact ⟨rfl, h'.below hb⟩

theorem BackAt.holdsNil (h : BackAt mk w1 wl p ar L [] M) (hM : M < 549755813888) {pr : Nat} (hpr : pr < 1000000) :
    Calls Try.prog 12 #[.pointer (some ⟨p, 0, none⟩), .int .i64 (pr : Int), .slice none 0 0] wl fun e w' => e = .returned (.bool true) ∧ BackAt mk w1 w' p ar L [] M := by
  have h' := h
  obtain ⟨own, hK, hT, hB, hF⟩ := h
  refine (holds_st (wc := 0) hK hM (free_nil wl own) hpr).mono ?_
  rintro e w' ⟨rfl, hb⟩
  exact ⟨rfl, h'.below hb⟩

theorem BackAt.undo (h : BackAt mk0 w1 wl p ar L K M) {n : Nat} (hn : n ≤ K.length) (hM : M + 8 * K.length < 68719476736) :
    Calls Try.prog 35 #[.pointer (some ⟨p, 0, none⟩), .int .i64 (n : Int)] wl fun e w' => e = .returned (.int .i64 0) ∧ BackAt mk0 w1 w' p ar L (K.take n) (M + 8 * K.length) := by
  obtain ⟨own, hK, hT, hB, hF⟩ := h
  have := undo_ok (n := n) hK.1 (by rw [List.length_map]; exact hn) (by rw [List.length_map]; exact hM)
  rw [List.length_map] at this
  refine this.mono ?_
  rintro e w' ⟨rfl, s', t'⟩
  obtain ⟨g1, g2⟩ := t'.from hT hB.size
  exact ⟨rfl, own, Keeps.undo hK.2 s', g1, hB.trans g2, fun y hy => (hF y hy).turn t'⟩

theorem BackAt.more (h : BackAt mk0 w1 wl p ar L K M) {n : Int} (hn : (K.length : Int) < n) :
    Calls Try.prog 35 #[.pointer (some ⟨p, 0, none⟩), .int .i64 n] wl fun e w' => e = .returned (.int .i64 2) ∧ w' = wl := by
  obtain ⟨own, hK, hT, hB, hF⟩ := h
  exact undo_more hK.1 (by rw [List.length_map]; exact hn) (by omega)

theorem BackAt.len (h : BackAt mk w1 wl p ar L K M) : Calls Try.prog 22 #[.pointer (some ⟨p, 0, none⟩)] wl fun e w' => e = .returned (.int .i64 K.length) ∧ w' = wl := by
  obtain ⟨own, hK, hT, hB, hF⟩ := h
  have := len_st hK.1
  rwa [List.length_map] at this
end
end Go.Proofs.Ytcofoddjcgmmkaa
