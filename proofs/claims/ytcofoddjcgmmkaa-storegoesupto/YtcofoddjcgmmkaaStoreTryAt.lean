/- A store, lists of rows and variables beside it, from call to call; what StoreTry's own function does. -/
import Derived.Test.YtcofoddjcgmmkaaStoreLaw10
import Derived.Test.YtcofoddjcgmmkaaStoreTry
namespace Go.Proofs.Ytcofoddjcgmmkaa
set_option linter.unusedSimpArgs false
set_option linter.unusedVariables false
open Go.RowKit Go.Maps

/-- The store at p, made behind w1, holds K; what stood in wb and was nobody's still stands; the variables X are nobody's. -/
def TryAt (mk : Mk) (w1 wb wl : World) (p : Nat) (own0 : Own) (ar : List Int) (X : List (Addr × Value)) (K : List Rw) (M : Nat) : Prop :=
  ∃ own, Keeps mk wl p own ar K M ∧ TagsFrom own w1.heap.size ∧ Below w1.heap.size w1 wl ∧ Turn (fun _ => True) own0 own wb wl ∧ ∀ x ∈ X, wl.cell? x.1 = some x.2 ∧ own x.1.block = none ∧ wl.frozen? x.1 = false

theorem frozen_of {w w' : World} {a : Addr} (h : w'.heap[a.block]? = w.heap[a.block]?) : w'.frozen? a = w.frozen? a := by unfold World.frozen?; rw [h]

section
variable {mk : Mk} {w1 wb wl : World} {p : Nat} {own0 : Own} {ar : List Int} {X : List (Addr × Value)} {K : List Rw} {M : Nat}
theorem TryAt.bel (h : TryAt mk w1 wb wl p own0 ar X K M) : Below w1.heap.size w1 wl := by obtain ⟨_, _, _, hB, _⟩ := h; exact hB
theorem TryAt.cell (h : TryAt mk w1 wb wl p own0 ar X K M) {a : Addr} {v : Value} (hx : (a, v) ∈ X) : wl.cell? a = some v := by obtain ⟨_, _, _, _, _, hX⟩ := h; exact (hX _ hx).1
theorem TryAt.sub (h : TryAt mk w1 wb wl p own0 ar X K M) {X' : List (Addr × Value)} (hx : ∀ x ∈ X', x ∈ X) : TryAt mk w1 wb wl p own0 ar X' K M := by
  obtain ⟨own, hK, hT, hB, hU, hX⟩ := h
  exact ⟨own, hK, hT, hB, hU, fun x hx' => hX x (hx x hx')⟩
theorem TryAt.below {w' : World} (h : TryAt mk w1 wb wl p own0 ar X K M) (hb : Below wl.heap.size wl w') : TryAt mk w1 wb w' p own0 ar X K M := by
  obtain ⟨own, hK, hT, hB, hU, hX⟩ := h
  exact ⟨own, hK.below hb, hT, hB.trans (hb.mono hB.size), hU.trans (Turn.below hb), fun x hx => ⟨kept_cell hb (hX x hx).1, (hX x hx).2.1, by rw [frozen_of (hb.block _ (lt_of_cell (hX x hx).1))]; exact (hX x hx).2.2⟩⟩
theorem TryAt.frozen (h : TryAt mk w1 wb wl p own0 ar X K M) {a : Addr} {v : Value} (hx : (a, v) ∈ X) : wl.frozen? a = false := by obtain ⟨_, _, _, _, _, hX⟩ := h; exact (hX _ hx).2.2
theorem TryAt.box (h : TryAt mk w1 wb wl p own0 ar X K M) (v : Value) (T : TypeId) : TryAt mk w1 wb (wl.alloc (.cells #[v] T)) p own0 ar ((⟨wl.heap.size, 0, none⟩, v) :: X) K M := by
  have hb : Below wl.heap.size wl (wl.alloc (.cells #[v] T)) := (Below.refl _ _).alloc (Nat.le_refl _) _
  obtain ⟨own, hK, hT, hB, hU, hX⟩ := h
  refine ⟨own, hK.below hb, hT, hB.trans (hb.mono hB.size), hU.trans (Turn.below hb), fun x hx => ?_⟩
  rcases List.mem_cons.1 hx with rfl | hx
  · refine ⟨by simp, ?_, by show World.frozen? _ ⟨wl.heap.size, 0, none⟩ = false; unfold World.frozen?; rw [heap_alloc_new]; rfl⟩
    cases ho : own wl.heap.size with
    | none => rfl
    | some t => exact absurd (hK.1.lim _ (by rw [ho]; simp)) (by omega)
  · exact ⟨kept_cell hb (hX x hx).1, (hX x hx).2.1, by rw [frozen_of (hb.block _ (lt_of_cell (hX x hx).1))]; exact (hX x hx).2.2⟩
theorem TryAt.put {q : Nat} {u0 u : Value} (h : TryAt mk w1 wb wl p own0 ar ((⟨q, 0, none⟩, u0) :: X) K M) (hq : wb.heap.size ≤ q) (h1 : w1.heap.size ≤ q) (hX : ∀ x ∈ X, x.1.block ≠ q) : TryAt mk w1 wb (wl.setCell ⟨q, 0, none⟩ u) p own0 ar ((⟨q, 0, none⟩, u) :: X) K M := by
  obtain ⟨own, hK, hT, hB, hU, hY⟩ := h
  obtain ⟨hc, hn, hz⟩ := hY _ List.mem_cons_self
  dsimp only at hc hn hz
  have ho : Only (fun k => own k = none) wl (wl.setCell ⟨q, 0, none⟩ u) := (Only.refl _ _).setCell hn u
  refine ⟨own, ⟨hK.1.keep ho, hK.2⟩, hT, hB.setCell h1 u, ⟨?_, hU.ext⟩, fun x hx => ?_⟩
  · obtain ⟨o1, o2, o3, o4, o5⟩ := hU.only
    have hb : Below wb.heap.size wl (wl.setCell ⟨q, 0, none⟩ u) := (Below.refl _ _).setCell hq u
    exact ⟨hb.os.trans o1, hb.tape.trans o2, hb.output.trans o3, Nat.le_trans o4 hb.size, fun k hk hS => (hb.block k hk).trans (o5 k hk hS)⟩
  · rcases List.mem_cons.1 hx with rfl | hx
    · exact ⟨by simp [World.cell?_setCell_same, hc], hn, by rw [World.frozen?_setCell]; exact hz⟩
    · have := hY x (List.mem_cons_of_mem _ hx)
      have hne := hX x hx
      refine ⟨?_, this.2.1, ?_⟩
      · rw [← this.1]
        exact World.cell?_of_block (Below.heap_setCell _ _ _ _ hne)
      · rw [frozen_of (Below.heap_setCell _ _ _ _ hne)]
        exact this.2.2

theorem TryAt.add (h : TryAt mk w1 wb wl p own0 ar X K M) {a : Option Addr} {R : List Rw} {n c : Nat} (hx : FreeRows wb own0 a n R) (hm : mayR ar R = true) (hn : R.length = n) (hM : M + 8 * n < 549755813888) :
    Calls Try.prog 9 #[.pointer (some ⟨p, 0, none⟩), .slice a n c] wl fun e w' => e = .returned (.tuple #[.int .i64 ((joinP K R).length - K.length : Nat), .int .i64 0]) ∧ TryAt mk w1 wb w' p own0 ar X (joinP K R) (M + 8 * n) := by
  subst hn
  obtain ⟨own, hK, hT, hB, hU, hX⟩ := h
  obtain ⟨hj, hjm⟩ := add_join ar K R hK.2 hm
  have := add_ok (cap := c) hK.1 (hx.turn hU) hm hM
  rw [hj, List.length_map, List.length_map] at this
  refine this.mono ?_
  rintro e w' ⟨rfl, own', s', t'⟩
  obtain ⟨g1, g2⟩ := t'.from hT hB.size
  exact ⟨rfl, own', ⟨s', hjm⟩, g1, hB.trans g2, hU.trans t', fun x hx => ⟨t'.cell (hX x hx).1 (hX x hx).2.1, by rw [t'.ext _ (lt_of_cell (hX x hx).1)]; exact (hX x hx).2.1, by rw [frozen_of (t'.block (lt_of_cell (hX x hx).1) (fun t ht => by rw [(hX x hx).2.1] at ht; cases ht))]; exact (hX x hx).2.2⟩⟩

theorem TryAt.holds (h : TryAt mk w1 wb wl p own0 ar X K M) (hM : M < 549755813888) {a : Option Addr} {n c : Nat} (hx : FreeRows wb own0 a n K) (hn : K.length = n) {pr : Nat} (hpr : pr < 1000000) :
    Calls Try.prog 12 #[.pointer (some ⟨p, 0, none⟩), .int .i64 (pr : Int), .slice a n c] wl fun e w' => e = .returned (.bool true) ∧ TryAt mk w1 wb w' p own0 ar X K M := by
  subst hn
  have h' := h
  obtain ⟨own, hK, hT, hB, hU, hX⟩ := h
  refine (holds_st (wc := c) hK hM (hx.turn hU) hpr).mono ?_
  rintro e w' ⟨rfl, hb⟩
  exact ⟨rfl, h'.below hb⟩

theorem TryAt.mark (h : TryAt mk w1 wb wl p own0 ar X K M) : ∃ b : Int, wl.cell? ⟨p, 4, none⟩ = some (.int .i64 b) ∧ TryAt ⟨K.length, b⟩ w1 wb wl p own0 ar X K M := by
  obtain ⟨own, hK, rest⟩ := h
  obtain ⟨b, hb, -, hs⟩ := hK.1.mark
  rw [List.length_map] at hs
  exact ⟨b, hb, own, ⟨hs, hK.2⟩, rest⟩
theorem TryAt.base (h : TryAt mk w1 wb wl p own0 ar X K M) : TryAt mk0 w1 wb wl p own0 ar X K M := by
  obtain ⟨own, hK, rest⟩ := h
  exact ⟨own, ⟨hK.1.base, hK.2⟩, rest⟩
end
end Go.Proofs.Ytcofoddjcgmmkaa
