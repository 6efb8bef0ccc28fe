/- Of a predicate that has rows: a list with its room. -/
import Derived.Test.YtcofoddjcgmmkaaStoreGoEach
namespace Go.Proofs.Ytcofoddjcgmmkaa
set_option linter.unusedSimpArgs false
set_option linter.unusedVariables false
open Go.RowKit Go.Maps
variable {mk : Mk}

theorem clone_cap {w : World} {ao : Option Addr} {len cap : Nat} {l : List Int} (h : IsInts w ao len l) (hpos : 0 < len) :
    Calls Try.prog 38 #[.slice ao len cap] w fun e w' => ∃ ao' cap', e = .returned (.slice ao' len cap') ∧ IsInts w' ao' len l ∧ Below w.heap.size w w' ∧ len ≤ cap' := by
  obtain ⟨b, off, rfl, hc⟩ := h.2.2.2 hpos
  refine (clone_pos (cap := cap) h hpos).mono ?_
  rintro e w' ⟨g, cap', rfl, hown, hB⟩
  refine ⟨_, _, rfl, ⟨h.1, h.2.1, h.2.2.1, fun _ => ⟨g, 0, rfl, fun i x hi => ?_⟩⟩, hB, ?_⟩
  · have := own_at hown (j := i) (u := .int .i64 x) (by rw [List.getElem?_map, hi]; rfl)
    rw [Nat.zero_add]; exact this
  · obtain ⟨ao, c, e, hle, -⟩ := own_shape6 hown
    cases e
    exact hle

theorem of_cap {w : World} {p : Nat} {own : Own} {ar : List Int} {W : List Rw} {M : Nat} (h : Keeps mk w p own ar W M) (hM : M < 549755813888) {x : Int} (hx : I64 x) (hpos : 0 < (posP W x).length) :
    Calls Try.prog 18 #[.pointer (some ⟨p, 0, none⟩), .int .i64 x] w fun e w' => ∃ ao cap, e = .returned (.slice ao (posP W x).length cap) ∧ IsInts w' ao (posP W x).length (posP W x) ∧ Below w.heap.size w w' ∧ (posP W x).length ≤ cap := by
  have hl := posP_len W x
  have hn := h.num
  obtain ⟨L, S, hR, hS, _⟩ := h.1
  have e : S.O (.int .i64 x) = posP W x := by rw [hS.eO]; exact index_pos ar W x
  obtain ⟨v, hrun, hv⟩ := hR.of.look (t := 62) (te := 22) lawInt Try.underlying62 (zeroInts w) (keyOf_pred hx)
  rw [e] at hv
  obtain ⟨ao, cap, rfl, hi, hn'⟩ := row_ints hv (by omega) (by intro y hy; have := hl.2 y hy; exact ⟨by omega, by omega⟩)
  have c6 := hR.c6
  have HC := hide (clone_cap (cap := cap) hi hpos)
  clear hR hS hv hi hn' hl hn h hx hpos e
  generalize (posP W x).length = n at *
  go_enter Try.func18, Try.ntmps18
  go_wp2_with (go_at_call 38; refine HC.out.mono ?_; rintro e w2 ⟨ao2, cap2, rfl, q1⟩; have Q1 := hide q1; clear q1)
  go_ret
  exact ⟨_, _, rfl, Q1.out⟩
theorem isInts_take {w : World} {ao : Option Addr} {n : Nat} {l : List Int} (h : IsInts w ao n l) {m : Nat} (hm : m ≤ n) : IsInts w ao m (l.take m) :=
  ⟨by rw [List.length_take, h.1]; omega, by have := h.2.1; omega, fun x hx => h.2.2.1 x (List.mem_of_mem_take hx), fun hp => by
    obtain ⟨b, off, e, hc⟩ := h.2.2.2 (by omega)
    exact ⟨b, off, e, fun i x hx => hc i x (by rw [List.getElem?_take] at hx; split at hx <;> simp_all)⟩⟩
end Go.Proofs.Ytcofoddjcgmmkaa
