/- What Num and Has answer. -/
import Derived.Test.YtcofoddjcgmmkaaProg
import Derived.Test.YtcofoddjcgmmkaaStoreSt
namespace Go.Proofs.Ytcofoddjcgmmkaa
set_option linter.unusedSimpArgs false
set_option linter.unusedVariables false
open Go.RowKit Go.Maps
variable {mk : Mk}

/-- The number of a row, or -1. -/
def numP (ar : List Int) (C : List (List Int)) (q : Int) (l : List Int) : Int := if mayP ar q l = true ∧ cellsP q l ∈ C then (C.idxOf (cellsP q l) : Int) else -1

theorem St.look {w : World} {p : Nat} {own : Own} {ar : List Int} {C : List (List Int)} {M : Nat} {L : Loc} {S : Sto} (hR : Raw w own p L S) (hS : Sane mk ar C M L S) {c : List Int} (hc : RowOk ar c) :
    ∀ W : World, W.heap[L.m1]? = w.heap[L.m1]? → (Instr.lookup 61 (.map (some L.m1)) (.agg (ints c).toArray) true).run Try.prog W = .ok (.tuple #[.int .i64 (if c ∈ C then (C.idxOf c : Int) else 0), .bool (decide (c ∈ C))]) W := by
  intro W hW
  obtain ⟨h9, hI, _⟩ := hc.len hS.arI
  have hm := hR.nums.same hW
  rw [hS.eN] at hm
  by_cases h : c ∈ C
  · have hi : C[C.idxOf c]? = some c := by rw [List.getElem?_eq_getElem (List.idxOf_lt_length_of_mem h), List.getElem_idxOf]
    have := hm.look_some (t := 61) (Keyed.of_law lawCells) Try.underlying61 Try.underlying3 (zeroInt W) (keyOf_cells h9 hI) (i := C.idxOf c) ⟨c, hi, rfl⟩
    rw [this]; simp [h]
  · have := hm.look_none (t := 61) (Keyed.of_law lawCells) Try.underlying61 Try.underlying3 (zeroInt W) (keyOf_cells h9 hI) (fun i ⟨c', h1, h2⟩ => by
      have hc' := List.mem_of_getElem? h1
      obtain ⟨h9', hI', _⟩ := (hS.ok c' hc').len hS.arI
      exact h (litI_inj9 h9' h9 hI' hI h2 ▸ hc'))
    rw [this]; simp [h]

set_option maxRecDepth 100000 in
set_option maxHeartbeats 4000000 in
theorem num_any {w : World} {p : Nat} {own : Own} {ar : List Int} {C : List (List Int)} {M : Nat} (h : St mk w p own ar C M) {q : Int} (hq : I64 q) {ao : Option Addr} {len cap : Nat} {l : List Int} (hi : IsInts w ao len l) :
    Calls Try.prog 23 #[.pointer (some ⟨p, 0, none⟩), .agg #[.int .i64 q, .slice ao len cap]] w fun e w' => e = .returned (.int .i64 (numP ar C q l)) ∧ Below w.heap.size w w' := by
  obtain ⟨L, S, hR, hS, hlim⟩ := h
  have HB : Hid (Below w.heap.size w (w.alloc (.cells #[.int .i64 q, .slice ao len cap] 31))) := (Below.refl _ _).alloc (Nat.le_refl _) _
  have har : S.ar.length < 1099511627776 := by have := hS.arL; rw [hS.eAr]; omega
  have HMay : Hid (∀ W, Below w.heap.size w W → Calls Try.prog 26 #[.pointer (some ⟨p, 0, none⟩), .agg #[.int .i64 q, .slice ao len cap]] W fun e w' => e = .returned (.bool (mayP ar q l)) ∧ Below W.heap.size W w') := fun W hB => by
    have := mayBe_any (cap := cap) (hR.below hB) hq (hi.kept hB) har (by rw [hS.eAr]; exact hS.arI)
    rw [hS.eAr] at this
    exact this
  cases hm : mayP ar q l with
  | false =>
    have e : numP ar C q l = -1 := by simp [numP, hm]
    rw [e]
    rw [hm] at HMay
    clear hR hS hi hlim har e
    go_enter Try.func23, Try.ntmps23
    go_wp2_with (go_at_call 26; refine (HMay.out _ HB.out).mono ?_; rintro e w2 ⟨rfl, hb2⟩; have HB2 := hide (HB.out.trans (hb2.mono HB.out.size)); clear hb2)
    go_ret
    exact ⟨rfl, HB2.out⟩
  | true =>
    obtain ⟨k, hk, hak, hbad⟩ := mayP_spec hm
    have hl8 : len ≤ 8 := by have := hS.arI _ (List.mem_of_getElem? hak); rw [hi.1] at this; omega
    have hok : RowOk ar (cellsP q l) := ⟨q, l, rfl, hm, hq, hi.2.2.1⟩
    have HLk := hide (St.look hR hS hok)
    have HCl : Hid (∀ W, Below w.heap.size w W → Calls Try.prog 27 #[.agg #[.int .i64 q, .slice ao len cap]] W fun e w' => e = .returned (.agg (ints (cellsP q l)).toArray) ∧ Below W.heap.size W w') := fun W hB => cellsOf_any (hi.kept hB) hl8
    rw [hm] at HMay
    have c5 := hR.c5
    have HM1 := hide hR.nums.lt
    have e : numP ar C q l = if cellsP q l ∈ C then (C.idxOf (cellsP q l) : Int) else -1 := by simp [numP, hm]
    rw [e]
    clear hi hlim har e hok hak hbad hS hR hk hm hl8 hq
    have r0 : (w.alloc (.cells #[.int .i64 q, .slice ao len cap] 31)).cell? ⟨w.heap.size, 0, none⟩ = some (.int .i64 q) := by simp
    have r1 : (w.alloc (.cells #[.int .i64 q, .slice ao len cap] 31)).cell? ⟨w.heap.size, 1, none⟩ = some (.slice ao len cap) := by simp
    by_cases hmem : cellsP q l ∈ C
    · rw [if_pos hmem]
      have HLk2 : Hid (∀ W : World, W.heap[L.m1]? = w.heap[L.m1]? → (Instr.lookup 61 (.map (some L.m1)) (.agg (ints (cellsP q l)).toArray) true).run Try.prog W = .ok (.tuple #[.int .i64 (C.idxOf (cellsP q l) : Int), .bool true]) W) := fun W hW => by
        have := HLk.out W hW
        simpa [hmem] using this
      clear HLk hmem
      go_enter Try.func23, Try.ntmps23
      go_upto_region 5 with (go_at_call 26; refine (HMay.out _ HB.out).mono ?_; rintro e w2 ⟨rfl, hb2⟩; have q0 := kept_cell hb2 r0; have q1 := kept_cell hb2 r1; have HB2 := hide (HB.out.trans (hb2.mono HB.out.size)); have q5 := kept_cell HB2.out c5; clear hb2)
      go_region_held3 (fun w' => w'.cell? ⟨p, 5, none⟩ = some (.map (some L.m1)) ∧ w'.cell? ⟨w.heap.size, 0, none⟩ = some (.int .i64 q) ∧ w'.cell? ⟨w.heap.size, 1, none⟩ = some (.slice ao len cap))
        (first
          | exact hS3
          | (go_keep; done))
        (first
          | (go_at_call 27; refine (HCl.out _ (HB2.out.trans (below_drewN _ _ 1))).mono ?_; rintro e w3 ⟨rfl, hb3⟩; have hb4 : Below w2.heap.size w2 w3 := (below_drewN _ w2 1).trans hb3; have hS3 := And.intro (kept_cell hb4 q5) (And.intro (kept_cell hb4 q0) (kept_cell hb4 q1)); have HB3 := hide (HB2.out.trans (hb4.mono HB2.out.size)); have hl3 := HLk2.out w3 (HB3.out.block _ HM1.out); clear hb3 hb4))
      all_goals (go_wp2; go_ret; exact ⟨rfl, HB3.out⟩)
    · rw [if_neg hmem]
      have HLk2 : Hid (∀ W : World, W.heap[L.m1]? = w.heap[L.m1]? → (Instr.lookup 61 (.map (some L.m1)) (.agg (ints (cellsP q l)).toArray) true).run Try.prog W = .ok (.tuple #[.int .i64 0, .bool false]) W) := fun W hW => by
        have := HLk.out W hW
        simpa [hmem] using this
      clear HLk hmem
      go_enter Try.func23, Try.ntmps23
      go_upto_region 5 with (go_at_call 26; refine (HMay.out _ HB.out).mono ?_; rintro e w2 ⟨rfl, hb2⟩; have q0 := kept_cell hb2 r0; have q1 := kept_cell hb2 r1; have HB2 := hide (HB.out.trans (hb2.mono HB.out.size)); have q5 := kept_cell HB2.out c5; clear hb2)
      go_region_held3 (fun w' => w'.cell? ⟨p, 5, none⟩ = some (.map (some L.m1)) ∧ w'.cell? ⟨w.heap.size, 0, none⟩ = some (.int .i64 q) ∧ w'.cell? ⟨w.heap.size, 1, none⟩ = some (.slice ao len cap))
        (first
          | exact hS3
          | (go_keep; done))
        (first
          | (go_at_call 27; refine (HCl.out _ (HB2.out.trans (below_drewN _ _ 1))).mono ?_; rintro e w3 ⟨rfl, hb3⟩; have hb4 : Below w2.heap.size w2 w3 := (below_drewN _ w2 1).trans hb3; have hS3 := And.intro (kept_cell hb4 q5) (And.intro (kept_cell hb4 q0) (kept_cell hb4 q1)); have HB3 := hide (HB2.out.trans (hb4.mono HB2.out.size)); have hl3 := HLk2.out w3 (HB3.out.block _ HM1.out); clear hb3 hb4))
      all_goals (go_wp2; go_ret; exact ⟨rfl, HB3.out⟩)
end Go.Proofs.Ytcofoddjcgmmkaa
