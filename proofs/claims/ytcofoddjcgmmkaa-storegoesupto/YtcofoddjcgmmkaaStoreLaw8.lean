/- What is added is what is joined: rows as lists and rows as cells. -/
import Derived.Test.YtcofoddjcgmmkaaStoreLaw7
namespace Go.Proofs.Ytcofoddjcgmmkaa
set_option linter.unusedSimpArgs false
set_option linter.unusedVariables false
open Go.RowKit Go.Maps

theorem mayR_iff {ar : List Int} {R : List Rw} : mayR ar R = true ↔ ∀ r ∈ R, mayP ar r.1 r.2 = true := by
  unfold mayR
  exact List.all_eq_true

theorem cellsR_inj {ar : List Int} {r s : Rw} (hr : mayP ar r.1 r.2 = true) (hs : mayP ar s.1 s.2 = true) (h : cellsR r = cellsR s) : r = s := by
  obtain ⟨q, l⟩ := r
  obtain ⟨q', l'⟩ := s
  simp only [cellsR, cellsP, List.cons.injEq] at h
  obtain ⟨rfl, h⟩ := h
  obtain ⟨k, hk, ha, _⟩ := mayP_spec hr
  obtain ⟨k', hk', ha', _⟩ := mayP_spec hs
  simp only at hk hk' ha ha'
  have : k = k' := by omega
  subst this
  rw [ha] at ha'
  have hl : l.length = l'.length := by
    have := Option.some.inj ha'
    omega
  have := List.append_inj_left h hl
  rw [this]

theorem knownP_iff {ar : List Int} {W : List Rw} {r : Rw} (hW : ∀ x ∈ W, mayP ar x.1 x.2 = true) (hr : mayP ar r.1 r.2 = true) : knownP W r = true ↔ cellsR r ∈ W.map cellsR := by
  unfold knownP
  rw [List.any_eq_true]
  constructor
  · rintro ⟨x, hx, he⟩
    rw [(eqRw_iff x r).1 he] at hx
    exact List.mem_map.2 ⟨r, hx, rfl⟩
  · intro h
    obtain ⟨x, hx, he⟩ := List.mem_map.1 h
    exact ⟨x, hx, (eqRw_iff x r).2 (cellsR_inj (hW x hx) hr he)⟩

theorem add_join (ar : List Int) (W T : List Rw) (hW : mayR ar W = true) (hT : mayR ar T = true) : addC (W.map cellsR) T = (joinP W T).map cellsR ∧ mayR ar (joinP W T) = true := by
  revert hT
  refine snoc_ind (P := fun T => mayR ar T = true → addC (W.map cellsR) T = (joinP W T).map cellsR ∧ mayR ar (joinP W T) = true) (fun _ => ⟨rfl, hW⟩) (fun T r ih hT => ?_) T
  rw [mayR_iff] at hT
  obtain ⟨h1, h2⟩ := ih (mayR_iff.2 fun x hx => hT x (by simp [hx]))
  have hr := hT r (by simp)
  have h2' := mayR_iff.1 h2
  rw [addC_snoc, joinP_snoc, h1]
  unfold joinOne
  cases hk : knownP (joinP W T) r with
  | true =>
    have hm := (knownP_iff h2' hr).1 hk
    rw [if_pos rfl]
    exact ⟨addOne_in hm, h2⟩
  | false =>
    have hm : cellsR r ∉ (joinP W T).map cellsR := fun h => by rw [(knownP_iff h2' hr).2 h] at hk; cases hk
    rw [if_neg (by simp)]
    refine ⟨by rw [List.map_append]; exact addOne_new hm, mayR_iff.2 fun x hx => ?_⟩
    rcases List.mem_append.1 hx with h | h
    · exact h2' x h
    · simp only [List.mem_singleton] at h; rw [h]; exact hr

theorem join_self (W T : List Rw) (h : ∀ r ∈ T, r ∈ W) : joinP W T = W := by
  revert h
  refine snoc_ind (P := fun T => (∀ r ∈ T, r ∈ W) → joinP W T = W) (fun _ => rfl) (fun T r ih h => ?_) T
  rw [joinP_snoc, ih (fun x hx => h x (by simp [hx]))]
  unfold joinOne
  rw [if_pos]
  exact List.any_eq_true.2 ⟨r, h r (by simp), (eqRw_iff r r).2 rfl⟩

theorem shape_may {ar : List Int} (hf : fitsP ar = true) (R : List Rw) : mayR (ar ++ [0]) (shapeP ar R) = true := by
  refine mayR_iff.2 fun x hx => ?_
  obtain ⟨r, _, rfl⟩ := List.mem_map.1 hx
  obtain ⟨_, hbad⟩ := fits_bounds hf
  have h1 := Int.emod_nonneg r.1 (show (ar.length : Int) + 1 ≠ 0 by omega)
  have h2 := Int.emod_lt_of_pos r.1 (show (0 : Int) < (ar.length : Int) + 1 by omega)
  unfold shapeOne
  simp only
  obtain ⟨k, hk⟩ : ∃ k : Nat, r.1.emod ((ar.length : Int) + 1) = k := ⟨_, (Int.toNat_of_nonneg h1).symm⟩
  have h2' : (k : Int) < (ar.length : Int) + 1 := by have e : r.1 % ((ar.length : Int) + 1) = k := hk; omega
  rw [hk]
  unfold mayP
  have ha : (ar ++ [0])[k]? = some (((ar.getD k 0).toNat : Nat) : Int) := by
    rcases Nat.lt_or_ge k ar.length with h | h
    · rw [List.getElem?_append_left h, List.getElem?_eq_getElem h]
      have hx := List.any_eq_false.1 hbad ar[k] (List.getElem_mem h)
      simp [badAr] at hx
      simp only [List.getD, List.getElem?_eq_getElem h, Option.getD_some, Option.some.injEq]
      omega
    · have : k = ar.length := by omega
      subst this
      simp [List.getD]
  have hneg : (((List.range (ar.getD (k : Int).toNat 0).toNat).map fun j => argP (r.2.getD j 0)).any badId) = false := by
    rw [List.any_eq_false]
    intro y hy
    obtain ⟨j, _, rfl⟩ := List.mem_map.1 hy
    generalize r.2.getD j 0 = v
    unfold badId argP
    split <;> simp <;> omega
  rw [hneg]
  simp only [Int.toNat_natCast, List.length_map, List.length_range, List.length_append, List.length_singleton, ha]
  simp
  omega

/-- Batches of rows in memory. -/
def IsBats (w : World) (own : Own) (ao : Option Addr) (len : Nat) (B : List (List Rw)) : Prop :=
  B.length = len ∧ len < 1099511627776 ∧ (0 < len → ∃ b off, ao = some ⟨b, off, none⟩ ∧ own b = none ∧ ∀ i R, B[i]? = some R → ∃ a c, w.cell? ⟨b, off + i, none⟩ = some (.slice a R.length c) ∧ FreeRows w own a R.length R)

theorem IsBats.turn {A : Tag → Prop} {own own' : Own} {w w' : World} {ao : Option Addr} {len : Nat} {B : List (List Rw)} (h : IsBats w own ao len B) (hT : Turn A own own' w w') : IsBats w' own' ao len B := by
  obtain ⟨h1, h2, h3⟩ := h
  refine ⟨h1, h2, fun hp => ?_⟩
  obtain ⟨b, off, rfl, hn, hc⟩ := h3 hp
  obtain ⟨R, hR⟩ : ∃ R, B[0]? = some R := ⟨_, List.getElem?_eq_getElem (by omega)⟩
  obtain ⟨a, c, hcell, _⟩ := hc 0 R hR
  have hlt := lt_of_cell hcell
  refine ⟨b, off, rfl, by rw [hT.ext b hlt]; exact hn, fun i R hR => ?_⟩
  obtain ⟨a, c, hcell, hf⟩ := hc i R hR
  exact ⟨a, c, hT.cell hcell hn, hf.turn hT⟩

/-- What was there ahead of the store bears no tag, whatever the store's tags are. -/
theorem FreeInts.retag {own own' : Own} {w : World} {ao : Option Addr} {len : Nat} {l : List Int} (h : FreeInts w own ao len l) (ho : ∀ k, k < w.heap.size → own' k = none) : FreeInts w own' ao len l :=
  ⟨h.1, fun hp a ha => by
    obtain ⟨b, off, e, hc⟩ := h.1.2.2.2 hp
    rw [ha] at e
    cases e
    obtain ⟨x, hx⟩ : ∃ x, l[0]? = some x := ⟨_, List.getElem?_eq_getElem (by have := h.1.1; omega)⟩
    exact ho b (lt_of_cell (hc 0 x hx))⟩
theorem FreeRows.retag {own own' : Own} {w : World} {ao : Option Addr} {len : Nat} {R : List Rw} (h : FreeRows w own ao len R) (ho : ∀ k, k < w.heap.size → own' k = none) : FreeRows w own' ao len R := by
  obtain ⟨h1, h2, h3, h4⟩ := h
  refine ⟨h1, h2, h3, fun hp => ?_⟩
  obtain ⟨b, off, rfl, hn, hc⟩ := h4 hp
  obtain ⟨r, hr⟩ : ∃ r, R[0]? = some r := ⟨_, List.getElem?_eq_getElem (by omega)⟩
  refine ⟨b, off, rfl, ho b (lt_of_cell (hc 0 r hr).1), fun i r hr => ?_⟩
  obtain ⟨k1, ao, cap, k2, k3⟩ := hc i r hr
  exact ⟨k1, ao, cap, k2, k3.retag ho⟩
theorem IsBats.retag {own own' : Own} {w : World} {ao : Option Addr} {len : Nat} {B : List (List Rw)} (h : IsBats w own ao len B) (ho : ∀ k, k < w.heap.size → own' k = none) : IsBats w own' ao len B := by
  obtain ⟨h1, h2, h3⟩ := h
  refine ⟨h1, h2, fun hp => ?_⟩
  obtain ⟨b, off, rfl, hn, hc⟩ := h3 hp
  obtain ⟨R, hR⟩ : ∃ R, B[0]? = some R := ⟨_, List.getElem?_eq_getElem (by omega)⟩
  obtain ⟨a, c, hcell, _⟩ := hc 0 R hR
  refine ⟨b, off, rfl, ho b (lt_of_cell hcell), fun i R hR => ?_⟩
  obtain ⟨a, c, hcell, hf⟩ := hc i R hR
  exact ⟨a, c, hcell, hf.retag ho⟩

theorem join_again (W T : List Rw) : joinP W (joinP W T) = joinP W T := by
  refine snoc_ind (P := fun T => joinP W (joinP W T) = joinP W T) (join_self W W fun r hr => hr) (fun T r ih => ?_) T
  rw [joinP_snoc]
  by_cases h : knownP (joinP W T) r = true
  · rw [show joinOne (joinP W T) r = joinP W T from by unfold joinOne; rw [if_pos h], ih]
  · have e : joinOne (joinP W T) r = joinP W T ++ [r] := by unfold joinOne; rw [if_neg h]
    rw [e, joinP_snoc, ih, e]
end Go.Proofs.Ytcofoddjcgmmkaa
