/- Level mappings and closed walks exclude each other; what Levels and Cycle answer is such a one. -/
import Derived.Test.YtmbkjgfnnpopgaaCyclePub
import Derived.Test.YtmbkjgfnnpopgaaEdgeSHolds
import Derived.Test.YtmbkjgfnnpopgaaEdgeSCyc
namespace Go.Proofs.Ytmbkjgfnnpopgaa
set_option linter.unusedSimpArgs false
set_option linter.unusedVariables false
open Go.RowKit Go.Maps

theorem PathL.nil_eq {es : List Edg} {a b : Nat} {W : List Int} (h : PathL es a W b) (hW : W = []) : b = a := by
  cases h with
  | nil => rfl
  | snoc _ _ _ _ => simp at hW

theorem PathL.next {es : List Edg} {a b : Nat} {L : List Int} (h : PathL es a L b) : ∀ i, i < L.length → ∃ (m : Nat) (x : Edg), L[i]? = some (m : Int) ∧ es[m]? = some x ∧ (i = 0 → x.f = a) ∧ (i + 1 = L.length → x.t = b) ∧ ∀ (m' : Nat) (x' : Edg), L[i + 1]? = some (m' : Int) → es[m']? = some x' → x.t = x'.f := by
  induction h with
  | nil => intro i hi; simp at hi
  | @snoc W b m x t h hm hf ht ih =>
    intro i hi
    simp only [List.length_append, List.length_singleton] at hi ⊢
    by_cases hl : i < W.length
    · obtain ⟨m1, x1, h1, h2, h3, h4, h5⟩ := ih i hl
      refine ⟨m1, x1, by rw [List.getElem?_append_left hl]; exact h1, h2, h3, fun e => by omega, fun m' x' e1 e2 => ?_⟩
      by_cases hl2 : i + 1 < W.length
      · rw [List.getElem?_append_left hl2] at e1
        exact h5 m' x' e1 e2
      · have e0 : i + 1 = W.length := by omega
        rw [e0, List.getElem?_append_right (Nat.le_refl _), Nat.sub_self] at e1
        simp only [List.getElem?_cons_zero, Option.some.injEq] at e1
        have : m = m' := by omega
        subst this
        rw [hm] at e2
        cases e2
        rw [h4 e0, hf]
    · have e0 : i = W.length := by omega
      subst e0
      refine ⟨m, x, by simp, hm, fun e => ?_, fun _ => ht, fun m' x' e1 _ => ?_⟩
      · have hb := h.nil_eq (List.eq_nil_of_length_eq_zero e)
        rw [hf, hb]
      · rw [List.getElem?_append_right (by omega)] at e1
        simp at e1

/-- A closed walk with a negated edge is one. -/
theorem cyclic_yes {n : Nat} {es : List Edg} {a : Nat} {L : List Int} (hfit : fitP n es = true) (h : PathL es a L a) (hl : L ≠ []) (hneg : ∃ m : Nat, (m : Int) ∈ L ∧ (ed es m).neg = true) : cyclicP n es L = true := by
  have hpos : 0 < L.length := List.length_pos_iff.2 hl
  have hnx := h.next
  have h1 : (L.length == 0) = false := by simpa using hl
  have h2 : L.any (outN es.length) = false := by
    rw [List.any_eq_false]
    intro x hx
    obtain ⟨i, hi, e⟩ := List.getElem_of_mem hx
    obtain ⟨m, y, h1, h2, -⟩ := hnx i hi
    rw [List.getElem?_eq_getElem hi, Option.some.injEq, e] at h1
    have hm : m < es.length := (List.getElem?_eq_some_iff.1 h2).1
    rw [h1]
    unfold outN inB
    simp
    omega
  have h3 : cycB es L = true := cyc_yes' fun i hi => by
    obtain ⟨m, x, a1, a2, -, a4, a5⟩ := hnx i hi
    unfold nextOk
    rw [wk_at a1, ed_at a2]
    unfold nxt
    split
    · rename_i e
      obtain ⟨m0, x0, b1, b2, b3, -⟩ := hnx 0 hpos
      rw [wk_at b1, ed_at b2, a4 e, b3 rfl]
      simp
    · obtain ⟨m0, x0, b1, b2, -⟩ := hnx (i + 1) (by omega)
      rw [wk_at b1, ed_at b2, a5 m0 x0 b1 b2]
      simp
  have h4 : L.any (negW es) = true := by
    obtain ⟨m, hm, hn⟩ := hneg
    exact List.any_eq_true.2 ⟨m, hm, hn⟩
  unfold cyclicP
  rw [hfit, h1, h2, h3, h4]
  rfl

theorem edge_lnkN {es : List Edg} {u v : Nat} {e : Edg} (he : e ∈ es) (h1 : e.f = u) (h2 : e.t = v) (hn : e.neg = true) : lnkN es u v = true := by
  unfold lnkN
  refine List.any_eq_true.2 ⟨e, he, ?_⟩
  unfold isE
  simp [h1, h2, hn]
theorem lv_map {n : Nat} {X : Nat → Int} {u : Nat} (hu : u < n) : lv ((List.range n).map X) (u : Int) = X u := by
  unfold lv
  rw [Int.toNat_natCast, List.getElem?_map, List.getElem?_range hu]
  rfl
/-- What obeys all links is a level mapping. -/
theorem holds_yes {n : Nat} {es : List Edg} {X : Nat → Int} (hfit : fitP n es = true) (hX : Sol n (lnkT es) (lnkN es) X) : holdsP n es ((List.range n).map X) = true := by
  have hin := (fit_in8 hfit).2
  have h2 : ((List.range n).map X).any neg0 = false := by
    rw [List.any_eq_false]
    intro x hx
    obtain ⟨u, hu, rfl⟩ := List.mem_map.1 hx
    have := hX.nn u (List.mem_range.1 hu)
    unfold neg0
    simp
    omega
  have h3 : es.any (eBad ((List.range n).map X)) = false := by
    rw [List.any_eq_false]
    intro e he
    obtain ⟨q1, q2, q3, q4⟩ := hin e he
    obtain ⟨kf, hkf⟩ : ∃ kf : Nat, e.f = kf := ⟨e.f.toNat, by omega⟩
    obtain ⟨kt, hkt⟩ : ∃ kt : Nat, e.t = kt := ⟨e.t.toNat, by omega⟩
    unfold eBad
    rw [hkf, hkt, lv_map (show kf < n by omega), lv_map (show kt < n by omega)]
    have h4 := hX.le kf kt (by omega) (by omega) (edge_lnk he hkf hkt)
    cases hn : e.neg with
    | false => simp; omega
    | true =>
      have h5 := hX.lt kf kt (by omega) (by omega) (edge_lnkN he hkf hkt hn)
      simp
      omega
  unfold holdsP
  rw [hfit, h2, h3]
  simp
/-- A level mapping obeys all links. -/
theorem holds_sol {n : Nat} {es : List Edg} {ls : List Int} (h : holdsP n es ls = true) : fitP n es = true ∧ ls.length = n ∧ Sol n (lnkT es) (lnkN es) (fun u => lv ls (u : Int)) := by
  unfold holdsP at h
  simp only [Bool.and_eq_true, Bool.not_eq_true', beq_iff_eq] at h
  obtain ⟨h1, h2, h3, h4⟩ := h
  have hl : ls.length = n := by omega
  rw [List.any_eq_false] at h3 h4
  refine ⟨h1, hl, fun u hu => ?_, fun u v hu hv ht => ?_, fun u v hu hv ht => ?_⟩
  · have hm : ls[u]? = some ls[u] := List.getElem?_eq_getElem (by omega)
    have := h3 _ (List.mem_of_getElem? hm)
    show 0 ≤ lv ls (u : Int)
    unfold lv
    rw [Int.toNat_natCast, hm]
    unfold neg0 at this
    simp at this
    exact this
  · obtain ⟨e, he, e1, e2⟩ := lnk_edge ht
    have := h4 e he
    unfold eBad at this
    rw [e1, e2] at this
    simp at this
    exact this.1
  · unfold lnkN at ht
    obtain ⟨e, he, hi⟩ := List.any_eq_true.1 ht
    unfold isE at hi
    simp at hi
    obtain ⟨⟨e1, e2⟩, en⟩ := hi
    have := h4 e he
    unfold eBad at this
    rw [e1, e2, en] at this
    simp at this
    show lv ls (u : Int) + 1 ≤ lv ls (v : Int)
    omega
/-- Where a negated edge lies inside a component, no mapping obeys. -/
theorem bad_nosol {n : Nat} {es : List Edg} {X : Nat → Int} (hin : ∀ x ∈ es, 0 ≤ x.f ∧ x.f < n ∧ 0 ≤ x.t ∧ x.t < n) (hb : HasBad n es) (hX : Sol n (lnkT es) (lnkN es) X) : False := by
  obtain ⟨x, hx, hn, hm⟩ := hb
  obtain ⟨q1, q2, q3, q4⟩ := hin x hx
  have h1 := hX.lt x.f.toNat x.t.toNat (by omega) (by omega) (edge_lnkN hx (by omega) (by omega) hn)
  have h2 := hX.reach hm.2
  omega
theorem holds_no {n : Nat} {es : List Edg} {ls : List Int} (hb : HasBad n es) : holdsP n es ls = false := by
  cases h : holdsP n es ls with
  | false => rfl
  | true =>
    obtain ⟨h1, -, h2⟩ := holds_sol h
    exact (bad_nosol (fit_in8 h1).2 hb h2).elim
/-- Where a mapping obeys all links, no closed walk has a negated edge. -/
theorem cyclic_nosol {n : Nat} {es : List Edg} {L : List Int} {X : Nat → Int} (h : cyclicP n es L = true) (hX : Sol n (lnkT es) (lnkN es) X) : False := by
  unfold cyclicP at h
  simp only [Bool.and_eq_true, Bool.not_eq_true'] at h
  obtain ⟨hf, hl, ho, hc, hn⟩ := h
  have hin := (fit_in8 hf).2
  have hpos : 0 < L.length := by
    rcases Nat.eq_zero_or_pos L.length with e | e
    · rw [e] at hl; simp at hl
    · exact e
  rw [cyc_next] at hc
  rw [List.all_eq_true] at hc
  rw [List.any_eq_false] at ho
  have hel : ∀ i, i < L.length → ∃ m : Nat, wk L i = m ∧ ∃ e, es[m]? = some e ∧ ed es (wk L i) = e := fun i hi => by
    have hm : L[i]? = some L[i] := List.getElem?_eq_getElem hi
    have h1 := ho _ (List.mem_of_getElem? hm)
    obtain ⟨m, e, hm2⟩ := outN_false (by simpa using h1)
    have he : es[m]? = some es[m] := List.getElem?_eq_getElem hm2
    have hw : wk L i = m := by rw [wk_at hm]; exact e
    exact ⟨m, hw, es[m], he, by rw [hw]; exact ed_at he⟩
  have step : ∀ i, i < L.length → X (ed es (wk L i)).f.toNat ≤ X (ed es (wk L (nxt L.length i))).f.toNat ∧ (negW es (wk L i) = true → X (ed es (wk L i)).f.toNat + 1 ≤ X (ed es (wk L (nxt L.length i))).f.toNat) := fun i hi => by
    obtain ⟨m, hw, e, he, hee⟩ := hel i hi
    have h1 := hc i (List.mem_range.2 hi)
    unfold nextOk at h1
    simp only [beq_iff_eq] at h1
    rw [← h1]
    have hem := List.mem_of_getElem? he
    obtain ⟨q1, q2, q3, q4⟩ := hin e hem
    unfold negW
    rw [hee]
    exact ⟨hX.le _ _ (by omega) (by omega) (edge_lnk hem (by omega) (by omega)), fun hn => hX.lt _ _ (by omega) (by omega) (edge_lnkN hem (by omega) (by omega) hn)⟩
  have mono : ∀ j, j < L.length → ∀ i, i ≤ j → X (ed es (wk L i)).f.toNat ≤ X (ed es (wk L j)).f.toNat := by
    intro j
    induction j with
    | zero =>
      intro _ i hi
      obtain rfl : i = 0 := by omega
      exact Int.le_refl _
    | succ j ih =>
      intro hj i hi
      rcases Nat.lt_or_ge i (j + 1) with hl2 | hl2
      · have h1 := ih (by omega) i (by omega)
        have h2 := (step j (by omega)).1
        have : nxt L.length j = j + 1 := by unfold nxt; rw [if_neg (by omega)]
        rw [this] at h2
        omega
      · obtain rfl : i = j + 1 := by omega
        exact Int.le_refl _
  obtain ⟨x, hx, hxn⟩ := List.any_eq_true.1 hn
  obtain ⟨i, hi, e⟩ := List.getElem_of_mem hx
  have hwi : wk L i = x := by rw [wk_at (List.getElem?_eq_getElem hi)]; exact e
  have h1 := (step i hi).2 (by rw [hwi]; exact hxn)
  have hlast := (step (L.length - 1) (by omega)).1
  have hnl : nxt L.length (L.length - 1) = 0 := by unfold nxt; rw [if_pos (by omega)]
  rw [hnl] at hlast
  have h0 := mono i hi 0 (Nat.zero_le _)
  by_cases hil : i + 1 = L.length
  · have : nxt L.length i = 0 := by unfold nxt; rw [if_pos hil]
    rw [this] at h1
    omega
  · have hn1 : nxt L.length i = i + 1 := by unfold nxt; rw [if_neg hil]
    rw [hn1] at h1
    have h2 := mono (L.length - 1) (by omega) (i + 1) (by omega)
    omega

/-- What Cycle answers is a closed walk with a negated edge. -/
theorem cycle_is {n : Nat} {es : List Edg} {H : Nat → Int} {m : Nat} {x : Edg} {W : List Int} (hfit : fitP n es = true) (hm : es[m]? = some x) (hb : badE H x = true) (hp : PathL es x.t.toNat W x.f.toNat) : cyclicP n es ((m : Int) :: W) = true := by
  obtain ⟨q1, q2, q3, q4⟩ := (fit_in8 hfit).2 x (List.mem_of_getElem? hm)
  refine cyclic_yes (a := x.f.toNat) hfit (hp.cons hm (by omega) (by omega)) (by simp) ⟨m, by simp, ?_⟩
  rw [ed_at hm]
  unfold badE at hb
  simp only [Bool.and_eq_true] at hb
  exact hb.1
end Go.Proofs.Ytmbkjgfnnpopgaa
