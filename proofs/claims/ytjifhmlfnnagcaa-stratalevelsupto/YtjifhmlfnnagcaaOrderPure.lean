/- What edges say does not hang on their order, nor on how often they stand: components and levels are the same. -/
import Derived.Test.YtjifhmlfnnagcaaLevelsPub
import Derived.Test.YtjifhmlfnnagcaaEdgeLaw
namespace Go.Proofs.Ytjifhmlfnnagcaa
set_option linter.unusedSimpArgs false
set_option linter.unusedVariables false
open Go.RowKit Go.Maps

theorem same_lnkT {es es' : List Edg} (h : ∀ x, x ∈ es' ↔ x ∈ es) : lnkT es' = lnkT es := by
  funext u v
  unfold lnkT
  rw [Bool.eq_iff_iff]
  simp only [List.any_eq_true, h]
theorem same_lnkN {es es' : List Edg} (h : ∀ x, x ∈ es' ↔ x ∈ es) : lnkN es' = lnkN es := by
  funext u v
  unfold lnkN
  rw [Bool.eq_iff_iff]
  simp only [List.any_eq_true, h]
theorem same_bad {n : Nat} {es es' : List Edg} (h : ∀ x, x ∈ es' ↔ x ∈ es) : HasBad n es' ↔ HasBad n es := by
  unfold HasBad
  rw [same_lnkT h]
  simp only [h]
theorem home_uniq {n : Nat} {T : Nat → Nat → Bool} {H H' : Nat → Int} (hH : ∀ v, v < n → LeastOf (Ed n T) v (H v)) (hH' : ∀ v, v < n → LeastOf (Ed n T) v (H' v)) : ∀ v, v < n → H v = H' v := fun v hv => (least_eq (hH v hv) (hH' v hv)).2 (Mut.refl v)
theorem ready_congr {n : Nat} {T : Nat → Nat → Bool} {H H' : Nat → Int} (he : ∀ v, v < n → H v = H' v) {S : List Nat} {r : Nat} (h : ReadyIn n T H S r) : ReadyIn n T H' S r := fun u v hu hv ht hne hvr => by
  rw [← he u hu, ← he v hv] at hne
  rw [← he v hv] at hvr
  rw [← he u hu]
  exact h u v hu hv ht hne hvr
theorem greedy_take {n : Nat} {T : Nat → Nat → Bool} {H H' : Nat → Int} {reps reps' : List Nat} (he : ∀ v, v < n → H v = H' v) (hg : Greedy n T H reps) (hg' : Greedy n T H' reps') : ∀ k, k ≤ reps.length → k ≤ reps'.length → reps.take k = reps'.take k
  | 0, _, _ => by simp
  | k + 1, h1, h2 => by
    have ih := greedy_take he hg hg' k (by omega) (by omega)
    have hr : reps[k]? = some reps[k] := List.getElem?_eq_getElem (by omega)
    have hr' : reps'[k]? = some reps'[k] := List.getElem?_eq_getElem (by omega)
    rw [take_snoc8 hr, take_snoc8 hr', ih]
    obtain ⟨a1, a2⟩ := hg.step k _ hr
    obtain ⟨b1, b2⟩ := hg'.step k _ hr'
    obtain ⟨c1, c2⟩ := hg.rep _ (List.mem_of_getElem? hr)
    obtain ⟨d1, d2⟩ := hg'.rep _ (List.mem_of_getElem? hr')
    have n1 := nd_not hg.nd hr
    have n2 := nd_not hg'.nd hr'
    have e1 : ¬ reps[k] < reps'[k] := fun hl => b2 _ c1 (by rw [← he _ c1]; exact c2) hl (by rw [← ih]; exact n1) (by rw [← ih]; exact ready_congr he a1)
    have e2 : ¬ reps'[k] < reps[k] := fun hl => a2 _ d1 (by rw [he _ d1]; exact d2) hl (by rw [ih]; exact n2) (by rw [ih]; exact ready_congr (fun v hv => (he v hv).symm) b1)
    have e3 : reps[k] = reps'[k] := by omega
    rw [e3]
theorem greedy_uniq {n : Nat} {T : Nat → Nat → Bool} {H H' : Nat → Int} {reps reps' : List Nat} (he : ∀ v, v < n → H v = H' v) (hg : Greedy n T H reps) (hg' : Greedy n T H' reps') (ha : ∀ q, q < n → H q = q → q ∈ reps) (ha' : ∀ q, q < n → H' q = q → q ∈ reps') : reps = reps' := by
  have hl : ¬ reps.length < reps'.length := fun hl => by
    obtain ⟨q, hr⟩ : ∃ q, reps'[reps.length]? = some q := ⟨_, List.getElem?_eq_getElem hl⟩
    obtain ⟨c1, c2⟩ := hg'.rep _ (List.mem_of_getElem? hr)
    have h1 := ha _ c1 (by rw [he _ c1]; exact c2)
    have h2 := greedy_take he hg hg' reps.length (Nat.le_refl _) (by omega)
    rw [List.take_of_length_le (Nat.le_refl _)] at h2
    rw [h2] at h1
    exact nd_not hg'.nd hr h1
  have hl' : ¬ reps'.length < reps.length := fun hl => by
    obtain ⟨q, hr⟩ : ∃ q, reps[reps'.length]? = some q := ⟨_, List.getElem?_eq_getElem hl⟩
    obtain ⟨c1, c2⟩ := hg.rep _ (List.mem_of_getElem? hr)
    have h1 := ha' _ c1 (by rw [← he _ c1]; exact c2)
    have h2 := greedy_take he hg hg' reps'.length (by omega) (Nat.le_refl _)
    rw [List.take_of_length_le (Nat.le_refl reps'.length)] at h2
    rw [← h2] at h1
    exact nd_not hg.nd hr h1
  have h2 := greedy_take he hg hg' reps.length (Nat.le_refl _) (by omega)
  rw [List.take_of_length_le (Nat.le_refl _), List.take_of_length_le (by omega)] at h2
  exact h2
theorem memL_congr {n : Nat} {H H' : Nat → Int} (he : ∀ v, v < n → H v = H' v) (r : Nat) : memL H n r = memL H' n r := by
  unfold memL
  refine List.filter_congr fun x hx => ?_
  rw [he x (List.mem_range.1 hx)]

/-- A row of numbers, as a list. -/
theorem row_has {w : World} {g n : Nat} {X : Nat → Int} (h : w.rowIs g 3 n (fun i => .int .i64 (X i))) (hX : ∀ i, i < n → I64 (X i)) (hn : n ≤ 128) : Has elInt w (.slice (some ⟨g, 0, none⟩) n n) ((List.range n).map X) := by
  refine ⟨some ⟨g, 0, none⟩, n, by simp, by simp, (fun e => by cases e), by simp; omega, fun x hx => ?_, fun hp => ?_⟩
  · obtain ⟨u, hu, rfl⟩ := List.mem_map.1 hx
    exact hX u (List.mem_range.1 hu)
  · refine ⟨g, 0, rfl, h.lt, trivial, fun i x hi j u hu => ?_⟩
    have hj : j = 0 := by have := (List.getElem?_eq_some_iff.1 hu).1; simp [elInt] at this; exact this
    subst hj
    have hin : i < n := by have := (List.getElem?_eq_some_iff.1 hi).1; simpa using this
    rw [List.getElem?_map, List.getElem?_range hin] at hi
    simp only [Option.map_some, Option.some.injEq] at hi
    subst hi
    simp only [elInt, List.getElem?_cons_zero, Option.some.injEq] at hu
    subst hu
    have := h.cell hin
    simpa [elInt] using this

set_option maxHeartbeats 1000000 in
theorem equalLists_any {w : World} {ta tb : Option Addr} {ca cb ln : Nat} (hln : ln ≤ 1000000) (h : ∀ i, i < ln → ∃ (ga gb : Nat) (L : List Int) (va vb : Value), ta = some ⟨ga, 0, none⟩ ∧ tb = some ⟨gb, 0, none⟩ ∧ w.cell? ⟨ga, i, none⟩ = some va ∧ w.cell? ⟨gb, i, none⟩ = some vb ∧ Has elInt w va L ∧ Has elInt w vb L) :
    Calls Try.prog 9 #[.slice ta ln ca, .slice tb ln cb] w fun e w' => e = .returned (.bool true) ∧ Below w.heap.size w w' := by
  have HH := hide h
  clear h
  go_enter Try.func9, Try.ntmps9
  go_wp2
  go_loopw [5] (fun i wl => ∃ k : Nat, k ≤ ln ∧ i = .int .i64 k ∧ Hid (Below w.heap.size w wl)) (fun i _ => ln - (intOf i).toNat)
  case atStart => exact ⟨0, by omega, rfl, Below.refl _ _⟩
  case round =>
    obtain ⟨k, hk, rfl, HB⟩ := hrel
    by_cases hlt : k < ln
    · have hi : (k : Int) < (ln : Int) := by omega
      have hi0 : (0 : Int) ≤ (k : Int) := by omega
      obtain ⟨ga, gb, L, va, vb, rfl, rfl, c0, c1, h0, h1⟩ := HH.out k hlt
      have y0 := kept_cell HB.out c0
      have y1 := kept_cell HB.out c1
      have HSz := hide HB.out.size
      have HBd := hide HB.out.drew
      obtain ⟨sa, sc, rfl, -, -, -⟩ := h0.shape
      obtain ⟨sb, sd, rfl, -, -, -⟩ := h1.shape
      have HE := hide (equalInts_any (h0.kept HB.out.drew) (h1.kept HB.out.drew))
      clear h0 h1 c0 c1
      go_wp2
      go_region_held3 (fun w' => w'.cell? ⟨ga, k, none⟩ = some (.slice sa L.length sc) ∧ w'.cell? ⟨gb, k, none⟩ = some (.slice sb L.length sd))
        (first | exact ⟨y0, y1⟩ | exact HSk.out)
        (first | (go_at_call 15; refine HE.out.mono ?_; rintro e V2 ⟨rfl, h1⟩; have HSk : Hid (V2.cell? ⟨ga, k, none⟩ = some (.slice sa L.length sc) ∧ V2.cell? ⟨gb, k, none⟩ = some (.slice sb L.length sd)) := ⟨kept_cell (w := wr.drew) h1 y0, kept_cell (w := wr.drew) h1 y1⟩; have HB2 := hide (HBd.out.trans (h1.mono HBd.out.size)); clear h1))
      go_wp2
      go_roundw
      case rel => exact ⟨k + 1, by omega, by go_num, HB2⟩
      case measure => simp [intOf]; omega
    · obtain rfl : k = ln := by omega
      have hi : ¬ (k : Int) < (k : Int) := by omega
      go_wp2
      go_ret
      exact ⟨rfl, HB.out⟩
end Go.Proofs.Ytjifhmlfnnagcaa
