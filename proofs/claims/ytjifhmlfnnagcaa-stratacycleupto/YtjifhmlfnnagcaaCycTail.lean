/- strata.Levels, where the edges fit. What edges say does not hang on their order, nor on how often they stand: components and levels are the same. What the document's Components goes by: each time the least that is ready. A list of the call's own that loses its head and grows at its end: reached = reached[1:], append(reached, x). Distances to a goal, by levels, said over predicates alone. (strata.graph).distances. (strata.graph).nearer. (strata.graph).shortest: a walk along edges. strata.Cycle and Bad, where the edges fit. The document's Bad. No least level is as great as the number of predicates. The document's distances, round by round; two tables of distances agree; walks by them are the same. The document's away. The document's Cycle. The document's Levels: levels are raised till nothing asks for more. The law's turn: edges written over in place, each the other way round. strata.Levels and the document's Levels, whatever the edges; where their rows lie; the two answers meet. strata.Cycle, Bad and the document's, whatever the edges; the answers meet. The law of the cycle: its walk. -/
import Derived.Test.YtjifhmlfnnagcaaGraphLevels
import Derived.Test.YtjifhmlfnnagcaaEdgeLaw
import Derived.Test.YtjifhmlfnnagcaaRefOne
import Derived.Deep.AppendSrc
import Derived.Test.YtjifhmlfnnagcaaLevelsPure
import Derived.Test.YtjifhmlfnnagcaaEdgeRFit
import Derived.Test.YtjifhmlfnnagcaaEdgeMem
import Derived.Test.YtjifhmlfnnagcaaPushMany
import Derived.Test.YtjifhmlfnnagcaaRegionLast
import Derived.Test.YtjifhmlfnnagcaaAloneInts

namespace Go.Proofs.Ytjifhmlfnnagcaa
set_option linter.unusedSimpArgs false
set_option linter.unusedVariables false
open Go.RowKit Go.Maps

/-- A negated edge inside a component. -/
def HasBad (n : Nat) (es : List Edg) : Prop := ∃ x ∈ es, x.neg = true ∧ Mut (Ed n (lnkT es)) x.f.toNat x.t.toNat

theorem bad_iff {n : Nat} {es : List Edg} {H : Nat → Int} (hin : ∀ x ∈ es, 0 ≤ x.f ∧ x.f < n ∧ 0 ≤ x.t ∧ x.t < n) (hH : ∀ v, v < n → LeastOf (Ed n (lnkT es)) v (H v)) : 0 ≤ findI (badE H) es ↔ HasBad n es := by
  have h := findI_any (badE H) es
  constructor
  · intro h0
    rw [decide_eq_true h0] at h
    obtain ⟨x, hx, hb⟩ := List.any_eq_true.1 h.symm
    unfold badE at hb
    simp at hb
    obtain ⟨q1, q2, q3, q4⟩ := hin x hx
    exact ⟨x, hx, hb.1, (least_eq (hH _ (by omega)) (hH _ (by omega))).1 hb.2⟩
  · rintro ⟨x, hx, h1, h2⟩
    obtain ⟨q1, q2, q3, q4⟩ := hin x hx
    have h3 := (least_eq (hH x.f.toNat (by omega)) (hH x.t.toNat (by omega))).2 h2
    have h4 : es.any (badE H) = true := List.any_eq_true.2 ⟨x, hx, by unfold badE; simp [h1, h3]⟩
    rw [h4] at h
    exact of_decide_eq_true h
theorem lnkN_T {es : List Edg} (u v : Nat) (h : lnkN es u v = true) : lnkT es u v = true := by
  unfold lnkN at h
  obtain ⟨x, hx, h1⟩ := List.any_eq_true.1 h
  unfold lnkT
  simp at h1
  exact List.any_eq_true.2 ⟨x, hx, h1.1⟩
theorem lnkN_bad {n : Nat} {es : List Edg} (hb : ¬ HasBad n es) (u v : Nat) (hN : lnkN es u v = true) : ¬ Mut (Ed n (lnkT es)) u v := fun hm => by
  unfold lnkN at hN
  obtain ⟨x, hx, h1⟩ := List.any_eq_true.1 hN
  unfold isE at h1
  simp at h1
  obtain ⟨⟨h2, h3⟩, h4⟩ := h1
  exact hb ⟨x, hx, h4, by rw [h2, h3]; exact hm⟩

set_option maxHeartbeats 1000000 in
theorem levels_fit2 {w : World} {v : Value} {es : List Edg} {n : Nat} (h : Has elEdg w v es) (hfit : fitP n es = true) :
    Calls Try.prog 14 #[.int .i64 (n : Int), v] w fun e w' => ((HasBad n es ∧ e = .returned (.tuple #[.slice none 0 0, .int .i64 40])) ∨ (¬ HasBad n es ∧ ∃ (g : Nat) (X : Nat → Int), e = .returned (.tuple #[.slice (some ⟨g, 0, none⟩) n n, .int .i64 0]) ∧ w'.rowIs g 3 n (fun i => .int .i64 (X i)) ∧ Least n (lnkT es) (lnkN es) X ∧ (∀ p, p < n → X p ≤ n) ∧ w.heap.size ≤ g)) ∧ Below w.heap.size w w' := by
  have hn : n ≤ 128 := by have := (fit_in8 hfit).1; omega
  obtain ⟨va, vc, rfl, -, -, hlen⟩ := h.shape
  have HIn := hide (fit_in8 hfit).2
  have HF := hide (fit_any h n)
  rw [hfit] at HF
  have HL := hide h
  have HFt := hide hfit
  clear h hfit
  by_cases hb : HasBad n es
  · have HBd := hide hb
    clear hb
    go_enter Try.func14, Try.ntmps14
    go_wp2_with (first
      | (go_at_call 24; refine HF.out.mono ?_; rintro e w1 ⟨rfl, h1⟩; have HB1 := hide h1; clear h1)
      | (go_at_call 25; refine (newGraph_any (HL.out.kept HB1.out) HFt.out).mono ?_; rintro e w2 ⟨gl, rfl, h1, h2, h3⟩; have hbx := belo1 w2 (.cells #[.int .i64 (n : Int), .slice (some ⟨gl, 0, none⟩) (n * n) (n * n)] 48); have HG2 := hide (h2.kept hbx); have hB2 := HB1.out.trans (h3.mono HB1.out.size); have HB2 := hide (hB2.trans (hbx.mono hB2.size)); have HL2 := hide (((HL.out.kept HB1.out).kept h3).kept hbx); have HX0 : Hid ((w2.alloc (.cells #[.int .i64 (n : Int), .slice (some ⟨gl, 0, none⟩) (n * n) (n * n)] 48)).cell? ⟨w2.heap.size, 0, none⟩ = some (.int .i64 (n : Int)) ∧ (w2.alloc (.cells #[.int .i64 (n : Int), .slice (some ⟨gl, 0, none⟩) (n * n) (n * n)] 48)).cell? ⟨w2.heap.size, 1, none⟩ = some (.slice (some ⟨gl, 0, none⟩) (n * n) (n * n))) := (by show _ ∧ _; constructor <;> simp); clear h1 h2 h3 hbx hB2)
      | (go_at_call 27; refine (bad_any HG2.out hn HL2.out HIn.out).mono ?_; rintro e w3 ⟨H, h1, rfl, h5⟩; have x0 := kept_cell h5 HX0.out.1; have x1 := kept_cell h5 HX0.out.2; have HB3 := hide (HB2.out.trans (h5.mono HB2.out.size)); have hge := (bad_iff HIn.out h1).2 HBd.out; obtain ⟨bd, hbd⟩ : ∃ bd, findI (badE H) es = bd := ⟨_, rfl⟩; rw [hbd] at hge ⊢; clear h1 h5 hbd))
    exact bodyPost_ret (v := .tuple #[.slice none 0 0, .int .i64 40]) (by simp [results, Try.results14, go_sem]) rfl ⟨.inl ⟨HBd.out, rfl⟩, HB3.out⟩
  · have HBd := hide hb
    clear hb
    go_enter Try.func14, Try.ntmps14
    go_wp2_with (first
      | (go_at_call 24; refine HF.out.mono ?_; rintro e w1 ⟨rfl, h1⟩; have HB1 := hide h1; clear h1)
      | (go_at_call 25; refine (newGraph_any (HL.out.kept HB1.out) HFt.out).mono ?_; rintro e w2 ⟨gl, rfl, h1, h2, h3⟩; have hbx := belo1 w2 (.cells #[.int .i64 (n : Int), .slice (some ⟨gl, 0, none⟩) (n * n) (n * n)] 48); have HG2 := hide (h2.kept hbx); have hB2 := HB1.out.trans (h3.mono HB1.out.size); have HB2 := hide (hB2.trans (hbx.mono hB2.size)); have HL2 := hide (((HL.out.kept HB1.out).kept h3).kept hbx); have HX0 : Hid ((w2.alloc (.cells #[.int .i64 (n : Int), .slice (some ⟨gl, 0, none⟩) (n * n) (n * n)] 48)).cell? ⟨w2.heap.size, 0, none⟩ = some (.int .i64 (n : Int)) ∧ (w2.alloc (.cells #[.int .i64 (n : Int), .slice (some ⟨gl, 0, none⟩) (n * n) (n * n)] 48)).cell? ⟨w2.heap.size, 1, none⟩ = some (.slice (some ⟨gl, 0, none⟩) (n * n) (n * n))) := (by show _ ∧ _; constructor <;> simp); clear h1 h2 h3 hbx hB2)
      | (go_at_call 27; refine (bad_any HG2.out hn HL2.out HIn.out).mono ?_; rintro e w3 ⟨H, h1, rfl, h5⟩; have x0 := kept_cell h5 HX0.out.1; have x1 := kept_cell h5 HX0.out.2; have HG3 := hide (HG2.out.kept h5); have HB3 := hide (HB2.out.trans (h5.mono HB2.out.size)); have hge : ¬ 0 ≤ findI (badE H) es := (fun hc => HBd.out ((bad_iff HIn.out h1).1 hc)); obtain ⟨bd, hbd⟩ : ∃ bd, findI (badE H) es = bd := ⟨_, rfl⟩; rw [hbd] at hge ⊢; clear h1 h5 hbd)
      | (go_at_call 28; refine (levels_at HG3.out hn lnkN_T (fun u v _ _ hN => lnkN_bad HBd.out u v hN)).mono ?_; rintro e w4 ⟨g, X, rfl, h1, h2, hge4, h5⟩; have HGe := hide (Nat.le_trans HB3.out.size hge4); clear hge4; have HR4 := hide h1; have HX4 := hide h2; have HB4 := hide (HB3.out.trans (h5.mono HB3.out.size)); clear h1 h2 h5))
    exact bodyPost_ret (v := .tuple #[.slice (some ⟨g, 0, none⟩) n n, .int .i64 0]) (by simp [results, Try.results14, go_sem]) rfl ⟨.inr ⟨HBd.out, g, X, rfl, HR4.out, HX4.out.1, HX4.out.2, HGe.out⟩, HB4.out⟩
theorem levels_fit {w : World} {v : Value} {es : List Edg} {n : Nat} (h : Has elEdg w v es) (hfit : fitP n es = true) :
    Calls Try.prog 14 #[.int .i64 (n : Int), v] w fun e w' => ((HasBad n es ∧ e = .returned (.tuple #[.slice none 0 0, .int .i64 40])) ∨ (¬ HasBad n es ∧ ∃ (g : Nat) (X : Nat → Int), e = .returned (.tuple #[.slice (some ⟨g, 0, none⟩) n n, .int .i64 0]) ∧ w'.rowIs g 3 n (fun i => .int .i64 (X i)) ∧ Least n (lnkT es) (lnkN es) X ∧ ∀ p, p < n → X p ≤ n)) ∧ Below w.heap.size w w' :=
  (levels_fit2 h hfit).mono fun _ _ ⟨h1, h2⟩ => ⟨h1.imp id fun ⟨nb, g, X, a, b, c, d, _⟩ => ⟨nb, g, X, a, b, c, d⟩, h2⟩
end Go.Proofs.Ytjifhmlfnnagcaa

namespace Go.Proofs.Ytjifhmlfnnagcaa
set_option linter.unusedSimpArgs false
set_option linter.unusedVariables false
open Go.RowKit Go.Maps

theorem same_lnkT {es es' : List Edg} (h : ∀ x, x ∈ es' ↔ x ∈ es) : lnkT es' = lnkT es := by
  funext u v
  unfold lnkT
  rw [Bool.eq_iff_iff]
  simp only [List.any_eq_true, h]
theorem same_lnkN {es es' : List Edg} (h : ∀ x, x ∈ es' ↔ x ∈ es) : lnkN es' = lnkN es := by
  funext u v
  unfold lnkN
  rw [Bool.eq_iff_iff]
  simp only [List.any_eq_true, h]
theorem same_bad {n : Nat} {es es' : List Edg} (h : ∀ x, x ∈ es' ↔ x ∈ es) : HasBad n es' ↔ HasBad n es := by
  unfold HasBad
  rw [same_lnkT h]
  simp only [h]
theorem home_uniq {n : Nat} {T : Nat → Nat → Bool} {H H' : Nat → Int} (hH : ∀ v, v < n → LeastOf (Ed n T) v (H v)) (hH' : ∀ v, v < n → LeastOf (Ed n T) v (H' v)) : ∀ v, v < n → H v = H' v := fun v hv => (least_eq (hH v hv) (hH' v hv)).2 (Mut.refl v)
theorem ready_congr {n : Nat} {T : Nat → Nat → Bool} {H H' : Nat → Int} (he : ∀ v, v < n → H v = H' v) {S : List Nat} {r : Nat} (h : ReadyIn n T H S r) : ReadyIn n T H' S r := fun u v hu hv ht hne hvr => by
  rw [← he u hu, ← he v hv] at hne
  rw [← he v hv] at hvr
  rw [← he u hu]
  exact h u v hu hv ht hne hvr
theorem greedy_take {n : Nat} {T : Nat → Nat → Bool} {H H' : Nat → Int} {reps reps' : List Nat} (he : ∀ v, v < n → H v = H' v) (hg : Greedy n T H reps) (hg' : Greedy n T H' reps') : ∀ k, k ≤ reps.length → k ≤ reps'.length → reps.take k = reps'.take k
  | 0, _, _ => by simp
  | k + 1, h1, h2 => by
    have ih := greedy_take he hg hg' k (by omega) (by omega)
    have hr : reps[k]? = some reps[k] := List.getElem?_eq_getElem (by omega)
    have hr' : reps'[k]? = some reps'[k] := List.getElem?_eq_getElem (by omega)
    rw [take_snoc8 hr, take_snoc8 hr', ih]
    obtain ⟨a1, a2⟩ := hg.step k _ hr
    obtain ⟨b1, b2⟩ := hg'.step k _ hr'
    obtain ⟨c1, c2⟩ := hg.rep _ (List.mem_of_getElem? hr)
    obtain ⟨d1, d2⟩ := hg'.rep _ (List.mem_of_getElem? hr')
    have n1 := nd_not hg.nd hr
    have n2 := nd_not hg'.nd hr'
    have e1 : ¬ reps[k] < reps'[k] := fun hl => b2 _ c1 (by rw [← he _ c1]; exact c2) hl (by rw [← ih]; exact n1) (by rw [← ih]; exact ready_congr he a1)
    have e2 : ¬ reps'[k] < reps[k] := fun hl => a2 _ d1 (by rw [he _ d1]; exact d2) hl (by rw [ih]; exact n2) (by rw [ih]; exact ready_congr (fun v hv => (he v hv).symm) b1)
    have e3 : reps[k] = reps'[k] := by omega
    rw [e3]
theorem greedy_uniq {n : Nat} {T : Nat → Nat → Bool} {H H' : Nat → Int} {reps reps' : List Nat} (he : ∀ v, v < n → H v = H' v) (hg : Greedy n T H reps) (hg' : Greedy n T H' reps') (ha : ∀ q, q < n → H q = q → q ∈ reps) (ha' : ∀ q, q < n → H' q = q → q ∈ reps') : reps = reps' := by
  have hl : ¬ reps.length < reps'.length := fun hl => by
    obtain ⟨q, hr⟩ : ∃ q, reps'[reps.length]? = some q := ⟨_, List.getElem?_eq_getElem hl⟩
    obtain ⟨c1, c2⟩ := hg'.rep _ (List.mem_of_getElem? hr)
    have h1 := ha _ c1 (by rw [he _ c1]; exact c2)
    have h2 := greedy_take he hg hg' reps.length (Nat.le_refl _) (by omega)
    rw [List.take_of_length_le (Nat.le_refl _)] at h2
    rw [h2] at h1
    exact nd_not hg'.nd hr h1
  have hl' : ¬ reps'.length < reps.length := fun hl => by
    obtain ⟨q, hr⟩ : ∃ q, reps[reps'.length]? = some q := ⟨_, List.getElem?_eq_getElem hl⟩
    obtain ⟨c1, c2⟩ := hg.rep _ (List.mem_of_getElem? hr)
    have h1 := ha' _ c1 (by rw [← he _ c1]; exact c2)
    have h2 := greedy_take he hg hg' reps'.length (by omega) (Nat.le_refl _)
    rw [List.take_of_length_le (Nat.le_refl reps'.length)] at h2
    rw [← h2] at h1
    exact nd_not hg.nd hr h1
  have h2 := greedy_take he hg hg' reps.length (Nat.le_refl _) (by omega)
  rw [List.take_of_length_le (Nat.le_refl _), List.take_of_length_le (by omega)] at h2
  exact h2
theorem memL_congr {n : Nat} {H H' : Nat → Int} (he : ∀ v, v < n → H v = H' v) (r : Nat) : memL H n r = memL H' n r := by
  unfold memL
  refine List.filter_congr fun x hx => ?_
  rw [he x (List.mem_range.1 hx)]

/-- A row of numbers, as a list. -/
theorem row_has {w : World} {g n : Nat} {X : Nat → Int} (h : w.rowIs g 3 n (fun i => .int .i64 (X i))) (hX : ∀ i, i < n → I64 (X i)) (hn : n ≤ 128) : Has elInt w (.slice (some ⟨g, 0, none⟩) n n) ((List.range n).map X) := by
  refine ⟨some ⟨g, 0, none⟩, n, by simp, by simp, (fun e => by cases e), by simp; omega, fun x hx => ?_, fun hp => ?_⟩
  · obtain ⟨u, hu, rfl⟩ := List.mem_map.1 hx
    exact hX u (List.mem_range.1 hu)
  · refine ⟨g, 0, rfl, h.lt, trivial, fun i x hi j u hu => ?_⟩
    have hj : j = 0 := by have := (List.getElem?_eq_some_iff.1 hu).1; simp [elInt] at this; exact this
    subst hj
    have hin : i < n := by have := (List.getElem?_eq_some_iff.1 hi).1; simpa using this
    rw [List.getElem?_map, List.getElem?_range hin] at hi
    simp only [Option.map_some, Option.some.injEq] at hi
    subst hi
    simp only [elInt, List.getElem?_cons_zero, Option.some.injEq] at hu
    subst hu
    have := h.cell hin
    simpa [elInt] using this

set_option maxHeartbeats 1000000 in
theorem equalLists_any {w : World} {ta tb : Option Addr} {ca cb ln : Nat} (hln : ln ≤ 1000000) (h : ∀ i, i < ln → ∃ (ga gb : Nat) (L : List Int) (va vb : Value), ta = some ⟨ga, 0, none⟩ ∧ tb = some ⟨gb, 0, none⟩ ∧ w.cell? ⟨ga, i, none⟩ = some va ∧ w.cell? ⟨gb, i, none⟩ = some vb ∧ Has elInt w va L ∧ Has elInt w vb L) :
    Calls Try.prog 9 #[.slice ta ln ca, .slice tb ln cb] w fun e w' => e = .returned (.bool true) ∧ Below w.heap.size w w' := by
  have HH := hide h
  clear h
  go_enter Try.func9, Try.ntmps9
  go_wp2
  go_loopw [5] (fun i wl => ∃ k : Nat, k ≤ ln ∧ i = .int .i64 k ∧ Hid (Below w.heap.size w wl)) (fun i _ => ln - (intOf i).toNat)
  case atStart => exact ⟨0, by omega, rfl, Below.refl _ _⟩
  case round =>
    obtain ⟨k, hk, rfl, HB⟩ := hrel
    by_cases hlt : k < ln
    · have hi : (k : Int) < (ln : Int) := by omega
      have hi0 : (0 : Int) ≤ (k : Int) := by omega
      obtain ⟨ga, gb, L, va, vb, rfl, rfl, c0, c1, h0, h1⟩ := HH.out k hlt
      have y0 := kept_cell HB.out c0
      have y1 := kept_cell HB.out c1
      have HSz := hide HB.out.size
      have HBd := hide HB.out.drew
      obtain ⟨sa, sc, rfl, -, -, -⟩ := h0.shape
      obtain ⟨sb, sd, rfl, -, -, -⟩ := h1.shape
      have HE := hide (equalInts_any (h0.kept HB.out.drew) (h1.kept HB.out.drew))
      clear h0 h1 c0 c1
      go_wp2
      go_region_held3 (fun w' => w'.cell? ⟨ga, k, none⟩ = some (.slice sa L.length sc) ∧ w'.cell? ⟨gb, k, none⟩ = some (.slice sb L.length sd))
        (first | exact ⟨y0, y1⟩ | exact HSk.out)
        (first | (go_at_call 15; refine HE.out.mono ?_; rintro e V2 ⟨rfl, h1⟩; have HSk : Hid (V2.cell? ⟨ga, k, none⟩ = some (.slice sa L.length sc) ∧ V2.cell? ⟨gb, k, none⟩ = some (.slice sb L.length sd)) := ⟨kept_cell (w := wr.drew) h1 y0, kept_cell (w := wr.drew) h1 y1⟩; have HB2 := hide (HBd.out.trans (h1.mono HBd.out.size)); clear h1))
      go_wp2
      go_roundw
      case rel => exact ⟨k + 1, by omega, by go_num, HB2⟩
      case measure => simp [intOf]; omega
    · obtain rfl : k = ln := by omega
      have hi : ¬ (k : Int) < (k : Int) := by omega
      go_wp2
      go_ret
      exact ⟨rfl, HB.out⟩
end Go.Proofs.Ytjifhmlfnnagcaa

namespace Go.Proofs.Ytjifhmlfnnagcaa
set_option linter.unusedSimpArgs false
set_option linter.unusedVariables false
open Go.RowKit Go.Maps

theorem least_nat {P : Nat → Prop} : ∀ n, P n → ∃ m, P m ∧ ∀ u, P u → m ≤ u := by
  intro n
  induction n using Nat.strongRecOn with
  | ind n ih =>
    intro hn
    rcases Classical.em (∃ k, k < n ∧ P k) with ⟨k, hk, hp⟩ | hno
    · exact ih k hk hp
    · exact ⟨n, hn, fun u hu => by
        rcases Nat.lt_or_ge u n with h | h
        · exact absurd ⟨u, h, hu⟩ hno
        · exact h⟩
theorem exists_home (n : Nat) (T : Nat → Nat → Bool) : ∃ H : Nat → Int, ∀ v, v < n → LeastOf (Ed n T) v (H v) := by
  have h : ∀ v, ∃ x : Int, LeastOf (Ed n T) v x := fun v => by
    obtain ⟨m, h1, h2⟩ := least_nat (P := fun u => Mut (Ed n T) v u) v (Mut.refl v)
    exact ⟨m, m, rfl, h1, h2⟩
  exact ⟨fun v => Classical.choose (h v), fun v _ => Classical.choose_spec (h v)⟩

def dOf (H : Nat → Int) (reps : List Nat) (v : Nat) : Bool := reps.contains (H v).toNat
theorem dOf_iff {H : Nat → Int} {reps : List Nat} {v : Nat} : dOf H reps v = true ↔ (H v).toNat ∈ reps := by unfold dOf; simp

theorem ready_iff {n : Nat} {es : List Edg} {f : Nat → Nat → Bool} {H : Nat → Int} {reps : List Nat} {a : Nat} (hf : ∀ i j, i < n → j < n → (f i j = true ↔ Wk (Ed n (lnkT es)) n i j)) (hH : ∀ v, v < n → LeastOf (Ed n (lnkT es)) v (H v)) (hin : ∀ x ∈ es, 0 ≤ x.f ∧ x.f < n ∧ 0 ≤ x.t ∧ x.t < n) (ha : a < n) :
    es.any (notReady f (dOf H reps) a) = false ↔ ReadyIn n (lnkT es) H reps (H a).toNat := by
  have hr := (home_self hH ha).2.1
  constructor
  · intro h u v hu hv hT hne hvr
    unfold lnkT at hT
    obtain ⟨x, hx, he⟩ := List.any_eq_true.1 hT
    unfold isE at he
    simp at he
    have h1 := List.any_eq_false.1 h x hx
    unfold notReady at h1
    rw [he.1, he.2, Int.toNat_natCast, Int.toNat_natCast, one_home hf hH hv ha, one_home hf hH hu ha] at h1
    have h2 : (H v == H a) = true := by rw [hvr, ← hr]; simp
    have h3 : (H u == H a) = false := by
      rw [beq_eq_false_iff_ne]
      intro e
      exact hne (by rw [e, hvr, ← hr])
    rw [h2, h3] at h1
    simp at h1
    exact dOf_iff.1 h1
  · intro h
    rw [List.any_eq_false]
    intro x hx hc
    obtain ⟨q1, q2, q3, q4⟩ := hin x hx
    unfold notReady at hc
    rw [one_home hf hH (show x.t.toNat < n by omega) ha, one_home hf hH (show x.f.toNat < n by omega) ha] at hc
    simp at hc
    obtain ⟨c1, c2, c3⟩ := hc
    have hT : lnkT es x.f.toNat x.t.toNat = true := by
      unfold lnkT
      refine List.any_eq_true.2 ⟨x, hx, ?_⟩
      unfold isE
      simp
      omega
    have := h x.f.toNat x.t.toNat (by omega) (by omega) hT (fun e => c2 (by rw [e, c1])) (by rw [c1]; exact hr)
    rw [dOf_iff.2 this] at c3
    cases c3

/-- Where the search stands: those below a are told or not ready. -/
structure RC (n : Nat) (T : Nat → Nat → Bool) (H : Nat → Int) (reps : List Nat) (a : Nat) : Prop where
  greedy : Greedy n T H reps
  low : ∀ q, q < a → (H q).toNat ∈ reps ∨ ¬ ReadyIn n T H reps (H q).toNat

theorem RC.start (n : Nat) (T : Nat → Nat → Bool) (H : Nat → Int) : RC n T H [] 0 := ⟨Greedy.nil _ _ _, fun q hq => absurd hq (Nat.not_lt_zero q)⟩
theorem RC.skip {n : Nat} {T : Nat → Nat → Bool} {H : Nat → Int} {reps : List Nat} {a : Nat} (h : RC n T H reps a) (hs : (H a).toNat ∈ reps ∨ ¬ ReadyIn n T H reps (H a).toNat) : RC n T H reps (a + 1) :=
  ⟨h.greedy, fun q hq => by
    rcases Nat.lt_or_ge q a with hlt | hge
    · exact h.low q hlt
    · obtain rfl : q = a := by omega
      exact hs⟩
theorem RC.home {n : Nat} {T : Nat → Nat → Bool} {H : Nat → Int} {reps : List Nat} {a : Nat} (h : RC n T H reps a) (hH : ∀ v, v < n → LeastOf (Ed n T) v (H v)) (ha : a < n) (hn : (H a).toNat ∉ reps) (hr : ReadyIn n T H reps (H a).toNat) : H a = a := by
  obtain ⟨h1, h2, h3, -⟩ := home_self hH ha
  obtain ⟨m, e, _, hmin⟩ := hH a ha
  have hle := hmin a (Mut.refl a)
  rcases Nat.lt_or_ge (H a).toNat a with hlt | hge
  · exfalso
    have e3 : (H (H a).toNat).toNat = (H a).toNat := by rw [h3, Int.toNat_natCast]
    rcases h.low _ hlt with h4 | h4
    · rw [e3] at h4; exact hn h4
    · rw [e3] at h4; exact h4 hr
  · omega
theorem RC.pick {n : Nat} {T : Nat → Nat → Bool} {H : Nat → Int} {reps : List Nat} {a : Nat} (h : RC n T H reps a) (hH : ∀ v, v < n → LeastOf (Ed n T) v (H v)) (ha : a < n) (hn : (H a).toNat ∉ reps) (hr : ReadyIn n T H reps (H a).toNat) : RC n T H (reps ++ [a]) 0 := by
  have hh := h.home hH ha hn hr
  have e : (H a).toNat = a := by rw [hh]; simp
  rw [e] at hn hr
  refine ⟨h.greedy.snoc ha hh hn hr fun q hq hHq hlt hnq hrq => ?_, fun q hq => absurd hq (Nat.not_lt_zero q)⟩
  have e2 : (H q).toNat = q := by rw [hHq]; simp
  rcases h.low q hlt with h4 | h4
  · rw [e2] at h4; exact hnq h4
  · rw [e2] at h4; exact h4 hrq
theorem RC.all {n : Nat} {T : Nat → Nat → Bool} {H : Nat → Int} {reps : List Nat} (h : RC n T H reps n) (hH : ∀ v, v < n → LeastOf (Ed n T) v (H v)) : ∀ q, q < n → H q = q → q ∈ reps :=
  stuck_none hH fun q hq hHq hnq hrq => by
    have e2 : (H q).toNat = q := by rw [hHq]; simp
    rcases h.low q hq with h4 | h4
    · rw [e2] at h4; exact hnq h4
    · rw [e2] at h4; exact h4 hrq
theorem RC.len {n : Nat} {T : Nat → Nat → Bool} {H : Nat → Int} {reps : List Nat} {a : Nat} (h : RC n T H reps a) : reps.length ≤ n := nd_len h.greedy.nd fun p hp => (h.greedy.rep p hp).1
theorem rc_meas {n L a : Nat} (h : L + 1 ≤ n) : (n - (L + 1)) * (n + 1) + (n - 0) < (n - L) * (n + 1) + (n - a) := by
  have e : n - L = (n - (L + 1)) + 1 := by omega
  rw [e, Nat.add_mul, Nat.one_mul]
  omega

/-- A list of numbers in a cell. -/
def elIL : El (Value × List Int) where
  cells p := [p.1]
  size := 1
  pos := by decide
  len _ := rfl
  ok w F p := Lst elInt w F p.1 p.2
  one h u hu := by
    simp only [List.mem_singleton] at hu
    obtain ⟨ao, cap, e, _⟩ := h.shape
    rw [hu, e]; rfl
  move h hm := Lst.move h hm
/-- The members of a component, as numbers. -/
def memI (H : Nat → Int) (n r : Nat) : List Int := (memL H n r).map fun (u : Nat) => (u : Int)
theorem memI_succ (H : Nat → Int) (k r : Nat) : memI H (k + 1) r = memI H k r ++ (if H k == (r : Int) then [(k : Int)] else []) := by
  unfold memI
  rw [memL_succ, List.map_append]
  split <;> simp
theorem memI_len (H : Nat → Int) (k r : Nat) : (memI H k r).length ≤ k := by
  unfold memI memL
  rw [List.length_map]
  exact Nat.le_trans (List.length_filter_le _ _) (by simp)
/-- What the document's Components answers. -/
def rcAns (w : World) (n : Nat) (es : List Edg) (e : Ending) (w' : World) : Prop :=
  ∃ (tv : Value) (H : Nat → Int) (reps : List Nat) (ps : List (Value × List Int)), e = .returned (.tuple #[tv, .int .i64 0]) ∧ (∀ v, v < n → LeastOf (Ed n (lnkT es)) v (H v)) ∧ Greedy n (lnkT es) H reps ∧ (∀ q, q < n → H q = q → q ∈ reps) ∧ Grow elIL 33 w.heap.size w' tv ps ∧ ps.map Prod.snd = reps.map (memI H n)
theorem grow_only {α : Type} {E : El α} {e : TypeId} {base gq : Nat} {w w' : World} {v : Value} {l : List α} (h : Grow E e base w v l) (ho : Only (fun b => b = gq) w w') (hq : gq < base) : Grow E e base w' v l :=
  h.above fun b hb hlt => ho.block b hlt fun e => by omega
end Go.Proofs.Ytjifhmlfnnagcaa

namespace Go.Proofs.Ytjifhmlfnnagcaa
set_option linter.unusedSimpArgs false
set_option linter.unusedVariables false
open Go.RowKit Go.Maps
variable {P : Program}

structure QAt (base : Nat) (w : World) (g off cap : Nat) (l : List Nat) : Prop where
  ge : base ≤ g
  lt : g < w.heap.size
  le : l.length ≤ cap
  all : ∀ j, j < cap → (w.cell? ⟨g, off + j, none⟩).isSome = true ∧ w.frozen? ⟨g, off + j, none⟩ = false
  el : ∀ (i x : Nat), l[i]? = some x → w.cell? ⟨g, off + i, none⟩ = some (nv x)

theorem QAt.same {base : Nat} {w w' : World} {g off cap : Nat} {l : List Nat} (h : QAt base w g off cap l) (hs : w.heap.size ≤ w'.heap.size) (hb : w'.heap[g]? = w.heap[g]?) : QAt base w' g off cap l :=
  ⟨h.ge, Nat.lt_of_lt_of_le h.lt hs, h.le, fun j hj => by rw [World.cell?_of_block (w := w) hb, World.frozen?_of_block (w := w) hb]; exact h.all j hj, fun i x hi => by rw [World.cell?_of_block (w := w) hb]; exact h.el i x hi⟩
theorem QAt.pop {base : Nat} {w : World} {g off cap x : Nat} {l : List Nat} (h : QAt base w g off cap (x :: l)) : QAt base w g (off + 1) (cap - 1) l :=
  ⟨h.ge, h.lt, by have := h.le; simp at this; omega, fun j hj => by have := h.all (j + 1) (by omega); rw [Nat.add_assoc, Nat.add_comm 1 j]; exact this, fun i y hi => by have := h.el (i + 1) y (by simpa using hi); rw [Nat.add_assoc, Nat.add_comm 1 i]; exact this⟩
theorem QAt.none_ {base : Nat} {w : World} {g off cap : Nat} {l : List Nat} (h : QAt base w g off cap l) : QAt base w g off 0 [] :=
  ⟨h.ge, h.lt, by simp, fun j hj => by omega, fun i x hi => by simp at hi⟩

theorem wpList_qpush {w : World} {ops : Array Oper} {rest : List Oper} {o : Oper} {a : Act} {Q : Exit → Act → World → Prop} (hgd : o.guard = none) (s x : Operand) (t : TypeId)
    (ho : o.op = .call { callee := .builtin .append, args := #[s, x], argTypes := #[t, t] })
    (base : Nat) (e : TypeId) (i : TypeInfo) (z : Value) (ht : P.underlying t = some (.slice e)) (hi : P.info? e = some i) (hz : i.zero = some z)
    (hsize : i.size = 1) (hby : i.bytes = 8) (hzs : z.cells.size = 1)
    (g off n cap : Nat) (l : List Nat) (hn : l.length = n) (hs : a.eval s = .slice (some ⟨g, off, none⟩) n cap) (hq : QAt base w g off cap l)
    (y : Nat) (ad c : Nat) (hx : a.eval x = .slice (some ⟨ad, 0, none⟩) 1 c) (hnew : w.cell? ⟨ad, 0, none⟩ = some (nv y))
    (hl : n < 1000000) (hb : base ≤ w.heap.size)
    (h : ∀ g' off' cap' w', Hid (QAt base w' g' off' cap' (l ++ [y])) → Hid (Only (fun b => b = g) w w') → wpList P ops Q rest (a.put o.dst (.slice (some ⟨g', off', none⟩) (n + 1) cap')) w') : wpList P ops Q (o :: rest) a w := by
  subst hn
  have hnews : ∀ (j : Nat) (u : Value), [nv y][j]? = some u → w.cell? ((⟨ad, 0, none⟩ : Addr).add j) = some u := fun j u hu => by
    have hj : j = 0 := by have := (List.getElem?_eq_some_iff.1 hu).1; simpa using this
    subst hj
    simp only [List.getElem?_cons_zero, Option.some.injEq] at hu
    subst hu
    rw [addr_add, Nat.zero_add]
    exact hnew
  refine wpList_plain hgd fun K hK => ?_
  by_cases hr : l.length + 1 ≤ cap
  · have hrun : (Builtin.append_ #[t, t] o.type #[.slice (some ⟨g, off, none⟩) l.length cap, .slice (some ⟨ad, 0, none⟩) 1 c]).run P w = .ok (.slice (some ⟨g, off, none⟩) (l.length + 1) cap) (w.setCell ⟨g, off + l.length, none⟩ (nv y)) := by
      have h1 := run_append_room_src w t t o.type e i ht hi g off l.length cap (.slice (some ⟨ad, 0, none⟩) 1 c) 1 [nv y] (Src.ofSlice w ht ⟨ad, 0, none⟩ 1 c [nv y] (by rw [hsize]; rfl) hnews (by simp [nv, Value.oneCell'])) hr (fun j hj => by
        have hj0 : j = 0 := by simpa using hj
        subst hj0
        rw [hsize, Nat.mul_one, Nat.add_zero]
        exact (hq.all l.length (by omega)).1) (fun j hj => by
        have hj0 : j = 0 := by simpa using hj
        subst hj0
        rw [hsize, Nat.mul_one, Nat.add_zero]
        exact (hq.all l.length (by omega)).2)
      rw [h1, hsize, Nat.mul_one]
      rfl
    unfold Oper.wp execOp
    simp only [ho, resolve, invoke, builtin, Sem.run_bind, Sem.run_pure, Result.andThen_ok, List.map_toArray, List.map_cons, List.map_nil, hs, hx, hrun]
    refine hK _ _ (h g off cap _ ?_ ?_)
    · have hself : (w.setCell ⟨g, off + l.length, none⟩ (nv y)).cell? ⟨g, off + l.length, none⟩ = some (nv y) := World.cell?_setCell_same' _ _ _ (hq.all l.length (by omega)).1
      have hoth : ∀ j, j ≠ l.length → (w.setCell ⟨g, off + l.length, none⟩ (nv y)).cell? ⟨g, off + j, none⟩ = w.cell? ⟨g, off + j, none⟩ := fun j hj => World.cell?_setCell_other _ _ _ _ (fun e => by injection e with _ e2 _; omega)
      refine ⟨hq.ge, by simpa [World.setCell] using hq.lt, by simp; omega, fun j hj => ⟨?_, by simpa using (hq.all j hj).2⟩, fun i x hi => ?_⟩
      · by_cases e : j = l.length
        · subst e; rw [hself]; rfl
        · rw [hoth j e]; exact (hq.all j hj).1
      · by_cases e : i = l.length
        · subst e
          rw [List.getElem?_append_right (Nat.le_refl _), Nat.sub_self] at hi
          simp only [List.getElem?_cons_zero, Option.some.injEq] at hi
          rw [hself, hi]
        · have hlt : i < l.length := by have := (List.getElem?_eq_some_iff.1 hi).1; simp at this; omega
          rw [List.getElem?_append_left hlt] at hi
          rw [hoth i e]
          exact hq.el i x hi
    · exact Only.setCell (S := fun b => b = g) (Only.refl _ w) (p := ⟨g, off + l.length, none⟩) rfl _
  · have hrun := run_append_grow w t o.type e i z ht hi hz ⟨g, off, none⟩ l.length cap (l.map nv) (by rw [List.length_map, hsize, Nat.mul_one]) (fun j u hu => by
      rw [addr_add]
      rw [List.getElem?_map] at hu
      cases hx : l[j]? with
      | none => rw [hx] at hu; cases hu
      | some x =>
        rw [hx] at hu
        simp only [Option.map_some, Option.some.injEq] at hu
        rw [← hu]
        exact hq.el j x hx) ⟨ad, 0, none⟩ 1 c [nv y] (by rw [hsize]; rfl) hnews (by omega) (by omega) (by
        have := nextslicecap_le (need := l.length + 1) (old := cap) (by omega)
        rw [hby]
        omega)
    unfold Oper.wp execOp
    simp only [ho, resolve, invoke, builtin, Sem.run_bind, Sem.run_pure, Result.andThen_ok, List.map_toArray, List.map_cons, List.map_nil, hs, hx, hrun]
    have hgc := grownCap_ge w (l.length + 1) cap e
    obtain ⟨gc, hgce⟩ : ∃ gc, grownCap w (l.length + 1) cap e = gc := ⟨_, rfl⟩
    rw [hgce] at hgc ⊢
    have hnz := heap_alloc_new w.drew (.cells ((l.map nv).toArray ++ [nv y].toArray ++ Builtin.zeroCells z.cells (gc - (l.length + 1))) e)
    have hdr : w.drew.heap.size = w.heap.size := rfl
    rw [hdr] at hnz
    refine hK _ _ (h _ 0 _ _ ?_ ?_)
    · refine ⟨hb, by show _ < (w.drew.heap.push _).size; rw [Array.size_push]; exact Nat.lt_succ_self _, by simp; omega, fun j hj => ⟨?_, ?_⟩, fun i x hi => ?_⟩
      · rw [Nat.zero_add]
        simp only [World.cell?, hnz]
        rw [Array.getElem?_eq_getElem (by simp [size_zeroCells, hzs]; omega)]
        rfl
      · simp only [World.frozen?, hnz]; simp
      · rw [Nat.zero_add]
        simp only [World.cell?, hnz]
        have hlt : i < (l ++ [y]).length := (List.getElem?_eq_some_iff.1 hi).1
        rw [Array.getElem?_append_left (by simpa using hlt)]
        have : ((l.map nv).toArray ++ [nv y].toArray) = ((l ++ [y]).map nv).toArray := by simp
        rw [this, List.getElem?_toArray, List.getElem?_map, hi]
        rfl
    · exact ((Only.refl _ w).drew).alloc _
end Go.Proofs.Ytjifhmlfnnagcaa

namespace Go.Proofs.Ytjifhmlfnnagcaa
set_option linter.unusedSimpArgs false
set_option linter.unusedVariables false
open Go.RowKit Go.Maps

def rch (D : Nat → Int) (p : Nat) : Bool := decide (0 ≤ D p)
def unr (n : Nat) (D : Nat → Int) : Nat := (List.range n).countP fun p => decide (D p < 0)

/-- What the distances say: the edges (u, v) with v = q and k ≤ u are still to be looked at. -/
structure BInv (n : Nat) (T : Nat → Nat → Bool) (goal : Nat) (D : Nat → Int) (l : List Nat) (q k : Nat) : Prop where
  gl : goal < n
  zero : D goal = 0
  lo : ∀ u, u < n → -1 ≤ D u ∧ D u < (cnt n (rch D) : Int)
  nx : ∀ u, u < n → 0 ≤ D u → u ≠ goal → ∃ v, v < n ∧ T u v = true ∧ 0 ≤ D v ∧ D v = D u - 1
  cl : ∀ u v, u < n → v < n → T u v = true → 0 ≤ D v → 0 ≤ D u ∨ v ∈ l ∨ (v = q ∧ k ≤ u)
  ls : ∀ v ∈ l, v < n ∧ 0 ≤ D v
  qs : q < n ∧ 0 ≤ D q
  up : ∀ u, u < n → D u ≤ D q + 1
  srt : l.Pairwise fun a b => D a ≤ D b
  ql : ∀ v ∈ l, D q ≤ D v
  st : ∀ u v, u < n → v < n → T u v = true → 0 ≤ D v → v ∈ l ∨ (v = q ∧ k ≤ u) ∨ (0 ≤ D u ∧ D u ≤ D v + 1)

structure FarOk (n : Nat) (T : Nat → Nat → Bool) (goal : Nat) (D : Nat → Int) : Prop where
  gl : goal < n
  zero : D goal = 0
  lo : ∀ u, u < n → -1 ≤ D u ∧ D u < (n : Int)
  nx : ∀ u, u < n → 0 ≤ D u → u ≠ goal → ∃ v, v < n ∧ T u v = true ∧ 0 ≤ D v ∧ D v = D u - 1
  cl : ∀ u v, u < n → v < n → T u v = true → 0 ≤ D v → 0 ≤ D u
  st : ∀ u v, u < n → v < n → T u v = true → 0 ≤ D v → D u ≤ D v + 1

theorem BInv.start {n : Nat} (T : Nat → Nat → Bool) {goal : Nat} (hg : goal < n) : BInv n T goal (updI (fun _ => -1) goal 0) [goal] goal n := by
  have hs : updI (fun _ => -1) goal 0 goal = 0 := by unfold updI; simp
  have ho : ∀ u, u ≠ goal → updI (fun _ => -1) goal 0 u = -1 := fun u hu => by unfold updI; simp [hu]
  have hc : 0 < cnt n (rch (updI (fun _ => -1) goal 0)) := by
    unfold cnt
    exact List.countP_pos_iff.2 ⟨goal, List.mem_range.2 hg, by unfold rch; rw [hs]; rfl⟩
  refine ⟨hg, hs, fun u _ => ?_, fun u _ h0 hne => ?_, fun u v hu hv _ h0 => ?_, fun v hv => ?_, ⟨hg, by omega⟩, fun u _ => ?_, by simp, fun v hv => ?_, fun u v hu hv _ h0 => ?_⟩
  · by_cases e : u = goal
    · subst e; omega
    · rw [ho u e]; omega
  · rw [ho u hne] at h0; omega
  · by_cases e : v = goal
    · right; left; simp [e]
    · rw [ho v e] at h0; omega
  · simp only [List.mem_singleton] at hv
    subst hv
    exact ⟨hg, by omega⟩
  · by_cases e : u = goal
    · subst e; omega
    · rw [ho u e, hs]; omega
  · simp only [List.mem_singleton] at hv
    subst hv
    exact Int.le_refl _
  · by_cases e : v = goal
    · left; simp [e]
    · rw [ho v e] at h0; omega
theorem BInv.pop {n : Nat} {T : Nat → Nat → Bool} {goal : Nat} {D : Nat → Int} {x : Nat} {l : List Nat} {q : Nat} (h : BInv n T goal D (x :: l) q n) : BInv n T goal D l x 0 := by
  refine ⟨h.gl, h.zero, h.lo, h.nx, fun u v hu hv ht h0 => ?_, fun v hv => h.ls v (by simp [hv]), h.ls x (by simp), fun u hu => by have := h.up u hu; have := h.ql x (by simp); omega, (List.pairwise_cons.1 h.srt).2, fun v hv => (List.pairwise_cons.1 h.srt).1 v hv, fun u v hu hv ht h0 => ?_⟩
  · rcases h.cl u v hu hv ht h0 with h1 | h1 | ⟨_, h1⟩
    · exact .inl h1
    · rcases List.mem_cons.1 h1 with h1 | h1
      · exact .inr (.inr ⟨h1, Nat.zero_le _⟩)
      · exact .inr (.inl h1)
    · omega
  · rcases h.st u v hu hv ht h0 with h1 | ⟨_, h1⟩ | h1
    · rcases List.mem_cons.1 h1 with h1 | h1
      · exact .inr (.inl ⟨h1, Nat.zero_le _⟩)
      · exact .inl h1
    · omega
    · exact .inr (.inr h1)
theorem BInv.keep {n : Nat} {T : Nat → Nat → Bool} {goal : Nat} {D : Nat → Int} {l : List Nat} {q k : Nat} (h : BInv n T goal D l q k) (hk : T k q = false ∨ 0 ≤ D k) : BInv n T goal D l q (k + 1) := by
  refine ⟨h.gl, h.zero, h.lo, h.nx, fun u v hu hv ht h0 => ?_, h.ls, h.qs, h.up, h.srt, h.ql, fun u v hu hv ht h0 => ?_⟩
  · rcases h.cl u v hu hv ht h0 with h1 | h1 | ⟨h1, h2⟩
    · exact .inl h1
    · exact .inr (.inl h1)
    · rcases Nat.lt_or_ge k u with h3 | h3
      · exact .inr (.inr ⟨h1, h3⟩)
      · obtain rfl : u = k := by omega
        subst h1
        rcases hk with hk | hk
        · rw [hk] at ht; cases ht
        · exact .inl hk
  · rcases h.st u v hu hv ht h0 with h1 | ⟨h1, h2⟩ | h1
    · exact .inl h1
    · rcases Nat.lt_or_ge k u with h3 | h3
      · exact .inr (.inl ⟨h1, h3⟩)
      · obtain rfl : u = k := by omega
        subst h1
        rcases hk with hk | hk
        · rw [hk] at ht; cases ht
        · exact .inr (.inr ⟨hk, h.up u hu⟩)
    · exact .inr (.inr h1)
theorem BInv.add {n : Nat} {T : Nat → Nat → Bool} {goal : Nat} {D : Nat → Int} {l : List Nat} {q k : Nat} (h : BInv n T goal D l q k) (hk : k < n) (ht : T k q = true) (hd : D k < 0) : BInv n T goal (updI D k (D q + 1)) (l ++ [k]) q (k + 1) := by
  have hs : updI D k (D q + 1) k = D q + 1 := by unfold updI; simp
  have ho : ∀ u, u ≠ k → updI D k (D q + 1) u = D u := fun u hu => by unfold updI; simp [hu]
  have hqk : q ≠ k := fun e => by have := h.qs.2; rw [e] at this; omega
  have hgk : goal ≠ k := fun e => by have := h.zero; rw [e] at this; omega
  have hc : cnt n (rch (updI D k (D q + 1))) = cnt n (rch D) + 1 := by
    unfold cnt
    rw [← countP_one (f := rch D) (p := k) (by unfold rch; simpa using hd) List.nodup_range (List.mem_range.2 hk)]
    refine List.countP_congr fun x _ => ?_
    by_cases e : x = k
    · subst e; unfold rch; rw [hs]; have := h.qs.2; simp; omega
    · unfold rch; rw [ho x e]; simp [e]
  have hpos : ∀ u, 0 ≤ D u → 0 ≤ updI D k (D q + 1) u := fun u hu => by
    by_cases e : u = k
    · subst e; omega
    · rw [ho u e]; exact hu
  refine ⟨h.gl, by rw [ho goal hgk]; exact h.zero, fun u hu => ?_, fun u hu h0 hne => ?_, fun u v hu hv htt h0 => ?_, fun v hv => ?_, ⟨h.qs.1, hpos q h.qs.2⟩, fun u hu => ?_, ?_, fun v hv => ?_, fun u v hu hv htt h0 => ?_⟩
  · rw [hc]
    by_cases e : u = k
    · subst e; rw [hs]; have := h.lo q h.qs.1; have := h.qs.2; omega
    · rw [ho u e]; have := h.lo u hu; omega
  · by_cases e : u = k
    · subst e
      exact ⟨q, h.qs.1, ht, hpos q h.qs.2, by rw [hs, ho q hqk]; omega⟩
    · rw [ho u e] at h0 ⊢
      obtain ⟨v, hv, h1, h2, h3⟩ := h.nx u hu h0 hne
      have hvk : v ≠ k := fun e => by rw [e] at h2; omega
      exact ⟨v, hv, h1, hpos v h2, by rw [ho v hvk]; exact h3⟩
  · by_cases e : v = k
    · right; left; simp [e]
    · rw [ho v e] at h0
      rcases h.cl u v hu hv htt h0 with h1 | h1 | ⟨h1, h2⟩
      · exact .inl (hpos u h1)
      · exact .inr (.inl (by simp [h1]))
      · rcases Nat.lt_or_ge k u with h3 | h3
        · exact .inr (.inr ⟨h1, h3⟩)
        · obtain rfl : u = k := by omega
          left; rw [hs]; have := h.qs.2; omega
  · rcases List.mem_append.1 hv with hv | hv
    · exact ⟨(h.ls v hv).1, hpos v (h.ls v hv).2⟩
    · simp only [List.mem_singleton] at hv
      subst hv
      exact ⟨hk, by rw [hs]; have := h.qs.2; omega⟩
  · rw [ho q hqk]
    by_cases e : u = k
    · subst e; rw [hs]; exact Int.le_refl _
    · rw [ho u e]; exact h.up u hu
  · have hlk : ∀ a ∈ l, a ≠ k := fun a ha e => by have := (h.ls a ha).2; rw [e] at this; omega
    refine List.pairwise_append.2 ⟨?_, by simp, fun a ha b hb => ?_⟩
    · exact h.srt.imp_of_mem fun ha hb hab => by rw [ho _ (hlk _ ha), ho _ (hlk _ hb)]; exact hab
    · simp only [List.mem_singleton] at hb
      subst hb
      rw [ho a (hlk a ha), hs]
      exact h.up a (h.ls a ha).1
  · rw [ho q hqk]
    rcases List.mem_append.1 hv with hv | hv
    · rw [ho v (fun e => by have := (h.ls v hv).2; rw [e] at this; omega)]; exact h.ql v hv
    · simp only [List.mem_singleton] at hv
      subst hv
      rw [hs]; omega
  · by_cases e : v = k
    · left; simp [e]
    · rw [ho v e] at h0 ⊢
      rcases h.st u v hu hv htt h0 with h1 | ⟨h1, h2⟩ | ⟨h1, h2⟩
      · exact .inl (by simp [h1])
      · rcases Nat.lt_or_ge k u with h3 | h3
        · exact .inr (.inl ⟨h1, h3⟩)
        · obtain rfl : u = k := by omega
          subst h1
          exact .inr (.inr ⟨by rw [hs]; omega, by rw [hs]; exact Int.le_refl _⟩)
      · have e2 : u ≠ k := fun e2 => by rw [e2] at h1; omega
        rw [ho u e2]
        exact .inr (.inr ⟨h1, h2⟩)
theorem unr_add {n : Nat} {D : Nat → Int} {k : Nat} {x : Int} (hk : k < n) (hd : D k < 0) (hx : 0 ≤ x) : unr n (updI D k x) < unr n D := by
  unfold unr
  refine countP_lt (fun p _ hp => ?_) ⟨k, List.mem_range.2 hk, by simpa using hd, by unfold updI; simp; omega⟩
  unfold updI at hp
  split at hp
  · simp at hp; omega
  · exact hp
theorem BInv.done {n : Nat} {T : Nat → Nat → Bool} {goal : Nat} {D : Nat → Int} {q : Nat} (h : BInv n T goal D [] q n) : FarOk n T goal D :=
  ⟨h.gl, h.zero, fun u hu => by have := h.lo u hu; have := cnt_le n (rch D); omega, h.nx, fun u v hu hv ht h0 => by
    rcases h.cl u v hu hv ht h0 with h1 | h1 | ⟨_, h1⟩
    · exact h1
    · cases h1
    · omega, fun u v hu hv ht h0 => by
    rcases h.st u v hu hv ht h0 with h1 | ⟨_, h1⟩ | h1
    · cases h1
    · omega
    · exact h1.2⟩
theorem FarOk.reach {n : Nat} {T : Nat → Nat → Bool} {goal : Nat} {D : Nat → Int} (h : FarOk n T goal D) {a b : Nat} (hr : Reach (Ed n T) a b) : 0 ≤ D b → 0 ≤ D a := by
  induction hr with
  | refl => exact id
  | tail _ e ih => exact fun h0 => ih (h.cl _ _ e.1 e.2.1 e.2.2 h0)
end Go.Proofs.Ytjifhmlfnnagcaa

namespace Go.Proofs.Ytjifhmlfnnagcaa
set_option linter.unusedSimpArgs false
set_option linter.unusedVariables false
open Go.RowKit Go.Maps
set_option maxRecDepth 100000

def negFar (g n : Nat) (w : World) : Nat := (List.range n).countP fun i => match w.cell? ⟨g, i, none⟩ with | some (.int .i64 b) => decide (b < 0) | _ => false
theorem negFar_eq {w : World} {g n : Nat} {D : Nat → Int} (h : w.rowIs g 3 n (fun i => .int .i64 (D i))) : negFar g n w = unr n D := by
  unfold negFar unr
  refine List.countP_congr fun i hi => ?_
  rw [h.cell (List.mem_range.1 hi)]

theorem unr_le (n : Nat) (D : Nat → Int) : unr n D ≤ n := by
  unfold unr
  have := List.countP_le_length (p := fun p => decide (D p < 0)) (l := List.range n)
  simpa using this

set_option maxHeartbeats 1000000 in
theorem distances_any {w : World} {gl n c goal : Nat} {T N : Nat → Nat → Bool} {F : Nat → Nat → Int} (h : LinksAt w gl n T N F) (hn : n ≤ 128) (hg : goal < n) :
    Calls Try.prog 41 #[.agg #[.int .i64 (n : Int), .slice (some ⟨gl, 0, none⟩) (n * n) c], .int .i64 (goal : Int)] w fun e w' => ∃ (g : Nat) (D : Nat → Int), e = .returned (.slice (some ⟨g, 0, none⟩) n n) ∧ w'.rowIs g 3 n (fun i => .int .i64 (D i)) ∧ FarOk n T goal D ∧ Below w.heap.size w w' := by
  obtain ⟨i0, hi0, hz0, hz1, hz2⟩ := info_parts Try.infoInt8
  have HL := hide h
  have hglt := h.lt
  have hgi : (goal : Int) < (n : Int) := by omega
  have hgi0 : (0 : Int) ≤ (goal : Int) := by omega
  have hb0 := belo1 w (.cells #[.int .i64 (n : Int), .slice (some ⟨gl, 0, none⟩) (n * n) c] 48)
  have HFl := hide (filled_any (w := w.alloc (.cells #[.int .i64 (n : Int), .slice (some ⟨gl, 0, none⟩) (n * n) c] 48)) (N := n) (-1) hn)
  have HGr : Hid ((w.alloc (.cells #[.int .i64 (n : Int), .slice (some ⟨gl, 0, none⟩) (n * n) c] 48)).heap[w.heap.size]? = some (.cells #[.int .i64 (n : Int), .slice (some ⟨gl, 0, none⟩) (n * n) c] 48 (0, 0))) := heap_alloc_new _ _
  have HB0 := hide hb0
  have HY : Hid ((w.alloc (.cells #[.int .i64 (n : Int), .slice (some ⟨gl, 0, none⟩) (n * n) c] 48)).heap.size = w.heap.size + 1) := by show _ = _; simp
  clear h hb0
  go_enter Try.func41, Try.ntmps41
  go_wp2_with (go_at_call 43; refine HFl.out.mono ?_; rintro e w1 ⟨gf, rfl, h1, h2, h3⟩; rw [HY.out] at h1; have y0 := h2.cell hg; have y0f := h2.frozen goal; have HR1 := hide h2; have HG1 : Hid (w1.heap[w.heap.size]? = some (.cells #[.int .i64 (n : Int), .slice (some ⟨gl, 0, none⟩) (n * n) c] 48 (0, 0))) := (by show _ = _; rw [h3.block _ (by rw [HY.out]; omega)]; exact HGr.out); have HB1 := hide (HB0.out.trans (h3.mono HB0.out.size)); clear h2 h3 HFl HY HGr HB0)
  have HQ0 : Hid (QAt (gf + 1) ((w1.setCell ⟨gf, goal, none⟩ (.int .i64 0)).alloc (.cells #[.int .i64 (goal : Int)] 3)) w1.heap.size 0 1 [goal]) := by
    have hz := heap_alloc_new (w1.setCell ⟨gf, goal, none⟩ (.int .i64 0)) (.cells #[.int .i64 (goal : Int)] 3)
    have hs : (w1.setCell ⟨gf, goal, none⟩ (.int .i64 0)).heap.size = w1.heap.size := by simp [World.setCell]
    rw [hs] at hz
    refine ⟨HR1.out.lt, by simp, by simp, fun j hj => ?_, fun i x hi => ?_⟩
    · obtain rfl : j = 0 := by omega
      constructor
      · simp only [World.cell?, hz]; simp
      · simp only [World.frozen?, hz]; simp
    · obtain rfl : i = 0 := by have := (List.getElem?_eq_some_iff.1 hi).1; simpa using this
      simp only [List.getElem?_cons_zero, Option.some.injEq] at hi
      subst hi
      simp only [World.cell?, hz]; simp [nv]
  have HR0 : Hid (((w1.setCell ⟨gf, goal, none⟩ (.int .i64 0)).alloc (.cells #[.int .i64 (goal : Int)] 3)).rowIs gf 3 n (fun p => .int .i64 (updI (fun _ => -1) goal 0 p))) := by
    refine ((HR1.out.set goal (.int .i64 0)).congr fun p _ => ?_).alloc _
    unfold updI
    split <;> rfl
  have HG0 : Hid (((w1.setCell ⟨gf, goal, none⟩ (.int .i64 0)).alloc (.cells #[.int .i64 (goal : Int)] 3)).heap[w.heap.size]? = some (.cells #[.int .i64 (n : Int), .slice (some ⟨gl, 0, none⟩) (n * n) c] 48 (0, 0))) := by
    show _ = _
    have hlt := (Array.getElem?_eq_some_iff.1 HG1.out).1
    rw [heap_alloc_old _ _ (by simpa [World.setCell] using hlt), heap_other (by omega)]
    exact HG1.out
  have HB2 : Hid (Below w.heap.size w ((w1.setCell ⟨gf, goal, none⟩ (.int .i64 0)).alloc (.cells #[.int .i64 (goal : Int)] 3))) := (HB1.out.setCell (by show _ ≤ gf; omega) _).alloc (by have := HB1.out.size; simpa [World.setCell] using this) _
  clear HR1 HG1 HB1 y0 y0f
  go_loopw [6] (fun rv wl => ∃ (D : Nat → Int) (l : List Nat) (g off cap : Nat), rv = .slice (some ⟨g, off, none⟩) l.length cap ∧ Hid (QAt (gf + 1) wl g off cap l) ∧ Hid (wl.rowIs gf 3 n (fun p => .int .i64 (D p))) ∧ Hid ((∃ q, BInv n T goal D l q n) ∧ l.length + unr n D ≤ n + 1) ∧ Hid (wl.heap[w.heap.size]? = some (.cells #[.int .i64 (n : Int), .slice (some ⟨gl, 0, none⟩) (n * n) c] 48 (0, 0))) ∧ Hid (Below w.heap.size w wl)) (fun rv wl => lenV rv + negFar gf n wl)
  case atStart => exact ⟨_, [goal], _, _, _, rfl, HQ0, HR0, ⟨⟨goal, BInv.start T hg⟩, by have := unr_le n (updI (fun _ => -1) goal 0); simp; omega⟩, HG0, HB2⟩
  case round =>
    clear HQ0 HR0 HG0 HB2
    obtain ⟨D, l, g, off, cap, rfl, HQ, HR, HI, HG, HB⟩ := hrel
    cases l with
    | nil =>
      obtain ⟨⟨q, hq⟩, hqb⟩ := HI.out
      have HFo := hide hq.done
      clear hq HI
      go_wp2
      go_ret
      exact ⟨_, D, rfl, HR.out, HFo.out, HB.out⟩
    | cons x l =>
      obtain ⟨⟨q, hq⟩, hqb⟩ := HI.out
      have HI2 := hide hq.pop
      have hxn := hq.ls x (by simp)
      have hcap : l.length + 1 ≤ cap := by simpa using HQ.out.le
      have y0 := HQ.out.el 0 x rfl
      simp only [Nat.add_zero, nv] at y0
      have hxi : (x : Int) < (n : Int) := by omega
      have hxi0 : (0 : Int) ≤ (x : Int) := by omega
      obtain ⟨N0, hN0⟩ : ∃ N0, l.length + unr n D = N0 := ⟨_, rfl⟩
      have HMu : Hid (lenV (.slice (some ⟨g, off, none⟩) (x :: l).length cap) + negFar gf n wr = N0 + 1) := by
        show _ = _
        rw [negFar_eq HR.out]
        simp only [lenV, List.length_cons]
        omega
      have x0 : wr.cell? ⟨w.heap.size, 0, none⟩ = some (.int .i64 (n : Int)) := by simp [World.cell?, HG.out]
      have hlc : ((x :: l).length : Int) = (l.length : Int) + 1 := by simp
      have hlc2 : (x :: l).length = l.length + 1 := by simp
      have HSt : Hid (BInv n T goal D l x 0 ∧ l.length + unr n D ≤ N0) := ⟨HI2.out, by omega⟩
      have HN0 : Hid (N0 < 1000000) := by show _ < _; simp only [List.length_cons] at hqb; omega
      have HN1 : Hid (N0 ≤ n) := by show _ ≤ _; simp only [List.length_cons] at hqb; omega
      clear hq HI HI2 hN0 hqb
      by_cases hc1 : cap = 1
      · have hl0 : l = [] := List.eq_nil_of_length_eq_zero (by omega)
        subst hc1
        have HQ2 : Hid (QAt (gf + 1) wr g off 0 l) := by show QAt _ _ _ _ _ _; rw [hl0]; exact HQ.out.none_
        have hll : l.length = 0 := by rw [hl0]; rfl
        clear HQ
        have hlc3 : (x :: l).length = 1 := by rw [hlc2, hll]
        rw [hlc3]
        go_wp2
        go_loopw [6, 27] (fun rv iv wl => ∃ (k : Nat) (D : Nat → Int) (l : List Nat) (g off cap : Nat), k ≤ n ∧ iv = .int .i64 k ∧ rv = .slice (some ⟨g, off, none⟩) l.length cap ∧ Hid (QAt (gf + 1) wl g off cap l) ∧ Hid (wl.rowIs gf 3 n (fun p => .int .i64 (D p))) ∧ Hid (BInv n T goal D l x k ∧ l.length + unr n D ≤ N0) ∧ Hid (wl.heap[w.heap.size]? = some (.cells #[.int .i64 (n : Int), .slice (some ⟨gl, 0, none⟩) (n * n) c] 48 (0, 0))) ∧ Hid (Below w.heap.size w wl)) (fun _ iv _ => n - (intOf iv).toNat)
        case atStart => exact ⟨0, D, l, g, _, _, by omega, rfl, by rw [hll], HQ2, HR, HSt, HG, HB⟩
        case round =>
          clear HQ2 HR HSt HG HB x0 y0
          obtain ⟨k, D, l, g, off, cap, hk, rfl, rfl, HQ, HR, HI, HG, HB⟩ := hrel
          by_cases hlt : k < n
          · have hki : (k : Int) < (n : Int) := by omega
            have hki0 : (0 : Int) ≤ (k : Int) := by omega
            have x0 : wr.cell? ⟨w.heap.size, 0, none⟩ = some (.int .i64 (n : Int)) := by simp [World.cell?, HG.out]
            have x1 : wr.cell? ⟨w.heap.size, 1, none⟩ = some (.slice (some ⟨gl, 0, none⟩) (n * n) c) := by simp [World.cell?, HG.out]
            have HLd := hide (leads_any (c := c) (HL.out.low HB.out hglt) hn hlt hxn.1)
            obtain ⟨hdx0, hdx1⟩ := HI.out.1.lo x hxn.1
            have hdx2 := HI.out.1.qs.2
            have hcl := cnt_le n (rch D)
            have hdx3 : D x < 1000000 := by omega
            clear hdx0 hdx1 hcl
            cases htb : T k x with
            | false =>
              rw [htb] at HLd
              have HIn : Hid (BInv n T goal D l x (k + 1) ∧ l.length + unr n D ≤ N0) := ⟨HI.out.1.keep (.inl htb), HI.out.2⟩
              go_wp2_with (go_at_call 47; refine HLd.out.mono ?_; rintro e w2 ⟨rfl, h2⟩; have z0 := (HR.out.of_block (h2.block _ HR.out.lt)).cell hlt; have HQ2 := hide (HQ.out.same h2.size (h2.block _ HQ.out.lt)); have HR2 := hide (HR.out.of_block (h2.block _ HR.out.lt)); have HG2 : Hid (w2.heap[w.heap.size]? = some (.cells #[.int .i64 (n : Int), .slice (some ⟨gl, 0, none⟩) (n * n) c] 48 (0, 0))) := (by show _ = _; rw [h2.block _ (Array.getElem?_eq_some_iff.1 HG.out).1]; exact HG.out); have HB2 := hide (HB.out.trans (h2.mono HB.out.size)); clear h2 HQ HR HG HB HLd x0 x1)
              go_roundw
              case rel => exact ⟨k + 1, D, l, g, off, cap, by omega, by go_num, rfl, HQ2, HR2, HIn, HG2, HB2⟩
              case measure => simp [intOf]; omega
            | true =>
              rw [htb] at HLd
              by_cases hdk : D k < 0
              · have HIn : Hid (BInv n T goal (updI D k (D x + 1)) (l ++ [k]) x (k + 1) ∧ (l ++ [k]).length + unr n (updI D k (D x + 1)) ≤ N0) := ⟨HI.out.1.add hlt htb hdk, by have := unr_add (x := D x + 1) hlt hdk (by omega); have := HI.out.2; simp; omega⟩
                have hll : l.length < 1000000 := by have := HI.out.2; have := HN0.out; omega
                obtain ⟨dx, hdx⟩ : ∃ dx, D x = dx := ⟨_, rfl⟩
                obtain ⟨dk, hdk'⟩ : ∃ dk, D k = dk := ⟨_, rfl⟩
                rw [hdx] at hdx2 hdx3 HIn
                rw [hdk'] at hdk
                obtain ⟨ql, hql⟩ : ∃ ql, l.length = ql := ⟨_, rfl⟩
                have HLn := hide hql
                rw [hql] at hll
                rw [hql]
                go_wp2_with (first
                  | (go_at_call 47; refine HLd.out.mono ?_; rintro e w2 ⟨rfl, h2⟩
                     have z0 := (HR.out.of_block (h2.block _ HR.out.lt)).cell hlt
                     have z1 := (HR.out.of_block (h2.block _ HR.out.lt)).cell hxn.1
                     have z0f := (HR.out.of_block (h2.block _ HR.out.lt)).frozen k
                     rw [hdk'] at z0
                     rw [hdx] at z1
                     have hq2 := HQ.out.same h2.size (h2.block _ HQ.out.lt)
                     have hgne : g ≠ gf := by have := HQ.out.ge; omega
                     have hsz : ((w2.setCell ⟨gf, k, none⟩ (.int .i64 (dx + 1))).alloc (.cells #[.int .i64 (k : Int)] 3)).heap.size = w2.heap.size + 1 := by simp [World.setCell]
                     have HQ3 : Hid (QAt (gf + 1) ((w2.setCell ⟨gf, k, none⟩ (.int .i64 (dx + 1))).alloc (.cells #[.int .i64 (k : Int)] 3)) g off cap l) := hq2.same (by rw [hsz]; omega) (by rw [heap_alloc_old _ _ (by simpa [World.setCell] using hq2.lt), heap_other hgne])
                     have HR3 : Hid (((w2.setCell ⟨gf, k, none⟩ (.int .i64 (dx + 1))).alloc (.cells #[.int .i64 (k : Int)] 3)).rowIs gf 3 n (fun p => .int .i64 (updI D k (dx + 1) p))) := (((HR.out.of_block (h2.block _ HR.out.lt)).set k (.int .i64 (dx + 1))).congr (fun p _ => by unfold updI; split <;> rfl)).alloc _
                     have hbl := (Array.getElem?_eq_some_iff.1 HG.out).1
                     have HG3 : Hid (((w2.setCell ⟨gf, k, none⟩ (.int .i64 (dx + 1))).alloc (.cells #[.int .i64 (k : Int)] 3)).heap[w.heap.size]? = some (.cells #[.int .i64 (n : Int), .slice (some ⟨gl, 0, none⟩) (n * n) c] 48 (0, 0))) := by
                       show _ = _
                       have := h2.size
                       rw [heap_alloc_old _ _ (by simp [World.setCell]; omega), heap_other (by omega), h2.block _ hbl]
                       exact HG.out
                     have hb2 := HB.out.trans (h2.mono HB.out.size)
                     have HB3 : Hid (Below w.heap.size w ((w2.setCell ⟨gf, k, none⟩ (.int .i64 (dx + 1))).alloc (.cells #[.int .i64 (k : Int)] 3))) := (hb2.setCell (by show _ ≤ gf; omega) _).alloc (by have := hb2.size; simpa [World.setCell] using this) _
                     have hgs : gf + 1 ≤ ((w2.setCell ⟨gf, k, none⟩ (.int .i64 (dx + 1))).alloc (.cells #[.int .i64 (k : Int)] 3)).heap.size := by have := HR.out.lt; have := h2.size; rw [hsz]; omega
                     have hnw : ((w2.setCell ⟨gf, k, none⟩ (.int .i64 (dx + 1))).alloc (.cells #[.int .i64 (k : Int)] 3)).cell? ⟨w2.heap.size, 0, none⟩ = some (nv k) := by
                       have := heap_alloc_new (w2.setCell ⟨gf, k, none⟩ (.int .i64 (dx + 1))) (.cells #[.int .i64 (k : Int)] 3)
                       rw [show (w2.setCell ⟨gf, k, none⟩ (.int .i64 (dx + 1))).heap.size = w2.heap.size by simp [World.setCell]] at this
                       simp only [World.cell?, this]; simp [nv]
                     have HGne := hide hgne
                     have HGs := hide hgs
                     have HNw := hide hnw
                     clear h2 hq2 hsz hbl hb2 hgs hnw hgne HQ HR HG HB HLd x0 x1)
                  | (at_builtin; refine wpList_qpush rfl _ _ 33 rfl (gf + 1) 3 i0 _ Try.underlying33 hi0 hz0 hz1 hz2 rfl g off ql cap l HLn.out rfl HQ3.out k w2.heap.size 1 rfl HNw.out hll HGs.out ?_))
                intro g' off' cap' w4 HQ4 HO4
                have HR4 := hide (HR3.out.of_block (HO4.out.block _ HR3.out.lt (fun e => HGne.out e.symm)))
                have HB4 := hide (HB3.out.trans (HO4.out.below HB3.out.size (fun b hb e => by have := HQ3.out.ge; omega)))
                have HG4 : Hid (w4.heap[w.heap.size]? = some (.cells #[.int .i64 (n : Int), .slice (some ⟨gl, 0, none⟩) (n * n) c] 48 (0, 0))) := by show _ = _; rw [HO4.out.block _ (Array.getElem?_eq_some_iff.1 HG3.out).1 (fun e => by have := HQ3.out.ge; omega)]; exact HG3.out
                clear HR3 HB3 HG3 HO4 HNw HGs HGne HQ3
                go_wp2
                go_roundw
                case rel => exact ⟨k + 1, _, l ++ [k], g', off', cap', by omega, by go_num, by simp [hql], HQ4, HR4, HIn, HG4, HB4⟩
                case measure => simp [intOf]; omega
              · have HIn : Hid (BInv n T goal D l x (k + 1) ∧ l.length + unr n D ≤ N0) := ⟨HI.out.1.keep (.inr (by omega)), HI.out.2⟩
                go_wp2_with (go_at_call 47; refine HLd.out.mono ?_; rintro e w2 ⟨rfl, h2⟩; have z0 := (HR.out.of_block (h2.block _ HR.out.lt)).cell hlt; have HQ2 := hide (HQ.out.same h2.size (h2.block _ HQ.out.lt)); have HR2 := hide (HR.out.of_block (h2.block _ HR.out.lt)); have HG2 : Hid (w2.heap[w.heap.size]? = some (.cells #[.int .i64 (n : Int), .slice (some ⟨gl, 0, none⟩) (n * n) c] 48 (0, 0))) := (by show _ = _; rw [h2.block _ (Array.getElem?_eq_some_iff.1 HG.out).1]; exact HG.out); have HB2 := hide (HB.out.trans (h2.mono HB.out.size)); clear h2 HQ HR HG HB HLd x0 x1)
                go_roundw
                case rel => exact ⟨k + 1, D, l, g, off, cap, by omega, by go_num, rfl, HQ2, HR2, HIn, HG2, HB2⟩
                case measure => simp [intOf]; omega
          · obtain rfl : k = n := by omega
            have hki : ¬ (k : Int) < (k : Int) := by omega
            go_wp2
            refine ⟨⟨D, l, g, off, cap, rfl, HQ, HR, ⟨⟨x, HI.out.1⟩, by have := HI.out.2; have := HN1.out; omega⟩, HG, HB⟩, ?_⟩
            have hm := HMu.out
            have := HI.out.2
            simp only [lenV, List.length_cons] at hm ⊢
            rw [negFar_eq HR.out]
            omega

      · have HQ2 := hide HQ.out.pop
        clear HQ
        rw [hlc2]
        go_wp2
        go_loopw [6, 27] (fun rv iv wl => ∃ (k : Nat) (D : Nat → Int) (l : List Nat) (g off cap : Nat), k ≤ n ∧ iv = .int .i64 k ∧ rv = .slice (some ⟨g, off, none⟩) l.length cap ∧ Hid (QAt (gf + 1) wl g off cap l) ∧ Hid (wl.rowIs gf 3 n (fun p => .int .i64 (D p))) ∧ Hid (BInv n T goal D l x k ∧ l.length + unr n D ≤ N0) ∧ Hid (wl.heap[w.heap.size]? = some (.cells #[.int .i64 (n : Int), .slice (some ⟨gl, 0, none⟩) (n * n) c] 48 (0, 0))) ∧ Hid (Below w.heap.size w wl)) (fun _ iv _ => n - (intOf iv).toNat)
        case atStart => exact ⟨0, D, l, g, _, _, by omega, rfl, by simp, HQ2, HR, HSt, HG, HB⟩
        case round =>
          clear HQ2 HR HSt HG HB x0 y0
          obtain ⟨k, D, l, g, off, cap, hk, rfl, rfl, HQ, HR, HI, HG, HB⟩ := hrel
          by_cases hlt : k < n
          · have hki : (k : Int) < (n : Int) := by omega
            have hki0 : (0 : Int) ≤ (k : Int) := by omega
            have x0 : wr.cell? ⟨w.heap.size, 0, none⟩ = some (.int .i64 (n : Int)) := by simp [World.cell?, HG.out]
            have x1 : wr.cell? ⟨w.heap.size, 1, none⟩ = some (.slice (some ⟨gl, 0, none⟩) (n * n) c) := by simp [World.cell?, HG.out]
            have HLd := hide (leads_any (c := c) (HL.out.low HB.out hglt) hn hlt hxn.1)
            obtain ⟨hdx0, hdx1⟩ := HI.out.1.lo x hxn.1
            have hdx2 := HI.out.1.qs.2
            have hcl := cnt_le n (rch D)
            have hdx3 : D x < 1000000 := by omega
            clear hdx0 hdx1 hcl
            cases htb : T k x with
            | false =>
              rw [htb] at HLd
              have HIn : Hid (BInv n T goal D l x (k + 1) ∧ l.length + unr n D ≤ N0) := ⟨HI.out.1.keep (.inl htb), HI.out.2⟩
              go_wp2_with (go_at_call 47; refine HLd.out.mono ?_; rintro e w2 ⟨rfl, h2⟩; have z0 := (HR.out.of_block (h2.block _ HR.out.lt)).cell hlt; have HQ2 := hide (HQ.out.same h2.size (h2.block _ HQ.out.lt)); have HR2 := hide (HR.out.of_block (h2.block _ HR.out.lt)); have HG2 : Hid (w2.heap[w.heap.size]? = some (.cells #[.int .i64 (n : Int), .slice (some ⟨gl, 0, none⟩) (n * n) c] 48 (0, 0))) := (by show _ = _; rw [h2.block _ (Array.getElem?_eq_some_iff.1 HG.out).1]; exact HG.out); have HB2 := hide (HB.out.trans (h2.mono HB.out.size)); clear h2 HQ HR HG HB HLd x0 x1)
              go_roundw
              case rel => exact ⟨k + 1, D, l, g, off, cap, by omega, by go_num, rfl, HQ2, HR2, HIn, HG2, HB2⟩
              case measure => simp [intOf]; omega
            | true =>
              rw [htb] at HLd
              by_cases hdk : D k < 0
              · have HIn : Hid (BInv n T goal (updI D k (D x + 1)) (l ++ [k]) x (k + 1) ∧ (l ++ [k]).length + unr n (updI D k (D x + 1)) ≤ N0) := ⟨HI.out.1.add hlt htb hdk, by have := unr_add (x := D x + 1) hlt hdk (by omega); have := HI.out.2; simp; omega⟩
                have hll : l.length < 1000000 := by have := HI.out.2; have := HN0.out; omega
                obtain ⟨dx, hdx⟩ : ∃ dx, D x = dx := ⟨_, rfl⟩
                obtain ⟨dk, hdk'⟩ : ∃ dk, D k = dk := ⟨_, rfl⟩
                rw [hdx] at hdx2 hdx3 HIn
                rw [hdk'] at hdk
                obtain ⟨ql, hql⟩ : ∃ ql, l.length = ql := ⟨_, rfl⟩
                have HLn := hide hql
                rw [hql] at hll
                rw [hql]
                go_wp2_with (first
                  | (go_at_call 47; refine HLd.out.mono ?_; rintro e w2 ⟨rfl, h2⟩
                     have z0 := (HR.out.of_block (h2.block _ HR.out.lt)).cell hlt
                     have z1 := (HR.out.of_block (h2.block _ HR.out.lt)).cell hxn.1
                     have z0f := (HR.out.of_block (h2.block _ HR.out.lt)).frozen k
                     rw [hdk'] at z0
                     rw [hdx] at z1
                     have hq2 := HQ.out.same h2.size (h2.block _ HQ.out.lt)
                     have hgne : g ≠ gf := by have := HQ.out.ge; omega
                     have hsz : ((w2.setCell ⟨gf, k, none⟩ (.int .i64 (dx + 1))).alloc (.cells #[.int .i64 (k : Int)] 3)).heap.size = w2.heap.size + 1 := by simp [World.setCell]
                     have HQ3 : Hid (QAt (gf + 1) ((w2.setCell ⟨gf, k, none⟩ (.int .i64 (dx + 1))).alloc (.cells #[.int .i64 (k : Int)] 3)) g off cap l) := hq2.same (by rw [hsz]; omega) (by rw [heap_alloc_old _ _ (by simpa [World.setCell] using hq2.lt), heap_other hgne])
                     have HR3 : Hid (((w2.setCell ⟨gf, k, none⟩ (.int .i64 (dx + 1))).alloc (.cells #[.int .i64 (k : Int)] 3)).rowIs gf 3 n (fun p => .int .i64 (updI D k (dx + 1) p))) := (((HR.out.of_block (h2.block _ HR.out.lt)).set k (.int .i64 (dx + 1))).congr (fun p _ => by unfold updI; split <;> rfl)).alloc _
                     have hbl := (Array.getElem?_eq_some_iff.1 HG.out).1
                     have HG3 : Hid (((w2.setCell ⟨gf, k, none⟩ (.int .i64 (dx + 1))).alloc (.cells #[.int .i64 (k : Int)] 3)).heap[w.heap.size]? = some (.cells #[.int .i64 (n : Int), .slice (some ⟨gl, 0, none⟩) (n * n) c] 48 (0, 0))) := by
                       show _ = _
                       have := h2.size
                       rw [heap_alloc_old _ _ (by simp [World.setCell]; omega), heap_other (by omega), h2.block _ hbl]
                       exact HG.out
                     have hb2 := HB.out.trans (h2.mono HB.out.size)
                     have HB3 : Hid (Below w.heap.size w ((w2.setCell ⟨gf, k, none⟩ (.int .i64 (dx + 1))).alloc (.cells #[.int .i64 (k : Int)] 3))) := (hb2.setCell (by show _ ≤ gf; omega) _).alloc (by have := hb2.size; simpa [World.setCell] using this) _
                     have hgs : gf + 1 ≤ ((w2.setCell ⟨gf, k, none⟩ (.int .i64 (dx + 1))).alloc (.cells #[.int .i64 (k : Int)] 3)).heap.size := by have := HR.out.lt; have := h2.size; rw [hsz]; omega
                     have hnw : ((w2.setCell ⟨gf, k, none⟩ (.int .i64 (dx + 1))).alloc (.cells #[.int .i64 (k : Int)] 3)).cell? ⟨w2.heap.size, 0, none⟩ = some (nv k) := by
                       have := heap_alloc_new (w2.setCell ⟨gf, k, none⟩ (.int .i64 (dx + 1))) (.cells #[.int .i64 (k : Int)] 3)
                       rw [show (w2.setCell ⟨gf, k, none⟩ (.int .i64 (dx + 1))).heap.size = w2.heap.size by simp [World.setCell]] at this
                       simp only [World.cell?, this]; simp [nv]
                     have HGne := hide hgne
                     have HGs := hide hgs
                     have HNw := hide hnw
                     clear h2 hq2 hsz hbl hb2 hgs hnw hgne HQ HR HG HB HLd x0 x1)
                  | (at_builtin; refine wpList_qpush rfl _ _ 33 rfl (gf + 1) 3 i0 _ Try.underlying33 hi0 hz0 hz1 hz2 rfl g off ql cap l HLn.out rfl HQ3.out k w2.heap.size 1 rfl HNw.out hll HGs.out ?_))
                intro g' off' cap' w4 HQ4 HO4
                have HR4 := hide (HR3.out.of_block (HO4.out.block _ HR3.out.lt (fun e => HGne.out e.symm)))
                have HB4 := hide (HB3.out.trans (HO4.out.below HB3.out.size (fun b hb e => by have := HQ3.out.ge; omega)))
                have HG4 : Hid (w4.heap[w.heap.size]? = some (.cells #[.int .i64 (n : Int), .slice (some ⟨gl, 0, none⟩) (n * n) c] 48 (0, 0))) := by show _ = _; rw [HO4.out.block _ (Array.getElem?_eq_some_iff.1 HG3.out).1 (fun e => by have := HQ3.out.ge; omega)]; exact HG3.out
                clear HR3 HB3 HG3 HO4 HNw HGs HGne HQ3
                go_wp2
                go_roundw
                case rel => exact ⟨k + 1, _, l ++ [k], g', off', cap', by omega, by go_num, by simp [hql], HQ4, HR4, HIn, HG4, HB4⟩
                case measure => simp [intOf]; omega
              · have HIn : Hid (BInv n T goal D l x (k + 1) ∧ l.length + unr n D ≤ N0) := ⟨HI.out.1.keep (.inr (by omega)), HI.out.2⟩
                go_wp2_with (go_at_call 47; refine HLd.out.mono ?_; rintro e w2 ⟨rfl, h2⟩; have z0 := (HR.out.of_block (h2.block _ HR.out.lt)).cell hlt; have HQ2 := hide (HQ.out.same h2.size (h2.block _ HQ.out.lt)); have HR2 := hide (HR.out.of_block (h2.block _ HR.out.lt)); have HG2 : Hid (w2.heap[w.heap.size]? = some (.cells #[.int .i64 (n : Int), .slice (some ⟨gl, 0, none⟩) (n * n) c] 48 (0, 0))) := (by show _ = _; rw [h2.block _ (Array.getElem?_eq_some_iff.1 HG.out).1]; exact HG.out); have HB2 := hide (HB.out.trans (h2.mono HB.out.size)); clear h2 HQ HR HG HB HLd x0 x1)
                go_roundw
                case rel => exact ⟨k + 1, D, l, g, off, cap, by omega, by go_num, rfl, HQ2, HR2, HIn, HG2, HB2⟩
                case measure => simp [intOf]; omega
          · obtain rfl : k = n := by omega
            have hki : ¬ (k : Int) < (k : Int) := by omega
            go_wp2
            refine ⟨⟨D, l, g, off, cap, rfl, HQ, HR, ⟨⟨x, HI.out.1⟩, by have := HI.out.2; have := HN1.out; omega⟩, HG, HB⟩, ?_⟩
            have hm := HMu.out
            have := HI.out.2
            simp only [lenV, List.length_cons] at hm ⊢
            rw [negFar_eq HR.out]
            omega

end Go.Proofs.Ytjifhmlfnnagcaa

namespace Go.Proofs.Ytjifhmlfnnagcaa
set_option linter.unusedSimpArgs false
set_option linter.unusedVariables false
open Go.RowKit Go.Maps
set_option maxRecDepth 100000

def nrP (T : Nat → Nat → Bool) (D : Nat → Int) (a v : Nat) : Prop := T a v = true ∧ D v = D a - 1
def Near (T : Nat → Nat → Bool) (F : Nat → Nat → Int) (D : Nat → Int) (a k : Nat) (m : Int) : Prop := (m = -1 ∧ ∀ v, v < k → ¬ nrP T D a v) ∨ (0 ≤ m ∧ (∃ v, v < k ∧ nrP T D a v ∧ m = F a v) ∧ ∀ v, v < k → nrP T D a v → m ≤ F a v)

theorem Near.keep {T : Nat → Nat → Bool} {F : Nat → Nat → Int} {D : Nat → Int} {a k : Nat} {m : Int} (h : Near T F D a k m) (hk : nrP T D a k → 0 ≤ m ∧ m ≤ F a k) : Near T F D a (k + 1) m := by
  rcases h with ⟨h1, h2⟩ | ⟨h1, ⟨v, hv, h2⟩, h3⟩
  · refine .inl ⟨h1, fun v hv hp => ?_⟩
    rcases Nat.lt_or_ge v k with hl | hl
    · exact h2 v hl hp
    · obtain rfl : v = k := by omega
      have := hk hp; omega
  · refine .inr ⟨h1, ⟨v, by omega, h2⟩, fun v hv hp => ?_⟩
    rcases Nat.lt_or_ge v k with hl | hl
    · exact h3 v hl hp
    · obtain rfl : v = k := by omega
      exact (hk hp).2
theorem Near.take {T : Nat → Nat → Bool} {F : Nat → Nat → Int} {D : Nat → Int} {a k : Nat} {m : Int} (h : Near T F D a k m) (hp : nrP T D a k) (hf : 0 ≤ F a k) (hm : m < 0 ∨ F a k < m) : Near T F D a (k + 1) (F a k) := by
  refine .inr ⟨hf, ⟨k, by omega, hp, rfl⟩, fun v hv hpv => ?_⟩
  rcases Nat.lt_or_ge v k with hl | hl
  · rcases h with ⟨h1, h2⟩ | ⟨h1, _, h3⟩
    · exact absurd hpv (h2 v hl)
    · have := h3 v hl hpv; omega
  · obtain rfl : v = k := by omega
    exact Int.le_refl _

set_option maxHeartbeats 1000000 in
theorem nearer_any {w : World} {gl n c a gf : Nat} {T N : Nat → Nat → Bool} {F : Nat → Nat → Int} {D : Nat → Int} (h : LinksAt w gl n T N F) (hn : n ≤ 128) (ha : a < n) (hr : w.rowIs gf 3 n (fun p => .int .i64 (D p))) (hD : ∀ p, p < n → -1 ≤ D p ∧ D p ≤ 1000000) (hF : ∀ v, v < n → T a v = true → 0 ≤ F a v) :
    Calls Try.prog 42 #[.agg #[.int .i64 (n : Int), .slice (some ⟨gl, 0, none⟩) (n * n) c], .int .i64 (a : Int), .slice (some ⟨gf, 0, none⟩) n n] w fun e w' => ∃ m : Int, e = .returned (.int .i64 m) ∧ Near T F D a n m ∧ Below w.heap.size w w' := by
  have HL := hide h
  have HR := hide hr
  have HD := hide hD
  have HF := hide hF
  have hglt := h.lt
  have hgf := hr.lt
  have hai : (a : Int) < (n : Int) := by omega
  have hai0 : (0 : Int) ≤ (a : Int) := by omega
  clear h hr hD hF
  go_enter Try.func42, Try.ntmps42
  go_wp2
  go_loopw [7, 12] (fun lv i wl => ∃ (v : Nat) (m : Int), v ≤ n ∧ i = .int .i64 v ∧ lv = .int .i64 m ∧ Hid (Near T F D a v m) ∧ Hid (wl.heap[w.heap.size]? = some (.cells #[.int .i64 (n : Int), .slice (some ⟨gl, 0, none⟩) (n * n) c] 48 (0, 0))) ∧ Hid (Below w.heap.size w wl)) (fun _ i _ => n - (intOf i).toNat)
  case atStart => exact ⟨0, -1, by omega, rfl, rfl, .inl ⟨rfl, fun v hv => by omega⟩, heap_alloc_new _ _, (Below.refl _ w).alloc (Nat.le_refl _) _⟩
  case round =>
    obtain ⟨v, m, hv, rfl, rfl, HN, HX, HB⟩ := hrel
    by_cases hlt : v < n
    · have hi : (v : Int) < (n : Int) := by omega
      have hi0 : (0 : Int) ≤ (v : Int) := by omega
      have x0 : wr.cell? ⟨w.heap.size, 0, none⟩ = some (.int .i64 (n : Int)) := by simp [World.cell?, HX.out]
      have x1 : wr.cell? ⟨w.heap.size, 1, none⟩ = some (.slice (some ⟨gl, 0, none⟩) (n * n) c) := by simp [World.cell?, HX.out]
      have HLk := hide (link_any (w := wr) (gl := gl) (c := c) hn ha hlt)
      obtain ⟨hda0, hda1⟩ := HD.out a ha
      obtain ⟨f, hf⟩ : ∃ f, F a v = f := ⟨_, rfl⟩
      obtain ⟨dv, hdv⟩ : ∃ dv, D v = dv := ⟨_, rfl⟩
      obtain ⟨da, hda⟩ : ∃ da, D a = da := ⟨_, rfl⟩
      rw [hda] at hda0 hda1
      cases hT : T a v with
      | false =>
        have HNr := hide (HN.out.keep (fun hp => by have := hp.1; rw [hT] at this; cases this))
        clear HN
        go_wp2_with (go_at_call 34; refine HLk.out.mono ?_; rintro e w1 ⟨rfl, h1⟩; have HB1 := hide (HB.out.trans (h1.mono HB.out.size)); have HX1 : Hid (w1.heap[w.heap.size]? = some (.cells #[.int .i64 (n : Int), .slice (some ⟨gl, 0, none⟩) (n * n) c] 48 (0, 0))) := (by show _ = _; rw [h1.block _ (Array.getElem?_eq_some_iff.1 HX.out).1]; exact HX.out); obtain ⟨z0, z1, z2⟩ := (HL.out.low HB1.out hglt).read ha hlt; rw [hT] at z0; rw [hf] at z2; have zv := (HR.out.of_block (HB1.out.block _ hgf)).cell hlt; have za := (HR.out.of_block (HB1.out.block _ hgf)).cell ha; rw [hdv] at zv; rw [hda] at za; clear h1 HB HX HLk x0 x1 z1)
        go_quiet (fail)
        go_wp2
        go_roundw
        case rel => exact ⟨v + 1, m, by omega, by go_num, rfl, HNr, HX1.out, ⟨HB1.out.os, HB1.out.tape, HB1.out.output, HB1.out.size, HB1.out.block⟩⟩
        case measure => simp [intOf]; omega
      | true =>
        have hf0 := HF.out v hlt hT
        rw [hf] at hf0
        by_cases heq : dv = da - 1
        · have hp : nrP T D a v := ⟨hT, by rw [hdv, hda]; exact heq⟩
          have hb1 : (dv == da - 1) = true := by simpa using heq
          by_cases hm : m < 0
          · have hb2 : decide (m < 0) = true := by simpa using hm
            have HNr := hide (HN.out.take hp (by rw [hf]; exact hf0) (.inl hm))
            rw [hf] at HNr
            clear HN hp
            go_wp2_with (go_at_call 34; refine HLk.out.mono ?_; rintro e w1 ⟨rfl, h1⟩; have HB1 := hide (HB.out.trans (h1.mono HB.out.size)); have HX1 : Hid (w1.heap[w.heap.size]? = some (.cells #[.int .i64 (n : Int), .slice (some ⟨gl, 0, none⟩) (n * n) c] 48 (0, 0))) := (by show _ = _; rw [h1.block _ (Array.getElem?_eq_some_iff.1 HX.out).1]; exact HX.out); obtain ⟨z0, z1, z2⟩ := (HL.out.low HB1.out hglt).read ha hlt; rw [hT] at z0; rw [hf] at z2; have zv := (HR.out.of_block (HB1.out.block _ hgf)).cell hlt; have za := (HR.out.of_block (HB1.out.block _ hgf)).cell ha; rw [hdv] at zv; rw [hda] at za; clear h1 HB HX HLk x0 x1 z1)
            go_quiet (fail)
            go_wp2
            go_roundw
            case rel => exact ⟨v + 1, f, by omega, by go_num, rfl, HNr, HX1.out, ⟨HB1.out.os, HB1.out.tape, HB1.out.output, HB1.out.size, HB1.out.block⟩⟩
            case measure => simp [intOf]; omega
          · have hb2 : decide (m < 0) = false := by simpa using hm
            by_cases hfm : f < m
            · have hb3 : decide (f < m) = true := by simpa using hfm
              have HNr := hide (HN.out.take hp (by rw [hf]; exact hf0) (.inr (by rw [hf]; exact hfm)))
              rw [hf] at HNr
              clear HN hp
              go_wp2_with (go_at_call 34; refine HLk.out.mono ?_; rintro e w1 ⟨rfl, h1⟩; have HB1 := hide (HB.out.trans (h1.mono HB.out.size)); have HX1 : Hid (w1.heap[w.heap.size]? = some (.cells #[.int .i64 (n : Int), .slice (some ⟨gl, 0, none⟩) (n * n) c] 48 (0, 0))) := (by show _ = _; rw [h1.block _ (Array.getElem?_eq_some_iff.1 HX.out).1]; exact HX.out); obtain ⟨z0, z1, z2⟩ := (HL.out.low HB1.out hglt).read ha hlt; rw [hT] at z0; rw [hf] at z2; have zv := (HR.out.of_block (HB1.out.block _ hgf)).cell hlt; have za := (HR.out.of_block (HB1.out.block _ hgf)).cell ha; rw [hdv] at zv; rw [hda] at za; clear h1 HB HX HLk x0 x1 z1)
              go_quiet (fail)
              go_wp2
              go_roundw
              case rel => exact ⟨v + 1, f, by omega, by go_num, rfl, HNr, HX1.out, ⟨HB1.out.os, HB1.out.tape, HB1.out.output, HB1.out.size, HB1.out.block⟩⟩
              case measure => simp [intOf]; omega
            · have hb3 : decide (f < m) = false := by simpa using hfm
              have HNr := hide (HN.out.keep (fun _ => ⟨by omega, by rw [hf]; omega⟩))
              clear HN hp
              go_wp2_with (go_at_call 34; refine HLk.out.mono ?_; rintro e w1 ⟨rfl, h1⟩; have HB1 := hide (HB.out.trans (h1.mono HB.out.size)); have HX1 : Hid (w1.heap[w.heap.size]? = some (.cells #[.int .i64 (n : Int), .slice (some ⟨gl, 0, none⟩) (n * n) c] 48 (0, 0))) := (by show _ = _; rw [h1.block _ (Array.getElem?_eq_some_iff.1 HX.out).1]; exact HX.out); obtain ⟨z0, z1, z2⟩ := (HL.out.low HB1.out hglt).read ha hlt; rw [hT] at z0; rw [hf] at z2; have zv := (HR.out.of_block (HB1.out.block _ hgf)).cell hlt; have za := (HR.out.of_block (HB1.out.block _ hgf)).cell ha; rw [hdv] at zv; rw [hda] at za; clear h1 HB HX HLk x0 x1 z1)
              go_quiet (fail)
              go_wp2
              go_roundw
              case rel => exact ⟨v + 1, m, by omega, by go_num, rfl, HNr, HX1.out, ⟨HB1.out.os, HB1.out.tape, HB1.out.output, HB1.out.size, HB1.out.block⟩⟩
              case measure => simp [intOf]; omega
        · have hb1 : (dv == da - 1) = false := by simpa using heq
          have HNr := hide (HN.out.keep (fun hp => absurd (by have := hp.2; rw [hdv, hda] at this; exact this) heq))
          clear HN
          go_wp2_with (go_at_call 34; refine HLk.out.mono ?_; rintro e w1 ⟨rfl, h1⟩; have HB1 := hide (HB.out.trans (h1.mono HB.out.size)); have HX1 : Hid (w1.heap[w.heap.size]? = some (.cells #[.int .i64 (n : Int), .slice (some ⟨gl, 0, none⟩) (n * n) c] 48 (0, 0))) := (by show _ = _; rw [h1.block _ (Array.getElem?_eq_some_iff.1 HX.out).1]; exact HX.out); obtain ⟨z0, z1, z2⟩ := (HL.out.low HB1.out hglt).read ha hlt; rw [hT] at z0; rw [hf] at z2; have zv := (HR.out.of_block (HB1.out.block _ hgf)).cell hlt; have za := (HR.out.of_block (HB1.out.block _ hgf)).cell ha; rw [hdv] at zv; rw [hda] at za; clear h1 HB HX HLk x0 x1 z1)
          go_quiet (fail)
          go_wp2
          go_roundw
          case rel => exact ⟨v + 1, m, by omega, by go_num, rfl, HNr, HX1.out, ⟨HB1.out.os, HB1.out.tape, HB1.out.output, HB1.out.size, HB1.out.block⟩⟩
          case measure => simp [intOf]; omega
    · obtain rfl : v = n := by omega
      have hi : ¬ (v : Int) < (v : Int) := by omega
      go_wp2
      go_ret
      exact ⟨m, rfl, HN.out, HB.out⟩
end Go.Proofs.Ytjifhmlfnnagcaa

namespace Go.Proofs.Ytjifhmlfnnagcaa
set_option linter.unusedSimpArgs false
set_option linter.unusedVariables false
open Go.RowKit Go.Maps
set_option maxRecDepth 100000

/-- A walk along edges, by their numbers. -/
inductive PathL (es : List Edg) (a : Nat) : List Int → Nat → Prop
  | nil : PathL es a [] a
  | snoc {W : List Int} {b m : Nat} {x : Edg} {t : Nat} : PathL es a W b → es[m]? = some x → x.f = b → x.t = t → PathL es a (W ++ [(m : Int)]) t

theorem PathL.cons {es : List Edg} {a b m t : Nat} {x : Edg} {W : List Int} (h : PathL es t W b) (hm : es[m]? = some x) (hf : x.f = a) (ht : x.t = t) : PathL es a ((m : Int) :: W) b := by
  induction h with
  | nil => exact PathL.snoc (W := []) .nil hm hf ht
  | snoc h h1 h2 h3 ih => exact PathL.snoc (W := (m : Int) :: _) ih h1 h2 h3

theorem lnkF_at {es : List Edg} {u v : Nat} (h : lnkT es u v = true) : ∃ (m : Nat) (x : Edg), lnkF es u v = m ∧ es[m]? = some x ∧ x.f = u ∧ x.t = v := by
  unfold lnkF
  rw [if_pos h]
  unfold findI
  unfold lnkT at h
  cases hf : es.findIdx? (isE u v) with
  | none =>
    rw [List.findIdx?_eq_none_iff] at hf
    obtain ⟨x, hx, hi⟩ := List.any_eq_true.1 h
    have := hf x hx
    rw [hi] at this
    cases this
  | some m =>
    obtain ⟨hm, hp, -⟩ := List.findIdx?_eq_some_iff_getElem.1 hf
    refine ⟨m, es[m], rfl, List.getElem?_eq_getElem hm, ?_⟩
    unfold isE at hp
    simpa using hp

/-- A walk each of whose edges has the least number of those that lead one step nearer, by the distances D. -/
inductive PathD (es : List Edg) (D : Nat → Int) (a : Nat) : List Int → Nat → Prop
  | nil : PathD es D a [] a
  | snoc {W : List Int} {b m : Nat} {x : Edg} {t : Nat} : PathD es D a W b → 0 < D b → es[m]? = some x → x.f = b → x.t = t → D t = D b - 1 → (∀ (m' : Nat) (y : Edg), m' < m → es[m']? = some y → y.f = b → D y.t.toNat ≠ D b - 1) → PathD es D a (W ++ [(m : Int)]) t
/-- The walk that shortest answers. -/
def ShW (es : List Edg) (n a : Nat) (W : List Int) (goal : Nat) : Prop := PathL es a W goal ∧ ∃ D, FarOk n (lnkT es) goal D ∧ PathD es D a W goal
theorem lnkF_le {es : List Edg} {u v m : Nat} {y : Edg} (hm : es[m]? = some y) (hf : y.f = u) (ht : y.t = v) : lnkF es u v ≤ m := by
  have hT : lnkT es u v = true := by
    unfold lnkT
    exact List.any_eq_true.2 ⟨y, List.mem_of_getElem? hm, by unfold isE; simp [hf, ht]⟩
  unfold lnkF
  rw [if_pos hT]
  unfold findI
  cases hx : es.findIdx? (isE u v) with
  | none => simp only []; omega
  | some k =>
    obtain ⟨hk, -, hmin⟩ := List.findIdx?_eq_some_iff_getElem.1 hx
    rcases Nat.lt_or_ge m k with hlt | hge
    · have h1 := hmin m hlt
      rw [(List.getElem?_eq_some_iff.1 hm).2] at h1
      unfold isE at h1
      simp [hf, ht] at h1
    · simp only []; omega

def farOf (gf : Nat) (av : Value) (w : World) : Nat := match w.cell? ⟨gf, (intOf av).toNat, none⟩ with | some (.int .i64 d) => d.toNat | _ => 0
theorem farOf_at {w : World} {gf n a : Nat} {D : Nat → Int} (h : w.rowIs gf 3 n (fun p => .int .i64 (D p))) (ha : a < n) : farOf gf (.int .i64 (a : Int)) w = (D a).toNat := by
  unfold farOf
  have := h.cell ha
  simp only [intOf, Int.toNat_natCast]
  rw [this]

set_option maxHeartbeats 1000000 in
theorem shortest_at {w : World} {gl n c a goal : Nat} {N : Nat → Nat → Bool} {es : List Edg} {v : Value} (h : LinksAt w gl n (lnkT es) N (lnkF es)) (hn : n ≤ 128) (ha : a < n) (hg : goal < n) (he : Has elEdg w v es) (hin : ∀ x ∈ es, 0 ≤ x.f ∧ x.f < n ∧ 0 ≤ x.t ∧ x.t < n) (hr : Reach (Ed n (lnkT es)) a goal) :
    Calls Try.prog 30 #[.agg #[.int .i64 (n : Int), .slice (some ⟨gl, 0, none⟩) (n * n) c], v, .int .i64 (a : Int), .int .i64 (goal : Int)] w fun e w' => ∃ (wv : Value) (W : List Int), e = .returned wv ∧ Grow elInt 3 w.heap.size w' wv W ∧ (ShW es n a W goal ∧ W.length ≤ n) ∧ Below w.heap.size w w' := by
  obtain ⟨i0, hi0, hz0, hz1, hz2⟩ := info_parts Try.infoInt8
  obtain ⟨va, vc, rfl, -, -, hlen⟩ := he.shape
  have HL := hide h
  have HE := hide he
  have HIn := hide hin
  have HRe := hide hr
  have hglt := h.lt
  have hb0 := belo1 w (.cells #[.int .i64 (n : Int), .slice (some ⟨gl, 0, none⟩) (n * n) c] 48)
  have HDi := hide (distances_any (c := c) (h.kept hb0) hn hg)
  have HGr : Hid ((w.alloc (.cells #[.int .i64 (n : Int), .slice (some ⟨gl, 0, none⟩) (n * n) c] 48)).heap[w.heap.size]? = some (.cells #[.int .i64 (n : Int), .slice (some ⟨gl, 0, none⟩) (n * n) c] 48 (0, 0))) := heap_alloc_new _ _
  have HB0 := hide hb0
  clear h he hin hr hb0
  go_enter Try.func30, Try.ntmps30
  go_wp2_with (go_at_call 41; refine HDi.out.mono ?_; rintro e w1 ⟨gf, D, rfl, h1, h2, h3⟩; have HR1 := hide h1; have HFa := hide h2; have HG1 : Hid (w1.heap[w.heap.size]? = some (.cells #[.int .i64 (n : Int), .slice (some ⟨gl, 0, none⟩) (n * n) c] 48 (0, 0))) := (by show _ = _; rw [h3.block _ (Array.getElem?_eq_some_iff.1 HGr.out).1]; exact HGr.out); have HB1 := hide (HB0.out.trans (h3.mono HB0.out.size)); clear h1 h2 h3 HDi HGr HB0)
  have HSt : Hid ((PathL es a [] a ∧ PathD es D a [] a) ∧ 0 ≤ D a ∧ (([] : List Int).length : Int) + D a ≤ n) := ⟨⟨.nil, .nil⟩, HFa.out.reach HRe.out (by rw [HFa.out.zero]; exact Int.le_refl _), by have := HFa.out.lo a ha; simp; omega⟩
  go_loopw [10, 11] (fun wv av wl => ∃ (b : Nat) (W : List Int), b < n ∧ av = .int .i64 b ∧ Hid (Grow elInt 3 w1.heap.size wl wv W) ∧ Hid ((PathL es a W b ∧ PathD es D a W b) ∧ 0 ≤ D b ∧ (W.length : Int) + D b ≤ n) ∧ Hid (Below w1.heap.size w1 wl)) (fun _ av wl => farOf gf av wl)
  case atStart => exact ⟨a, [], ha, rfl, Grow.nil _ _ _ _, HSt, Below.refl _ _⟩
  case round =>
    clear HSt
    obtain ⟨b, W, hbn, rfl, HG, HP, HB⟩ := hrel
    have HBw := hide (HB1.out.trans (HB.out.mono HB1.out.size))
    have HRr := hide (HR1.out.of_block (HB.out.block _ HR1.out.lt))
    by_cases hbg : b = goal
    · subst hbg
      have HWl : Hid (ShW es n a W b ∧ W.length ≤ n) := ⟨⟨HP.out.1.1, D, HFa.out, HP.out.1.2⟩, by have := HP.out.2; omega⟩
      clear HP
      go_wp2
      go_ret
      exact ⟨_, W, rfl, HG.out.mono HB1.out.size, HWl.out, HBw.out⟩
    · have hbg2 : ¬ (b : Int) = (goal : Int) := by omega
      have HGx : Hid (wr.heap[w.heap.size]? = some (.cells #[.int .i64 (n : Int), .slice (some ⟨gl, 0, none⟩) (n * n) c] 48 (0, 0))) := by show _ = _; rw [HB.out.block _ (Array.getElem?_eq_some_iff.1 HG1.out).1]; exact HG1.out
      have x0 : wr.cell? ⟨w.heap.size, 0, none⟩ = some (.int .i64 (n : Int)) := by simp [World.cell?, HGx.out]
      have x1 : wr.cell? ⟨w.heap.size, 1, none⟩ = some (.slice (some ⟨gl, 0, none⟩) (n * n) c) := by simp [World.cell?, HGx.out]
      have HNe := hide (nearer_any (c := c) (HL.out.low HBw.out hglt) hn hbn HRr.out (fun p hp => by have := HFa.out.lo p hp; omega) (fun v _ ht => by obtain ⟨m, x, e, -⟩ := lnkF_at ht; omega))
      have HMu : Hid (farOf gf (.int .i64 (b : Int)) wr = (D b).toNat) := farOf_at HRr.out hbn
      obtain ⟨q, hq⟩ : ∃ q, W.length = q := ⟨_, rfl⟩
      have HLn := hide hq
      obtain ⟨oa, oc, hsh, -, -⟩ := HG.out.shape
      rw [hq] at hsh
      subst hsh
      have hq1 : q ≤ 1000000 := by have := HP.out.2; omega
      clear hq
      go_wp2_with (first
        | (go_at_call 42; refine HNe.out.mono ?_; rintro e w2 ⟨m, rfl, h1, h2⟩
           obtain ⟨v', hv', ht', h0', hd'⟩ := HFa.out.nx b hbn HP.out.2.1 hbg
           obtain ⟨t, ht, hnr, hm, hle⟩ : ∃ t, t < n ∧ nrP (lnkT es) D b t ∧ m = lnkF es b t ∧ ∀ v, v < n → nrP (lnkT es) D b v → m ≤ lnkF es b v := by
             rcases h1 with ⟨-, hno⟩ | ⟨-, ⟨t, ht, h3, h4⟩, h5⟩
             · exact absurd ⟨ht', hd'⟩ (hno v' hv')
             · exact ⟨t, ht, h3, h4, h5⟩
           obtain ⟨mm, x, hmm, hx, hxf, hxt⟩ := lnkF_at hnr.1
           rw [hmm] at hm
           subst hm
           have hml : mm < es.length := (List.getElem?_eq_some_iff.1 hx).1
           have hmi : (mm : Int) < (es.length : Int) := by omega
           have hmi0 : (0 : Int) ≤ (mm : Int) := by omega
           obtain ⟨eb, off, heb, -, -, hrow⟩ := HE.out.row (by omega)
           subst heb
           have HC := hide (hrow mm x hx 1 _ rfl)
           have hlst : ∀ (m' : Nat) (y : Edg), m' < mm → es[m']? = some y → y.f = b → D y.t.toNat ≠ D b - 1 := fun m' y hlt hy hyf hyd => by
             obtain ⟨z1, z2, z3, z4⟩ := HIn.out y (List.mem_of_getElem? hy)
             have hyt : y.t = (y.t.toNat : Nat) := by omega
             have hT : lnkT es b y.t.toNat = true := by
               unfold lnkT
               exact List.any_eq_true.2 ⟨y, List.mem_of_getElem? hy, by unfold isE; simp [hyf]; omega⟩
             have h6 := hle y.t.toNat (by omega) ⟨hT, hyd⟩
             have h7 := lnkF_le hy hyf hyt
             omega
           have HPn : Hid ((PathL es a (W ++ [(mm : Int)]) t ∧ PathD es D a (W ++ [(mm : Int)]) t) ∧ 0 ≤ D t ∧ ((W ++ [(mm : Int)]).length : Int) + D t ≤ n) := ⟨⟨HP.out.1.1.snoc hx hxf hxt, HP.out.1.2.snoc (by omega) hx hxf hxt hnr.2 hlst⟩, by rw [hnr.2, ← hd']; exact h0', by have := HP.out.2.2; have := hnr.2; simp; omega⟩
           have HDt : Hid ((D t).toNat < (D b).toNat) := by show _ < _; rw [hnr.2]; have : D b - 1 = D v' := hd'.symm; omega
           have HG2 := hide ((HG.out.kept h2).kept (belo1 w2 (.cells #[.int .i64 (mm : Int)] 3)))
           have hb2 := HB.out.trans (h2.mono HB.out.size)
           have HB2 := hide (hb2.alloc hb2.size (.cells #[.int .i64 (mm : Int)] 3))
           have HS := hide hb2.size
           have hxt' := hxt
           have HXt := hide hxt'
           have HBwx := hide HB1.out
           clear h1 h2 hd' h0' ht' hv' hnr hle hlst hmm hx hxf hrow hb2 HG HB HP HNe x0 x1 hxt')
        | (at_builtin; refine wpList_push (w0 := w1) elInt rfl _ _ 33 rfl w1.heap.size 3 i0 _ 8 Try.underlying33 hi0 hz0 hz1 hz2 rfl (by decide) _ W q HLn.out rfl HG2.out (mm : Int) w2.heap.size 1 rfl (fun j u hu => new_cells j u hu) ⟨by omega, by omega⟩ (by omega) HB2.out (by simp; have := HS.out; omega) ?_))
      intro g' cap' w3 HG3 HB3 HGw
      have y1 := kept_cell (HBwx.out.trans (HB3.out.mono HBwx.out.size)) HC.out
      simp only [elEdg] at y1
      rw [hxt] at y1
      have HR3 := hide (HR1.out.of_block (HB3.out.block _ HR1.out.lt))
      clear HC HGw
      go_wp2
      refine ⟨⟨t, W ++ [(mm : Int)], ht, rfl, HG3, HPn, HB3⟩, ?_⟩
      rw [HMu.out, farOf_at HR3.out ht]
      exact HDt.out
theorem shortest_any {w : World} {gl n c a goal : Nat} {N : Nat → Nat → Bool} {es : List Edg} {v : Value} (h : LinksAt w gl n (lnkT es) N (lnkF es)) (hn : n ≤ 128) (ha : a < n) (hg : goal < n) (he : Has elEdg w v es) (hin : ∀ x ∈ es, 0 ≤ x.f ∧ x.f < n ∧ 0 ≤ x.t ∧ x.t < n) (hr : Reach (Ed n (lnkT es)) a goal) :
    Calls Try.prog 30 #[.agg #[.int .i64 (n : Int), .slice (some ⟨gl, 0, none⟩) (n * n) c], v, .int .i64 (a : Int), .int .i64 (goal : Int)] w fun e w' => ∃ (wv : Value) (W : List Int), e = .returned wv ∧ Grow elInt 3 w.heap.size w' wv W ∧ (PathL es a W goal ∧ W.length ≤ n) ∧ Below w.heap.size w w' :=
  (shortest_at h hn ha hg he hin hr).mono fun _ _ ⟨wv, W, a, b, c, d⟩ => ⟨wv, W, a, b, ⟨c.1.1, c.2⟩, d⟩
end Go.Proofs.Ytjifhmlfnnagcaa

namespace Go.Proofs.Ytjifhmlfnnagcaa
set_option linter.unusedSimpArgs false
set_option linter.unusedVariables false
open Go.RowKit Go.Maps
set_option maxRecDepth 100000

theorem bad_uniq {n : Nat} {es : List Edg} {H H' : Nat → Int} (hin : ∀ x ∈ es, 0 ≤ x.f ∧ x.f < n ∧ 0 ≤ x.t ∧ x.t < n) (he : ∀ v, v < n → H v = H' v) : findI (badE H) es = findI (badE H') es := by
  have h : es.findIdx? (badE H) = es.findIdx? (badE H') := by
    induction es with
    | nil => rfl
    | cons x l ih =>
      obtain ⟨q1, q2, q3, q4⟩ := hin x (by simp)
      have hx : badE H x = badE H' x := by unfold badE; rw [he _ (by omega), he _ (by omega)]
      rw [List.findIdx?_cons, List.findIdx?_cons, hx, ih (fun y hy => hin y (by simp [hy]))]
  unfold findI
  rw [h]
theorem bad_at {es : List Edg} {H : Nat → Int} (h : 0 ≤ findI (badE H) es) : ∃ (m : Nat) (x : Edg), findI (badE H) es = m ∧ es[m]? = some x ∧ badE H x = true := by
  unfold findI at h ⊢
  cases hf : es.findIdx? (badE H) with
  | none => rw [hf] at h; simp at h
  | some m =>
    obtain ⟨hm, hp, -⟩ := List.findIdx?_eq_some_iff_getElem.1 hf
    exact ⟨m, es[m], rfl, List.getElem?_eq_getElem hm, hp⟩

set_option maxHeartbeats 1000000 in
theorem bad_fit {w : World} {v : Value} {es : List Edg} {n : Nat} (h : Has elEdg w v es) (hfit : fitP n es = true) :
    Calls Try.prog 19 #[.int .i64 (n : Int), v] w fun e w' => ∃ H : Nat → Int, (∀ v, v < n → LeastOf (Ed n (lnkT es)) v (H v)) ∧ e = .returned (.tuple #[.int .i64 (findI (badE H) es), .int .i64 0]) ∧ Below w.heap.size w w' := by
  have hn : n ≤ 128 := by have := (fit_in8 hfit).1; omega
  obtain ⟨va, vc, rfl, -, -, hlen⟩ := h.shape
  have HIn := hide (fit_in8 hfit).2
  have HF := hide (fit_any h n)
  rw [hfit] at HF
  have HL := hide h
  have HFt := hide hfit
  clear h hfit
  go_enter Try.func19, Try.ntmps19
  go_wp2_with (first
    | (go_at_call 24; refine HF.out.mono ?_; rintro e w1 ⟨rfl, h1⟩; have HB1 := hide h1; clear h1)
    | (go_at_call 25; refine (newGraph_any (HL.out.kept HB1.out) HFt.out).mono ?_; rintro e w2 ⟨gl, rfl, h1, h2, h3⟩; have HG2 := hide h2; have HB2 := hide (HB1.out.trans (h3.mono HB1.out.size)); have HL2 := hide ((HL.out.kept HB1.out).kept h3); clear h1 h2 h3)
    | (go_at_call 27; refine (bad_any HG2.out hn HL2.out HIn.out).mono ?_; rintro e w3 ⟨H, h1, rfl, h5⟩; have HB3 := hide (HB2.out.trans (h5.mono HB2.out.size)); have HLe := hide h1; clear h1 h5))
  exact bodyPost_ret (v := .tuple #[.int .i64 (findI (badE H) es), .int .i64 0]) (by simp [results, Try.results19, go_sem]) rfl ⟨H, HLe.out, rfl, HB3.out⟩

theorem own_one {w : World} {base B : Nat} {e : TypeId} {v : Value} (h : w.heap[B]? = some (.cells #[v] e (0, 0))) (hb : base ≤ B) : w.ownsRow base e 1 (.slice (some ⟨B, 0, none⟩) 1 1) 1 [v] :=
  ⟨rfl, .inr ⟨B, 1, #[v], rfl, hb, h, Nat.le_refl _, by decide, rfl, rfl⟩⟩
theorem own_news {w : World} {base n : Nat} {e : TypeId} {v : Value} {xs : List Value} (h : w.ownsRow base e 1 v n xs) : ∃ ao cap, v = .slice ao n cap ∧ (ao = none → n = 0 ∧ cap = 0) ∧ ∀ ad, ao = some ad → ∀ (j : Nat) (u : Value), xs[j]? = some u → w.cell? (ad.add j) = some u := by
  rcases h.2 with ⟨h1, h2⟩ | ⟨g, cap, cur, h1, h2, h3, h4, h5, h6, h7⟩
  · exact ⟨none, 0, by rw [h1, h2], fun _ => ⟨h2, rfl⟩, fun ad e => by cases e⟩
  · refine ⟨_, cap, h1, (fun e => by cases e), fun ad e j u hu => ?_⟩
    cases e
    rw [addr_add, Nat.zero_add]
    rw [← h7, List.getElem?_take] at hu
    split at hu
    · simp only [World.cell?, h3]
      simpa using hu
    · cases hu
theorem grow_join {w w' : World} {base : Nat} {v : Value} {m : Nat} {W : List Int} (hm : I64 (m : Int)) (hW : ∀ x ∈ W, I64 x) (h : w'.ownsRow base 3 1 v (1 + W.length) ([.int .i64 (m : Int)] ++ W.flatMap elInt.cells)) : Grow elInt 3 base w' v ((m : Int) :: W) := by
  refine ⟨?_, fun x hx => ?_⟩
  · have : ((m : Int) :: W).length = 1 + W.length := by simp; omega
    rw [this]
    exact h
  · rcases List.mem_cons.1 hx with rfl | hx
    · exact hm
    · exact hW x hx

theorem ints_len (W : List Int) : (W.flatMap elInt.cells).length = W.length * 1 := by
  induction W with
  | nil => rfl
  | cons x l ih => rw [List.flatMap_cons, List.length_append, ih]; simp [elInt]; omega
theorem ints_one (W : List Int) : ∀ u ∈ W.flatMap elInt.cells, u.oneCell' = true := fun u hu => by
  obtain ⟨x, -, hx⟩ := List.mem_flatMap.1 hu
  simp only [elInt, List.mem_singleton] at hx
  subst hx
  rfl

set_option maxHeartbeats 1000000 in
theorem cycle_at {w : World} {v : Value} {es : List Edg} {n : Nat} (h : Has elEdg w v es) (hfit : fitP n es = true) (hb : HasBad n es) :
    Calls Try.prog 18 #[.int .i64 (n : Int), v] w fun e w' => ∃ (H : Nat → Int) (wv : Value) (m : Nat) (x : Edg) (W : List Int), (∀ v, v < n → LeastOf (Ed n (lnkT es)) v (H v)) ∧ e = .returned (.tuple #[wv, .int .i64 0]) ∧ Grow elInt 3 w.heap.size w' wv ((m : Int) :: W) ∧ (findI (badE H) es = m ∧ es[m]? = some x ∧ badE H x = true ∧ ShW es n x.t.toNat W x.f.toNat ∧ W.length ≤ n) ∧ Below w.heap.size w w' := by
  have hn : n ≤ 128 := by have := (fit_in8 hfit).1; omega
  obtain ⟨va, vc, rfl, -, -, hlen⟩ := h.shape
  have HIn := hide (fit_in8 hfit).2
  have HF := hide (fit_any h n)
  rw [hfit] at HF
  have HL := hide h
  have HFt := hide hfit
  have HBd := hide hb
  clear h hfit hb
  go_enter Try.func18, Try.ntmps18
  go_wp2_with (first
    | (go_at_call 24; refine HF.out.mono ?_; rintro e w1 ⟨rfl, h1⟩; have HB1 := hide h1; clear h1)
    | (go_at_call 25; refine (newGraph_any (HL.out.kept HB1.out) HFt.out).mono ?_; rintro e w2 ⟨gl, rfl, h1, h2, h3⟩; have hbx := belo1 w2 (.cells #[.int .i64 (n : Int), .slice (some ⟨gl, 0, none⟩) (n * n) (n * n)] 48); have HG2 := hide (h2.kept hbx); have hB2 := HB1.out.trans (h3.mono HB1.out.size); have HB2 := hide (hB2.trans (hbx.mono hB2.size)); have HL2 := hide (((HL.out.kept HB1.out).kept h3).kept hbx); have HX0 : Hid ((w2.alloc (.cells #[.int .i64 (n : Int), .slice (some ⟨gl, 0, none⟩) (n * n) (n * n)] 48)).cell? ⟨w2.heap.size, 0, none⟩ = some (.int .i64 (n : Int)) ∧ (w2.alloc (.cells #[.int .i64 (n : Int), .slice (some ⟨gl, 0, none⟩) (n * n) (n * n)] 48)).cell? ⟨w2.heap.size, 1, none⟩ = some (.slice (some ⟨gl, 0, none⟩) (n * n) (n * n))) := (by show _ ∧ _; constructor <;> simp); clear h1 h2 h3 hbx hB2)
    | (go_at_call 27; refine (bad_any HG2.out hn HL2.out HIn.out).mono ?_; rintro e w3 ⟨H, h1, rfl, h5⟩; have x0 := kept_cell h5 HX0.out.1; have x1 := kept_cell h5 HX0.out.2; have HG3 := hide (HG2.out.kept h5); have HB3 := hide (HB2.out.trans (h5.mono HB2.out.size)); have HLe := hide h1; obtain ⟨m, x, hm, hx, hbx⟩ := bad_at ((bad_iff HIn.out h1).2 HBd.out); have HL3 := hide (HL2.out.kept h5); have HM := hide (And.intro hm (And.intro hx hbx)); have hm0 : (0 : Int) ≤ (m : Int) := (by omega); have hm1 : ¬ (m : Int) < 0 := (by omega); rw [hm]; clear h1 h5 hm hx hbx HG2 HB2 HL2 HX0))
  obtain ⟨hx0, hx1, hx2, hx3⟩ := HIn.out x (List.mem_of_getElem? HM.out.2.1)
  have hml : m < es.length := (List.getElem?_eq_some_iff.1 HM.out.2.1).1
  have hmi : (m : Int) < (es.length : Int) := by omega
  obtain ⟨kf, hkf⟩ : ∃ kf : Nat, x.f = kf := ⟨x.f.toNat, by omega⟩
  obtain ⟨kt, hkt⟩ : ∃ kt : Nat, x.t = kt := ⟨x.t.toNat, by omega⟩
  obtain ⟨eb, off, rfl, -, -, hrow⟩ := HL3.out.row (by omega)
  have y0 := hrow m x HM.out.2.1 0 _ rfl
  have y1 := hrow m x HM.out.2.1 1 _ rfl
  simp only [elEdg, Nat.add_zero] at y0 y1
  rw [hkf] at y0
  rw [hkt] at y1
  have hmut : Mut (Ed n (lnkT es)) kf kt := by
    have hb := HM.out.2.2
    unfold badE at hb
    simp only [Bool.and_eq_true, beq_iff_eq] at hb
    have h1 := hb.2
    rw [hkf, hkt, Int.toNat_natCast, Int.toNat_natCast] at h1
    exact (least_eq (HLe.out kf (by omega)) (HLe.out kt (by omega))).1 h1
  have HSh : Hid (∀ V : World, Below w3.heap.size w3 V → Calls Try.prog 30 #[.agg #[.int .i64 (n : Int), .slice (some ⟨gl, 0, none⟩) (n * n) (n * n)], .slice (some ⟨eb, off, none⟩) es.length vc, .int .i64 (kt : Int), .int .i64 (kf : Int)] V fun e w' => ∃ (wv : Value) (W : List Int), e = .returned wv ∧ Grow elInt 3 V.heap.size w' wv W ∧ (ShW es n kt W kf ∧ W.length ≤ n) ∧ Below V.heap.size V w') := fun V hV => shortest_at (HG3.out.kept hV) hn (by omega) (by omega) (HL3.out.kept hV) HIn.out hmut.2
  have HPp := hide (And.intro hkf hkt)
  clear hrow hmut hx0 hx1 hx2 hx3
  obtain ⟨i0, hi0, hz0, hz1, hz2⟩ := info_parts Try.infoInt8
  have hbA : Below w3.heap.size w3 w3.drew := (Below.refl _ w3).drew
  have hbB : Below w3.heap.size w3 (w3.drew.alloc (.cells #[.int .i64 (m : Int)] 3)) := ((Below.refl _ w3).drew).alloc (Nat.le_refl _) _
  go_cut [4, 5] (fun t4 t5 wx => ∃ W : List Int, t5 = .int .i64 0 ∧ Hid (Grow elInt 3 w.heap.size wx t4 ((m : Int) :: W)) ∧ Hid (ShW es n kt W kf ∧ W.length ≤ n) ∧ Hid (Below w.heap.size w wx))
  case first =>
    go_region_held3 (fun w' => w'.cell? ⟨w2.heap.size, 0, none⟩ = some (.int .i64 (n : Int)) ∧ w'.cell? ⟨w2.heap.size, 1, none⟩ = some (.slice (some ⟨gl, 0, none⟩) (n * n) (n * n)) ∧ w'.cell? ⟨eb, off + m * 4, none⟩ = some (.int .i64 (kf : Int)) ∧ w'.cell? ⟨eb, off + m * 4 + 1, none⟩ = some (.int .i64 (kt : Int)))
      (first | exact ⟨x0, x1, y0, y1⟩ | exact ⟨kept_cell hbB x0, kept_cell hbB x1, kept_cell hbB y0, kept_cell hbB y1⟩ | exact HSk.out | exact HSk2.out | exact HSk4.out)
      (first
        | (go_at_call 30; refine (HSh.out _ (by first | exact hbA | exact hbB)).mono ?_; rintro e V2 ⟨wv, W, rfl, g1, p1, b1⟩
           have HPa := hide p1
           have HWo : Hid (∀ x ∈ W, I64 x) := g1.2
           obtain ⟨ao, cap, rfl, hno, hnw⟩ := own_news g1.1
           have HNo := hide hno
           first
             | (have hk := b1.block w3.heap.size (by show w3.heap.size < (w3.drew.alloc (.cells #[.int .i64 (m : Int)] 3)).heap.size; show _ < (w3.heap.push _).size; rw [Array.size_push]; exact Nat.lt_succ_self _)
                have HOw : Hid (V2.ownsRow w3.heap.size 3 1 (.slice (some ⟨w3.heap.size, 0, none⟩) 1 1) 1 [.int .i64 (m : Int)]) := own_one (hk.trans (heap_alloc_new w3.drew (.cells #[.int .i64 (m : Int)] 3))) (Nat.le_refl _)
                have HNw := hide hnw
                have hbz : Below w3.heap.size w3 V2 := hbB.trans (b1.mono hbB.size)
                have HBz := hide hbz
                have HSk := hide (And.intro (kept_cell hbz x0) (And.intro (kept_cell hbz x1) (And.intro (kept_cell hbz y0) (kept_cell hbz y1))))
                clear hk hbz)
             | (have hb2 : Below w3.heap.size w3 V2 := hbA.trans (b1.mono hbA.size)
                have hbz := hb2.alloc hb2.size (.cells #[.int .i64 (m : Int)] 3)
                have HOw : Hid ((V2.alloc (.cells #[.int .i64 (m : Int)] 3)).ownsRow w3.heap.size 3 1 (.slice (some ⟨V2.heap.size, 0, none⟩) 1 1) 1 [.int .i64 (m : Int)]) := own_one (heap_alloc_new V2 (.cells #[.int .i64 (m : Int)] 3)) hb2.size
                have HNw := hide (fun ad e j u hu => kept_cell (belo1 V2 (.cells #[.int .i64 (m : Int)] 3)) (hnw ad e j u hu))
                have HBz := hide hbz
                have HSk := hide (And.intro (kept_cell hb2 x0) (And.intro (kept_cell hb2 x1) (And.intro (kept_cell hb2 y0) (kept_cell hb2 y1))))
                have HSk2 := hide (And.intro (kept_cell hbz x0) (And.intro (kept_cell hbz x1) (And.intro (kept_cell hbz y0) (kept_cell hbz y1))))
                clear hbz hb2)
           clear g1 p1 b1 hno hnw)
        | (refine step_append_any (by rfl) _ _ 33 (by rfl) w3.heap.size 3 i0 _ 1 8 Try.underlying33 hi0 hz0 hz1 hz2 rfl (by decide) _ 1 [.int .i64 (m : Int)] (by rfl) HOw.out ao W.length cap (W.flatMap elInt.cells) (by rfl) HNo.out (ints_len W) HNw.out (ints_one W) (by have := HPa.out.2; unfold maxLen; omega) (by have := HPa.out.2; omega) HBz.out.size ?_
           intro v4 w4 hown4 hgrow4
           have hbe := below_grown HBz.out HOw.out hgrow4 HBz.out.size
           have HGr := hide ((grow_join (w := w) ⟨by omega, by omega⟩ HWo.out hown4).mono HB3.out.size)
           have HBe := hide (HB3.out.trans (hbe.mono HB3.out.size))
           have HSk4 := hide (And.intro (kept_cell hbe x0) (And.intro (kept_cell hbe x1) (And.intro (kept_cell hbe y0) (kept_cell hbe y1))))
           clear hown4 hgrow4 hbe))
    all_goals (go_wp2; go_meet)
    all_goals exact ⟨W, rfl, HGr, HPa, HBe⟩
  case rest =>
    obtain ⟨W, rfl, HGr, HPa, HBe⟩ := hcut
    go_wp2
    exact bodyPost_ret (v := .tuple #[u4, .int .i64 0]) (by simp [results, Try.results18, go_sem]) rfl ⟨H, u4, m, x, W, HLe.out, rfl, HGr.out, ⟨HM.out.1, HM.out.2.1, HM.out.2.2, by rw [HPp.out.1, HPp.out.2]; simpa using HPa.out.1, HPa.out.2⟩, HBe.out⟩
theorem cycle_bad {w : World} {v : Value} {es : List Edg} {n : Nat} (h : Has elEdg w v es) (hfit : fitP n es = true) (hb : HasBad n es) :
    Calls Try.prog 18 #[.int .i64 (n : Int), v] w fun e w' => ∃ (H : Nat → Int) (wv : Value) (m : Nat) (x : Edg) (W : List Int), (∀ v, v < n → LeastOf (Ed n (lnkT es)) v (H v)) ∧ e = .returned (.tuple #[wv, .int .i64 0]) ∧ Grow elInt 3 w.heap.size w' wv ((m : Int) :: W) ∧ (findI (badE H) es = m ∧ es[m]? = some x ∧ badE H x = true ∧ PathL es x.t.toNat W x.f.toNat ∧ W.length ≤ n) ∧ Below w.heap.size w w' :=
  (cycle_at h hfit hb).mono fun _ _ ⟨H, wv, m, x, W, a, b, c, ⟨d1, d2, d3, d4, d5⟩, e⟩ => ⟨H, wv, m, x, W, a, b, c, ⟨d1, d2, d3, d4.1, d5⟩, e⟩

set_option maxHeartbeats 1000000 in
theorem cycle_good {w : World} {v : Value} {es : List Edg} {n : Nat} (h : Has elEdg w v es) (hfit : fitP n es = true) (hb : ¬ HasBad n es) :
    Calls Try.prog 18 #[.int .i64 (n : Int), v] w fun e w' => e = .returned (.tuple #[.slice none 0 0, .int .i64 0]) ∧ Below w.heap.size w w' := by
  have hn : n ≤ 128 := by have := (fit_in8 hfit).1; omega
  obtain ⟨va, vc, rfl, -, -, hlen⟩ := h.shape
  have HIn := hide (fit_in8 hfit).2
  have HF := hide (fit_any h n)
  rw [hfit] at HF
  have HL := hide h
  have HFt := hide hfit
  have HBd := hide hb
  clear h hfit hb
  go_enter Try.func18, Try.ntmps18
  go_wp2_with (first
    | (go_at_call 24; refine HF.out.mono ?_; rintro e w1 ⟨rfl, h1⟩; have HB1 := hide h1; clear h1)
    | (go_at_call 25; refine (newGraph_any (HL.out.kept HB1.out) HFt.out).mono ?_; rintro e w2 ⟨gl, rfl, h1, h2, h3⟩; have hbx := belo1 w2 (.cells #[.int .i64 (n : Int), .slice (some ⟨gl, 0, none⟩) (n * n) (n * n)] 48); have HG2 := hide (h2.kept hbx); have hB2 := HB1.out.trans (h3.mono HB1.out.size); have HB2 := hide (hB2.trans (hbx.mono hB2.size)); have HL2 := hide (((HL.out.kept HB1.out).kept h3).kept hbx); clear h1 h2 h3 hbx hB2)
    | (go_at_call 27; refine (bad_any HG2.out hn HL2.out HIn.out).mono ?_; rintro e w3 ⟨H, h1, rfl, h5⟩; have HB3 := hide (HB2.out.trans (h5.mono HB2.out.size)); have hge : ¬ 0 ≤ findI (badE H) es := (fun hc => HBd.out ((bad_iff HIn.out h1).1 hc)); obtain ⟨bd, hbd⟩ : ∃ bd, findI (badE H) es = bd := ⟨_, rfl⟩; rw [hbd] at hge ⊢; have hge2 : bd < 0 := (by omega); clear h1 h5 hbd))
  exact bodyPost_ret (v := .tuple #[.slice none 0 0, .int .i64 0]) (by simp [results, Try.results18, go_sem]) rfl ⟨rfl, HB3.out⟩
end Go.Proofs.Ytjifhmlfnnagcaa

namespace Go.Proofs.Ytjifhmlfnnagcaa
set_option linter.unusedSimpArgs false
set_option linter.unusedVariables false
open Go.RowKit Go.Maps

theorem findI_out {α : Type} {p : α → Bool} {l : List α} (h : ∀ y ∈ l, p y = false) : findI p l = -1 := by
  unfold findI
  rw [List.findIdx?_eq_none_iff.2 h]

set_option maxRecDepth 100000 in
set_option maxHeartbeats 4000000 in
theorem rbad_fit {w : World} {v : Value} {es : List Edg} {n : Nat} (h : Has elEdg w v es) (hfit : fitP n es = true) :
    Calls Try.prog 17 #[.int .i64 n, v] w fun e w' => (∃ H : Nat → Int, (∀ v, v < n → LeastOf (Ed n (lnkT es)) v (H v)) ∧ e = .returned (.tuple #[.int .i64 (findI (badE H) es), .int .i64 0])) ∧ Below w.heap.size w w' := by
  have hn : n ≤ 128 := by have := (fit_in8 hfit).1; omega
  obtain ⟨va, vc, rfl, -, -, hlen⟩ := h.shape
  obtain ⟨H, hH⟩ := exists_home n (lnkT es)
  have HH := hide hH
  have HF := hide (rfit_any h n)
  rw [hfit] at HF
  have HFt := hide hfit
  have HIn := hide (fit_in8 hfit).2
  have HL := hide h
  obtain ⟨q, hq⟩ : ∃ q, es.length = q := ⟨_, rfl⟩
  have HQ := hide hq
  rw [hq] at HL HF hlen ⊢
  clear h hfit hq hH
  go_enter Try.func17, Try.ntmps17
  go_wp2_with (first
    | (go_at_call 20; refine HF.out.mono ?_; rintro e W1 ⟨rfl, b1⟩; have HB1 := hide b1; have HR := hide (rreach_any (HL.out.kept b1) HFt.out); clear b1 HF)
    | (go_at_call 21; refine HR.out.mono ?_; rintro e W2 ⟨tv, gs, f, rfl, hgl, ht, hf, b2⟩; have HGl := hide hgl; have HT := hide ht; have HFf := hide hf; have HB2 := hide (HB1.out.trans (b2.mono HB1.out.size)); obtain ⟨ta, tc, htv, -, -⟩ := ht.grow.shape; rw [List.length_map, hgl] at htv; subst htv; clear hgl ht hf b2 HR))
  go_loopw [7] (fun y wl => ∃ i : Nat, i ≤ q ∧ y = .int .i64 i ∧ Hid (∀ x ∈ es.take i, badE H x = false) ∧ Hid (Below W2.heap.size W2 wl)) (fun y _ => q - (intOf y).toNat)
  case atStart => exact ⟨0, by omega, rfl, (fun x hx => by simp at hx), Below.refl _ _⟩
  case round =>
    obtain ⟨i, hi, rfl, HP, HB⟩ := hrel
    have HBw : Hid (Below w.heap.size w wr) := HB2.out.trans (HB.out.mono HB2.out.size)
    by_cases hlt : i < q
    · have hi1 : (i : Int) < (q : Int) := by omega
      have hi0 : (0 : Int) ≤ (i : Int) := by omega
      obtain ⟨b, off, rfl, -, -, hrow⟩ := HL.out.row (by rw [HQ.out]; omega)
      obtain ⟨x, hx⟩ : ∃ x, es[i]? = some x := ⟨_, List.getElem?_eq_getElem (by rw [HQ.out]; exact hlt)⟩
      have y0 := kept_cell HBw.out (hrow i x hx 0 _ rfl)
      have y1 := kept_cell HBw.out (hrow i x hx 1 _ rfl)
      have y2 := kept_cell HBw.out (hrow i x hx 2 _ rfl)
      simp only [elEdg, Nat.add_zero] at y0 y1 y2
      obtain ⟨q1, q2, q3, q4⟩ := HIn.out x (List.mem_of_getElem? hx)
      have HTk := hide (take_snoc8 hx)
      have HX := hide hx
      have HN : Hid (badE H x = (x.neg && (H x.f.toNat == H x.t.toNat))) := rfl
      clear hrow hx
      obtain ⟨kf0, kt0, neg, r⟩ := x
      obtain ⟨kf, rfl⟩ : ∃ kf : Nat, kf0 = kf := ⟨kf0.toNat, by dsimp only at q1; omega⟩
      obtain ⟨kt, rfl⟩ : ∃ kt : Nat, kt0 = kt := ⟨kt0.toNat, by dsimp only at q3; omega⟩
      dsimp only at q1 q2 q3 q4 y0 y1 y2 HN
      simp only [Int.toNat_natCast] at HN
      have hfk : kf < n := by omega
      have htk : kt < n := by omega
      have HBd := hide HB.out.drew
      have HBwd := hide HBw.out.drew
      have HO1 := hide (one_any (HT.out.kept HBd.out) HGl.out hn hfk htk)
      rw [one_home HFf.out HH.out hfk htk] at HO1
      cases neg with
      | false =>
        have HPn : Hid (∀ x ∈ es.take (i + 1), badE H x = false) := fun x hx => by
          rw [HTk.out] at hx
          rcases List.mem_append.1 hx with h | h
          · exact HP.out x h
          · rw [List.mem_singleton.1 h, HN.out]; rfl
        clear HN
        go_wp2
        go_quiet (fail)
        go_wp2
        go_roundw
        case rel => exact ⟨i + 1, by omega, by go_num, HPn, ⟨HB.out.os, HB.out.tape, HB.out.output, HB.out.size, HB.out.block⟩⟩
        case measure => simp [intOf]; omega
      | true =>
        cases h1 : (H kf == H kt) with
        | false =>
          rw [h1] at HO1 HN
          have HPn : Hid (∀ x ∈ es.take (i + 1), badE H x = false) := fun x hx => by
            rw [HTk.out] at hx
            rcases List.mem_append.1 hx with h | h
            · exact HP.out x h
            · rw [List.mem_singleton.1 h, HN.out]; rfl
          clear h1 HN
          go_wp2
          go_region_held3 (fun w' => w'.cell? ⟨b, off + i * 4, none⟩ = some (.int .i64 (kf : Int)) ∧ w'.cell? ⟨b, off + i * 4 + 1, none⟩ = some (.int .i64 (kt : Int)) ∧ w'.cell? ⟨b, off + i * 4 + 2, none⟩ = some (.bool true)) (first | exact ⟨y0, y1, y2⟩ | exact HSk.out) (first | (go_at_call 23; refine HO1.out.mono ?_; rintro e W3 ⟨rfl, b3⟩; have HB3 := hide (HBd.out.trans (b3.mono HBd.out.size)); have HSk := hide (And.intro (kept_cell b3 y0) (And.intro (kept_cell b3 y1) (kept_cell b3 y2))); clear b3 HO1) | fail)
          go_wp2
          go_roundw
          case rel => exact ⟨i + 1, by omega, by go_num, HPn, HB3⟩
          case measure => simp [intOf]; omega
        | true =>
          rw [h1] at HO1 HN
          have HFi := hide (findI_at (p := badE H) HX.out HP.out (by rw [HN.out]; rfl))
          clear h1 HN
          go_wp2
          go_region_held3 (fun w' => w'.cell? ⟨b, off + i * 4, none⟩ = some (.int .i64 (kf : Int)) ∧ w'.cell? ⟨b, off + i * 4 + 1, none⟩ = some (.int .i64 (kt : Int)) ∧ w'.cell? ⟨b, off + i * 4 + 2, none⟩ = some (.bool true)) (first | exact ⟨y0, y1, y2⟩ | exact HSk.out) (first | (go_at_call 23; refine HO1.out.mono ?_; rintro e W3 ⟨rfl, b3⟩; have HB3 := hide (HBwd.out.trans (b3.mono HBwd.out.size)); have HSk := hide (And.intro (kept_cell b3 y0) (And.intro (kept_cell b3 y1) (kept_cell b3 y2))); clear b3 HO1) | fail)
          go_wp2
          exact bodyPost_ret (v := .tuple #[.int .i64 (i : Int), .int .i64 0]) (by simp [results, Try.results17, go_sem]) rfl ⟨⟨H, HH.out, by rw [HFi.out]⟩, HB3.out⟩
    · obtain rfl : q = i := by omega
      have hi1 : ¬ (q : Int) < (q : Int) := by omega
      rw [List.take_of_length_le (by rw [HQ.out]; exact Nat.le_refl _)] at HP
      have HFi := hide (findI_out HP.out)
      go_wp2
      exact bodyPost_ret (v := .tuple #[.int .i64 (-1), .int .i64 0]) (by simp [results, Try.results17, go_sem]) rfl ⟨⟨H, HH.out, by rw [HFi.out]⟩, HBw.out⟩
end Go.Proofs.Ytjifhmlfnnagcaa

namespace Go.Proofs.Ytjifhmlfnnagcaa
set_option linter.unusedSimpArgs false
set_option linter.unusedVariables false

theorem pig_len : ∀ (l m : List Nat), l.Nodup → (∀ x ∈ l, x ∈ m) → l.length ≤ m.length
  | [], m, _, _ => Nat.zero_le _
  | a :: l, m, hn, hs => by
    have ha : a ∈ m := hs a (List.mem_cons_self ..)
    have hn2 := List.nodup_cons.1 hn
    have h1 := pig_len l (m.erase a) hn2.2 fun x hx => (List.mem_erase_of_ne (fun e => hn2.1 (by rw [← e]; exact hx))).2 (hs x (List.mem_cons_of_mem _ hx))
    rw [List.length_erase_of_mem ha] at h1
    have : 0 < m.length := List.length_pos_of_mem ha
    rw [List.length_cons]
    omega
theorem Least.small {n : Nat} {T N : Nat → Nat → Bool} {X : Nat → Int} (h : Least n T N X) : ∀ u, u < n → X u < n := by
  intro u hu
  rcases Int.lt_or_le (X u) n with h0 | h0
  · exact h0
  · exfalso
    rcases Classical.em (∃ c : Nat, c < n ∧ ∀ v, v < n → X v ≠ c) with ⟨c, hc, hv⟩ | hno
    · have hs : Sol n T N (fun v => if (c : Int) < X v then X v - 1 else X v) := by
        refine ⟨fun a ha => ?_, fun a b ha hb e => ?_, fun a b ha hb e => ?_⟩
        · have := h.nn a ha; split <;> omega
        · have h1 := h.le a b ha hb e; have h2 := hv a ha; have h3 := hv b hb; split <;> split <;> omega
        · have h1 := h.lt a b ha hb e; have h2 := hv a ha; have h3 := hv b hb; split <;> split <;> omega
      have h1 := h.least _ hs u hu
      rw [if_pos (by omega)] at h1
      omega
    · have h1 := pig_len ((X u).toNat :: List.range n) ((List.range n).map fun v => (X v).toNat) (List.nodup_cons.2 ⟨fun hm => by have := List.mem_range.1 hm; omega, List.nodup_range⟩) fun x hx => by
        rcases List.mem_cons.1 hx with rfl | hx
        · exact List.mem_map.2 ⟨u, List.mem_range.2 hu, rfl⟩
        · rcases Classical.em (∃ v, v < n ∧ X v = (x : Int)) with ⟨v, hv, e⟩ | hn2
          · exact List.mem_map.2 ⟨v, List.mem_range.2 hv, by rw [e]; simp⟩
          · exact absurd ⟨x, List.mem_range.1 hx, fun v hv e => hn2 ⟨v, hv, e⟩⟩ hno
      simp at h1
      omega
end Go.Proofs.Ytjifhmlfnnagcaa

namespace Go.Proofs.Ytjifhmlfnnagcaa
set_option linter.unusedSimpArgs false
set_option linter.unusedVariables false
open Go.RowKit Go.Maps

/-- What the document's table says in the end (n: no walk). -/
structure AwayOk (n : Nat) (T : Nat → Nat → Bool) (goal : Nat) (D : Nat → Int) : Prop where
  gl : goal < n
  zero : D goal = 0
  lo : ∀ u, u < n → 0 ≤ D u ∧ D u ≤ (n : Int)
  nx : ∀ u, u < n → D u < (n : Int) → u ≠ goal → ∃ v, v < n ∧ T u v = true ∧ D v = D u - 1
  st : ∀ u v, u < n → v < n → T u v = true → D v < (n : Int) → D u ≤ D v + 1

/-- In round k, the edges ahead of i looked at. -/
structure AInv (n : Nat) (es : List Edg) (goal : Nat) (D : Nat → Int) (k i : Nat) : Prop where
  gl : goal < n
  zero : D goal = 0
  lo : ∀ u, u < n → 0 ≤ D u ∧ D u ≤ (n : Int)
  nx : ∀ u, u < n → D u < (n : Int) → u ≠ goal → ∃ v, v < n ∧ lnkT es u v = true ∧ D v = D u - 1
  hi : ∀ u, u < n → D u ≤ (k : Int) + 1 ∨ D u = (n : Int)
  st : ∀ u v, u < n → v < n → lnkT es u v = true → D v < (k : Int) → D u ≤ D v + 1
  cur : ∀ x ∈ es.take i, D x.t.toNat = (k : Int) → D x.f.toNat ≤ (k : Int) + 1

theorem AInv.start {n : Nat} (es : List Edg) {goal : Nat} (hg : goal < n) : AInv n es goal (updI (fun _ => (n : Int)) goal 0) 0 0 := by
  have hs : updI (fun _ => (n : Int)) goal 0 goal = 0 := by unfold updI; simp
  have ho : ∀ u, u ≠ goal → updI (fun _ => (n : Int)) goal 0 u = n := fun u hu => by unfold updI; simp [hu]
  have hlo : ∀ u, 0 ≤ updI (fun _ => (n : Int)) goal 0 u ∧ updI (fun _ => (n : Int)) goal 0 u ≤ n := fun u => by
    by_cases e : u = goal
    · subst e; rw [hs]; omega
    · rw [ho u e]; omega
  refine ⟨hg, hs, fun u _ => hlo u, fun u _ h1 h2 => ?_, fun u _ => ?_, fun u v _ _ _ h1 => ?_, fun x hx => by simp at hx⟩
  · rw [ho u h2] at h1; omega
  · by_cases e : u = goal
    · subst e; rw [hs]; left; omega
    · right; exact ho u e
  · have := (hlo v).1; omega
theorem AInv.keep {n : Nat} {es : List Edg} {goal : Nat} {D : Nat → Int} {k i : Nat} {x : Edg} (h : AInv n es goal D k i) (hx : es[i]? = some x) (hk : D x.t.toNat = (k : Int) → D x.f.toNat ≤ (k : Int) + 1) : AInv n es goal D k (i + 1) :=
  ⟨h.gl, h.zero, h.lo, h.nx, h.hi, h.st, fun y hy => by
    rw [take_snoc8 hx] at hy
    rcases List.mem_append.1 hy with hy | hy
    · exact h.cur y hy
    · rw [List.mem_singleton.1 hy]; exact hk⟩
theorem AInv.set {n : Nat} {es : List Edg} {goal : Nat} {D : Nat → Int} {k i : Nat} {x : Edg} (h : AInv n es goal D k i) (hx : es[i]? = some x) {kf kt : Nat} (e1 : x.f = kf) (e2 : x.t = kt) (hf : kf < n) (ht : kt < n) (hkt : D kt = (k : Int)) (hkf : (k : Int) + 1 < D kf) : AInv n es goal (updI D kf ((k : Int) + 1)) k (i + 1) := by
  have hs : updI D kf ((k : Int) + 1) kf = (k : Int) + 1 := by unfold updI; simp
  have ho : ∀ u, u ≠ kf → updI D kf ((k : Int) + 1) u = D u := fun u hu => by unfold updI; simp [hu]
  have hn : D kf = (n : Int) := by rcases h.hi kf hf with h1 | h1 <;> omega
  have hT : lnkT es kf kt = true := by
    unfold lnkT
    exact List.any_eq_true.2 ⟨x, List.mem_of_getElem? hx, by unfold isE; simp [e1, e2]⟩
  have hne : kt ≠ kf := fun e => by rw [e] at hkt; omega
  have hg : goal ≠ kf := fun e => by have := h.zero; rw [e] at this; omega
  refine ⟨h.gl, by rw [ho goal hg]; exact h.zero, fun u hu => ?_, fun u hu h1 h2 => ?_, fun u hu => ?_, fun u v hu hv hT2 h1 => ?_, fun y hy => ?_⟩
  · by_cases e : u = kf
    · subst e; rw [hs]; omega
    · rw [ho u e]; exact h.lo u hu
  · by_cases e : u = kf
    · subst e
      exact ⟨kt, ht, hT, by rw [ho kt hne, hs, hkt]; omega⟩
    · rw [ho u e] at h1 ⊢
      obtain ⟨v, hv, h3, h4⟩ := h.nx u hu h1 h2
      have hvk : v ≠ kf := fun e => by rw [e] at h4; omega
      exact ⟨v, hv, h3, by rw [ho v hvk]; exact h4⟩
  · by_cases e : u = kf
    · subst e; rw [hs]; left; exact Int.le_refl _
    · rw [ho u e]; exact h.hi u hu
  · have hvk : v ≠ kf := fun e => by rw [e, hs] at h1; omega
    rw [ho v hvk] at h1 ⊢
    have h3 := h.st u v hu hv hT2 h1
    by_cases e : u = kf
    · subst e; omega
    · rw [ho u e]; exact h3
  · rw [take_snoc8 hx] at hy
    rcases List.mem_append.1 hy with hy | hy
    · intro h1
      have hvk : y.t.toNat ≠ kf := fun e => by rw [e, hs] at h1; omega
      rw [ho _ hvk] at h1
      have h3 := h.cur y hy h1
      by_cases e : y.f.toNat = kf
      · rw [e, hs]; exact Int.le_refl _
      · rw [ho _ e]; exact h3
    · intro _
      rw [List.mem_singleton.1 hy, e1, Int.toNat_natCast, hs]
      exact Int.le_refl _
theorem AInv.next {n : Nat} {es : List Edg} {goal : Nat} {D : Nat → Int} {k : Nat} (h : AInv n es goal D k es.length) : AInv n es goal D (k + 1) 0 := by
  refine ⟨h.gl, h.zero, h.lo, h.nx, fun u hu => ?_, fun u v hu hv hT h1 => ?_, fun x hx => by simp at hx⟩
  · rcases h.hi u hu with h1 | h1
    · left; omega
    · exact .inr h1
  · rcases Int.lt_or_le (D v) k with h2 | h2
    · exact h.st u v hu hv hT h2
    · have hv2 : D v = (k : Int) := by omega
      unfold lnkT at hT
      obtain ⟨x, hx, he⟩ := List.any_eq_true.1 hT
      unfold isE at he
      simp at he
      have h3 := h.cur x (by rw [List.take_of_length_le (Nat.le_refl _)]; exact hx)
      rw [he.1, he.2, Int.toNat_natCast, Int.toNat_natCast] at h3
      have := h3 hv2
      omega
theorem AInv.done {n : Nat} {es : List Edg} {goal : Nat} {D : Nat → Int} (h : AInv n es goal D n 0) : AwayOk n (lnkT es) goal D := ⟨h.gl, h.zero, h.lo, h.nx, h.st⟩

theorem AwayOk.chain {n : Nat} {T : Nat → Nat → Bool} {goal : Nat} {D : Nat → Int} (h : AwayOk n T goal D) : ∀ (e : Nat) v, v < n → D v = (e : Int) → e < n → ∀ d, d ≤ e → ∃ u, u < n ∧ D u = (d : Int) := by
  intro e
  induction e with
  | zero => intro v hv hd _ d hle; exact ⟨v, hv, by rw [hd]; omega⟩
  | succ e ih =>
    intro v hv hd hn d hle
    rcases Nat.lt_or_ge d (e + 1) with h1 | h1
    · have hne : v ≠ goal := fun e1 => by rw [e1, h.zero] at hd; omega
      obtain ⟨u, hu, _, h2⟩ := h.nx v hv (by omega) hne
      exact ih u hu (by omega) (by omega) d (by omega)
    · exact ⟨v, hv, by rw [hd]; omega⟩
theorem AwayOk.less {n : Nat} {T : Nat → Nat → Bool} {goal : Nat} {D : Nat → Int} (h : AwayOk n T goal D) {u v : Nat} (hu : u < n) (hv : v < n) (hT : T u v = true) (hd : D v < (n : Int)) : D u < (n : Int) := by
  rcases Int.lt_or_le (D u) n with h1 | h1
  · exact h1
  · exfalso
    have h2 := h.st u v hu hv hT hd
    have h3 := (h.lo v hv).1
    have h4 : ∀ d, ∃ x, d < n → x < n ∧ D x = (d : Int) := fun d => by
      rcases Nat.lt_or_ge d n with hlt | hge
      · obtain ⟨x, h5, h6⟩ := h.chain (n - 1) v hv (by omega) (by omega) d (by omega)
        exact ⟨x, fun _ => ⟨h5, h6⟩⟩
      · exact ⟨0, fun h5 => by omega⟩
    have hw := fun d => Classical.choose_spec (h4 d)
    have h6 := pig_len (u :: (List.range n).map fun d => Classical.choose (h4 d)) (List.range n) (List.nodup_cons.2 ⟨fun hm => by
        obtain ⟨d, hd1, hd2⟩ := List.mem_map.1 hm
        have := (hw d (List.mem_range.1 hd1)).2
        rw [hd2] at this
        have := List.mem_range.1 hd1
        omega, List.pairwise_map.2 (List.Pairwise.imp_of_mem (fun {a b} ha hb hne e => hne (by
          have h7 := (hw a (List.mem_range.1 ha)).2
          have h8 := (hw b (List.mem_range.1 hb)).2
          rw [e] at h7
          omega)) List.nodup_range)⟩) fun x hx => by
        rcases List.mem_cons.1 hx with rfl | hx
        · exact List.mem_range.2 hu
        · obtain ⟨d, hd1, rfl⟩ := List.mem_map.1 hx
          exact List.mem_range.2 (hw d (List.mem_range.1 hd1)).1
    simp at h6
    omega
theorem AwayOk.reach {n : Nat} {T : Nat → Nat → Bool} {goal : Nat} {D : Nat → Int} (h : AwayOk n T goal D) {a b : Nat} (hr : Reach (Ed n T) a b) : D b < (n : Int) → D a < (n : Int) := by
  induction hr with
  | refl => exact id
  | tail _ e ih => exact fun h0 => ih (h.less e.1 e.2.1 e.2.2 h0)

theorem far_agree {n : Nat} {T : Nat → Nat → Bool} {goal : Nat} {D E : Nat → Int} (h : FarOk n T goal D) (k : AwayOk n T goal E) : ∀ u, u < n → (0 ≤ D u ∧ E u = D u) ∨ (D u = -1 ∧ E u = (n : Int)) := by
  have a1 : ∀ (d : Nat) u, u < n → D u = (d : Int) → E u ≤ d := by
    intro d
    induction d with
    | zero =>
      intro u hu hd
      by_cases e : u = goal
      · rw [e, k.zero]; exact Int.le_refl _
      · obtain ⟨v, _, _, h1, h2⟩ := h.nx u hu (by omega) e
        omega
    | succ d ih =>
      intro u hu hd
      have e : u ≠ goal := fun e => by rw [e, h.zero] at hd; omega
      obtain ⟨v, hv, hT, h1, h2⟩ := h.nx u hu (by omega) e
      have h3 := ih v hv (by omega)
      have h4 := (h.lo u hu).2
      have h5 := k.st u v hu hv hT (by omega)
      omega
  have a2 : ∀ (d : Nat) u, u < n → E u = (d : Int) → (d : Int) < n → 0 ≤ D u ∧ D u ≤ d := by
    intro d
    induction d with
    | zero =>
      intro u hu hd hn
      by_cases e : u = goal
      · rw [e, h.zero]; omega
      · obtain ⟨v, hv, _, h1⟩ := k.nx u hu (by omega) e
        have := (k.lo v hv).1
        omega
    | succ d ih =>
      intro u hu hd hn
      have e : u ≠ goal := fun e => by rw [e, k.zero] at hd; omega
      obtain ⟨v, hv, hT, h1⟩ := k.nx u hu (by omega) e
      have h3 := ih v hv (by omega) (by omega)
      have h4 := h.cl u v hu hv hT h3.1
      have h5 := h.st u v hu hv hT h3.1
      omega
  intro u hu
  have hl := h.lo u hu
  have hl2 := k.lo u hu
  rcases Int.lt_or_le (D u) 0 with h0 | h0
  · right
    refine ⟨by omega, ?_⟩
    rcases Int.lt_or_le (E u) n with h1 | h1
    · have := a2 (E u).toNat u hu (by omega) (by omega)
      omega
    · omega
  · left
    refine ⟨h0, ?_⟩
    have h1 := a1 (D u).toNat u hu (by omega)
    have h2 := a2 (E u).toNat u hu (by omega) (by omega)
    omega
/-- A walk by the one table is one by the other. -/
theorem PathD.turn {n : Nat} {es : List Edg} {a goal b : Nat} {D E : Nat → Int} {W : List Int} (h : FarOk n (lnkT es) goal D) (k : AwayOk n (lnkT es) goal E) (hin : ∀ x ∈ es, 0 ≤ x.f ∧ x.f < n ∧ 0 ≤ x.t ∧ x.t < n) (ha : a < n) (hd : 0 ≤ D a) (p : PathD es E a W b) : PathD es D a W b ∧ b < n ∧ 0 ≤ D b := by
  have hag := far_agree h k
  induction p with
  | nil => exact ⟨.nil, ha, hd⟩
  | @snoc W b m x t p h1 h2 h3 h4 h5 h6 ih =>
    obtain ⟨i1, i2, i3⟩ := ih
    have eb : E b = D b := by rcases hag b i2 with h7 | h7 <;> omega
    obtain ⟨z1, z2, z3, z4⟩ := hin x (List.mem_of_getElem? h2)
    have htn : t < n := by omega
    have hlb := (h.lo b i2).2
    have et : 0 ≤ D t ∧ E t = D t := by rcases hag t htn with h7 | h7 <;> omega
    refine ⟨i1.snoc (by omega) h2 h3 h4 (by omega) fun m' y hm hy hyf hyd => h6 m' y hm hy hyf ?_, htn, et.1⟩
    obtain ⟨z5, z6, z7, z8⟩ := hin y (List.mem_of_getElem? hy)
    rcases hag y.t.toNat (by omega) with h7 | h7 <;> omega
theorem PathD.len {es : List Edg} {D : Nat → Int} {a b : Nat} {W : List Int} (p : PathD es D a W b) : D b = D a - W.length := by
  induction p with
  | nil => simp
  | snoc _ _ _ _ _ h5 _ ih => rw [h5, ih, List.length_append]; simp; omega
theorem PathD.det {es : List Edg} {D : Nat → Int} {a b b' : Nat} {W W' : List Int} (p : PathD es D a W b) (p' : PathD es D a W' b') (hl : W.length = W'.length) : W = W' ∧ b = b' := by
  induction p generalizing W' b' with
  | nil =>
    cases p' with
    | nil => exact ⟨rfl, rfl⟩
    | snoc => simp at hl
  | @snoc W b m x t p h1 h2 h3 h4 h5 h6 ih =>
    cases p' with
    | nil => simp at hl
    | @snoc W2 b2 m2 x2 _ p2 k1 k2 k3 k4 k5 k6 =>
      obtain ⟨rfl, rfl⟩ := ih p2 (by simpa using hl)
      have hm : m = m2 := by
        rcases Nat.lt_trichotomy m m2 with hlt | e | hlt
        · exact absurd (by rw [h4]; simpa using h5) (k6 m x hlt h2 h3)
        · exact e
        · exact absurd (by rw [k4]; simpa using k5) (h6 m2 x2 hlt k2 k3)
      subst hm
      rw [h2] at k2
      obtain rfl := Option.some.inj k2
      exact ⟨rfl, by omega⟩
theorem PathD.uniq {es : List Edg} {D : Nat → Int} {a goal : Nat} {W W' : List Int} (p : PathD es D a W goal) (p' : PathD es D a W' goal) : W = W' :=
  (p.det p' (by have := p.len; have := p'.len; omega)).1
end Go.Proofs.Ytjifhmlfnnagcaa

namespace Go.Proofs.Ytjifhmlfnnagcaa
set_option linter.unusedSimpArgs false
set_option linter.unusedVariables false
open Go.RowKit Go.Maps

set_option maxRecDepth 100000 in
set_option maxHeartbeats 4000000 in
theorem away_any {w : World} {v : Value} {es : List Edg} {n goal : Nat} (h : Has elEdg w v es) (hfit : fitP n es = true) (hg : goal < n) :
    Calls Try.prog 29 #[.int .i64 n, v, .int .i64 (goal : Int)] w fun e w' => ∃ (g : Nat) (D : Nat → Int), e = .returned (.slice (some ⟨g, 0, none⟩) n n) ∧ w'.rowIs g 3 n (fun i => .int .i64 (D i)) ∧ AwayOk n (lnkT es) goal D ∧ w.heap.size ≤ g ∧ Below w.heap.size w w' := by
  have hn : n ≤ 128 := by have := (fit_in8 hfit).1; omega
  have hmk := fun W : World => run_make_row' (P := Try.prog) 33 3 (.int .i64 0) 8 Try.underlying33 Try.infoInt8 rfl .i64 .i64 n (by omega) (by omega) W
  obtain ⟨va, vc, rfl, -, -, hlen⟩ := h.shape
  have HIn := hide (fit_in8 hfit).2
  have HL := hide h
  obtain ⟨q, hq⟩ : ∃ q, es.length = q := ⟨_, rfl⟩
  have HQ := hide hq
  rw [hq] at HL hlen ⊢
  clear h hfit hq
  obtain ⟨gf, hgf⟩ : ∃ gf, w.heap.size = gf := ⟨_, rfl⟩
  have HGf := hide hgf
  have HR0 : Hid ((w.alloc (.cells (madeCells #[.int .i64 0] n) 3)).rowIs gf 3 n (fun i => .int .i64 (if i < 0 then (n : Int) else 0))) := by
    rw [← hgf]
    exact (World.rowIs_made w (.int .i64 0) n 3).congr fun i _ => by simp
  have HB0 : Hid (Below w.heap.size w (w.alloc (.cells (madeCells #[.int .i64 0] n) 3))) := belo1 _ _
  have hgi : (goal : Int) < (n : Int) := by omega
  have hgi0 : (0 : Int) ≤ (goal : Int) := by omega
  clear hgf
  go_enter Try.func29, Try.ntmps29
  go_wp2
  try simp only [HGf.out]
  go_loopw [8] (fun y wl => ∃ i : Nat, i ≤ n ∧ y = .int .i64 i ∧ Hid (wl.rowIs gf 3 n (fun j => .int .i64 (if j < i then (n : Int) else 0))) ∧ Hid (Below w.heap.size w wl)) (fun y _ => n - (intOf y).toNat)
  case atStart => exact ⟨0, by omega, rfl, HR0, HB0⟩
  case round =>
    clear HR0 HB0 hmk
    obtain ⟨i, hi, rfl, HR, HB⟩ := hrel
    by_cases hlt : i < n
    · have hi1 : (i : Int) < (n : Int) := by omega
      have hi0 : (0 : Int) ≤ (i : Int) := by omega
      have y0 := HR.out.cell hlt
      have y0f := HR.out.frozen i
      have HRn := hide ((HR.out.set i (.int .i64 (n : Int))).congr (g := fun j => .int .i64 (if j < i + 1 then (n : Int) else 0)) fun j _ => by
        by_cases e : j = i
        · subst e; simp
        · rw [if_neg e]; congr 1; by_cases e2 : j < i
          · rw [if_pos e2, if_pos (by omega)]
          · rw [if_neg e2, if_neg (by omega)])
      have hge : w.heap.size ≤ gf := Nat.le_of_eq HGf.out
      have HGe := hide hge
      clear hge
      go_wp2
      go_roundw
      case rel => exact ⟨i + 1, by omega, by go_num, HRn, HB.out.setCell HGe.out _⟩
      case measure => simp [intOf]; omega
    · obtain rfl : n = i := by omega
      have hi1 : ¬ (n : Int) < (n : Int) := by omega
      have y0 := HR.out.cell hg
      have y0f := HR.out.frozen goal
      have HR1 := hide ((HR.out.set goal (.int .i64 0)).congr (g := fun j => .int .i64 (updI (fun _ => (n : Int)) goal 0 j)) fun j hj => by
        unfold updI
        by_cases e : j = goal
        · rw [if_pos e, if_pos e]
        · rw [if_neg e, if_neg e, if_pos hj])
      have HGe : Hid (w.heap.size ≤ gf) := Nat.le_of_eq HGf.out
      have HB1 := hide (HB.out.setCell (show w.heap.size ≤ (⟨gf, goal, none⟩ : Addr).block from HGe.out) (.int .i64 0))
      have HI1 := hide (AInv.start es hg)
      go_wp2
      clear HR HB y0 y0f
      go_loopw [9] (fun y wl => ∃ (k : Nat) (D : Nat → Int), k ≤ n ∧ y = .int .i64 k ∧ Hid (wl.rowIs gf 3 n (fun j => .int .i64 (D j))) ∧ Hid (AInv n es goal D k 0) ∧ Hid (Below w.heap.size w wl)) (fun y _ => n - (intOf y).toNat)
      case atStart => exact ⟨0, _, by omega, rfl, HR1, HI1, HB1⟩
      case round =>
        clear HR1 HI1 HB1
        obtain ⟨k, D, hk, rfl, HR, HI, HB⟩ := hrel
        by_cases hlt : k < n
        · have hk1 : (k : Int) < (n : Int) := by omega
          have hk0 : (0 : Int) ≤ (k : Int) := by omega
          go_wp2
          go_loopw [10] (fun y wl => ∃ (i : Nat) (D : Nat → Int), i ≤ q ∧ y = .int .i64 i ∧ Hid (wl.rowIs gf 3 n (fun j => .int .i64 (D j))) ∧ Hid (AInv n es goal D k i) ∧ Hid (Below w.heap.size w wl)) (fun y _ => q - (intOf y).toNat)
          case atStart => exact ⟨0, D, by omega, rfl, HR, HI, HB⟩
          case round =>
            clear HR HI HB
            obtain ⟨i, D, hi, rfl, HR, HI, HB⟩ := hrel
            by_cases hlt2 : i < q
            · have hi1 : (i : Int) < (q : Int) := by omega
              have hi0 : (0 : Int) ≤ (i : Int) := by omega
              obtain ⟨b, off, rfl, -, -, hrow⟩ := HL.out.row (by rw [HQ.out]; omega)
              obtain ⟨x, hx⟩ : ∃ x, es[i]? = some x := ⟨_, List.getElem?_eq_getElem (by rw [HQ.out]; exact hlt2)⟩
              have y0 := kept_cell HB.out (hrow i x hx 0 _ rfl)
              have y1 := kept_cell HB.out (hrow i x hx 1 _ rfl)
              simp only [elEdg, Nat.add_zero] at y0 y1
              obtain ⟨q1, q2, q3, q4⟩ := HIn.out x (List.mem_of_getElem? hx)
              have HX := hide hx
              clear hrow hx
              obtain ⟨kf0, kt0, neg, r⟩ := x
              obtain ⟨kf, rfl⟩ : ∃ kf : Nat, kf0 = kf := ⟨kf0.toNat, by dsimp only at q1; omega⟩
              obtain ⟨kt, rfl⟩ : ∃ kt : Nat, kt0 = kt := ⟨kt0.toNat, by dsimp only at q3; omega⟩
              dsimp only at q1 q2 q3 q4 y0 y1
              have hfk : kf < n := by omega
              have htk : kt < n := by omega
              have l0 := HR.out.cell hfk
              have l0f := HR.out.frozen kf
              have l1 := HR.out.cell htk
              have HLo := hide (HI.out.lo kf hfk)
              have HLt := hide (HI.out.lo kt htk)
              obtain ⟨xf, hxf⟩ : ∃ x, D kf = x := ⟨_, rfl⟩
              obtain ⟨xt, hxt⟩ : ∃ x, D kt = x := ⟨_, rfl⟩
              rw [hxf] at l0 HLo
              rw [hxt] at l1 HLt
              have HVals : Hid (D kf = xf ∧ D kt = xt) := ⟨hxf, hxt⟩
              have hb1 := HLo.out
              have hb2 := HLt.out
              clear hxf hxt q1 q2 q3 q4
              by_cases h1 : xt = (k : Int)
              · by_cases h2 : (k : Int) + 1 < xf
                · have HIn2 := hide (HI.out.set HX.out (kf := kf) (kt := kt) rfl rfl hfk htk (by rw [HVals.out.2]; exact h1) (by rw [HVals.out.1]; exact h2))
                  have HRn := hide ((HR.out.set kf (.int .i64 ((k : Int) + 1))).congr (g := fun j => .int .i64 (updI D kf ((k : Int) + 1) j)) fun j _ => by unfold updI; split <;> rfl)
                  have hkb : (k : Int) + 1 ≤ 1000 := by omega
                  clear HVals
                  go_wp2
                  go_roundw
                  case rel => exact ⟨i + 1, _, by omega, by go_num, HRn, HIn2, HB.out.setCell HGe.out _⟩
                  case measure => simp [intOf]; omega
                · have HIn2 := hide (HI.out.keep HX.out (fun _ => by show D (Int.toNat (kf : Int)) ≤ _; rw [Int.toNat_natCast, HVals.out.1]; omega))
                  clear HVals
                  go_wp2
                  go_roundw
                  case rel => exact ⟨i + 1, D, by omega, by go_num, HR, HIn2, HB⟩
                  case measure => simp [intOf]; omega
              · have HIn2 := hide (HI.out.keep HX.out (fun e => absurd (by rw [← HVals.out.2]; simpa using e) h1))
                clear HVals
                go_wp2
                go_roundw
                case rel => exact ⟨i + 1, D, by omega, by go_num, HR, HIn2, HB⟩
                case measure => simp [intOf]; omega
            · obtain rfl : q = i := by omega
              have hi1 : ¬ (q : Int) < (q : Int) := by omega
              have HIn2 : Hid (AInv n es goal D (k + 1) 0) := by
                have := HI.out
                rw [← HQ.out] at this
                exact this.next
              go_wp2
              go_roundw
              case rel => exact ⟨k + 1, D, by omega, by go_num, HR, HIn2, HB⟩
              case measure => simp [intOf]; omega
        · obtain rfl : n = k := by omega
          have hk1 : ¬ (n : Int) < (n : Int) := by omega
          have HA := hide HI.out.done
          go_wp2
          go_ret
          exact ⟨_, rfl, D, HR.out, HA.out, HGe.out, HB.out⟩
end Go.Proofs.Ytjifhmlfnnagcaa

namespace Go.Proofs.Ytjifhmlfnnagcaa
set_option linter.unusedSimpArgs false
set_option linter.unusedVariables false
open Go.RowKit Go.Maps

/-- What the document's Cycle answers. -/
def ryAns (w : World) (n : Nat) (es : List Edg) (e : Ending) (w' : World) : Prop :=
  ∃ H : Nat → Int, (∀ v, v < n → LeastOf (Ed n (lnkT es)) v (H v)) ∧ ((findI (badE H) es < 0 ∧ e = .returned (.tuple #[.slice none 0 0, .int .i64 0])) ∨
    ∃ (wv : Value) (m : Nat) (x : Edg) (W : List Int) (D : Nat → Int), e = .returned (.tuple #[wv, .int .i64 0]) ∧ Grow elInt 3 w.heap.size w' wv ((m : Int) :: W) ∧ findI (badE H) es = m ∧ es[m]? = some x ∧ AwayOk n (lnkT es) x.f.toNat D ∧ PathD es D x.t.toNat W x.f.toNat ∧ W.length ≤ n)

set_option maxRecDepth 100000 in
set_option maxHeartbeats 4000000 in
theorem rcycle_fit {w : World} {v : Value} {es : List Edg} {n : Nat} (h : Has elEdg w v es) (hfit : fitP n es = true) :
    Calls Try.prog 16 #[.int .i64 n, v] w fun e w' => ryAns w n es e w' ∧ Below w.heap.size w w' := by
  have hn : n ≤ 128 := by have := (fit_in8 hfit).1; omega
  obtain ⟨ii, hii, hz0, hz1, hz2⟩ := info_parts Try.infoInt8
  obtain ⟨va, vc, rfl, -, -, hlen⟩ := h.shape
  obtain ⟨H, hH⟩ := exists_home n (lnkT es)
  have hin := (fit_in8 hfit).2
  have HBa : Hid (Calls Try.prog 17 #[.int .i64 n, .slice va es.length vc] w fun e w' => e = .returned (.tuple #[.int .i64 (findI (badE H) es), .int .i64 0]) ∧ Below w.heap.size w w') := (rbad_fit h hfit).mono fun e w' ⟨⟨H', h1, h2⟩, h3⟩ => ⟨by rw [h2, bad_uniq hin (home_uniq h1 hH)], h3⟩
  have HFt := hide hfit
  have HIn := hide hin
  have HL := hide h
  have HH := hide hH
  rcases Int.lt_or_le (findI (badE H) es) 0 with hneg | hpos
  · have HNg := hide hneg
    obtain ⟨bd, hbd⟩ : ∃ bd, findI (badE H) es = bd := ⟨_, rfl⟩
    rw [hbd] at hneg HBa
    clear hbd h hfit hin hH
    go_enter Try.func16, Try.ntmps16
    go_wp2_with (go_at_call 17; refine HBa.out.mono ?_; rintro e W1 ⟨rfl, b1⟩; have HB1 := hide b1; clear b1 HBa)
    exact bodyPost_ret (v := .tuple #[.slice none 0 0, .int .i64 0]) (by simp [results, Try.results16, go_sem]) rfl ⟨⟨H, HH.out, .inl ⟨HNg.out, rfl⟩⟩, HB1.out⟩
  · obtain ⟨m, x, hm, hx, hbx⟩ := bad_at hpos
    obtain ⟨z1, z2, z3, z4⟩ := hin x (List.mem_of_getElem? hx)
    obtain ⟨kf, hkf⟩ : ∃ kf : Nat, x.f = kf := ⟨x.f.toNat, by omega⟩
    obtain ⟨kt, hkt⟩ : ∃ kt : Nat, x.t = kt := ⟨x.t.toNat, by omega⟩
    have hfk : kf < n := by omega
    have htk : kt < n := by omega
    have hmut : Mut (Ed n (lnkT es)) kf kt := by
      unfold badE at hbx
      simp only [Bool.and_eq_true, beq_iff_eq] at hbx
      have h1 := hbx.2
      rw [hkf, hkt, Int.toNat_natCast, Int.toNat_natCast] at h1
      exact (least_eq (hH kf hfk) (hH kt htk)).1 h1
    have hml := (List.getElem?_eq_some_iff.1 hx).1
    obtain ⟨eb, off, rfl, -, -, hrow⟩ := h.row (by omega)
    have y0n := hrow m x hx 0 _ rfl
    have y1n := hrow m x hx 1 _ rfl
    simp only [elEdg, Nat.add_zero] at y0n y1n
    rw [hkf] at y0n
    rw [hkt] at y1n
    rw [hm] at HBa
    have HY := hide (And.intro y0n y1n)
    have HM := hide (And.intro hm (And.intro hx (And.intro hkf hkt)))
    have HRe := hide hmut.2
    have HLt : Hid (eb < w.heap.size) := by
      rcases Nat.lt_or_ge eb w.heap.size with h1 | h1
      · exact h1
      · unfold World.cell? at y0n; rw [Array.getElem?_eq_none h1] at y0n; cases y0n
    obtain ⟨q, hq⟩ : ∃ q, es.length = q := ⟨_, rfl⟩
    have HQ := hide hq
    rw [hq] at HL HBa hml ⊢
    have hm1 : (m : Int) < (q : Int) := by omega
    have hm0 : (0 : Int) ≤ (m : Int) := by omega
    have hm2 : ¬ (m : Int) < 0 := by omega
    have hqb : q < 1073741824 := by rw [← hq]; exact hlen
    clear h hfit hin hH hpos hm hx hbx z1 z2 z3 z4 hkf hkt hmut hrow y0n y1n hq hlen
    go_enter Try.func16, Try.ntmps16
    go_wp2_with (first
      | (go_at_call 17; refine HBa.out.mono ?_; rintro e W1 ⟨rfl, b1⟩; have hz1 := belo1 W1 (.cells #[.int .i64 (m : Int)] 3); have hb2 := b1.trans (hz1.mono b1.size); have HB2 := hide hb2; have y0 := kept_cell hb2 HY.out.1; have y1 := kept_cell hb2 HY.out.2; have HLi := hide (heap_alloc_new W1 (.cells #[.int .i64 (m : Int)] 3)); have HB1 := hide b1.size; have HA := hide (away_any (HL.out.kept hb2) HFt.out hfk); clear b1 hz1 hb2 HBa)
      | (go_at_call 29; refine HA.out.mono ?_; rintro e W2 ⟨gf, D, rfl, h1, h2, hgf, b2⟩; have HGf : Hid (W1.heap.size < gf) := (Nat.lt_of_lt_of_le (by simp) hgf); have HR := hide h1; clear hgf; have HAw := hide h2; have HBw := hide (HB2.out.trans (b2.mono HB2.out.size)); have y2 := kept_cell b2 y0; have y3 := kept_cell b2 y1; have HLi2 : Hid (W2.heap[W1.heap.size]? = some (.cells #[.int .i64 (m : Int)] 3 (0, 0))) := (by show _ = _; rw [b2.block _ (Array.getElem?_eq_some_iff.1 HLi.out).1]; exact HLi.out); clear h1 h2 b2 HA))
    have HGr0 : Hid (Grow elInt 3 w.heap.size W2 (.slice (some ⟨W1.heap.size, 0, none⟩) 1 1) [(m : Int)]) := ⟨by simpa [elInt] using own_one HLi2.out HB1.out, fun z hz => by rw [List.mem_singleton.1 hz]; exact ⟨by omega, by omega⟩⟩
    have HSt : Hid (PathD es D kt [] kt ∧ D kt < (n : Int)) := ⟨.nil, HAw.out.reach HRe.out (by rw [HAw.out.zero]; omega)⟩
    have HNe0 : Hid ((Value.slice (some ⟨W1.heap.size, 0, none⟩) 1 1).ownBlock ≠ some gf) := fun e => by
      have := HGf.out
      simp [Value.ownBlock] at e
      omega
    clear HLi2 HB2 HLi HY
    go_loopw [8, 10] (fun wv av wl => ∃ (b : Nat) (W : List Int), b < n ∧ av = .int .i64 b ∧ Hid (Grow elInt 3 w.heap.size wl wv ((m : Int) :: W)) ∧ Hid (wv.ownBlock ≠ some gf) ∧ Hid (wl.rowIs gf 3 n (fun i => .int .i64 (D i))) ∧ Hid (PathD es D kt W b ∧ D b < (n : Int)) ∧ Hid (Below w.heap.size w wl)) (fun _ av wl => farOf gf av wl)
    case atStart => exact ⟨kt, [], htk, rfl, HGr0, HNe0, HR, HSt, HBw⟩
    case round =>
      clear HGr0 HNe0 HR HSt HBw y2 y3
      obtain ⟨b, W, hbn, rfl, HG, HNe, HR, HP, HB⟩ := hrel
      obtain ⟨oa, oc, hwv, -, -⟩ := HG.out.shape
      obtain ⟨L, hL⟩ : ∃ L, ((m : Int) :: W).length = L := ⟨_, rfl⟩
      rw [hL] at hwv
      subst hwv
      have HLl := hide hL
      have hW1 : (W.length : Int) ≤ n := by
        have h1 := HP.out.1.len
        have h2 := (HAw.out.lo kt htk).2
        have h3 := (HAw.out.lo b hbn).1
        omega
      have hLb : L ≤ 1000 := by rw [← hL, List.length_cons]; omega
      have d0 := HR.out.cell hbn
      have HMu : Hid (farOf gf (.int .i64 (b : Int)) wr = (D b).toNat) := farOf_at HR.out hbn
      have HLo := hide (HAw.out.lo b hbn)
      have HDn := hide HP.out.2
      obtain ⟨db, hdb⟩ : ∃ d, D b = d := ⟨_, rfl⟩
      rw [hdb] at d0 HLo HMu HDn
      have HDb := hide hdb
      have hdb0 := HLo.out.1
      have hdbn := HDn.out
      clear hL
      by_cases hz : db = 0
      · subst hz
        have hbg : b = kf := by
          rcases Nat.decEq b kf with e | e
          · obtain ⟨u, hu, _, h1⟩ := HAw.out.nx b hbn (by rw [hdb]; omega) e
            have := (HAw.out.lo u hu).1
            omega
          · exact e
        have HEn : Hid (PathD es D kt W kf ∧ W.length ≤ n) := ⟨by rw [← hbg]; exact HP.out.1, by omega⟩
        clear hdb hbg
        go_wp2
        exact bodyPost_ret (v := .tuple #[.slice oa L oc, .int .i64 0]) (by simp [results, Try.results16, go_sem]) rfl ⟨⟨H, HH.out, .inr ⟨_, m, x, W, D, rfl, HG.out, HM.out.1, HM.out.2.1, by rw [HM.out.2.2.1]; exact HAw.out, by rw [HM.out.2.2.1, HM.out.2.2.2]; exact HEn.out.1, HEn.out.2⟩⟩, HB.out⟩
      · have hdp : 0 < db := by omega
        have hwr : IntKind.i64.wrap (db - 1) = db - 1 := by
          unfold IntKind.wrap
          simp [IntKind.bits, IntKind.signed]
          omega
        clear hdb hz
        go_wp2
        go_loopw [8, 10, 11] (fun wv av y wl => ∃ i : Nat, i ≤ q ∧ y = .int .i64 i ∧ wv = .slice oa L oc ∧ av = .int .i64 (b : Int) ∧ Hid (∀ z ∈ es.take i, ¬ (z.f = b ∧ D z.t.toNat = db - 1)) ∧ Hid (Grow elInt 3 w.heap.size wl (.slice oa L oc) ((m : Int) :: W)) ∧ Hid (wl.rowIs gf 3 n (fun i => .int .i64 (D i))) ∧ Hid (Below w.heap.size w wl)) (fun _ _ y _ => q - (intOf y).toNat)
        case atStart => exact ⟨0, by omega, rfl, rfl, rfl, (fun z hz => by simp at hz), HG, HR, HB⟩
        case round =>
          clear HG HR HB d0
          obtain ⟨i, hi, rfl, rfl, rfl, HN, HG, HR, HB⟩ := hrel
          have d0 := HR.out.cell hbn
          rw [HDb.out] at d0
          by_cases hlt : i < q
          · have hi1 : (i : Int) < (q : Int) := by omega
            have hi0 : (0 : Int) ≤ (i : Int) := by omega
            obtain ⟨z, hzz⟩ : ∃ z, es[i]? = some z := ⟨_, List.getElem?_eq_getElem (by rw [HQ.out]; exact hlt)⟩
            obtain ⟨eb2, off2, he2, -, -, hrow⟩ := HL.out.row (by rw [HQ.out]; omega)
            cases he2
            have y0 := kept_cell HB.out (hrow i z hzz 0 _ rfl)
            have y1 := kept_cell HB.out (hrow i z hzz 1 _ rfl)
            simp only [elEdg, Nat.add_zero] at y0 y1
            obtain ⟨q1, q2, q3, q4⟩ := HIn.out z (List.mem_of_getElem? hzz)
            have HTk := hide (take_snoc8 hzz)
            have HZ := hide hzz
            clear hrow hzz
            obtain ⟨zf0, zt0, neg, r⟩ := z
            obtain ⟨zf, rfl⟩ : ∃ k : Nat, zf0 = k := ⟨zf0.toNat, by dsimp only at q1; omega⟩
            obtain ⟨zt, rfl⟩ : ∃ k : Nat, zt0 = k := ⟨zt0.toNat, by dsimp only at q3; omega⟩
            dsimp only at q1 q2 q3 q4 y0 y1
            have hztn : zt < n := by omega
            have d1 := HR.out.cell hztn
            obtain ⟨dz, hdz⟩ : ∃ d, D zt = d := ⟨_, rfl⟩
            rw [hdz] at d1
            have HDz := hide hdz
            have hdz1 := HAw.out.lo zt hztn
            rw [hdz] at hdz1
            clear hdz
            by_cases hfb : zf = b
            · subst hfb
              by_cases hdd : dz = db - 1
              · subst hdd
                have hcd : (db - 1 == IntKind.i64.wrap (db - 1)) = true := by rw [hwr]; simp
                have HPn : Hid (PathD es D kt (W ++ [(i : Int)]) zt ∧ D zt < (n : Int)) := ⟨HP.out.1.snoc (by rw [HDb.out]; exact hdp) HZ.out rfl rfl (by rw [HDb.out]; exact HDz.out) (fun m' y hlt2 hy hyf hyd => HN.out y (List.mem_of_getElem? (i := m') (by rw [List.getElem?_take, if_pos hlt2]; exact hy)) ⟨hyf, by rw [hyd, HDb.out]⟩), by rw [HDz.out]; omega⟩
                have hza := belo1 wr (.cells #[.int .i64 (i : Int)] 3)
                have hbd := (Below.refl (wr.alloc (.cells #[.int .i64 (i : Int)] 3)).heap.size (wr.alloc (.cells #[.int .i64 (i : Int)] 3))).drew
                have HGa := hide ((HG.out.kept hza).kept hbd)
                have HBa := hide (HB.out.alloc HB.out.size (.cells #[.int .i64 (i : Int)] 3)).drew
                have HRa := hide ((HR.out.of_block (hza.block _ HR.out.lt)).of_block (hbd.block _ (Nat.lt_of_lt_of_le HR.out.lt hza.size)))
                have y1a := kept_cell hbd (kept_cell hza y1)
                have HYa := hide y1a
                have HOk : Hid (∀ z ∈ ((m : Int) :: W) ++ [(i : Int)], ∀ (V : World) F, elInt.ok V F z) := fun z hz V F => by
                  rcases List.mem_append.1 hz with h | h
                  · exact HG.out.2 z h
                  · rw [List.mem_singleton.1 h]; exact ⟨by omega, by omega⟩
                clear hbd hza y1a
                go_wp2
                go_region_held3 (fun w' => w'.cell? ⟨eb, off + i * 4, none⟩ = some (.int .i64 (zf : Int)) ∧ w'.cell? ⟨eb, off + i * 4 + 1, none⟩ = some (.int .i64 (zt : Int)) ∧ w'.cell? ⟨gf, zf, none⟩ = some (.int .i64 db) ∧ w'.cell? ⟨gf, zt, none⟩ = some (.int .i64 (db - 1))) (exact ⟨y0, y1, d0, d1⟩) (fail)
                go_wp2_with (at_builtin; refine wpList_pushs_keep (w0 := w) elInt rfl _ _ 33 rfl w.heap.size 3 ii _ 8 Try.underlying33 hii hz0 hz1 hz2 rfl (by decide) (.slice oa L oc) ((m : Int) :: W) rfl HGa.out [(i : Int)] 1 rfl wr.heap.size 1 rfl (fun j u hu => new_cells (w := wr) (cs := #[.int .i64 (i : Int)]) j u hu) HOk.out (by rw [HLl.out]; omega) HBa.out HBa.out.size ?_; intro v4 W4 HX4 HG4 HB4 HGr4 HOw4; have HR4 := hide (HRa.out.of_block (HGr4.out.block _ HRa.out.lt (fun e => HNe.out e.symm))); have HNe4 : Hid (v4.ownBlock ≠ some gf) := (fun e => by rcases HOw4.out with h | h; exact HNe.out (by rw [← h]; exact e); have h1 := h gf e; have h2 := HRa.out.lt; omega); have y4 := grown_cell HGr4.out HYa.out (fun e => by have h1 := own_new HGa.out.1 _ e; have h2 := HLt.out; omega); clear HG4 HGr4 HOw4)
                refine ⟨⟨zt, W ++ [(i : Int)], hztn, rfl, HX4, HNe4, HR4, HPn, HB4⟩, ?_⟩
                rw [HMu.out, farOf_at HR4.out hztn, HDz.out]
                omega
              · have HNn : Hid (∀ z ∈ es.take (i + 1), ¬ (z.f = zf ∧ D z.t.toNat = db - 1)) := fun z hz hc => by
                  rw [HTk.out] at hz
                  rcases List.mem_append.1 hz with h | h
                  · exact HN.out z h hc
                  · rw [List.mem_singleton.1 h] at hc
                    have := hc.2
                    simp only [Int.toNat_natCast] at this
                    rw [HDz.out] at this
                    exact hdd this
                have hcd : (dz == IntKind.i64.wrap (db - 1)) = false := by rw [hwr]; simpa using hdd
                go_wp2
                go_region_held3 (fun w' => w'.cell? ⟨eb, off + i * 4, none⟩ = some (.int .i64 (zf : Int)) ∧ w'.cell? ⟨eb, off + i * 4 + 1, none⟩ = some (.int .i64 (zt : Int)) ∧ w'.cell? ⟨gf, zf, none⟩ = some (.int .i64 db) ∧ w'.cell? ⟨gf, zt, none⟩ = some (.int .i64 dz)) (exact ⟨y0, y1, d0, d1⟩) (fail)
                go_wp2
                go_roundw
                case rel => exact ⟨i + 1, by omega, by go_num, rfl, rfl, HNn, HG.out.kept (Below.refl _ _).drew, HR.out.of_block rfl, HB.out.drew⟩
                case measure => simp [intOf]; omega
            · have hfb1 : ¬ (zf : Int) = (b : Int) := by omega
              have HNn : Hid (∀ z ∈ es.take (i + 1), ¬ (z.f = b ∧ D z.t.toNat = db - 1)) := fun z hz hc => by
                rw [HTk.out] at hz
                rcases List.mem_append.1 hz with h | h
                · exact HN.out z h hc
                · rw [List.mem_singleton.1 h] at hc
                  exact hfb1 hc.1
              go_wp2
              go_quiet (fail)
              go_wp2
              go_roundw
              case rel => exact ⟨i + 1, by omega, by go_num, rfl, rfl, HNn, HG.out.kept ⟨rfl, rfl, rfl, Nat.le_refl _, fun _ _ => rfl⟩, HR.out.of_block rfl, ⟨HB.out.os, HB.out.tape, HB.out.output, HB.out.size, HB.out.block⟩⟩
              case measure => simp [intOf]; omega
          · exfalso
            obtain rfl : q = i := by omega
            rw [List.take_of_length_le (by rw [HQ.out]; exact Nat.le_refl _)] at HN
            obtain ⟨u, hu, hT, h1⟩ := HAw.out.nx b hbn (by rw [HDb.out]; omega) (fun e => by have := HAw.out.zero; rw [← e, HDb.out] at this; omega)
            unfold lnkT at hT
            obtain ⟨z, hz, he⟩ := List.any_eq_true.1 hT
            unfold isE at he
            simp at he
            refine HN.out z hz ⟨he.1, ?_⟩
            rw [he.2, Int.toNat_natCast, h1, HDb.out]
end Go.Proofs.Ytjifhmlfnnagcaa

namespace Go.Proofs.Ytjifhmlfnnagcaa
set_option linter.unusedSimpArgs false
set_option linter.unusedVariables false
open Go.RowKit Go.Maps

/-- What is left to raise. -/
def gapS (n : Nat) (L : Nat → Int) : Nat → Nat
  | 0 => 0
  | k + 1 => gapS n L k + (n - (L k).toNat)
def gapW (g n : Nat) (w : World) : Nat → Nat
  | 0 => 0
  | k + 1 => gapW g n w k + (n - (intOf ((w.cell? ⟨g, k, none⟩).getD (.int .i64 0))).toNat)
theorem gapW_eq {g n : Nat} {w : World} {L : Nat → Int} (h : w.rowIs g 3 n (fun i => .int .i64 (L i))) : ∀ k, k ≤ n → gapW g n w k = gapS n L k
  | 0, _ => rfl
  | k + 1, hk => by
    rw [gapW, gapS, gapW_eq h k (by omega), h.cell (show k < n by omega)]
    rfl
theorem gapS_le {n : Nat} {L M : Nat → Int} : ∀ k, (∀ i, i < k → L i ≤ M i) → gapS n M k ≤ gapS n L k
  | 0, _ => Nat.le_refl _
  | k + 1, h => by
    have h1 := gapS_le (n := n) k fun i hi => h i (by omega)
    have h2 := h k (by omega)
    rw [gapS, gapS]
    omega
theorem gapS_lt {n t : Nat} {L M : Nat → Int} (ht : L t < M t) (h0 : 0 ≤ L t) (hm : L t < n) : ∀ k, t < k → (∀ i, i < k → L i ≤ M i) → gapS n M k < gapS n L k
  | 0, hk, _ => by omega
  | k + 1, hk, h => by
    rw [gapS, gapS]
    by_cases e : t = k
    · subst e
      have h1 := gapS_le (n := n) t fun i hi => h i (by omega)
      omega
    · have h1 := gapS_lt ht h0 hm k (by omega) fun i hi => h i (by omega)
      have h2 := h k (by omega)
      omega
def updLv (L : Nat → Int) (t : Nat) (x : Int) (i : Nat) : Int := if i = t then x else L i
/-- What an edge asks for is there. -/
def lstL (L : Nat → Int) (x : Edg) : Int := if x.neg then L x.f.toNat + 1 else L x.f.toNat
def askLe (L : Nat → Int) (x : Edg) : Prop := lstL L x ≤ L x.t.toNat
structure RInv (n : Nat) (es : List Edg) (L : Nat → Int) : Prop where
  in_ : ∀ i, i < n → 0 ≤ L i ∧ L i < n
  low : ∀ f, Sol n (lnkT es) (lnkN es) f → ∀ i, i < n → L i ≤ f i
theorem sol_asks {n : Nat} {es : List Edg} {f : Nat → Int} (h : Sol n (lnkT es) (lnkN es) f) {x : Edg} (hx : x ∈ es) {kf kt : Nat} (e1 : x.f = kf) (e2 : x.t = kt) (hf : kf < n) (ht : kt < n) : lstL f x ≤ f kt := by
  unfold lstL
  rw [e1, Int.toNat_natCast]
  cases hg : x.neg with
  | true =>
    have hN : lnkN es kf kt = true := by
      unfold lnkN
      refine List.any_eq_true.2 ⟨x, hx, ?_⟩
      unfold isE
      simp [e1, e2, hg]
    have := h.lt kf kt hf ht hN
    simpa using this
  | false =>
    have := h.le kf kt hf ht (edge_lnk hx e1 e2)
    simpa using this
theorem lstL_mono {L f : Nat → Int} {x : Edg} (h : L x.f.toNat ≤ f x.f.toNat) : lstL L x ≤ lstL f x := by
  unfold lstL
  split <;> omega
theorem RInv.low_ask {n : Nat} {es : List Edg} {L : Nat → Int} (h : RInv n es L) {x : Edg} (hx : x ∈ es) {kf kt : Nat} (e1 : x.f = kf) (e2 : x.t = kt) (hf : kf < n) (ht : kt < n) : ∀ f, Sol n (lnkT es) (lnkN es) f → lstL L x ≤ f kt := fun f hs =>
  Int.le_trans (lstL_mono (by rw [e1, Int.toNat_natCast]; exact h.low f hs kf hf)) (sol_asks hs hx e1 e2 hf ht)
theorem RInv.raise {n : Nat} {es : List Edg} {L : Nat → Int} (h : RInv n es L) {x : Edg} (hx : x ∈ es) {kf kt : Nat} (e1 : x.f = kf) (e2 : x.t = kt) (hf : kf < n) (ht : kt < n) (hlt : L kt < lstL L x) (hn : lstL L x < n) : RInv n es (updLv L kt (lstL L x)) := by
  refine ⟨fun i hi => ?_, fun f hs i hi => ?_⟩
  · unfold updLv
    split
    · have := (h.in_ kt ht).1; omega
    · exact h.in_ i hi
  · unfold updLv
    split
    · rename_i e; subst e; exact h.low_ask hx e1 e2 hf ht f hs
    · exact h.low f hs i hi
theorem RInv.least {n : Nat} {es : List Edg} {L : Nat → Int} (h : RInv n es L) (ha : ∀ x ∈ es, askLe L x) : Least n (lnkT es) (lnkN es) L := by
  refine ⟨⟨fun u hu => (h.in_ u hu).1, fun u v hu hv e => ?_, fun u v hu hv e => ?_⟩, h.low⟩
  · obtain ⟨x, hx, e1, e2⟩ := lnk_edge e
    have := ha x hx
    unfold askLe lstL at this
    rw [e1, e2, Int.toNat_natCast, Int.toNat_natCast] at this
    split at this <;> omega
  · unfold lnkN at e
    obtain ⟨x, hx, e3⟩ := List.any_eq_true.1 e
    simp only [Bool.and_eq_true] at e3
    unfold isE at e3
    simp only [Bool.and_eq_true, beq_iff_eq] at e3
    have := ha x hx
    unfold askLe lstL at this
    rw [e3.1.1, e3.1.2, e3.2, Int.toNat_natCast, Int.toNat_natCast] at this
    simpa using this

def muL (g n : Nat) (ag : Value) (w : World) : Nat := 2 * gapW g n w n + (if boolOf ag then 1 else 0)
theorem muL_eq {g n : Nat} {w : World} {L : Nat → Int} (h : w.rowIs g 3 n (fun i => .int .i64 (L i))) (b : Bool) : muL g n (.bool b) w = 2 * gapS n L n + (if b then 1 else 0) := by
  unfold muL
  rw [gapW_eq h n (Nat.le_refl _)]
  rfl
-- WALK
/-- What the document's Levels answers. -/
def levAns (w : World) (n : Nat) (es : List Edg) (e : Ending) (w' : World) : Prop :=
  (∃ t, t < n ∧ (∀ f, Sol n (lnkT es) (lnkN es) f → (n : Int) ≤ f t) ∧ e = .returned (.tuple #[.slice none 0 0, .int .i64 40])) ∨ (∃ (g : Nat) (L : Nat → Int), e = .returned (.tuple #[.slice (some ⟨g, 0, none⟩) n n, .int .i64 0]) ∧ w'.rowIs g 3 n (fun i => .int .i64 (L i)) ∧ Least n (lnkT es) (lnkN es) L ∧ (∀ p, p < n → L p < n) ∧ w.heap.size ≤ g)
set_option maxRecDepth 100000 in
set_option maxHeartbeats 4000000 in
theorem rlevels_any {w : World} {v : Value} {es : List Edg} {n : Nat} (h : Has elEdg w v es) (hfit : fitP n es = true) :
    Calls Try.prog 13 #[.int .i64 (n : Int), v] w fun e w' => levAns w n es e w' ∧ Below w.heap.size w w' := by
  have hn : n ≤ 128 := by have := (fit_in8 hfit).1; omega
  have hmk := fun W : World => run_make_row' (P := Try.prog) 33 3 (.int .i64 0) 8 Try.underlying33 Try.infoInt8 rfl .i64 .i64 n (by omega) (by omega) W
  obtain ⟨va, vc, rfl, -, -, hlen⟩ := h.shape
  have HN := hide (fit_in8 hfit).2
  have HF := hide (rfit_any h n)
  rw [hfit] at HF
  have HL := hide h
  clear h hfit
  go_enter Try.func13, Try.ntmps13
  go_wp2_with (go_at_call 20; refine HF.out.mono ?_; rintro e W1 ⟨rfl, h1⟩; have HB1 := hide h1; clear h1)
  have HR0 : Hid ((W1.alloc (.cells (madeCells #[.int .i64 0] n) 3)).rowIs W1.heap.size 3 n (fun i => .int .i64 ((fun _ => 0 : Nat → Int) i))) := World.rowIs_made W1 (.int .i64 0) n 3
  have HB0 := hide (HB1.out.alloc HB1.out.size (.cells (madeCells #[.int .i64 0] n) 3))
  have HBg : Hid (w.heap.size ≤ W1.heap.size) := HB1.out.size
  have HI0 : Hid (RInv n es (fun _ => 0)) := ⟨fun i hi => ⟨Int.le_refl _, by show (0 : Int) < (n : Int); omega⟩, fun f hs i hi => hs.nn i hi⟩
  clear HF HB1 hmk
  go_loopw [7] (fun ag wl => ∃ (L : Nat → Int) (b : Bool), ag = .bool b ∧ Hid (wl.rowIs W1.heap.size 3 n (fun i => .int .i64 (L i))) ∧ Hid (RInv n es L ∧ (b = false → ∀ x ∈ es, askLe L x)) ∧ Hid (Below w.heap.size w wl)) (fun ag wl => muL W1.heap.size n ag wl)
  case atStart => exact ⟨fun _ => 0, true, rfl, HR0, ⟨HI0.out, fun h => by cases h⟩, HB0⟩
  case round =>
    clear HR0 HB0 HI0
    obtain ⟨L0, b0, rfl, HR0, HI0, HB0⟩ := hrel
    cases b0 with
    | false =>
      have HA := hide (HI0.out.1.least (HI0.out.2 rfl))
      have HAi := hide (fun p hp => (HI0.out.1.in_ p hp).2)
      go_wp2
      exact bodyPost_ret (v := .tuple #[.slice (some ⟨W1.heap.size, 0, none⟩) n n, .int .i64 0]) (by simp [results, Try.results13, go_sem]) rfl ⟨.inr ⟨_, L0, rfl, HR0.out, HA.out, HAi.out, HBg.out⟩, HB0.out⟩
    | true =>
      obtain ⟨N0, hN0⟩ : ∃ N0, gapS n L0 n = N0 := ⟨_, rfl⟩
      go_wp2
      have HMu : Hid (muL W1.heap.size n (.bool true) wr = 2 * N0 + 1) := by show _ = _; rw [muL_eq HR0.out, hN0]; rfl
      have HInv0 : Hid (RInv n es L0 ∧ (false = false → ∀ x ∈ es.take 0, askLe L0 x) ∧ (false = true → gapS n L0 n < N0) ∧ (false = false → gapS n L0 n ≤ N0)) := ⟨HI0.out.1, (fun _ x hx => by simp at hx), (fun h => by cases h), fun _ => by omega⟩
      clear hN0
      go_loopw [7, 8, 9] (fun ag y _ wl => ∃ (i : Nat) (L : Nat → Int) (b : Bool), i ≤ es.length ∧ y = .int .i64 (i : Int) ∧ ag = .bool b ∧ Hid (wl.rowIs W1.heap.size 3 n (fun i => .int .i64 (L i))) ∧ Hid (RInv n es L ∧ (b = false → ∀ x ∈ es.take i, askLe L x) ∧ (b = true → gapS n L n < N0) ∧ (b = false → gapS n L n ≤ N0)) ∧ Hid (Below w.heap.size w wl)) (fun _ y _ _ => es.length - (intOf y).toNat)
      case atStart => exact ⟨0, L0, false, by omega, rfl, rfl, HR0, HInv0, HB0⟩
      case round =>
        clear HR0 HI0 HB0 HInv0
        obtain ⟨i, L, ag, hil, rfl, rfl, HR, HInv, HB⟩ := hrel
        by_cases hlt2 : i < es.length
        · have hi1 : (i : Int) < (es.length : Int) := by omega
          have hi0 : (0 : Int) ≤ (i : Int) := by omega
          obtain ⟨b, off, rfl, -, -, hrow⟩ := HL.out.row (by omega)
          obtain ⟨x, hx⟩ : ∃ x, es[i]? = some x := ⟨_, List.getElem?_eq_getElem hlt2⟩
          have y0 := kept_cell HB.out (hrow i x hx 0 _ rfl)
          have y1 := kept_cell HB.out (hrow i x hx 1 _ rfl)
          have y2 := kept_cell HB.out (hrow i x hx 2 _ rfl)
          have y1n := hide (hrow i x hx 1 _ rfl)
          simp only [elEdg, Nat.add_zero] at y0 y1 y2 y1n
          obtain ⟨q1, q2, q3, q4⟩ := HN.out x (List.mem_of_getElem? hx)
          have HSnoc := hide (take_snoc8 hx)
          have HXm := hide (List.mem_of_getElem? hx)
          clear hrow hx
          obtain ⟨f, t, neg, r⟩ := x
          obtain ⟨kf, rfl⟩ : ∃ kf : Nat, f = kf := ⟨f.toNat, by dsimp only at q1; omega⟩
          obtain ⟨kt, rfl⟩ : ∃ kt : Nat, t = kt := ⟨t.toNat, by dsimp only at q3; omega⟩
          dsimp only at q1 q2 q3 q4 y0 y1 y2
          have hfk : kf < n := by omega
          have htk : kt < n := by omega
          have l0 := HR.out.cell hfk
          have l1 := HR.out.cell htk
          have l1f := HR.out.frozen kt
          have hbf := HInv.out.1.in_ kf hfk
          obtain ⟨xf, hxf⟩ : ∃ x, L kf = x := ⟨_, rfl⟩
          obtain ⟨xt, hxt⟩ : ∃ x, L kt = x := ⟨_, rfl⟩
          rw [hxf] at l0 hbf
          rw [hxt] at l1
          have hbf1 := hbf.1
          have hbf2 := hbf.2
          have HVals : Hid (L kf = xf ∧ L kt = xt) := ⟨hxf, hxt⟩
          clear hxf hxt hbf q1 q2 q3 q4
          cases neg with
          | true =>
            have HLs : Hid (lstL L ⟨kf, kt, true, r⟩ = xf + 1) := by show _ = _; unfold lstL; simp only [Int.toNat_natCast]; rw [HVals.out.1]; rfl
            have HLw : Hid (∀ f, Sol n (lnkT es) (lnkN es) f → xf + 1 ≤ f kt) := fun f hs => by rw [← HLs.out]; exact HInv.out.1.low_ask HXm.out rfl rfl hfk htk f hs
            by_cases hq : xt < xf + 1
            · have HRn : Hid ((wr.setCell ⟨W1.heap.size, kt, none⟩ (.int .i64 (xf + 1))).rowIs W1.heap.size 3 n (fun i => .int .i64 (updLv L kt (xf + 1) i))) := by
                refine (HR.out.set kt _).congr fun i _ => ?_
                unfold updLv
                split <;> simp_all
              have HBn : Hid (Below w.heap.size w (wr.setCell ⟨W1.heap.size, kt, none⟩ (.int .i64 (xf + 1)))) := HB.out.setCell HBg.out _
              by_cases hz : (n : Int) ≤ xf + 1
              · have HBad : Hid (∃ t, t < n ∧ ∀ f, Sol n (lnkT es) (lnkN es) f → (n : Int) ≤ f t) := ⟨kt, htk, fun f hs => Int.le_trans hz (HLw.out f hs)⟩
                go_wp2
                obtain ⟨t, ht, hf⟩ := HBad.out
                exact bodyPost_ret (v := .tuple #[.slice none 0 0, .int .i64 40]) (by simp [results, Try.results13, go_sem]) rfl ⟨.inl ⟨t, ht, hf, rfl⟩, HBn.out⟩
              · have HInv2 : Hid (RInv n es (updLv L kt (xf + 1)) ∧ (true = false → ∀ x ∈ es.take (i + 1), askLe (updLv L kt (xf + 1)) x) ∧ (true = true → gapS n (updLv L kt (xf + 1)) n < N0) ∧ (true = false → gapS n (updLv L kt (xf + 1)) n ≤ N0)) := by
                  have hin := HInv.out.1.in_ kt htk
                  have h1 : gapS n (updLv L kt (xf + 1)) n < gapS n L n := gapS_lt (t := kt) (by unfold updLv; rw [if_pos rfl, HVals.out.2]; exact hq) hin.1 hin.2 n htk fun j hj => by
                    unfold updLv
                    split
                    · rename_i e; rw [e, HVals.out.2]; omega
                    · exact Int.le_refl _
                  refine ⟨?_, (fun h => by cases h), fun _ => ?_, (fun h => by cases h)⟩
                  · rw [← HLs.out]; exact HInv.out.1.raise HXm.out rfl rfl hfk htk (by rw [HLs.out, HVals.out.2]; exact hq) (by rw [HLs.out]; omega)
                  · cases hag : ag with
                    | true => have := HInv.out.2.2.1 hag; omega
                    | false => have := HInv.out.2.2.2 hag; omega
                go_wp2
                go_roundw
                case rel => exact ⟨i + 1, updLv L kt (xf + 1), true, by omega, by go_num, rfl, HRn, HInv2, HBn⟩
                case measure => simp [intOf]; omega
            · have hz : ¬ (n : Int) ≤ xf + 1 := by have := (HInv.out.1.in_ kt htk).2; rw [HVals.out.2] at this; omega
              have HInv2 : Hid (RInv n es L ∧ (ag = false → ∀ x ∈ es.take (i + 1), askLe L x) ∧ (ag = true → gapS n L n < N0) ∧ (ag = false → gapS n L n ≤ N0)) := ⟨HInv.out.1, fun hag x hx => by
                rw [HSnoc.out] at hx
                rcases List.mem_append.1 hx with h4 | h4
                · exact HInv.out.2.1 hag x h4
                · simp only [List.mem_singleton] at h4
                  subst h4
                  unfold askLe
                  rw [HLs.out]
                  simp only [Int.toNat_natCast]
                  rw [HVals.out.2]
                  omega, HInv.out.2.2⟩
              go_wp2
              go_roundw
              case rel => exact ⟨i + 1, L, ag, by omega, by go_num, rfl, HR, HInv2, HB⟩
              case measure => simp [intOf]; omega
          | false =>
            have HLs : Hid (lstL L ⟨kf, kt, false, r⟩ = xf) := by show _ = _; unfold lstL; simp only [Int.toNat_natCast]; rw [HVals.out.1]; simp
            have HLw : Hid (∀ f, Sol n (lnkT es) (lnkN es) f → xf ≤ f kt) := fun f hs => by rw [← HLs.out]; exact HInv.out.1.low_ask HXm.out rfl rfl hfk htk f hs
            by_cases hq : xt < xf
            · have HRn : Hid ((wr.setCell ⟨W1.heap.size, kt, none⟩ (.int .i64 (xf))).rowIs W1.heap.size 3 n (fun i => .int .i64 (updLv L kt (xf) i))) := by
                refine (HR.out.set kt _).congr fun i _ => ?_
                unfold updLv
                split <;> simp_all
              have HBn : Hid (Below w.heap.size w (wr.setCell ⟨W1.heap.size, kt, none⟩ (.int .i64 (xf)))) := HB.out.setCell HBg.out _
              by_cases hz : (n : Int) ≤ xf
              · exact absurd hz (by omega)
              · have HInv2 : Hid (RInv n es (updLv L kt (xf)) ∧ (true = false → ∀ x ∈ es.take (i + 1), askLe (updLv L kt (xf)) x) ∧ (true = true → gapS n (updLv L kt (xf)) n < N0) ∧ (true = false → gapS n (updLv L kt (xf)) n ≤ N0)) := by
                  have hin := HInv.out.1.in_ kt htk
                  have h1 : gapS n (updLv L kt (xf)) n < gapS n L n := gapS_lt (t := kt) (by unfold updLv; rw [if_pos rfl, HVals.out.2]; exact hq) hin.1 hin.2 n htk fun j hj => by
                    unfold updLv
                    split
                    · rename_i e; rw [e, HVals.out.2]; omega
                    · exact Int.le_refl _
                  refine ⟨?_, (fun h => by cases h), fun _ => ?_, (fun h => by cases h)⟩
                  · rw [← HLs.out]; exact HInv.out.1.raise HXm.out rfl rfl hfk htk (by rw [HLs.out, HVals.out.2]; exact hq) (by rw [HLs.out]; omega)
                  · cases hag : ag with
                    | true => have := HInv.out.2.2.1 hag; omega
                    | false => have := HInv.out.2.2.2 hag; omega
                go_wp2
                go_roundw
                case rel => exact ⟨i + 1, updLv L kt (xf), true, by omega, by go_num, rfl, HRn, HInv2, HBn⟩
                case measure => simp [intOf]; omega
            · have hz : ¬ (n : Int) ≤ xf := by have := (HInv.out.1.in_ kt htk).2; rw [HVals.out.2] at this; omega
              have HInv2 : Hid (RInv n es L ∧ (ag = false → ∀ x ∈ es.take (i + 1), askLe L x) ∧ (ag = true → gapS n L n < N0) ∧ (ag = false → gapS n L n ≤ N0)) := ⟨HInv.out.1, fun hag x hx => by
                rw [HSnoc.out] at hx
                rcases List.mem_append.1 hx with h4 | h4
                · exact HInv.out.2.1 hag x h4
                · simp only [List.mem_singleton] at h4
                  subst h4
                  unfold askLe
                  rw [HLs.out]
                  simp only [Int.toNat_natCast]
                  rw [HVals.out.2]
                  omega, HInv.out.2.2⟩
              go_wp2
              go_roundw
              case rel => exact ⟨i + 1, L, ag, by omega, by go_num, rfl, HR, HInv2, HB⟩
              case measure => simp [intOf]; omega
        · obtain rfl : i = es.length := by omega
          have hi1 : ¬ (es.length : Int) < (es.length : Int) := by omega
          have HIv := HInv.out
          rw [List.take_of_length_le (Nat.le_refl _)] at HIv
          have HI2 := hide HIv
          clear HIv
          go_wp2
          go_roundw
          case rel => exact ⟨L, ag, rfl, HR, ⟨HI2.out.1, HI2.out.2.1⟩, HB⟩
          case measure =>
            rw [HMu.out, muL_eq HR.out]
            cases ag with
            | true => have := HI2.out.2.2.1 rfl; simp; omega
            | false => have := HI2.out.2.2.2 rfl; simp; omega
end Go.Proofs.Ytjifhmlfnnagcaa

namespace Go.Proofs.Ytjifhmlfnnagcaa
set_option linter.unusedSimpArgs false
set_option linter.unusedVariables false
open Go.RowKit Go.Maps

def turnE (x : Edg) : Edg := ⟨x.t, x.f, !x.neg, x.r⟩
theorem Grow.front {α : Type} {E : El α} {e : TypeId} {base : Nat} {w : World} {g cap n : Nat} {l m : List α} (h : Grow E e base w (.slice (some ⟨g, 0, none⟩) n cap) (l ++ m)) : Grow E e base w (.slice (some ⟨g, 0, none⟩) l.length cap) l := by
  have hn := grow_num h
  subst hn
  refine ⟨⟨flatE_len E l, ?_⟩, fun x hx => h.2 x (List.mem_append.2 (.inl hx))⟩
  rcases h.1.2 with ⟨h4, _⟩ | ⟨g', cap', cur', h4, h5, h6, h7, h8, h9, h10⟩
  · cases h4
  · simp only [Value.slice.injEq, Option.some.injEq, Addr.mk.injEq, and_true, true_and] at h4
    obtain ⟨rfl, rfl⟩ := h4
    rw [List.length_append] at h7 h10
    refine .inr ⟨g, cap, cur', rfl, h5, h6, by omega, h8, h9, ?_⟩
    have h11 := congrArg (List.take (l.length * E.size)) h10
    rw [List.take_take, Nat.min_eq_left (Nat.mul_le_mul_right _ (by omega)), List.flatMap_append, List.take_left' (flatE_len E l)] at h11
    exact h11
theorem turns_succ {l : List Edg} {i : Nat} {x : Edg} (hx : l[i]? = some x) : ((l.take i).map turnE ++ l.drop i).set i (turnE x) = (l.take (i + 1)).map turnE ++ l.drop (i + 1) := by
  have hi := (List.getElem?_eq_some_iff.1 hx).1
  have hlen : ((l.take i).map turnE).length = i := by rw [List.length_map, List.length_take]; omega
  rw [List.set_append_right _ _ (by omega), hlen, Nat.sub_self, take_snoc8 hx, List.drop_eq_getElem_cons hi, List.set_cons_zero]
  simp
theorem turns_at {l : List Edg} {i : Nat} {x : Edg} (hx : l[i]? = some x) : ((l.take i).map turnE ++ l.drop i)[i]? = some x := by
  have hi := (List.getElem?_eq_some_iff.1 hx).1
  have hlen : ((l.take i).map turnE).length = i := by rw [List.length_map, List.length_take]; omega
  rw [List.getElem?_append_right (by omega), hlen, Nat.sub_self, List.getElem?_drop, Nat.add_zero, hx]

set_option maxRecDepth 100000 in
set_option maxHeartbeats 2000000 in
theorem turn_any {base : Nat} {w : World} {v : Value} {l : List Edg} (h : Grow elEdg 25 base w v l) (hl : l.length ≤ 1048576) :
    Calls Try.prog 12 #[v] w fun e w' => e = .returned (.tuple #[]) ∧ Grow elEdg 25 base w' v (l.map turnE) ∧ Below base w w' := by
  obtain ⟨a1, c1, hv1, -, -⟩ := h.shape
  obtain ⟨n, hn⟩ : ∃ n, l.length = n := ⟨_, rfl⟩
  rw [hn] at hv1 hl
  subst hv1
  have HN := hide hn
  have HG := hide h
  clear h hn
  go_enter Try.func12, Try.ntmps12
  go_wp2
  go_loopw [2] (fun y wl => ∃ i : Nat, i ≤ n ∧ y = .int .i64 i ∧ Hid (Grow elEdg 25 base wl (.slice a1 n c1) ((l.take i).map turnE ++ l.drop i)) ∧ Hid (Below base w wl)) (fun y _ => n - (intOf y).toNat)
  case atStart => exact ⟨0, by omega, rfl, by rw [List.take_zero, List.map_nil, List.drop_zero, List.nil_append]; exact HG, Below.refl _ _⟩
  case round =>
    clear HG
    obtain ⟨i, hi, rfl, HG, HB⟩ := hrel
    have HLn : Hid (((l.take i).map turnE ++ l.drop i).length = n) := by show _ = _; rw [List.length_append, List.length_map, List.length_take, List.length_drop, HN.out]; omega
    by_cases hlt : i < n
    · have hi1 : (i : Int) < (n : Int) := by omega
      have hi0 : (0 : Int) ≤ (i : Int) := by omega
      obtain ⟨x, hx⟩ : ∃ x, l[i]? = some x := ⟨_, List.getElem?_eq_getElem (by rw [HN.out]; exact hlt)⟩
      obtain ⟨g, cap, hgv, hbg, -⟩ := HG.out.1.form (by rw [HLn.out]; omega)
      rw [HLn.out] at hgv
      cases hgv
      obtain ⟨⟨y0, y1, y2, y3⟩, hf⟩ := edg_at HG.out (turns_at hx)
      have f0 := hf (i * 4)
      have f1 := hf (i * 4 + 1)
      have f2 := hf (i * 4 + 2)
      have f3 := hf (i * 4 + 3)
      have hok : I64 x.f ∧ I64 x.t ∧ I64 x.r := HG.out.2 x (List.mem_of_getElem? (turns_at hx))
      obtain ⟨hs, -⟩ := HG.out.setEdg i (y := turnE x) ⟨hok.2.1, hok.1, hok.2.2⟩
      rw [turns_succ hx] at hs
      have HS := hide hs
      have HBg := hide hbg
      clear hs hx hf hbg hok
      go_upto_region 3 with fail
      refine wp_region_last (by kernel_rfl) (fun V => V.cell? ⟨g, i * 4, none⟩ = some (.int .i64 x.f) ∧ V.cell? ⟨g, i * 4 + 1, none⟩ = some (.int .i64 x.t) ∧ V.cell? ⟨g, i * 4 + 2, none⟩ = some (.bool x.neg) ∧ V.cell? ⟨g, i * 4 + 3, none⟩ = some (.int .i64 x.r)) 25 ?_
      have HS1 : wr.drew.cell? ⟨g, i * 4, none⟩ = some (.int .i64 x.f) ∧ wr.drew.cell? ⟨g, i * 4 + 1, none⟩ = some (.int .i64 x.t) ∧ wr.drew.cell? ⟨g, i * 4 + 2, none⟩ = some (.bool x.neg) ∧ wr.drew.cell? ⟨g, i * 4 + 3, none⟩ = some (.int .i64 x.r) := ⟨y0, y1, y2, y3⟩
      refine wpAnyM_take (i := 0) (v := ?_) rfl (by kernel_rfl) (by kernel_rfl) (by kernel_rfl) (by kernel_rfl) (fun _ _ _ h => h) HS1 (Or.inl ⟨by rfl, ?_⟩) ?_
      rotate_left
      · (intro w hSw; (try dsimp only at hSw); go_simp; try with_reducible rfl)
      simp only [Act.put, List.setIfInBounds_toArray, List.set_cons_zero, List.set_cons_succ]
      refine wpAnyM_take (i := 1) (v := ?_) rfl (by kernel_rfl) (by kernel_rfl) (by kernel_rfl) (by kernel_rfl) (fun _ _ _ h => h) HS1 (Or.inl ⟨by rfl, ?_⟩) ?_
      rotate_left
      · (intro w hSw; (try dsimp only at hSw); go_simp; try with_reducible rfl)
      simp only [Act.put, List.setIfInBounds_toArray, List.set_cons_zero, List.set_cons_succ]
      refine wpAnyM_take (i := 2) (v := ?_) rfl (by kernel_rfl) (by kernel_rfl) (by kernel_rfl) (by kernel_rfl) (fun _ _ _ h => h) HS1 (Or.inl ⟨by rfl, ?_⟩) ?_
      rotate_left
      · (intro w hSw; (try dsimp only at hSw); go_simp; try with_reducible rfl)
      simp only [Act.put, List.setIfInBounds_toArray, List.set_cons_zero, List.set_cons_succ]
      refine wpAnyM_take (i := 3) (v := ?_) rfl (by kernel_rfl) (by kernel_rfl) (by kernel_rfl) (by kernel_rfl) (fun _ _ _ h => h) HS1 (Or.inl ⟨by rfl, ?_⟩) ?_
      rotate_left
      · (intro w hSw; (try dsimp only at hSw); go_simp; try with_reducible rfl)
      simp only [Act.put, List.setIfInBounds_toArray, List.set_cons_zero, List.set_cons_succ]
      refine wpAnyM_take (i := 4) (v := ?_) rfl (by kernel_rfl) (by kernel_rfl) (by kernel_rfl) (by kernel_rfl) (fun _ _ _ h => h) HS1 (Or.inl ⟨by rfl, ?_⟩) ?_
      rotate_left
      · (intro w hSw; (try dsimp only at hSw); go_simp; try with_reducible rfl)
      simp only [Act.put, List.setIfInBounds_toArray, List.set_cons_zero, List.set_cons_succ]
      refine wpAnyM_take (i := 5) (v := ?_) rfl (by kernel_rfl) (by kernel_rfl) (by kernel_rfl) (by kernel_rfl) (fun _ _ _ h => h) HS1 (Or.inl ⟨by rfl, ?_⟩) ?_
      rotate_left
      · (intro w hSw; (try dsimp only at hSw); go_simp; try with_reducible rfl)
      simp only [Act.put, List.setIfInBounds_toArray, List.set_cons_zero, List.set_cons_succ]
      refine wpAnyM_take (i := 6) (v := ?_) rfl (by kernel_rfl) (by kernel_rfl) (by kernel_rfl) (by kernel_rfl) (fun _ _ _ h => h) HS1 (Or.inl ⟨by rfl, ?_⟩) ?_
      rotate_left
      · (intro w hSw; (try dsimp only at hSw); go_simp; try with_reducible rfl)
      simp only [Act.put, List.setIfInBounds_toArray, List.set_cons_zero, List.set_cons_succ]
      refine wpAnyM_take (i := 7) (v := ?_) rfl (by kernel_rfl) (by kernel_rfl) (by kernel_rfl) (by kernel_rfl) (fun _ _ _ h => h) HS1 (Or.inl ⟨by rfl, ?_⟩) ?_
      rotate_left
      · (intro w hSw; (try dsimp only at hSw); go_simp; try with_reducible rfl)
      simp only [Act.put, List.setIfInBounds_toArray, List.set_cons_zero, List.set_cons_succ]
      refine wpAnyM_take (i := 8) (v := ?_) rfl (by kernel_rfl) (by kernel_rfl) (by kernel_rfl) (by kernel_rfl) (fun _ _ _ h => h) HS1 (Or.inl ⟨by rfl, ?_⟩) ?_
      rotate_left
      · (intro w hSw; (try dsimp only at hSw); go_simp; try with_reducible rfl)
      simp only [Act.put, List.setIfInBounds_toArray, List.set_cons_zero, List.set_cons_succ]
      refine wpAnyM_take (i := 9) (v := ?_) rfl (by kernel_rfl) (by kernel_rfl) (by kernel_rfl) (by kernel_rfl) (fun _ _ _ h => h) HS1 (Or.inl ⟨by rfl, ?_⟩) ?_
      rotate_left
      · (intro w hSw; (try dsimp only at hSw); go_simp; try with_reducible rfl)
      simp only [Act.put, List.setIfInBounds_toArray, List.set_cons_zero, List.set_cons_succ]
      refine wpAnyM_take (i := 10) (v := ?_) rfl (by kernel_rfl) (by kernel_rfl) (by kernel_rfl) (by kernel_rfl) (fun _ _ _ h => h) HS1 (Or.inl ⟨by rfl, ?_⟩) ?_
      rotate_left
      · (intro w hSw; (try dsimp only at hSw); go_simp; try with_reducible rfl)
      simp only [Act.put, List.setIfInBounds_toArray, List.set_cons_zero, List.set_cons_succ]
      refine wpAnyM_take (i := 11) (v := ?_) rfl (by kernel_rfl) (by kernel_rfl) (by kernel_rfl) (by kernel_rfl) (fun _ _ _ h => h) HS1 (Or.inl ⟨by rfl, ?_⟩) ?_
      rotate_left
      · (intro w hSw; (try dsimp only at hSw); go_simp; try with_reducible rfl)
      simp only [Act.put, List.setIfInBounds_toArray, List.set_cons_zero, List.set_cons_succ]
      refine wpAnyM_take (i := 12) (v := ?_) rfl (by kernel_rfl) (by kernel_rfl) (by kernel_rfl) (by kernel_rfl) (fun _ _ _ h => h) HS1 (Or.inl ⟨by rfl, ?_⟩) ?_
      rotate_left
      · (intro w hSw; (try dsimp only at hSw); go_simp; try with_reducible rfl)
      simp only [Act.put, List.setIfInBounds_toArray, List.set_cons_zero, List.set_cons_succ]
      refine wpAnyM_take (i := 13) (v := ?_) rfl (by kernel_rfl) (by kernel_rfl) (by kernel_rfl) (by kernel_rfl) (fun _ _ _ h => h) HS1 (Or.inl ⟨by rfl, ?_⟩) ?_
      rotate_left
      · (intro w hSw; (try dsimp only at hSw); go_simp; try with_reducible rfl)
      simp only [Act.put, List.setIfInBounds_toArray, List.set_cons_zero, List.set_cons_succ]
      refine wpAnyM_take (i := 14) (v := ?_) rfl (by kernel_rfl) (by kernel_rfl) (by kernel_rfl) (by kernel_rfl) (fun _ _ _ h => h) HS1 (Or.inl ⟨by rfl, ?_⟩) ?_
      rotate_left
      · (intro w hSw; (try dsimp only at hSw); go_simp; try with_reducible rfl)
      simp only [Act.put, List.setIfInBounds_toArray, List.set_cons_zero, List.set_cons_succ]
      refine wpAnyM_take (i := 15) (v := ?_) rfl (by kernel_rfl) (by kernel_rfl) (by kernel_rfl) (by kernel_rfl) (fun _ _ _ h => h) HS1 (Or.inl ⟨by rfl, ?_⟩) ?_
      rotate_left
      · (intro w hSw; (try dsimp only at hSw); go_simp; try with_reducible rfl)
      simp only [Act.put, List.setIfInBounds_toArray, List.set_cons_zero, List.set_cons_succ]
      refine wpAnyM_take (i := 16) (v := ?_) rfl (by kernel_rfl) (by kernel_rfl) (by kernel_rfl) (by kernel_rfl) (fun _ _ _ h => h) HS1 (Or.inl ⟨by rfl, ?_⟩) ?_
      rotate_left
      · (intro w hSw; (try dsimp only at hSw); go_simp; try with_reducible rfl)
      simp only [Act.put, List.setIfInBounds_toArray, List.set_cons_zero, List.set_cons_succ]
      refine wpAnyM_take (i := 17) (v := ?_) rfl (by kernel_rfl) (by kernel_rfl) (by kernel_rfl) (by kernel_rfl) (fun _ _ _ h => h) HS1 (Or.inl ⟨by rfl, ?_⟩) ?_
      rotate_left
      · (intro w hSw; (try dsimp only at hSw); go_simp; try with_reducible rfl)
      simp only [Act.put, List.setIfInBounds_toArray, List.set_cons_zero, List.set_cons_succ]
      refine wpAnyM_take (i := 18) (v := ?_) rfl (by kernel_rfl) (by kernel_rfl) (by kernel_rfl) (by kernel_rfl) (fun _ _ _ h => h) HS1 (Or.inl ⟨by rfl, ?_⟩) ?_
      rotate_left
      · (intro w hSw; (try dsimp only at hSw); go_simp; try with_reducible rfl)
      simp only [Act.put, List.setIfInBounds_toArray, List.set_cons_zero, List.set_cons_succ]
      refine wpAnyM_take (i := 19) (v := ?_) rfl (by kernel_rfl) (by kernel_rfl) (by kernel_rfl) (by kernel_rfl) (fun _ _ _ h => h) HS1 (Or.inl ⟨by rfl, ?_⟩) ?_
      rotate_left
      · (intro w hSw; (try dsimp only at hSw); go_simp; try with_reducible rfl)
      simp only [Act.put, List.setIfInBounds_toArray, List.set_cons_zero, List.set_cons_succ]
      refine wpAnyM_take (i := 20) (v := ?_) rfl (by kernel_rfl) (by kernel_rfl) (by kernel_rfl) (by kernel_rfl) (fun _ _ _ h => h) HS1 (Or.inl ⟨by rfl, ?_⟩) ?_
      rotate_left
      · (intro w hSw; (try dsimp only at hSw); go_simp; try with_reducible rfl)
      simp only [Act.put, List.setIfInBounds_toArray, List.set_cons_zero, List.set_cons_succ]
      refine wpAnyM_take (i := 21) (v := ?_) rfl (by kernel_rfl) (by kernel_rfl) (by kernel_rfl) (by kernel_rfl) (fun _ _ _ h => h) HS1 (Or.inl ⟨by rfl, ?_⟩) ?_
      rotate_left
      · (intro w hSw; (try dsimp only at hSw); go_simp; try with_reducible rfl)
      simp only [Act.put, List.setIfInBounds_toArray, List.set_cons_zero, List.set_cons_succ]
      refine wpAnyM_take (i := 22) (v := ?_) rfl (by kernel_rfl) (by kernel_rfl) (by kernel_rfl) (by kernel_rfl) (fun _ _ _ h => h) HS1 (Or.inl ⟨by rfl, ?_⟩) ?_
      rotate_left
      · (intro w hSw; (try dsimp only at hSw); go_simp; try with_reducible rfl)
      simp only [Act.put, List.setIfInBounds_toArray, List.set_cons_zero, List.set_cons_succ]
      refine wpAnyM_take (i := 23) (v := ?_) rfl (by kernel_rfl) (by kernel_rfl) (by kernel_rfl) (by kernel_rfl) (fun _ _ _ h => h) HS1 (Or.inl ⟨by rfl, ?_⟩) ?_
      rotate_left
      · (intro w hSw; (try dsimp only at hSw); go_simp; try with_reducible rfl)
      simp only [Act.put, List.setIfInBounds_toArray, List.set_cons_zero, List.set_cons_succ]
      refine wpAnyM_take (i := 24) (v := ?_) rfl (by kernel_rfl) (by kernel_rfl) (by kernel_rfl) (by kernel_rfl) (fun _ _ _ h => h) HS1 (Or.inl ⟨by rfl, ?_⟩) ?_
      rotate_left
      · (intro w hSw; (try dsimp only at hSw); go_simp; try with_reducible rfl)
      simp only [Act.put, List.setIfInBounds_toArray, List.set_cons_zero, List.set_cons_succ]
      refine wpAnyM_end (by kernel_rfl) rfl (by kernel_rfl) (fun K hK => ?_)
      go_simp
      refine hK.out _ _ ?_
      clear hK K
      go_wp2
      go_roundw
      case rel => exact ⟨i + 1, by omega, by go_num, HS, (((HB.out.drew.setCell HBg.out _).setCell HBg.out _).setCell HBg.out _).setCell HBg.out _⟩
      case measure => simp [intOf]; omega
    · obtain rfl : n = i := by omega
      have hi1 : ¬ (n : Int) < (n : Int) := by omega
      have HG2 : Hid (Grow elEdg 25 base wr (.slice a1 n c1) (l.map turnE)) := by
        have := HG.out
        rw [List.take_of_length_le (by rw [HN.out]; exact Nat.le_refl _), List.drop_eq_nil_of_le (by rw [HN.out]; exact Nat.le_refl _), List.append_nil] at this
        exact this
      go_wp2
      go_end0
      exact ⟨rfl, HG2.out, HB.out⟩
end Go.Proofs.Ytjifhmlfnnagcaa

namespace Go.Proofs.Ytjifhmlfnnagcaa
set_option linter.unusedSimpArgs false
set_option linter.unusedVariables false
open Go.RowKit Go.Maps

theorem row_grow {w : World} {g n base : Nat} {X : Nat → Int} (h : w.rowIs g 3 n (fun i => .int .i64 (X i))) (hX : ∀ i, i < n → I64 (X i)) (hn : n ≤ 128) (hg : base ≤ g) : Grow elInt 3 base w (.slice (some ⟨g, 0, none⟩) n n) ((List.range n).map X) := by
  obtain ⟨c, h1, h2, h3⟩ := h
  have hf : ∀ m : List Int, m.flatMap elInt.cells = m.map (Value.int .i64) := fun m => by
    induction m with
    | nil => rfl
    | cons a r ih => rw [List.flatMap_cons, ih]; rfl
  refine Grow.of_own (n := n) (by simp) ⟨by rw [hf]; simp [elInt], .inr ⟨g, n, c, rfl, hg, h1, Nat.le_refl _, by unfold maxLen; omega, by rw [h2]; simp [elInt], ?_⟩⟩ ?_
  · rw [hf]
    apply List.ext_getElem?
    intro i
    rcases Nat.lt_or_ge i n with hi | hi
    · rw [List.getElem?_take_of_lt (by simp [elInt]; exact hi), Array.getElem?_toList, h3 i hi, List.getElem?_map, List.getElem?_map, List.getElem?_range hi]
      rfl
    · rw [List.getElem?_eq_none (by simp [elInt]; omega), List.getElem?_eq_none (by simp; omega)]
  · intro x hx V F
    obtain ⟨u, hu, rfl⟩ := List.mem_map.1 hx
    exact hX u (List.mem_range.1 hu)

/-- What strata.Levels answers. -/
def LevIs (n : Int) (es : List Edg) (er : Int) (L : List Int) : Prop :=
  (fitP n es = false ∧ er = 2 ∧ L = []) ∨ (fitP n es = true ∧ HasBad n.toNat es ∧ er = 40 ∧ L = []) ∨ (fitP n es = true ∧ er = 0 ∧ ∃ X, Least n.toNat (lnkT es) (lnkN es) X ∧ L = (List.range n.toNat).map X)
/-- What the document's Levels answers. -/
def RLv (n : Int) (es : List Edg) (er : Int) (L : List Int) : Prop :=
  (fitP n es = false ∧ er = 2 ∧ L = []) ∨ (fitP n es = true ∧ er = 40 ∧ L = [] ∧ ∃ t, t < n.toNat ∧ ∀ f, Sol n.toNat (lnkT es) (lnkN es) f → (n.toNat : Int) ≤ f t) ∨ (fitP n es = true ∧ er = 0 ∧ ∃ X, Least n.toNat (lnkT es) (lnkN es) X ∧ L = (List.range n.toNat).map X)

theorem bad_sol {n : Nat} {es : List Edg} {X : Nat → Int} (hin : ∀ x ∈ es, 0 ≤ x.f ∧ x.f < n ∧ 0 ≤ x.t ∧ x.t < n) (hb : HasBad n es) (hX : Sol n (lnkT es) (lnkN es) X) : False := by
  obtain ⟨x, hx, hn, hm⟩ := hb
  obtain ⟨q1, q2, q3, q4⟩ := hin x hx
  have hl : lnkN es x.f.toNat x.t.toNat = true := by
    unfold lnkN
    refine List.any_eq_true.2 ⟨x, hx, ?_⟩
    unfold isE
    simp [hn]
    omega
  have h1 := hX.lt x.f.toNat x.t.toNat (by omega) (by omega) hl
  have h2 := hX.reach hm.2
  omega
theorem fit_nat {n : Int} {es : List Edg} (h : fitP n es = true) : ((n.toNat : Nat) : Int) = n ∧ n.toNat ≤ 128 ∧ ∀ x ∈ es, 0 ≤ x.f ∧ x.f < (n.toNat : Int) ∧ 0 ≤ x.t ∧ x.t < (n.toNat : Int) := by
  have h0 : 0 ≤ n := by unfold fitP at h; simp at h; exact h.1
  obtain ⟨k, rfl⟩ := Int.eq_ofNat_of_zero_le h0
  have h1 := fit_in8 h
  simp only [Int.toNat_natCast]
  exact ⟨trivial, by have := h1.1; omega, h1.2⟩
theorem lev_meet {n : Int} {es : List Edg} {e1 e2 : Int} {L1 L2 : List Int} (h : LevIs n es e1 L1) (k : RLv n es e2 L2) : e1 = e2 ∧ L1 = L2 := by
  rcases h with ⟨h1, rfl, rfl⟩ | ⟨h1, h2, rfl, rfl⟩ | ⟨h1, rfl, X, hX, rfl⟩
  · rcases k with ⟨k1, rfl, rfl⟩ | ⟨k1, _⟩ | ⟨k1, _⟩
    · exact ⟨rfl, rfl⟩
    · rw [h1] at k1; cases k1
    · rw [h1] at k1; cases k1
  · rcases k with ⟨k1, _⟩ | ⟨k1, rfl, rfl, _⟩ | ⟨k1, rfl, Y, hY, rfl⟩
    · rw [h1] at k1; cases k1
    · exact ⟨rfl, rfl⟩
    · exact (bad_sol (fit_nat h1).2.2 h2 hY.toSol).elim
  · rcases k with ⟨k1, _⟩ | ⟨k1, rfl, rfl, t, ht, hs⟩ | ⟨k1, rfl, Y, hY, rfl⟩
    · rw [h1] at k1; cases k1
    · have h3 := hX.small t ht
      have h4 := hs X hX.toSol
      omega
    · refine ⟨rfl, List.map_congr_left fun u hu => ?_⟩
      exact hX.uniq hY u (List.mem_range.1 hu)
theorem lev_two {er : Int} {L : List Int} (h : LevIs 2 [⟨0, 1, true, 0⟩] er L) : er = 0 ∧ L = [0, 1] := by
  have hf : fitP 2 [⟨0, 1, true, 0⟩] = true := by decide
  have hs : Sol (2 : Int).toNat (lnkT [⟨0, 1, true, 0⟩]) (lnkN [⟨0, 1, true, 0⟩]) (fun v => (v : Int)) := by
    refine ⟨fun u _ => by omega, fun u v _ _ e => ?_, fun u v _ _ e => ?_⟩
    · simp [lnkT, isE] at e; omega
    · simp [lnkN, isE] at e; omega
  rcases h with ⟨h1, _⟩ | ⟨h1, h2, _⟩ | ⟨h1, rfl, X, hX, rfl⟩
  · rw [hf] at h1; cases h1
  · exact (bad_sol (fit_nat h1).2.2 h2 hs).elim
  · have a0 := hX.least _ hs 0 (by decide)
    have a1 := hX.least _ hs 1 (by decide)
    have b0 := hX.nn 0 (by decide)
    have b1 := hX.lt 0 1 (by decide) (by decide) (by simp [lnkN, isE])
    refine ⟨rfl, ?_⟩
    have c0 : X 0 = 0 := by simp at a0; omega
    have c1 : X 1 = 1 := by simp at a1; omega
    show [X 0, X 1] = _
    rw [c0, c1]

set_option maxHeartbeats 1000000 in
theorem slevels_any {w : World} {v : Value} {es : List Edg} (n : Int) (h : Has elEdg w v es) :
    Calls Try.prog 14 #[.int .i64 n, v] w fun e w' => ∃ v' er L, e = .returned (.tuple #[v', .int .i64 er]) ∧ Grow elInt 3 w.heap.size w' v' L ∧ LevIs n es er L ∧ L.length ≤ 128 ∧ Below w.heap.size w w' := by
  cases hf : fitP n es with
  | true =>
    obtain ⟨h1, h2, -⟩ := fit_nat hf
    have hfn : fitP ((n.toNat : Nat) : Int) es = true := by rw [h1]; exact hf
    have hc := levels_fit2 h hfn
    rw [h1] at hc
    refine hc.mono fun e w' ⟨ha, hb⟩ => ?_
    rcases ha with ⟨h3, rfl⟩ | ⟨h3, g, X, rfl, h4, h5, h6, h7⟩
    · exact ⟨_, 40, [], rfl, Grow.nil _ _ _ _, .inr (.inl ⟨hf, h3, rfl, rfl⟩), by simp, hb⟩
    · exact ⟨_, 0, _, rfl, row_grow h4 (fun i hi => by have := h5.nn i hi; have := h6 i hi; exact ⟨by omega, by omega⟩) h2 h7, .inr (.inr ⟨hf, rfl, X, h5, rfl⟩), by simp; omega, hb⟩
  | false =>
    obtain ⟨va, vc, rfl, -, -, hlen⟩ := h.shape
    have HF := hide (fit_any h n)
    rw [hf] at HF
    have HFt := hide hf
    clear h hf
    go_enter Try.func14, Try.ntmps14
    go_wp2_with (go_at_call 24; refine HF.out.mono ?_; rintro e w1 ⟨rfl, h1⟩; have HB1 := hide h1; clear h1)
    exact bodyPost_ret (v := .tuple #[.slice none 0 0, .int .i64 2]) (by simp [results, Try.results14, go_sem]) rfl ⟨_, 2, [], rfl, Grow.nil _ _ _ _, .inl ⟨HFt.out, rfl, rfl⟩, by simp, HB1.out⟩

set_option maxHeartbeats 1000000 in
theorem rlevels_all {w : World} {v : Value} {es : List Edg} (n : Int) (h : Has elEdg w v es) :
    Calls Try.prog 13 #[.int .i64 n, v] w fun e w' => ∃ v' er L, e = .returned (.tuple #[v', .int .i64 er]) ∧ Grow elInt 3 w.heap.size w' v' L ∧ RLv n es er L ∧ L.length ≤ 128 ∧ Below w.heap.size w w' := by
  cases hf : fitP n es with
  | true =>
    obtain ⟨h1, h2, -⟩ := fit_nat hf
    have hfn : fitP ((n.toNat : Nat) : Int) es = true := by rw [h1]; exact hf
    have hc := rlevels_any h hfn
    rw [h1] at hc
    refine hc.mono fun e w' ⟨ha, hb⟩ => ?_
    rcases ha with ⟨t, h3, h4, rfl⟩ | ⟨g, X, rfl, h4, h5, h6, h7⟩
    · exact ⟨_, 40, [], rfl, Grow.nil _ _ _ _, .inr (.inl ⟨hf, rfl, rfl, t, h3, h4⟩), by simp, hb⟩
    · exact ⟨_, 0, _, rfl, row_grow h4 (fun i hi => by have := h5.nn i hi; have := h6 i hi; exact ⟨by omega, by omega⟩) h2 h7, .inr (.inr ⟨hf, rfl, X, h5, rfl⟩), by simp; omega, hb⟩
  | false =>
    obtain ⟨va, vc, rfl, -, -, hlen⟩ := h.shape
    have HF := hide (rfit_any h n)
    rw [hf] at HF
    have HFt := hide hf
    clear h hf
    go_enter Try.func13, Try.ntmps13
    go_wp2_with (go_at_call 20; refine HF.out.mono ?_; rintro e w1 ⟨rfl, h1⟩; have HB1 := hide h1; clear h1)
    exact bodyPost_ret (v := .tuple #[.slice none 0 0, .int .i64 2]) (by simp [results, Try.results13, go_sem]) rfl ⟨_, 2, [], rfl, Grow.nil _ _ _ _, .inl ⟨HFt.out, rfl, rfl⟩, by simp, HB1.out⟩

theorem apart_symm {u v : Value} (h : u.ownBlock = none ∨ u.ownBlock ≠ v.ownBlock) : v.ownBlock = none ∨ v.ownBlock ≠ u.ownBlock := by
  rcases h with h | h
  · rcases Option.eq_none_or_eq_some v.ownBlock with h3 | ⟨k, h3⟩
    · exact .inl h3
    · exact .inr (by rw [h, h3]; exact fun e => by cases e)
  · exact .inr (Ne.symm h)
theorem own_laterI {α β : Type} {E : El α} {D : El β} {e1 e2 : TypeId} {b1 b2 : Nat} {W1 W2 : World} {v1 v2 : Value} {l1 : List α} {l2 : List β} (h1 : Grow E e1 b1 W1 v1 l1) (h2 : Grow D e2 b2 W2 v2 l2) (hb : W1.heap.size ≤ b2) : v1.ownBlock = none ∨ v1.ownBlock ≠ v2.ownBlock := by
  rcases Option.eq_none_or_eq_some v1.ownBlock with h3 | ⟨k, h3⟩
  · exact .inl h3
  · exact .inr fun e => by have h4 := own_lt6 h1.1 k h3; have h5 := own_new h2.1 k (by rw [← e]; exact h3); omega
theorem alo_three {base : Nat} {W : World} {v1 v2 v3 : Value} {l1 l2 l3 : List Int} (g1 : Grow elInt 3 base W v1 l1) (g2 : Grow elInt 3 base W v2 l2) (g3 : Grow elInt 3 base W v3 l3) (n1 : l1.length ≤ 1048576) (n2 : l2.length ≤ 1048576) (n3 : l3.length ≤ 1048576)
    (h12 : v1.ownBlock = none ∨ v1.ownBlock ≠ v2.ownBlock) (h13 : v1.ownBlock = none ∨ v1.ownBlock ≠ v3.ownBlock) (h23 : v2.ownBlock = none ∨ v2.ownBlock ≠ v3.ownBlock) :
    Alo base W.heap.size (W.alloc (.cells #[v1, v2, v3] 33)) [v1, v2, v3] 0 ∧ Apt W.heap.size [v1, v2, v3] := by
  have hcs : ∀ (i : Nat) (v : Value), [v1, v2, v3][i]? = some v → (i = 0 ∧ v = v1) ∨ (i = 1 ∧ v = v2) ∨ (i = 2 ∧ v = v3) := fun i v hi => by
    match i with
    | 0 => exact .inl ⟨rfl, (Option.some.inj hi).symm⟩
    | 1 => exact .inr (.inl ⟨rfl, (Option.some.inj hi).symm⟩)
    | 2 => exact .inr (.inr ⟨rfl, (Option.some.inj hi).symm⟩)
    | (k + 3) => simp at hi
  have hb := belo1 W (.cells #[v1, v2, v3] 33)
  refine ⟨⟨fun i v hi => ?_, fun i v hi => ?_⟩, ⟨fun i v hi => ?_, fun i j u v hne hi hj => ?_⟩⟩
  · have := new_cells (w := W) (cs := #[v1, v2, v3]) (t := 33) i v (by simpa using hi)
    exact this
  · rcases hcs i v hi with ⟨_, rfl⟩ | ⟨_, rfl⟩ | ⟨_, rfl⟩
    · exact ⟨l1, g1.kept hb, n1, fun h => absurd h (Nat.not_lt_zero _)⟩
    · exact ⟨l2, g2.kept hb, n2, fun h => absurd h (Nat.not_lt_zero _)⟩
    · exact ⟨l3, g3.kept hb, n3, fun h => absurd h (Nat.not_lt_zero _)⟩
  · intro e
    rcases hcs i v hi with ⟨_, rfl⟩ | ⟨_, rfl⟩ | ⟨_, rfl⟩
    · have := own_lt6 g1.1 _ e; omega
    · have := own_lt6 g2.1 _ e; omega
    · have := own_lt6 g3.1 _ e; omega
  · rcases hcs i u hi with ⟨rfl, rfl⟩ | ⟨rfl, rfl⟩ | ⟨rfl, rfl⟩ <;> rcases hcs j v hj with ⟨rfl, rfl⟩ | ⟨rfl, rfl⟩ | ⟨rfl, rfl⟩
    · exact absurd rfl hne
    · exact h12
    · exact h13
    · exact apart_symm h12
    · exact absurd rfl hne
    · exact h23
    · exact apart_symm h13
    · exact apart_symm h23
    · exact absurd rfl hne
theorem alone_onlyN {base b c N : Nat} {w : World} {vs : List Value} (h : Alo base b w vs 0) (hA : Apt b vs) (hN : vs.length = N) (hl : N ≤ 1048576) (hb : base ≤ w.heap.size) :
    Calls Try.prog 11 #[.slice (some ⟨b, 0, none⟩) N c] w fun e w' => e = .returned (.bool true) ∧ Below base w w' ∧ Only (ownS vs) w w' := by
  subst hN
  exact alone_only h hA hl hb
theorem alone_len {base b c N : Nat} {w : World} {vs : List Value} (h : Alo base b w vs 0) (hA : Apt b vs) (hN : vs.length = N) (hl : N ≤ 1048576) (hb : base ≤ w.heap.size) :
    Calls Try.prog 11 #[.slice (some ⟨b, 0, none⟩) N c] w fun e w' => e = .returned (.bool true) ∧ Below base w w' := by
  subst hN
  exact alone_any h hA hl hb
end Go.Proofs.Ytjifhmlfnnagcaa

namespace Go.Proofs.Ytjifhmlfnnagcaa
set_option linter.unusedSimpArgs false
set_option linter.unusedVariables false
open Go.RowKit Go.Maps

def BadIs (n : Int) (es : List Edg) (er b : Int) : Prop :=
  (fitP n es = false ∧ er = 2 ∧ b = 0) ∨ (fitP n es = true ∧ er = 0 ∧ ∃ H : Nat → Int, (∀ v, v < n.toNat → LeastOf (Ed n.toNat (lnkT es)) v (H v)) ∧ b = findI (badE H) es)
theorem badIs_meet {n : Int} {es : List Edg} {e1 e2 b1 b2 : Int} (h : BadIs n es e1 b1) (k : BadIs n es e2 b2) : e1 = e2 ∧ b1 = b2 := by
  rcases h with ⟨h1, rfl, rfl⟩ | ⟨h1, rfl, H, hH, rfl⟩
  · rcases k with ⟨_, rfl, rfl⟩ | ⟨k1, _⟩
    · exact ⟨rfl, rfl⟩
    · rw [h1] at k1; cases k1
  · rcases k with ⟨k1, _⟩ | ⟨_, rfl, H', hH', rfl⟩
    · rw [h1] at k1; cases k1
    · exact ⟨rfl, bad_uniq (fit_nat h1).2.2 (home_uniq hH hH')⟩
/-- What Cycle answers, by distances of which C holds. -/
def CycIs (C : Nat → (Nat → Nat → Bool) → Nat → (Nat → Int) → Prop) (n : Int) (es : List Edg) (er : Int) (L : List Int) : Prop :=
  (fitP n es = false ∧ er = 2 ∧ L = []) ∨ (fitP n es = true ∧ er = 0 ∧ ∃ H : Nat → Int, (∀ v, v < n.toNat → LeastOf (Ed n.toNat (lnkT es)) v (H v)) ∧ ((findI (badE H) es < 0 ∧ L = []) ∨
    ∃ (m : Nat) (x : Edg) (W : List Int) (D : Nat → Int), L = (m : Int) :: W ∧ findI (badE H) es = m ∧ es[m]? = some x ∧ C n.toNat (lnkT es) x.f.toNat D ∧ PathD es D x.t.toNat W x.f.toNat))
theorem cyc_meet {n : Int} {es : List Edg} {e1 e2 : Int} {L1 L2 : List Int} (h : CycIs FarOk n es e1 L1) (k : CycIs AwayOk n es e2 L2) : e1 = e2 ∧ L1 = L2 := by
  rcases h with ⟨h1, rfl, rfl⟩ | ⟨h1, rfl, H, hH, h⟩
  · rcases k with ⟨_, rfl, rfl⟩ | ⟨k1, _⟩
    · exact ⟨rfl, rfl⟩
    · rw [h1] at k1; cases k1
  · rcases k with ⟨k1, _⟩ | ⟨_, rfl, H', hH', k⟩
    · rw [h1] at k1; cases k1
    · have hin := (fit_nat h1).2.2
      have he := bad_uniq hin (home_uniq hH hH')
      refine ⟨rfl, ?_⟩
      rcases h with ⟨h2, rfl⟩ | ⟨m, x, W, D, rfl, h2, h3, h4, h5⟩
      · rcases k with ⟨_, rfl⟩ | ⟨m', x', W', D', rfl, k2, _⟩
        · rfl
        · omega
      · rcases k with ⟨k2, rfl⟩ | ⟨m', x', W', D', rfl, k2, k3, k4, k5⟩
        · omega
        · obtain rfl : m = m' := by omega
          rw [h3] at k3
          obtain rfl := Option.some.inj k3
          obtain ⟨q1, q2, q3, q4⟩ := hin x (List.mem_of_getElem? h3)
          obtain ⟨m2, x2, hm2, hx2, hb2⟩ := bad_at (es := es) (H := H) (by omega)
          obtain rfl : m = m2 := by omega
          rw [h3] at hx2
          obtain rfl := Option.some.inj hx2
          unfold badE at hb2
          simp only [Bool.and_eq_true, beq_iff_eq] at hb2
          have hmut := (least_eq (hH x.f.toNat (by omega)) (hH x.t.toNat (by omega))).1 hb2.2
          have hd := h4.reach hmut.2 (by rw [h4.zero]; exact Int.le_refl _)
          have p2 := (PathD.turn h4 k4 hin (by omega) hd k5).1
          rw [h5.uniq p2]
theorem cyc_one {er : Int} {L : List Int} (h : CycIs FarOk 1 [⟨0, 0, true, 0⟩] er L) : er = 0 ∧ L.length = 1 := by
  have hf : fitP 1 [⟨0, 0, true, 0⟩] = true := by decide
  rcases h with ⟨h1, _⟩ | ⟨h1, rfl, H, hH, h⟩
  · rw [hf] at h1; cases h1
  · refine ⟨rfl, ?_⟩
    have h0 : findI (badE H) [⟨0, 0, true, 0⟩] = ((0 : Nat) : Int) := findI_at (x := ⟨0, 0, true, 0⟩) rfl (by simp) (by simp [badE])
    rcases h with ⟨h2, _⟩ | ⟨m, x, W, D, rfl, h2, h3, h4, h5⟩
    · rw [h0] at h2; omega
    · obtain rfl : m = 0 := by omega
      obtain rfl : (⟨0, 0, true, 0⟩ : Edg) = x := Option.some.inj h3
      have h6 : D 0 = D 0 - (W.length : Int) := h5.len
      rw [List.length_cons]
      omega

set_option maxHeartbeats 1000000 in
theorem rbad_any {w : World} {v : Value} {es : List Edg} (n : Int) (h : Has elEdg w v es) :
    Calls Try.prog 17 #[.int .i64 n, v] w fun e w' => ∃ er b, e = .returned (.tuple #[.int .i64 b, .int .i64 er]) ∧ BadIs n es er b ∧ Below w.heap.size w w' := by
  cases hf : fitP n es with
  | true =>
    obtain ⟨h1, h2, -⟩ := fit_nat hf
    have hfn : fitP ((n.toNat : Nat) : Int) es = true := by rw [h1]; exact hf
    have hc := rbad_fit h hfn
    rw [h1] at hc
    exact hc.mono fun e w' ⟨⟨H, hH, he⟩, hb⟩ => ⟨0, _, he, .inr ⟨hf, rfl, H, hH, rfl⟩, hb⟩
  | false =>
    obtain ⟨va, vc, rfl, -, -, hlen⟩ := h.shape
    have HF := hide (rfit_any h n)
    rw [hf] at HF
    have HFt := hide hf
    clear h hf
    go_enter Try.func17, Try.ntmps17
    go_wp2_with (go_at_call 20; refine HF.out.mono ?_; rintro e w1 ⟨rfl, h1⟩; have HB1 := hide h1; clear h1)
    exact bodyPost_ret (v := .tuple #[.int .i64 0, .int .i64 2]) (by simp [results, Try.results17, go_sem]) rfl ⟨2, 0, rfl, .inl ⟨HFt.out, rfl, rfl⟩, HB1.out⟩

set_option maxHeartbeats 1000000 in
theorem sbad_any {w : World} {v : Value} {es : List Edg} (n : Int) (h : Has elEdg w v es) :
    Calls Try.prog 19 #[.int .i64 n, v] w fun e w' => ∃ er b, e = .returned (.tuple #[.int .i64 b, .int .i64 er]) ∧ BadIs n es er b ∧ Below w.heap.size w w' := by
  cases hf : fitP n es with
  | true =>
    obtain ⟨h1, h2, -⟩ := fit_nat hf
    have hfn : fitP ((n.toNat : Nat) : Int) es = true := by rw [h1]; exact hf
    have hc := bad_fit h hfn
    rw [h1] at hc
    exact hc.mono fun e w' ⟨H, hH, he, hb⟩ => ⟨0, _, he, .inr ⟨hf, rfl, H, hH, rfl⟩, hb⟩
  | false =>
    obtain ⟨va, vc, rfl, -, -, hlen⟩ := h.shape
    have HF := hide (fit_any h n)
    rw [hf] at HF
    have HFt := hide hf
    clear h hf
    go_enter Try.func19, Try.ntmps19
    go_wp2_with (go_at_call 24; refine HF.out.mono ?_; rintro e w1 ⟨rfl, h1⟩; have HB1 := hide h1; clear h1)
    exact bodyPost_ret (v := .tuple #[.int .i64 0, .int .i64 2]) (by simp [results, Try.results19, go_sem]) rfl ⟨2, 0, rfl, .inl ⟨HFt.out, rfl, rfl⟩, HB1.out⟩

set_option maxHeartbeats 1000000 in
theorem scycle_any {w : World} {v : Value} {es : List Edg} (n : Int) (h : Has elEdg w v es) :
    Calls Try.prog 18 #[.int .i64 n, v] w fun e w' => ∃ v' er L, e = .returned (.tuple #[v', .int .i64 er]) ∧ Grow elInt 3 w.heap.size w' v' L ∧ CycIs FarOk n es er L ∧ L.length ≤ 129 ∧ Below w.heap.size w w' := by
  cases hf : fitP n es with
  | true =>
    obtain ⟨h1, h2, h3⟩ := fit_nat hf
    have hfn : fitP ((n.toNat : Nat) : Int) es = true := by rw [h1]; exact hf
    rcases Classical.em (HasBad n.toNat es) with hb | hb
    · have hc := cycle_at h hfn hb
      rw [h1] at hc
      refine hc.mono fun e w' ⟨H, wv, m, x, W, hH, he, hg, ⟨d1, d2, d3, ⟨_, D, d4, d5⟩, d6⟩, hbl⟩ => ?_
      exact ⟨wv, 0, _, he, hg, .inr ⟨hf, rfl, H, hH, .inr ⟨m, x, W, D, rfl, d1, d2, d4, d5⟩⟩, by rw [List.length_cons]; omega, hbl⟩
    · have hc := cycle_good h hfn hb
      rw [h1] at hc
      obtain ⟨H, hH⟩ := exists_home n.toNat (lnkT es)
      refine hc.mono fun e w' ⟨he, hbl⟩ => ⟨_, 0, [], he, Grow.nil _ _ _ _, .inr ⟨hf, rfl, H, hH, .inl ⟨?_, rfl⟩⟩, by simp, hbl⟩
      rcases Int.lt_or_le (findI (badE H) es) 0 with h4 | h4
      · exact h4
      · exact absurd ((bad_iff h3 hH).1 h4) hb
  | false =>
    obtain ⟨va, vc, rfl, -, -, hlen⟩ := h.shape
    have HF := hide (fit_any h n)
    rw [hf] at HF
    have HFt := hide hf
    clear h hf
    go_enter Try.func18, Try.ntmps18
    go_wp2_with (go_at_call 24; refine HF.out.mono ?_; rintro e w1 ⟨rfl, h1⟩; have HB1 := hide h1; clear h1)
    exact bodyPost_ret (v := .tuple #[.slice none 0 0, .int .i64 2]) (by simp [results, Try.results18, go_sem]) rfl ⟨_, 2, [], rfl, Grow.nil _ _ _ _, .inl ⟨HFt.out, rfl, rfl⟩, by simp, HB1.out⟩

set_option maxHeartbeats 1000000 in
theorem rcycle_any {w : World} {v : Value} {es : List Edg} (n : Int) (h : Has elEdg w v es) :
    Calls Try.prog 16 #[.int .i64 n, v] w fun e w' => ∃ v' er L, e = .returned (.tuple #[v', .int .i64 er]) ∧ Grow elInt 3 w.heap.size w' v' L ∧ CycIs AwayOk n es er L ∧ L.length ≤ 129 ∧ Below w.heap.size w w' := by
  cases hf : fitP n es with
  | true =>
    obtain ⟨h1, h2, h3⟩ := fit_nat hf
    have hfn : fitP ((n.toNat : Nat) : Int) es = true := by rw [h1]; exact hf
    have hc := rcycle_fit h hfn
    rw [h1] at hc
    refine hc.mono fun e w' ⟨⟨H, hH, ha⟩, hbl⟩ => ?_
    rcases ha with ⟨h4, he⟩ | ⟨wv, m, x, W, D, he, hg, d1, d2, d3, d4, d5⟩
    · exact ⟨_, 0, [], he, Grow.nil _ _ _ _, .inr ⟨hf, rfl, H, hH, .inl ⟨h4, rfl⟩⟩, by simp, hbl⟩
    · exact ⟨wv, 0, _, he, hg, .inr ⟨hf, rfl, H, hH, .inr ⟨m, x, W, D, rfl, d1, d2, d3, d4⟩⟩, by rw [List.length_cons]; omega, hbl⟩
  | false =>
    obtain ⟨va, vc, rfl, -, -, hlen⟩ := h.shape
    have HF : Hid (Calls Try.prog 17 #[.int .i64 n, .slice va es.length vc] w fun e w' => e = .returned (.tuple #[.int .i64 0, .int .i64 2]) ∧ Below w.heap.size w w') := (rbad_any n h).mono fun e w' ⟨er, b, he, hb, hbl⟩ => by
      rcases hb with ⟨_, rfl, rfl⟩ | ⟨h1, _⟩
      · exact ⟨he, hbl⟩
      · rw [hf] at h1; cases h1
    have HFt := hide hf
    clear h hf
    go_enter Try.func16, Try.ntmps16
    go_wp2_with (go_at_call 17; refine HF.out.mono ?_; rintro e w1 ⟨rfl, h1⟩; have HB1 := hide h1; clear h1)
    exact bodyPost_ret (v := .tuple #[.slice none 0 0, .int .i64 2]) (by simp [results, Try.results16, go_sem]) rfl ⟨_, 2, [], rfl, Grow.nil _ _ _ _, .inl ⟨HFt.out, rfl, rfl⟩, by simp, HB1.out⟩
end Go.Proofs.Ytjifhmlfnnagcaa

namespace Go.Proofs.Ytjifhmlfnnagcaa
set_option linter.unusedSimpArgs false
set_option linter.unusedVariables false
open Go.RowKit Go.Maps

def oneN : List Edg := [⟨0, 0, true, 0⟩]
theorem onen_at (W : World) : Has elEdg (W.alloc (.cells #[.int .i64 0, .int .i64 0, .bool true, .int .i64 0] 25)) (.slice (some ⟨W.heap.size, 0, none⟩) 1 1) oneN :=
  has_new elEdg W 25 oneN #[.int .i64 0, .int .i64 0, .bool true, .int .i64 0] rfl trivial (fun x hx => by simp [oneN] at hx; subst hx; exact ⟨⟨by decide, by decide⟩, ⟨by decide, by decide⟩, ⟨by decide, by decide⟩⟩) (by decide)

set_option maxRecDepth 100000 in
set_option maxHeartbeats 4000000 in
theorem strataCycle_walk (n : Int) (v : Value) (es : List Edg) (w : World) (hn : -9223372036854775808 ≤ n ∧ n ≤ 9223372036854775807) (h : Has elEdg w v es) (hes : es.length ≤ 1048576) :
    Calls Try.prog 5 #[.int .i64 n, v] w fun e w' => e = .returned (.bool true) ∧ Below w.heap.size w w' := by
  obtain ⟨va, vc, rfl, -, -, hlen⟩ := h.shape
  have HL : Hid (∀ V : World, Below w.heap.size w V → Has elEdg V (.slice va es.length vc) es) := fun V hV => h.kept hV
  have HL0 := hide h
  obtain ⟨q, hq⟩ : ∃ q, es.length = q := ⟨_, rfl⟩
  have HQ := hide hq
  rw [hq] at HL HL0 hes ⊢
  clear h hlen hq
  go_enter Try.func5, Try.ntmps5
  go_wp2_with (first
    | (go_at_call 6; (with_reducible refine (edges_any HL0.out).mono ?_); rintro e W2 ⟨x1, rfl, g1, b1⟩; obtain ⟨ga, gc, hgs, -, -⟩ := g1.shape; rw [HQ.out] at hgs; subst hgs; have HGv := hide g1; have HB2 := hide b1; have HE2 := hide (HL.out W2 b1); clear g1 b1 HL0)
    | (go_at_call 16; (with_reducible refine (rcycle_any n HE2.out).mono ?_); rintro e W3 ⟨x3, er, L, rfl, g3, hr, hL, b3⟩; obtain ⟨wa, wc, rfl, -, -⟩ := g3.shape; have HR := hide hr; have HLn := hide hL; have HW3 := hide (g3.list (by omega)); have HB23 := hide b3; have HE3 := hide (HE2.out.kept b3); clear g3 hr b3 hL HE2)
    | (go_at_call 17; (with_reducible refine (rbad_any n HE3.out).mono ?_); rintro e W4 ⟨eb, bd, rfl, hb4, b4⟩; have HRb := hide hb4; have HW4 := hide (HW3.out.kept b4); have HB24 : Hid (Below W2.heap.size W2 W4) := HB23.out.trans (b4.mono HB23.out.size); have HV4 := hide ((HGv.out.kept HB24.out).list (by rw [HQ.out]; omega)); clear hb4 b4 HE3 HW3 HB23)
    | (go_at_call 18; (with_reducible refine (scycle_any n HV4.out).mono ?_); rintro e W5 ⟨x5, er5, L5, rfl, g5, hl5, -, b5⟩; obtain ⟨rfl, rfl⟩ := cyc_meet hl5 HR.out; obtain ⟨ta, tc, rfl, -, -⟩ := g5.shape; have HG5 := hide g5; have HW5 := hide (HW4.out.kept b5); have HB25 : Hid (Below W2.heap.size W2 W5) := HB24.out.trans (b5.mono HB24.out.size); have HV5 := hide (HV4.out.kept b5); clear g5 hl5 b5 HV4 HW4)
    | (go_at_call 19; (with_reducible refine (sbad_any n HV5.out).mono ?_); rintro e W6 ⟨eb6, bd6, rfl, hb6, b6⟩; obtain ⟨rfl, rfl⟩ := badIs_meet hb6 HRb.out; have HG6 := hide (HG5.out.kept b6); have HW6 := hide (HW5.out.kept b6); have HB26 : Hid (Below W2.heap.size W2 W6) := HB25.out.trans (b6.mono HB25.out.size); have HS6 : Hid (Below W6.heap.size W6 (W6.alloc (.cells #[.int .i64 0, .int .i64 0, .bool true, .int .i64 0] 25))) := belo1 _ _; have HO6 := hide (onen_at W6); clear hb6 b6 HV5 HW5 HG5)
    | (go_at_call 18; (with_reducible refine (scycle_any 1 HO6.out).mono ?_); rintro e W7 ⟨x7, er7, L7, rfl, g7, hl7, -, b7⟩; obtain ⟨rfl, hl1⟩ := cyc_one hl7; obtain ⟨oa, oc, ho7, -, -⟩ := g7.shape; rw [hl1] at ho7; subst ho7; have HL1 := hide hl1; have HG7 := hide (g7.mono HS6.out.size); have HB67 : Hid (Below W6.heap.size W6 W7) := HS6.out.trans (b7.mono HS6.out.size); have HB27 : Hid (Below W2.heap.size W2 W7) := HB26.out.trans (HB67.out.mono HB26.out.size); have HW7 := hide (HW6.out.kept HB67.out); have HV7 := hide ((HGv.out.kept HB27.out).list (by rw [HQ.out]; omega)); clear g7 hl7 b7 hl1 HO6 HS6 HW6)
    | (go_at_call 18; (with_reducible refine (scycle_any n HV7.out).mono ?_); rintro e W8 ⟨x8, er8, L8, rfl, g8, hl8, -, b8⟩; obtain ⟨rfl, rfl⟩ := cyc_meet hl8 HR.out; obtain ⟨aa, ac, rfl, -, -⟩ := g8.shape; have HN1 := hide (own_laterI HG6.out HG7.out (Nat.le_refl _)); have HN2 := hide (own_laterI HG6.out g8 HB67.out.size); have HN3 := hide (own_laterI HG7.out g8 (Nat.le_refl _)); have HG58 := hide ((HG6.out.kept (HB67.out.trans (b8.mono HB67.out.size))).mono HB24.out.size); have HG78 := hide ((HG7.out.kept b8).mono HB26.out.size); have HG88 := hide (g8.mono HB27.out.size); have HB28 : Hid (Below W2.heap.size W2 W8) := HB27.out.trans (b8.mono HB27.out.size); have HW8 := hide (HW7.out.kept b8); have HG58l := hide (HG58.out.list (by have := HLn.out; omega)); clear g8 hl8 b8 HV7 HG6 HG7 HB67 HB27 HW7)
    | (go_at_call 15; (with_reducible refine (equalInts_any HG58l.out HW8.out).mono ?_); rintro e W9 ⟨rfl, b9⟩; have HG59 := hide (HG58.out.kept b9); have HG79 := hide (HG78.out.kept b9); have HG89 := hide (HG88.out.kept b9); have HB29 : Hid (Below W2.heap.size W2 W9) := HB28.out.trans (b9.mono HB28.out.size); have HW9 := hide (HW8.out.kept b9); have HG89l := hide (HG89.out.list (by have := HLn.out; omega)); clear b9 HG58 HG78 HG88 HB28 HW8 HG58l)
    | (go_at_call 15; (with_reducible refine (equalInts_any HG89l.out HW9.out).mono ?_); rintro e WA ⟨rfl, bA⟩; have HG5A := hide (HG59.out.kept bA); have HG7A := hide (HG79.out.kept bA); have HG8A := hide (HG89.out.kept bA); have HB2A : Hid (Below W2.heap.size W2 WA) := HB29.out.trans (bA.mono HB29.out.size); have HVA := hide ((HGv.out.kept HB2A.out).list (by rw [HQ.out]; omega)); have HEA := hide (HL.out WA (HB2.out.trans (HB2A.out.mono HB2.out.size))); clear bA HG59 HG79 HG89 HB29 HW9 HG89l)
    | (go_at_call 10; (with_reducible refine (equalEdges_any HVA.out HEA.out).mono ?_); rintro e WB ⟨rfl, bB⟩; have HBA : Hid (Below W2.heap.size W2 WB) := HB2A.out.trans (bB.mono HB2A.out.size); have ha3 := alo_three (HG5A.out.kept bB) (HG7A.out.kept bB) (HG8A.out.kept bB) (by have := HLn.out; omega) (by rw [HL1.out]; decide) (by have := HLn.out; omega) HN1.out HN2.out HN3.out; have HAl := hide ha3.1; have HAp := hide ha3.2; have HZB := hide (HBA.out.alloc HBA.out.size (.cells #[.slice ta L8.length tc, .slice oa 1 oc, .slice aa L8.length ac] 33)); clear bB ha3 HG5A HG7A HG8A HB2A HBA HVA HEA)
    | (go_at_call 11; (with_reducible refine (alone_len (N := 3) HAl.out HAp.out rfl (by decide) HZB.out.size).mono ?_); rintro e WC ⟨rfl, bC⟩; have HBB : Hid (Below W2.heap.size W2 WC) := HZB.out.trans bC; have HGB := hide (HGv.out.kept HBB.out); have HBw := hide (HB2.out.trans (HBB.out.mono HB2.out.size)); clear bC HZB HAl HAp HBB HGv)
    | (go_at_call 12; (with_reducible refine (turn_any HGB.out (by rw [HQ.out]; exact hes)).mono ?_); rintro e WD ⟨rfl, gC, bC⟩; have HQt : Hid ((es.map turnE).length = q) := (by show _ = _; rw [List.length_map, HQ.out]); have HGCl := hide (gC.list (by rw [HQt.out]; omega)); have HBC := hide (HBw.out.trans bC); clear gC bC HGB HBw HR HRb HLn)
    | (go_at_call 6; (with_reducible refine (edges_any HGCl.out).mono ?_); rintro e WE ⟨xD, rfl, gD, bD⟩; obtain ⟨da, dc, hdd, -, -⟩ := gD.shape; rw [HQt.out] at hdd; subst hdd; have HGDl := hide (gD.list (by rw [HQt.out]; omega)); have HVD := hide (HGCl.out.kept bD); have HBD := hide (HBC.out.trans (bD.mono HBC.out.size)); clear gD bD HGCl HBC)
    | (go_at_call 16; (with_reducible refine (rcycle_any n HGDl.out).mono ?_); rintro e WF ⟨xE, eE, LE, rfl, gE, hrE, hLE, bE⟩; obtain ⟨ea, ec, rfl, -, -⟩ := gE.shape; have HRE := hide hrE; have HLE := hide hLE; have HWE := hide (gE.list (by omega)); have HVE := hide (HVD.out.kept bE); have HBE := hide (HBD.out.trans (bE.mono HBD.out.size)); clear gE hrE hLE bE HGDl HVD HBD)
    | (go_at_call 6; (with_reducible refine (edges_any HVE.out).mono ?_); rintro e WG ⟨xG, rfl, gG, bG⟩; obtain ⟨dga, dgc, hdg, -, -⟩ := gG.shape; rw [HQt.out] at hdg; subst hdg; have HGGl := hide (gG.list (by rw [HQt.out]; omega)); have HVG := hide (HVE.out.kept bG); have HWG := hide (HWE.out.kept bG); have HBG := hide (HBE.out.trans (bG.mono HBE.out.size)); clear gG bG HVE HWE HBE)
    | (go_at_call 17; (with_reducible refine (rbad_any n HGGl.out).mono ?_); rintro e WH ⟨ebH, bdH, rfl, hbH, bH⟩; have HRbH := hide hbH; have HVH := hide (HVG.out.kept bH); have HWH := hide (HWG.out.kept bH); have HBH := hide (HBG.out.trans (bH.mono HBG.out.size)); clear hbH bH HGGl HVG HWG HBG)
    | (go_at_call 18; (with_reducible refine (scycle_any n HVH.out).mono ?_); rintro e WI ⟨xF, eF, LF, rfl, gF, hlF, -, bF⟩; obtain ⟨rfl, rfl⟩ := cyc_meet hlF HRE.out; obtain ⟨ua, uc, rfl, -, -⟩ := gF.shape; have HGF := hide (gF.list (by have := HLE.out; omega)); have HWF := hide (HWH.out.kept bF); have HVF := hide (HVH.out.kept bF); have HBF := hide (HBH.out.trans (bF.mono HBH.out.size)); clear gF hlF bF HWH HVH HBH)
    | (go_at_call 19; (with_reducible refine (sbad_any n HVF.out).mono ?_); rintro e WJ ⟨ebJ, bdJ, rfl, hbJ, bJ⟩; obtain ⟨rfl, rfl⟩ := badIs_meet hbJ HRbH.out; have HGJ := hide (HGF.out.kept bJ); have HWJ := hide (HWF.out.kept bJ); have HBJ := hide (HBF.out.trans (bJ.mono HBF.out.size)); clear hbJ bJ HVF HWF HGF HBF)
    | (go_at_call 15; (with_reducible refine (equalInts_any HGJ.out HWJ.out).mono ?_); rintro e WK ⟨rfl, bK⟩; have HBK := hide (HBJ.out.trans (bK.mono HBJ.out.size)); clear bK HGJ HWJ HBJ))
  go_ret
  exact ⟨by simp, HBK.out⟩
end Go.Proofs.Ytjifhmlfnnagcaa
