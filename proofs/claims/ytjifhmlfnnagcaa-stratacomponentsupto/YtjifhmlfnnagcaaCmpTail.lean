/- strata.Levels, where the edges fit. What edges say does not hang on their order, nor on how often they stand: components and levels are the same. What the document's Components goes by: each time the least that is ready. The document's Components. The document's Levels: levels are raised till nothing asks for more. No least level is as great as the number of predicates. The law's turn: edges written over in place, each the other way round. strata.Levels and the document's Levels, whatever the edges; where their rows lie; the two answers meet. strata.Components and the document's Components, whatever the edges; the two answers meet. The law of the components: its walk. -/
import Derived.Test.YtjifhmlfnnagcaaGraphLevels
import Derived.Test.YtjifhmlfnnagcaaEdgeLaw
import Derived.Test.YtjifhmlfnnagcaaRefOne
import Derived.Test.YtjifhmlfnnagcaaLevelsPure
import Derived.Test.YtjifhmlfnnagcaaEdgeRFit
import Derived.Test.YtjifhmlfnnagcaaEdgeMem
import Derived.Test.YtjifhmlfnnagcaaPushMany
import Derived.Test.YtjifhmlfnnagcaaRegionLast
import Derived.Test.YtjifhmlfnnagcaaAloneInts
import Derived.Test.YtjifhmlfnnagcaaSpread

namespace Go.Proofs.Ytjifhmlfnnagcaa
set_option linter.unusedSimpArgs false
set_option linter.unusedVariables false
open Go.RowKit Go.Maps

/-- A negated edge inside a component. -/
def HasBad (n : Nat) (es : List Edg) : Prop := ∃ x ∈ es, x.neg = true ∧ Mut (Ed n (lnkT es)) x.f.toNat x.t.toNat

theorem bad_iff {n : Nat} {es : List Edg} {H : Nat → Int} (hin : ∀ x ∈ es, 0 ≤ x.f ∧ x.f < n ∧ 0 ≤ x.t ∧ x.t < n) (hH : ∀ v, v < n → LeastOf (Ed n (lnkT es)) v (H v)) : 0 ≤ findI (badE H) es ↔ HasBad n es := by
  have h := findI_any (badE H) es
  constructor
  · intro h0
    rw [decide_eq_true h0] at h
    obtain ⟨x, hx, hb⟩ := List.any_eq_true.1 h.symm
    unfold badE at hb
    simp at hb
    obtain ⟨q1, q2, q3, q4⟩ := hin x hx
    exact ⟨x, hx, hb.1, (least_eq (hH _ (by omega)) (hH _ (by omega))).1 hb.2⟩
  · rintro ⟨x, hx, h1, h2⟩
    obtain ⟨q1, q2, q3, q4⟩ := hin x hx
    have h3 := (least_eq (hH x.f.toNat (by omega)) (hH x.t.toNat (by omega))).2 h2
    have h4 : es.any (badE H) = true := List.any_eq_true.2 ⟨x, hx, by unfold badE; simp [h1, h3]⟩
    rw [h4] at h
    exact of_decide_eq_true h
theorem lnkN_T {es : List Edg} (u v : Nat) (h : lnkN es u v = true) : lnkT es u v = true := by
  unfold lnkN at h
  obtain ⟨x, hx, h1⟩ := List.any_eq_true.1 h
  unfold lnkT
  simp at h1
  exact List.any_eq_true.2 ⟨x, hx, h1.1⟩
theorem lnkN_bad {n : Nat} {es : List Edg} (hb : ¬ HasBad n es) (u v : Nat) (hN : lnkN es u v = true) : ¬ Mut (Ed n (lnkT es)) u v := fun hm => by
  unfold lnkN at hN
  obtain ⟨x, hx, h1⟩ := List.any_eq_true.1 hN
  unfold isE at h1
  simp at h1
  obtain ⟨⟨h2, h3⟩, h4⟩ := h1
  exact hb ⟨x, hx, h4, by rw [h2, h3]; exact hm⟩

set_option maxHeartbeats 1000000 in
theorem levels_fit2 {w : World} {v : Value} {es : List Edg} {n : Nat} (h : Has elEdg w v es) (hfit : fitP n es = true) :
    Calls Try.prog 14 #[.int .i64 (n : Int), v] w fun e w' => ((HasBad n es ∧ e = .returned (.tuple #[.slice none 0 0, .int .i64 40])) ∨ (¬ HasBad n es ∧ ∃ (g : Nat) (X : Nat → Int), e = .returned (.tuple #[.slice (some ⟨g, 0, none⟩) n n, .int .i64 0]) ∧ w'.rowIs g 3 n (fun i => .int .i64 (X i)) ∧ Least n (lnkT es) (lnkN es) X ∧ (∀ p, p < n → X p ≤ n) ∧ w.heap.size ≤ g)) ∧ Below w.heap.size w w' := by
  have hn : n ≤ 128 := by have := (fit_in8 hfit).1; omega
  obtain ⟨va, vc, rfl, -, -, hlen⟩ := h.shape
  have HIn := hide (fit_in8 hfit).2
  have HF := hide (fit_any h n)
  rw [hfit] at HF
  have HL := hide h
  have HFt := hide hfit
  clear h hfit
  by_cases hb : HasBad n es
  · have HBd := hide hb
    clear hb
    go_enter Try.func14, Try.ntmps14
    go_wp2_with (first
      | (go_at_call 24; refine HF.out.mono ?_; rintro e w1 ⟨rfl, h1⟩; have HB1 := hide h1; clear h1)
      | (go_at_call 25; refine (newGraph_any (HL.out.kept HB1.out) HFt.out).mono ?_; rintro e w2 ⟨gl, rfl, h1, h2, h3⟩; have hbx := belo1 w2 (.cells #[.int .i64 (n : Int), .slice (some ⟨gl, 0, none⟩) (n * n) (n * n)] 48); have HG2 := hide (h2.kept hbx); have hB2 := HB1.out.trans (h3.mono HB1.out.size); have HB2 := hide (hB2.trans (hbx.mono hB2.size)); have HL2 := hide (((HL.out.kept HB1.out).kept h3).kept hbx); have HX0 : Hid ((w2.alloc (.cells #[.int .i64 (n : Int), .slice (some ⟨gl, 0, none⟩) (n * n) (n * n)] 48)).cell? ⟨w2.heap.size, 0, none⟩ = some (.int .i64 (n : Int)) ∧ (w2.alloc (.cells #[.int .i64 (n : Int), .slice (some ⟨gl, 0, none⟩) (n * n) (n * n)] 48)).cell? ⟨w2.heap.size, 1, none⟩ = some (.slice (some ⟨gl, 0, none⟩) (n * n) (n * n))) := (by show _ ∧ _; constructor <;> simp); clear h1 h2 h3 hbx hB2)
      | (go_at_call 27; refine (bad_any HG2.out hn HL2.out HIn.out).mono ?_; rintro e w3 ⟨H, h1, rfl, h5⟩; have x0 := kept_cell h5 HX0.out.1; have x1 := kept_cell h5 HX0.out.2; have HB3 := hide (HB2.out.trans (h5.mono HB2.out.size)); have hge := (bad_iff HIn.out h1).2 HBd.out; obtain ⟨bd, hbd⟩ : ∃ bd, findI (badE H) es = bd := ⟨_, rfl⟩; rw [hbd] at hge ⊢; clear h1 h5 hbd))
    exact bodyPost_ret (v := .tuple #[.slice none 0 0, .int .i64 40]) (by simp [results, Try.results14, go_sem]) rfl ⟨.inl ⟨HBd.out, rfl⟩, HB3.out⟩
  · have HBd := hide hb
    clear hb
    go_enter Try.func14, Try.ntmps14
    go_wp2_with (first
      | (go_at_call 24; refine HF.out.mono ?_; rintro e w1 ⟨rfl, h1⟩; have HB1 := hide h1; clear h1)
      | (go_at_call 25; refine (newGraph_any (HL.out.kept HB1.out) HFt.out).mono ?_; rintro e w2 ⟨gl, rfl, h1, h2, h3⟩; have hbx := belo1 w2 (.cells #[.int .i64 (n : Int), .slice (some ⟨gl, 0, none⟩) (n * n) (n * n)] 48); have HG2 := hide (h2.kept hbx); have hB2 := HB1.out.trans (h3.mono HB1.out.size); have HB2 := hide (hB2.trans (hbx.mono hB2.size)); have HL2 := hide (((HL.out.kept HB1.out).kept h3).kept hbx); have HX0 : Hid ((w2.alloc (.cells #[.int .i64 (n : Int), .slice (some ⟨gl, 0, none⟩) (n * n) (n * n)] 48)).cell? ⟨w2.heap.size, 0, none⟩ = some (.int .i64 (n : Int)) ∧ (w2.alloc (.cells #[.int .i64 (n : Int), .slice (some ⟨gl, 0, none⟩) (n * n) (n * n)] 48)).cell? ⟨w2.heap.size, 1, none⟩ = some (.slice (some ⟨gl, 0, none⟩) (n * n) (n * n))) := (by show _ ∧ _; constructor <;> simp); clear h1 h2 h3 hbx hB2)
      | (go_at_call 27; refine (bad_any HG2.out hn HL2.out HIn.out).mono ?_; rintro e w3 ⟨H, h1, rfl, h5⟩; have x0 := kept_cell h5 HX0.out.1; have x1 := kept_cell h5 HX0.out.2; have HG3 := hide (HG2.out.kept h5); have HB3 := hide (HB2.out.trans (h5.mono HB2.out.size)); have hge : ¬ 0 ≤ findI (badE H) es := (fun hc => HBd.out ((bad_iff HIn.out h1).1 hc)); obtain ⟨bd, hbd⟩ : ∃ bd, findI (badE H) es = bd := ⟨_, rfl⟩; rw [hbd] at hge ⊢; clear h1 h5 hbd)
      | (go_at_call 28; refine (levels_at HG3.out hn lnkN_T (fun u v _ _ hN => lnkN_bad HBd.out u v hN)).mono ?_; rintro e w4 ⟨g, X, rfl, h1, h2, hge4, h5⟩; have HGe := hide (Nat.le_trans HB3.out.size hge4); clear hge4; have HR4 := hide h1; have HX4 := hide h2; have HB4 := hide (HB3.out.trans (h5.mono HB3.out.size)); clear h1 h2 h5))
    exact bodyPost_ret (v := .tuple #[.slice (some ⟨g, 0, none⟩) n n, .int .i64 0]) (by simp [results, Try.results14, go_sem]) rfl ⟨.inr ⟨HBd.out, g, X, rfl, HR4.out, HX4.out.1, HX4.out.2, HGe.out⟩, HB4.out⟩
theorem levels_fit {w : World} {v : Value} {es : List Edg} {n : Nat} (h : Has elEdg w v es) (hfit : fitP n es = true) :
    Calls Try.prog 14 #[.int .i64 (n : Int), v] w fun e w' => ((HasBad n es ∧ e = .returned (.tuple #[.slice none 0 0, .int .i64 40])) ∨ (¬ HasBad n es ∧ ∃ (g : Nat) (X : Nat → Int), e = .returned (.tuple #[.slice (some ⟨g, 0, none⟩) n n, .int .i64 0]) ∧ w'.rowIs g 3 n (fun i => .int .i64 (X i)) ∧ Least n (lnkT es) (lnkN es) X ∧ ∀ p, p < n → X p ≤ n)) ∧ Below w.heap.size w w' :=
  (levels_fit2 h hfit).mono fun _ _ ⟨h1, h2⟩ => ⟨h1.imp id fun ⟨nb, g, X, a, b, c, d, _⟩ => ⟨nb, g, X, a, b, c, d⟩, h2⟩
end Go.Proofs.Ytjifhmlfnnagcaa

namespace Go.Proofs.Ytjifhmlfnnagcaa
set_option linter.unusedSimpArgs false
set_option linter.unusedVariables false
open Go.RowKit Go.Maps

theorem same_lnkT {es es' : List Edg} (h : ∀ x, x ∈ es' ↔ x ∈ es) : lnkT es' = lnkT es := by
  funext u v
  unfold lnkT
  rw [Bool.eq_iff_iff]
  simp only [List.any_eq_true, h]
theorem same_lnkN {es es' : List Edg} (h : ∀ x, x ∈ es' ↔ x ∈ es) : lnkN es' = lnkN es := by
  funext u v
  unfold lnkN
  rw [Bool.eq_iff_iff]
  simp only [List.any_eq_true, h]
theorem same_bad {n : Nat} {es es' : List Edg} (h : ∀ x, x ∈ es' ↔ x ∈ es) : HasBad n es' ↔ HasBad n es := by
  unfold HasBad
  rw [same_lnkT h]
  simp only [h]
theorem home_uniq {n : Nat} {T : Nat → Nat → Bool} {H H' : Nat → Int} (hH : ∀ v, v < n → LeastOf (Ed n T) v (H v)) (hH' : ∀ v, v < n → LeastOf (Ed n T) v (H' v)) : ∀ v, v < n → H v = H' v := fun v hv => (least_eq (hH v hv) (hH' v hv)).2 (Mut.refl v)
theorem ready_congr {n : Nat} {T : Nat → Nat → Bool} {H H' : Nat → Int} (he : ∀ v, v < n → H v = H' v) {S : List Nat} {r : Nat} (h : ReadyIn n T H S r) : ReadyIn n T H' S r := fun u v hu hv ht hne hvr => by
  rw [← he u hu, ← he v hv] at hne
  rw [← he v hv] at hvr
  rw [← he u hu]
  exact h u v hu hv ht hne hvr
theorem greedy_take {n : Nat} {T : Nat → Nat → Bool} {H H' : Nat → Int} {reps reps' : List Nat} (he : ∀ v, v < n → H v = H' v) (hg : Greedy n T H reps) (hg' : Greedy n T H' reps') : ∀ k, k ≤ reps.length → k ≤ reps'.length → reps.take k = reps'.take k
  | 0, _, _ => by simp
  | k + 1, h1, h2 => by
    have ih := greedy_take he hg hg' k (by omega) (by omega)
    have hr : reps[k]? = some reps[k] := List.getElem?_eq_getElem (by omega)
    have hr' : reps'[k]? = some reps'[k] := List.getElem?_eq_getElem (by omega)
    rw [take_snoc8 hr, take_snoc8 hr', ih]
    obtain ⟨a1, a2⟩ := hg.step k _ hr
    obtain ⟨b1, b2⟩ := hg'.step k _ hr'
    obtain ⟨c1, c2⟩ := hg.rep _ (List.mem_of_getElem? hr)
    obtain ⟨d1, d2⟩ := hg'.rep _ (List.mem_of_getElem? hr')
    have n1 := nd_not hg.nd hr
    have n2 := nd_not hg'.nd hr'
    have e1 : ¬ reps[k] < reps'[k] := fun hl => b2 _ c1 (by rw [← he _ c1]; exact c2) hl (by rw [← ih]; exact n1) (by rw [← ih]; exact ready_congr he a1)
    have e2 : ¬ reps'[k] < reps[k] := fun hl => a2 _ d1 (by rw [he _ d1]; exact d2) hl (by rw [ih]; exact n2) (by rw [ih]; exact ready_congr (fun v hv => (he v hv).symm) b1)
    have e3 : reps[k] = reps'[k] := by omega
    rw [e3]
theorem greedy_uniq {n : Nat} {T : Nat → Nat → Bool} {H H' : Nat → Int} {reps reps' : List Nat} (he : ∀ v, v < n → H v = H' v) (hg : Greedy n T H reps) (hg' : Greedy n T H' reps') (ha : ∀ q, q < n → H q = q → q ∈ reps) (ha' : ∀ q, q < n → H' q = q → q ∈ reps') : reps = reps' := by
  have hl : ¬ reps.length < reps'.length := fun hl => by
    obtain ⟨q, hr⟩ : ∃ q, reps'[reps.length]? = some q := ⟨_, List.getElem?_eq_getElem hl⟩
    obtain ⟨c1, c2⟩ := hg'.rep _ (List.mem_of_getElem? hr)
    have h1 := ha _ c1 (by rw [he _ c1]; exact c2)
    have h2 := greedy_take he hg hg' reps.length (Nat.le_refl _) (by omega)
    rw [List.take_of_length_le (Nat.le_refl _)] at h2
    rw [h2] at h1
    exact nd_not hg'.nd hr h1
  have hl' : ¬ reps'.length < reps.length := fun hl => by
    obtain ⟨q, hr⟩ : ∃ q, reps[reps'.length]? = some q := ⟨_, List.getElem?_eq_getElem hl⟩
    obtain ⟨c1, c2⟩ := hg.rep _ (List.mem_of_getElem? hr)
    have h1 := ha' _ c1 (by rw [← he _ c1]; exact c2)
    have h2 := greedy_take he hg hg' reps'.length (by omega) (Nat.le_refl _)
    rw [List.take_of_length_le (Nat.le_refl reps'.length)] at h2
    rw [← h2] at h1
    exact nd_not hg.nd hr h1
  have h2 := greedy_take he hg hg' reps.length (Nat.le_refl _) (by omega)
  rw [List.take_of_length_le (Nat.le_refl _), List.take_of_length_le (by omega)] at h2
  exact h2
theorem memL_congr {n : Nat} {H H' : Nat → Int} (he : ∀ v, v < n → H v = H' v) (r : Nat) : memL H n r = memL H' n r := by
  unfold memL
  refine List.filter_congr fun x hx => ?_
  rw [he x (List.mem_range.1 hx)]

/-- A row of numbers, as a list. -/
theorem row_has {w : World} {g n : Nat} {X : Nat → Int} (h : w.rowIs g 3 n (fun i => .int .i64 (X i))) (hX : ∀ i, i < n → I64 (X i)) (hn : n ≤ 128) : Has elInt w (.slice (some ⟨g, 0, none⟩) n n) ((List.range n).map X) := by
  refine ⟨some ⟨g, 0, none⟩, n, by simp, by simp, (fun e => by cases e), by simp; omega, fun x hx => ?_, fun hp => ?_⟩
  · obtain ⟨u, hu, rfl⟩ := List.mem_map.1 hx
    exact hX u (List.mem_range.1 hu)
  · refine ⟨g, 0, rfl, h.lt, trivial, fun i x hi j u hu => ?_⟩
    have hj : j = 0 := by have := (List.getElem?_eq_some_iff.1 hu).1; simp [elInt] at this; exact this
    subst hj
    have hin : i < n := by have := (List.getElem?_eq_some_iff.1 hi).1; simpa using this
    rw [List.getElem?_map, List.getElem?_range hin] at hi
    simp only [Option.map_some, Option.some.injEq] at hi
    subst hi
    simp only [elInt, List.getElem?_cons_zero, Option.some.injEq] at hu
    subst hu
    have := h.cell hin
    simpa [elInt] using this

set_option maxHeartbeats 1000000 in
theorem equalLists_any {w : World} {ta tb : Option Addr} {ca cb ln : Nat} (hln : ln ≤ 1000000) (h : ∀ i, i < ln → ∃ (ga gb : Nat) (L : List Int) (va vb : Value), ta = some ⟨ga, 0, none⟩ ∧ tb = some ⟨gb, 0, none⟩ ∧ w.cell? ⟨ga, i, none⟩ = some va ∧ w.cell? ⟨gb, i, none⟩ = some vb ∧ Has elInt w va L ∧ Has elInt w vb L) :
    Calls Try.prog 9 #[.slice ta ln ca, .slice tb ln cb] w fun e w' => e = .returned (.bool true) ∧ Below w.heap.size w w' := by
  have HH := hide h
  clear h
  go_enter Try.func9, Try.ntmps9
  go_wp2
  go_loopw [5] (fun i wl => ∃ k : Nat, k ≤ ln ∧ i = .int .i64 k ∧ Hid (Below w.heap.size w wl)) (fun i _ => ln - (intOf i).toNat)
  case atStart => exact ⟨0, by omega, rfl, Below.refl _ _⟩
  case round =>
    obtain ⟨k, hk, rfl, HB⟩ := hrel
    by_cases hlt : k < ln
    · have hi : (k : Int) < (ln : Int) := by omega
      have hi0 : (0 : Int) ≤ (k : Int) := by omega
      obtain ⟨ga, gb, L, va, vb, rfl, rfl, c0, c1, h0, h1⟩ := HH.out k hlt
      have y0 := kept_cell HB.out c0
      have y1 := kept_cell HB.out c1
      have HSz := hide HB.out.size
      have HBd := hide HB.out.drew
      obtain ⟨sa, sc, rfl, -, -, -⟩ := h0.shape
      obtain ⟨sb, sd, rfl, -, -, -⟩ := h1.shape
      have HE := hide (equalInts_any (h0.kept HB.out.drew) (h1.kept HB.out.drew))
      clear h0 h1 c0 c1
      go_wp2
      go_region_held3 (fun w' => w'.cell? ⟨ga, k, none⟩ = some (.slice sa L.length sc) ∧ w'.cell? ⟨gb, k, none⟩ = some (.slice sb L.length sd))
        (first | exact ⟨y0, y1⟩ | exact HSk.out)
        (first | (go_at_call 15; refine HE.out.mono ?_; rintro e V2 ⟨rfl, h1⟩; have HSk : Hid (V2.cell? ⟨ga, k, none⟩ = some (.slice sa L.length sc) ∧ V2.cell? ⟨gb, k, none⟩ = some (.slice sb L.length sd)) := ⟨kept_cell (w := wr.drew) h1 y0, kept_cell (w := wr.drew) h1 y1⟩; have HB2 := hide (HBd.out.trans (h1.mono HBd.out.size)); clear h1))
      go_wp2
      go_roundw
      case rel => exact ⟨k + 1, by omega, by go_num, HB2⟩
      case measure => simp [intOf]; omega
    · obtain rfl : k = ln := by omega
      have hi : ¬ (k : Int) < (k : Int) := by omega
      go_wp2
      go_ret
      exact ⟨rfl, HB.out⟩
end Go.Proofs.Ytjifhmlfnnagcaa

namespace Go.Proofs.Ytjifhmlfnnagcaa
set_option linter.unusedSimpArgs false
set_option linter.unusedVariables false
open Go.RowKit Go.Maps

theorem least_nat {P : Nat → Prop} : ∀ n, P n → ∃ m, P m ∧ ∀ u, P u → m ≤ u := by
  intro n
  induction n using Nat.strongRecOn with
  | ind n ih =>
    intro hn
    rcases Classical.em (∃ k, k < n ∧ P k) with ⟨k, hk, hp⟩ | hno
    · exact ih k hk hp
    · exact ⟨n, hn, fun u hu => by
        rcases Nat.lt_or_ge u n with h | h
        · exact absurd ⟨u, h, hu⟩ hno
        · exact h⟩
theorem exists_home (n : Nat) (T : Nat → Nat → Bool) : ∃ H : Nat → Int, ∀ v, v < n → LeastOf (Ed n T) v (H v) := by
  have h : ∀ v, ∃ x : Int, LeastOf (Ed n T) v x := fun v => by
    obtain ⟨m, h1, h2⟩ := least_nat (P := fun u => Mut (Ed n T) v u) v (Mut.refl v)
    exact ⟨m, m, rfl, h1, h2⟩
  exact ⟨fun v => Classical.choose (h v), fun v _ => Classical.choose_spec (h v)⟩

def dOf (H : Nat → Int) (reps : List Nat) (v : Nat) : Bool := reps.contains (H v).toNat
theorem dOf_iff {H : Nat → Int} {reps : List Nat} {v : Nat} : dOf H reps v = true ↔ (H v).toNat ∈ reps := by unfold dOf; simp

theorem ready_iff {n : Nat} {es : List Edg} {f : Nat → Nat → Bool} {H : Nat → Int} {reps : List Nat} {a : Nat} (hf : ∀ i j, i < n → j < n → (f i j = true ↔ Wk (Ed n (lnkT es)) n i j)) (hH : ∀ v, v < n → LeastOf (Ed n (lnkT es)) v (H v)) (hin : ∀ x ∈ es, 0 ≤ x.f ∧ x.f < n ∧ 0 ≤ x.t ∧ x.t < n) (ha : a < n) :
    es.any (notReady f (dOf H reps) a) = false ↔ ReadyIn n (lnkT es) H reps (H a).toNat := by
  have hr := (home_self hH ha).2.1
  constructor
  · intro h u v hu hv hT hne hvr
    unfold lnkT at hT
    obtain ⟨x, hx, he⟩ := List.any_eq_true.1 hT
    unfold isE at he
    simp at he
    have h1 := List.any_eq_false.1 h x hx
    unfold notReady at h1
    rw [he.1, he.2, Int.toNat_natCast, Int.toNat_natCast, one_home hf hH hv ha, one_home hf hH hu ha] at h1
    have h2 : (H v == H a) = true := by rw [hvr, ← hr]; simp
    have h3 : (H u == H a) = false := by
      rw [beq_eq_false_iff_ne]
      intro e
      exact hne (by rw [e, hvr, ← hr])
    rw [h2, h3] at h1
    simp at h1
    exact dOf_iff.1 h1
  · intro h
    rw [List.any_eq_false]
    intro x hx hc
    obtain ⟨q1, q2, q3, q4⟩ := hin x hx
    unfold notReady at hc
    rw [one_home hf hH (show x.t.toNat < n by omega) ha, one_home hf hH (show x.f.toNat < n by omega) ha] at hc
    simp at hc
    obtain ⟨c1, c2, c3⟩ := hc
    have hT : lnkT es x.f.toNat x.t.toNat = true := by
      unfold lnkT
      refine List.any_eq_true.2 ⟨x, hx, ?_⟩
      unfold isE
      simp
      omega
    have := h x.f.toNat x.t.toNat (by omega) (by omega) hT (fun e => c2 (by rw [e, c1])) (by rw [c1]; exact hr)
    rw [dOf_iff.2 this] at c3
    cases c3

/-- Where the search stands: those below a are told or not ready. -/
structure RC (n : Nat) (T : Nat → Nat → Bool) (H : Nat → Int) (reps : List Nat) (a : Nat) : Prop where
  greedy : Greedy n T H reps
  low : ∀ q, q < a → (H q).toNat ∈ reps ∨ ¬ ReadyIn n T H reps (H q).toNat

theorem RC.start (n : Nat) (T : Nat → Nat → Bool) (H : Nat → Int) : RC n T H [] 0 := ⟨Greedy.nil _ _ _, fun q hq => absurd hq (Nat.not_lt_zero q)⟩
theorem RC.skip {n : Nat} {T : Nat → Nat → Bool} {H : Nat → Int} {reps : List Nat} {a : Nat} (h : RC n T H reps a) (hs : (H a).toNat ∈ reps ∨ ¬ ReadyIn n T H reps (H a).toNat) : RC n T H reps (a + 1) :=
  ⟨h.greedy, fun q hq => by
    rcases Nat.lt_or_ge q a with hlt | hge
    · exact h.low q hlt
    · obtain rfl : q = a := by omega
      exact hs⟩
theorem RC.home {n : Nat} {T : Nat → Nat → Bool} {H : Nat → Int} {reps : List Nat} {a : Nat} (h : RC n T H reps a) (hH : ∀ v, v < n → LeastOf (Ed n T) v (H v)) (ha : a < n) (hn : (H a).toNat ∉ reps) (hr : ReadyIn n T H reps (H a).toNat) : H a = a := by
  obtain ⟨h1, h2, h3, -⟩ := home_self hH ha
  obtain ⟨m, e, _, hmin⟩ := hH a ha
  have hle := hmin a (Mut.refl a)
  rcases Nat.lt_or_ge (H a).toNat a with hlt | hge
  · exfalso
    have e3 : (H (H a).toNat).toNat = (H a).toNat := by rw [h3, Int.toNat_natCast]
    rcases h.low _ hlt with h4 | h4
    · rw [e3] at h4; exact hn h4
    · rw [e3] at h4; exact h4 hr
  · omega
theorem RC.pick {n : Nat} {T : Nat → Nat → Bool} {H : Nat → Int} {reps : List Nat} {a : Nat} (h : RC n T H reps a) (hH : ∀ v, v < n → LeastOf (Ed n T) v (H v)) (ha : a < n) (hn : (H a).toNat ∉ reps) (hr : ReadyIn n T H reps (H a).toNat) : RC n T H (reps ++ [a]) 0 := by
  have hh := h.home hH ha hn hr
  have e : (H a).toNat = a := by rw [hh]; simp
  rw [e] at hn hr
  refine ⟨h.greedy.snoc ha hh hn hr fun q hq hHq hlt hnq hrq => ?_, fun q hq => absurd hq (Nat.not_lt_zero q)⟩
  have e2 : (H q).toNat = q := by rw [hHq]; simp
  rcases h.low q hlt with h4 | h4
  · rw [e2] at h4; exact hnq h4
  · rw [e2] at h4; exact h4 hrq
theorem RC.all {n : Nat} {T : Nat → Nat → Bool} {H : Nat → Int} {reps : List Nat} (h : RC n T H reps n) (hH : ∀ v, v < n → LeastOf (Ed n T) v (H v)) : ∀ q, q < n → H q = q → q ∈ reps :=
  stuck_none hH fun q hq hHq hnq hrq => by
    have e2 : (H q).toNat = q := by rw [hHq]; simp
    rcases h.low q hq with h4 | h4
    · rw [e2] at h4; exact hnq h4
    · rw [e2] at h4; exact h4 hrq
theorem RC.len {n : Nat} {T : Nat → Nat → Bool} {H : Nat → Int} {reps : List Nat} {a : Nat} (h : RC n T H reps a) : reps.length ≤ n := nd_len h.greedy.nd fun p hp => (h.greedy.rep p hp).1
theorem rc_meas {n L a : Nat} (h : L + 1 ≤ n) : (n - (L + 1)) * (n + 1) + (n - 0) < (n - L) * (n + 1) + (n - a) := by
  have e : n - L = (n - (L + 1)) + 1 := by omega
  rw [e, Nat.add_mul, Nat.one_mul]
  omega

/-- A list of numbers in a cell. -/
def elIL : El (Value × List Int) where
  cells p := [p.1]
  size := 1
  pos := by decide
  len _ := rfl
  ok w F p := Lst elInt w F p.1 p.2
  one h u hu := by
    simp only [List.mem_singleton] at hu
    obtain ⟨ao, cap, e, _⟩ := h.shape
    rw [hu, e]; rfl
  move h hm := Lst.move h hm
/-- The members of a component, as numbers. -/
def memI (H : Nat → Int) (n r : Nat) : List Int := (memL H n r).map fun (u : Nat) => (u : Int)
theorem memI_succ (H : Nat → Int) (k r : Nat) : memI H (k + 1) r = memI H k r ++ (if H k == (r : Int) then [(k : Int)] else []) := by
  unfold memI
  rw [memL_succ, List.map_append]
  split <;> simp
theorem memI_len (H : Nat → Int) (k r : Nat) : (memI H k r).length ≤ k := by
  unfold memI memL
  rw [List.length_map]
  exact Nat.le_trans (List.length_filter_le _ _) (by simp)
/-- What the document's Components answers. -/
def rcAns (w : World) (n : Nat) (es : List Edg) (e : Ending) (w' : World) : Prop :=
  ∃ (tv : Value) (H : Nat → Int) (reps : List Nat) (ps : List (Value × List Int)), e = .returned (.tuple #[tv, .int .i64 0]) ∧ (∀ v, v < n → LeastOf (Ed n (lnkT es)) v (H v)) ∧ Greedy n (lnkT es) H reps ∧ (∀ q, q < n → H q = q → q ∈ reps) ∧ Grow elIL 33 w.heap.size w' tv ps ∧ ps.map Prod.snd = reps.map (memI H n)
theorem grow_only {α : Type} {E : El α} {e : TypeId} {base gq : Nat} {w w' : World} {v : Value} {l : List α} (h : Grow E e base w v l) (ho : Only (fun b => b = gq) w w') (hq : gq < base) : Grow E e base w' v l :=
  h.above fun b hb hlt => ho.block b hlt fun e => by omega
end Go.Proofs.Ytjifhmlfnnagcaa

namespace Go.Proofs.Ytjifhmlfnnagcaa
set_option linter.unusedSimpArgs false
set_option linter.unusedVariables false
open Go.RowKit Go.Maps

theorem dOf_snoc {H : Nat → Int} {reps : List Nat} {a i : Nat} (hi : 0 ≤ H i) : dOf H (reps ++ [a]) i = (dOf H reps i || (H i == (a : Int))) := by
  rw [Bool.eq_iff_iff, dOf_iff, Bool.or_eq_true, dOf_iff, List.mem_append, List.mem_singleton, beq_iff_eq]
  constructor
  · rintro (h | h)
    · exact .inl h
    · right; omega
  · rintro (h | h)
    · exact .inl h
    · right; omega

set_option maxRecDepth 100000 in
set_option maxHeartbeats 4000000 in
theorem rcomps_fit {w : World} {v : Value} {es : List Edg} {n : Nat} (h : Has elEdg w v es) (hfit : fitP n es = true) :
    Calls Try.prog 7 #[.int .i64 n, v] w fun e w' => rcAns w n es e w' ∧ Below w.heap.size w w' := by
  have hn : n ≤ 128 := by have := (fit_in8 hfit).1; omega
  obtain ⟨ii, hii, hz0, hz1, hz2⟩ := info_parts Try.infoInt8
  obtain ⟨is, his, hs0, hs1, hs2⟩ := info_parts Try.infoSl8
  have hmk := fun W : World => run_make_row' (P := Try.prog) 43 4 (.bool false) 1 Try.underlying43 Try.infoBool8 rfl .i64 .i64 n (by omega) (by omega) W
  obtain ⟨va, vc, rfl, -, -, hlen⟩ := h.shape
  obtain ⟨H, hH⟩ := exists_home n (lnkT es)
  have HH := hide hH
  have HF := hide (rfit_any h n)
  rw [hfit] at HF
  have HFt := hide hfit
  have HIn := hide (fit_in8 hfit).2
  have HL := hide h
  obtain ⟨q, hq⟩ : ∃ q, es.length = q := ⟨_, rfl⟩
  rw [hq] at HL HF hlen ⊢
  clear h hfit hq hH
  go_enter Try.func7, Try.ntmps7
  go_wp2_with (first
    | (go_at_call 20; refine HF.out.mono ?_; rintro e W1 ⟨rfl, b1⟩; have HB1 := hide b1; have HR := hide (rreach_any (HL.out.kept b1) HFt.out); clear b1 HF)
    | (go_at_call 21; refine HR.out.mono ?_; rintro e W2 ⟨tv, gs, f, rfl, hgl, ht, hf, b2⟩; have HGl := hide hgl; have HT := hide ht; have HFf := hide hf; have HB2 := hide (HB1.out.trans (b2.mono HB1.out.size)); obtain ⟨ta, tc, htv, -, -⟩ := ht.grow.shape; rw [List.length_map, hgl] at htv; subst htv; clear hgl ht hf b2 HR))
  have HD0 : Hid ((W2.alloc (.cells (madeCells #[.bool false] n) 4)).rowIs W2.heap.size 4 n (fun i => .bool (dOf H [] i))) := (World.rowIs_made W2 (.bool false) n 4).congr fun i _ => by simp [dOf]
  have HB0 : Hid (Below W2.heap.size W2 (W2.alloc (.cells (madeCells #[.bool false] n) 4))) := belo1 _ _
  obtain ⟨gq, hgq⟩ : ∃ gq, W2.heap.size = gq := ⟨_, rfl⟩
  have HGq := hide hgq
  rw [hgq] at HD0
  try rw [hgq]
  clear hgq hmk HB1
  go_loopw [8, 9] (fun ov y wl => ∃ (a : Nat) (reps : List Nat) (ps : List (Value × List Int)), a ≤ n ∧ y = .int .i64 a ∧ Hid (RC n (lnkT es) H reps a) ∧ Hid (wl.rowIs gq 4 n (fun i => .bool (dOf H reps i))) ∧ Hid (Grow elIL 33 (gq + 1) wl ov ps) ∧ Hid (ps.map Prod.snd = reps.map (memI H n)) ∧ Hid (Below W2.heap.size W2 wl)) (fun ov y _ => (n - lenV ov) * (n + 1) + (n - (intOf y).toNat))
  case atStart => exact ⟨0, [], [], by omega, rfl, RC.start _ _ _, HD0, Grow.nil _ _ _ _, rfl, HB0⟩
  case round =>
    clear HD0 HB0
    obtain ⟨a, reps, ps, ha, rfl, HI, HD, HG, HP, HB⟩ := hrel
    have HPl : Hid (ps.length = reps.length) := by
      have := congrArg List.length HP.out
      rw [List.length_map, List.length_map] at this
      exact this
    obtain ⟨oa, oc, hov, -, -⟩ := HG.out.shape
    obtain ⟨L, hL⟩ : ∃ L, ps.length = L := ⟨_, rfl⟩
    rw [hL] at hov
    subst hov
    have HLl := hide hL
    have hLn : L ≤ n := by rw [← hL, HPl.out]; exact HI.out.len
    clear hL
    by_cases hlt : a < n
    · have ha1 : (a : Int) < (n : Int) := by omega
      have ha0 : (0 : Int) ≤ (a : Int) := by omega
      have d0 := HD.out.cell hlt
      have HBw : Hid (Below w.heap.size w wr) := HB2.out.trans (HB.out.mono HB2.out.size)
      cases hda : dOf H reps a with
      | true =>
        rw [hda] at d0
        have HIn2 := hide (HI.out.skip (.inl (dOf_iff.1 hda)))
        clear hda
        go_wp2
        go_roundw
        case rel => exact ⟨a + 1, reps, ps, by omega, by go_num, HIn2, HD, HG, HP, HB⟩
        case measure => simp [intOf, lenV]; omega
      | false =>
        rw [hda] at d0
        have HNd : Hid ((H a).toNat ∉ reps) := fun hm => by rw [dOf_iff.2 hm] at hda; cases hda
        have HRy := hide (ready_any (HT.out.kept HB.out) HGl.out hn (HL.out.kept HBw.out) HIn.out HD.out hlt)
        clear hda
        cases hrd : es.any (notReady f (dOf H reps) a) with
        | true =>
          rw [hrd] at HRy
          have HIn2 := hide (HI.out.skip (.inr fun hr => by rw [(ready_iff HFf.out HH.out HIn.out hlt).2 hr] at hrd; cases hrd))
          clear hrd
          go_wp2_with (go_at_call 22; refine HRy.out.mono ?_; rintro e W3 ⟨rfl, b3⟩; have HD3 := hide (HD.out.of_block (b3.block _ HD.out.lt)); have HG3 := hide (HG.out.kept b3); have HB3 := hide (HB.out.trans (b3.mono HB.out.size)); clear b3 HRy)
          go_roundw
          case rel => exact ⟨a + 1, reps, ps, by omega, by go_num, HIn2, HD3, HG3, HP, HB3⟩
          case measure => simp [intOf, lenV]; omega
        | false =>
          rw [hrd] at HRy
          have HRd := hide ((ready_iff HFf.out HH.out HIn.out hlt).1 hrd)
          have HHa := hide (HI.out.home HH.out hlt HNd.out HRd.out)
          have HIp := hide (HI.out.pick HH.out hlt HNd.out HRd.out)
          have hLn2 : L + 1 ≤ n := by
            have := HIp.out.len
            rw [List.length_append, ← HPl.out, HLl.out] at this
            simpa using this
          clear hrd
          go_wp2_with (go_at_call 22; refine HRy.out.mono ?_; rintro e V0 ⟨rfl, b3⟩; have HD3 : Hid (V0.rowIs gq 4 n (fun i => .bool (dOf H reps i || (decide (i < 0) && (H i == (a : Int)))))) := ((HD.out.of_block (b3.block _ HD.out.lt)).congr (fun i _ => by simp)); have HG3 := hide (HG.out.kept b3); have HB3 := hide (HB.out.trans (b3.mono HB.out.size)); have HSq : Hid (gq < V0.heap.size) := Nat.lt_of_lt_of_le HD.out.lt b3.size; clear b3 HRy HD HG HB HBw)
          go_loopw [10, 11] (fun lv y wl => ∃ b : Nat, b ≤ n ∧ y = .int .i64 b ∧ Hid (Grow elInt 3 V0.heap.size wl lv (memI H b a)) ∧ Hid (wl.rowIs gq 4 n (fun i => .bool (dOf H reps i || (decide (i < b) && (H i == (a : Int)))))) ∧ Hid (Only (fun k => k = gq) V0 wl)) (fun _ y _ => n - (intOf y).toNat)
          case atStart => exact ⟨0, by omega, rfl, by show Grow _ _ _ _ _ _; rw [show memI H 0 a = [] from rfl]; exact Grow.nil _ _ _ _, HD3, Only.refl _ _⟩
          case round =>
            clear HD3
            obtain ⟨b, hb, rfl, HGl2, HD, HO⟩ := hrel
            obtain ⟨xa, xc, hxv, -, -⟩ := HGl2.out.shape
            obtain ⟨K, hK⟩ : ∃ K, (memI H b a).length = K := ⟨_, rfl⟩
            have hKb : K ≤ n := by rw [← hK]; exact Nat.le_trans (memI_len H b a) hb
            rw [hK] at hxv
            subst hxv
            have HKl := hide hK
            clear hK
            by_cases hlb : b < n
            · have hb1 : (b : Int) < (n : Int) := by omega
              have hb0 : (0 : Int) ≤ (b : Int) := by omega
              have HBo : Hid (Below W2.heap.size W2 wr) := HB3.out.trans (HO.out.below HB3.out.size (fun k hk e => by rw [HGq.out] at hk; omega))
              have HOn := hide (one_any (HT.out.kept HBo.out) HGl.out hn hlt hlb)
              have hoh := one_home HFf.out HH.out hlt hlb
              rw [HHa.out] at hoh
              rw [hoh] at HOn
              have HSe : Hid (∀ x, (x == H b) = (H b == x)) := fun x => Bool.eq_iff_iff.2 ⟨fun h => beq_iff_eq.2 (beq_iff_eq.1 h).symm, fun h => beq_iff_eq.2 (beq_iff_eq.1 h).symm⟩
              have HMs := hide (memI_succ H b a)
              clear hoh
              cases hab : (H b == (a : Int)) with
              | false =>
                rw [show ((a : Int) == H b) = false by rw [HSe.out]; exact hab] at HOn
                have HMn : Hid (memI H (b + 1) a = memI H b a) := by show _ = _; rw [HMs.out, hab]; simp
                have HDn := hide (HD.out.congr (g := fun i => .bool (dOf H reps i || (decide (i < b + 1) && (H i == (a : Int))))) fun i _ => by
                  by_cases e : i = b
                  · subst e; rw [hab]; simp
                  · congr 2; congr 1; rw [decide_eq_decide]; omega)
                clear hab HD
                go_wp2_with (go_at_call 23; refine HOn.out.mono ?_; rintro e W4 ⟨rfl, b4⟩; have HD4 := hide (HDn.out.of_block (b4.block _ HDn.out.lt)); have HG4 := hide (HGl2.out.kept b4); have HO4 := hide (HO.out.trans (Only.of_below b4 _)); clear b4 HOn)
                go_roundw
                case rel => exact ⟨b + 1, by omega, by go_num, by rw [HMn.out]; exact HG4, HD4, HO4⟩
                case measure => simp [intOf]; omega
              | true =>
                rw [show ((a : Int) == H b) = true by rw [HSe.out]; exact hab] at HOn
                have HMn : Hid (memI H (b + 1) a = memI H b a ++ [(b : Int)]) := by show _ = _; rw [HMs.out, hab]; simp
                have HDn : Hid (∀ V : World, V.rowIs gq 4 n (fun i => .bool (dOf H reps i || (decide (i < b) && (H i == (a : Int))))) → (V.setCell ⟨gq, b, none⟩ (.bool true)).rowIs gq 4 n (fun i => .bool (dOf H reps i || (decide (i < b + 1) && (H i == (a : Int)))))) := fun V hV => (hV.set b (.bool true)).congr fun i _ => by
                  by_cases e : i = b
                  · subst e; rw [if_pos rfl, hab]; simp
                  · rw [if_neg e]; congr 2; congr 1; rw [decide_eq_decide]; omega
                clear hab
                go_wp2_with (first
                  | (go_at_call 23; refine HOn.out.mono ?_; rintro e W4 ⟨rfl, b4⟩; have hz4 := belo1 W4 (.cells #[.int .i64 (b : Int)] 3); have HD4 := hide ((HD.out.of_block (b4.block _ HD.out.lt)).of_block (hz4.block _ (Nat.lt_of_lt_of_le HD.out.lt b4.size))); have HG4 := hide ((HGl2.out.kept b4).kept hz4); have HO4 := hide ((HO.out.trans (Only.of_below b4 _)).alloc (.cells #[.int .i64 (b : Int)] 3)); clear b4 hz4 HOn HD HGl2 HO)
                  | (at_builtin; refine wpList_push (w0 := W4.alloc (.cells #[.int .i64 (b : Int)] 3)) elInt rfl _ _ 33 rfl V0.heap.size 3 ii _ 8 Try.underlying33 hii hz0 hz1 hz2 rfl (by decide) _ (memI H b a) K HKl.out rfl HG4.out (b : Int) W4.heap.size 1 rfl (fun j u hu => new_cells (w := W4) (cs := #[.int .i64 (b : Int)]) j u hu) ⟨by omega, by omega⟩ (by omega) (Below.refl _ _) HO4.out.size ?_; intro g5 c5 W5 HG5 HB5 HGr5; have hne5 : (Value.slice xa K xc).ownBlock ≠ some gq := (fun e => by have := own_new HG4.out.1 _ e; have := HSq.out; omega); have HD5 := hide (HD4.out.of_block (HGr5.out.block _ HD4.out.lt (fun e => hne5 e.symm))); have HO5 := hide (HO4.out.grown HGr5.out (fun k hk hlt => absurd (own_new HG4.out.1 k hk) (by omega))); have x5 := HD5.out.cell hlb; have x5f := HD5.out.frozen b; have HG6 := hide (growI_other (growI_ok HG5.out) HG5.out (grown_set W5 gq b (.bool true)) (.inr (fun e => by have := own_new HG5.out.1 _ e; have := HSq.out; omega))); have HD6 := hide (HDn.out W5 HD5.out); have HO6 := hide (HO5.out.setCell (p := ⟨gq, b, none⟩) rfl (.bool true)); clear hne5 HG4 HD4 HO4 HB5 HGr5 HG5 HD5 HO5))
                go_roundw
                case rel => exact ⟨b + 1, by omega, by go_num, by rw [HMn.out]; exact HG6, HD6, HO6⟩
                case measure => simp [intOf]; omega
            · obtain rfl : n = b := by omega
              have hb1 : ¬ (n : Int) < (n : Int) := by omega
              have HBo : Hid (Below W2.heap.size W2 wr) := HB3.out.trans (HO.out.below HB3.out.size (fun k hk e => by rw [HGq.out] at hk; omega))
              have HDn := hide (HD.out.congr (g := fun i => .bool (dOf H (reps ++ [a]) i)) fun i hi => by
                rw [dOf_snoc (by have := (home_self HH.out hi).2.1; omega), decide_eq_true hi, Bool.true_and])
              have hzo := belo1 wr (.cells #[.slice xa K xc] 33)
              have HGo := hide ((grow_only HG3.out HO.out (Nat.lt_succ_self gq)).kept hzo)
              have HDo := hide (HDn.out.of_block (hzo.block _ HDn.out.lt))
              have HBz := hide (HBo.out.alloc HBo.out.size (.cells #[.slice xa K xc] 33))
              have HEl : Hid (elIL.ok (wr.alloc (.cells #[.slice xa K xc] 33)) (fun k => gq + 1 ≤ k ∧ (Value.slice oa L oc).ownBlock ≠ some k) (.slice xa K xc, memI H n a)) := by
                refine Lst.move ((HGl2.out.kept hzo).new (by rw [HKl.out]; omega)) fun k hk hF => ⟨⟨Nat.le_trans HSq.out hF, fun e => ?_⟩, rfl⟩
                have := own_lt6 HG3.out.1 k e
                omega
              have HSz : Hid (gq + 1 ≤ (wr.alloc (.cells #[.slice xa K xc] 33)).heap.size) := Nat.le_trans (Nat.le_trans HSq.out HO.out.size) hzo.size
              clear hzo HD HDn HO HBo HGl2
              go_wp2_with (at_builtin; refine wpList_push (w0 := wr.alloc (.cells #[.slice xa K xc] 33)) elIL rfl _ _ 26 rfl (gq + 1) 33 is _ 24 Try.underlying26 his hs0 hs1 hs2 rfl (by decide) _ ps L HLl.out rfl HGo.out (.slice xa K xc, memI H n a) wr.heap.size 1 rfl (fun j u hu => new_cells (w := wr) (cs := #[.slice xa K xc]) j u hu) HEl.out (by omega) (Below.refl _ _) HSz.out ?_; intro g7 c7 W7 HG7 HB7 HGr7; have HD7 := hide (HDo.out.of_block (HGr7.out.block _ HDo.out.lt (fun e => by have := own_new HGo.out.1 _ e.symm; omega))); have HB8 := hide (HBz.out.trans (HB7.out.mono (by rw [HGq.out]; omega))); have HP7 : Hid ((ps ++ [(Value.slice xa K xc, memI H n a)]).map Prod.snd = (reps ++ [a]).map (memI H n)) := (by show _ = _; rw [List.map_append, List.map_append, HP.out]; rfl); clear HGo HDo HBz HEl HSz HB7 HGr7)
              go_roundw
              case rel => exact ⟨0, reps ++ [a], _, by omega, by go_num, HIp, HD7, HG7, HP7, HB8⟩
              case measure =>
                have := rc_meas (a := a) hLn2
                simpa [intOf, lenV] using this
    · obtain rfl : n = a := by omega
      have ha1 : ¬ (n : Int) < (n : Int) := by omega
      have HAns : Hid (Greedy n (lnkT es) H reps ∧ ∀ q, q < n → H q = q → q ∈ reps) := ⟨HI.out.greedy, HI.out.all HH.out⟩
      have HGw := hide (HG.out.mono (show w.heap.size ≤ gq + 1 by have := HB2.out.size; rw [HGq.out] at this; omega))
      have HBw : Hid (Below w.heap.size w wr) := HB2.out.trans (HB.out.mono HB2.out.size)
      go_wp2
      exact bodyPost_ret (v := .tuple #[.slice oa L oc, .int .i64 0]) (by simp [results, Try.results7, go_sem]) rfl ⟨⟨_, H, reps, ps, rfl, HH.out, HAns.out.1, HAns.out.2, HGw.out, HP.out⟩, HBw.out⟩
end Go.Proofs.Ytjifhmlfnnagcaa

namespace Go.Proofs.Ytjifhmlfnnagcaa
set_option linter.unusedSimpArgs false
set_option linter.unusedVariables false
open Go.RowKit Go.Maps

/-- What is left to raise. -/
def gapS (n : Nat) (L : Nat → Int) : Nat → Nat
  | 0 => 0
  | k + 1 => gapS n L k + (n - (L k).toNat)
def gapW (g n : Nat) (w : World) : Nat → Nat
  | 0 => 0
  | k + 1 => gapW g n w k + (n - (intOf ((w.cell? ⟨g, k, none⟩).getD (.int .i64 0))).toNat)
theorem gapW_eq {g n : Nat} {w : World} {L : Nat → Int} (h : w.rowIs g 3 n (fun i => .int .i64 (L i))) : ∀ k, k ≤ n → gapW g n w k = gapS n L k
  | 0, _ => rfl
  | k + 1, hk => by
    rw [gapW, gapS, gapW_eq h k (by omega), h.cell (show k < n by omega)]
    rfl
theorem gapS_le {n : Nat} {L M : Nat → Int} : ∀ k, (∀ i, i < k → L i ≤ M i) → gapS n M k ≤ gapS n L k
  | 0, _ => Nat.le_refl _
  | k + 1, h => by
    have h1 := gapS_le (n := n) k fun i hi => h i (by omega)
    have h2 := h k (by omega)
    rw [gapS, gapS]
    omega
theorem gapS_lt {n t : Nat} {L M : Nat → Int} (ht : L t < M t) (h0 : 0 ≤ L t) (hm : L t < n) : ∀ k, t < k → (∀ i, i < k → L i ≤ M i) → gapS n M k < gapS n L k
  | 0, hk, _ => by omega
  | k + 1, hk, h => by
    rw [gapS, gapS]
    by_cases e : t = k
    · subst e
      have h1 := gapS_le (n := n) t fun i hi => h i (by omega)
      omega
    · have h1 := gapS_lt ht h0 hm k (by omega) fun i hi => h i (by omega)
      have h2 := h k (by omega)
      omega
def updLv (L : Nat → Int) (t : Nat) (x : Int) (i : Nat) : Int := if i = t then x else L i
/-- What an edge asks for is there. -/
def lstL (L : Nat → Int) (x : Edg) : Int := if x.neg then L x.f.toNat + 1 else L x.f.toNat
def askLe (L : Nat → Int) (x : Edg) : Prop := lstL L x ≤ L x.t.toNat
structure RInv (n : Nat) (es : List Edg) (L : Nat → Int) : Prop where
  in_ : ∀ i, i < n → 0 ≤ L i ∧ L i < n
  low : ∀ f, Sol n (lnkT es) (lnkN es) f → ∀ i, i < n → L i ≤ f i
theorem sol_asks {n : Nat} {es : List Edg} {f : Nat → Int} (h : Sol n (lnkT es) (lnkN es) f) {x : Edg} (hx : x ∈ es) {kf kt : Nat} (e1 : x.f = kf) (e2 : x.t = kt) (hf : kf < n) (ht : kt < n) : lstL f x ≤ f kt := by
  unfold lstL
  rw [e1, Int.toNat_natCast]
  cases hg : x.neg with
  | true =>
    have hN : lnkN es kf kt = true := by
      unfold lnkN
      refine List.any_eq_true.2 ⟨x, hx, ?_⟩
      unfold isE
      simp [e1, e2, hg]
    have := h.lt kf kt hf ht hN
    simpa using this
  | false =>
    have := h.le kf kt hf ht (edge_lnk hx e1 e2)
    simpa using this
theorem lstL_mono {L f : Nat → Int} {x : Edg} (h : L x.f.toNat ≤ f x.f.toNat) : lstL L x ≤ lstL f x := by
  unfold lstL
  split <;> omega
theorem RInv.low_ask {n : Nat} {es : List Edg} {L : Nat → Int} (h : RInv n es L) {x : Edg} (hx : x ∈ es) {kf kt : Nat} (e1 : x.f = kf) (e2 : x.t = kt) (hf : kf < n) (ht : kt < n) : ∀ f, Sol n (lnkT es) (lnkN es) f → lstL L x ≤ f kt := fun f hs =>
  Int.le_trans (lstL_mono (by rw [e1, Int.toNat_natCast]; exact h.low f hs kf hf)) (sol_asks hs hx e1 e2 hf ht)
theorem RInv.raise {n : Nat} {es : List Edg} {L : Nat → Int} (h : RInv n es L) {x : Edg} (hx : x ∈ es) {kf kt : Nat} (e1 : x.f = kf) (e2 : x.t = kt) (hf : kf < n) (ht : kt < n) (hlt : L kt < lstL L x) (hn : lstL L x < n) : RInv n es (updLv L kt (lstL L x)) := by
  refine ⟨fun i hi => ?_, fun f hs i hi => ?_⟩
  · unfold updLv
    split
    · have := (h.in_ kt ht).1; omega
    · exact h.in_ i hi
  · unfold updLv
    split
    · rename_i e; subst e; exact h.low_ask hx e1 e2 hf ht f hs
    · exact h.low f hs i hi
theorem RInv.least {n : Nat} {es : List Edg} {L : Nat → Int} (h : RInv n es L) (ha : ∀ x ∈ es, askLe L x) : Least n (lnkT es) (lnkN es) L := by
  refine ⟨⟨fun u hu => (h.in_ u hu).1, fun u v hu hv e => ?_, fun u v hu hv e => ?_⟩, h.low⟩
  · obtain ⟨x, hx, e1, e2⟩ := lnk_edge e
    have := ha x hx
    unfold askLe lstL at this
    rw [e1, e2, Int.toNat_natCast, Int.toNat_natCast] at this
    split at this <;> omega
  · unfold lnkN at e
    obtain ⟨x, hx, e3⟩ := List.any_eq_true.1 e
    simp only [Bool.and_eq_true] at e3
    unfold isE at e3
    simp only [Bool.and_eq_true, beq_iff_eq] at e3
    have := ha x hx
    unfold askLe lstL at this
    rw [e3.1.1, e3.1.2, e3.2, Int.toNat_natCast, Int.toNat_natCast] at this
    simpa using this

def muL (g n : Nat) (ag : Value) (w : World) : Nat := 2 * gapW g n w n + (if boolOf ag then 1 else 0)
theorem muL_eq {g n : Nat} {w : World} {L : Nat → Int} (h : w.rowIs g 3 n (fun i => .int .i64 (L i))) (b : Bool) : muL g n (.bool b) w = 2 * gapS n L n + (if b then 1 else 0) := by
  unfold muL
  rw [gapW_eq h n (Nat.le_refl _)]
  rfl
-- WALK
/-- What the document's Levels answers. -/
def levAns (w : World) (n : Nat) (es : List Edg) (e : Ending) (w' : World) : Prop :=
  (∃ t, t < n ∧ (∀ f, Sol n (lnkT es) (lnkN es) f → (n : Int) ≤ f t) ∧ e = .returned (.tuple #[.slice none 0 0, .int .i64 40])) ∨ (∃ (g : Nat) (L : Nat → Int), e = .returned (.tuple #[.slice (some ⟨g, 0, none⟩) n n, .int .i64 0]) ∧ w'.rowIs g 3 n (fun i => .int .i64 (L i)) ∧ Least n (lnkT es) (lnkN es) L ∧ (∀ p, p < n → L p < n) ∧ w.heap.size ≤ g)
set_option maxRecDepth 100000 in
set_option maxHeartbeats 4000000 in
theorem rlevels_any {w : World} {v : Value} {es : List Edg} {n : Nat} (h : Has elEdg w v es) (hfit : fitP n es = true) :
    Calls Try.prog 13 #[.int .i64 (n : Int), v] w fun e w' => levAns w n es e w' ∧ Below w.heap.size w w' := by
  have hn : n ≤ 128 := by have := (fit_in8 hfit).1; omega
  have hmk := fun W : World => run_make_row' (P := Try.prog) 33 3 (.int .i64 0) 8 Try.underlying33 Try.infoInt8 rfl .i64 .i64 n (by omega) (by omega) W
  obtain ⟨va, vc, rfl, -, -, hlen⟩ := h.shape
  have HN := hide (fit_in8 hfit).2
  have HF := hide (rfit_any h n)
  rw [hfit] at HF
  have HL := hide h
  clear h hfit
  go_enter Try.func13, Try.ntmps13
  go_wp2_with (go_at_call 20; refine HF.out.mono ?_; rintro e W1 ⟨rfl, h1⟩; have HB1 := hide h1; clear h1)
  have HR0 : Hid ((W1.alloc (.cells (madeCells #[.int .i64 0] n) 3)).rowIs W1.heap.size 3 n (fun i => .int .i64 ((fun _ => 0 : Nat → Int) i))) := World.rowIs_made W1 (.int .i64 0) n 3
  have HB0 := hide (HB1.out.alloc HB1.out.size (.cells (madeCells #[.int .i64 0] n) 3))
  have HBg : Hid (w.heap.size ≤ W1.heap.size) := HB1.out.size
  have HI0 : Hid (RInv n es (fun _ => 0)) := ⟨fun i hi => ⟨Int.le_refl _, by show (0 : Int) < (n : Int); omega⟩, fun f hs i hi => hs.nn i hi⟩
  clear HF HB1 hmk
  go_loopw [7] (fun ag wl => ∃ (L : Nat → Int) (b : Bool), ag = .bool b ∧ Hid (wl.rowIs W1.heap.size 3 n (fun i => .int .i64 (L i))) ∧ Hid (RInv n es L ∧ (b = false → ∀ x ∈ es, askLe L x)) ∧ Hid (Below w.heap.size w wl)) (fun ag wl => muL W1.heap.size n ag wl)
  case atStart => exact ⟨fun _ => 0, true, rfl, HR0, ⟨HI0.out, fun h => by cases h⟩, HB0⟩
  case round =>
    clear HR0 HB0 HI0
    obtain ⟨L0, b0, rfl, HR0, HI0, HB0⟩ := hrel
    cases b0 with
    | false =>
      have HA := hide (HI0.out.1.least (HI0.out.2 rfl))
      have HAi := hide (fun p hp => (HI0.out.1.in_ p hp).2)
      go_wp2
      exact bodyPost_ret (v := .tuple #[.slice (some ⟨W1.heap.size, 0, none⟩) n n, .int .i64 0]) (by simp [results, Try.results13, go_sem]) rfl ⟨.inr ⟨_, L0, rfl, HR0.out, HA.out, HAi.out, HBg.out⟩, HB0.out⟩
    | true =>
      obtain ⟨N0, hN0⟩ : ∃ N0, gapS n L0 n = N0 := ⟨_, rfl⟩
      go_wp2
      have HMu : Hid (muL W1.heap.size n (.bool true) wr = 2 * N0 + 1) := by show _ = _; rw [muL_eq HR0.out, hN0]; rfl
      have HInv0 : Hid (RInv n es L0 ∧ (false = false → ∀ x ∈ es.take 0, askLe L0 x) ∧ (false = true → gapS n L0 n < N0) ∧ (false = false → gapS n L0 n ≤ N0)) := ⟨HI0.out.1, (fun _ x hx => by simp at hx), (fun h => by cases h), fun _ => by omega⟩
      clear hN0
      go_loopw [7, 8, 9] (fun ag y _ wl => ∃ (i : Nat) (L : Nat → Int) (b : Bool), i ≤ es.length ∧ y = .int .i64 (i : Int) ∧ ag = .bool b ∧ Hid (wl.rowIs W1.heap.size 3 n (fun i => .int .i64 (L i))) ∧ Hid (RInv n es L ∧ (b = false → ∀ x ∈ es.take i, askLe L x) ∧ (b = true → gapS n L n < N0) ∧ (b = false → gapS n L n ≤ N0)) ∧ Hid (Below w.heap.size w wl)) (fun _ y _ _ => es.length - (intOf y).toNat)
      case atStart => exact ⟨0, L0, false, by omega, rfl, rfl, HR0, HInv0, HB0⟩
      case round =>
        clear HR0 HI0 HB0 HInv0
        obtain ⟨i, L, ag, hil, rfl, rfl, HR, HInv, HB⟩ := hrel
        by_cases hlt2 : i < es.length
        · have hi1 : (i : Int) < (es.length : Int) := by omega
          have hi0 : (0 : Int) ≤ (i : Int) := by omega
          obtain ⟨b, off, rfl, -, -, hrow⟩ := HL.out.row (by omega)
          obtain ⟨x, hx⟩ : ∃ x, es[i]? = some x := ⟨_, List.getElem?_eq_getElem hlt2⟩
          have y0 := kept_cell HB.out (hrow i x hx 0 _ rfl)
          have y1 := kept_cell HB.out (hrow i x hx 1 _ rfl)
          have y2 := kept_cell HB.out (hrow i x hx 2 _ rfl)
          have y1n := hide (hrow i x hx 1 _ rfl)
          simp only [elEdg, Nat.add_zero] at y0 y1 y2 y1n
          obtain ⟨q1, q2, q3, q4⟩ := HN.out x (List.mem_of_getElem? hx)
          have HSnoc := hide (take_snoc8 hx)
          have HXm := hide (List.mem_of_getElem? hx)
          clear hrow hx
          obtain ⟨f, t, neg, r⟩ := x
          obtain ⟨kf, rfl⟩ : ∃ kf : Nat, f = kf := ⟨f.toNat, by dsimp only at q1; omega⟩
          obtain ⟨kt, rfl⟩ : ∃ kt : Nat, t = kt := ⟨t.toNat, by dsimp only at q3; omega⟩
          dsimp only at q1 q2 q3 q4 y0 y1 y2
          have hfk : kf < n := by omega
          have htk : kt < n := by omega
          have l0 := HR.out.cell hfk
          have l1 := HR.out.cell htk
          have l1f := HR.out.frozen kt
          have hbf := HInv.out.1.in_ kf hfk
          obtain ⟨xf, hxf⟩ : ∃ x, L kf = x := ⟨_, rfl⟩
          obtain ⟨xt, hxt⟩ : ∃ x, L kt = x := ⟨_, rfl⟩
          rw [hxf] at l0 hbf
          rw [hxt] at l1
          have hbf1 := hbf.1
          have hbf2 := hbf.2
          have HVals : Hid (L kf = xf ∧ L kt = xt) := ⟨hxf, hxt⟩
          clear hxf hxt hbf q1 q2 q3 q4
          cases neg with
          | true =>
            have HLs : Hid (lstL L ⟨kf, kt, true, r⟩ = xf + 1) := by show _ = _; unfold lstL; simp only [Int.toNat_natCast]; rw [HVals.out.1]; rfl
            have HLw : Hid (∀ f, Sol n (lnkT es) (lnkN es) f → xf + 1 ≤ f kt) := fun f hs => by rw [← HLs.out]; exact HInv.out.1.low_ask HXm.out rfl rfl hfk htk f hs
            by_cases hq : xt < xf + 1
            · have HRn : Hid ((wr.setCell ⟨W1.heap.size, kt, none⟩ (.int .i64 (xf + 1))).rowIs W1.heap.size 3 n (fun i => .int .i64 (updLv L kt (xf + 1) i))) := by
                refine (HR.out.set kt _).congr fun i _ => ?_
                unfold updLv
                split <;> simp_all
              have HBn : Hid (Below w.heap.size w (wr.setCell ⟨W1.heap.size, kt, none⟩ (.int .i64 (xf + 1)))) := HB.out.setCell HBg.out _
              by_cases hz : (n : Int) ≤ xf + 1
              · have HBad : Hid (∃ t, t < n ∧ ∀ f, Sol n (lnkT es) (lnkN es) f → (n : Int) ≤ f t) := ⟨kt, htk, fun f hs => Int.le_trans hz (HLw.out f hs)⟩
                go_wp2
                obtain ⟨t, ht, hf⟩ := HBad.out
                exact bodyPost_ret (v := .tuple #[.slice none 0 0, .int .i64 40]) (by simp [results, Try.results13, go_sem]) rfl ⟨.inl ⟨t, ht, hf, rfl⟩, HBn.out⟩
              · have HInv2 : Hid (RInv n es (updLv L kt (xf + 1)) ∧ (true = false → ∀ x ∈ es.take (i + 1), askLe (updLv L kt (xf + 1)) x) ∧ (true = true → gapS n (updLv L kt (xf + 1)) n < N0) ∧ (true = false → gapS n (updLv L kt (xf + 1)) n ≤ N0)) := by
                  have hin := HInv.out.1.in_ kt htk
                  have h1 : gapS n (updLv L kt (xf + 1)) n < gapS n L n := gapS_lt (t := kt) (by unfold updLv; rw [if_pos rfl, HVals.out.2]; exact hq) hin.1 hin.2 n htk fun j hj => by
                    unfold updLv
                    split
                    · rename_i e; rw [e, HVals.out.2]; omega
                    · exact Int.le_refl _
                  refine ⟨?_, (fun h => by cases h), fun _ => ?_, (fun h => by cases h)⟩
                  · rw [← HLs.out]; exact HInv.out.1.raise HXm.out rfl rfl hfk htk (by rw [HLs.out, HVals.out.2]; exact hq) (by rw [HLs.out]; omega)
                  · cases hag : ag with
                    | true => have := HInv.out.2.2.1 hag; omega
                    | false => have := HInv.out.2.2.2 hag; omega
                go_wp2
                go_roundw
                case rel => exact ⟨i + 1, updLv L kt (xf + 1), true, by omega, by go_num, rfl, HRn, HInv2, HBn⟩
                case measure => simp [intOf]; omega
            · have hz : ¬ (n : Int) ≤ xf + 1 := by have := (HInv.out.1.in_ kt htk).2; rw [HVals.out.2] at this; omega
              have HInv2 : Hid (RInv n es L ∧ (ag = false → ∀ x ∈ es.take (i + 1), askLe L x) ∧ (ag = true → gapS n L n < N0) ∧ (ag = false → gapS n L n ≤ N0)) := ⟨HInv.out.1, fun hag x hx => by
                rw [HSnoc.out] at hx
                rcases List.mem_append.1 hx with h4 | h4
                · exact HInv.out.2.1 hag x h4
                · simp only [List.mem_singleton] at h4
                  subst h4
                  unfold askLe
                  rw [HLs.out]
                  simp only [Int.toNat_natCast]
                  rw [HVals.out.2]
                  omega, HInv.out.2.2⟩
              go_wp2
              go_roundw
              case rel => exact ⟨i + 1, L, ag, by omega, by go_num, rfl, HR, HInv2, HB⟩
              case measure => simp [intOf]; omega
          | false =>
            have HLs : Hid (lstL L ⟨kf, kt, false, r⟩ = xf) := by show _ = _; unfold lstL; simp only [Int.toNat_natCast]; rw [HVals.out.1]; simp
            have HLw : Hid (∀ f, Sol n (lnkT es) (lnkN es) f → xf ≤ f kt) := fun f hs => by rw [← HLs.out]; exact HInv.out.1.low_ask HXm.out rfl rfl hfk htk f hs
            by_cases hq : xt < xf
            · have HRn : Hid ((wr.setCell ⟨W1.heap.size, kt, none⟩ (.int .i64 (xf))).rowIs W1.heap.size 3 n (fun i => .int .i64 (updLv L kt (xf) i))) := by
                refine (HR.out.set kt _).congr fun i _ => ?_
                unfold updLv
                split <;> simp_all
              have HBn : Hid (Below w.heap.size w (wr.setCell ⟨W1.heap.size, kt, none⟩ (.int .i64 (xf)))) := HB.out.setCell HBg.out _
              by_cases hz : (n : Int) ≤ xf
              · exact absurd hz (by omega)
              · have HInv2 : Hid (RInv n es (updLv L kt (xf)) ∧ (true = false → ∀ x ∈ es.take (i + 1), askLe (updLv L kt (xf)) x) ∧ (true = true → gapS n (updLv L kt (xf)) n < N0) ∧ (true = false → gapS n (updLv L kt (xf)) n ≤ N0)) := by
                  have hin := HInv.out.1.in_ kt htk
                  have h1 : gapS n (updLv L kt (xf)) n < gapS n L n := gapS_lt (t := kt) (by unfold updLv; rw [if_pos rfl, HVals.out.2]; exact hq) hin.1 hin.2 n htk fun j hj => by
                    unfold updLv
                    split
                    · rename_i e; rw [e, HVals.out.2]; omega
                    · exact Int.le_refl _
                  refine ⟨?_, (fun h => by cases h), fun _ => ?_, (fun h => by cases h)⟩
                  · rw [← HLs.out]; exact HInv.out.1.raise HXm.out rfl rfl hfk htk (by rw [HLs.out, HVals.out.2]; exact hq) (by rw [HLs.out]; omega)
                  · cases hag : ag with
                    | true => have := HInv.out.2.2.1 hag; omega
                    | false => have := HInv.out.2.2.2 hag; omega
                go_wp2
                go_roundw
                case rel => exact ⟨i + 1, updLv L kt (xf), true, by omega, by go_num, rfl, HRn, HInv2, HBn⟩
                case measure => simp [intOf]; omega
            · have hz : ¬ (n : Int) ≤ xf := by have := (HInv.out.1.in_ kt htk).2; rw [HVals.out.2] at this; omega
              have HInv2 : Hid (RInv n es L ∧ (ag = false → ∀ x ∈ es.take (i + 1), askLe L x) ∧ (ag = true → gapS n L n < N0) ∧ (ag = false → gapS n L n ≤ N0)) := ⟨HInv.out.1, fun hag x hx => by
                rw [HSnoc.out] at hx
                rcases List.mem_append.1 hx with h4 | h4
                · exact HInv.out.2.1 hag x h4
                · simp only [List.mem_singleton] at h4
                  subst h4
                  unfold askLe
                  rw [HLs.out]
                  simp only [Int.toNat_natCast]
                  rw [HVals.out.2]
                  omega, HInv.out.2.2⟩
              go_wp2
              go_roundw
              case rel => exact ⟨i + 1, L, ag, by omega, by go_num, rfl, HR, HInv2, HB⟩
              case measure => simp [intOf]; omega
        · obtain rfl : i = es.length := by omega
          have hi1 : ¬ (es.length : Int) < (es.length : Int) := by omega
          have HIv := HInv.out
          rw [List.take_of_length_le (Nat.le_refl _)] at HIv
          have HI2 := hide HIv
          clear HIv
          go_wp2
          go_roundw
          case rel => exact ⟨L, ag, rfl, HR, ⟨HI2.out.1, HI2.out.2.1⟩, HB⟩
          case measure =>
            rw [HMu.out, muL_eq HR.out]
            cases ag with
            | true => have := HI2.out.2.2.1 rfl; simp; omega
            | false => have := HI2.out.2.2.2 rfl; simp; omega
end Go.Proofs.Ytjifhmlfnnagcaa

namespace Go.Proofs.Ytjifhmlfnnagcaa
set_option linter.unusedSimpArgs false
set_option linter.unusedVariables false

theorem pig_len : ∀ (l m : List Nat), l.Nodup → (∀ x ∈ l, x ∈ m) → l.length ≤ m.length
  | [], m, _, _ => Nat.zero_le _
  | a :: l, m, hn, hs => by
    have ha : a ∈ m := hs a (List.mem_cons_self ..)
    have hn2 := List.nodup_cons.1 hn
    have h1 := pig_len l (m.erase a) hn2.2 fun x hx => (List.mem_erase_of_ne (fun e => hn2.1 (by rw [← e]; exact hx))).2 (hs x (List.mem_cons_of_mem _ hx))
    rw [List.length_erase_of_mem ha] at h1
    have : 0 < m.length := List.length_pos_of_mem ha
    rw [List.length_cons]
    omega
theorem Least.small {n : Nat} {T N : Nat → Nat → Bool} {X : Nat → Int} (h : Least n T N X) : ∀ u, u < n → X u < n := by
  intro u hu
  rcases Int.lt_or_le (X u) n with h0 | h0
  · exact h0
  · exfalso
    rcases Classical.em (∃ c : Nat, c < n ∧ ∀ v, v < n → X v ≠ c) with ⟨c, hc, hv⟩ | hno
    · have hs : Sol n T N (fun v => if (c : Int) < X v then X v - 1 else X v) := by
        refine ⟨fun a ha => ?_, fun a b ha hb e => ?_, fun a b ha hb e => ?_⟩
        · have := h.nn a ha; split <;> omega
        · have h1 := h.le a b ha hb e; have h2 := hv a ha; have h3 := hv b hb; split <;> split <;> omega
        · have h1 := h.lt a b ha hb e; have h2 := hv a ha; have h3 := hv b hb; split <;> split <;> omega
      have h1 := h.least _ hs u hu
      rw [if_pos (by omega)] at h1
      omega
    · have h1 := pig_len ((X u).toNat :: List.range n) ((List.range n).map fun v => (X v).toNat) (List.nodup_cons.2 ⟨fun hm => by have := List.mem_range.1 hm; omega, List.nodup_range⟩) fun x hx => by
        rcases List.mem_cons.1 hx with rfl | hx
        · exact List.mem_map.2 ⟨u, List.mem_range.2 hu, rfl⟩
        · rcases Classical.em (∃ v, v < n ∧ X v = (x : Int)) with ⟨v, hv, e⟩ | hn2
          · exact List.mem_map.2 ⟨v, List.mem_range.2 hv, by rw [e]; simp⟩
          · exact absurd ⟨x, List.mem_range.1 hx, fun v hv e => hn2 ⟨v, hv, e⟩⟩ hno
      simp at h1
      omega
end Go.Proofs.Ytjifhmlfnnagcaa

namespace Go.Proofs.Ytjifhmlfnnagcaa
set_option linter.unusedSimpArgs false
set_option linter.unusedVariables false
open Go.RowKit Go.Maps

def turnE (x : Edg) : Edg := ⟨x.t, x.f, !x.neg, x.r⟩
theorem Grow.front {α : Type} {E : El α} {e : TypeId} {base : Nat} {w : World} {g cap n : Nat} {l m : List α} (h : Grow E e base w (.slice (some ⟨g, 0, none⟩) n cap) (l ++ m)) : Grow E e base w (.slice (some ⟨g, 0, none⟩) l.length cap) l := by
  have hn := grow_num h
  subst hn
  refine ⟨⟨flatE_len E l, ?_⟩, fun x hx => h.2 x (List.mem_append.2 (.inl hx))⟩
  rcases h.1.2 with ⟨h4, _⟩ | ⟨g', cap', cur', h4, h5, h6, h7, h8, h9, h10⟩
  · cases h4
  · simp only [Value.slice.injEq, Option.some.injEq, Addr.mk.injEq, and_true, true_and] at h4
    obtain ⟨rfl, rfl⟩ := h4
    rw [List.length_append] at h7 h10
    refine .inr ⟨g, cap, cur', rfl, h5, h6, by omega, h8, h9, ?_⟩
    have h11 := congrArg (List.take (l.length * E.size)) h10
    rw [List.take_take, Nat.min_eq_left (Nat.mul_le_mul_right _ (by omega)), List.flatMap_append, List.take_left' (flatE_len E l)] at h11
    exact h11
theorem turns_succ {l : List Edg} {i : Nat} {x : Edg} (hx : l[i]? = some x) : ((l.take i).map turnE ++ l.drop i).set i (turnE x) = (l.take (i + 1)).map turnE ++ l.drop (i + 1) := by
  have hi := (List.getElem?_eq_some_iff.1 hx).1
  have hlen : ((l.take i).map turnE).length = i := by rw [List.length_map, List.length_take]; omega
  rw [List.set_append_right _ _ (by omega), hlen, Nat.sub_self, take_snoc8 hx, List.drop_eq_getElem_cons hi, List.set_cons_zero]
  simp
theorem turns_at {l : List Edg} {i : Nat} {x : Edg} (hx : l[i]? = some x) : ((l.take i).map turnE ++ l.drop i)[i]? = some x := by
  have hi := (List.getElem?_eq_some_iff.1 hx).1
  have hlen : ((l.take i).map turnE).length = i := by rw [List.length_map, List.length_take]; omega
  rw [List.getElem?_append_right (by omega), hlen, Nat.sub_self, List.getElem?_drop, Nat.add_zero, hx]

set_option maxRecDepth 100000 in
set_option maxHeartbeats 2000000 in
theorem turn_any {base : Nat} {w : World} {v : Value} {l : List Edg} (h : Grow elEdg 25 base w v l) (hl : l.length ≤ 1048576) :
    Calls Try.prog 12 #[v] w fun e w' => e = .returned (.tuple #[]) ∧ Grow elEdg 25 base w' v (l.map turnE) ∧ Below base w w' := by
  obtain ⟨a1, c1, hv1, -, -⟩ := h.shape
  obtain ⟨n, hn⟩ : ∃ n, l.length = n := ⟨_, rfl⟩
  rw [hn] at hv1 hl
  subst hv1
  have HN := hide hn
  have HG := hide h
  clear h hn
  go_enter Try.func12, Try.ntmps12
  go_wp2
  go_loopw [2] (fun y wl => ∃ i : Nat, i ≤ n ∧ y = .int .i64 i ∧ Hid (Grow elEdg 25 base wl (.slice a1 n c1) ((l.take i).map turnE ++ l.drop i)) ∧ Hid (Below base w wl)) (fun y _ => n - (intOf y).toNat)
  case atStart => exact ⟨0, by omega, rfl, by rw [List.take_zero, List.map_nil, List.drop_zero, List.nil_append]; exact HG, Below.refl _ _⟩
  case round =>
    clear HG
    obtain ⟨i, hi, rfl, HG, HB⟩ := hrel
    have HLn : Hid (((l.take i).map turnE ++ l.drop i).length = n) := by show _ = _; rw [List.length_append, List.length_map, List.length_take, List.length_drop, HN.out]; omega
    by_cases hlt : i < n
    · have hi1 : (i : Int) < (n : Int) := by omega
      have hi0 : (0 : Int) ≤ (i : Int) := by omega
      obtain ⟨x, hx⟩ : ∃ x, l[i]? = some x := ⟨_, List.getElem?_eq_getElem (by rw [HN.out]; exact hlt)⟩
      obtain ⟨g, cap, hgv, hbg, -⟩ := HG.out.1.form (by rw [HLn.out]; omega)
      rw [HLn.out] at hgv
      cases hgv
      obtain ⟨⟨y0, y1, y2, y3⟩, hf⟩ := edg_at HG.out (turns_at hx)
      have f0 := hf (i * 4)
      have f1 := hf (i * 4 + 1)
      have f2 := hf (i * 4 + 2)
      have f3 := hf (i * 4 + 3)
      have hok : I64 x.f ∧ I64 x.t ∧ I64 x.r := HG.out.2 x (List.mem_of_getElem? (turns_at hx))
      obtain ⟨hs, -⟩ := HG.out.setEdg i (y := turnE x) ⟨hok.2.1, hok.1, hok.2.2⟩
      rw [turns_succ hx] at hs
      have HS := hide hs
      have HBg := hide hbg
      clear hs hx hf hbg hok
      go_upto_region 3 with fail
      refine wp_region_last (by kernel_rfl) (fun V => V.cell? ⟨g, i * 4, none⟩ = some (.int .i64 x.f) ∧ V.cell? ⟨g, i * 4 + 1, none⟩ = some (.int .i64 x.t) ∧ V.cell? ⟨g, i * 4 + 2, none⟩ = some (.bool x.neg) ∧ V.cell? ⟨g, i * 4 + 3, none⟩ = some (.int .i64 x.r)) 25 ?_
      have HS1 : wr.drew.cell? ⟨g, i * 4, none⟩ = some (.int .i64 x.f) ∧ wr.drew.cell? ⟨g, i * 4 + 1, none⟩ = some (.int .i64 x.t) ∧ wr.drew.cell? ⟨g, i * 4 + 2, none⟩ = some (.bool x.neg) ∧ wr.drew.cell? ⟨g, i * 4 + 3, none⟩ = some (.int .i64 x.r) := ⟨y0, y1, y2, y3⟩
      refine wpAnyM_take (i := 0) (v := ?_) rfl (by kernel_rfl) (by kernel_rfl) (by kernel_rfl) (by kernel_rfl) (fun _ _ _ h => h) HS1 (Or.inl ⟨by rfl, ?_⟩) ?_
      rotate_left
      · (intro w hSw; (try dsimp only at hSw); go_simp; try with_reducible rfl)
      simp only [Act.put, List.setIfInBounds_toArray, List.set_cons_zero, List.set_cons_succ]
      refine wpAnyM_take (i := 1) (v := ?_) rfl (by kernel_rfl) (by kernel_rfl) (by kernel_rfl) (by kernel_rfl) (fun _ _ _ h => h) HS1 (Or.inl ⟨by rfl, ?_⟩) ?_
      rotate_left
      · (intro w hSw; (try dsimp only at hSw); go_simp; try with_reducible rfl)
      simp only [Act.put, List.setIfInBounds_toArray, List.set_cons_zero, List.set_cons_succ]
      refine wpAnyM_take (i := 2) (v := ?_) rfl (by kernel_rfl) (by kernel_rfl) (by kernel_rfl) (by kernel_rfl) (fun _ _ _ h => h) HS1 (Or.inl ⟨by rfl, ?_⟩) ?_
      rotate_left
      · (intro w hSw; (try dsimp only at hSw); go_simp; try with_reducible rfl)
      simp only [Act.put, List.setIfInBounds_toArray, List.set_cons_zero, List.set_cons_succ]
      refine wpAnyM_take (i := 3) (v := ?_) rfl (by kernel_rfl) (by kernel_rfl) (by kernel_rfl) (by kernel_rfl) (fun _ _ _ h => h) HS1 (Or.inl ⟨by rfl, ?_⟩) ?_
      rotate_left
      · (intro w hSw; (try dsimp only at hSw); go_simp; try with_reducible rfl)
      simp only [Act.put, List.setIfInBounds_toArray, List.set_cons_zero, List.set_cons_succ]
      refine wpAnyM_take (i := 4) (v := ?_) rfl (by kernel_rfl) (by kernel_rfl) (by kernel_rfl) (by kernel_rfl) (fun _ _ _ h => h) HS1 (Or.inl ⟨by rfl, ?_⟩) ?_
      rotate_left
      · (intro w hSw; (try dsimp only at hSw); go_simp; try with_reducible rfl)
      simp only [Act.put, List.setIfInBounds_toArray, List.set_cons_zero, List.set_cons_succ]
      refine wpAnyM_take (i := 5) (v := ?_) rfl (by kernel_rfl) (by kernel_rfl) (by kernel_rfl) (by kernel_rfl) (fun _ _ _ h => h) HS1 (Or.inl ⟨by rfl, ?_⟩) ?_
      rotate_left
      · (intro w hSw; (try dsimp only at hSw); go_simp; try with_reducible rfl)
      simp only [Act.put, List.setIfInBounds_toArray, List.set_cons_zero, List.set_cons_succ]
      refine wpAnyM_take (i := 6) (v := ?_) rfl (by kernel_rfl) (by kernel_rfl) (by kernel_rfl) (by kernel_rfl) (fun _ _ _ h => h) HS1 (Or.inl ⟨by rfl, ?_⟩) ?_
      rotate_left
      · (intro w hSw; (try dsimp only at hSw); go_simp; try with_reducible rfl)
      simp only [Act.put, List.setIfInBounds_toArray, List.set_cons_zero, List.set_cons_succ]
      refine wpAnyM_take (i := 7) (v := ?_) rfl (by kernel_rfl) (by kernel_rfl) (by kernel_rfl) (by kernel_rfl) (fun _ _ _ h => h) HS1 (Or.inl ⟨by rfl, ?_⟩) ?_
      rotate_left
      · (intro w hSw; (try dsimp only at hSw); go_simp; try with_reducible rfl)
      simp only [Act.put, List.setIfInBounds_toArray, List.set_cons_zero, List.set_cons_succ]
      refine wpAnyM_take (i := 8) (v := ?_) rfl (by kernel_rfl) (by kernel_rfl) (by kernel_rfl) (by kernel_rfl) (fun _ _ _ h => h) HS1 (Or.inl ⟨by rfl, ?_⟩) ?_
      rotate_left
      · (intro w hSw; (try dsimp only at hSw); go_simp; try with_reducible rfl)
      simp only [Act.put, List.setIfInBounds_toArray, List.set_cons_zero, List.set_cons_succ]
      refine wpAnyM_take (i := 9) (v := ?_) rfl (by kernel_rfl) (by kernel_rfl) (by kernel_rfl) (by kernel_rfl) (fun _ _ _ h => h) HS1 (Or.inl ⟨by rfl, ?_⟩) ?_
      rotate_left
      · (intro w hSw; (try dsimp only at hSw); go_simp; try with_reducible rfl)
      simp only [Act.put, List.setIfInBounds_toArray, List.set_cons_zero, List.set_cons_succ]
      refine wpAnyM_take (i := 10) (v := ?_) rfl (by kernel_rfl) (by kernel_rfl) (by kernel_rfl) (by kernel_rfl) (fun _ _ _ h => h) HS1 (Or.inl ⟨by rfl, ?_⟩) ?_
      rotate_left
      · (intro w hSw; (try dsimp only at hSw); go_simp; try with_reducible rfl)
      simp only [Act.put, List.setIfInBounds_toArray, List.set_cons_zero, List.set_cons_succ]
      refine wpAnyM_take (i := 11) (v := ?_) rfl (by kernel_rfl) (by kernel_rfl) (by kernel_rfl) (by kernel_rfl) (fun _ _ _ h => h) HS1 (Or.inl ⟨by rfl, ?_⟩) ?_
      rotate_left
      · (intro w hSw; (try dsimp only at hSw); go_simp; try with_reducible rfl)
      simp only [Act.put, List.setIfInBounds_toArray, List.set_cons_zero, List.set_cons_succ]
      refine wpAnyM_take (i := 12) (v := ?_) rfl (by kernel_rfl) (by kernel_rfl) (by kernel_rfl) (by kernel_rfl) (fun _ _ _ h => h) HS1 (Or.inl ⟨by rfl, ?_⟩) ?_
      rotate_left
      · (intro w hSw; (try dsimp only at hSw); go_simp; try with_reducible rfl)
      simp only [Act.put, List.setIfInBounds_toArray, List.set_cons_zero, List.set_cons_succ]
      refine wpAnyM_take (i := 13) (v := ?_) rfl (by kernel_rfl) (by kernel_rfl) (by kernel_rfl) (by kernel_rfl) (fun _ _ _ h => h) HS1 (Or.inl ⟨by rfl, ?_⟩) ?_
      rotate_left
      · (intro w hSw; (try dsimp only at hSw); go_simp; try with_reducible rfl)
      simp only [Act.put, List.setIfInBounds_toArray, List.set_cons_zero, List.set_cons_succ]
      refine wpAnyM_take (i := 14) (v := ?_) rfl (by kernel_rfl) (by kernel_rfl) (by kernel_rfl) (by kernel_rfl) (fun _ _ _ h => h) HS1 (Or.inl ⟨by rfl, ?_⟩) ?_
      rotate_left
      · (intro w hSw; (try dsimp only at hSw); go_simp; try with_reducible rfl)
      simp only [Act.put, List.setIfInBounds_toArray, List.set_cons_zero, List.set_cons_succ]
      refine wpAnyM_take (i := 15) (v := ?_) rfl (by kernel_rfl) (by kernel_rfl) (by kernel_rfl) (by kernel_rfl) (fun _ _ _ h => h) HS1 (Or.inl ⟨by rfl, ?_⟩) ?_
      rotate_left
      · (intro w hSw; (try dsimp only at hSw); go_simp; try with_reducible rfl)
      simp only [Act.put, List.setIfInBounds_toArray, List.set_cons_zero, List.set_cons_succ]
      refine wpAnyM_take (i := 16) (v := ?_) rfl (by kernel_rfl) (by kernel_rfl) (by kernel_rfl) (by kernel_rfl) (fun _ _ _ h => h) HS1 (Or.inl ⟨by rfl, ?_⟩) ?_
      rotate_left
      · (intro w hSw; (try dsimp only at hSw); go_simp; try with_reducible rfl)
      simp only [Act.put, List.setIfInBounds_toArray, List.set_cons_zero, List.set_cons_succ]
      refine wpAnyM_take (i := 17) (v := ?_) rfl (by kernel_rfl) (by kernel_rfl) (by kernel_rfl) (by kernel_rfl) (fun _ _ _ h => h) HS1 (Or.inl ⟨by rfl, ?_⟩) ?_
      rotate_left
      · (intro w hSw; (try dsimp only at hSw); go_simp; try with_reducible rfl)
      simp only [Act.put, List.setIfInBounds_toArray, List.set_cons_zero, List.set_cons_succ]
      refine wpAnyM_take (i := 18) (v := ?_) rfl (by kernel_rfl) (by kernel_rfl) (by kernel_rfl) (by kernel_rfl) (fun _ _ _ h => h) HS1 (Or.inl ⟨by rfl, ?_⟩) ?_
      rotate_left
      · (intro w hSw; (try dsimp only at hSw); go_simp; try with_reducible rfl)
      simp only [Act.put, List.setIfInBounds_toArray, List.set_cons_zero, List.set_cons_succ]
      refine wpAnyM_take (i := 19) (v := ?_) rfl (by kernel_rfl) (by kernel_rfl) (by kernel_rfl) (by kernel_rfl) (fun _ _ _ h => h) HS1 (Or.inl ⟨by rfl, ?_⟩) ?_
      rotate_left
      · (intro w hSw; (try dsimp only at hSw); go_simp; try with_reducible rfl)
      simp only [Act.put, List.setIfInBounds_toArray, List.set_cons_zero, List.set_cons_succ]
      refine wpAnyM_take (i := 20) (v := ?_) rfl (by kernel_rfl) (by kernel_rfl) (by kernel_rfl) (by kernel_rfl) (fun _ _ _ h => h) HS1 (Or.inl ⟨by rfl, ?_⟩) ?_
      rotate_left
      · (intro w hSw; (try dsimp only at hSw); go_simp; try with_reducible rfl)
      simp only [Act.put, List.setIfInBounds_toArray, List.set_cons_zero, List.set_cons_succ]
      refine wpAnyM_take (i := 21) (v := ?_) rfl (by kernel_rfl) (by kernel_rfl) (by kernel_rfl) (by kernel_rfl) (fun _ _ _ h => h) HS1 (Or.inl ⟨by rfl, ?_⟩) ?_
      rotate_left
      · (intro w hSw; (try dsimp only at hSw); go_simp; try with_reducible rfl)
      simp only [Act.put, List.setIfInBounds_toArray, List.set_cons_zero, List.set_cons_succ]
      refine wpAnyM_take (i := 22) (v := ?_) rfl (by kernel_rfl) (by kernel_rfl) (by kernel_rfl) (by kernel_rfl) (fun _ _ _ h => h) HS1 (Or.inl ⟨by rfl, ?_⟩) ?_
      rotate_left
      · (intro w hSw; (try dsimp only at hSw); go_simp; try with_reducible rfl)
      simp only [Act.put, List.setIfInBounds_toArray, List.set_cons_zero, List.set_cons_succ]
      refine wpAnyM_take (i := 23) (v := ?_) rfl (by kernel_rfl) (by kernel_rfl) (by kernel_rfl) (by kernel_rfl) (fun _ _ _ h => h) HS1 (Or.inl ⟨by rfl, ?_⟩) ?_
      rotate_left
      · (intro w hSw; (try dsimp only at hSw); go_simp; try with_reducible rfl)
      simp only [Act.put, List.setIfInBounds_toArray, List.set_cons_zero, List.set_cons_succ]
      refine wpAnyM_take (i := 24) (v := ?_) rfl (by kernel_rfl) (by kernel_rfl) (by kernel_rfl) (by kernel_rfl) (fun _ _ _ h => h) HS1 (Or.inl ⟨by rfl, ?_⟩) ?_
      rotate_left
      · (intro w hSw; (try dsimp only at hSw); go_simp; try with_reducible rfl)
      simp only [Act.put, List.setIfInBounds_toArray, List.set_cons_zero, List.set_cons_succ]
      refine wpAnyM_end (by kernel_rfl) rfl (by kernel_rfl) (fun K hK => ?_)
      go_simp
      refine hK.out _ _ ?_
      clear hK K
      go_wp2
      go_roundw
      case rel => exact ⟨i + 1, by omega, by go_num, HS, (((HB.out.drew.setCell HBg.out _).setCell HBg.out _).setCell HBg.out _).setCell HBg.out _⟩
      case measure => simp [intOf]; omega
    · obtain rfl : n = i := by omega
      have hi1 : ¬ (n : Int) < (n : Int) := by omega
      have HG2 : Hid (Grow elEdg 25 base wr (.slice a1 n c1) (l.map turnE)) := by
        have := HG.out
        rw [List.take_of_length_le (by rw [HN.out]; exact Nat.le_refl _), List.drop_eq_nil_of_le (by rw [HN.out]; exact Nat.le_refl _), List.append_nil] at this
        exact this
      go_wp2
      go_end0
      exact ⟨rfl, HG2.out, HB.out⟩
end Go.Proofs.Ytjifhmlfnnagcaa

namespace Go.Proofs.Ytjifhmlfnnagcaa
set_option linter.unusedSimpArgs false
set_option linter.unusedVariables false
open Go.RowKit Go.Maps

theorem row_grow {w : World} {g n base : Nat} {X : Nat → Int} (h : w.rowIs g 3 n (fun i => .int .i64 (X i))) (hX : ∀ i, i < n → I64 (X i)) (hn : n ≤ 128) (hg : base ≤ g) : Grow elInt 3 base w (.slice (some ⟨g, 0, none⟩) n n) ((List.range n).map X) := by
  obtain ⟨c, h1, h2, h3⟩ := h
  have hf : ∀ m : List Int, m.flatMap elInt.cells = m.map (Value.int .i64) := fun m => by
    induction m with
    | nil => rfl
    | cons a r ih => rw [List.flatMap_cons, ih]; rfl
  refine Grow.of_own (n := n) (by simp) ⟨by rw [hf]; simp [elInt], .inr ⟨g, n, c, rfl, hg, h1, Nat.le_refl _, by unfold maxLen; omega, by rw [h2]; simp [elInt], ?_⟩⟩ ?_
  · rw [hf]
    apply List.ext_getElem?
    intro i
    rcases Nat.lt_or_ge i n with hi | hi
    · rw [List.getElem?_take_of_lt (by simp [elInt]; exact hi), Array.getElem?_toList, h3 i hi, List.getElem?_map, List.getElem?_map, List.getElem?_range hi]
      rfl
    · rw [List.getElem?_eq_none (by simp [elInt]; omega), List.getElem?_eq_none (by simp; omega)]
  · intro x hx V F
    obtain ⟨u, hu, rfl⟩ := List.mem_map.1 hx
    exact hX u (List.mem_range.1 hu)

/-- What strata.Levels answers. -/
def LevIs (n : Int) (es : List Edg) (er : Int) (L : List Int) : Prop :=
  (fitP n es = false ∧ er = 2 ∧ L = []) ∨ (fitP n es = true ∧ HasBad n.toNat es ∧ er = 40 ∧ L = []) ∨ (fitP n es = true ∧ er = 0 ∧ ∃ X, Least n.toNat (lnkT es) (lnkN es) X ∧ L = (List.range n.toNat).map X)
/-- What the document's Levels answers. -/
def RLv (n : Int) (es : List Edg) (er : Int) (L : List Int) : Prop :=
  (fitP n es = false ∧ er = 2 ∧ L = []) ∨ (fitP n es = true ∧ er = 40 ∧ L = [] ∧ ∃ t, t < n.toNat ∧ ∀ f, Sol n.toNat (lnkT es) (lnkN es) f → (n.toNat : Int) ≤ f t) ∨ (fitP n es = true ∧ er = 0 ∧ ∃ X, Least n.toNat (lnkT es) (lnkN es) X ∧ L = (List.range n.toNat).map X)

theorem bad_sol {n : Nat} {es : List Edg} {X : Nat → Int} (hin : ∀ x ∈ es, 0 ≤ x.f ∧ x.f < n ∧ 0 ≤ x.t ∧ x.t < n) (hb : HasBad n es) (hX : Sol n (lnkT es) (lnkN es) X) : False := by
  obtain ⟨x, hx, hn, hm⟩ := hb
  obtain ⟨q1, q2, q3, q4⟩ := hin x hx
  have hl : lnkN es x.f.toNat x.t.toNat = true := by
    unfold lnkN
    refine List.any_eq_true.2 ⟨x, hx, ?_⟩
    unfold isE
    simp [hn]
    omega
  have h1 := hX.lt x.f.toNat x.t.toNat (by omega) (by omega) hl
  have h2 := hX.reach hm.2
  omega
theorem fit_nat {n : Int} {es : List Edg} (h : fitP n es = true) : ((n.toNat : Nat) : Int) = n ∧ n.toNat ≤ 128 ∧ ∀ x ∈ es, 0 ≤ x.f ∧ x.f < (n.toNat : Int) ∧ 0 ≤ x.t ∧ x.t < (n.toNat : Int) := by
  have h0 : 0 ≤ n := by unfold fitP at h; simp at h; exact h.1
  obtain ⟨k, rfl⟩ := Int.eq_ofNat_of_zero_le h0
  have h1 := fit_in8 h
  simp only [Int.toNat_natCast]
  exact ⟨trivial, by have := h1.1; omega, h1.2⟩
theorem lev_meet {n : Int} {es : List Edg} {e1 e2 : Int} {L1 L2 : List Int} (h : LevIs n es e1 L1) (k : RLv n es e2 L2) : e1 = e2 ∧ L1 = L2 := by
  rcases h with ⟨h1, rfl, rfl⟩ | ⟨h1, h2, rfl, rfl⟩ | ⟨h1, rfl, X, hX, rfl⟩
  · rcases k with ⟨k1, rfl, rfl⟩ | ⟨k1, _⟩ | ⟨k1, _⟩
    · exact ⟨rfl, rfl⟩
    · rw [h1] at k1; cases k1
    · rw [h1] at k1; cases k1
  · rcases k with ⟨k1, _⟩ | ⟨k1, rfl, rfl, _⟩ | ⟨k1, rfl, Y, hY, rfl⟩
    · rw [h1] at k1; cases k1
    · exact ⟨rfl, rfl⟩
    · exact (bad_sol (fit_nat h1).2.2 h2 hY.toSol).elim
  · rcases k with ⟨k1, _⟩ | ⟨k1, rfl, rfl, t, ht, hs⟩ | ⟨k1, rfl, Y, hY, rfl⟩
    · rw [h1] at k1; cases k1
    · have h3 := hX.small t ht
      have h4 := hs X hX.toSol
      omega
    · refine ⟨rfl, List.map_congr_left fun u hu => ?_⟩
      exact hX.uniq hY u (List.mem_range.1 hu)
theorem lev_two {er : Int} {L : List Int} (h : LevIs 2 [⟨0, 1, true, 0⟩] er L) : er = 0 ∧ L = [0, 1] := by
  have hf : fitP 2 [⟨0, 1, true, 0⟩] = true := by decide
  have hs : Sol (2 : Int).toNat (lnkT [⟨0, 1, true, 0⟩]) (lnkN [⟨0, 1, true, 0⟩]) (fun v => (v : Int)) := by
    refine ⟨fun u _ => by omega, fun u v _ _ e => ?_, fun u v _ _ e => ?_⟩
    · simp [lnkT, isE] at e; omega
    · simp [lnkN, isE] at e; omega
  rcases h with ⟨h1, _⟩ | ⟨h1, h2, _⟩ | ⟨h1, rfl, X, hX, rfl⟩
  · rw [hf] at h1; cases h1
  · exact (bad_sol (fit_nat h1).2.2 h2 hs).elim
  · have a0 := hX.least _ hs 0 (by decide)
    have a1 := hX.least _ hs 1 (by decide)
    have b0 := hX.nn 0 (by decide)
    have b1 := hX.lt 0 1 (by decide) (by decide) (by simp [lnkN, isE])
    refine ⟨rfl, ?_⟩
    have c0 : X 0 = 0 := by simp at a0; omega
    have c1 : X 1 = 1 := by simp at a1; omega
    show [X 0, X 1] = _
    rw [c0, c1]

set_option maxHeartbeats 1000000 in
theorem slevels_any {w : World} {v : Value} {es : List Edg} (n : Int) (h : Has elEdg w v es) :
    Calls Try.prog 14 #[.int .i64 n, v] w fun e w' => ∃ v' er L, e = .returned (.tuple #[v', .int .i64 er]) ∧ Grow elInt 3 w.heap.size w' v' L ∧ LevIs n es er L ∧ L.length ≤ 128 ∧ Below w.heap.size w w' := by
  cases hf : fitP n es with
  | true =>
    obtain ⟨h1, h2, -⟩ := fit_nat hf
    have hfn : fitP ((n.toNat : Nat) : Int) es = true := by rw [h1]; exact hf
    have hc := levels_fit2 h hfn
    rw [h1] at hc
    refine hc.mono fun e w' ⟨ha, hb⟩ => ?_
    rcases ha with ⟨h3, rfl⟩ | ⟨h3, g, X, rfl, h4, h5, h6, h7⟩
    · exact ⟨_, 40, [], rfl, Grow.nil _ _ _ _, .inr (.inl ⟨hf, h3, rfl, rfl⟩), by simp, hb⟩
    · exact ⟨_, 0, _, rfl, row_grow h4 (fun i hi => by have := h5.nn i hi; have := h6 i hi; exact ⟨by omega, by omega⟩) h2 h7, .inr (.inr ⟨hf, rfl, X, h5, rfl⟩), by simp; omega, hb⟩
  | false =>
    obtain ⟨va, vc, rfl, -, -, hlen⟩ := h.shape
    have HF := hide (fit_any h n)
    rw [hf] at HF
    have HFt := hide hf
    clear h hf
    go_enter Try.func14, Try.ntmps14
    go_wp2_with (go_at_call 24; refine HF.out.mono ?_; rintro e w1 ⟨rfl, h1⟩; have HB1 := hide h1; clear h1)
    exact bodyPost_ret (v := .tuple #[.slice none 0 0, .int .i64 2]) (by simp [results, Try.results14, go_sem]) rfl ⟨_, 2, [], rfl, Grow.nil _ _ _ _, .inl ⟨HFt.out, rfl, rfl⟩, by simp, HB1.out⟩

set_option maxHeartbeats 1000000 in
theorem rlevels_all {w : World} {v : Value} {es : List Edg} (n : Int) (h : Has elEdg w v es) :
    Calls Try.prog 13 #[.int .i64 n, v] w fun e w' => ∃ v' er L, e = .returned (.tuple #[v', .int .i64 er]) ∧ Grow elInt 3 w.heap.size w' v' L ∧ RLv n es er L ∧ L.length ≤ 128 ∧ Below w.heap.size w w' := by
  cases hf : fitP n es with
  | true =>
    obtain ⟨h1, h2, -⟩ := fit_nat hf
    have hfn : fitP ((n.toNat : Nat) : Int) es = true := by rw [h1]; exact hf
    have hc := rlevels_any h hfn
    rw [h1] at hc
    refine hc.mono fun e w' ⟨ha, hb⟩ => ?_
    rcases ha with ⟨t, h3, h4, rfl⟩ | ⟨g, X, rfl, h4, h5, h6, h7⟩
    · exact ⟨_, 40, [], rfl, Grow.nil _ _ _ _, .inr (.inl ⟨hf, rfl, rfl, t, h3, h4⟩), by simp, hb⟩
    · exact ⟨_, 0, _, rfl, row_grow h4 (fun i hi => by have := h5.nn i hi; have := h6 i hi; exact ⟨by omega, by omega⟩) h2 h7, .inr (.inr ⟨hf, rfl, X, h5, rfl⟩), by simp; omega, hb⟩
  | false =>
    obtain ⟨va, vc, rfl, -, -, hlen⟩ := h.shape
    have HF := hide (rfit_any h n)
    rw [hf] at HF
    have HFt := hide hf
    clear h hf
    go_enter Try.func13, Try.ntmps13
    go_wp2_with (go_at_call 20; refine HF.out.mono ?_; rintro e w1 ⟨rfl, h1⟩; have HB1 := hide h1; clear h1)
    exact bodyPost_ret (v := .tuple #[.slice none 0 0, .int .i64 2]) (by simp [results, Try.results13, go_sem]) rfl ⟨_, 2, [], rfl, Grow.nil _ _ _ _, .inl ⟨HFt.out, rfl, rfl⟩, by simp, HB1.out⟩

theorem apart_symm {u v : Value} (h : u.ownBlock = none ∨ u.ownBlock ≠ v.ownBlock) : v.ownBlock = none ∨ v.ownBlock ≠ u.ownBlock := by
  rcases h with h | h
  · rcases Option.eq_none_or_eq_some v.ownBlock with h3 | ⟨k, h3⟩
    · exact .inl h3
    · exact .inr (by rw [h, h3]; exact fun e => by cases e)
  · exact .inr (Ne.symm h)
theorem own_laterI {α β : Type} {E : El α} {D : El β} {e1 e2 : TypeId} {b1 b2 : Nat} {W1 W2 : World} {v1 v2 : Value} {l1 : List α} {l2 : List β} (h1 : Grow E e1 b1 W1 v1 l1) (h2 : Grow D e2 b2 W2 v2 l2) (hb : W1.heap.size ≤ b2) : v1.ownBlock = none ∨ v1.ownBlock ≠ v2.ownBlock := by
  rcases Option.eq_none_or_eq_some v1.ownBlock with h3 | ⟨k, h3⟩
  · exact .inl h3
  · exact .inr fun e => by have h4 := own_lt6 h1.1 k h3; have h5 := own_new h2.1 k (by rw [← e]; exact h3); omega
theorem alo_three {base : Nat} {W : World} {v1 v2 v3 : Value} {l1 l2 l3 : List Int} (g1 : Grow elInt 3 base W v1 l1) (g2 : Grow elInt 3 base W v2 l2) (g3 : Grow elInt 3 base W v3 l3) (n1 : l1.length ≤ 1048576) (n2 : l2.length ≤ 1048576) (n3 : l3.length ≤ 1048576)
    (h12 : v1.ownBlock = none ∨ v1.ownBlock ≠ v2.ownBlock) (h13 : v1.ownBlock = none ∨ v1.ownBlock ≠ v3.ownBlock) (h23 : v2.ownBlock = none ∨ v2.ownBlock ≠ v3.ownBlock) :
    Alo base W.heap.size (W.alloc (.cells #[v1, v2, v3] 33)) [v1, v2, v3] 0 ∧ Apt W.heap.size [v1, v2, v3] := by
  have hcs : ∀ (i : Nat) (v : Value), [v1, v2, v3][i]? = some v → (i = 0 ∧ v = v1) ∨ (i = 1 ∧ v = v2) ∨ (i = 2 ∧ v = v3) := fun i v hi => by
    match i with
    | 0 => exact .inl ⟨rfl, (Option.some.inj hi).symm⟩
    | 1 => exact .inr (.inl ⟨rfl, (Option.some.inj hi).symm⟩)
    | 2 => exact .inr (.inr ⟨rfl, (Option.some.inj hi).symm⟩)
    | (k + 3) => simp at hi
  have hb := belo1 W (.cells #[v1, v2, v3] 33)
  refine ⟨⟨fun i v hi => ?_, fun i v hi => ?_⟩, ⟨fun i v hi => ?_, fun i j u v hne hi hj => ?_⟩⟩
  · have := new_cells (w := W) (cs := #[v1, v2, v3]) (t := 33) i v (by simpa using hi)
    exact this
  · rcases hcs i v hi with ⟨_, rfl⟩ | ⟨_, rfl⟩ | ⟨_, rfl⟩
    · exact ⟨l1, g1.kept hb, n1, fun h => absurd h (Nat.not_lt_zero _)⟩
    · exact ⟨l2, g2.kept hb, n2, fun h => absurd h (Nat.not_lt_zero _)⟩
    · exact ⟨l3, g3.kept hb, n3, fun h => absurd h (Nat.not_lt_zero _)⟩
  · intro e
    rcases hcs i v hi with ⟨_, rfl⟩ | ⟨_, rfl⟩ | ⟨_, rfl⟩
    · have := own_lt6 g1.1 _ e; omega
    · have := own_lt6 g2.1 _ e; omega
    · have := own_lt6 g3.1 _ e; omega
  · rcases hcs i u hi with ⟨rfl, rfl⟩ | ⟨rfl, rfl⟩ | ⟨rfl, rfl⟩ <;> rcases hcs j v hj with ⟨rfl, rfl⟩ | ⟨rfl, rfl⟩ | ⟨rfl, rfl⟩
    · exact absurd rfl hne
    · exact h12
    · exact h13
    · exact apart_symm h12
    · exact absurd rfl hne
    · exact h23
    · exact apart_symm h13
    · exact apart_symm h23
    · exact absurd rfl hne
theorem alone_onlyN {base b c N : Nat} {w : World} {vs : List Value} (h : Alo base b w vs 0) (hA : Apt b vs) (hN : vs.length = N) (hl : N ≤ 1048576) (hb : base ≤ w.heap.size) :
    Calls Try.prog 11 #[.slice (some ⟨b, 0, none⟩) N c] w fun e w' => e = .returned (.bool true) ∧ Below base w w' ∧ Only (ownS vs) w w' := by
  subst hN
  exact alone_only h hA hl hb
theorem alone_len {base b c N : Nat} {w : World} {vs : List Value} (h : Alo base b w vs 0) (hA : Apt b vs) (hN : vs.length = N) (hl : N ≤ 1048576) (hb : base ≤ w.heap.size) :
    Calls Try.prog 11 #[.slice (some ⟨b, 0, none⟩) N c] w fun e w' => e = .returned (.bool true) ∧ Below base w w' := by
  subst hN
  exact alone_any h hA hl hb
end Go.Proofs.Ytjifhmlfnnagcaa

namespace Go.Proofs.Ytjifhmlfnnagcaa
set_option linter.unusedSimpArgs false
set_option linter.unusedVariables false
open Go.RowKit Go.Maps

/-- The components, each as a list, in order; or the refusal. -/
def CmpIs (n : Int) (es : List Edg) (er : Int) (ls : List (List Int)) : Prop :=
  (fitP n es = false ∧ er = 2 ∧ ls = []) ∨ (fitP n es = true ∧ er = 0 ∧ ∃ (H : Nat → Int) (reps : List Nat), (∀ v, v < n.toNat → LeastOf (Ed n.toNat (lnkT es)) v (H v)) ∧ Greedy n.toNat (lnkT es) H reps ∧ (∀ q, q < n.toNat → H q = q → q ∈ reps) ∧ ls = reps.map (memI H n.toNat))

theorem memI_congr {H H' : Nat → Int} {n : Nat} (h : ∀ v, v < n → H v = H' v) (r : Nat) : memI H n r = memI H' n r := by
  unfold memI memL
  congr 1
  exact List.filter_congr fun v hv => by rw [h v (List.mem_range.1 hv)]
theorem cmp_meet {n : Int} {es : List Edg} {e1 e2 : Int} {L1 L2 : List (List Int)} (h : CmpIs n es e1 L1) (k : CmpIs n es e2 L2) : e1 = e2 ∧ L1 = L2 := by
  rcases h with ⟨h1, rfl, rfl⟩ | ⟨h1, rfl, H, reps, a1, a2, a3, rfl⟩
  · rcases k with ⟨_, rfl, rfl⟩ | ⟨k1, _⟩
    · exact ⟨rfl, rfl⟩
    · rw [h1] at k1; cases k1
  · rcases k with ⟨k1, _⟩ | ⟨_, rfl, H', reps', b1, b2, b3, rfl⟩
    · rw [h1] at k1; cases k1
    · have he := home_uniq a1 b1
      obtain rfl := greedy_uniq he a2 b2 a3 b3
      exact ⟨rfl, List.map_congr_left fun r _ => memI_congr he r⟩
theorem cmp_small {n : Int} {es : List Edg} {er : Int} {ls : List (List Int)} (h : CmpIs n es er ls) : ls.length ≤ 128 ∧ ∀ l ∈ ls, 0 < l.length ∧ l.length ≤ 128 := by
  rcases h with ⟨_, _, rfl⟩ | ⟨h1, _, H, reps, a1, a2, a3, rfl⟩
  · exact ⟨by simp, by simp⟩
  · have hn := (fit_nat h1).2.1
    refine ⟨by rw [List.length_map]; exact Nat.le_trans (nd_len a2.nd fun p hp => (a2.rep p hp).1) hn, fun l hl => ?_⟩
    obtain ⟨r, hr, rfl⟩ := List.mem_map.1 hl
    obtain ⟨r1, r2⟩ := a2.rep r hr
    have hm : r ∈ memL H n.toNat r := mem_memL.2 ⟨r1, r2⟩
    have := List.length_pos_of_mem hm
    have := memI_len H n.toNat r
    unfold memI at this ⊢
    rw [List.length_map] at this ⊢
    omega
theorem three_reach {n : Nat} {a b : Nat} (h : Reach (Ed n (lnkT [⟨0, 1, false, 0⟩])) a b) : a = b ∨ (a = 0 ∧ b = 1) := by
  induction h with
  | refl => exact .inl rfl
  | tail _ e ih =>
    have := e.2.2
    simp [lnkT, isE] at this
    rcases ih with rfl | ⟨rfl, rfl⟩
    · right; omega
    · omega
theorem cmp_three {er : Int} {ls : List (List Int)} (h : CmpIs 3 [⟨0, 1, false, 0⟩] er ls) : er = 0 ∧ ls.length = 3 := by
  have hf : fitP 3 [⟨0, 1, false, 0⟩] = true := by decide
  rcases h with ⟨h1, _⟩ | ⟨h1, rfl, H, reps, a1, a2, a3, rfl⟩
  · rw [hf] at h1; cases h1
  · refine ⟨rfl, ?_⟩
    have hq : ∀ q, q < 3 → q ∈ reps := fun q hq => a3 q hq (by
      obtain ⟨m, e, hm, _⟩ := a1 q hq
      have h2 := three_reach hm.1
      have h3 := three_reach hm.2
      omega)
    have h4 := nd_len a2.nd fun p hp => (a2.rep p hp).1
    have h5 := pig_len [0, 1, 2] reps (by decide) (fun x hx => hq x (by simp at hx; omega))
    rw [List.length_map]
    have h6 : (3 : Int).toNat = 3 := rfl
    rw [h6] at h4
    simp at h5
    omega

/-- Lists of one's own in a list of one's own. -/
structure Cps (base : Nat) (w : World) (tv : Value) (vs : List Value) (ls : List (List Int)) : Prop where
  out : Grow elSl 33 base w tv vs
  len : vs.length = ls.length
  own : ∀ (i : Nat) (v : Value), vs[i]? = some v → ∃ l, ls[i]? = some l ∧ Grow elInt 3 base w v l
  apt : ∀ (i : Nat) (v : Value), vs[i]? = some v → ∀ b, v.ownBlock = some b → tv.ownBlock ≠ some b
  pw : ∀ (i j : Nat) (u v : Value), i ≠ j → vs[i]? = some u → vs[j]? = some v → u.ownBlock = none ∨ u.ownBlock ≠ v.ownBlock

theorem Cps.kept {base : Nat} {w w' : World} {tv : Value} {vs : List Value} {ls : List (List Int)} (h : Cps base w tv vs ls) (hb : Below w.heap.size w w') : Cps base w' tv vs ls :=
  ⟨h.out.kept hb, h.len, fun i v hi => by obtain ⟨l, h1, h2⟩ := h.own i v hi; exact ⟨l, h1, h2.kept hb⟩, h.apt, h.pw⟩
theorem Cps.mono {base base' : Nat} {w : World} {tv : Value} {vs : List Value} {ls : List (List Int)} (h : Cps base w tv vs ls) (hb : base' ≤ base) : Cps base' w tv vs ls :=
  ⟨h.out.mono hb, h.len, fun i v hi => by obtain ⟨l, h1, h2⟩ := h.own i v hi; exact ⟨l, h1, h2.mono hb⟩, h.apt, h.pw⟩
theorem Cps.nil (base : Nat) (w : World) : Cps base w (.slice none 0 0) [] [] := ⟨Grow.nil _ _ _ _, rfl, fun i v hi => by simp at hi, fun i v hi => by simp at hi, fun i j u v _ hi => by simp at hi⟩
theorem flat_sl (l : List Value) : l.flatMap elSl.cells = l := by
  induction l with
  | nil => rfl
  | cons a r ih => rw [List.flatMap_cons, ih]; rfl
theorem flat_nv (l : List Nat) : (l.map fun (u : Nat) => (u : Int)).flatMap elInt.cells = l.map nv := by
  induction l with
  | nil => rfl
  | cons a r ih => rw [List.map_cons, List.flatMap_cons, ih]; rfl
theorem CompsAt.cps {base : Nat} {w : World} {n : Nat} {T : Nat → Nat → Bool} {H : Nat → Int} {reps : List Nat} {M : Nat → Value} {tv : Value} (h : CompsAt base w n T H reps M tv) (hn : n ≤ 128) (hs : ∀ r ∈ reps, (M r).oneCell' = true) : Cps base w tv (reps.map M) (reps.map (memI H n)) := by
  have hat : ∀ (i : Nat) (v : Value), (reps.map M)[i]? = some v → ∃ r, reps[i]? = some r ∧ r < n ∧ v = M r := fun i v hi => by
    rw [List.getElem?_map] at hi
    cases hr : reps[i]? with
    | none => rw [hr] at hi; cases hi
    | some r => rw [hr] at hi; exact ⟨r, rfl, (h.greedy.rep r (List.mem_of_getElem? hr)).1, (Option.some.inj hi).symm⟩
  refine ⟨⟨by rw [flat_sl]; rw [List.length_map]; exact h.told.own, fun x hx => ?_⟩, by simp, fun i v hi => ?_, fun i v hi b hb => ?_, fun i j u v hne hi hj => ?_⟩
  · obtain ⟨r, hr, rfl⟩ := List.mem_map.1 hx
    exact hs r hr
  · obtain ⟨r, hr, hrn, rfl⟩ := hat i v hi
    refine ⟨memI H n r, by rw [List.getElem?_map, hr]; rfl, Grow.of_own (n := (memL H n r).length) (by unfold memI; simp) (by unfold memI; rw [flat_nv]; exact h.told.lst r hrn) fun x hx V F => ?_⟩
    unfold memI at hx
    obtain ⟨u, hu, rfl⟩ := List.mem_map.1 hx
    have := (mem_memL.1 hu).1
    exact ⟨by omega, by omega⟩
  · obtain ⟨r, hr, hrn, rfl⟩ := hat i v hi
    exact h.told.tdis r hrn b hb
  · obtain ⟨r, hr, hrn, rfl⟩ := hat i u hi
    obtain ⟨s, hs, hsn, rfl⟩ := hat j v hj
    have hrs : r ≠ s := fun e => by
      subst e
      obtain ⟨p1, p2⟩ := List.getElem?_eq_some_iff.1 hr
      obtain ⟨p3, p4⟩ := List.getElem?_eq_some_iff.1 hs
      have hp := List.pairwise_iff_getElem.1 h.greedy.nd
      rcases Nat.lt_or_gt_of_ne hne with hlt | hlt
      · exact hp i j p1 p3 hlt (p2.trans p4.symm)
      · exact hp j i p3 p1 hlt (p4.trans p2.symm)
    rcases Option.eq_none_or_eq_some (M r).ownBlock with h3 | ⟨k, h3⟩
    · exact .inl h3
    · exact .inr fun e => h.told.dis r s hrn hsn hrs k h3 (by rw [← e]; exact h3)

set_option maxHeartbeats 1000000 in
theorem scomps_any {w : World} {v : Value} {es : List Edg} (n : Int) (h : Has elEdg w v es) :
    Calls Try.prog 8 #[.int .i64 n, v] w fun e w' => ∃ tv er vs ls, e = .returned (.tuple #[tv, .int .i64 er]) ∧ Cps w.heap.size w' tv vs ls ∧ CmpIs n es er ls ∧ Below w.heap.size w w' := by
  cases hf : fitP n es with
  | true =>
    obtain ⟨h1, h2, -⟩ := fit_nat hf
    have hfn : fitP ((n.toNat : Nat) : Int) es = true := by rw [h1]; exact hf
    have hc := components_fit h hfn
    rw [h1] at hc
    refine hc.mono fun e w' ⟨tv, H, reps, M, he, ha, hb⟩ => ?_
    have hs : ∀ r ∈ reps, (M r).oneCell' = true := fun r hr => by
      obtain ⟨ao, c, e, _⟩ := own_shape6 (ha.told.lst r (ha.greedy.rep r hr).1)
      rw [e]; rfl
    exact ⟨tv, 0, _, _, he, ha.cps h2 hs, .inr ⟨hf, rfl, H, reps, ha.least, ha.greedy, ha.all, rfl⟩, hb⟩
  | false =>
    obtain ⟨va, vc, rfl, -, -, hlen⟩ := h.shape
    have HF := hide (fit_any h n)
    rw [hf] at HF
    have HFt := hide hf
    clear h hf
    go_enter Try.func8, Try.ntmps8
    go_wp2_with (go_at_call 24; refine HF.out.mono ?_; rintro e w1 ⟨rfl, h1⟩; have HB1 := hide h1; clear h1)
    exact bodyPost_ret (v := .tuple #[.slice none 0 0, .int .i64 2]) (by simp [results, Try.results8, go_sem]) rfl ⟨_, 2, [], [], rfl, Cps.nil _ _, .inl ⟨HFt.out, rfl, rfl⟩, HB1.out⟩

set_option maxHeartbeats 1000000 in
theorem rcomps_any {w : World} {v : Value} {es : List Edg} (n : Int) (h : Has elEdg w v es) :
    Calls Try.prog 7 #[.int .i64 n, v] w fun e w' => ∃ tv er ps, e = .returned (.tuple #[tv, .int .i64 er]) ∧ Grow elIL 33 w.heap.size w' tv ps ∧ CmpIs n es er (ps.map Prod.snd) ∧ Below w.heap.size w w' := by
  cases hf : fitP n es with
  | true =>
    obtain ⟨h1, h2, -⟩ := fit_nat hf
    have hfn : fitP ((n.toNat : Nat) : Int) es = true := by rw [h1]; exact hf
    have hc := rcomps_fit h hfn
    rw [h1] at hc
    refine hc.mono fun e w' ⟨⟨tv, H, reps, ps, he, a1, a2, a3, a4, a5⟩, hb⟩ => ?_
    exact ⟨tv, 0, ps, he, a4, .inr ⟨hf, rfl, H, reps, a1, a2, a3, a5⟩, hb⟩
  | false =>
    obtain ⟨va, vc, rfl, -, -, hlen⟩ := h.shape
    have HF := hide (rfit_any h n)
    rw [hf] at HF
    have HFt := hide hf
    clear h hf
    go_enter Try.func7, Try.ntmps7
    go_wp2_with (go_at_call 20; refine HF.out.mono ?_; rintro e w1 ⟨rfl, h1⟩; have HB1 := hide h1; clear h1)
    exact bodyPost_ret (v := .tuple #[.slice none 0 0, .int .i64 2]) (by simp [results, Try.results7, go_sem]) rfl ⟨_, 2, [], rfl, Grow.nil _ _ _ _, .inl ⟨HFt.out, rfl, rfl⟩, HB1.out⟩

theorem il_at {e : TypeId} {base : Nat} {w : World} {g cap n : Nat} {l : List (Value × List Int)} (h : Grow elIL e base w (.slice (some ⟨g, 0, none⟩) n cap) l) {i : Nat} {x : Value × List Int} (hx : l[i]? = some x) : w.cell? ⟨g, i, none⟩ = some x.1 ∧ Has elInt w x.1 x.2 := by
  have h1 := flatE_at elIL l i 0 x hx (by decide)
  simp only [elIL, Nat.mul_one, Nat.add_zero, List.getElem?_cons_zero] at h1
  have h2 := grow_num h
  subst h2
  exact ⟨own_at h.1 h1, Lst.all (h.2 x (List.mem_of_getElem? hx))⟩
/-- The program's lists and the document's are the same. -/
theorem cps_same {b1 b2 : Nat} {w : World} {ta wa : Option Addr} {tc wc : Nat} {vs : List Value} {ls : List (List Int)} {ps : List (Value × List Int)} {n : Nat} (h : Cps b1 w (.slice ta n tc) vs ls) (k : Grow elIL 33 b2 w (.slice wa n wc) ps) (hp : ps.map Prod.snd = ls) (hl : ∀ l ∈ ls, l.length ≤ 128) :
    ∀ i, i < n → ∃ (ga gb : Nat) (L : List Int) (va vb : Value), ta = some ⟨ga, 0, none⟩ ∧ wa = some ⟨gb, 0, none⟩ ∧ w.cell? ⟨ga, i, none⟩ = some va ∧ w.cell? ⟨gb, i, none⟩ = some vb ∧ Has elInt w va L ∧ Has elInt w vb L := by
  intro i hi
  have hn := grow_num k
  have hm := grow_num h.out
  obtain ⟨ga, ca, e1, -, -⟩ := h.out.1.form (by omega)
  obtain ⟨gb, cb, e2, -, -⟩ := k.1.form (by omega)
  have ho := h.out
  have f1 : ta = some ⟨ga, 0, none⟩ := by injection e1
  have f2 : wa = some ⟨gb, 0, none⟩ := by injection e2
  subst f1 f2
  obtain ⟨v, hv⟩ : ∃ v, vs[i]? = some v := ⟨_, List.getElem?_eq_getElem (by omega)⟩
  obtain ⟨x, hx⟩ : ∃ x, ps[i]? = some x := ⟨_, List.getElem?_eq_getElem (by omega)⟩
  obtain ⟨l, h1, h2⟩ := h.own i v hv
  obtain ⟨h3, h4⟩ := il_at k hx
  have h5 : l = x.2 := by
    rw [← hp, List.getElem?_map, hx] at h1
    exact (Option.some.inj h1).symm
  rw [← h5] at h4
  exact ⟨ga, gb, l, v, x.1, rfl, rfl, sl_at ho hv, h3, h2.list (by have := hl l (List.mem_of_getElem? h1); omega), h4⟩
/-- A slice of a list of one's own written over. -/
theorem Grow.setS {e : TypeId} {base : Nat} {w : World} {g cap n : Nat} {l : List Value} (h : Grow elSl e base w (.slice (some ⟨g, 0, none⟩) n cap) l) {j : Nat} (hj : j < l.length) {x : Value} (hx : x.oneCell' = true) :
    (∃ y, w.cell? ⟨g, j, none⟩ = some y) ∧ w.frozen? ⟨g, j, none⟩ = false ∧ Grow elSl e base (w.setCell ⟨g, j, none⟩ x) (.slice (some ⟨g, 0, none⟩) n cap) (l.set j x) ∧ base ≤ g := by
  have hn := grow_num h
  subst hn
  obtain ⟨y, hy⟩ : ∃ y, l[j]? = some y := ⟨_, List.getElem?_eq_getElem hj⟩
  have h2 := (h.1.stored j x).1
  rw [flat_sl] at h2
  refine ⟨⟨y, sl_at h hy⟩, h.1.frozenAt j, Grow.of_own (n := l.length) (by simp) (by rw [flat_sl]; exact h2) fun z hz V F => ?_, own_new h.1 g rfl⟩
  rcases List.mem_or_eq_of_mem_set hz with h3 | h3
  · exact h.2 z h3
  · rw [h3]; exact hx
end Go.Proofs.Ytjifhmlfnnagcaa

namespace Go.Proofs.Ytjifhmlfnnagcaa
set_option linter.unusedSimpArgs false
set_option linter.unusedVariables false
open Go.RowKit Go.Maps

def oneP : List Edg := [⟨0, 1, false, 0⟩]
theorem onep_at (W : World) : Has elEdg (W.alloc (.cells #[.int .i64 0, .int .i64 1, .bool false, .int .i64 0] 25)) (.slice (some ⟨W.heap.size, 0, none⟩) 1 1) oneP :=
  has_new elEdg W 25 oneP #[.int .i64 0, .int .i64 1, .bool false, .int .i64 0] rfl trivial (fun x hx => by simp [oneP] at hx; subst hx; exact ⟨⟨by decide, by decide⟩, ⟨by decide, by decide⟩, ⟨by decide, by decide⟩⟩) (by decide)

def Rng (vs : List Value) (a b : Nat) : Prop := ∀ v ∈ vs, ∀ k, v.ownBlock = some k → a ≤ k ∧ k < b
def Pw (vs : List Value) : Prop := ∀ (i j : Nat) (u v : Value), i ≠ j → vs[i]? = some u → vs[j]? = some v → u.ownBlock = none ∨ u.ownBlock ≠ v.ownBlock
theorem Cps.rng {base : Nat} {w : World} {tv : Value} {vs : List Value} {ls : List (List Int)} (h : Cps base w tv vs ls) : Rng vs base w.heap.size := fun v hv k hk => by
  obtain ⟨i, hi⟩ := List.getElem?_of_mem hv
  obtain ⟨l, -, h2⟩ := h.own i v hi
  exact ⟨own_new h2.1 k hk, own_lt6 h2.1 k hk⟩
theorem pw_append {a b : List Value} {x y x' y' : Nat} (ha : Pw a) (hb : Pw b) (ra : Rng a x y) (rb : Rng b x' y') (h : y ≤ x' ∨ y' ≤ x) : Pw (a ++ b) := by
  have cross : ∀ u ∈ a, ∀ v ∈ b, u.ownBlock = none ∨ u.ownBlock ≠ v.ownBlock := fun u hu v hv => by
    rcases Option.eq_none_or_eq_some u.ownBlock with h3 | ⟨k, h3⟩
    · exact .inl h3
    · exact .inr fun e => by have h4 := ra u hu k h3; have h5 := rb v hv k (by rw [← e]; exact h3); omega
  intro i j u v hne hi hj
  rcases Nat.lt_or_ge i a.length with h1 | h1 <;> rcases Nat.lt_or_ge j a.length with h2 | h2
  · rw [List.getElem?_append_left h1] at hi; rw [List.getElem?_append_left h2] at hj; exact ha i j u v hne hi hj
  · rw [List.getElem?_append_left h1] at hi; rw [List.getElem?_append_right h2] at hj; exact cross u (List.mem_of_getElem? hi) v (List.mem_of_getElem? hj)
  · rw [List.getElem?_append_right h1] at hi; rw [List.getElem?_append_left h2] at hj; exact apart_symm (cross v (List.mem_of_getElem? hj) u (List.mem_of_getElem? hi))
  · rw [List.getElem?_append_right h1] at hi; rw [List.getElem?_append_right h2] at hj; exact hb _ _ u v (by omega) hi hj
theorem rng_append {a b : List Value} {x y x' y' lo hi : Nat} (ra : Rng a x y) (rb : Rng b x' y') (h1 : lo ≤ x ∧ lo ≤ x') (h2 : y ≤ hi ∧ y' ≤ hi) : Rng (a ++ b) lo hi := fun v hv k hk => by
  rcases List.mem_append.1 hv with h | h
  · have := ra v h k hk; omega
  · have := rb v h k hk; omega
/-- The three lists of lists, all lists of them in a list of one's own. -/
theorem alo_all {base Z b N cap : Nat} {W : World} {t1 t2 t3 : Value} {v1 v2 v3 : List Value} {l1 l2 l3 : List (List Int)} {a1 a2 a3 z1 z2 z3 : Nat} (c1 : Cps base W t1 v1 l1) (c2 : Cps base W t2 v2 l2) (c3 : Cps base W t3 v3 l3)
    (s1 : ∀ l ∈ l1, l.length ≤ 128) (s2 : ∀ l ∈ l2, l.length ≤ 128) (s3 : ∀ l ∈ l3, l.length ≤ 128) (r1 : Rng v1 a1 z1) (r2 : Rng v2 a2 z2) (r3 : Rng v3 a3 z3) (o13 : z1 ≤ a3) (o32 : z3 ≤ a2) (hz : z1 ≤ Z ∧ z2 ≤ Z ∧ z3 ≤ Z) (a13 : a1 ≤ z1 ∧ a3 ≤ z3)
    (hG : Grow elSl 33 Z W (.slice (some ⟨b, 0, none⟩) N cap) (v1 ++ v2 ++ v3)) : Alo base b W (v1 ++ v2 ++ v3) 0 ∧ Apt b (v1 ++ v2 ++ v3) := by
  have own : ∀ v ∈ v1 ++ v2 ++ v3, ∃ l, Grow elInt 3 base W v l ∧ l.length ≤ 128 := fun v hv => by
    have one : ∀ {t : Value} {vs : List Value} {ls : List (List Int)}, Cps base W t vs ls → (∀ l ∈ ls, l.length ≤ 128) → v ∈ vs → ∃ l, Grow elInt 3 base W v l ∧ l.length ≤ 128 := fun c s hm => by
      obtain ⟨i, hi⟩ := List.getElem?_of_mem hm
      obtain ⟨l, h1, h2⟩ := c.own i v hi
      exact ⟨l, h2, s l (List.mem_of_getElem? h1)⟩
    rcases List.mem_append.1 hv with h | h
    · rcases List.mem_append.1 h with h | h
      · exact one c1 s1 h
      · exact one c2 s2 h
    · exact one c3 s3 h
  have hlt : ∀ v ∈ v1 ++ v2 ++ v3, ∀ k, v.ownBlock = some k → k < Z := fun v hv k hk => by
    rcases List.mem_append.1 hv with h | h
    · rcases List.mem_append.1 h with h | h
      · have := r1 v h k hk; omega
      · have := r2 v h k hk; omega
    · have := r3 v h k hk; omega
  have hbZ : Z ≤ b := own_new hG.1 b rfl
  refine ⟨⟨fun i v hi => sl_at hG hi, fun i v hi => ?_⟩, ⟨fun i v hi e => ?_, ?_⟩⟩
  · obtain ⟨l, h1, h2⟩ := own v (List.mem_of_getElem? hi)
    exact ⟨l, h1, by omega, fun h => absurd h (Nat.not_lt_zero _)⟩
  · have := hlt v (List.mem_of_getElem? hi) b e; omega
  · have p12 : Pw (v1 ++ v2) := pw_append c1.pw c2.pw r1 r2 (.inl (by omega))
    intro i j u v hne hi hj
    have cross : ∀ u ∈ v1 ++ v2, ∀ v ∈ v3, u.ownBlock = none ∨ u.ownBlock ≠ v.ownBlock := fun u hu v hv => by
      rcases Option.eq_none_or_eq_some u.ownBlock with h3 | ⟨k, h3⟩
      · exact .inl h3
      · refine .inr fun e => ?_
        have h5 := r3 v hv k (by rw [← e]; exact h3)
        rcases List.mem_append.1 hu with h | h
        · have := r1 u h k h3; omega
        · have := r2 u h k h3; omega
    rcases Nat.lt_or_ge i (v1 ++ v2).length with h1 | h1 <;> rcases Nat.lt_or_ge j (v1 ++ v2).length with h2 | h2
    · rw [List.getElem?_append_left h1] at hi; rw [List.getElem?_append_left h2] at hj; exact p12 i j u v hne hi hj
    · rw [List.getElem?_append_left h1] at hi; rw [List.getElem?_append_right h2] at hj; exact cross u (List.mem_of_getElem? hi) v (List.mem_of_getElem? hj)
    · rw [List.getElem?_append_right h1] at hi; rw [List.getElem?_append_left h2] at hj; exact apart_symm (cross v (List.mem_of_getElem? hj) u (List.mem_of_getElem? hi))
    · rw [List.getElem?_append_right h1] at hi; rw [List.getElem?_append_right h2] at hj; exact c3.pw _ _ u v (by omega) hi hj
/-- An outer list's block is none of the inner lists'. -/
theorem outer_free {t : Value} {v1 v2 v3 : List Value} (h : ∀ v ∈ v1 ++ v2 ++ v3, ∀ k, v.ownBlock = some k → t.ownBlock ≠ some k) {k : Nat} (hk : t.ownBlock = some k) : ¬ ownS (v1 ++ v2 ++ v3) k := fun ⟨_, v, hi, he⟩ => h v (List.mem_of_getElem? hi) k he hk
theorem sl_ok {base : Nat} {w w2 : World} {tv tv2 : Value} {a b : List Value} {e : TypeId} {b2 : Nat} (h : Grow elSl e base w tv a) (k : Grow elSl e b2 w2 tv2 b) : ∀ y ∈ a ++ b, ∀ (V : World) G, elSl.ok V G y := fun y hy V G => by
  rcases List.mem_append.1 hy with h1 | h1
  · exact h.2 y h1
  · exact k.2 y h1

theorem grow_only2 {e : TypeId} {base : Nat} {w w' : World} {v : Value} {l : List Value} {S : Nat → Prop} (h : Grow elSl e base w v l) (ho : Only S w w') (hs : ∀ k, v.ownBlock = some k → ¬ S k) : Grow elSl e base w' v l := by
  refine ⟨⟨h.1.1, ?_⟩, h.2⟩
  rcases h.1.2 with h0 | ⟨g, cap, cur, hv, hbase, hblk, rest⟩
  · exact .inl h0
  · exact .inr ⟨g, cap, cur, hv, hbase, by rw [ho.block g (Array.getElem?_eq_some_iff.1 hblk).1 (hs g (by rw [hv]; rfl))]; exact hblk, rest⟩

set_option maxRecDepth 100000 in
set_option maxHeartbeats 8000000 in
theorem strataComponents_walk (n : Int) (v : Value) (es : List Edg) (w : World) (hn : -9223372036854775808 ≤ n ∧ n ≤ 9223372036854775807) (h : Has elEdg w v es) (hes : es.length ≤ 1048576) :
    Calls Try.prog 3 #[.int .i64 n, v] w fun e w' => e = .returned (.bool true) ∧ Below w.heap.size w w' := by
  obtain ⟨ie, hie, he0, he1, he2⟩ := info_parts Try.infoEdg
  obtain ⟨is, his, hs0, hs1, hs2⟩ := info_parts Try.infoSl8
  obtain ⟨va, vc, rfl, -, -, hlen⟩ := h.shape
  have HL : Hid (∀ V : World, Below w.heap.size w V → Has elEdg V (.slice va es.length vc) es) := fun V hV => h.kept hV
  have HL0 := hide h
  obtain ⟨q, hq⟩ : ∃ q, es.length = q := ⟨_, rfl⟩
  have HQ := hide hq
  rw [hq] at HL HL0 hes ⊢
  have hq0 : (0 : Int) ≤ (q : Int) := by omega
  have hq1 : (q : Int) < (q : Int) + 1 := by omega
  clear h hlen hq
  go_enter Try.func3, Try.ntmps3
  go_wp2_with (first
    | (go_at_call 6; (with_reducible refine (edges_any HL0.out).mono ?_); rintro e W1 ⟨x1, rfl, g1, b1⟩; obtain ⟨ga, gc, hgs, -, -⟩ := g1.shape; rw [HQ.out] at hgs; subst hgs; have HG1 := hide (g1.kept (belo1 W1 (.cells #[.int .i64 (-77), .int .i64 0, .bool false, .int .i64 0] 25))); have HB1 := hide (b1.alloc b1.size (.cells #[.int .i64 (-77), .int .i64 0, .bool false, .int .i64 0] 25)); clear g1 b1 HL0)
    | (at_builtin; refine wpList_push (w0 := w) elEdg rfl _ _ 22 rfl w.heap.size 25 ie _ 32 Try.underlying22 hie he0 he1 he2 rfl (by decide) _ es q HQ.out rfl HG1.out (mkE (-77)) W1.heap.size 1 rfl (fun j u hu => new_cells (w := W1) (cs := #[.int .i64 (-77), .int .i64 0, .bool false, .int .i64 0]) j u hu) ⟨⟨by decide, by decide⟩, ⟨by decide, by decide⟩, ⟨by decide, by decide⟩⟩ (by omega) HB1.out HB1.out.size ?_; intro fg fc W2 HF2 HB2 HGr2; have hcap : q + 1 ≤ fc := (by obtain ⟨a, c, e, h1, -⟩ := HF2.out.shape; rw [List.length_append, HQ.out] at h1; injection e with _ _ e3; rw [← e3] at h1; exact h1); have hcap1 : (q : Int) ≤ (fc : Int) := (by omega); have HGv := hide (show Grow elEdg 25 w.heap.size W2 (.slice (some ⟨fg, 0, none⟩) q fc) es from HQ.out ▸ HF2.out.front); have HE2 := hide (HL.out W2 HB2.out); clear HG1 HB1 HGr2 hcap)
    | (go_at_call 7; (with_reducible refine (rcomps_any n HE2.out).mono ?_); rintro e W3 ⟨x3, er, ps, rfl, g3, hr, b3⟩; obtain ⟨wa, wc, hw3, -, -⟩ := g3.shape; obtain ⟨m, hm⟩ : ∃ m, ps.length = m := ⟨_, rfl⟩; rw [hm] at hw3; subst hw3; have hsm := cmp_small hr; have hm1 : m ≤ 128 := (by rw [← hm]; have := hsm.1; rw [List.length_map] at this; exact this); have HSm := hide hsm.2; have HM := hide hm; have HR := hide hr; have HW3 := hide g3; have HB23 := hide b3; have HV3 := hide ((HGv.out.kept b3).list (by rw [HQ.out]; omega)); clear g3 hr b3 hsm hm HE2)
    | (go_at_call 8; (with_reducible refine (scomps_any n HV3.out).mono ?_); rintro e W4 ⟨x4, er4, v4, ls4, rfl, g4, hl4, b4⟩; obtain ⟨rfl, hls⟩ := cmp_meet hl4 HR.out; subst hls; obtain ⟨ta, tc, ht4, -, -⟩ := g4.out.shape; have hv4 : v4.length = m := (by rw [g4.len, List.length_map, HM.out]); rw [hv4] at ht4; subst ht4; have HM4 := hide hv4; have HG4 := hide g4; have HR4 := hide g4.rng; have HT4 : Hid (∀ k, (Value.slice ta m tc).ownBlock = some k → W3.heap.size ≤ k ∧ k < W4.heap.size) := (fun k hk => ⟨own_new g4.out.1 k hk, own_lt6 g4.out.1 k hk⟩); have HS4 : Hid (Below W4.heap.size W4 (W4.alloc (.cells #[.int .i64 0, .int .i64 1, .bool false, .int .i64 0] 25))) := belo1 _ _; have HB24 : Hid (Below W2.heap.size W2 W4) := HB23.out.trans (b4.mono HB23.out.size); have HO4 := hide (onep_at W4); have HB34 := hide b4; clear g4 hl4 b4 hv4 HV3)
    | (go_at_call 8; (with_reducible refine (scomps_any 3 HO4.out).mono ?_); rintro e W5 ⟨x5, er5, v5, ls5, rfl, g5, hl5, b5⟩; obtain ⟨rfl, hl3⟩ := cmp_three hl5; obtain ⟨oa, oc, ho5, -, -⟩ := g5.out.shape; have hv5 : v5.length = 3 := (by rw [g5.len, hl3]); rw [hv5] at ho5; subst ho5; have HM5 := hide hv5; have HSm5 := hide (cmp_small hl5).2; have HG5 := hide (g5.mono HS4.out.size); have HR5 := hide HG5.out.rng; have HB45 : Hid (Below W4.heap.size W4 W5) := HS4.out.trans (b5.mono HS4.out.size); have HB25 : Hid (Below W2.heap.size W2 W5) := HB24.out.trans (HB45.out.mono HB24.out.size); have HV5 := hide ((HGv.out.kept HB25.out).list (by rw [HQ.out]; omega)); clear g5 hl5 b5 hl3 hv5 HO4 HS4)
    | (go_at_call 8; (with_reducible refine (scomps_any n HV5.out).mono ?_); rintro e W6 ⟨x6, er6, v6, ls6, rfl, g6, hl6, b6⟩; obtain ⟨rfl, hls⟩ := cmp_meet hl6 HR.out; subst hls; obtain ⟨aa, ac, ha6, -, -⟩ := g6.out.shape; have hv6 : v6.length = m := (by rw [g6.len, List.length_map, HM.out]); rw [hv6] at ha6; subst ha6; have HM6 := hide hv6; have HR6 := hide g6.rng; have HT6 : Hid (∀ k, (Value.slice aa m ac).ownBlock = some k → W5.heap.size ≤ k ∧ k < W6.heap.size) := (fun k hk => ⟨own_new g6.out.1 k hk, own_lt6 g6.out.1 k hk⟩); have HG46 := hide ((HG4.out.kept (HB45.out.trans (b6.mono HB45.out.size))).mono HB23.out.size); have HG56 := hide ((HG5.out.kept b6).mono HB24.out.size); have HG66 := hide (g6.mono HB25.out.size); have HB26 : Hid (Below W2.heap.size W2 W6) := HB25.out.trans (b6.mono HB25.out.size); have HW6 := hide (HW3.out.kept (HB34.out.trans ((HB45.out.trans (b6.mono HB45.out.size)).mono HB34.out.size))); have HZs : Hid (W4.heap.size ≤ W5.heap.size ∧ W5.heap.size ≤ W6.heap.size ∧ W3.heap.size ≤ W4.heap.size) := ⟨HB45.out.size, b6.size, HB34.out.size⟩; have HC6 := hide (cps_same HG46.out HW6.out rfl (fun l hl => (HSm.out l hl).2)); clear g6 hl6 b6 hv6 HV5 HG4 HG5 HB45 HB25 HB34)
    | (go_at_call 9; (with_reducible refine (equalLists_any (by omega) HC6.out).mono ?_); rintro e W7 ⟨rfl, b7⟩; have HG47 := hide (HG46.out.kept b7); have HG57 := hide (HG56.out.kept b7); have HG67 := hide (HG66.out.kept b7); have HB27 : Hid (Below W2.heap.size W2 W7) := HB26.out.trans (b7.mono HB26.out.size); have HW7 := hide (HW6.out.kept b7); have HZ7 : Hid (W6.heap.size ≤ W7.heap.size) := b7.size; have HC7 := hide (cps_same HG67.out HW7.out rfl (fun l hl => (HSm.out l hl).2)); clear b7 HG46 HG56 HG66 HB26 HW6 HC6)
    | (go_at_call 9; (with_reducible refine (equalLists_any (by omega) HC7.out).mono ?_); rintro e W8 ⟨rfl, b8⟩; have HG48 := hide (HG47.out.kept b8); have HG58 := hide (HG57.out.kept b8); have HG68 := hide (HG67.out.kept b8); have HB28 : Hid (Below W2.heap.size W2 W8) := HB27.out.trans (b8.mono HB27.out.size); have HZ8 : Hid (W6.heap.size ≤ W8.heap.size) := Nat.le_trans HZ7.out b8.size; have HV8 := hide ((HGv.out.kept HB28.out).list (by rw [HQ.out]; omega)); have HE8 := hide (HL.out W8 (HB2.out.trans (HB28.out.mono HB2.out.size))); clear b8 HG47 HG57 HG67 HB27 HW7 HC7 HZ7)
    | (go_at_call 10; (with_reducible refine (equalEdges_any HV8.out HE8.out).mono ?_); rintro e W9 ⟨rfl, b9⟩; have HG49 := hide (HG48.out.kept b9); have HG59 := hide (HG58.out.kept b9); have HG69 := hide (HG68.out.kept b9); have HB29 : Hid (Below W2.heap.size W2 W9) := HB28.out.trans (b9.mono HB28.out.size); have HZ9 : Hid (W6.heap.size ≤ W9.heap.size) := Nat.le_trans HZ8.out b9.size; have y77 : W9.cell? ⟨fg, q * 4, none⟩ = some (.int .i64 (-77)) := (edg_at (HF2.out.kept HB29.out) (i := q) (x := mkE (-77)) (by rw [← HQ.out, List.getElem?_append_right (Nat.le_refl _), Nat.sub_self]; rfl)).1.1; have HX4 := hide (HG49.out.out.list (by rw [HM4.out]; omega)); clear b9 HG48 HG58 HG68 HB28 HV8 HE8 HZ8)
    | (at_builtin; refine wpList_spread (w0 := W9) elSl rfl _ _ 26 rfl W9.heap.size 33 is _ 24 Try.underlying26 his hs0 hs1 hs2 rfl (by decide) _ [] rfl (Grow.nil _ _ _ _) (fun _ => True) ta m tc v4 HM4.out rfl HX4.out (sl_ok (Grow.nil elSl 33 0 W9) HG49.out.out) (by simp; omega) (Below.refl _ _) (Nat.le_refl _) ?_; intro a1 V1 HA1 HBa1 HGr1; obtain ⟨ba, ca, hav, -, -⟩ := HA1.out.shape; rw [List.nil_append] at HA1; rw [List.nil_append, HM4.out] at hav; subst hav; have HX6 := hide ((HG69.out.kept HBa1.out).out.list (by rw [HM6.out]; omega)); clear HGr1 HX4)
    | (at_builtin; refine wpList_spread (w0 := W9) elSl rfl _ _ 26 rfl W9.heap.size 33 is _ 24 Try.underlying26 his hs0 hs1 hs2 rfl (by decide) _ v4 rfl HA1.out (fun _ => True) aa m ac v6 HM6.out rfl HX6.out (sl_ok HA1.out HG69.out.out) (by rw [HM4.out]; omega) HBa1.out HBa1.out.size ?_; intro a2 V2 HA2 HBa2 HGr2; obtain ⟨bb, cb, hav2, -, -⟩ := HA2.out.shape; obtain ⟨m2, hm2⟩ : ∃ m2, (v4 ++ v6).length = m2 := ⟨_, rfl⟩; have HMm2 := hide hm2; have hm2b : m2 ≤ 256 := (by rw [← hm2, List.length_append, HM4.out, HM6.out]; omega); rw [hm2] at hav2; subst hav2; have HX5 := hide ((HG59.out.kept HBa2.out).out.list (by rw [HM5.out]; omega)); clear HGr2 HX6 HA1 HBa1 hm2)
    | (at_builtin; refine wpList_spread (w0 := W9) elSl rfl _ _ 26 rfl W9.heap.size 33 is _ 24 Try.underlying26 his hs0 hs1 hs2 rfl (by decide) _ (v4 ++ v6) rfl HA2.out (fun _ => True) oa 3 oc v5 HM5.out rfl HX5.out (sl_ok HA2.out HG59.out.out) (by rw [HMm2.out]; omega) HBa2.out HBa2.out.size ?_; intro a3 V3 HA3 HBa3 HGr3; have HM3 : Hid ((v4 ++ v6 ++ v5).length = m2 + 3) := (by show _ = _; rw [List.length_append, HMm2.out, HM5.out]); obtain ⟨b3, c3, hav3, -, -⟩ := HA3.out.1.form (by rw [HM3.out]; omega); rw [HM3.out] at hav3; subst hav3; have HG4a := hide (HG49.out.kept HBa3.out); have HG5a := hide (HG59.out.kept HBa3.out); have HG6a := hide (HG69.out.kept HBa3.out); have hal := alo_all HG4a.out HG6a.out HG5a.out (fun l hl => (HSm.out l hl).2) (fun l hl => (HSm.out l hl).2) (fun l hl => (HSm5.out l hl).2) HR4.out HR6.out HR5.out (Nat.le_refl _) (Nat.le_refl _) (by have := HZ9.out; have := HZs.out; omega) ⟨HZs.out.2.2, HZs.out.1⟩ HA3.out; have HAl := hide hal.1; have HAp := hide hal.2; have HBa := hide (HB29.out.trans (HBa3.out.mono HB29.out.size)); clear HGr3 HX5 HA2 HBa2 HA3 hal HG49 HG59 HG69 HG5a HB29 HBa3)
    | (go_at_call 11; (with_reducible refine (alone_onlyN (N := m2 + 3) HAl.out HAp.out HM3.out (by omega) HBa.out.size).mono ?_); rintro e WB ⟨rfl, bB, oB⟩; have HBB : Hid (Below W2.heap.size W2 WB) := HBa.out.trans bB; have HOB := hide oB; clear bB oB HBa HAl HAp))
  have HFr4 : Hid (∀ k, (Value.slice ta m tc).ownBlock = some k → ¬ ownS (v4 ++ v6 ++ v5) k) := fun k hk => outer_free (t := .slice ta m tc) (fun v hv j hj e => by
    have t1 := HT4.out j e
    have z1 := HZs.out
    rcases List.mem_append.1 hv with h | h
    · rcases List.mem_append.1 h with h | h
      · obtain ⟨i, hi⟩ := List.getElem?_of_mem h
        exact HG4a.out.apt i v hi j hj e
      · have := HR6.out v h j hj; omega
    · have := HR5.out v h j hj; omega) hk
  have HFr6 : Hid (∀ k, (Value.slice aa m ac).ownBlock = some k → ¬ ownS (v4 ++ v6 ++ v5) k) := fun k hk => outer_free (t := .slice aa m ac) (fun v hv j hj e => by
    have t1 := HT6.out j e
    have z1 := HZs.out
    rcases List.mem_append.1 hv with h | h
    · rcases List.mem_append.1 h with h | h
      · have := HR4.out v h j hj; omega
      · obtain ⟨i, hi⟩ := List.getElem?_of_mem h
        exact HG6a.out.apt i v hi j hj e
    · have := HR5.out v h j hj; omega) hk
  have HGB := hide (grow_only2 HG4a.out.out HOB.out HFr4.out)
  have HAB := hide (grow_only2 HG6a.out.out HOB.out HFr6.out)
  have HT46 : Hid (∀ k, (Value.slice aa m ac).ownBlock = some k → ¬ (Value.slice ta m tc).ownBlock = some k) := fun k h1 h2 => by
    have := HT6.out k h1
    have := HT4.out k h2
    have := HZs.out
    omega
  have HLen6 : Hid (∀ (i : Nat) (v : Value), v6[i]? = some v → ∃ (a : Option Addr) (r c : Nat), v = .slice a r c ∧ 0 < r ∧ r ≤ 128) := fun i v hi => by
    obtain ⟨l, h1, h2⟩ := HG6a.out.own i v hi
    obtain ⟨a, c, e, -, -⟩ := h2.shape
    exact ⟨a, l.length, c, e, HSm.out l (List.mem_of_getElem? h1)⟩
  have HT4b : Hid (∀ k, k < W2.heap.size → ¬ (Value.slice ta m tc).ownBlock = some k) := fun k hk e => by have := HT4.out k e; have := HB23.out.size; omega
  clear HFr4 HFr6 HG4a HG6a HOB HT4 HT6 HR4 HR5 HR6
  go_loopw [16] (fun y wl => ∃ (i : Nat) (us : List Value), i ≤ m ∧ y = .int .i64 i ∧ Hid (us.length = m) ∧ Hid (Grow elSl 33 W2.heap.size wl (.slice ta m tc) us) ∧ Hid (Only (fun k => (Value.slice ta m tc).ownBlock = some k) WB wl)) (fun y _ => m - (intOf y).toNat)
  case atStart => exact ⟨0, v4, by omega, rfl, HM4, HGB, Only.refl _ _⟩
  case round =>
    clear HGB
    obtain ⟨i, us, hi, rfl, HU, HGB, HO⟩ := hrel
    by_cases hlt : i < m
    · have hi1 : (i : Int) < (m : Int) := by omega
      have hi0 : (0 : Int) ≤ (i : Int) := by omega
      obtain ⟨g, cap, hgv, -, -⟩ := HGB.out.1.form (by rw [HU.out]; omega)
      rw [HU.out] at hgv
      cases hgv
      obtain ⟨⟨y, y0⟩, f0, hs, -⟩ := HGB.out.setS (j := i) (by rw [HU.out]; exact hlt) (x := .slice none 0 0) rfl
      have HS := hide hs
      have HUn : Hid ((us.set i (.slice none 0 0)).length = m) := by show _ = _; rw [List.length_set, HU.out]
      clear hs
      go_wp2
      go_roundw
      case rel => exact ⟨i + 1, _, by omega, by go_num, HUn, HS, HO.out.setCell (p := ⟨g, i, none⟩) rfl _⟩
      case measure => simp [intOf]; omega
    · obtain rfl : m = i := by omega
      have hi1 : ¬ (m : Int) < (m : Int) := by omega
      have HAC := hide (grow_only2 HAB.out HO.out HT46.out)
      have HBC0 : Hid (Below W2.heap.size W2 wr) := HBB.out.trans (HO.out.below HBB.out.size HT4b.out)
      obtain ⟨WC, hWC⟩ : ∃ V, V = wr := ⟨_, rfl⟩
      subst hWC
      clear HGB HO HAB
      go_wp2
      go_loopw [17] (fun y wl => ∃ i : Nat, i ≤ m ∧ y = .int .i64 i ∧ Hid (Below WC.heap.size WC wl)) (fun y _ => m - (intOf y).toNat)
      case atStart => exact ⟨0, by omega, rfl, Below.refl _ _⟩
      case round =>
        obtain ⟨i, hi, rfl, HB⟩ := hrel
        by_cases hlt : i < m
        · have hi1 : (i : Int) < (m : Int) := by omega
          have hi0 : (0 : Int) ≤ (i : Int) := by omega
          obtain ⟨g, cap, hgv, -, -⟩ := HAC.out.1.form (by rw [HM6.out]; omega)
          rw [HM6.out] at hgv
          cases hgv
          obtain ⟨v, hv⟩ : ∃ v, v6[i]? = some v := ⟨_, List.getElem?_eq_getElem (by rw [HM6.out]; exact hlt)⟩
          have y0 := kept_cell HB.out (sl_at HAC.out hv)
          obtain ⟨a1, r, c1, rfl, hr0, hr1⟩ := HLen6.out i v hv
          have hr2 : ¬ (r : Int) = 0 := by omega
          clear hv
          go_wp2
          go_roundw
          case rel => exact ⟨i + 1, by omega, by go_num, HB⟩
          case measure => simp [intOf]; omega
        · obtain rfl : m = i := by omega
          have hi1 : ¬ (m : Int) < (m : Int) := by omega
          have HBD0 : Hid (Below W2.heap.size W2 wr) := HBC0.out.trans (HB.out.mono HBC0.out.size)
          have HGB := hide (HGv.out.kept HBD0.out)
          have HBw := hide (HB2.out.trans (HBD0.out.mono HB2.out.size))
          clear HB HBC0 HBB HBD0 HAC HW3 HR HM HSm
          go_wp2_with (first
            | (go_at_call 12; (with_reducible refine (turn_any HGB.out (by rw [HQ.out]; exact hes)).mono ?_); rintro e WC ⟨rfl, gC, bC⟩; have HGC := hide gC; have HQt : Hid ((es.map turnE).length = q) := (by show _ = _; rw [List.length_map, HQ.out]); have HGCl := hide (gC.list (by rw [HQt.out]; omega)); have HBC := hide (HBw.out.trans bC); clear gC bC HGB HBw)
            | (go_at_call 6; (with_reducible refine (edges_any HGCl.out).mono ?_); rintro e WD ⟨xD, rfl, gD, bD⟩; obtain ⟨da, dc, hdd, -, -⟩ := gD.shape; rw [HQt.out] at hdd; subst hdd; have HGDl := hide (gD.list (by rw [HQt.out]; omega)); have HVD := hide (HGCl.out.kept bD); have HBD := hide (HBC.out.trans (bD.mono HBC.out.size)); clear gD bD HGCl HGC HBC)
            | (go_at_call 7; (with_reducible refine (rcomps_any n HGDl.out).mono ?_); rintro e WE ⟨xE, eE, pE, rfl, gE, hrE, bE⟩; obtain ⟨ea, ec, hxE, -, -⟩ := gE.shape; obtain ⟨mE, hmE⟩ : ∃ m, pE.length = m := ⟨_, rfl⟩; rw [hmE] at hxE; subst hxE; have hsm := cmp_small hrE; have hmE1 : mE ≤ 128 := (by rw [← hmE]; have := hsm.1; rw [List.length_map] at this; exact this); have HSmE := hide hsm.2; have HME := hide hmE; have HRE := hide hrE; have HWE := hide gE; have HVE := hide (HVD.out.kept bE); have HBE := hide (HBD.out.trans (bE.mono HBD.out.size)); clear gE hrE hsm hmE bE HGDl HVD HBD)
            | (go_at_call 8; (with_reducible refine (scomps_any n HVE.out).mono ?_); rintro e WF ⟨xF, eF, vF, lF, rfl, gF, hlF, bF⟩; obtain ⟨rfl, hls⟩ := cmp_meet hlF HRE.out; subst hls; obtain ⟨ua, uc, hxF, -, -⟩ := gF.out.shape; have hvF : vF.length = mE := (by rw [gF.len, List.length_map, HME.out]); rw [hvF] at hxF; subst hxF; have HCF := hide (cps_same gF (HWE.out.kept bF) rfl (fun l hl => (HSmE.out l hl).2)); have HBF := hide (HBE.out.trans (bF.mono HBE.out.size)); clear gF hlF bF hvF HWE HVE HBE)
            | (go_at_call 9; (with_reducible refine (equalLists_any (by omega) HCF.out).mono ?_); rintro e WG ⟨rfl, bG⟩; have HBG := hide (HBF.out.trans (bG.mono HBF.out.size)); clear bG HCF HBF))
          go_ret
          exact ⟨rfl, HBG.out⟩
end Go.Proofs.Ytjifhmlfnnagcaa
