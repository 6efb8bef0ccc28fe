/- Patterns and their shapes, said over lists: a row fits a pattern's shape just if some numbers in place of its variables make it the row; covering is being a special case. -/
import Derived.Test.YtgligipgjakecaaDoorShapePure
namespace Go.Proofs.YtgligipgjakecaaDoor
set_option linter.unusedSimpArgs false
set_option linter.unusedVariables false
open Go.RowKit

def varIs (n : Int) (t : Slo) : Bool := t.v && t.n == n
theorem varIs_iff {n : Int} {t : Slo} : varIs n t = true ↔ t.v = true ∧ t.n = n := by unfold varIs; rw [Bool.and_eq_true, beq_iff_eq]
/-- The first place with a variable of that number. -/
def firstI : List Slo → Int → Nat
  | [], _ => 0
  | t :: r, n => if varIs n t then 0 else firstI r n + 1
theorem firstI_le : ∀ {ss : List Slo} {n : Int} {k : Nat} {s : Slo}, ss[k]? = some s → varIs n s = true → firstI ss n ≤ k
  | [], n, k, s, h, _ => by simp at h
  | t :: r, n, 0, s, h, hv => by
    simp only [List.getElem?_cons_zero, Option.some.injEq] at h
    subst h
    unfold firstI
    rw [if_pos hv]; omega
  | t :: r, n, k + 1, s, h, hv => by
    rw [List.getElem?_cons_succ] at h
    unfold firstI
    have := firstI_le h hv
    split <;> omega
theorem firstI_at : ∀ {ss : List Slo} {n : Int}, firstI ss n < ss.length → ∃ t, ss[firstI ss n]? = some t ∧ t.v = true ∧ t.n = n
  | [], n, h => by simp at h
  | t :: r, n, h => by
    unfold firstI at h ⊢
    by_cases hv : varIs n t = true
    · rw [if_pos hv]
      exact ⟨t, rfl, varIs_iff.1 hv⟩
    · rw [if_neg hv] at h ⊢
      simp only [List.length_cons] at h
      obtain ⟨u, h1, h2⟩ := firstI_at (ss := r) (n := n) (by omega)
      exact ⟨u, by rw [List.getElem?_cons_succ]; exact h1, h2⟩
def cellS (ss : List Slo) (s : Slo) : Int := if s.v = true then -1 - (firstI ss s.n : Int) else s.n
def shapeC (ss : List Slo) : List Int := ss.map (cellS ss)
theorem shapeC_len (ss : List Slo) : (shapeC ss).length = ss.length := List.length_map _
theorem shapeC_at {ss : List Slo} {i : Nat} {s : Slo} (h : ss[i]? = some s) : (shapeC ss)[i]? = some (cellS ss s) := by unfold shapeC; rw [List.getElem?_map, h]; rfl
theorem shapeC_of {ss : List Slo} {i : Nat} {c : Int} (h : (shapeC ss)[i]? = some c) : ∃ s, ss[i]? = some s ∧ c = cellS ss s := by
  unfold shapeC at h
  rw [List.getElem?_map] at h
  cases hs : ss[i]? with
  | none => rw [hs] at h; cases h
  | some s => rw [hs] at h; exact ⟨s, rfl, by simpa using h.symm⟩

/-- A pattern has a shape. -/
def ShapeOk (q : Int) (ss : List Slo) : Prop := 0 ≤ q ∧ ∀ s ∈ ss, s.v = false → 0 ≤ s.n

theorem cellS_var {ss : List Slo} {s : Slo} (h : s.v = true) : cellS ss s = -1 - (firstI ss s.n : Int) := if_pos h
theorem cellS_con {ss : List Slo} {s : Slo} (h : s.v = false) : cellS ss s = s.n := if_neg (by rw [h]; decide)
theorem cellS_neg {q : Int} {ss : List Slo} {s : Slo} (hok : ShapeOk q ss) (hm : s ∈ ss) (h : cellS ss s < 0) : s.v = true := by
  cases hv : s.v with
  | true => rfl
  | false =>
    rw [cellS_con hv] at h
    have := hok.2 s hm hv
    omega
theorem first_at {ss : List Slo} {i : Nat} {s : Slo} (h : ss[i]? = some s) (hv : s.v = true) : firstI ss s.n ≤ i ∧ ∃ t, ss[firstI ss s.n]? = some t ∧ t.v = true ∧ t.n = s.n := by
  have h1 := firstI_le h (n := s.n) (varIs_iff.2 ⟨hv, rfl⟩)
  have h2 := (List.getElem?_eq_some_iff.1 h).1
  exact ⟨h1, firstI_at (by omega)⟩

theorem shape_vld {q : Int} {ss : List Slo} (hok : ShapeOk q ss) : Vld q (shapeC ss) := by
  refine ⟨hok.1, fun i c hc hn => ?_⟩
  obtain ⟨s, hs, rfl⟩ := shapeC_of hc
  have hv := cellS_neg hok (List.mem_of_getElem? hs) hn
  obtain ⟨h1, t, ht, htv, htn⟩ := first_at hs hv
  rw [cellS_var hv, at10_neg]
  exact ⟨h1, by rw [shapeC_at ht, cellS_var htv, htn]⟩

/-- What a slot becomes with numbers in place of the variables. -/
def valS (f : Int → Int) (s : Slo) : Int := if s.v = true then f s.n else s.n
theorem valS_var {f : Int → Int} {s : Slo} (h : s.v = true) : valS f s = f s.n := if_pos h
theorem valS_con {f : Int → Int} {s : Slo} (h : s.v = false) : valS f s = s.n := if_neg (by rw [h]; decide)
def Inst (ss : List Slo) (rs : List Int) : Prop := ∃ f, rs = ss.map (valS f)

theorem fit_inst {q : Int} {ss : List Slo} {rs : List Int} (hok : ShapeOk q ss) : FitC (shapeC ss) rs ↔ Inst ss rs := by
  constructor
  · rintro ⟨hl, ha⟩
    rw [shapeC_len] at hl
    refine ⟨fun n => (rs[firstI ss n]?).getD 0, ?_⟩
    apply List.ext_getElem?
    intro i
    rw [List.getElem?_map]
    cases hs : ss[i]? with
    | none => rw [List.getElem?_eq_none (by have := List.getElem?_eq_none_iff.1 hs; omega)]; rfl
    | some s =>
      have h1 := ha i _ (shapeC_at hs)
      unfold Asks at h1
      cases hv : s.v with
      | true =>
        rw [cellS_var hv, if_pos (by omega), at10_neg] at h1
        obtain ⟨h2, t, ht, _⟩ := first_at hs hv
        have h3 := (List.getElem?_eq_some_iff.1 hs).1
        obtain ⟨r, hr⟩ : ∃ r, rs[firstI ss s.n]? = some r := ⟨_, List.getElem?_eq_getElem (by omega)⟩
        rw [h1, hr]
        simp only [Option.map_some, Option.some.injEq]
        rw [valS_var hv, hr]; rfl
      | false =>
        have h2 := hok.2 s (List.mem_of_getElem? hs) hv
        rw [cellS_con hv, if_neg (by omega)] at h1
        rw [h1]
        simp only [Option.map_some, Option.some.injEq]
        rw [valS_con hv]
  · rintro ⟨f, rfl⟩
    refine ⟨by rw [shapeC_len, List.length_map], fun i c hc => ?_⟩
    obtain ⟨s, hs, rfl⟩ := shapeC_of hc
    unfold Asks
    rw [List.getElem?_map, hs]
    cases hv : s.v with
    | true =>
      rw [cellS_var hv, if_pos (by omega), at10_neg]
      obtain ⟨h2, t, ht, htv, htn⟩ := first_at hs hv
      rw [List.getElem?_map, ht]
      simp only [Option.map_some, Option.some.injEq]
      rw [valS_var hv, valS_var htv, htn]
    | false =>
      have h2 := hok.2 s (List.mem_of_getElem? hs) hv
      rw [cellS_con hv, if_neg (by omega)]
      simp only [Option.map_some, Option.some.injEq]
      rw [valS_con hv]

/-- A special case: slots in place of the variables. -/
def subS (g : Int → Slo) (s : Slo) : Slo := if s.v = true then g s.n else s
theorem sub_val {g : Int → Slo} {s : Slo} (f : Int → Int) : valS f (subS g s) = valS (fun n => valS f (g n)) s := by
  unfold subS
  cases hv : s.v with
  | true => rw [if_pos rfl, valS_var hv]
  | false => rw [if_neg (by decide), valS_con hv, valS_con hv]
theorem sub_inst {ss : List Slo} {g : Int → Slo} {rs : List Int} (h : Inst (ss.map (subS g)) rs) : Inst ss rs := by
  obtain ⟨f, rfl⟩ := h
  refine ⟨fun n => valS f (g n), ?_⟩
  rw [List.map_map]
  apply List.map_congr_left
  intro s _
  exact sub_val f
theorem shape_inst_self (ss : List Slo) : Inst ss (shapeC ss) := by
  refine ⟨fun n => -1 - (firstI ss n : Int), ?_⟩
  unfold shapeC
  apply List.map_congr_left
  intro s _
  cases hv : s.v with
  | true => rw [cellS_var hv, valS_var hv]
  | false => rw [cellS_con hv, valS_con hv]
theorem sub_covers (ss : List Slo) (g : Int → Slo) : Inst ss (shapeC (ss.map (subS g))) := sub_inst (shape_inst_self _)

/-- Two shapes that cover each other are the same. -/
theorem cover_anti {p q : Int} {xs bs : List Int} (hx : Vld p xs) (hb : Vld q bs) (h1 : FitC xs bs) (h2 : FitC bs xs) : xs = bs := by
  have hl := h1.1
  have key : ∀ i, i < xs.length → xs[i]? = bs[i]? := by
    intro i
    induction i using Nat.strongRecOn with
    | _ i ih =>
      intro hi
      obtain ⟨a, ha⟩ : ∃ a, xs[i]? = some a := ⟨_, List.getElem?_eq_getElem hi⟩
      obtain ⟨b, hbi⟩ : ∃ b, bs[i]? = some b := ⟨_, List.getElem?_eq_getElem (by omega)⟩
      have g1 := h1.2 i a ha
      have g2 := h2.2 i b hbi
      unfold Asks at g1 g2
      rw [hbi] at g1
      rw [ha] at g2
      rw [ha, hbi]
      by_cases hn : a < 0
      · rw [if_pos hn] at g1
        by_cases hm : b < 0
        · rw [if_pos hm] at g2
          have va := hx.2 i a ha hn
          have vb := hb.2 i b hbi hm
          rcases Nat.lt_or_ge (at10 a) i with hj | hj
          · have := ih _ hj (by omega)
            rw [va.2, ← g1] at this
            exact this
          · rcases Nat.lt_or_ge (at10 b) i with hk | hk
            · have v2 := (hx.2 _ a (g2.symm) hn).1
              omega
            · have e1 := at10_eq hn
              have e2 := at10_eq hm
              congr 1
              omega
        · rw [if_neg hm] at g2; exact g2
      · rw [if_neg hn] at g1; exact g1.symm
  apply List.ext_getElem?
  intro i
  rcases Nat.lt_or_ge i xs.length with h | h
  · exact key i h
  · rw [List.getElem?_eq_none h, List.getElem?_eq_none (by omega)]

/-- With numbers below 0 turned. -/
def properS (s : Slo) : Slo := if s.v = true then s else ⟨false, max s.n 0⟩
theorem proper_ok (q : Int) (ss : List Slo) : ShapeOk (max q 0) (ss.map properS) := by
  refine ⟨by omega, fun s hs hv => ?_⟩
  obtain ⟨t, _, rfl⟩ := List.mem_map.1 hs
  unfold properS at hv ⊢
  cases ht : t.v with
  | true => rw [ht, if_pos rfl] at hv; rw [hv] at ht; cases ht
  | false => rw [if_neg (by decide)]; dsimp only; omega

/-- What the map of first places holds, the first k places looked at. -/
def FirstM (V : Lit → Option Value) (ss : List Slo) (k : Nat) : Prop := ∀ x : Int, V (.int .i64 x) = if firstI ss x < k then some (.int .i64 (firstI ss x : Int)) else none
theorem FirstM.start (ss : List Slo) : FirstM (fun _ => none) ss 0 := fun x => by rw [if_neg (by omega)]
theorem FirstM.con {V : Lit → Option Value} {ss : List Slo} {k : Nat} {s : Slo} (h : FirstM V ss k) (hs : ss[k]? = some s) (hv : s.v = false) : FirstM V ss (k + 1) := fun x => by
  rw [h x]
  by_cases h1 : firstI ss x < k
  · rw [if_pos h1, if_pos (by omega)]
  · rw [if_neg h1, if_neg ?_]
    intro h2
    have h3 : firstI ss x = k := by omega
    have h4 := (List.getElem?_eq_some_iff.1 hs).1
    obtain ⟨t, ht, htv, _⟩ := firstI_at (ss := ss) (n := x) (by omega)
    rw [h3, hs] at ht
    cases ht
    rw [hv] at htv; cases htv
theorem FirstM.old {V : Lit → Option Value} {ss : List Slo} {k : Nat} {s : Slo} (h : FirstM V ss k) (hs : ss[k]? = some s) (hv : s.v = true) (hlt : firstI ss s.n < k) : V (.int .i64 s.n) = some (.int .i64 (firstI ss s.n : Int)) ∧ FirstM V ss (k + 1) := by
  refine ⟨by rw [h, if_pos hlt], fun x => ?_⟩
  rw [h x]
  by_cases h1 : firstI ss x < k
  · rw [if_pos h1, if_pos (by omega)]
  · rw [if_neg h1, if_neg ?_]
    intro h2
    have h3 : firstI ss x = k := by omega
    have h4 := (List.getElem?_eq_some_iff.1 hs).1
    obtain ⟨t, ht, htv, htn⟩ := firstI_at (ss := ss) (n := x) (by omega)
    rw [h3, hs] at ht
    cases ht
    rw [htn] at hlt; omega
end Go.Proofs.YtgligipgjakecaaDoor
