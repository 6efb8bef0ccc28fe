/- Extend, as plain functions: slot by slot, as the program goes; place by place, as the document goes; they are the same. -/
import Derived.Test.YtnahfhfnodghaaaSlotMem
namespace Go.Proofs.Ytnahfhfnodghaaa
set_option linter.unusedSimpArgs false
set_option linter.unusedVariables false
open Go.RowKit

/-- A slot that no substitution can have. -/
def noSlot (s : Slt) : Bool := decide (s.n < 0) || (s.v && decide (16 ≤ s.n))
/-- A place at which slot and id can't be one, whatever is bound. -/
def badAt (p : Slt × Int) : Bool := noSlot p.1 || decide (p.2 < 0) || (!p.1.v && decide (p.1.n ≠ p.2))

/-- One place as the program takes it. -/
def stepP (cur : List Int) (p : Slt × Int) : Option (List Int) :=
  let cur' := if p.1.v = true ∧ idP p.1 cur < 0 then cur.set p.1.n.toNat p.2 else cur
  if p.2 < 0 ∨ idP p.1 cur' ≠ p.2 then none else some cur'
def runP : List (Slt × Int) → List Int → Option (List Int)
  | [], cur => some cur
  | p :: r, cur => match stepP cur p with | some c => runP r c | none => none

/-- What is bound at place i, as the document finds it. -/
def placeP (i : Nat) : List (Slt × Int) → Int → Option Int
  | [], x => some x
  | p :: r, x => if p.1.v = true ∧ p.1.n = (i : Int) then (if 0 ≤ x ∧ x ≠ p.2 then none else placeP i r p.2) else placeP i r x

def allP (f : Nat → Option Int) : Nat → Option (List Int)
  | 0 => some []
  | k + 1 => match allP f k, f k with | some l, some x => some (l ++ [x]) | _, _ => none

theorem allP_congr {f g : Nat → Option Int} : ∀ {n : Nat}, (∀ i, i < n → f i = g i) → allP f n = allP g n
  | 0, _ => rfl
  | k + 1, h => by
    unfold allP
    rw [allP_congr (fun i hi => h i (by omega)), h k (by omega)]

theorem allP_none {f : Nat → Option Int} : ∀ {n i : Nat}, i < n → f i = none → allP f n = none
  | k + 1, i, hi, h => by
    unfold allP
    by_cases hik : i = k
    · subst hik
      rw [h]
      split <;> first | rfl | simp_all
    · rw [allP_none (show i < k by omega) h]

theorem allP_list (l : List Int) : allP (fun i => l[i]?) l.length = some l := by
  have : ∀ n, n ≤ l.length → allP (fun i => l[i]?) n = some (l.take n) := by
    intro n
    induction n with
    | zero => intro _; simp [allP]
    | succ k ih =>
      intro hk
      unfold allP
      rw [ih (by omega), List.getElem?_eq_getElem (by omega)]
      simp only
      rw [List.take_succ_eq_append_getElem (by omega)]
  rw [this _ (Nat.le_refl _), List.take_length]

theorem placeP_nil (i : Nat) (x : Int) : placeP i [] x = some x := rfl

theorem idP_const {s : Slt} {cur : List Int} (hv : s.v = false) (hn : 0 ≤ s.n) : idP s cur = s.n := by
  unfold idP
  rw [if_neg (by omega), hv]
  simp

theorem idP_var {s : Slt} {cur : List Int} {k : Nat} {x : Int} (hv : s.v = true) (hn : s.n = (k : Int)) (hx : cur[k]? = some x) : idP s cur = if x < 0 then -1 else x := by
  unfold idP
  rw [if_neg (by omega), hv, hn]
  simp only [if_true, Int.toNat_natCast, hx]

/-- The two ways come to the same, where no place is bad and every variable has a place. -/
theorem run_places : ∀ (l : List (Slt × Int)) (cur : List Int), (∀ p ∈ l, badAt p = false) → (∀ p ∈ l, p.1.v = true → p.1.n < (cur.length : Int)) →
    runP l cur = allP (fun i => match cur[i]? with | some x => placeP i l x | none => none) cur.length
  | [], cur, _, _ => by
    rw [runP, ← allP_list cur]
    exact allP_congr fun i hi => by rw [List.getElem?_eq_getElem hi]; rfl
  | (s, a) :: r, cur, hb, hw => by
    have hb0 := hb (s, a) (List.mem_cons_self ..)
    have hw0 := hw (s, a) (List.mem_cons_self ..)
    simp only [badAt, noSlot, Bool.or_eq_false_iff, decide_eq_false_iff_not] at hb0
    obtain ⟨⟨⟨hn0, h16⟩, ha0⟩, hcn⟩ := hb0
    simp only at hw0
    have hb' : ∀ p ∈ r, badAt p = false := fun p hp => hb p (List.mem_cons_of_mem _ hp)
    have hw' : ∀ p ∈ r, p.1.v = true → p.1.n < (cur.length : Int) := fun p hp => hw p (List.mem_cons_of_mem _ hp)
    cases hv : s.v with
    | false =>
      have hna : s.n = a := by
        rw [hv] at hcn
        simpa using hcn
      have hst : stepP cur (s, a) = some cur := by
        unfold stepP
        simp only [hv, Bool.false_eq_true, false_and, if_false]
        rw [if_neg]
        rw [idP_const hv (by omega)]
        omega
      rw [runP, hst]
      simp only
      rw [run_places r cur hb' hw']
      refine allP_congr fun i hi => ?_
      rw [List.getElem?_eq_getElem hi]
      simp only [placeP, hv, Bool.false_eq_true, false_and, if_false]
    | true =>
      obtain ⟨k, hk⟩ : ∃ k : Nat, s.n = k := ⟨s.n.toNat, by omega⟩
      have hkl : k < cur.length := by have := hw0 hv; omega
      obtain ⟨x, hx⟩ : ∃ x, cur[k]? = some x := ⟨_, List.getElem?_eq_getElem hkl⟩
      have hid := idP_var hv hk hx
      by_cases hx0 : x < 0
      · rw [if_pos hx0] at hid
        have hst : stepP cur (s, a) = some (cur.set k a) := by
          unfold stepP
          simp only [hv, hid, hk, Int.toNat_natCast, true_and]
          simp only [show ((-1 : Int) < 0) = True from by simp, if_true]
          rw [if_neg]
          have h2 : (cur.set k a)[k]? = some a := by rw [List.getElem?_set_self hkl]
          rw [idP_var hv hk h2, if_neg ha0]
          omega
        rw [runP, hst]
        simp only
        rw [run_places r (cur.set k a) hb' (by rw [List.length_set]; exact hw')]
        rw [List.length_set]
        refine allP_congr fun i hi => ?_
        by_cases hik : k = i
        · subst hik
          rw [List.getElem?_set_self hkl, hx]
          simp only [placeP, hv, hk, and_self, if_true]
          rw [if_neg (by omega)]
        · rw [List.getElem?_set_ne hik, List.getElem?_eq_getElem hi]
          simp only [placeP, hv, hk, true_and]
          rw [if_neg (by omega)]
      · rw [if_neg hx0] at hid
        by_cases hxa : x = a
        · have hst : stepP cur (s, a) = some cur := by
            unfold stepP
            simp only [hv, hid, true_and]
            rw [if_neg hx0, if_neg (by rw [hid]; omega)]
          rw [runP, hst]
          simp only
          rw [run_places r cur hb' hw']
          refine allP_congr fun i hi => ?_
          by_cases hik : k = i
          · subst hik
            rw [hx]
            simp only [placeP, hv, hk, and_self, if_true]
            rw [if_neg (by omega), hxa]
          · rw [List.getElem?_eq_getElem hi]
            simp only [placeP, hv, hk, true_and]
            rw [if_neg (by omega)]
        · have hst : stepP cur (s, a) = none := by
            unfold stepP
            simp only [hv, hid, true_and]
            rw [if_neg hx0, if_pos (by rw [hid]; omega)]
          rw [runP, hst]
          simp only
          rw [allP_none hkl]
          rw [hx]
          simp only [placeP, hv, hk, and_self, if_true]
          rw [if_pos (by omega)]

/-- A bad place ends the program's way too. -/
theorem run_bad : ∀ (l : List (Slt × Int)) (cur : List Int), (∀ p ∈ l, noSlot p.1 = false) → l.any badAt = true → runP l cur = none
  | [], _, _, h => by simp at h
  | (s, a) :: r, cur, hn, hb => by
    rw [runP]
    have hn0 := hn (s, a) (List.mem_cons_self ..)
    cases hst : stepP cur (s, a) with
    | none => rfl
    | some c =>
      simp only
      refine run_bad r c (fun p hp => hn p (List.mem_cons_of_mem _ hp)) ?_
      rw [List.any_cons] at hb
      cases hb0 : badAt (s, a) with
      | false => rw [hb0] at hb; simpa using hb
      | true =>
        exfalso
        simp only [noSlot, Bool.or_eq_false_iff, decide_eq_false_iff_not] at hn0
        obtain ⟨hn0, h16⟩ := hn0
        have hns : noSlot s = false := hn (s, a) (List.mem_cons_self ..)
        simp only [badAt, hns, Bool.false_or, Bool.or_eq_true, decide_eq_true_eq, Bool.and_eq_true, Bool.not_eq_true', decide_not, Bool.not_eq_eq_eq_not, Bool.not_true, decide_eq_false_iff_not] at hb0
        unfold stepP at hst
        rcases hb0 with h | ⟨hv, h⟩
        · simp only at hst
          rw [if_pos (.inl h)] at hst
          cases hst
        · simp only [hv, Bool.false_eq_true, false_and, if_false] at hst
          rw [if_pos (.inr (by rw [idP_const hv (by omega)]; exact h))] at hst
          cases hst

def startP (sub : List Int) (i : Nat) : Int := match sub[i]? with | some y => if y < 0 then -1 else y | none => -1
def startL (sub : List Int) (n : Nat) : List Int := (List.range n).map (startP sub)
def widthP (ss : List Slt) (n : Nat) : Nat := ss.foldl (fun m s => if s.v then max m (s.n.toNat + 1) else m) n

/-- What Extend answers, as the document says it. -/
def extendP (ss : List Slt) (args : List Int) (sub : List Int) : Option (List Int) :=
  if ss.length = args.length then (if (ss.zip args).any badAt then none else allP (fun i => placeP i (ss.zip args) (startP sub i)) (widthP ss sub.length)) else none

theorem widthP_ge (ss : List Slt) (n : Nat) : n ≤ widthP ss n := by
  unfold widthP
  induction ss generalizing n with
  | nil => exact Nat.le_refl _
  | cons s r ih =>
    rw [List.foldl_cons]
    refine Nat.le_trans ?_ (ih _)
    split
    · exact Nat.le_max_left _ _
    · exact Nat.le_refl _

theorem widthP_var (ss : List Slt) (n : Nat) {s : Slt} (h : s ∈ ss) (hv : s.v = true) : s.n.toNat < widthP ss n := by
  unfold widthP
  induction ss generalizing n with
  | nil => simp at h
  | cons t r ih =>
    rw [List.foldl_cons]
    rcases List.mem_cons.1 h with rfl | h
    · have := widthP_ge r (if s.v then max n (s.n.toNat + 1) else n)
      unfold widthP at this
      rw [hv] at this ⊢
      simp only [if_true] at this ⊢
      omega
    · exact ih _ h

theorem widthP_le (ss : List Slt) (n : Nat) (h : ∀ s ∈ ss, noSlot s = false) : widthP ss n ≤ max n 16 := by
  unfold widthP
  induction ss generalizing n with
  | nil => simp only [List.foldl_nil]; omega
  | cons t r ih =>
    rw [List.foldl_cons]
    refine Nat.le_trans (ih _ (fun s hs => h s (List.mem_cons_of_mem _ hs))) ?_
    have ht := h t (List.mem_cons_self ..)
    simp only [noSlot, Bool.or_eq_false_iff, decide_eq_false_iff_not, Bool.and_eq_false_iff] at ht
    split
    · rename_i hv
      have : t.n < 16 := by
        rcases ht.2 with h | h
        · rw [hv] at h; cases h
        · omega
      exact Nat.max_le.2 ⟨Nat.max_le.2 ⟨Nat.le_max_left _ _, Nat.le_trans (by omega) (Nat.le_max_right _ _)⟩, Nat.le_max_right _ _⟩
    · exact Nat.le_refl _

theorem startL_len (sub : List Int) (n : Nat) : (startL sub n).length = n := by simp [startL]
theorem startL_at {sub : List Int} {n i : Nat} (h : i < n) : (startL sub n)[i]? = some (startP sub i) := by simp [startL, h]

theorem extend_len {ss : List Slt} {args sub : List Int} (h : ss.length ≠ args.length) : extendP ss args sub = none := by unfold extendP; rw [if_neg h]

theorem extend_noSlot {ss : List Slt} {args sub : List Int} (hl : ss.length = args.length) (h : ss.any noSlot = true) : extendP ss args sub = none := by
  unfold extendP
  rw [if_pos hl, if_pos]
  obtain ⟨s, hs, hn⟩ := List.any_eq_true.1 h
  obtain ⟨i, hi⟩ := List.mem_iff_getElem?.1 hs
  have hil := (List.getElem?_eq_some_iff.1 hi).1
  refine List.any_eq_true.2 ⟨(s, args[i]'(by omega)), ?_, by simp [badAt, hn]⟩
  refine List.mem_iff_getElem?.2 ⟨i, ?_⟩
  rw [List.getElem?_zip_eq_some]
  exact ⟨hi, List.getElem?_eq_getElem _⟩

theorem extend_run {ss : List Slt} {args sub : List Int} (hl : ss.length = args.length) (h : ss.any noSlot = false) : extendP ss args sub = runP (ss.zip args) (startL sub (widthP ss sub.length)) := by
  have hns : ∀ s ∈ ss, noSlot s = false := by simpa using h
  have hz : ∀ p ∈ ss.zip args, p.1 ∈ ss := fun p hp => (List.of_mem_zip (a := p.1) (b := p.2) hp).1
  unfold extendP
  rw [if_pos hl]
  cases hb : (ss.zip args).any badAt with
  | true => rw [if_pos rfl, run_bad _ _ (fun p hp => hns _ (hz p hp)) hb]
  | false =>
    rw [if_neg (by simp)]
    rw [run_places _ _ (by simpa using hb) (fun p hp hv => by
      rw [startL_len]
      have h1 := widthP_var ss sub.length (hz p hp) hv
      have h2 := hns _ (hz p hp)
      simp only [noSlot, Bool.or_eq_false_iff, decide_eq_false_iff_not] at h2
      omega), startL_len]
    exact allP_congr fun i hi => by rw [startL_at hi]
end Go.Proofs.Ytnahfhfnodghaaa
