/- Closed walks over a negated edge, said over lists; strata's noEdge and ContainsFunc with it. (By mk_cyc.py.) -/
import Derived.Test.YtmbkjgfnnpopgaaEdgeHolds
namespace Go.Proofs.Ytmbkjgfnnpopgaa
set_option linter.unusedSimpArgs false
set_option linter.unusedVariables false
open Go.RowKit

def ed (es : List Edg) (x : Int) : Edg := (es[x.toNat]?).getD ⟨0, 0, false, 0⟩
def wk (l : List Int) (i : Nat) : Int := (l[i]?).getD 0
def outN (m : Nat) (x : Int) : Bool := !inB x m
def negW (es : List Edg) (x : Int) : Bool := (ed es x).neg
def prv (m i : Nat) : Nat := if i = 0 then m - 1 else i - 1
def nxt (m i : Nat) : Nat := if i + 1 = m then 0 else i + 1
def prevOk (es : List Edg) (l : List Int) (i : Nat) : Bool := (ed es (wk l i)).f == (ed es (wk l (prv l.length i))).t
def nextOk (es : List Edg) (l : List Int) (i : Nat) : Bool := (ed es (wk l i)).t == (ed es (wk l (nxt l.length i))).f
def cycB (es : List Edg) (l : List Int) : Bool := (List.range l.length).all (prevOk es l)
def cyclicP (n : Int) (es : List Edg) (l : List Int) : Bool := fitP n es && (!(l.length == 0) && (!l.any (outN es.length) && (cycB es l && l.any (negW es))))

theorem cyc_next (es : List Edg) (l : List Int) : cycB es l = (List.range l.length).all (nextOk es l) := by
  unfold cycB
  rw [Bool.eq_iff_iff, List.all_eq_true, List.all_eq_true]
  simp only [List.mem_range]
  constructor
  · intro h i hi
    have hj : nxt l.length i < l.length := by unfold nxt; split <;> omega
    have := h _ hj
    unfold prevOk at this
    unfold nextOk
    have e : prv l.length (nxt l.length i) = i := by unfold prv nxt; split <;> (split <;> omega)
    rw [e] at this
    rw [beq_iff_eq] at this ⊢
    exact this.symm
  · intro h i hi
    have hj : prv l.length i < l.length := by unfold prv; split <;> omega
    have := h _ hj
    unfold nextOk at this
    unfold prevOk
    have e : nxt l.length (prv l.length i) = i := by unfold prv nxt; split <;> (split <;> omega)
    rw [e] at this
    rw [beq_iff_eq] at this ⊢
    exact this.symm

theorem cyc_no {es : List Edg} {l : List Int} {i : Nat} (hi : i < l.length) (h : prevOk es l i = false) : cycB es l = false := by
  unfold cycB
  rw [List.all_eq_false]
  exact ⟨i, List.mem_range.2 hi, by simp [h]⟩
theorem cyc_no' {es : List Edg} {l : List Int} {i : Nat} (hi : i < l.length) (h : nextOk es l i = false) : cycB es l = false := by
  rw [cyc_next, List.all_eq_false]
  exact ⟨i, List.mem_range.2 hi, by simp [h]⟩
theorem cyc_yes {es : List Edg} {l : List Int} (h : ∀ i, i < l.length → prevOk es l i = true) : cycB es l = true := by
  unfold cycB
  rw [List.all_eq_true]
  exact fun i hi => h i (List.mem_range.1 hi)
theorem cyc_yes' {es : List Edg} {l : List Int} (h : ∀ i, i < l.length → nextOk es l i = true) : cycB es l = true := by
  rw [cyc_next, List.all_eq_true]
  exact fun i hi => h i (List.mem_range.1 hi)
theorem outN_false {m : Nat} {x : Int} (h : outN m x = false) : ∃ k : Nat, x = k ∧ k < m := by
  unfold outN inB at h
  simp at h
  exact ⟨x.toNat, by omega, by omega⟩
theorem outN_true {m : Nat} {x : Int} (h : outN m x = true) : x < 0 ∨ (0 ≤ x ∧ (m : Int) ≤ x) := by
  unfold outN inB at h
  simp at h
  omega

set_option maxHeartbeats 1000000 in
theorem noEdge_any {w : World} {be : Nat} {ea : Option Addr} {m c : Nat} (hn : w.cell? ⟨be, 0, none⟩ = some (.slice ea m c)) (x : Int) :
    Calls Try.prog 44 #[.int .i64 x, .pointer (some ⟨be, 0, none⟩)] w fun e w' => e = .returned (.bool (outN m x)) ∧ Below w.heap.size w w' := by
  have w1 := fun V : World => within_any x m V
  unfold outN
  obtain ⟨p, hp⟩ : ∃ p, inB x m = p := ⟨_, rfl⟩
  rw [hp] at w1 ⊢
  clear hp
  go_enter Try.func44, Try.ntmps44
  go_wp2_with (go_at_call 45; refine (w1 _).mono ?_; clear w1; rintro e v2 ⟨rfl, hw⟩; have hw := hw.symm; subst hw)
  go_ret
  exact ⟨rfl, Below.refl _ _⟩

set_option maxHeartbeats 1000000 in
theorem idx_noEdge {w : World} {v : Value} {es : List Int} {be : Nat} {m : Nat} (h : Has elInt w v es)
    (hf : ∀ V : World, Below w.heap.size w V → ∀ x ∈ es, Calls Try.prog 44 #[.int .i64 x, .pointer (some ⟨be, 0, none⟩)] V fun e w' => e = .returned (.bool (outN m x)) ∧ Below V.heap.size V w') :
    Calls Try.prog 58 #[v, .func (.func 44) #[] #[.pointer (some ⟨be, 0, none⟩)]] w fun e w' => e = .returned (.int .i64 (findI (outN m) es)) ∧ Below w.heap.size w w' := by
  obtain ⟨va, vc, rfl, -, -, hlen⟩ := h.shape
  have HL := hide h
  have HF := hide hf
  clear h hf
  go_enter Try.func58, Try.ntmps58
  go_wp2
  go_loopw [5, 8] (fun _ i wl => ∃ k : Nat, k ≤ es.length ∧ i = .int .i64 k ∧ Hid (∀ x ∈ es.take k, outN m x = false) ∧ Hid (Below w.heap.size w wl)) (fun _ i _ => es.length - (intOf i).toNat)
  case atStart => exact ⟨0, by omega, rfl, by show ∀ x ∈ es.take 0, outN m x = false; simp, Below.refl _ _⟩
  case round =>
    obtain ⟨k, hk, rfl, HK, HB⟩ := hrel
    by_cases hlt : k < es.length
    · have hi : (k : Int) < (es.length : Int) := by omega
      have hi0 : (0 : Int) ≤ (k : Int) := by omega
      obtain ⟨b, off, rfl, -, -, hrow⟩ := HL.out.row (by omega)
      obtain ⟨x, hx⟩ : ∃ x, es[k]? = some x := ⟨_, List.getElem?_eq_getElem hlt⟩
      have y0 := kept_cell HB.out (hrow k x hx 0 _ rfl)
      simp only [elInt, Nat.add_zero, Nat.mul_one] at y0
      have HX := hide hx
      have HC := hide (HF.out wr HB.out x (List.mem_of_getElem? hx))
      clear hrow hx
      cases he : outN m x with
      | true =>
        rw [he] at HC
        have HR := hide (findI_at HX.out HK.out he)
        go_wp2_with (go_at_call 44; refine HC.out.mono ?_; rintro e w2 ⟨rfl, h2⟩; have HB2 := hide (HB.out.trans (h2.mono HB.out.size)); clear h2)
        go_ret
        exact ⟨by rw [HR.out]; rfl, HB2.out⟩
      | false =>
        rw [he] at HC
        have HF2 := hide (all_snoc HX.out HK.out he)
        go_wp2_with (go_at_call 44; refine HC.out.mono ?_; rintro e w2 ⟨rfl, h2⟩; have HB2 := hide (HB.out.trans (h2.mono HB.out.size)); clear h2)
        go_roundw
        case rel => exact ⟨k + 1, by omega, by go_num, HF2, HB2⟩
        case measure => simp [intOf]; omega
    · obtain rfl : k = es.length := by omega
      have hi : ¬ (es.length : Int) < (es.length : Int) := by omega
      have HR := hide (findI_no HK.out)
      go_wp2
      go_ret
      exact ⟨by rw [HR.out]; rfl, HB.out⟩

theorem contains_noEdge {w : World} {v : Value} {es : List Int} {be : Nat} {m : Nat} (h : Has elInt w v es)
    (hf : ∀ V : World, Below w.heap.size w V → ∀ x ∈ es, Calls Try.prog 44 #[.int .i64 x, .pointer (some ⟨be, 0, none⟩)] V fun e w' => e = .returned (.bool (outN m x)) ∧ Below V.heap.size V w') :
    Calls Try.prog 46 #[v, .func (.func 44) #[] #[.pointer (some ⟨be, 0, none⟩)]] w fun e w' => e = .returned (.bool (es.any (outN m))) ∧ Below w.heap.size w w' := by
  have HI := hide (idx_noEdge h hf)
  clear h hf
  have HR := hide (findI_any (outN m) es)
  obtain ⟨r, hr⟩ : ∃ r, findI (outN m) es = r := ⟨_, rfl⟩
  rw [hr] at HI HR
  clear hr
  go_enter Try.func46, Try.ntmps46
  by_cases h0 : 0 ≤ r
  · go_wp2_with (go_at_call 58; refine HI.out.mono ?_; rintro e w2 ⟨rfl, h2⟩; have HB2 := hide h2; clear h2)
    go_ret
    exact ⟨by rw [← HR.out]; simp [h0], HB2.out⟩
  · go_wp2_with (go_at_call 58; refine HI.out.mono ?_; rintro e w2 ⟨rfl, h2⟩; have HB2 := hide h2; clear h2)
    go_ret
    exact ⟨by rw [← HR.out]; simp [h0], HB2.out⟩
end Go.Proofs.Ytmbkjgfnnpopgaa
