/- What strata.Components answers; every component is told. -/
import Derived.Test.YtjifhmlfnnagcaaGraphComps
namespace Go.Proofs.Ytjifhmlfnnagcaa
set_option linter.unusedSimpArgs false
set_option linter.unusedVariables false
open Go.RowKit Go.Maps

theorem countP_lt {α : Type} {p q : α → Bool} {l : List α} (h : ∀ x ∈ l, p x = true → q x = true) (he : ∃ x ∈ l, q x = true ∧ p x = false) : l.countP p < l.countP q := by
  induction l with
  | nil => obtain ⟨x, hx, _⟩ := he; cases hx
  | cons a r ih =>
    have hm : r.countP p ≤ r.countP q := List.countP_mono_left fun x hx hp => h x (by simp [hx]) hp
    have ha := h a (by simp)
    rw [List.countP_cons, List.countP_cons]
    obtain ⟨x, hx, h1, h2⟩ := he
    rcases List.mem_cons.1 hx with e | hx'
    · subst e
      rw [h1, h2]
      simp only [if_true, Bool.false_eq_true, if_false]
      omega
    · have := ih (fun y hy hp => h y (by simp [hy]) hp) ⟨x, hx', h1, h2⟩
      cases hpa : p a with
      | true => rw [ha hpa]; simp only [if_true]; omega
      | false => simp only [Bool.false_eq_true, if_false]; omega

theorem home_self {n : Nat} {T : Nat → Nat → Bool} {H : Nat → Int} (hH : ∀ v, v < n → LeastOf (Ed n T) v (H v)) {v : Nat} (hv : v < n) : (H v).toNat < n ∧ H v = ((H v).toNat : Nat) ∧ H (H v).toNat = ((H v).toNat : Nat) ∧ Mut (Ed n T) v (H v).toNat := by
  obtain ⟨m, e, hm, hmin⟩ := hH v hv
  have h1 := hmin v (Mut.refl v)
  have h2 : (H v).toNat = m := by omega
  rw [h2]
  have hmn : m < n := by omega
  refine ⟨hmn, e, ?_, hm⟩
  rw [← (least_eq (hH v hv) (hH m hmn)).2 hm]
  exact e

theorem stuck_none {n : Nat} {T : Nat → Nat → Bool} {H : Nat → Int} {S : List Nat} (hH : ∀ v, v < n → LeastOf (Ed n T) v (H v)) (hno : ∀ q, q < n → H q = q → q ∉ S → ¬ ReadyIn n T H S q) : ∀ q, q < n → H q = q → q ∈ S := by
  have key : ∀ (m r : Nat), r < n → H r = r → r ∉ S → ((List.range n).countP fun x => @decide (Reach (Ed n T) x r) (Classical.propDecidable _)) = m → False := by
    intro m
    induction m using Nat.strongRecOn with
    | ind m ih =>
      intro r hr hHr hrS hm
      have h1 := hno r hr hHr hrS
      unfold ReadyIn at h1
      simp only [Classical.not_forall] at h1
      obtain ⟨u, v, hu, hv, hT, hne, hvr, hS⟩ := h1
      obtain ⟨hlt, he, hself, hmu⟩ := home_self hH hu
      have hE : Ed n T u v := ⟨hu, hv, hT⟩
      have hvm : Mut (Ed n T) v r := (least_eq (hH v hv) (hH r hr)).1 (by rw [hvr, hHr])
      have hreach : Reach (Ed n T) (H u).toNat r := (hmu.2.tail hE).trans hvm.1
      have hnr : ¬ Reach (Ed n T) r (H u).toNat := fun hc => by
        have : Mut (Ed n T) r (H u).toNat := ⟨hc, hreach⟩
        have h3 := (least_eq (hH r hr) (hH _ hlt)).2 this
        rw [hHr, hself] at h3
        exact hne (by rw [he, hvr]; exact h3.symm)
      refine ih _ ?_ (H u).toNat hlt hself hS rfl
      rw [← hm]
      refine countP_lt (fun x _ hx => ?_) ⟨r, List.mem_range.2 hr, ?_, ?_⟩
      · have hx' : Reach (Ed n T) x (H u).toNat := @of_decide_eq_true _ (Classical.propDecidable _) hx
        exact @decide_eq_true _ (Classical.propDecidable _) (hx'.trans hreach)
      · exact @decide_eq_true _ (Classical.propDecidable _) (.refl r)
      · exact @decide_eq_false _ (Classical.propDecidable _) hnr
  intro q hq hHq
  refine Classical.byContradiction fun hS => key _ q hq hHq hS rfl

/-- The components of the edges es, as they are told. -/
structure CompsAt (base : Nat) (w : World) (n : Nat) (T : Nat → Nat → Bool) (H : Nat → Int) (reps : List Nat) (M : Nat → Value) (tv : Value) : Prop where
  least : ∀ v, v < n → LeastOf (Ed n T) v (H v)
  greedy : Greedy n T H reps
  all : ∀ q, q < n → H q = q → q ∈ reps
  told : Told base w n H tv reps M

theorem CompsAt.mono {base base' : Nat} {w : World} {n : Nat} {T : Nat → Nat → Bool} {H : Nat → Int} {reps : List Nat} {M : Nat → Value} {tv : Value} (h : CompsAt base w n T H reps M tv) (hb : base' ≤ base) : CompsAt base' w n T H reps M tv :=
  ⟨h.least, h.greedy, h.all, ⟨own_mono6 hb h.told.own, fun r hr => own_mono6 hb (h.told.lst r hr), h.told.dis, h.told.tdis⟩⟩
theorem CompsAt.kept {base : Nat} {w w' : World} {n : Nat} {T : Nat → Nat → Bool} {H : Nat → Int} {reps : List Nat} {M : Nat → Value} {tv : Value} (h : CompsAt base w n T H reps M tv) (hb : Below w.heap.size w w') : CompsAt base w' n T H reps M tv :=
  ⟨h.least, h.greedy, h.all, ⟨own_kept6 h.told.own hb, fun r hr => own_kept6 (h.told.lst r hr) hb, h.told.dis, h.told.tdis⟩⟩

set_option maxHeartbeats 1000000 in
theorem components_fit {w : World} {v : Value} {es : List Edg} {n : Nat} (h : Has elEdg w v es) (hfit : fitP n es = true) :
    Calls Try.prog 8 #[.int .i64 (n : Int), v] w fun e w' => ∃ (tv : Value) (H : Nat → Int) (reps : List Nat) (M : Nat → Value), e = .returned (.tuple #[tv, .int .i64 0]) ∧ CompsAt w.heap.size w' n (lnkT es) H reps M tv ∧ Below w.heap.size w w' := by
  have hn : n ≤ 128 := by have := (fit_in8 hfit).1; omega
  obtain ⟨va, vc, rfl, -, -, hlen⟩ := h.shape
  have HF := hide (fit_any h n)
  rw [hfit] at HF
  have HL := hide h
  have HFt := hide hfit
  clear h hfit
  go_enter Try.func8, Try.ntmps8
  go_wp2_with (first
    | (go_at_call 24; refine HF.out.mono ?_; rintro e w1 ⟨rfl, h1⟩; have HB1 := hide h1; clear h1)
    | (go_at_call 25; refine (newGraph_any (HL.out.kept HB1.out) HFt.out).mono ?_; rintro e w2 ⟨gl, rfl, h1, h2, h3⟩; have HG2 := hide h2; have HB2 := hide (HB1.out.trans (h3.mono HB1.out.size)); clear h1 h2 h3)
    | (go_at_call 26; refine (comps_any HG2.out hn).mono ?_; rintro e w3 ⟨tv, H, reps, M, rfl, h1, h2, h3, h4, h5⟩; have HC : Hid (CompsAt w2.heap.size w3 n (lnkT es) H reps M tv) := ⟨h1, h2, stuck_none h1 h3, h4⟩; have HB3 := hide (HB2.out.trans (h5.mono HB2.out.size)); clear h1 h2 h3 h4 h5))
  exact bodyPost_ret (v := .tuple #[tv, .int .i64 0]) (by simp [results, Try.results8, go_sem]) rfl ⟨tv, H, reps, M, rfl, HC.out.mono HB2.out.size, HB3.out⟩
end Go.Proofs.Ytjifhmlfnnagcaa
