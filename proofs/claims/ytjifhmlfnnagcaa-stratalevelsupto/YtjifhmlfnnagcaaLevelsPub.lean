/- strata.Levels, where the edges fit. -/
import Derived.Test.YtjifhmlfnnagcaaGraphLevels
namespace Go.Proofs.Ytjifhmlfnnagcaa
set_option linter.unusedSimpArgs false
set_option linter.unusedVariables false
open Go.RowKit Go.Maps

/-- A negated edge inside a component. -/
def HasBad (n : Nat) (es : List Edg) : Prop := ∃ x ∈ es, x.neg = true ∧ Mut (Ed n (lnkT es)) x.f.toNat x.t.toNat

theorem bad_iff {n : Nat} {es : List Edg} {H : Nat → Int} (hin : ∀ x ∈ es, 0 ≤ x.f ∧ x.f < n ∧ 0 ≤ x.t ∧ x.t < n) (hH : ∀ v, v < n → LeastOf (Ed n (lnkT es)) v (H v)) : 0 ≤ findI (badE H) es ↔ HasBad n es := by
  have h := findI_any (badE H) es
  constructor
  · intro h0
    rw [decide_eq_true h0] at h
    obtain ⟨x, hx, hb⟩ := List.any_eq_true.1 h.symm
    unfold badE at hb
    simp at hb
    obtain ⟨q1, q2, q3, q4⟩ := hin x hx
    exact ⟨x, hx, hb.1, (least_eq (hH _ (by omega)) (hH _ (by omega))).1 hb.2⟩
  · rintro ⟨x, hx, h1, h2⟩
    obtain ⟨q1, q2, q3, q4⟩ := hin x hx
    have h3 := (least_eq (hH x.f.toNat (by omega)) (hH x.t.toNat (by omega))).2 h2
    have h4 : es.any (badE H) = true := List.any_eq_true.2 ⟨x, hx, by unfold badE; simp [h1, h3]⟩
    rw [h4] at h
    exact of_decide_eq_true h
theorem lnkN_T {es : List Edg} (u v : Nat) (h : lnkN es u v = true) : lnkT es u v = true := by
  unfold lnkN at h
  obtain ⟨x, hx, h1⟩ := List.any_eq_true.1 h
  unfold lnkT
  simp at h1
  exact List.any_eq_true.2 ⟨x, hx, h1.1⟩
theorem lnkN_bad {n : Nat} {es : List Edg} (hb : ¬ HasBad n es) (u v : Nat) (hN : lnkN es u v = true) : ¬ Mut (Ed n (lnkT es)) u v := fun hm => by
  unfold lnkN at hN
  obtain ⟨x, hx, h1⟩ := List.any_eq_true.1 hN
  unfold isE at h1
  simp at h1
  obtain ⟨⟨h2, h3⟩, h4⟩ := h1
  exact hb ⟨x, hx, h4, by rw [h2, h3]; exact hm⟩

set_option maxHeartbeats 1000000 in
theorem levels_fit2 {w : World} {v : Value} {es : List Edg} {n : Nat} (h : Has elEdg w v es) (hfit : fitP n es = true) :
    Calls Try.prog 14 #[.int .i64 (n : Int), v] w fun e w' => ((HasBad n es ∧ e = .returned (.tuple #[.slice none 0 0, .int .i64 40])) ∨ (¬ HasBad n es ∧ ∃ (g : Nat) (X : Nat → Int), e = .returned (.tuple #[.slice (some ⟨g, 0, none⟩) n n, .int .i64 0]) ∧ w'.rowIs g 3 n (fun i => .int .i64 (X i)) ∧ Least n (lnkT es) (lnkN es) X ∧ (∀ p, p < n → X p ≤ n) ∧ w.heap.size ≤ g)) ∧ Below w.heap.size w w' := by
  have hn : n ≤ 128 := by have := (fit_in8 hfit).1; omega
  obtain ⟨va, vc, rfl, -, -, hlen⟩ := h.shape
  have HIn := hide (fit_in8 hfit).2
  have HF := hide (fit_any h n)
  rw [hfit] at HF
  have HL := hide h
  have HFt := hide hfit
  clear h hfit
  by_cases hb : HasBad n es
  · have HBd := hide hb
    clear hb
    go_enter Try.func14, Try.ntmps14
    go_wp2_with (first
      | (go_at_call 24; refine HF.out.mono ?_; rintro e w1 ⟨rfl, h1⟩; have HB1 := hide h1; clear h1)
      | (go_at_call 25; refine (newGraph_any (HL.out.kept HB1.out) HFt.out).mono ?_; rintro e w2 ⟨gl, rfl, h1, h2, h3⟩; have hbx := belo1 w2 (.cells #[.int .i64 (n : Int), .slice (some ⟨gl, 0, none⟩) (n * n) (n * n)] 48); have HG2 := hide (h2.kept hbx); have hB2 := HB1.out.trans (h3.mono HB1.out.size); have HB2 := hide (hB2.trans (hbx.mono hB2.size)); have HL2 := hide (((HL.out.kept HB1.out).kept h3).kept hbx); have HX0 : Hid ((w2.alloc (.cells #[.int .i64 (n : Int), .slice (some ⟨gl, 0, none⟩) (n * n) (n * n)] 48)).cell? ⟨w2.heap.size, 0, none⟩ = some (.int .i64 (n : Int)) ∧ (w2.alloc (.cells #[.int .i64 (n : Int), .slice (some ⟨gl, 0, none⟩) (n * n) (n * n)] 48)).cell? ⟨w2.heap.size, 1, none⟩ = some (.slice (some ⟨gl, 0, none⟩) (n * n) (n * n))) := (by show _ ∧ _; constructor <;> simp); clear h1 h2 h3 hbx hB2)
      | (go_at_call 27; refine (bad_any HG2.out hn HL2.out HIn.out).mono ?_; rintro e w3 ⟨H, h1, rfl, h5⟩; have x0 := kept_cell h5 HX0.out.1; have x1 := kept_cell h5 HX0.out.2; have HB3 := hide (HB2.out.trans (h5.mono HB2.out.size)); have hge := (bad_iff HIn.out h1).2 HBd.out; obtain ⟨bd, hbd⟩ : ∃ bd, findI (badE H) es = bd := ⟨_, rfl⟩; rw [hbd] at hge ⊢; clear h1 h5 hbd))
    exact bodyPost_ret (v := .tuple #[.slice none 0 0, .int .i64 40]) (by simp [results, Try.results14, go_sem]) rfl ⟨.inl ⟨HBd.out, rfl⟩, HB3.out⟩
  · have HBd := hide hb
    clear hb
    go_enter Try.func14, Try.ntmps14
    go_wp2_with (first
      | (go_at_call 24; refine HF.out.mono ?_; rintro e w1 ⟨rfl, h1⟩; have HB1 := hide h1; clear h1)
      | (go_at_call 25; refine (newGraph_any (HL.out.kept HB1.out) HFt.out).mono ?_; rintro e w2 ⟨gl, rfl, h1, h2, h3⟩; have hbx := belo1 w2 (.cells #[.int .i64 (n : Int), .slice (some ⟨gl, 0, none⟩) (n * n) (n * n)] 48); have HG2 := hide (h2.kept hbx); have hB2 := HB1.out.trans (h3.mono HB1.out.size); have HB2 := hide (hB2.trans (hbx.mono hB2.size)); have HL2 := hide (((HL.out.kept HB1.out).kept h3).kept hbx); have HX0 : Hid ((w2.alloc (.cells #[.int .i64 (n : Int), .slice (some ⟨gl, 0, none⟩) (n * n) (n * n)] 48)).cell? ⟨w2.heap.size, 0, none⟩ = some (.int .i64 (n : Int)) ∧ (w2.alloc (.cells #[.int .i64 (n : Int), .slice (some ⟨gl, 0, none⟩) (n * n) (n * n)] 48)).cell? ⟨w2.heap.size, 1, none⟩ = some (.slice (some ⟨gl, 0, none⟩) (n * n) (n * n))) := (by show _ ∧ _; constructor <;> simp); clear h1 h2 h3 hbx hB2)
      | (go_at_call 27; refine (bad_any HG2.out hn HL2.out HIn.out).mono ?_; rintro e w3 ⟨H, h1, rfl, h5⟩; have x0 := kept_cell h5 HX0.out.1; have x1 := kept_cell h5 HX0.out.2; have HG3 := hide (HG2.out.kept h5); have HB3 := hide (HB2.out.trans (h5.mono HB2.out.size)); have hge : ¬ 0 ≤ findI (badE H) es := (fun hc => HBd.out ((bad_iff HIn.out h1).1 hc)); obtain ⟨bd, hbd⟩ : ∃ bd, findI (badE H) es = bd := ⟨_, rfl⟩; rw [hbd] at hge ⊢; clear h1 h5 hbd)
      | (go_at_call 28; refine (levels_at HG3.out hn lnkN_T (fun u v _ _ hN => lnkN_bad HBd.out u v hN)).mono ?_; rintro e w4 ⟨g, X, rfl, h1, h2, hge4, h5⟩; have HGe := hide (Nat.le_trans HB3.out.size hge4); clear hge4; have HR4 := hide h1; have HX4 := hide h2; have HB4 := hide (HB3.out.trans (h5.mono HB3.out.size)); clear h1 h2 h5))
    exact bodyPost_ret (v := .tuple #[.slice (some ⟨g, 0, none⟩) n n, .int .i64 0]) (by simp [results, Try.results14, go_sem]) rfl ⟨.inr ⟨HBd.out, g, X, rfl, HR4.out, HX4.out.1, HX4.out.2, HGe.out⟩, HB4.out⟩
theorem levels_fit {w : World} {v : Value} {es : List Edg} {n : Nat} (h : Has elEdg w v es) (hfit : fitP n es = true) :
    Calls Try.prog 14 #[.int .i64 (n : Int), v] w fun e w' => ((HasBad n es ∧ e = .returned (.tuple #[.slice none 0 0, .int .i64 40])) ∨ (¬ HasBad n es ∧ ∃ (g : Nat) (X : Nat → Int), e = .returned (.tuple #[.slice (some ⟨g, 0, none⟩) n n, .int .i64 0]) ∧ w'.rowIs g 3 n (fun i => .int .i64 (X i)) ∧ Least n (lnkT es) (lnkN es) X ∧ ∀ p, p < n → X p ≤ n)) ∧ Below w.heap.size w w' :=
  (levels_fit2 h hfit).mono fun _ _ ⟨h1, h2⟩ => ⟨h1.imp id fun ⟨nb, g, X, a, b, c, d, _⟩ => ⟨nb, g, X, a, b, c, d⟩, h2⟩
end Go.Proofs.Ytjifhmlfnnagcaa
