/- parse's reader takes a literal: a test. -/
import Derived.Test.YtilckhdaijfddaaDoorProg
import Derived.Test.YtilckhdaijfddaaDoorParseLit2
namespace Go.Proofs.YtilckhdaijfddaaDoor
set_option linter.unusedSimpArgs false
set_option linter.unusedVariables false
open Go.RowKit

def zeroAtx : Atx := ⟨⟨#[]⟩, .slice none 0 0, 0, []⟩
theorem zeroAtx_ok (w : World) (F : Nat → Prop) : elAtx.ok w F zeroAtx := ⟨by unfold zeroAtx; decide, i64_0, Lst.nil _ _ _⟩
def testP (c f : Int) (first : Tok) (R : List Tok) : PR PLit := match takeP c f [11] R with
  | .bad c o => PR.bad c o
  | .ok o1 r' => match takeP c f termKs r' with
    | .bad c o => .bad c o
    | .ok t2 r'' => .ok ⟨3, zeroAtom, o1.op, termP first, termP t2, first.off⟩ r''

set_option maxHeartbeats 4000000 in
set_option maxRecDepth 100000 in
theorem lit_testB {w : World} {p : Nat} {ao : Option Addr} {cap : Nat} {L : List Tok} {c f : Int} {R : List Tok} (first : Tok) (h : Ahead w p ao cap L c f R) (hname : first.good) (h10 : first.k ≠ 10) (h1 : first.k ≠ 1) :
    Calls Tryd.prog 58 #[.pointer (some ⟨p, 0, none⟩), tokV first] w (LitPost w p ao cap L c f (litP c f first R)) := by
  have e10 : (first.k == 10) = false := by simpa using h10
  have e1 : (first.k == 1) = false := by simpa using h1
  have HE : litP c f first R = testP c f first R := by unfold litP testP; rw [if_neg h10]; simp only; rw [if_neg h1]; rfl
  rw [HE]
  have H0 := hide h
  have hp := h.lt
  have HB := hide (TwoBox.start (w := w) hp (.cells #[.int .i64 first.k, .string first.t, .int .i64 first.n, .int .i64 first.op, .int .i64 (first.off : Int), .int .i64 (first.en : Int)] 108) (.cells #[.int .i64 0, .string ⟨#[]⟩, .slice none 0 0, .int .i64 0, .int .i64 0, .int .i64 0, .int .i64 0, .string ⟨#[]⟩, .int .i64 0, .int .i64 0, .int .i64 0, .string ⟨#[]⟩, .int .i64 0, .int .i64 0] 86))
  have HF := hide (termOf_any first)
  unfold tokV at HF ⊢
  unfold Trm.val at HF
  have HA1 := hide (H0.out.kept (below2a w (.cells #[.int .i64 first.k, .string first.t, .int .i64 first.n, .int .i64 first.op, .int .i64 (first.off : Int), .int .i64 (first.en : Int)] 108) (.cells #[.int .i64 0, .string ⟨#[]⟩, .slice none 0 0, .int .i64 0, .int .i64 0, .int .i64 0, .int .i64 0, .string ⟨#[]⟩, .int .i64 0, .int .i64 0, .int .i64 0, .string ⟨#[]⟩, .int .i64 0, .int .i64 0] 86)))
  have HB1 := HB
  clear h h10 h1 HE
  cases hT : takeP c f [11] R with
  | bad ec eo =>
    have HT : Hid (∀ (W : World) (n : Nat), W.heap.size = n → Ahead W p ao cap L c f R → Calls Tryd.prog 40 #[.pointer (some ⟨p, 0, none⟩), .slice (some ⟨n, 0, none⟩) 1 1] (W.alloc (.cells #[.int .i64 11] 3)) fun e w' => e = PEnd ec eo ∧ Below W.heap.size W w') := fun W n hn ha => hn ▸ take_lit_fail [11] ha (by decide) hT
    rw [show testP c f first R = .bad ec eo from by unfold testP; rw [hT]]
    clear hT
    unfold LitPost
    go_enter Tryd.func58, Tryd.ntmps58
    go_wp2_with (first
      | (go_at_call 40; refine (HT.out _ _ (by simp) HA1.out).mono ?_; rintro e w2 ⟨rfl, hb2⟩))
    exact ⟨rfl, rfl, only_drop (HB1.out.below hb2).on⟩
  | ok o1 r1 =>
    have HT : Hid (∀ (W : World) (n : Nat), W.heap.size = n → Ahead W p ao cap L c f R → Calls Tryd.prog 40 #[.pointer (some ⟨p, 0, none⟩), .slice (some ⟨n, 0, none⟩) 1 1] (W.alloc (.cells #[.int .i64 11] 3)) fun e w' => e = .returned (tokV o1) ∧ Ahead w' p ao cap L c f r1 ∧ Only (fun b => b = p) W w') := fun W n hn ha => hn ▸ take_lit_good [11] ha (by decide) hT
    have hfo := tok_op (.int .i64 o1.k) (.string o1.t) (.int .i64 o1.n) (.int .i64 o1.op) (.int .i64 (o1.off : Int)) (.int .i64 (o1.en : Int))
    have HO1 := hide (H0.out.good o1 (by rw [(take_eq hT).1]; exact List.mem_cons_self))
    have HSub : Hid (∀ t ∈ r1, t.good) := fun t ht => H0.out.good t (by rw [(take_eq hT).1]; exact List.mem_cons_of_mem _ ht)
    unfold tokV at HT
    cases hT2 : takeP c f termKs r1 with
    | bad ec eo =>
      have HP := hide (fun (W : World) (ha : Ahead W p ao cap L c f r1) => term_fail ha hT2)
      rw [show testP c f first R = .bad ec eo from by unfold testP; rw [hT]; simp only; rw [hT2]]
      clear hT hT2
      unfold LitPost
      go_enter Tryd.func58, Tryd.ntmps58
      go_wp2_with (first
      | (go_at_call 40; refine (HT.out _ _ (by simp) HA1.out).mono ?_; rintro e w2 ⟨rfl, ha2, ho2⟩; have HA2 := hide ha2; have HB2 := hide (HB1.out.move ho2); clear ha2 ho2; obtain ⟨x0, x1, x2, x3, x4, x5⟩ := tok_cells HB2.out.b0))
      go_region_with (first
        | (go_at_call 61; refine (HF.out _).mono ?_; rintro e w3 ⟨rfl, hb3⟩; have HA3 := hide (HA2.out.drew.kept hb3); have HB3 := hide (HB2.out.drew.below hb3); clear hb3; have z6 := tok_cells HB3.out.b0)
        | (go_at_call 63; refine (HP.out _ (by first | exact HA3.out | exact HA3.out.drew)).mono ?_; rintro e w4 ⟨rfl, hb4⟩; refine panic_ends (P := Tryd.prog) (w := w4) ⟨rfl, rfl, by first | exact only_drop (HB3.out.below hb4).on | exact only_drop (HB3.out.drew.below hb4).on⟩ ?_))
      all_goals trivial
    | ok t2 r2 =>
      have HP := hide (fun (W : World) (ha : Ahead W p ao cap L c f r1) => term_good ha hT2)
      have HT2 := hide (HSub.out t2 (by rw [(take_eq hT2).1]; exact List.mem_cons_self))
      unfold Trm.val at HP
      rw [show testP c f first R = .ok ⟨3, zeroAtom, o1.op, termP first, termP t2, first.off⟩ r2 from by unfold testP; rw [hT]; simp only; rw [hT2]]
      clear hT hT2
      unfold LitPost
      go_enter Tryd.func58, Tryd.ntmps58
      go_wp2_with (first
      | (go_at_call 40; refine (HT.out _ _ (by simp) HA1.out).mono ?_; rintro e w2 ⟨rfl, ha2, ho2⟩; have HA2 := hide ha2; have HB2 := hide (HB1.out.move ho2); clear ha2 ho2; obtain ⟨x0, x1, x2, x3, x4, x5⟩ := tok_cells HB2.out.b0))
      go_region_held3 (fun w' => w'.cell? ⟨w.heap.size, 0, none⟩ = some (.int .i64 first.k) ∧ w'.cell? ⟨w.heap.size, 1, none⟩ = some (.string first.t) ∧ w'.cell? ⟨w.heap.size, 2, none⟩ = some (.int .i64 first.n) ∧ w'.cell? ⟨w.heap.size, 3, none⟩ = some (.int .i64 first.op) ∧ w'.cell? ⟨w.heap.size, 4, none⟩ = some (.int .i64 (first.off : Int)) ∧ w'.cell? ⟨w.heap.size, 5, none⟩ = some (.int .i64 (first.en : Int)))
        (first | (with_reducible exact z6) | (with_reducible exact z7) | (go_keep; done))
        (first
        | (go_at_call 61; refine (HF.out _).mono ?_; rintro e w3 ⟨rfl, hb3⟩; have HA3 := hide (HA2.out.drew.kept hb3); have HB3 := hide (HB2.out.drew.below hb3); clear hb3; have z6 := tok_cells HB3.out.b0)
        | (go_at_call 63; refine (HP.out _ (by first | exact HA3.out | exact HA3.out.drew)).mono ?_; rintro e w4 ⟨rfl, ha4, ho4⟩; have HA4 := hide ha4; have HB4 := hide (HB3.out.move ho4); clear ha4 ho4; have z7 := tok_cells HB4.out.b0; obtain ⟨⟨k0, k1, k2, k3, k4, k5, k6, k7, k8, k9, k10, k11, k12, k13⟩, ⟨l0, l1, l2, l3, l4, l5, l6, l7, l8, l9, l10, l11, l12, l13⟩⟩ := boxL_cells HB4.out.b1))
      go_wp2
      refine bodyPost_ret (litRes _ (w.heap.size + 1) _ _ _ _ _ _ _ _ _ _ _ _ _ _ _ rfl (boxL_put HB4.out.b1 _ _ _ _ _ _ _ _ _ _ _ _ _ _)) rfl ?_
      exact lit_fin H0.out HA4.out HB4.out ⟨3, zeroAtx, o1.op, termP first, termP t2, first.off⟩ _ rfl ⟨i64_3, zeroAtx_ok _ _, HO1.out.2.2.2.1, termP_ok hname, termP_ok HT2.out, (good_parts hname).2⟩ (Nat.le_refl (w.heap.size + 2)) _ _ _ _ _ _ _ _ _ _ _ _ _ _

set_option maxHeartbeats 4000000 in
set_option maxRecDepth 100000 in
theorem lit_testA {w : World} {p : Nat} {ao : Option Addr} {cap : Nat} {L : List Tok} {c f : Int} {t : Tok} {R : List Tok} (first : Tok) (h : Ahead w p ao cap L c f (t :: R)) (hname : first.good) (h1 : first.k = 1) (h11 : t.k = 11) :
    Calls Tryd.prog 58 #[.pointer (some ⟨p, 0, none⟩), tokV first] w (LitPost w p ao cap L c f (litP c f first (t :: R))) := by
  have e10 : (first.k == 10) = false := by simp; omega
  have e1 : (first.k == 1) = true := by simpa using h1
  have e11 : (t.k != 11) = false := by simpa using h11
  have HE : litP c f first (t :: R) = testP c f first (t :: R) := by unfold litP testP; rw [if_neg (by omega)]; simp only; rw [if_pos h1, if_pos h11]; rfl
  rw [HE]
  have HL := hide (fun W (hb : Below w.heap.size w W) => look_good (h.kept hb))
  have hfd := tok_kind (.int .i64 t.k) (.string t.t) (.int .i64 t.n) (.int .i64 t.op) (.int .i64 (t.off : Int)) (.int .i64 (t.en : Int))
  have H0 := hide h
  have hp := h.lt
  have HB := hide (TwoBox.start (w := w) hp (.cells #[.int .i64 first.k, .string first.t, .int .i64 first.n, .int .i64 first.op, .int .i64 (first.off : Int), .int .i64 (first.en : Int)] 108) (.cells #[.int .i64 0, .string ⟨#[]⟩, .slice none 0 0, .int .i64 0, .int .i64 0, .int .i64 0, .int .i64 0, .string ⟨#[]⟩, .int .i64 0, .int .i64 0, .int .i64 0, .string ⟨#[]⟩, .int .i64 0, .int .i64 0] 86))
  have HF := hide (termOf_any first)
  unfold tokV at HF ⊢
  unfold Trm.val at HF
  unfold tokV at HL
  clear h h1 h11 HE
  cases hT : takeP c f [11] (t :: R) with
  | bad ec eo =>
    have HT : Hid (∀ (W : World) (n : Nat), W.heap.size = n → Ahead W p ao cap L c f (t :: R) → Calls Tryd.prog 40 #[.pointer (some ⟨p, 0, none⟩), .slice (some ⟨n, 0, none⟩) 1 1] (W.alloc (.cells #[.int .i64 11] 3)) fun e w' => e = PEnd ec eo ∧ Below W.heap.size W w') := fun W n hn ha => hn ▸ take_lit_fail [11] ha (by decide) hT
    rw [show testP c f first (t :: R) = .bad ec eo from by unfold testP; rw [hT]]
    clear hT
    unfold LitPost
    go_enter Tryd.func58, Tryd.ntmps58
    go_wp2_with (first
      | (go_at_call 53; refine (HL.out _ (below2a _ _ _)).mono ?_; rintro e w1 ⟨rfl, hb1⟩; have HA1 := hide ((H0.out.kept (below2a _ _ _)).kept hb1); have HB1 := hide (HB.out.below hb1); clear hb1; obtain ⟨x0, x1, x2, x3, x4, x5⟩ := tok_cells HB1.out.b0)
      | (go_at_call 40; refine (HT.out _ _ (by simp) HA1.out).mono ?_; rintro e w2 ⟨rfl, hb2⟩))
    exact ⟨rfl, rfl, only_drop (HB1.out.below hb2).on⟩
  | ok o1 r1 =>
    have HT : Hid (∀ (W : World) (n : Nat), W.heap.size = n → Ahead W p ao cap L c f (t :: R) → Calls Tryd.prog 40 #[.pointer (some ⟨p, 0, none⟩), .slice (some ⟨n, 0, none⟩) 1 1] (W.alloc (.cells #[.int .i64 11] 3)) fun e w' => e = .returned (tokV o1) ∧ Ahead w' p ao cap L c f r1 ∧ Only (fun b => b = p) W w') := fun W n hn ha => hn ▸ take_lit_good [11] ha (by decide) hT
    have hfo := tok_op (.int .i64 o1.k) (.string o1.t) (.int .i64 o1.n) (.int .i64 o1.op) (.int .i64 (o1.off : Int)) (.int .i64 (o1.en : Int))
    have HO1 := hide (H0.out.good o1 (by rw [(take_eq hT).1]; exact List.mem_cons_self))
    have HSub : Hid (∀ t ∈ r1, t.good) := fun t ht => H0.out.good t (by rw [(take_eq hT).1]; exact List.mem_cons_of_mem _ ht)
    unfold tokV at HT
    cases hT2 : takeP c f termKs r1 with
    | bad ec eo =>
      have HP := hide (fun (W : World) (ha : Ahead W p ao cap L c f r1) => term_fail ha hT2)
      rw [show testP c f first (t :: R) = .bad ec eo from by unfold testP; rw [hT]; simp only; rw [hT2]]
      clear hT hT2
      unfold LitPost
      go_enter Tryd.func58, Tryd.ntmps58
      go_wp2_with (first
      | (go_at_call 53; refine (HL.out _ (below2a _ _ _)).mono ?_; rintro e w1 ⟨rfl, hb1⟩; have HA1 := hide ((H0.out.kept (below2a _ _ _)).kept hb1); have HB1 := hide (HB.out.below hb1); clear hb1; obtain ⟨x0, x1, x2, x3, x4, x5⟩ := tok_cells HB1.out.b0)
      | (go_at_call 40; refine (HT.out _ _ (by simp) HA1.out).mono ?_; rintro e w2 ⟨rfl, ha2, ho2⟩; have HA2 := hide ha2; have HB2 := hide (HB1.out.move ho2); clear ha2 ho2; obtain ⟨x0, x1, x2, x3, x4, x5⟩ := tok_cells HB2.out.b0))
      go_region_with (first
        | (go_at_call 61; refine (HF.out _).mono ?_; rintro e w3 ⟨rfl, hb3⟩; have HA3 := hide (HA2.out.drew.kept hb3); have HB3 := hide (HB2.out.drew.below hb3); clear hb3; have z6 := tok_cells HB3.out.b0)
        | (go_at_call 63; refine (HP.out _ (by first | exact HA3.out | exact HA3.out.drew)).mono ?_; rintro e w4 ⟨rfl, hb4⟩; refine panic_ends (P := Tryd.prog) (w := w4) ⟨rfl, rfl, by first | exact only_drop (HB3.out.below hb4).on | exact only_drop (HB3.out.drew.below hb4).on⟩ ?_))
      all_goals trivial
    | ok t2 r2 =>
      have HP := hide (fun (W : World) (ha : Ahead W p ao cap L c f r1) => term_good ha hT2)
      have HT2 := hide (HSub.out t2 (by rw [(take_eq hT2).1]; exact List.mem_cons_self))
      unfold Trm.val at HP
      rw [show testP c f first (t :: R) = .ok ⟨3, zeroAtom, o1.op, termP first, termP t2, first.off⟩ r2 from by unfold testP; rw [hT]; simp only; rw [hT2]]
      clear hT hT2
      unfold LitPost
      go_enter Tryd.func58, Tryd.ntmps58
      go_wp2_with (first
      | (go_at_call 53; refine (HL.out _ (below2a _ _ _)).mono ?_; rintro e w1 ⟨rfl, hb1⟩; have HA1 := hide ((H0.out.kept (below2a _ _ _)).kept hb1); have HB1 := hide (HB.out.below hb1); clear hb1; obtain ⟨x0, x1, x2, x3, x4, x5⟩ := tok_cells HB1.out.b0)
      | (go_at_call 40; refine (HT.out _ _ (by simp) HA1.out).mono ?_; rintro e w2 ⟨rfl, ha2, ho2⟩; have HA2 := hide ha2; have HB2 := hide (HB1.out.move ho2); clear ha2 ho2; obtain ⟨x0, x1, x2, x3, x4, x5⟩ := tok_cells HB2.out.b0))
      go_region_held3 (fun w' => w'.cell? ⟨w.heap.size, 0, none⟩ = some (.int .i64 first.k) ∧ w'.cell? ⟨w.heap.size, 1, none⟩ = some (.string first.t) ∧ w'.cell? ⟨w.heap.size, 2, none⟩ = some (.int .i64 first.n) ∧ w'.cell? ⟨w.heap.size, 3, none⟩ = some (.int .i64 first.op) ∧ w'.cell? ⟨w.heap.size, 4, none⟩ = some (.int .i64 (first.off : Int)) ∧ w'.cell? ⟨w.heap.size, 5, none⟩ = some (.int .i64 (first.en : Int)))
        (first | (with_reducible exact z6) | (with_reducible exact z7) | (go_keep; done))
        (first
        | (go_at_call 61; refine (HF.out _).mono ?_; rintro e w3 ⟨rfl, hb3⟩; have HA3 := hide (HA2.out.drew.kept hb3); have HB3 := hide (HB2.out.drew.below hb3); clear hb3; have z6 := tok_cells HB3.out.b0)
        | (go_at_call 63; refine (HP.out _ (by first | exact HA3.out | exact HA3.out.drew)).mono ?_; rintro e w4 ⟨rfl, ha4, ho4⟩; have HA4 := hide ha4; have HB4 := hide (HB3.out.move ho4); clear ha4 ho4; have z7 := tok_cells HB4.out.b0; obtain ⟨⟨k0, k1, k2, k3, k4, k5, k6, k7, k8, k9, k10, k11, k12, k13⟩, ⟨l0, l1, l2, l3, l4, l5, l6, l7, l8, l9, l10, l11, l12, l13⟩⟩ := boxL_cells HB4.out.b1))
      go_wp2
      refine bodyPost_ret (litRes _ (w.heap.size + 1) _ _ _ _ _ _ _ _ _ _ _ _ _ _ _ rfl (boxL_put HB4.out.b1 _ _ _ _ _ _ _ _ _ _ _ _ _ _)) rfl ?_
      exact lit_fin H0.out HA4.out HB4.out ⟨3, zeroAtx, o1.op, termP first, termP t2, first.off⟩ _ rfl ⟨i64_3, zeroAtx_ok _ _, HO1.out.2.2.2.1, termP_ok hname, termP_ok HT2.out, (good_parts hname).2⟩ (Nat.le_refl (w.heap.size + 2)) _ _ _ _ _ _ _ _ _ _ _ _ _ _

/-- A literal that a token begins. -/
theorem literal_any {w : World} {p : Nat} {ao : Option Addr} {cap : Nat} {L : List Tok} {c f : Int} {R : List Tok} (first : Tok) (h : Ahead w p ao cap L c f R) (hname : first.good) :
    Calls Tryd.prog 58 #[.pointer (some ⟨p, 0, none⟩), tokV first] w (LitPost w p ao cap L c f (litP c f first R)) := by
  by_cases h10 : first.k = 10
  · exact lit_not first h hname h10
  by_cases h1 : first.k = 1
  · match R, h with
    | [], h => exact lit_none first h hname h1
    | t :: r, h =>
      by_cases h11 : t.k = 11
      · exact lit_testA first h hname h1 h11
      · exact lit_pos first h hname h1 h11
  · exact lit_testB first h hname h10 h1
end Go.Proofs.YtilckhdaijfddaaDoor
