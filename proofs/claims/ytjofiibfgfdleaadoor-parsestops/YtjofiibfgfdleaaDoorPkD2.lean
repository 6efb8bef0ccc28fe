/- parse's reader takes a literal: a test. parse's reader takes a body. parse's reader takes a clause. A region that draws its order and whose last operation, which waits for all the others, writes what they read: the condition on the world must hold behind every operation but that one. Nothing of the program's own text. -/
import Derived.Test.YtjofiibfgfdleaaDoorProg
import Derived.Test.YtjofiibfgfdleaaDoorPkC2
import Derived.Test.YtjofiibfgfdleaaDoorParseLen
import Derived.Deep.RegionHeld3

namespace Go.Proofs.YtjofiibfgfdleaaDoor
set_option linter.unusedSimpArgs false
set_option linter.unusedVariables false
open Go.RowKit

def zeroAtx : Atx := ⟨⟨#[]⟩, .slice none 0 0, 0, []⟩
theorem zeroAtx_ok (w : World) (F : Nat → Prop) : elAtx.ok w F zeroAtx := ⟨by unfold zeroAtx; decide, i64_0, Lst.nil _ _ _⟩
def testP (c f : Int) (first : Tok) (R : List Tok) : PR PLit := match takeP c f [11] R with
  | .bad c o => PR.bad c o
  | .ok o1 r' => match takeP c f termKs r' with
    | .bad c o => .bad c o
    | .ok t2 r'' => .ok ⟨3, zeroAtom, o1.op, termP first, termP t2, first.off⟩ r''

set_option maxHeartbeats 4000000 in
set_option maxRecDepth 100000 in
theorem lit_testB {w : World} {p : Nat} {ao : Option Addr} {cap : Nat} {L : List Tok} {c f : Int} {R : List Tok} (first : Tok) (h : Ahead w p ao cap L c f R) (hname : first.good) (h10 : first.k ≠ 10) (h1 : first.k ≠ 1) :
    Calls Tryd.prog 69 #[.pointer (some ⟨p, 0, none⟩), tokV first] w (LitPost w p ao cap L c f (litP c f first R)) := by
  have e10 : (first.k == 10) = false := by simpa using h10
  have e1 : (first.k == 1) = false := by simpa using h1
  have HE : litP c f first R = testP c f first R := by unfold litP testP; rw [if_neg h10]; simp only; rw [if_neg h1]; rfl
  rw [HE]
  have H0 := hide h
  have hp := h.lt
  have HB := hide (TwoBox.start (w := w) hp (.cells #[.int .i64 first.k, .string first.t, .int .i64 first.n, .int .i64 first.op, .int .i64 (first.off : Int), .int .i64 (first.en : Int)] 30) (.cells #[.int .i64 0, .string ⟨#[]⟩, .slice none 0 0, .int .i64 0, .int .i64 0, .int .i64 0, .int .i64 0, .string ⟨#[]⟩, .int .i64 0, .int .i64 0, .int .i64 0, .string ⟨#[]⟩, .int .i64 0, .int .i64 0] 76))
  have HF := hide (termOf_any first)
  unfold tokV at HF ⊢
  unfold Trm.val at HF
  have HA1 := hide (H0.out.kept (below2a w (.cells #[.int .i64 first.k, .string first.t, .int .i64 first.n, .int .i64 first.op, .int .i64 (first.off : Int), .int .i64 (first.en : Int)] 30) (.cells #[.int .i64 0, .string ⟨#[]⟩, .slice none 0 0, .int .i64 0, .int .i64 0, .int .i64 0, .int .i64 0, .string ⟨#[]⟩, .int .i64 0, .int .i64 0, .int .i64 0, .string ⟨#[]⟩, .int .i64 0, .int .i64 0] 76)))
  have HB1 := HB
  clear h h10 h1 HE
  cases hT : takeP c f [11] R with
  | bad ec eo =>
    have HT : Hid (∀ (W : World) (n : Nat), W.heap.size = n → Ahead W p ao cap L c f R → Calls Tryd.prog 44 #[.pointer (some ⟨p, 0, none⟩), .slice (some ⟨n, 0, none⟩) 1 1] (W.alloc (.cells #[.int .i64 11] 3)) fun e w' => e = PEnd ec eo ∧ Below W.heap.size W w') := fun W n hn ha => hn ▸ take_lit_fail [11] ha (by decide) hT
    rw [show testP c f first R = .bad ec eo from by unfold testP; rw [hT]]
    clear hT
    unfold LitPost
    go_enter Tryd.func69, Tryd.ntmps69
    go_wp2_with (first
      | (go_at_call 44; refine (HT.out _ _ (by simp) HA1.out).mono ?_; rintro e w2 ⟨rfl, hb2⟩))
    exact ⟨rfl, rfl, only_drop (HB1.out.below hb2).on⟩
  | ok o1 r1 =>
    have HT : Hid (∀ (W : World) (n : Nat), W.heap.size = n → Ahead W p ao cap L c f R → Calls Tryd.prog 44 #[.pointer (some ⟨p, 0, none⟩), .slice (some ⟨n, 0, none⟩) 1 1] (W.alloc (.cells #[.int .i64 11] 3)) fun e w' => e = .returned (tokV o1) ∧ Ahead w' p ao cap L c f r1 ∧ Only (fun b => b = p) W w') := fun W n hn ha => hn ▸ take_lit_good [11] ha (by decide) hT
    have hfo := tok_op (.int .i64 o1.k) (.string o1.t) (.int .i64 o1.n) (.int .i64 o1.op) (.int .i64 (o1.off : Int)) (.int .i64 (o1.en : Int))
    have HO1 := hide (H0.out.good o1 (by rw [(take_eq hT).1]; exact List.mem_cons_self))
    have HSub : Hid (∀ t ∈ r1, t.good) := fun t ht => H0.out.good t (by rw [(take_eq hT).1]; exact List.mem_cons_of_mem _ ht)
    unfold tokV at HT
    cases hT2 : takeP c f termKs r1 with
    | bad ec eo =>
      have HP := hide (fun (W : World) (ha : Ahead W p ao cap L c f r1) => term_fail ha hT2)
      rw [show testP c f first R = .bad ec eo from by unfold testP; rw [hT]; simp only; rw [hT2]]
      clear hT hT2
      unfold LitPost
      go_enter Tryd.func69, Tryd.ntmps69
      go_wp2_with (first
      | (go_at_call 44; refine (HT.out _ _ (by simp) HA1.out).mono ?_; rintro e w2 ⟨rfl, ha2, ho2⟩; have HA2 := hide ha2; have HB2 := hide (HB1.out.move ho2); clear ha2 ho2; obtain ⟨x0, x1, x2, x3, x4, x5⟩ := tok_cells HB2.out.b0))
      go_region_with (first
        | (go_at_call 78; refine (HF.out _).mono ?_; rintro e w3 ⟨rfl, hb3⟩; have HA3 := hide (HA2.out.drew.kept hb3); have HB3 := hide (HB2.out.drew.below hb3); clear hb3; have z6 := tok_cells HB3.out.b0)
        | (go_at_call 77; refine (HP.out _ (by first | exact HA3.out | exact HA3.out.drew)).mono ?_; rintro e w4 ⟨rfl, hb4⟩; refine panic_ends (P := Tryd.prog) (w := w4) ⟨rfl, rfl, by first | exact only_drop (HB3.out.below hb4).on | exact only_drop (HB3.out.drew.below hb4).on⟩ ?_))
      all_goals trivial
    | ok t2 r2 =>
      have HP := hide (fun (W : World) (ha : Ahead W p ao cap L c f r1) => term_good ha hT2)
      have HT2 := hide (HSub.out t2 (by rw [(take_eq hT2).1]; exact List.mem_cons_self))
      unfold Trm.val at HP
      rw [show testP c f first R = .ok ⟨3, zeroAtom, o1.op, termP first, termP t2, first.off⟩ r2 from by unfold testP; rw [hT]; simp only; rw [hT2]]
      clear hT hT2
      unfold LitPost
      go_enter Tryd.func69, Tryd.ntmps69
      go_wp2_with (first
      | (go_at_call 44; refine (HT.out _ _ (by simp) HA1.out).mono ?_; rintro e w2 ⟨rfl, ha2, ho2⟩; have HA2 := hide ha2; have HB2 := hide (HB1.out.move ho2); clear ha2 ho2; obtain ⟨x0, x1, x2, x3, x4, x5⟩ := tok_cells HB2.out.b0))
      go_region_held3 (fun w' => w'.cell? ⟨w.heap.size, 0, none⟩ = some (.int .i64 first.k) ∧ w'.cell? ⟨w.heap.size, 1, none⟩ = some (.string first.t) ∧ w'.cell? ⟨w.heap.size, 2, none⟩ = some (.int .i64 first.n) ∧ w'.cell? ⟨w.heap.size, 3, none⟩ = some (.int .i64 first.op) ∧ w'.cell? ⟨w.heap.size, 4, none⟩ = some (.int .i64 (first.off : Int)) ∧ w'.cell? ⟨w.heap.size, 5, none⟩ = some (.int .i64 (first.en : Int)))
        (first | (with_reducible exact z6) | (with_reducible exact z7) | (go_keep; done))
        (first
        | (go_at_call 78; refine (HF.out _).mono ?_; rintro e w3 ⟨rfl, hb3⟩; have HA3 := hide (HA2.out.drew.kept hb3); have HB3 := hide (HB2.out.drew.below hb3); clear hb3; have z6 := tok_cells HB3.out.b0)
        | (go_at_call 77; refine (HP.out _ (by first | exact HA3.out | exact HA3.out.drew)).mono ?_; rintro e w4 ⟨rfl, ha4, ho4⟩; have HA4 := hide ha4; have HB4 := hide (HB3.out.move ho4); clear ha4 ho4; have z7 := tok_cells HB4.out.b0; obtain ⟨⟨k0, k1, k2, k3, k4, k5, k6, k7, k8, k9, k10, k11, k12, k13⟩, ⟨l0, l1, l2, l3, l4, l5, l6, l7, l8, l9, l10, l11, l12, l13⟩⟩ := boxL_cells HB4.out.b1))
      go_wp2
      refine bodyPost_ret (litRes _ (w.heap.size + 1) _ _ _ _ _ _ _ _ _ _ _ _ _ _ _ rfl (boxL_put HB4.out.b1 _ _ _ _ _ _ _ _ _ _ _ _ _ _)) rfl ?_
      exact lit_fin H0.out HA4.out HB4.out ⟨3, zeroAtx, o1.op, termP first, termP t2, first.off⟩ _ rfl ⟨i64_3, zeroAtx_ok _ _, HO1.out.2.2.2.1, termP_ok hname, termP_ok HT2.out, (good_parts hname).2⟩ (Nat.le_refl (w.heap.size + 2)) _ _ _ _ _ _ _ _ _ _ _ _ _ _

set_option maxHeartbeats 4000000 in
set_option maxRecDepth 100000 in
theorem lit_testA {w : World} {p : Nat} {ao : Option Addr} {cap : Nat} {L : List Tok} {c f : Int} {t : Tok} {R : List Tok} (first : Tok) (h : Ahead w p ao cap L c f (t :: R)) (hname : first.good) (h1 : first.k = 1) (h11 : t.k = 11) :
    Calls Tryd.prog 69 #[.pointer (some ⟨p, 0, none⟩), tokV first] w (LitPost w p ao cap L c f (litP c f first (t :: R))) := by
  have e10 : (first.k == 10) = false := by simp; omega
  have e1 : (first.k == 1) = true := by simpa using h1
  have e11 : (t.k != 11) = false := by simpa using h11
  have HE : litP c f first (t :: R) = testP c f first (t :: R) := by unfold litP testP; rw [if_neg (by omega)]; simp only; rw [if_pos h1, if_pos h11]; rfl
  rw [HE]
  have HL := hide (fun W (hb : Below w.heap.size w W) => look_good (h.kept hb))
  have hfd := tok_kind (.int .i64 t.k) (.string t.t) (.int .i64 t.n) (.int .i64 t.op) (.int .i64 (t.off : Int)) (.int .i64 (t.en : Int))
  have H0 := hide h
  have hp := h.lt
  have HB := hide (TwoBox.start (w := w) hp (.cells #[.int .i64 first.k, .string first.t, .int .i64 first.n, .int .i64 first.op, .int .i64 (first.off : Int), .int .i64 (first.en : Int)] 30) (.cells #[.int .i64 0, .string ⟨#[]⟩, .slice none 0 0, .int .i64 0, .int .i64 0, .int .i64 0, .int .i64 0, .string ⟨#[]⟩, .int .i64 0, .int .i64 0, .int .i64 0, .string ⟨#[]⟩, .int .i64 0, .int .i64 0] 76))
  have HF := hide (termOf_any first)
  unfold tokV at HF ⊢
  unfold Trm.val at HF
  unfold tokV at HL
  clear h h1 h11 HE
  cases hT : takeP c f [11] (t :: R) with
  | bad ec eo =>
    have HT : Hid (∀ (W : World) (n : Nat), W.heap.size = n → Ahead W p ao cap L c f (t :: R) → Calls Tryd.prog 44 #[.pointer (some ⟨p, 0, none⟩), .slice (some ⟨n, 0, none⟩) 1 1] (W.alloc (.cells #[.int .i64 11] 3)) fun e w' => e = PEnd ec eo ∧ Below W.heap.size W w') := fun W n hn ha => hn ▸ take_lit_fail [11] ha (by decide) hT
    rw [show testP c f first (t :: R) = .bad ec eo from by unfold testP; rw [hT]]
    clear hT
    unfold LitPost
    go_enter Tryd.func69, Tryd.ntmps69
    go_wp2_with (first
      | (go_at_call 62; refine (HL.out _ (below2a _ _ _)).mono ?_; rintro e w1 ⟨rfl, hb1⟩; have HA1 := hide ((H0.out.kept (below2a _ _ _)).kept hb1); have HB1 := hide (HB.out.below hb1); clear hb1; obtain ⟨x0, x1, x2, x3, x4, x5⟩ := tok_cells HB1.out.b0)
      | (go_at_call 44; refine (HT.out _ _ (by simp) HA1.out).mono ?_; rintro e w2 ⟨rfl, hb2⟩))
    exact ⟨rfl, rfl, only_drop (HB1.out.below hb2).on⟩
  | ok o1 r1 =>
    have HT : Hid (∀ (W : World) (n : Nat), W.heap.size = n → Ahead W p ao cap L c f (t :: R) → Calls Tryd.prog 44 #[.pointer (some ⟨p, 0, none⟩), .slice (some ⟨n, 0, none⟩) 1 1] (W.alloc (.cells #[.int .i64 11] 3)) fun e w' => e = .returned (tokV o1) ∧ Ahead w' p ao cap L c f r1 ∧ Only (fun b => b = p) W w') := fun W n hn ha => hn ▸ take_lit_good [11] ha (by decide) hT
    have hfo := tok_op (.int .i64 o1.k) (.string o1.t) (.int .i64 o1.n) (.int .i64 o1.op) (.int .i64 (o1.off : Int)) (.int .i64 (o1.en : Int))
    have HO1 := hide (H0.out.good o1 (by rw [(take_eq hT).1]; exact List.mem_cons_self))
    have HSub : Hid (∀ t ∈ r1, t.good) := fun t ht => H0.out.good t (by rw [(take_eq hT).1]; exact List.mem_cons_of_mem _ ht)
    unfold tokV at HT
    cases hT2 : takeP c f termKs r1 with
    | bad ec eo =>
      have HP := hide (fun (W : World) (ha : Ahead W p ao cap L c f r1) => term_fail ha hT2)
      rw [show testP c f first (t :: R) = .bad ec eo from by unfold testP; rw [hT]; simp only; rw [hT2]]
      clear hT hT2
      unfold LitPost
      go_enter Tryd.func69, Tryd.ntmps69
      go_wp2_with (first
      | (go_at_call 62; refine (HL.out _ (below2a _ _ _)).mono ?_; rintro e w1 ⟨rfl, hb1⟩; have HA1 := hide ((H0.out.kept (below2a _ _ _)).kept hb1); have HB1 := hide (HB.out.below hb1); clear hb1; obtain ⟨x0, x1, x2, x3, x4, x5⟩ := tok_cells HB1.out.b0)
      | (go_at_call 44; refine (HT.out _ _ (by simp) HA1.out).mono ?_; rintro e w2 ⟨rfl, ha2, ho2⟩; have HA2 := hide ha2; have HB2 := hide (HB1.out.move ho2); clear ha2 ho2; obtain ⟨x0, x1, x2, x3, x4, x5⟩ := tok_cells HB2.out.b0))
      go_region_with (first
        | (go_at_call 78; refine (HF.out _).mono ?_; rintro e w3 ⟨rfl, hb3⟩; have HA3 := hide (HA2.out.drew.kept hb3); have HB3 := hide (HB2.out.drew.below hb3); clear hb3; have z6 := tok_cells HB3.out.b0)
        | (go_at_call 77; refine (HP.out _ (by first | exact HA3.out | exact HA3.out.drew)).mono ?_; rintro e w4 ⟨rfl, hb4⟩; refine panic_ends (P := Tryd.prog) (w := w4) ⟨rfl, rfl, by first | exact only_drop (HB3.out.below hb4).on | exact only_drop (HB3.out.drew.below hb4).on⟩ ?_))
      all_goals trivial
    | ok t2 r2 =>
      have HP := hide (fun (W : World) (ha : Ahead W p ao cap L c f r1) => term_good ha hT2)
      have HT2 := hide (HSub.out t2 (by rw [(take_eq hT2).1]; exact List.mem_cons_self))
      unfold Trm.val at HP
      rw [show testP c f first (t :: R) = .ok ⟨3, zeroAtom, o1.op, termP first, termP t2, first.off⟩ r2 from by unfold testP; rw [hT]; simp only; rw [hT2]]
      clear hT hT2
      unfold LitPost
      go_enter Tryd.func69, Tryd.ntmps69
      go_wp2_with (first
      | (go_at_call 62; refine (HL.out _ (below2a _ _ _)).mono ?_; rintro e w1 ⟨rfl, hb1⟩; have HA1 := hide ((H0.out.kept (below2a _ _ _)).kept hb1); have HB1 := hide (HB.out.below hb1); clear hb1; obtain ⟨x0, x1, x2, x3, x4, x5⟩ := tok_cells HB1.out.b0)
      | (go_at_call 44; refine (HT.out _ _ (by simp) HA1.out).mono ?_; rintro e w2 ⟨rfl, ha2, ho2⟩; have HA2 := hide ha2; have HB2 := hide (HB1.out.move ho2); clear ha2 ho2; obtain ⟨x0, x1, x2, x3, x4, x5⟩ := tok_cells HB2.out.b0))
      go_region_held3 (fun w' => w'.cell? ⟨w.heap.size, 0, none⟩ = some (.int .i64 first.k) ∧ w'.cell? ⟨w.heap.size, 1, none⟩ = some (.string first.t) ∧ w'.cell? ⟨w.heap.size, 2, none⟩ = some (.int .i64 first.n) ∧ w'.cell? ⟨w.heap.size, 3, none⟩ = some (.int .i64 first.op) ∧ w'.cell? ⟨w.heap.size, 4, none⟩ = some (.int .i64 (first.off : Int)) ∧ w'.cell? ⟨w.heap.size, 5, none⟩ = some (.int .i64 (first.en : Int)))
        (first | (with_reducible exact z6) | (with_reducible exact z7) | (go_keep; done))
        (first
        | (go_at_call 78; refine (HF.out _).mono ?_; rintro e w3 ⟨rfl, hb3⟩; have HA3 := hide (HA2.out.drew.kept hb3); have HB3 := hide (HB2.out.drew.below hb3); clear hb3; have z6 := tok_cells HB3.out.b0)
        | (go_at_call 77; refine (HP.out _ (by first | exact HA3.out | exact HA3.out.drew)).mono ?_; rintro e w4 ⟨rfl, ha4, ho4⟩; have HA4 := hide ha4; have HB4 := hide (HB3.out.move ho4); clear ha4 ho4; have z7 := tok_cells HB4.out.b0; obtain ⟨⟨k0, k1, k2, k3, k4, k5, k6, k7, k8, k9, k10, k11, k12, k13⟩, ⟨l0, l1, l2, l3, l4, l5, l6, l7, l8, l9, l10, l11, l12, l13⟩⟩ := boxL_cells HB4.out.b1))
      go_wp2
      refine bodyPost_ret (litRes _ (w.heap.size + 1) _ _ _ _ _ _ _ _ _ _ _ _ _ _ _ rfl (boxL_put HB4.out.b1 _ _ _ _ _ _ _ _ _ _ _ _ _ _)) rfl ?_
      exact lit_fin H0.out HA4.out HB4.out ⟨3, zeroAtx, o1.op, termP first, termP t2, first.off⟩ _ rfl ⟨i64_3, zeroAtx_ok _ _, HO1.out.2.2.2.1, termP_ok hname, termP_ok HT2.out, (good_parts hname).2⟩ (Nat.le_refl (w.heap.size + 2)) _ _ _ _ _ _ _ _ _ _ _ _ _ _

/-- A literal that a token begins. -/
theorem literal_any {w : World} {p : Nat} {ao : Option Addr} {cap : Nat} {L : List Tok} {c f : Int} {R : List Tok} (first : Tok) (h : Ahead w p ao cap L c f R) (hname : first.good) :
    Calls Tryd.prog 69 #[.pointer (some ⟨p, 0, none⟩), tokV first] w (LitPost w p ao cap L c f (litP c f first R)) := by
  by_cases h10 : first.k = 10
  · exact lit_not first h hname h10
  by_cases h1 : first.k = 1
  · match R, h with
    | [], h => exact lit_none first h hname h1
    | t :: r, h =>
      by_cases h11 : t.k = 11
      · exact lit_testA first h hname h1 h11
      · exact lit_pos first h hname h1 h11
  · exact lit_testB first h hname h10 h1
end Go.Proofs.YtjofiibfgfdleaaDoor

namespace Go.Proofs.YtjofiibfgfdleaaDoor
set_option linter.unusedSimpArgs false
set_option linter.unusedVariables false
open Go.RowKit

theorem Tryd.infoLit : (Tryd.prog.info? 76).map (fun i => (i.zero, i.size, i.bytes)) = some (some (.agg #[.int .i64 0, .string ⟨#[]⟩, .slice none 0 0, .int .i64 0, .int .i64 0, .int .i64 0, .int .i64 0, .string ⟨#[]⟩, .int .i64 0, .int .i64 0, .int .i64 0, .string ⟨#[]⟩, .int .i64 0, .int .i64 0]), 14, 152) := by kernel_rfl

theorem limit_eq (n m c o : Int) (w : World) (h : n = m) : Calls Tryd.prog 45 #[.int .i64 n, .int .i64 m, .int .i64 c, .int .i64 o] w fun e w' => e = PEnd c o ∧ w' = w := by
  subst h
  exact limit_bad n c o w

/-- A reader and a list of the caller's own that grows, all in new memory. -/
structure Coll3 {α : Type} (E : El α) (e : TypeId) (w wr : World) (p : Nat) (ao : Option Addr) (cap : Nat) (L : List Tok) (c f : Int) (R : List Tok) (base : Nat) (v : Value) (l : List α) : Prop where
  ah : Ahead wr p ao cap L c f R
  gr : Grow E e base wr v l
  on : Only (fun k => k = p ∨ w.heap.size ≤ k) w wr
  pl : p < w.heap.size
  tk : ∀ g, ao = some ⟨g, 0, none⟩ → 0 < L.length → g < w.heap.size
  lo : w.heap.size ≤ base
  hi : base ≤ wr.heap.size
section
variable {α : Type} {E : El α} {e : TypeId} {w wr wr' : World} {p : Nat} {ao : Option Addr} {cap : Nat} {L : List Tok} {c f : Int} {R R' : List Tok} {base : Nat} {v : Value} {l : List α}
theorem Coll3.move (h : Coll3 E e w wr p ao cap L c f R base v l) (ho : Only (fun k => k = p) wr wr') (ha : Ahead wr' p ao cap L c f R') : Coll3 E e w wr' p ao cap L c f R' base v l :=
  have hp := h.pl
  have hl := h.lo
  ⟨ha, h.gr.above fun b hb hlt => ho.block b hlt (by omega), h.on.trans (ho.mono fun k _ e => .inl e), h.pl, h.tk, h.lo, Nat.le_trans h.hi ho.size⟩
theorem Coll3.below (h : Coll3 E e w wr p ao cap L c f R base v l) (hb : Below wr.heap.size wr wr') : Coll3 E e w wr' p ao cap L c f R base v l :=
  h.move (Only.of_below hb _) (h.ah.kept hb)
theorem Coll3.grown (h : Coll3 E e w wr p ao cap L c f R base v l) {v' : Value} {l' : List α} (hg : wr.grownBy wr' v.ownBlock) (hG : Grow E e base wr' v' l') : Coll3 E e w wr' p ao cap L c f R base v' l' := by
  have hp := h.pl
  have hl := h.lo
  have ho : Only (fun k => base ≤ k) wr wr' := (Only.refl _ wr).grown hg (fun k hk _ => own_new h.gr.1 k hk)
  refine ⟨?_, hG, h.on.trans (ho.mono fun k _ (e : base ≤ k) => .inr (by omega)), h.pl, h.tk, h.lo, Nat.le_trans h.hi ho.size⟩
  obtain ⟨i, q1, q2⟩ := h.ah
  exact ⟨i, q1.only ho (by omega) (fun g hg hl => by have := h.tk g hg hl; omega), q2⟩
theorem Coll3.start (h : Ahead w p ao cap L c f R) : Coll3 E e w w p ao cap L c f R w.heap.size (.slice none 0 0) [] :=
  ⟨h, Grow.nil _ _ _ _, Only.refl _ _, h.lt, h.tk, Nat.le_refl _, Nat.le_refl _⟩
theorem Coll3.endM (h : Coll3 E e w wr p ao cap L c f R base v l) (ho : Only (fun k => k = p) wr wr') : Only (fun k => k = p) w wr' := only_drop (h.on.trans (ho.mono fun k _ e => .inl e))
theorem Coll3.end_ (h : Coll3 E e w wr p ao cap L c f R base v l) : Only (fun k => k = p) w wr := only_drop h.on
end

def BodyPost (w : World) (p : Nat) (ao : Option Addr) (cap : Nat) (L : List Tok) (c f : Int) (res : PR (List PLit)) (e : Ending) (w' : World) : Prop :=
  match res with
  | .bad ec eo => e = PEnd ec eo ∧ Only (fun k => k = p) w w'
  | .ok b r => ∃ v ls, e = .returned v ∧ ls.map Lix.pur = b ∧ ls.length ≤ 16 ∧ Grow elLix 76 w.heap.size w' v ls ∧ Ahead w' p ao cap L c f r ∧ Only (fun k => k = p) w w'
theorem bodyPost_bad {w w' : World} {p : Nat} {ao : Option Addr} {cap : Nat} {L : List Tok} {c f ec eo : Int} {e : Ending} (h : BodyPost w p ao cap L c f (.bad ec eo) e w') : e = PEnd ec eo ∧ Only (fun k => k = p) w w' := h
theorem bodyPost_ok {w w' : World} {p : Nat} {ao : Option Addr} {cap : Nat} {L : List Tok} {c f : Int} {x : List PLit} {r : List Tok} {e : Ending} (h : BodyPost w p ao cap L c f (.ok x r) e w') : ∃ v ls, e = .returned v ∧ ls.map Lix.pur = x ∧ ls.length ≤ 16 ∧ Grow elLix 76 w.heap.size w' v ls ∧ Ahead w' p ao cap L c f r ∧ Only (fun k => k = p) w w' := h

set_option maxHeartbeats 4000000 in
set_option maxRecDepth 100000 in
theorem body_any {w : World} {p : Nat} {ao : Option Addr} {cap : Nat} {L : List Tok} {c f : Int} {R : List Tok} (h : Ahead w p ao cap L c f R) :
    Calls Tryd.prog 51 #[.pointer (some ⟨p, 0, none⟩)] w (BodyPost w p ao cap L c f (bodyP c f R)) := by
  obtain ⟨res, hres⟩ : ∃ res, bodyP c f R = res := ⟨_, rfl⟩
  rw [hres]
  have HRes0 : Hid (bodyF c f (R.length + 1) [] R = res) := hres
  obtain ⟨Post, hPost⟩ : ∃ Post : Ending → World → Prop, Post = BodyPost w p ao cap L c f res := ⟨_, rfl⟩
  rw [← hPost]
  have PB : Hid (∀ ec eo w', res = .bad ec eo → Only (fun k => k = p) w w' → Post (PEnd ec eo) w') := fun ec eo w' hr ho => by
    rw [hPost, hr]; exact ⟨rfl, ho⟩
  have PG : Hid (∀ b r' v ls w', res = .ok b r' → ls.map Lix.pur = b → ls.length ≤ 16 → Grow elLix 76 w.heap.size w' v ls → Ahead w' p ao cap L c f r' → Only (fun k => k = p) w w' → Post (.returned v) w') := fun b r' v ls w' hr h1 h2 h3 h4 h5 => by
    rw [hPost, hr]; exact ⟨v, ls, rfl, h1, h2, h3, h4, h5⟩
  have HC0 := hide (Coll3.start (E := elLix) (e := 76) h)
  have HLt := hide h.lt
  clear hPost h hres
  go_enter Tryd.func51, Tryd.ntmps51
  go_wp2
  go_loopw [3] (fun v wr => ∃ (n : Nat) (ls : List Lix) (R1 : List Tok), ls.length ≤ 16 ∧ R1.length < n ∧ Hid (Coll3 elLix 76 w wr p ao cap L c f R1 w.heap.size v ls) ∧ Hid (bodyF c f n (ls.map Lix.pur) R1 = res)) (fun _ wr => 70000 - (intOf ((wr.cell? ⟨p, 4, none⟩).getD undef)).toNat)
  case atStart => exact ⟨R.length + 1, [], R, by simp, by omega, HC0, HRes0⟩
  case round =>
    clear HC0 HRes0
    obtain ⟨n, ls, R1, hls, hn, HC, HRes⟩ := hrel
    obtain ⟨n, rfl⟩ : ∃ m, n = m + 1 := ⟨n - 1, by omega⟩
    obtain ⟨va, vc, rfl, -⟩ := HC.out.gr.shape
    cases hT : takeP c f [1, 10, 2, 3, 4] R1 with
    | bad ec eo =>
      have HT : Hid (∀ (W : World) (g : Nat), W.heap.size = g → Ahead W p ao cap L c f R1 → Calls Tryd.prog 44 #[.pointer (some ⟨p, 0, none⟩), .slice (some ⟨g, 0, none⟩) 5 5] (W.alloc (.cells #[.int .i64 1, .int .i64 10, .int .i64 2, .int .i64 3, .int .i64 4] 3)) fun e w' => e = PEnd ec eo ∧ Below W.heap.size W w') := fun W g hg ha => hg ▸ take_lit_fail [1, 10, 2, 3, 4] ha (by decide) hT
      have HX : Hid (res = .bad ec eo) := by show _ = _; rw [← HRes.out]; exact body_bad1 hT
      clear hT
      go_wp2_with (go_at_call 44; refine (HT.out _ _ rfl HC.out.ah).mono ?_; rintro e w1 ⟨rfl, hb1⟩)
      exact ⟨rfl, PB.out _ _ _ HX.out (HC.out.below hb1).end_⟩
    | ok t r1 =>
      have HT : Hid (∀ (W : World) (g : Nat), W.heap.size = g → Ahead W p ao cap L c f R1 → Calls Tryd.prog 44 #[.pointer (some ⟨p, 0, none⟩), .slice (some ⟨g, 0, none⟩) 5 5] (W.alloc (.cells #[.int .i64 1, .int .i64 10, .int .i64 2, .int .i64 3, .int .i64 4] 3)) fun e w' => e = .returned (tokV t) ∧ Ahead w' p ao cap L c f r1 ∧ Only (fun b => b = p) W w') := fun W g hg ha => hg ▸ take_lit_good [1, 10, 2, 3, 4] ha (by decide) hT
      have htg : t.good := HC.out.ah.good t (by rw [(take_eq hT).1]; exact List.mem_cons_self)
      have l1 := take_len hT
      unfold tokV at HT
      by_cases h16 : ls.length = 16
      · have HLm := hide (limit_eq (ls.length : Int) 16 23 (t.off : Int) (h := by omega))
        have HX : Hid (res = .bad 23 (t.off : Int)) := by show _ = _; rw [← HRes.out]; exact body_lim hT (by rw [List.length_map]; exact h16)
        clear hT
        clear h16 hls
        go_wp2_with (first
          | (go_at_call 44; refine (HT.out _ _ rfl HC.out.ah).mono ?_; rintro e w1 ⟨rfl, ha1, ho1⟩; have HC1 := hide (HC.out.move ho1 ha1); clear ha1 ho1)
          | (go_at_call 45; refine (HLm.out _).mono ?_; rintro e w2 ⟨rfl, hw⟩; have hw := hw.symm; subst hw))
        exact ⟨rfl, PB.out _ _ _ HX.out (HC1.out.below (belowA _ _)).end_⟩
      · have HLm := hide (limit_ok (ls.length : Int) 16 23 (t.off : Int) (h := by omega))
        have hls16 : ls.length < 16 := by omega
        have HLi0 := fun (W : World) (ha : Ahead W p ao cap L c f r1) => literal_any t ha htg
        cases hrl : litP c f t r1 with
        | bad ec eo =>
          rw [hrl] at HLi0
          have HLi := hide HLi0
          have HX : Hid (res = .bad ec eo) := by show _ = _; rw [← HRes.out]; exact body_lit hT (by rw [List.length_map]; exact h16) hrl
          clear HLi0 hT hrl h16
          unfold tokV at HLi
          go_wp2_with (first
            | (go_at_call 44; refine (HT.out _ _ rfl HC.out.ah).mono ?_; rintro e w1 ⟨rfl, ha1, ho1⟩; have HC1 := hide ((HC.out.move ho1 ha1).below (belowA w1 (.cells #[.int .i64 t.k, .string t.t, .int .i64 t.n, .int .i64 t.op, .int .i64 (t.off : Int), .int .i64 (t.en : Int)] 30))); clear ha1 ho1 HT)
            | (go_at_call 45; refine (HLm.out _).mono ?_; rintro e w2 ⟨⟨v2, rfl⟩, hw⟩; have hw := hw.symm; subst hw)
            | (go_at_call 69; refine (HLi.out _ HC1.out.ah).mono ?_; intro e w3 hq; obtain ⟨rfl, ho3⟩ := litPost_bad hq; clear hq))
          exact ⟨rfl, PB.out _ _ _ HX.out (HC1.out.endM ho3)⟩
        | ok x r2 =>
          rw [hrl] at HLi0
          have HLi := hide HLi0
          unfold tokV at HLi
          clear HLi0
          have l2 := lit_len hrl
          cases hU0 : takeP c f [7, 8] r2 with
          | bad ec eo =>
            have HU : Hid (∀ (W : World) (g : Nat), W.heap.size = g → Ahead W p ao cap L c f r2 → Calls Tryd.prog 44 #[.pointer (some ⟨p, 0, none⟩), .slice (some ⟨g, 0, none⟩) 2 2] (W.alloc (.cells #[.int .i64 7, .int .i64 8] 3)) fun e w' => e = PEnd ec eo ∧ Below W.heap.size W w') := fun W g hg ha => hg ▸ take_lit_fail [7, 8] ha (by decide) hU0
            have HX : Hid (res = .bad ec eo) := by show _ = _; rw [← HRes.out]; exact body_sep hT (by rw [List.length_map]; exact h16) hrl hU0
            clear hT hrl hU0 h16
            go_wp2_with (first
              | (go_at_call 44; refine (HT.out _ _ rfl HC.out.ah).mono ?_; rintro e w1 ⟨rfl, ha1, ho1⟩; have HC1 := hide ((HC.out.move ho1 ha1).below (belowA w1 (.cells #[.int .i64 t.k, .string t.t, .int .i64 t.n, .int .i64 t.op, .int .i64 (t.off : Int), .int .i64 (t.en : Int)] 30))); clear ha1 ho1 HT)
              | (go_at_call 45; refine (HLm.out _).mono ?_; rintro e w2 ⟨⟨v2, rfl⟩, hw⟩; have hw := hw.symm; subst hw)
              | (go_at_call 69; refine (HLi.out _ HC1.out.ah).mono ?_; intro e w3 hq; obtain ⟨⟨xk, ⟨ap, av, aoff, ats⟩, xop, xl, xr, xoff⟩, rfl, hpur, hok, ha3, ho3⟩ := litPost_ok hq; clear hq; obtain ⟨xa, xc, rfl, -⟩ := (show Lst elTrm _ _ av ats from hok.2.1.2.2).shape; have HPu := hide hpur; have HOk := hide (HC1.out.gr.behind HC1.out.hi elLix hok); have HC3 := hide (HC1.out.move ho3 ha3); have HC4 := hide (HC3.out.below (belowA w3 (.cells #[.int .i64 xk, .string ap, .slice xa ats.length xc, .int .i64 aoff, .int .i64 xop, .int .i64 xl.k, .int .i64 xl.n, .string xl.s, .int .i64 xl.off, .int .i64 xr.k, .int .i64 xr.n, .string xr.s, .int .i64 xr.off, .int .i64 xoff] 76))); have HOk4 := hide (elLix.move HOk.out fun b hlt hF => ⟨hF, (belowA w3 (.cells #[.int .i64 xk, .string ap, .slice xa ats.length xc, .int .i64 aoff, .int .i64 xop, .int .i64 xl.k, .int .i64 xl.n, .string xl.s, .int .i64 xl.off, .int .i64 xr.k, .int .i64 xr.n, .string xr.s, .int .i64 xr.off, .int .i64 xoff] 76)).block b hlt⟩); clear hpur hok ha3 ho3 HOk HLi; unfold Lix.val)
              | (at_builtin; obtain ⟨i0, hi0, hz0, hz1, hz2⟩ := info_parts Tryd.infoLit; refine wpList_push (w0 := w3.alloc (.cells #[.int .i64 xk, .string ap, .slice xa ats.length xc, .int .i64 aoff, .int .i64 xop, .int .i64 xl.k, .int .i64 xl.n, .string xl.s, .int .i64 xl.off, .int .i64 xr.k, .int .i64 xr.n, .string xr.s, .int .i64 xr.off, .int .i64 xoff] 76)) elLix rfl _ _ 51 rfl w.heap.size 76 i0 _ 152 Tryd.underlying51 hi0 hz0 hz1 hz2 rfl (by decide) _ ls ls.length rfl rfl HC4.out.gr ⟨xk, ⟨ap, .slice xa ats.length xc, aoff, ats⟩, xop, xl, xr, xoff⟩ w3.heap.size 1 rfl (fun j u hu => new_cells (cs := #[.int .i64 xk, .string ap, .slice xa ats.length xc, .int .i64 aoff, .int .i64 xop, .int .i64 xl.k, .int .i64 xl.n, .string xl.s, .int .i64 xl.off, .int .i64 xr.k, .int .i64 xr.n, .string xr.s, .int .i64 xr.off, .int .i64 xoff]) j u hu) HOk4.out (by omega) (Below.refl _ _) HC4.out.hi ?_; intro g cap' w5 HG5 HB5 HGr; clear HB5 hi0 hz0 hz1 hz2; have HC5 := hide (HC4.out.grown HGr.out HG5.out); clear HG5 HGr HC4 HOk4)
              | (go_at_call 44; refine (HU.out _ _ rfl HC5.out.ah).mono ?_; rintro e w6 ⟨rfl, hb6⟩))
            exact ⟨rfl, PB.out _ _ _ HX.out (HC5.out.below hb6).end_⟩
          | ok s r3 =>
            have HU : Hid (∀ (W : World) (g : Nat), W.heap.size = g → Ahead W p ao cap L c f r2 → Calls Tryd.prog 44 #[.pointer (some ⟨p, 0, none⟩), .slice (some ⟨g, 0, none⟩) 2 2] (W.alloc (.cells #[.int .i64 7, .int .i64 8] 3)) fun e w' => e = .returned (tokV s) ∧ Ahead w' p ao cap L c f r3 ∧ Only (fun b => b = p) W w') := fun W g hg ha => hg ▸ take_lit_good [7, 8] ha (by decide) hU0
            have hfd2 := tok_kind (.int .i64 s.k) (.string s.t) (.int .i64 s.n) (.int .i64 s.op) (.int .i64 (s.off : Int)) (.int .i64 (s.en : Int))
            have l3 := take_len hU0
            unfold tokV at HU
            by_cases h8 : s.k = 8
            · have e8 : (s.k == 8) = true := by simpa using h8
              have HX : Hid (res = .ok (ls.map Lix.pur ++ [x]) r3) := by show _ = _; rw [← HRes.out]; exact body_end hT (by rw [List.length_map]; exact h16) hrl hU0 h8
              clear hT hrl hU0 h16 h8
              go_wp2_with (first
                | (go_at_call 44; refine (HT.out _ _ rfl HC.out.ah).mono ?_; rintro e w1 ⟨rfl, ha1, ho1⟩; have HC1 := hide ((HC.out.move ho1 ha1).below (belowA w1 (.cells #[.int .i64 t.k, .string t.t, .int .i64 t.n, .int .i64 t.op, .int .i64 (t.off : Int), .int .i64 (t.en : Int)] 30))); clear ha1 ho1 HT)
                | (go_at_call 45; refine (HLm.out _).mono ?_; rintro e w2 ⟨⟨v2, rfl⟩, hw⟩; have hw := hw.symm; subst hw)
                | (go_at_call 69; refine (HLi.out _ HC1.out.ah).mono ?_; intro e w3 hq; obtain ⟨⟨xk, ⟨ap, av, aoff, ats⟩, xop, xl, xr, xoff⟩, rfl, hpur, hok, ha3, ho3⟩ := litPost_ok hq; clear hq; obtain ⟨xa, xc, rfl, -⟩ := (show Lst elTrm _ _ av ats from hok.2.1.2.2).shape; have HPu := hide hpur; have HOk := hide (HC1.out.gr.behind HC1.out.hi elLix hok); have HC3 := hide (HC1.out.move ho3 ha3); have HC4 := hide (HC3.out.below (belowA w3 (.cells #[.int .i64 xk, .string ap, .slice xa ats.length xc, .int .i64 aoff, .int .i64 xop, .int .i64 xl.k, .int .i64 xl.n, .string xl.s, .int .i64 xl.off, .int .i64 xr.k, .int .i64 xr.n, .string xr.s, .int .i64 xr.off, .int .i64 xoff] 76))); have HOk4 := hide (elLix.move HOk.out fun b hlt hF => ⟨hF, (belowA w3 (.cells #[.int .i64 xk, .string ap, .slice xa ats.length xc, .int .i64 aoff, .int .i64 xop, .int .i64 xl.k, .int .i64 xl.n, .string xl.s, .int .i64 xl.off, .int .i64 xr.k, .int .i64 xr.n, .string xr.s, .int .i64 xr.off, .int .i64 xoff] 76)).block b hlt⟩); clear hpur hok ha3 ho3 HOk HLi; unfold Lix.val)
                | (at_builtin; obtain ⟨i0, hi0, hz0, hz1, hz2⟩ := info_parts Tryd.infoLit; refine wpList_push (w0 := w3.alloc (.cells #[.int .i64 xk, .string ap, .slice xa ats.length xc, .int .i64 aoff, .int .i64 xop, .int .i64 xl.k, .int .i64 xl.n, .string xl.s, .int .i64 xl.off, .int .i64 xr.k, .int .i64 xr.n, .string xr.s, .int .i64 xr.off, .int .i64 xoff] 76)) elLix rfl _ _ 51 rfl w.heap.size 76 i0 _ 152 Tryd.underlying51 hi0 hz0 hz1 hz2 rfl (by decide) _ ls ls.length rfl rfl HC4.out.gr ⟨xk, ⟨ap, .slice xa ats.length xc, aoff, ats⟩, xop, xl, xr, xoff⟩ w3.heap.size 1 rfl (fun j u hu => new_cells (cs := #[.int .i64 xk, .string ap, .slice xa ats.length xc, .int .i64 aoff, .int .i64 xop, .int .i64 xl.k, .int .i64 xl.n, .string xl.s, .int .i64 xl.off, .int .i64 xr.k, .int .i64 xr.n, .string xr.s, .int .i64 xr.off, .int .i64 xoff]) j u hu) HOk4.out (by omega) (Below.refl _ _) HC4.out.hi ?_; intro g cap' w5 HG5 HB5 HGr; clear HB5 hi0 hz0 hz1 hz2; have HC5 := hide (HC4.out.grown HGr.out HG5.out); clear HG5 HGr HC4 HOk4)
                | (go_at_call 44; refine (HU.out _ _ rfl HC5.out.ah).mono ?_; rintro e w6 ⟨rfl, ha6, ho6⟩; have HC6 := hide (HC5.out.move ho6 ha6); clear ha6 ho6))
              exact PG.out _ _ _ _ _ HX.out (by rw [List.map_append, List.map_singleton, HPu.out]) (by simp; omega) HC6.out.gr HC6.out.ah HC6.out.end_
            · have e8 : (s.k == 8) = false := by simpa using h8
              have HX : Hid (bodyF c f n (ls.map Lix.pur ++ [x]) r3 = res) := by show _ = _; rw [← HRes.out]; exact (body_more hT (by rw [List.length_map]; exact h16) hrl hU0 h8).symm
              clear hT hrl hU0 h16 h8
              have HLn : Hid (r3.length < R1.length ∧ r3.length < n) := ⟨by omega, by omega⟩
              obtain ⟨ix, isz⟩ := HC.out.ah.index
              have HIx := hide (And.intro ix isz)
              clear l1 l2 l3 ix isz
              go_wp2_with (first
                | (go_at_call 44; refine (HT.out _ _ rfl HC.out.ah).mono ?_; rintro e w1 ⟨rfl, ha1, ho1⟩; have HC1 := hide ((HC.out.move ho1 ha1).below (belowA w1 (.cells #[.int .i64 t.k, .string t.t, .int .i64 t.n, .int .i64 t.op, .int .i64 (t.off : Int), .int .i64 (t.en : Int)] 30))); clear ha1 ho1 HT)
                | (go_at_call 45; refine (HLm.out _).mono ?_; rintro e w2 ⟨⟨v2, rfl⟩, hw⟩; have hw := hw.symm; subst hw)
                | (go_at_call 69; refine (HLi.out _ HC1.out.ah).mono ?_; intro e w3 hq; obtain ⟨⟨xk, ⟨ap, av, aoff, ats⟩, xop, xl, xr, xoff⟩, rfl, hpur, hok, ha3, ho3⟩ := litPost_ok hq; clear hq; obtain ⟨xa, xc, rfl, -⟩ := (show Lst elTrm _ _ av ats from hok.2.1.2.2).shape; have HPu := hide hpur; have HOk := hide (HC1.out.gr.behind HC1.out.hi elLix hok); have HC3 := hide (HC1.out.move ho3 ha3); have HC4 := hide (HC3.out.below (belowA w3 (.cells #[.int .i64 xk, .string ap, .slice xa ats.length xc, .int .i64 aoff, .int .i64 xop, .int .i64 xl.k, .int .i64 xl.n, .string xl.s, .int .i64 xl.off, .int .i64 xr.k, .int .i64 xr.n, .string xr.s, .int .i64 xr.off, .int .i64 xoff] 76))); have HOk4 := hide (elLix.move HOk.out fun b hlt hF => ⟨hF, (belowA w3 (.cells #[.int .i64 xk, .string ap, .slice xa ats.length xc, .int .i64 aoff, .int .i64 xop, .int .i64 xl.k, .int .i64 xl.n, .string xl.s, .int .i64 xl.off, .int .i64 xr.k, .int .i64 xr.n, .string xr.s, .int .i64 xr.off, .int .i64 xoff] 76)).block b hlt⟩); clear hpur hok ha3 ho3 HOk HLi; unfold Lix.val)
                | (at_builtin; obtain ⟨i0, hi0, hz0, hz1, hz2⟩ := info_parts Tryd.infoLit; refine wpList_push (w0 := w3.alloc (.cells #[.int .i64 xk, .string ap, .slice xa ats.length xc, .int .i64 aoff, .int .i64 xop, .int .i64 xl.k, .int .i64 xl.n, .string xl.s, .int .i64 xl.off, .int .i64 xr.k, .int .i64 xr.n, .string xr.s, .int .i64 xr.off, .int .i64 xoff] 76)) elLix rfl _ _ 51 rfl w.heap.size 76 i0 _ 152 Tryd.underlying51 hi0 hz0 hz1 hz2 rfl (by decide) _ ls ls.length rfl rfl HC4.out.gr ⟨xk, ⟨ap, .slice xa ats.length xc, aoff, ats⟩, xop, xl, xr, xoff⟩ w3.heap.size 1 rfl (fun j u hu => new_cells (cs := #[.int .i64 xk, .string ap, .slice xa ats.length xc, .int .i64 aoff, .int .i64 xop, .int .i64 xl.k, .int .i64 xl.n, .string xl.s, .int .i64 xl.off, .int .i64 xr.k, .int .i64 xr.n, .string xr.s, .int .i64 xr.off, .int .i64 xoff]) j u hu) HOk4.out (by omega) (Below.refl _ _) HC4.out.hi ?_; intro g cap' w5 HG5 HB5 HGr; clear HB5 hi0 hz0 hz1 hz2; have HC5 := hide (HC4.out.grown HGr.out HG5.out); clear HG5 HGr HC4 HOk4)
                | (go_at_call 44; refine (HU.out _ _ rfl HC5.out.ah).mono ?_; rintro e w6 ⟨rfl, ha6, ho6⟩; have HC6 := hide (HC5.out.move ho6 ha6); clear ha6 ho6))
              go_roundw
              case rel => exact ⟨n, ls ++ [⟨xk, ⟨ap, .slice xa ats.length xc, aoff, ats⟩, xop, xl, xr, xoff⟩], r3, by simp; omega, HLn.out.2, HC6, by show _ = _; rw [List.map_append, List.map_singleton, HPu.out]; exact HX.out⟩
              case measure =>
                obtain ⟨jx, -⟩ := HC6.out.ah.index
                have h1 := HLn.out
                have h2 := HIx.out
                omega
end Go.Proofs.YtjofiibfgfdleaaDoor

namespace Go.Proofs.YtjofiibfgfdleaaDoor
set_option linter.unusedSimpArgs false
set_option linter.unusedVariables false
open Go.RowKit

def Clx.pur (x : Clx) : PCls := ⟨x.h.pur, x.ls.map Lix.pur⟩
def Clx.val (c : Clx) : Value := .agg #[.string c.h.p, c.h.v, .int .i64 c.h.off, c.v]
def ClsPost (w : World) (p : Nat) (ao : Option Addr) (cap : Nat) (L : List Tok) (c f : Int) (res : PR PCls) (e : Ending) (w' : World) : Prop :=
  match res with
  | .bad ec eo => e = PEnd ec eo ∧ Only (fun k => k = p) w w'
  | .ok x r => ∃ a : Clx, e = .returned a.val ∧ a.pur = x ∧ elClx.ok w' (fun b => w.heap.size ≤ b) a ∧ Ahead w' p ao cap L c f r ∧ Only (fun k => k = p) w w'
theorem clsPost_bad {w w' : World} {p : Nat} {ao : Option Addr} {cap : Nat} {L : List Tok} {c f ec eo : Int} {e : Ending} (h : ClsPost w p ao cap L c f (.bad ec eo) e w') : e = PEnd ec eo ∧ Only (fun k => k = p) w w' := h
theorem clsPost_ok {w w' : World} {p : Nat} {ao : Option Addr} {cap : Nat} {L : List Tok} {c f : Int} {x : PCls} {r : List Tok} {e : Ending} (h : ClsPost w p ao cap L c f (.ok x r) e w') : ∃ a : Clx, e = .returned a.val ∧ a.pur = x ∧ elClx.ok w' (fun b => w.heap.size ≤ b) a ∧ Ahead w' p ao cap L c f r ∧ Only (fun k => k = p) w w' := h

theorem boxC_cells {V : World} {b : Nat} {u0 u1 u2 u3 : Value} (h : V.heap[b]? = some (.cells #[u0, u1, u2, u3] 53 (0, 0))) : (V.cell? ⟨b, 0, none⟩ = some u0 ∧ V.cell? ⟨b, 1, none⟩ = some u1 ∧ V.cell? ⟨b, 2, none⟩ = some u2 ∧ V.cell? ⟨b, 3, none⟩ = some u3) ∧ (V.frozen? ⟨b, 0, none⟩ = false ∧ V.frozen? ⟨b, 1, none⟩ = false ∧ V.frozen? ⟨b, 2, none⟩ = false ∧ V.frozen? ⟨b, 3, none⟩ = false) := by
  refine ⟨⟨?_, ?_, ?_, ?_⟩, ⟨?_, ?_, ?_, ?_⟩⟩ <;> simp [World.cell?, World.frozen?, h]
theorem boxC_put {V : World} {b : Nat} {u0 u1 u2 u3 : Value} (h : V.heap[b]? = some (.cells #[u0, u1, u2, u3] 53 (0, 0))) (x0 x1 x2 x3 : Value) :
    ((((V.setCell ⟨b, 0, none⟩ x0).setCell ⟨b, 1, none⟩ x1).setCell ⟨b, 2, none⟩ x2).setCell ⟨b, 3, none⟩ x3).heap[b]? = some (.cells #[x0, x1, x2, x3] 53 (0, 0)) := by
  simp [World.setCell, Array.getElem?_modify, h]
theorem boxC_only {V0 V : World} {S : Nat → Prop} (h : Only S V0 V) (b : Nat) (hb : S b) (x0 x1 x2 x3 : Value) : Only S V0 ((((V.setCell ⟨b, 0, none⟩ x0).setCell ⟨b, 1, none⟩ x1).setCell ⟨b, 2, none⟩ x2).setCell ⟨b, 3, none⟩ x3) :=
  (((h.setCell (p := ⟨b, 0, none⟩) hb _).setCell (p := ⟨b, 1, none⟩) hb _).setCell (p := ⟨b, 2, none⟩) hb _).setCell (p := ⟨b, 3, none⟩) hb _
theorem clsRes (W : World) (b : Nat) (u0 u1 u2 u3 : Value) (tmps : Array Value) (ht : tmps[4]? = some (.pointer (some ⟨b, 0, none⟩))) (hb : W.heap[b]? = some (.cells #[u0, u1, u2, u3] 53 (0, 0))) :
    (results Tryd.f46 tmps).run Tryd.prog W = .ok (.agg #[u0, u1, u2, u3]) W := by
  obtain ⟨⟨c0, c1, c2, c3⟩, -⟩ := boxC_cells hb
  simp [results, Tryd.results46, go_sem, ht, c0, c1, c2, c3]
theorem cls_fin {w W W' : World} {p : Nat} {ao : Option Addr} {cap : Nat} {L : List Tok} {c f : Int} {R0 r : List Tok} {x y : Obj} (h0 : Ahead w p ao cap L c f R0) (hA : Ahead W p ao cap L c f r) (hB : TwoBox w W p x y) {b5 : Nat} (hb5 : w.heap.size + 2 ≤ b5) (a : Clx) (z : PCls) (hz : a.pur = z) (hok : elClx.ok W (fun k => w.heap.size + 2 ≤ k ∧ k ≠ b5) a) (ho : Only (fun k => k = b5 ∨ k = w.heap.size + 1) W W') :
    ClsPost w p ao cap L c f (.ok z r) (.returned a.val) W' :=
  ⟨a, rfl, hz, elClx.move hok fun k hk hF => ⟨by omega, ho.block k hk (by omega)⟩, h0.box hA (ho.mono fun k _ (e : k = b5 ∨ k = w.heap.size + 1) => by omega), only_drop (hB.on.trans (ho.mono fun k _ (e : k = b5 ∨ k = w.heap.size + 1) => .inr (by omega)))⟩
/-- A third box, made behind the two. -/
theorem box_moved {W W' : World} {p b : Nat} {x : Obj} (h : W.heap[b]? = some x) (hp : p ≠ b) (ho : Only (fun k => k = p) W W') : W'.heap[b]? = some x := by
  rw [ho.block _ (Array.getElem?_eq_some_iff.1 h).1 (by omega)]; exact h

set_option maxHeartbeats 4000000 in
set_option maxRecDepth 100000 in
theorem clause_any {w : World} {p : Nat} {ao : Option Addr} {cap : Nat} {L : List Tok} {c f : Int} {R : List Tok} (name : Tok) (h : Ahead w p ao cap L c f R) (hname : name.good) :
    Calls Tryd.prog 46 #[.pointer (some ⟨p, 0, none⟩), tokV name] w (ClsPost w p ao cap L c f (clauseP c f name R)) := by
  have HAt0 := fun (W : World) (ha : Ahead W p ao cap L c f R) => atom_any name ha hname
  have H0 := hide h
  have hp := h.lt
  have HB := hide (TwoBox.start (w := w) hp (.cells #[.int .i64 name.k, .string name.t, .int .i64 name.n, .int .i64 name.op, .int .i64 (name.off : Int), .int .i64 (name.en : Int)] 30) (.cells #[.string ⟨#[]⟩, .slice none 0 0, .int .i64 0, .slice none 0 0] 53))
  have HA0 := hide (h.kept (below2a w (.cells #[.int .i64 name.k, .string name.t, .int .i64 name.n, .int .i64 name.op, .int .i64 (name.off : Int), .int .i64 (name.en : Int)] 30) (.cells #[.string ⟨#[]⟩, .slice none 0 0, .int .i64 0, .slice none 0 0] 53)))
  unfold tokV at HAt0 ⊢
  clear h
  cases hA : atomP c f termKs name R with
  | bad ec eo =>
    rw [show clauseP c f name R = .bad ec eo from by unfold clauseP; rw [hA]]
    rw [hA] at HAt0
    have HAt := hide HAt0
    clear HAt0 hA
    unfold ClsPost
    go_enter Tryd.func46, Tryd.ntmps46
    go_wp2_with (go_at_call 66; refine (HAt.out _ HA0.out).mono ?_; intro e w1 hq; obtain ⟨rfl, ho1⟩ := atmPost_bad hq; clear hq)
    exact ⟨rfl, rfl, only_drop (HB.out.move ho1).on⟩
  | ok a r1 =>
    rw [hA] at HAt0
    have HAt := hide HAt0
    clear HAt0
    cases hT : takeP c f [8, 9] r1 with
    | bad ec eo =>
      have HT : Hid (∀ (W : World) (g : Nat), W.heap.size = g → Ahead W p ao cap L c f r1 → Calls Tryd.prog 44 #[.pointer (some ⟨p, 0, none⟩), .slice (some ⟨g, 0, none⟩) 2 2] (W.alloc (.cells #[.int .i64 8, .int .i64 9] 3)) fun e w' => e = PEnd ec eo ∧ Below W.heap.size W w') := fun W g hg ha => hg ▸ take_lit_fail [8, 9] ha (by decide) hT
      rw [show clauseP c f name R = .bad ec eo from by unfold clauseP; rw [hA]; simp only; rw [hT]]
      clear hA hT
      unfold ClsPost
      go_enter Tryd.func46, Tryd.ntmps46
      go_wp2_with (first
        | (go_at_call 66; refine (HAt.out _ HA0.out).mono ?_; intro e w1 hq; obtain ⟨⟨ap, av, aoff, ats⟩, rfl, hpur, hok, ha1, ho1⟩ := atmPost_ok hq; clear hq; obtain ⟨xa, xc, rfl, -⟩ := (show Lst elTrm _ _ av ats from hok.2.2).shape; have HB1 := hide ((HB.out.move ho1).below (belowA w1 (.cells #[.string ap, .slice xa ats.length xc, .int .i64 aoff, .slice none 0 0] 53))); have HA1 := hide (ha1.kept (belowA w1 (.cells #[.string ap, .slice xa ats.length xc, .int .i64 aoff, .slice none 0 0] 53))); have HPu := hide hpur; have Hs1 := hide (Nat.le_trans (by simp) ho1.size : w.heap.size + 2 ≤ w1.heap.size); have HOk1 := hide (elAtx.move hok fun k hk hF => (⟨⟨by simp at hF; omega, by omega⟩, (belowA w1 (.cells #[.string ap, .slice xa ats.length xc, .int .i64 aoff, .slice none 0 0] 53)).block k hk⟩ : (w.heap.size + 2 ≤ k ∧ k ≠ w1.heap.size) ∧ _)); have HX1 := hide (heap_alloc_new w1 (.cells #[.string ap, .slice xa ats.length xc, .int .i64 aoff, .slice none 0 0] 53)); clear ha1 ho1 hpur hok HAt; unfold Atx.val)
        | (go_at_call 44; refine (HT.out _ _ (by simp) HA1.out).mono ?_; rintro e w2 ⟨rfl, hb2⟩))
      exact ⟨rfl, rfl, only_drop (HB1.out.below hb2).on⟩
    | ok s r2 =>
      have HT : Hid (∀ (W : World) (g : Nat), W.heap.size = g → Ahead W p ao cap L c f r1 → Calls Tryd.prog 44 #[.pointer (some ⟨p, 0, none⟩), .slice (some ⟨g, 0, none⟩) 2 2] (W.alloc (.cells #[.int .i64 8, .int .i64 9] 3)) fun e w' => e = .returned (tokV s) ∧ Ahead w' p ao cap L c f r2 ∧ Only (fun b => b = p) W w') := fun W g hg ha => hg ▸ take_lit_good [8, 9] ha (by decide) hT
      have hfd := tok_kind (.int .i64 s.k) (.string s.t) (.int .i64 s.n) (.int .i64 s.op) (.int .i64 (s.off : Int)) (.int .i64 (s.en : Int))
      unfold tokV at HT
      by_cases h9 : s.k = 9
      · have e9 : (s.k == 9) = true := by simpa using h9
        have HBo0 := fun (W : World) (ha : Ahead W p ao cap L c f r2) => body_any ha
        cases hB : bodyP c f r2 with
        | bad ec eo =>
          rw [hB] at HBo0
          have HBo := hide HBo0
          rw [show clauseP c f name R = .bad ec eo from by unfold clauseP; rw [hA]; simp only; rw [hT]; simp only; rw [if_pos h9, hB]]
          clear hA hT hB HBo0 h9
          unfold ClsPost
          go_enter Tryd.func46, Tryd.ntmps46
          go_wp2_with (first
            | (go_at_call 66; refine (HAt.out _ HA0.out).mono ?_; intro e w1 hq; obtain ⟨⟨ap, av, aoff, ats⟩, rfl, hpur, hok, ha1, ho1⟩ := atmPost_ok hq; clear hq; obtain ⟨xa, xc, rfl, -⟩ := (show Lst elTrm _ _ av ats from hok.2.2).shape; have HB1 := hide ((HB.out.move ho1).below (belowA w1 (.cells #[.string ap, .slice xa ats.length xc, .int .i64 aoff, .slice none 0 0] 53))); have HA1 := hide (ha1.kept (belowA w1 (.cells #[.string ap, .slice xa ats.length xc, .int .i64 aoff, .slice none 0 0] 53))); have HPu := hide hpur; have Hs1 := hide (Nat.le_trans (by simp) ho1.size : w.heap.size + 2 ≤ w1.heap.size); have HOk1 := hide (elAtx.move hok fun k hk hF => (⟨⟨by simp at hF; omega, by omega⟩, (belowA w1 (.cells #[.string ap, .slice xa ats.length xc, .int .i64 aoff, .slice none 0 0] 53)).block k hk⟩ : (w.heap.size + 2 ≤ k ∧ k ≠ w1.heap.size) ∧ _)); have HX1 := hide (heap_alloc_new w1 (.cells #[.string ap, .slice xa ats.length xc, .int .i64 aoff, .slice none 0 0] 53)); clear ha1 ho1 hpur hok HAt; unfold Atx.val)
            | (go_at_call 44; refine (HT.out _ _ (by simp) HA1.out).mono ?_; rintro e w2 ⟨rfl, ha2, ho2⟩; have HA2 := hide ha2; have HB2 := hide (HB1.out.move ho2); have HX2 := hide (box_moved HX1.out (by have := HB1.out.pl; have := Hs1.out; omega) ho2); have HOk2 := hide (elAtx.move HOk1.out fun k hk hF => ⟨hF, ho2.block k hk (by have := HB1.out.pl; omega)⟩); clear ha2 ho2)
            | (go_at_call 51; refine (HBo.out _ HA2.out).mono ?_; intro e w3 hq; obtain ⟨rfl, ho3⟩ := bodyPost_bad hq; clear hq))
          exact ⟨rfl, rfl, only_drop (HB2.out.move ho3).on⟩
        | ok b r3 =>
          rw [hB] at HBo0
          have HBo := hide HBo0
          rw [show clauseP c f name R = .ok ⟨a, b⟩ r3 from by unfold clauseP; rw [hA]; simp only; rw [hT]; simp only; rw [if_pos h9, hB]]
          clear hA hT hB HBo0 h9
          unfold ClsPost
          go_enter Tryd.func46, Tryd.ntmps46
          go_wp2_with (first
            | (go_at_call 66; refine (HAt.out _ HA0.out).mono ?_; intro e w1 hq; obtain ⟨⟨ap, av, aoff, ats⟩, rfl, hpur, hok, ha1, ho1⟩ := atmPost_ok hq; clear hq; obtain ⟨xa, xc, rfl, -⟩ := (show Lst elTrm _ _ av ats from hok.2.2).shape; have HB1 := hide ((HB.out.move ho1).below (belowA w1 (.cells #[.string ap, .slice xa ats.length xc, .int .i64 aoff, .slice none 0 0] 53))); have HA1 := hide (ha1.kept (belowA w1 (.cells #[.string ap, .slice xa ats.length xc, .int .i64 aoff, .slice none 0 0] 53))); have HPu := hide hpur; have Hs1 := hide (Nat.le_trans (by simp) ho1.size : w.heap.size + 2 ≤ w1.heap.size); have HOk1 := hide (elAtx.move hok fun k hk hF => (⟨⟨by simp at hF; omega, by omega⟩, (belowA w1 (.cells #[.string ap, .slice xa ats.length xc, .int .i64 aoff, .slice none 0 0] 53)).block k hk⟩ : (w.heap.size + 2 ≤ k ∧ k ≠ w1.heap.size) ∧ _)); have HX1 := hide (heap_alloc_new w1 (.cells #[.string ap, .slice xa ats.length xc, .int .i64 aoff, .slice none 0 0] 53)); clear ha1 ho1 hpur hok HAt; unfold Atx.val)
            | (go_at_call 44; refine (HT.out _ _ (by simp) HA1.out).mono ?_; rintro e w2 ⟨rfl, ha2, ho2⟩; have HA2 := hide ha2; have HB2 := hide (HB1.out.move ho2); have HX2 := hide (box_moved HX1.out (by have := HB1.out.pl; have := Hs1.out; omega) ho2); have HOk2 := hide (elAtx.move HOk1.out fun k hk hF => ⟨hF, ho2.block k hk (by have := HB1.out.pl; omega)⟩); clear ha2 ho2)
            | (go_at_call 51; refine (HBo.out _ HA2.out).mono ?_; intro e w3 hq; obtain ⟨bv, ls, rfl, hpur3, hl3, hgr3, ha3, ho3⟩ := bodyPost_ok hq; clear hq; obtain ⟨ba, bc, rfl, -⟩ := hgr3.shape; have HLs := hide (hgr3.new (by omega)); have HP3 := hide hpur3; have HA3 := hide ha3; have HB3 := hide (HB2.out.move ho3); have HX3 := hide (box_moved HX2.out (by have := HB1.out.pl; have := Hs1.out; omega) ho3); have HOk3 := hide (elAtx.move HOk2.out fun k hk hF => ⟨hF, ho3.block k hk (by have := HB1.out.pl; omega)⟩); have hs2 := HB2.out.lt; have hs1 := Hs1.out; clear hpur3 hl3 hgr3 ha3 ho3; obtain ⟨⟨k0, k1, k2, k3⟩, ⟨l0, l1, l2, l3⟩⟩ := boxC_cells HX3.out; obtain ⟨⟨m0, m1, m2, m3⟩, ⟨n0, n1, n2, n3⟩⟩ := boxC_cells HB3.out.b1; have q1 : ¬ w1.heap.size = w.heap.size + 1 := (by omega); have q2 : ¬ w.heap.size + 1 = w1.heap.size := (by omega)))
          have hbk : (w3.setCell ⟨w1.heap.size, 3, none⟩ (.slice ba ls.length bc)).heap[w.heap.size + 1]? = some (.cells #[.string ⟨#[]⟩, .slice none 0 0, .int .i64 0, .slice none 0 0] 53 (0, 0)) := by
            rw [((Only.refl (fun k => k = w1.heap.size) w3).setCell (p := ⟨w1.heap.size, 3, none⟩) rfl _).block _ (Array.getElem?_eq_some_iff.1 HB3.out.b1).1 q2]; exact HB3.out.b1
          have hlt := (Array.getElem?_eq_some_iff.1 HX2.out).1
          refine bodyPost_ret (clsRes _ (w.heap.size + 1) _ _ _ _ _ rfl (boxC_put hbk _ _ _ _)) rfl ?_
          exact cls_fin H0.out HA3.out HB3.out hs1 ⟨⟨ap, _, aoff, ats⟩, .slice ba ls.length bc, ls⟩ _ (by unfold Clx.pur; rw [HPu.out, HP3.out]) ⟨HOk3.out, HLs.out.move fun k _ hF => ⟨⟨by omega, by omega⟩, rfl⟩⟩ (boxC_only ((Only.refl _ w3).setCell (p := ⟨w1.heap.size, 3, none⟩) (.inl rfl) _) _ (.inr rfl) _ _ _ _)
      · have e9 : (s.k == 9) = false := by simpa using h9
        rw [show clauseP c f name R = .ok ⟨a, []⟩ r2 from by unfold clauseP; rw [hA]; simp only; rw [hT]; simp only; rw [if_neg h9]]
        clear hA hT h9
        unfold ClsPost
        go_enter Tryd.func46, Tryd.ntmps46
        go_wp2_with (first
          | (go_at_call 66; refine (HAt.out _ HA0.out).mono ?_; intro e w1 hq; obtain ⟨⟨ap, av, aoff, ats⟩, rfl, hpur, hok, ha1, ho1⟩ := atmPost_ok hq; clear hq; obtain ⟨xa, xc, rfl, -⟩ := (show Lst elTrm _ _ av ats from hok.2.2).shape; have HB1 := hide ((HB.out.move ho1).below (belowA w1 (.cells #[.string ap, .slice xa ats.length xc, .int .i64 aoff, .slice none 0 0] 53))); have HA1 := hide (ha1.kept (belowA w1 (.cells #[.string ap, .slice xa ats.length xc, .int .i64 aoff, .slice none 0 0] 53))); have HPu := hide hpur; have Hs1 := hide (Nat.le_trans (by simp) ho1.size : w.heap.size + 2 ≤ w1.heap.size); have HOk1 := hide (elAtx.move hok fun k hk hF => (⟨⟨by simp at hF; omega, by omega⟩, (belowA w1 (.cells #[.string ap, .slice xa ats.length xc, .int .i64 aoff, .slice none 0 0] 53)).block k hk⟩ : (w.heap.size + 2 ≤ k ∧ k ≠ w1.heap.size) ∧ _)); have HX1 := hide (heap_alloc_new w1 (.cells #[.string ap, .slice xa ats.length xc, .int .i64 aoff, .slice none 0 0] 53)); clear ha1 ho1 hpur hok HAt; unfold Atx.val)
          | (go_at_call 44; refine (HT.out _ _ (by simp) HA1.out).mono ?_; rintro e w2 ⟨rfl, ha2, ho2⟩; have HA2 := hide ha2; have HB2 := hide (HB1.out.move ho2); have HX2 := hide (box_moved HX1.out (by have := HB1.out.pl; have := Hs1.out; omega) ho2); have HOk2 := hide (elAtx.move HOk1.out fun k hk hF => ⟨hF, ho2.block k hk (by have := HB1.out.pl; omega)⟩); clear ha2 ho2; have hs1 := Hs1.out; obtain ⟨⟨k0, k1, k2, k3⟩, ⟨l0, l1, l2, l3⟩⟩ := boxC_cells HX2.out; obtain ⟨⟨m0, m1, m2, m3⟩, ⟨n0, n1, n2, n3⟩⟩ := boxC_cells HB2.out.b1; have q1 : ¬ w1.heap.size = w.heap.size + 1 := (by omega); have q2 : ¬ w.heap.size + 1 = w1.heap.size := (by omega)))
        refine bodyPost_ret (clsRes _ (w.heap.size + 1) _ _ _ _ _ rfl (boxC_put HB2.out.b1 _ _ _ _)) rfl ?_
        exact cls_fin H0.out HA2.out HB2.out Hs1.out ⟨⟨ap, _, aoff, ats⟩, .slice none 0 0, []⟩ _ (by unfold Clx.pur; rw [HPu.out]; rfl) ⟨HOk2.out, Lst.nil _ _ _⟩ (boxC_only (Only.refl _ w2) _ (.inr rfl) _ _ _ _)
end Go.Proofs.YtjofiibfgfdleaaDoor

namespace Go.Proofs.YtjofiibfgfdleaaDoor
set_option linter.unusedSimpArgs false
set_option linter.unusedVariables false

section
variable {P : Program} {ops : Array Oper} {Q : Exit → Act → World → Prop} {md : Region.Mode} {S : World → Prop} {n : Nat}

/-- Whatever order is picked from here on, and S holds behind every operation but number n. -/
def wpAnyM (P : Program) (md : Region.Mode) (ops : Array Oper) (Q : Exit → Act → World → Prop) (S : World → Prop) (n : Nat) : Nat → Array Bool → Act → World → Prop
  | 0, listed, a, w => Region.ready md ops listed = [] ∧ Q .normal a w
  | fuel + 1, listed, a, w =>
    (Region.ready md ops listed = [] → Q .normal a w) ∧
    ∀ i ∈ Region.ready md ops listed, wpOp P ops Q i (fun a' w' => (i ≠ n → S w') ∧ wpAnyM P md ops Q S n fuel (listed.setIfInBounds i true) a' w') a w

theorem wpAny_of_M : ∀ (fuel : Nat) (listed : Array Bool) (a : Act) (w : World), wpAnyM P md ops Q S n fuel listed a w → wpAny P md ops Q fuel listed a w
  | 0, _, _, _, h => h
  | fuel + 1, _, _, _, h => ⟨h.1, fun i hi => wpOp_mono (fun a' w' h' => wpAny_of_M fuel _ a' w' h'.2) (h.2 i hi)⟩

theorem wpAnyM_first {i : Nat} {oi : Oper} {v : Value} (hi : ops[i]? = some oi) (hsel : ∀ (j : Nat) (o : Oper) cs b, ops[j]? = some o → o.op ≠ .select cs b)
    (hQ : ∀ c a w, Q (.panic c) (a.put oi.dst v) w → Q (.panic c) a w)
    (hn : ∀ o, ops[n]? = some o → ∃ e ∈ o.after, Region.binds md e = true ∧ e.on = i) :
    ∀ (fuel : Nat) (listed : Array Bool) (a : Act) (w : World),
      (∀ j oj, ops[j]? = some oj → j ≠ i → listed.getD j true = false → (∀ e ∈ oj.after, Region.binds md e = true → e.on ≠ i) → oi.apart ops oj = true) →
      i ∈ Region.ready md ops listed → YieldsIf P ops S oi v a → S w →
      wpAnyM P md ops Q S n fuel (listed.setIfInBounds i true) (a.put oi.dst v) w → wpAnyM P md ops Q S n (fuel + 1) listed a w := by
  intro fuel
  induction fuel with
  | zero =>
    intro listed a w _ hr hy hS H
    refine ⟨fun h => (by rw [h] at hr; cases hr), fun j hj => ?_⟩
    by_cases hji : j = i
    · subst hji; exact hy.wpOp hi hS ⟨fun _ => hS, H⟩
    · have := ready_mono hj hji
      rw [H.1] at this
      cases this
  | succ fuel ih =>
    intro listed a w hfree hr hy hS H
    refine ⟨fun h => (by rw [h] at hr; cases hr), fun j hj => ?_⟩
    by_cases hji : j = i
    · subst hji; exact hy.wpOp hi hS ⟨fun _ => hS, H⟩
    · have h1 := H.2 j (ready_mono hj hji)
      obtain ⟨hjun, oj, hoj, hall⟩ := mem_ready.1 hj
      have hnot : ∀ e ∈ oj.after, Region.binds md e = true → e.on ≠ i := fun e he hb heq => by
        have h1 := hall e he hb
        have h0 := (mem_ready.1 hr).1
        rw [heq] at h1
        rcases Nat.lt_or_ge i listed.size with h' | h'
        · simp [h'] at h0 h1; rw [h0] at h1; cases h1
        · simp [Array.getElem?_eq_none h'] at h1
      have hjn : j ≠ n := fun e1 => by
        subst e1
        obtain ⟨e, he, hb, ho⟩ := hn oj hoj
        exact hnot e he hb ho
      have h2 := wpOp_putIf hoj (hfree j oj hoj hji hjun hnot) (fun cs b => hsel i oi cs b hi) (fun cs b => hsel j oj cs b hoj) hQ hy h1
      have hfree' : ∀ k ok, ops[k]? = some ok → k ≠ i → (listed.setIfInBounds j true).getD k true = false →
          (∀ e ∈ ok.after, Region.binds md e = true → e.on ≠ i) → oi.apart ops ok = true := fun k ok hk hki hun hno => by
        refine hfree k ok hk hki ?_ hno
        by_cases hjk : j = k
        · subst hjk; exact hjun
        · rw [getD_set_ne true hjk] at hun; exact hun
      refine wpOp_mono (fun a' w' h3 => ⟨h3.2.1, ih (listed.setIfInBounds j true) a' w' hfree' (ready_mono hr (Ne.symm hji)) h3.1 (h3.2.1 hjn) ?_⟩) h2
      rw [Array.setIfInBounds_comm _ _ hji]
      exact h3.2.2

/-- Does number n wait for number i? -/
def waitsFor (md : Region.Mode) (ops : Array Oper) (n i : Nat) : Bool := ((ops[n]?).map fun o => o.after.any fun e => Region.binds md e && e.on == i).getD false

theorem waitsFor_spec {i : Nat} (h : waitsFor md ops n i = true) : ∀ o, ops[n]? = some o → ∃ e ∈ o.after, Region.binds md e = true ∧ e.on = i := fun o ho => by
  simp only [waitsFor, ho, Option.map_some, Option.getD_some] at h
  obtain ⟨k, hk, h2⟩ := Array.any_eq_true.1 h
  simp only [Bool.and_eq_true, beq_iff_eq] at h2
  exact ⟨_, Array.getElem_mem hk, h2.1, h2.2⟩

/-- Take number i first. -/
theorem wpAnyM_take {i : Nat} {oi : Oper} {v : Value} {fuel : Nat} {listed : Array Bool} {a : Act} {w : World} (hi : ops[i]? = some oi)
    (hs : Region.noSelect ops = true) (hf : Region.free md ops listed i = true) (hr : (Region.ready md ops listed).contains i = true) (hn : waitsFor md ops n i = true)
    (hQ : ∀ c a w, Q (.panic c) (a.put oi.dst v) w → Q (.panic c) a w) (hS : S w) (hy : YieldsIf P ops S oi v a)
    (h : wpAnyM P md ops Q S n fuel (listed.setIfInBounds i true) (a.put oi.dst v) w) : wpAnyM P md ops Q S n (fuel + 1) listed a w :=
  wpAnyM_first hi (Region.noSelect_spec hs) hQ (waitsFor_spec hn) fuel listed a w (Region.free_spec hi hf) (by simpa using hr) hy hS h

/-- Only number i may come up. -/
theorem wpAnyM_one {i : Nat} {o : Oper} {fuel : Nat} {listed : Array Bool} {a : Act} {w : World} (hr : Region.ready md ops listed = [i]) (ho : ops[i]? = some o)
    (h : ∀ K' : Act → World → Prop, Shut (∀ a w, S w → (S w → wpAnyM P md ops Q S n fuel (listed.setIfInBounds i true) a w) → K' a w) → if Region.wanted o (yielded ops a.tmps) = true then Oper.wp P o a w K' Q else K' (a.put o.dst undef) w) :
    wpAnyM P md ops Q S n (fuel + 1) listed a w := by
  refine ⟨fun h0 => (by rw [h0] at hr; cases hr), fun j hj => ?_⟩
  rw [hr] at hj
  simp only [List.mem_singleton] at hj
  subst hj
  exact wpOp_step ho (fun K' hK => h K' (fun a w hS hW => hK a w ⟨fun _ => hS, hW hS⟩))

/-- Number n, the last one. -/
theorem wpAnyM_end {o : Oper} {fuel : Nat} {listed : Array Bool} {a : Act} {w : World} (hr : Region.ready md ops listed = [n]) (ho : ops[n]? = some o) (he : Region.ready md ops (listed.setIfInBounds n true) = [])
    (h : ∀ K' : Act → World → Prop, Shut (∀ a w, Q .normal a w → K' a w) → if Region.wanted o (yielded ops a.tmps) = true then Oper.wp P o a w K' Q else K' (a.put o.dst undef) w) :
    wpAnyM P md ops Q S n (fuel + 1) listed a w := by
  refine ⟨fun h0 => (by rw [h0] at hr; cases hr), fun j hj => ?_⟩
  rw [hr] at hj
  simp only [List.mem_singleton] at hj
  subst hj
  refine wpOp_step ho (fun K' hK => h K' (fun a w hQ => hK a w ⟨fun e => absurd rfl e, ?_⟩))
  cases fuel with
  | zero => exact ⟨he, hQ⟩
  | succ f => exact ⟨fun _ => hQ, by rw [he]; simp⟩

theorem wp_region_last {id : Nat} {a : Act} {w : World} (hm : P.follows .mixedOrders = true) (S : World → Prop) (n : Nat)
    (h : wpAnyM P .any ops Q S n ops.size (Array.replicate ops.size false) a w.drew) : (Code.region id ops true).wp P Q a w :=
  wp_region_any hm (wpAny_of_M _ _ _ _ h)
end
end Go.Proofs.YtjofiibfgfdleaaDoor
