/- parse's reader takes a literal: an atom, or a test. parse's reader takes a literal: a test. What a rule of parse's grammar leaves is no longer than what it began with. parse's reader takes a body. The document's body. The document's Query. What the exact laws of parse share: equal faults, boxes that stay. -/
import Derived.Test.YtmdhjggijlhhgaaGreatDoorProg
import Derived.Test.YtmdhjggijlhhgaaGreatDoorPkC
import Derived.Test.YtmdhjggijlhhgaaGreatDoorParseAtomMem
import Derived.Test.YtmdhjggijlhhgaaGreatDoorPkB

namespace Go.Proofs.YtmdhjggijlhhgaaGreatDoor
set_option linter.unusedSimpArgs false
set_option linter.unusedVariables false
open Go.RowKit

set_option maxHeartbeats 4000000 in
set_option maxRecDepth 100000 in
theorem lit_none {w : World} {p : Nat} {ao : Option Addr} {cap : Nat} {L : List Tok} {c f : Int} (first : Tok) (h : Ahead w p ao cap L c f []) (hname : first.good) (h1 : first.k = 1) :
    Calls Tryz.prog 64 #[.pointer (some ⟨p, 0, none⟩), tokV first] w (LitPost w p ao cap L c f (litP c f first [])) := by
  have e10 : (first.k == 10) = false := by simp; omega
  have e1 : (first.k == 1) = true := by simpa using h1
  have HE : litP c f first [] = .bad c f := by unfold litP; rw [if_neg (by omega)]; simp only; rw [if_pos h1]
  rw [HE]
  have HL := hide (fun W (hb : Below w.heap.size w W) => look_none (h.kept hb))
  have H0 := hide h
  have hp := h.lt
  have HB := hide (TwoBox.start (w := w) hp (.cells #[.int .i64 first.k, .string first.t, .int .i64 first.n, .int .i64 first.op, .int .i64 (first.off : Int), .int .i64 (first.en : Int)] 85) (.cells #[.int .i64 0, .string ⟨#[]⟩, .slice none 0 0, .int .i64 0, .int .i64 0, .int .i64 0, .int .i64 0, .string ⟨#[]⟩, .int .i64 0, .int .i64 0, .int .i64 0, .string ⟨#[]⟩, .int .i64 0, .int .i64 0] 72))
  unfold tokV
  clear HE h1 h
  unfold LitPost
  go_enter Tryz.func64, Tryz.ntmps64
  go_wp2_with (go_at_call 54; refine (HL.out _ (below2a _ _ _)).mono ?_; rintro e w1 ⟨rfl, hb1⟩)
  exact ⟨rfl, rfl, only_drop (HB.out.below hb1).on⟩

set_option maxHeartbeats 4000000 in
set_option maxRecDepth 100000 in
theorem lit_pos {w : World} {p : Nat} {ao : Option Addr} {cap : Nat} {L : List Tok} {c f : Int} {t : Tok} {R : List Tok} (first : Tok) (h : Ahead w p ao cap L c f (t :: R)) (hname : first.good) (h1 : first.k = 1) (h11 : t.k ≠ 11) :
    Calls Tryz.prog 64 #[.pointer (some ⟨p, 0, none⟩), tokV first] w (LitPost w p ao cap L c f (litP c f first (t :: R))) := by
  have e10 : (first.k == 10) = false := by simp; omega
  have e1 : (first.k == 1) = true := by simpa using h1
  have e11 : (t.k != 11) = true := by simpa using h11
  have HE : litP c f first (t :: R) = (match atomP c f termKs first (t :: R) with | .bad c o => .bad c o | .ok a r' => .ok ⟨1, a, 0, zeroTrm, zeroTrm, first.off⟩ r') := by unfold litP; rw [if_neg (by omega)]; simp only; rw [if_pos h1, if_neg h11]; rfl
  rw [HE]
  have HL := hide (fun W (hb : Below w.heap.size w W) => look_good (h.kept hb))
  have hfd := tok_kind (.int .i64 t.k) (.string t.t) (.int .i64 t.n) (.int .i64 t.op) (.int .i64 (t.off : Int)) (.int .i64 (t.en : Int))
  have H0 := hide h
  have hp := h.lt
  have HB := hide (TwoBox.start (w := w) hp (.cells #[.int .i64 first.k, .string first.t, .int .i64 first.n, .int .i64 first.op, .int .i64 (first.off : Int), .int .i64 (first.en : Int)] 85) (.cells #[.int .i64 0, .string ⟨#[]⟩, .slice none 0 0, .int .i64 0, .int .i64 0, .int .i64 0, .int .i64 0, .string ⟨#[]⟩, .int .i64 0, .int .i64 0, .int .i64 0, .string ⟨#[]⟩, .int .i64 0, .int .i64 0] 72))
  obtain ⟨res, hres⟩ : ∃ res, atomP c f termKs first (t :: R) = res := ⟨_, rfl⟩
  have HAt := hide (fun (W : World) (ha : Ahead W p ao cap L c f (t :: R)) => atom_any first ha hname)
  rw [hres] at HAt ⊢
  unfold tokV at HL HAt ⊢
  clear HE h1 h11 h hres
  cases res with
  | bad ec eo =>
    simp only []
    unfold LitPost
    go_enter Tryz.func64, Tryz.ntmps64
    go_wp2_with (first | (go_at_call 54; refine (HL.out _ (below2a _ _ _)).mono ?_; rintro e w1 ⟨rfl, hb1⟩; have HA1 := hide ((H0.out.kept (below2a _ _ _)).kept hb1); have HB1 := hide (HB.out.below hb1); clear hb1; obtain ⟨x0, x1, x2, x3, x4, x5⟩ := tok_cells HB1.out.b0))
    go_region_with (first
      | (go_at_call 65; refine (HAt.out _ (by first | exact HA1.out.drew | exact HA1.out)).mono ?_; intro e w2 hq; obtain ⟨rfl, ho2⟩ := atmPost_bad hq; clear hq; refine panic_ends (P := Tryz.prog) (w := w2) ⟨rfl, rfl, by first | exact only_drop (HB1.out.drew.move ho2).on | exact only_drop (HB1.out.move ho2).on⟩ ?_))
    all_goals trivial
  | ok a r2 =>
    simp only []
    unfold LitPost
    go_enter Tryz.func64, Tryz.ntmps64
    go_wp2_with (first | (go_at_call 54; refine (HL.out _ (below2a _ _ _)).mono ?_; rintro e w1 ⟨rfl, hb1⟩; have HA1 := hide ((H0.out.kept (below2a _ _ _)).kept hb1); have HB1 := hide (HB.out.below hb1); clear hb1; obtain ⟨x0, x1, x2, x3, x4, x5⟩ := tok_cells HB1.out.b0))
    go_region_held3 (fun w' => w'.cell? ⟨w.heap.size, 0, none⟩ = some (.int .i64 first.k) ∧ w'.cell? ⟨w.heap.size, 1, none⟩ = some (.string first.t) ∧ w'.cell? ⟨w.heap.size, 2, none⟩ = some (.int .i64 first.n) ∧ w'.cell? ⟨w.heap.size, 3, none⟩ = some (.int .i64 first.op) ∧ w'.cell? ⟨w.heap.size, 4, none⟩ = some (.int .i64 (first.off : Int)) ∧ w'.cell? ⟨w.heap.size, 5, none⟩ = some (.int .i64 (first.en : Int)))
      (first | (with_reducible exact z6) | (go_keep; done))
      (first
        | (go_at_call 65; refine (HAt.out _ (by first | exact HA1.out.drew | exact HA1.out)).mono ?_; intro e w2 hq; obtain ⟨⟨ap, av, aoff, ats⟩, rfl, hpur, hok, ha2, ho2⟩ := atmPost_ok hq; clear hq; obtain ⟨va, vc, rfl, -⟩ := (show Lst elTrm _ _ av ats from hok.2.2).shape; have HA2 := hide ha2; have HB2 := hide (HB1.out.drew.move ho2); have HPu := hide hpur; have HOk := hide hok; clear ha2 ho2 hpur hok; have z6 := tok_cells HB2.out.b0; obtain ⟨⟨k0, k1, k2, k3, k4, k5, k6, k7, k8, k9, k10, k11, k12, k13⟩, ⟨l0, l1, l2, l3, l4, l5, l6, l7, l8, l9, l10, l11, l12, l13⟩⟩ := boxL_cells HB2.out.b1; unfold Atx.val))
    go_wp2
    refine bodyPost_ret (litRes _ (w.heap.size + 1) _ _ _ _ _ _ _ _ _ _ _ _ _ _ _ rfl (boxL_put HB2.out.b1 _ _ _ _ _ _ _ _ _ _ _ _ _ _)) rfl ?_
    exact lit_fin H0.out HA2.out HB2.out ⟨1, ⟨ap, _, aoff, ats⟩, 0, zeroTrm, zeroTrm, first.off⟩ _ (by unfold Lix.pur; rw [HPu.out]) ⟨i64_1, HOk.out, i64_0, zeroTrm_ok, zeroTrm_ok, (good_parts hname).2⟩ HB1.out.lt _ _ _ _ _ _ _ _ _ _ _ _ _ _
end Go.Proofs.YtmdhjggijlhhgaaGreatDoor

namespace Go.Proofs.YtmdhjggijlhhgaaGreatDoor
set_option linter.unusedSimpArgs false
set_option linter.unusedVariables false
open Go.RowKit

def zeroAtx : Atx := ⟨⟨#[]⟩, .slice none 0 0, 0, []⟩
theorem zeroAtx_ok (w : World) (F : Nat → Prop) : elAtx.ok w F zeroAtx := ⟨by unfold zeroAtx; decide, i64_0, Lst.nil _ _ _⟩
def testP (c f : Int) (first : Tok) (R : List Tok) : PR PLit := match takeP c f [11] R with
  | .bad c o => PR.bad c o
  | .ok o1 r' => match takeP c f termKs r' with
    | .bad c o => .bad c o
    | .ok t2 r'' => .ok ⟨3, zeroAtom, o1.op, termP first, termP t2, first.off⟩ r''

set_option maxHeartbeats 4000000 in
set_option maxRecDepth 100000 in
theorem lit_testB {w : World} {p : Nat} {ao : Option Addr} {cap : Nat} {L : List Tok} {c f : Int} {R : List Tok} (first : Tok) (h : Ahead w p ao cap L c f R) (hname : first.good) (h10 : first.k ≠ 10) (h1 : first.k ≠ 1) :
    Calls Tryz.prog 64 #[.pointer (some ⟨p, 0, none⟩), tokV first] w (LitPost w p ao cap L c f (litP c f first R)) := by
  have e10 : (first.k == 10) = false := by simpa using h10
  have e1 : (first.k == 1) = false := by simpa using h1
  have HE : litP c f first R = testP c f first R := by unfold litP testP; rw [if_neg h10]; simp only; rw [if_neg h1]; rfl
  rw [HE]
  have H0 := hide h
  have hp := h.lt
  have HB := hide (TwoBox.start (w := w) hp (.cells #[.int .i64 first.k, .string first.t, .int .i64 first.n, .int .i64 first.op, .int .i64 (first.off : Int), .int .i64 (first.en : Int)] 85) (.cells #[.int .i64 0, .string ⟨#[]⟩, .slice none 0 0, .int .i64 0, .int .i64 0, .int .i64 0, .int .i64 0, .string ⟨#[]⟩, .int .i64 0, .int .i64 0, .int .i64 0, .string ⟨#[]⟩, .int .i64 0, .int .i64 0] 72))
  have HF := hide (termOf_any first)
  unfold tokV at HF ⊢
  unfold Trm.val at HF
  have HA1 := hide (H0.out.kept (below2a w (.cells #[.int .i64 first.k, .string first.t, .int .i64 first.n, .int .i64 first.op, .int .i64 (first.off : Int), .int .i64 (first.en : Int)] 85) (.cells #[.int .i64 0, .string ⟨#[]⟩, .slice none 0 0, .int .i64 0, .int .i64 0, .int .i64 0, .int .i64 0, .string ⟨#[]⟩, .int .i64 0, .int .i64 0, .int .i64 0, .string ⟨#[]⟩, .int .i64 0, .int .i64 0] 72)))
  have HB1 := HB
  clear h h10 h1 HE
  cases hT : takeP c f [11] R with
  | bad ec eo =>
    have HT : Hid (∀ (W : World) (n : Nat), W.heap.size = n → Ahead W p ao cap L c f R → Calls Tryz.prog 36 #[.pointer (some ⟨p, 0, none⟩), .slice (some ⟨n, 0, none⟩) 1 1] (W.alloc (.cells #[.int .i64 11] 3)) fun e w' => e = PEnd ec eo ∧ Below W.heap.size W w') := fun W n hn ha => hn ▸ take_lit_fail [11] ha (by decide) hT
    rw [show testP c f first R = .bad ec eo from by unfold testP; rw [hT]]
    clear hT
    unfold LitPost
    go_enter Tryz.func64, Tryz.ntmps64
    go_wp2_with (first
      | (go_at_call 36; refine (HT.out _ _ (by simp) HA1.out).mono ?_; rintro e w2 ⟨rfl, hb2⟩))
    exact ⟨rfl, rfl, only_drop (HB1.out.below hb2).on⟩
  | ok o1 r1 =>
    have HT : Hid (∀ (W : World) (n : Nat), W.heap.size = n → Ahead W p ao cap L c f R → Calls Tryz.prog 36 #[.pointer (some ⟨p, 0, none⟩), .slice (some ⟨n, 0, none⟩) 1 1] (W.alloc (.cells #[.int .i64 11] 3)) fun e w' => e = .returned (tokV o1) ∧ Ahead w' p ao cap L c f r1 ∧ Only (fun b => b = p) W w') := fun W n hn ha => hn ▸ take_lit_good [11] ha (by decide) hT
    have hfo := tok_op (.int .i64 o1.k) (.string o1.t) (.int .i64 o1.n) (.int .i64 o1.op) (.int .i64 (o1.off : Int)) (.int .i64 (o1.en : Int))
    have HO1 := hide (H0.out.good o1 (by rw [(take_eq hT).1]; exact List.mem_cons_self))
    have HSub : Hid (∀ t ∈ r1, t.good) := fun t ht => H0.out.good t (by rw [(take_eq hT).1]; exact List.mem_cons_of_mem _ ht)
    unfold tokV at HT
    cases hT2 : takeP c f termKs r1 with
    | bad ec eo =>
      have HP := hide (fun (W : World) (ha : Ahead W p ao cap L c f r1) => term_fail ha hT2)
      rw [show testP c f first R = .bad ec eo from by unfold testP; rw [hT]; simp only; rw [hT2]]
      clear hT hT2
      unfold LitPost
      go_enter Tryz.func64, Tryz.ntmps64
      go_wp2_with (first
      | (go_at_call 36; refine (HT.out _ _ (by simp) HA1.out).mono ?_; rintro e w2 ⟨rfl, ha2, ho2⟩; have HA2 := hide ha2; have HB2 := hide (HB1.out.move ho2); clear ha2 ho2; obtain ⟨x0, x1, x2, x3, x4, x5⟩ := tok_cells HB2.out.b0))
      go_region_with (first
        | (go_at_call 67; refine (HF.out _).mono ?_; rintro e w3 ⟨rfl, hb3⟩; have HA3 := hide (HA2.out.drew.kept hb3); have HB3 := hide (HB2.out.drew.below hb3); clear hb3; have z6 := tok_cells HB3.out.b0)
        | (go_at_call 80; refine (HP.out _ (by first | exact HA3.out | exact HA3.out.drew)).mono ?_; rintro e w4 ⟨rfl, hb4⟩; refine panic_ends (P := Tryz.prog) (w := w4) ⟨rfl, rfl, by first | exact only_drop (HB3.out.below hb4).on | exact only_drop (HB3.out.drew.below hb4).on⟩ ?_))
      all_goals trivial
    | ok t2 r2 =>
      have HP := hide (fun (W : World) (ha : Ahead W p ao cap L c f r1) => term_good ha hT2)
      have HT2 := hide (HSub.out t2 (by rw [(take_eq hT2).1]; exact List.mem_cons_self))
      unfold Trm.val at HP
      rw [show testP c f first R = .ok ⟨3, zeroAtom, o1.op, termP first, termP t2, first.off⟩ r2 from by unfold testP; rw [hT]; simp only; rw [hT2]]
      clear hT hT2
      unfold LitPost
      go_enter Tryz.func64, Tryz.ntmps64
      go_wp2_with (first
      | (go_at_call 36; refine (HT.out _ _ (by simp) HA1.out).mono ?_; rintro e w2 ⟨rfl, ha2, ho2⟩; have HA2 := hide ha2; have HB2 := hide (HB1.out.move ho2); clear ha2 ho2; obtain ⟨x0, x1, x2, x3, x4, x5⟩ := tok_cells HB2.out.b0))
      go_region_held3 (fun w' => w'.cell? ⟨w.heap.size, 0, none⟩ = some (.int .i64 first.k) ∧ w'.cell? ⟨w.heap.size, 1, none⟩ = some (.string first.t) ∧ w'.cell? ⟨w.heap.size, 2, none⟩ = some (.int .i64 first.n) ∧ w'.cell? ⟨w.heap.size, 3, none⟩ = some (.int .i64 first.op) ∧ w'.cell? ⟨w.heap.size, 4, none⟩ = some (.int .i64 (first.off : Int)) ∧ w'.cell? ⟨w.heap.size, 5, none⟩ = some (.int .i64 (first.en : Int)))
        (first | (with_reducible exact z6) | (with_reducible exact z7) | (go_keep; done))
        (first
        | (go_at_call 67; refine (HF.out _).mono ?_; rintro e w3 ⟨rfl, hb3⟩; have HA3 := hide (HA2.out.drew.kept hb3); have HB3 := hide (HB2.out.drew.below hb3); clear hb3; have z6 := tok_cells HB3.out.b0)
        | (go_at_call 80; refine (HP.out _ (by first | exact HA3.out | exact HA3.out.drew)).mono ?_; rintro e w4 ⟨rfl, ha4, ho4⟩; have HA4 := hide ha4; have HB4 := hide (HB3.out.move ho4); clear ha4 ho4; have z7 := tok_cells HB4.out.b0; obtain ⟨⟨k0, k1, k2, k3, k4, k5, k6, k7, k8, k9, k10, k11, k12, k13⟩, ⟨l0, l1, l2, l3, l4, l5, l6, l7, l8, l9, l10, l11, l12, l13⟩⟩ := boxL_cells HB4.out.b1))
      go_wp2
      refine bodyPost_ret (litRes _ (w.heap.size + 1) _ _ _ _ _ _ _ _ _ _ _ _ _ _ _ rfl (boxL_put HB4.out.b1 _ _ _ _ _ _ _ _ _ _ _ _ _ _)) rfl ?_
      exact lit_fin H0.out HA4.out HB4.out ⟨3, zeroAtx, o1.op, termP first, termP t2, first.off⟩ _ rfl ⟨i64_3, zeroAtx_ok _ _, HO1.out.2.2.2.1, termP_ok hname, termP_ok HT2.out, (good_parts hname).2⟩ (Nat.le_refl (w.heap.size + 2)) _ _ _ _ _ _ _ _ _ _ _ _ _ _

set_option maxHeartbeats 4000000 in
set_option maxRecDepth 100000 in
theorem lit_testA {w : World} {p : Nat} {ao : Option Addr} {cap : Nat} {L : List Tok} {c f : Int} {t : Tok} {R : List Tok} (first : Tok) (h : Ahead w p ao cap L c f (t :: R)) (hname : first.good) (h1 : first.k = 1) (h11 : t.k = 11) :
    Calls Tryz.prog 64 #[.pointer (some ⟨p, 0, none⟩), tokV first] w (LitPost w p ao cap L c f (litP c f first (t :: R))) := by
  have e10 : (first.k == 10) = false := by simp; omega
  have e1 : (first.k == 1) = true := by simpa using h1
  have e11 : (t.k != 11) = false := by simpa using h11
  have HE : litP c f first (t :: R) = testP c f first (t :: R) := by unfold litP testP; rw [if_neg (by omega)]; simp only; rw [if_pos h1, if_pos h11]; rfl
  rw [HE]
  have HL := hide (fun W (hb : Below w.heap.size w W) => look_good (h.kept hb))
  have hfd := tok_kind (.int .i64 t.k) (.string t.t) (.int .i64 t.n) (.int .i64 t.op) (.int .i64 (t.off : Int)) (.int .i64 (t.en : Int))
  have H0 := hide h
  have hp := h.lt
  have HB := hide (TwoBox.start (w := w) hp (.cells #[.int .i64 first.k, .string first.t, .int .i64 first.n, .int .i64 first.op, .int .i64 (first.off : Int), .int .i64 (first.en : Int)] 85) (.cells #[.int .i64 0, .string ⟨#[]⟩, .slice none 0 0, .int .i64 0, .int .i64 0, .int .i64 0, .int .i64 0, .string ⟨#[]⟩, .int .i64 0, .int .i64 0, .int .i64 0, .string ⟨#[]⟩, .int .i64 0, .int .i64 0] 72))
  have HF := hide (termOf_any first)
  unfold tokV at HF ⊢
  unfold Trm.val at HF
  unfold tokV at HL
  clear h h1 h11 HE
  cases hT : takeP c f [11] (t :: R) with
  | bad ec eo =>
    have HT : Hid (∀ (W : World) (n : Nat), W.heap.size = n → Ahead W p ao cap L c f (t :: R) → Calls Tryz.prog 36 #[.pointer (some ⟨p, 0, none⟩), .slice (some ⟨n, 0, none⟩) 1 1] (W.alloc (.cells #[.int .i64 11] 3)) fun e w' => e = PEnd ec eo ∧ Below W.heap.size W w') := fun W n hn ha => hn ▸ take_lit_fail [11] ha (by decide) hT
    rw [show testP c f first (t :: R) = .bad ec eo from by unfold testP; rw [hT]]
    clear hT
    unfold LitPost
    go_enter Tryz.func64, Tryz.ntmps64
    go_wp2_with (first
      | (go_at_call 54; refine (HL.out _ (below2a _ _ _)).mono ?_; rintro e w1 ⟨rfl, hb1⟩; have HA1 := hide ((H0.out.kept (below2a _ _ _)).kept hb1); have HB1 := hide (HB.out.below hb1); clear hb1; obtain ⟨x0, x1, x2, x3, x4, x5⟩ := tok_cells HB1.out.b0)
      | (go_at_call 36; refine (HT.out _ _ (by simp) HA1.out).mono ?_; rintro e w2 ⟨rfl, hb2⟩))
    exact ⟨rfl, rfl, only_drop (HB1.out.below hb2).on⟩
  | ok o1 r1 =>
    have HT : Hid (∀ (W : World) (n : Nat), W.heap.size = n → Ahead W p ao cap L c f (t :: R) → Calls Tryz.prog 36 #[.pointer (some ⟨p, 0, none⟩), .slice (some ⟨n, 0, none⟩) 1 1] (W.alloc (.cells #[.int .i64 11] 3)) fun e w' => e = .returned (tokV o1) ∧ Ahead w' p ao cap L c f r1 ∧ Only (fun b => b = p) W w') := fun W n hn ha => hn ▸ take_lit_good [11] ha (by decide) hT
    have hfo := tok_op (.int .i64 o1.k) (.string o1.t) (.int .i64 o1.n) (.int .i64 o1.op) (.int .i64 (o1.off : Int)) (.int .i64 (o1.en : Int))
    have HO1 := hide (H0.out.good o1 (by rw [(take_eq hT).1]; exact List.mem_cons_self))
    have HSub : Hid (∀ t ∈ r1, t.good) := fun t ht => H0.out.good t (by rw [(take_eq hT).1]; exact List.mem_cons_of_mem _ ht)
    unfold tokV at HT
    cases hT2 : takeP c f termKs r1 with
    | bad ec eo =>
      have HP := hide (fun (W : World) (ha : Ahead W p ao cap L c f r1) => term_fail ha hT2)
      rw [show testP c f first (t :: R) = .bad ec eo from by unfold testP; rw [hT]; simp only; rw [hT2]]
      clear hT hT2
      unfold LitPost
      go_enter Tryz.func64, Tryz.ntmps64
      go_wp2_with (first
      | (go_at_call 54; refine (HL.out _ (below2a _ _ _)).mono ?_; rintro e w1 ⟨rfl, hb1⟩; have HA1 := hide ((H0.out.kept (below2a _ _ _)).kept hb1); have HB1 := hide (HB.out.below hb1); clear hb1; obtain ⟨x0, x1, x2, x3, x4, x5⟩ := tok_cells HB1.out.b0)
      | (go_at_call 36; refine (HT.out _ _ (by simp) HA1.out).mono ?_; rintro e w2 ⟨rfl, ha2, ho2⟩; have HA2 := hide ha2; have HB2 := hide (HB1.out.move ho2); clear ha2 ho2; obtain ⟨x0, x1, x2, x3, x4, x5⟩ := tok_cells HB2.out.b0))
      go_region_with (first
        | (go_at_call 67; refine (HF.out _).mono ?_; rintro e w3 ⟨rfl, hb3⟩; have HA3 := hide (HA2.out.drew.kept hb3); have HB3 := hide (HB2.out.drew.below hb3); clear hb3; have z6 := tok_cells HB3.out.b0)
        | (go_at_call 80; refine (HP.out _ (by first | exact HA3.out | exact HA3.out.drew)).mono ?_; rintro e w4 ⟨rfl, hb4⟩; refine panic_ends (P := Tryz.prog) (w := w4) ⟨rfl, rfl, by first | exact only_drop (HB3.out.below hb4).on | exact only_drop (HB3.out.drew.below hb4).on⟩ ?_))
      all_goals trivial
    | ok t2 r2 =>
      have HP := hide (fun (W : World) (ha : Ahead W p ao cap L c f r1) => term_good ha hT2)
      have HT2 := hide (HSub.out t2 (by rw [(take_eq hT2).1]; exact List.mem_cons_self))
      unfold Trm.val at HP
      rw [show testP c f first (t :: R) = .ok ⟨3, zeroAtom, o1.op, termP first, termP t2, first.off⟩ r2 from by unfold testP; rw [hT]; simp only; rw [hT2]]
      clear hT hT2
      unfold LitPost
      go_enter Tryz.func64, Tryz.ntmps64
      go_wp2_with (first
      | (go_at_call 54; refine (HL.out _ (below2a _ _ _)).mono ?_; rintro e w1 ⟨rfl, hb1⟩; have HA1 := hide ((H0.out.kept (below2a _ _ _)).kept hb1); have HB1 := hide (HB.out.below hb1); clear hb1; obtain ⟨x0, x1, x2, x3, x4, x5⟩ := tok_cells HB1.out.b0)
      | (go_at_call 36; refine (HT.out _ _ (by simp) HA1.out).mono ?_; rintro e w2 ⟨rfl, ha2, ho2⟩; have HA2 := hide ha2; have HB2 := hide (HB1.out.move ho2); clear ha2 ho2; obtain ⟨x0, x1, x2, x3, x4, x5⟩ := tok_cells HB2.out.b0))
      go_region_held3 (fun w' => w'.cell? ⟨w.heap.size, 0, none⟩ = some (.int .i64 first.k) ∧ w'.cell? ⟨w.heap.size, 1, none⟩ = some (.string first.t) ∧ w'.cell? ⟨w.heap.size, 2, none⟩ = some (.int .i64 first.n) ∧ w'.cell? ⟨w.heap.size, 3, none⟩ = some (.int .i64 first.op) ∧ w'.cell? ⟨w.heap.size, 4, none⟩ = some (.int .i64 (first.off : Int)) ∧ w'.cell? ⟨w.heap.size, 5, none⟩ = some (.int .i64 (first.en : Int)))
        (first | (with_reducible exact z6) | (with_reducible exact z7) | (go_keep; done))
        (first
        | (go_at_call 67; refine (HF.out _).mono ?_; rintro e w3 ⟨rfl, hb3⟩; have HA3 := hide (HA2.out.drew.kept hb3); have HB3 := hide (HB2.out.drew.below hb3); clear hb3; have z6 := tok_cells HB3.out.b0)
        | (go_at_call 80; refine (HP.out _ (by first | exact HA3.out | exact HA3.out.drew)).mono ?_; rintro e w4 ⟨rfl, ha4, ho4⟩; have HA4 := hide ha4; have HB4 := hide (HB3.out.move ho4); clear ha4 ho4; have z7 := tok_cells HB4.out.b0; obtain ⟨⟨k0, k1, k2, k3, k4, k5, k6, k7, k8, k9, k10, k11, k12, k13⟩, ⟨l0, l1, l2, l3, l4, l5, l6, l7, l8, l9, l10, l11, l12, l13⟩⟩ := boxL_cells HB4.out.b1))
      go_wp2
      refine bodyPost_ret (litRes _ (w.heap.size + 1) _ _ _ _ _ _ _ _ _ _ _ _ _ _ _ rfl (boxL_put HB4.out.b1 _ _ _ _ _ _ _ _ _ _ _ _ _ _)) rfl ?_
      exact lit_fin H0.out HA4.out HB4.out ⟨3, zeroAtx, o1.op, termP first, termP t2, first.off⟩ _ rfl ⟨i64_3, zeroAtx_ok _ _, HO1.out.2.2.2.1, termP_ok hname, termP_ok HT2.out, (good_parts hname).2⟩ (Nat.le_refl (w.heap.size + 2)) _ _ _ _ _ _ _ _ _ _ _ _ _ _

/-- A literal that a token begins. -/
theorem literal_any {w : World} {p : Nat} {ao : Option Addr} {cap : Nat} {L : List Tok} {c f : Int} {R : List Tok} (first : Tok) (h : Ahead w p ao cap L c f R) (hname : first.good) :
    Calls Tryz.prog 64 #[.pointer (some ⟨p, 0, none⟩), tokV first] w (LitPost w p ao cap L c f (litP c f first R)) := by
  by_cases h10 : first.k = 10
  · exact lit_not first h hname h10
  by_cases h1 : first.k = 1
  · match R, h with
    | [], h => exact lit_none first h hname h1
    | t :: r, h =>
      by_cases h11 : t.k = 11
      · exact lit_testA first h hname h1 h11
      · exact lit_pos first h hname h1 h11
  · exact lit_testB first h hname h10 h1
end Go.Proofs.YtmdhjggijlhhgaaGreatDoor

namespace Go.Proofs.YtmdhjggijlhhgaaGreatDoor
set_option linter.unusedSimpArgs false
set_option linter.unusedVariables false
open Go.RowKit

theorem take_len {c f : Int} {ks : List Int} {R r : List Tok} {t : Tok} (h : takeP c f ks R = .ok t r) : r.length + 1 = R.length := by
  obtain ⟨rfl, _⟩ := take_eq h
  rfl
theorem args_len {c f : Int} {ks : List Int} : ∀ (n : Nat) (acc : List Trm) (R r : List Tok) (ts : List Trm), R.length = n → argsP c f ks acc R = .ok ts r → r.length < R.length := by
  intro n
  induction n using Nat.strongRecOn with
  | ind n ih =>
    intro acc R r ts hn h
    cases hT : takeP c f ks R with
    | bad ec eo => rw [args_bad1 hT] at h; cases h
    | ok t r1 =>
      have l1 := take_len hT
      by_cases h8 : acc.length = 8
      · rw [args_lim hT h8] at h; cases h
      · rw [args_next hT h8] at h
        cases hU : takeP c f [7, 6] r1 with
        | bad ec eo => rw [hU] at h; cases h
        | ok s r2 =>
          have l2 := take_len hU
          rw [hU] at h
          simp only at h
          by_cases h7 : s.k = 7
          · rw [if_pos h7] at h
            have := ih r2.length (by omega) _ r2 r ts rfl h
            omega
          · rw [if_neg h7] at h
            injection h with e1 e2
            subst e2
            omega
theorem atom_len {c f : Int} {ks : List Int} {name : Tok} {R r : List Tok} {a : PAtom} (h : atomP c f ks name R = .ok a r) : r.length ≤ R.length := by
  match R, h with
  | [], h => simp [atomP] at h
  | t :: r1, h =>
    unfold atomP at h
    simp only at h
    by_cases h5 : t.k = 5
    · rw [if_pos h5] at h
      cases hA : argsP c f ks [] r1 with
      | bad ec eo => rw [hA] at h; cases h
      | ok ts r2 =>
        rw [hA] at h
        injection h with e1 e2
        subst e2
        have := args_len _ _ _ _ _ rfl hA
        simp only [List.length_cons]
        omega
    · rw [if_neg h5] at h
      injection h with e1 e2
      subst e2
      exact Nat.le_refl _
theorem lit_len {c f : Int} {first : Tok} {R r : List Tok} {x : PLit} (h : litP c f first R = .ok x r) : r.length ≤ R.length := by
  have test : ∀ (q : PLit) (r : List Tok), (match takeP c f [11] R with
      | .bad c o => PR.bad c o
      | .ok o1 r' => match takeP c f termKs r' with
        | .bad c o => .bad c o
        | .ok t2 r'' => .ok ⟨3, zeroAtom, o1.op, termP first, termP t2, first.off⟩ r'') = PR.ok q r → r.length ≤ R.length := by
    intro q r h
    cases hT : takeP c f [11] R with
    | bad ec eo => rw [hT] at h; cases h
    | ok o1 r1 =>
      rw [hT] at h
      simp only at h
      cases hU : takeP c f termKs r1 with
      | bad ec eo => rw [hU] at h; cases h
      | ok t2 r2 =>
        rw [hU] at h
        injection h with e1 e2
        subst e2
        have := take_len hT
        have := take_len hU
        omega
  unfold litP at h
  by_cases h10 : first.k = 10
  · rw [if_pos h10] at h
    cases hT : takeP c f [1] R with
    | bad ec eo => rw [hT] at h; cases h
    | ok n r1 =>
      rw [hT] at h
      simp only at h
      cases hA : atomP c f termKs n r1 with
      | bad ec eo => rw [hA] at h; cases h
      | ok a r2 =>
        rw [hA] at h
        injection h with e1 e2
        subst e2
        have := take_len hT
        have := atom_len hA
        omega
  · rw [if_neg h10] at h
    simp only at h
    by_cases h1 : first.k = 1
    · rw [if_pos h1] at h
      cases R with
      | nil => cases h
      | cons t r1 =>
        simp only at h
        by_cases h11 : t.k = 11
        · rw [if_pos h11] at h; exact test _ _ h
        · rw [if_neg h11] at h
          cases hA : atomP c f termKs first (t :: r1) with
          | bad ec eo => rw [hA] at h; cases h
          | ok a r2 =>
            rw [hA] at h
            injection h with e1 e2
            subst e2
            exact atom_len hA
    · rw [if_neg h1] at h; exact test _ _ h
theorem body_len {c f : Int} : ∀ (n : Nat) (acc : List PLit) (R r : List Tok) (b : List PLit), bodyF c f n acc R = .ok b r → r.length < R.length := by
  intro n
  induction n with
  | zero => intro acc R r b h; cases h
  | succ n ih =>
    intro acc R r b h
    unfold bodyF at h
    cases hT : takeP c f [1, 10, 2, 3, 4] R with
    | bad ec eo => rw [hT] at h; cases h
    | ok t r1 =>
      rw [hT] at h
      simp only at h
      have l1 := take_len hT
      by_cases h16 : acc.length = 16
      · rw [if_pos h16] at h; cases h
      · rw [if_neg h16] at h
        cases hL : litP c f t r1 with
        | bad ec eo => rw [hL] at h; cases h
        | ok x r2 =>
          rw [hL] at h
          simp only at h
          have l2 := lit_len hL
          cases hU : takeP c f [7, 8] r2 with
          | bad ec eo => rw [hU] at h; cases h
          | ok s r3 =>
            rw [hU] at h
            simp only at h
            have l3 := take_len hU
            by_cases h8 : s.k = 8
            · rw [if_pos h8] at h
              injection h with e1 e2
              subst e2
              omega
            · rw [if_neg h8] at h
              have := ih _ _ _ _ h
              omega
section
variable {c f ec eo : Int} {n : Nat} {acc : List PLit} {R r1 r2 r3 : List Tok} {t s : Tok} {x : PLit}
theorem body_bad1 (hT : takeP c f [1, 10, 2, 3, 4] R = .bad ec eo) : bodyF c f (n + 1) acc R = .bad ec eo := by rw [bodyF, hT]
theorem body_lim (hT : takeP c f [1, 10, 2, 3, 4] R = .ok t r1) (h : acc.length = 16) : bodyF c f (n + 1) acc R = .bad 23 t.off := by rw [bodyF, hT]; simp only; rw [if_pos h]
theorem body_lit (hT : takeP c f [1, 10, 2, 3, 4] R = .ok t r1) (h : acc.length ≠ 16) (hL : litP c f t r1 = .bad ec eo) : bodyF c f (n + 1) acc R = .bad ec eo := by rw [bodyF, hT]; simp only; rw [if_neg h, hL]
theorem body_sep (hT : takeP c f [1, 10, 2, 3, 4] R = .ok t r1) (h : acc.length ≠ 16) (hL : litP c f t r1 = .ok x r2) (hU : takeP c f [7, 8] r2 = .bad ec eo) : bodyF c f (n + 1) acc R = .bad ec eo := by rw [bodyF, hT]; simp only; rw [if_neg h, hL]; simp only; rw [hU]
theorem body_end (hT : takeP c f [1, 10, 2, 3, 4] R = .ok t r1) (h : acc.length ≠ 16) (hL : litP c f t r1 = .ok x r2) (hU : takeP c f [7, 8] r2 = .ok s r3) (h8 : s.k = 8) : bodyF c f (n + 1) acc R = .ok (acc ++ [x]) r3 := by rw [bodyF, hT]; simp only; rw [if_neg h, hL]; simp only; rw [hU]; simp only; rw [if_pos h8]
theorem body_more (hT : takeP c f [1, 10, 2, 3, 4] R = .ok t r1) (h : acc.length ≠ 16) (hL : litP c f t r1 = .ok x r2) (hU : takeP c f [7, 8] r2 = .ok s r3) (h8 : s.k ≠ 8) : bodyF c f (n + 1) acc R = bodyF c f n (acc ++ [x]) r3 := by rw [bodyF, hT]; simp only; rw [if_neg h, hL]; simp only; rw [hU]; simp only; rw [if_neg h8]
end
theorem clause_len {c f : Int} {name : Tok} {R r : List Tok} {x : PCls} (h : clauseP c f name R = .ok x r) : r.length < R.length := by
  unfold clauseP at h
  cases hA : atomP c f termKs name R with
  | bad ec eo => rw [hA] at h; cases h
  | ok a r1 =>
    rw [hA] at h
    simp only at h
    have l1 := atom_len hA
    cases hT : takeP c f [8, 9] r1 with
    | bad ec eo => rw [hT] at h; cases h
    | ok s r2 =>
      rw [hT] at h
      simp only at h
      have l2 := take_len hT
      by_cases h9 : s.k = 9
      · rw [if_pos h9] at h
        cases hB : bodyP c f r2 with
        | bad ec eo => rw [hB] at h; cases h
        | ok b r3 =>
          rw [hB] at h
          injection h with e1 e2
          subst e2
          have := body_len _ _ _ _ _ hB
          omega
      · rw [if_neg h9] at h
        injection h with e1 e2
        subst e2
        omega
section
variable {c f ec eo : Int} {n : Nat} {acc : List PCls} {fs : List PAtom} {R r1 r2 r3 : List Tok} {t s : Tok} {x : PCls} {y : PAtom}
theorem prog_bad1 (hT : takeP c f [1, 0] R = .bad ec eo) : progF c f (n + 1) acc R = .bad ec eo := by rw [progF, hT]
theorem prog_end (hT : takeP c f [1, 0] R = .ok t r1) (h0 : t.k = 0) : progF c f (n + 1) acc R = .ok acc r1 := by rw [progF, hT]; simp only; rw [if_pos h0]
theorem prog_lim (hT : takeP c f [1, 0] R = .ok t r1) (h0 : t.k ≠ 0) (h : acc.length = 512) : progF c f (n + 1) acc R = .bad 24 t.off := by rw [progF, hT]; simp only; rw [if_neg h0, if_pos h]
theorem prog_cls (hT : takeP c f [1, 0] R = .ok t r1) (h0 : t.k ≠ 0) (h : acc.length ≠ 512) (hC : clauseP c f t r1 = .bad ec eo) : progF c f (n + 1) acc R = .bad ec eo := by rw [progF, hT]; simp only; rw [if_neg h0, if_neg h, hC]
theorem prog_more (hT : takeP c f [1, 0] R = .ok t r1) (h0 : t.k ≠ 0) (h : acc.length ≠ 512) (hC : clauseP c f t r1 = .ok x r2) : progF c f (n + 1) acc R = progF c f n (acc ++ [x]) r2 := by rw [progF, hT]; simp only; rw [if_neg h0, if_neg h, hC]
theorem facts_bad1 (hT : takeP c f [1, 0] R = .bad ec eo) : factsF c f (n + 1) fs R = .bad ec eo := by rw [factsF, hT]
theorem facts_end (hT : takeP c f [1, 0] R = .ok t r1) (h0 : t.k = 0) : factsF c f (n + 1) fs R = .ok fs r1 := by rw [factsF, hT]; simp only; rw [if_pos h0]
theorem facts_lim (hT : takeP c f [1, 0] R = .ok t r1) (h0 : t.k ≠ 0) (h : fs.length = 4096) : factsF c f (n + 1) fs R = .bad 24 t.off := by rw [factsF, hT]; simp only; rw [if_neg h0, if_pos h]
theorem facts_atom (hT : takeP c f [1, 0] R = .ok t r1) (h0 : t.k ≠ 0) (h : fs.length ≠ 4096) (hC : atomP c f valueKs t r1 = .bad ec eo) : factsF c f (n + 1) fs R = .bad ec eo := by rw [factsF, hT]; simp only; rw [if_neg h0, if_neg h, hC]
theorem facts_dot (hT : takeP c f [1, 0] R = .ok t r1) (h0 : t.k ≠ 0) (h : fs.length ≠ 4096) (hC : atomP c f valueKs t r1 = .ok y r2) (hD : takeP c f [8] r2 = .bad ec eo) : factsF c f (n + 1) fs R = .bad ec eo := by rw [factsF, hT]; simp only; rw [if_neg h0, if_neg h, hC]; simp only; rw [hD]
theorem facts_more (hT : takeP c f [1, 0] R = .ok t r1) (h0 : t.k ≠ 0) (h : fs.length ≠ 4096) (hC : atomP c f valueKs t r1 = .ok y r2) (hD : takeP c f [8] r2 = .ok s r3) : factsF c f (n + 1) fs R = factsF c f n (fs ++ [y]) r3 := by rw [factsF, hT]; simp only; rw [if_neg h0, if_neg h, hC]; simp only; rw [hD]
end
end Go.Proofs.YtmdhjggijlhhgaaGreatDoor

namespace Go.Proofs.YtmdhjggijlhhgaaGreatDoor
set_option linter.unusedSimpArgs false
set_option linter.unusedVariables false
open Go.RowKit

theorem Tryz.infoLit : (Tryz.prog.info? 72).map (fun i => (i.zero, i.size, i.bytes)) = some (some (.agg #[.int .i64 0, .string ⟨#[]⟩, .slice none 0 0, .int .i64 0, .int .i64 0, .int .i64 0, .int .i64 0, .string ⟨#[]⟩, .int .i64 0, .int .i64 0, .int .i64 0, .string ⟨#[]⟩, .int .i64 0, .int .i64 0]), 14, 152) := by kernel_rfl

theorem limit_eq (n m c o : Int) (w : World) (h : n = m) : Calls Tryz.prog 44 #[.int .i64 n, .int .i64 m, .int .i64 c, .int .i64 o] w fun e w' => e = PEnd c o ∧ w' = w := by
  subst h
  exact limit_bad n c o w

/-- A reader and a list of the caller's own that grows, all in new memory. -/
structure Coll3 {α : Type} (E : El α) (e : TypeId) (w wr : World) (p : Nat) (ao : Option Addr) (cap : Nat) (L : List Tok) (c f : Int) (R : List Tok) (base : Nat) (v : Value) (l : List α) : Prop where
  ah : Ahead wr p ao cap L c f R
  gr : Grow E e base wr v l
  on : Only (fun k => k = p ∨ w.heap.size ≤ k) w wr
  pl : p < w.heap.size
  tk : ∀ g, ao = some ⟨g, 0, none⟩ → 0 < L.length → g < w.heap.size
  lo : w.heap.size ≤ base
  hi : base ≤ wr.heap.size
section
variable {α : Type} {E : El α} {e : TypeId} {w wr wr' : World} {p : Nat} {ao : Option Addr} {cap : Nat} {L : List Tok} {c f : Int} {R R' : List Tok} {base : Nat} {v : Value} {l : List α}
theorem Coll3.move (h : Coll3 E e w wr p ao cap L c f R base v l) (ho : Only (fun k => k = p) wr wr') (ha : Ahead wr' p ao cap L c f R') : Coll3 E e w wr' p ao cap L c f R' base v l :=
  have hp := h.pl
  have hl := h.lo
  ⟨ha, h.gr.above fun b hb hlt => ho.block b hlt (by omega), h.on.trans (ho.mono fun k _ e => .inl e), h.pl, h.tk, h.lo, Nat.le_trans h.hi ho.size⟩
theorem Coll3.below (h : Coll3 E e w wr p ao cap L c f R base v l) (hb : Below wr.heap.size wr wr') : Coll3 E e w wr' p ao cap L c f R base v l :=
  h.move (Only.of_below hb _) (h.ah.kept hb)
theorem Coll3.grown (h : Coll3 E e w wr p ao cap L c f R base v l) {v' : Value} {l' : List α} (hg : wr.grownBy wr' v.ownBlock) (hG : Grow E e base wr' v' l') : Coll3 E e w wr' p ao cap L c f R base v' l' := by
  have hp := h.pl
  have hl := h.lo
  have ho : Only (fun k => base ≤ k) wr wr' := (Only.refl _ wr).grown hg (fun k hk _ => own_new h.gr.1 k hk)
  refine ⟨?_, hG, h.on.trans (ho.mono fun k _ (e : base ≤ k) => .inr (by omega)), h.pl, h.tk, h.lo, Nat.le_trans h.hi ho.size⟩
  obtain ⟨i, q1, q2⟩ := h.ah
  exact ⟨i, q1.only ho (by omega) (fun g hg hl => by have := h.tk g hg hl; omega), q2⟩
theorem Coll3.start (h : Ahead w p ao cap L c f R) : Coll3 E e w w p ao cap L c f R w.heap.size (.slice none 0 0) [] :=
  ⟨h, Grow.nil _ _ _ _, Only.refl _ _, h.lt, h.tk, Nat.le_refl _, Nat.le_refl _⟩
theorem Coll3.endM (h : Coll3 E e w wr p ao cap L c f R base v l) (ho : Only (fun k => k = p) wr wr') : Only (fun k => k = p) w wr' := only_drop (h.on.trans (ho.mono fun k _ e => .inl e))
theorem Coll3.end_ (h : Coll3 E e w wr p ao cap L c f R base v l) : Only (fun k => k = p) w wr := only_drop h.on
end

def BodyPost (w : World) (p : Nat) (ao : Option Addr) (cap : Nat) (L : List Tok) (c f : Int) (res : PR (List PLit)) (e : Ending) (w' : World) : Prop :=
  match res with
  | .bad ec eo => e = PEnd ec eo ∧ Only (fun k => k = p) w w'
  | .ok b r => ∃ v ls, e = .returned v ∧ ls.map Lix.pur = b ∧ ls.length ≤ 16 ∧ Grow elLix 72 w.heap.size w' v ls ∧ Ahead w' p ao cap L c f r ∧ Only (fun k => k = p) w w'
theorem bodyPost_bad {w w' : World} {p : Nat} {ao : Option Addr} {cap : Nat} {L : List Tok} {c f ec eo : Int} {e : Ending} (h : BodyPost w p ao cap L c f (.bad ec eo) e w') : e = PEnd ec eo ∧ Only (fun k => k = p) w w' := h
theorem bodyPost_ok {w w' : World} {p : Nat} {ao : Option Addr} {cap : Nat} {L : List Tok} {c f : Int} {x : List PLit} {r : List Tok} {e : Ending} (h : BodyPost w p ao cap L c f (.ok x r) e w') : ∃ v ls, e = .returned v ∧ ls.map Lix.pur = x ∧ ls.length ≤ 16 ∧ Grow elLix 72 w.heap.size w' v ls ∧ Ahead w' p ao cap L c f r ∧ Only (fun k => k = p) w w' := h

set_option maxHeartbeats 4000000 in
set_option maxRecDepth 100000 in
theorem body_any {w : World} {p : Nat} {ao : Option Addr} {cap : Nat} {L : List Tok} {c f : Int} {R : List Tok} (h : Ahead w p ao cap L c f R) :
    Calls Tryz.prog 46 #[.pointer (some ⟨p, 0, none⟩)] w (BodyPost w p ao cap L c f (bodyP c f R)) := by
  obtain ⟨res, hres⟩ : ∃ res, bodyP c f R = res := ⟨_, rfl⟩
  rw [hres]
  have HRes0 : Hid (bodyF c f (R.length + 1) [] R = res) := hres
  obtain ⟨Post, hPost⟩ : ∃ Post : Ending → World → Prop, Post = BodyPost w p ao cap L c f res := ⟨_, rfl⟩
  rw [← hPost]
  have PB : Hid (∀ ec eo w', res = .bad ec eo → Only (fun k => k = p) w w' → Post (PEnd ec eo) w') := fun ec eo w' hr ho => by
    rw [hPost, hr]; exact ⟨rfl, ho⟩
  have PG : Hid (∀ b r' v ls w', res = .ok b r' → ls.map Lix.pur = b → ls.length ≤ 16 → Grow elLix 72 w.heap.size w' v ls → Ahead w' p ao cap L c f r' → Only (fun k => k = p) w w' → Post (.returned v) w') := fun b r' v ls w' hr h1 h2 h3 h4 h5 => by
    rw [hPost, hr]; exact ⟨v, ls, rfl, h1, h2, h3, h4, h5⟩
  have HC0 := hide (Coll3.start (E := elLix) (e := 72) h)
  have HLt := hide h.lt
  clear hPost h hres
  go_enter Tryz.func46, Tryz.ntmps46
  go_wp2
  go_loopw [3] (fun v wr => ∃ (n : Nat) (ls : List Lix) (R1 : List Tok), ls.length ≤ 16 ∧ R1.length < n ∧ Hid (Coll3 elLix 72 w wr p ao cap L c f R1 w.heap.size v ls) ∧ Hid (bodyF c f n (ls.map Lix.pur) R1 = res)) (fun _ wr => 70000 - (intOf ((wr.cell? ⟨p, 4, none⟩).getD undef)).toNat)
  case atStart => exact ⟨R.length + 1, [], R, by simp, by omega, HC0, HRes0⟩
  case round =>
    clear HC0 HRes0
    obtain ⟨n, ls, R1, hls, hn, HC, HRes⟩ := hrel
    obtain ⟨n, rfl⟩ : ∃ m, n = m + 1 := ⟨n - 1, by omega⟩
    obtain ⟨va, vc, rfl, -⟩ := HC.out.gr.shape
    cases hT : takeP c f [1, 10, 2, 3, 4] R1 with
    | bad ec eo =>
      have HT : Hid (∀ (W : World) (g : Nat), W.heap.size = g → Ahead W p ao cap L c f R1 → Calls Tryz.prog 36 #[.pointer (some ⟨p, 0, none⟩), .slice (some ⟨g, 0, none⟩) 5 5] (W.alloc (.cells #[.int .i64 1, .int .i64 10, .int .i64 2, .int .i64 3, .int .i64 4] 3)) fun e w' => e = PEnd ec eo ∧ Below W.heap.size W w') := fun W g hg ha => hg ▸ take_lit_fail [1, 10, 2, 3, 4] ha (by decide) hT
      have HX : Hid (res = .bad ec eo) := by show _ = _; rw [← HRes.out]; exact body_bad1 hT
      clear hT
      go_wp2_with (go_at_call 36; refine (HT.out _ _ rfl HC.out.ah).mono ?_; rintro e w1 ⟨rfl, hb1⟩)
      exact ⟨rfl, PB.out _ _ _ HX.out (HC.out.below hb1).end_⟩
    | ok t r1 =>
      have HT : Hid (∀ (W : World) (g : Nat), W.heap.size = g → Ahead W p ao cap L c f R1 → Calls Tryz.prog 36 #[.pointer (some ⟨p, 0, none⟩), .slice (some ⟨g, 0, none⟩) 5 5] (W.alloc (.cells #[.int .i64 1, .int .i64 10, .int .i64 2, .int .i64 3, .int .i64 4] 3)) fun e w' => e = .returned (tokV t) ∧ Ahead w' p ao cap L c f r1 ∧ Only (fun b => b = p) W w') := fun W g hg ha => hg ▸ take_lit_good [1, 10, 2, 3, 4] ha (by decide) hT
      have htg : t.good := HC.out.ah.good t (by rw [(take_eq hT).1]; exact List.mem_cons_self)
      have l1 := take_len hT
      unfold tokV at HT
      by_cases h16 : ls.length = 16
      · have HLm := hide (limit_eq (ls.length : Int) 16 23 (t.off : Int) (h := by omega))
        have HX : Hid (res = .bad 23 (t.off : Int)) := by show _ = _; rw [← HRes.out]; exact body_lim hT (by rw [List.length_map]; exact h16)
        clear hT
        clear h16 hls
        go_wp2_with (first
          | (go_at_call 36; refine (HT.out _ _ rfl HC.out.ah).mono ?_; rintro e w1 ⟨rfl, ha1, ho1⟩; have HC1 := hide (HC.out.move ho1 ha1); clear ha1 ho1)
          | (go_at_call 44; refine (HLm.out _).mono ?_; rintro e w2 ⟨rfl, hw⟩; have hw := hw.symm; subst hw))
        exact ⟨rfl, PB.out _ _ _ HX.out (HC1.out.below (belowA _ _)).end_⟩
      · have HLm := hide (limit_ok (ls.length : Int) 16 23 (t.off : Int) (h := by omega))
        have hls16 : ls.length < 16 := by omega
        have HLi0 := fun (W : World) (ha : Ahead W p ao cap L c f r1) => literal_any t ha htg
        cases hrl : litP c f t r1 with
        | bad ec eo =>
          rw [hrl] at HLi0
          have HLi := hide HLi0
          have HX : Hid (res = .bad ec eo) := by show _ = _; rw [← HRes.out]; exact body_lit hT (by rw [List.length_map]; exact h16) hrl
          clear HLi0 hT hrl h16
          unfold tokV at HLi
          go_wp2_with (first
            | (go_at_call 36; refine (HT.out _ _ rfl HC.out.ah).mono ?_; rintro e w1 ⟨rfl, ha1, ho1⟩; have HC1 := hide ((HC.out.move ho1 ha1).below (belowA w1 (.cells #[.int .i64 t.k, .string t.t, .int .i64 t.n, .int .i64 t.op, .int .i64 (t.off : Int), .int .i64 (t.en : Int)] 85))); clear ha1 ho1 HT)
            | (go_at_call 44; refine (HLm.out _).mono ?_; rintro e w2 ⟨⟨v2, rfl⟩, hw⟩; have hw := hw.symm; subst hw)
            | (go_at_call 64; refine (HLi.out _ HC1.out.ah).mono ?_; intro e w3 hq; obtain ⟨rfl, ho3⟩ := litPost_bad hq; clear hq))
          exact ⟨rfl, PB.out _ _ _ HX.out (HC1.out.endM ho3)⟩
        | ok x r2 =>
          rw [hrl] at HLi0
          have HLi := hide HLi0
          unfold tokV at HLi
          clear HLi0
          have l2 := lit_len hrl
          cases hU0 : takeP c f [7, 8] r2 with
          | bad ec eo =>
            have HU : Hid (∀ (W : World) (g : Nat), W.heap.size = g → Ahead W p ao cap L c f r2 → Calls Tryz.prog 36 #[.pointer (some ⟨p, 0, none⟩), .slice (some ⟨g, 0, none⟩) 2 2] (W.alloc (.cells #[.int .i64 7, .int .i64 8] 3)) fun e w' => e = PEnd ec eo ∧ Below W.heap.size W w') := fun W g hg ha => hg ▸ take_lit_fail [7, 8] ha (by decide) hU0
            have HX : Hid (res = .bad ec eo) := by show _ = _; rw [← HRes.out]; exact body_sep hT (by rw [List.length_map]; exact h16) hrl hU0
            clear hT hrl hU0 h16
            go_wp2_with (first
              | (go_at_call 36; refine (HT.out _ _ rfl HC.out.ah).mono ?_; rintro e w1 ⟨rfl, ha1, ho1⟩; have HC1 := hide ((HC.out.move ho1 ha1).below (belowA w1 (.cells #[.int .i64 t.k, .string t.t, .int .i64 t.n, .int .i64 t.op, .int .i64 (t.off : Int), .int .i64 (t.en : Int)] 85))); clear ha1 ho1 HT)
              | (go_at_call 44; refine (HLm.out _).mono ?_; rintro e w2 ⟨⟨v2, rfl⟩, hw⟩; have hw := hw.symm; subst hw)
              | (go_at_call 64; refine (HLi.out _ HC1.out.ah).mono ?_; intro e w3 hq; obtain ⟨⟨xk, ⟨ap, av, aoff, ats⟩, xop, xl, xr, xoff⟩, rfl, hpur, hok, ha3, ho3⟩ := litPost_ok hq; clear hq; obtain ⟨xa, xc, rfl, -⟩ := (show Lst elTrm _ _ av ats from hok.2.1.2.2).shape; have HPu := hide hpur; have HOk := hide (HC1.out.gr.behind HC1.out.hi elLix hok); have HC3 := hide (HC1.out.move ho3 ha3); have HC4 := hide (HC3.out.below (belowA w3 (.cells #[.int .i64 xk, .string ap, .slice xa ats.length xc, .int .i64 aoff, .int .i64 xop, .int .i64 xl.k, .int .i64 xl.n, .string xl.s, .int .i64 xl.off, .int .i64 xr.k, .int .i64 xr.n, .string xr.s, .int .i64 xr.off, .int .i64 xoff] 72))); have HOk4 := hide (elLix.move HOk.out fun b hlt hF => ⟨hF, (belowA w3 (.cells #[.int .i64 xk, .string ap, .slice xa ats.length xc, .int .i64 aoff, .int .i64 xop, .int .i64 xl.k, .int .i64 xl.n, .string xl.s, .int .i64 xl.off, .int .i64 xr.k, .int .i64 xr.n, .string xr.s, .int .i64 xr.off, .int .i64 xoff] 72)).block b hlt⟩); clear hpur hok ha3 ho3 HOk HLi; unfold Lix.val)
              | (at_builtin; obtain ⟨i0, hi0, hz0, hz1, hz2⟩ := info_parts Tryz.infoLit; refine wpList_push (w0 := w3.alloc (.cells #[.int .i64 xk, .string ap, .slice xa ats.length xc, .int .i64 aoff, .int .i64 xop, .int .i64 xl.k, .int .i64 xl.n, .string xl.s, .int .i64 xl.off, .int .i64 xr.k, .int .i64 xr.n, .string xr.s, .int .i64 xr.off, .int .i64 xoff] 72)) elLix rfl _ _ 36 rfl w.heap.size 72 i0 _ 152 Tryz.underlying36 hi0 hz0 hz1 hz2 rfl (by decide) _ ls ls.length rfl rfl HC4.out.gr ⟨xk, ⟨ap, .slice xa ats.length xc, aoff, ats⟩, xop, xl, xr, xoff⟩ w3.heap.size 1 rfl (fun j u hu => new_cells (cs := #[.int .i64 xk, .string ap, .slice xa ats.length xc, .int .i64 aoff, .int .i64 xop, .int .i64 xl.k, .int .i64 xl.n, .string xl.s, .int .i64 xl.off, .int .i64 xr.k, .int .i64 xr.n, .string xr.s, .int .i64 xr.off, .int .i64 xoff]) j u hu) HOk4.out (by omega) (Below.refl _ _) HC4.out.hi ?_; intro g cap' w5 HG5 HB5 HGr; clear HB5 hi0 hz0 hz1 hz2; have HC5 := hide (HC4.out.grown HGr.out HG5.out); clear HG5 HGr HC4 HOk4)
              | (go_at_call 36; refine (HU.out _ _ rfl HC5.out.ah).mono ?_; rintro e w6 ⟨rfl, hb6⟩))
            exact ⟨rfl, PB.out _ _ _ HX.out (HC5.out.below hb6).end_⟩
          | ok s r3 =>
            have HU : Hid (∀ (W : World) (g : Nat), W.heap.size = g → Ahead W p ao cap L c f r2 → Calls Tryz.prog 36 #[.pointer (some ⟨p, 0, none⟩), .slice (some ⟨g, 0, none⟩) 2 2] (W.alloc (.cells #[.int .i64 7, .int .i64 8] 3)) fun e w' => e = .returned (tokV s) ∧ Ahead w' p ao cap L c f r3 ∧ Only (fun b => b = p) W w') := fun W g hg ha => hg ▸ take_lit_good [7, 8] ha (by decide) hU0
            have hfd2 := tok_kind (.int .i64 s.k) (.string s.t) (.int .i64 s.n) (.int .i64 s.op) (.int .i64 (s.off : Int)) (.int .i64 (s.en : Int))
            have l3 := take_len hU0
            unfold tokV at HU
            by_cases h8 : s.k = 8
            · have e8 : (s.k == 8) = true := by simpa using h8
              have HX : Hid (res = .ok (ls.map Lix.pur ++ [x]) r3) := by show _ = _; rw [← HRes.out]; exact body_end hT (by rw [List.length_map]; exact h16) hrl hU0 h8
              clear hT hrl hU0 h16 h8
              go_wp2_with (first
                | (go_at_call 36; refine (HT.out _ _ rfl HC.out.ah).mono ?_; rintro e w1 ⟨rfl, ha1, ho1⟩; have HC1 := hide ((HC.out.move ho1 ha1).below (belowA w1 (.cells #[.int .i64 t.k, .string t.t, .int .i64 t.n, .int .i64 t.op, .int .i64 (t.off : Int), .int .i64 (t.en : Int)] 85))); clear ha1 ho1 HT)
                | (go_at_call 44; refine (HLm.out _).mono ?_; rintro e w2 ⟨⟨v2, rfl⟩, hw⟩; have hw := hw.symm; subst hw)
                | (go_at_call 64; refine (HLi.out _ HC1.out.ah).mono ?_; intro e w3 hq; obtain ⟨⟨xk, ⟨ap, av, aoff, ats⟩, xop, xl, xr, xoff⟩, rfl, hpur, hok, ha3, ho3⟩ := litPost_ok hq; clear hq; obtain ⟨xa, xc, rfl, -⟩ := (show Lst elTrm _ _ av ats from hok.2.1.2.2).shape; have HPu := hide hpur; have HOk := hide (HC1.out.gr.behind HC1.out.hi elLix hok); have HC3 := hide (HC1.out.move ho3 ha3); have HC4 := hide (HC3.out.below (belowA w3 (.cells #[.int .i64 xk, .string ap, .slice xa ats.length xc, .int .i64 aoff, .int .i64 xop, .int .i64 xl.k, .int .i64 xl.n, .string xl.s, .int .i64 xl.off, .int .i64 xr.k, .int .i64 xr.n, .string xr.s, .int .i64 xr.off, .int .i64 xoff] 72))); have HOk4 := hide (elLix.move HOk.out fun b hlt hF => ⟨hF, (belowA w3 (.cells #[.int .i64 xk, .string ap, .slice xa ats.length xc, .int .i64 aoff, .int .i64 xop, .int .i64 xl.k, .int .i64 xl.n, .string xl.s, .int .i64 xl.off, .int .i64 xr.k, .int .i64 xr.n, .string xr.s, .int .i64 xr.off, .int .i64 xoff] 72)).block b hlt⟩); clear hpur hok ha3 ho3 HOk HLi; unfold Lix.val)
                | (at_builtin; obtain ⟨i0, hi0, hz0, hz1, hz2⟩ := info_parts Tryz.infoLit; refine wpList_push (w0 := w3.alloc (.cells #[.int .i64 xk, .string ap, .slice xa ats.length xc, .int .i64 aoff, .int .i64 xop, .int .i64 xl.k, .int .i64 xl.n, .string xl.s, .int .i64 xl.off, .int .i64 xr.k, .int .i64 xr.n, .string xr.s, .int .i64 xr.off, .int .i64 xoff] 72)) elLix rfl _ _ 36 rfl w.heap.size 72 i0 _ 152 Tryz.underlying36 hi0 hz0 hz1 hz2 rfl (by decide) _ ls ls.length rfl rfl HC4.out.gr ⟨xk, ⟨ap, .slice xa ats.length xc, aoff, ats⟩, xop, xl, xr, xoff⟩ w3.heap.size 1 rfl (fun j u hu => new_cells (cs := #[.int .i64 xk, .string ap, .slice xa ats.length xc, .int .i64 aoff, .int .i64 xop, .int .i64 xl.k, .int .i64 xl.n, .string xl.s, .int .i64 xl.off, .int .i64 xr.k, .int .i64 xr.n, .string xr.s, .int .i64 xr.off, .int .i64 xoff]) j u hu) HOk4.out (by omega) (Below.refl _ _) HC4.out.hi ?_; intro g cap' w5 HG5 HB5 HGr; clear HB5 hi0 hz0 hz1 hz2; have HC5 := hide (HC4.out.grown HGr.out HG5.out); clear HG5 HGr HC4 HOk4)
                | (go_at_call 36; refine (HU.out _ _ rfl HC5.out.ah).mono ?_; rintro e w6 ⟨rfl, ha6, ho6⟩; have HC6 := hide (HC5.out.move ho6 ha6); clear ha6 ho6))
              exact PG.out _ _ _ _ _ HX.out (by rw [List.map_append, List.map_singleton, HPu.out]) (by simp; omega) HC6.out.gr HC6.out.ah HC6.out.end_
            · have e8 : (s.k == 8) = false := by simpa using h8
              have HX : Hid (bodyF c f n (ls.map Lix.pur ++ [x]) r3 = res) := by show _ = _; rw [← HRes.out]; exact (body_more hT (by rw [List.length_map]; exact h16) hrl hU0 h8).symm
              clear hT hrl hU0 h16 h8
              have HLn : Hid (r3.length < R1.length ∧ r3.length < n) := ⟨by omega, by omega⟩
              obtain ⟨ix, isz⟩ := HC.out.ah.index
              have HIx := hide (And.intro ix isz)
              clear l1 l2 l3 ix isz
              go_wp2_with (first
                | (go_at_call 36; refine (HT.out _ _ rfl HC.out.ah).mono ?_; rintro e w1 ⟨rfl, ha1, ho1⟩; have HC1 := hide ((HC.out.move ho1 ha1).below (belowA w1 (.cells #[.int .i64 t.k, .string t.t, .int .i64 t.n, .int .i64 t.op, .int .i64 (t.off : Int), .int .i64 (t.en : Int)] 85))); clear ha1 ho1 HT)
                | (go_at_call 44; refine (HLm.out _).mono ?_; rintro e w2 ⟨⟨v2, rfl⟩, hw⟩; have hw := hw.symm; subst hw)
                | (go_at_call 64; refine (HLi.out _ HC1.out.ah).mono ?_; intro e w3 hq; obtain ⟨⟨xk, ⟨ap, av, aoff, ats⟩, xop, xl, xr, xoff⟩, rfl, hpur, hok, ha3, ho3⟩ := litPost_ok hq; clear hq; obtain ⟨xa, xc, rfl, -⟩ := (show Lst elTrm _ _ av ats from hok.2.1.2.2).shape; have HPu := hide hpur; have HOk := hide (HC1.out.gr.behind HC1.out.hi elLix hok); have HC3 := hide (HC1.out.move ho3 ha3); have HC4 := hide (HC3.out.below (belowA w3 (.cells #[.int .i64 xk, .string ap, .slice xa ats.length xc, .int .i64 aoff, .int .i64 xop, .int .i64 xl.k, .int .i64 xl.n, .string xl.s, .int .i64 xl.off, .int .i64 xr.k, .int .i64 xr.n, .string xr.s, .int .i64 xr.off, .int .i64 xoff] 72))); have HOk4 := hide (elLix.move HOk.out fun b hlt hF => ⟨hF, (belowA w3 (.cells #[.int .i64 xk, .string ap, .slice xa ats.length xc, .int .i64 aoff, .int .i64 xop, .int .i64 xl.k, .int .i64 xl.n, .string xl.s, .int .i64 xl.off, .int .i64 xr.k, .int .i64 xr.n, .string xr.s, .int .i64 xr.off, .int .i64 xoff] 72)).block b hlt⟩); clear hpur hok ha3 ho3 HOk HLi; unfold Lix.val)
                | (at_builtin; obtain ⟨i0, hi0, hz0, hz1, hz2⟩ := info_parts Tryz.infoLit; refine wpList_push (w0 := w3.alloc (.cells #[.int .i64 xk, .string ap, .slice xa ats.length xc, .int .i64 aoff, .int .i64 xop, .int .i64 xl.k, .int .i64 xl.n, .string xl.s, .int .i64 xl.off, .int .i64 xr.k, .int .i64 xr.n, .string xr.s, .int .i64 xr.off, .int .i64 xoff] 72)) elLix rfl _ _ 36 rfl w.heap.size 72 i0 _ 152 Tryz.underlying36 hi0 hz0 hz1 hz2 rfl (by decide) _ ls ls.length rfl rfl HC4.out.gr ⟨xk, ⟨ap, .slice xa ats.length xc, aoff, ats⟩, xop, xl, xr, xoff⟩ w3.heap.size 1 rfl (fun j u hu => new_cells (cs := #[.int .i64 xk, .string ap, .slice xa ats.length xc, .int .i64 aoff, .int .i64 xop, .int .i64 xl.k, .int .i64 xl.n, .string xl.s, .int .i64 xl.off, .int .i64 xr.k, .int .i64 xr.n, .string xr.s, .int .i64 xr.off, .int .i64 xoff]) j u hu) HOk4.out (by omega) (Below.refl _ _) HC4.out.hi ?_; intro g cap' w5 HG5 HB5 HGr; clear HB5 hi0 hz0 hz1 hz2; have HC5 := hide (HC4.out.grown HGr.out HG5.out); clear HG5 HGr HC4 HOk4)
                | (go_at_call 36; refine (HU.out _ _ rfl HC5.out.ah).mono ?_; rintro e w6 ⟨rfl, ha6, ho6⟩; have HC6 := hide (HC5.out.move ho6 ha6); clear ha6 ho6))
              go_roundw
              case rel => exact ⟨n, ls ++ [⟨xk, ⟨ap, .slice xa ats.length xc, aoff, ats⟩, xop, xl, xr, xoff⟩], r3, by simp; omega, HLn.out.2, HC6, by show _ = _; rw [List.map_append, List.map_singleton, HPu.out]; exact HX.out⟩
              case measure =>
                obtain ⟨jx, -⟩ := HC6.out.ah.index
                have h1 := HLn.out
                have h2 := HIx.out
                omega
end Go.Proofs.YtmdhjggijlhhgaaGreatDoor

namespace Go.Proofs.YtmdhjggijlhhgaaGreatDoor
set_option linter.unusedSimpArgs false
set_option linter.unusedVariables false
open Go.RowKit

theorem cutL_sum (k : Int) : ∀ (L : List Tok) (d : Int) (now : List Tok) (out : List (List Tok)) (M : Nat), (∀ x ∈ out, x.length ≤ M) → now.length + L.length ≤ M → ∀ x ∈ cutF k d now out L, x.length ≤ M
  | [], d, now, out, M, h1, h2, x, hx => by
    simp only [cutF, List.mem_append, List.mem_singleton] at hx
    rcases hx with hx | rfl
    · exact h1 x hx
    · simpa using h2
  | t :: r, d, now, out, M, h1, h2, x, hx => by
    simp only [List.length_cons] at h2
    unfold cutF at hx
    split at hx
    · refine cutL_sum k r _ _ _ M (fun y hy => ?_) (by simp; omega) x hx
      rcases List.mem_append.1 hy with hy | hy
      · exact h1 y hy
      · simp only [List.mem_singleton] at hy; subst hy; omega
    · exact cutL_sum k r _ _ _ M h1 (by simp; omega) x hx
theorem take_map_snoc {α β : Type} {f : α → β} {l : List α} {k : Nat} {x : α} (h : l[k]? = some x) : (l.take (k + 1)).map f = (l.take k).map f ++ [f x] := by
  rw [List.take_add_one, h, List.map_append]; rfl
theorem lix_val (a : Lix) : (elLix.cells a).toArray = #[.int .i64 a.k, .string a.a.p, a.a.v, .int .i64 a.a.off, .int .i64 a.op, .int .i64 a.l.k, .int .i64 a.l.n, .string a.l.s, .int .i64 a.l.off, .int .i64 a.r.k, .int .i64 a.r.n, .string a.r.s, .int .i64 a.r.off, .int .i64 a.off] := rfl

set_option maxRecDepth 100000 in
set_option maxHeartbeats 4000000 in
theorem rbody_any {w : World} {v : Value} {P : List Tok} (h : Has elTok w v P) (hL : P.length ≤ 100000) (hP : BodyOk P) :
    Calls Tryz.prog 29 #[v] w fun e w' => ∃ bv, e = .returned bv ∧ ∃ ls, ls.map Lix.pur = bodyR P ∧ Lst elLix w' (fun b => w.heap.size ≤ b) bv ls ∧ Below w.heap.size w w' := by
  have HC := hide (cut_any 7 h hL)
  have HX : Hid (∀ ps : List (Value × List Tok), ps.map Prod.snd = cutF 7 0 [] [] P → ps.length ≤ 100001 ∧ (∀ p ∈ ps, p.2.length ≤ 100000 ∧ LitOk p.2) ∧ bodyR P = ps.map (fun p => litR p.2)) := fun ps hp => by
    have h2 := cut_len 7 P 0 [] []
    have h3 := congrArg List.length hp
    rw [List.length_map] at h3
    simp only [List.length_nil] at h2
    have hm : ∀ p ∈ ps, p.2 ∈ cutF 7 0 [] [] P := fun p hpm => by rw [← hp]; exact List.mem_map_of_mem hpm
    refine ⟨by omega, fun p hpm => ⟨cutL_sum 7 P 0 [] [] 100000 (by simp) (by simpa using hL) _ (hm p hpm), hP _ (hm p hpm)⟩, ?_⟩
    unfold bodyR
    rw [← hp, List.map_map]; rfl
  obtain ⟨la, lc, rfl, -⟩ := h.shape
  clear h hL hP
  go_enter Tryz.func29, Tryz.ntmps29
  go_wp2_with (go_at_call 32; refine HC.out.mono ?_; intro e w1 hq; obtain ⟨tv, rfl, ps, hg, hp, hb⟩ := hq; obtain ⟨x1, x2, x3⟩ := HX.out ps hp; have hl := hg.new (by omega); obtain ⟨ta, tc, rfl, -⟩ := hl.shape; have HG := hide hl; have HP := hide x3; have HO := hide x2; have HB := hide hb; clear hg hp hb x3 x2 hl)
  obtain ⟨m, hm⟩ : ∃ m, m = ps.length := ⟨_, rfl⟩
  rw [← hm] at x1 HG
  try rw [← hm]
  have HM := hide hm
  clear hm HX HC
  go_loopw [3, 9] (fun ov i wl => ∃ (j : Nat) (ls : List Lix), j ≤ m ∧ i = .int .i64 j ∧ ls.length = j ∧ Hid (ls.map Lix.pur = (ps.take j).map (fun p => litR p.2)) ∧ Hid (Below w1.heap.size w1 wl) ∧ Hid (Grow elLix 72 w1.heap.size wl ov ls)) (fun _ i _ => m - (intOf i).toNat)
  case atStart => exact ⟨0, [], by omega, rfl, rfl, rfl, Below.refl _ _, Grow.nil _ _ _ _⟩
  case round =>
    obtain ⟨j, ls, hj, rfl, hls, HLs, HBl, HGl⟩ := hrel
    obtain ⟨oa, oc, rfl, -⟩ := HGl.out.shape
    rw [hls]
    rw [hls] at HGl
    have HLn := hide hls
    clear hls
    by_cases hlt : j < m
    · have hi : (j : Int) < (m : Int) := by omega
      have hi0 : (0 : Int) ≤ (j : Int) := by omega
      obtain ⟨p, hp⟩ : ∃ p, ps[j]? = some p := ⟨_, List.getElem?_eq_getElem (by rw [← HM.out]; exact hlt)⟩
      obtain ⟨pl, po⟩ := HO.out p (List.mem_of_getElem? hp)
      have hpk := HG.out.ok (List.mem_of_getElem? hp)
      obtain ⟨b3, o3, rfl, -, -, hr3⟩ := HG.out.row (by rw [← HM.out]; omega)
      have y0 := kept_cell HBl.out (hr3 j _ hp 0 _ rfl)
      obtain ⟨pv, pt⟩ := p
      have HLi := hide (rlit_any ((show Lst elTok w1 _ pv pt from hpk).all.kept HBl.out) pl po)
      have HSn : Hid ((ps.take (j + 1)).map (fun p => litR p.2) = (ps.take j).map (fun p => litR p.2) ++ [litR pt]) := take_map_snoc (f := fun p : Value × List Tok => litR p.2) hp
      obtain ⟨pa, pc, rfl, -⟩ := (show Lst elTok w1 _ pv pt from hpk).shape
      simp only [elTL, Nat.add_zero, Nat.mul_one] at y0
      clear hr3 hp hpk pl po
      have hjm : j + 1 < 1073741824 := by omega
      go_wp2_with (first
        | (go_at_call 47; refine HLi.out.mono ?_; intro e w2 hq; obtain ⟨⟨lk, ⟨ap, av, aoff, ats⟩, lop, ll, lr, loff⟩, rfl, hpur, hok, hb2⟩ := hq; obtain ⟨xa, xc, rfl, -⟩ := (show Lst elTrm _ _ av ats from hok.2.1.2.2).shape; have HPu := hide hpur; have HG2 := hide ((HGl.out.kept hb2).kept (belowA w2 (.cells #[.int .i64 lk, .string ap, .slice xa ats.length xc, .int .i64 aoff, .int .i64 lop, .int .i64 ll.k, .int .i64 ll.n, .string ll.s, .int .i64 ll.off, .int .i64 lr.k, .int .i64 lr.n, .string lr.s, .int .i64 lr.off, .int .i64 loff] 72))); have HEl := hide (HGl.out.behind HBl.out.size elLix (elLix.move hok fun b hlt hF => ⟨hF, (belowA w2 (.cells #[.int .i64 lk, .string ap, .slice xa ats.length xc, .int .i64 aoff, .int .i64 lop, .int .i64 ll.k, .int .i64 ll.n, .string ll.s, .int .i64 ll.off, .int .i64 lr.k, .int .i64 lr.n, .string lr.s, .int .i64 lr.off, .int .i64 loff] 72)).block b hlt⟩)); have HW2 := hide (belowt2 (belowt2 HBl.out hb2) (belowA w2 (.cells #[.int .i64 lk, .string ap, .slice xa ats.length xc, .int .i64 aoff, .int .i64 lop, .int .i64 ll.k, .int .i64 ll.n, .string ll.s, .int .i64 ll.off, .int .i64 lr.k, .int .i64 lr.n, .string lr.s, .int .i64 lr.off, .int .i64 loff] 72))); unfold Lix.val; clear hpur hok hb2)
        | (at_builtin; obtain ⟨i0, hi0', hz0, hz1, hz2⟩ := info_parts Tryz.infoLit; refine wpList_push (w0 := w1) elLix rfl _ _ 36 rfl w1.heap.size 72 i0 _ 152 Tryz.underlying36 hi0' hz0 hz1 hz2 rfl (by decide) _ ls j HLn.out rfl HG2.out ⟨lk, ⟨ap, .slice xa ats.length xc, aoff, ats⟩, lop, ll, lr, loff⟩ w2.heap.size 1 rfl (fun j u hu => new_cells (w := w2) (cs := (elLix.cells ⟨lk, ⟨ap, .slice xa ats.length xc, aoff, ats⟩, lop, ll, lr, loff⟩).toArray) (t := 72) j u hu) HEl.out hjm HW2.out HW2.out.size ?_; intro g7 c7 W7 HG7 HB7 HGr7; clear HG2 HEl HW2 HGr7 hi0' hz0 hz1 hz2))
      go_roundw
      case rel => exact ⟨j + 1, ls ++ [⟨lk, ⟨ap, .slice xa ats.length xc, aoff, ats⟩, lop, ll, lr, loff⟩], by omega, by go_num, by rw [List.length_append, HLn.out]; rfl, by show _ = _; rw [List.map_append, HSn.out, HLs.out, List.map_singleton, HPu.out], HB7, HG7⟩
      case measure => simp [intOf]; omega
    · obtain rfl : j = m := by omega
      have hi : ¬ (j : Int) < (j : Int) := by omega
      go_wp2
      go_ret
      refine ⟨_, rfl, ls, ?_, (HGl.out.new (by rw [HLn.out]; omega)).move fun b hb hF => ⟨Nat.le_trans HB.out.size hF, rfl⟩, belowt2 HB.out HBl.out⟩
      rw [HLs.out, HP.out, List.take_of_length_le (by rw [← HM.out]; omega)]
end Go.Proofs.YtmdhjggijlhhgaaGreatDoor

namespace Go.Proofs.YtmdhjggijlhhgaaGreatDoor
set_option linter.unusedSimpArgs false
set_option linter.unusedVariables false
open Go.RowKit

theorem chk_ne {ec eo f : Int} : ∀ (L : List Tok) (s : Int) (c : Cnt) (x o : Int), chkR ec eo f s c L = .bad x o → x ≠ 0
  | [], s, c, x, o, h => by
    unfold chkR at h
    split at h
    · cases h
    · rename_i he; cases h; exact he
  | t :: r, s, c, x, o, h => by
    unfold chkR at h
    split at h
    · cases h; unfold misK; split <;> decide
    · split at h
      · rename_i _ he; cases h; exact he
      · exact chk_ne r _ _ x o h
/-- A box of a fault, not yet written, and nothing else changed. -/
structure FB (w W : World) (b : Nat) : Prop where
  hb : Below w.heap.size w W
  bx : W.heap[b]? = some (.cells #[.int .i64 0, .int .i64 0, .int .i64 0] 27 (0, 0))
  ge : w.heap.size ≤ b
theorem FB.kept {w W W' : World} {b : Nat} (h : FB w W b) (hb : Below W.heap.size W W') : FB w W' b :=
  ⟨belowt2 h.hb hb, by rw [hb.block _ (Array.getElem?_eq_some_iff.1 h.bx).1]; exact h.bx, h.ge⟩
theorem FB.drew {w W : World} {b : Nat} (h : FB w W b) : FB w W.drew b := h.kept (Below.refl _ _).drew
theorem FB.start (w : World) : FB w (w.alloc (.cells #[.int .i64 0, .int .i64 0, .int .i64 0] 27)) w.heap.size := ⟨belowA w _, heap_alloc_new w _, Nat.le_refl _⟩
theorem FB.fin {w W : World} {b : Nat} (h : FB w W b) (x y o : Int) :
    (((W.setCell ⟨b, 0, none⟩ (.int .i64 x)).setCell ⟨b, 1, none⟩ (.int .i64 y)).setCell ⟨b, 2, none⟩ (.int .i64 o)).heap[b]? = some (.cells #[.int .i64 x, .int .i64 y, .int .i64 o] 27 (0, 0)) ∧ Below w.heap.size w (((W.setCell ⟨b, 0, none⟩ (.int .i64 x)).setCell ⟨b, 1, none⟩ (.int .i64 y)).setCell ⟨b, 2, none⟩ (.int .i64 o)) ∧ Only (fun k => k = b) W (((W.setCell ⟨b, 0, none⟩ (.int .i64 x)).setCell ⟨b, 1, none⟩ (.int .i64 y)).setCell ⟨b, 2, none⟩ (.int .i64 o)) := by
  have ho := only_three (w1 := W) b (.int .i64 x) (.int .i64 y) (.int .i64 o)
  have := h.ge
  exact ⟨by simp [World.setCell, Array.getElem?_modify, h.bx], h.hb.trans (ho.below h.hb.size (fun k hk e => by omega)), ho⟩
theorem rqRes (W : World) (b : Nat) (v u0 u1 u2 : Value) (tmps : Array Value) (h2 : tmps[2]? = some v) (h3 : tmps[3]? = some (.pointer (some ⟨b, 0, none⟩))) (hb : W.heap[b]? = some (.cells #[u0, u1, u2] 27 (0, 0))) :
    (results Tryz.f14 tmps).run Tryz.prog W = .ok (.tuple #[v, .agg #[u0, u1, u2]]) W := by
  obtain ⟨⟨c0, c1, c2⟩, -⟩ := chk3_cells hb
  simp [results, Tryz.results14, go_sem, h2, h3, c0, c1, c2]

set_option maxRecDepth 100000 in
set_option maxHeartbeats 4000000 in
theorem rquery_bad (s : ByteArray) (w : World) (hs : s.size ≤ 140737488351232) {x o : Int} (hC : chkR (scanX s).2.1 ((scanX s).2.2 : Int) 5 5 ⟨0, 0, 0⟩ (scanX s).1 = .bad x o) :
    Calls Tryz.prog 14 #[.string s] w fun e w' => e = .returned (.tuple #[.slice none 0 0, faultV x o]) ∧ Below w.heap.size w w' := by
  have h0 := fun W => check_any s 5 W hs
  simp only [hC] at h0
  have HC := hide h0
  have hx : (x != 0) = true := by simpa using chk_ne _ _ _ _ _ hC
  clear hC h0 hs
  go_enter Tryz.func14, Tryz.ntmps14
  go_upto_region 2 with (go_at_call 21; refine (HC.out _).mono ?_; intro e w1 hq; obtain ⟨rfl, hb1⟩ := chkPost_bad hq; have HF1 := hide ((FB.start w).kept hb1); clear hq hb1)
  obtain ⟨Y, hY⟩ : ∃ Y, Y = w1.alloc (.cells #[.int .i64 x, .int .i64 0, .int .i64 o] 27) := ⟨_, rfl⟩
  have HFY : Hid (FB w Y w.heap.size) := by rw [hY]; exact HF1.out.kept (belowA _ _)
  have hG : Y.heap[w1.heap.size]? = some (.cells #[.int .i64 x, .int .i64 0, .int .i64 o] 27 (0, 0)) := by rw [hY]; exact heap_alloc_new w1 _
  obtain ⟨⟨q0, q1, q2⟩, -⟩ := chk3_cells hG
  obtain ⟨⟨p0, p1, p2⟩, f0, f1, f2⟩ := chk3_cells HFY.out.bx
  have n1 : ¬ w.heap.size = w1.heap.size := by have := (Array.getElem?_eq_some_iff.1 HF1.out.bx).1; omega
  rw [← hY]
  clear hY hG HF1
  go_wp2
  go_region
  go_wp2
  exact bodyPost_ret (rqRes _ w.heap.size (.slice none 0 0) (.int .i64 x) (.int .i64 0) (.int .i64 o) _ rfl rfl (HFY.out.fin x 0 o).1) rfl ⟨rfl, (HFY.out.fin x 0 o).2.1.drew⟩

set_option maxRecDepth 100000 in
set_option maxHeartbeats 4000000 in
theorem rquery_ok (s : ByteArray) (w : World) (hs : s.size ≤ 140737488351232) {u : Unit} {r : List Tok} (hC : chkR (scanX s).2.1 ((scanX s).2.2 : Int) 5 5 ⟨0, 0, 0⟩ (scanX s).1 = .ok u r) {P last : List Tok} (hcut : cutF 8 0 [] [] (scanX s).1 = [P, last]) (hB : BodyOk P) :
    Calls Tryz.prog 14 #[.string s] w fun e w' => ∃ bv, e = .returned (.tuple #[bv, faultV 0 0]) ∧ ∃ ls, ls.map Lix.pur = bodyR P ∧ Lst elLix w' (fun b => w.heap.size ≤ b) bv ls ∧ Below w.heap.size w w' := by
  have h0 := fun W => check_any s 5 W hs
  simp only [hC] at h0
  have HC := hide h0
  obtain ⟨-, hlen⟩ := scan_good s
  have hPl : P.length ≤ 65538 := by
    have := cutL_sum 8 (scanX s).1 0 [] [] 65538 (by simp) (by simpa using hlen) P (by rw [hcut]; simp)
    exact this
  generalize (scanX s).1 = L at *
  have HX : Hid (∀ ps : List (Value × List Tok), ps.map Prod.snd = (cutF 8 0 [] [] L).dropLast → ∃ pv, ps = [(pv, P)]) := fun ps hp => by
    rw [hcut] at hp
    match ps, hp with
    | [(a, b)], hp => simp at hp; exact ⟨a, by rw [hp]⟩
    | [], hp => simp at hp
    | _ :: _ :: _, hp => simp at hp
  have HPB := hide hB
  clear hC h0 hs hcut hB
  go_enter Tryz.func14, Tryz.ntmps14
  go_upto_region 2 with (go_at_call 21; refine (HC.out _).mono ?_; intro e w1 hq; obtain ⟨v, rfl, hls, hb1⟩ := chkPost_ok hq; have HF1 := hide ((FB.start w).kept hb1); obtain ⟨va, vc, rfl, -⟩ := hls.shape; have HL1 := hide hls.all; clear hq hb1 hls)
  obtain ⟨Y, hY⟩ : ∃ Y, Y = w1.alloc (.cells #[.int .i64 0, .int .i64 0, .int .i64 0] 27) := ⟨_, rfl⟩
  have HFY : Hid (FB w Y w.heap.size) := by rw [hY]; exact HF1.out.kept (belowA _ _)
  have HLY : Hid (Has elTok Y (.slice va L.length vc) L) := by rw [hY]; exact HL1.out.kept (belowA _ _)
  have hG : Y.heap[w1.heap.size]? = some (.cells #[.int .i64 0, .int .i64 0, .int .i64 0] 27 (0, 0)) := by rw [hY]; exact heap_alloc_new w1 _
  obtain ⟨⟨q0, q1, q2⟩, -⟩ := chk3_cells hG
  have HSn := hide (sentences_any HLY.out (by omega))
  rw [← hY]
  clear hY hG HF1 HL1 HC
  go_wp2_with (first
    | (go_at_call 25; refine HSn.out.mono ?_; intro e w2 hq; obtain ⟨tv, rfl, ps, hl, hp, hb⟩ := hq; obtain ⟨pv, rfl⟩ := HX.out ps hp; obtain ⟨ta, tc, rfl, -⟩ := hl.shape; obtain ⟨b3, o3, rfl, -, -, hr3⟩ := hl.row (by simp); have y0 := hr3 0 _ rfl 0 _ rfl; have hpk := hl.ok (x := (pv, P)) (by simp); have HBd := hide (rbody_any (show Lst elTok w2 _ pv P from hpk).all (by omega) HPB.out); obtain ⟨pa, pc, rfl, -⟩ := (show Lst elTok w2 _ pv P from hpk).shape; simp only [elTL, Nat.add_zero, Nat.zero_mul, List.length_singleton] at y0; have HF2 := hide (HFY.out.kept hb); clear hr3 hp hpk hb hl; simp only [List.length_singleton])
    | (go_at_call 29; refine HBd.out.mono ?_; intro e w3 hq; obtain ⟨bv, rfl, ls, hpur, hls, hb⟩ := hq; obtain ⟨ba, bc, rfl, -⟩ := hls.shape; have HF3 := hide (HF2.out.kept hb); have HLs := hide hls; have HPu := hide hpur; have HSz := hide (show w.heap.size + 1 ≤ w2.heap.size from (Array.getElem?_eq_some_iff.1 HF2.out.bx).1); obtain ⟨⟨p0, p1, p2⟩, f0, f1, f2⟩ := chk3_cells HF3.out.bx; clear hpur hls hb))
  refine bodyPost_ret (rqRes _ w.heap.size (.slice ba ls.length bc) (.int .i64 0) (.int .i64 0) (.int .i64 0) _ rfl rfl (HF3.out.fin 0 0 0).1) rfl ⟨_, rfl, ls, HPu.out, HLs.out.move fun b hb hF => ⟨by have := HSz.out; have h9 : w2.heap.size ≤ b := hF; omega, (HF3.out.fin 0 0 0).2.2.block b hb (by have := HSz.out; have h9 : w2.heap.size ≤ b := hF; omega)⟩, (HF3.out.fin 0 0 0).2.1⟩
end Go.Proofs.YtmdhjggijlhhgaaGreatDoor

namespace Go.Proofs.YtmdhjggijlhhgaaGreatDoor
set_option linter.unusedSimpArgs false
set_option linter.unusedVariables false
open Go.RowKit

theorem faultSame (x o : Int) (w : World) : (binOp .eql 27 (.agg #[.int .i64 x, .int .i64 0, .int .i64 o]) (.agg #[.int .i64 x, .int .i64 0, .int .i64 o])).run Tryz.prog w = .ok (.bool true) w := by
  have h1 := run_equalIn_struct (P := Tryz.prog) w 9999 27 #[.int .i64 x, .int .i64 0, .int .i64 o] #[.int .i64 x, .int .i64 0, .int .i64 o] (by kernel_rfl) (by kernel_rfl)
  simp only [binOp]
  simp only [Op.equal, Op.maxDepth, Sem.run_bind]
  go_simp
theorem nb_first (w : World) (x y : Obj) : ((w.alloc x).alloc y).heap[w.heap.size]? = some x := by
  rw [(belowA (w.alloc x) y).block _ (by simp)]; exact heap_alloc_new w _
theorem nb_second (w : World) (x y : Obj) : ((w.alloc x).alloc y).heap[w.heap.size + 1]? = some y := by
  have := heap_alloc_new (w.alloc x) y
  simpa using this
theorem box_kept9 {W W' : World} {b : Nat} {x : Obj} (h : W.heap[b]? = some x) (hb : Below W.heap.size W W') : W'.heap[b]? = some x := by
  rw [hb.block _ (Array.getElem?_eq_some_iff.1 h).1]; exact h
end Go.Proofs.YtmdhjggijlhhgaaGreatDoor
