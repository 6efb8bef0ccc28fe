/- parse's reader takes a literal: an atom, or a test. -/
import Derived.Test.YtilckhdaijfddaaDoorProg
import Derived.Test.YtilckhdaijfddaaDoorParseLiteral
namespace Go.Proofs.YtilckhdaijfddaaDoor
set_option linter.unusedSimpArgs false
set_option linter.unusedVariables false
open Go.RowKit

set_option maxHeartbeats 4000000 in
set_option maxRecDepth 100000 in
theorem lit_none {w : World} {p : Nat} {ao : Option Addr} {cap : Nat} {L : List Tok} {c f : Int} (first : Tok) (h : Ahead w p ao cap L c f []) (hname : first.good) (h1 : first.k = 1) :
    Calls Tryd.prog 58 #[.pointer (some ⟨p, 0, none⟩), tokV first] w (LitPost w p ao cap L c f (litP c f first [])) := by
  have e10 : (first.k == 10) = false := by simp; omega
  have e1 : (first.k == 1) = true := by simpa using h1
  have HE : litP c f first [] = .bad c f := by unfold litP; rw [if_neg (by omega)]; simp only; rw [if_pos h1]
  rw [HE]
  have HL := hide (fun W (hb : Below w.heap.size w W) => look_none (h.kept hb))
  have H0 := hide h
  have hp := h.lt
  have HB := hide (TwoBox.start (w := w) hp (.cells #[.int .i64 first.k, .string first.t, .int .i64 first.n, .int .i64 first.op, .int .i64 (first.off : Int), .int .i64 (first.en : Int)] 108) (.cells #[.int .i64 0, .string ⟨#[]⟩, .slice none 0 0, .int .i64 0, .int .i64 0, .int .i64 0, .int .i64 0, .string ⟨#[]⟩, .int .i64 0, .int .i64 0, .int .i64 0, .string ⟨#[]⟩, .int .i64 0, .int .i64 0] 86))
  unfold tokV
  clear HE h1 h
  unfold LitPost
  go_enter Tryd.func58, Tryd.ntmps58
  go_wp2_with (go_at_call 53; refine (HL.out _ (below2a _ _ _)).mono ?_; rintro e w1 ⟨rfl, hb1⟩)
  exact ⟨rfl, rfl, only_drop (HB.out.below hb1).on⟩

set_option maxHeartbeats 4000000 in
set_option maxRecDepth 100000 in
theorem lit_pos {w : World} {p : Nat} {ao : Option Addr} {cap : Nat} {L : List Tok} {c f : Int} {t : Tok} {R : List Tok} (first : Tok) (h : Ahead w p ao cap L c f (t :: R)) (hname : first.good) (h1 : first.k = 1) (h11 : t.k ≠ 11) :
    Calls Tryd.prog 58 #[.pointer (some ⟨p, 0, none⟩), tokV first] w (LitPost w p ao cap L c f (litP c f first (t :: R))) := by
  have e10 : (first.k == 10) = false := by simp; omega
  have e1 : (first.k == 1) = true := by simpa using h1
  have e11 : (t.k != 11) = true := by simpa using h11
  have HE : litP c f first (t :: R) = (match atomP c f termKs first (t :: R) with | .bad c o => .bad c o | .ok a r' => .ok ⟨1, a, 0, zeroTrm, zeroTrm, first.off⟩ r') := by unfold litP; rw [if_neg (by omega)]; simp only; rw [if_pos h1, if_neg h11]; rfl
  rw [HE]
  have HL := hide (fun W (hb : Below w.heap.size w W) => look_good (h.kept hb))
  have hfd := tok_kind (.int .i64 t.k) (.string t.t) (.int .i64 t.n) (.int .i64 t.op) (.int .i64 (t.off : Int)) (.int .i64 (t.en : Int))
  have H0 := hide h
  have hp := h.lt
  have HB := hide (TwoBox.start (w := w) hp (.cells #[.int .i64 first.k, .string first.t, .int .i64 first.n, .int .i64 first.op, .int .i64 (first.off : Int), .int .i64 (first.en : Int)] 108) (.cells #[.int .i64 0, .string ⟨#[]⟩, .slice none 0 0, .int .i64 0, .int .i64 0, .int .i64 0, .int .i64 0, .string ⟨#[]⟩, .int .i64 0, .int .i64 0, .int .i64 0, .string ⟨#[]⟩, .int .i64 0, .int .i64 0] 86))
  obtain ⟨res, hres⟩ : ∃ res, atomP c f termKs first (t :: R) = res := ⟨_, rfl⟩
  have HAt := hide (fun (W : World) (ha : Ahead W p ao cap L c f (t :: R)) => atom_any first ha hname)
  rw [hres] at HAt ⊢
  unfold tokV at HL HAt ⊢
  clear HE h1 h11 h hres
  cases res with
  | bad ec eo =>
    simp only []
    unfold LitPost
    go_enter Tryd.func58, Tryd.ntmps58
    go_wp2_with (first | (go_at_call 53; refine (HL.out _ (below2a _ _ _)).mono ?_; rintro e w1 ⟨rfl, hb1⟩; have HA1 := hide ((H0.out.kept (below2a _ _ _)).kept hb1); have HB1 := hide (HB.out.below hb1); clear hb1; obtain ⟨x0, x1, x2, x3, x4, x5⟩ := tok_cells HB1.out.b0))
    go_region_with (first
      | (go_at_call 57; refine (HAt.out _ (by first | exact HA1.out.drew | exact HA1.out)).mono ?_; intro e w2 hq; obtain ⟨rfl, ho2⟩ := atmPost_bad hq; clear hq; refine panic_ends (P := Tryd.prog) (w := w2) ⟨rfl, rfl, by first | exact only_drop (HB1.out.drew.move ho2).on | exact only_drop (HB1.out.move ho2).on⟩ ?_))
    all_goals trivial
  | ok a r2 =>
    simp only []
    unfold LitPost
    go_enter Tryd.func58, Tryd.ntmps58
    go_wp2_with (first | (go_at_call 53; refine (HL.out _ (below2a _ _ _)).mono ?_; rintro e w1 ⟨rfl, hb1⟩; have HA1 := hide ((H0.out.kept (below2a _ _ _)).kept hb1); have HB1 := hide (HB.out.below hb1); clear hb1; obtain ⟨x0, x1, x2, x3, x4, x5⟩ := tok_cells HB1.out.b0))
    go_region_held3 (fun w' => w'.cell? ⟨w.heap.size, 0, none⟩ = some (.int .i64 first.k) ∧ w'.cell? ⟨w.heap.size, 1, none⟩ = some (.string first.t) ∧ w'.cell? ⟨w.heap.size, 2, none⟩ = some (.int .i64 first.n) ∧ w'.cell? ⟨w.heap.size, 3, none⟩ = some (.int .i64 first.op) ∧ w'.cell? ⟨w.heap.size, 4, none⟩ = some (.int .i64 (first.off : Int)) ∧ w'.cell? ⟨w.heap.size, 5, none⟩ = some (.int .i64 (first.en : Int)))
      (first | (with_reducible exact z6) | (go_keep; done))
      (first
        | (go_at_call 57; refine (HAt.out _ (by first | exact HA1.out.drew | exact HA1.out)).mono ?_; intro e w2 hq; obtain ⟨⟨ap, av, aoff, ats⟩, rfl, hpur, hok, ha2, ho2⟩ := atmPost_ok hq; clear hq; obtain ⟨va, vc, rfl, -⟩ := (show Lst elTrm _ _ av ats from hok.2.2).shape; have HA2 := hide ha2; have HB2 := hide (HB1.out.drew.move ho2); have HPu := hide hpur; have HOk := hide hok; clear ha2 ho2 hpur hok; have z6 := tok_cells HB2.out.b0; obtain ⟨⟨k0, k1, k2, k3, k4, k5, k6, k7, k8, k9, k10, k11, k12, k13⟩, ⟨l0, l1, l2, l3, l4, l5, l6, l7, l8, l9, l10, l11, l12, l13⟩⟩ := boxL_cells HB2.out.b1; unfold Atx.val))
    go_wp2
    refine bodyPost_ret (litRes _ (w.heap.size + 1) _ _ _ _ _ _ _ _ _ _ _ _ _ _ _ rfl (boxL_put HB2.out.b1 _ _ _ _ _ _ _ _ _ _ _ _ _ _)) rfl ?_
    exact lit_fin H0.out HA2.out HB2.out ⟨1, ⟨ap, _, aoff, ats⟩, 0, zeroTrm, zeroTrm, first.off⟩ _ (by unfold Lix.pur; rw [HPu.out]) ⟨i64_1, HOk.out, i64_0, zeroTrm_ok, zeroTrm_ok, (good_parts hname).2⟩ HB1.out.lt _ _ _ _ _ _ _ _ _ _ _ _ _ _
end Go.Proofs.YtilckhdaijfddaaDoor
