/- The law of the rules' edges: its walk. -/
import Derived.Test.YtfnepibafldlhaaEdgeSwap
namespace Go.Proofs.Ytfnepibafldlhaa
set_option linter.unusedSimpArgs false
set_option linter.unusedVariables false
open Go.RowKit Go.Maps

theorem belo3 (W : World) (a b c : Obj) : Below W.heap.size W (((W.alloc a).alloc b).alloc c) := ((belo1 _ _).trans ((belo1 _ _).mono (by simp))).trans ((belo1 _ _).mono (by simp; omega))
theorem own_later {e1 e2 : TypeId} {b1 b2 : Nat} {W1 W2 : World} {v1 v2 : Value} {l1 l2 : List Edg} (h1 : Grow elEdg e1 b1 W1 v1 l1) (h2 : Grow elEdg e2 b2 W2 v2 l2) (hb : W1.heap.size ≤ b2) : v1.ownBlock = none ∨ v1.ownBlock ≠ v2.ownBlock := by
  rcases Option.eq_none_or_eq_some v1.ownBlock with h3 | ⟨k, h3⟩
  · exact .inl h3
  · exact .inr fun e => by have h4 := own_lt6 h1.1 k h3; have h5 := own_new h2.1 k (by rw [← e]; exact h3); omega

set_option maxRecDepth 100000 in
set_option maxHeartbeats 4000000 in
theorem strataEdges_walk (v : Value) (l : List Rul) (w : World) (h : Has elRul w v l) (hes : l.length ≤ 1048576 ∧ (edgesP l).length ≤ 1048576) :
    Calls Try.prog 3 #[v] w fun e w' => e = .returned (.bool true) ∧ Below w.heap.size w w' := by
  obtain ⟨va, vc, rfl, -, -, hlen⟩ := h.shape
  have HL : Hid (∀ V : World, Below w.heap.size w V → Has elRul V (.slice va l.length vc) l) := fun V hV => h.kept hV
  have HQ : Hid (∀ V : World, Below w.heap.size w V → Has elRq V (.slice va l.length vc) l) := fun V hV => rqs_of (h.kept hV)
  have HQ0 := hide (HQ.out w (Below.refl _ _))
  obtain ⟨es, he⟩ : ∃ es, edgesP l = es := ⟨_, rfl⟩
  have HE := hide he
  have hel : es.length ≤ 1048576 := by rw [← he]; exact hes.2
  obtain ⟨n, hn⟩ : ∃ n, l.length = n := ⟨_, rfl⟩
  have HN := hide hn
  have hnl : n ≤ 1048576 := by rw [← hn]; exact hes.1
  rw [hn] at HL HQ HQ0 ⊢
  clear h hes he hlen hn
  go_enter Try.func3, Try.ntmps3
  go_wp2_with (first
    | (go_at_call 7; (with_reducible refine (redges8_any HQ0.out (by rw [HE.out]; exact hel)).mono ?_); rintro e W1 ⟨x1, rfl, g1, b1⟩; rw [HE.out] at g1; obtain ⟨wa, wc, rfl, -, -⟩ := g1.shape; have HW : Hid (∀ V : World, Below W1.heap.size W1 V → Has elEdg V (.slice wa es.length wc) es) := (fun V hV => (g1.list (by omega)).kept hV); have HB1 := hide b1; clear g1 b1 HQ0)
    | (go_at_call 8; (with_reducible refine (rulesOf_any (HL.out _ HB1.out)).mono ?_); rintro e W2 ⟨x2, rfl, l2, g2, ⟨hl2, he2⟩, b2⟩; rw [HN.out] at hl2; rw [HE.out] at he2; obtain ⟨ga, gc, hg2, -, -⟩ := g2.shape; rw [hl2] at hg2; subst hg2; have HL2 := hide hl2; have HE2 := hide he2; have HG2 := hide g2; have HQ2 := hide (g2.list (by omega)); have HB12 := hide b2; have HB2 := hide (HB1.out.trans (b2.mono HB1.out.size)); clear hl2 he2 g2 b2 HL)
    | (go_at_call 9; (with_reducible refine (sedges_any HQ2.out (by rw [HE2.out]; exact hel)).mono ?_); rintro e W3 ⟨x3, rfl, g3, b3⟩; rw [HE2.out] at g3; obtain ⟨fa, fc, rfl, -, -⟩ := g3.shape; have HF3 := hide g3; have HB23 := hide b3; clear g3 b3)
    | (go_at_call 9; (with_reducible refine (sedges_any (oth_at W3) (by simp [edgesP, edgesFrom, edgR, othR])).mono ?_); rintro e W4 ⟨x4, rfl, g4, b4⟩; obtain ⟨oa, oc, hg4, -, -⟩ := g4.shape; rw [show (edgesP [othR W3.heap.size]).length = 2 from rfl] at hg4; subst hg4; have HB34 : Hid (Below W3.heap.size W3 W4) := ((belo3 W3 _ _ _).trans (b4.mono (belo3 W3 _ _ _).size)); have HB24 : Hid (Below W2.heap.size W2 W4) := HB23.out.trans (HB34.out.mono HB23.out.size); have HQ4 := hide (HQ2.out.kept HB24.out); clear g4 b4 HQ2)
    | (go_at_call 9; (with_reducible refine (sedges_any HQ4.out (by rw [HE2.out]; exact hel)).mono ?_); rintro e W5 ⟨x5, rfl, g5, b5⟩; rw [HE2.out] at g5; obtain ⟨ha, hc, rfl, -, -⟩ := g5.shape; have HNe := hide (own_later HF3.out g5 HB34.out.size); have HA5 := hide (g5.mono (Nat.le_trans HB23.out.size HB34.out.size)); have HF5 := hide (HF3.out.kept (HB34.out.trans (b5.mono HB34.out.size))); have HB25 : Hid (Below W2.heap.size W2 W5) := HB24.out.trans (b5.mono HB24.out.size); have HF5l := hide (HF5.out.list (by omega)); have HW5 := hide (HW.out _ (HB12.out.trans (HB25.out.mono HB12.out.size))); clear g5 b5 HQ4 HF3 HB34 HB24 HB23)
    | (go_at_call 10; (with_reducible refine (equalEdges_any HF5l.out HW5.out).mono ?_); rintro e W6 ⟨rfl, b6⟩; have HF6 := hide (HF5.out.kept b6); have HA6 := hide (HA5.out.kept b6); have HA6l := hide (HA6.out.list (by omega)); have HW6 := hide (HW5.out.kept b6); have HB26 : Hid (Below W2.heap.size W2 W6) := HB25.out.trans (b6.mono HB25.out.size); clear b6 HF5 HA5 HF5l HW5 HB25)
    | (go_at_call 10; (with_reducible refine (equalEdges_any HA6l.out HW6.out).mono ?_); rintro e W7 ⟨rfl, b7⟩; have HF7 := hide (HF6.out.kept b7); have HA7 := hide (HA6.out.kept b7); have HB27 : Hid (Below W2.heap.size W2 W7) := HB26.out.trans (b7.mono HB26.out.size); have HG7l := hide ((HG2.out.kept HB27.out).list (by rw [HL2.out]; omega)); have HQ7 := hide (HQ.out _ (HB2.out.trans (HB27.out.mono HB2.out.size))); clear b7 HF6 HA6 HA6l HW6 HB26)
    | (go_at_call 11; (with_reducible refine (equalRules_any HG7l.out HQ7.out (by rw [HE2.out]; exact hel) (by rw [HL2.out, HN.out]) (by rw [HE2.out, HE.out])).mono ?_); rintro e W8 ⟨rfl, b8⟩; have HF8 := hide (HF7.out.kept b8); have HA8 := hide (HA7.out.kept b8); have HB28 : Hid (Below W2.heap.size W2 W8) := HB27.out.trans (b8.mono HB27.out.size); clear b8 HF7 HA7 HG7l HQ7 HB27)
    | (go_at_call 12; (with_reducible refine (aloneEdges_any HF8.out HA8.out HNe.out hel hel HB28.out.size).mono ?_); rintro e W9 ⟨rfl, b9⟩; have HB29 : Hid (Below W2.heap.size W2 W9) := HB28.out.trans b9; have HG9 := hide (HG2.out.kept HB29.out); have HB9 := hide (HB2.out.trans (HB29.out.mono HB2.out.size)); clear b9 HF8 HA8 HNe HB28 HB29 HG2 HQ HW))
  go_loopw [8] (fun y wl => ∃ (i : Nat) (m : List Rul), i ≤ n ∧ y = .int .i64 i ∧ Hid (m.length = n ∧ (edgesP m).length ≤ 1048576) ∧ Hid (Grow elRq 33 W1.heap.size wl (.slice ga n gc) m) ∧ Hid (Below w.heap.size w wl)) (fun y _ => n - (intOf y).toNat)
  case atStart => exact ⟨0, l2, by omega, rfl, ⟨HL2.out, by rw [HE2.out]; exact hel⟩, HG9, HB9⟩
  case round =>
    clear HG9 HB9
    obtain ⟨i, m, hi, rfl, HM, HG, HB⟩ := hrel
    by_cases hlt : i < n
    · have hi1 : (i : Int) < (n : Int) := by omega
      have hi0 : (0 : Int) ≤ (i : Int) := by omega
      obtain ⟨g, cap, hgv, hbg, -⟩ := HG.out.1.form (by rw [HM.out.1]; omega)
      rw [HM.out.1] at hgv
      cases hgv
      obtain ⟨r, hx⟩ : ∃ r, m[i]? = some r := ⟨_, List.getElem?_eq_getElem (by rw [HM.out.1]; exact hlt)⟩
      obtain ⟨hs, ⟨y2, y4, z4⟩, hf, hf2, hok⟩ := HG.out.swapRul hx
      obtain ⟨pa, pc, hpv, -⟩ := (elRq_ok hok).2.1.shape
      obtain ⟨na, nc, hnv, -⟩ := (elRq_ok hok).2.2.2.1.shape
      obtain ⟨pn, hpn⟩ : ∃ k, r.ps.length = k := ⟨_, rfl⟩
      obtain ⟨nn, hnn⟩ : ∃ k, r.ns.length = k := ⟨_, rfl⟩
      rw [hpn] at hpv
      rw [hnn] at hnv
      rw [hpv] at y2
      rw [hnv] at y4 z4
      rw [hpv, hnv] at hs
      rw [hnv] at hf2
      have f2 := hf (i * 7 + 2)
      have f4 := hf2 (i * 7 + 4)
      have HS := hide hs
      have HMs : Hid ((m.set i (swapR r)).length = n ∧ (edgesP (m.set i (swapR r))).length ≤ 1048576) := ⟨by rw [List.length_set]; exact HM.out.1, by unfold edgesP; rw [edges_swap m 0 i hx]; exact HM.out.2⟩
      have HBg : Hid (w.heap.size ≤ g) := Nat.le_trans HB1.out.size hbg
      clear hs hx hf hf2 hok hpv hnv hpn hnn hbg
      go_wp2
      go_roundw
      case rel => exact ⟨i + 1, _, by omega, by go_num, HMs, HS, (HB.out.setCell HBg.out _).setCell HBg.out _⟩
      case measure => simp [intOf]; omega
    · obtain rfl : n = i := by omega
      have hi1 : ¬ (n : Int) < (n : Int) := by omega
      rename World => X0
      have HG0 := hide (HG.out.list (by rw [HM.out.1]; omega))
      have hem := HM.out.2
      obtain ⟨es2, he2⟩ : ∃ es2, edgesP m = es2 := ⟨_, rfl⟩
      rw [he2] at hem
      have HEm := hide he2
      clear he2 HG
      go_wp2_with (first
        | (go_at_call 9; (with_reducible refine (sedges_any HG0.out (by rw [HEm.out]; exact hem)).mono ?_); rintro e X1 ⟨x1, rfl, g1, b1⟩; rw [HEm.out] at g1; obtain ⟨pa, pc, rfl, -, -⟩ := g1.shape; have HX1 := hide (g1.list (by omega)); have HG1 := hide (HG0.out.kept b1); have HB1 := hide (HB.out.trans (b1.mono HB.out.size)); clear g1 b1 HG0)
        | (go_at_call 8; (with_reducible refine (rulesOfQ_any HG1.out).mono ?_); rintro e X2 ⟨x2, rfl, l3, g2, ⟨hl3, he3⟩, b2⟩; rw [HEm.out] at he3; rw [HM.out.1] at hl3; obtain ⟨qa, qc, hq2, -, -⟩ := g2.shape; rw [hl3] at hq2; subst hq2; have HE3 := hide he3; have HQ2 := hide (g2.list (by omega)); have HX2 := hide (HX1.out.kept b2); have HB2 := hide (HB1.out.trans (b2.mono HB1.out.size)); clear g2 b2 HX1 HG1 he3 hl3)
        | (go_at_call 7; (with_reducible refine (redges8_any HQ2.out (by rw [HE3.out]; exact hem)).mono ?_); rintro e X3 ⟨x3, rfl, g3, b3⟩; rw [HE3.out] at g3; obtain ⟨ra, rc, rfl, -, -⟩ := g3.shape; have HX3 := hide (HX2.out.kept b3); have HY3 := hide (g3.list (by omega)); have HB3 := hide (HB2.out.trans (b3.mono HB2.out.size)); clear g3 b3 HX2 HQ2)
        | (go_at_call 10; (with_reducible refine (equalEdges_any HX3.out HY3.out).mono ?_); rintro e X4 ⟨rfl, b4⟩; have HB4 := hide (HB3.out.trans (b4.mono HB3.out.size)); clear b4))
      go_ret
      exact ⟨rfl, HB4.out⟩
end Go.Proofs.Ytfnepibafldlhaa
