/- parse's reader takes a literal. -/
import Derived.Test.YtilckhdaijfddaaDoorProg
import Derived.Test.YtilckhdaijfddaaDoorParseLit
namespace Go.Proofs.YtilckhdaijfddaaDoor
set_option linter.unusedSimpArgs false
set_option linter.unusedVariables false
open Go.RowKit

def Lix.pur (x : Lix) : PLit := ⟨x.k, x.a.pur, x.op, x.l, x.r, x.off⟩
def Lix.val (c : Lix) : Value := .agg #[.int .i64 c.k, .string c.a.p, c.a.v, .int .i64 c.a.off, .int .i64 c.op, .int .i64 c.l.k, .int .i64 c.l.n, .string c.l.s, .int .i64 c.l.off, .int .i64 c.r.k, .int .i64 c.r.n, .string c.r.s, .int .i64 c.r.off, .int .i64 c.off]
def LitPost (w : World) (p : Nat) (ao : Option Addr) (cap : Nat) (L : List Tok) (c f : Int) (res : PR PLit) (e : Ending) (w' : World) : Prop :=
  match res with
  | .bad ec eo => e = PEnd ec eo ∧ Only (fun k => k = p) w w'
  | .ok x r => ∃ a : Lix, e = .returned a.val ∧ a.pur = x ∧ elLix.ok w' (fun b => w.heap.size ≤ b) a ∧ Ahead w' p ao cap L c f r ∧ Only (fun k => k = p) w w'
theorem litPost_bad {w w' : World} {p : Nat} {ao : Option Addr} {cap : Nat} {L : List Tok} {c f ec eo : Int} {e : Ending} (h : LitPost w p ao cap L c f (.bad ec eo) e w') : e = PEnd ec eo ∧ Only (fun k => k = p) w w' := h
theorem litPost_ok {w w' : World} {p : Nat} {ao : Option Addr} {cap : Nat} {L : List Tok} {c f : Int} {x : PLit} {r : List Tok} {e : Ending} (h : LitPost w p ao cap L c f (.ok x r) e w') : ∃ a : Lix, e = .returned a.val ∧ a.pur = x ∧ elLix.ok w' (fun b => w.heap.size ≤ b) a ∧ Ahead w' p ao cap L c f r ∧ Only (fun k => k = p) w w' := h

theorem boxL_cells {V : World} {b : Nat} {u0 u1 u2 u3 u4 u5 u6 u7 u8 u9 u10 u11 u12 u13 : Value} (h : V.heap[b]? = some (.cells #[u0, u1, u2, u3, u4, u5, u6, u7, u8, u9, u10, u11, u12, u13] 86 (0, 0))) : (V.cell? ⟨b, 0, none⟩ = some u0 ∧ V.cell? ⟨b, 1, none⟩ = some u1 ∧ V.cell? ⟨b, 2, none⟩ = some u2 ∧ V.cell? ⟨b, 3, none⟩ = some u3 ∧ V.cell? ⟨b, 4, none⟩ = some u4 ∧ V.cell? ⟨b, 5, none⟩ = some u5 ∧ V.cell? ⟨b, 6, none⟩ = some u6 ∧ V.cell? ⟨b, 7, none⟩ = some u7 ∧ V.cell? ⟨b, 8, none⟩ = some u8 ∧ V.cell? ⟨b, 9, none⟩ = some u9 ∧ V.cell? ⟨b, 10, none⟩ = some u10 ∧ V.cell? ⟨b, 11, none⟩ = some u11 ∧ V.cell? ⟨b, 12, none⟩ = some u12 ∧ V.cell? ⟨b, 13, none⟩ = some u13) ∧ (V.frozen? ⟨b, 0, none⟩ = false ∧ V.frozen? ⟨b, 1, none⟩ = false ∧ V.frozen? ⟨b, 2, none⟩ = false ∧ V.frozen? ⟨b, 3, none⟩ = false ∧ V.frozen? ⟨b, 4, none⟩ = false ∧ V.frozen? ⟨b, 5, none⟩ = false ∧ V.frozen? ⟨b, 6, none⟩ = false ∧ V.frozen? ⟨b, 7, none⟩ = false ∧ V.frozen? ⟨b, 8, none⟩ = false ∧ V.frozen? ⟨b, 9, none⟩ = false ∧ V.frozen? ⟨b, 10, none⟩ = false ∧ V.frozen? ⟨b, 11, none⟩ = false ∧ V.frozen? ⟨b, 12, none⟩ = false ∧ V.frozen? ⟨b, 13, none⟩ = false) := by
  refine ⟨⟨?_, ?_, ?_, ?_, ?_, ?_, ?_, ?_, ?_, ?_, ?_, ?_, ?_, ?_⟩, ⟨?_, ?_, ?_, ?_, ?_, ?_, ?_, ?_, ?_, ?_, ?_, ?_, ?_, ?_⟩⟩ <;> simp [World.cell?, World.frozen?, h]
theorem boxL_put {V : World} {b : Nat} {u0 u1 u2 u3 u4 u5 u6 u7 u8 u9 u10 u11 u12 u13 : Value} (h : V.heap[b]? = some (.cells #[u0, u1, u2, u3, u4, u5, u6, u7, u8, u9, u10, u11, u12, u13] 86 (0, 0))) (x0 x1 x2 x3 x4 x5 x6 x7 x8 x9 x10 x11 x12 x13 : Value) :
    ((((((((((((((V.setCell ⟨b, 0, none⟩ x0).setCell ⟨b, 1, none⟩ x1).setCell ⟨b, 2, none⟩ x2).setCell ⟨b, 3, none⟩ x3).setCell ⟨b, 4, none⟩ x4).setCell ⟨b, 5, none⟩ x5).setCell ⟨b, 6, none⟩ x6).setCell ⟨b, 7, none⟩ x7).setCell ⟨b, 8, none⟩ x8).setCell ⟨b, 9, none⟩ x9).setCell ⟨b, 10, none⟩ x10).setCell ⟨b, 11, none⟩ x11).setCell ⟨b, 12, none⟩ x12).setCell ⟨b, 13, none⟩ x13).heap[b]? = some (.cells #[x0, x1, x2, x3, x4, x5, x6, x7, x8, x9, x10, x11, x12, x13] 86 (0, 0)) := by
  simp [World.setCell, Array.getElem?_modify, h]
theorem boxL_only (V : World) (b : Nat) (x0 x1 x2 x3 x4 x5 x6 x7 x8 x9 x10 x11 x12 x13 : Value) : Only (fun k => k = b) V ((((((((((((((V.setCell ⟨b, 0, none⟩ x0).setCell ⟨b, 1, none⟩ x1).setCell ⟨b, 2, none⟩ x2).setCell ⟨b, 3, none⟩ x3).setCell ⟨b, 4, none⟩ x4).setCell ⟨b, 5, none⟩ x5).setCell ⟨b, 6, none⟩ x6).setCell ⟨b, 7, none⟩ x7).setCell ⟨b, 8, none⟩ x8).setCell ⟨b, 9, none⟩ x9).setCell ⟨b, 10, none⟩ x10).setCell ⟨b, 11, none⟩ x11).setCell ⟨b, 12, none⟩ x12).setCell ⟨b, 13, none⟩ x13) := ((((((((((((((Only.refl (fun k => k = b) V).setCell (p := ⟨b, 0, none⟩) rfl _).setCell (p := ⟨b, 1, none⟩) rfl _).setCell (p := ⟨b, 2, none⟩) rfl _).setCell (p := ⟨b, 3, none⟩) rfl _).setCell (p := ⟨b, 4, none⟩) rfl _).setCell (p := ⟨b, 5, none⟩) rfl _).setCell (p := ⟨b, 6, none⟩) rfl _).setCell (p := ⟨b, 7, none⟩) rfl _).setCell (p := ⟨b, 8, none⟩) rfl _).setCell (p := ⟨b, 9, none⟩) rfl _).setCell (p := ⟨b, 10, none⟩) rfl _).setCell (p := ⟨b, 11, none⟩) rfl _).setCell (p := ⟨b, 12, none⟩) rfl _).setCell (p := ⟨b, 13, none⟩) rfl _
theorem litRes (W : World) (b : Nat) (u0 u1 u2 u3 u4 u5 u6 u7 u8 u9 u10 u11 u12 u13 : Value) (tmps : Array Value) (ht : tmps[4]? = some (.pointer (some ⟨b, 0, none⟩))) (hb : W.heap[b]? = some (.cells #[u0, u1, u2, u3, u4, u5, u6, u7, u8, u9, u10, u11, u12, u13] 86 (0, 0))) :
    (results Tryd.f58 tmps).run Tryd.prog W = .ok (.agg #[u0, u1, u2, u3, u4, u5, u6, u7, u8, u9, u10, u11, u12, u13]) W := by
  obtain ⟨⟨c0, c1, c2, c3, c4, c5, c6, c7, c8, c9, c10, c11, c12, c13⟩, -⟩ := boxL_cells hb
  simp [results, Tryd.results58, go_sem, ht, c0, c1, c2, c3, c4, c5, c6, c7, c8, c9, c10, c11, c12, c13]
theorem tok_cells {V : World} {b : Nat} {t : Tok} (h : V.heap[b]? = some (.cells #[.int .i64 t.k, .string t.t, .int .i64 t.n, .int .i64 t.op, .int .i64 (t.off : Int), .int .i64 (t.en : Int)] 108 (0, 0))) :
    V.cell? ⟨b, 0, none⟩ = some (.int .i64 t.k) ∧ V.cell? ⟨b, 1, none⟩ = some (.string t.t) ∧ V.cell? ⟨b, 2, none⟩ = some (.int .i64 t.n) ∧ V.cell? ⟨b, 3, none⟩ = some (.int .i64 t.op) ∧ V.cell? ⟨b, 4, none⟩ = some (.int .i64 (t.off : Int)) ∧ V.cell? ⟨b, 5, none⟩ = some (.int .i64 (t.en : Int)) := by
  refine ⟨?_, ?_, ?_, ?_, ?_, ?_⟩ <;> simp [World.cell?, h]
theorem Ahead.drew {w : World} {p : Nat} {ao : Option Addr} {cap : Nat} {L : List Tok} {c f : Int} {R : List Tok} (h : Ahead w p ao cap L c f R) : Ahead w.drew p ao cap L c f R := h.kept (Below.refl _ _).drew
theorem ks_at {W : World} {g : Nat} (ks : List Int) (h : W.heap.size = g) : KsAt (W.alloc (.cells (ks.map (Value.int .i64)).toArray 3)).drew g ks := h ▸ (ks_new W ks).kept (Below.refl _ _).drew
/-- Two boxes of a function's own, the first and the second block behind what was there; beside them only the reader has moved. -/
structure TwoBox (w W : World) (p : Nat) (x y : Obj) : Prop where
  b0 : W.heap[w.heap.size]? = some x
  b1 : W.heap[w.heap.size + 1]? = some y
  on : Only (fun k => k = p ∨ w.heap.size ≤ k) w W
  pl : p < w.heap.size
theorem TwoBox.move {w W W' : World} {p : Nat} {x y : Obj} (h : TwoBox w W p x y) (ho : Only (fun k => k = p) W W') : TwoBox w W' p x y :=
  have hp := h.pl
  ⟨by rw [ho.block _ (Array.getElem?_eq_some_iff.1 h.b0).1 (by omega)]; exact h.b0, by rw [ho.block _ (Array.getElem?_eq_some_iff.1 h.b1).1 (by omega)]; exact h.b1, h.on.trans (ho.mono fun k _ e => .inl e), h.pl⟩
theorem TwoBox.below {w W W' : World} {p : Nat} {x y : Obj} (h : TwoBox w W p x y) (hb : Below W.heap.size W W') : TwoBox w W' p x y := h.move (Only.of_below hb _)
theorem TwoBox.drew {w W : World} {p : Nat} {x y : Obj} (h : TwoBox w W p x y) : TwoBox w W.drew p x y := h.below (Below.refl _ _).drew
theorem TwoBox.start {w : World} {p : Nat} (hp : p < w.heap.size) (x y : Obj) : TwoBox w ((w.alloc x).alloc y) p x y :=
  ⟨first_box hp (Only.refl _ _), second_box hp (Only.refl _ _), Only.of_below (below2a w x y) _, hp⟩
theorem TwoBox.lt {w W : World} {p : Nat} {x y : Obj} (h : TwoBox w W p x y) : w.heap.size + 2 ≤ W.heap.size := (Array.getElem?_eq_some_iff.1 h.b1).1
theorem i64_0 : I64 0 := by unfold I64; decide
theorem i64_1 : I64 1 := by unfold I64; decide
theorem i64_2 : I64 2 := by unfold I64; decide
theorem i64_3 : I64 3 := by unfold I64; decide
theorem zeroTrm_ok : zeroTrm.ok := ⟨⟨by unfold I64 zeroTrm Trm.con; decide, by unfold I64 zeroTrm Trm.con; decide, by unfold zeroTrm Trm.con; decide⟩, by unfold I64 zeroTrm; decide⟩
theorem lit_fin {w W : World} {p : Nat} {ao : Option Addr} {cap : Nat} {L : List Tok} {c f : Int} {R0 r : List Tok} {x y : Obj} (h0 : Ahead w p ao cap L c f R0) (hA : Ahead W p ao cap L c f r) (hB : TwoBox w W p x y) (a : Lix) (z : PLit) (hz : a.pur = z) {N : Nat} (hok : elLix.ok W (fun k => N ≤ k) a) (hN : w.heap.size + 2 ≤ N) (x0 x1 x2 x3 x4 x5 x6 x7 x8 x9 x10 x11 x12 x13 : Value) :
    LitPost w p ao cap L c f (.ok z r) (.returned a.val) ((((((((((((((W.setCell ⟨w.heap.size + 1, 0, none⟩ x0).setCell ⟨w.heap.size + 1, 1, none⟩ x1).setCell ⟨w.heap.size + 1, 2, none⟩ x2).setCell ⟨w.heap.size + 1, 3, none⟩ x3).setCell ⟨w.heap.size + 1, 4, none⟩ x4).setCell ⟨w.heap.size + 1, 5, none⟩ x5).setCell ⟨w.heap.size + 1, 6, none⟩ x6).setCell ⟨w.heap.size + 1, 7, none⟩ x7).setCell ⟨w.heap.size + 1, 8, none⟩ x8).setCell ⟨w.heap.size + 1, 9, none⟩ x9).setCell ⟨w.heap.size + 1, 10, none⟩ x10).setCell ⟨w.heap.size + 1, 11, none⟩ x11).setCell ⟨w.heap.size + 1, 12, none⟩ x12).setCell ⟨w.heap.size + 1, 13, none⟩ x13) := by
  have ho2 := boxL_only W (w.heap.size + 1) x0 x1 x2 x3 x4 x5 x6 x7 x8 x9 x10 x11 x12 x13
  obtain ⟨q1, q2⟩ := fin_ahead h0 hA hB.on ho2 (by omega)
  exact ⟨a, rfl, hz, fin_ok elLix hok ho2 (by omega) (by omega), q1, q2⟩
theorem KsAt.drew {w : World} {g : Nat} {ks : List Int} (h : KsAt w g ks) : KsAt w.drew g ks := h.kept (Below.refl _ _).drew

set_option maxHeartbeats 4000000 in
set_option maxRecDepth 100000 in
theorem lit_not {w : World} {p : Nat} {ao : Option Addr} {cap : Nat} {L : List Tok} {c f : Int} {R : List Tok} (first : Tok) (h : Ahead w p ao cap L c f R) (hname : first.good) (h10 : first.k = 10) :
    Calls Tryd.prog 58 #[.pointer (some ⟨p, 0, none⟩), tokV first] w (LitPost w p ao cap L c f (litP c f first R)) := by
  have e10 : (first.k == 10) = true := by simpa using h10
  have HE : litP c f first R = (match takeP c f [1] R with | .bad c o => .bad c o | .ok n r' => match atomP c f termKs n r' with | .bad c o => .bad c o | .ok a r'' => .ok ⟨2, a, 0, zeroTrm, zeroTrm, first.off⟩ r'') := by unfold litP; rw [if_pos h10]; rfl
  rw [HE]
  have H0 := hide h
  have hp := h.lt
  unfold tokV
  clear HE h10 h
  cases hT : takeP c f [1] R with
  | bad ec eo =>
    have HT := hide (fun (W : World) (g : Nat) (ha : Ahead W p ao cap L c f R) (hk : KsAt W g [1]) => take_fail g ha hk (by decide) hT)
    simp only []
    clear hT
    unfold LitPost
    go_enter Tryd.func58, Tryd.ntmps58
    go_wp2
    go_region_with (first
        | (go_at_call 40; refine (HT.out _ _ (by first | exact (H0.out.kept (below3a _ _ _ _)).drew | exact (H0.out.kept (below2a _ _ _)).drew) (by exact ks_at [1] (by simp))).mono ?_; rintro e w1 ⟨rfl, hb1⟩; refine panic_ends (P := Tryd.prog) (w := w1) ⟨rfl, rfl, by first | exact only_drop (Only.of_below (belowt2 (below3a _ _ _ _).drew hb1) _) | exact only_drop (Only.of_below (belowt2 (below2a _ _ _).drew hb1) _)⟩ ?_))
    all_goals trivial
  | ok n r1 =>
    have HT := hide (fun (W : World) (g : Nat) (ha : Ahead W p ao cap L c f R) (hk : KsAt W g [1]) => take_good g ha hk (by decide) hT)
    have hng : n.good := H0.out.good n (by rw [(take_eq hT).1]; exact List.mem_cons_self)
    simp only []
    obtain ⟨res, hres⟩ : ∃ res, atomP c f termKs n r1 = res := ⟨_, rfl⟩
    have HAt := hide (fun (W : World) (ha : Ahead W p ao cap L c f r1) => atom_any n ha hng)
    rw [hres] at HAt ⊢
    clear hT hres hng
    have HB := hide (TwoBox.start (w := w) hp (.cells #[.int .i64 first.k, .string first.t, .int .i64 first.n, .int .i64 first.op, .int .i64 (first.off : Int), .int .i64 (first.en : Int)] 108) (.cells #[.int .i64 0, .string ⟨#[]⟩, .slice none 0 0, .int .i64 0, .int .i64 0, .int .i64 0, .int .i64 0, .string ⟨#[]⟩, .int .i64 0, .int .i64 0, .int .i64 0, .string ⟨#[]⟩, .int .i64 0, .int .i64 0] 86))
    cases res with
    | bad ec eo =>
      simp only []
      unfold LitPost
      go_enter Tryd.func58, Tryd.ntmps58
      go_wp2
      go_region_with (first
        | (go_at_call 40; refine (HT.out _ _ (by first | exact (H0.out.kept (below3a _ _ _ _)).drew | exact (H0.out.kept (below2a _ _ _)).drew) (by exact ks_at [1] (by simp))).mono ?_; rintro e w1 ⟨rfl, ha1, ho1⟩; have HA1 := hide ha1; have HB1 := hide (((HB.out.below (belowA _ _)).drew).move ho1); clear ha1 ho1; obtain ⟨-, -, -, -, y4, -⟩ := tok_cells HB1.out.b0)
        | (go_at_call 57; refine (HAt.out _ (by first | exact HA1.out | exact HA1.out.drew)).mono ?_; intro e w2 hq; obtain ⟨rfl, ho2⟩ := atmPost_bad hq; clear hq; refine panic_ends (P := Tryd.prog) (w := w2) ⟨rfl, rfl, by first | exact only_drop (HB1.out.move ho2).on | exact only_drop (HB1.out.drew.move ho2).on⟩ ?_))
      all_goals trivial
    | ok a r2 =>
      simp only []
      unfold LitPost
      go_enter Tryd.func58, Tryd.ntmps58
      go_wp2
      go_region_held3 (fun w' => w'.cell? ⟨w.heap.size, 4, none⟩ = some (.int .i64 (first.off : Int)))
        (first | (with_reducible exact y4) | (with_reducible exact z4) | (go_keep; done))
        (first
        | (go_at_call 40; refine (HT.out _ _ (by first | exact (H0.out.kept (below3a _ _ _ _)).drew | exact (H0.out.kept (below2a _ _ _)).drew) (by exact ks_at [1] (by simp))).mono ?_; rintro e w1 ⟨rfl, ha1, ho1⟩; have HA1 := hide ha1; have HB1 := hide (((HB.out.below (belowA _ _)).drew).move ho1); clear ha1 ho1; obtain ⟨-, -, -, -, y4, -⟩ := tok_cells HB1.out.b0)
        | (go_at_call 57; refine (HAt.out _ (by first | exact HA1.out | exact HA1.out.drew)).mono ?_; intro e w2 hq; obtain ⟨⟨ap, av, aoff, ats⟩, rfl, hpur, hok, ha2, ho2⟩ := atmPost_ok hq; clear hq; obtain ⟨va, vc, rfl, -⟩ := (show Lst elTrm _ _ av ats from hok.2.2).shape; have HA2 := hide ha2; have HB2 := hide (HB1.out.move ho2); have HPu := hide hpur; have HOk := hide hok; clear ha2 ho2 hpur hok; obtain ⟨-, -, -, -, z4, -⟩ := tok_cells HB2.out.b0; obtain ⟨⟨k0, k1, k2, k3, k4, k5, k6, k7, k8, k9, k10, k11, k12, k13⟩, ⟨l0, l1, l2, l3, l4, l5, l6, l7, l8, l9, l10, l11, l12, l13⟩⟩ := boxL_cells HB2.out.b1; unfold Atx.val))
      go_wp2
      refine bodyPost_ret (litRes _ (w.heap.size + 1) _ _ _ _ _ _ _ _ _ _ _ _ _ _ _ rfl (boxL_put HB2.out.b1 _ _ _ _ _ _ _ _ _ _ _ _ _ _)) rfl ?_
      exact lit_fin H0.out HA2.out HB2.out ⟨2, ⟨ap, _, aoff, ats⟩, 0, zeroTrm, zeroTrm, first.off⟩ _ (by unfold Lix.pur; rw [HPu.out]) ⟨i64_2, HOk.out, i64_0, zeroTrm_ok, zeroTrm_ok, (good_parts hname).2⟩ HB1.out.lt _ _ _ _ _ _ _ _ _ _ _ _ _ _
end Go.Proofs.YtilckhdaijfddaaDoor
