/- parse's reader takes a literal. parse's reader takes a literal: an atom, or a test. parse's reader takes a literal: a test. parse's reader takes a body. -/
import Derived.Test.YtnpmdepbfobebaaGreatDoorProg
import Derived.Test.YtnpmdepbfobebaaGreatDoorParseLit
import Derived.Test.YtnpmdepbfobebaaGreatDoorPkN1

namespace Go.Proofs.YtnpmdepbfobebaaGreatDoor
set_option linter.unusedSimpArgs false
set_option linter.unusedVariables false
open Go.RowKit

def Lix.pur (x : Lix) : PLit := ⟨x.k, x.a.pur, x.op, x.l, x.r, x.off⟩
def Lix.val (c : Lix) : Value := .agg #[.int .i64 c.k, .string c.a.p, c.a.v, .int .i64 c.a.off, .int .i64 c.op, .int .i64 c.l.k, .int .i64 c.l.n, .string c.l.s, .int .i64 c.l.off, .int .i64 c.r.k, .int .i64 c.r.n, .string c.r.s, .int .i64 c.r.off, .int .i64 c.off]
def LitPost (w : World) (p : Nat) (ao : Option Addr) (cap : Nat) (L : List Tok) (c f : Int) (res : PR PLit) (e : Ending) (w' : World) : Prop :=
  match res with
  | .bad ec eo => e = PEnd ec eo ∧ Only (fun k => k = p) w w'
  | .ok x r => ∃ a : Lix, e = .returned a.val ∧ a.pur = x ∧ elLix.ok w' (fun b => w.heap.size ≤ b) a ∧ Ahead w' p ao cap L c f r ∧ Only (fun k => k = p) w w'
theorem litPost_bad {w w' : World} {p : Nat} {ao : Option Addr} {cap : Nat} {L : List Tok} {c f ec eo : Int} {e : Ending} (h : LitPost w p ao cap L c f (.bad ec eo) e w') : e = PEnd ec eo ∧ Only (fun k => k = p) w w' := h
theorem litPost_ok {w w' : World} {p : Nat} {ao : Option Addr} {cap : Nat} {L : List Tok} {c f : Int} {x : PLit} {r : List Tok} {e : Ending} (h : LitPost w p ao cap L c f (.ok x r) e w') : ∃ a : Lix, e = .returned a.val ∧ a.pur = x ∧ elLix.ok w' (fun b => w.heap.size ≤ b) a ∧ Ahead w' p ao cap L c f r ∧ Only (fun k => k = p) w w' := h

theorem boxL_cells {V : World} {b : Nat} {u0 u1 u2 u3 u4 u5 u6 u7 u8 u9 u10 u11 u12 u13 : Value} (h : V.heap[b]? = some (.cells #[u0, u1, u2, u3, u4, u5, u6, u7, u8, u9, u10, u11, u12, u13] 56 (0, 0))) : (V.cell? ⟨b, 0, none⟩ = some u0 ∧ V.cell? ⟨b, 1, none⟩ = some u1 ∧ V.cell? ⟨b, 2, none⟩ = some u2 ∧ V.cell? ⟨b, 3, none⟩ = some u3 ∧ V.cell? ⟨b, 4, none⟩ = some u4 ∧ V.cell? ⟨b, 5, none⟩ = some u5 ∧ V.cell? ⟨b, 6, none⟩ = some u6 ∧ V.cell? ⟨b, 7, none⟩ = some u7 ∧ V.cell? ⟨b, 8, none⟩ = some u8 ∧ V.cell? ⟨b, 9, none⟩ = some u9 ∧ V.cell? ⟨b, 10, none⟩ = some u10 ∧ V.cell? ⟨b, 11, none⟩ = some u11 ∧ V.cell? ⟨b, 12, none⟩ = some u12 ∧ V.cell? ⟨b, 13, none⟩ = some u13) ∧ (V.frozen? ⟨b, 0, none⟩ = false ∧ V.frozen? ⟨b, 1, none⟩ = false ∧ V.frozen? ⟨b, 2, none⟩ = false ∧ V.frozen? ⟨b, 3, none⟩ = false ∧ V.frozen? ⟨b, 4, none⟩ = false ∧ V.frozen? ⟨b, 5, none⟩ = false ∧ V.frozen? ⟨b, 6, none⟩ = false ∧ V.frozen? ⟨b, 7, none⟩ = false ∧ V.frozen? ⟨b, 8, none⟩ = false ∧ V.frozen? ⟨b, 9, none⟩ = false ∧ V.frozen? ⟨b, 10, none⟩ = false ∧ V.frozen? ⟨b, 11, none⟩ = false ∧ V.frozen? ⟨b, 12, none⟩ = false ∧ V.frozen? ⟨b, 13, none⟩ = false) := by
  refine ⟨⟨?_, ?_, ?_, ?_, ?_, ?_, ?_, ?_, ?_, ?_, ?_, ?_, ?_, ?_⟩, ⟨?_, ?_, ?_, ?_, ?_, ?_, ?_, ?_, ?_, ?_, ?_, ?_, ?_, ?_⟩⟩ <;> simp [World.cell?, World.frozen?, h]
theorem boxL_put {V : World} {b : Nat} {u0 u1 u2 u3 u4 u5 u6 u7 u8 u9 u10 u11 u12 u13 : Value} (h : V.heap[b]? = some (.cells #[u0, u1, u2, u3, u4, u5, u6, u7, u8, u9, u10, u11, u12, u13] 56 (0, 0))) (x0 x1 x2 x3 x4 x5 x6 x7 x8 x9 x10 x11 x12 x13 : Value) :
    ((((((((((((((V.setCell ⟨b, 0, none⟩ x0).setCell ⟨b, 1, none⟩ x1).setCell ⟨b, 2, none⟩ x2).setCell ⟨b, 3, none⟩ x3).setCell ⟨b, 4, none⟩ x4).setCell ⟨b, 5, none⟩ x5).setCell ⟨b, 6, none⟩ x6).setCell ⟨b, 7, none⟩ x7).setCell ⟨b, 8, none⟩ x8).setCell ⟨b, 9, none⟩ x9).setCell ⟨b, 10, none⟩ x10).setCell ⟨b, 11, none⟩ x11).setCell ⟨b, 12, none⟩ x12).setCell ⟨b, 13, none⟩ x13).heap[b]? = some (.cells #[x0, x1, x2, x3, x4, x5, x6, x7, x8, x9, x10, x11, x12, x13] 56 (0, 0)) := by
  simp [World.setCell, Array.getElem?_modify, h]
theorem boxL_only (V : World) (b : Nat) (x0 x1 x2 x3 x4 x5 x6 x7 x8 x9 x10 x11 x12 x13 : Value) : Only (fun k => k = b) V ((((((((((((((V.setCell ⟨b, 0, none⟩ x0).setCell ⟨b, 1, none⟩ x1).setCell ⟨b, 2, none⟩ x2).setCell ⟨b, 3, none⟩ x3).setCell ⟨b, 4, none⟩ x4).setCell ⟨b, 5, none⟩ x5).setCell ⟨b, 6, none⟩ x6).setCell ⟨b, 7, none⟩ x7).setCell ⟨b, 8, none⟩ x8).setCell ⟨b, 9, none⟩ x9).setCell ⟨b, 10, none⟩ x10).setCell ⟨b, 11, none⟩ x11).setCell ⟨b, 12, none⟩ x12).setCell ⟨b, 13, none⟩ x13) := ((((((((((((((Only.refl (fun k => k = b) V).setCell (p := ⟨b, 0, none⟩) rfl _).setCell (p := ⟨b, 1, none⟩) rfl _).setCell (p := ⟨b, 2, none⟩) rfl _).setCell (p := ⟨b, 3, none⟩) rfl _).setCell (p := ⟨b, 4, none⟩) rfl _).setCell (p := ⟨b, 5, none⟩) rfl _).setCell (p := ⟨b, 6, none⟩) rfl _).setCell (p := ⟨b, 7, none⟩) rfl _).setCell (p := ⟨b, 8, none⟩) rfl _).setCell (p := ⟨b, 9, none⟩) rfl _).setCell (p := ⟨b, 10, none⟩) rfl _).setCell (p := ⟨b, 11, none⟩) rfl _).setCell (p := ⟨b, 12, none⟩) rfl _).setCell (p := ⟨b, 13, none⟩) rfl _
theorem litRes (W : World) (b : Nat) (u0 u1 u2 u3 u4 u5 u6 u7 u8 u9 u10 u11 u12 u13 : Value) (tmps : Array Value) (ht : tmps[4]? = some (.pointer (some ⟨b, 0, none⟩))) (hb : W.heap[b]? = some (.cells #[u0, u1, u2, u3, u4, u5, u6, u7, u8, u9, u10, u11, u12, u13] 56 (0, 0))) :
    (results Tryz.f78 tmps).run Tryz.prog W = .ok (.agg #[u0, u1, u2, u3, u4, u5, u6, u7, u8, u9, u10, u11, u12, u13]) W := by
  obtain ⟨⟨c0, c1, c2, c3, c4, c5, c6, c7, c8, c9, c10, c11, c12, c13⟩, -⟩ := boxL_cells hb
  simp [results, Tryz.results78, go_sem, ht, c0, c1, c2, c3, c4, c5, c6, c7, c8, c9, c10, c11, c12, c13]
theorem tok_cells {V : World} {b : Nat} {t : Tok} (h : V.heap[b]? = some (.cells #[.int .i64 t.k, .string t.t, .int .i64 t.n, .int .i64 t.op, .int .i64 (t.off : Int), .int .i64 (t.en : Int)] 116 (0, 0))) :
    V.cell? ⟨b, 0, none⟩ = some (.int .i64 t.k) ∧ V.cell? ⟨b, 1, none⟩ = some (.string t.t) ∧ V.cell? ⟨b, 2, none⟩ = some (.int .i64 t.n) ∧ V.cell? ⟨b, 3, none⟩ = some (.int .i64 t.op) ∧ V.cell? ⟨b, 4, none⟩ = some (.int .i64 (t.off : Int)) ∧ V.cell? ⟨b, 5, none⟩ = some (.int .i64 (t.en : Int)) := by
  refine ⟨?_, ?_, ?_, ?_, ?_, ?_⟩ <;> simp [World.cell?, h]
theorem Ahead.drew {w : World} {p : Nat} {ao : Option Addr} {cap : Nat} {L : List Tok} {c f : Int} {R : List Tok} (h : Ahead w p ao cap L c f R) : Ahead w.drew p ao cap L c f R := h.kept (Below.refl _ _).drew
theorem ks_at {W : World} {g : Nat} (ks : List Int) (h : W.heap.size = g) : KsAt (W.alloc (.cells (ks.map (Value.int .i64)).toArray 3)).drew g ks := h ▸ (ks_new W ks).kept (Below.refl _ _).drew
/-- Two boxes of a function's own, the first and the second block behind what was there; beside them only the reader has moved. -/
structure TwoBox (w W : World) (p : Nat) (x y : Obj) : Prop where
  b0 : W.heap[w.heap.size]? = some x
  b1 : W.heap[w.heap.size + 1]? = some y
  on : Only (fun k => k = p ∨ w.heap.size ≤ k) w W
  pl : p < w.heap.size
theorem TwoBox.move {w W W' : World} {p : Nat} {x y : Obj} (h : TwoBox w W p x y) (ho : Only (fun k => k = p) W W') : TwoBox w W' p x y :=
  have hp := h.pl
  ⟨by rw [ho.block _ (Array.getElem?_eq_some_iff.1 h.b0).1 (by omega)]; exact h.b0, by rw [ho.block _ (Array.getElem?_eq_some_iff.1 h.b1).1 (by omega)]; exact h.b1, h.on.trans (ho.mono fun k _ e => .inl e), h.pl⟩
theorem TwoBox.below {w W W' : World} {p : Nat} {x y : Obj} (h : TwoBox w W p x y) (hb : Below W.heap.size W W') : TwoBox w W' p x y := h.move (Only.of_below hb _)
theorem TwoBox.drew {w W : World} {p : Nat} {x y : Obj} (h : TwoBox w W p x y) : TwoBox w W.drew p x y := h.below (Below.refl _ _).drew
theorem TwoBox.start {w : World} {p : Nat} (hp : p < w.heap.size) (x y : Obj) : TwoBox w ((w.alloc x).alloc y) p x y :=
  ⟨first_box hp (Only.refl _ _), second_box hp (Only.refl _ _), Only.of_below (below2a w x y) _, hp⟩
theorem TwoBox.lt {w W : World} {p : Nat} {x y : Obj} (h : TwoBox w W p x y) : w.heap.size + 2 ≤ W.heap.size := (Array.getElem?_eq_some_iff.1 h.b1).1
theorem i64_0 : I64 0 := by unfold I64; decide
theorem i64_1 : I64 1 := by unfold I64; decide
theorem i64_2 : I64 2 := by unfold I64; decide
theorem i64_3 : I64 3 := by unfold I64; decide
theorem zeroTrm_ok : zeroTrm.ok := ⟨⟨by unfold I64 zeroTrm Trm.con; decide, by unfold I64 zeroTrm Trm.con; decide, by unfold zeroTrm Trm.con; decide⟩, by unfold I64 zeroTrm; decide⟩
theorem lit_fin {w W : World} {p : Nat} {ao : Option Addr} {cap : Nat} {L : List Tok} {c f : Int} {R0 r : List Tok} {x y : Obj} (h0 : Ahead w p ao cap L c f R0) (hA : Ahead W p ao cap L c f r) (hB : TwoBox w W p x y) (a : Lix) (z : PLit) (hz : a.pur = z) {N : Nat} (hok : elLix.ok W (fun k => N ≤ k) a) (hN : w.heap.size + 2 ≤ N) (x0 x1 x2 x3 x4 x5 x6 x7 x8 x9 x10 x11 x12 x13 : Value) :
    LitPost w p ao cap L c f (.ok z r) (.returned a.val) ((((((((((((((W.setCell ⟨w.heap.size + 1, 0, none⟩ x0).setCell ⟨w.heap.size + 1, 1, none⟩ x1).setCell ⟨w.heap.size + 1, 2, none⟩ x2).setCell ⟨w.heap.size + 1, 3, none⟩ x3).setCell ⟨w.heap.size + 1, 4, none⟩ x4).setCell ⟨w.heap.size + 1, 5, none⟩ x5).setCell ⟨w.heap.size + 1, 6, none⟩ x6).setCell ⟨w.heap.size + 1, 7, none⟩ x7).setCell ⟨w.heap.size + 1, 8, none⟩ x8).setCell ⟨w.heap.size + 1, 9, none⟩ x9).setCell ⟨w.heap.size + 1, 10, none⟩ x10).setCell ⟨w.heap.size + 1, 11, none⟩ x11).setCell ⟨w.heap.size + 1, 12, none⟩ x12).setCell ⟨w.heap.size + 1, 13, none⟩ x13) := by
  have ho2 := boxL_only W (w.heap.size + 1) x0 x1 x2 x3 x4 x5 x6 x7 x8 x9 x10 x11 x12 x13
  obtain ⟨q1, q2⟩ := fin_ahead h0 hA hB.on ho2 (by omega)
  exact ⟨a, rfl, hz, fin_ok elLix hok ho2 (by omega) (by omega), q1, q2⟩
theorem KsAt.drew {w : World} {g : Nat} {ks : List Int} (h : KsAt w g ks) : KsAt w.drew g ks := h.kept (Below.refl _ _).drew

set_option maxHeartbeats 4000000 in
set_option maxRecDepth 100000 in
theorem lit_not {w : World} {p : Nat} {ao : Option Addr} {cap : Nat} {L : List Tok} {c f : Int} {R : List Tok} (first : Tok) (h : Ahead w p ao cap L c f R) (hname : first.good) (h10 : first.k = 10) :
    Calls Tryz.prog 78 #[.pointer (some ⟨p, 0, none⟩), tokV first] w (LitPost w p ao cap L c f (litP c f first R)) := by
  have e10 : (first.k == 10) = true := by simpa using h10
  have HE : litP c f first R = (match takeP c f [1] R with | .bad c o => .bad c o | .ok n r' => match atomP c f termKs n r' with | .bad c o => .bad c o | .ok a r'' => .ok ⟨2, a, 0, zeroTrm, zeroTrm, first.off⟩ r'') := by unfold litP; rw [if_pos h10]; rfl
  rw [HE]
  have H0 := hide h
  have hp := h.lt
  unfold tokV
  clear HE h10 h
  cases hT : takeP c f [1] R with
  | bad ec eo =>
    have HT := hide (fun (W : World) (g : Nat) (ha : Ahead W p ao cap L c f R) (hk : KsAt W g [1]) => take_fail g ha hk (by decide) hT)
    simp only []
    clear hT
    unfold LitPost
    go_enter Tryz.func78, Tryz.ntmps78
    go_wp2
    go_region_with (first
        | (go_at_call 51; refine (HT.out _ _ (by first | exact (H0.out.kept (below3a _ _ _ _)).drew | exact (H0.out.kept (below2a _ _ _)).drew) (by exact ks_at [1] (by simp))).mono ?_; rintro e w1 ⟨rfl, hb1⟩; refine panic_ends (P := Tryz.prog) (w := w1) ⟨rfl, rfl, by first | exact only_drop (Only.of_below (belowt2 (below3a _ _ _ _).drew hb1) _) | exact only_drop (Only.of_below (belowt2 (below2a _ _ _).drew hb1) _)⟩ ?_))
    all_goals trivial
  | ok n r1 =>
    have HT := hide (fun (W : World) (g : Nat) (ha : Ahead W p ao cap L c f R) (hk : KsAt W g [1]) => take_good g ha hk (by decide) hT)
    have hng : n.good := H0.out.good n (by rw [(take_eq hT).1]; exact List.mem_cons_self)
    simp only []
    obtain ⟨res, hres⟩ : ∃ res, atomP c f termKs n r1 = res := ⟨_, rfl⟩
    have HAt := hide (fun (W : World) (ha : Ahead W p ao cap L c f r1) => atom_any n ha hng)
    rw [hres] at HAt ⊢
    clear hT hres hng
    have HB := hide (TwoBox.start (w := w) hp (.cells #[.int .i64 first.k, .string first.t, .int .i64 first.n, .int .i64 first.op, .int .i64 (first.off : Int), .int .i64 (first.en : Int)] 116) (.cells #[.int .i64 0, .string ⟨#[]⟩, .slice none 0 0, .int .i64 0, .int .i64 0, .int .i64 0, .int .i64 0, .string ⟨#[]⟩, .int .i64 0, .int .i64 0, .int .i64 0, .string ⟨#[]⟩, .int .i64 0, .int .i64 0] 56))
    cases res with
    | bad ec eo =>
      simp only []
      unfold LitPost
      go_enter Tryz.func78, Tryz.ntmps78
      go_wp2
      go_region_with (first
        | (go_at_call 51; refine (HT.out _ _ (by first | exact (H0.out.kept (below3a _ _ _ _)).drew | exact (H0.out.kept (below2a _ _ _)).drew) (by exact ks_at [1] (by simp))).mono ?_; rintro e w1 ⟨rfl, ha1, ho1⟩; have HA1 := hide ha1; have HB1 := hide (((HB.out.below (belowA _ _)).drew).move ho1); clear ha1 ho1; obtain ⟨-, -, -, -, y4, -⟩ := tok_cells HB1.out.b0)
        | (go_at_call 73; refine (HAt.out _ (by first | exact HA1.out | exact HA1.out.drew)).mono ?_; intro e w2 hq; obtain ⟨rfl, ho2⟩ := atmPost_bad hq; clear hq; refine panic_ends (P := Tryz.prog) (w := w2) ⟨rfl, rfl, by first | exact only_drop (HB1.out.move ho2).on | exact only_drop (HB1.out.drew.move ho2).on⟩ ?_))
      all_goals trivial
    | ok a r2 =>
      simp only []
      unfold LitPost
      go_enter Tryz.func78, Tryz.ntmps78
      go_wp2
      go_region_held3 (fun w' => w'.cell? ⟨w.heap.size, 4, none⟩ = some (.int .i64 (first.off : Int)))
        (first | (with_reducible exact y4) | (with_reducible exact z4) | (go_keep; done))
        (first
        | (go_at_call 51; refine (HT.out _ _ (by first | exact (H0.out.kept (below3a _ _ _ _)).drew | exact (H0.out.kept (below2a _ _ _)).drew) (by exact ks_at [1] (by simp))).mono ?_; rintro e w1 ⟨rfl, ha1, ho1⟩; have HA1 := hide ha1; have HB1 := hide (((HB.out.below (belowA _ _)).drew).move ho1); clear ha1 ho1; obtain ⟨-, -, -, -, y4, -⟩ := tok_cells HB1.out.b0)
        | (go_at_call 73; refine (HAt.out _ (by first | exact HA1.out | exact HA1.out.drew)).mono ?_; intro e w2 hq; obtain ⟨⟨ap, av, aoff, ats⟩, rfl, hpur, hok, ha2, ho2⟩ := atmPost_ok hq; clear hq; obtain ⟨va, vc, rfl, -⟩ := (show Lst elTrm _ _ av ats from hok.2.2).shape; have HA2 := hide ha2; have HB2 := hide (HB1.out.move ho2); have HPu := hide hpur; have HOk := hide hok; clear ha2 ho2 hpur hok; obtain ⟨-, -, -, -, z4, -⟩ := tok_cells HB2.out.b0; obtain ⟨⟨k0, k1, k2, k3, k4, k5, k6, k7, k8, k9, k10, k11, k12, k13⟩, ⟨l0, l1, l2, l3, l4, l5, l6, l7, l8, l9, l10, l11, l12, l13⟩⟩ := boxL_cells HB2.out.b1; unfold Atx.val))
      go_wp2
      refine bodyPost_ret (litRes _ (w.heap.size + 1) _ _ _ _ _ _ _ _ _ _ _ _ _ _ _ rfl (boxL_put HB2.out.b1 _ _ _ _ _ _ _ _ _ _ _ _ _ _)) rfl ?_
      exact lit_fin H0.out HA2.out HB2.out ⟨2, ⟨ap, _, aoff, ats⟩, 0, zeroTrm, zeroTrm, first.off⟩ _ (by unfold Lix.pur; rw [HPu.out]) ⟨i64_2, HOk.out, i64_0, zeroTrm_ok, zeroTrm_ok, (good_parts hname).2⟩ HB1.out.lt _ _ _ _ _ _ _ _ _ _ _ _ _ _
end Go.Proofs.YtnpmdepbfobebaaGreatDoor

namespace Go.Proofs.YtnpmdepbfobebaaGreatDoor
set_option linter.unusedSimpArgs false
set_option linter.unusedVariables false
open Go.RowKit

set_option maxHeartbeats 4000000 in
set_option maxRecDepth 100000 in
theorem lit_none {w : World} {p : Nat} {ao : Option Addr} {cap : Nat} {L : List Tok} {c f : Int} (first : Tok) (h : Ahead w p ao cap L c f []) (hname : first.good) (h1 : first.k = 1) :
    Calls Tryz.prog 78 #[.pointer (some ⟨p, 0, none⟩), tokV first] w (LitPost w p ao cap L c f (litP c f first [])) := by
  have e10 : (first.k == 10) = false := by simp; omega
  have e1 : (first.k == 1) = true := by simpa using h1
  have HE : litP c f first [] = .bad c f := by unfold litP; rw [if_neg (by omega)]; simp only; rw [if_pos h1]
  rw [HE]
  have HL := hide (fun W (hb : Below w.heap.size w W) => look_none (h.kept hb))
  have H0 := hide h
  have hp := h.lt
  have HB := hide (TwoBox.start (w := w) hp (.cells #[.int .i64 first.k, .string first.t, .int .i64 first.n, .int .i64 first.op, .int .i64 (first.off : Int), .int .i64 (first.en : Int)] 116) (.cells #[.int .i64 0, .string ⟨#[]⟩, .slice none 0 0, .int .i64 0, .int .i64 0, .int .i64 0, .int .i64 0, .string ⟨#[]⟩, .int .i64 0, .int .i64 0, .int .i64 0, .string ⟨#[]⟩, .int .i64 0, .int .i64 0] 56))
  unfold tokV
  clear HE h1 h
  unfold LitPost
  go_enter Tryz.func78, Tryz.ntmps78
  go_wp2_with (go_at_call 69; refine (HL.out _ (below2a _ _ _)).mono ?_; rintro e w1 ⟨rfl, hb1⟩)
  exact ⟨rfl, rfl, only_drop (HB.out.below hb1).on⟩

set_option maxHeartbeats 4000000 in
set_option maxRecDepth 100000 in
theorem lit_pos {w : World} {p : Nat} {ao : Option Addr} {cap : Nat} {L : List Tok} {c f : Int} {t : Tok} {R : List Tok} (first : Tok) (h : Ahead w p ao cap L c f (t :: R)) (hname : first.good) (h1 : first.k = 1) (h11 : t.k ≠ 11) :
    Calls Tryz.prog 78 #[.pointer (some ⟨p, 0, none⟩), tokV first] w (LitPost w p ao cap L c f (litP c f first (t :: R))) := by
  have e10 : (first.k == 10) = false := by simp; omega
  have e1 : (first.k == 1) = true := by simpa using h1
  have e11 : (t.k != 11) = true := by simpa using h11
  have HE : litP c f first (t :: R) = (match atomP c f termKs first (t :: R) with | .bad c o => .bad c o | .ok a r' => .ok ⟨1, a, 0, zeroTrm, zeroTrm, first.off⟩ r') := by unfold litP; rw [if_neg (by omega)]; simp only; rw [if_pos h1, if_neg h11]; rfl
  rw [HE]
  have HL := hide (fun W (hb : Below w.heap.size w W) => look_good (h.kept hb))
  have hfd := tok_kind (.int .i64 t.k) (.string t.t) (.int .i64 t.n) (.int .i64 t.op) (.int .i64 (t.off : Int)) (.int .i64 (t.en : Int))
  have H0 := hide h
  have hp := h.lt
  have HB := hide (TwoBox.start (w := w) hp (.cells #[.int .i64 first.k, .string first.t, .int .i64 first.n, .int .i64 first.op, .int .i64 (first.off : Int), .int .i64 (first.en : Int)] 116) (.cells #[.int .i64 0, .string ⟨#[]⟩, .slice none 0 0, .int .i64 0, .int .i64 0, .int .i64 0, .int .i64 0, .string ⟨#[]⟩, .int .i64 0, .int .i64 0, .int .i64 0, .string ⟨#[]⟩, .int .i64 0, .int .i64 0] 56))
  obtain ⟨res, hres⟩ : ∃ res, atomP c f termKs first (t :: R) = res := ⟨_, rfl⟩
  have HAt := hide (fun (W : World) (ha : Ahead W p ao cap L c f (t :: R)) => atom_any first ha hname)
  rw [hres] at HAt ⊢
  unfold tokV at HL HAt ⊢
  clear HE h1 h11 h hres
  cases res with
  | bad ec eo =>
    simp only []
    unfold LitPost
    go_enter Tryz.func78, Tryz.ntmps78
    go_wp2_with (first | (go_at_call 69; refine (HL.out _ (below2a _ _ _)).mono ?_; rintro e w1 ⟨rfl, hb1⟩; have HA1 := hide ((H0.out.kept (below2a _ _ _)).kept hb1); have HB1 := hide (HB.out.below hb1); clear hb1; obtain ⟨x0, x1, x2, x3, x4, x5⟩ := tok_cells HB1.out.b0))
    go_region_with (first
      | (go_at_call 73; refine (HAt.out _ (by first | exact HA1.out.drew | exact HA1.out)).mono ?_; intro e w2 hq; obtain ⟨rfl, ho2⟩ := atmPost_bad hq; clear hq; refine panic_ends (P := Tryz.prog) (w := w2) ⟨rfl, rfl, by first | exact only_drop (HB1.out.drew.move ho2).on | exact only_drop (HB1.out.move ho2).on⟩ ?_))
    all_goals trivial
  | ok a r2 =>
    simp only []
    unfold LitPost
    go_enter Tryz.func78, Tryz.ntmps78
    go_wp2_with (first | (go_at_call 69; refine (HL.out _ (below2a _ _ _)).mono ?_; rintro e w1 ⟨rfl, hb1⟩; have HA1 := hide ((H0.out.kept (below2a _ _ _)).kept hb1); have HB1 := hide (HB.out.below hb1); clear hb1; obtain ⟨x0, x1, x2, x3, x4, x5⟩ := tok_cells HB1.out.b0))
    go_region_held3 (fun w' => w'.cell? ⟨w.heap.size, 0, none⟩ = some (.int .i64 first.k) ∧ w'.cell? ⟨w.heap.size, 1, none⟩ = some (.string first.t) ∧ w'.cell? ⟨w.heap.size, 2, none⟩ = some (.int .i64 first.n) ∧ w'.cell? ⟨w.heap.size, 3, none⟩ = some (.int .i64 first.op) ∧ w'.cell? ⟨w.heap.size, 4, none⟩ = some (.int .i64 (first.off : Int)) ∧ w'.cell? ⟨w.heap.size, 5, none⟩ = some (.int .i64 (first.en : Int)))
      (first | (with_reducible exact z6) | (go_keep; done))
      (first
        | (go_at_call 73; refine (HAt.out _ (by first | exact HA1.out.drew | exact HA1.out)).mono ?_; intro e w2 hq; obtain ⟨⟨ap, av, aoff, ats⟩, rfl, hpur, hok, ha2, ho2⟩ := atmPost_ok hq; clear hq; obtain ⟨va, vc, rfl, -⟩ := (show Lst elTrm _ _ av ats from hok.2.2).shape; have HA2 := hide ha2; have HB2 := hide (HB1.out.drew.move ho2); have HPu := hide hpur; have HOk := hide hok; clear ha2 ho2 hpur hok; have z6 := tok_cells HB2.out.b0; obtain ⟨⟨k0, k1, k2, k3, k4, k5, k6, k7, k8, k9, k10, k11, k12, k13⟩, ⟨l0, l1, l2, l3, l4, l5, l6, l7, l8, l9, l10, l11, l12, l13⟩⟩ := boxL_cells HB2.out.b1; unfold Atx.val))
    go_wp2
    refine bodyPost_ret (litRes _ (w.heap.size + 1) _ _ _ _ _ _ _ _ _ _ _ _ _ _ _ rfl (boxL_put HB2.out.b1 _ _ _ _ _ _ _ _ _ _ _ _ _ _)) rfl ?_
    exact lit_fin H0.out HA2.out HB2.out ⟨1, ⟨ap, _, aoff, ats⟩, 0, zeroTrm, zeroTrm, first.off⟩ _ (by unfold Lix.pur; rw [HPu.out]) ⟨i64_1, HOk.out, i64_0, zeroTrm_ok, zeroTrm_ok, (good_parts hname).2⟩ HB1.out.lt _ _ _ _ _ _ _ _ _ _ _ _ _ _
end Go.Proofs.YtnpmdepbfobebaaGreatDoor

namespace Go.Proofs.YtnpmdepbfobebaaGreatDoor
set_option linter.unusedSimpArgs false
set_option linter.unusedVariables false
open Go.RowKit

def zeroAtx : Atx := ⟨⟨#[]⟩, .slice none 0 0, 0, []⟩
theorem zeroAtx_ok (w : World) (F : Nat → Prop) : elAtx.ok w F zeroAtx := ⟨by unfold zeroAtx; decide, i64_0, Lst.nil _ _ _⟩
def testP (c f : Int) (first : Tok) (R : List Tok) : PR PLit := match takeP c f [11] R with
  | .bad c o => PR.bad c o
  | .ok o1 r' => match takeP c f termKs r' with
    | .bad c o => .bad c o
    | .ok t2 r'' => .ok ⟨3, zeroAtom, o1.op, termP first, termP t2, first.off⟩ r''

set_option maxHeartbeats 4000000 in
set_option maxRecDepth 100000 in
theorem lit_testB {w : World} {p : Nat} {ao : Option Addr} {cap : Nat} {L : List Tok} {c f : Int} {R : List Tok} (first : Tok) (h : Ahead w p ao cap L c f R) (hname : first.good) (h10 : first.k ≠ 10) (h1 : first.k ≠ 1) :
    Calls Tryz.prog 78 #[.pointer (some ⟨p, 0, none⟩), tokV first] w (LitPost w p ao cap L c f (litP c f first R)) := by
  have e10 : (first.k == 10) = false := by simpa using h10
  have e1 : (first.k == 1) = false := by simpa using h1
  have HE : litP c f first R = testP c f first R := by unfold litP testP; rw [if_neg h10]; simp only; rw [if_neg h1]; rfl
  rw [HE]
  have H0 := hide h
  have hp := h.lt
  have HB := hide (TwoBox.start (w := w) hp (.cells #[.int .i64 first.k, .string first.t, .int .i64 first.n, .int .i64 first.op, .int .i64 (first.off : Int), .int .i64 (first.en : Int)] 116) (.cells #[.int .i64 0, .string ⟨#[]⟩, .slice none 0 0, .int .i64 0, .int .i64 0, .int .i64 0, .int .i64 0, .string ⟨#[]⟩, .int .i64 0, .int .i64 0, .int .i64 0, .string ⟨#[]⟩, .int .i64 0, .int .i64 0] 56))
  have HF := hide (termOf_any first)
  unfold tokV at HF ⊢
  unfold Trm.val at HF
  have HA1 := hide (H0.out.kept (below2a w (.cells #[.int .i64 first.k, .string first.t, .int .i64 first.n, .int .i64 first.op, .int .i64 (first.off : Int), .int .i64 (first.en : Int)] 116) (.cells #[.int .i64 0, .string ⟨#[]⟩, .slice none 0 0, .int .i64 0, .int .i64 0, .int .i64 0, .int .i64 0, .string ⟨#[]⟩, .int .i64 0, .int .i64 0, .int .i64 0, .string ⟨#[]⟩, .int .i64 0, .int .i64 0] 56)))
  have HB1 := HB
  clear h h10 h1 HE
  cases hT : takeP c f [11] R with
  | bad ec eo =>
    have HT : Hid (∀ (W : World) (n : Nat), W.heap.size = n → Ahead W p ao cap L c f R → Calls Tryz.prog 51 #[.pointer (some ⟨p, 0, none⟩), .slice (some ⟨n, 0, none⟩) 1 1] (W.alloc (.cells #[.int .i64 11] 3)) fun e w' => e = PEnd ec eo ∧ Below W.heap.size W w') := fun W n hn ha => hn ▸ take_lit_fail [11] ha (by decide) hT
    rw [show testP c f first R = .bad ec eo from by unfold testP; rw [hT]]
    clear hT
    unfold LitPost
    go_enter Tryz.func78, Tryz.ntmps78
    go_wp2_with (first
      | (go_at_call 51; refine (HT.out _ _ (by simp) HA1.out).mono ?_; rintro e w2 ⟨rfl, hb2⟩))
    exact ⟨rfl, rfl, only_drop (HB1.out.below hb2).on⟩
  | ok o1 r1 =>
    have HT : Hid (∀ (W : World) (n : Nat), W.heap.size = n → Ahead W p ao cap L c f R → Calls Tryz.prog 51 #[.pointer (some ⟨p, 0, none⟩), .slice (some ⟨n, 0, none⟩) 1 1] (W.alloc (.cells #[.int .i64 11] 3)) fun e w' => e = .returned (tokV o1) ∧ Ahead w' p ao cap L c f r1 ∧ Only (fun b => b = p) W w') := fun W n hn ha => hn ▸ take_lit_good [11] ha (by decide) hT
    have hfo := tok_op (.int .i64 o1.k) (.string o1.t) (.int .i64 o1.n) (.int .i64 o1.op) (.int .i64 (o1.off : Int)) (.int .i64 (o1.en : Int))
    have HO1 := hide (H0.out.good o1 (by rw [(take_eq hT).1]; exact List.mem_cons_self))
    have HSub : Hid (∀ t ∈ r1, t.good) := fun t ht => H0.out.good t (by rw [(take_eq hT).1]; exact List.mem_cons_of_mem _ ht)
    unfold tokV at HT
    cases hT2 : takeP c f termKs r1 with
    | bad ec eo =>
      have HP := hide (fun (W : World) (ha : Ahead W p ao cap L c f r1) => term_fail ha hT2)
      rw [show testP c f first R = .bad ec eo from by unfold testP; rw [hT]; simp only; rw [hT2]]
      clear hT hT2
      unfold LitPost
      go_enter Tryz.func78, Tryz.ntmps78
      go_wp2_with (first
      | (go_at_call 51; refine (HT.out _ _ (by simp) HA1.out).mono ?_; rintro e w2 ⟨rfl, ha2, ho2⟩; have HA2 := hide ha2; have HB2 := hide (HB1.out.move ho2); clear ha2 ho2; obtain ⟨x0, x1, x2, x3, x4, x5⟩ := tok_cells HB2.out.b0))
      go_region_with (first
        | (go_at_call 82; refine (HF.out _).mono ?_; rintro e w3 ⟨rfl, hb3⟩; have HA3 := hide (HA2.out.drew.kept hb3); have HB3 := hide (HB2.out.drew.below hb3); clear hb3; have z6 := tok_cells HB3.out.b0)
        | (go_at_call 84; refine (HP.out _ (by first | exact HA3.out | exact HA3.out.drew)).mono ?_; rintro e w4 ⟨rfl, hb4⟩; refine panic_ends (P := Tryz.prog) (w := w4) ⟨rfl, rfl, by first | exact only_drop (HB3.out.below hb4).on | exact only_drop (HB3.out.drew.below hb4).on⟩ ?_))
      all_goals trivial
    | ok t2 r2 =>
      have HP := hide (fun (W : World) (ha : Ahead W p ao cap L c f r1) => term_good ha hT2)
      have HT2 := hide (HSub.out t2 (by rw [(take_eq hT2).1]; exact List.mem_cons_self))
      unfold Trm.val at HP
      rw [show testP c f first R = .ok ⟨3, zeroAtom, o1.op, termP first, termP t2, first.off⟩ r2 from by unfold testP; rw [hT]; simp only; rw [hT2]]
      clear hT hT2
      unfold LitPost
      go_enter Tryz.func78, Tryz.ntmps78
      go_wp2_with (first
      | (go_at_call 51; refine (HT.out _ _ (by simp) HA1.out).mono ?_; rintro e w2 ⟨rfl, ha2, ho2⟩; have HA2 := hide ha2; have HB2 := hide (HB1.out.move ho2); clear ha2 ho2; obtain ⟨x0, x1, x2, x3, x4, x5⟩ := tok_cells HB2.out.b0))
      go_region_held3 (fun w' => w'.cell? ⟨w.heap.size, 0, none⟩ = some (.int .i64 first.k) ∧ w'.cell? ⟨w.heap.size, 1, none⟩ = some (.string first.t) ∧ w'.cell? ⟨w.heap.size, 2, none⟩ = some (.int .i64 first.n) ∧ w'.cell? ⟨w.heap.size, 3, none⟩ = some (.int .i64 first.op) ∧ w'.cell? ⟨w.heap.size, 4, none⟩ = some (.int .i64 (first.off : Int)) ∧ w'.cell? ⟨w.heap.size, 5, none⟩ = some (.int .i64 (first.en : Int)))
        (first | (with_reducible exact z6) | (with_reducible exact z7) | (go_keep; done))
        (first
        | (go_at_call 82; refine (HF.out _).mono ?_; rintro e w3 ⟨rfl, hb3⟩; have HA3 := hide (HA2.out.drew.kept hb3); have HB3 := hide (HB2.out.drew.below hb3); clear hb3; have z6 := tok_cells HB3.out.b0)
        | (go_at_call 84; refine (HP.out _ (by first | exact HA3.out | exact HA3.out.drew)).mono ?_; rintro e w4 ⟨rfl, ha4, ho4⟩; have HA4 := hide ha4; have HB4 := hide (HB3.out.move ho4); clear ha4 ho4; have z7 := tok_cells HB4.out.b0; obtain ⟨⟨k0, k1, k2, k3, k4, k5, k6, k7, k8, k9, k10, k11, k12, k13⟩, ⟨l0, l1, l2, l3, l4, l5, l6, l7, l8, l9, l10, l11, l12, l13⟩⟩ := boxL_cells HB4.out.b1))
      go_wp2
      refine bodyPost_ret (litRes _ (w.heap.size + 1) _ _ _ _ _ _ _ _ _ _ _ _ _ _ _ rfl (boxL_put HB4.out.b1 _ _ _ _ _ _ _ _ _ _ _ _ _ _)) rfl ?_
      exact lit_fin H0.out HA4.out HB4.out ⟨3, zeroAtx, o1.op, termP first, termP t2, first.off⟩ _ rfl ⟨i64_3, zeroAtx_ok _ _, HO1.out.2.2.2.1, termP_ok hname, termP_ok HT2.out, (good_parts hname).2⟩ (Nat.le_refl (w.heap.size + 2)) _ _ _ _ _ _ _ _ _ _ _ _ _ _

set_option maxHeartbeats 4000000 in
set_option maxRecDepth 100000 in
theorem lit_testA {w : World} {p : Nat} {ao : Option Addr} {cap : Nat} {L : List Tok} {c f : Int} {t : Tok} {R : List Tok} (first : Tok) (h : Ahead w p ao cap L c f (t :: R)) (hname : first.good) (h1 : first.k = 1) (h11 : t.k = 11) :
    Calls Tryz.prog 78 #[.pointer (some ⟨p, 0, none⟩), tokV first] w (LitPost w p ao cap L c f (litP c f first (t :: R))) := by
  have e10 : (first.k == 10) = false := by simp; omega
  have e1 : (first.k == 1) = true := by simpa using h1
  have e11 : (t.k != 11) = false := by simpa using h11
  have HE : litP c f first (t :: R) = testP c f first (t :: R) := by unfold litP testP; rw [if_neg (by omega)]; simp only; rw [if_pos h1, if_pos h11]; rfl
  rw [HE]
  have HL := hide (fun W (hb : Below w.heap.size w W) => look_good (h.kept hb))
  have hfd := tok_kind (.int .i64 t.k) (.string t.t) (.int .i64 t.n) (.int .i64 t.op) (.int .i64 (t.off : Int)) (.int .i64 (t.en : Int))
  have H0 := hide h
  have hp := h.lt
  have HB := hide (TwoBox.start (w := w) hp (.cells #[.int .i64 first.k, .string first.t, .int .i64 first.n, .int .i64 first.op, .int .i64 (first.off : Int), .int .i64 (first.en : Int)] 116) (.cells #[.int .i64 0, .string ⟨#[]⟩, .slice none 0 0, .int .i64 0, .int .i64 0, .int .i64 0, .int .i64 0, .string ⟨#[]⟩, .int .i64 0, .int .i64 0, .int .i64 0, .string ⟨#[]⟩, .int .i64 0, .int .i64 0] 56))
  have HF := hide (termOf_any first)
  unfold tokV at HF ⊢
  unfold Trm.val at HF
  unfold tokV at HL
  clear h h1 h11 HE
  cases hT : takeP c f [11] (t :: R) with
  | bad ec eo =>
    have HT : Hid (∀ (W : World) (n : Nat), W.heap.size = n → Ahead W p ao cap L c f (t :: R) → Calls Tryz.prog 51 #[.pointer (some ⟨p, 0, none⟩), .slice (some ⟨n, 0, none⟩) 1 1] (W.alloc (.cells #[.int .i64 11] 3)) fun e w' => e = PEnd ec eo ∧ Below W.heap.size W w') := fun W n hn ha => hn ▸ take_lit_fail [11] ha (by decide) hT
    rw [show testP c f first (t :: R) = .bad ec eo from by unfold testP; rw [hT]]
    clear hT
    unfold LitPost
    go_enter Tryz.func78, Tryz.ntmps78
    go_wp2_with (first
      | (go_at_call 69; refine (HL.out _ (below2a _ _ _)).mono ?_; rintro e w1 ⟨rfl, hb1⟩; have HA1 := hide ((H0.out.kept (below2a _ _ _)).kept hb1); have HB1 := hide (HB.out.below hb1); clear hb1; obtain ⟨x0, x1, x2, x3, x4, x5⟩ := tok_cells HB1.out.b0)
      | (go_at_call 51; refine (HT.out _ _ (by simp) HA1.out).mono ?_; rintro e w2 ⟨rfl, hb2⟩))
    exact ⟨rfl, rfl, only_drop (HB1.out.below hb2).on⟩
  | ok o1 r1 =>
    have HT : Hid (∀ (W : World) (n : Nat), W.heap.size = n → Ahead W p ao cap L c f (t :: R) → Calls Tryz.prog 51 #[.pointer (some ⟨p, 0, none⟩), .slice (some ⟨n, 0, none⟩) 1 1] (W.alloc (.cells #[.int .i64 11] 3)) fun e w' => e = .returned (tokV o1) ∧ Ahead w' p ao cap L c f r1 ∧ Only (fun b => b = p) W w') := fun W n hn ha => hn ▸ take_lit_good [11] ha (by decide) hT
    have hfo := tok_op (.int .i64 o1.k) (.string o1.t) (.int .i64 o1.n) (.int .i64 o1.op) (.int .i64 (o1.off : Int)) (.int .i64 (o1.en : Int))
    have HO1 := hide (H0.out.good o1 (by rw [(take_eq hT).1]; exact List.mem_cons_self))
    have HSub : Hid (∀ t ∈ r1, t.good) := fun t ht => H0.out.good t (by rw [(take_eq hT).1]; exact List.mem_cons_of_mem _ ht)
    unfold tokV at HT
    cases hT2 : takeP c f termKs r1 with
    | bad ec eo =>
      have HP := hide (fun (W : World) (ha : Ahead W p ao cap L c f r1) => term_fail ha hT2)
      rw [show testP c f first (t :: R) = .bad ec eo from by unfold testP; rw [hT]; simp only; rw [hT2]]
      clear hT hT2
      unfold LitPost
      go_enter Tryz.func78, Tryz.ntmps78
      go_wp2_with (first
      | (go_at_call 69; refine (HL.out _ (below2a _ _ _)).mono ?_; rintro e w1 ⟨rfl, hb1⟩; have HA1 := hide ((H0.out.kept (below2a _ _ _)).kept hb1); have HB1 := hide (HB.out.below hb1); clear hb1; obtain ⟨x0, x1, x2, x3, x4, x5⟩ := tok_cells HB1.out.b0)
      | (go_at_call 51; refine (HT.out _ _ (by simp) HA1.out).mono ?_; rintro e w2 ⟨rfl, ha2, ho2⟩; have HA2 := hide ha2; have HB2 := hide (HB1.out.move ho2); clear ha2 ho2; obtain ⟨x0, x1, x2, x3, x4, x5⟩ := tok_cells HB2.out.b0))
      go_region_with (first
        | (go_at_call 82; refine (HF.out _).mono ?_; rintro e w3 ⟨rfl, hb3⟩; have HA3 := hide (HA2.out.drew.kept hb3); have HB3 := hide (HB2.out.drew.below hb3); clear hb3; have z6 := tok_cells HB3.out.b0)
        | (go_at_call 84; refine (HP.out _ (by first | exact HA3.out | exact HA3.out.drew)).mono ?_; rintro e w4 ⟨rfl, hb4⟩; refine panic_ends (P := Tryz.prog) (w := w4) ⟨rfl, rfl, by first | exact only_drop (HB3.out.below hb4).on | exact only_drop (HB3.out.drew.below hb4).on⟩ ?_))
      all_goals trivial
    | ok t2 r2 =>
      have HP := hide (fun (W : World) (ha : Ahead W p ao cap L c f r1) => term_good ha hT2)
      have HT2 := hide (HSub.out t2 (by rw [(take_eq hT2).1]; exact List.mem_cons_self))
      unfold Trm.val at HP
      rw [show testP c f first (t :: R) = .ok ⟨3, zeroAtom, o1.op, termP first, termP t2, first.off⟩ r2 from by unfold testP; rw [hT]; simp only; rw [hT2]]
      clear hT hT2
      unfold LitPost
      go_enter Tryz.func78, Tryz.ntmps78
      go_wp2_with (first
      | (go_at_call 69; refine (HL.out _ (below2a _ _ _)).mono ?_; rintro e w1 ⟨rfl, hb1⟩; have HA1 := hide ((H0.out.kept (below2a _ _ _)).kept hb1); have HB1 := hide (HB.out.below hb1); clear hb1; obtain ⟨x0, x1, x2, x3, x4, x5⟩ := tok_cells HB1.out.b0)
      | (go_at_call 51; refine (HT.out _ _ (by simp) HA1.out).mono ?_; rintro e w2 ⟨rfl, ha2, ho2⟩; have HA2 := hide ha2; have HB2 := hide (HB1.out.move ho2); clear ha2 ho2; obtain ⟨x0, x1, x2, x3, x4, x5⟩ := tok_cells HB2.out.b0))
      go_region_held3 (fun w' => w'.cell? ⟨w.heap.size, 0, none⟩ = some (.int .i64 first.k) ∧ w'.cell? ⟨w.heap.size, 1, none⟩ = some (.string first.t) ∧ w'.cell? ⟨w.heap.size, 2, none⟩ = some (.int .i64 first.n) ∧ w'.cell? ⟨w.heap.size, 3, none⟩ = some (.int .i64 first.op) ∧ w'.cell? ⟨w.heap.size, 4, none⟩ = some (.int .i64 (first.off : Int)) ∧ w'.cell? ⟨w.heap.size, 5, none⟩ = some (.int .i64 (first.en : Int)))
        (first | (with_reducible exact z6) | (with_reducible exact z7) | (go_keep; done))
        (first
        | (go_at_call 82; refine (HF.out _).mono ?_; rintro e w3 ⟨rfl, hb3⟩; have HA3 := hide (HA2.out.drew.kept hb3); have HB3 := hide (HB2.out.drew.below hb3); clear hb3; have z6 := tok_cells HB3.out.b0)
        | (go_at_call 84; refine (HP.out _ (by first | exact HA3.out | exact HA3.out.drew)).mono ?_; rintro e w4 ⟨rfl, ha4, ho4⟩; have HA4 := hide ha4; have HB4 := hide (HB3.out.move ho4); clear ha4 ho4; have z7 := tok_cells HB4.out.b0; obtain ⟨⟨k0, k1, k2, k3, k4, k5, k6, k7, k8, k9, k10, k11, k12, k13⟩, ⟨l0, l1, l2, l3, l4, l5, l6, l7, l8, l9, l10, l11, l12, l13⟩⟩ := boxL_cells HB4.out.b1))
      go_wp2
      refine bodyPost_ret (litRes _ (w.heap.size + 1) _ _ _ _ _ _ _ _ _ _ _ _ _ _ _ rfl (boxL_put HB4.out.b1 _ _ _ _ _ _ _ _ _ _ _ _ _ _)) rfl ?_
      exact lit_fin H0.out HA4.out HB4.out ⟨3, zeroAtx, o1.op, termP first, termP t2, first.off⟩ _ rfl ⟨i64_3, zeroAtx_ok _ _, HO1.out.2.2.2.1, termP_ok hname, termP_ok HT2.out, (good_parts hname).2⟩ (Nat.le_refl (w.heap.size + 2)) _ _ _ _ _ _ _ _ _ _ _ _ _ _

/-- A literal that a token begins. -/
theorem literal_any {w : World} {p : Nat} {ao : Option Addr} {cap : Nat} {L : List Tok} {c f : Int} {R : List Tok} (first : Tok) (h : Ahead w p ao cap L c f R) (hname : first.good) :
    Calls Tryz.prog 78 #[.pointer (some ⟨p, 0, none⟩), tokV first] w (LitPost w p ao cap L c f (litP c f first R)) := by
  by_cases h10 : first.k = 10
  · exact lit_not first h hname h10
  by_cases h1 : first.k = 1
  · match R, h with
    | [], h => exact lit_none first h hname h1
    | t :: r, h =>
      by_cases h11 : t.k = 11
      · exact lit_testA first h hname h1 h11
      · exact lit_pos first h hname h1 h11
  · exact lit_testB first h hname h10 h1
end Go.Proofs.YtnpmdepbfobebaaGreatDoor

namespace Go.Proofs.YtnpmdepbfobebaaGreatDoor
set_option linter.unusedSimpArgs false
set_option linter.unusedVariables false
open Go.RowKit

theorem Tryz.infoLit : (Tryz.prog.info? 56).map (fun i => (i.zero, i.size, i.bytes)) = some (some (.agg #[.int .i64 0, .string ⟨#[]⟩, .slice none 0 0, .int .i64 0, .int .i64 0, .int .i64 0, .int .i64 0, .string ⟨#[]⟩, .int .i64 0, .int .i64 0, .int .i64 0, .string ⟨#[]⟩, .int .i64 0, .int .i64 0]), 14, 152) := by kernel_rfl

theorem limit_eq (n m c o : Int) (w : World) (h : n = m) : Calls Tryz.prog 53 #[.int .i64 n, .int .i64 m, .int .i64 c, .int .i64 o] w fun e w' => e = PEnd c o ∧ w' = w := by
  subst h
  exact limit_bad n c o w

/-- A reader and a list of the caller's own that grows, all in new memory. -/
structure Coll3 {α : Type} (E : El α) (e : TypeId) (w wr : World) (p : Nat) (ao : Option Addr) (cap : Nat) (L : List Tok) (c f : Int) (R : List Tok) (base : Nat) (v : Value) (l : List α) : Prop where
  ah : Ahead wr p ao cap L c f R
  gr : Grow E e base wr v l
  on : Only (fun k => k = p ∨ w.heap.size ≤ k) w wr
  pl : p < w.heap.size
  tk : ∀ g, ao = some ⟨g, 0, none⟩ → 0 < L.length → g < w.heap.size
  lo : w.heap.size ≤ base
  hi : base ≤ wr.heap.size
section
variable {α : Type} {E : El α} {e : TypeId} {w wr wr' : World} {p : Nat} {ao : Option Addr} {cap : Nat} {L : List Tok} {c f : Int} {R R' : List Tok} {base : Nat} {v : Value} {l : List α}
theorem Coll3.move (h : Coll3 E e w wr p ao cap L c f R base v l) (ho : Only (fun k => k = p) wr wr') (ha : Ahead wr' p ao cap L c f R') : Coll3 E e w wr' p ao cap L c f R' base v l :=
  have hp := h.pl
  have hl := h.lo
  ⟨ha, h.gr.above fun b hb hlt => ho.block b hlt (by omega), h.on.trans (ho.mono fun k _ e => .inl e), h.pl, h.tk, h.lo, Nat.le_trans h.hi ho.size⟩
theorem Coll3.below (h : Coll3 E e w wr p ao cap L c f R base v l) (hb : Below wr.heap.size wr wr') : Coll3 E e w wr' p ao cap L c f R base v l :=
  h.move (Only.of_below hb _) (h.ah.kept hb)
theorem Coll3.grown (h : Coll3 E e w wr p ao cap L c f R base v l) {v' : Value} {l' : List α} (hg : wr.grownBy wr' v.ownBlock) (hG : Grow E e base wr' v' l') : Coll3 E e w wr' p ao cap L c f R base v' l' := by
  have hp := h.pl
  have hl := h.lo
  have ho : Only (fun k => base ≤ k) wr wr' := (Only.refl _ wr).grown hg (fun k hk _ => own_new h.gr.1 k hk)
  refine ⟨?_, hG, h.on.trans (ho.mono fun k _ (e : base ≤ k) => .inr (by omega)), h.pl, h.tk, h.lo, Nat.le_trans h.hi ho.size⟩
  obtain ⟨i, q1, q2⟩ := h.ah
  exact ⟨i, q1.only ho (by omega) (fun g hg hl => by have := h.tk g hg hl; omega), q2⟩
theorem Coll3.start (h : Ahead w p ao cap L c f R) : Coll3 E e w w p ao cap L c f R w.heap.size (.slice none 0 0) [] :=
  ⟨h, Grow.nil _ _ _ _, Only.refl _ _, h.lt, h.tk, Nat.le_refl _, Nat.le_refl _⟩
theorem Coll3.endM (h : Coll3 E e w wr p ao cap L c f R base v l) (ho : Only (fun k => k = p) wr wr') : Only (fun k => k = p) w wr' := only_drop (h.on.trans (ho.mono fun k _ e => .inl e))
theorem Coll3.end_ (h : Coll3 E e w wr p ao cap L c f R base v l) : Only (fun k => k = p) w wr := only_drop h.on
end

def BodyPost (w : World) (p : Nat) (ao : Option Addr) (cap : Nat) (L : List Tok) (c f : Int) (res : PR (List PLit)) (e : Ending) (w' : World) : Prop :=
  match res with
  | .bad ec eo => e = PEnd ec eo ∧ Only (fun k => k = p) w w'
  | .ok b r => ∃ v ls, e = .returned v ∧ ls.map Lix.pur = b ∧ ls.length ≤ 16 ∧ Grow elLix 56 w.heap.size w' v ls ∧ Ahead w' p ao cap L c f r ∧ Only (fun k => k = p) w w'
theorem bodyPost_bad {w w' : World} {p : Nat} {ao : Option Addr} {cap : Nat} {L : List Tok} {c f ec eo : Int} {e : Ending} (h : BodyPost w p ao cap L c f (.bad ec eo) e w') : e = PEnd ec eo ∧ Only (fun k => k = p) w w' := h
theorem bodyPost_ok {w w' : World} {p : Nat} {ao : Option Addr} {cap : Nat} {L : List Tok} {c f : Int} {x : List PLit} {r : List Tok} {e : Ending} (h : BodyPost w p ao cap L c f (.ok x r) e w') : ∃ v ls, e = .returned v ∧ ls.map Lix.pur = x ∧ ls.length ≤ 16 ∧ Grow elLix 56 w.heap.size w' v ls ∧ Ahead w' p ao cap L c f r ∧ Only (fun k => k = p) w w' := h

set_option maxHeartbeats 4000000 in
set_option maxRecDepth 100000 in
theorem body_any {w : World} {p : Nat} {ao : Option Addr} {cap : Nat} {L : List Tok} {c f : Int} {R : List Tok} (h : Ahead w p ao cap L c f R) :
    Calls Tryz.prog 61 #[.pointer (some ⟨p, 0, none⟩)] w (BodyPost w p ao cap L c f (bodyP c f R)) := by
  obtain ⟨res, hres⟩ : ∃ res, bodyP c f R = res := ⟨_, rfl⟩
  rw [hres]
  have HRes0 : Hid (bodyF c f (R.length + 1) [] R = res) := hres
  obtain ⟨Post, hPost⟩ : ∃ Post : Ending → World → Prop, Post = BodyPost w p ao cap L c f res := ⟨_, rfl⟩
  rw [← hPost]
  have PB : Hid (∀ ec eo w', res = .bad ec eo → Only (fun k => k = p) w w' → Post (PEnd ec eo) w') := fun ec eo w' hr ho => by
    rw [hPost, hr]; exact ⟨rfl, ho⟩
  have PG : Hid (∀ b r' v ls w', res = .ok b r' → ls.map Lix.pur = b → ls.length ≤ 16 → Grow elLix 56 w.heap.size w' v ls → Ahead w' p ao cap L c f r' → Only (fun k => k = p) w w' → Post (.returned v) w') := fun b r' v ls w' hr h1 h2 h3 h4 h5 => by
    rw [hPost, hr]; exact ⟨v, ls, rfl, h1, h2, h3, h4, h5⟩
  have HC0 := hide (Coll3.start (E := elLix) (e := 56) h)
  have HLt := hide h.lt
  clear hPost h hres
  go_enter Tryz.func61, Tryz.ntmps61
  go_wp2
  go_loopw [3] (fun v wr => ∃ (n : Nat) (ls : List Lix) (R1 : List Tok), ls.length ≤ 16 ∧ R1.length < n ∧ Hid (Coll3 elLix 56 w wr p ao cap L c f R1 w.heap.size v ls) ∧ Hid (bodyF c f n (ls.map Lix.pur) R1 = res)) (fun _ wr => 70000 - (intOf ((wr.cell? ⟨p, 4, none⟩).getD undef)).toNat)
  case atStart => exact ⟨R.length + 1, [], R, by simp, by omega, HC0, HRes0⟩
  case round =>
    clear HC0 HRes0
    obtain ⟨n, ls, R1, hls, hn, HC, HRes⟩ := hrel
    obtain ⟨n, rfl⟩ : ∃ m, n = m + 1 := ⟨n - 1, by omega⟩
    obtain ⟨va, vc, rfl, -⟩ := HC.out.gr.shape
    cases hT : takeP c f [1, 10, 2, 3, 4] R1 with
    | bad ec eo =>
      have HT : Hid (∀ (W : World) (g : Nat), W.heap.size = g → Ahead W p ao cap L c f R1 → Calls Tryz.prog 51 #[.pointer (some ⟨p, 0, none⟩), .slice (some ⟨g, 0, none⟩) 5 5] (W.alloc (.cells #[.int .i64 1, .int .i64 10, .int .i64 2, .int .i64 3, .int .i64 4] 3)) fun e w' => e = PEnd ec eo ∧ Below W.heap.size W w') := fun W g hg ha => hg ▸ take_lit_fail [1, 10, 2, 3, 4] ha (by decide) hT
      have HX : Hid (res = .bad ec eo) := by show _ = _; rw [← HRes.out]; exact body_bad1 hT
      clear hT
      go_wp2_with (go_at_call 51; refine (HT.out _ _ rfl HC.out.ah).mono ?_; rintro e w1 ⟨rfl, hb1⟩)
      exact ⟨rfl, PB.out _ _ _ HX.out (HC.out.below hb1).end_⟩
    | ok t r1 =>
      have HT : Hid (∀ (W : World) (g : Nat), W.heap.size = g → Ahead W p ao cap L c f R1 → Calls Tryz.prog 51 #[.pointer (some ⟨p, 0, none⟩), .slice (some ⟨g, 0, none⟩) 5 5] (W.alloc (.cells #[.int .i64 1, .int .i64 10, .int .i64 2, .int .i64 3, .int .i64 4] 3)) fun e w' => e = .returned (tokV t) ∧ Ahead w' p ao cap L c f r1 ∧ Only (fun b => b = p) W w') := fun W g hg ha => hg ▸ take_lit_good [1, 10, 2, 3, 4] ha (by decide) hT
      have htg : t.good := HC.out.ah.good t (by rw [(take_eq hT).1]; exact List.mem_cons_self)
      have l1 := take_len hT
      unfold tokV at HT
      by_cases h16 : ls.length = 16
      · have HLm := hide (limit_eq (ls.length : Int) 16 23 (t.off : Int) (h := by omega))
        have HX : Hid (res = .bad 23 (t.off : Int)) := by show _ = _; rw [← HRes.out]; exact body_lim hT (by rw [List.length_map]; exact h16)
        clear hT
        clear h16 hls
        go_wp2_with (first
          | (go_at_call 51; refine (HT.out _ _ rfl HC.out.ah).mono ?_; rintro e w1 ⟨rfl, ha1, ho1⟩; have HC1 := hide (HC.out.move ho1 ha1); clear ha1 ho1)
          | (go_at_call 53; refine (HLm.out _).mono ?_; rintro e w2 ⟨rfl, hw⟩; have hw := hw.symm; subst hw))
        exact ⟨rfl, PB.out _ _ _ HX.out (HC1.out.below (belowA _ _)).end_⟩
      · have HLm := hide (limit_ok (ls.length : Int) 16 23 (t.off : Int) (h := by omega))
        have hls16 : ls.length < 16 := by omega
        have HLi0 := fun (W : World) (ha : Ahead W p ao cap L c f r1) => literal_any t ha htg
        cases hrl : litP c f t r1 with
        | bad ec eo =>
          rw [hrl] at HLi0
          have HLi := hide HLi0
          have HX : Hid (res = .bad ec eo) := by show _ = _; rw [← HRes.out]; exact body_lit hT (by rw [List.length_map]; exact h16) hrl
          clear HLi0 hT hrl h16
          unfold tokV at HLi
          go_wp2_with (first
            | (go_at_call 51; refine (HT.out _ _ rfl HC.out.ah).mono ?_; rintro e w1 ⟨rfl, ha1, ho1⟩; have HC1 := hide ((HC.out.move ho1 ha1).below (belowA w1 (.cells #[.int .i64 t.k, .string t.t, .int .i64 t.n, .int .i64 t.op, .int .i64 (t.off : Int), .int .i64 (t.en : Int)] 116))); clear ha1 ho1 HT)
            | (go_at_call 53; refine (HLm.out _).mono ?_; rintro e w2 ⟨⟨v2, rfl⟩, hw⟩; have hw := hw.symm; subst hw)
            | (go_at_call 78; refine (HLi.out _ HC1.out.ah).mono ?_; intro e w3 hq; obtain ⟨rfl, ho3⟩ := litPost_bad hq; clear hq))
          exact ⟨rfl, PB.out _ _ _ HX.out (HC1.out.endM ho3)⟩
        | ok x r2 =>
          rw [hrl] at HLi0
          have HLi := hide HLi0
          unfold tokV at HLi
          clear HLi0
          have l2 := lit_len hrl
          cases hU0 : takeP c f [7, 8] r2 with
          | bad ec eo =>
            have HU : Hid (∀ (W : World) (g : Nat), W.heap.size = g → Ahead W p ao cap L c f r2 → Calls Tryz.prog 51 #[.pointer (some ⟨p, 0, none⟩), .slice (some ⟨g, 0, none⟩) 2 2] (W.alloc (.cells #[.int .i64 7, .int .i64 8] 3)) fun e w' => e = PEnd ec eo ∧ Below W.heap.size W w') := fun W g hg ha => hg ▸ take_lit_fail [7, 8] ha (by decide) hU0
            have HX : Hid (res = .bad ec eo) := by show _ = _; rw [← HRes.out]; exact body_sep hT (by rw [List.length_map]; exact h16) hrl hU0
            clear hT hrl hU0 h16
            go_wp2_with (first
              | (go_at_call 51; refine (HT.out _ _ rfl HC.out.ah).mono ?_; rintro e w1 ⟨rfl, ha1, ho1⟩; have HC1 := hide ((HC.out.move ho1 ha1).below (belowA w1 (.cells #[.int .i64 t.k, .string t.t, .int .i64 t.n, .int .i64 t.op, .int .i64 (t.off : Int), .int .i64 (t.en : Int)] 116))); clear ha1 ho1 HT)
              | (go_at_call 53; refine (HLm.out _).mono ?_; rintro e w2 ⟨⟨v2, rfl⟩, hw⟩; have hw := hw.symm; subst hw)
              | (go_at_call 78; refine (HLi.out _ HC1.out.ah).mono ?_; intro e w3 hq; obtain ⟨⟨xk, ⟨ap, av, aoff, ats⟩, xop, xl, xr, xoff⟩, rfl, hpur, hok, ha3, ho3⟩ := litPost_ok hq; clear hq; obtain ⟨xa, xc, rfl, -⟩ := (show Lst elTrm _ _ av ats from hok.2.1.2.2).shape; have HPu := hide hpur; have HOk := hide (HC1.out.gr.behind HC1.out.hi elLix hok); have HC3 := hide (HC1.out.move ho3 ha3); have HC4 := hide (HC3.out.below (belowA w3 (.cells #[.int .i64 xk, .string ap, .slice xa ats.length xc, .int .i64 aoff, .int .i64 xop, .int .i64 xl.k, .int .i64 xl.n, .string xl.s, .int .i64 xl.off, .int .i64 xr.k, .int .i64 xr.n, .string xr.s, .int .i64 xr.off, .int .i64 xoff] 56))); have HOk4 := hide (elLix.move HOk.out fun b hlt hF => ⟨hF, (belowA w3 (.cells #[.int .i64 xk, .string ap, .slice xa ats.length xc, .int .i64 aoff, .int .i64 xop, .int .i64 xl.k, .int .i64 xl.n, .string xl.s, .int .i64 xl.off, .int .i64 xr.k, .int .i64 xr.n, .string xr.s, .int .i64 xr.off, .int .i64 xoff] 56)).block b hlt⟩); clear hpur hok ha3 ho3 HOk HLi; unfold Lix.val)
              | (at_builtin; obtain ⟨i0, hi0, hz0, hz1, hz2⟩ := info_parts Tryz.infoLit; refine wpList_push (w0 := w3.alloc (.cells #[.int .i64 xk, .string ap, .slice xa ats.length xc, .int .i64 aoff, .int .i64 xop, .int .i64 xl.k, .int .i64 xl.n, .string xl.s, .int .i64 xl.off, .int .i64 xr.k, .int .i64 xr.n, .string xr.s, .int .i64 xr.off, .int .i64 xoff] 56)) elLix rfl _ _ 57 rfl w.heap.size 56 i0 _ 152 Tryz.underlying57 hi0 hz0 hz1 hz2 rfl (by decide) _ ls ls.length rfl rfl HC4.out.gr ⟨xk, ⟨ap, .slice xa ats.length xc, aoff, ats⟩, xop, xl, xr, xoff⟩ w3.heap.size 1 rfl (fun j u hu => new_cells (cs := #[.int .i64 xk, .string ap, .slice xa ats.length xc, .int .i64 aoff, .int .i64 xop, .int .i64 xl.k, .int .i64 xl.n, .string xl.s, .int .i64 xl.off, .int .i64 xr.k, .int .i64 xr.n, .string xr.s, .int .i64 xr.off, .int .i64 xoff]) j u hu) HOk4.out (by omega) (Below.refl _ _) HC4.out.hi ?_; intro g cap' w5 HG5 HB5 HGr; clear HB5 hi0 hz0 hz1 hz2; have HC5 := hide (HC4.out.grown HGr.out HG5.out); clear HG5 HGr HC4 HOk4)
              | (go_at_call 51; refine (HU.out _ _ rfl HC5.out.ah).mono ?_; rintro e w6 ⟨rfl, hb6⟩))
            exact ⟨rfl, PB.out _ _ _ HX.out (HC5.out.below hb6).end_⟩
          | ok s r3 =>
            have HU : Hid (∀ (W : World) (g : Nat), W.heap.size = g → Ahead W p ao cap L c f r2 → Calls Tryz.prog 51 #[.pointer (some ⟨p, 0, none⟩), .slice (some ⟨g, 0, none⟩) 2 2] (W.alloc (.cells #[.int .i64 7, .int .i64 8] 3)) fun e w' => e = .returned (tokV s) ∧ Ahead w' p ao cap L c f r3 ∧ Only (fun b => b = p) W w') := fun W g hg ha => hg ▸ take_lit_good [7, 8] ha (by decide) hU0
            have hfd2 := tok_kind (.int .i64 s.k) (.string s.t) (.int .i64 s.n) (.int .i64 s.op) (.int .i64 (s.off : Int)) (.int .i64 (s.en : Int))
            have l3 := take_len hU0
            unfold tokV at HU
            by_cases h8 : s.k = 8
            · have e8 : (s.k == 8) = true := by simpa using h8
              have HX : Hid (res = .ok (ls.map Lix.pur ++ [x]) r3) := by show _ = _; rw [← HRes.out]; exact body_end hT (by rw [List.length_map]; exact h16) hrl hU0 h8
              clear hT hrl hU0 h16 h8
              go_wp2_with (first
                | (go_at_call 51; refine (HT.out _ _ rfl HC.out.ah).mono ?_; rintro e w1 ⟨rfl, ha1, ho1⟩; have HC1 := hide ((HC.out.move ho1 ha1).below (belowA w1 (.cells #[.int .i64 t.k, .string t.t, .int .i64 t.n, .int .i64 t.op, .int .i64 (t.off : Int), .int .i64 (t.en : Int)] 116))); clear ha1 ho1 HT)
                | (go_at_call 53; refine (HLm.out _).mono ?_; rintro e w2 ⟨⟨v2, rfl⟩, hw⟩; have hw := hw.symm; subst hw)
                | (go_at_call 78; refine (HLi.out _ HC1.out.ah).mono ?_; intro e w3 hq; obtain ⟨⟨xk, ⟨ap, av, aoff, ats⟩, xop, xl, xr, xoff⟩, rfl, hpur, hok, ha3, ho3⟩ := litPost_ok hq; clear hq; obtain ⟨xa, xc, rfl, -⟩ := (show Lst elTrm _ _ av ats from hok.2.1.2.2).shape; have HPu := hide hpur; have HOk := hide (HC1.out.gr.behind HC1.out.hi elLix hok); have HC3 := hide (HC1.out.move ho3 ha3); have HC4 := hide (HC3.out.below (belowA w3 (.cells #[.int .i64 xk, .string ap, .slice xa ats.length xc, .int .i64 aoff, .int .i64 xop, .int .i64 xl.k, .int .i64 xl.n, .string xl.s, .int .i64 xl.off, .int .i64 xr.k, .int .i64 xr.n, .string xr.s, .int .i64 xr.off, .int .i64 xoff] 56))); have HOk4 := hide (elLix.move HOk.out fun b hlt hF => ⟨hF, (belowA w3 (.cells #[.int .i64 xk, .string ap, .slice xa ats.length xc, .int .i64 aoff, .int .i64 xop, .int .i64 xl.k, .int .i64 xl.n, .string xl.s, .int .i64 xl.off, .int .i64 xr.k, .int .i64 xr.n, .string xr.s, .int .i64 xr.off, .int .i64 xoff] 56)).block b hlt⟩); clear hpur hok ha3 ho3 HOk HLi; unfold Lix.val)
                | (at_builtin; obtain ⟨i0, hi0, hz0, hz1, hz2⟩ := info_parts Tryz.infoLit; refine wpList_push (w0 := w3.alloc (.cells #[.int .i64 xk, .string ap, .slice xa ats.length xc, .int .i64 aoff, .int .i64 xop, .int .i64 xl.k, .int .i64 xl.n, .string xl.s, .int .i64 xl.off, .int .i64 xr.k, .int .i64 xr.n, .string xr.s, .int .i64 xr.off, .int .i64 xoff] 56)) elLix rfl _ _ 57 rfl w.heap.size 56 i0 _ 152 Tryz.underlying57 hi0 hz0 hz1 hz2 rfl (by decide) _ ls ls.length rfl rfl HC4.out.gr ⟨xk, ⟨ap, .slice xa ats.length xc, aoff, ats⟩, xop, xl, xr, xoff⟩ w3.heap.size 1 rfl (fun j u hu => new_cells (cs := #[.int .i64 xk, .string ap, .slice xa ats.length xc, .int .i64 aoff, .int .i64 xop, .int .i64 xl.k, .int .i64 xl.n, .string xl.s, .int .i64 xl.off, .int .i64 xr.k, .int .i64 xr.n, .string xr.s, .int .i64 xr.off, .int .i64 xoff]) j u hu) HOk4.out (by omega) (Below.refl _ _) HC4.out.hi ?_; intro g cap' w5 HG5 HB5 HGr; clear HB5 hi0 hz0 hz1 hz2; have HC5 := hide (HC4.out.grown HGr.out HG5.out); clear HG5 HGr HC4 HOk4)
                | (go_at_call 51; refine (HU.out _ _ rfl HC5.out.ah).mono ?_; rintro e w6 ⟨rfl, ha6, ho6⟩; have HC6 := hide (HC5.out.move ho6 ha6); clear ha6 ho6))
              exact PG.out _ _ _ _ _ HX.out (by rw [List.map_append, List.map_singleton, HPu.out]) (by simp; omega) HC6.out.gr HC6.out.ah HC6.out.end_
            · have e8 : (s.k == 8) = false := by simpa using h8
              have HX : Hid (bodyF c f n (ls.map Lix.pur ++ [x]) r3 = res) := by show _ = _; rw [← HRes.out]; exact (body_more hT (by rw [List.length_map]; exact h16) hrl hU0 h8).symm
              clear hT hrl hU0 h16 h8
              have HLn : Hid (r3.length < R1.length ∧ r3.length < n) := ⟨by omega, by omega⟩
              obtain ⟨ix, isz⟩ := HC.out.ah.index
              have HIx := hide (And.intro ix isz)
              clear l1 l2 l3 ix isz
              go_wp2_with (first
                | (go_at_call 51; refine (HT.out _ _ rfl HC.out.ah).mono ?_; rintro e w1 ⟨rfl, ha1, ho1⟩; have HC1 := hide ((HC.out.move ho1 ha1).below (belowA w1 (.cells #[.int .i64 t.k, .string t.t, .int .i64 t.n, .int .i64 t.op, .int .i64 (t.off : Int), .int .i64 (t.en : Int)] 116))); clear ha1 ho1 HT)
                | (go_at_call 53; refine (HLm.out _).mono ?_; rintro e w2 ⟨⟨v2, rfl⟩, hw⟩; have hw := hw.symm; subst hw)
                | (go_at_call 78; refine (HLi.out _ HC1.out.ah).mono ?_; intro e w3 hq; obtain ⟨⟨xk, ⟨ap, av, aoff, ats⟩, xop, xl, xr, xoff⟩, rfl, hpur, hok, ha3, ho3⟩ := litPost_ok hq; clear hq; obtain ⟨xa, xc, rfl, -⟩ := (show Lst elTrm _ _ av ats from hok.2.1.2.2).shape; have HPu := hide hpur; have HOk := hide (HC1.out.gr.behind HC1.out.hi elLix hok); have HC3 := hide (HC1.out.move ho3 ha3); have HC4 := hide (HC3.out.below (belowA w3 (.cells #[.int .i64 xk, .string ap, .slice xa ats.length xc, .int .i64 aoff, .int .i64 xop, .int .i64 xl.k, .int .i64 xl.n, .string xl.s, .int .i64 xl.off, .int .i64 xr.k, .int .i64 xr.n, .string xr.s, .int .i64 xr.off, .int .i64 xoff] 56))); have HOk4 := hide (elLix.move HOk.out fun b hlt hF => ⟨hF, (belowA w3 (.cells #[.int .i64 xk, .string ap, .slice xa ats.length xc, .int .i64 aoff, .int .i64 xop, .int .i64 xl.k, .int .i64 xl.n, .string xl.s, .int .i64 xl.off, .int .i64 xr.k, .int .i64 xr.n, .string xr.s, .int .i64 xr.off, .int .i64 xoff] 56)).block b hlt⟩); clear hpur hok ha3 ho3 HOk HLi; unfold Lix.val)
                | (at_builtin; obtain ⟨i0, hi0, hz0, hz1, hz2⟩ := info_parts Tryz.infoLit; refine wpList_push (w0 := w3.alloc (.cells #[.int .i64 xk, .string ap, .slice xa ats.length xc, .int .i64 aoff, .int .i64 xop, .int .i64 xl.k, .int .i64 xl.n, .string xl.s, .int .i64 xl.off, .int .i64 xr.k, .int .i64 xr.n, .string xr.s, .int .i64 xr.off, .int .i64 xoff] 56)) elLix rfl _ _ 57 rfl w.heap.size 56 i0 _ 152 Tryz.underlying57 hi0 hz0 hz1 hz2 rfl (by decide) _ ls ls.length rfl rfl HC4.out.gr ⟨xk, ⟨ap, .slice xa ats.length xc, aoff, ats⟩, xop, xl, xr, xoff⟩ w3.heap.size 1 rfl (fun j u hu => new_cells (cs := #[.int .i64 xk, .string ap, .slice xa ats.length xc, .int .i64 aoff, .int .i64 xop, .int .i64 xl.k, .int .i64 xl.n, .string xl.s, .int .i64 xl.off, .int .i64 xr.k, .int .i64 xr.n, .string xr.s, .int .i64 xr.off, .int .i64 xoff]) j u hu) HOk4.out (by omega) (Below.refl _ _) HC4.out.hi ?_; intro g cap' w5 HG5 HB5 HGr; clear HB5 hi0 hz0 hz1 hz2; have HC5 := hide (HC4.out.grown HGr.out HG5.out); clear HG5 HGr HC4 HOk4)
                | (go_at_call 51; refine (HU.out _ _ rfl HC5.out.ah).mono ?_; rintro e w6 ⟨rfl, ha6, ho6⟩; have HC6 := hide (HC5.out.move ho6 ha6); clear ha6 ho6))
              go_roundw
              case rel => exact ⟨n, ls ++ [⟨xk, ⟨ap, .slice xa ats.length xc, aoff, ats⟩, xop, xl, xr, xoff⟩], r3, by simp; omega, HLn.out.2, HC6, by show _ = _; rw [List.map_append, List.map_singleton, HPu.out]; exact HX.out⟩
              case measure =>
                obtain ⟨jx, -⟩ := HC6.out.ah.index
                have h1 := HLn.out
                have h2 := HIx.out
                omega
end Go.Proofs.YtnpmdepbfobebaaGreatDoor
