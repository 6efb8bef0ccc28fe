/- parse's reader takes an atom without variables. parse's reader takes an atom without variables, by its name. parse's reader takes facts, and a query. The document's Facts. parse's reader takes one fact. The document's Fact. The law's own sameFact at equal facts. parse.read of one fact. parse.Fact. ParseOnes: every answer of Fact is the document's. -/
import Derived.Test.YtmdhjggijlhhgaaGreatDoorProg
import Derived.Test.YtmdhjggijlhhgaaGreatDoorParseAtom
import Derived.Test.YtmdhjggijlhhgaaGreatDoorPkC
import Derived.Test.YtmdhjggijlhhgaaGreatDoorPkD
import Derived.Test.YtmdhjggijlhhgaaGreatDoorForms
import Derived.Test.YtmdhjggijlhhgaaGreatDoorOver
import Derived.Test.YtmdhjggijlhhgaaGreatDoorParseCatch

namespace Go.Proofs.YtmdhjggijlhhgaaGreatDoor
set_option linter.unusedSimpArgs false
set_option linter.unusedVariables false
open Go.RowKit

set_option maxHeartbeats 4000000 in
set_option maxRecDepth 100000 in
theorem atomValue {w : World} {p : Nat} {ao : Option Addr} {cap : Nat} {L : List Tok} {c f : Int} {R : List Tok} (name : Tok) (h : Ahead w p ao cap L c f R) (hname : name.good) :
    Calls Tryz.prog 52 #[.pointer (some ⟨p, 0, none⟩), tokV name, .func (.func 53) #[] #[]] w (AtmPost w p ao cap L c f (atomP c f valueKs name R)) := by
  unfold tokV
  match R, h with
  | [], h =>
    have HL := hide (fun W (hb : Below w.heap.size w W) => look_none (h.kept hb))
    have HE : Hid (atomP c f valueKs name [] = .bad c f) := rfl
    rw [HE.out]
    clear HE h
    unfold AtmPost
    go_enter Tryz.func52, Tryz.ntmps52
    go_wp2_with (go_at_call 54; refine (HL.out _ (below3a _ _ _ _)).mono ?_; rintro e w1 ⟨rfl, hb⟩)
    exact ⟨rfl, rfl, Only.of_below (belowt2 (below3a _ _ _ _) hb) _⟩
  | x :: r, h =>
    have HL := hide (fun W (hb : Below w.heap.size w W) => look_good (h.kept hb))
    unfold tokV at HL
    by_cases h5 : x.k = 5
    · have hT : takeP c f [5] (x :: r) = .ok x r := by simp [takeP, h5]
      have HE : Hid (atomP c f valueKs name (x :: r) = toAtom name (argsP c f valueKs [] r)) := by show atomP _ _ _ _ _ = _; unfold atomP; simp only; rw [if_pos h5]; cases argsP c f valueKs [] r <;> rfl
      have hfd := tok_kind (.int .i64 x.k) (.string x.t) (.int .i64 x.n) (.int .i64 x.op) (.int .i64 (x.off : Int)) (.int .i64 (x.en : Int))
      have e5 : (x.k != 5) = false := by simpa using h5
      obtain ⟨res, hres⟩ : ∃ res, argsP c f valueKs [] r = res := ⟨_, rfl⟩
      rw [HE.out, hres]
      obtain ⟨Post, hPost⟩ : ∃ Post : Ending → World → Prop, Post = AtmPost w p ao cap L c f (toAtom name res) := ⟨_, rfl⟩
      rw [← hPost]
      have PB : Hid (∀ ec eo w', res = .bad ec eo → Only (fun k => k = p) w w' → Post (PEnd ec eo) w') := fun ec eo w' hr ho => by
        rw [hPost, hr]; exact ⟨rfl, ho⟩
      have PG : Hid (∀ ts r' v w', res = .ok ts r' → Lst elTrm w' (fun b => w.heap.size ≤ b) v ts → Ahead w' p ao cap L c f r' → Only (fun k => k = p) w w' → Post (.returned (.agg #[.string name.t, v, .int .i64 (name.off : Int)])) w') := fun ts r' v w' hr h1 h2 h3 => by
        rw [hPost, hr]; exact ⟨⟨name.t, v, name.off, ts⟩, rfl, rfl, ⟨(good_parts hname).1, (good_parts hname).2, h1⟩, h2, h3⟩
      have HRes := hide hres
      have H0 := hide h
      have hp := h.lt
      have HT : Hid (∀ W, Below w.heap.size w W → Calls Tryz.prog 36 #[.pointer (some ⟨p, 0, none⟩), .slice (some ⟨W.heap.size, 0, none⟩) 1 1] (W.alloc (.cells #[.int .i64 5] 3)) fun e w' => e = .returned (tokV x) ∧ Ahead w' p ao cap L c f r ∧ Only (fun b => b = p) W w') := fun W hb => take_lit_good [5] (h.kept hb) (by decide) hT
      clear HE h h5 hres hT hPost
      go_enter Tryz.func52, Tryz.ntmps52
      go_wp2_with (first
        | (go_at_call 54; refine (HL.out _ (below3a _ _ _ _)).mono ?_; rintro e w1 ⟨rfl, hb⟩; have HB := hide hb; have HW := hide (belowt2 (below3a _ _ _ _) hb); clear hb)
        | (go_at_call 36; refine (HT.out _ HW.out).mono ?_; rintro e w2 ⟨rfl, ha, ho⟩; have HA := hide ha; have HO := hide ho; clear ha ho))
      have HS : Hid (AtmLoop w w2 p ao cap L c f r name.t (name.off : Int) (.slice none 0 0) []) :=
        (AtmLoop.move ⟨H0.out.kept HW.out, atom_box2 HB.out, atom_box HB.out, World.ownsRow_nil _ _ _ _, Only.of_below HW.out _, hp, by simp, H0.out.tk⟩ HO.out HA.out : AtmLoop w w2 p ao cap L c f r name.t (name.off : Int) (.slice none 0 0) [])
      clear HA HO HT HL HB HW
      go_loopw [8] (fun _ wr => ∃ (acc : List Trm) (R : List Tok) (v : Value), acc.length ≤ 8 ∧ Hid (AtmLoop w wr p ao cap L c f R name.t (name.off : Int) v acc) ∧ Hid (argsP c f valueKs acc R = res)) (fun _ wr => 70000 - (intOf ((wr.cell? ⟨p, 4, none⟩).getD undef)).toNat)
      case atStart => exact ⟨[], r, _, by simp, HS, HRes⟩
      case round =>
        clear HS HRes hfd e5
        obtain ⟨acc, R, v, hacc, HS, HRes⟩ := hrel
        obtain ⟨ix, isz⟩ := HS.out.ah.index
        obtain ⟨vo, vc, rfl⟩ := own_shape HS.out.ow
        cases hT : takeP c f valueKs R with
        | bad ec eo =>
          have HP := hide (value_fail HS.out.ah hT)
          have HX : Hid (res = .bad ec eo) := by show _ = _; rw [← HRes.out]; exact args_bad1 hT
          clear hT
          go_wp2_with (go_at_call 53; refine HP.out.mono ?_; rintro e w3 ⟨rfl, hb⟩)
          exact ⟨rfl, PB.out _ _ _ HX.out (only_drop (HS.out.below hb).on)⟩
        | ok t r1 =>
          have HP := hide (value_good HS.out.ah hT)
          have tp := take_eq hT
          have HTok : Hid ((termP t).ok) := termP_ok (HS.out.ah.good t (by rw [tp.1]; exact List.mem_cons_self))
          unfold Trm.val at HP
          clear tp
          by_cases h8 : acc.length = 8
          · have HX : Hid (res = .bad 22 (termP t).off) := by show _ = _; rw [← HRes.out]; exact args_lim hT h8
            have HLm := hide (limit_bad 8 22 (termP t).off)
            rw [h8] at HS
            clear hT hacc
            go_wp2_with (first
              | (go_at_call 53; refine HP.out.mono ?_; rintro e w3 ⟨rfl, ha, ho⟩; have HS3 := hide (HS.out.move ho ha); clear ha ho; obtain ⟨d0, d1, d2, d3⟩ := (HS3.out.below (belowA w3 (.cells #[.int .i64 (termP t).k, .int .i64 (termP t).n, .string (termP t).s, .int .i64 (termP t).off] 58))).cells)
              | (go_at_call 44; refine (HLm.out _).mono ?_; rintro e w4 ⟨rfl, hw⟩; have hw := hw.symm; subst hw))
            exact ⟨rfl, PB.out _ _ _ HX.out (only_drop (HS3.out.below (belowA _ _)).on)⟩
          · have HLm := hide (limit_ok (acc.length : Int) 8 22 (termP t).off (h := by omega))
            have HNx := args_next (c := c) (f := f) hT h8
            have hlen1 : r1.length + 1 = R.length := by rw [(take_eq hT).1]; rfl
            have hacc8 : acc.length < 8 := by omega
            clear hT h8
            cases hU : takeP c f [7, 6] r1 with
            | bad ec eo =>
              have HX : Hid (res = .bad ec eo) := by show _ = _; rw [← HRes.out, HNx, hU]
              have HT2 : Hid (∀ (W : World) (n : Nat), W.heap.size = n → Ahead W p ao cap L c f r1 → Calls Tryz.prog 36 #[.pointer (some ⟨p, 0, none⟩), .slice (some ⟨n, 0, none⟩) 2 2] (W.alloc (.cells #[.int .i64 7, .int .i64 6] 3)) fun e w' => e = PEnd ec eo ∧ Below W.heap.size W w') := fun W n hn ha => hn ▸ take_lit_fail [7, 6] ha (by decide) hU
              clear hU HNx hlen1
              go_wp2_with (first
                | (go_at_call 53; refine HP.out.mono ?_; rintro e w3 ⟨rfl, ha, ho⟩; have HS3 := hide (HS.out.move ho ha); clear ha ho; obtain ⟨d0, d1, d2, d3⟩ := (HS3.out.below (belowA w3 (.cells #[.int .i64 (termP t).k, .int .i64 (termP t).n, .string (termP t).s, .int .i64 (termP t).off] 58))).cells; have HS5 := hide ((HS3.out.below (belowA w3 (.cells #[.int .i64 (termP t).k, .int .i64 (termP t).n, .string (termP t).s, .int .i64 (termP t).off] 58))).below (belowA _ (.cells #[.int .i64 (termP t).k, .int .i64 (termP t).n, .string (termP t).s, .int .i64 (termP t).off] 58))))
                | (go_at_call 44; refine (HLm.out _).mono ?_; rintro e w4 ⟨⟨v4, rfl⟩, hw⟩; have hw := hw.symm; subst hw)
                | (at_builtin; obtain ⟨i0, hi0, hz0, hz1, hz2⟩ := info_parts Tryz.infoTerm; refine wpList_push (w0 := (w3.alloc (.cells #[.int .i64 (termP t).k, .int .i64 (termP t).n, .string (termP t).s, .int .i64 (termP t).off] 58)).alloc (.cells #[.int .i64 (termP t).k, .int .i64 (termP t).n, .string (termP t).s, .int .i64 (termP t).off] 58)) elTrm rfl _ _ 53 rfl (w.heap.size + 3) 58 i0 _ 40 Tryz.underlying53 hi0 hz0 hz1 hz2 rfl (by decide) _ acc acc.length rfl rfl HS5.out.grow (termP t) (w3.heap.size + 1) 1 rfl (fun j u hu => by have := new_cells (w := w3.alloc (.cells #[.int .i64 (termP t).k, .int .i64 (termP t).n, .string (termP t).s, .int .i64 (termP t).off] 58)) (cs := #[.int .i64 (termP t).k, .int .i64 (termP t).n, .string (termP t).s, .int .i64 (termP t).off]) (t := 58) j u hu; simpa using this) HTok.out (by omega) (Below.refl _ _) HS5.out.base ?_; intro g cap' w5 HG5 HB5 HGr; clear HB5 hi0 hz0 hz1 hz2; obtain ⟨f0, f1⟩ := HS5.out.far HGr.out; have HS6 := hide (HS5.out.pushG HTok.out HGr.out HG5.out); clear HG5 HGr)
                | (go_at_call 36; refine (HT2.out _ _ (by simp) HS6.out.ah).mono ?_; rintro e w6 ⟨rfl, hb6⟩))
              exact ⟨rfl, PB.out _ _ _ HX.out (only_drop (HS6.out.below hb6).on)⟩
            | ok s r2 =>
              have HT2 : Hid (∀ (W : World) (n : Nat), W.heap.size = n → Ahead W p ao cap L c f r1 → Calls Tryz.prog 36 #[.pointer (some ⟨p, 0, none⟩), .slice (some ⟨n, 0, none⟩) 2 2] (W.alloc (.cells #[.int .i64 7, .int .i64 6] 3)) fun e w' => e = .returned (tokV s) ∧ Ahead w' p ao cap L c f r2 ∧ Only (fun b => b = p) W w') := fun W n hn ha => hn ▸ take_lit_good [7, 6] ha (by decide) hU
              have hfd2 := tok_kind (.int .i64 s.k) (.string s.t) (.int .i64 s.n) (.int .i64 s.op) (.int .i64 (s.off : Int)) (.int .i64 (s.en : Int))
              have hs76 := (take_eq hU).2
              have hlen2 : r2.length + 2 = R.length := by rw [← hlen1, (take_eq hU).1]; rfl
              unfold tokV at HT2
              by_cases h6 : s.k = 6
              · have e6 : (s.k == 6) = true := by simpa using h6
                have HX : Hid (res = .ok (acc ++ [termP t]) r2) := by show _ = _; rw [← HRes.out, HNx, hU]; simp only; rw [if_neg (by omega)]
                clear hU HNx hlen1 hlen2 hs76 h6
                go_wp2_with (first
                | (go_at_call 53; refine HP.out.mono ?_; rintro e w3 ⟨rfl, ha, ho⟩; have HS3 := hide (HS.out.move ho ha); clear ha ho; obtain ⟨d0, d1, d2, d3⟩ := (HS3.out.below (belowA w3 (.cells #[.int .i64 (termP t).k, .int .i64 (termP t).n, .string (termP t).s, .int .i64 (termP t).off] 58))).cells; have HS5 := hide ((HS3.out.below (belowA w3 (.cells #[.int .i64 (termP t).k, .int .i64 (termP t).n, .string (termP t).s, .int .i64 (termP t).off] 58))).below (belowA _ (.cells #[.int .i64 (termP t).k, .int .i64 (termP t).n, .string (termP t).s, .int .i64 (termP t).off] 58))))
                | (go_at_call 44; refine (HLm.out _).mono ?_; rintro e w4 ⟨⟨v4, rfl⟩, hw⟩; have hw := hw.symm; subst hw)
                | (at_builtin; obtain ⟨i0, hi0, hz0, hz1, hz2⟩ := info_parts Tryz.infoTerm; refine wpList_push (w0 := (w3.alloc (.cells #[.int .i64 (termP t).k, .int .i64 (termP t).n, .string (termP t).s, .int .i64 (termP t).off] 58)).alloc (.cells #[.int .i64 (termP t).k, .int .i64 (termP t).n, .string (termP t).s, .int .i64 (termP t).off] 58)) elTrm rfl _ _ 53 rfl (w.heap.size + 3) 58 i0 _ 40 Tryz.underlying53 hi0 hz0 hz1 hz2 rfl (by decide) _ acc acc.length rfl rfl HS5.out.grow (termP t) (w3.heap.size + 1) 1 rfl (fun j u hu => by have := new_cells (w := w3.alloc (.cells #[.int .i64 (termP t).k, .int .i64 (termP t).n, .string (termP t).s, .int .i64 (termP t).off] 58)) (cs := #[.int .i64 (termP t).k, .int .i64 (termP t).n, .string (termP t).s, .int .i64 (termP t).off]) (t := 58) j u hu; simpa using this) HTok.out (by omega) (Below.refl _ _) HS5.out.base ?_; intro g cap' w5 HG5 HB5 HGr; clear HB5 hi0 hz0 hz1 hz2; obtain ⟨f0, f1⟩ := HS5.out.far HGr.out; have HS6 := hide (HS5.out.pushG HTok.out HGr.out HG5.out); clear HG5 HGr)
                  | (go_at_call 36; refine (HT2.out _ _ (by simp) HS6.out.ah).mono ?_; rintro e w6 ⟨rfl, ha, ho⟩; have HS7 := hide (HS6.out.move ho ha); clear ha ho; obtain ⟨y0, y1, y2, y3⟩ := HS7.out.cells; obtain ⟨q0, q1, q2, q3, q4, q5⟩ := HS7.out.box))
                obtain ⟨z1, z2, z3⟩ := HS7.out.fin (by simp; omega) (.string name.t) (.slice (some ⟨g, 0, none⟩) (acc.length + 1) cap') (.int .i64 (name.off : Int))
                exact bodyPost_ret (atom_res _ (w.heap.size + 1) _ _ _ _ rfl (box3_put HS7.out.br _ _ _)) rfl (PG.out _ _ _ _ HX.out z1 z2 z3)
              · have e6 : (s.k == 6) = false := by simpa using h6
                have HX : Hid (argsP c f valueKs (acc ++ [termP t]) r2 = res) := by show _ = _; rw [← HRes.out, HNx, hU]; simp only; rw [if_pos (by simp at hs76; omega)]
                clear hU HNx hlen1 hs76 h6
                have HL2 := hide hlen2
                clear hlen2
                go_wp2_with (first
                | (go_at_call 53; refine HP.out.mono ?_; rintro e w3 ⟨rfl, ha, ho⟩; have HS3 := hide (HS.out.move ho ha); clear ha ho; obtain ⟨d0, d1, d2, d3⟩ := (HS3.out.below (belowA w3 (.cells #[.int .i64 (termP t).k, .int .i64 (termP t).n, .string (termP t).s, .int .i64 (termP t).off] 58))).cells; have HS5 := hide ((HS3.out.below (belowA w3 (.cells #[.int .i64 (termP t).k, .int .i64 (termP t).n, .string (termP t).s, .int .i64 (termP t).off] 58))).below (belowA _ (.cells #[.int .i64 (termP t).k, .int .i64 (termP t).n, .string (termP t).s, .int .i64 (termP t).off] 58))))
                | (go_at_call 44; refine (HLm.out _).mono ?_; rintro e w4 ⟨⟨v4, rfl⟩, hw⟩; have hw := hw.symm; subst hw)
                | (at_builtin; obtain ⟨i0, hi0, hz0, hz1, hz2⟩ := info_parts Tryz.infoTerm; refine wpList_push (w0 := (w3.alloc (.cells #[.int .i64 (termP t).k, .int .i64 (termP t).n, .string (termP t).s, .int .i64 (termP t).off] 58)).alloc (.cells #[.int .i64 (termP t).k, .int .i64 (termP t).n, .string (termP t).s, .int .i64 (termP t).off] 58)) elTrm rfl _ _ 53 rfl (w.heap.size + 3) 58 i0 _ 40 Tryz.underlying53 hi0 hz0 hz1 hz2 rfl (by decide) _ acc acc.length rfl rfl HS5.out.grow (termP t) (w3.heap.size + 1) 1 rfl (fun j u hu => by have := new_cells (w := w3.alloc (.cells #[.int .i64 (termP t).k, .int .i64 (termP t).n, .string (termP t).s, .int .i64 (termP t).off] 58)) (cs := #[.int .i64 (termP t).k, .int .i64 (termP t).n, .string (termP t).s, .int .i64 (termP t).off]) (t := 58) j u hu; simpa using this) HTok.out (by omega) (Below.refl _ _) HS5.out.base ?_; intro g cap' w5 HG5 HB5 HGr; clear HB5 hi0 hz0 hz1 hz2; obtain ⟨f0, f1⟩ := HS5.out.far HGr.out; have HS6 := hide (HS5.out.pushG HTok.out HGr.out HG5.out); clear HG5 HGr)
                  | (go_at_call 36; refine (HT2.out _ _ (by simp) HS6.out.ah).mono ?_; rintro e w6 ⟨rfl, ha, ho⟩; have HS7 := hide (HS6.out.move ho ha); clear ha ho))
                go_roundw
                case rel => exact ⟨acc ++ [termP t], r2, _, by simp; omega, HS7, HX⟩
                case measure =>
                  obtain ⟨jx, -⟩ := HS7.out.ah.index
                  have := HL2.out
                  omega
    · have HE : Hid (atomP c f valueKs name (x :: r) = .ok ⟨name.t, [], name.off⟩ (x :: r)) := by show atomP _ _ _ _ _ = _; unfold atomP; simp only; rw [if_neg h5]
      have e5 : (x.k != 5) = true := by simpa using h5
      have hfd := tok_kind (.int .i64 x.k) (.string x.t) (.int .i64 x.n) (.int .i64 x.op) (.int .i64 (x.off : Int)) (.int .i64 (x.en : Int))
      rw [HE.out]
      have H0 := hide h
      clear HE h h5
      unfold AtmPost
      go_enter Tryz.func52, Tryz.ntmps52
      go_wp2_with (go_at_call 54; refine (HL.out _ (below3a _ _ _ _)).mono ?_; rintro e w1 ⟨rfl, hb⟩; have HB := hide hb; clear hb; obtain ⟨k0, k1, k2, z0, z1, z2, a0, a1, a2⟩ := atom_boxes HB.out)
      have HO2 : Only (fun k => k = p ∨ w.heap.size ≤ k) w w1 := Only.of_below (belowt2 (below3a _ _ _ _) HB.out) _
      have HE := only_drop (((HO2.setCell (p := ⟨w.heap.size + 1, 0, none⟩) (.inr (Nat.le_add_right _ _)) (.string name.t)).setCell (p := ⟨w.heap.size + 1, 1, none⟩) (.inr (Nat.le_add_right _ _)) (.slice none 0 0)).setCell (p := ⟨w.heap.size + 1, 2, none⟩) (.inr (Nat.le_add_right _ _)) (.int .i64 (name.off : Int)))
      have HA2 := H0.out.box (H0.out.kept (belowt2 (below3a _ _ _ _) HB.out)) ((((Only.refl (fun b => w.heap.size ≤ b) w1).setCell (p := ⟨w.heap.size + 1, 0, none⟩) (Nat.le_add_right _ _) (.string name.t)).setCell (p := ⟨w.heap.size + 1, 1, none⟩) (Nat.le_add_right _ _) (.slice none 0 0)).setCell (p := ⟨w.heap.size + 1, 2, none⟩) (Nat.le_add_right _ _) (.int .i64 (name.off : Int)))
      exact bodyPost_ret (atom_res _ (w.heap.size + 1) _ _ _ _ rfl (box3_put (atom_box HB.out) _ _ _)) rfl ⟨⟨name.t, .slice none 0 0, name.off, []⟩, rfl, rfl, ⟨(good_parts hname).1, (good_parts hname).2, Lst.nil _ _ _⟩, HA2, HE⟩

end Go.Proofs.YtmdhjggijlhhgaaGreatDoor

namespace Go.Proofs.YtmdhjggijlhhgaaGreatDoor
set_option linter.unusedSimpArgs false
set_option linter.unusedVariables false
open Go.RowKit

theorem groundRes (W : World) (b : Nat) (u0 u1 u2 : Value) (tmps : Array Value) (ht : tmps[4]? = some (.pointer (some ⟨b, 0, none⟩))) (hb : W.heap[b]? = some (.cells #[u0, u1, u2] 55 (0, 0))) :
    (results Tryz.f35 tmps).run Tryz.prog W = .ok (.agg #[u0, u1, u2]) W := by
  obtain ⟨c0, c1, c2, -⟩ := box3_cells hb
  simp [results, Tryz.results35, go_sem, ht, c0, c1, c2]

set_option maxHeartbeats 1000000 in
set_option maxRecDepth 100000 in
theorem ground_any {w : World} {p : Nat} {ao : Option Addr} {cap : Nat} {L : List Tok} {c f : Int} {R : List Tok} (name : Tok) (h : Ahead w p ao cap L c f R) (hname : name.good) :
    Calls Tryz.prog 35 #[.pointer (some ⟨p, 0, none⟩), tokV name] w (AtmPost w p ao cap L c f (atomP c f valueKs name R)) := by
  have HC := hide (fun (W : World) (hb : Below w.heap.size w W) => atomValue name (h.kept hb) hname)
  have H0 := hide h
  have hp := h.lt
  clear h hname
  unfold tokV at *
  obtain ⟨res, hres⟩ : ∃ res, atomP c f valueKs name R = res := ⟨_, rfl⟩
  rw [hres] at HC ⊢
  clear hres
  cases res with
  | bad ec eo =>
    unfold AtmPost
    go_enter Tryz.func35, Tryz.ntmps35
    go_wp2_with (go_at_call 52; refine (HC.out _ (below2a _ _ _)).mono ?_; intro e w1 hq; obtain ⟨rfl, ho⟩ := atmPost_bad hq; clear hq)
    exact ⟨rfl, rfl, only_drop (only_wide (below2a _ _ _) ho)⟩
  | ok x r =>
    unfold AtmPost
    go_enter Tryz.func35, Tryz.ntmps35
    go_wp2_with (go_at_call 52; refine (HC.out _ (below2a _ _ _)).mono ?_; intro e w1 hq; obtain ⟨a, rfl, hpur, hok, ha, ho⟩ := atmPost_ok hq; clear hq; have HPu := hide hpur; have HOk := hide hok; have HA := hide ha; have HO := hide ho; have HBx := hide (second_box hp ho); clear hpur hok ha ho; unfold Atx.val; obtain ⟨q0, q1, q2, q3, q4, q5⟩ := box3_cells HBx.out; obtain ⟨va, vc, hv, -⟩ := HOk.out.2.2.shape)
    obtain ⟨z1, z2⟩ := fin_ahead H0.out HA.out (only_wide (below2a _ _ _) HO.out) (only_three (w.heap.size + 1) (.string a.p) a.v (.int .i64 a.off)) (by omega)
    have z3 := fin_ok elAtx (n := w.heap.size) HOk.out (only_three (w.heap.size + 1) (.string a.p) a.v (.int .i64 a.off)) (by simp) (by simp; omega)
    rw [hv] at z1 z2 z3
    exact bodyPost_ret (groundRes _ (w.heap.size + 1) _ _ _ _ rfl (box3_put HBx.out _ _ _)) rfl ⟨a, by unfold Atx.val; rw [hv], HPu.out, z3, z1, z2⟩
end Go.Proofs.YtmdhjggijlhhgaaGreatDoor

namespace Go.Proofs.YtmdhjggijlhhgaaGreatDoor
set_option linter.unusedSimpArgs false
set_option linter.unusedVariables false
open Go.RowKit

theorem Tryz.infoAtm : (Tryz.prog.info? 55).map (fun i => (i.zero, i.size, i.bytes)) = some (some (.agg #[.string ⟨#[]⟩, .slice none 0 0, .int .i64 0]), 3, 48) := by kernel_rfl

def FactsPost (w : World) (p : Nat) (ao : Option Addr) (cap : Nat) (L : List Tok) (c f : Int) (res : PR (List PAtom)) (e : Ending) (w' : World) : Prop :=
  match res with
  | .bad ec eo => e = PEnd ec eo ∧ Only (fun k => k = p) w w'
  | .ok b r => ∃ v ls, e = .returned v ∧ ls.map Atx.pur = b ∧ ls.length ≤ 4096 ∧ Grow elAtx 55 w.heap.size w' v ls ∧ Ahead w' p ao cap L c f r ∧ Only (fun k => k = p) w w'
theorem factsPost_bad {w w' : World} {p : Nat} {ao : Option Addr} {cap : Nat} {L : List Tok} {c f ec eo : Int} {e : Ending} (h : FactsPost w p ao cap L c f (.bad ec eo) e w') : e = PEnd ec eo ∧ Only (fun k => k = p) w w' := h
theorem factsPost_ok {w w' : World} {p : Nat} {ao : Option Addr} {cap : Nat} {L : List Tok} {c f : Int} {x : List PAtom} {r : List Tok} {e : Ending} (h : FactsPost w p ao cap L c f (.ok x r) e w') : ∃ v ls, e = .returned v ∧ ls.map Atx.pur = x ∧ ls.length ≤ 4096 ∧ Grow elAtx 55 w.heap.size w' v ls ∧ Ahead w' p ao cap L c f r ∧ Only (fun k => k = p) w w' := h

set_option maxHeartbeats 4000000 in
set_option maxRecDepth 100000 in
theorem facts_any {w : World} {p : Nat} {ao : Option Addr} {cap : Nat} {L : List Tok} {c f : Int} {R : List Tok} (h : Ahead w p ao cap L c f R) :
    Calls Tryz.prog 24 #[.pointer (some ⟨p, 0, none⟩)] w (FactsPost w p ao cap L c f (factsP c f R)) := by
  obtain ⟨res, hres⟩ : ∃ res, factsP c f R = res := ⟨_, rfl⟩
  rw [hres]
  have HRes0 : Hid (factsF c f (R.length + 1) [] R = res) := hres
  obtain ⟨Post, hPost⟩ : ∃ Post : Ending → World → Prop, Post = FactsPost w p ao cap L c f res := ⟨_, rfl⟩
  rw [← hPost]
  have PB : Hid (∀ ec eo w', res = .bad ec eo → Only (fun k => k = p) w w' → Post (PEnd ec eo) w') := fun ec eo w' hr ho => by
    rw [hPost, hr]; exact ⟨rfl, ho⟩
  have PG : Hid (∀ b r' v ls w', res = .ok b r' → ls.map Atx.pur = b → ls.length ≤ 4096 → Grow elAtx 55 w.heap.size w' v ls → Ahead w' p ao cap L c f r' → Only (fun k => k = p) w w' → Post (.returned v) w') := fun b r' v ls w' hr h1 h2 h3 h4 h5 => by
    rw [hPost, hr]; exact ⟨v, ls, rfl, h1, h2, h3, h4, h5⟩
  have HC0 := hide (Coll3.start (E := elAtx) (e := 55) h)
  clear hPost h hres
  go_enter Tryz.func24, Tryz.ntmps24
  go_wp2
  go_loopw [3] (fun v wr => ∃ (n : Nat) (ls : List Atx) (R1 : List Tok), ls.length ≤ 4096 ∧ R1.length < n ∧ Hid (Coll3 elAtx 55 w wr p ao cap L c f R1 w.heap.size v ls) ∧ Hid (factsF c f n (ls.map Atx.pur) R1 = res)) (fun _ wr => 70000 - (intOf ((wr.cell? ⟨p, 4, none⟩).getD undef)).toNat)
  case atStart => exact ⟨R.length + 1, [], R, by simp, by omega, HC0, HRes0⟩
  case round =>
    clear HC0 HRes0
    obtain ⟨n, ls, R1, hls, hn, HC, HRes⟩ := hrel
    obtain ⟨n, rfl⟩ : ∃ m, n = m + 1 := ⟨n - 1, by omega⟩
    obtain ⟨va, vc, rfl, -⟩ := HC.out.gr.shape
    cases hT : takeP c f [1, 0] R1 with
    | bad ec eo =>
      have HT : Hid (∀ (W : World) (g : Nat), W.heap.size = g → Ahead W p ao cap L c f R1 → Calls Tryz.prog 36 #[.pointer (some ⟨p, 0, none⟩), .slice (some ⟨g, 0, none⟩) 2 2] (W.alloc (.cells #[.int .i64 1, .int .i64 0] 3)) fun e w' => e = PEnd ec eo ∧ Below W.heap.size W w') := fun W g hg ha => hg ▸ take_lit_fail [1, 0] ha (by decide) hT
      have HX : Hid (res = .bad ec eo) := by show _ = _; rw [← HRes.out]; exact facts_bad1 hT
      clear hT
      go_wp2_with (go_at_call 36; refine (HT.out _ _ rfl HC.out.ah).mono ?_; rintro e w1 ⟨rfl, hb1⟩)
      exact ⟨rfl, PB.out _ _ _ HX.out (HC.out.below hb1).end_⟩
    | ok t r1 =>
      have HT : Hid (∀ (W : World) (g : Nat), W.heap.size = g → Ahead W p ao cap L c f R1 → Calls Tryz.prog 36 #[.pointer (some ⟨p, 0, none⟩), .slice (some ⟨g, 0, none⟩) 2 2] (W.alloc (.cells #[.int .i64 1, .int .i64 0] 3)) fun e w' => e = .returned (tokV t) ∧ Ahead w' p ao cap L c f r1 ∧ Only (fun b => b = p) W w') := fun W g hg ha => hg ▸ take_lit_good [1, 0] ha (by decide) hT
      have htg : t.good := HC.out.ah.good t (by rw [(take_eq hT).1]; exact List.mem_cons_self)
      have l1 := take_len hT
      unfold tokV at HT
      by_cases h0 : t.k = 0
      · have e0 : (t.k == 0) = true := by simpa using h0
        have HX : Hid (res = .ok (ls.map Atx.pur) r1) := by show _ = _; rw [← HRes.out]; exact facts_end hT h0
        clear hT h0
        go_wp2_with (go_at_call 36; refine (HT.out _ _ rfl HC.out.ah).mono ?_; rintro e w1 ⟨rfl, ha1, ho1⟩; have HC1 := hide ((HC.out.move ho1 ha1).below (belowA w1 (.cells #[.int .i64 t.k, .string t.t, .int .i64 t.n, .int .i64 t.op, .int .i64 (t.off : Int), .int .i64 (t.en : Int)] 85))); clear ha1 ho1 HT)
        exact PG.out _ _ _ _ _ HX.out rfl hls HC1.out.gr HC1.out.ah HC1.out.end_
      · have e0 : (t.k == 0) = false := by simpa using h0
        by_cases hmx : ls.length = 4096
        · have HLm := hide (limit_eq (ls.length : Int) 4096 24 (t.off : Int) (h := by omega))
          have HX : Hid (res = .bad 24 (t.off : Int)) := by show _ = _; rw [← HRes.out]; exact facts_lim hT h0 (by rw [List.length_map]; exact hmx)
          clear hT h0 hmx hls
          go_wp2_with (first
            | (go_at_call 36; refine (HT.out _ _ rfl HC.out.ah).mono ?_; rintro e w1 ⟨rfl, ha1, ho1⟩; have HC1 := hide ((HC.out.move ho1 ha1).below (belowA w1 (.cells #[.int .i64 t.k, .string t.t, .int .i64 t.n, .int .i64 t.op, .int .i64 (t.off : Int), .int .i64 (t.en : Int)] 85))); clear ha1 ho1 HT)
            | (go_at_call 44; refine (HLm.out _).mono ?_; rintro e w2 ⟨rfl, hw⟩; have hw := hw.symm; subst hw))
          exact ⟨rfl, PB.out _ _ _ HX.out HC1.out.end_⟩
        · have HLm := hide (limit_ok (ls.length : Int) 4096 24 (t.off : Int) (h := by omega))
          have hls4 : ls.length < 4096 := by omega
          have HG0 := fun (W : World) (ha : Ahead W p ao cap L c f r1) => ground_any t ha htg
          unfold tokV at HG0
          cases hC : atomP c f valueKs t r1 with
          | bad ec eo =>
            rw [hC] at HG0
            have HGd := hide HG0
            have HX : Hid (res = .bad ec eo) := by show _ = _; rw [← HRes.out]; exact facts_atom hT h0 (by rw [List.length_map]; exact hmx) hC
            clear hT h0 hmx hC HG0
            go_wp2_with (first
              | (go_at_call 36; refine (HT.out _ _ rfl HC.out.ah).mono ?_; rintro e w1 ⟨rfl, ha1, ho1⟩; have HC1 := hide ((HC.out.move ho1 ha1).below (belowA w1 (.cells #[.int .i64 t.k, .string t.t, .int .i64 t.n, .int .i64 t.op, .int .i64 (t.off : Int), .int .i64 (t.en : Int)] 85))); clear ha1 ho1 HT)
              | (go_at_call 44; refine (HLm.out _).mono ?_; rintro e w2 ⟨⟨v2, rfl⟩, hw⟩; have hw := hw.symm; subst hw)
              | (go_at_call 35; refine (HGd.out _ HC1.out.ah).mono ?_; intro e w3 hq; obtain ⟨rfl, ho3⟩ := atmPost_bad hq; clear hq))
            exact ⟨rfl, PB.out _ _ _ HX.out (HC1.out.endM ho3)⟩
          | ok x r2 =>
            rw [hC] at HG0
            have HGd := hide HG0
            have l2 := atom_len hC
            clear HG0
            cases hD : takeP c f [8] r2 with
            | bad ec eo =>
              have HU : Hid (∀ (W : World) (g : Nat), W.heap.size = g → Ahead W p ao cap L c f r2 → Calls Tryz.prog 36 #[.pointer (some ⟨p, 0, none⟩), .slice (some ⟨g, 0, none⟩) 1 1] (W.alloc (.cells #[.int .i64 8] 3)) fun e w' => e = PEnd ec eo ∧ Below W.heap.size W w') := fun W g hg ha => hg ▸ take_lit_fail [8] ha (by decide) hD
              have HX : Hid (res = .bad ec eo) := by show _ = _; rw [← HRes.out]; exact facts_dot hT h0 (by rw [List.length_map]; exact hmx) hC hD
              clear hT h0 hmx hC hD
              go_wp2_with (first
                | (go_at_call 36; refine (HT.out _ _ rfl HC.out.ah).mono ?_; rintro e w1 ⟨rfl, ha1, ho1⟩; have HC1 := hide ((HC.out.move ho1 ha1).below (belowA w1 (.cells #[.int .i64 t.k, .string t.t, .int .i64 t.n, .int .i64 t.op, .int .i64 (t.off : Int), .int .i64 (t.en : Int)] 85))); clear ha1 ho1 HT)
                | (go_at_call 44; refine (HLm.out _).mono ?_; rintro e w2 ⟨⟨v2, rfl⟩, hw⟩; have hw := hw.symm; subst hw)
                | (go_at_call 35; refine (HGd.out _ HC1.out.ah).mono ?_; intro e w3 hq; obtain ⟨⟨ap, av, aoff, ats⟩, rfl, hpur, hok, ha3, ho3⟩ := atmPost_ok hq; clear hq; obtain ⟨xa, xc, rfl, -⟩ := (show Lst elTrm _ _ av ats from hok.2.2).shape; have HPu := hide hpur; have HOk := hide (HC1.out.gr.behind HC1.out.hi elAtx hok); have HC3 := hide (HC1.out.move ho3 ha3); have HC4 := hide (HC3.out.below (belowA w3 (.cells #[.string ap, .slice xa ats.length xc, .int .i64 aoff] 55))); have HOk4 := hide (elAtx.move HOk.out fun b hlt hF => ⟨hF, (belowA w3 (.cells #[.string ap, .slice xa ats.length xc, .int .i64 aoff] 55)).block b hlt⟩); clear hpur hok ha3 ho3 HOk HGd; unfold Atx.val)
                | (at_builtin; obtain ⟨i0, hi0, hz0, hz1, hz2⟩ := info_parts Tryz.infoAtm; refine wpList_push (w0 := w3.alloc (.cells #[.string ap, .slice xa ats.length xc, .int .i64 aoff] 55)) elAtx rfl _ _ 32 rfl w.heap.size 55 i0 _ 48 Tryz.underlying32 hi0 hz0 hz1 hz2 rfl (by decide) _ ls ls.length rfl rfl HC4.out.gr ⟨ap, .slice xa ats.length xc, aoff, ats⟩ w3.heap.size 1 rfl (fun j u hu => new_cells (cs := #[.string ap, .slice xa ats.length xc, .int .i64 aoff]) j u hu) HOk4.out (by omega) (Below.refl _ _) HC4.out.hi ?_; intro g cap' w5 HG5 HB5 HGr; clear HB5 hi0 hz0 hz1 hz2; have HC5 := hide (HC4.out.grown HGr.out HG5.out); clear HG5 HGr HC4 HOk4)
                | (go_at_call 36; refine (HU.out _ _ rfl HC5.out.ah).mono ?_; rintro e w6 ⟨rfl, hb6⟩))
              exact ⟨rfl, PB.out _ _ _ HX.out (HC5.out.below hb6).end_⟩
            | ok s r3 =>
              have HU : Hid (∀ (W : World) (g : Nat), W.heap.size = g → Ahead W p ao cap L c f r2 → Calls Tryz.prog 36 #[.pointer (some ⟨p, 0, none⟩), .slice (some ⟨g, 0, none⟩) 1 1] (W.alloc (.cells #[.int .i64 8] 3)) fun e w' => e = .returned (tokV s) ∧ Ahead w' p ao cap L c f r3 ∧ Only (fun b => b = p) W w') := fun W g hg ha => hg ▸ take_lit_good [8] ha (by decide) hD
              have l3 := take_len hD
              have HX : Hid (factsF c f n (ls.map Atx.pur ++ [x]) r3 = res) := by show _ = _; rw [← HRes.out]; exact (facts_more hT h0 (by rw [List.length_map]; exact hmx) hC hD).symm
              have HLn : Hid (r3.length < R1.length ∧ r3.length < n) := ⟨by omega, by omega⟩
              obtain ⟨ix, isz⟩ := HC.out.ah.index
              have HIx := hide (And.intro ix isz)
              clear hT h0 hmx hC hD l1 l2 l3 ix isz
              go_wp2_with (first
                | (go_at_call 36; refine (HT.out _ _ rfl HC.out.ah).mono ?_; rintro e w1 ⟨rfl, ha1, ho1⟩; have HC1 := hide ((HC.out.move ho1 ha1).below (belowA w1 (.cells #[.int .i64 t.k, .string t.t, .int .i64 t.n, .int .i64 t.op, .int .i64 (t.off : Int), .int .i64 (t.en : Int)] 85))); clear ha1 ho1 HT)
                | (go_at_call 44; refine (HLm.out _).mono ?_; rintro e w2 ⟨⟨v2, rfl⟩, hw⟩; have hw := hw.symm; subst hw)
                | (go_at_call 35; refine (HGd.out _ HC1.out.ah).mono ?_; intro e w3 hq; obtain ⟨⟨ap, av, aoff, ats⟩, rfl, hpur, hok, ha3, ho3⟩ := atmPost_ok hq; clear hq; obtain ⟨xa, xc, rfl, -⟩ := (show Lst elTrm _ _ av ats from hok.2.2).shape; have HPu := hide hpur; have HOk := hide (HC1.out.gr.behind HC1.out.hi elAtx hok); have HC3 := hide (HC1.out.move ho3 ha3); have HC4 := hide (HC3.out.below (belowA w3 (.cells #[.string ap, .slice xa ats.length xc, .int .i64 aoff] 55))); have HOk4 := hide (elAtx.move HOk.out fun b hlt hF => ⟨hF, (belowA w3 (.cells #[.string ap, .slice xa ats.length xc, .int .i64 aoff] 55)).block b hlt⟩); clear hpur hok ha3 ho3 HOk HGd; unfold Atx.val)
                | (at_builtin; obtain ⟨i0, hi0, hz0, hz1, hz2⟩ := info_parts Tryz.infoAtm; refine wpList_push (w0 := w3.alloc (.cells #[.string ap, .slice xa ats.length xc, .int .i64 aoff] 55)) elAtx rfl _ _ 32 rfl w.heap.size 55 i0 _ 48 Tryz.underlying32 hi0 hz0 hz1 hz2 rfl (by decide) _ ls ls.length rfl rfl HC4.out.gr ⟨ap, .slice xa ats.length xc, aoff, ats⟩ w3.heap.size 1 rfl (fun j u hu => new_cells (cs := #[.string ap, .slice xa ats.length xc, .int .i64 aoff]) j u hu) HOk4.out (by omega) (Below.refl _ _) HC4.out.hi ?_; intro g cap' w5 HG5 HB5 HGr; clear HB5 hi0 hz0 hz1 hz2; have HC5 := hide (HC4.out.grown HGr.out HG5.out); clear HG5 HGr HC4 HOk4)
                | (go_at_call 36; refine (HU.out _ _ rfl HC5.out.ah).mono ?_; rintro e w6 ⟨rfl, ha6, ho6⟩; have HC6 := hide (HC5.out.move ho6 ha6); clear ha6 ho6))
              go_roundw
              case rel => exact ⟨n, ls ++ [⟨ap, .slice xa ats.length xc, aoff, ats⟩], r3, by simp; omega, HLn.out.2, HC6, by show _ = _; rw [List.map_append, List.map_singleton, HPu.out]; exact HX.out⟩
              case measure =>
                obtain ⟨jx, -⟩ := HC6.out.ah.index
                have h1 := HLn.out
                have h2 := HIx.out
                omega

set_option maxHeartbeats 1000000 in
set_option maxRecDepth 100000 in
theorem query_any {w : World} {p : Nat} {ao : Option Addr} {cap : Nat} {L : List Tok} {c f : Int} {R : List Tok} (h : Ahead w p ao cap L c f R) :
    Calls Tryz.prog 28 #[.pointer (some ⟨p, 0, none⟩)] w (BodyPost w p ao cap L c f (queryP c f R)) := by
  have HB0 := body_any h
  have hp := h.lt
  clear h
  cases hB : bodyP c f R with
  | bad ec eo =>
    rw [hB] at HB0
    have HBo := hide HB0
    rw [show queryP c f R = .bad ec eo from by unfold queryP; rw [hB]]
    clear HB0 hB
    unfold BodyPost
    go_enter Tryz.func28, Tryz.ntmps28
    go_wp2_with (go_at_call 46; refine HBo.out.mono ?_; intro e w1 hq; obtain ⟨rfl, ho1⟩ := bodyPost_bad hq; clear hq)
    exact ⟨rfl, rfl, ho1⟩
  | ok b r1 =>
    rw [hB] at HB0
    have HBo := hide HB0
    clear HB0
    cases hT : takeP c f [0] r1 with
    | bad ec eo =>
      have HU : Hid (∀ (W : World) (g : Nat), W.heap.size = g → Ahead W p ao cap L c f r1 → Calls Tryz.prog 36 #[.pointer (some ⟨p, 0, none⟩), .slice (some ⟨g, 0, none⟩) 1 1] (W.alloc (.cells #[.int .i64 0] 3)) fun e w' => e = PEnd ec eo ∧ Below W.heap.size W w') := fun W g hg ha => hg ▸ take_lit_fail [0] ha (by decide) hT
      rw [show queryP c f R = .bad ec eo from by unfold queryP; rw [hB]; simp only; rw [hT]]
      clear hB hT
      unfold BodyPost
      go_enter Tryz.func28, Tryz.ntmps28
      go_wp2_with (first
        | (go_at_call 46; refine HBo.out.mono ?_; intro e w1 hq; obtain ⟨bv, ls, rfl, hpur, hl, hgr, ha1, ho1⟩ := bodyPost_ok hq; clear hq; have HPu := hide hpur; have HL1 := hide hl; have HG1 := hide hgr; have HA1 := hide ha1; have HO1 := hide ho1; obtain ⟨ba, bc, rfl, -⟩ := hgr.shape; clear hpur hl hgr ha1 ho1)
        | (go_at_call 36; refine (HU.out _ _ rfl HA1.out).mono ?_; rintro e w2 ⟨rfl, hb2⟩))
      exact ⟨rfl, rfl, HO1.out.trans (Only.of_below hb2 _)⟩
    | ok s r2 =>
      have HU : Hid (∀ (W : World) (g : Nat), W.heap.size = g → Ahead W p ao cap L c f r1 → Calls Tryz.prog 36 #[.pointer (some ⟨p, 0, none⟩), .slice (some ⟨g, 0, none⟩) 1 1] (W.alloc (.cells #[.int .i64 0] 3)) fun e w' => e = .returned (tokV s) ∧ Ahead w' p ao cap L c f r2 ∧ Only (fun b => b = p) W w') := fun W g hg ha => hg ▸ take_lit_good [0] ha (by decide) hT
      rw [show queryP c f R = .ok b r2 from by unfold queryP; rw [hB]; simp only; rw [hT]]
      clear hB hT
      obtain ⟨Post, hPost⟩ : ∃ Post : Ending → World → Prop, Post = BodyPost w p ao cap L c f (.ok b r2) := ⟨_, rfl⟩
      rw [← hPost]
      have PG : Hid (∀ v ls w', ls.map Lix.pur = b → ls.length ≤ 16 → Grow elLix 72 w.heap.size w' v ls → Ahead w' p ao cap L c f r2 → Only (fun k => k = p) w w' → Post (.returned v) w') := fun v ls w' h1 h2 h3 h4 h5 => by
        rw [hPost]; exact ⟨v, ls, rfl, h1, h2, h3, h4, h5⟩
      clear hPost
      go_enter Tryz.func28, Tryz.ntmps28
      go_wp2_with (first
        | (go_at_call 46; refine HBo.out.mono ?_; intro e w1 hq; obtain ⟨bv, ls, rfl, hpur, hl, hgr, ha1, ho1⟩ := bodyPost_ok hq; clear hq; have HPu := hide hpur; have HL1 := hide hl; have HG1 := hide hgr; have HA1 := hide ha1; have HO1 := hide ho1; obtain ⟨ba, bc, rfl, -⟩ := hgr.shape; clear hpur hl hgr ha1 ho1)
        | (go_at_call 36; refine (HU.out _ _ rfl HA1.out).mono ?_; rintro e w2 ⟨rfl, ha2, ho2⟩; have HA2 := hide ha2; have HO2 := hide ho2; clear ha2 ho2))
      first
        | exact PG.out _ _ _ HPu.out HL1.out (HG1.out.above fun k hk hlt => HO2.out.block k hlt (by omega)) HA2.out (HO1.out.trans HO2.out)
        | (go_ret; exact PG.out _ _ _ HPu.out HL1.out (HG1.out.above fun k hk hlt => HO2.out.block k hlt (by omega)) HA2.out (HO1.out.trans HO2.out))
end Go.Proofs.YtmdhjggijlhhgaaGreatDoor

namespace Go.Proofs.YtmdhjggijlhhgaaGreatDoor
set_option linter.unusedSimpArgs false
set_option linter.unusedVariables false
open Go.RowKit

theorem rfRes (W : World) (b : Nat) (v u0 u1 u2 : Value) (tmps : Array Value) (h2 : tmps[2]? = some v) (h3 : tmps[3]? = some (.pointer (some ⟨b, 0, none⟩))) (hb : W.heap[b]? = some (.cells #[u0, u1, u2] 27 (0, 0))) :
    (results Tryz.f11 tmps).run Tryz.prog W = .ok (.tuple #[v, .agg #[u0, u1, u2]]) W := by
  obtain ⟨⟨c0, c1, c2⟩, -⟩ := chk3_cells hb
  simp [results, Tryz.results11, go_sem, h2, h3, c0, c1, c2]

set_option maxRecDepth 100000 in
set_option maxHeartbeats 4000000 in
theorem rfacts_bad (s : ByteArray) (w : World) (hs : s.size ≤ 140737488351232) {x o : Int} (hC : chkR (scanX s).2.1 ((scanX s).2.2 : Int) 15 15 ⟨0, 0, 0⟩ (scanX s).1 = .bad x o) :
    Calls Tryz.prog 11 #[.string s] w fun e w' => e = .returned (.tuple #[.slice none 0 0, faultV x o]) ∧ Below w.heap.size w w' := by
  have h0 := fun W => check_any s 15 W hs
  simp only [hC] at h0
  have HC := hide h0
  have hx : (x != 0) = true := by simpa using chk_ne _ _ _ _ _ hC
  clear hC h0 hs
  go_enter Tryz.func11, Tryz.ntmps11
  go_upto_region 2 with (go_at_call 21; refine (HC.out _).mono ?_; intro e w1 hq; obtain ⟨rfl, hb1⟩ := chkPost_bad hq; have HF1 := hide ((FB.start w).kept hb1); clear hq hb1)
  obtain ⟨Y, hY⟩ : ∃ Y, Y = w1.alloc (.cells #[.int .i64 x, .int .i64 0, .int .i64 o] 27) := ⟨_, rfl⟩
  have HFY : Hid (FB w Y w.heap.size) := by rw [hY]; exact HF1.out.kept (belowA _ _)
  have hG : Y.heap[w1.heap.size]? = some (.cells #[.int .i64 x, .int .i64 0, .int .i64 o] 27 (0, 0)) := by rw [hY]; exact heap_alloc_new w1 _
  obtain ⟨⟨q0, q1, q2⟩, -⟩ := chk3_cells hG
  obtain ⟨⟨p0, p1, p2⟩, f0, f1, f2⟩ := chk3_cells HFY.out.bx
  have n1 : ¬ w.heap.size = w1.heap.size := by have := (Array.getElem?_eq_some_iff.1 HF1.out.bx).1; omega
  rw [← hY]
  clear hY hG HF1
  go_wp2
  go_region
  go_wp2
  exact bodyPost_ret (rfRes _ w.heap.size (.slice none 0 0) (.int .i64 x) (.int .i64 0) (.int .i64 o) _ rfl rfl (HFY.out.fin x 0 o).1) rfl ⟨rfl, (HFY.out.fin x 0 o).2.1.drew⟩

theorem ne_cons {α : Type} {l : List α} (h : l ≠ []) : ∃ a r, l = a :: r := by cases l with | nil => exact absurd rfl h | cons a r => exact ⟨a, r, rfl⟩
theorem ratom_ne {w : World} {v : Value} {P : List Tok} (h : Has elTok w v P) (hL : P.length ≤ 100000) (hP : P ≠ []) :
    Calls Tryz.prog 22 #[v] w fun e w' => ∃ a : Atx, e = .returned a.val ∧ a.pur = atomR P ∧ elAtx.ok w' (fun b => w.heap.size ≤ b) a ∧ Below w.heap.size w w' := by
  obtain ⟨n, r, rfl⟩ := ne_cons hP
  exact ratom_any h hL

set_option maxRecDepth 100000 in
set_option maxHeartbeats 4000000 in
theorem rfacts_ok (s : ByteArray) (w : World) (hs : s.size ≤ 140737488351232) {u : Unit} {r : List Tok} (hC : chkR (scanX s).2.1 ((scanX s).2.2 : Int) 15 15 ⟨0, 0, 0⟩ (scanX s).1 = .ok u r) {S : List (List Tok)} {last : List Tok} (hcut : cutF 8 0 [] [] (scanX s).1 = S ++ [last]) (hB : ∀ P ∈ S, P ≠ []) :
    Calls Tryz.prog 11 #[.string s] w fun e w' => ∃ bv, e = .returned (.tuple #[bv, faultV 0 0]) ∧ ∃ fs, fs.map Atx.pur = S.map atomR ∧ Lst elAtx w' (fun b => w.heap.size ≤ b) bv fs ∧ Below w.heap.size w w' := by
  have h0 := fun W => check_any s 15 W hs
  simp only [hC] at h0
  have HC := hide h0
  obtain ⟨-, hlen⟩ := scan_good s
  have HX : Hid (∀ ps : List (Value × List Tok), ps.map Prod.snd = (cutF 8 0 [] [] (scanX s).1).dropLast → ps.length ≤ 65539 ∧ (∀ p ∈ ps, p.2.length ≤ 100000 ∧ p.2 ≠ []) ∧ S.map atomR = ps.map (fun p => atomR p.2)) := fun ps hp => by
    have hl := cut_len 8 (scanX s).1 0 [] []
    rw [hcut] at hp hl
    rw [List.dropLast_concat] at hp
    have h3 := congrArg List.length hp
    rw [List.length_map] at h3
    simp only [List.length_append, List.length_nil, List.length_singleton] at hl
    refine ⟨by omega, fun p hpm => ?_, by rw [← hp, List.map_map]; rfl⟩
    have hm : p.2 ∈ S := by rw [← hp]; exact List.mem_map_of_mem hpm
    exact ⟨cutL_sum 8 (scanX s).1 0 [] [] 100000 (by simp) (by simp; omega) _ (by rw [hcut]; exact List.mem_append_left _ hm), hB _ hm⟩
  generalize (scanX s).1 = L at *
  clear hC h0 hs hcut hB
  go_enter Tryz.func11, Tryz.ntmps11
  go_upto_region 2 with (go_at_call 21; refine (HC.out _).mono ?_; intro e w1 hq; obtain ⟨v, rfl, hls, hb1⟩ := chkPost_ok hq; have HF1 := hide ((FB.start w).kept hb1); obtain ⟨va, vc, rfl, -⟩ := hls.shape; have HL1 := hide hls.all; clear hq hb1 hls)
  obtain ⟨Y, hY⟩ : ∃ Y, Y = w1.alloc (.cells #[.int .i64 0, .int .i64 0, .int .i64 0] 27) := ⟨_, rfl⟩
  have HFY : Hid (FB w Y w.heap.size) := by rw [hY]; exact HF1.out.kept (belowA _ _)
  have HLY : Hid (Has elTok Y (.slice va L.length vc) L) := by rw [hY]; exact HL1.out.kept (belowA _ _)
  have hG : Y.heap[w1.heap.size]? = some (.cells #[.int .i64 0, .int .i64 0, .int .i64 0] 27 (0, 0)) := by rw [hY]; exact heap_alloc_new w1 _
  obtain ⟨⟨q0, q1, q2⟩, -⟩ := chk3_cells hG
  have HSn := hide (sentences_any HLY.out (by omega))
  rw [← hY]
  clear hY hG HF1 HL1 HC
  go_wp2_with (go_at_call 25; refine HSn.out.mono ?_; intro e w2 hq; obtain ⟨tv, rfl, ps, hl, hp, hb⟩ := hq; obtain ⟨x1, x2, x3⟩ := HX.out ps hp; obtain ⟨ta, tc, rfl, -⟩ := hl.shape; have HG := hide hl; have HP := hide x3; have HO := hide x2; have HF2 := hide (HFY.out.kept hb); clear hp hl hb x3 x2)
  obtain ⟨m, hm⟩ : ∃ m, m = ps.length := ⟨_, rfl⟩
  rw [← hm] at x1 HG
  try rw [← hm]
  have HM := hide hm
  clear hm HX HSn HLY HFY q0 q1 q2
  go_loopw [6, 21] (fun ov i wl => ∃ (j : Nat) (fs : List Atx), j ≤ m ∧ i = .int .i64 j ∧ Hid (fs.length = j) ∧ Hid (fs.map Atx.pur = (ps.take j).map (fun p => atomR p.2)) ∧ Hid (Below w2.heap.size w2 wl) ∧ Hid (Grow elAtx 55 w2.heap.size wl ov fs)) (fun _ i _ => m - (intOf i).toNat)
  case atStart => exact ⟨0, [], by omega, rfl, rfl, rfl, Below.refl _ _, Grow.nil _ _ _ _⟩
  case round =>
    obtain ⟨j, fs, hj, rfl, HLn, HLs, HBl, HGl⟩ := hrel
    obtain ⟨oa, oc, rfl, -⟩ := HGl.out.shape
    rw [HLn.out]
    rw [HLn.out] at HGl
    have HF3 := hide (HF2.out.kept HBl.out)
    by_cases hlt : j < m
    · have hi : (j : Int) < (m : Int) := by omega
      have hi0 : (0 : Int) ≤ (j : Int) := by omega
      obtain ⟨p, hp⟩ : ∃ p, ps[j]? = some p := ⟨_, List.getElem?_eq_getElem (by rw [← HM.out]; exact hlt)⟩
      obtain ⟨pl, po⟩ := HO.out p (List.mem_of_getElem? hp)
      have hpk := HG.out.ok (List.mem_of_getElem? hp)
      obtain ⟨b3, o3, rfl, -, -, hr3⟩ := HG.out.row (by rw [← HM.out]; omega)
      have y0 := kept_cell HBl.out (hr3 j _ hp 0 _ rfl)
      obtain ⟨pv, pt⟩ := p
      have HLi := hide (ratom_ne ((show Lst elTok w2 _ pv pt from hpk).all.kept HBl.out) pl po)
      have HSn : Hid ((ps.take (j + 1)).map (fun p => atomR p.2) = (ps.take j).map (fun p => atomR p.2) ++ [atomR pt]) := take_map_snoc (f := fun p : Value × List Tok => atomR p.2) hp
      obtain ⟨pa, pc, rfl, -⟩ := (show Lst elTok w2 _ pv pt from hpk).shape
      simp only [elTL, Nat.add_zero, Nat.mul_one] at y0
      clear hr3 hp hpk pl po
      have hjm : j + 1 < 1073741824 := by omega
      go_wp2_with (first
        | (go_at_call 22; refine HLi.out.mono ?_; intro e w3 hq; obtain ⟨⟨ap, av, aoff, ats⟩, rfl, hpur, hok, hb2⟩ := hq; obtain ⟨xa, xc, rfl, -⟩ := (show Lst elTrm _ _ av ats from hok.2.2).shape; have HPu := hide hpur; have HG2 := hide ((HGl.out.kept hb2).kept (belowA w3 (.cells #[.string ap, .slice xa ats.length xc, .int .i64 aoff] 55))); have HEl := hide (HGl.out.behind HBl.out.size elAtx (elAtx.move hok fun b hlt hF => ⟨hF, (belowA w3 (.cells #[.string ap, .slice xa ats.length xc, .int .i64 aoff] 55)).block b hlt⟩)); have HW2 := hide (belowt2 (belowt2 HBl.out hb2) (belowA w3 (.cells #[.string ap, .slice xa ats.length xc, .int .i64 aoff] 55))); unfold Atx.val; clear hpur hok hb2)
        | (at_builtin; obtain ⟨i0, hi0', hz0, hz1, hz2⟩ := info_parts Tryz.infoAtm; refine wpList_push (w0 := w2) elAtx rfl _ _ 32 rfl w2.heap.size 55 i0 _ 48 Tryz.underlying32 hi0' hz0 hz1 hz2 rfl (by decide) _ fs j HLn.out rfl HG2.out ⟨ap, .slice xa ats.length xc, aoff, ats⟩ w3.heap.size 1 rfl (fun j u hu => new_cells (w := w3) (cs := #[.string ap, .slice xa ats.length xc, .int .i64 aoff]) (t := 55) j u hu) HEl.out hjm HW2.out HW2.out.size ?_; intro g7 c7 W7 HG7 HB7 HGr7; clear HG2 HEl HW2 HGr7 hi0' hz0 hz1 hz2))
      go_roundw
      case rel => exact ⟨j + 1, fs ++ [⟨ap, .slice xa ats.length xc, aoff, ats⟩], by omega, by go_num, by show _ = _; rw [List.length_append, HLn.out]; rfl, by show _ = _; rw [List.map_append, HSn.out, HLs.out, List.map_singleton, HPu.out], HB7, HG7⟩
      case measure => simp [intOf]; omega
    · obtain rfl : j = m := by omega
      have hi : ¬ (j : Int) < (j : Int) := by omega
      obtain ⟨⟨p0, p1, p2⟩, f0, f1, f2⟩ := chk3_cells HF3.out.bx
      have HSz := hide (show w.heap.size + 1 ≤ w2.heap.size from (Array.getElem?_eq_some_iff.1 HF2.out.bx).1)
      go_wp2
      refine bodyPost_ret (rfRes _ w.heap.size (.slice oa j oc) (.int .i64 0) (.int .i64 0) (.int .i64 0) _ rfl rfl (HF3.out.fin 0 0 0).1) rfl ⟨_, rfl, fs, ?_, (HGl.out.new (by rw [HLn.out]; omega)).move fun b hb hF => ⟨by have := HSz.out; have h9 : w2.heap.size ≤ b := hF; omega, (HF3.out.fin 0 0 0).2.2.block b hb (by have := HSz.out; have h9 : w2.heap.size ≤ b := hF; omega)⟩, (HF3.out.fin 0 0 0).2.1⟩
      rw [HLs.out, HP.out, List.take_of_length_le (by rw [← HM.out]; omega)]
end Go.Proofs.YtmdhjggijlhhgaaGreatDoor

namespace Go.Proofs.YtmdhjggijlhhgaaGreatDoor
set_option linter.unusedSimpArgs false
set_option linter.unusedVariables false
open Go.RowKit

theorem Tryz.infoCon : (Tryz.prog.info? 60).map (fun i => (i.zero, i.size, i.bytes)) = some (some (.agg #[.int .i64 0, .int .i64 0, .string ⟨#[]⟩]), 3, 32) := by kernel_rfl

def FactPost (w : World) (p : Nat) (ao : Option Addr) (cap : Nat) (L : List Tok) (c f : Int) (res : PR PAtom) (e : Ending) (w' : World) : Prop :=
  match res with
  | .bad ec eo => e = PEnd ec eo ∧ Only (fun k => k = p) w w'
  | .ok a r => ∃ v, e = .returned (.agg #[.string a.p, v]) ∧ Lst elCon w' (fun b => w.heap.size ≤ b) v (a.ts.map Trm.con) ∧ Ahead w' p ao cap L c f r ∧ Only (fun k => k = p) w w'
theorem factPost_bad {w w' : World} {p : Nat} {ao : Option Addr} {cap : Nat} {L : List Tok} {c f ec eo : Int} {e : Ending} (h : FactPost w p ao cap L c f (.bad ec eo) e w') : e = PEnd ec eo ∧ Only (fun k => k = p) w w' := h
theorem factPost_ok {w w' : World} {p : Nat} {ao : Option Addr} {cap : Nat} {L : List Tok} {c f : Int} {a : PAtom} {r : List Tok} {e : Ending} (h : FactPost w p ao cap L c f (.ok a r) e w') : ∃ v, e = .returned (.agg #[.string a.p, v]) ∧ Lst elCon w' (fun b => w.heap.size ≤ b) v (a.ts.map Trm.con) ∧ Ahead w' p ao cap L c f r ∧ Only (fun k => k = p) w w' := h

/-- What the loop of a fact's constants keeps in memory. -/
structure FctAt (w wr : World) (p : Nat) (ao : Option Addr) (cap : Nat) (L : List Tok) (c f : Int) (R : List Tok) (b4 : Nat) (pr : ByteArray) (v : Value) (l : List Con) (av : Value) (ts : List Trm) : Prop where
  col : Coll3 elCon 60 w wr p ao cap L c f R (b4 + 1) v l
  b0 : wr.heap[w.heap.size]? = some (.cells #[.string ⟨#[]⟩, .slice none 0 0] 24 (0, 0))
  bx : wr.heap[b4]? = some (.cells #[.string pr, v] 24 (0, 0))
  ar : Lst elTrm wr (fun k => w.heap.size < k ∧ k < b4) av ts
  hb : w.heap.size < b4
section
variable {w wr wr' : World} {p : Nat} {ao : Option Addr} {cap : Nat} {L : List Tok} {c f : Int} {R R' : List Tok} {b4 : Nat} {pr : ByteArray} {v v' av : Value} {l l' : List Con} {ts : List Trm}
theorem FctAt.below (h : FctAt w wr p ao cap L c f R b4 pr v l av ts) (hb : Below wr.heap.size wr wr') : FctAt w wr' p ao cap L c f R b4 pr v l av ts :=
  ⟨h.col.below hb, by rw [hb.block _ (Array.getElem?_eq_some_iff.1 h.b0).1]; exact h.b0, by rw [hb.block _ (Array.getElem?_eq_some_iff.1 h.bx).1]; exact h.bx, h.ar.move fun k hk hF => ⟨hF, hb.block k hk⟩, h.hb⟩
theorem FctAt.cells (h : FctAt w wr p ao cap L c f R b4 pr v l av ts) : (wr.cell? ⟨w.heap.size, 0, none⟩ = some (.string ⟨#[]⟩) ∧ wr.cell? ⟨w.heap.size, 1, none⟩ = some (.slice none 0 0) ∧ wr.frozen? ⟨w.heap.size, 0, none⟩ = false ∧ wr.frozen? ⟨w.heap.size, 1, none⟩ = false) ∧ wr.cell? ⟨b4, 0, none⟩ = some (.string pr) ∧ wr.cell? ⟨b4, 1, none⟩ = some v ∧ wr.frozen? ⟨b4, 1, none⟩ = false := by
  refine ⟨⟨?_, ?_, ?_, ?_⟩, ?_, ?_, ?_⟩ <;> simp [World.cell?, World.frozen?, h.b0, h.bx]
theorem FctAt.far (h : FctAt w wr p ao cap L c f R b4 pr v l av ts) (hg : wr.grownBy wr' v.ownBlock) : wr'.heap[b4]? = some (.cells #[.string pr, v] 24 (0, 0)) := by
  have ho : Only (fun k => b4 + 1 ≤ k) wr wr' := (Only.refl _ wr).grown hg (fun k hk _ => own_new h.col.gr.1 k hk)
  rw [ho.block _ (Array.getElem?_eq_some_iff.1 h.bx).1 (by omega)]; exact h.bx
theorem FctAt.push (h : FctAt w wr p ao cap L c f R b4 pr v l av ts) (hg : wr.grownBy wr' v.ownBlock) (hG : Grow elCon 60 (b4 + 1) wr' v' l') : FctAt w (wr'.setCell ⟨b4, 1, none⟩ v') p ao cap L c f R b4 pr v' l' av ts := by
  have hp := h.col.pl
  have hb := h.hb
  have hc := h.col.grown hg hG
  have ho : Only (fun k => b4 + 1 ≤ k) wr wr' := (Only.refl _ wr).grown hg (fun k hk _ => own_new h.col.gr.1 k hk)
  have ho2 : Only (fun k => k = b4) wr' (wr'.setCell ⟨b4, 1, none⟩ v') := (Only.refl (fun k => k = b4) wr').setCell (p := ⟨b4, 1, none⟩) rfl _
  have hb0 : wr'.heap[w.heap.size]? = some (.cells #[.string ⟨#[]⟩, .slice none 0 0] 24 (0, 0)) := by rw [ho.block _ (Array.getElem?_eq_some_iff.1 h.b0).1 (by omega)]; exact h.b0
  refine ⟨⟨?_, hc.gr.above fun b hb hlt => ho2.block b hlt (by omega), hc.on.trans (ho2.mono fun k _ (e : k = b4) => .inr (by omega)), hp, hc.tk, hc.lo, Nat.le_trans hc.hi ho2.size⟩, ?_, ?_, ?_, hb⟩
  · obtain ⟨i, q1, q2⟩ := hc.ah
    exact ⟨i, q1.only ho2 (by omega) (fun g hg hl => by have := hc.tk g hg hl; omega), q2⟩
  · rw [ho2.block _ (Array.getElem?_eq_some_iff.1 hb0).1 (by omega)]; exact hb0
  · have := h.far hg
    simp [World.setCell, Array.getElem?_modify, this]
  · exact h.ar.move fun k hk hF => ⟨hF, by rw [ho2.block k (Nat.lt_of_lt_of_le hk ho.size) (by omega), ho.block k hk (by omega)]⟩
end
theorem fctRes (W : World) (b : Nat) (u0 u1 : Value) (tmps : Array Value) (ht : tmps[2]? = some (.pointer (some ⟨b, 0, none⟩))) (hb : W.heap[b]? = some (.cells #[u0, u1] 24 (0, 0))) :
    (results Tryz.f20 tmps).run Tryz.prog W = .ok (.agg #[u0, u1]) W := by
  have c0 : W.cell? ⟨b, 0, none⟩ = some u0 := by simp [World.cell?, hb]
  have c1 : W.cell? ⟨b, 1, none⟩ = some u1 := by simp [World.cell?, hb]
  simp [results, Tryz.results20, go_sem, ht, c0, c1]
theorem atom3_cells {V : World} {b : Nat} {u0 u1 u2 : Value} (h : V.heap[b]? = some (.cells #[u0, u1, u2] 55 (0, 0))) : V.cell? ⟨b, 0, none⟩ = some u0 ∧ V.cell? ⟨b, 1, none⟩ = some u1 := by
  refine ⟨?_, ?_⟩ <;> simp [World.cell?, h]

theorem box_kept0 {W W' : World} {b : Nat} {x : Obj} (h : W.heap[b]? = some x) (hb : Below W.heap.size W W') : W'.heap[b]? = some x := by
  rw [hb.block _ (Array.getElem?_eq_some_iff.1 h).1]; exact h
theorem box_moved0 {W W' : World} {p b : Nat} {x : Obj} (h : W.heap[b]? = some x) (hp : p ≠ b) (ho : Only (fun k => k = p) W W') : W'.heap[b]? = some x := by
  rw [ho.block _ (Array.getElem?_eq_some_iff.1 h).1 (by omega)]; exact h
set_option maxHeartbeats 4000000 in
set_option maxRecDepth 100000 in
theorem fact_any {w : World} {p : Nat} {ao : Option Addr} {cap : Nat} {L : List Tok} {c f : Int} {R : List Tok} (h : Ahead w p ao cap L c f R) :
    Calls Tryz.prog 20 #[.pointer (some ⟨p, 0, none⟩)] w (FactPost w p ao cap L c f (factP c f R)) := by
  have H0 := hide h
  have hp := h.lt
  have HB0 := hide (belowA w (.cells #[.string ⟨#[]⟩, .slice none 0 0] 24))
  have HA0 := hide (h.kept (belowA w (.cells #[.string ⟨#[]⟩, .slice none 0 0] 24)))
  clear h
  cases hT : takeP c f [1] R with
  | bad ec eo =>
    have HT : Hid (∀ (W : World) (g : Nat), W.heap.size = g → Ahead W p ao cap L c f R → Calls Tryz.prog 36 #[.pointer (some ⟨p, 0, none⟩), .slice (some ⟨g, 0, none⟩) 1 1] (W.alloc (.cells #[.int .i64 1] 3)) fun e w' => e = PEnd ec eo ∧ Below W.heap.size W w') := fun W g hg ha => hg ▸ take_lit_fail [1] ha (by decide) hT
    rw [show factP c f R = .bad ec eo from by unfold factP; rw [hT]]
    clear hT
    unfold FactPost
    go_enter Tryz.func20, Tryz.ntmps20
    go_wp2_with (go_at_call 36; refine (HT.out _ _ (by simp) HA0.out).mono ?_; rintro e w1 ⟨rfl, hb1⟩)
    exact ⟨rfl, rfl, Only.of_below (belowt2 HB0.out hb1) _⟩
  | ok t r1 =>
    have HT : Hid (∀ (W : World) (g : Nat), W.heap.size = g → Ahead W p ao cap L c f R → Calls Tryz.prog 36 #[.pointer (some ⟨p, 0, none⟩), .slice (some ⟨g, 0, none⟩) 1 1] (W.alloc (.cells #[.int .i64 1] 3)) fun e w' => e = .returned (tokV t) ∧ Ahead w' p ao cap L c f r1 ∧ Only (fun b => b = p) W w') := fun W g hg ha => hg ▸ take_lit_good [1] ha (by decide) hT
    have htg : t.good := H0.out.good t (by rw [(take_eq hT).1]; exact List.mem_cons_self)
    have HG0 := fun (W : World) (ha : Ahead W p ao cap L c f r1) => ground_any t ha htg
    cases hA : atomP c f valueKs t r1 with
    | bad ec eo =>
      rw [hA] at HG0
      have HGd := hide HG0
      rw [show factP c f R = .bad ec eo from by unfold factP; rw [hT]; simp only; rw [hA]]
      clear hT hA HG0
      unfold FactPost
      go_enter Tryz.func20, Tryz.ntmps20
      go_wp2_with (first
        | (go_at_call 36; refine (HT.out _ _ (by simp) HA0.out).mono ?_; rintro e w1 ⟨rfl, ha1, ho1⟩; have HA1 := hide ha1; have HO1 := hide (only_wide HB0.out ho1); have Hs1 := hide ho1.size; have HZ1 := hide (box_moved0 (heap_alloc_new w (.cells #[.string ⟨#[]⟩, .slice none 0 0] 24)) (by omega) ho1); clear ha1 ho1 HT)
        | (go_at_call 35; refine (HGd.out _ HA1.out).mono ?_; intro e w2 hq; obtain ⟨rfl, ho2⟩ := atmPost_bad hq; clear hq))
      exact ⟨rfl, rfl, only_drop (HO1.out.trans (ho2.mono fun k _ e => .inl e))⟩
    | ok a r2 =>
      rw [hA] at HG0
      have HGd := hide HG0
      clear HG0
      cases hD : takeP c f [0] r2 with
      | bad ec eo =>
        have HU : Hid (∀ (W : World) (g : Nat), W.heap.size = g → Ahead W p ao cap L c f r2 → Calls Tryz.prog 36 #[.pointer (some ⟨p, 0, none⟩), .slice (some ⟨g, 0, none⟩) 1 1] (W.alloc (.cells #[.int .i64 0] 3)) fun e w' => e = PEnd ec eo ∧ Below W.heap.size W w') := fun W g hg ha => hg ▸ take_lit_fail [0] ha (by decide) hD
        rw [show factP c f R = .bad ec eo from by unfold factP; rw [hT]; simp only; rw [hA]; simp only; rw [hD]]
        clear hT hA hD
        unfold FactPost
        go_enter Tryz.func20, Tryz.ntmps20
        go_wp2_with (first
          | (go_at_call 36; refine (HT.out _ _ (by simp) HA0.out).mono ?_; rintro e w1 ⟨rfl, ha1, ho1⟩; have HA1 := hide ha1; have HO1 := hide (only_wide HB0.out ho1); have Hs1 := hide ho1.size; have HZ1 := hide (box_moved0 (heap_alloc_new w (.cells #[.string ⟨#[]⟩, .slice none 0 0] 24)) (by omega) ho1); clear ha1 ho1 HT)
          | (go_at_call 35; refine (HGd.out _ HA1.out).mono ?_; intro e w2 hq; obtain ⟨⟨ap, av, aoff, ats⟩, rfl, hpur, hok, ha2, ho2⟩ := atmPost_ok hq; clear hq; obtain ⟨xa, xc, rfl, -⟩ := (show Lst elTrm _ _ av ats from hok.2.2).shape; have HA2 := hide (ha2.kept (belowA w2 (.cells #[.string ap, .slice xa ats.length xc, .int .i64 aoff] 55))); have HO2 := hide ((HO1.out.trans (ho2.mono fun k _ e => .inl e)).alloc (.cells #[.string ap, .slice xa ats.length xc, .int .i64 aoff] 55)); have HZ2 := hide (box_kept0 (box_moved0 HZ1.out (by omega) ho2) (belowA w2 (.cells #[.string ap, .slice xa ats.length xc, .int .i64 aoff] 55))); have HX2 := hide (heap_alloc_new w2 (.cells #[.string ap, .slice xa ats.length xc, .int .i64 aoff] 55)); have HAr2 := hide ((show Lst elTrm w2 (fun b => w1.heap.size ≤ b) (.slice xa ats.length xc) ats from hok.2.2).move fun k hk hF => (⟨⟨by have := Hs1.out; simp at this; omega, hk⟩, (belowA w2 (.cells #[.string ap, .slice xa ats.length xc, .int .i64 aoff] 55)).block k hk⟩ : (w.heap.size < k ∧ k < w2.heap.size) ∧ _)); have Hs2 := hide (Nat.le_trans Hs1.out ho2.size); have HPu := hide hpur; clear hpur hok ha2 ho2 HGd; unfold Atx.val)
          | (go_at_call 36; refine (HU.out _ _ (by simp) HA2.out).mono ?_; rintro e w3 ⟨rfl, hb3⟩))
        exact ⟨rfl, rfl, only_drop (HO2.out.trans (Only.of_below hb3 _))⟩
      | ok s r3 =>
        have HU : Hid (∀ (W : World) (g : Nat), W.heap.size = g → Ahead W p ao cap L c f r2 → Calls Tryz.prog 36 #[.pointer (some ⟨p, 0, none⟩), .slice (some ⟨g, 0, none⟩) 1 1] (W.alloc (.cells #[.int .i64 0] 3)) fun e w' => e = .returned (tokV s) ∧ Ahead w' p ao cap L c f r3 ∧ Only (fun b => b = p) W w') := fun W g hg ha => hg ▸ take_lit_good [0] ha (by decide) hD
        rw [show factP c f R = .ok a r3 from by unfold factP; rw [hT]; simp only; rw [hA]; simp only; rw [hD]]
        clear hT hA hD
        obtain ⟨Post, hPost⟩ : ∃ Post : Ending → World → Prop, Post = FactPost w p ao cap L c f (.ok a r3) := ⟨_, rfl⟩
        rw [← hPost]
        have PG : Hid (∀ v w', Lst elCon w' (fun b => w.heap.size ≤ b) v (a.ts.map Trm.con) → Ahead w' p ao cap L c f r3 → Only (fun k => k = p) w w' → Post (.returned (.agg #[.string a.p, v])) w') := fun v w' h1 h2 h3 => by
          rw [hPost]; exact ⟨v, rfl, h1, h2, h3⟩
        clear hPost
        go_enter Tryz.func20, Tryz.ntmps20
        go_wp2_with (first
          | (go_at_call 36; refine (HT.out _ _ (by simp) HA0.out).mono ?_; rintro e w1 ⟨rfl, ha1, ho1⟩; have HA1 := hide ha1; have HO1 := hide (only_wide HB0.out ho1); have Hs1 := hide ho1.size; have HZ1 := hide (box_moved0 (heap_alloc_new w (.cells #[.string ⟨#[]⟩, .slice none 0 0] 24)) (by omega) ho1); clear ha1 ho1 HT)
          | (go_at_call 35; refine (HGd.out _ HA1.out).mono ?_; intro e w2 hq; obtain ⟨⟨ap, av, aoff, ats⟩, rfl, hpur, hok, ha2, ho2⟩ := atmPost_ok hq; clear hq; obtain ⟨xa, xc, rfl, -⟩ := (show Lst elTrm _ _ av ats from hok.2.2).shape; have HA2 := hide (ha2.kept (belowA w2 (.cells #[.string ap, .slice xa ats.length xc, .int .i64 aoff] 55))); have HO2 := hide ((HO1.out.trans (ho2.mono fun k _ e => .inl e)).alloc (.cells #[.string ap, .slice xa ats.length xc, .int .i64 aoff] 55)); have HZ2 := hide (box_kept0 (box_moved0 HZ1.out (by omega) ho2) (belowA w2 (.cells #[.string ap, .slice xa ats.length xc, .int .i64 aoff] 55))); have HX2 := hide (heap_alloc_new w2 (.cells #[.string ap, .slice xa ats.length xc, .int .i64 aoff] 55)); have HAr2 := hide ((show Lst elTrm w2 (fun b => w1.heap.size ≤ b) (.slice xa ats.length xc) ats from hok.2.2).move fun k hk hF => (⟨⟨by have := Hs1.out; simp at this; omega, hk⟩, (belowA w2 (.cells #[.string ap, .slice xa ats.length xc, .int .i64 aoff] 55)).block k hk⟩ : (w.heap.size < k ∧ k < w2.heap.size) ∧ _)); have Hs2 := hide (Nat.le_trans Hs1.out ho2.size); have HPu := hide hpur; clear hpur hok ha2 ho2 HGd; unfold Atx.val)
          | (go_at_call 36; refine (HU.out _ _ (by simp) HA2.out).mono ?_; rintro e w3 ⟨rfl, ha3, ho3⟩; have HA3 := hide ha3; have HO3 := hide (HO2.out.trans (ho3.mono fun k _ e => .inl e)); have HZ3 := hide (box_moved0 HZ2.out (by omega) ho3); have hs2 := Hs2.out; simp at hs2; have HX3 := hide (box_moved0 HX2.out (by omega) ho3); have HAr3 := hide (HAr2.out.move fun k hk hF => ⟨hF, ho3.block k hk (by omega)⟩); have HS3 := hide ho3.size; clear ha3 ho3; obtain ⟨m0, m1⟩ := atom3_cells HX3.out; have m2 := kept_cell (belowA w3 (.cells #[.string ap, .slice none 0 0] 24)) m1))
        have hs3 := HS3.out
        simp at hs3
        have HF0 : Hid (FctAt w (w3.alloc (.cells #[.string ap, .slice none 0 0] 24)) p ao cap L c f r3 w3.heap.size ap (.slice none 0 0) [] (.slice xa ats.length xc) ats) :=
          ⟨⟨HA3.out.kept (belowA w3 (.cells #[.string ap, .slice none 0 0] 24)), Grow.nil _ _ _ _, HO3.out.alloc _, hp, H0.out.tk, by omega, by simp⟩, box_kept0 HZ3.out (belowA w3 (.cells #[.string ap, .slice none 0 0] 24)), heap_alloc_new w3 (.cells #[.string ap, .slice none 0 0] 24), HAr3.out.move fun k hk hF => ⟨⟨hF.1, by omega⟩, (belowA w3 (.cells #[.string ap, .slice none 0 0] 24)).block k hk⟩, by omega⟩
        have hln : ats.length < 1073741824 := by obtain ⟨_, _, _, _, _, q⟩ := HAr3.out.shape; exact q
        clear m0 m1 m2 HA3 HO3 HZ3 HX3 HAr3 HS3 HA2 HO2 HZ2 HX2 HAr2 Hs2 HA1 HO1 HZ1 Hs1 HU HA0 HB0
        go_loopw [21] (fun i wr => ∃ (j : Nat) (v : Value) (l : List Con), j ≤ ats.length ∧ i = .int .i64 j ∧ Hid (l = (ats.take j).map Trm.con) ∧ Hid (FctAt w wr p ao cap L c f r3 w3.heap.size ap v l (.slice xa ats.length xc) ats)) (fun i _ => ats.length - (intOf i).toNat)
        case atStart => exact ⟨0, _, [], by omega, rfl, by show _ = _; simp, HF0⟩
        case round =>
          clear HF0
          obtain ⟨j, v, l, hj, rfl, HL, HF⟩ := hrel
          obtain ⟨va, vc, rfl, -⟩ := HF.out.col.gr.shape
          have hlj : l.length ≤ j := by rw [HL.out]; simp; omega
          by_cases hlt : j < ats.length
          · have hi : (j : Int) < (ats.length : Int) := by omega
            have hi0 : (0 : Int) ≤ (j : Int) := by omega
            obtain ⟨u, hu⟩ : ∃ u, ats[j]? = some u := ⟨_, List.getElem?_eq_getElem hlt⟩
            obtain ⟨b2, o2, rfl, -, -, hr2⟩ := HF.out.ar.row (by omega)
            have y0 := hr2 j _ hu 0 _ rfl
            have y1 := hr2 j _ hu 1 _ rfl
            have y2 := hr2 j _ hu 2 _ rfl
            have y3 := hr2 j _ hu 3 _ rfl
            simp only [elTrm, Nat.add_zero] at y0 y1 y2 y3
            have HOk : Hid (u.con.ok) := (HF.out.ar.ok (List.mem_of_getElem? hu)).1
            have HL2 : Hid (l ++ [u.con] = (ats.take (j + 1)).map Trm.con) := by
              show _ = _
              rw [HL.out, List.take_add_one, hu, Option.toList_some, List.map_append, List.map_singleton]
            have HF1 := hide (HF.out.below (belowA wr (.cells #[.int .i64 u.k, .int .i64 u.n, .string u.s, .int .i64 u.off] 58)))
            have HF2 := hide (HF1.out.below (belowA _ (.cells #[.int .i64 u.k, .int .i64 u.n, .string u.s] 60)))
            obtain ⟨-, n0, n1, n2⟩ := HF1.out.cells
            clear hr2 hu
            go_wp2_with (at_builtin; obtain ⟨i0, hi0', hz0, hz1, hz2⟩ := info_parts Tryz.infoCon; refine wpList_push (w0 := (wr.alloc (.cells #[.int .i64 u.k, .int .i64 u.n, .string u.s, .int .i64 u.off] 58)).alloc (.cells #[.int .i64 u.k, .int .i64 u.n, .string u.s] 60)) elCon rfl _ _ 22 rfl (w3.heap.size + 1) 60 i0 _ 32 Tryz.underlying22 hi0' hz0 hz1 hz2 rfl (by decide) _ l l.length rfl rfl HF2.out.col.gr u.con (wr.heap.size + 1) 1 rfl (fun j u' hu => by have := new_cells (w := wr.alloc (.cells #[.int .i64 u.k, .int .i64 u.n, .string u.s, .int .i64 u.off] 58)) (cs := #[.int .i64 u.k, .int .i64 u.n, .string u.s]) (t := 60) j u' hu; simpa using this) HOk.out (by omega) (Below.refl _ _) HF2.out.col.hi ?_; intro g cap' w5 HG5 HB5 HGr; clear HB5 hi0' hz0 hz1 hz2; have hfar := HF2.out.far HGr.out; have f0 : w5.cell? ⟨w3.heap.size, 1, none⟩ = some (.slice va l.length vc) := (by simp [World.cell?, hfar]); have f1 : w5.frozen? ⟨w3.heap.size, 1, none⟩ = false := (by simp [World.frozen?, hfar]); have HF5 := hide (HF2.out.push HGr.out HG5.out); clear HG5 HGr hfar)
            go_roundw
            case rel => exact ⟨j + 1, _, l ++ [u.con], by omega, by go_num, HL2, HF5⟩
            case measure => simp [intOf]; omega
          · obtain rfl : j = ats.length := by omega
            have hi : ¬ (ats.length : Int) < (ats.length : Int) := by omega
            obtain ⟨⟨q0, q1, q2, q3⟩, n0, n1, n2⟩ := HF.out.cells
            have hb4 := HF.out.hb
            have q4 : ¬ w3.heap.size = w.heap.size := by omega
            have q5 : ¬ w.heap.size = w3.heap.size := by omega
            go_wp2
            have ho2 : Only (fun k => k = w.heap.size) wr ((wr.setCell ⟨w.heap.size, 0, none⟩ (.string ap)).setCell ⟨w.heap.size, 1, none⟩ (.slice va l.length vc)) := ((Only.refl (fun k => k = w.heap.size) wr).setCell (p := ⟨w.heap.size, 0, none⟩) rfl _).setCell (p := ⟨w.heap.size, 1, none⟩) rfl _
            obtain ⟨z1, z2⟩ := fin_ahead H0.out HF.out.col.ah HF.out.col.on ho2 (Nat.le_refl _)
            have hz := HL.out
            rw [List.take_length] at hz
            have z3 := ((HF.out.col.gr.above fun b hb hlt => ho2.block b hlt (by omega)).new (by omega)).move (G := fun b => w.heap.size ≤ b) fun k _ hF => ⟨by omega, rfl⟩
            rw [hz] at z3
            refine bodyPost_ret (fctRes _ w.heap.size (.string ap) (.slice va l.length vc) _ rfl (by have := HF.out.b0; simp [World.setCell, Array.getElem?_modify, this])) rfl ?_
            have hpu := HPu.out
            subst hpu
            rw [hz]
            rw [hz] at z1 z2
            exact PG.out _ _ z3 z1 z2
end Go.Proofs.YtmdhjggijlhhgaaGreatDoor

namespace Go.Proofs.YtmdhjggijlhhgaaGreatDoor
set_option linter.unusedSimpArgs false
set_option linter.unusedVariables false
open Go.RowKit

theorem rtRes (W : World) (a b : Nat) (v0 v1 u0 u1 u2 : Value) (tmps : Array Value) (h2 : tmps[2]? = some (.pointer (some ⟨a, 0, none⟩))) (h3 : tmps[3]? = some (.pointer (some ⟨b, 0, none⟩))) (ha : W.heap[a]? = some (.cells #[v0, v1] 24 (0, 0))) (hb : W.heap[b]? = some (.cells #[u0, u1, u2] 27 (0, 0))) :
    (results Tryz.f8 tmps).run Tryz.prog W = .ok (.tuple #[.agg #[v0, v1], .agg #[u0, u1, u2]]) W := by
  obtain ⟨⟨c0, c1, c2⟩, -⟩ := chk3_cells hb
  have d0 : W.cell? ⟨a, 0, none⟩ = some v0 := by simp [World.cell?, ha]
  have d1 : W.cell? ⟨a, 1, none⟩ = some v1 := by simp [World.cell?, ha]
  simp [results, Tryz.results8, go_sem, h2, h3, c0, c1, c2, d0, d1]
/-- The two boxes of the answer, not yet written. -/
structure TB2 (w W : World) : Prop where
  fb : FB w W (w.heap.size + 1)
  pb : W.heap[w.heap.size]? = some (.cells #[.string ⟨#[]⟩, .slice none 0 0] 24 (0, 0))
theorem TB2.kept {w W W' : World} (h : TB2 w W) (hb : Below W.heap.size W W') : TB2 w W' :=
  ⟨h.fb.kept hb, by rw [hb.block _ (Array.getElem?_eq_some_iff.1 h.pb).1]; exact h.pb⟩
theorem TB2.start (w : World) : TB2 w ((w.alloc (.cells #[.string ⟨#[]⟩, .slice none 0 0] 24)).alloc (.cells #[.int .i64 0, .int .i64 0, .int .i64 0] 27)) := by
  refine ⟨⟨below2a w _ _, ?_, by omega⟩, ?_⟩
  · have := heap_alloc_new (w.alloc (.cells #[.string ⟨#[]⟩, .slice none 0 0] 24)) (.cells #[.int .i64 0, .int .i64 0, .int .i64 0] 27)
    simpa using this
  · rw [(belowA (w.alloc _) _).block _ (by simp)]; exact heap_alloc_new w _
theorem TB2.lt {w W : World} (h : TB2 w W) : w.heap.size + 2 ≤ W.heap.size := (Array.getElem?_eq_some_iff.1 h.fb.bx).1
theorem TB2.only {w W W' : World} {bp : Nat} (h : TB2 w W) (ho : Only (fun k => k = bp) W W') (hbp : w.heap.size + 2 ≤ bp) : TB2 w W' :=
  ⟨⟨h.fb.hb.trans (ho.below h.fb.hb.size (fun k hk e => by omega)), by rw [ho.block _ (Array.getElem?_eq_some_iff.1 h.fb.bx).1 (by omega)]; exact h.fb.bx, h.fb.ge⟩, by rw [ho.block _ (Array.getElem?_eq_some_iff.1 h.pb).1 (by omega)]; exact h.pb⟩
theorem fact2_cells {W : World} {b : Nat} {u0 u1 : Value} (h : W.heap[b]? = some (.cells #[u0, u1] 24 (0, 0))) : (W.cell? ⟨b, 0, none⟩ = some u0 ∧ W.cell? ⟨b, 1, none⟩ = some u1) ∧ W.frozen? ⟨b, 0, none⟩ = false ∧ W.frozen? ⟨b, 1, none⟩ = false := by
  refine ⟨⟨?_, ?_⟩, ?_, ?_⟩ <;> simp [World.cell?, World.frozen?, h]
theorem TB2.fin {w W : World} (h : TB2 w W) (v0 v : Value) (x o : Int) :
    (((((W.setCell ⟨w.heap.size, 0, none⟩ v0).setCell ⟨w.heap.size, 1, none⟩ v).setCell ⟨w.heap.size + 1, 0, none⟩ (.int .i64 x)).setCell ⟨w.heap.size + 1, 1, none⟩ (.int .i64 0)).setCell ⟨w.heap.size + 1, 2, none⟩ (.int .i64 o)).heap[w.heap.size]? = some (.cells #[v0, v] 24 (0, 0)) ∧
    (((((W.setCell ⟨w.heap.size, 0, none⟩ v0).setCell ⟨w.heap.size, 1, none⟩ v).setCell ⟨w.heap.size + 1, 0, none⟩ (.int .i64 x)).setCell ⟨w.heap.size + 1, 1, none⟩ (.int .i64 0)).setCell ⟨w.heap.size + 1, 2, none⟩ (.int .i64 o)).heap[w.heap.size + 1]? = some (.cells #[.int .i64 x, .int .i64 0, .int .i64 o] 27 (0, 0)) ∧
    Below w.heap.size w (((((W.setCell ⟨w.heap.size, 0, none⟩ v0).setCell ⟨w.heap.size, 1, none⟩ v).setCell ⟨w.heap.size + 1, 0, none⟩ (.int .i64 x)).setCell ⟨w.heap.size + 1, 1, none⟩ (.int .i64 0)).setCell ⟨w.heap.size + 1, 2, none⟩ (.int .i64 o)) ∧
    Only (fun k => k = w.heap.size ∨ k = w.heap.size + 1) W (((((W.setCell ⟨w.heap.size, 0, none⟩ v0).setCell ⟨w.heap.size, 1, none⟩ v).setCell ⟨w.heap.size + 1, 0, none⟩ (.int .i64 x)).setCell ⟨w.heap.size + 1, 1, none⟩ (.int .i64 0)).setCell ⟨w.heap.size + 1, 2, none⟩ (.int .i64 o)) := by
  have ho : Only (fun k => k = w.heap.size ∨ k = w.heap.size + 1) W (((((W.setCell ⟨w.heap.size, 0, none⟩ v0).setCell ⟨w.heap.size, 1, none⟩ v).setCell ⟨w.heap.size + 1, 0, none⟩ (.int .i64 x)).setCell ⟨w.heap.size + 1, 1, none⟩ (.int .i64 0)).setCell ⟨w.heap.size + 1, 2, none⟩ (.int .i64 o)) := (((((Only.refl (fun k => k = w.heap.size ∨ k = w.heap.size + 1) W).setCell (p := ⟨w.heap.size, 0, none⟩) (.inl rfl) _).setCell (p := ⟨w.heap.size, 1, none⟩) (.inl rfl) _).setCell (p := ⟨w.heap.size + 1, 0, none⟩) (.inr rfl) _).setCell (p := ⟨w.heap.size + 1, 1, none⟩) (.inr rfl) _).setCell (p := ⟨w.heap.size + 1, 2, none⟩) (.inr rfl) _
  exact ⟨by simp [World.setCell, Array.getElem?_modify, h.pb], by simp [World.setCell, Array.getElem?_modify, h.fb.bx], h.fb.hb.trans (ho.below h.fb.hb.size (fun k hk e => by omega)), ho⟩

set_option maxRecDepth 100000 in
set_option maxHeartbeats 4000000 in
theorem rfact_bad (s : ByteArray) (w : World) (hs : s.size ≤ 140737488351232) {x o : Int} (hC : chkR (scanX s).2.1 ((scanX s).2.2 : Int) 20 20 ⟨0, 0, 0⟩ (scanX s).1 = .bad x o) :
    Calls Tryz.prog 8 #[.string s] w fun e w' => e = .returned (.tuple #[.agg #[.string ⟨#[]⟩, .slice none 0 0], faultV x o]) ∧ Below w.heap.size w w' := by
  have h0 := fun W => check_any s 20 W hs
  simp only [hC] at h0
  have HC := hide h0
  have hx : (x != 0) = true := by simpa using chk_ne _ _ _ _ _ hC
  clear hC h0 hs
  go_enter Tryz.func8, Tryz.ntmps8
  go_upto_region 2 with (go_at_call 21; refine (HC.out _).mono ?_; intro e w1 hq; obtain ⟨rfl, hb1⟩ := chkPost_bad hq; have HF1 := hide ((TB2.start w).kept hb1); clear hq hb1)
  obtain ⟨Y, hY⟩ : ∃ Y, Y = w1.alloc (.cells #[.int .i64 x, .int .i64 0, .int .i64 o] 27) := ⟨_, rfl⟩
  have HFY : Hid (TB2 w Y) := by rw [hY]; exact HF1.out.kept (belowA _ _)
  have hG : Y.heap[w1.heap.size]? = some (.cells #[.int .i64 x, .int .i64 0, .int .i64 o] 27 (0, 0)) := by rw [hY]; exact heap_alloc_new w1 _
  obtain ⟨⟨q0, q1, q2⟩, -⟩ := chk3_cells hG
  obtain ⟨⟨p0, p1, p2⟩, f0, f1, f2⟩ := chk3_cells HFY.out.fb.bx
  obtain ⟨⟨k0, k1⟩, z0, z1⟩ := fact2_cells HFY.out.pb
  have n1 : ¬ w.heap.size = w1.heap.size := by have := HF1.out.lt; omega
  have n2 : ¬ w.heap.size + 1 = w1.heap.size := by have := HF1.out.lt; omega
  rw [← hY]
  clear hY hG HF1
  go_wp2
  go_region
  go_wp2
  exact bodyPost_ret (rtRes _ w.heap.size (w.heap.size + 1) (.string ⟨#[]⟩) (.slice none 0 0) (.int .i64 x) (.int .i64 0) (.int .i64 o) _ rfl rfl (HFY.out.fin (.string ⟨#[]⟩) (.slice none 0 0) x o).1 (HFY.out.fin (.string ⟨#[]⟩) (.slice none 0 0) x o).2.1) rfl ⟨rfl, (HFY.out.fin (.string ⟨#[]⟩) (.slice none 0 0) x o).2.2.1.drew⟩

/-- The fact's box and its constants so far. -/
structure FtAt (w2 wl : World) (bp : Nat) (nm : ByteArray) (v : Value) (cs : List Con) : Prop where
  on : Only (fun k => k = bp) w2 wl
  pb : wl.heap[bp]? = some (.cells #[.string nm, v] 24 (0, 0))
  gr : Grow elCon 60 w2.heap.size wl v cs
  lt : bp < w2.heap.size
section
variable {w2 wl wl' : World} {bp : Nat} {nm : ByteArray} {v v' : Value} {cs cs' : List Con}
theorem FtAt.kept (h : FtAt w2 wl bp nm v cs) (hb : Below wl.heap.size wl wl') : FtAt w2 wl' bp nm v cs :=
  ⟨h.on.trans (Only.of_below hb _), by rw [hb.block _ (Array.getElem?_eq_some_iff.1 h.pb).1]; exact h.pb, h.gr.kept hb, h.lt⟩
theorem FtAt.far (h : FtAt w2 wl bp nm v cs) (hg : wl.grownBy wl' v.ownBlock) : wl'.heap[bp]? = some (.cells #[.string nm, v] 24 (0, 0)) := by
  have ho : Only (fun k => w2.heap.size ≤ k) wl wl' := (Only.refl _ wl).grown hg (fun k hk _ => own_new h.gr.1 k hk)
  have := h.lt
  rw [ho.block _ (Array.getElem?_eq_some_iff.1 h.pb).1 (by omega)]; exact h.pb
theorem FtAt.push (h : FtAt w2 wl bp nm v cs) (hg : wl.grownBy wl' v.ownBlock) (hG : Grow elCon 60 w2.heap.size wl' v' cs') : FtAt w2 (wl'.setCell ⟨bp, 1, none⟩ v') bp nm v' cs' := by
  have hl := h.lt
  have hs := h.on.size
  have ho : Only (fun k => w2.heap.size ≤ k) wl wl' := (Only.refl _ wl).grown hg (fun k hk _ => own_new h.gr.1 k hk)
  have ho2 : Only (fun k => k = bp) wl' (wl'.setCell ⟨bp, 1, none⟩ v') := (Only.refl (fun k => k = bp) wl').setCell (p := ⟨bp, 1, none⟩) rfl _
  refine ⟨?_, ?_, hG.above fun b hb hlt => ho2.block b hlt (by omega), hl⟩
  · have h3 : Only (fun k => k = bp) w2 wl' := ⟨ho.os.trans h.on.os, ho.tape.trans h.on.tape, ho.output.trans h.on.output, Nat.le_trans h.on.size ho.size, fun k hk hne => (ho.block k (Nat.lt_of_lt_of_le hk hs) (by omega)).trans (h.on.block k hk hne)⟩
    exact h3.trans ho2
  · have := h.far hg
    simp [World.setCell, Array.getElem?_modify, this]
theorem FtAt.start (w2 : World) (h : w2.heap[bp]? = some (.cells #[.string nm, .slice none 0 0] 24 (0, 0))) : FtAt w2 w2 bp nm (.slice none 0 0) [] :=
  ⟨Only.refl _ _, h, Grow.nil _ _ _ _, (Array.getElem?_eq_some_iff.1 h).1⟩
end

set_option maxRecDepth 100000 in
set_option maxHeartbeats 4000000 in
theorem rfact_ok (s : ByteArray) (w : World) (hs : s.size ≤ 140737488351232) {u : Unit} {r : List Tok} (hC : chkR (scanX s).2.1 ((scanX s).2.2 : Int) 20 20 ⟨0, 0, 0⟩ (scanX s).1 = .ok u r) (hB : (scanX s).1 ≠ []) :
    Calls Tryz.prog 8 #[.string s] w fun e w' => ∃ v, e = .returned (.tuple #[.agg #[.string (atomR (scanX s).1).p, v], faultV 0 0]) ∧ Lst elCon w' (fun b => w.heap.size ≤ b) v ((atomR (scanX s).1).ts.map Trm.con) ∧ Below w.heap.size w w' := by
  have h0 := fun W => check_any s 20 W hs
  simp only [hC] at h0
  have HC := hide h0
  obtain ⟨-, hlen⟩ := scan_good s
  generalize (scanX s).1 = L at *
  have HB0 := hide hB
  clear hC h0 hs hB
  go_enter Tryz.func8, Tryz.ntmps8
  go_upto_region 2 with (go_at_call 21; refine (HC.out _).mono ?_; intro e w1 hq; obtain ⟨v, rfl, hls, hb1⟩ := chkPost_ok hq; have HF1 := hide ((TB2.start w).kept hb1); obtain ⟨va, vc, rfl, -⟩ := hls.shape; have HL1 := hide hls.all; clear hq hb1 hls)
  obtain ⟨Y, hY⟩ : ∃ Y, Y = w1.alloc (.cells #[.int .i64 0, .int .i64 0, .int .i64 0] 27) := ⟨_, rfl⟩
  have HFY : Hid (TB2 w Y) := by rw [hY]; exact HF1.out.kept (belowA _ _)
  have HLY : Hid (Has elTok Y (.slice va L.length vc) L) := by rw [hY]; exact HL1.out.kept (belowA _ _)
  have hG : Y.heap[w1.heap.size]? = some (.cells #[.int .i64 0, .int .i64 0, .int .i64 0] 27 (0, 0)) := by rw [hY]; exact heap_alloc_new w1 _
  obtain ⟨⟨q0, q1, q2⟩, -⟩ := chk3_cells hG
  have HAt := hide (ratom_ne HLY.out (by omega) HB0.out)
  have HLt := hide HFY.out.lt
  rw [← hY]
  clear hY hG HF1 HL1 HC HLY
  go_upto_region 6 with (go_at_call 22; refine HAt.out.mono ?_; intro e w2 hq; obtain ⟨⟨ap, av, aoff, ats⟩, rfl, hpur, hok, hb⟩ := hq; obtain ⟨xa, xc, rfl, -⟩ := (show Lst elTrm _ _ av ats from hok.2.2).shape; have HPu := hide hpur; have HOk := hide (show Lst elTrm w2 _ _ ats from hok.2.2); have HF2 := hide (HFY.out.kept hb); have hYs := hb.size; unfold Atx.val; clear hpur hok hb)
  obtain ⟨O, hO⟩ : ∃ O, O = (w2.alloc (.cells #[.string ap, .slice xa ats.length xc, .int .i64 aoff] 55)).alloc (.cells #[.string ap, .slice none 0 0] 24) := ⟨_, rfl⟩
  have HFO : Hid (TB2 w O) := by rw [hO]; exact HF2.out.kept (below2a _ _ _)
  have HP0 : Hid (FtAt O O (w2.heap.size + 1) ap (.slice none 0 0) []) := FtAt.start O (by rw [hO]; have := heap_alloc_new (w2.alloc (.cells #[.string ap, .slice xa ats.length xc, .int .i64 aoff] 55)) (.cells #[.string ap, .slice none 0 0] 24); simpa using this)
  have HLO : Hid (Lst elTrm O (fun b => b < w2.heap.size) (.slice xa ats.length xc) ats) := HOk.out.move fun b hb _ => ⟨hb, by rw [hO]; exact (below2a w2 _ _).block b hb⟩
  have hAb : O.heap[w2.heap.size]? = some (.cells #[.string ap, .slice xa ats.length xc, .int .i64 aoff] 55 (0, 0)) := by rw [hO, (belowA (w2.alloc _) _).block _ (by simp)]; exact heap_alloc_new w2 _
  obtain ⟨m0, m1, m2, -, -, -⟩ := box3_cells hAb
  have hw2 : w.heap.size + 2 ≤ w2.heap.size := by have := HLt.out; omega
  have hatl : ats.length < 1073741824 := by obtain ⟨_, _, _, _, _, h⟩ := HOk.out.shape; exact h
  have HAP : Hid (atomR L = ⟨ap, ats, aoff⟩) := HPu.out.symm
  rw [← hO]
  clear hO hAb HF2 HPu HOk q0 q1 q2 HFY HAt hYs HLt
  generalize w2.heap.size = bA at *
  obtain ⟨m, hm⟩ : ∃ m, m = ats.length := ⟨_, rfl⟩
  rw [← hm] at hatl HLO m1
  try rw [← hm]
  have HM := hide hm
  clear hm
  go_wp2
  go_loopw [28] (fun i wl => ∃ (j : Nat) (cs : List Con) (oa : Option Addr) (oc : Nat), j ≤ m ∧ i = .int .i64 j ∧ Hid (cs.length = j) ∧ Hid (cs = (ats.take j).map Trm.con) ∧ Hid (FtAt O wl (bA + 1) ap (.slice oa j oc) cs)) (fun i _ => m - (intOf i).toNat)
  case atStart => exact ⟨0, [], none, 0, by omega, rfl, rfl, rfl, HP0⟩
  case round =>
    clear HP0
    obtain ⟨j, cs, oa, oc, hj, rfl, HLn, HLs, HPg⟩ := hrel
    have HLl : Hid (Lst elTrm wr (fun b => b < bA) (.slice xa m xc) ats) := HLO.out.move fun b hb hF => ⟨hF, HPg.out.on.block b hb (by have h9 : b < bA := hF; omega)⟩
    by_cases hlt : j < m
    · have hi : (j : Int) < (m : Int) := by omega
      have hi0 : (0 : Int) ≤ (j : Int) := by omega
      obtain ⟨t, ht⟩ : ∃ t, ats[j]? = some t := ⟨_, List.getElem?_eq_getElem (by rw [← HM.out]; exact hlt)⟩
      have HTo := hide (HLl.out.ok (List.mem_of_getElem? ht))
      obtain ⟨b3, o3, rfl, -, -, hr3⟩ := HLl.out.row (by rw [← HM.out]; omega)
      have y0 := hr3 j _ ht 0 _ rfl
      have y1 := hr3 j _ ht 1 _ rfl
      have y2 := hr3 j _ ht 2 _ rfl
      have y3 := hr3 j _ ht 3 _ rfl
      simp only [elTrm, Nat.add_zero] at y0 y1 y2 y3
      have HSn : Hid ((ats.take (j + 1)).map Trm.con = (ats.take j).map Trm.con ++ [t.con]) := take_map_snoc (f := Trm.con) ht
      clear hr3 ht
      have hjm : j + 1 < 1073741824 := by omega
      go_upto_region 9 with fail
      obtain ⟨Z, hZ⟩ : ∃ Z, Z = wr.alloc (.cells #[.int .i64 t.k, .int .i64 t.n, .string t.s, .int .i64 t.off] 58) := ⟨_, rfl⟩
      have HPgZ : Hid (FtAt O Z (bA + 1) ap (.slice oa j oc) cs) := by rw [hZ]; exact HPg.out.kept (belowA _ _)
      have hTb : Z.heap[wr.heap.size]? = some (.cells #[.int .i64 t.k, .int .i64 t.n, .string t.s, .int .i64 t.off] 58 (0, 0)) := by rw [hZ]; exact heap_alloc_new wr _
      have t0 : Z.cell? ⟨wr.heap.size, 0, none⟩ = some (.int .i64 t.k) := by simp [World.cell?, hTb]
      have t1 : Z.cell? ⟨wr.heap.size, 1, none⟩ = some (.int .i64 t.n) := by simp [World.cell?, hTb]
      have t2 : Z.cell? ⟨wr.heap.size, 2, none⟩ = some (.string t.s) := by simp [World.cell?, hTb]
      obtain ⟨⟨-, p1⟩, -⟩ := fact2_cells HPgZ.out.pb
      have HPgU := hide (HPgZ.out.kept (belowA Z (.cells #[.int .i64 t.k, .int .i64 t.n, .string t.s] 60)))
      rw [← hZ]
      clear hZ hTb y0 y1 y2 y3 HPgZ
      go_wp2_with (at_builtin; obtain ⟨i0, hi0', hz0, hz1, hz2⟩ := info_parts Tryz.infoCon; refine wpList_push (w0 := Z.alloc (.cells #[.int .i64 t.k, .int .i64 t.n, .string t.s] 60)) elCon rfl _ _ 22 rfl O.heap.size 60 i0 _ 32 Tryz.underlying22 hi0' hz0 hz1 hz2 rfl (by decide) _ cs j HLn.out rfl HPgU.out.gr t.con Z.heap.size 1 rfl (fun j u hu => new_cells (w := Z) (cs := #[.int .i64 t.k, .int .i64 t.n, .string t.s]) (t := 60) j u hu) HTo.out.1 hjm (Below.refl _ _) HPgU.out.on.size ?_; intro g7 c7 W7 HG7 HB7 HGr7; have hfar := HPgU.out.far HGr7.out; have HPg7 := hide (HPgU.out.push HGr7.out HG7.out); obtain ⟨⟨-, d0⟩, -, d1⟩ := fact2_cells hfar; clear HPgU HGr7 hi0' hz0 hz1 hz2 hfar HB7 HG7)
      go_roundw
      case rel => exact ⟨j + 1, cs ++ [t.con], some ⟨g7, 0, none⟩, c7, by omega, by go_num, by show _ = _; rw [List.length_append, HLn.out]; rfl, by show _ = _; rw [HSn.out, HLs.out], HPg7⟩
      case measure => simp [intOf]; omega
    · obtain rfl : j = m := by omega
      have hi : ¬ (j : Int) < (j : Int) := by omega
      have HF3 := hide (HFO.out.only HPg.out.on (by omega))
      obtain ⟨⟨p0, p1, p2⟩, f0, f1, f2⟩ := chk3_cells HF3.out.fb.bx
      obtain ⟨⟨k0, k1⟩, z0, z1⟩ := fact2_cells HF3.out.pb
      obtain ⟨⟨e0, e1⟩, -⟩ := fact2_cells HPg.out.pb
      have n1 : ¬ w.heap.size = bA + 1 := by omega
      have n2 : ¬ w.heap.size + 1 = bA + 1 := by omega
      have HSz := hide (show bA + 1 < O.heap.size from HPg.out.lt)
      go_wp2
      refine bodyPost_ret (rtRes _ w.heap.size (w.heap.size + 1) (.string ap) (.slice oa j oc) (.int .i64 0) (.int .i64 0) (.int .i64 0) _ rfl rfl (HF3.out.fin (.string ap) (.slice oa j oc) 0 0).1 (HF3.out.fin (.string ap) (.slice oa j oc) 0 0).2.1) rfl ⟨.slice oa j oc, by rw [HAP.out]; rfl, ?_, (HF3.out.fin (.string ap) (.slice oa j oc) 0 0).2.2.1⟩
      have hcs : ats.map Trm.con = cs := by rw [HLs.out, List.take_of_length_le (by rw [← HM.out]; omega)]
      rw [HAP.out]
      show Lst elCon _ _ _ (ats.map Trm.con)
      rw [hcs]
      exact (HPg.out.gr.new (by rw [HLn.out]; omega)).move fun b hb hF => ⟨by have := HSz.out; have h9 : O.heap.size ≤ b := hF; omega, (HF3.out.fin (.string ap) (.slice oa j oc) 0 0).2.2.2.block b hb (by have := HSz.out; have h9 : O.heap.size ≤ b := hF; omega)⟩
end Go.Proofs.YtmdhjggijlhhgaaGreatDoor

namespace Go.Proofs.YtmdhjggijlhhgaaGreatDoor
set_option linter.unusedSimpArgs false
set_option linter.unusedVariables false
open Go.RowKit

theorem neqConSame (a : Con) (w : World) : (binOp .neq 60 (.agg #[.int .i64 a.k, .int .i64 a.n, .string a.s]) (.agg #[.int .i64 a.k, .int .i64 a.n, .string a.s])).run Tryz.prog w = .ok (.bool false) w := by
  have h1 := run_equalIn_struct (P := Tryz.prog) w 9999 60 #[.int .i64 a.k, .int .i64 a.n, .string a.s] #[.int .i64 a.k, .int .i64 a.n, .string a.s] (by kernel_rfl) (by kernel_rfl)
  simp only [binOp]
  simp only [Op.equal, Op.maxDepth, Sem.run_bind]
  go_simp

set_option maxRecDepth 100000 in
set_option maxHeartbeats 1000000 in
theorem sameFact_any {w : World} {F G : Nat → Prop} (pr : ByteArray) (ts : List Con) (v1 v2 : Value) (h1 : Lst elCon w F v1 ts) (h2 : Lst elCon w G v2 ts) :
    Calls Tryz.prog 9 #[.agg #[.string pr, v1], .agg #[.string pr, v2]] w fun e w' => e = .returned (.bool true) ∧ Below w.heap.size w w' := by
  obtain ⟨a1, c1, rfl, -, -, hlen⟩ := h1.shape
  obtain ⟨a2, c2, rfl, -⟩ := h2.shape
  have HH1 := hide h1
  have HH2 := hide h2
  clear h1 h2
  have hps : (pr.toList != pr.toList) = false := by simp
  go_enter Tryz.func9, Tryz.ntmps9
  go_wp2
  obtain ⟨Y, hY⟩ : ∃ Y, Y = (w.alloc (.cells #[.string pr, .slice a1 ts.length c1] 24)).alloc (.cells #[.string pr, .slice a2 ts.length c2] 24) := ⟨_, rfl⟩
  have HB0 : Hid (Below w.heap.size w Y) := by rw [hY]; exact below2a _ _ _
  have HP : Hid (Y.cell? ⟨w.heap.size, 1, none⟩ = some (.slice a1 ts.length c1) ∧ Y.cell? ⟨w.heap.size + 1, 1, none⟩ = some (.slice a2 ts.length c2)) := by
    show _ ∧ _
    rw [hY]
    constructor <;> simp
  rw [← hY]
  clear hY
  go_loopw [23] (fun i wl => ∃ k : Nat, k ≤ ts.length ∧ i = .int .i64 k ∧ Hid (Below Y.heap.size Y wl)) (fun i _ => ts.length - (intOf i).toNat)
  case atStart => exact ⟨0, by omega, rfl, Below.refl _ _⟩
  case round =>
    obtain ⟨k, hk, rfl, HB⟩ := hrel
    have HBw := hide (HB0.out.trans (HB.out.mono HB0.out.size))
    have p1 := kept_cell HB.out HP.out.1
    have p2 := kept_cell HB.out HP.out.2
    by_cases hlt : k < ts.length
    · have hi : (k : Int) < (ts.length : Int) := by omega
      have hi0 : (0 : Int) ≤ (k : Int) := by omega
      obtain ⟨b1, o1, rfl, -, -, hr1⟩ := HH1.out.row (by omega)
      obtain ⟨b2, o2, rfl, -, -, hr2⟩ := HH2.out.row (by omega)
      obtain ⟨x, hx⟩ : ∃ x, ts[k]? = some x := ⟨_, List.getElem?_eq_getElem hlt⟩
      have x0 := over_cell (kept_cell HBw.out (hr1 k x hx 0 _ rfl))
      have x1 := over_cell (kept_cell HBw.out (hr1 k x hx 1 _ rfl))
      have x2 := over_cell (kept_cell HBw.out (hr1 k x hx 2 _ rfl))
      have y0 := over_cell (kept_cell HBw.out (hr2 k x hx 0 _ rfl))
      have y1 := over_cell (kept_cell HBw.out (hr2 k x hx 1 _ rfl))
      have y2 := over_cell (kept_cell HBw.out (hr2 k x hx 2 _ rfl))
      simp only [elCon, Nat.add_zero] at x0 x1 x2 y0 y1 y2
      have hs := neqConSame x
      clear hr1 hr2 hx
      go_wp2
      refine wp_region_over (fun W => W = wr) (by kernel_rfl) (by kernel_rfl) rfl ?_
      rintro W rfl
      have p1' := over_cell p1
      have p2' := over_cell p2
      clear p1 p2
      repeat (go_big_quiet_step (first | fail))
      refine wpQuiet_nil ?_
      rintro _ ⟨z, rfl⟩
      have HB3 := hide (HB.out.trans ((over_below W z).mono HB.out.size))
      clear x0 x1 x2 y0 y1 y2 p1' p2'
      go_wp2
      go_roundw
      case rel => exact ⟨k + 1, by omega, by go_num, HB3⟩
      case measure => simp [intOf]; omega
    · obtain rfl : k = ts.length := by omega
      have hi : ¬ (ts.length : Int) < (ts.length : Int) := by omega
      go_wp2
      go_ret
      exact ⟨rfl, HBw.out⟩

end Go.Proofs.YtmdhjggijlhhgaaGreatDoor

namespace Go.Proofs.YtmdhjggijlhhgaaGreatDoor
set_option linter.unusedSimpArgs false
set_option linter.unusedVariables false
open Go.RowKit

set_option maxRecDepth 100000 in
set_option maxHeartbeats 1000000 in
theorem idleFact (p : Addr) (w : World) :
    CallsD Tryz.prog 33 #[.pointer (some p)] .returning w fun e u' w' => e = .returned (.tuple #[]) ∧ u' = .returning ∧ w' = w := by
  refine callsD_of_wpS Tryz.func33 rfl fun c₀ cs hu => ?_
  apply wpS_seq
  apply wpS_region
  simp [wpOpsS, go_sem, recoverD, hu, Tryz.ntmps33, Exit.thenS]
  apply wpS_seq
  apply wpS_seq
  apply wpS_region
  simp [wpOpsS, go_sem, Exit.thenS]
  refine wpS_cond (t := true) (by simp [Act.eval, Array.replicate]) ?_
  simp only [if_true]
  refine wpS_of_wp (wp_ret ?_)
  cases c₀
  simp_all [bodyPostS, results, Tryz.results33, Exit.thenS]

set_option maxRecDepth 100000 in
set_option maxHeartbeats 1000000 in
theorem caughtFact (b : Nat) (c o : Int) (older : List PanicEntry) (w : World) (hb : w.heap[b]? = some (.cells #[.int .i64 0, .int .i64 0, .int .i64 0] 27 (0, 0))) :
    CallsD Tryz.prog 33 #[.pointer (some ⟨b, 0, none⟩)] (.panicking ({ v := faultP c o, recovered := false } :: older)) w fun e u' w' =>
      e = .returned (.tuple #[]) ∧ u' = .panicking ({ v := faultP c o, recovered := true } :: older) ∧ w'.heap[b]? = some (.cells #[.int .i64 c, .int .i64 0, .int .i64 o] 27 (0, 0)) ∧ Only (fun k => k = b) w w' := by
  obtain ⟨⟨c0, c1, c2⟩, ⟨z0, z1, z2⟩⟩ := fault_cells hb
  have hlt := (Array.getElem?_eq_some_iff.1 hb).1
  have hne : ¬ b = w.heap.size := by omega
  have hne2 : ¬ w.heap.size = b := by omega
  have hta : ∀ W : World, (Instr.typeAssert (faultP c o) 20 27 true).run Tryz.prog W = .ok (.tuple #[.agg #[.int .i64 c, .int .i64 0, .int .i64 o], .bool true]) W := fun W => by rfl
  refine callsD_of_wpS Tryz.func33 rfl fun c₀ cs hu => ?_
  apply wpS_seq
  apply wpS_region
  simp [wpOpsS, go_sem, recoverD, hu, Tryz.ntmps33, Exit.thenS]
  apply wpS_seq
  apply wpS_seq
  apply wpS_region
  simp [wpOpsS, go_sem, Exit.thenS]
  refine wpS_cond (t := false) (by simp [Act.eval, Array.replicate]) ?_
  simp only [Bool.false_eq_true, if_false]
  refine wpS_of_wp (wp_skip ?_)
  simp only [Exit.thenS]
  refine wpS_of_wp ?_
  change Code.wp _ _ _ ⟨#[.pointer (some ⟨b, 0, none⟩), faultP c o, undef, undef, faultP c o, faultP c o, .bool false, undef, undef, undef, undef, undef, undef, undef, undef, undef], []⟩ w
  go_wp2
  have hX : ((((w.setCell ⟨b, 0, none⟩ (.int .i64 c)).setCell ⟨b, 1, none⟩ (.int .i64 0)).setCell ⟨b, 2, none⟩ (.int .i64 o)).alloc (.cells #[.int .i64 c, .int .i64 0, .int .i64 o] 27)).heap[b]? = some (.cells #[.int .i64 c, .int .i64 0, .int .i64 o] 27 (0, 0)) := by
    rw [(belowA _ _).block _ (by simp; exact hlt)]
    simp [World.setCell, Array.getElem?_modify, hb]
  have hO : Only (fun k => k = b) w ((((w.setCell ⟨b, 0, none⟩ (.int .i64 c)).setCell ⟨b, 1, none⟩ (.int .i64 0)).setCell ⟨b, 2, none⟩ (.int .i64 o)).alloc (.cells #[.int .i64 c, .int .i64 0, .int .i64 o] 27)) :=
    ((((Only.refl (fun k => k = b) w).setCell (p := ⟨b, 0, none⟩) rfl _).setCell (p := ⟨b, 1, none⟩) rfl _).setCell (p := ⟨b, 2, none⟩) rfl _).alloc _
  generalize (((w.setCell ⟨b, 0, none⟩ (.int .i64 c)).setCell ⟨b, 1, none⟩ (.int .i64 0)).setCell ⟨b, 2, none⟩ (.int .i64 o)).alloc (.cells #[.int .i64 c, .int .i64 0, .int .i64 o] 27) = V at hX hO ⊢
  simp [bodyPostS, results, Tryz.results33, hX, hO]

def ReadFact (w : World) (s : ByteArray) (e : Ending) (w' : World) : Prop :=
  match factP (scanX s).2.1 ((scanX s).2.2 : Int) (scanX s).1 with
  | .bad ec eo => e = .returned (.tuple #[.agg #[.string ⟨#[]⟩, .slice none 0 0], faultV ec eo]) ∧ Below w.heap.size w w'
  | .ok b _ => ∃ v, e = .returned (.tuple #[.agg #[.string b.p, v], faultV 0 0]) ∧ Lst elCon w' (fun k => w.heap.size ≤ k) v (b.ts.map Trm.con) ∧ Below w.heap.size w w'

set_option maxRecDepth 100000 in
set_option maxHeartbeats 2000000 in
theorem readFact_any (s : ByteArray) (w : World) (hl : LexLaid w) (hs : s.size ≤ 140737488351232) :
    Calls Tryz.prog 19 #[.string s, .func (.func 20) #[] #[]] w (ReadFact w s) := by
  have hmf : ∀ (fn : Fn) (first cap : Array Value) (w : World), (Instr.makeFunc fn first cap).run Tryz.prog w = .ok (.func fn first cap) w := fun _ _ _ _ => rfl
  have HSc := hide (fun (W : World) (hb : Below w.heap.size w W) => scan_any s W (hl.kept hb) hs)
  clear hl hs
  unfold faultVal at HSc
  obtain ⟨res, hres⟩ : ∃ res, factP (scanX s).2.1 ((scanX s).2.2 : Int) (scanX s).1 = res := ⟨_, rfl⟩
  obtain ⟨Post, hPost⟩ : ∃ Post : Ending → World → Prop, Post = ReadFact w s := ⟨_, rfl⟩
  rw [← hPost]
  have PB : Hid (∀ ec eo w', res = .bad ec eo → Below w.heap.size w w' → Post (.returned (.tuple #[.agg #[.string ⟨#[]⟩, .slice none 0 0], .agg #[.int .i64 ec, .int .i64 0, .int .i64 eo]])) w') := fun ec eo w' hr hb => by
    rw [hPost]; unfold ReadFact; rw [hres, hr]; exact ⟨rfl, hb⟩
  have PG : Hid (∀ b r v w', res = .ok b r → Lst elCon w' (fun k => w.heap.size ≤ k) v (b.ts.map Trm.con) → Below w.heap.size w w' → Post (.returned (.tuple #[.agg #[.string b.p, v], .agg #[.int .i64 0, .int .i64 0, .int .i64 0]])) w') := fun b r v w' hr h3 h4 => by
    rw [hPost]; unfold ReadFact; rw [hres, hr]; exact ⟨v, rfl, h3, h4⟩
  have HR := hide hres
  clear hPost hres
  go_enter_defers Tryz.func19, Tryz.ntmps19
  go_wp2_with (go_at_call 34; refine (HSc.out _ (below2a _ _ _)).mono ?_; rintro e w1 ⟨v, rfl, ho1, hb1⟩; obtain ⟨ao, cap, rfl⟩ := own_shape ho1; have HO1 := hide ho1; have HB1 := hide hb1; clear ho1 hb1)
  have hs1 : w.heap.size + 2 ≤ w1.heap.size := by have := HB1.out.size; simp at this; omega
  have HA := hide (scan_ahead HB1.out HO1.out (W2 := (w1.alloc (.cells #[.int .i64 (scanX s).2.1, .int .i64 0, .int .i64 ((scanX s).2.2 : Int)] 27)).alloc (.cells #[.slice ao (scanX s).1.length cap, .int .i64 (scanX s).2.1, .int .i64 0, .int .i64 ((scanX s).2.2 : Int), .int .i64 0] 82)) (below2a w1 _ _) rfl (p := w1.heap.size + 1) (by omega) (by have := heap_alloc_new (w1.alloc (.cells #[.int .i64 (scanX s).2.1, .int .i64 0, .int .i64 ((scanX s).2.2 : Int)] 27)) (.cells #[.slice ao (scanX s).1.length cap, .int .i64 (scanX s).2.1, .int .i64 0, .int .i64 ((scanX s).2.2 : Int), .int .i64 0] 82); simpa using this))
  have HP := fact_any HA.out
  rw [HR.out] at HP
  have HK : Hid (∀ w2, Only (fun k => k = w1.heap.size + 1) ((w1.alloc (.cells #[.int .i64 (scanX s).2.1, .int .i64 0, .int .i64 ((scanX s).2.2 : Int)] 27)).alloc (.cells #[.slice ao (scanX s).1.length cap, .int .i64 (scanX s).2.1, .int .i64 0, .int .i64 ((scanX s).2.2 : Int), .int .i64 0] 82)) w2 → w2.heap[w.heap.size]? = some (.cells #[.string ⟨#[]⟩, .slice none 0 0] 24 (0, 0)) ∧ w2.heap[w.heap.size + 1]? = some (.cells #[.int .i64 0, .int .i64 0, .int .i64 0] 27 (0, 0)) ∧ Only (fun k => w.heap.size ≤ k) w w2) := fun w2 ho => by
    have q : ∀ k, k < w.heap.size + 2 → w2.heap[k]? = ((w.alloc (.cells #[.string ⟨#[]⟩, .slice none 0 0] 24)).alloc (.cells #[.int .i64 0, .int .i64 0, .int .i64 0] 27)).heap[k]? := fun k hk => by
      rw [ho.block k (by simp; omega) (by omega), (below2a w1 _ _).block k (by omega), HB1.out.block k (by simp; omega)]
    refine ⟨?_, ?_, ((Only.of_below (below2a w _ _) _).trans (Only.of_below HB1.out _)).trans ((Only.of_below (below2a w1 _ _) _).trans (ho.mono fun k _ (e : k = w1.heap.size + 1) => by omega))⟩
    · rw [q _ (by omega), (belowA (w.alloc _) _).block _ (by simp)]; exact heap_alloc_new w _
    · rw [q _ (by omega)]
      have := heap_alloc_new (w.alloc (.cells #[.string ⟨#[]⟩, .slice none 0 0] 24)) (.cells #[.int .i64 0, .int .i64 0, .int .i64 0] 27)
      simpa using this
  clear HO1 HB1 HSc HR
  cases res with
  | bad ec eo =>
    refine HP.mono ?_
    intro e w2 hq
    obtain ⟨rfl, ho2⟩ := factPost_bad hq
    obtain ⟨k0, k1, k2⟩ := HK.out w2 ho2
    clear hq HP HA
    refine leaves_cons (f := 33) (args := #[.pointer (some ⟨w.heap.size + 1, 0, none⟩)]) (by simp) (by simp [go_sem]) ?_
    refine (caughtFact (w.heap.size + 1) ec eo [] w2 k1).mono ?_
    rintro e u' w3 ⟨rfl, rfl, h3, o3⟩
    have h0 : w3.heap[w.heap.size]? = some (.cells #[.string ⟨#[]⟩, .slice none 0 0] 24 (0, 0)) := by rw [o3.block _ (Array.getElem?_eq_some_iff.1 k0).1 (by omega)]; exact k0
    have c0 : w3.cell? ⟨w.heap.size, 0, none⟩ = some (.string ⟨#[]⟩) := by simp [World.cell?, h0]
    have c1 : w3.cell? ⟨w.heap.size, 1, none⟩ = some (.slice none 0 0) := by simp [World.cell?, h0]
    obtain ⟨⟨d0, d1, d2⟩, -⟩ := fault_cells h3
    have HF := hide (PB.out ec eo w3 rfl ((k2.trans (o3.mono fun k _ (e : k = w.heap.size + 1) => by omega)).below (Nat.le_refl _) (fun k hk e => by omega)))
    clear o3 h3 h0 k0 k1 k2
    simp [Leaves, settle, results, Tryz.results19, go_sem, c0, c1, d0, d1, d2]
    exact HF.out
  | ok b r =>
    refine HP.mono ?_
    intro e w2 hq
    obtain ⟨v, rfl, hgr, ha2, ho2⟩ := factPost_ok hq
    obtain ⟨va, vc, rfl, -⟩ := hgr.shape
    obtain ⟨k0, k1, k2⟩ := HK.out w2 ho2
    have HG := hide hgr
    have HK2 := hide k2
    clear hq HP HA hgr ha2 ho2
    have c0 : w2.cell? ⟨w.heap.size, 0, none⟩ = some (.string ⟨#[]⟩) := by simp [World.cell?, k0]
    have c1 : w2.cell? ⟨w.heap.size, 1, none⟩ = some (.slice none 0 0) := by simp [World.cell?, k0]
    have z0 : w2.frozen? ⟨w.heap.size, 0, none⟩ = false := by simp [World.frozen?, k0]
    have z1 : w2.frozen? ⟨w.heap.size, 1, none⟩ = false := by simp [World.frozen?, k0]
    obtain ⟨⟨d0, d1, d2⟩, ⟨y0, y1, y2⟩⟩ := fault_cells k1
    obtain ⟨m, hm⟩ : ∃ m, m = (b.ts.map Trm.con).length := ⟨_, rfl⟩
    have HM := hide hm
    rw [← hm]
    clear hm
    go_wp2_with fail
    have hO : Only (fun k => k = w.heap.size ∨ k = w.heap.size + 1) w2 (((((w2.setCell ⟨w.heap.size, 0, none⟩ (.string b.p)).setCell ⟨w.heap.size, 1, none⟩ (.slice va m vc)).setCell ⟨w.heap.size + 1, 0, none⟩ (.int .i64 0)).setCell ⟨w.heap.size + 1, 1, none⟩ (.int .i64 0)).setCell ⟨w.heap.size + 1, 2, none⟩ (.int .i64 0)) := (((((Only.refl (fun k => k = w.heap.size ∨ k = w.heap.size + 1) w2).setCell (p := ⟨w.heap.size, 0, none⟩) (.inl rfl) _).setCell (p := ⟨w.heap.size, 1, none⟩) (.inl rfl) _).setCell (p := ⟨w.heap.size + 1, 0, none⟩) (.inr rfl) _).setCell (p := ⟨w.heap.size + 1, 1, none⟩) (.inr rfl) _).setCell (p := ⟨w.heap.size + 1, 2, none⟩) (.inr rfl) _
    have hV0 : (((((w2.setCell ⟨w.heap.size, 0, none⟩ (.string b.p)).setCell ⟨w.heap.size, 1, none⟩ (.slice va m vc)).setCell ⟨w.heap.size + 1, 0, none⟩ (.int .i64 0)).setCell ⟨w.heap.size + 1, 1, none⟩ (.int .i64 0)).setCell ⟨w.heap.size + 1, 2, none⟩ (.int .i64 0)).heap[w.heap.size]? = some (.cells #[.string b.p, .slice va m vc] 24 (0, 0)) := by simp [World.setCell, Array.getElem?_modify, k0]
    have hV1 : (((((w2.setCell ⟨w.heap.size, 0, none⟩ (.string b.p)).setCell ⟨w.heap.size, 1, none⟩ (.slice va m vc)).setCell ⟨w.heap.size + 1, 0, none⟩ (.int .i64 0)).setCell ⟨w.heap.size + 1, 1, none⟩ (.int .i64 0)).setCell ⟨w.heap.size + 1, 2, none⟩ (.int .i64 0)).heap[w.heap.size + 1]? = some (.cells #[.int .i64 0, .int .i64 0, .int .i64 0] 27 (0, 0)) := by simp [World.setCell, Array.getElem?_modify, k1]
    generalize ((((w2.setCell ⟨w.heap.size, 0, none⟩ (.string b.p)).setCell ⟨w.heap.size, 1, none⟩ (.slice va m vc)).setCell ⟨w.heap.size + 1, 0, none⟩ (.int .i64 0)).setCell ⟨w.heap.size + 1, 1, none⟩ (.int .i64 0)).setCell ⟨w.heap.size + 1, 2, none⟩ (.int .i64 0) = V at hO hV0 hV1 ⊢
    clear c0 c1 z0 z1 d0 d1 d2 y0 y1 y2 k0 k1
    refine leaves_cons (f := 33) (args := #[.pointer (some ⟨w.heap.size + 1, 0, none⟩)]) (by simp) (by simp [go_sem]) ?_
    refine (idleFact ⟨w.heap.size + 1, 0, none⟩ V).mono ?_
    rintro e u' w3 ⟨rfl, rfl, hw⟩
    have hw := hw.symm
    subst hw
    have c0 : V.cell? ⟨w.heap.size, 0, none⟩ = some (.string b.p) := by simp [World.cell?, hV0]
    have c1 : V.cell? ⟨w.heap.size, 1, none⟩ = some (.slice va m vc) := by simp [World.cell?, hV0]
    obtain ⟨⟨d0, d1, d2⟩, -⟩ := fault_cells hV1
    have HF := hide (PG.out b r (.slice va m vc) V rfl (by rw [HM.out]; exact HG.out.move fun k hk hF => ⟨by simp at hF; omega, hO.block k hk (by simp at hF; omega)⟩) ((HK2.out.trans (hO.mono fun k _ (e : k = w.heap.size ∨ k = w.heap.size + 1) => by omega)).below (Nat.le_refl _) (fun k hk e => by omega)))
    clear hO hV0 hV1
    simp [Leaves, settle, results, Tryz.results19, go_sem, c0, c1, d0, d1, d2]
    exact HF.out
end Go.Proofs.YtmdhjggijlhhgaaGreatDoor

namespace Go.Proofs.YtmdhjggijlhhgaaGreatDoor
set_option linter.unusedSimpArgs false
set_option linter.unusedVariables false
open Go.RowKit

theorem factCell {V : World} {b : Nat} {u0 u1 : Value} (h : V.heap[b]? = some (.cells #[u0, u1] 24 (0, 0))) : V.cell? ⟨b, 0, none⟩ = some u0 ∧ V.cell? ⟨b, 1, none⟩ = some u1 ∧ V.frozen? ⟨b, 0, none⟩ = false ∧ V.frozen? ⟨b, 1, none⟩ = false := by
  refine ⟨?_, ?_, ?_, ?_⟩ <;> simp [World.cell?, World.frozen?, h]
theorem readFact_bad {w w' : World} {s : ByteArray} {e : Ending} {ec eo : Int} (h : ReadFact w s e w') (hr : factP (scanX s).2.1 ((scanX s).2.2 : Int) (scanX s).1 = .bad ec eo) : e = .returned (.tuple #[.agg #[.string ⟨#[]⟩, .slice none 0 0], faultV ec eo]) ∧ Below w.heap.size w w' := by
  unfold ReadFact at h
  rw [hr] at h
  exact h
theorem readFact_ok {w w' : World} {s : ByteArray} {e : Ending} {b : PAtom} {r : List Tok} (h : ReadFact w s e w') (hr : factP (scanX s).2.1 ((scanX s).2.2 : Int) (scanX s).1 = .ok b r) : ∃ v, e = .returned (.tuple #[.agg #[.string b.p, v], faultV 0 0]) ∧ Lst elCon w' (fun k => w.heap.size ≤ k) v (b.ts.map Trm.con) ∧ Below w.heap.size w w' := by
  unfold ReadFact at h
  rw [hr] at h
  exact h
theorem readFact_mkb {w w' : World} {s : ByteArray} {ec eo : Int} (hr : factP (scanX s).2.1 ((scanX s).2.2 : Int) (scanX s).1 = .bad ec eo) (hb : Below w.heap.size w w') : ReadFact w s (.returned (.tuple #[.agg #[.string ⟨#[]⟩, .slice none 0 0], faultV ec eo])) w' := by
  unfold ReadFact
  rw [hr]
  exact ⟨rfl, hb⟩
theorem readFact_mko {w w' : World} {s : ByteArray} {b : PAtom} {r : List Tok} (hr : factP (scanX s).2.1 ((scanX s).2.2 : Int) (scanX s).1 = .ok b r) {v : Value} (h3 : Lst elCon w' (fun k => w.heap.size ≤ k) v (b.ts.map Trm.con)) (hb : Below w.heap.size w w') : ReadFact w s (.returned (.tuple #[.agg #[.string b.p, v], faultV 0 0])) w' := by
  unfold ReadFact
  rw [hr]
  exact ⟨v, rfl, h3, hb⟩

set_option maxRecDepth 100000 in
set_option maxHeartbeats 2000000 in
theorem parseFact_any (s : ByteArray) (w : World) (hl : LexLaid w) (hs : s.size ≤ 140737488351232) :
    Calls Tryz.prog 7 #[.string s] w (ReadFact w s) := by
  have HC := hide (fun (W : World) (hb : Below w.heap.size w W) => readFact_any s W (hl.kept hb) hs)
  clear hl hs
  obtain ⟨Post, hPost⟩ : ∃ Post : Ending → World → Prop, Post = ReadFact w s := ⟨_, rfl⟩
  rw [← hPost]
  have HK : Hid (∀ w2, Below ((w.alloc (.cells #[.string ⟨#[]⟩, .slice none 0 0] 24)).alloc (.cells #[.int .i64 0, .int .i64 0, .int .i64 0] 27)).heap.size ((w.alloc (.cells #[.string ⟨#[]⟩, .slice none 0 0] 24)).alloc (.cells #[.int .i64 0, .int .i64 0, .int .i64 0] 27)) w2 → w2.heap[w.heap.size]? = some (.cells #[.string ⟨#[]⟩, .slice none 0 0] 24 (0, 0)) ∧ w2.heap[w.heap.size + 1]? = some (.cells #[.int .i64 0, .int .i64 0, .int .i64 0] 27 (0, 0)) ∧ Below w.heap.size w w2) := fun w2 hb => by
    refine ⟨?_, ?_, belowt2 (below2a w _ _) hb⟩
    · rw [hb.block _ (by simp; omega), (belowA (w.alloc _) _).block _ (by simp)]; exact heap_alloc_new w _
    · rw [hb.block _ (by simp)]
      have := heap_alloc_new (w.alloc (.cells #[.string ⟨#[]⟩, .slice none 0 0] 24)) (.cells #[.int .i64 0, .int .i64 0, .int .i64 0] 27)
      simpa using this
  cases hr : factP (scanX s).2.1 ((scanX s).2.2 : Int) (scanX s).1 with
  | bad ec eo =>
    have PB : Hid (∀ w', Below w.heap.size w w' → Post (.returned (.tuple #[.agg #[.string ⟨#[]⟩, .slice none 0 0], .agg #[.int .i64 ec, .int .i64 0, .int .i64 eo]])) w') := fun w' hb => by rw [hPost]; exact readFact_mkb hr hb
    have HRr := hide hr
    clear hr hPost
    go_enter Tryz.func7, Tryz.ntmps7
    go_wp2_with (go_at_call 19; refine (HC.out _ (below2a _ _ _)).mono ?_; intro e w2 hq; obtain ⟨rfl, hb2⟩ := readFact_bad hq HRr.out; clear hq; obtain ⟨k0, k1, k2⟩ := HK.out w2 hb2; have HK2 := hide k2; clear hb2 k2; obtain ⟨c0, c1, z0, z1⟩ := factCell k0; obtain ⟨⟨d0, d1, d2⟩, ⟨y0, y1, y2⟩⟩ := fault_cells k1; unfold faultV)
    have hV0 : (((((w2.setCell ⟨w.heap.size, 0, none⟩ (.string ⟨#[]⟩)).setCell ⟨w.heap.size, 1, none⟩ (.slice none 0 0)).setCell ⟨w.heap.size + 1, 0, none⟩ (.int .i64 ec)).setCell ⟨w.heap.size + 1, 1, none⟩ (.int .i64 0)).setCell ⟨w.heap.size + 1, 2, none⟩ (.int .i64 eo)).heap[w.heap.size]? = some (.cells #[.string ⟨#[]⟩, .slice none 0 0] 24 (0, 0)) := by simp [World.setCell, Array.getElem?_modify, k0]
    have hV1 : (((((w2.setCell ⟨w.heap.size, 0, none⟩ (.string ⟨#[]⟩)).setCell ⟨w.heap.size, 1, none⟩ (.slice none 0 0)).setCell ⟨w.heap.size + 1, 0, none⟩ (.int .i64 ec)).setCell ⟨w.heap.size + 1, 1, none⟩ (.int .i64 0)).setCell ⟨w.heap.size + 1, 2, none⟩ (.int .i64 eo)).heap[w.heap.size + 1]? = some (.cells #[.int .i64 ec, .int .i64 0, .int .i64 eo] 27 (0, 0)) := by simp [World.setCell, Array.getElem?_modify, k1]
    have hO : Below w.heap.size w (((((w2.setCell ⟨w.heap.size, 0, none⟩ (.string ⟨#[]⟩)).setCell ⟨w.heap.size, 1, none⟩ (.slice none 0 0)).setCell ⟨w.heap.size + 1, 0, none⟩ (.int .i64 ec)).setCell ⟨w.heap.size + 1, 1, none⟩ (.int .i64 0)).setCell ⟨w.heap.size + 1, 2, none⟩ (.int .i64 eo)) := ((((((Only.of_below HK2.out (fun k => w.heap.size ≤ k)).setCell (p := ⟨w.heap.size, 0, none⟩) (Nat.le_refl _) _).setCell (p := ⟨w.heap.size, 1, none⟩) (Nat.le_refl _) _).setCell (p := ⟨w.heap.size + 1, 0, none⟩) (Nat.le_succ _) _).setCell (p := ⟨w.heap.size + 1, 1, none⟩) (Nat.le_succ _) _).setCell (p := ⟨w.heap.size + 1, 2, none⟩) (Nat.le_succ _) _).below (Nat.le_refl _) (fun k hk e => by omega)
    generalize ((((w2.setCell ⟨w.heap.size, 0, none⟩ (.string ⟨#[]⟩)).setCell ⟨w.heap.size, 1, none⟩ (.slice none 0 0)).setCell ⟨w.heap.size + 1, 0, none⟩ (.int .i64 ec)).setCell ⟨w.heap.size + 1, 1, none⟩ (.int .i64 0)).setCell ⟨w.heap.size + 1, 2, none⟩ (.int .i64 eo) = V at hV0 hV1 hO ⊢
    obtain ⟨f0, f4, -⟩ := factCell hV0
    obtain ⟨⟨f1, f2, f3⟩, -⟩ := fault_cells hV1
    exact bodyPost_ret (v := .tuple #[.agg #[.string ⟨#[]⟩, .slice none 0 0], .agg #[.int .i64 ec, .int .i64 0, .int .i64 eo]]) (by simp [results, Tryz.results7, go_sem, f0, f4, f1, f2, f3]) rfl (PB.out _ hO)
  | ok b r =>
    have PG : Hid (∀ w' v, Lst elCon w' (fun k => w.heap.size ≤ k) v (b.ts.map Trm.con) → Below w.heap.size w w' → Post (.returned (.tuple #[.agg #[.string b.p, v], .agg #[.int .i64 0, .int .i64 0, .int .i64 0]])) w') := fun w' v h3 h4 => by rw [hPost]; exact readFact_mko hr h3 h4
    obtain ⟨m, hm⟩ : ∃ m, m = (b.ts.map Trm.con).length := ⟨_, rfl⟩
    have HM := hide hm
    clear hm
    have HRr := hide hr
    clear hr hPost
    go_enter Tryz.func7, Tryz.ntmps7
    go_wp2_with (go_at_call 19; refine (HC.out _ (below2a _ _ _)).mono ?_; intro e w2 hq; obtain ⟨v, rfl, hls, hb2⟩ := readFact_ok hq HRr.out; clear hq; obtain ⟨va, vc, rfl, -⟩ := hls.shape; rw [← HM.out] at hls ⊢; obtain ⟨k0, k1, k2⟩ := HK.out w2 hb2; have HK2 := hide k2; have HLs := hide hls; clear hb2 k2 hls; obtain ⟨c0, c1, z0, z1⟩ := factCell k0; obtain ⟨⟨d0, d1, d2⟩, ⟨y0, y1, y2⟩⟩ := fault_cells k1; unfold faultV)
    have hV0 : (((((w2.setCell ⟨w.heap.size, 0, none⟩ (.string b.p)).setCell ⟨w.heap.size, 1, none⟩ (.slice va m vc)).setCell ⟨w.heap.size + 1, 0, none⟩ (.int .i64 0)).setCell ⟨w.heap.size + 1, 1, none⟩ (.int .i64 0)).setCell ⟨w.heap.size + 1, 2, none⟩ (.int .i64 0)).heap[w.heap.size]? = some (.cells #[.string b.p, .slice va m vc] 24 (0, 0)) := by simp [World.setCell, Array.getElem?_modify, k0]
    have hV1 : (((((w2.setCell ⟨w.heap.size, 0, none⟩ (.string b.p)).setCell ⟨w.heap.size, 1, none⟩ (.slice va m vc)).setCell ⟨w.heap.size + 1, 0, none⟩ (.int .i64 0)).setCell ⟨w.heap.size + 1, 1, none⟩ (.int .i64 0)).setCell ⟨w.heap.size + 1, 2, none⟩ (.int .i64 0)).heap[w.heap.size + 1]? = some (.cells #[.int .i64 0, .int .i64 0, .int .i64 0] 27 (0, 0)) := by simp [World.setCell, Array.getElem?_modify, k1]
    have hB : Below w.heap.size w (((((w2.setCell ⟨w.heap.size, 0, none⟩ (.string b.p)).setCell ⟨w.heap.size, 1, none⟩ (.slice va m vc)).setCell ⟨w.heap.size + 1, 0, none⟩ (.int .i64 0)).setCell ⟨w.heap.size + 1, 1, none⟩ (.int .i64 0)).setCell ⟨w.heap.size + 1, 2, none⟩ (.int .i64 0)) := ((((((Only.of_below HK2.out (fun k => w.heap.size ≤ k)).setCell (p := ⟨w.heap.size, 0, none⟩) (Nat.le_refl _) _).setCell (p := ⟨w.heap.size, 1, none⟩) (Nat.le_refl _) _).setCell (p := ⟨w.heap.size + 1, 0, none⟩) (Nat.le_succ _) _).setCell (p := ⟨w.heap.size + 1, 1, none⟩) (Nat.le_succ _) _).setCell (p := ⟨w.heap.size + 1, 2, none⟩) (Nat.le_succ _) _).below (Nat.le_refl _) (fun k hk e => by omega)
    have hO : Only (fun k => k = w.heap.size ∨ k = w.heap.size + 1) w2 (((((w2.setCell ⟨w.heap.size, 0, none⟩ (.string b.p)).setCell ⟨w.heap.size, 1, none⟩ (.slice va m vc)).setCell ⟨w.heap.size + 1, 0, none⟩ (.int .i64 0)).setCell ⟨w.heap.size + 1, 1, none⟩ (.int .i64 0)).setCell ⟨w.heap.size + 1, 2, none⟩ (.int .i64 0)) := (((((Only.refl (fun k => k = w.heap.size ∨ k = w.heap.size + 1) w2).setCell (p := ⟨w.heap.size, 0, none⟩) (.inl rfl) _).setCell (p := ⟨w.heap.size, 1, none⟩) (.inl rfl) _).setCell (p := ⟨w.heap.size + 1, 0, none⟩) (.inr rfl) _).setCell (p := ⟨w.heap.size + 1, 1, none⟩) (.inr rfl) _).setCell (p := ⟨w.heap.size + 1, 2, none⟩) (.inr rfl) _
    generalize ((((w2.setCell ⟨w.heap.size, 0, none⟩ (.string b.p)).setCell ⟨w.heap.size, 1, none⟩ (.slice va m vc)).setCell ⟨w.heap.size + 1, 0, none⟩ (.int .i64 0)).setCell ⟨w.heap.size + 1, 1, none⟩ (.int .i64 0)).setCell ⟨w.heap.size + 1, 2, none⟩ (.int .i64 0) = V at hV0 hV1 hO hB ⊢
    obtain ⟨f0, f4, -⟩ := factCell hV0
    obtain ⟨⟨f1, f2, f3⟩, -⟩ := fault_cells hV1
    exact bodyPost_ret (v := .tuple #[.agg #[.string b.p, .slice va m vc], .agg #[.int .i64 0, .int .i64 0, .int .i64 0]]) (by simp [results, Tryz.results7, go_sem, f0, f4, f1, f2, f3]) rfl (PG.out _ _ (HLs.out.move fun k hk hF => ⟨by simp at hF; omega, hO.block k hk (by simp at hF; omega)⟩) hB)

end Go.Proofs.YtmdhjggijlhhgaaGreatDoor

namespace Go.Proofs.YtmdhjggijlhhgaaGreatDoor
set_option linter.unusedSimpArgs false
set_option linter.unusedVariables false
open Go.RowKit

set_option maxRecDepth 100000 in
set_option maxHeartbeats 4000000 in
theorem parseOnes_bad (s : ByteArray) (w : World) (hl : LexLaid w) (hs : s.size ≤ 140737488351232) {x o : Int} (hP : factP (scanX s).2.1 ((scanX s).2.2 : Int) (scanX s).1 = .bad x o) :
    Calls Tryz.prog 3 #[.string s] w fun e w' => e = .returned (.bool true) ∧ Below w.heap.size w w' := by
  have HPr := hide (parseFact_any s w hl hs)
  have HP := hide hP
  have HRp := hide (fun W => rfact_bad s W hs ((fact_meet (scan_plain s).2).1 x o hP))
  have hfe := faultSame x o
  clear hl hs hP
  go_enter Tryz.func3, Tryz.ntmps3
  go_upto_region 3 with (first
    | (go_at_call 7; refine HPr.out.mono ?_; intro e w1 hq; obtain ⟨rfl, hb1⟩ := readFact_bad hq HP.out; clear hq; have HB1 := hide hb1; unfold faultV; clear hb1)
    | (go_at_call 8; refine (HRp.out _).mono ?_; rintro e w2 ⟨rfl, hb2⟩; have HB2 := hide hb2; unfold faultV; clear hb2))
  obtain ⟨Y, hY⟩ : ∃ Y, Y = ((w2.alloc (.cells #[.string ⟨#[]⟩, .slice none 0 0] 24)).alloc (.cells #[.int .i64 x, .int .i64 0, .int .i64 o] 27)) := ⟨_, rfl⟩
  have hB2Y : Below ((w1.alloc (.cells #[.string ⟨#[]⟩, .slice none 0 0] 24)).alloc (.cells #[.int .i64 x, .int .i64 0, .int .i64 o] 27)).heap.size ((w1.alloc (.cells #[.string ⟨#[]⟩, .slice none 0 0] 24)).alloc (.cells #[.int .i64 x, .int .i64 0, .int .i64 o] 27)) Y := by rw [hY]; exact belowt2 HB2.out (below2a w2 (.cells #[.string ⟨#[]⟩, .slice none 0 0] 24) (.cells #[.int .i64 x, .int .i64 0, .int .i64 o] 27))
  have HBY : Hid (Below w.heap.size w Y) := belowt2 (belowt2 HB1.out (below2a w1 (.cells #[.string ⟨#[]⟩, .slice none 0 0] 24) (.cells #[.int .i64 x, .int .i64 0, .int .i64 o] 27))) hB2Y
  have hp1 : Y.heap[w1.heap.size]? = some (.cells #[.string ⟨#[]⟩, .slice none 0 0] 24 (0, 0)) := box_kept9 (nb_first w1 _ _) hB2Y
  have hf1 : Y.heap[w1.heap.size + 1]? = some (.cells #[.int .i64 x, .int .i64 0, .int .i64 o] 27 (0, 0)) := box_kept9 (nb_second w1 _ _) hB2Y
  have hp2 : Y.heap[w2.heap.size]? = some (.cells #[.string ⟨#[]⟩, .slice none 0 0] 24 (0, 0)) := by rw [hY]; exact nb_first w2 _ _
  have hf2 : Y.heap[w2.heap.size + 1]? = some (.cells #[.int .i64 x, .int .i64 0, .int .i64 o] 27 (0, 0)) := by rw [hY]; exact nb_second w2 _ _
  obtain ⟨⟨c0, c1, c2⟩, -⟩ := chk3_cells hf1
  obtain ⟨⟨d0, d1, d2⟩, -⟩ := chk3_cells hf2
  obtain ⟨⟨e0, e1⟩, -⟩ := fact2_cells hp1
  obtain ⟨⟨g0, g1⟩, -⟩ := fact2_cells hp2
  have HSm := hide (sameFact_any ⟨#[]⟩ [] (.slice none 0 0) (.slice none 0 0) (Lst.nil elCon Y (fun _ => True)) (Lst.nil elCon Y (fun _ => True)))
  rw [← hY]
  clear hY hB2Y hp1 hf1 hp2 hf2 HB1 HB2 HPr HRp
  go_wp2_with (go_at_call 9; refine HSm.out.mono ?_; rintro e w7 ⟨rfl, hb7⟩; have HB7 := hide (belowt2 HBY.out hb7); clear hb7)
  go_ret
  exact ⟨rfl, HB7.out⟩

set_option maxRecDepth 100000 in
set_option maxHeartbeats 4000000 in
theorem parseOnes_ok (s : ByteArray) (w : World) (hl : LexLaid w) (hs : s.size ≤ 140737488351232) {bb : PAtom} {r : List Tok} (hP : factP (scanX s).2.1 ((scanX s).2.2 : Int) (scanX s).1 = .ok bb r) :
    Calls Tryz.prog 3 #[.string s] w fun e w' => e = .returned (.bool true) ∧ Below w.heap.size w w' := by
  have HPr := hide (parseFact_any s w hl hs)
  have HP := hide hP
  obtain ⟨hC, hbb, hok⟩ := (fact_meet (scan_plain s).2).2 bb r hP
  have HRp := hide (fun W => rfact_ok s W hs hC hok)
  rw [← hbb] at HRp
  clear hC hok hbb
  have hfe := faultSame 0 0
  clear hl hs hP
  go_enter Tryz.func3, Tryz.ntmps3
  go_upto_region 3 with (first
    | (go_at_call 7; refine HPr.out.mono ?_; intro e w1 hq; obtain ⟨v, rfl, hls, hb1⟩ := readFact_ok hq HP.out; clear hq; obtain ⟨va, vc, rfl, -⟩ := hls.shape; have hla := hls.all; rw [List.length_map] at hla; have HL1 := hide hla; clear hls hla; have HB1 := hide hb1; unfold faultV; clear hb1)
    | (go_at_call 8; refine (HRp.out _).mono ?_; intro e w2 hq; obtain ⟨v, rfl, hls, hb2⟩ := hq; obtain ⟨ua, uc, rfl, -⟩ := hls.shape; have hla := hls.all; rw [List.length_map] at hla; have HL2 := hide hla; clear hls hla; have HB2 := hide hb2; unfold faultV; clear hb2))
  obtain ⟨Y, hY⟩ : ∃ Y, Y = ((w2.alloc (.cells #[.string bb.p, .slice ua bb.ts.length uc] 24)).alloc (.cells #[.int .i64 0, .int .i64 0, .int .i64 0] 27)) := ⟨_, rfl⟩
  have hB2Y : Below ((w1.alloc (.cells #[.string bb.p, .slice va bb.ts.length vc] 24)).alloc (.cells #[.int .i64 0, .int .i64 0, .int .i64 0] 27)).heap.size ((w1.alloc (.cells #[.string bb.p, .slice va bb.ts.length vc] 24)).alloc (.cells #[.int .i64 0, .int .i64 0, .int .i64 0] 27)) Y := by rw [hY]; exact belowt2 HB2.out (below2a w2 (.cells #[.string bb.p, .slice ua bb.ts.length uc] 24) (.cells #[.int .i64 0, .int .i64 0, .int .i64 0] 27))
  have HBY : Hid (Below w.heap.size w Y) := belowt2 (belowt2 HB1.out (below2a w1 (.cells #[.string bb.p, .slice va bb.ts.length vc] 24) (.cells #[.int .i64 0, .int .i64 0, .int .i64 0] 27))) hB2Y
  have hp1 : Y.heap[w1.heap.size]? = some (.cells #[.string bb.p, .slice va bb.ts.length vc] 24 (0, 0)) := box_kept9 (nb_first w1 _ _) hB2Y
  have hf1 : Y.heap[w1.heap.size + 1]? = some (.cells #[.int .i64 0, .int .i64 0, .int .i64 0] 27 (0, 0)) := box_kept9 (nb_second w1 _ _) hB2Y
  have hp2 : Y.heap[w2.heap.size]? = some (.cells #[.string bb.p, .slice ua bb.ts.length uc] 24 (0, 0)) := by rw [hY]; exact nb_first w2 _ _
  have hf2 : Y.heap[w2.heap.size + 1]? = some (.cells #[.int .i64 0, .int .i64 0, .int .i64 0] 27 (0, 0)) := by rw [hY]; exact nb_second w2 _ _
  obtain ⟨⟨c0, c1, c2⟩, -⟩ := chk3_cells hf1
  obtain ⟨⟨d0, d1, d2⟩, -⟩ := chk3_cells hf2
  obtain ⟨⟨e0, e1⟩, -⟩ := fact2_cells hp1
  obtain ⟨⟨g0, g1⟩, -⟩ := fact2_cells hp2
  have HSm := hide (sameFact_any bb.p (bb.ts.map Trm.con) (.slice va bb.ts.length vc) (.slice ua bb.ts.length uc) (HL1.out.kept (belowt2 (below2a w1 (.cells #[.string bb.p, .slice va bb.ts.length vc] 24) (.cells #[.int .i64 0, .int .i64 0, .int .i64 0] 27)) hB2Y)) (HL2.out.kept (by rw [hY]; exact (below2a w2 (.cells #[.string bb.p, .slice ua bb.ts.length uc] 24) (.cells #[.int .i64 0, .int .i64 0, .int .i64 0] 27)))))
  rw [← hY]
  clear hY hB2Y hp1 hf1 hp2 hf2 HB1 HB2 HPr HRp
  go_wp2_with (go_at_call 9; refine HSm.out.mono ?_; rintro e w7 ⟨rfl, hb7⟩; have HB7 := hide (belowt2 HBY.out hb7); clear hb7)
  go_ret
  exact ⟨rfl, HB7.out⟩

theorem parseOnes_walk (s : ByteArray) (w : World) (hs : s.size ≤ 140737488351232) (hl : LexLaid w) :
    Calls Tryz.prog 3 #[.string s] w fun e w' => e = .returned (.bool true) ∧ Below w.heap.size w w' := by
  cases hP : factP (scanX s).2.1 ((scanX s).2.2 : Int) (scanX s).1 with
  | bad x o => exact parseOnes_bad s w hl hs hP
  | ok bb r => exact parseOnes_ok s w hl hs hP
end Go.Proofs.YtmdhjggijlhhgaaGreatDoor
