/- parse's reader takes an atom without variables. parse's reader takes an atom without variables, by its name. parse's reader takes facts, and a query. The document's Facts. The law's own sameAtom at equal atoms. The law's own sameAtoms at equal lists of atoms. -/
import Derived.Test.YtmdhjggijlhhgaaGreatDoorProg
import Derived.Test.YtmdhjggijlhhgaaGreatDoorParseAtom
import Derived.Test.YtmdhjggijlhhgaaGreatDoorPkC
import Derived.Test.YtmdhjggijlhhgaaGreatDoorPkD
import Derived.Test.YtmdhjggijlhhgaaGreatDoorForms
import Derived.Test.YtmdhjggijlhhgaaGreatDoorOver

namespace Go.Proofs.YtmdhjggijlhhgaaGreatDoor
set_option linter.unusedSimpArgs false
set_option linter.unusedVariables false
open Go.RowKit

set_option maxHeartbeats 4000000 in
set_option maxRecDepth 100000 in
theorem atomValue {w : World} {p : Nat} {ao : Option Addr} {cap : Nat} {L : List Tok} {c f : Int} {R : List Tok} (name : Tok) (h : Ahead w p ao cap L c f R) (hname : name.good) :
    Calls Tryz.prog 52 #[.pointer (some ⟨p, 0, none⟩), tokV name, .func (.func 53) #[] #[]] w (AtmPost w p ao cap L c f (atomP c f valueKs name R)) := by
  unfold tokV
  match R, h with
  | [], h =>
    have HL := hide (fun W (hb : Below w.heap.size w W) => look_none (h.kept hb))
    have HE : Hid (atomP c f valueKs name [] = .bad c f) := rfl
    rw [HE.out]
    clear HE h
    unfold AtmPost
    go_enter Tryz.func52, Tryz.ntmps52
    go_wp2_with (go_at_call 54; refine (HL.out _ (below3a _ _ _ _)).mono ?_; rintro e w1 ⟨rfl, hb⟩)
    exact ⟨rfl, rfl, Only.of_below (belowt2 (below3a _ _ _ _) hb) _⟩
  | x :: r, h =>
    have HL := hide (fun W (hb : Below w.heap.size w W) => look_good (h.kept hb))
    unfold tokV at HL
    by_cases h5 : x.k = 5
    · have hT : takeP c f [5] (x :: r) = .ok x r := by simp [takeP, h5]
      have HE : Hid (atomP c f valueKs name (x :: r) = toAtom name (argsP c f valueKs [] r)) := by show atomP _ _ _ _ _ = _; unfold atomP; simp only; rw [if_pos h5]; cases argsP c f valueKs [] r <;> rfl
      have hfd := tok_kind (.int .i64 x.k) (.string x.t) (.int .i64 x.n) (.int .i64 x.op) (.int .i64 (x.off : Int)) (.int .i64 (x.en : Int))
      have e5 : (x.k != 5) = false := by simpa using h5
      obtain ⟨res, hres⟩ : ∃ res, argsP c f valueKs [] r = res := ⟨_, rfl⟩
      rw [HE.out, hres]
      obtain ⟨Post, hPost⟩ : ∃ Post : Ending → World → Prop, Post = AtmPost w p ao cap L c f (toAtom name res) := ⟨_, rfl⟩
      rw [← hPost]
      have PB : Hid (∀ ec eo w', res = .bad ec eo → Only (fun k => k = p) w w' → Post (PEnd ec eo) w') := fun ec eo w' hr ho => by
        rw [hPost, hr]; exact ⟨rfl, ho⟩
      have PG : Hid (∀ ts r' v w', res = .ok ts r' → Lst elTrm w' (fun b => w.heap.size ≤ b) v ts → Ahead w' p ao cap L c f r' → Only (fun k => k = p) w w' → Post (.returned (.agg #[.string name.t, v, .int .i64 (name.off : Int)])) w') := fun ts r' v w' hr h1 h2 h3 => by
        rw [hPost, hr]; exact ⟨⟨name.t, v, name.off, ts⟩, rfl, rfl, ⟨(good_parts hname).1, (good_parts hname).2, h1⟩, h2, h3⟩
      have HRes := hide hres
      have H0 := hide h
      have hp := h.lt
      have HT : Hid (∀ W, Below w.heap.size w W → Calls Tryz.prog 36 #[.pointer (some ⟨p, 0, none⟩), .slice (some ⟨W.heap.size, 0, none⟩) 1 1] (W.alloc (.cells #[.int .i64 5] 3)) fun e w' => e = .returned (tokV x) ∧ Ahead w' p ao cap L c f r ∧ Only (fun b => b = p) W w') := fun W hb => take_lit_good [5] (h.kept hb) (by decide) hT
      clear HE h h5 hres hT hPost
      go_enter Tryz.func52, Tryz.ntmps52
      go_wp2_with (first
        | (go_at_call 54; refine (HL.out _ (below3a _ _ _ _)).mono ?_; rintro e w1 ⟨rfl, hb⟩; have HB := hide hb; have HW := hide (belowt2 (below3a _ _ _ _) hb); clear hb)
        | (go_at_call 36; refine (HT.out _ HW.out).mono ?_; rintro e w2 ⟨rfl, ha, ho⟩; have HA := hide ha; have HO := hide ho; clear ha ho))
      have HS : Hid (AtmLoop w w2 p ao cap L c f r name.t (name.off : Int) (.slice none 0 0) []) :=
        (AtmLoop.move ⟨H0.out.kept HW.out, atom_box2 HB.out, atom_box HB.out, World.ownsRow_nil _ _ _ _, Only.of_below HW.out _, hp, by simp, H0.out.tk⟩ HO.out HA.out : AtmLoop w w2 p ao cap L c f r name.t (name.off : Int) (.slice none 0 0) [])
      clear HA HO HT HL HB HW
      go_loopw [8] (fun _ wr => ∃ (acc : List Trm) (R : List Tok) (v : Value), acc.length ≤ 8 ∧ Hid (AtmLoop w wr p ao cap L c f R name.t (name.off : Int) v acc) ∧ Hid (argsP c f valueKs acc R = res)) (fun _ wr => 70000 - (intOf ((wr.cell? ⟨p, 4, none⟩).getD undef)).toNat)
      case atStart => exact ⟨[], r, _, by simp, HS, HRes⟩
      case round =>
        clear HS HRes hfd e5
        obtain ⟨acc, R, v, hacc, HS, HRes⟩ := hrel
        obtain ⟨ix, isz⟩ := HS.out.ah.index
        obtain ⟨vo, vc, rfl⟩ := own_shape HS.out.ow
        cases hT : takeP c f valueKs R with
        | bad ec eo =>
          have HP := hide (value_fail HS.out.ah hT)
          have HX : Hid (res = .bad ec eo) := by show _ = _; rw [← HRes.out]; exact args_bad1 hT
          clear hT
          go_wp2_with (go_at_call 53; refine HP.out.mono ?_; rintro e w3 ⟨rfl, hb⟩)
          exact ⟨rfl, PB.out _ _ _ HX.out (only_drop (HS.out.below hb).on)⟩
        | ok t r1 =>
          have HP := hide (value_good HS.out.ah hT)
          have tp := take_eq hT
          have HTok : Hid ((termP t).ok) := termP_ok (HS.out.ah.good t (by rw [tp.1]; exact List.mem_cons_self))
          unfold Trm.val at HP
          clear tp
          by_cases h8 : acc.length = 8
          · have HX : Hid (res = .bad 22 (termP t).off) := by show _ = _; rw [← HRes.out]; exact args_lim hT h8
            have HLm := hide (limit_bad 8 22 (termP t).off)
            rw [h8] at HS
            clear hT hacc
            go_wp2_with (first
              | (go_at_call 53; refine HP.out.mono ?_; rintro e w3 ⟨rfl, ha, ho⟩; have HS3 := hide (HS.out.move ho ha); clear ha ho; obtain ⟨d0, d1, d2, d3⟩ := (HS3.out.below (belowA w3 (.cells #[.int .i64 (termP t).k, .int .i64 (termP t).n, .string (termP t).s, .int .i64 (termP t).off] 58))).cells)
              | (go_at_call 44; refine (HLm.out _).mono ?_; rintro e w4 ⟨rfl, hw⟩; have hw := hw.symm; subst hw))
            exact ⟨rfl, PB.out _ _ _ HX.out (only_drop (HS3.out.below (belowA _ _)).on)⟩
          · have HLm := hide (limit_ok (acc.length : Int) 8 22 (termP t).off (h := by omega))
            have HNx := args_next (c := c) (f := f) hT h8
            have hlen1 : r1.length + 1 = R.length := by rw [(take_eq hT).1]; rfl
            have hacc8 : acc.length < 8 := by omega
            clear hT h8
            cases hU : takeP c f [7, 6] r1 with
            | bad ec eo =>
              have HX : Hid (res = .bad ec eo) := by show _ = _; rw [← HRes.out, HNx, hU]
              have HT2 : Hid (∀ (W : World) (n : Nat), W.heap.size = n → Ahead W p ao cap L c f r1 → Calls Tryz.prog 36 #[.pointer (some ⟨p, 0, none⟩), .slice (some ⟨n, 0, none⟩) 2 2] (W.alloc (.cells #[.int .i64 7, .int .i64 6] 3)) fun e w' => e = PEnd ec eo ∧ Below W.heap.size W w') := fun W n hn ha => hn ▸ take_lit_fail [7, 6] ha (by decide) hU
              clear hU HNx hlen1
              go_wp2_with (first
                | (go_at_call 53; refine HP.out.mono ?_; rintro e w3 ⟨rfl, ha, ho⟩; have HS3 := hide (HS.out.move ho ha); clear ha ho; obtain ⟨d0, d1, d2, d3⟩ := (HS3.out.below (belowA w3 (.cells #[.int .i64 (termP t).k, .int .i64 (termP t).n, .string (termP t).s, .int .i64 (termP t).off] 58))).cells; have HS5 := hide ((HS3.out.below (belowA w3 (.cells #[.int .i64 (termP t).k, .int .i64 (termP t).n, .string (termP t).s, .int .i64 (termP t).off] 58))).below (belowA _ (.cells #[.int .i64 (termP t).k, .int .i64 (termP t).n, .string (termP t).s, .int .i64 (termP t).off] 58))))
                | (go_at_call 44; refine (HLm.out _).mono ?_; rintro e w4 ⟨⟨v4, rfl⟩, hw⟩; have hw := hw.symm; subst hw)
                | (at_builtin; obtain ⟨i0, hi0, hz0, hz1, hz2⟩ := info_parts Tryz.infoTerm; refine wpList_push (w0 := (w3.alloc (.cells #[.int .i64 (termP t).k, .int .i64 (termP t).n, .string (termP t).s, .int .i64 (termP t).off] 58)).alloc (.cells #[.int .i64 (termP t).k, .int .i64 (termP t).n, .string (termP t).s, .int .i64 (termP t).off] 58)) elTrm rfl _ _ 53 rfl (w.heap.size + 3) 58 i0 _ 40 Tryz.underlying53 hi0 hz0 hz1 hz2 rfl (by decide) _ acc acc.length rfl rfl HS5.out.grow (termP t) (w3.heap.size + 1) 1 rfl (fun j u hu => by have := new_cells (w := w3.alloc (.cells #[.int .i64 (termP t).k, .int .i64 (termP t).n, .string (termP t).s, .int .i64 (termP t).off] 58)) (cs := #[.int .i64 (termP t).k, .int .i64 (termP t).n, .string (termP t).s, .int .i64 (termP t).off]) (t := 58) j u hu; simpa using this) HTok.out (by omega) (Below.refl _ _) HS5.out.base ?_; intro g cap' w5 HG5 HB5 HGr; clear HB5 hi0 hz0 hz1 hz2; obtain ⟨f0, f1⟩ := HS5.out.far HGr.out; have HS6 := hide (HS5.out.pushG HTok.out HGr.out HG5.out); clear HG5 HGr)
                | (go_at_call 36; refine (HT2.out _ _ (by simp) HS6.out.ah).mono ?_; rintro e w6 ⟨rfl, hb6⟩))
              exact ⟨rfl, PB.out _ _ _ HX.out (only_drop (HS6.out.below hb6).on)⟩
            | ok s r2 =>
              have HT2 : Hid (∀ (W : World) (n : Nat), W.heap.size = n → Ahead W p ao cap L c f r1 → Calls Tryz.prog 36 #[.pointer (some ⟨p, 0, none⟩), .slice (some ⟨n, 0, none⟩) 2 2] (W.alloc (.cells #[.int .i64 7, .int .i64 6] 3)) fun e w' => e = .returned (tokV s) ∧ Ahead w' p ao cap L c f r2 ∧ Only (fun b => b = p) W w') := fun W n hn ha => hn ▸ take_lit_good [7, 6] ha (by decide) hU
              have hfd2 := tok_kind (.int .i64 s.k) (.string s.t) (.int .i64 s.n) (.int .i64 s.op) (.int .i64 (s.off : Int)) (.int .i64 (s.en : Int))
              have hs76 := (take_eq hU).2
              have hlen2 : r2.length + 2 = R.length := by rw [← hlen1, (take_eq hU).1]; rfl
              unfold tokV at HT2
              by_cases h6 : s.k = 6
              · have e6 : (s.k == 6) = true := by simpa using h6
                have HX : Hid (res = .ok (acc ++ [termP t]) r2) := by show _ = _; rw [← HRes.out, HNx, hU]; simp only; rw [if_neg (by omega)]
                clear hU HNx hlen1 hlen2 hs76 h6
                go_wp2_with (first
                | (go_at_call 53; refine HP.out.mono ?_; rintro e w3 ⟨rfl, ha, ho⟩; have HS3 := hide (HS.out.move ho ha); clear ha ho; obtain ⟨d0, d1, d2, d3⟩ := (HS3.out.below (belowA w3 (.cells #[.int .i64 (termP t).k, .int .i64 (termP t).n, .string (termP t).s, .int .i64 (termP t).off] 58))).cells; have HS5 := hide ((HS3.out.below (belowA w3 (.cells #[.int .i64 (termP t).k, .int .i64 (termP t).n, .string (termP t).s, .int .i64 (termP t).off] 58))).below (belowA _ (.cells #[.int .i64 (termP t).k, .int .i64 (termP t).n, .string (termP t).s, .int .i64 (termP t).off] 58))))
                | (go_at_call 44; refine (HLm.out _).mono ?_; rintro e w4 ⟨⟨v4, rfl⟩, hw⟩; have hw := hw.symm; subst hw)
                | (at_builtin; obtain ⟨i0, hi0, hz0, hz1, hz2⟩ := info_parts Tryz.infoTerm; refine wpList_push (w0 := (w3.alloc (.cells #[.int .i64 (termP t).k, .int .i64 (termP t).n, .string (termP t).s, .int .i64 (termP t).off] 58)).alloc (.cells #[.int .i64 (termP t).k, .int .i64 (termP t).n, .string (termP t).s, .int .i64 (termP t).off] 58)) elTrm rfl _ _ 53 rfl (w.heap.size + 3) 58 i0 _ 40 Tryz.underlying53 hi0 hz0 hz1 hz2 rfl (by decide) _ acc acc.length rfl rfl HS5.out.grow (termP t) (w3.heap.size + 1) 1 rfl (fun j u hu => by have := new_cells (w := w3.alloc (.cells #[.int .i64 (termP t).k, .int .i64 (termP t).n, .string (termP t).s, .int .i64 (termP t).off] 58)) (cs := #[.int .i64 (termP t).k, .int .i64 (termP t).n, .string (termP t).s, .int .i64 (termP t).off]) (t := 58) j u hu; simpa using this) HTok.out (by omega) (Below.refl _ _) HS5.out.base ?_; intro g cap' w5 HG5 HB5 HGr; clear HB5 hi0 hz0 hz1 hz2; obtain ⟨f0, f1⟩ := HS5.out.far HGr.out; have HS6 := hide (HS5.out.pushG HTok.out HGr.out HG5.out); clear HG5 HGr)
                  | (go_at_call 36; refine (HT2.out _ _ (by simp) HS6.out.ah).mono ?_; rintro e w6 ⟨rfl, ha, ho⟩; have HS7 := hide (HS6.out.move ho ha); clear ha ho; obtain ⟨y0, y1, y2, y3⟩ := HS7.out.cells; obtain ⟨q0, q1, q2, q3, q4, q5⟩ := HS7.out.box))
                obtain ⟨z1, z2, z3⟩ := HS7.out.fin (by simp; omega) (.string name.t) (.slice (some ⟨g, 0, none⟩) (acc.length + 1) cap') (.int .i64 (name.off : Int))
                exact bodyPost_ret (atom_res _ (w.heap.size + 1) _ _ _ _ rfl (box3_put HS7.out.br _ _ _)) rfl (PG.out _ _ _ _ HX.out z1 z2 z3)
              · have e6 : (s.k == 6) = false := by simpa using h6
                have HX : Hid (argsP c f valueKs (acc ++ [termP t]) r2 = res) := by show _ = _; rw [← HRes.out, HNx, hU]; simp only; rw [if_pos (by simp at hs76; omega)]
                clear hU HNx hlen1 hs76 h6
                have HL2 := hide hlen2
                clear hlen2
                go_wp2_with (first
                | (go_at_call 53; refine HP.out.mono ?_; rintro e w3 ⟨rfl, ha, ho⟩; have HS3 := hide (HS.out.move ho ha); clear ha ho; obtain ⟨d0, d1, d2, d3⟩ := (HS3.out.below (belowA w3 (.cells #[.int .i64 (termP t).k, .int .i64 (termP t).n, .string (termP t).s, .int .i64 (termP t).off] 58))).cells; have HS5 := hide ((HS3.out.below (belowA w3 (.cells #[.int .i64 (termP t).k, .int .i64 (termP t).n, .string (termP t).s, .int .i64 (termP t).off] 58))).below (belowA _ (.cells #[.int .i64 (termP t).k, .int .i64 (termP t).n, .string (termP t).s, .int .i64 (termP t).off] 58))))
                | (go_at_call 44; refine (HLm.out _).mono ?_; rintro e w4 ⟨⟨v4, rfl⟩, hw⟩; have hw := hw.symm; subst hw)
                | (at_builtin; obtain ⟨i0, hi0, hz0, hz1, hz2⟩ := info_parts Tryz.infoTerm; refine wpList_push (w0 := (w3.alloc (.cells #[.int .i64 (termP t).k, .int .i64 (termP t).n, .string (termP t).s, .int .i64 (termP t).off] 58)).alloc (.cells #[.int .i64 (termP t).k, .int .i64 (termP t).n, .string (termP t).s, .int .i64 (termP t).off] 58)) elTrm rfl _ _ 53 rfl (w.heap.size + 3) 58 i0 _ 40 Tryz.underlying53 hi0 hz0 hz1 hz2 rfl (by decide) _ acc acc.length rfl rfl HS5.out.grow (termP t) (w3.heap.size + 1) 1 rfl (fun j u hu => by have := new_cells (w := w3.alloc (.cells #[.int .i64 (termP t).k, .int .i64 (termP t).n, .string (termP t).s, .int .i64 (termP t).off] 58)) (cs := #[.int .i64 (termP t).k, .int .i64 (termP t).n, .string (termP t).s, .int .i64 (termP t).off]) (t := 58) j u hu; simpa using this) HTok.out (by omega) (Below.refl _ _) HS5.out.base ?_; intro g cap' w5 HG5 HB5 HGr; clear HB5 hi0 hz0 hz1 hz2; obtain ⟨f0, f1⟩ := HS5.out.far HGr.out; have HS6 := hide (HS5.out.pushG HTok.out HGr.out HG5.out); clear HG5 HGr)
                  | (go_at_call 36; refine (HT2.out _ _ (by simp) HS6.out.ah).mono ?_; rintro e w6 ⟨rfl, ha, ho⟩; have HS7 := hide (HS6.out.move ho ha); clear ha ho))
                go_roundw
                case rel => exact ⟨acc ++ [termP t], r2, _, by simp; omega, HS7, HX⟩
                case measure =>
                  obtain ⟨jx, -⟩ := HS7.out.ah.index
                  have := HL2.out
                  omega
    · have HE : Hid (atomP c f valueKs name (x :: r) = .ok ⟨name.t, [], name.off⟩ (x :: r)) := by show atomP _ _ _ _ _ = _; unfold atomP; simp only; rw [if_neg h5]
      have e5 : (x.k != 5) = true := by simpa using h5
      have hfd := tok_kind (.int .i64 x.k) (.string x.t) (.int .i64 x.n) (.int .i64 x.op) (.int .i64 (x.off : Int)) (.int .i64 (x.en : Int))
      rw [HE.out]
      have H0 := hide h
      clear HE h h5
      unfold AtmPost
      go_enter Tryz.func52, Tryz.ntmps52
      go_wp2_with (go_at_call 54; refine (HL.out _ (below3a _ _ _ _)).mono ?_; rintro e w1 ⟨rfl, hb⟩; have HB := hide hb; clear hb; obtain ⟨k0, k1, k2, z0, z1, z2, a0, a1, a2⟩ := atom_boxes HB.out)
      have HO2 : Only (fun k => k = p ∨ w.heap.size ≤ k) w w1 := Only.of_below (belowt2 (below3a _ _ _ _) HB.out) _
      have HE := only_drop (((HO2.setCell (p := ⟨w.heap.size + 1, 0, none⟩) (.inr (Nat.le_add_right _ _)) (.string name.t)).setCell (p := ⟨w.heap.size + 1, 1, none⟩) (.inr (Nat.le_add_right _ _)) (.slice none 0 0)).setCell (p := ⟨w.heap.size + 1, 2, none⟩) (.inr (Nat.le_add_right _ _)) (.int .i64 (name.off : Int)))
      have HA2 := H0.out.box (H0.out.kept (belowt2 (below3a _ _ _ _) HB.out)) ((((Only.refl (fun b => w.heap.size ≤ b) w1).setCell (p := ⟨w.heap.size + 1, 0, none⟩) (Nat.le_add_right _ _) (.string name.t)).setCell (p := ⟨w.heap.size + 1, 1, none⟩) (Nat.le_add_right _ _) (.slice none 0 0)).setCell (p := ⟨w.heap.size + 1, 2, none⟩) (Nat.le_add_right _ _) (.int .i64 (name.off : Int)))
      exact bodyPost_ret (atom_res _ (w.heap.size + 1) _ _ _ _ rfl (box3_put (atom_box HB.out) _ _ _)) rfl ⟨⟨name.t, .slice none 0 0, name.off, []⟩, rfl, rfl, ⟨(good_parts hname).1, (good_parts hname).2, Lst.nil _ _ _⟩, HA2, HE⟩

end Go.Proofs.YtmdhjggijlhhgaaGreatDoor

namespace Go.Proofs.YtmdhjggijlhhgaaGreatDoor
set_option linter.unusedSimpArgs false
set_option linter.unusedVariables false
open Go.RowKit

theorem groundRes (W : World) (b : Nat) (u0 u1 u2 : Value) (tmps : Array Value) (ht : tmps[4]? = some (.pointer (some ⟨b, 0, none⟩))) (hb : W.heap[b]? = some (.cells #[u0, u1, u2] 55 (0, 0))) :
    (results Tryz.f35 tmps).run Tryz.prog W = .ok (.agg #[u0, u1, u2]) W := by
  obtain ⟨c0, c1, c2, -⟩ := box3_cells hb
  simp [results, Tryz.results35, go_sem, ht, c0, c1, c2]

set_option maxHeartbeats 1000000 in
set_option maxRecDepth 100000 in
theorem ground_any {w : World} {p : Nat} {ao : Option Addr} {cap : Nat} {L : List Tok} {c f : Int} {R : List Tok} (name : Tok) (h : Ahead w p ao cap L c f R) (hname : name.good) :
    Calls Tryz.prog 35 #[.pointer (some ⟨p, 0, none⟩), tokV name] w (AtmPost w p ao cap L c f (atomP c f valueKs name R)) := by
  have HC := hide (fun (W : World) (hb : Below w.heap.size w W) => atomValue name (h.kept hb) hname)
  have H0 := hide h
  have hp := h.lt
  clear h hname
  unfold tokV at *
  obtain ⟨res, hres⟩ : ∃ res, atomP c f valueKs name R = res := ⟨_, rfl⟩
  rw [hres] at HC ⊢
  clear hres
  cases res with
  | bad ec eo =>
    unfold AtmPost
    go_enter Tryz.func35, Tryz.ntmps35
    go_wp2_with (go_at_call 52; refine (HC.out _ (below2a _ _ _)).mono ?_; intro e w1 hq; obtain ⟨rfl, ho⟩ := atmPost_bad hq; clear hq)
    exact ⟨rfl, rfl, only_drop (only_wide (below2a _ _ _) ho)⟩
  | ok x r =>
    unfold AtmPost
    go_enter Tryz.func35, Tryz.ntmps35
    go_wp2_with (go_at_call 52; refine (HC.out _ (below2a _ _ _)).mono ?_; intro e w1 hq; obtain ⟨a, rfl, hpur, hok, ha, ho⟩ := atmPost_ok hq; clear hq; have HPu := hide hpur; have HOk := hide hok; have HA := hide ha; have HO := hide ho; have HBx := hide (second_box hp ho); clear hpur hok ha ho; unfold Atx.val; obtain ⟨q0, q1, q2, q3, q4, q5⟩ := box3_cells HBx.out; obtain ⟨va, vc, hv, -⟩ := HOk.out.2.2.shape)
    obtain ⟨z1, z2⟩ := fin_ahead H0.out HA.out (only_wide (below2a _ _ _) HO.out) (only_three (w.heap.size + 1) (.string a.p) a.v (.int .i64 a.off)) (by omega)
    have z3 := fin_ok elAtx (n := w.heap.size) HOk.out (only_three (w.heap.size + 1) (.string a.p) a.v (.int .i64 a.off)) (by simp) (by simp; omega)
    rw [hv] at z1 z2 z3
    exact bodyPost_ret (groundRes _ (w.heap.size + 1) _ _ _ _ rfl (box3_put HBx.out _ _ _)) rfl ⟨a, by unfold Atx.val; rw [hv], HPu.out, z3, z1, z2⟩
end Go.Proofs.YtmdhjggijlhhgaaGreatDoor

namespace Go.Proofs.YtmdhjggijlhhgaaGreatDoor
set_option linter.unusedSimpArgs false
set_option linter.unusedVariables false
open Go.RowKit

theorem Tryz.infoAtm : (Tryz.prog.info? 55).map (fun i => (i.zero, i.size, i.bytes)) = some (some (.agg #[.string ⟨#[]⟩, .slice none 0 0, .int .i64 0]), 3, 48) := by kernel_rfl

def FactsPost (w : World) (p : Nat) (ao : Option Addr) (cap : Nat) (L : List Tok) (c f : Int) (res : PR (List PAtom)) (e : Ending) (w' : World) : Prop :=
  match res with
  | .bad ec eo => e = PEnd ec eo ∧ Only (fun k => k = p) w w'
  | .ok b r => ∃ v ls, e = .returned v ∧ ls.map Atx.pur = b ∧ ls.length ≤ 4096 ∧ Grow elAtx 55 w.heap.size w' v ls ∧ Ahead w' p ao cap L c f r ∧ Only (fun k => k = p) w w'
theorem factsPost_bad {w w' : World} {p : Nat} {ao : Option Addr} {cap : Nat} {L : List Tok} {c f ec eo : Int} {e : Ending} (h : FactsPost w p ao cap L c f (.bad ec eo) e w') : e = PEnd ec eo ∧ Only (fun k => k = p) w w' := h
theorem factsPost_ok {w w' : World} {p : Nat} {ao : Option Addr} {cap : Nat} {L : List Tok} {c f : Int} {x : List PAtom} {r : List Tok} {e : Ending} (h : FactsPost w p ao cap L c f (.ok x r) e w') : ∃ v ls, e = .returned v ∧ ls.map Atx.pur = x ∧ ls.length ≤ 4096 ∧ Grow elAtx 55 w.heap.size w' v ls ∧ Ahead w' p ao cap L c f r ∧ Only (fun k => k = p) w w' := h

set_option maxHeartbeats 4000000 in
set_option maxRecDepth 100000 in
theorem facts_any {w : World} {p : Nat} {ao : Option Addr} {cap : Nat} {L : List Tok} {c f : Int} {R : List Tok} (h : Ahead w p ao cap L c f R) :
    Calls Tryz.prog 24 #[.pointer (some ⟨p, 0, none⟩)] w (FactsPost w p ao cap L c f (factsP c f R)) := by
  obtain ⟨res, hres⟩ : ∃ res, factsP c f R = res := ⟨_, rfl⟩
  rw [hres]
  have HRes0 : Hid (factsF c f (R.length + 1) [] R = res) := hres
  obtain ⟨Post, hPost⟩ : ∃ Post : Ending → World → Prop, Post = FactsPost w p ao cap L c f res := ⟨_, rfl⟩
  rw [← hPost]
  have PB : Hid (∀ ec eo w', res = .bad ec eo → Only (fun k => k = p) w w' → Post (PEnd ec eo) w') := fun ec eo w' hr ho => by
    rw [hPost, hr]; exact ⟨rfl, ho⟩
  have PG : Hid (∀ b r' v ls w', res = .ok b r' → ls.map Atx.pur = b → ls.length ≤ 4096 → Grow elAtx 55 w.heap.size w' v ls → Ahead w' p ao cap L c f r' → Only (fun k => k = p) w w' → Post (.returned v) w') := fun b r' v ls w' hr h1 h2 h3 h4 h5 => by
    rw [hPost, hr]; exact ⟨v, ls, rfl, h1, h2, h3, h4, h5⟩
  have HC0 := hide (Coll3.start (E := elAtx) (e := 55) h)
  clear hPost h hres
  go_enter Tryz.func24, Tryz.ntmps24
  go_wp2
  go_loopw [3] (fun v wr => ∃ (n : Nat) (ls : List Atx) (R1 : List Tok), ls.length ≤ 4096 ∧ R1.length < n ∧ Hid (Coll3 elAtx 55 w wr p ao cap L c f R1 w.heap.size v ls) ∧ Hid (factsF c f n (ls.map Atx.pur) R1 = res)) (fun _ wr => 70000 - (intOf ((wr.cell? ⟨p, 4, none⟩).getD undef)).toNat)
  case atStart => exact ⟨R.length + 1, [], R, by simp, by omega, HC0, HRes0⟩
  case round =>
    clear HC0 HRes0
    obtain ⟨n, ls, R1, hls, hn, HC, HRes⟩ := hrel
    obtain ⟨n, rfl⟩ : ∃ m, n = m + 1 := ⟨n - 1, by omega⟩
    obtain ⟨va, vc, rfl, -⟩ := HC.out.gr.shape
    cases hT : takeP c f [1, 0] R1 with
    | bad ec eo =>
      have HT : Hid (∀ (W : World) (g : Nat), W.heap.size = g → Ahead W p ao cap L c f R1 → Calls Tryz.prog 36 #[.pointer (some ⟨p, 0, none⟩), .slice (some ⟨g, 0, none⟩) 2 2] (W.alloc (.cells #[.int .i64 1, .int .i64 0] 3)) fun e w' => e = PEnd ec eo ∧ Below W.heap.size W w') := fun W g hg ha => hg ▸ take_lit_fail [1, 0] ha (by decide) hT
      have HX : Hid (res = .bad ec eo) := by show _ = _; rw [← HRes.out]; exact facts_bad1 hT
      clear hT
      go_wp2_with (go_at_call 36; refine (HT.out _ _ rfl HC.out.ah).mono ?_; rintro e w1 ⟨rfl, hb1⟩)
      exact ⟨rfl, PB.out _ _ _ HX.out (HC.out.below hb1).end_⟩
    | ok t r1 =>
      have HT : Hid (∀ (W : World) (g : Nat), W.heap.size = g → Ahead W p ao cap L c f R1 → Calls Tryz.prog 36 #[.pointer (some ⟨p, 0, none⟩), .slice (some ⟨g, 0, none⟩) 2 2] (W.alloc (.cells #[.int .i64 1, .int .i64 0] 3)) fun e w' => e = .returned (tokV t) ∧ Ahead w' p ao cap L c f r1 ∧ Only (fun b => b = p) W w') := fun W g hg ha => hg ▸ take_lit_good [1, 0] ha (by decide) hT
      have htg : t.good := HC.out.ah.good t (by rw [(take_eq hT).1]; exact List.mem_cons_self)
      have l1 := take_len hT
      unfold tokV at HT
      by_cases h0 : t.k = 0
      · have e0 : (t.k == 0) = true := by simpa using h0
        have HX : Hid (res = .ok (ls.map Atx.pur) r1) := by show _ = _; rw [← HRes.out]; exact facts_end hT h0
        clear hT h0
        go_wp2_with (go_at_call 36; refine (HT.out _ _ rfl HC.out.ah).mono ?_; rintro e w1 ⟨rfl, ha1, ho1⟩; have HC1 := hide ((HC.out.move ho1 ha1).below (belowA w1 (.cells #[.int .i64 t.k, .string t.t, .int .i64 t.n, .int .i64 t.op, .int .i64 (t.off : Int), .int .i64 (t.en : Int)] 85))); clear ha1 ho1 HT)
        exact PG.out _ _ _ _ _ HX.out rfl hls HC1.out.gr HC1.out.ah HC1.out.end_
      · have e0 : (t.k == 0) = false := by simpa using h0
        by_cases hmx : ls.length = 4096
        · have HLm := hide (limit_eq (ls.length : Int) 4096 24 (t.off : Int) (h := by omega))
          have HX : Hid (res = .bad 24 (t.off : Int)) := by show _ = _; rw [← HRes.out]; exact facts_lim hT h0 (by rw [List.length_map]; exact hmx)
          clear hT h0 hmx hls
          go_wp2_with (first
            | (go_at_call 36; refine (HT.out _ _ rfl HC.out.ah).mono ?_; rintro e w1 ⟨rfl, ha1, ho1⟩; have HC1 := hide ((HC.out.move ho1 ha1).below (belowA w1 (.cells #[.int .i64 t.k, .string t.t, .int .i64 t.n, .int .i64 t.op, .int .i64 (t.off : Int), .int .i64 (t.en : Int)] 85))); clear ha1 ho1 HT)
            | (go_at_call 44; refine (HLm.out _).mono ?_; rintro e w2 ⟨rfl, hw⟩; have hw := hw.symm; subst hw))
          exact ⟨rfl, PB.out _ _ _ HX.out HC1.out.end_⟩
        · have HLm := hide (limit_ok (ls.length : Int) 4096 24 (t.off : Int) (h := by omega))
          have hls4 : ls.length < 4096 := by omega
          have HG0 := fun (W : World) (ha : Ahead W p ao cap L c f r1) => ground_any t ha htg
          unfold tokV at HG0
          cases hC : atomP c f valueKs t r1 with
          | bad ec eo =>
            rw [hC] at HG0
            have HGd := hide HG0
            have HX : Hid (res = .bad ec eo) := by show _ = _; rw [← HRes.out]; exact facts_atom hT h0 (by rw [List.length_map]; exact hmx) hC
            clear hT h0 hmx hC HG0
            go_wp2_with (first
              | (go_at_call 36; refine (HT.out _ _ rfl HC.out.ah).mono ?_; rintro e w1 ⟨rfl, ha1, ho1⟩; have HC1 := hide ((HC.out.move ho1 ha1).below (belowA w1 (.cells #[.int .i64 t.k, .string t.t, .int .i64 t.n, .int .i64 t.op, .int .i64 (t.off : Int), .int .i64 (t.en : Int)] 85))); clear ha1 ho1 HT)
              | (go_at_call 44; refine (HLm.out _).mono ?_; rintro e w2 ⟨⟨v2, rfl⟩, hw⟩; have hw := hw.symm; subst hw)
              | (go_at_call 35; refine (HGd.out _ HC1.out.ah).mono ?_; intro e w3 hq; obtain ⟨rfl, ho3⟩ := atmPost_bad hq; clear hq))
            exact ⟨rfl, PB.out _ _ _ HX.out (HC1.out.endM ho3)⟩
          | ok x r2 =>
            rw [hC] at HG0
            have HGd := hide HG0
            have l2 := atom_len hC
            clear HG0
            cases hD : takeP c f [8] r2 with
            | bad ec eo =>
              have HU : Hid (∀ (W : World) (g : Nat), W.heap.size = g → Ahead W p ao cap L c f r2 → Calls Tryz.prog 36 #[.pointer (some ⟨p, 0, none⟩), .slice (some ⟨g, 0, none⟩) 1 1] (W.alloc (.cells #[.int .i64 8] 3)) fun e w' => e = PEnd ec eo ∧ Below W.heap.size W w') := fun W g hg ha => hg ▸ take_lit_fail [8] ha (by decide) hD
              have HX : Hid (res = .bad ec eo) := by show _ = _; rw [← HRes.out]; exact facts_dot hT h0 (by rw [List.length_map]; exact hmx) hC hD
              clear hT h0 hmx hC hD
              go_wp2_with (first
                | (go_at_call 36; refine (HT.out _ _ rfl HC.out.ah).mono ?_; rintro e w1 ⟨rfl, ha1, ho1⟩; have HC1 := hide ((HC.out.move ho1 ha1).below (belowA w1 (.cells #[.int .i64 t.k, .string t.t, .int .i64 t.n, .int .i64 t.op, .int .i64 (t.off : Int), .int .i64 (t.en : Int)] 85))); clear ha1 ho1 HT)
                | (go_at_call 44; refine (HLm.out _).mono ?_; rintro e w2 ⟨⟨v2, rfl⟩, hw⟩; have hw := hw.symm; subst hw)
                | (go_at_call 35; refine (HGd.out _ HC1.out.ah).mono ?_; intro e w3 hq; obtain ⟨⟨ap, av, aoff, ats⟩, rfl, hpur, hok, ha3, ho3⟩ := atmPost_ok hq; clear hq; obtain ⟨xa, xc, rfl, -⟩ := (show Lst elTrm _ _ av ats from hok.2.2).shape; have HPu := hide hpur; have HOk := hide (HC1.out.gr.behind HC1.out.hi elAtx hok); have HC3 := hide (HC1.out.move ho3 ha3); have HC4 := hide (HC3.out.below (belowA w3 (.cells #[.string ap, .slice xa ats.length xc, .int .i64 aoff] 55))); have HOk4 := hide (elAtx.move HOk.out fun b hlt hF => ⟨hF, (belowA w3 (.cells #[.string ap, .slice xa ats.length xc, .int .i64 aoff] 55)).block b hlt⟩); clear hpur hok ha3 ho3 HOk HGd; unfold Atx.val)
                | (at_builtin; obtain ⟨i0, hi0, hz0, hz1, hz2⟩ := info_parts Tryz.infoAtm; refine wpList_push (w0 := w3.alloc (.cells #[.string ap, .slice xa ats.length xc, .int .i64 aoff] 55)) elAtx rfl _ _ 32 rfl w.heap.size 55 i0 _ 48 Tryz.underlying32 hi0 hz0 hz1 hz2 rfl (by decide) _ ls ls.length rfl rfl HC4.out.gr ⟨ap, .slice xa ats.length xc, aoff, ats⟩ w3.heap.size 1 rfl (fun j u hu => new_cells (cs := #[.string ap, .slice xa ats.length xc, .int .i64 aoff]) j u hu) HOk4.out (by omega) (Below.refl _ _) HC4.out.hi ?_; intro g cap' w5 HG5 HB5 HGr; clear HB5 hi0 hz0 hz1 hz2; have HC5 := hide (HC4.out.grown HGr.out HG5.out); clear HG5 HGr HC4 HOk4)
                | (go_at_call 36; refine (HU.out _ _ rfl HC5.out.ah).mono ?_; rintro e w6 ⟨rfl, hb6⟩))
              exact ⟨rfl, PB.out _ _ _ HX.out (HC5.out.below hb6).end_⟩
            | ok s r3 =>
              have HU : Hid (∀ (W : World) (g : Nat), W.heap.size = g → Ahead W p ao cap L c f r2 → Calls Tryz.prog 36 #[.pointer (some ⟨p, 0, none⟩), .slice (some ⟨g, 0, none⟩) 1 1] (W.alloc (.cells #[.int .i64 8] 3)) fun e w' => e = .returned (tokV s) ∧ Ahead w' p ao cap L c f r3 ∧ Only (fun b => b = p) W w') := fun W g hg ha => hg ▸ take_lit_good [8] ha (by decide) hD
              have l3 := take_len hD
              have HX : Hid (factsF c f n (ls.map Atx.pur ++ [x]) r3 = res) := by show _ = _; rw [← HRes.out]; exact (facts_more hT h0 (by rw [List.length_map]; exact hmx) hC hD).symm
              have HLn : Hid (r3.length < R1.length ∧ r3.length < n) := ⟨by omega, by omega⟩
              obtain ⟨ix, isz⟩ := HC.out.ah.index
              have HIx := hide (And.intro ix isz)
              clear hT h0 hmx hC hD l1 l2 l3 ix isz
              go_wp2_with (first
                | (go_at_call 36; refine (HT.out _ _ rfl HC.out.ah).mono ?_; rintro e w1 ⟨rfl, ha1, ho1⟩; have HC1 := hide ((HC.out.move ho1 ha1).below (belowA w1 (.cells #[.int .i64 t.k, .string t.t, .int .i64 t.n, .int .i64 t.op, .int .i64 (t.off : Int), .int .i64 (t.en : Int)] 85))); clear ha1 ho1 HT)
                | (go_at_call 44; refine (HLm.out _).mono ?_; rintro e w2 ⟨⟨v2, rfl⟩, hw⟩; have hw := hw.symm; subst hw)
                | (go_at_call 35; refine (HGd.out _ HC1.out.ah).mono ?_; intro e w3 hq; obtain ⟨⟨ap, av, aoff, ats⟩, rfl, hpur, hok, ha3, ho3⟩ := atmPost_ok hq; clear hq; obtain ⟨xa, xc, rfl, -⟩ := (show Lst elTrm _ _ av ats from hok.2.2).shape; have HPu := hide hpur; have HOk := hide (HC1.out.gr.behind HC1.out.hi elAtx hok); have HC3 := hide (HC1.out.move ho3 ha3); have HC4 := hide (HC3.out.below (belowA w3 (.cells #[.string ap, .slice xa ats.length xc, .int .i64 aoff] 55))); have HOk4 := hide (elAtx.move HOk.out fun b hlt hF => ⟨hF, (belowA w3 (.cells #[.string ap, .slice xa ats.length xc, .int .i64 aoff] 55)).block b hlt⟩); clear hpur hok ha3 ho3 HOk HGd; unfold Atx.val)
                | (at_builtin; obtain ⟨i0, hi0, hz0, hz1, hz2⟩ := info_parts Tryz.infoAtm; refine wpList_push (w0 := w3.alloc (.cells #[.string ap, .slice xa ats.length xc, .int .i64 aoff] 55)) elAtx rfl _ _ 32 rfl w.heap.size 55 i0 _ 48 Tryz.underlying32 hi0 hz0 hz1 hz2 rfl (by decide) _ ls ls.length rfl rfl HC4.out.gr ⟨ap, .slice xa ats.length xc, aoff, ats⟩ w3.heap.size 1 rfl (fun j u hu => new_cells (cs := #[.string ap, .slice xa ats.length xc, .int .i64 aoff]) j u hu) HOk4.out (by omega) (Below.refl _ _) HC4.out.hi ?_; intro g cap' w5 HG5 HB5 HGr; clear HB5 hi0 hz0 hz1 hz2; have HC5 := hide (HC4.out.grown HGr.out HG5.out); clear HG5 HGr HC4 HOk4)
                | (go_at_call 36; refine (HU.out _ _ rfl HC5.out.ah).mono ?_; rintro e w6 ⟨rfl, ha6, ho6⟩; have HC6 := hide (HC5.out.move ho6 ha6); clear ha6 ho6))
              go_roundw
              case rel => exact ⟨n, ls ++ [⟨ap, .slice xa ats.length xc, aoff, ats⟩], r3, by simp; omega, HLn.out.2, HC6, by show _ = _; rw [List.map_append, List.map_singleton, HPu.out]; exact HX.out⟩
              case measure =>
                obtain ⟨jx, -⟩ := HC6.out.ah.index
                have h1 := HLn.out
                have h2 := HIx.out
                omega

set_option maxHeartbeats 1000000 in
set_option maxRecDepth 100000 in
theorem query_any {w : World} {p : Nat} {ao : Option Addr} {cap : Nat} {L : List Tok} {c f : Int} {R : List Tok} (h : Ahead w p ao cap L c f R) :
    Calls Tryz.prog 28 #[.pointer (some ⟨p, 0, none⟩)] w (BodyPost w p ao cap L c f (queryP c f R)) := by
  have HB0 := body_any h
  have hp := h.lt
  clear h
  cases hB : bodyP c f R with
  | bad ec eo =>
    rw [hB] at HB0
    have HBo := hide HB0
    rw [show queryP c f R = .bad ec eo from by unfold queryP; rw [hB]]
    clear HB0 hB
    unfold BodyPost
    go_enter Tryz.func28, Tryz.ntmps28
    go_wp2_with (go_at_call 46; refine HBo.out.mono ?_; intro e w1 hq; obtain ⟨rfl, ho1⟩ := bodyPost_bad hq; clear hq)
    exact ⟨rfl, rfl, ho1⟩
  | ok b r1 =>
    rw [hB] at HB0
    have HBo := hide HB0
    clear HB0
    cases hT : takeP c f [0] r1 with
    | bad ec eo =>
      have HU : Hid (∀ (W : World) (g : Nat), W.heap.size = g → Ahead W p ao cap L c f r1 → Calls Tryz.prog 36 #[.pointer (some ⟨p, 0, none⟩), .slice (some ⟨g, 0, none⟩) 1 1] (W.alloc (.cells #[.int .i64 0] 3)) fun e w' => e = PEnd ec eo ∧ Below W.heap.size W w') := fun W g hg ha => hg ▸ take_lit_fail [0] ha (by decide) hT
      rw [show queryP c f R = .bad ec eo from by unfold queryP; rw [hB]; simp only; rw [hT]]
      clear hB hT
      unfold BodyPost
      go_enter Tryz.func28, Tryz.ntmps28
      go_wp2_with (first
        | (go_at_call 46; refine HBo.out.mono ?_; intro e w1 hq; obtain ⟨bv, ls, rfl, hpur, hl, hgr, ha1, ho1⟩ := bodyPost_ok hq; clear hq; have HPu := hide hpur; have HL1 := hide hl; have HG1 := hide hgr; have HA1 := hide ha1; have HO1 := hide ho1; obtain ⟨ba, bc, rfl, -⟩ := hgr.shape; clear hpur hl hgr ha1 ho1)
        | (go_at_call 36; refine (HU.out _ _ rfl HA1.out).mono ?_; rintro e w2 ⟨rfl, hb2⟩))
      exact ⟨rfl, rfl, HO1.out.trans (Only.of_below hb2 _)⟩
    | ok s r2 =>
      have HU : Hid (∀ (W : World) (g : Nat), W.heap.size = g → Ahead W p ao cap L c f r1 → Calls Tryz.prog 36 #[.pointer (some ⟨p, 0, none⟩), .slice (some ⟨g, 0, none⟩) 1 1] (W.alloc (.cells #[.int .i64 0] 3)) fun e w' => e = .returned (tokV s) ∧ Ahead w' p ao cap L c f r2 ∧ Only (fun b => b = p) W w') := fun W g hg ha => hg ▸ take_lit_good [0] ha (by decide) hT
      rw [show queryP c f R = .ok b r2 from by unfold queryP; rw [hB]; simp only; rw [hT]]
      clear hB hT
      obtain ⟨Post, hPost⟩ : ∃ Post : Ending → World → Prop, Post = BodyPost w p ao cap L c f (.ok b r2) := ⟨_, rfl⟩
      rw [← hPost]
      have PG : Hid (∀ v ls w', ls.map Lix.pur = b → ls.length ≤ 16 → Grow elLix 72 w.heap.size w' v ls → Ahead w' p ao cap L c f r2 → Only (fun k => k = p) w w' → Post (.returned v) w') := fun v ls w' h1 h2 h3 h4 h5 => by
        rw [hPost]; exact ⟨v, ls, rfl, h1, h2, h3, h4, h5⟩
      clear hPost
      go_enter Tryz.func28, Tryz.ntmps28
      go_wp2_with (first
        | (go_at_call 46; refine HBo.out.mono ?_; intro e w1 hq; obtain ⟨bv, ls, rfl, hpur, hl, hgr, ha1, ho1⟩ := bodyPost_ok hq; clear hq; have HPu := hide hpur; have HL1 := hide hl; have HG1 := hide hgr; have HA1 := hide ha1; have HO1 := hide ho1; obtain ⟨ba, bc, rfl, -⟩ := hgr.shape; clear hpur hl hgr ha1 ho1)
        | (go_at_call 36; refine (HU.out _ _ rfl HA1.out).mono ?_; rintro e w2 ⟨rfl, ha2, ho2⟩; have HA2 := hide ha2; have HO2 := hide ho2; clear ha2 ho2))
      first
        | exact PG.out _ _ _ HPu.out HL1.out (HG1.out.above fun k hk hlt => HO2.out.block k hlt (by omega)) HA2.out (HO1.out.trans HO2.out)
        | (go_ret; exact PG.out _ _ _ HPu.out HL1.out (HG1.out.above fun k hk hlt => HO2.out.block k hlt (by omega)) HA2.out (HO1.out.trans HO2.out))
end Go.Proofs.YtmdhjggijlhhgaaGreatDoor

namespace Go.Proofs.YtmdhjggijlhhgaaGreatDoor
set_option linter.unusedSimpArgs false
set_option linter.unusedVariables false
open Go.RowKit

theorem rfRes (W : World) (b : Nat) (v u0 u1 u2 : Value) (tmps : Array Value) (h2 : tmps[2]? = some v) (h3 : tmps[3]? = some (.pointer (some ⟨b, 0, none⟩))) (hb : W.heap[b]? = some (.cells #[u0, u1, u2] 27 (0, 0))) :
    (results Tryz.f11 tmps).run Tryz.prog W = .ok (.tuple #[v, .agg #[u0, u1, u2]]) W := by
  obtain ⟨⟨c0, c1, c2⟩, -⟩ := chk3_cells hb
  simp [results, Tryz.results11, go_sem, h2, h3, c0, c1, c2]

set_option maxRecDepth 100000 in
set_option maxHeartbeats 4000000 in
theorem rfacts_bad (s : ByteArray) (w : World) (hs : s.size ≤ 140737488351232) {x o : Int} (hC : chkR (scanX s).2.1 ((scanX s).2.2 : Int) 15 15 ⟨0, 0, 0⟩ (scanX s).1 = .bad x o) :
    Calls Tryz.prog 11 #[.string s] w fun e w' => e = .returned (.tuple #[.slice none 0 0, faultV x o]) ∧ Below w.heap.size w w' := by
  have h0 := fun W => check_any s 15 W hs
  simp only [hC] at h0
  have HC := hide h0
  have hx : (x != 0) = true := by simpa using chk_ne _ _ _ _ _ hC
  clear hC h0 hs
  go_enter Tryz.func11, Tryz.ntmps11
  go_upto_region 2 with (go_at_call 21; refine (HC.out _).mono ?_; intro e w1 hq; obtain ⟨rfl, hb1⟩ := chkPost_bad hq; have HF1 := hide ((FB.start w).kept hb1); clear hq hb1)
  obtain ⟨Y, hY⟩ : ∃ Y, Y = w1.alloc (.cells #[.int .i64 x, .int .i64 0, .int .i64 o] 27) := ⟨_, rfl⟩
  have HFY : Hid (FB w Y w.heap.size) := by rw [hY]; exact HF1.out.kept (belowA _ _)
  have hG : Y.heap[w1.heap.size]? = some (.cells #[.int .i64 x, .int .i64 0, .int .i64 o] 27 (0, 0)) := by rw [hY]; exact heap_alloc_new w1 _
  obtain ⟨⟨q0, q1, q2⟩, -⟩ := chk3_cells hG
  obtain ⟨⟨p0, p1, p2⟩, f0, f1, f2⟩ := chk3_cells HFY.out.bx
  have n1 : ¬ w.heap.size = w1.heap.size := by have := (Array.getElem?_eq_some_iff.1 HF1.out.bx).1; omega
  rw [← hY]
  clear hY hG HF1
  go_wp2
  go_region
  go_wp2
  exact bodyPost_ret (rfRes _ w.heap.size (.slice none 0 0) (.int .i64 x) (.int .i64 0) (.int .i64 o) _ rfl rfl (HFY.out.fin x 0 o).1) rfl ⟨rfl, (HFY.out.fin x 0 o).2.1.drew⟩

theorem ne_cons {α : Type} {l : List α} (h : l ≠ []) : ∃ a r, l = a :: r := by cases l with | nil => exact absurd rfl h | cons a r => exact ⟨a, r, rfl⟩
theorem ratom_ne {w : World} {v : Value} {P : List Tok} (h : Has elTok w v P) (hL : P.length ≤ 100000) (hP : P ≠ []) :
    Calls Tryz.prog 22 #[v] w fun e w' => ∃ a : Atx, e = .returned a.val ∧ a.pur = atomR P ∧ elAtx.ok w' (fun b => w.heap.size ≤ b) a ∧ Below w.heap.size w w' := by
  obtain ⟨n, r, rfl⟩ := ne_cons hP
  exact ratom_any h hL

set_option maxRecDepth 100000 in
set_option maxHeartbeats 4000000 in
theorem rfacts_ok (s : ByteArray) (w : World) (hs : s.size ≤ 140737488351232) {u : Unit} {r : List Tok} (hC : chkR (scanX s).2.1 ((scanX s).2.2 : Int) 15 15 ⟨0, 0, 0⟩ (scanX s).1 = .ok u r) {S : List (List Tok)} {last : List Tok} (hcut : cutF 8 0 [] [] (scanX s).1 = S ++ [last]) (hB : ∀ P ∈ S, P ≠ []) :
    Calls Tryz.prog 11 #[.string s] w fun e w' => ∃ bv, e = .returned (.tuple #[bv, faultV 0 0]) ∧ ∃ fs, fs.map Atx.pur = S.map atomR ∧ Lst elAtx w' (fun b => w.heap.size ≤ b) bv fs ∧ Below w.heap.size w w' := by
  have h0 := fun W => check_any s 15 W hs
  simp only [hC] at h0
  have HC := hide h0
  obtain ⟨-, hlen⟩ := scan_good s
  have HX : Hid (∀ ps : List (Value × List Tok), ps.map Prod.snd = (cutF 8 0 [] [] (scanX s).1).dropLast → ps.length ≤ 65539 ∧ (∀ p ∈ ps, p.2.length ≤ 100000 ∧ p.2 ≠ []) ∧ S.map atomR = ps.map (fun p => atomR p.2)) := fun ps hp => by
    have hl := cut_len 8 (scanX s).1 0 [] []
    rw [hcut] at hp hl
    rw [List.dropLast_concat] at hp
    have h3 := congrArg List.length hp
    rw [List.length_map] at h3
    simp only [List.length_append, List.length_nil, List.length_singleton] at hl
    refine ⟨by omega, fun p hpm => ?_, by rw [← hp, List.map_map]; rfl⟩
    have hm : p.2 ∈ S := by rw [← hp]; exact List.mem_map_of_mem hpm
    exact ⟨cutL_sum 8 (scanX s).1 0 [] [] 100000 (by simp) (by simp; omega) _ (by rw [hcut]; exact List.mem_append_left _ hm), hB _ hm⟩
  generalize (scanX s).1 = L at *
  clear hC h0 hs hcut hB
  go_enter Tryz.func11, Tryz.ntmps11
  go_upto_region 2 with (go_at_call 21; refine (HC.out _).mono ?_; intro e w1 hq; obtain ⟨v, rfl, hls, hb1⟩ := chkPost_ok hq; have HF1 := hide ((FB.start w).kept hb1); obtain ⟨va, vc, rfl, -⟩ := hls.shape; have HL1 := hide hls.all; clear hq hb1 hls)
  obtain ⟨Y, hY⟩ : ∃ Y, Y = w1.alloc (.cells #[.int .i64 0, .int .i64 0, .int .i64 0] 27) := ⟨_, rfl⟩
  have HFY : Hid (FB w Y w.heap.size) := by rw [hY]; exact HF1.out.kept (belowA _ _)
  have HLY : Hid (Has elTok Y (.slice va L.length vc) L) := by rw [hY]; exact HL1.out.kept (belowA _ _)
  have hG : Y.heap[w1.heap.size]? = some (.cells #[.int .i64 0, .int .i64 0, .int .i64 0] 27 (0, 0)) := by rw [hY]; exact heap_alloc_new w1 _
  obtain ⟨⟨q0, q1, q2⟩, -⟩ := chk3_cells hG
  have HSn := hide (sentences_any HLY.out (by omega))
  rw [← hY]
  clear hY hG HF1 HL1 HC
  go_wp2_with (go_at_call 25; refine HSn.out.mono ?_; intro e w2 hq; obtain ⟨tv, rfl, ps, hl, hp, hb⟩ := hq; obtain ⟨x1, x2, x3⟩ := HX.out ps hp; obtain ⟨ta, tc, rfl, -⟩ := hl.shape; have HG := hide hl; have HP := hide x3; have HO := hide x2; have HF2 := hide (HFY.out.kept hb); clear hp hl hb x3 x2)
  obtain ⟨m, hm⟩ : ∃ m, m = ps.length := ⟨_, rfl⟩
  rw [← hm] at x1 HG
  try rw [← hm]
  have HM := hide hm
  clear hm HX HSn HLY HFY q0 q1 q2
  go_loopw [6, 21] (fun ov i wl => ∃ (j : Nat) (fs : List Atx), j ≤ m ∧ i = .int .i64 j ∧ Hid (fs.length = j) ∧ Hid (fs.map Atx.pur = (ps.take j).map (fun p => atomR p.2)) ∧ Hid (Below w2.heap.size w2 wl) ∧ Hid (Grow elAtx 55 w2.heap.size wl ov fs)) (fun _ i _ => m - (intOf i).toNat)
  case atStart => exact ⟨0, [], by omega, rfl, rfl, rfl, Below.refl _ _, Grow.nil _ _ _ _⟩
  case round =>
    obtain ⟨j, fs, hj, rfl, HLn, HLs, HBl, HGl⟩ := hrel
    obtain ⟨oa, oc, rfl, -⟩ := HGl.out.shape
    rw [HLn.out]
    rw [HLn.out] at HGl
    have HF3 := hide (HF2.out.kept HBl.out)
    by_cases hlt : j < m
    · have hi : (j : Int) < (m : Int) := by omega
      have hi0 : (0 : Int) ≤ (j : Int) := by omega
      obtain ⟨p, hp⟩ : ∃ p, ps[j]? = some p := ⟨_, List.getElem?_eq_getElem (by rw [← HM.out]; exact hlt)⟩
      obtain ⟨pl, po⟩ := HO.out p (List.mem_of_getElem? hp)
      have hpk := HG.out.ok (List.mem_of_getElem? hp)
      obtain ⟨b3, o3, rfl, -, -, hr3⟩ := HG.out.row (by rw [← HM.out]; omega)
      have y0 := kept_cell HBl.out (hr3 j _ hp 0 _ rfl)
      obtain ⟨pv, pt⟩ := p
      have HLi := hide (ratom_ne ((show Lst elTok w2 _ pv pt from hpk).all.kept HBl.out) pl po)
      have HSn : Hid ((ps.take (j + 1)).map (fun p => atomR p.2) = (ps.take j).map (fun p => atomR p.2) ++ [atomR pt]) := take_map_snoc (f := fun p : Value × List Tok => atomR p.2) hp
      obtain ⟨pa, pc, rfl, -⟩ := (show Lst elTok w2 _ pv pt from hpk).shape
      simp only [elTL, Nat.add_zero, Nat.mul_one] at y0
      clear hr3 hp hpk pl po
      have hjm : j + 1 < 1073741824 := by omega
      go_wp2_with (first
        | (go_at_call 22; refine HLi.out.mono ?_; intro e w3 hq; obtain ⟨⟨ap, av, aoff, ats⟩, rfl, hpur, hok, hb2⟩ := hq; obtain ⟨xa, xc, rfl, -⟩ := (show Lst elTrm _ _ av ats from hok.2.2).shape; have HPu := hide hpur; have HG2 := hide ((HGl.out.kept hb2).kept (belowA w3 (.cells #[.string ap, .slice xa ats.length xc, .int .i64 aoff] 55))); have HEl := hide (HGl.out.behind HBl.out.size elAtx (elAtx.move hok fun b hlt hF => ⟨hF, (belowA w3 (.cells #[.string ap, .slice xa ats.length xc, .int .i64 aoff] 55)).block b hlt⟩)); have HW2 := hide (belowt2 (belowt2 HBl.out hb2) (belowA w3 (.cells #[.string ap, .slice xa ats.length xc, .int .i64 aoff] 55))); unfold Atx.val; clear hpur hok hb2)
        | (at_builtin; obtain ⟨i0, hi0', hz0, hz1, hz2⟩ := info_parts Tryz.infoAtm; refine wpList_push (w0 := w2) elAtx rfl _ _ 32 rfl w2.heap.size 55 i0 _ 48 Tryz.underlying32 hi0' hz0 hz1 hz2 rfl (by decide) _ fs j HLn.out rfl HG2.out ⟨ap, .slice xa ats.length xc, aoff, ats⟩ w3.heap.size 1 rfl (fun j u hu => new_cells (w := w3) (cs := #[.string ap, .slice xa ats.length xc, .int .i64 aoff]) (t := 55) j u hu) HEl.out hjm HW2.out HW2.out.size ?_; intro g7 c7 W7 HG7 HB7 HGr7; clear HG2 HEl HW2 HGr7 hi0' hz0 hz1 hz2))
      go_roundw
      case rel => exact ⟨j + 1, fs ++ [⟨ap, .slice xa ats.length xc, aoff, ats⟩], by omega, by go_num, by show _ = _; rw [List.length_append, HLn.out]; rfl, by show _ = _; rw [List.map_append, HSn.out, HLs.out, List.map_singleton, HPu.out], HB7, HG7⟩
      case measure => simp [intOf]; omega
    · obtain rfl : j = m := by omega
      have hi : ¬ (j : Int) < (j : Int) := by omega
      obtain ⟨⟨p0, p1, p2⟩, f0, f1, f2⟩ := chk3_cells HF3.out.bx
      have HSz := hide (show w.heap.size + 1 ≤ w2.heap.size from (Array.getElem?_eq_some_iff.1 HF2.out.bx).1)
      go_wp2
      refine bodyPost_ret (rfRes _ w.heap.size (.slice oa j oc) (.int .i64 0) (.int .i64 0) (.int .i64 0) _ rfl rfl (HF3.out.fin 0 0 0).1) rfl ⟨_, rfl, fs, ?_, (HGl.out.new (by rw [HLn.out]; omega)).move fun b hb hF => ⟨by have := HSz.out; have h9 : w2.heap.size ≤ b := hF; omega, (HF3.out.fin 0 0 0).2.2.block b hb (by have := HSz.out; have h9 : w2.heap.size ≤ b := hF; omega)⟩, (HF3.out.fin 0 0 0).2.1⟩
      rw [HLs.out, HP.out, List.take_of_length_le (by rw [← HM.out]; omega)]
end Go.Proofs.YtmdhjggijlhhgaaGreatDoor

namespace Go.Proofs.YtmdhjggijlhhgaaGreatDoor
set_option linter.unusedSimpArgs false
set_option linter.unusedVariables false
open Go.RowKit

theorem neqTrmSame (a : Trm) (w : World) : (binOp .neq 58 (.agg #[.int .i64 a.k, .int .i64 a.n, .string a.s, .int .i64 a.off]) (.agg #[.int .i64 a.k, .int .i64 a.n, .string a.s, .int .i64 a.off])).run Tryz.prog w = .ok (.bool false) w := by
  have h1 := run_equalIn_struct (P := Tryz.prog) w 9999 58 #[.int .i64 a.k, .int .i64 a.n, .string a.s, .int .i64 a.off] #[.int .i64 a.k, .int .i64 a.n, .string a.s, .int .i64 a.off] (by kernel_rfl) (by kernel_rfl)
  simp only [binOp]
  simp only [Op.equal, Op.maxDepth, Sem.run_bind]
  go_simp

set_option maxRecDepth 100000 in
set_option maxHeartbeats 1000000 in
theorem sameAtom_any {w : World} {F G : Nat → Prop} (pr : ByteArray) (off : Int) (ts : List Trm) (v1 v2 : Value) (h1 : Lst elTrm w F v1 ts) (h2 : Lst elTrm w G v2 ts) :
    Calls Tryz.prog 26 #[.agg #[.string pr, v1, .int .i64 off], .agg #[.string pr, v2, .int .i64 off]] w fun e w' => e = .returned (.bool true) ∧ Below w.heap.size w w' := by
  obtain ⟨a1, c1, rfl, -, -, hlen⟩ := h1.shape
  obtain ⟨a2, c2, rfl, -⟩ := h2.shape
  have HH1 := hide h1
  have HH2 := hide h2
  clear h1 h2
  have hq : (off != off) = false := by simp
  have hps : (pr.toList != pr.toList) = false := by simp
  go_enter Tryz.func26, Tryz.ntmps26
  go_wp2
  obtain ⟨Y, hY⟩ : ∃ Y, Y = (w.alloc (.cells #[.string pr, .slice a1 ts.length c1, .int .i64 off] 55)).alloc (.cells #[.string pr, .slice a2 ts.length c2, .int .i64 off] 55) := ⟨_, rfl⟩
  have HB0 : Hid (Below w.heap.size w Y) := by rw [hY]; exact below2a _ _ _
  have HP : Hid (Y.cell? ⟨w.heap.size, 1, none⟩ = some (.slice a1 ts.length c1) ∧ Y.cell? ⟨w.heap.size + 1, 1, none⟩ = some (.slice a2 ts.length c2)) := by
    show _ ∧ _
    rw [hY]
    constructor <;> simp
  rw [← hY]
  clear hY
  go_loopw [30] (fun i wl => ∃ k : Nat, k ≤ ts.length ∧ i = .int .i64 k ∧ Hid (Below Y.heap.size Y wl)) (fun i _ => ts.length - (intOf i).toNat)
  case atStart => exact ⟨0, by omega, rfl, Below.refl _ _⟩
  case round =>
    obtain ⟨k, hk, rfl, HB⟩ := hrel
    have HBw := hide (HB0.out.trans (HB.out.mono HB0.out.size))
    have p1 := kept_cell HB.out HP.out.1
    have p2 := kept_cell HB.out HP.out.2
    by_cases hlt : k < ts.length
    · have hi : (k : Int) < (ts.length : Int) := by omega
      have hi0 : (0 : Int) ≤ (k : Int) := by omega
      obtain ⟨b1, o1, rfl, -, -, hr1⟩ := HH1.out.row (by omega)
      obtain ⟨b2, o2, rfl, -, -, hr2⟩ := HH2.out.row (by omega)
      obtain ⟨x, hx⟩ : ∃ x, ts[k]? = some x := ⟨_, List.getElem?_eq_getElem hlt⟩
      have x0 := over_cell (kept_cell HBw.out (hr1 k x hx 0 _ rfl))
      have x1 := over_cell (kept_cell HBw.out (hr1 k x hx 1 _ rfl))
      have x2 := over_cell (kept_cell HBw.out (hr1 k x hx 2 _ rfl))
      have x3 := over_cell (kept_cell HBw.out (hr1 k x hx 3 _ rfl))
      have y0 := over_cell (kept_cell HBw.out (hr2 k x hx 0 _ rfl))
      have y1 := over_cell (kept_cell HBw.out (hr2 k x hx 1 _ rfl))
      have y2 := over_cell (kept_cell HBw.out (hr2 k x hx 2 _ rfl))
      have y3 := over_cell (kept_cell HBw.out (hr2 k x hx 3 _ rfl))
      simp only [elTrm, Nat.add_zero] at x0 x1 x2 x3 y0 y1 y2 y3
      have hs := neqTrmSame x
      clear hr1 hr2 hx
      go_wp2
      refine wp_region_over (fun W => W = wr) (by kernel_rfl) (by kernel_rfl) rfl ?_
      rintro W rfl
      have p1' := over_cell p1
      have p2' := over_cell p2
      clear p1 p2
      repeat (go_big_quiet_step (first | fail))
      refine wpQuiet_nil ?_
      rintro _ ⟨z, rfl⟩
      have HB3 := hide (HB.out.trans ((over_below W z).mono HB.out.size))
      clear x0 x1 x2 x3 y0 y1 y2 y3 p1' p2'
      go_wp2
      go_roundw
      case rel => exact ⟨k + 1, by omega, by go_num, HB3⟩
      case measure => simp [intOf]; omega
    · obtain rfl : k = ts.length := by omega
      have hi : ¬ (ts.length : Int) < (ts.length : Int) := by omega
      go_wp2
      go_ret
      exact ⟨rfl, HBw.out⟩

end Go.Proofs.YtmdhjggijlhhgaaGreatDoor

namespace Go.Proofs.YtmdhjggijlhhgaaGreatDoor
set_option linter.unusedSimpArgs false
set_option linter.unusedVariables false
open Go.RowKit

theorem pur_at {α β : Type} {f : α → β} {l m : List α} (h : l.map f = m.map f) {k : Nat} {x y : α} (hx : l[k]? = some x) (hy : m[k]? = some y) : f x = f y := by
  have e := congrArg (fun z => z[k]?) h
  simp only [List.getElem?_map, hx, hy, Option.map_some, Option.some.injEq] at e
  exact e
set_option maxRecDepth 100000 in
set_option maxHeartbeats 2000000 in
theorem sameAtoms_any {w : World} {F G : Nat → Prop} {v1 v2 : Value} {l m : List Atx} (h1 : Lst elAtx w F v1 l) (h2 : Lst elAtx w G v2 m) (hp : l.map Atx.pur = m.map Atx.pur) :
    Calls Tryz.prog 12 #[v1, v2] w fun e w' => e = .returned (.bool true) ∧ Below w.heap.size w w' := by
  obtain ⟨a1, c1, rfl, -, -, hl1⟩ := h1.shape
  obtain ⟨a2, c2, rfl, -, -, hl2⟩ := h2.shape
  have hl : l.length = m.length := by have := congrArg List.length hp; simpa using this
  have H1 := hide h1.all
  have H2 := hide h2.all
  have HP := hide hp
  have HE := hide hl
  obtain ⟨n, hn⟩ : ∃ n, n = l.length := ⟨_, rfl⟩
  rw [← hl, ← hn]
  rw [← hn] at hl1
  rw [← hl] at H2
  rw [← hn] at H1 H2
  have HN := hide hn
  clear h1 h2 hp hl hl2 hn
  have hnn : ((n : Int) != (n : Int)) = false := by simp
  go_enter Tryz.func12, Tryz.ntmps12
  go_wp2
  go_loopw [13] (fun i wl => ∃ k : Nat, k ≤ n ∧ i = .int .i64 k ∧ Hid (Below w.heap.size w wl)) (fun i _ => n - (intOf i).toNat)
  case atStart => exact ⟨0, by omega, rfl, Below.refl _ _⟩
  case round =>
    obtain ⟨k, hk, rfl, HB⟩ := hrel
    by_cases hlt : k < n
    · have hi : (k : Int) < (n : Int) := by omega
      have hi0 : (0 : Int) ≤ (k : Int) := by omega
      obtain ⟨b, bo, rfl, -, -, hrow⟩ := H1.out.row (by have := HN.out; omega)
      obtain ⟨c, co, rfl, -, -, krow⟩ := H2.out.row (by have := HN.out; have := HE.out; omega)
      obtain ⟨x, hx⟩ : ∃ x, l[k]? = some x := ⟨_, List.getElem?_eq_getElem (by have := HN.out; omega)⟩
      obtain ⟨y, hy⟩ : ∃ y, m[k]? = some y := ⟨_, List.getElem?_eq_getElem (by have := HN.out; have := HE.out; omega)⟩
      have hpq := pur_at HP.out hx hy
      have x0 := over_cell (kept_cell HB.out (hrow k _ hx 0 _ rfl))
      have x1 := over_cell (kept_cell HB.out (hrow k _ hx 1 _ rfl))
      have x2 := over_cell (kept_cell HB.out (hrow k _ hx 2 _ rfl))
      have y0 := over_cell (kept_cell HB.out (krow k _ hy 0 _ rfl))
      have y1 := over_cell (kept_cell HB.out (krow k _ hy 1 _ rfl))
      have y2 := over_cell (kept_cell HB.out (krow k _ hy 2 _ rfl))
      have hxo := H1.out.ok (List.mem_of_getElem? hx)
      have hyo := H2.out.ok (List.mem_of_getElem? hy)
      obtain ⟨xp, xv, xoff, xts⟩ := x
      obtain ⟨yp, yv, yoff, yts⟩ := y
      simp only [elAtx, Nat.add_zero] at x0 x1 x2 y0 y1 y2
      simp only [Atx.pur, PAtom.mk.injEq] at hpq
      obtain ⟨rfl, rfl, rfl⟩ := hpq
      have HS := hide (fun x => sameAtom_any xp xoff xts xv yv (((show Lst elTrm w (fun _ => True) xv xts from hxo.2.2).kept HB.out).kept (over_below _ x)) (((show Lst elTrm w (fun _ => True) yv xts from hyo.2.2).kept HB.out).kept (over_below _ x)))
      obtain ⟨xa, xc, rfl, -⟩ := (show Lst elTrm w (fun _ => True) xv xts from hxo.2.2).shape
      obtain ⟨ya, yc, rfl, -⟩ := (show Lst elTrm w (fun _ => True) yv xts from hyo.2.2).shape
      clear hrow hx krow hy hxo hyo
      go_wp2
      refine wp_region_over (fun W => W = wr) (by kernel_rfl) (by kernel_rfl) rfl ?_
      rintro W rfl
      repeat (go_big_quiet_step (first | (go_at_call 26; exact calls_over (HS.out _))))
      refine wpQuiet_nil ?_
      rintro _ ⟨z, rfl⟩
      have HB3 := hide (HB.out.trans ((over_below W z).mono HB.out.size))
      clear x0 x1 x2 y0 y1 y2 HS
      go_wp2
      go_roundw
      case rel => exact ⟨k + 1, by omega, by go_num, HB3⟩
      case measure => simp [intOf]; omega
    · obtain rfl : k = n := by omega
      have hi : ¬ (k : Int) < (k : Int) := by omega
      go_wp2
      go_ret
      exact ⟨rfl, HB.out⟩
end Go.Proofs.YtmdhjggijlhhgaaGreatDoor
