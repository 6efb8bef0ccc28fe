/- The laws' own bodies of edictlaw04. -/
import Derived.Test.YtchhophblejmeaaGreatDoorProg
import Derived.Test.YtchhophblejmeaaGreatDoorPkB8
import Derived.Test.YtchhophblejmeaaGreatDoorPkB9

namespace Go.Proofs.YtchhophblejmeaaGreatDoor
set_option linter.unusedSimpArgs false
set_option linter.unusedVariables false
open Go.RowKit

/-- A list of one's own that grows, beside which nothing that was there has changed. -/
structure Coll4 {α : Type} (El0 : El α) (e : TypeId) (w W : World) (base : Nat) (v : Value) (l : List α) : Prop where
  gr : Grow El0 e base W v l
  on : Only (fun k => w.heap.size ≤ k) w W
  lo : w.heap.size ≤ base
  hi : base ≤ W.heap.size
section
variable {α : Type} {El0 : El α} {e : TypeId} {w W W' : World} {base : Nat} {v v' : Value} {l l' : List α}
theorem Coll4.below (h : Coll4 El0 e w W base v l) (hb : Below W.heap.size W W') : Coll4 El0 e w W' base v l :=
  ⟨h.gr.kept hb, h.on.trans (Only.of_below hb _), h.lo, Nat.le_trans h.hi hb.size⟩
theorem Coll4.grown (h : Coll4 El0 e w W base v l) (hg : W.grownBy W' v.ownBlock) (hG : Grow El0 e base W' v' l') : Coll4 El0 e w W' base v' l' := by
  have hl := h.lo
  have ho : Only (fun k => base ≤ k) W W' := (Only.refl _ W).grown hg (fun k hk _ => own_new h.gr.1 k hk)
  exact ⟨hG, h.on.trans (ho.mono fun k _ (e : base ≤ k) => (by omega : w.heap.size ≤ k)), h.lo, Nat.le_trans h.hi ho.size⟩
theorem Coll4.start : Coll4 El0 e w w w.heap.size (.slice none 0 0) [] := ⟨Grow.nil _ _ _ _, Only.refl _ _, Nat.le_refl _, Nat.le_refl _⟩
theorem Coll4.bel (h : Coll4 El0 e w W base v l) : Below w.heap.size w W := h.on.below (Nat.le_refl _) (fun k hk e => by omega)
end

set_option maxRecDepth 100000 in
set_option maxHeartbeats 8000000 in
theorem body4 (ls : List Ltr) {w : World} {ao : Option Addr} {len : Nat} (cap : Nat) (hr : IsLtrs w ao len ls) :
    Calls Tryz.prog 20 #[.slice ao len cap] w fun e w' => ∃ v, e = .returned v ∧ ∃ xs : List Lix, xs.map Lix.pur = bod4 ls ∧ xs.length ≤ 16 ∧ Grow elLix 56 w.heap.size w' v xs ∧ Below w.heap.size w w' := by
  have HR := hide hr
  have HLi := hide (fun (x : Ltr) (V : World) (h : x.at V) => lit4 x h)
  have HC0 : Hid (Coll4 elLix 56 w w w.heap.size (.slice none 0 0) []) := Coll4.start
  clear hr
  go_enter Tryz.func20, Tryz.ntmps20
  go_wp2
  go_loopw [3, 4] (fun ov i wl => ∃ (j : Nat) (xs : List Lix), j ≤ min ls.length 16 ∧ i = .int .i64 j ∧ Hid (xs.length = j) ∧ Hid (xs.map Lix.pur = (ls.take j).map ltr4) ∧ Hid (Coll4 elLix 56 w wl w.heap.size ov xs)) (fun _ i _ => 16 - (intOf i).toNat)
  case atStart => exact ⟨0, [], by omega, rfl, rfl, rfl, HC0⟩
  case round =>
    clear HC0
    obtain ⟨j, xs, hj, rfl, HLn, HQ, HC⟩ := hrel
    have hn := HR.out.1
    obtain ⟨oa, oc, rfl, -⟩ := HC.out.gr.shape
    rw [HLn.out]
    rw [HLn.out] at HC
    by_cases hlt : j < min ls.length 16
    · have hi : (j : Int) < (len : Int) := by omega
      have hi8 : (j : Int) < 16 := by omega
      have hi0 : (0 : Int) ≤ (j : Int) := by omega
      have hj16 : j < 16 := by omega
      obtain ⟨l, ht⟩ : ∃ l, ls[j]? = some l := ⟨_, List.getElem?_eq_getElem (by omega)⟩
      obtain ⟨b3, o3, hao, hr3⟩ := HR.out.2.2.2 (by omega)
      obtain ⟨c0, c1, c2, c3, c4, c5, c6, c7⟩ := (hr3 j l ht).kept HC.out.bel
      obtain ⟨d0, d1, d2, d3⟩ := c5
      obtain ⟨f0, f1, f2, f3⟩ := c6
      have HAt := hide ((HR.out.2.2.1 l (List.mem_of_getElem? ht)).kept HC.out.bel)
      have HSn : Hid ((ls.take (j + 1)).map ltr4 = (ls.take j).map ltr4 ++ [ltr4 l]) := by show _ = _; rw [List.take_add_one, ht, List.map_append]; rfl
      subst hao
      clear hr3 ht HR hn
      go_wp2_with (first
          | (go_at_call 38; refine (HLi.out l _ HAt.out).mono ?_; intro e w5 hq; obtain ⟨⟨xk, ⟨ap, av, aoff, ats⟩, xop, xl, xr, xoff⟩, rfl, hpur, hok, hb5⟩ := hq; obtain ⟨xa, xc, rfl, -⟩ := (show Lst elTrm _ _ av ats from hok.2.1.2.2).shape; have HPu := hide hpur; have HOk := hide (HC.out.gr.behind HC.out.hi elLix hok); have HC5 := hide (HC.out.below hb5); have HC6 := hide (HC5.out.below (belowA w5 (.cells #[.int .i64 xk, .string ap, .slice xa ats.length xc, .int .i64 aoff, .int .i64 xop, .int .i64 xl.k, .int .i64 xl.n, .string xl.s, .int .i64 xl.off, .int .i64 xr.k, .int .i64 xr.n, .string xr.s, .int .i64 xr.off, .int .i64 xoff] 56))); have HOk6 := hide (elLix.move HOk.out fun b hlt hF => ⟨hF, (belowA w5 (.cells #[.int .i64 xk, .string ap, .slice xa ats.length xc, .int .i64 aoff, .int .i64 xop, .int .i64 xl.k, .int .i64 xl.n, .string xl.s, .int .i64 xl.off, .int .i64 xr.k, .int .i64 xr.n, .string xr.s, .int .i64 xr.off, .int .i64 xoff] 56)).block b hlt⟩); clear hpur hok hb5 HOk; unfold Lix.val)
          | (at_builtin; obtain ⟨i0, hi0', hz0, hz1, hz2⟩ := info_parts Tryz.infoLit; refine wpList_push (w0 := w5.alloc (.cells #[.int .i64 xk, .string ap, .slice xa ats.length xc, .int .i64 aoff, .int .i64 xop, .int .i64 xl.k, .int .i64 xl.n, .string xl.s, .int .i64 xl.off, .int .i64 xr.k, .int .i64 xr.n, .string xr.s, .int .i64 xr.off, .int .i64 xoff] 56)) elLix rfl _ _ 57 rfl w.heap.size 56 i0 _ 152 Tryz.underlying57 hi0' hz0 hz1 hz2 rfl (by decide) _ xs j HLn.out rfl HC6.out.gr ⟨xk, ⟨ap, .slice xa ats.length xc, aoff, ats⟩, xop, xl, xr, xoff⟩ w5.heap.size 1 rfl (fun j u hu => new_cells (cs := #[.int .i64 xk, .string ap, .slice xa ats.length xc, .int .i64 aoff, .int .i64 xop, .int .i64 xl.k, .int .i64 xl.n, .string xl.s, .int .i64 xl.off, .int .i64 xr.k, .int .i64 xr.n, .string xr.s, .int .i64 xr.off, .int .i64 xoff]) j u hu) HOk6.out (by omega) (Below.refl _ _) HC6.out.hi ?_; intro g cap' w7 HG7 HB7 HGr; clear HB7 hi0' hz0 hz1 hz2; have HC7 := hide (HC6.out.grown HGr.out HG7.out); clear HG7 HGr HC6 HOk6))
      go_roundw
      case rel =>
        refine ⟨j + 1, xs ++ [⟨xk, ⟨ap, .slice xa ats.length xc, aoff, ats⟩, xop, xl, xr, xoff⟩], by omega, by go_num, ?_, ?_, HC7⟩
        · show List.length _ = _; rw [List.length_append, HLn.out]; rfl
        · show List.map _ _ = _; rw [List.map_append, HQ.out, List.map_singleton, HPu.out, HSn.out]
      case measure => simp [intOf]; omega
    · have hje : j = min ls.length 16 := by omega
      have HTk : Hid ((ls.take j).map ltr4 = bod4 ls) := by
        show _ = _
        unfold bod4
        rcases Nat.le_total ls.length 16 with h1 | h1
        · rw [List.take_of_length_le (by omega), List.take_of_length_le h1]
        · rw [show j = 16 by omega]
      have hl16 : j ≤ 16 := by omega
      have hend : ¬ ((j : Int) < (len : Int)) ∨ ((j : Int) < (len : Int) ∧ ¬ (j : Int) < 16) := by omega
      clear hn hj hlt hje
      rcases hend with hi | ⟨hi, hi8⟩ <;>
      · go_wp2
        go_ret
        exact ⟨_, rfl, xs, by rw [← HTk.out]; exact HQ.out, by rw [HLn.out]; exact hl16, HC.out.gr, HC.out.bel⟩
end Go.Proofs.YtchhophblejmeaaGreatDoor
