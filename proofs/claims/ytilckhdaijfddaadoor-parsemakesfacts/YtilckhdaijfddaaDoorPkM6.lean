/- The maker puts a body. The laws over made texts: their data in memory, what a made text is read as. What the program's start-up lays, read off the row's condition: the table of marks, two error values, and the table by which strconv counts digits. A slice in a cell, opened: nil or empty; or a row, each element with its cells and its own reading. What an argument holds that is a law's plain data for a made text: at most its first forty clauses with their lists, all of its gaps. -/
import Derived.Test.YtilckhdaijfddaaDoorProg
import Derived.Test.YtilckhdaijfddaaDoorPkM4
import Derived.Test.YtilckhdaijfddaaDoorPkM5
import Derived.Test.YtilckhdaijfddaaDoorRows
import Derived.Test.YtilckhdaijfddaaDoorLexDoor
import Derived.Test.YtilckhdaijfddaaDoorPkM3
import Derived.Test.YtilckhdaijfddaaDoorItoaLay
import Derived.Lib.LaidTab
import Derived.Lib.SmallJoins
import Derived.Test.YtilckhdaijfddaaDoorTreeMem

namespace Go.Proofs.YtilckhdaijfddaaDoor
set_option linter.unusedSimpArgs false
set_option linter.unusedVariables false
open Go.RowKit

/-- A literal of the law's data at a place. -/
def litAt (w0 : World) (b off : Nat) (l : DL) : Prop := ∃ ao len cap, RowT w0 ao len l.a.ts ∧ w0.cell? ⟨b, off, none⟩ = some (.int .i64 l.k) ∧ w0.cell? ⟨b, off + 1, none⟩ = some (.int .i64 l.a.p) ∧ w0.cell? ⟨b, off + 2, none⟩ = some (.slice ao len cap) ∧ w0.cell? ⟨b, off + 3, none⟩ = some (.int .i64 l.op) ∧ w0.cell? ⟨b, off + 4, none⟩ = some (.int .i64 l.l.k) ∧ w0.cell? ⟨b, off + 5, none⟩ = some (.int .i64 l.l.n) ∧ w0.cell? ⟨b, off + 6, none⟩ = some (.int .i64 l.r.k) ∧ w0.cell? ⟨b, off + 7, none⟩ = some (.int .i64 l.r.n)
/-- At most the first sixteen literals of a list of the law's data. -/
structure RowL (w0 : World) (ao : Option Addr) (len : Nat) (ls : List DL) : Prop where
  n : ls.length = min len 16
  ok : ∀ l ∈ ls, I64 l.l.n ∧ I64 l.r.n
  row : 0 < len → ∃ b off, ao = some ⟨b, off, none⟩ ∧ ∀ i l, ls[i]? = some l → litAt w0 b (off + i * 8) l
section
variable {G : Nat → Int}
theorem bodyS_snoc (s : St) (l : List DL) (t : DL) : bodyS G s (l ++ [t]) = bodyS1 G (bodyS G s l) t := by unfold bodyS; rw [List.foldl_append]; rfl
theorem bodyS_len (s : St) (l : List DL) : (bodyS G s l).2.length = l.length := by
  unfold bodyS
  have : ∀ (l : List DL) (q : St × List PLit), (l.foldl (bodyS1 G) q).2.length = q.2.length + l.length := by
    intro l
    induction l with
    | nil => intro q; rfl
    | cons a r ih => intro q; rw [List.foldl_cons, ih]; unfold bodyS1; simp only [List.length_append, List.length_cons, List.length_nil]; omega
  rw [this]; simp
theorem lit_k (s : St) (l : DL) (h : l.a.ts.length ≤ 8) : (litS G s l).1.k ≤ s.k + 19 := by
  rw [(lit_run (G := G) (e := []) l [] s).2.1]
  unfold litN atomN
  split <;> (try split) <;> (try split) <;> omega
end
/-- The maker and a list of the caller's own that grows. -/
structure CollM {α : Type} (El0 : El α) (e : TypeId) (E : MkEnv) (w W : World) (p : Nat) (st : St) (base : Nat) (v : Value) (l : List α) : Prop where
  ms : MkS E W p st
  gr : Grow El0 e base W v l
  on : Only (fun k => k = p ∨ w.heap.size ≤ k) w W
  pl : p < w.heap.size
  lo : w.heap.size ≤ base
  hi : base ≤ W.heap.size
section
variable {α : Type} {El0 : El α} {e : TypeId} {E : MkEnv} {w W W' : World} {p base : Nat} {st st' : St} {v v' : Value} {l l' : List α}
theorem CollM.move (h : CollM El0 e E w W p st base v l) (ho : Only (fun k => k = p) W W') (hm : MkS E W' p st') : CollM El0 e E w W' p st' base v l :=
  have hp := h.pl
  have hl := h.lo
  ⟨hm, h.gr.above fun b hb hlt => ho.block b hlt (by omega), h.on.trans (ho.mono fun k _ e => .inl e), h.pl, h.lo, Nat.le_trans h.hi ho.size⟩
theorem CollM.below (h : CollM El0 e E w W p st base v l) (hb : Below W.heap.size W W') : CollM El0 e E w W' p st base v l := h.move (Only.of_below hb _) (h.ms.kept hb)
theorem CollM.grown (h : CollM El0 e E w W p st base v l) (hg : W.grownBy W' v.ownBlock) (hG : Grow El0 e base W' v' l') : CollM El0 e E w W' p st base v' l' := by
  have hp := h.pl
  have hl := h.lo
  have hE := h.ms.1.lo
  have ho : Only (fun k => base ≤ k) W W' := (Only.refl _ W).grown hg (fun k hk _ => own_new h.gr.1 k hk)
  exact ⟨h.ms.other ho (by omega) (fun j hj e => by omega), hG, h.on.trans (ho.mono fun k _ (e : base ≤ k) => .inr (by omega)), h.pl, h.lo, Nat.le_trans h.hi ho.size⟩
theorem CollM.start (h : MkS E w p st) : CollM El0 e E w w p st w.heap.size (.slice none 0 0) [] := ⟨h, Grow.nil _ _ _ _, Only.refl _ _, h.lt, Nat.le_refl _, Nat.le_refl _⟩
theorem CollM.end_ (h : CollM El0 e E w W p st base v l) : Only (fun k => k = p) w W := only_drop h.on
end
def Lits (E : MkEnv) (p : Nat) : Prop := ∀ (W : World) (s : St), MkS E W p s → s.k < 800000 → ∀ l : DL, I64 l.l.n ∧ I64 l.r.n → ∀ ao len cap, RowT E.w0 ao len l.a.ts → Calls Tryd.prog 27 #[.pointer (some ⟨p, 0, none⟩), .agg #[.int .i64 l.k, .int .i64 l.a.p, .slice ao len cap, .int .i64 l.op, .int .i64 l.l.k, .int .i64 l.l.n, .int .i64 l.r.k, .int .i64 l.r.n]] W fun e w' => ∃ x : Lix, e = .returned x.val ∧ x.pur = (litS E.G s l).2 ∧ elLix.ok w' (fun b => W.heap.size ≤ b) x ∧ MkS E w' p (litS E.G s l).1 ∧ Only (fun j => j = p) W w'

set_option maxRecDepth 100000 in
set_option maxHeartbeats 8000000 in
theorem bodyM_by {E : MkEnv} {w : World} {p : Nat} {s : St} (h : MkS E w p s) (hk : s.k < 700000) (ls : List DL) {ao : Option Addr} {len : Nat} (cap : Nat) (hr : RowL E.w0 ao len ls) (hP : Puts E p) (hL : Lits E p) :
    Calls Tryd.prog 13 #[.pointer (some ⟨p, 0, none⟩), .slice ao len cap] w fun e w' => ∃ v, e = .returned v ∧ ∃ xs : List Lix, xs.map Lix.pur = (bodyS E.G s ls).2 ∧ xs.length ≤ 16 ∧ Grow elLix 86 w.heap.size w' v xs ∧ MkS E w' p (bodyS E.G s ls).1 ∧ Only (fun j => j = p) w w' := by
  have HP := hide hP
  have HLi := hide hL
  have HR := hide hr
  have HC0 := hide (CollM.start (El0 := elLix) (e := 86) h)
  clear h hP hL hr
  go_enter Tryd.func13, Tryd.ntmps13
  go_wp2
  go_loopw [5, 6] (fun ov i wl => ∃ (j : Nat) (st : St) (ps : List PLit) (xs : List Lix), j ≤ ls.length ∧ i = .int .i64 j ∧ st.k ≤ s.k + 20 * j ∧ Hid (xs.length = j) ∧ Hid (xs.map Lix.pur = ps) ∧ Hid (bodyS E.G s (ls.take j) = (st, ps)) ∧ Hid (CollM elLix 86 E w wl p st w.heap.size ov xs)) (fun _ i _ => ls.length - (intOf i).toNat)
  case atStart => exact ⟨0, s, [], [], by omega, rfl, by omega, rfl, rfl, rfl, HC0⟩
  case round =>
    clear HC0
    obtain ⟨j, st, ps, xs, hj, rfl, hsk, HLn, HPs, HQ, HC⟩ := hrel
    have hn := HR.out.n
    obtain ⟨oa, oc, rfl, -⟩ := HC.out.gr.shape
    rw [HLn.out]
    rw [HLn.out] at HC
    by_cases hlt : j < ls.length
    · have hi : (j : Int) < (len : Int) := by omega
      have hi8 : (j : Int) < 16 := by omega
      have hi0 : (0 : Int) ≤ (j : Int) := by omega
      have hj16 : j < 16 := by omega
      obtain ⟨l, ht⟩ : ∃ l, ls[j]? = some l := ⟨_, List.getElem?_eq_getElem hlt⟩
      obtain ⟨b3, o3, hao, hr3⟩ := HR.out.row (by omega)
      obtain ⟨ta, tl, tc, hrt, c0, c1, c2, c3, c4, c5, c6, c7⟩ := hr3 j l ht
      have hl8 : l.a.ts.length ≤ 8 := by have := hrt.n; omega
      have HLit := hide (fun (W : World) (q : St) (hq : MkS E W p q) (hqk : q.k < 800000) => HLi.out W q hq hqk l (HR.out.ok l (List.mem_of_getElem? ht)) ta tl tc hrt)
      have HSn : Hid (ls.take (j + 1) = ls.take j ++ [l]) := by show _ = _; rw [List.take_add_one, ht]; rfl
      have HPl : Hid (ps.length = j) := by show _ = _; rw [← HPs.out, List.length_map]; exact HLn.out
      have HK19 := hide (fun q => lit_k (G := E.G) q l hl8)
      subst hao
      clear hr3 ht HR hrt hl8
      rcases Nat.eq_zero_or_pos j with hj0 | hj0
      · have ej : ¬ (0 : Int) < (j : Int) := by omega
        have HJ0 := hide hj0
        clear hj0
        have HC4 := HC
        have y0 := kept_cell HC4.out.ms.1.bel c0; have y1 := kept_cell HC4.out.ms.1.bel c1; have y2 := kept_cell HC4.out.ms.1.bel c2; have y3 := kept_cell HC4.out.ms.1.bel c3; have y4 := kept_cell HC4.out.ms.1.bel c4; have y5 := kept_cell HC4.out.ms.1.bel c5; have y6 := kept_cell HC4.out.ms.1.bel c6; have y7 := kept_cell HC4.out.ms.1.bel c7
        go_wp2_with (first
          | (go_at_call 27; refine (HLit.out _ _ HC4.out.ms (by first | omega | (show st.k + 1 < _; omega))).mono ?_; intro e w5 hq; obtain ⟨⟨xk, ⟨ap, av, aoff, ats⟩, xop, xl, xr, xoff⟩, rfl, hpur, hok, hm5, ho5⟩ := hq; obtain ⟨xa, xc, rfl, -⟩ := (show Lst elTrm _ _ av ats from hok.2.1.2.2).shape; have HPu := hide hpur; have HOk := hide (HC4.out.gr.behind HC4.out.hi elLix hok); have HC5 := hide (HC4.out.move ho5 hm5); have HC6 := hide (HC5.out.below (belowA w5 (.cells #[.int .i64 xk, .string ap, .slice xa ats.length xc, .int .i64 aoff, .int .i64 xop, .int .i64 xl.k, .int .i64 xl.n, .string xl.s, .int .i64 xl.off, .int .i64 xr.k, .int .i64 xr.n, .string xr.s, .int .i64 xr.off, .int .i64 xoff] 86))); have HOk6 := hide (elLix.move HOk.out fun b hlt hF => ⟨hF, (belowA w5 (.cells #[.int .i64 xk, .string ap, .slice xa ats.length xc, .int .i64 aoff, .int .i64 xop, .int .i64 xl.k, .int .i64 xl.n, .string xl.s, .int .i64 xl.off, .int .i64 xr.k, .int .i64 xr.n, .string xr.s, .int .i64 xr.off, .int .i64 xoff] 86)).block b hlt⟩); clear hpur hok hm5 ho5 HOk HLit; unfold Lix.val)
          | (at_builtin; obtain ⟨i0, hi0', hz0, hz1, hz2⟩ := info_parts Tryd.infoLit; refine wpList_push (w0 := w5.alloc (.cells #[.int .i64 xk, .string ap, .slice xa ats.length xc, .int .i64 aoff, .int .i64 xop, .int .i64 xl.k, .int .i64 xl.n, .string xl.s, .int .i64 xl.off, .int .i64 xr.k, .int .i64 xr.n, .string xr.s, .int .i64 xr.off, .int .i64 xoff] 86)) elLix rfl _ _ 56 rfl w.heap.size 86 i0 _ 152 Tryd.underlying56 hi0' hz0 hz1 hz2 rfl (by decide) _ xs j HLn.out rfl HC6.out.gr ⟨xk, ⟨ap, .slice xa ats.length xc, aoff, ats⟩, xop, xl, xr, xoff⟩ w5.heap.size 1 rfl (fun j u hu => new_cells (cs := #[.int .i64 xk, .string ap, .slice xa ats.length xc, .int .i64 aoff, .int .i64 xop, .int .i64 xl.k, .int .i64 xl.n, .string xl.s, .int .i64 xl.off, .int .i64 xr.k, .int .i64 xr.n, .string xr.s, .int .i64 xr.off, .int .i64 xoff]) j u hu) HOk6.out (by omega) (Below.refl _ _) HC6.out.hi ?_; intro g cap' w7 HG7 HB7 HGr; clear HB7 hi0' hz0 hz1 hz2; have HC7 := hide (HC6.out.grown HGr.out HG7.out); clear HG7 HGr HC6 HOk6))
        go_roundw
        case rel =>
          refine ⟨j + 1, (litS E.G st l).1, ps ++ [(litS E.G st l).2], xs ++ [⟨xk, ⟨ap, .slice xa ats.length xc, aoff, ats⟩, xop, xl, xr, xoff⟩], by omega, by go_num, ?_, ?_, ?_, ?_, HC7⟩
          · have h1 := HK19.out st
            have h2 : (St.k st) ≤ st.k + 1 := by first | exact Nat.le_refl _ | exact Nat.le_succ _
            omega
          · show List.length _ = _; rw [List.length_append, HLn.out]; rfl
          · show List.map _ _ = _; rw [List.map_append, HPs.out, List.map_singleton, HPu.out]
          · show bodyS E.G _ _ = _
            rw [HSn.out, bodyS_snoc, HQ.out]
            unfold bodyS1
            simp only
            rw [if_pos (List.length_eq_zero_iff.1 (HPl.out.trans HJ0.out))]
        case measure => simp [intOf]; omega
      · have ej : (0 : Int) < (j : Int) := by omega
        have HJ0 := hide hj0
        clear hj0
        go_wp2_with (first
          | (go_at_call 9; refine (HP.out _ _ HC.out.ms (by omega) _ (by decide)).mono ?_; rintro e w4 ⟨rfl, hm4, ho4⟩; have HC4 := hide (HC.out.move ho4 hm4); clear hm4 ho4; have y0 := kept_cell HC4.out.ms.1.bel c0; have y1 := kept_cell HC4.out.ms.1.bel c1; have y2 := kept_cell HC4.out.ms.1.bel c2; have y3 := kept_cell HC4.out.ms.1.bel c3; have y4 := kept_cell HC4.out.ms.1.bel c4; have y5 := kept_cell HC4.out.ms.1.bel c5; have y6 := kept_cell HC4.out.ms.1.bel c6; have y7 := kept_cell HC4.out.ms.1.bel c7)
          | (go_at_call 27; refine (HLit.out _ _ HC4.out.ms (by first | omega | (show st.k + 1 < _; omega))).mono ?_; intro e w5 hq; obtain ⟨⟨xk, ⟨ap, av, aoff, ats⟩, xop, xl, xr, xoff⟩, rfl, hpur, hok, hm5, ho5⟩ := hq; obtain ⟨xa, xc, rfl, -⟩ := (show Lst elTrm _ _ av ats from hok.2.1.2.2).shape; have HPu := hide hpur; have HOk := hide (HC4.out.gr.behind HC4.out.hi elLix hok); have HC5 := hide (HC4.out.move ho5 hm5); have HC6 := hide (HC5.out.below (belowA w5 (.cells #[.int .i64 xk, .string ap, .slice xa ats.length xc, .int .i64 aoff, .int .i64 xop, .int .i64 xl.k, .int .i64 xl.n, .string xl.s, .int .i64 xl.off, .int .i64 xr.k, .int .i64 xr.n, .string xr.s, .int .i64 xr.off, .int .i64 xoff] 86))); have HOk6 := hide (elLix.move HOk.out fun b hlt hF => ⟨hF, (belowA w5 (.cells #[.int .i64 xk, .string ap, .slice xa ats.length xc, .int .i64 aoff, .int .i64 xop, .int .i64 xl.k, .int .i64 xl.n, .string xl.s, .int .i64 xl.off, .int .i64 xr.k, .int .i64 xr.n, .string xr.s, .int .i64 xr.off, .int .i64 xoff] 86)).block b hlt⟩); clear hpur hok hm5 ho5 HOk HLit; unfold Lix.val)
          | (at_builtin; obtain ⟨i0, hi0', hz0, hz1, hz2⟩ := info_parts Tryd.infoLit; refine wpList_push (w0 := w5.alloc (.cells #[.int .i64 xk, .string ap, .slice xa ats.length xc, .int .i64 aoff, .int .i64 xop, .int .i64 xl.k, .int .i64 xl.n, .string xl.s, .int .i64 xl.off, .int .i64 xr.k, .int .i64 xr.n, .string xr.s, .int .i64 xr.off, .int .i64 xoff] 86)) elLix rfl _ _ 56 rfl w.heap.size 86 i0 _ 152 Tryd.underlying56 hi0' hz0 hz1 hz2 rfl (by decide) _ xs j HLn.out rfl HC6.out.gr ⟨xk, ⟨ap, .slice xa ats.length xc, aoff, ats⟩, xop, xl, xr, xoff⟩ w5.heap.size 1 rfl (fun j u hu => new_cells (cs := #[.int .i64 xk, .string ap, .slice xa ats.length xc, .int .i64 aoff, .int .i64 xop, .int .i64 xl.k, .int .i64 xl.n, .string xl.s, .int .i64 xl.off, .int .i64 xr.k, .int .i64 xr.n, .string xr.s, .int .i64 xr.off, .int .i64 xoff]) j u hu) HOk6.out (by omega) (Below.refl _ _) HC6.out.hi ?_; intro g cap' w7 HG7 HB7 HGr; clear HB7 hi0' hz0 hz1 hz2; have HC7 := hide (HC6.out.grown HGr.out HG7.out); clear HG7 HGr HC6 HOk6))
        go_roundw
        case rel =>
          refine ⟨j + 1, (litS E.G (st.put E.G [44]) l).1, ps ++ [(litS E.G (st.put E.G [44]) l).2], xs ++ [⟨xk, ⟨ap, .slice xa ats.length xc, aoff, ats⟩, xop, xl, xr, xoff⟩], by omega, by go_num, ?_, ?_, ?_, ?_, HC7⟩
          · have h1 := HK19.out (st.put E.G [44])
            have h2 : (St.k (st.put E.G [44])) ≤ st.k + 1 := by first | exact Nat.le_refl _ | exact Nat.le_succ _
            omega
          · show List.length _ = _; rw [List.length_append, HLn.out]; rfl
          · show List.map _ _ = _; rw [List.map_append, HPs.out, List.map_singleton, HPu.out]
          · show bodyS E.G _ _ = _
            rw [HSn.out, bodyS_snoc, HQ.out]
            unfold bodyS1
            simp only
            rw [if_neg (fun e => by have h1 := HPl.out; have h2 := HJ0.out; rw [e, List.length_nil] at h1; omega)]
        case measure => simp [intOf]; omega
    · obtain rfl : j = ls.length := by omega
      rw [List.take_of_length_le (Nat.le_refl _)] at HQ
      have hl16 : ls.length ≤ 16 := by omega
      have hend : ¬ ((ls.length : Int) < (len : Int)) ∨ ((ls.length : Int) < (len : Int) ∧ ¬ (ls.length : Int) < 16) := by omega
      clear hn
      rcases hend with hi | ⟨hi, hi8⟩ <;>
      · go_wp2
        go_ret
        exact ⟨_, rfl, xs, by rw [HQ.out]; exact HPs.out, by rw [HLn.out]; exact hl16, HC.out.gr, by rw [HQ.out]; exact HC.out.ms, HC.out.end_⟩

theorem bodyM_any {E : MkEnv} (hE : E.ok) {w : World} {p : Nat} {s : St} (h : MkS E w p s) (hk : s.k < 700000) (ls : List DL) {ao : Option Addr} {len : Nat} (cap : Nat) (hr : RowL E.w0 ao len ls) :
    Calls Tryd.prog 13 #[.pointer (some ⟨p, 0, none⟩), .slice ao len cap] w fun e w' => ∃ v, e = .returned v ∧ ∃ xs : List Lix, xs.map Lix.pur = (bodyS E.G s ls).2 ∧ xs.length ≤ 16 ∧ Grow elLix 86 w.heap.size w' v xs ∧ MkS E w' p (bodyS E.G s ls).1 ∧ Only (fun j => j = p) w w' :=
  bodyM_by h hk ls cap hr (fun W s h hk tok hl => put_any hE h hk tok hl) (fun W s h hk l hl ao len cap hr => litM_any hE h hk l hl cap hr)
theorem bodyS_k {G : Nat → Int} (s : St) (ls : List DL) (h : ∀ l ∈ ls, l.a.ts.length ≤ 8) : (bodyS G s ls).1.k ≤ s.k + 20 * ls.length := by
  have : ∀ (l : List DL) (q : St × List PLit), (∀ x ∈ l, x.a.ts.length ≤ 8) → (l.foldl (bodyS1 G) q).1.k ≤ q.1.k + 20 * l.length := by
    intro l
    induction l with
    | nil => intro q _; exact Nat.le_refl _
    | cons a r ih =>
      intro q hq
      rw [List.foldl_cons]
      refine Nat.le_trans (ih _ fun x hx => hq x (by simp [hx])) ?_
      have h1 := lit_k (G := G) (if q.2 = [] then q.1 else q.1.put G [44]) a (hq a (by simp))
      have h2 : (if q.2 = [] then q.1 else q.1.put G [44]).k ≤ q.1.k + 1 := by split; exact Nat.le_succ _; exact Nat.le_refl _
      have h3 : (bodyS1 G q a).1.k = (litS G (if q.2 = [] then q.1 else q.1.put G [44]) a).1.k := rfl
      rw [List.length_cons]
      omega
  exact this ls (s, []) h
end Go.Proofs.YtilckhdaijfddaaDoor

namespace Go.Proofs.YtilckhdaijfddaaDoor
set_option linter.unusedSimpArgs false
set_option linter.unusedVariables false
open Go.RowKit

theorem RowT.kept {w w' : World} {ao : Option Addr} {len : Nat} {ts : List DT} (h : RowT w ao len ts) (hb : Below w.heap.size w w') : RowT w' ao len ts :=
  ⟨h.n, h.ok, fun hp => by obtain ⟨b, off, e, hr⟩ := h.row hp; exact ⟨b, off, e, fun i t ht => ⟨kept_cell hb (hr i t ht).1, kept_cell hb (hr i t ht).2⟩⟩⟩
theorem litAt.kept {w w' : World} {b off : Nat} {l : DL} (h : litAt w b off l) (hb : Below w.heap.size w w') : litAt w' b off l := by
  obtain ⟨ao, len, cap, h0, h1, h2, h3, h4, h5, h6, h7, h8⟩ := h
  exact ⟨ao, len, cap, h0.kept hb, kept_cell hb h1, kept_cell hb h2, kept_cell hb h3, kept_cell hb h4, kept_cell hb h5, kept_cell hb h6, kept_cell hb h7, kept_cell hb h8⟩
theorem RowL.kept {w w' : World} {ao : Option Addr} {len : Nat} {ls : List DL} (h : RowL w ao len ls) (hb : Below w.heap.size w w') : RowL w' ao len ls :=
  ⟨h.n, h.ok, fun hp => by obtain ⟨b, off, e, hr⟩ := h.row hp; exact ⟨b, off, e, fun i t ht => (hr i t ht).kept hb⟩⟩
/-- A clause of the law's data at a place. -/
def clsAtM (w : World) (b off : Nat) (c : DC) : Prop := ∃ a1 l1 c1 a2 l2 c2, RowT w a1 l1 c.h.ts ∧ RowL w a2 l2 c.b ∧ w.cell? ⟨b, off, none⟩ = some (.int .i64 c.h.p) ∧ w.cell? ⟨b, off + 1, none⟩ = some (.slice a1 l1 c1) ∧ w.cell? ⟨b, off + 2, none⟩ = some (.slice a2 l2 c2)
theorem clsAtM.kept {w w' : World} {b off : Nat} {c : DC} (h : clsAtM w b off c) (hb : Below w.heap.size w w') : clsAtM w' b off c := by
  obtain ⟨a1, l1, c1, a2, l2, c2, h0, h1, h2, h3, h4⟩ := h
  exact ⟨a1, l1, c1, a2, l2, c2, h0.kept hb, h1.kept hb, kept_cell hb h2, kept_cell hb h3, kept_cell hb h4⟩
/-- What is handed to a law: at most its first forty clauses, all of its gaps. -/
structure MkIn (w : World) (ca : Option Addr) (cn : Nat) (ga : Option Addr) (gn : Nat) (cs : List DC) (g : Nat → Int) : Prop where
  n : cs.length = min cn 40
  row : 0 < cn → ∃ b off, ca = some ⟨b, off, none⟩ ∧ ∀ i c, cs[i]? = some c → clsAtM w b (off + i * 3) c
  gap : 0 < gn → ∃ b off, ga = some ⟨b, off, none⟩ ∧ ∀ i, i < gn → w.cell? ⟨b, off + i, none⟩ = some (.int .i64 (g i))
  small : gn ≤ 140737488355328
theorem MkIn.env {w W : World} {ca ga : Option Addr} {cn gn gc : Nat} {cs : List DC} {g : Nat → Int} (h : MkIn w ca cn ga gn cs g) (hI : ItoaOk w) (hb : Below w.heap.size w W) : MkEnv.ok ⟨W, ga, gn, gc, g⟩ :=
  ⟨hI.kept hb, fun hp => by obtain ⟨b, off, e, hr⟩ := h.gap hp; exact ⟨b, off, e, fun i hi => kept_cell hb (hr i hi)⟩, h.small⟩
theorem mk_start (W : World) (ga : Option Addr) (gn gc : Nat) (g : Nat → Int) (V : World) (hV : Below W.heap.size W V) : MkS ⟨W, ga, gn, gc, g⟩ (V.alloc (.cells #[.string ⟨#[]⟩, .slice ga gn gc, .int .i64 0] 28)) V.heap.size ⟨[], 0⟩ := by
  refine ⟨⟨?_, hV.trans ((belowA V _).mono hV.size), hV.size⟩, by simp⟩
  rw [heap_alloc_new]
  have e : kV gn 0 = 0 := by unfold kV; split <;> rfl
  show _ = some (Obj.cells #[.string ⟨#[]⟩, .slice ga gn gc, .int .i64 (kV gn 0)] _ _)
  rw [e]
theorem DC_ok {w : World} {b off : Nat} {c : DC} (h : clsAtM w b off c) : DOk c := by
  obtain ⟨a1, l1, c1, a2, l2, c2, h0, h1, -⟩ := h
  refine ⟨by have := h0.n; omega, fun l hl => ?_, by have := h1.n; omega, h0.ok, fun l hl => ?_⟩
  all_goals
    obtain ⟨i, hi⟩ := List.getElem?_of_mem hl
    have hp : 0 < l2 := by
      have h2 := h1.n
      have h3 := (List.getElem?_eq_some_iff.1 hi).1
      omega
    obtain ⟨b, off, e, hr⟩ := h1.row hp
    obtain ⟨ao, len, cap, hrt, -⟩ := hr i l hi
  · have := hrt.n; omega
  · exact ⟨hrt.ok, h1.ok l hl⟩
theorem arr_list (l : List UInt8) : (⟨l.toArray⟩ : ByteArray).data.toList = l := by simp
section
variable {G : Nat → Int}
theorem put_nil (s : St) : (s.put G []).b = s.b ++ gapK (G s.k) := by unfold St.put; simp
theorem query_text {ls : List DL} (h0 : ls ≠ []) (h8 : ∀ l ∈ ls, l.a.ts.length ≤ 8) (hg : ∀ l ∈ ls, GoodL l) (hn : ls.length ≤ 16) {T : ByteArray} (hT : T = ⟨((((bodyS G ⟨[], 0⟩ ls).1.put G [46]).put G []).b).toArray⟩) (hs : T.size ≤ 65536) :
    queryP (scanX T).2.1 ((scanX T).2.2 : Int) (scanX T).1 = .ok (bodyS G ⟨[], 0⟩ ls).2 [] := by
  obtain ⟨h1, h2, h3, h4⟩ := bodyS_run (G := G) (e := gapK (G ((bodyS G ⟨[], 0⟩ ls).1.put G [46]).k)) ls [] ⟨[], 0⟩ h0
  rw [h3]
  refine make_query (k := G ((bodyS G ⟨[], 0⟩ ls).1.put G [46]).k) ?_ h0 h8 hg hn hs
  rw [hT, arr_list, put_nil]
  exact h1.symm
theorem prog_text {cs : List DC} (hc : ∀ c ∈ cs, DOk c) (hn : cs.length ≤ 40) {T : ByteArray} (hT : T = ⟨(((progS G ⟨[], 0⟩ cs).1.put G []).b).toArray⟩) (hs : T.size ≤ 65536) :
    progP (scanX T).2.1 ((scanX T).2.2 : Int) (scanX T).1 = .ok (progS G ⟨[], 0⟩ cs).2 [] := by
  obtain ⟨h1, h2⟩ := prog_run (G := G) (e := gapK (G (progS G ⟨[], 0⟩ cs).1.k)) cs ⟨[], 0⟩ []
  have h3 : (progS G ⟨[], 0⟩ cs).2 = progTr G 0 cs 0 := h2
  rw [h3]
  refine make_prog (k := G (progS G ⟨[], 0⟩ cs).1.k) ?_ hc (by omega) hs
  rw [hT, arr_list, put_nil]
  exact h1.symm
theorem facts_text {bs : List DA} (ha : ∀ a ∈ bs, GOk a) (hn : bs.length ≤ 40) {T : ByteArray} (hT : T = ⟨(((factsS G ⟨[], 0⟩ bs).1.put G []).b).toArray⟩) (hs : T.size ≤ 65536) :
    factsP (scanX T).2.1 ((scanX T).2.2 : Int) (scanX T).1 = .ok (factsS G ⟨[], 0⟩ bs).2 [] := by
  obtain ⟨h1, h2⟩ := facts_run (G := G) (e := gapK (G (factsS G ⟨[], 0⟩ bs).1.k)) bs ⟨[], 0⟩ []
  have h3 : (factsS G ⟨[], 0⟩ bs).2 = factsTr G 0 bs 0 := h2
  rw [h3]
  refine make_facts (k := G (factsS G ⟨[], 0⟩ bs).1.k) ?_ ha (by omega) hs
  rw [hT, arr_list, put_nil]
  exact h1.symm
end
theorem scan_long {T : ByteArray} (h : ¬ T.size ≤ 65536) : scanX T = ([], 1, 0) := by
  unfold scanX eachX
  rw [if_pos (by omega)]
theorem prog_long {T : ByteArray} (h : ¬ T.size ≤ 65536) : progP (scanX T).2.1 ((scanX T).2.2 : Int) (scanX T).1 = .bad 1 0 := by rw [scan_long h]; rfl
theorem facts_long {T : ByteArray} (h : ¬ T.size ≤ 65536) : factsP (scanX T).2.1 ((scanX T).2.2 : Int) (scanX T).1 = .bad 1 0 := by rw [scan_long h]; rfl
theorem query_long {T : ByteArray} (h : ¬ T.size ≤ 65536) : queryP (scanX T).2.1 ((scanX T).2.2 : Int) (scanX T).1 = .bad 1 0 := by rw [scan_long h]; rfl
end Go.Proofs.YtilckhdaijfddaaDoor

namespace Go.Proofs.YtilckhdaijfddaaDoor
set_option linter.unusedSimpArgs false
set_option linter.unusedVariables false
open Go.RowKit

theorem gPow : Tryd.prog.globalNamed "internal/strconv.uint64pow10" = some 0 := by kernel_rfl
theorem tPow : (Tryd.prog.globals[0]?).map (·.type) = some 141 := by kernel_rfl
def TabLaid (w : World) : Prop := Lib.TabIs Tryd.prog w "internal/strconv.uint64pow10" .u64 Lib.pow10Tab
theorem TabLaid.kept {w w' : World} (h : TabLaid w) (hb : Below w.heap.size w w') : TabLaid w' := by
  unfold TabLaid Lib.TabIs World.var? at h ⊢
  rw [gPow] at h ⊢
  simp only [Option.bind_some] at h ⊢
  have hlt : 0 < w.heap.size := by
    rcases Nat.lt_or_ge 0 w.heap.size with h' | h'
    · exact h'
    · rw [Array.getElem?_eq_none h'] at h; cases h
  rw [hb.block _ hlt]; exact h
theorem below_growM (w : World) (k : Nat) (os : Array Obj) : Below w.heap.size w (Sort.grow (w.drewN k) os) :=
  ⟨rfl, rfl, rfl, by show w.heap.size ≤ (w.heap ++ os).size; simp, fun j hj => by show (w.heap ++ os)[j]? = w.heap[j]?; exact Array.getElem?_append_left hj⟩
theorem itoa_ok {w : World} (h : TabLaid w) : ItoaOk w := fun W hW n hn =>
  (Any.strconv_Itoa Tryd.lays171 n hn.1 hn.2 W (h.kept hW)).mono fun e w' ⟨he, k, os, hw⟩ => ⟨he, by rw [hw]; exact below_growM _ _ _⟩
theorem laid_mk {W : World} (h : laidMetH Tryd.prog lexLaid W) : LexLaid W ∧ ItoaOk W := by
  refine ⟨laid_lex h, itoa_ok ?_⟩
  rw [MakeChecks.laidMetH_plain _ _ _ (by kernel_rfl)] at h
  obtain ⟨g, t, cs, fuel, p, hg, ht, hv, hd⟩ := Lib.laidMet.reads h (show ("internal/strconv.uint64pow10", Rows.laid_internal_strconv_uint64pow10) ∈ lexLaid from .tail _ (.tail _ (.head _)))
  obtain rfl := Option.some.inj (gPow.symm.trans hg)
  obtain rfl := Option.some.inj (tPow.symm.trans ht)
  have hcs := Lib.cells_of_tab (k := .u64) (zs := Lib.pow10Tab) Tryd.underlying141 Tryd.underlying128 (by kernel_rfl) (by kernel_rfl) hd
  unfold TabLaid Lib.TabIs
  rw [hv, ← hcs]
end Go.Proofs.YtilckhdaijfddaaDoor

namespace Go.Proofs.YtilckhdaijfddaaDoor
set_option linter.unusedSimpArgs false
set_option linter.unusedVariables false
open Go.RowKit Go.Deep Go.ChangeShapes Go.WideShapes Go.ChangeAt Go.Joins

section
variable {H : Type} {enc : TypeId × Value → H} {P : Program} {w : World}

/-- A slice in a cell: nil or empty; or a row, each element with its cells and its own reading, within the reach. -/
theorem rows_in {t e : TypeId} {v : Value} {x : DataW H × List MemPlace} {fuel size : Nat}
    (ht : P.underlying t = some (.slice e)) (ce : P.cellsOf e = size) (hsize : 0 < size)
    (hf : DataW.trod enc P w 0 (fun _ => true) true fuel t [v] = some x) (hw : ∀ n ∈ x.1.weights P t, n ≤ 140737488351232) :
    ∃ ao len cap, v = .slice ao len cap ∧ len * P.bytesOf e ≤ 140737488351232 ∧ (0 < len → ∃ b off, ao = some ⟨b, off, none⟩ ∧ ∀ i, i < len → ∃ cs fuel y, w.cells? 0 ⟨b, off + i * size, none⟩ size = some cs ∧ DataW.trod enc P w 0 (fun _ => true) true fuel e cs = some y ∧ ∀ n ∈ y.1.weights P e, n ≤ 140737488351232) := by
  rcases open_slice ht hf with ⟨h1, _⟩ | ⟨a, len, cap, m, n, D, Pl, h1, hb, hl, hm, hmm, hx, hel⟩
  · simp only [List.cons.injEq, and_true] at h1
    exact ⟨none, 0, 0, h1, by omega, fun h => absurd h (by omega)⟩
  · simp only [List.cons.injEq, and_true] at h1
    simp only [if_true] at hmm
    subst hmm
    rw [hx] at hw
    simp only [DataW.weights, ht] at hw
    have hreach := hw _ (List.mem_cons_self ..)
    simp only [List.length_map, List.length_range] at hreach
    have hlr : len * P.bytesOf e ≤ 140737488351232 := Nat.le_trans (Nat.mul_le_mul_right _ (by omega)) hreach
    obtain ⟨b, off, spot⟩ := a
    refine ⟨_, len, _, h1, hlr, fun hlen => ?_⟩
    have hspot : spot = none := by
      obtain ⟨cs', g1, _⟩ := hel 0 (by omega)
      rw [ce] at g1
      obtain ⟨_, hl3, g2⟩ := World.cells?_some g1
      have g3 := g2 0 hsize
      have g4 : w.cell? ⟨b, off, spot⟩ = some (cs'[0]'(by omega)) := by
        simp only [Nat.zero_mul, Addr.add, if_true] at g3
        rw [g3]; exact List.getElem?_eq_getElem _
      exact World.cell?_spot g4
    subst hspot
    refine ⟨b, off, rfl, fun i hi => ?_⟩
    obtain ⟨cs', g1, g2⟩ := hel i (by omega)
    rw [addr_add, ce] at g1
    refine ⟨cs', n, (D i, Pl i), g1, g2, fun k hk => ?_⟩
    exact hw k (List.mem_cons_of_mem _ (List.mem_append_left _ (weights_all (List.mem_map.2 ⟨i, List.mem_range.2 hi, rfl⟩) k hk)))

theorem trod_struct6 {t : TypeId} {f0 f1 f2 f3 f4 f5 : Field} {fuel : Nat} {cs : List Value} {x : DataW H × List MemPlace} (ht : P.underlying t = some (.struct #[f0, f1, f2, f3, f4, f5])) (h : DataW.trod enc P w 0 (fun _ => true) true fuel t cs = some x) :
    ∃ y0 y1 y2 y3 y4 y5 n, x.1 = .agg [y0.1, y1.1, y2.1, y3.1, y4.1, y5.1] ∧ cs.length = P.cellsOf t ∧ DataW.trod enc P w 0 (fun _ => true) true n f0.type ((cs.drop f0.offset).take (P.cellsOf f0.type)) = some y0 ∧
      DataW.trod enc P w 0 (fun _ => true) true n f1.type ((cs.drop f1.offset).take (P.cellsOf f1.type)) = some y1 ∧ DataW.trod enc P w 0 (fun _ => true) true n f2.type ((cs.drop f2.offset).take (P.cellsOf f2.type)) = some y2 ∧
      DataW.trod enc P w 0 (fun _ => true) true n f3.type ((cs.drop f3.offset).take (P.cellsOf f3.type)) = some y3 ∧ DataW.trod enc P w 0 (fun _ => true) true n f4.type ((cs.drop f4.offset).take (P.cellsOf f4.type)) = some y4 ∧
      DataW.trod enc P w 0 (fun _ => true) true n f5.type ((cs.drop f5.offset).take (P.cellsOf f5.type)) = some y5 := by
  obtain ⟨xs, n, _, rfl, hl, hlen, hf⟩ := DataW.trod_struct ht h
  match xs, hlen with
  | [y0, y1, y2, y3, y4, y5], _ => exact ⟨y0, y1, y2, y3, y4, y5, n, by simp, hl, by simpa using hf 0 f0 rfl, by simpa using hf 1 f1 rfl, by simpa using hf 2 f2 rfl, by simpa using hf 3 f3 rfl, by simpa using hf 4 f4 rfl, by simpa using hf 5 f5 rfl⟩
end

theorem cellsInt : Tryd.prog.cellsOf 3 = 1 := by kernel_rfl
end Go.Proofs.YtilckhdaijfddaaDoor

namespace Go.Proofs.YtilckhdaijfddaaDoor
set_option linter.unusedSimpArgs false
set_option linter.unusedVariables false
open Go.RowKit Go.Deep Go.ChangeShapes Go.WideShapes Go.ChangeAt Go.Joins

section
variable {H : Type} {enc : TypeId × Value → H} {P : Program} {w : World}
theorem trod_struct5 {t : TypeId} {f0 f1 f2 f3 f4 : Field} {fuel : Nat} {cs : List Value} {x : DataW H × List MemPlace} (ht : P.underlying t = some (.struct #[f0, f1, f2, f3, f4])) (h : DataW.trod enc P w 0 (fun _ => true) true fuel t cs = some x) :
    ∃ y0 y1 y2 y3 y4 n, x.1 = .agg [y0.1, y1.1, y2.1, y3.1, y4.1] ∧ cs.length = P.cellsOf t ∧ DataW.trod enc P w 0 (fun _ => true) true n f0.type ((cs.drop f0.offset).take (P.cellsOf f0.type)) = some y0 ∧
      DataW.trod enc P w 0 (fun _ => true) true n f1.type ((cs.drop f1.offset).take (P.cellsOf f1.type)) = some y1 ∧ DataW.trod enc P w 0 (fun _ => true) true n f2.type ((cs.drop f2.offset).take (P.cellsOf f2.type)) = some y2 ∧
      DataW.trod enc P w 0 (fun _ => true) true n f3.type ((cs.drop f3.offset).take (P.cellsOf f3.type)) = some y3 ∧ DataW.trod enc P w 0 (fun _ => true) true n f4.type ((cs.drop f4.offset).take (P.cellsOf f4.type)) = some y4 := by
  obtain ⟨xs, n, _, rfl, hl, hlen, hf⟩ := DataW.trod_struct ht h
  match xs, hlen with
  | [y0, y1, y2, y3, y4], _ => exact ⟨y0, y1, y2, y3, y4, n, by simp, hl, by simpa using hf 0 f0 rfl, by simpa using hf 1 f1 rfl, by simpa using hf 2 f2 rfl, by simpa using hf 3 f3 rfl, by simpa using hf 4 f4 rfl⟩
end

section
variable {H : Type} {enc : TypeId × Value → H} {w : World}

theorem cellsMT : Tryd.prog.cellsOf 70 = 2 := by kernel_rfl
theorem cellsMA : Tryd.prog.cellsOf 36 = 2 := by kernel_rfl
theorem cellsML : Tryd.prog.cellsOf 90 = 8 := by kernel_rfl
theorem cellsMC : Tryd.prog.cellsOf 39 = 3 := by kernel_rfl
theorem cellsMTs : Tryd.prog.cellsOf 34 = 1 := by kernel_rfl
theorem cellsMLs : Tryd.prog.cellsOf 37 = 1 := by kernel_rfl
theorem cellsMCs : Tryd.prog.cellsOf 22 = 1 := by kernel_rfl
theorem cellsMIs : Tryd.prog.cellsOf 23 = 1 := by kernel_rfl

set_option maxRecDepth 100000 in
theorem mt_vals {fuel : Nat} {cs : List Value} {y : DataW H × List MemPlace}
    (hd : DataW.trod enc Tryd.prog w 0 (fun _ => true) true fuel 70 cs = some y) :
    ∃ t : DT, I64 t.n ∧ cs = [.int .i64 t.k, .int .i64 t.n] := by
  obtain ⟨y0, y1, n, hy, hlen, t0, t1⟩ := trod_struct2 Tryd.underlying70 hd
  rw [cellsMT] at hlen
  match cs, hlen with
  | [v0, v1], _ =>
    simp only [cellsInt, List.drop_zero, List.drop_succ_cons, List.take_succ_cons, List.take_zero] at t0 t1
    obtain ⟨a0, e0, x0, w0⟩ := DataW.trod_int Tryd.underlying3 t0
    obtain ⟨a1, e1, x1, w1⟩ := DataW.trod_int Tryd.underlying3 t1
    simp only [List.cons.injEq, and_true] at e0 e1
    subst e0 e1
    exact ⟨⟨a0, a1⟩, bounds_i64 w1, rfl⟩
set_option maxRecDepth 100000 in
theorem mts_val {fuel : Nat} {v : Value} {y : DataW H × List MemPlace}
    (hd : DataW.trod enc Tryd.prog w 0 (fun _ => true) true fuel 34 [v] = some y) (hw : ∀ n ∈ y.1.weights Tryd.prog 34, n ≤ 140737488351232) :
    ∃ ao len cap ts, v = .slice ao len cap ∧ RowT w ao len ts := by
  obtain ⟨ao, len, cap, rfl, hr, hrow⟩ := rows_in Tryd.underlying34 cellsMT (by omega) hd hw
  by_cases hlen : 0 < len
  · obtain ⟨b, off, rfl, hel⟩ := hrow hlen
    obtain ⟨l, h1, h2⟩ := list_of_each (R := fun i (t : DT) => I64 t.n ∧ w.cell? ⟨b, off + i * 2, none⟩ = some (.int .i64 t.k) ∧ w.cell? ⟨b, off + i * 2 + 1, none⟩ = some (.int .i64 t.n)) (min len 8) (fun i hi => by
      obtain ⟨cs, fuel, y, g1, g2, g3⟩ := hel i (by omega)
      obtain ⟨t, hok, rfl⟩ := mt_vals g2
      obtain ⟨_, _, hc⟩ := World.cells?_some g1
      have c0 := hc 0 (by omega)
      have c1 := hc 1 (by omega)
      rw [addr_add] at c0 c1
      exact ⟨t, hok, by simpa using c0, by simpa using c1⟩)
    refine ⟨_, len, cap, l, rfl, h1, fun t ht => ?_, fun _ => ⟨b, off, rfl, fun i t ht => (h2 i t ht).2⟩⟩
    obtain ⟨i, hi⟩ := List.mem_iff_getElem?.1 ht
    exact (h2 i t hi).1
  · obtain rfl : len = 0 := by omega
    exact ⟨ao, 0, cap, [], rfl, rfl, by simp, fun h => absurd h (by omega)⟩
set_option maxRecDepth 100000 in
theorem ma_vals {fuel : Nat} {cs : List Value} {y : DataW H × List MemPlace}
    (hd : DataW.trod enc Tryd.prog w 0 (fun _ => true) true fuel 36 cs = some y) (hw : ∀ n ∈ y.1.weights Tryd.prog 36, n ≤ 140737488351232) :
    ∃ (a : DA) (ao : Option Addr) (len cap : Nat), RowT w ao len a.ts ∧ cs = [.int .i64 a.p, .slice ao len cap] := by
  obtain ⟨y0, y1, n, hy, hlen, t0, t1⟩ := trod_struct2 Tryd.underlying36 hd
  rw [cellsMA] at hlen
  rw [hy] at hw
  simp only [DataW.weights, DataW.weightsEach, Tryd.underlying36, List.map_cons, List.map_nil, List.mem_append] at hw
  match cs, hlen with
  | [v0, v1], _ =>
    simp only [cellsInt, cellsMTs, List.drop_zero, List.drop_succ_cons, List.take_succ_cons, List.take_zero] at t0 t1
    obtain ⟨a0, e0, x0, w0⟩ := DataW.trod_int Tryd.underlying3 t0
    obtain ⟨ao, len, cap, ts, rfl, hts⟩ := mts_val t1 (fun n hn => hw n (.inr (.inl hn)))
    simp only [List.cons.injEq, and_true] at e0
    subst e0
    exact ⟨⟨a0, ts⟩, ao, len, cap, hts, rfl⟩
set_option maxRecDepth 100000 in
theorem ml_vals {fuel : Nat} {cs : List Value} {y : DataW H × List MemPlace}
    (hd : DataW.trod enc Tryd.prog w 0 (fun _ => true) true fuel 90 cs = some y) (hw : ∀ n ∈ y.1.weights Tryd.prog 90, n ≤ 140737488351232) :
    ∃ (l : DL) (ao : Option Addr) (len cap : Nat), (I64 l.l.n ∧ I64 l.r.n) ∧ RowT w ao len l.a.ts ∧ cs = [.int .i64 l.k, .int .i64 l.a.p, .slice ao len cap, .int .i64 l.op, .int .i64 l.l.k, .int .i64 l.l.n, .int .i64 l.r.k, .int .i64 l.r.n] := by
  obtain ⟨y0, y1, y2, y3, y4, n, hy, hlen, t0, t1, t2, t3, t4⟩ := trod_struct5 Tryd.underlying90 hd
  rw [cellsML] at hlen
  rw [hy] at hw
  simp only [DataW.weights, DataW.weightsEach, Tryd.underlying90, List.map_cons, List.map_nil, List.mem_append] at hw
  match cs, hlen with
  | [v0, v1, v2, v3, v4, v5, v6, v7], _ =>
    simp only [cellsInt, cellsMA, cellsMT, List.drop_zero, List.drop_succ_cons, List.take_succ_cons, List.take_zero] at t0 t1 t2 t3 t4
    obtain ⟨a0, e0, x0, w0⟩ := DataW.trod_int Tryd.underlying3 t0
    obtain ⟨a, ao, len, cap, ha, e1⟩ := ma_vals t1 (fun n hn => hw n (.inr (.inl hn)))
    obtain ⟨a2, e2, x2, w2⟩ := DataW.trod_int Tryd.underlying3 t2
    obtain ⟨l, hl, e3⟩ := mt_vals t3
    obtain ⟨r, hr, e4⟩ := mt_vals t4
    simp only [List.cons.injEq, and_true] at e0 e1 e2 e3 e4
    obtain ⟨rfl, rfl⟩ := e1
    obtain ⟨rfl, rfl⟩ := e3
    obtain ⟨rfl, rfl⟩ := e4
    subst e0 e2
    exact ⟨⟨a0, a, a2, l, r⟩, ao, len, cap, ⟨hl, hr⟩, ha, rfl⟩
set_option maxRecDepth 100000 in
theorem mls_val {fuel : Nat} {v : Value} {y : DataW H × List MemPlace}
    (hd : DataW.trod enc Tryd.prog w 0 (fun _ => true) true fuel 37 [v] = some y) (hw : ∀ n ∈ y.1.weights Tryd.prog 37, n ≤ 140737488351232) :
    ∃ ao len cap ls, v = .slice ao len cap ∧ RowL w ao len ls := by
  obtain ⟨ao, len, cap, rfl, hr, hrow⟩ := rows_in Tryd.underlying37 cellsML (by omega) hd hw
  by_cases hlen : 0 < len
  · obtain ⟨b, off, rfl, hel⟩ := hrow hlen
    obtain ⟨l, h1, h2⟩ := list_of_each (R := fun i (t : DL) => (I64 t.l.n ∧ I64 t.r.n) ∧ litAt w b (off + i * 8) t) (min len 16) (fun i hi => by
      obtain ⟨cs, fuel, y, g1, g2, g3⟩ := hel i (by omega)
      obtain ⟨t, ao, len, cap, hok, hrt, rfl⟩ := ml_vals g2 g3
      obtain ⟨_, _, hc⟩ := World.cells?_some g1
      have cc : ∀ j (v : Value), ([.int .i64 t.k, .int .i64 t.a.p, .slice ao len cap, .int .i64 t.op, .int .i64 t.l.k, .int .i64 t.l.n, .int .i64 t.r.k, .int .i64 t.r.n] : List Value)[j]? = some v → w.cell? ⟨b, off + i * 8 + j, none⟩ = some v := fun j v hv => by
        have hj : j < 8 := by
          rcases Nat.lt_or_ge j 8 with h | h
          · exact h
          · rw [List.getElem?_eq_none (by simpa using h)] at hv; exact absurd hv (by simp)
        have := hc j hj
        rw [addr_add] at this
        rw [this]; exact hv
      exact ⟨t, hok, ao, len, cap, hrt, cc 0 _ rfl, cc 1 _ rfl, cc 2 _ rfl, cc 3 _ rfl, cc 4 _ rfl, cc 5 _ rfl, cc 6 _ rfl, cc 7 _ rfl⟩)
    refine ⟨_, len, cap, l, rfl, h1, fun t ht => ?_, fun _ => ⟨b, off, rfl, fun i t ht => (h2 i t ht).2⟩⟩
    obtain ⟨i, hi⟩ := List.mem_iff_getElem?.1 ht
    exact (h2 i t hi).1
  · obtain rfl : len = 0 := by omega
    exact ⟨ao, 0, cap, [], rfl, rfl, by simp, fun h => absurd h (by omega)⟩
set_option maxRecDepth 100000 in
theorem mc_vals {fuel : Nat} {cs : List Value} {y : DataW H × List MemPlace}
    (hd : DataW.trod enc Tryd.prog w 0 (fun _ => true) true fuel 39 cs = some y) (hw : ∀ n ∈ y.1.weights Tryd.prog 39, n ≤ 140737488351232) :
    ∃ (c : DC) (a1 : Option Addr) (l1 c1 : Nat) (a2 : Option Addr) (l2 c2 : Nat), RowT w a1 l1 c.h.ts ∧ RowL w a2 l2 c.b ∧ cs = [.int .i64 c.h.p, .slice a1 l1 c1, .slice a2 l2 c2] := by
  obtain ⟨y0, y1, n, hy, hlen, t0, t1⟩ := trod_struct2 Tryd.underlying39 hd
  rw [cellsMC] at hlen
  rw [hy] at hw
  simp only [DataW.weights, DataW.weightsEach, Tryd.underlying39, List.map_cons, List.map_nil, List.mem_append] at hw
  match cs, hlen with
  | [v0, v1, v2], _ =>
    simp only [cellsMA, cellsMLs, List.drop_zero, List.drop_succ_cons, List.take_succ_cons, List.take_zero] at t0 t1
    obtain ⟨a, a1, l1, c1, ha, e0⟩ := ma_vals t0 (fun n hn => hw n (.inl hn))
    obtain ⟨a2, l2, c2, ls, rfl, hls⟩ := mls_val t1 (fun n hn => hw n (.inr (.inl hn)))
    simp only [List.cons.injEq, and_true] at e0
    obtain ⟨rfl, rfl⟩ := e0
    exact ⟨⟨a, ls⟩, a1, l1, c1, a2, l2, c2, ha, hls, rfl⟩
set_option maxRecDepth 100000 in
theorem open_make {r : Reach} {b0 : Nat} {v : Value} {d : DataW H} {ps : List MemPlace} {ts : List TypeId} {ds : List (DataW H)} {j : Nat}
    (hv : Value.okWide Tryd.prog w r b0 25 v) (h : DataW.Trod enc Tryd.prog w 0 (fun _ => true) true 25 v d ps)
    (hsz : (DataW.weightsEach Tryd.prog ts ds).all (· ≤ reachBytes) = true) (hts : ts[j]? = some 25) (hds : ds[j]? = some d) :
    ∃ ca cn cc ga gn gc cs g, v = .agg #[.slice ca cn cc, .slice ga gn gc] ∧ MkIn w ca cn ga gn cs g := by
  obtain ⟨cs, rfl, hs⟩ := okWide_struct Tryd.underlying25 hv
  have hC : Tryd.prog.cellsOf 25 = 2 := by kernel_rfl
  rw [hC] at hs
  obtain ⟨l⟩ := cs
  match l, hs with
  | [c0, c1], _ =>
    obtain ⟨fuel, hf⟩ := h
    obtain ⟨y0, y1, n, hx, _, h0, h1⟩ := trod_struct2 Tryd.underlying25 hf
    simp only [Prod.mk.injEq] at hx
    have hw : ∀ n ∈ d.weights Tryd.prog 25, n ≤ 140737488351232 := fun n hn => of_decide_eq_true (List.all_eq_true.1 hsz n (DataW.weights_mem_each hts hds n hn))
    rw [hx.1] at hw
    simp only [DataW.weights, DataW.weightsEach, Tryd.underlying25, List.map_cons, List.map_nil, List.mem_append] at hw
    simp only [cellsMCs, cellsMIs, Value.cells, List.drop_zero, List.drop_succ_cons, List.take_succ_cons, List.take_zero] at h0 h1
    obtain ⟨ca, cn, cc, rfl, hcr, hcrow⟩ := rows_in Tryd.underlying22 cellsMC (by omega) h0 (fun n hn => hw n (.inl hn))
    obtain ⟨ga, gn, gc, rfl, hgr, hgrow⟩ := rows_in Tryd.underlying23 cellsInt (by omega) h1 (fun n hn => hw n (.inr (.inl hn)))
    have hcs : ∃ cs : List DC, cs.length = min cn 40 ∧ (0 < cn → ∃ b off, ca = some ⟨b, off, none⟩ ∧ ∀ i c, cs[i]? = some c → clsAtM w b (off + i * 3) c) := by
      by_cases hlen : 0 < cn
      · obtain ⟨b, off, rfl, hel⟩ := hcrow hlen
        obtain ⟨l, k1, k2⟩ := list_of_each (R := fun i (c : DC) => clsAtM w b (off + i * 3) c) (min cn 40) (fun i hi => by
          obtain ⟨cs, fuel, y, g1, g2, g3⟩ := hel i (by omega)
          obtain ⟨c, a1, l1, c1, a2, l2, c2, hrt, hrl, rfl⟩ := mc_vals g2 g3
          obtain ⟨_, _, hc⟩ := World.cells?_some g1
          have q0 := hc 0 (by omega)
          have q1 := hc 1 (by omega)
          have q2 := hc 2 (by omega)
          rw [addr_add] at q0 q1 q2
          exact ⟨c, a1, l1, c1, a2, l2, c2, hrt, hrl, by simpa using q0, by simpa using q1, by simpa using q2⟩)
        exact ⟨l, k1, fun _ => ⟨b, off, rfl, k2⟩⟩
      · exact ⟨[], by simp; omega, fun h => absurd h hlen⟩
    have hgs : ∃ g : Nat → Int, 0 < gn → ∃ b off, ga = some ⟨b, off, none⟩ ∧ ∀ i, i < gn → w.cell? ⟨b, off + i, none⟩ = some (.int .i64 (g i)) := by
      by_cases hlen : 0 < gn
      · obtain ⟨b, off, rfl, hel⟩ := hgrow hlen
        obtain ⟨l, k1, k2⟩ := list_of_each (R := fun i (n : Int) => w.cell? ⟨b, off + i, none⟩ = some (.int .i64 n)) gn (fun i hi => by
          obtain ⟨cs, fuel, y, g1, g2, g3⟩ := hel i hi
          obtain ⟨hl1, _, hc⟩ := World.cells?_some g1
          have q0 := hc 0 (by omega)
          obtain ⟨a, e, x, wf⟩ := DataW.trod_int Tryd.underlying3 g2
          subst e
          rw [addr_add, Nat.mul_one] at q0
          exact ⟨a, by simpa using q0⟩)
        refine ⟨fun i => l.getD i 0, fun _ => ⟨b, off, rfl, fun i hi => ?_⟩⟩
        obtain ⟨x, hx⟩ : ∃ x, l[i]? = some x := ⟨_, List.getElem?_eq_getElem (by omega)⟩
        have e : l.getD i 0 = x := by rw [List.getD_eq_getElem?_getD, hx]; rfl
        show w.cell? _ = some (.int .i64 (l.getD i 0))
        rw [e]
        exact k2 i x hx
      · exact ⟨fun _ => 0, fun h => absurd h hlen⟩
    obtain ⟨cs, hn, hrow⟩ := hcs
    obtain ⟨g, hg⟩ := hgs
    rw [show Tryd.prog.bytesOf 3 = 8 from by kernel_rfl] at hgr
    exact ⟨ca, cn, cc, ga, gn, gc, cs, g, rfl, hn, hrow, hg, by omega⟩
end
end Go.Proofs.YtilckhdaijfddaaDoor
