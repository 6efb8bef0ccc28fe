/- parse's reader takes a body. parse's reader takes a clause. parse's reader takes a program. -/
import Derived.Test.YtchhophblejmeaaGreatDoorProg
import Derived.Test.YtchhophblejmeaaGreatDoorPkB8
import Derived.Test.YtchhophblejmeaaGreatDoorPkB4
import Derived.Test.YtchhophblejmeaaGreatDoorPkB7

namespace Go.Proofs.YtchhophblejmeaaGreatDoor
set_option linter.unusedSimpArgs false
set_option linter.unusedVariables false
open Go.RowKit

theorem Tryz.infoLit : (Tryz.prog.info? 56).map (fun i => (i.zero, i.size, i.bytes)) = some (some (.agg #[.int .i64 0, .string ⟨#[]⟩, .slice none 0 0, .int .i64 0, .int .i64 0, .int .i64 0, .int .i64 0, .string ⟨#[]⟩, .int .i64 0, .int .i64 0, .int .i64 0, .string ⟨#[]⟩, .int .i64 0, .int .i64 0]), 14, 152) := by kernel_rfl

theorem limit_eq (n m c o : Int) (w : World) (h : n = m) : Calls Tryz.prog 53 #[.int .i64 n, .int .i64 m, .int .i64 c, .int .i64 o] w fun e w' => e = PEnd c o ∧ w' = w := by
  subst h
  exact limit_bad n c o w

/-- A reader and a list of the caller's own that grows, all in new memory. -/
structure Coll3 {α : Type} (E : El α) (e : TypeId) (w wr : World) (p : Nat) (ao : Option Addr) (cap : Nat) (L : List Tok) (c f : Int) (R : List Tok) (base : Nat) (v : Value) (l : List α) : Prop where
  ah : Ahead wr p ao cap L c f R
  gr : Grow E e base wr v l
  on : Only (fun k => k = p ∨ w.heap.size ≤ k) w wr
  pl : p < w.heap.size
  tk : ∀ g, ao = some ⟨g, 0, none⟩ → 0 < L.length → g < w.heap.size
  lo : w.heap.size ≤ base
  hi : base ≤ wr.heap.size
section
variable {α : Type} {E : El α} {e : TypeId} {w wr wr' : World} {p : Nat} {ao : Option Addr} {cap : Nat} {L : List Tok} {c f : Int} {R R' : List Tok} {base : Nat} {v : Value} {l : List α}
theorem Coll3.move (h : Coll3 E e w wr p ao cap L c f R base v l) (ho : Only (fun k => k = p) wr wr') (ha : Ahead wr' p ao cap L c f R') : Coll3 E e w wr' p ao cap L c f R' base v l :=
  have hp := h.pl
  have hl := h.lo
  ⟨ha, h.gr.above fun b hb hlt => ho.block b hlt (by omega), h.on.trans (ho.mono fun k _ e => .inl e), h.pl, h.tk, h.lo, Nat.le_trans h.hi ho.size⟩
theorem Coll3.below (h : Coll3 E e w wr p ao cap L c f R base v l) (hb : Below wr.heap.size wr wr') : Coll3 E e w wr' p ao cap L c f R base v l :=
  h.move (Only.of_below hb _) (h.ah.kept hb)
theorem Coll3.grown (h : Coll3 E e w wr p ao cap L c f R base v l) {v' : Value} {l' : List α} (hg : wr.grownBy wr' v.ownBlock) (hG : Grow E e base wr' v' l') : Coll3 E e w wr' p ao cap L c f R base v' l' := by
  have hp := h.pl
  have hl := h.lo
  have ho : Only (fun k => base ≤ k) wr wr' := (Only.refl _ wr).grown hg (fun k hk _ => own_new h.gr.1 k hk)
  refine ⟨?_, hG, h.on.trans (ho.mono fun k _ (e : base ≤ k) => .inr (by omega)), h.pl, h.tk, h.lo, Nat.le_trans h.hi ho.size⟩
  obtain ⟨i, q1, q2⟩ := h.ah
  exact ⟨i, q1.only ho (by omega) (fun g hg hl => by have := h.tk g hg hl; omega), q2⟩
theorem Coll3.start (h : Ahead w p ao cap L c f R) : Coll3 E e w w p ao cap L c f R w.heap.size (.slice none 0 0) [] :=
  ⟨h, Grow.nil _ _ _ _, Only.refl _ _, h.lt, h.tk, Nat.le_refl _, Nat.le_refl _⟩
theorem Coll3.endM (h : Coll3 E e w wr p ao cap L c f R base v l) (ho : Only (fun k => k = p) wr wr') : Only (fun k => k = p) w wr' := only_drop (h.on.trans (ho.mono fun k _ e => .inl e))
theorem Coll3.end_ (h : Coll3 E e w wr p ao cap L c f R base v l) : Only (fun k => k = p) w wr := only_drop h.on
end

def BodyPost (w : World) (p : Nat) (ao : Option Addr) (cap : Nat) (L : List Tok) (c f : Int) (res : PR (List PLit)) (e : Ending) (w' : World) : Prop :=
  match res with
  | .bad ec eo => e = PEnd ec eo ∧ Only (fun k => k = p) w w'
  | .ok b r => ∃ v ls, e = .returned v ∧ ls.map Lix.pur = b ∧ ls.length ≤ 16 ∧ Grow elLix 56 w.heap.size w' v ls ∧ Ahead w' p ao cap L c f r ∧ Only (fun k => k = p) w w'
theorem bodyPost_bad {w w' : World} {p : Nat} {ao : Option Addr} {cap : Nat} {L : List Tok} {c f ec eo : Int} {e : Ending} (h : BodyPost w p ao cap L c f (.bad ec eo) e w') : e = PEnd ec eo ∧ Only (fun k => k = p) w w' := h
theorem bodyPost_ok {w w' : World} {p : Nat} {ao : Option Addr} {cap : Nat} {L : List Tok} {c f : Int} {x : List PLit} {r : List Tok} {e : Ending} (h : BodyPost w p ao cap L c f (.ok x r) e w') : ∃ v ls, e = .returned v ∧ ls.map Lix.pur = x ∧ ls.length ≤ 16 ∧ Grow elLix 56 w.heap.size w' v ls ∧ Ahead w' p ao cap L c f r ∧ Only (fun k => k = p) w w' := h

set_option maxHeartbeats 4000000 in
set_option maxRecDepth 100000 in
theorem body_any {w : World} {p : Nat} {ao : Option Addr} {cap : Nat} {L : List Tok} {c f : Int} {R : List Tok} (h : Ahead w p ao cap L c f R) :
    Calls Tryz.prog 61 #[.pointer (some ⟨p, 0, none⟩)] w (BodyPost w p ao cap L c f (bodyP c f R)) := by
  obtain ⟨res, hres⟩ : ∃ res, bodyP c f R = res := ⟨_, rfl⟩
  rw [hres]
  have HRes0 : Hid (bodyF c f (R.length + 1) [] R = res) := hres
  obtain ⟨Post, hPost⟩ : ∃ Post : Ending → World → Prop, Post = BodyPost w p ao cap L c f res := ⟨_, rfl⟩
  rw [← hPost]
  have PB : Hid (∀ ec eo w', res = .bad ec eo → Only (fun k => k = p) w w' → Post (PEnd ec eo) w') := fun ec eo w' hr ho => by
    rw [hPost, hr]; exact ⟨rfl, ho⟩
  have PG : Hid (∀ b r' v ls w', res = .ok b r' → ls.map Lix.pur = b → ls.length ≤ 16 → Grow elLix 56 w.heap.size w' v ls → Ahead w' p ao cap L c f r' → Only (fun k => k = p) w w' → Post (.returned v) w') := fun b r' v ls w' hr h1 h2 h3 h4 h5 => by
    rw [hPost, hr]; exact ⟨v, ls, rfl, h1, h2, h3, h4, h5⟩
  have HC0 := hide (Coll3.start (E := elLix) (e := 56) h)
  have HLt := hide h.lt
  clear hPost h hres
  go_enter Tryz.func61, Tryz.ntmps61
  go_wp2
  go_loopw [3] (fun v wr => ∃ (n : Nat) (ls : List Lix) (R1 : List Tok), ls.length ≤ 16 ∧ R1.length < n ∧ Hid (Coll3 elLix 56 w wr p ao cap L c f R1 w.heap.size v ls) ∧ Hid (bodyF c f n (ls.map Lix.pur) R1 = res)) (fun _ wr => 70000 - (intOf ((wr.cell? ⟨p, 4, none⟩).getD undef)).toNat)
  case atStart => exact ⟨R.length + 1, [], R, by simp, by omega, HC0, HRes0⟩
  case round =>
    clear HC0 HRes0
    obtain ⟨n, ls, R1, hls, hn, HC, HRes⟩ := hrel
    obtain ⟨n, rfl⟩ : ∃ m, n = m + 1 := ⟨n - 1, by omega⟩
    obtain ⟨va, vc, rfl, -⟩ := HC.out.gr.shape
    cases hT : takeP c f [1, 10, 2, 3, 4] R1 with
    | bad ec eo =>
      have HT : Hid (∀ (W : World) (g : Nat), W.heap.size = g → Ahead W p ao cap L c f R1 → Calls Tryz.prog 51 #[.pointer (some ⟨p, 0, none⟩), .slice (some ⟨g, 0, none⟩) 5 5] (W.alloc (.cells #[.int .i64 1, .int .i64 10, .int .i64 2, .int .i64 3, .int .i64 4] 3)) fun e w' => e = PEnd ec eo ∧ Below W.heap.size W w') := fun W g hg ha => hg ▸ take_lit_fail [1, 10, 2, 3, 4] ha (by decide) hT
      have HX : Hid (res = .bad ec eo) := by show _ = _; rw [← HRes.out]; exact body_bad1 hT
      clear hT
      go_wp2_with (go_at_call 51; refine (HT.out _ _ rfl HC.out.ah).mono ?_; rintro e w1 ⟨rfl, hb1⟩)
      exact ⟨rfl, PB.out _ _ _ HX.out (HC.out.below hb1).end_⟩
    | ok t r1 =>
      have HT : Hid (∀ (W : World) (g : Nat), W.heap.size = g → Ahead W p ao cap L c f R1 → Calls Tryz.prog 51 #[.pointer (some ⟨p, 0, none⟩), .slice (some ⟨g, 0, none⟩) 5 5] (W.alloc (.cells #[.int .i64 1, .int .i64 10, .int .i64 2, .int .i64 3, .int .i64 4] 3)) fun e w' => e = .returned (tokV t) ∧ Ahead w' p ao cap L c f r1 ∧ Only (fun b => b = p) W w') := fun W g hg ha => hg ▸ take_lit_good [1, 10, 2, 3, 4] ha (by decide) hT
      have htg : t.good := HC.out.ah.good t (by rw [(take_eq hT).1]; exact List.mem_cons_self)
      have l1 := take_len hT
      unfold tokV at HT
      by_cases h16 : ls.length = 16
      · have HLm := hide (limit_eq (ls.length : Int) 16 23 (t.off : Int) (h := by omega))
        have HX : Hid (res = .bad 23 (t.off : Int)) := by show _ = _; rw [← HRes.out]; exact body_lim hT (by rw [List.length_map]; exact h16)
        clear hT
        clear h16 hls
        go_wp2_with (first
          | (go_at_call 51; refine (HT.out _ _ rfl HC.out.ah).mono ?_; rintro e w1 ⟨rfl, ha1, ho1⟩; have HC1 := hide (HC.out.move ho1 ha1); clear ha1 ho1)
          | (go_at_call 53; refine (HLm.out _).mono ?_; rintro e w2 ⟨rfl, hw⟩; have hw := hw.symm; subst hw))
        exact ⟨rfl, PB.out _ _ _ HX.out (HC1.out.below (belowA _ _)).end_⟩
      · have HLm := hide (limit_ok (ls.length : Int) 16 23 (t.off : Int) (h := by omega))
        have hls16 : ls.length < 16 := by omega
        have HLi0 := fun (W : World) (ha : Ahead W p ao cap L c f r1) => literal_any t ha htg
        cases hrl : litP c f t r1 with
        | bad ec eo =>
          rw [hrl] at HLi0
          have HLi := hide HLi0
          have HX : Hid (res = .bad ec eo) := by show _ = _; rw [← HRes.out]; exact body_lit hT (by rw [List.length_map]; exact h16) hrl
          clear HLi0 hT hrl h16
          unfold tokV at HLi
          go_wp2_with (first
            | (go_at_call 51; refine (HT.out _ _ rfl HC.out.ah).mono ?_; rintro e w1 ⟨rfl, ha1, ho1⟩; have HC1 := hide ((HC.out.move ho1 ha1).below (belowA w1 (.cells #[.int .i64 t.k, .string t.t, .int .i64 t.n, .int .i64 t.op, .int .i64 (t.off : Int), .int .i64 (t.en : Int)] 116))); clear ha1 ho1 HT)
            | (go_at_call 53; refine (HLm.out _).mono ?_; rintro e w2 ⟨⟨v2, rfl⟩, hw⟩; have hw := hw.symm; subst hw)
            | (go_at_call 78; refine (HLi.out _ HC1.out.ah).mono ?_; intro e w3 hq; obtain ⟨rfl, ho3⟩ := litPost_bad hq; clear hq))
          exact ⟨rfl, PB.out _ _ _ HX.out (HC1.out.endM ho3)⟩
        | ok x r2 =>
          rw [hrl] at HLi0
          have HLi := hide HLi0
          unfold tokV at HLi
          clear HLi0
          have l2 := lit_len hrl
          cases hU0 : takeP c f [7, 8] r2 with
          | bad ec eo =>
            have HU : Hid (∀ (W : World) (g : Nat), W.heap.size = g → Ahead W p ao cap L c f r2 → Calls Tryz.prog 51 #[.pointer (some ⟨p, 0, none⟩), .slice (some ⟨g, 0, none⟩) 2 2] (W.alloc (.cells #[.int .i64 7, .int .i64 8] 3)) fun e w' => e = PEnd ec eo ∧ Below W.heap.size W w') := fun W g hg ha => hg ▸ take_lit_fail [7, 8] ha (by decide) hU0
            have HX : Hid (res = .bad ec eo) := by show _ = _; rw [← HRes.out]; exact body_sep hT (by rw [List.length_map]; exact h16) hrl hU0
            clear hT hrl hU0 h16
            go_wp2_with (first
              | (go_at_call 51; refine (HT.out _ _ rfl HC.out.ah).mono ?_; rintro e w1 ⟨rfl, ha1, ho1⟩; have HC1 := hide ((HC.out.move ho1 ha1).below (belowA w1 (.cells #[.int .i64 t.k, .string t.t, .int .i64 t.n, .int .i64 t.op, .int .i64 (t.off : Int), .int .i64 (t.en : Int)] 116))); clear ha1 ho1 HT)
              | (go_at_call 53; refine (HLm.out _).mono ?_; rintro e w2 ⟨⟨v2, rfl⟩, hw⟩; have hw := hw.symm; subst hw)
              | (go_at_call 78; refine (HLi.out _ HC1.out.ah).mono ?_; intro e w3 hq; obtain ⟨⟨xk, ⟨ap, av, aoff, ats⟩, xop, xl, xr, xoff⟩, rfl, hpur, hok, ha3, ho3⟩ := litPost_ok hq; clear hq; obtain ⟨xa, xc, rfl, -⟩ := (show Lst elTrm _ _ av ats from hok.2.1.2.2).shape; have HPu := hide hpur; have HOk := hide (HC1.out.gr.behind HC1.out.hi elLix hok); have HC3 := hide (HC1.out.move ho3 ha3); have HC4 := hide (HC3.out.below (belowA w3 (.cells #[.int .i64 xk, .string ap, .slice xa ats.length xc, .int .i64 aoff, .int .i64 xop, .int .i64 xl.k, .int .i64 xl.n, .string xl.s, .int .i64 xl.off, .int .i64 xr.k, .int .i64 xr.n, .string xr.s, .int .i64 xr.off, .int .i64 xoff] 56))); have HOk4 := hide (elLix.move HOk.out fun b hlt hF => ⟨hF, (belowA w3 (.cells #[.int .i64 xk, .string ap, .slice xa ats.length xc, .int .i64 aoff, .int .i64 xop, .int .i64 xl.k, .int .i64 xl.n, .string xl.s, .int .i64 xl.off, .int .i64 xr.k, .int .i64 xr.n, .string xr.s, .int .i64 xr.off, .int .i64 xoff] 56)).block b hlt⟩); clear hpur hok ha3 ho3 HOk HLi; unfold Lix.val)
              | (at_builtin; obtain ⟨i0, hi0, hz0, hz1, hz2⟩ := info_parts Tryz.infoLit; refine wpList_push (w0 := w3.alloc (.cells #[.int .i64 xk, .string ap, .slice xa ats.length xc, .int .i64 aoff, .int .i64 xop, .int .i64 xl.k, .int .i64 xl.n, .string xl.s, .int .i64 xl.off, .int .i64 xr.k, .int .i64 xr.n, .string xr.s, .int .i64 xr.off, .int .i64 xoff] 56)) elLix rfl _ _ 57 rfl w.heap.size 56 i0 _ 152 Tryz.underlying57 hi0 hz0 hz1 hz2 rfl (by decide) _ ls ls.length rfl rfl HC4.out.gr ⟨xk, ⟨ap, .slice xa ats.length xc, aoff, ats⟩, xop, xl, xr, xoff⟩ w3.heap.size 1 rfl (fun j u hu => new_cells (cs := #[.int .i64 xk, .string ap, .slice xa ats.length xc, .int .i64 aoff, .int .i64 xop, .int .i64 xl.k, .int .i64 xl.n, .string xl.s, .int .i64 xl.off, .int .i64 xr.k, .int .i64 xr.n, .string xr.s, .int .i64 xr.off, .int .i64 xoff]) j u hu) HOk4.out (by omega) (Below.refl _ _) HC4.out.hi ?_; intro g cap' w5 HG5 HB5 HGr; clear HB5 hi0 hz0 hz1 hz2; have HC5 := hide (HC4.out.grown HGr.out HG5.out); clear HG5 HGr HC4 HOk4)
              | (go_at_call 51; refine (HU.out _ _ rfl HC5.out.ah).mono ?_; rintro e w6 ⟨rfl, hb6⟩))
            exact ⟨rfl, PB.out _ _ _ HX.out (HC5.out.below hb6).end_⟩
          | ok s r3 =>
            have HU : Hid (∀ (W : World) (g : Nat), W.heap.size = g → Ahead W p ao cap L c f r2 → Calls Tryz.prog 51 #[.pointer (some ⟨p, 0, none⟩), .slice (some ⟨g, 0, none⟩) 2 2] (W.alloc (.cells #[.int .i64 7, .int .i64 8] 3)) fun e w' => e = .returned (tokV s) ∧ Ahead w' p ao cap L c f r3 ∧ Only (fun b => b = p) W w') := fun W g hg ha => hg ▸ take_lit_good [7, 8] ha (by decide) hU0
            have hfd2 := tok_kind (.int .i64 s.k) (.string s.t) (.int .i64 s.n) (.int .i64 s.op) (.int .i64 (s.off : Int)) (.int .i64 (s.en : Int))
            have l3 := take_len hU0
            unfold tokV at HU
            by_cases h8 : s.k = 8
            · have e8 : (s.k == 8) = true := by simpa using h8
              have HX : Hid (res = .ok (ls.map Lix.pur ++ [x]) r3) := by show _ = _; rw [← HRes.out]; exact body_end hT (by rw [List.length_map]; exact h16) hrl hU0 h8
              clear hT hrl hU0 h16 h8
              go_wp2_with (first
                | (go_at_call 51; refine (HT.out _ _ rfl HC.out.ah).mono ?_; rintro e w1 ⟨rfl, ha1, ho1⟩; have HC1 := hide ((HC.out.move ho1 ha1).below (belowA w1 (.cells #[.int .i64 t.k, .string t.t, .int .i64 t.n, .int .i64 t.op, .int .i64 (t.off : Int), .int .i64 (t.en : Int)] 116))); clear ha1 ho1 HT)
                | (go_at_call 53; refine (HLm.out _).mono ?_; rintro e w2 ⟨⟨v2, rfl⟩, hw⟩; have hw := hw.symm; subst hw)
                | (go_at_call 78; refine (HLi.out _ HC1.out.ah).mono ?_; intro e w3 hq; obtain ⟨⟨xk, ⟨ap, av, aoff, ats⟩, xop, xl, xr, xoff⟩, rfl, hpur, hok, ha3, ho3⟩ := litPost_ok hq; clear hq; obtain ⟨xa, xc, rfl, -⟩ := (show Lst elTrm _ _ av ats from hok.2.1.2.2).shape; have HPu := hide hpur; have HOk := hide (HC1.out.gr.behind HC1.out.hi elLix hok); have HC3 := hide (HC1.out.move ho3 ha3); have HC4 := hide (HC3.out.below (belowA w3 (.cells #[.int .i64 xk, .string ap, .slice xa ats.length xc, .int .i64 aoff, .int .i64 xop, .int .i64 xl.k, .int .i64 xl.n, .string xl.s, .int .i64 xl.off, .int .i64 xr.k, .int .i64 xr.n, .string xr.s, .int .i64 xr.off, .int .i64 xoff] 56))); have HOk4 := hide (elLix.move HOk.out fun b hlt hF => ⟨hF, (belowA w3 (.cells #[.int .i64 xk, .string ap, .slice xa ats.length xc, .int .i64 aoff, .int .i64 xop, .int .i64 xl.k, .int .i64 xl.n, .string xl.s, .int .i64 xl.off, .int .i64 xr.k, .int .i64 xr.n, .string xr.s, .int .i64 xr.off, .int .i64 xoff] 56)).block b hlt⟩); clear hpur hok ha3 ho3 HOk HLi; unfold Lix.val)
                | (at_builtin; obtain ⟨i0, hi0, hz0, hz1, hz2⟩ := info_parts Tryz.infoLit; refine wpList_push (w0 := w3.alloc (.cells #[.int .i64 xk, .string ap, .slice xa ats.length xc, .int .i64 aoff, .int .i64 xop, .int .i64 xl.k, .int .i64 xl.n, .string xl.s, .int .i64 xl.off, .int .i64 xr.k, .int .i64 xr.n, .string xr.s, .int .i64 xr.off, .int .i64 xoff] 56)) elLix rfl _ _ 57 rfl w.heap.size 56 i0 _ 152 Tryz.underlying57 hi0 hz0 hz1 hz2 rfl (by decide) _ ls ls.length rfl rfl HC4.out.gr ⟨xk, ⟨ap, .slice xa ats.length xc, aoff, ats⟩, xop, xl, xr, xoff⟩ w3.heap.size 1 rfl (fun j u hu => new_cells (cs := #[.int .i64 xk, .string ap, .slice xa ats.length xc, .int .i64 aoff, .int .i64 xop, .int .i64 xl.k, .int .i64 xl.n, .string xl.s, .int .i64 xl.off, .int .i64 xr.k, .int .i64 xr.n, .string xr.s, .int .i64 xr.off, .int .i64 xoff]) j u hu) HOk4.out (by omega) (Below.refl _ _) HC4.out.hi ?_; intro g cap' w5 HG5 HB5 HGr; clear HB5 hi0 hz0 hz1 hz2; have HC5 := hide (HC4.out.grown HGr.out HG5.out); clear HG5 HGr HC4 HOk4)
                | (go_at_call 51; refine (HU.out _ _ rfl HC5.out.ah).mono ?_; rintro e w6 ⟨rfl, ha6, ho6⟩; have HC6 := hide (HC5.out.move ho6 ha6); clear ha6 ho6))
              exact PG.out _ _ _ _ _ HX.out (by rw [List.map_append, List.map_singleton, HPu.out]) (by simp; omega) HC6.out.gr HC6.out.ah HC6.out.end_
            · have e8 : (s.k == 8) = false := by simpa using h8
              have HX : Hid (bodyF c f n (ls.map Lix.pur ++ [x]) r3 = res) := by show _ = _; rw [← HRes.out]; exact (body_more hT (by rw [List.length_map]; exact h16) hrl hU0 h8).symm
              clear hT hrl hU0 h16 h8
              have HLn : Hid (r3.length < R1.length ∧ r3.length < n) := ⟨by omega, by omega⟩
              obtain ⟨ix, isz⟩ := HC.out.ah.index
              have HIx := hide (And.intro ix isz)
              clear l1 l2 l3 ix isz
              go_wp2_with (first
                | (go_at_call 51; refine (HT.out _ _ rfl HC.out.ah).mono ?_; rintro e w1 ⟨rfl, ha1, ho1⟩; have HC1 := hide ((HC.out.move ho1 ha1).below (belowA w1 (.cells #[.int .i64 t.k, .string t.t, .int .i64 t.n, .int .i64 t.op, .int .i64 (t.off : Int), .int .i64 (t.en : Int)] 116))); clear ha1 ho1 HT)
                | (go_at_call 53; refine (HLm.out _).mono ?_; rintro e w2 ⟨⟨v2, rfl⟩, hw⟩; have hw := hw.symm; subst hw)
                | (go_at_call 78; refine (HLi.out _ HC1.out.ah).mono ?_; intro e w3 hq; obtain ⟨⟨xk, ⟨ap, av, aoff, ats⟩, xop, xl, xr, xoff⟩, rfl, hpur, hok, ha3, ho3⟩ := litPost_ok hq; clear hq; obtain ⟨xa, xc, rfl, -⟩ := (show Lst elTrm _ _ av ats from hok.2.1.2.2).shape; have HPu := hide hpur; have HOk := hide (HC1.out.gr.behind HC1.out.hi elLix hok); have HC3 := hide (HC1.out.move ho3 ha3); have HC4 := hide (HC3.out.below (belowA w3 (.cells #[.int .i64 xk, .string ap, .slice xa ats.length xc, .int .i64 aoff, .int .i64 xop, .int .i64 xl.k, .int .i64 xl.n, .string xl.s, .int .i64 xl.off, .int .i64 xr.k, .int .i64 xr.n, .string xr.s, .int .i64 xr.off, .int .i64 xoff] 56))); have HOk4 := hide (elLix.move HOk.out fun b hlt hF => ⟨hF, (belowA w3 (.cells #[.int .i64 xk, .string ap, .slice xa ats.length xc, .int .i64 aoff, .int .i64 xop, .int .i64 xl.k, .int .i64 xl.n, .string xl.s, .int .i64 xl.off, .int .i64 xr.k, .int .i64 xr.n, .string xr.s, .int .i64 xr.off, .int .i64 xoff] 56)).block b hlt⟩); clear hpur hok ha3 ho3 HOk HLi; unfold Lix.val)
                | (at_builtin; obtain ⟨i0, hi0, hz0, hz1, hz2⟩ := info_parts Tryz.infoLit; refine wpList_push (w0 := w3.alloc (.cells #[.int .i64 xk, .string ap, .slice xa ats.length xc, .int .i64 aoff, .int .i64 xop, .int .i64 xl.k, .int .i64 xl.n, .string xl.s, .int .i64 xl.off, .int .i64 xr.k, .int .i64 xr.n, .string xr.s, .int .i64 xr.off, .int .i64 xoff] 56)) elLix rfl _ _ 57 rfl w.heap.size 56 i0 _ 152 Tryz.underlying57 hi0 hz0 hz1 hz2 rfl (by decide) _ ls ls.length rfl rfl HC4.out.gr ⟨xk, ⟨ap, .slice xa ats.length xc, aoff, ats⟩, xop, xl, xr, xoff⟩ w3.heap.size 1 rfl (fun j u hu => new_cells (cs := #[.int .i64 xk, .string ap, .slice xa ats.length xc, .int .i64 aoff, .int .i64 xop, .int .i64 xl.k, .int .i64 xl.n, .string xl.s, .int .i64 xl.off, .int .i64 xr.k, .int .i64 xr.n, .string xr.s, .int .i64 xr.off, .int .i64 xoff]) j u hu) HOk4.out (by omega) (Below.refl _ _) HC4.out.hi ?_; intro g cap' w5 HG5 HB5 HGr; clear HB5 hi0 hz0 hz1 hz2; have HC5 := hide (HC4.out.grown HGr.out HG5.out); clear HG5 HGr HC4 HOk4)
                | (go_at_call 51; refine (HU.out _ _ rfl HC5.out.ah).mono ?_; rintro e w6 ⟨rfl, ha6, ho6⟩; have HC6 := hide (HC5.out.move ho6 ha6); clear ha6 ho6))
              go_roundw
              case rel => exact ⟨n, ls ++ [⟨xk, ⟨ap, .slice xa ats.length xc, aoff, ats⟩, xop, xl, xr, xoff⟩], r3, by simp; omega, HLn.out.2, HC6, by show _ = _; rw [List.map_append, List.map_singleton, HPu.out]; exact HX.out⟩
              case measure =>
                obtain ⟨jx, -⟩ := HC6.out.ah.index
                have h1 := HLn.out
                have h2 := HIx.out
                omega
end Go.Proofs.YtchhophblejmeaaGreatDoor

namespace Go.Proofs.YtchhophblejmeaaGreatDoor
set_option linter.unusedSimpArgs false
set_option linter.unusedVariables false
open Go.RowKit

def Clx.pur (x : Clx) : PCls := ⟨x.h.pur, x.ls.map Lix.pur⟩
def Clx.val (c : Clx) : Value := .agg #[.string c.h.p, c.h.v, .int .i64 c.h.off, c.v]
def ClsPost (w : World) (p : Nat) (ao : Option Addr) (cap : Nat) (L : List Tok) (c f : Int) (res : PR PCls) (e : Ending) (w' : World) : Prop :=
  match res with
  | .bad ec eo => e = PEnd ec eo ∧ Only (fun k => k = p) w w'
  | .ok x r => ∃ a : Clx, e = .returned a.val ∧ a.pur = x ∧ elClx.ok w' (fun b => w.heap.size ≤ b) a ∧ Ahead w' p ao cap L c f r ∧ Only (fun k => k = p) w w'
theorem clsPost_bad {w w' : World} {p : Nat} {ao : Option Addr} {cap : Nat} {L : List Tok} {c f ec eo : Int} {e : Ending} (h : ClsPost w p ao cap L c f (.bad ec eo) e w') : e = PEnd ec eo ∧ Only (fun k => k = p) w w' := h
theorem clsPost_ok {w w' : World} {p : Nat} {ao : Option Addr} {cap : Nat} {L : List Tok} {c f : Int} {x : PCls} {r : List Tok} {e : Ending} (h : ClsPost w p ao cap L c f (.ok x r) e w') : ∃ a : Clx, e = .returned a.val ∧ a.pur = x ∧ elClx.ok w' (fun b => w.heap.size ≤ b) a ∧ Ahead w' p ao cap L c f r ∧ Only (fun k => k = p) w w' := h

theorem boxC_cells {V : World} {b : Nat} {u0 u1 u2 u3 : Value} (h : V.heap[b]? = some (.cells #[u0, u1, u2, u3] 88 (0, 0))) : (V.cell? ⟨b, 0, none⟩ = some u0 ∧ V.cell? ⟨b, 1, none⟩ = some u1 ∧ V.cell? ⟨b, 2, none⟩ = some u2 ∧ V.cell? ⟨b, 3, none⟩ = some u3) ∧ (V.frozen? ⟨b, 0, none⟩ = false ∧ V.frozen? ⟨b, 1, none⟩ = false ∧ V.frozen? ⟨b, 2, none⟩ = false ∧ V.frozen? ⟨b, 3, none⟩ = false) := by
  refine ⟨⟨?_, ?_, ?_, ?_⟩, ⟨?_, ?_, ?_, ?_⟩⟩ <;> simp [World.cell?, World.frozen?, h]
theorem boxC_put {V : World} {b : Nat} {u0 u1 u2 u3 : Value} (h : V.heap[b]? = some (.cells #[u0, u1, u2, u3] 88 (0, 0))) (x0 x1 x2 x3 : Value) :
    ((((V.setCell ⟨b, 0, none⟩ x0).setCell ⟨b, 1, none⟩ x1).setCell ⟨b, 2, none⟩ x2).setCell ⟨b, 3, none⟩ x3).heap[b]? = some (.cells #[x0, x1, x2, x3] 88 (0, 0)) := by
  simp [World.setCell, Array.getElem?_modify, h]
theorem boxC_only {V0 V : World} {S : Nat → Prop} (h : Only S V0 V) (b : Nat) (hb : S b) (x0 x1 x2 x3 : Value) : Only S V0 ((((V.setCell ⟨b, 0, none⟩ x0).setCell ⟨b, 1, none⟩ x1).setCell ⟨b, 2, none⟩ x2).setCell ⟨b, 3, none⟩ x3) :=
  (((h.setCell (p := ⟨b, 0, none⟩) hb _).setCell (p := ⟨b, 1, none⟩) hb _).setCell (p := ⟨b, 2, none⟩) hb _).setCell (p := ⟨b, 3, none⟩) hb _
theorem clsRes (W : World) (b : Nat) (u0 u1 u2 u3 : Value) (tmps : Array Value) (ht : tmps[4]? = some (.pointer (some ⟨b, 0, none⟩))) (hb : W.heap[b]? = some (.cells #[u0, u1, u2, u3] 88 (0, 0))) :
    (results Tryz.f55 tmps).run Tryz.prog W = .ok (.agg #[u0, u1, u2, u3]) W := by
  obtain ⟨⟨c0, c1, c2, c3⟩, -⟩ := boxC_cells hb
  simp [results, Tryz.results55, go_sem, ht, c0, c1, c2, c3]
theorem cls_fin {w W W' : World} {p : Nat} {ao : Option Addr} {cap : Nat} {L : List Tok} {c f : Int} {R0 r : List Tok} {x y : Obj} (h0 : Ahead w p ao cap L c f R0) (hA : Ahead W p ao cap L c f r) (hB : TwoBox w W p x y) {b5 : Nat} (hb5 : w.heap.size + 2 ≤ b5) (a : Clx) (z : PCls) (hz : a.pur = z) (hok : elClx.ok W (fun k => w.heap.size + 2 ≤ k ∧ k ≠ b5) a) (ho : Only (fun k => k = b5 ∨ k = w.heap.size + 1) W W') :
    ClsPost w p ao cap L c f (.ok z r) (.returned a.val) W' :=
  ⟨a, rfl, hz, elClx.move hok fun k hk hF => ⟨by omega, ho.block k hk (by omega)⟩, h0.box hA (ho.mono fun k _ (e : k = b5 ∨ k = w.heap.size + 1) => by omega), only_drop (hB.on.trans (ho.mono fun k _ (e : k = b5 ∨ k = w.heap.size + 1) => .inr (by omega)))⟩
/-- A third box, made behind the two. -/
theorem box_moved {W W' : World} {p b : Nat} {x : Obj} (h : W.heap[b]? = some x) (hp : p ≠ b) (ho : Only (fun k => k = p) W W') : W'.heap[b]? = some x := by
  rw [ho.block _ (Array.getElem?_eq_some_iff.1 h).1 (by omega)]; exact h

set_option maxHeartbeats 4000000 in
set_option maxRecDepth 100000 in
theorem clause_any {w : World} {p : Nat} {ao : Option Addr} {cap : Nat} {L : List Tok} {c f : Int} {R : List Tok} (name : Tok) (h : Ahead w p ao cap L c f R) (hname : name.good) :
    Calls Tryz.prog 55 #[.pointer (some ⟨p, 0, none⟩), tokV name] w (ClsPost w p ao cap L c f (clauseP c f name R)) := by
  have HAt0 := fun (W : World) (ha : Ahead W p ao cap L c f R) => atom_any name ha hname
  have H0 := hide h
  have hp := h.lt
  have HB := hide (TwoBox.start (w := w) hp (.cells #[.int .i64 name.k, .string name.t, .int .i64 name.n, .int .i64 name.op, .int .i64 (name.off : Int), .int .i64 (name.en : Int)] 116) (.cells #[.string ⟨#[]⟩, .slice none 0 0, .int .i64 0, .slice none 0 0] 88))
  have HA0 := hide (h.kept (below2a w (.cells #[.int .i64 name.k, .string name.t, .int .i64 name.n, .int .i64 name.op, .int .i64 (name.off : Int), .int .i64 (name.en : Int)] 116) (.cells #[.string ⟨#[]⟩, .slice none 0 0, .int .i64 0, .slice none 0 0] 88)))
  unfold tokV at HAt0 ⊢
  clear h
  cases hA : atomP c f termKs name R with
  | bad ec eo =>
    rw [show clauseP c f name R = .bad ec eo from by unfold clauseP; rw [hA]]
    rw [hA] at HAt0
    have HAt := hide HAt0
    clear HAt0 hA
    unfold ClsPost
    go_enter Tryz.func55, Tryz.ntmps55
    go_wp2_with (go_at_call 73; refine (HAt.out _ HA0.out).mono ?_; intro e w1 hq; obtain ⟨rfl, ho1⟩ := atmPost_bad hq; clear hq)
    exact ⟨rfl, rfl, only_drop (HB.out.move ho1).on⟩
  | ok a r1 =>
    rw [hA] at HAt0
    have HAt := hide HAt0
    clear HAt0
    cases hT : takeP c f [8, 9] r1 with
    | bad ec eo =>
      have HT : Hid (∀ (W : World) (g : Nat), W.heap.size = g → Ahead W p ao cap L c f r1 → Calls Tryz.prog 51 #[.pointer (some ⟨p, 0, none⟩), .slice (some ⟨g, 0, none⟩) 2 2] (W.alloc (.cells #[.int .i64 8, .int .i64 9] 3)) fun e w' => e = PEnd ec eo ∧ Below W.heap.size W w') := fun W g hg ha => hg ▸ take_lit_fail [8, 9] ha (by decide) hT
      rw [show clauseP c f name R = .bad ec eo from by unfold clauseP; rw [hA]; simp only; rw [hT]]
      clear hA hT
      unfold ClsPost
      go_enter Tryz.func55, Tryz.ntmps55
      go_wp2_with (first
        | (go_at_call 73; refine (HAt.out _ HA0.out).mono ?_; intro e w1 hq; obtain ⟨⟨ap, av, aoff, ats⟩, rfl, hpur, hok, ha1, ho1⟩ := atmPost_ok hq; clear hq; obtain ⟨xa, xc, rfl, -⟩ := (show Lst elTrm _ _ av ats from hok.2.2).shape; have HB1 := hide ((HB.out.move ho1).below (belowA w1 (.cells #[.string ap, .slice xa ats.length xc, .int .i64 aoff, .slice none 0 0] 88))); have HA1 := hide (ha1.kept (belowA w1 (.cells #[.string ap, .slice xa ats.length xc, .int .i64 aoff, .slice none 0 0] 88))); have HPu := hide hpur; have Hs1 := hide (Nat.le_trans (by simp) ho1.size : w.heap.size + 2 ≤ w1.heap.size); have HOk1 := hide (elAtx.move hok fun k hk hF => (⟨⟨by simp at hF; omega, by omega⟩, (belowA w1 (.cells #[.string ap, .slice xa ats.length xc, .int .i64 aoff, .slice none 0 0] 88)).block k hk⟩ : (w.heap.size + 2 ≤ k ∧ k ≠ w1.heap.size) ∧ _)); have HX1 := hide (heap_alloc_new w1 (.cells #[.string ap, .slice xa ats.length xc, .int .i64 aoff, .slice none 0 0] 88)); clear ha1 ho1 hpur hok HAt; unfold Atx.val)
        | (go_at_call 51; refine (HT.out _ _ (by simp) HA1.out).mono ?_; rintro e w2 ⟨rfl, hb2⟩))
      exact ⟨rfl, rfl, only_drop (HB1.out.below hb2).on⟩
    | ok s r2 =>
      have HT : Hid (∀ (W : World) (g : Nat), W.heap.size = g → Ahead W p ao cap L c f r1 → Calls Tryz.prog 51 #[.pointer (some ⟨p, 0, none⟩), .slice (some ⟨g, 0, none⟩) 2 2] (W.alloc (.cells #[.int .i64 8, .int .i64 9] 3)) fun e w' => e = .returned (tokV s) ∧ Ahead w' p ao cap L c f r2 ∧ Only (fun b => b = p) W w') := fun W g hg ha => hg ▸ take_lit_good [8, 9] ha (by decide) hT
      have hfd := tok_kind (.int .i64 s.k) (.string s.t) (.int .i64 s.n) (.int .i64 s.op) (.int .i64 (s.off : Int)) (.int .i64 (s.en : Int))
      unfold tokV at HT
      by_cases h9 : s.k = 9
      · have e9 : (s.k == 9) = true := by simpa using h9
        have HBo0 := fun (W : World) (ha : Ahead W p ao cap L c f r2) => body_any ha
        cases hB : bodyP c f r2 with
        | bad ec eo =>
          rw [hB] at HBo0
          have HBo := hide HBo0
          rw [show clauseP c f name R = .bad ec eo from by unfold clauseP; rw [hA]; simp only; rw [hT]; simp only; rw [if_pos h9, hB]]
          clear hA hT hB HBo0 h9
          unfold ClsPost
          go_enter Tryz.func55, Tryz.ntmps55
          go_wp2_with (first
            | (go_at_call 73; refine (HAt.out _ HA0.out).mono ?_; intro e w1 hq; obtain ⟨⟨ap, av, aoff, ats⟩, rfl, hpur, hok, ha1, ho1⟩ := atmPost_ok hq; clear hq; obtain ⟨xa, xc, rfl, -⟩ := (show Lst elTrm _ _ av ats from hok.2.2).shape; have HB1 := hide ((HB.out.move ho1).below (belowA w1 (.cells #[.string ap, .slice xa ats.length xc, .int .i64 aoff, .slice none 0 0] 88))); have HA1 := hide (ha1.kept (belowA w1 (.cells #[.string ap, .slice xa ats.length xc, .int .i64 aoff, .slice none 0 0] 88))); have HPu := hide hpur; have Hs1 := hide (Nat.le_trans (by simp) ho1.size : w.heap.size + 2 ≤ w1.heap.size); have HOk1 := hide (elAtx.move hok fun k hk hF => (⟨⟨by simp at hF; omega, by omega⟩, (belowA w1 (.cells #[.string ap, .slice xa ats.length xc, .int .i64 aoff, .slice none 0 0] 88)).block k hk⟩ : (w.heap.size + 2 ≤ k ∧ k ≠ w1.heap.size) ∧ _)); have HX1 := hide (heap_alloc_new w1 (.cells #[.string ap, .slice xa ats.length xc, .int .i64 aoff, .slice none 0 0] 88)); clear ha1 ho1 hpur hok HAt; unfold Atx.val)
            | (go_at_call 51; refine (HT.out _ _ (by simp) HA1.out).mono ?_; rintro e w2 ⟨rfl, ha2, ho2⟩; have HA2 := hide ha2; have HB2 := hide (HB1.out.move ho2); have HX2 := hide (box_moved HX1.out (by have := HB1.out.pl; have := Hs1.out; omega) ho2); have HOk2 := hide (elAtx.move HOk1.out fun k hk hF => ⟨hF, ho2.block k hk (by have := HB1.out.pl; omega)⟩); clear ha2 ho2)
            | (go_at_call 61; refine (HBo.out _ HA2.out).mono ?_; intro e w3 hq; obtain ⟨rfl, ho3⟩ := bodyPost_bad hq; clear hq))
          exact ⟨rfl, rfl, only_drop (HB2.out.move ho3).on⟩
        | ok b r3 =>
          rw [hB] at HBo0
          have HBo := hide HBo0
          rw [show clauseP c f name R = .ok ⟨a, b⟩ r3 from by unfold clauseP; rw [hA]; simp only; rw [hT]; simp only; rw [if_pos h9, hB]]
          clear hA hT hB HBo0 h9
          unfold ClsPost
          go_enter Tryz.func55, Tryz.ntmps55
          go_wp2_with (first
            | (go_at_call 73; refine (HAt.out _ HA0.out).mono ?_; intro e w1 hq; obtain ⟨⟨ap, av, aoff, ats⟩, rfl, hpur, hok, ha1, ho1⟩ := atmPost_ok hq; clear hq; obtain ⟨xa, xc, rfl, -⟩ := (show Lst elTrm _ _ av ats from hok.2.2).shape; have HB1 := hide ((HB.out.move ho1).below (belowA w1 (.cells #[.string ap, .slice xa ats.length xc, .int .i64 aoff, .slice none 0 0] 88))); have HA1 := hide (ha1.kept (belowA w1 (.cells #[.string ap, .slice xa ats.length xc, .int .i64 aoff, .slice none 0 0] 88))); have HPu := hide hpur; have Hs1 := hide (Nat.le_trans (by simp) ho1.size : w.heap.size + 2 ≤ w1.heap.size); have HOk1 := hide (elAtx.move hok fun k hk hF => (⟨⟨by simp at hF; omega, by omega⟩, (belowA w1 (.cells #[.string ap, .slice xa ats.length xc, .int .i64 aoff, .slice none 0 0] 88)).block k hk⟩ : (w.heap.size + 2 ≤ k ∧ k ≠ w1.heap.size) ∧ _)); have HX1 := hide (heap_alloc_new w1 (.cells #[.string ap, .slice xa ats.length xc, .int .i64 aoff, .slice none 0 0] 88)); clear ha1 ho1 hpur hok HAt; unfold Atx.val)
            | (go_at_call 51; refine (HT.out _ _ (by simp) HA1.out).mono ?_; rintro e w2 ⟨rfl, ha2, ho2⟩; have HA2 := hide ha2; have HB2 := hide (HB1.out.move ho2); have HX2 := hide (box_moved HX1.out (by have := HB1.out.pl; have := Hs1.out; omega) ho2); have HOk2 := hide (elAtx.move HOk1.out fun k hk hF => ⟨hF, ho2.block k hk (by have := HB1.out.pl; omega)⟩); clear ha2 ho2)
            | (go_at_call 61; refine (HBo.out _ HA2.out).mono ?_; intro e w3 hq; obtain ⟨bv, ls, rfl, hpur3, hl3, hgr3, ha3, ho3⟩ := bodyPost_ok hq; clear hq; obtain ⟨ba, bc, rfl, -⟩ := hgr3.shape; have HLs := hide (hgr3.new (by omega)); have HP3 := hide hpur3; have HA3 := hide ha3; have HB3 := hide (HB2.out.move ho3); have HX3 := hide (box_moved HX2.out (by have := HB1.out.pl; have := Hs1.out; omega) ho3); have HOk3 := hide (elAtx.move HOk2.out fun k hk hF => ⟨hF, ho3.block k hk (by have := HB1.out.pl; omega)⟩); have hs2 := HB2.out.lt; have hs1 := Hs1.out; clear hpur3 hl3 hgr3 ha3 ho3; obtain ⟨⟨k0, k1, k2, k3⟩, ⟨l0, l1, l2, l3⟩⟩ := boxC_cells HX3.out; obtain ⟨⟨m0, m1, m2, m3⟩, ⟨n0, n1, n2, n3⟩⟩ := boxC_cells HB3.out.b1; have q1 : ¬ w1.heap.size = w.heap.size + 1 := (by omega); have q2 : ¬ w.heap.size + 1 = w1.heap.size := (by omega)))
          have hbk : (w3.setCell ⟨w1.heap.size, 3, none⟩ (.slice ba ls.length bc)).heap[w.heap.size + 1]? = some (.cells #[.string ⟨#[]⟩, .slice none 0 0, .int .i64 0, .slice none 0 0] 88 (0, 0)) := by
            rw [((Only.refl (fun k => k = w1.heap.size) w3).setCell (p := ⟨w1.heap.size, 3, none⟩) rfl _).block _ (Array.getElem?_eq_some_iff.1 HB3.out.b1).1 q2]; exact HB3.out.b1
          have hlt := (Array.getElem?_eq_some_iff.1 HX2.out).1
          refine bodyPost_ret (clsRes _ (w.heap.size + 1) _ _ _ _ _ rfl (boxC_put hbk _ _ _ _)) rfl ?_
          exact cls_fin H0.out HA3.out HB3.out hs1 ⟨⟨ap, _, aoff, ats⟩, .slice ba ls.length bc, ls⟩ _ (by unfold Clx.pur; rw [HPu.out, HP3.out]) ⟨HOk3.out, HLs.out.move fun k _ hF => ⟨⟨by omega, by omega⟩, rfl⟩⟩ (boxC_only ((Only.refl _ w3).setCell (p := ⟨w1.heap.size, 3, none⟩) (.inl rfl) _) _ (.inr rfl) _ _ _ _)
      · have e9 : (s.k == 9) = false := by simpa using h9
        rw [show clauseP c f name R = .ok ⟨a, []⟩ r2 from by unfold clauseP; rw [hA]; simp only; rw [hT]; simp only; rw [if_neg h9]]
        clear hA hT h9
        unfold ClsPost
        go_enter Tryz.func55, Tryz.ntmps55
        go_wp2_with (first
          | (go_at_call 73; refine (HAt.out _ HA0.out).mono ?_; intro e w1 hq; obtain ⟨⟨ap, av, aoff, ats⟩, rfl, hpur, hok, ha1, ho1⟩ := atmPost_ok hq; clear hq; obtain ⟨xa, xc, rfl, -⟩ := (show Lst elTrm _ _ av ats from hok.2.2).shape; have HB1 := hide ((HB.out.move ho1).below (belowA w1 (.cells #[.string ap, .slice xa ats.length xc, .int .i64 aoff, .slice none 0 0] 88))); have HA1 := hide (ha1.kept (belowA w1 (.cells #[.string ap, .slice xa ats.length xc, .int .i64 aoff, .slice none 0 0] 88))); have HPu := hide hpur; have Hs1 := hide (Nat.le_trans (by simp) ho1.size : w.heap.size + 2 ≤ w1.heap.size); have HOk1 := hide (elAtx.move hok fun k hk hF => (⟨⟨by simp at hF; omega, by omega⟩, (belowA w1 (.cells #[.string ap, .slice xa ats.length xc, .int .i64 aoff, .slice none 0 0] 88)).block k hk⟩ : (w.heap.size + 2 ≤ k ∧ k ≠ w1.heap.size) ∧ _)); have HX1 := hide (heap_alloc_new w1 (.cells #[.string ap, .slice xa ats.length xc, .int .i64 aoff, .slice none 0 0] 88)); clear ha1 ho1 hpur hok HAt; unfold Atx.val)
          | (go_at_call 51; refine (HT.out _ _ (by simp) HA1.out).mono ?_; rintro e w2 ⟨rfl, ha2, ho2⟩; have HA2 := hide ha2; have HB2 := hide (HB1.out.move ho2); have HX2 := hide (box_moved HX1.out (by have := HB1.out.pl; have := Hs1.out; omega) ho2); have HOk2 := hide (elAtx.move HOk1.out fun k hk hF => ⟨hF, ho2.block k hk (by have := HB1.out.pl; omega)⟩); clear ha2 ho2; have hs1 := Hs1.out; obtain ⟨⟨k0, k1, k2, k3⟩, ⟨l0, l1, l2, l3⟩⟩ := boxC_cells HX2.out; obtain ⟨⟨m0, m1, m2, m3⟩, ⟨n0, n1, n2, n3⟩⟩ := boxC_cells HB2.out.b1; have q1 : ¬ w1.heap.size = w.heap.size + 1 := (by omega); have q2 : ¬ w.heap.size + 1 = w1.heap.size := (by omega)))
        refine bodyPost_ret (clsRes _ (w.heap.size + 1) _ _ _ _ _ rfl (boxC_put HB2.out.b1 _ _ _ _)) rfl ?_
        exact cls_fin H0.out HA2.out HB2.out Hs1.out ⟨⟨ap, _, aoff, ats⟩, .slice none 0 0, []⟩ _ (by unfold Clx.pur; rw [HPu.out]; rfl) ⟨HOk2.out, Lst.nil _ _ _⟩ (boxC_only (Only.refl _ w2) _ (.inr rfl) _ _ _ _)
end Go.Proofs.YtchhophblejmeaaGreatDoor

namespace Go.Proofs.YtchhophblejmeaaGreatDoor
set_option linter.unusedSimpArgs false
set_option linter.unusedVariables false
open Go.RowKit

theorem Tryz.infoCls : (Tryz.prog.info? 88).map (fun i => (i.zero, i.size, i.bytes)) = some (some (.agg #[.string ⟨#[]⟩, .slice none 0 0, .int .i64 0, .slice none 0 0]), 4, 72) := by kernel_rfl

def ProgPost (w : World) (p : Nat) (ao : Option Addr) (cap : Nat) (L : List Tok) (c f : Int) (res : PR (List PCls)) (e : Ending) (w' : World) : Prop :=
  match res with
  | .bad ec eo => e = PEnd ec eo ∧ Only (fun k => k = p) w w'
  | .ok b r => ∃ v cs, e = .returned (.agg #[v]) ∧ cs.map Clx.pur = b ∧ cs.length ≤ 512 ∧ Grow elClx 88 w.heap.size w' v cs ∧ Ahead w' p ao cap L c f r ∧ Only (fun k => k = p) w w'
theorem progPost_bad {w w' : World} {p : Nat} {ao : Option Addr} {cap : Nat} {L : List Tok} {c f ec eo : Int} {e : Ending} (h : ProgPost w p ao cap L c f (.bad ec eo) e w') : e = PEnd ec eo ∧ Only (fun k => k = p) w w' := h
theorem progPost_ok {w w' : World} {p : Nat} {ao : Option Addr} {cap : Nat} {L : List Tok} {c f : Int} {x : List PCls} {r : List Tok} {e : Ending} (h : ProgPost w p ao cap L c f (.ok x r) e w') : ∃ v cs, e = .returned (.agg #[v]) ∧ cs.map Clx.pur = x ∧ cs.length ≤ 512 ∧ Grow elClx 88 w.heap.size w' v cs ∧ Ahead w' p ao cap L c f r ∧ Only (fun k => k = p) w w' := h

/-- What the loop of a program's clauses keeps in memory. -/
structure PrgAt (w wr : World) (p : Nat) (ao : Option Addr) (cap : Nat) (L : List Tok) (c f : Int) (R : List Tok) (v : Value) (cs : List Clx) : Prop where
  col : Coll3 elClx 88 w wr p ao cap L c f R (w.heap.size + 2) v cs
  b0 : wr.heap[w.heap.size]? = some (.cells #[.slice none 0 0] 47 (0, 0))
  b1 : wr.heap[w.heap.size + 1]? = some (.cells #[v] 47 (0, 0))
section
variable {w wr wr' : World} {p : Nat} {ao : Option Addr} {cap : Nat} {L : List Tok} {c f : Int} {R R' : List Tok} {v v' : Value} {cs cs' : List Clx}
theorem PrgAt.move (h : PrgAt w wr p ao cap L c f R v cs) (ho : Only (fun k => k = p) wr wr') (ha : Ahead wr' p ao cap L c f R') : PrgAt w wr' p ao cap L c f R' v cs :=
  ⟨h.col.move ho ha, box_moved h.b0 (by have := h.col.pl; omega) ho, box_moved h.b1 (by have := h.col.pl; omega) ho⟩
theorem PrgAt.below (h : PrgAt w wr p ao cap L c f R v cs) (hb : Below wr.heap.size wr wr') : PrgAt w wr' p ao cap L c f R v cs := h.move (Only.of_below hb _) (h.col.ah.kept hb)
theorem PrgAt.drew (h : PrgAt w wr p ao cap L c f R v cs) : PrgAt w wr.drew p ao cap L c f R v cs := h.below (Below.refl _ _).drew
theorem PrgAt.cells (h : PrgAt w wr p ao cap L c f R v cs) : wr.cell? ⟨w.heap.size, 0, none⟩ = some (.slice none 0 0) ∧ wr.frozen? ⟨w.heap.size, 0, none⟩ = false ∧ wr.cell? ⟨w.heap.size + 1, 0, none⟩ = some v ∧ wr.frozen? ⟨w.heap.size + 1, 0, none⟩ = false := by
  refine ⟨?_, ?_, ?_, ?_⟩ <;> simp [World.cell?, World.frozen?, h.b0, h.b1]
theorem PrgAt.far (h : PrgAt w wr p ao cap L c f R v cs) (hg : wr.grownBy wr' v.ownBlock) : wr'.heap[w.heap.size + 1]? = some (.cells #[v] 47 (0, 0)) := by
  have ho : Only (fun k => w.heap.size + 2 ≤ k) wr wr' := (Only.refl _ wr).grown hg (fun k hk _ => own_new h.col.gr.1 k hk)
  rw [ho.block _ (Array.getElem?_eq_some_iff.1 h.b1).1 (by omega)]; exact h.b1
theorem PrgAt.push (h : PrgAt w wr p ao cap L c f R v cs) (hg : wr.grownBy wr' v.ownBlock) (hG : Grow elClx 88 (w.heap.size + 2) wr' v' cs') : PrgAt w (wr'.setCell ⟨w.heap.size + 1, 0, none⟩ v') p ao cap L c f R v' cs' := by
  have hp := h.col.pl
  have hc := h.col.grown hg hG
  have ho : Only (fun k => w.heap.size + 2 ≤ k) wr wr' := (Only.refl _ wr).grown hg (fun k hk _ => own_new h.col.gr.1 k hk)
  have ho2 : Only (fun k => k = w.heap.size + 1) wr' (wr'.setCell ⟨w.heap.size + 1, 0, none⟩ v') := (Only.refl (fun k => k = w.heap.size + 1) wr').setCell (p := ⟨w.heap.size + 1, 0, none⟩) rfl _
  have hb0 : wr'.heap[w.heap.size]? = some (.cells #[.slice none 0 0] 47 (0, 0)) := by rw [ho.block _ (Array.getElem?_eq_some_iff.1 h.b0).1 (by omega)]; exact h.b0
  refine ⟨⟨?_, hc.gr.above fun b hb hlt => ho2.block b hlt (by omega), hc.on.trans (ho2.mono fun k _ (e : k = w.heap.size + 1) => .inr (by omega)), hp, hc.tk, hc.lo, Nat.le_trans hc.hi ho2.size⟩, ?_, ?_⟩
  · obtain ⟨i, q1, q2⟩ := hc.ah
    exact ⟨i, q1.only ho2 (by omega) (fun g hg hl => by have := hc.tk g hg hl; omega), q2⟩
  · rw [ho2.block _ (Array.getElem?_eq_some_iff.1 hb0).1 (by omega)]; exact hb0
  · have := h.far hg
    simp [World.setCell, Array.getElem?_modify, this]
theorem PrgAt.start (h : Ahead w p ao cap L c f R) : PrgAt w ((w.alloc (.cells #[.slice none 0 0] 47)).alloc (.cells #[.slice none 0 0] 47)) p ao cap L c f R (.slice none 0 0) [] :=
  have hb := TwoBox.start h.lt (.cells #[.slice none 0 0] 47) (.cells #[.slice none 0 0] 47)
  ⟨⟨h.kept (below2a _ _ _), Grow.nil _ _ _ _, hb.on, h.lt, h.tk, by omega, by simp⟩, hb.b0, hb.b1⟩
end
theorem prgRes (W : World) (b : Nat) (u0 : Value) (tmps : Array Value) (ht : tmps[2]? = some (.pointer (some ⟨b, 0, none⟩))) (hb : W.heap[b]? = some (.cells #[u0] 47 (0, 0))) :
    (results Tryz.f35 tmps).run Tryz.prog W = .ok (.agg #[u0]) W := by
  have c0 : W.cell? ⟨b, 0, none⟩ = some u0 := by simp [World.cell?, hb]
  simp [results, Tryz.results35, go_sem, ht, c0]

set_option maxHeartbeats 4000000 in
set_option maxRecDepth 100000 in
theorem program_any {w : World} {p : Nat} {ao : Option Addr} {cap : Nat} {L : List Tok} {c f : Int} {R : List Tok} (h : Ahead w p ao cap L c f R) :
    Calls Tryz.prog 35 #[.pointer (some ⟨p, 0, none⟩)] w (ProgPost w p ao cap L c f (progP c f R)) := by
  obtain ⟨res, hres⟩ : ∃ res, progP c f R = res := ⟨_, rfl⟩
  rw [hres]
  have HRes0 : Hid (progF c f (R.length + 1) [] R = res) := hres
  obtain ⟨Post, hPost⟩ : ∃ Post : Ending → World → Prop, Post = ProgPost w p ao cap L c f res := ⟨_, rfl⟩
  rw [← hPost]
  have PB : Hid (∀ ec eo w', res = .bad ec eo → Only (fun k => k = p) w w' → Post (PEnd ec eo) w') := fun ec eo w' hr ho => by
    rw [hPost, hr]; exact ⟨rfl, ho⟩
  have PG : Hid (∀ b r' v cs w', res = .ok b r' → cs.map Clx.pur = b → cs.length ≤ 512 → Grow elClx 88 w.heap.size w' v cs → Ahead w' p ao cap L c f r' → Only (fun k => k = p) w w' → Post (.returned (.agg #[v])) w') := fun b r' v cs w' hr h1 h2 h3 h4 h5 => by
    rw [hPost, hr]; exact ⟨v, cs, rfl, h1, h2, h3, h4, h5⟩
  have HC0 := hide (PrgAt.start h)
  have H0 := hide h
  clear hPost h hres
  go_enter Tryz.func35, Tryz.ntmps35
  go_wp2
  go_loopw [4] (fun _ wr => ∃ (n : Nat) (cs : List Clx) (R1 : List Tok) (v : Value), cs.length ≤ 512 ∧ R1.length < n ∧ Hid (PrgAt w wr p ao cap L c f R1 v cs) ∧ Hid (progF c f n (cs.map Clx.pur) R1 = res)) (fun _ wr => 70000 - (intOf ((wr.cell? ⟨p, 4, none⟩).getD undef)).toNat)
  case atStart => exact ⟨R.length + 1, [], R, _, by simp, by omega, HC0, HRes0⟩
  case round =>
    clear HC0 HRes0
    obtain ⟨n, cs, R1, v, hcs, hn, HC, HRes⟩ := hrel
    obtain ⟨n, rfl⟩ : ∃ m, n = m + 1 := ⟨n - 1, by omega⟩
    obtain ⟨va, vc, rfl, -⟩ := HC.out.col.gr.shape
    cases hT : takeP c f [1, 0] R1 with
    | bad ec eo =>
      have HT : Hid (∀ (W : World) (g : Nat), W.heap.size = g → Ahead W p ao cap L c f R1 → Calls Tryz.prog 51 #[.pointer (some ⟨p, 0, none⟩), .slice (some ⟨g, 0, none⟩) 2 2] (W.alloc (.cells #[.int .i64 1, .int .i64 0] 3)) fun e w' => e = PEnd ec eo ∧ Below W.heap.size W w') := fun W g hg ha => hg ▸ take_lit_fail [1, 0] ha (by decide) hT
      have HX : Hid (res = .bad ec eo) := by show _ = _; rw [← HRes.out]; exact prog_bad1 hT
      clear hT
      go_wp2_with (go_at_call 51; refine (HT.out _ _ rfl HC.out.col.ah).mono ?_; rintro e w1 ⟨rfl, hb1⟩)
      exact ⟨rfl, PB.out _ _ _ HX.out (HC.out.col.below hb1).end_⟩
    | ok t r1 =>
      have HT : Hid (∀ (W : World) (g : Nat), W.heap.size = g → Ahead W p ao cap L c f R1 → Calls Tryz.prog 51 #[.pointer (some ⟨p, 0, none⟩), .slice (some ⟨g, 0, none⟩) 2 2] (W.alloc (.cells #[.int .i64 1, .int .i64 0] 3)) fun e w' => e = .returned (tokV t) ∧ Ahead w' p ao cap L c f r1 ∧ Only (fun b => b = p) W w') := fun W g hg ha => hg ▸ take_lit_good [1, 0] ha (by decide) hT
      have htg : t.good := HC.out.col.ah.good t (by rw [(take_eq hT).1]; exact List.mem_cons_self)
      have l1 := take_len hT
      unfold tokV at HT
      by_cases h0 : t.k = 0
      · have e0 : (t.k == 0) = true := by simpa using h0
        have HX : Hid (res = .ok (cs.map Clx.pur) r1) := by show _ = _; rw [← HRes.out]; exact prog_end hT h0
        clear hT h0
        go_wp2_with (go_at_call 51; refine (HT.out _ _ rfl HC.out.col.ah).mono ?_; rintro e w1 ⟨rfl, ha1, ho1⟩; have HwR := hide ho1.size; have Hw1 := hide (Nat.le_trans HC.out.col.hi ho1.size); have HC1 := hide ((HC.out.move ho1 ha1).below (belowA w1 (.cells #[.int .i64 t.k, .string t.t, .int .i64 t.n, .int .i64 t.op, .int .i64 (t.off : Int), .int .i64 (t.en : Int)] 116))); clear ha1 ho1 HT; obtain ⟨q0, q1, q2, q3⟩ := HC1.out.cells)
        have hs := HC1.out.col.hi
        have ho2 : Only (fun k => k = w.heap.size) (w1.alloc (.cells #[.int .i64 t.k, .string t.t, .int .i64 t.n, .int .i64 t.op, .int .i64 (t.off : Int), .int .i64 (t.en : Int)] 116)) ((w1.alloc (.cells #[.int .i64 t.k, .string t.t, .int .i64 t.n, .int .i64 t.op, .int .i64 (t.off : Int), .int .i64 (t.en : Int)] 116)).setCell ⟨w.heap.size, 0, none⟩ (.slice va cs.length vc)) := (Only.refl (fun k => k = w.heap.size) _).setCell (p := ⟨w.heap.size, 0, none⟩) rfl _
        obtain ⟨z1, z2⟩ := fin_ahead H0.out HC1.out.col.ah HC1.out.col.on ho2 (Nat.le_refl _)
        refine bodyPost_ret (prgRes _ w.heap.size (.slice va cs.length vc) _ rfl (by have := HC1.out.b0; simp [World.setCell, Array.getElem?_modify, this])) rfl ?_
        exact PG.out _ _ _ _ _ HX.out rfl hcs ((HC1.out.col.gr.above fun b hb hlt => ho2.block b hlt (by omega)).mono (by omega)) z1 z2
      · have e0 : (t.k == 0) = false := by simpa using h0
        by_cases h512 : cs.length = 512
        · have HLm := hide (limit_eq (cs.length : Int) 512 24 (t.off : Int) (h := by omega))
          have HX : Hid (res = .bad 24 (t.off : Int)) := by show _ = _; rw [← HRes.out]; exact prog_lim hT h0 (by rw [List.length_map]; exact h512)
          clear hT h0 h512 hcs
          go_wp2_with (first
            | (go_at_call 51; refine (HT.out _ _ rfl HC.out.col.ah).mono ?_; rintro e w1 ⟨rfl, ha1, ho1⟩; have HwR := hide ho1.size; have Hw1 := hide (Nat.le_trans HC.out.col.hi ho1.size); have HC1 := hide ((HC.out.move ho1 ha1).below (belowA w1 (.cells #[.int .i64 t.k, .string t.t, .int .i64 t.n, .int .i64 t.op, .int .i64 (t.off : Int), .int .i64 (t.en : Int)] 116))); clear ha1 ho1 HT; obtain ⟨q0, q1, q2, q3⟩ := HC1.out.cells)
            | (go_at_call 53; refine (HLm.out _).mono ?_; rintro e w2 ⟨rfl, hw⟩; have hw := hw.symm; subst hw))
          exact ⟨rfl, PB.out _ _ _ HX.out HC1.out.col.end_⟩
        · have HLm := hide (limit_ok (cs.length : Int) 512 24 (t.off : Int) (h := by omega))
          have hcs5 : cs.length < 512 := by omega
          have HCl0 := fun (W : World) (ha : Ahead W p ao cap L c f r1) => clause_any t ha htg
          unfold tokV at HCl0
          cases hC : clauseP c f t r1 with
          | bad ec eo =>
            rw [hC] at HCl0
            have HCl := hide HCl0
            have HX : Hid (res = .bad ec eo) := by show _ = _; rw [← HRes.out]; exact prog_cls hT h0 (by rw [List.length_map]; exact h512) hC
            clear hT h0 h512 hC HCl0
            go_wp2_with (first
              | (go_at_call 51; refine (HT.out _ _ rfl HC.out.col.ah).mono ?_; rintro e w1 ⟨rfl, ha1, ho1⟩; have HwR := hide ho1.size; have Hw1 := hide (Nat.le_trans HC.out.col.hi ho1.size); have HC1 := hide ((HC.out.move ho1 ha1).below (belowA w1 (.cells #[.int .i64 t.k, .string t.t, .int .i64 t.n, .int .i64 t.op, .int .i64 (t.off : Int), .int .i64 (t.en : Int)] 116))); clear ha1 ho1 HT; obtain ⟨q0, q1, q2, q3⟩ := HC1.out.cells)
              | (go_at_call 53; refine (HLm.out _).mono ?_; rintro e w2 ⟨⟨v2, rfl⟩, hw⟩; have hw := hw.symm; subst hw))
            go_region_with (first
              | (go_at_call 55; refine (HCl.out _ (by first | exact HC1.out.col.ah.drew | exact HC1.out.col.ah)).mono ?_; intro e w3 hq; obtain ⟨rfl, ho3⟩ := clsPost_bad hq; clear hq; refine panic_ends (P := Tryz.prog) (w := w3) ⟨rfl, PB.out _ _ _ HX.out (by first | exact HC1.out.drew.col.endM ho3 | exact HC1.out.col.endM ho3)⟩ ?_))
            all_goals trivial
          | ok x r2 =>
            rw [hC] at HCl0
            have HCl := hide HCl0
            have l2 := clause_len hC
            have HX : Hid (progF c f n (cs.map Clx.pur ++ [x]) r2 = res) := by show _ = _; rw [← HRes.out]; exact (prog_more hT h0 (by rw [List.length_map]; exact h512) hC).symm
            have HLn : Hid (r2.length < R1.length ∧ r2.length < n) := ⟨by omega, by omega⟩
            obtain ⟨ix, isz⟩ := HC.out.col.ah.index
            have HIx := hide (And.intro ix isz)
            clear hT h0 h512 hC HCl0 l1 l2 ix isz
            go_wp2_with (first
              | (go_at_call 51; refine (HT.out _ _ rfl HC.out.col.ah).mono ?_; rintro e w1 ⟨rfl, ha1, ho1⟩; have HwR := hide ho1.size; have Hw1 := hide (Nat.le_trans HC.out.col.hi ho1.size); have HC1 := hide ((HC.out.move ho1 ha1).below (belowA w1 (.cells #[.int .i64 t.k, .string t.t, .int .i64 t.n, .int .i64 t.op, .int .i64 (t.off : Int), .int .i64 (t.en : Int)] 116))); clear ha1 ho1 HT; obtain ⟨q0, q1, q2, q3⟩ := HC1.out.cells)
              | (go_at_call 53; refine (HLm.out _).mono ?_; rintro e w2 ⟨⟨v2, rfl⟩, hw⟩; have hw := hw.symm; subst hw))
            obtain ⟨Z, hZ⟩ : ∃ Z, Z = w1.alloc (.cells #[.int .i64 t.k, .string t.t, .int .i64 t.n, .int .i64 t.op, .int .i64 (t.off : Int), .int .i64 (t.en : Int)] 116) := ⟨_, rfl⟩
            rw [← hZ] at HC1 ⊢
            have hTk : Z.heap[w1.heap.size]? = some (.cells #[.int .i64 t.k, .string t.t, .int .i64 t.n, .int .i64 t.op, .int .i64 (t.off : Int), .int .i64 (t.en : Int)] 116 (0, 0)) := by rw [hZ]; exact heap_alloc_new w1 _
            have hw1 : w.heap.size + 2 ≤ w1.heap.size := Hw1.out
            have HSof : Hid (∀ V : World, V.heap[w.heap.size + 1]? = some (.cells #[.slice va cs.length vc] 47 (0, 0)) → V.heap[w1.heap.size]? = some (.cells #[.int .i64 t.k, .string t.t, .int .i64 t.n, .int .i64 t.op, .int .i64 (t.off : Int), .int .i64 (t.en : Int)] 116 (0, 0)) → V.cell? ⟨w.heap.size + 1, 0, none⟩ = some (.slice va cs.length vc) ∧ V.cell? ⟨w1.heap.size, 0, none⟩ = some (.int .i64 t.k) ∧ V.cell? ⟨w1.heap.size, 1, none⟩ = some (.string t.t) ∧ V.cell? ⟨w1.heap.size, 2, none⟩ = some (.int .i64 t.n) ∧ V.cell? ⟨w1.heap.size, 3, none⟩ = some (.int .i64 t.op) ∧ V.cell? ⟨w1.heap.size, 4, none⟩ = some (.int .i64 (t.off : Int)) ∧ V.cell? ⟨w1.heap.size, 5, none⟩ = some (.int .i64 (t.en : Int))) := fun V h1 h2 => ⟨by simp [World.cell?, h1], tok_cells h2⟩
            have HTk := hide hTk
            clear hZ
            clear q0 q1 q2 q3
            refine wp_region_last (by kernel_rfl) (fun V => V.cell? ⟨w.heap.size + 1, 0, none⟩ = some (.slice va cs.length vc) ∧ V.cell? ⟨w1.heap.size, 0, none⟩ = some (.int .i64 t.k) ∧ V.cell? ⟨w1.heap.size, 1, none⟩ = some (.string t.t) ∧ V.cell? ⟨w1.heap.size, 2, none⟩ = some (.int .i64 t.n) ∧ V.cell? ⟨w1.heap.size, 3, none⟩ = some (.int .i64 t.op) ∧ V.cell? ⟨w1.heap.size, 4, none⟩ = some (.int .i64 (t.off : Int)) ∧ V.cell? ⟨w1.heap.size, 5, none⟩ = some (.int .i64 (t.en : Int))) 8 ?_
            have HS1 := HSof.out Z.drew HC1.out.drew.b1 hTk
            refine wpAnyM_take (i := 0) (v := ?_) rfl (by kernel_rfl) (by kernel_rfl) (by kernel_rfl) (by kernel_rfl) (fun _ _ _ h => h) HS1 (Or.inl ⟨by rfl, ?_⟩) ?_
            rotate_left
            · (intro w hSw; (try dsimp only at hSw); go_simp; try with_reducible rfl)
            simp only [Act.put, List.setIfInBounds_toArray, List.set_cons_zero, List.set_cons_succ]
            refine wpAnyM_take (i := 1) (v := ?_) rfl (by kernel_rfl) (by kernel_rfl) (by kernel_rfl) (by kernel_rfl) (fun _ _ _ h => h) HS1 (Or.inl ⟨by rfl, ?_⟩) ?_
            rotate_left
            · (intro w hSw; (try dsimp only at hSw); go_simp; try with_reducible rfl)
            simp only [Act.put, List.setIfInBounds_toArray, List.set_cons_zero, List.set_cons_succ]
            refine wpAnyM_take (i := 2) (v := ?_) rfl (by kernel_rfl) (by kernel_rfl) (by kernel_rfl) (by kernel_rfl) (fun _ _ _ h => h) HS1 (Or.inl ⟨by rfl, ?_⟩) ?_
            rotate_left
            · (intro w hSw; (try dsimp only at hSw); go_simp; try with_reducible rfl)
            simp only [Act.put, List.setIfInBounds_toArray, List.set_cons_zero, List.set_cons_succ]
            refine wpAnyM_take (i := 3) (v := ?_) rfl (by kernel_rfl) (by kernel_rfl) (by kernel_rfl) (by kernel_rfl) (fun _ _ _ h => h) HS1 (Or.inl ⟨by rfl, ?_⟩) ?_
            rotate_left
            · (intro w hSw; (try dsimp only at hSw); go_simp; try with_reducible rfl)
            simp only [Act.put, List.setIfInBounds_toArray, List.set_cons_zero, List.set_cons_succ]
            refine wpAnyM_one (i := 4) (by kernel_rfl) rfl (fun K hK => ?_)
            go_simp
            refine (HCl.out _ HC1.out.drew.col.ah).mono ?_
            intro e w3 hq
            obtain ⟨⟨⟨ap, av, aoff, ats⟩, bv, ls⟩, rfl, hpur, hok, ha3, ho3⟩ := clsPost_ok hq
            clear hq
            obtain ⟨xa, xc, rfl, -⟩ := (show Lst elTrm _ _ av ats from hok.1.2.2).shape
            obtain ⟨ba, bc, rfl, -⟩ := (show Lst elLix _ _ bv ls from hok.2).shape
            have HC3 := hide (HC1.out.drew.move ho3 ha3)
            have HOk3 := HC1.out.drew.col.gr.behind HC1.out.drew.col.hi elClx hok
            have hTk3 : w3.heap[w1.heap.size]? = some (.cells #[.int .i64 t.k, .string t.t, .int .i64 t.n, .int .i64 t.op, .int .i64 (t.off : Int), .int .i64 (t.en : Int)] 116 (0, 0)) := box_moved (W := Z.drew) hTk (by have := HC1.out.col.pl; omega) ho3
            have HPu := hide hpur
            have HOk4 := hide (elClx.move HOk3 fun b hlt hF => ⟨hF, (belowA w3 (.cells #[.string ap, .slice xa ats.length xc, .int .i64 aoff, .slice ba ls.length bc] 88)).block b hlt⟩)
            have HC4 := hide (HC3.out.below (belowA w3 (.cells #[.string ap, .slice xa ats.length xc, .int .i64 aoff, .slice ba ls.length bc] 88)))
            have hlt3 := (Array.getElem?_eq_some_iff.1 hTk3).1
            have hTk4 : (w3.alloc (.cells #[.string ap, .slice xa ats.length xc, .int .i64 aoff, .slice ba ls.length bc] 88)).heap[w1.heap.size]? = some (.cells #[.int .i64 t.k, .string t.t, .int .i64 t.n, .int .i64 t.op, .int .i64 (t.off : Int), .int .i64 (t.en : Int)] 116 (0, 0)) := by rw [(belowA w3 (.cells #[.string ap, .slice xa ats.length xc, .int .i64 aoff, .slice ba ls.length bc] 88)).block _ hlt3]; exact hTk3
            clear hpur hok ha3 ho3 HOk3
            unfold Clx.val
            have HS3 := HSof.out w3 HC3.out.b1 hTk3
            refine hK.out _ _ HS3 (fun _ => ?_)
            clear hK K HS1
            try simp only [Act.put, List.setIfInBounds_toArray, List.set_cons_zero, List.set_cons_succ]
            refine wpAnyM_one (i := 5) (by kernel_rfl) rfl (fun K hK => ?_)
            go_simp
            have HS4 := HSof.out _ HC4.out.b1 hTk4
            refine hK.out _ _ HS4 (fun _ => ?_)
            clear hK K HS3
            refine wpAnyM_one (i := 6) (by kernel_rfl) rfl (fun K hK => ?_)
            obtain ⟨i0, hi0, hz0, hz1, hz2⟩ := info_parts Tryz.infoCls
            refine step_push (w0 := w3.alloc (.cells #[.string ap, .slice xa ats.length xc, .int .i64 aoff, .slice ba ls.length bc] 88)) elClx (by rfl) _ _ _ (by rfl) (w.heap.size + 2) 88 i0 _ 72 Tryz.underlying45 hi0 hz0 hz1 hz2 rfl (by decide) (.slice va cs.length vc) cs cs.length rfl (by rfl) HC4.out.col.gr ⟨⟨ap, .slice xa ats.length xc, aoff, ats⟩, .slice ba ls.length bc, ls⟩ w3.heap.size 1 (by rfl) (fun j u hu => new_cells (cs := #[.string ap, .slice xa ats.length xc, .int .i64 aoff, .slice ba ls.length bc]) j u hu) HOk4.out (by omega) (Below.refl _ _) HC4.out.col.hi ?_
            intro g cap' w5 HG5 HB5 HGr
            clear HB5 hi0 hz0 hz1 hz2 i0
            have hb5 := HC4.out.far HGr.out
            have hTk5 : w5.heap[w1.heap.size]? = some (.cells #[.int .i64 t.k, .string t.t, .int .i64 t.n, .int .i64 t.op, .int .i64 (t.off : Int), .int .i64 (t.en : Int)] 116 (0, 0)) := by rw [HGr.out.block w1.heap.size (by have := (belowA w3 (.cells #[.string ap, .slice xa ats.length xc, .int .i64 aoff, .slice ba ls.length bc] 88)).size; omega) (fun e => by have := own_lt6 HC.out.col.gr.1 _ e.symm; have := HwR.out; omega)]; exact hTk4
            have HS5 := HSof.out w5 hb5 hTk5
            have HC5 := hide (HC4.out.push HGr.out HG5.out)
            refine hK.out _ _ HS5 (fun _ => ?_)
            clear hK K HS4 HSof HOk4 HC4 HC3 HGr HG5
            have c5 : w5.cell? ⟨w.heap.size + 1, 0, none⟩ = some (.slice va cs.length vc) := by simp [World.cell?, hb5]
            have z5 : w5.frozen? ⟨w.heap.size + 1, 0, none⟩ = false := by simp [World.frozen?, hb5]
            clear hb5 hTk5 hTk4 hTk3 hTk hlt3
            try simp only [Act.put, List.setIfInBounds_toArray, List.set_cons_zero, List.set_cons_succ]
            refine wpAnyM_take (i := 7) (v := ?_) rfl (by kernel_rfl) (by kernel_rfl) (by kernel_rfl) (by kernel_rfl) (fun _ _ _ h => h) HS5 (Or.inl ⟨by rfl, ?_⟩) ?_
            rotate_left
            · (intro w hSw; (try dsimp only at hSw); go_simp; try with_reducible rfl)
            simp only [Act.put, List.setIfInBounds_toArray, List.set_cons_zero, List.set_cons_succ]
            clear HS5
            refine wpAnyM_end (by kernel_rfl) rfl (by kernel_rfl) (fun K hK => ?_)
            go_simp
            refine hK.out _ _ ?_
            clear hK K
            go_wp2
            go_roundw
            case rel => exact ⟨n, cs ++ [⟨⟨ap, .slice xa ats.length xc, aoff, ats⟩, .slice ba ls.length bc, ls⟩], r2, _, by simp; omega, HLn.out.2, HC5, by show _ = _; rw [List.map_append, List.map_singleton, HPu.out]; exact HX.out⟩
            case measure =>
              obtain ⟨jx, -⟩ := HC5.out.col.ah.index
              have h1 := HLn.out
              have h2 := HIx.out
              omega
end Go.Proofs.YtchhophblejmeaaGreatDoor
