/- parse's reader takes a body. parse.read's deferred function; where the reader stands at first. parse's reader takes a clause. parse's reader takes a program. parse.read: a text's tokens, taken by a rule; where it gives up, the fault. parse's reader takes an atom without variables. parse's reader takes an atom without variables, by its name. parse's reader takes facts, and a query. parse.read: a text's tokens, taken by a rule; where it gives up, the fault. parse.read: a text's tokens, taken by a rule; where it gives up, the fault. parse.Program, parse.Facts, parse.Query. The law's own taken: the document's example is read. -/
import Derived.Test.YtilckhdaijfddaaDoorProg
import Derived.Test.YtilckhdaijfddaaDoorParseLit3
import Derived.Test.YtilckhdaijfddaaDoorPkM1
import Derived.Test.YtilckhdaijfddaaDoorParseAtom
import Derived.Defers
import Derived.Recover
import Derived.Test.YtilckhdaijfddaaDoorRegionLast
import Derived.Test.YtilckhdaijfddaaDoorParseLit

namespace Go.Proofs.YtilckhdaijfddaaDoor
set_option linter.unusedSimpArgs false
set_option linter.unusedVariables false
open Go.RowKit

theorem Tryd.infoLit : (Tryd.prog.info? 86).map (fun i => (i.zero, i.size, i.bytes)) = some (some (.agg #[.int .i64 0, .string ⟨#[]⟩, .slice none 0 0, .int .i64 0, .int .i64 0, .int .i64 0, .int .i64 0, .string ⟨#[]⟩, .int .i64 0, .int .i64 0, .int .i64 0, .string ⟨#[]⟩, .int .i64 0, .int .i64 0]), 14, 152) := by kernel_rfl

theorem limit_eq (n m c o : Int) (w : World) (h : n = m) : Calls Tryd.prog 42 #[.int .i64 n, .int .i64 m, .int .i64 c, .int .i64 o] w fun e w' => e = PEnd c o ∧ w' = w := by
  subst h
  exact limit_bad n c o w

/-- A reader and a list of the caller's own that grows, all in new memory. -/
structure Coll3 {α : Type} (E : El α) (e : TypeId) (w wr : World) (p : Nat) (ao : Option Addr) (cap : Nat) (L : List Tok) (c f : Int) (R : List Tok) (base : Nat) (v : Value) (l : List α) : Prop where
  ah : Ahead wr p ao cap L c f R
  gr : Grow E e base wr v l
  on : Only (fun k => k = p ∨ w.heap.size ≤ k) w wr
  pl : p < w.heap.size
  tk : ∀ g, ao = some ⟨g, 0, none⟩ → 0 < L.length → g < w.heap.size
  lo : w.heap.size ≤ base
  hi : base ≤ wr.heap.size
section
variable {α : Type} {E : El α} {e : TypeId} {w wr wr' : World} {p : Nat} {ao : Option Addr} {cap : Nat} {L : List Tok} {c f : Int} {R R' : List Tok} {base : Nat} {v : Value} {l : List α}
theorem Coll3.move (h : Coll3 E e w wr p ao cap L c f R base v l) (ho : Only (fun k => k = p) wr wr') (ha : Ahead wr' p ao cap L c f R') : Coll3 E e w wr' p ao cap L c f R' base v l :=
  have hp := h.pl
  have hl := h.lo
  ⟨ha, h.gr.above fun b hb hlt => ho.block b hlt (by omega), h.on.trans (ho.mono fun k _ e => .inl e), h.pl, h.tk, h.lo, Nat.le_trans h.hi ho.size⟩
theorem Coll3.below (h : Coll3 E e w wr p ao cap L c f R base v l) (hb : Below wr.heap.size wr wr') : Coll3 E e w wr' p ao cap L c f R base v l :=
  h.move (Only.of_below hb _) (h.ah.kept hb)
theorem Coll3.grown (h : Coll3 E e w wr p ao cap L c f R base v l) {v' : Value} {l' : List α} (hg : wr.grownBy wr' v.ownBlock) (hG : Grow E e base wr' v' l') : Coll3 E e w wr' p ao cap L c f R base v' l' := by
  have hp := h.pl
  have hl := h.lo
  have ho : Only (fun k => base ≤ k) wr wr' := (Only.refl _ wr).grown hg (fun k hk _ => own_new h.gr.1 k hk)
  refine ⟨?_, hG, h.on.trans (ho.mono fun k _ (e : base ≤ k) => .inr (by omega)), h.pl, h.tk, h.lo, Nat.le_trans h.hi ho.size⟩
  obtain ⟨i, q1, q2⟩ := h.ah
  exact ⟨i, q1.only ho (by omega) (fun g hg hl => by have := h.tk g hg hl; omega), q2⟩
theorem Coll3.start (h : Ahead w p ao cap L c f R) : Coll3 E e w w p ao cap L c f R w.heap.size (.slice none 0 0) [] :=
  ⟨h, Grow.nil _ _ _ _, Only.refl _ _, h.lt, h.tk, Nat.le_refl _, Nat.le_refl _⟩
theorem Coll3.endM (h : Coll3 E e w wr p ao cap L c f R base v l) (ho : Only (fun k => k = p) wr wr') : Only (fun k => k = p) w wr' := only_drop (h.on.trans (ho.mono fun k _ e => .inl e))
theorem Coll3.end_ (h : Coll3 E e w wr p ao cap L c f R base v l) : Only (fun k => k = p) w wr := only_drop h.on
end

def BodyPost (w : World) (p : Nat) (ao : Option Addr) (cap : Nat) (L : List Tok) (c f : Int) (res : PR (List PLit)) (e : Ending) (w' : World) : Prop :=
  match res with
  | .bad ec eo => e = PEnd ec eo ∧ Only (fun k => k = p) w w'
  | .ok b r => ∃ v ls, e = .returned v ∧ ls.map Lix.pur = b ∧ ls.length ≤ 16 ∧ Grow elLix 86 w.heap.size w' v ls ∧ Ahead w' p ao cap L c f r ∧ Only (fun k => k = p) w w'
theorem bodyPost_bad {w w' : World} {p : Nat} {ao : Option Addr} {cap : Nat} {L : List Tok} {c f ec eo : Int} {e : Ending} (h : BodyPost w p ao cap L c f (.bad ec eo) e w') : e = PEnd ec eo ∧ Only (fun k => k = p) w w' := h
theorem bodyPost_ok {w w' : World} {p : Nat} {ao : Option Addr} {cap : Nat} {L : List Tok} {c f : Int} {x : List PLit} {r : List Tok} {e : Ending} (h : BodyPost w p ao cap L c f (.ok x r) e w') : ∃ v ls, e = .returned v ∧ ls.map Lix.pur = x ∧ ls.length ≤ 16 ∧ Grow elLix 86 w.heap.size w' v ls ∧ Ahead w' p ao cap L c f r ∧ Only (fun k => k = p) w w' := h

set_option maxHeartbeats 4000000 in
set_option maxRecDepth 100000 in
theorem body_any {w : World} {p : Nat} {ao : Option Addr} {cap : Nat} {L : List Tok} {c f : Int} {R : List Tok} (h : Ahead w p ao cap L c f R) :
    Calls Tryd.prog 47 #[.pointer (some ⟨p, 0, none⟩)] w (BodyPost w p ao cap L c f (bodyP c f R)) := by
  obtain ⟨res, hres⟩ : ∃ res, bodyP c f R = res := ⟨_, rfl⟩
  rw [hres]
  have HRes0 : Hid (bodyF c f (R.length + 1) [] R = res) := hres
  obtain ⟨Post, hPost⟩ : ∃ Post : Ending → World → Prop, Post = BodyPost w p ao cap L c f res := ⟨_, rfl⟩
  rw [← hPost]
  have PB : Hid (∀ ec eo w', res = .bad ec eo → Only (fun k => k = p) w w' → Post (PEnd ec eo) w') := fun ec eo w' hr ho => by
    rw [hPost, hr]; exact ⟨rfl, ho⟩
  have PG : Hid (∀ b r' v ls w', res = .ok b r' → ls.map Lix.pur = b → ls.length ≤ 16 → Grow elLix 86 w.heap.size w' v ls → Ahead w' p ao cap L c f r' → Only (fun k => k = p) w w' → Post (.returned v) w') := fun b r' v ls w' hr h1 h2 h3 h4 h5 => by
    rw [hPost, hr]; exact ⟨v, ls, rfl, h1, h2, h3, h4, h5⟩
  have HC0 := hide (Coll3.start (E := elLix) (e := 86) h)
  have HLt := hide h.lt
  clear hPost h hres
  go_enter Tryd.func47, Tryd.ntmps47
  go_wp2
  go_loopw [3] (fun v wr => ∃ (n : Nat) (ls : List Lix) (R1 : List Tok), ls.length ≤ 16 ∧ R1.length < n ∧ Hid (Coll3 elLix 86 w wr p ao cap L c f R1 w.heap.size v ls) ∧ Hid (bodyF c f n (ls.map Lix.pur) R1 = res)) (fun _ wr => 70000 - (intOf ((wr.cell? ⟨p, 4, none⟩).getD undef)).toNat)
  case atStart => exact ⟨R.length + 1, [], R, by simp, by omega, HC0, HRes0⟩
  case round =>
    clear HC0 HRes0
    obtain ⟨n, ls, R1, hls, hn, HC, HRes⟩ := hrel
    obtain ⟨n, rfl⟩ : ∃ m, n = m + 1 := ⟨n - 1, by omega⟩
    obtain ⟨va, vc, rfl, -⟩ := HC.out.gr.shape
    cases hT : takeP c f [1, 10, 2, 3, 4] R1 with
    | bad ec eo =>
      have HT : Hid (∀ (W : World) (g : Nat), W.heap.size = g → Ahead W p ao cap L c f R1 → Calls Tryd.prog 40 #[.pointer (some ⟨p, 0, none⟩), .slice (some ⟨g, 0, none⟩) 5 5] (W.alloc (.cells #[.int .i64 1, .int .i64 10, .int .i64 2, .int .i64 3, .int .i64 4] 3)) fun e w' => e = PEnd ec eo ∧ Below W.heap.size W w') := fun W g hg ha => hg ▸ take_lit_fail [1, 10, 2, 3, 4] ha (by decide) hT
      have HX : Hid (res = .bad ec eo) := by show _ = _; rw [← HRes.out]; exact body_bad1 hT
      clear hT
      go_wp2_with (go_at_call 40; refine (HT.out _ _ rfl HC.out.ah).mono ?_; rintro e w1 ⟨rfl, hb1⟩)
      exact ⟨rfl, PB.out _ _ _ HX.out (HC.out.below hb1).end_⟩
    | ok t r1 =>
      have HT : Hid (∀ (W : World) (g : Nat), W.heap.size = g → Ahead W p ao cap L c f R1 → Calls Tryd.prog 40 #[.pointer (some ⟨p, 0, none⟩), .slice (some ⟨g, 0, none⟩) 5 5] (W.alloc (.cells #[.int .i64 1, .int .i64 10, .int .i64 2, .int .i64 3, .int .i64 4] 3)) fun e w' => e = .returned (tokV t) ∧ Ahead w' p ao cap L c f r1 ∧ Only (fun b => b = p) W w') := fun W g hg ha => hg ▸ take_lit_good [1, 10, 2, 3, 4] ha (by decide) hT
      have htg : t.good := HC.out.ah.good t (by rw [(take_eq hT).1]; exact List.mem_cons_self)
      have l1 := take_len hT
      unfold tokV at HT
      by_cases h16 : ls.length = 16
      · have HLm := hide (limit_eq (ls.length : Int) 16 23 (t.off : Int) (h := by omega))
        have HX : Hid (res = .bad 23 (t.off : Int)) := by show _ = _; rw [← HRes.out]; exact body_lim hT (by rw [List.length_map]; exact h16)
        clear hT
        clear h16 hls
        go_wp2_with (first
          | (go_at_call 40; refine (HT.out _ _ rfl HC.out.ah).mono ?_; rintro e w1 ⟨rfl, ha1, ho1⟩; have HC1 := hide (HC.out.move ho1 ha1); clear ha1 ho1)
          | (go_at_call 42; refine (HLm.out _).mono ?_; rintro e w2 ⟨rfl, hw⟩; have hw := hw.symm; subst hw))
        exact ⟨rfl, PB.out _ _ _ HX.out (HC1.out.below (belowA _ _)).end_⟩
      · have HLm := hide (limit_ok (ls.length : Int) 16 23 (t.off : Int) (h := by omega))
        have hls16 : ls.length < 16 := by omega
        have HLi0 := fun (W : World) (ha : Ahead W p ao cap L c f r1) => literal_any t ha htg
        cases hrl : litP c f t r1 with
        | bad ec eo =>
          rw [hrl] at HLi0
          have HLi := hide HLi0
          have HX : Hid (res = .bad ec eo) := by show _ = _; rw [← HRes.out]; exact body_lit hT (by rw [List.length_map]; exact h16) hrl
          clear HLi0 hT hrl h16
          unfold tokV at HLi
          go_wp2_with (first
            | (go_at_call 40; refine (HT.out _ _ rfl HC.out.ah).mono ?_; rintro e w1 ⟨rfl, ha1, ho1⟩; have HC1 := hide ((HC.out.move ho1 ha1).below (belowA w1 (.cells #[.int .i64 t.k, .string t.t, .int .i64 t.n, .int .i64 t.op, .int .i64 (t.off : Int), .int .i64 (t.en : Int)] 108))); clear ha1 ho1 HT)
            | (go_at_call 42; refine (HLm.out _).mono ?_; rintro e w2 ⟨⟨v2, rfl⟩, hw⟩; have hw := hw.symm; subst hw)
            | (go_at_call 58; refine (HLi.out _ HC1.out.ah).mono ?_; intro e w3 hq; obtain ⟨rfl, ho3⟩ := litPost_bad hq; clear hq))
          exact ⟨rfl, PB.out _ _ _ HX.out (HC1.out.endM ho3)⟩
        | ok x r2 =>
          rw [hrl] at HLi0
          have HLi := hide HLi0
          unfold tokV at HLi
          clear HLi0
          have l2 := lit_len hrl
          cases hU0 : takeP c f [7, 8] r2 with
          | bad ec eo =>
            have HU : Hid (∀ (W : World) (g : Nat), W.heap.size = g → Ahead W p ao cap L c f r2 → Calls Tryd.prog 40 #[.pointer (some ⟨p, 0, none⟩), .slice (some ⟨g, 0, none⟩) 2 2] (W.alloc (.cells #[.int .i64 7, .int .i64 8] 3)) fun e w' => e = PEnd ec eo ∧ Below W.heap.size W w') := fun W g hg ha => hg ▸ take_lit_fail [7, 8] ha (by decide) hU0
            have HX : Hid (res = .bad ec eo) := by show _ = _; rw [← HRes.out]; exact body_sep hT (by rw [List.length_map]; exact h16) hrl hU0
            clear hT hrl hU0 h16
            go_wp2_with (first
              | (go_at_call 40; refine (HT.out _ _ rfl HC.out.ah).mono ?_; rintro e w1 ⟨rfl, ha1, ho1⟩; have HC1 := hide ((HC.out.move ho1 ha1).below (belowA w1 (.cells #[.int .i64 t.k, .string t.t, .int .i64 t.n, .int .i64 t.op, .int .i64 (t.off : Int), .int .i64 (t.en : Int)] 108))); clear ha1 ho1 HT)
              | (go_at_call 42; refine (HLm.out _).mono ?_; rintro e w2 ⟨⟨v2, rfl⟩, hw⟩; have hw := hw.symm; subst hw)
              | (go_at_call 58; refine (HLi.out _ HC1.out.ah).mono ?_; intro e w3 hq; obtain ⟨⟨xk, ⟨ap, av, aoff, ats⟩, xop, xl, xr, xoff⟩, rfl, hpur, hok, ha3, ho3⟩ := litPost_ok hq; clear hq; obtain ⟨xa, xc, rfl, -⟩ := (show Lst elTrm _ _ av ats from hok.2.1.2.2).shape; have HPu := hide hpur; have HOk := hide (HC1.out.gr.behind HC1.out.hi elLix hok); have HC3 := hide (HC1.out.move ho3 ha3); have HC4 := hide (HC3.out.below (belowA w3 (.cells #[.int .i64 xk, .string ap, .slice xa ats.length xc, .int .i64 aoff, .int .i64 xop, .int .i64 xl.k, .int .i64 xl.n, .string xl.s, .int .i64 xl.off, .int .i64 xr.k, .int .i64 xr.n, .string xr.s, .int .i64 xr.off, .int .i64 xoff] 86))); have HOk4 := hide (elLix.move HOk.out fun b hlt hF => ⟨hF, (belowA w3 (.cells #[.int .i64 xk, .string ap, .slice xa ats.length xc, .int .i64 aoff, .int .i64 xop, .int .i64 xl.k, .int .i64 xl.n, .string xl.s, .int .i64 xl.off, .int .i64 xr.k, .int .i64 xr.n, .string xr.s, .int .i64 xr.off, .int .i64 xoff] 86)).block b hlt⟩); clear hpur hok ha3 ho3 HOk HLi; unfold Lix.val)
              | (at_builtin; obtain ⟨i0, hi0, hz0, hz1, hz2⟩ := info_parts Tryd.infoLit; refine wpList_push (w0 := w3.alloc (.cells #[.int .i64 xk, .string ap, .slice xa ats.length xc, .int .i64 aoff, .int .i64 xop, .int .i64 xl.k, .int .i64 xl.n, .string xl.s, .int .i64 xl.off, .int .i64 xr.k, .int .i64 xr.n, .string xr.s, .int .i64 xr.off, .int .i64 xoff] 86)) elLix rfl _ _ 56 rfl w.heap.size 86 i0 _ 152 Tryd.underlying56 hi0 hz0 hz1 hz2 rfl (by decide) _ ls ls.length rfl rfl HC4.out.gr ⟨xk, ⟨ap, .slice xa ats.length xc, aoff, ats⟩, xop, xl, xr, xoff⟩ w3.heap.size 1 rfl (fun j u hu => new_cells (cs := #[.int .i64 xk, .string ap, .slice xa ats.length xc, .int .i64 aoff, .int .i64 xop, .int .i64 xl.k, .int .i64 xl.n, .string xl.s, .int .i64 xl.off, .int .i64 xr.k, .int .i64 xr.n, .string xr.s, .int .i64 xr.off, .int .i64 xoff]) j u hu) HOk4.out (by omega) (Below.refl _ _) HC4.out.hi ?_; intro g cap' w5 HG5 HB5 HGr; clear HB5 hi0 hz0 hz1 hz2; have HC5 := hide (HC4.out.grown HGr.out HG5.out); clear HG5 HGr HC4 HOk4)
              | (go_at_call 40; refine (HU.out _ _ rfl HC5.out.ah).mono ?_; rintro e w6 ⟨rfl, hb6⟩))
            exact ⟨rfl, PB.out _ _ _ HX.out (HC5.out.below hb6).end_⟩
          | ok s r3 =>
            have HU : Hid (∀ (W : World) (g : Nat), W.heap.size = g → Ahead W p ao cap L c f r2 → Calls Tryd.prog 40 #[.pointer (some ⟨p, 0, none⟩), .slice (some ⟨g, 0, none⟩) 2 2] (W.alloc (.cells #[.int .i64 7, .int .i64 8] 3)) fun e w' => e = .returned (tokV s) ∧ Ahead w' p ao cap L c f r3 ∧ Only (fun b => b = p) W w') := fun W g hg ha => hg ▸ take_lit_good [7, 8] ha (by decide) hU0
            have hfd2 := tok_kind (.int .i64 s.k) (.string s.t) (.int .i64 s.n) (.int .i64 s.op) (.int .i64 (s.off : Int)) (.int .i64 (s.en : Int))
            have l3 := take_len hU0
            unfold tokV at HU
            by_cases h8 : s.k = 8
            · have e8 : (s.k == 8) = true := by simpa using h8
              have HX : Hid (res = .ok (ls.map Lix.pur ++ [x]) r3) := by show _ = _; rw [← HRes.out]; exact body_end hT (by rw [List.length_map]; exact h16) hrl hU0 h8
              clear hT hrl hU0 h16 h8
              go_wp2_with (first
                | (go_at_call 40; refine (HT.out _ _ rfl HC.out.ah).mono ?_; rintro e w1 ⟨rfl, ha1, ho1⟩; have HC1 := hide ((HC.out.move ho1 ha1).below (belowA w1 (.cells #[.int .i64 t.k, .string t.t, .int .i64 t.n, .int .i64 t.op, .int .i64 (t.off : Int), .int .i64 (t.en : Int)] 108))); clear ha1 ho1 HT)
                | (go_at_call 42; refine (HLm.out _).mono ?_; rintro e w2 ⟨⟨v2, rfl⟩, hw⟩; have hw := hw.symm; subst hw)
                | (go_at_call 58; refine (HLi.out _ HC1.out.ah).mono ?_; intro e w3 hq; obtain ⟨⟨xk, ⟨ap, av, aoff, ats⟩, xop, xl, xr, xoff⟩, rfl, hpur, hok, ha3, ho3⟩ := litPost_ok hq; clear hq; obtain ⟨xa, xc, rfl, -⟩ := (show Lst elTrm _ _ av ats from hok.2.1.2.2).shape; have HPu := hide hpur; have HOk := hide (HC1.out.gr.behind HC1.out.hi elLix hok); have HC3 := hide (HC1.out.move ho3 ha3); have HC4 := hide (HC3.out.below (belowA w3 (.cells #[.int .i64 xk, .string ap, .slice xa ats.length xc, .int .i64 aoff, .int .i64 xop, .int .i64 xl.k, .int .i64 xl.n, .string xl.s, .int .i64 xl.off, .int .i64 xr.k, .int .i64 xr.n, .string xr.s, .int .i64 xr.off, .int .i64 xoff] 86))); have HOk4 := hide (elLix.move HOk.out fun b hlt hF => ⟨hF, (belowA w3 (.cells #[.int .i64 xk, .string ap, .slice xa ats.length xc, .int .i64 aoff, .int .i64 xop, .int .i64 xl.k, .int .i64 xl.n, .string xl.s, .int .i64 xl.off, .int .i64 xr.k, .int .i64 xr.n, .string xr.s, .int .i64 xr.off, .int .i64 xoff] 86)).block b hlt⟩); clear hpur hok ha3 ho3 HOk HLi; unfold Lix.val)
                | (at_builtin; obtain ⟨i0, hi0, hz0, hz1, hz2⟩ := info_parts Tryd.infoLit; refine wpList_push (w0 := w3.alloc (.cells #[.int .i64 xk, .string ap, .slice xa ats.length xc, .int .i64 aoff, .int .i64 xop, .int .i64 xl.k, .int .i64 xl.n, .string xl.s, .int .i64 xl.off, .int .i64 xr.k, .int .i64 xr.n, .string xr.s, .int .i64 xr.off, .int .i64 xoff] 86)) elLix rfl _ _ 56 rfl w.heap.size 86 i0 _ 152 Tryd.underlying56 hi0 hz0 hz1 hz2 rfl (by decide) _ ls ls.length rfl rfl HC4.out.gr ⟨xk, ⟨ap, .slice xa ats.length xc, aoff, ats⟩, xop, xl, xr, xoff⟩ w3.heap.size 1 rfl (fun j u hu => new_cells (cs := #[.int .i64 xk, .string ap, .slice xa ats.length xc, .int .i64 aoff, .int .i64 xop, .int .i64 xl.k, .int .i64 xl.n, .string xl.s, .int .i64 xl.off, .int .i64 xr.k, .int .i64 xr.n, .string xr.s, .int .i64 xr.off, .int .i64 xoff]) j u hu) HOk4.out (by omega) (Below.refl _ _) HC4.out.hi ?_; intro g cap' w5 HG5 HB5 HGr; clear HB5 hi0 hz0 hz1 hz2; have HC5 := hide (HC4.out.grown HGr.out HG5.out); clear HG5 HGr HC4 HOk4)
                | (go_at_call 40; refine (HU.out _ _ rfl HC5.out.ah).mono ?_; rintro e w6 ⟨rfl, ha6, ho6⟩; have HC6 := hide (HC5.out.move ho6 ha6); clear ha6 ho6))
              exact PG.out _ _ _ _ _ HX.out (by rw [List.map_append, List.map_singleton, HPu.out]) (by simp; omega) HC6.out.gr HC6.out.ah HC6.out.end_
            · have e8 : (s.k == 8) = false := by simpa using h8
              have HX : Hid (bodyF c f n (ls.map Lix.pur ++ [x]) r3 = res) := by show _ = _; rw [← HRes.out]; exact (body_more hT (by rw [List.length_map]; exact h16) hrl hU0 h8).symm
              clear hT hrl hU0 h16 h8
              have HLn : Hid (r3.length < R1.length ∧ r3.length < n) := ⟨by omega, by omega⟩
              obtain ⟨ix, isz⟩ := HC.out.ah.index
              have HIx := hide (And.intro ix isz)
              clear l1 l2 l3 ix isz
              go_wp2_with (first
                | (go_at_call 40; refine (HT.out _ _ rfl HC.out.ah).mono ?_; rintro e w1 ⟨rfl, ha1, ho1⟩; have HC1 := hide ((HC.out.move ho1 ha1).below (belowA w1 (.cells #[.int .i64 t.k, .string t.t, .int .i64 t.n, .int .i64 t.op, .int .i64 (t.off : Int), .int .i64 (t.en : Int)] 108))); clear ha1 ho1 HT)
                | (go_at_call 42; refine (HLm.out _).mono ?_; rintro e w2 ⟨⟨v2, rfl⟩, hw⟩; have hw := hw.symm; subst hw)
                | (go_at_call 58; refine (HLi.out _ HC1.out.ah).mono ?_; intro e w3 hq; obtain ⟨⟨xk, ⟨ap, av, aoff, ats⟩, xop, xl, xr, xoff⟩, rfl, hpur, hok, ha3, ho3⟩ := litPost_ok hq; clear hq; obtain ⟨xa, xc, rfl, -⟩ := (show Lst elTrm _ _ av ats from hok.2.1.2.2).shape; have HPu := hide hpur; have HOk := hide (HC1.out.gr.behind HC1.out.hi elLix hok); have HC3 := hide (HC1.out.move ho3 ha3); have HC4 := hide (HC3.out.below (belowA w3 (.cells #[.int .i64 xk, .string ap, .slice xa ats.length xc, .int .i64 aoff, .int .i64 xop, .int .i64 xl.k, .int .i64 xl.n, .string xl.s, .int .i64 xl.off, .int .i64 xr.k, .int .i64 xr.n, .string xr.s, .int .i64 xr.off, .int .i64 xoff] 86))); have HOk4 := hide (elLix.move HOk.out fun b hlt hF => ⟨hF, (belowA w3 (.cells #[.int .i64 xk, .string ap, .slice xa ats.length xc, .int .i64 aoff, .int .i64 xop, .int .i64 xl.k, .int .i64 xl.n, .string xl.s, .int .i64 xl.off, .int .i64 xr.k, .int .i64 xr.n, .string xr.s, .int .i64 xr.off, .int .i64 xoff] 86)).block b hlt⟩); clear hpur hok ha3 ho3 HOk HLi; unfold Lix.val)
                | (at_builtin; obtain ⟨i0, hi0, hz0, hz1, hz2⟩ := info_parts Tryd.infoLit; refine wpList_push (w0 := w3.alloc (.cells #[.int .i64 xk, .string ap, .slice xa ats.length xc, .int .i64 aoff, .int .i64 xop, .int .i64 xl.k, .int .i64 xl.n, .string xl.s, .int .i64 xl.off, .int .i64 xr.k, .int .i64 xr.n, .string xr.s, .int .i64 xr.off, .int .i64 xoff] 86)) elLix rfl _ _ 56 rfl w.heap.size 86 i0 _ 152 Tryd.underlying56 hi0 hz0 hz1 hz2 rfl (by decide) _ ls ls.length rfl rfl HC4.out.gr ⟨xk, ⟨ap, .slice xa ats.length xc, aoff, ats⟩, xop, xl, xr, xoff⟩ w3.heap.size 1 rfl (fun j u hu => new_cells (cs := #[.int .i64 xk, .string ap, .slice xa ats.length xc, .int .i64 aoff, .int .i64 xop, .int .i64 xl.k, .int .i64 xl.n, .string xl.s, .int .i64 xl.off, .int .i64 xr.k, .int .i64 xr.n, .string xr.s, .int .i64 xr.off, .int .i64 xoff]) j u hu) HOk4.out (by omega) (Below.refl _ _) HC4.out.hi ?_; intro g cap' w5 HG5 HB5 HGr; clear HB5 hi0 hz0 hz1 hz2; have HC5 := hide (HC4.out.grown HGr.out HG5.out); clear HG5 HGr HC4 HOk4)
                | (go_at_call 40; refine (HU.out _ _ rfl HC5.out.ah).mono ?_; rintro e w6 ⟨rfl, ha6, ho6⟩; have HC6 := hide (HC5.out.move ho6 ha6); clear ha6 ho6))
              go_roundw
              case rel => exact ⟨n, ls ++ [⟨xk, ⟨ap, .slice xa ats.length xc, aoff, ats⟩, xop, xl, xr, xoff⟩], r3, by simp; omega, HLn.out.2, HC6, by show _ = _; rw [List.map_append, List.map_singleton, HPu.out]; exact HX.out⟩
              case measure =>
                obtain ⟨jx, -⟩ := HC6.out.ah.index
                have h1 := HLn.out
                have h2 := HIx.out
                omega
end Go.Proofs.YtilckhdaijfddaaDoor

namespace Go.Proofs.YtilckhdaijfddaaDoor
set_option linter.unusedSimpArgs false
set_option linter.unusedVariables false
open Go.RowKit

theorem fault_cells {V : World} {b : Nat} {u0 u1 u2 : Value} (h : V.heap[b]? = some (.cells #[u0, u1, u2] 45 (0, 0))) : (V.cell? ⟨b, 0, none⟩ = some u0 ∧ V.cell? ⟨b, 1, none⟩ = some u1 ∧ V.cell? ⟨b, 2, none⟩ = some u2) ∧ (V.frozen? ⟨b, 0, none⟩ = false ∧ V.frozen? ⟨b, 1, none⟩ = false ∧ V.frozen? ⟨b, 2, none⟩ = false) := by
  refine ⟨⟨?_, ?_, ?_⟩, ⟨?_, ?_, ?_⟩⟩ <;> simp [World.cell?, World.frozen?, h]

set_option maxRecDepth 100000 in
set_option maxHeartbeats 1000000 in
theorem idleProg (p : Addr) (w : World) :
    CallsD Tryd.prog 44 #[.pointer (some p)] .returning w fun e u' w' => e = .returned (.tuple #[]) ∧ u' = .returning ∧ w' = w := by
  refine callsD_of_wpS Tryd.func44 rfl fun c₀ cs hu => ?_
  apply wpS_seq
  apply wpS_region
  simp [wpOpsS, go_sem, recoverD, hu, Tryd.ntmps44, Exit.thenS]
  apply wpS_seq
  apply wpS_seq
  apply wpS_region
  simp [wpOpsS, go_sem, Exit.thenS]
  refine wpS_cond (t := true) (by simp [Act.eval, Array.replicate]) ?_
  simp only [if_true]
  refine wpS_of_wp (wp_ret ?_)
  cases c₀
  simp_all [bodyPostS, results, Tryd.results44, Exit.thenS]

set_option maxRecDepth 100000 in
set_option maxHeartbeats 1000000 in
theorem caughtProg (b : Nat) (c o : Int) (older : List PanicEntry) (w : World) (hb : w.heap[b]? = some (.cells #[.int .i64 0, .int .i64 0, .int .i64 0] 45 (0, 0))) :
    CallsD Tryd.prog 44 #[.pointer (some ⟨b, 0, none⟩)] (.panicking ({ v := faultP c o, recovered := false } :: older)) w fun e u' w' =>
      e = .returned (.tuple #[]) ∧ u' = .panicking ({ v := faultP c o, recovered := true } :: older) ∧ w'.heap[b]? = some (.cells #[.int .i64 c, .int .i64 0, .int .i64 o] 45 (0, 0)) ∧ Only (fun k => k = b) w w' := by
  obtain ⟨⟨c0, c1, c2⟩, ⟨z0, z1, z2⟩⟩ := fault_cells hb
  have hlt := (Array.getElem?_eq_some_iff.1 hb).1
  have hne : ¬ b = w.heap.size := by omega
  have hne2 : ¬ w.heap.size = b := by omega
  have hta : ∀ W : World, (Instr.typeAssert (faultP c o) 20 45 true).run Tryd.prog W = .ok (.tuple #[.agg #[.int .i64 c, .int .i64 0, .int .i64 o], .bool true]) W := fun W => by rfl
  refine callsD_of_wpS Tryd.func44 rfl fun c₀ cs hu => ?_
  apply wpS_seq
  apply wpS_region
  simp [wpOpsS, go_sem, recoverD, hu, Tryd.ntmps44, Exit.thenS]
  apply wpS_seq
  apply wpS_seq
  apply wpS_region
  simp [wpOpsS, go_sem, Exit.thenS]
  refine wpS_cond (t := false) (by simp [Act.eval, Array.replicate]) ?_
  simp only [Bool.false_eq_true, if_false]
  refine wpS_of_wp (wp_skip ?_)
  simp only [Exit.thenS]
  refine wpS_of_wp ?_
  change Code.wp _ _ _ ⟨#[.pointer (some ⟨b, 0, none⟩), faultP c o, undef, undef, faultP c o, faultP c o, .bool false, undef, undef, undef, undef, undef, undef, undef, undef, undef], []⟩ w
  go_wp2
  have hX : ((((w.setCell ⟨b, 0, none⟩ (.int .i64 c)).setCell ⟨b, 1, none⟩ (.int .i64 0)).setCell ⟨b, 2, none⟩ (.int .i64 o)).alloc (.cells #[.int .i64 c, .int .i64 0, .int .i64 o] 45)).heap[b]? = some (.cells #[.int .i64 c, .int .i64 0, .int .i64 o] 45 (0, 0)) := by
    rw [(belowA _ _).block _ (by simp; exact hlt)]
    simp [World.setCell, Array.getElem?_modify, hb]
  have hO : Only (fun k => k = b) w ((((w.setCell ⟨b, 0, none⟩ (.int .i64 c)).setCell ⟨b, 1, none⟩ (.int .i64 0)).setCell ⟨b, 2, none⟩ (.int .i64 o)).alloc (.cells #[.int .i64 c, .int .i64 0, .int .i64 o] 45)) :=
    ((((Only.refl (fun k => k = b) w).setCell (p := ⟨b, 0, none⟩) rfl _).setCell (p := ⟨b, 1, none⟩) rfl _).setCell (p := ⟨b, 2, none⟩) rfl _).alloc _
  generalize (((w.setCell ⟨b, 0, none⟩ (.int .i64 c)).setCell ⟨b, 1, none⟩ (.int .i64 0)).setCell ⟨b, 2, none⟩ (.int .i64 o)).alloc (.cells #[.int .i64 c, .int .i64 0, .int .i64 o] 45) = V at hX hO ⊢
  simp [bodyPostS, results, Tryd.results44, hX, hO]

set_option maxRecDepth 100000 in
set_option maxHeartbeats 1000000 in
theorem idleFacts (p : Addr) (w : World) :
    CallsD Tryd.prog 41 #[.pointer (some p)] .returning w fun e u' w' => e = .returned (.tuple #[]) ∧ u' = .returning ∧ w' = w := by
  refine callsD_of_wpS Tryd.func41 rfl fun c₀ cs hu => ?_
  apply wpS_seq
  apply wpS_region
  simp [wpOpsS, go_sem, recoverD, hu, Tryd.ntmps41, Exit.thenS]
  apply wpS_seq
  apply wpS_seq
  apply wpS_region
  simp [wpOpsS, go_sem, Exit.thenS]
  refine wpS_cond (t := true) (by simp [Act.eval, Array.replicate]) ?_
  simp only [if_true]
  refine wpS_of_wp (wp_ret ?_)
  cases c₀
  simp_all [bodyPostS, results, Tryd.results41, Exit.thenS]

set_option maxRecDepth 100000 in
set_option maxHeartbeats 1000000 in
theorem caughtFacts (b : Nat) (c o : Int) (older : List PanicEntry) (w : World) (hb : w.heap[b]? = some (.cells #[.int .i64 0, .int .i64 0, .int .i64 0] 45 (0, 0))) :
    CallsD Tryd.prog 41 #[.pointer (some ⟨b, 0, none⟩)] (.panicking ({ v := faultP c o, recovered := false } :: older)) w fun e u' w' =>
      e = .returned (.tuple #[]) ∧ u' = .panicking ({ v := faultP c o, recovered := true } :: older) ∧ w'.heap[b]? = some (.cells #[.int .i64 c, .int .i64 0, .int .i64 o] 45 (0, 0)) ∧ Only (fun k => k = b) w w' := by
  obtain ⟨⟨c0, c1, c2⟩, ⟨z0, z1, z2⟩⟩ := fault_cells hb
  have hlt := (Array.getElem?_eq_some_iff.1 hb).1
  have hne : ¬ b = w.heap.size := by omega
  have hne2 : ¬ w.heap.size = b := by omega
  have hta : ∀ W : World, (Instr.typeAssert (faultP c o) 20 45 true).run Tryd.prog W = .ok (.tuple #[.agg #[.int .i64 c, .int .i64 0, .int .i64 o], .bool true]) W := fun W => by rfl
  refine callsD_of_wpS Tryd.func41 rfl fun c₀ cs hu => ?_
  apply wpS_seq
  apply wpS_region
  simp [wpOpsS, go_sem, recoverD, hu, Tryd.ntmps41, Exit.thenS]
  apply wpS_seq
  apply wpS_seq
  apply wpS_region
  simp [wpOpsS, go_sem, Exit.thenS]
  refine wpS_cond (t := false) (by simp [Act.eval, Array.replicate]) ?_
  simp only [Bool.false_eq_true, if_false]
  refine wpS_of_wp (wp_skip ?_)
  simp only [Exit.thenS]
  refine wpS_of_wp ?_
  change Code.wp _ _ _ ⟨#[.pointer (some ⟨b, 0, none⟩), faultP c o, undef, undef, faultP c o, faultP c o, .bool false, undef, undef, undef, undef, undef, undef, undef, undef, undef], []⟩ w
  go_wp2
  have hX : ((((w.setCell ⟨b, 0, none⟩ (.int .i64 c)).setCell ⟨b, 1, none⟩ (.int .i64 0)).setCell ⟨b, 2, none⟩ (.int .i64 o)).alloc (.cells #[.int .i64 c, .int .i64 0, .int .i64 o] 45)).heap[b]? = some (.cells #[.int .i64 c, .int .i64 0, .int .i64 o] 45 (0, 0)) := by
    rw [(belowA _ _).block _ (by simp; exact hlt)]
    simp [World.setCell, Array.getElem?_modify, hb]
  have hO : Only (fun k => k = b) w ((((w.setCell ⟨b, 0, none⟩ (.int .i64 c)).setCell ⟨b, 1, none⟩ (.int .i64 0)).setCell ⟨b, 2, none⟩ (.int .i64 o)).alloc (.cells #[.int .i64 c, .int .i64 0, .int .i64 o] 45)) :=
    ((((Only.refl (fun k => k = b) w).setCell (p := ⟨b, 0, none⟩) rfl _).setCell (p := ⟨b, 1, none⟩) rfl _).setCell (p := ⟨b, 2, none⟩) rfl _).alloc _
  generalize (((w.setCell ⟨b, 0, none⟩ (.int .i64 c)).setCell ⟨b, 1, none⟩ (.int .i64 0)).setCell ⟨b, 2, none⟩ (.int .i64 o)).alloc (.cells #[.int .i64 c, .int .i64 0, .int .i64 o] 45) = V at hX hO ⊢
  simp [bodyPostS, results, Tryd.results41, hX, hO]

set_option maxRecDepth 100000 in
set_option maxHeartbeats 1000000 in
theorem idleQuery (p : Addr) (w : World) :
    CallsD Tryd.prog 46 #[.pointer (some p)] .returning w fun e u' w' => e = .returned (.tuple #[]) ∧ u' = .returning ∧ w' = w := by
  refine callsD_of_wpS Tryd.func46 rfl fun c₀ cs hu => ?_
  apply wpS_seq
  apply wpS_region
  simp [wpOpsS, go_sem, recoverD, hu, Tryd.ntmps46, Exit.thenS]
  apply wpS_seq
  apply wpS_seq
  apply wpS_region
  simp [wpOpsS, go_sem, Exit.thenS]
  refine wpS_cond (t := true) (by simp [Act.eval, Array.replicate]) ?_
  simp only [if_true]
  refine wpS_of_wp (wp_ret ?_)
  cases c₀
  simp_all [bodyPostS, results, Tryd.results46, Exit.thenS]

set_option maxRecDepth 100000 in
set_option maxHeartbeats 1000000 in
theorem caughtQuery (b : Nat) (c o : Int) (older : List PanicEntry) (w : World) (hb : w.heap[b]? = some (.cells #[.int .i64 0, .int .i64 0, .int .i64 0] 45 (0, 0))) :
    CallsD Tryd.prog 46 #[.pointer (some ⟨b, 0, none⟩)] (.panicking ({ v := faultP c o, recovered := false } :: older)) w fun e u' w' =>
      e = .returned (.tuple #[]) ∧ u' = .panicking ({ v := faultP c o, recovered := true } :: older) ∧ w'.heap[b]? = some (.cells #[.int .i64 c, .int .i64 0, .int .i64 o] 45 (0, 0)) ∧ Only (fun k => k = b) w w' := by
  obtain ⟨⟨c0, c1, c2⟩, ⟨z0, z1, z2⟩⟩ := fault_cells hb
  have hlt := (Array.getElem?_eq_some_iff.1 hb).1
  have hne : ¬ b = w.heap.size := by omega
  have hne2 : ¬ w.heap.size = b := by omega
  have hta : ∀ W : World, (Instr.typeAssert (faultP c o) 20 45 true).run Tryd.prog W = .ok (.tuple #[.agg #[.int .i64 c, .int .i64 0, .int .i64 o], .bool true]) W := fun W => by rfl
  refine callsD_of_wpS Tryd.func46 rfl fun c₀ cs hu => ?_
  apply wpS_seq
  apply wpS_region
  simp [wpOpsS, go_sem, recoverD, hu, Tryd.ntmps46, Exit.thenS]
  apply wpS_seq
  apply wpS_seq
  apply wpS_region
  simp [wpOpsS, go_sem, Exit.thenS]
  refine wpS_cond (t := false) (by simp [Act.eval, Array.replicate]) ?_
  simp only [Bool.false_eq_true, if_false]
  refine wpS_of_wp (wp_skip ?_)
  simp only [Exit.thenS]
  refine wpS_of_wp ?_
  change Code.wp _ _ _ ⟨#[.pointer (some ⟨b, 0, none⟩), faultP c o, undef, undef, faultP c o, faultP c o, .bool false, undef, undef, undef, undef, undef, undef, undef, undef, undef], []⟩ w
  go_wp2
  have hX : ((((w.setCell ⟨b, 0, none⟩ (.int .i64 c)).setCell ⟨b, 1, none⟩ (.int .i64 0)).setCell ⟨b, 2, none⟩ (.int .i64 o)).alloc (.cells #[.int .i64 c, .int .i64 0, .int .i64 o] 45)).heap[b]? = some (.cells #[.int .i64 c, .int .i64 0, .int .i64 o] 45 (0, 0)) := by
    rw [(belowA _ _).block _ (by simp; exact hlt)]
    simp [World.setCell, Array.getElem?_modify, hb]
  have hO : Only (fun k => k = b) w ((((w.setCell ⟨b, 0, none⟩ (.int .i64 c)).setCell ⟨b, 1, none⟩ (.int .i64 0)).setCell ⟨b, 2, none⟩ (.int .i64 o)).alloc (.cells #[.int .i64 c, .int .i64 0, .int .i64 o] 45)) :=
    ((((Only.refl (fun k => k = b) w).setCell (p := ⟨b, 0, none⟩) rfl _).setCell (p := ⟨b, 1, none⟩) rfl _).setCell (p := ⟨b, 2, none⟩) rfl _).alloc _
  generalize (((w.setCell ⟨b, 0, none⟩ (.int .i64 c)).setCell ⟨b, 1, none⟩ (.int .i64 0)).setCell ⟨b, 2, none⟩ (.int .i64 o)).alloc (.cells #[.int .i64 c, .int .i64 0, .int .i64 o] 45) = V at hX hO ⊢
  simp [bodyPostS, results, Tryd.results46, hX, hO]

/-- What read answers, by the pure rule's answer. -/
def faultV (c o : Int) : Value := .agg #[.int .i64 c, .int .i64 0, .int .i64 o]
theorem scan_ahead {w W : World} {v : Value} {s : ByteArray} (hb : Below w.heap.size w W) (ho : W.ownsRow w.heap.size 108 6 v (scanX s).1.length ((scanX s).1.flatMap cells6)) {W2 : World} (hb2 : Below W.heap.size W W2) {ao : Option Addr} {cap : Nat} (hv : v = .slice ao (scanX s).1.length cap) {p : Nat} (hp : W.heap.size ≤ p) (hblk : W2.heap[p]? = some (.cells #[.slice ao (scanX s).1.length cap, .int .i64 (scanX s).2.1, .int .i64 0, .int .i64 ((scanX s).2.2 : Int), .int .i64 0] 105 (0, 0))) :
    Ahead W2 p ao cap (scanX s).1 (scanX s).2.1 ((scanX s).2.2 : Int) (scanX s).1 := by
  refine ⟨0, ⟨hblk, fun h0 => ?_, Nat.zero_le _, (scan_good s).2, (scan_good s).1⟩, rfl⟩
  obtain ⟨g, cap', e, hbase, hlt, hr⟩ := own_toks ho h0
  rw [hv] at e
  injection e with e1 e2 e3
  exact ⟨g, e1, by omega, fun j t ht => (hr j t ht).kept hb2⟩

end Go.Proofs.YtilckhdaijfddaaDoor

namespace Go.Proofs.YtilckhdaijfddaaDoor
set_option linter.unusedSimpArgs false
set_option linter.unusedVariables false
open Go.RowKit

def Clx.pur (x : Clx) : PCls := ⟨x.h.pur, x.ls.map Lix.pur⟩
def Clx.val (c : Clx) : Value := .agg #[.string c.h.p, c.h.v, .int .i64 c.h.off, c.v]
def ClsPost (w : World) (p : Nat) (ao : Option Addr) (cap : Nat) (L : List Tok) (c f : Int) (res : PR PCls) (e : Ending) (w' : World) : Prop :=
  match res with
  | .bad ec eo => e = PEnd ec eo ∧ Only (fun k => k = p) w w'
  | .ok x r => ∃ a : Clx, e = .returned a.val ∧ a.pur = x ∧ elClx.ok w' (fun b => w.heap.size ≤ b) a ∧ Ahead w' p ao cap L c f r ∧ Only (fun k => k = p) w w'
theorem clsPost_bad {w w' : World} {p : Nat} {ao : Option Addr} {cap : Nat} {L : List Tok} {c f ec eo : Int} {e : Ending} (h : ClsPost w p ao cap L c f (.bad ec eo) e w') : e = PEnd ec eo ∧ Only (fun k => k = p) w w' := h
theorem clsPost_ok {w w' : World} {p : Nat} {ao : Option Addr} {cap : Nat} {L : List Tok} {c f : Int} {x : PCls} {r : List Tok} {e : Ending} (h : ClsPost w p ao cap L c f (.ok x r) e w') : ∃ a : Clx, e = .returned a.val ∧ a.pur = x ∧ elClx.ok w' (fun b => w.heap.size ≤ b) a ∧ Ahead w' p ao cap L c f r ∧ Only (fun k => k = p) w w' := h

theorem boxC_cells {V : World} {b : Nat} {u0 u1 u2 u3 : Value} (h : V.heap[b]? = some (.cells #[u0, u1, u2, u3] 58 (0, 0))) : (V.cell? ⟨b, 0, none⟩ = some u0 ∧ V.cell? ⟨b, 1, none⟩ = some u1 ∧ V.cell? ⟨b, 2, none⟩ = some u2 ∧ V.cell? ⟨b, 3, none⟩ = some u3) ∧ (V.frozen? ⟨b, 0, none⟩ = false ∧ V.frozen? ⟨b, 1, none⟩ = false ∧ V.frozen? ⟨b, 2, none⟩ = false ∧ V.frozen? ⟨b, 3, none⟩ = false) := by
  refine ⟨⟨?_, ?_, ?_, ?_⟩, ⟨?_, ?_, ?_, ?_⟩⟩ <;> simp [World.cell?, World.frozen?, h]
theorem boxC_put {V : World} {b : Nat} {u0 u1 u2 u3 : Value} (h : V.heap[b]? = some (.cells #[u0, u1, u2, u3] 58 (0, 0))) (x0 x1 x2 x3 : Value) :
    ((((V.setCell ⟨b, 0, none⟩ x0).setCell ⟨b, 1, none⟩ x1).setCell ⟨b, 2, none⟩ x2).setCell ⟨b, 3, none⟩ x3).heap[b]? = some (.cells #[x0, x1, x2, x3] 58 (0, 0)) := by
  simp [World.setCell, Array.getElem?_modify, h]
theorem boxC_only {V0 V : World} {S : Nat → Prop} (h : Only S V0 V) (b : Nat) (hb : S b) (x0 x1 x2 x3 : Value) : Only S V0 ((((V.setCell ⟨b, 0, none⟩ x0).setCell ⟨b, 1, none⟩ x1).setCell ⟨b, 2, none⟩ x2).setCell ⟨b, 3, none⟩ x3) :=
  (((h.setCell (p := ⟨b, 0, none⟩) hb _).setCell (p := ⟨b, 1, none⟩) hb _).setCell (p := ⟨b, 2, none⟩) hb _).setCell (p := ⟨b, 3, none⟩) hb _
theorem clsRes (W : World) (b : Nat) (u0 u1 u2 u3 : Value) (tmps : Array Value) (ht : tmps[4]? = some (.pointer (some ⟨b, 0, none⟩))) (hb : W.heap[b]? = some (.cells #[u0, u1, u2, u3] 58 (0, 0))) :
    (results Tryd.f45 tmps).run Tryd.prog W = .ok (.agg #[u0, u1, u2, u3]) W := by
  obtain ⟨⟨c0, c1, c2, c3⟩, -⟩ := boxC_cells hb
  simp [results, Tryd.results45, go_sem, ht, c0, c1, c2, c3]
theorem cls_fin {w W W' : World} {p : Nat} {ao : Option Addr} {cap : Nat} {L : List Tok} {c f : Int} {R0 r : List Tok} {x y : Obj} (h0 : Ahead w p ao cap L c f R0) (hA : Ahead W p ao cap L c f r) (hB : TwoBox w W p x y) {b5 : Nat} (hb5 : w.heap.size + 2 ≤ b5) (a : Clx) (z : PCls) (hz : a.pur = z) (hok : elClx.ok W (fun k => w.heap.size + 2 ≤ k ∧ k ≠ b5) a) (ho : Only (fun k => k = b5 ∨ k = w.heap.size + 1) W W') :
    ClsPost w p ao cap L c f (.ok z r) (.returned a.val) W' :=
  ⟨a, rfl, hz, elClx.move hok fun k hk hF => ⟨by omega, ho.block k hk (by omega)⟩, h0.box hA (ho.mono fun k _ (e : k = b5 ∨ k = w.heap.size + 1) => by omega), only_drop (hB.on.trans (ho.mono fun k _ (e : k = b5 ∨ k = w.heap.size + 1) => .inr (by omega)))⟩
/-- A third box, made behind the two. -/
theorem box_moved {W W' : World} {p b : Nat} {x : Obj} (h : W.heap[b]? = some x) (hp : p ≠ b) (ho : Only (fun k => k = p) W W') : W'.heap[b]? = some x := by
  rw [ho.block _ (Array.getElem?_eq_some_iff.1 h).1 (by omega)]; exact h

set_option maxHeartbeats 4000000 in
set_option maxRecDepth 100000 in
theorem clause_any {w : World} {p : Nat} {ao : Option Addr} {cap : Nat} {L : List Tok} {c f : Int} {R : List Tok} (name : Tok) (h : Ahead w p ao cap L c f R) (hname : name.good) :
    Calls Tryd.prog 45 #[.pointer (some ⟨p, 0, none⟩), tokV name] w (ClsPost w p ao cap L c f (clauseP c f name R)) := by
  have HAt0 := fun (W : World) (ha : Ahead W p ao cap L c f R) => atom_any name ha hname
  have H0 := hide h
  have hp := h.lt
  have HB := hide (TwoBox.start (w := w) hp (.cells #[.int .i64 name.k, .string name.t, .int .i64 name.n, .int .i64 name.op, .int .i64 (name.off : Int), .int .i64 (name.en : Int)] 108) (.cells #[.string ⟨#[]⟩, .slice none 0 0, .int .i64 0, .slice none 0 0] 58))
  have HA0 := hide (h.kept (below2a w (.cells #[.int .i64 name.k, .string name.t, .int .i64 name.n, .int .i64 name.op, .int .i64 (name.off : Int), .int .i64 (name.en : Int)] 108) (.cells #[.string ⟨#[]⟩, .slice none 0 0, .int .i64 0, .slice none 0 0] 58)))
  unfold tokV at HAt0 ⊢
  clear h
  cases hA : atomP c f termKs name R with
  | bad ec eo =>
    rw [show clauseP c f name R = .bad ec eo from by unfold clauseP; rw [hA]]
    rw [hA] at HAt0
    have HAt := hide HAt0
    clear HAt0 hA
    unfold ClsPost
    go_enter Tryd.func45, Tryd.ntmps45
    go_wp2_with (go_at_call 57; refine (HAt.out _ HA0.out).mono ?_; intro e w1 hq; obtain ⟨rfl, ho1⟩ := atmPost_bad hq; clear hq)
    exact ⟨rfl, rfl, only_drop (HB.out.move ho1).on⟩
  | ok a r1 =>
    rw [hA] at HAt0
    have HAt := hide HAt0
    clear HAt0
    cases hT : takeP c f [8, 9] r1 with
    | bad ec eo =>
      have HT : Hid (∀ (W : World) (g : Nat), W.heap.size = g → Ahead W p ao cap L c f r1 → Calls Tryd.prog 40 #[.pointer (some ⟨p, 0, none⟩), .slice (some ⟨g, 0, none⟩) 2 2] (W.alloc (.cells #[.int .i64 8, .int .i64 9] 3)) fun e w' => e = PEnd ec eo ∧ Below W.heap.size W w') := fun W g hg ha => hg ▸ take_lit_fail [8, 9] ha (by decide) hT
      rw [show clauseP c f name R = .bad ec eo from by unfold clauseP; rw [hA]; simp only; rw [hT]]
      clear hA hT
      unfold ClsPost
      go_enter Tryd.func45, Tryd.ntmps45
      go_wp2_with (first
        | (go_at_call 57; refine (HAt.out _ HA0.out).mono ?_; intro e w1 hq; obtain ⟨⟨ap, av, aoff, ats⟩, rfl, hpur, hok, ha1, ho1⟩ := atmPost_ok hq; clear hq; obtain ⟨xa, xc, rfl, -⟩ := (show Lst elTrm _ _ av ats from hok.2.2).shape; have HB1 := hide ((HB.out.move ho1).below (belowA w1 (.cells #[.string ap, .slice xa ats.length xc, .int .i64 aoff, .slice none 0 0] 58))); have HA1 := hide (ha1.kept (belowA w1 (.cells #[.string ap, .slice xa ats.length xc, .int .i64 aoff, .slice none 0 0] 58))); have HPu := hide hpur; have Hs1 := hide (Nat.le_trans (by simp) ho1.size : w.heap.size + 2 ≤ w1.heap.size); have HOk1 := hide (elAtx.move hok fun k hk hF => (⟨⟨by simp at hF; omega, by omega⟩, (belowA w1 (.cells #[.string ap, .slice xa ats.length xc, .int .i64 aoff, .slice none 0 0] 58)).block k hk⟩ : (w.heap.size + 2 ≤ k ∧ k ≠ w1.heap.size) ∧ _)); have HX1 := hide (heap_alloc_new w1 (.cells #[.string ap, .slice xa ats.length xc, .int .i64 aoff, .slice none 0 0] 58)); clear ha1 ho1 hpur hok HAt; unfold Atx.val)
        | (go_at_call 40; refine (HT.out _ _ (by simp) HA1.out).mono ?_; rintro e w2 ⟨rfl, hb2⟩))
      exact ⟨rfl, rfl, only_drop (HB1.out.below hb2).on⟩
    | ok s r2 =>
      have HT : Hid (∀ (W : World) (g : Nat), W.heap.size = g → Ahead W p ao cap L c f r1 → Calls Tryd.prog 40 #[.pointer (some ⟨p, 0, none⟩), .slice (some ⟨g, 0, none⟩) 2 2] (W.alloc (.cells #[.int .i64 8, .int .i64 9] 3)) fun e w' => e = .returned (tokV s) ∧ Ahead w' p ao cap L c f r2 ∧ Only (fun b => b = p) W w') := fun W g hg ha => hg ▸ take_lit_good [8, 9] ha (by decide) hT
      have hfd := tok_kind (.int .i64 s.k) (.string s.t) (.int .i64 s.n) (.int .i64 s.op) (.int .i64 (s.off : Int)) (.int .i64 (s.en : Int))
      unfold tokV at HT
      by_cases h9 : s.k = 9
      · have e9 : (s.k == 9) = true := by simpa using h9
        have HBo0 := fun (W : World) (ha : Ahead W p ao cap L c f r2) => body_any ha
        cases hB : bodyP c f r2 with
        | bad ec eo =>
          rw [hB] at HBo0
          have HBo := hide HBo0
          rw [show clauseP c f name R = .bad ec eo from by unfold clauseP; rw [hA]; simp only; rw [hT]; simp only; rw [if_pos h9, hB]]
          clear hA hT hB HBo0 h9
          unfold ClsPost
          go_enter Tryd.func45, Tryd.ntmps45
          go_wp2_with (first
            | (go_at_call 57; refine (HAt.out _ HA0.out).mono ?_; intro e w1 hq; obtain ⟨⟨ap, av, aoff, ats⟩, rfl, hpur, hok, ha1, ho1⟩ := atmPost_ok hq; clear hq; obtain ⟨xa, xc, rfl, -⟩ := (show Lst elTrm _ _ av ats from hok.2.2).shape; have HB1 := hide ((HB.out.move ho1).below (belowA w1 (.cells #[.string ap, .slice xa ats.length xc, .int .i64 aoff, .slice none 0 0] 58))); have HA1 := hide (ha1.kept (belowA w1 (.cells #[.string ap, .slice xa ats.length xc, .int .i64 aoff, .slice none 0 0] 58))); have HPu := hide hpur; have Hs1 := hide (Nat.le_trans (by simp) ho1.size : w.heap.size + 2 ≤ w1.heap.size); have HOk1 := hide (elAtx.move hok fun k hk hF => (⟨⟨by simp at hF; omega, by omega⟩, (belowA w1 (.cells #[.string ap, .slice xa ats.length xc, .int .i64 aoff, .slice none 0 0] 58)).block k hk⟩ : (w.heap.size + 2 ≤ k ∧ k ≠ w1.heap.size) ∧ _)); have HX1 := hide (heap_alloc_new w1 (.cells #[.string ap, .slice xa ats.length xc, .int .i64 aoff, .slice none 0 0] 58)); clear ha1 ho1 hpur hok HAt; unfold Atx.val)
            | (go_at_call 40; refine (HT.out _ _ (by simp) HA1.out).mono ?_; rintro e w2 ⟨rfl, ha2, ho2⟩; have HA2 := hide ha2; have HB2 := hide (HB1.out.move ho2); have HX2 := hide (box_moved HX1.out (by have := HB1.out.pl; have := Hs1.out; omega) ho2); have HOk2 := hide (elAtx.move HOk1.out fun k hk hF => ⟨hF, ho2.block k hk (by have := HB1.out.pl; omega)⟩); clear ha2 ho2)
            | (go_at_call 47; refine (HBo.out _ HA2.out).mono ?_; intro e w3 hq; obtain ⟨rfl, ho3⟩ := bodyPost_bad hq; clear hq))
          exact ⟨rfl, rfl, only_drop (HB2.out.move ho3).on⟩
        | ok b r3 =>
          rw [hB] at HBo0
          have HBo := hide HBo0
          rw [show clauseP c f name R = .ok ⟨a, b⟩ r3 from by unfold clauseP; rw [hA]; simp only; rw [hT]; simp only; rw [if_pos h9, hB]]
          clear hA hT hB HBo0 h9
          unfold ClsPost
          go_enter Tryd.func45, Tryd.ntmps45
          go_wp2_with (first
            | (go_at_call 57; refine (HAt.out _ HA0.out).mono ?_; intro e w1 hq; obtain ⟨⟨ap, av, aoff, ats⟩, rfl, hpur, hok, ha1, ho1⟩ := atmPost_ok hq; clear hq; obtain ⟨xa, xc, rfl, -⟩ := (show Lst elTrm _ _ av ats from hok.2.2).shape; have HB1 := hide ((HB.out.move ho1).below (belowA w1 (.cells #[.string ap, .slice xa ats.length xc, .int .i64 aoff, .slice none 0 0] 58))); have HA1 := hide (ha1.kept (belowA w1 (.cells #[.string ap, .slice xa ats.length xc, .int .i64 aoff, .slice none 0 0] 58))); have HPu := hide hpur; have Hs1 := hide (Nat.le_trans (by simp) ho1.size : w.heap.size + 2 ≤ w1.heap.size); have HOk1 := hide (elAtx.move hok fun k hk hF => (⟨⟨by simp at hF; omega, by omega⟩, (belowA w1 (.cells #[.string ap, .slice xa ats.length xc, .int .i64 aoff, .slice none 0 0] 58)).block k hk⟩ : (w.heap.size + 2 ≤ k ∧ k ≠ w1.heap.size) ∧ _)); have HX1 := hide (heap_alloc_new w1 (.cells #[.string ap, .slice xa ats.length xc, .int .i64 aoff, .slice none 0 0] 58)); clear ha1 ho1 hpur hok HAt; unfold Atx.val)
            | (go_at_call 40; refine (HT.out _ _ (by simp) HA1.out).mono ?_; rintro e w2 ⟨rfl, ha2, ho2⟩; have HA2 := hide ha2; have HB2 := hide (HB1.out.move ho2); have HX2 := hide (box_moved HX1.out (by have := HB1.out.pl; have := Hs1.out; omega) ho2); have HOk2 := hide (elAtx.move HOk1.out fun k hk hF => ⟨hF, ho2.block k hk (by have := HB1.out.pl; omega)⟩); clear ha2 ho2)
            | (go_at_call 47; refine (HBo.out _ HA2.out).mono ?_; intro e w3 hq; obtain ⟨bv, ls, rfl, hpur3, hl3, hgr3, ha3, ho3⟩ := bodyPost_ok hq; clear hq; obtain ⟨ba, bc, rfl, -⟩ := hgr3.shape; have HLs := hide (hgr3.new (by omega)); have HP3 := hide hpur3; have HA3 := hide ha3; have HB3 := hide (HB2.out.move ho3); have HX3 := hide (box_moved HX2.out (by have := HB1.out.pl; have := Hs1.out; omega) ho3); have HOk3 := hide (elAtx.move HOk2.out fun k hk hF => ⟨hF, ho3.block k hk (by have := HB1.out.pl; omega)⟩); have hs2 := HB2.out.lt; have hs1 := Hs1.out; clear hpur3 hl3 hgr3 ha3 ho3; obtain ⟨⟨k0, k1, k2, k3⟩, ⟨l0, l1, l2, l3⟩⟩ := boxC_cells HX3.out; obtain ⟨⟨m0, m1, m2, m3⟩, ⟨n0, n1, n2, n3⟩⟩ := boxC_cells HB3.out.b1; have q1 : ¬ w1.heap.size = w.heap.size + 1 := (by omega); have q2 : ¬ w.heap.size + 1 = w1.heap.size := (by omega)))
          have hbk : (w3.setCell ⟨w1.heap.size, 3, none⟩ (.slice ba ls.length bc)).heap[w.heap.size + 1]? = some (.cells #[.string ⟨#[]⟩, .slice none 0 0, .int .i64 0, .slice none 0 0] 58 (0, 0)) := by
            rw [((Only.refl (fun k => k = w1.heap.size) w3).setCell (p := ⟨w1.heap.size, 3, none⟩) rfl _).block _ (Array.getElem?_eq_some_iff.1 HB3.out.b1).1 q2]; exact HB3.out.b1
          have hlt := (Array.getElem?_eq_some_iff.1 HX2.out).1
          refine bodyPost_ret (clsRes _ (w.heap.size + 1) _ _ _ _ _ rfl (boxC_put hbk _ _ _ _)) rfl ?_
          exact cls_fin H0.out HA3.out HB3.out hs1 ⟨⟨ap, _, aoff, ats⟩, .slice ba ls.length bc, ls⟩ _ (by unfold Clx.pur; rw [HPu.out, HP3.out]) ⟨HOk3.out, HLs.out.move fun k _ hF => ⟨⟨by omega, by omega⟩, rfl⟩⟩ (boxC_only ((Only.refl _ w3).setCell (p := ⟨w1.heap.size, 3, none⟩) (.inl rfl) _) _ (.inr rfl) _ _ _ _)
      · have e9 : (s.k == 9) = false := by simpa using h9
        rw [show clauseP c f name R = .ok ⟨a, []⟩ r2 from by unfold clauseP; rw [hA]; simp only; rw [hT]; simp only; rw [if_neg h9]]
        clear hA hT h9
        unfold ClsPost
        go_enter Tryd.func45, Tryd.ntmps45
        go_wp2_with (first
          | (go_at_call 57; refine (HAt.out _ HA0.out).mono ?_; intro e w1 hq; obtain ⟨⟨ap, av, aoff, ats⟩, rfl, hpur, hok, ha1, ho1⟩ := atmPost_ok hq; clear hq; obtain ⟨xa, xc, rfl, -⟩ := (show Lst elTrm _ _ av ats from hok.2.2).shape; have HB1 := hide ((HB.out.move ho1).below (belowA w1 (.cells #[.string ap, .slice xa ats.length xc, .int .i64 aoff, .slice none 0 0] 58))); have HA1 := hide (ha1.kept (belowA w1 (.cells #[.string ap, .slice xa ats.length xc, .int .i64 aoff, .slice none 0 0] 58))); have HPu := hide hpur; have Hs1 := hide (Nat.le_trans (by simp) ho1.size : w.heap.size + 2 ≤ w1.heap.size); have HOk1 := hide (elAtx.move hok fun k hk hF => (⟨⟨by simp at hF; omega, by omega⟩, (belowA w1 (.cells #[.string ap, .slice xa ats.length xc, .int .i64 aoff, .slice none 0 0] 58)).block k hk⟩ : (w.heap.size + 2 ≤ k ∧ k ≠ w1.heap.size) ∧ _)); have HX1 := hide (heap_alloc_new w1 (.cells #[.string ap, .slice xa ats.length xc, .int .i64 aoff, .slice none 0 0] 58)); clear ha1 ho1 hpur hok HAt; unfold Atx.val)
          | (go_at_call 40; refine (HT.out _ _ (by simp) HA1.out).mono ?_; rintro e w2 ⟨rfl, ha2, ho2⟩; have HA2 := hide ha2; have HB2 := hide (HB1.out.move ho2); have HX2 := hide (box_moved HX1.out (by have := HB1.out.pl; have := Hs1.out; omega) ho2); have HOk2 := hide (elAtx.move HOk1.out fun k hk hF => ⟨hF, ho2.block k hk (by have := HB1.out.pl; omega)⟩); clear ha2 ho2; have hs1 := Hs1.out; obtain ⟨⟨k0, k1, k2, k3⟩, ⟨l0, l1, l2, l3⟩⟩ := boxC_cells HX2.out; obtain ⟨⟨m0, m1, m2, m3⟩, ⟨n0, n1, n2, n3⟩⟩ := boxC_cells HB2.out.b1; have q1 : ¬ w1.heap.size = w.heap.size + 1 := (by omega); have q2 : ¬ w.heap.size + 1 = w1.heap.size := (by omega)))
        refine bodyPost_ret (clsRes _ (w.heap.size + 1) _ _ _ _ _ rfl (boxC_put HB2.out.b1 _ _ _ _)) rfl ?_
        exact cls_fin H0.out HA2.out HB2.out Hs1.out ⟨⟨ap, _, aoff, ats⟩, .slice none 0 0, []⟩ _ (by unfold Clx.pur; rw [HPu.out]; rfl) ⟨HOk2.out, Lst.nil _ _ _⟩ (boxC_only (Only.refl _ w2) _ (.inr rfl) _ _ _ _)
end Go.Proofs.YtilckhdaijfddaaDoor

namespace Go.Proofs.YtilckhdaijfddaaDoor
set_option linter.unusedSimpArgs false
set_option linter.unusedVariables false
open Go.RowKit

theorem Tryd.infoCls : (Tryd.prog.info? 58).map (fun i => (i.zero, i.size, i.bytes)) = some (some (.agg #[.string ⟨#[]⟩, .slice none 0 0, .int .i64 0, .slice none 0 0]), 4, 72) := by kernel_rfl

def ProgPost (w : World) (p : Nat) (ao : Option Addr) (cap : Nat) (L : List Tok) (c f : Int) (res : PR (List PCls)) (e : Ending) (w' : World) : Prop :=
  match res with
  | .bad ec eo => e = PEnd ec eo ∧ Only (fun k => k = p) w w'
  | .ok b r => ∃ v cs, e = .returned (.agg #[v]) ∧ cs.map Clx.pur = b ∧ cs.length ≤ 512 ∧ Grow elClx 58 w.heap.size w' v cs ∧ Ahead w' p ao cap L c f r ∧ Only (fun k => k = p) w w'
theorem progPost_bad {w w' : World} {p : Nat} {ao : Option Addr} {cap : Nat} {L : List Tok} {c f ec eo : Int} {e : Ending} (h : ProgPost w p ao cap L c f (.bad ec eo) e w') : e = PEnd ec eo ∧ Only (fun k => k = p) w w' := h
theorem progPost_ok {w w' : World} {p : Nat} {ao : Option Addr} {cap : Nat} {L : List Tok} {c f : Int} {x : List PCls} {r : List Tok} {e : Ending} (h : ProgPost w p ao cap L c f (.ok x r) e w') : ∃ v cs, e = .returned (.agg #[v]) ∧ cs.map Clx.pur = x ∧ cs.length ≤ 512 ∧ Grow elClx 58 w.heap.size w' v cs ∧ Ahead w' p ao cap L c f r ∧ Only (fun k => k = p) w w' := h

/-- What the loop of a program's clauses keeps in memory. -/
structure PrgAt (w wr : World) (p : Nat) (ao : Option Addr) (cap : Nat) (L : List Tok) (c f : Int) (R : List Tok) (v : Value) (cs : List Clx) : Prop where
  col : Coll3 elClx 58 w wr p ao cap L c f R (w.heap.size + 2) v cs
  b0 : wr.heap[w.heap.size]? = some (.cells #[.slice none 0 0] 61 (0, 0))
  b1 : wr.heap[w.heap.size + 1]? = some (.cells #[v] 61 (0, 0))
section
variable {w wr wr' : World} {p : Nat} {ao : Option Addr} {cap : Nat} {L : List Tok} {c f : Int} {R R' : List Tok} {v v' : Value} {cs cs' : List Clx}
theorem PrgAt.move (h : PrgAt w wr p ao cap L c f R v cs) (ho : Only (fun k => k = p) wr wr') (ha : Ahead wr' p ao cap L c f R') : PrgAt w wr' p ao cap L c f R' v cs :=
  ⟨h.col.move ho ha, box_moved h.b0 (by have := h.col.pl; omega) ho, box_moved h.b1 (by have := h.col.pl; omega) ho⟩
theorem PrgAt.below (h : PrgAt w wr p ao cap L c f R v cs) (hb : Below wr.heap.size wr wr') : PrgAt w wr' p ao cap L c f R v cs := h.move (Only.of_below hb _) (h.col.ah.kept hb)
theorem PrgAt.drew (h : PrgAt w wr p ao cap L c f R v cs) : PrgAt w wr.drew p ao cap L c f R v cs := h.below (Below.refl _ _).drew
theorem PrgAt.cells (h : PrgAt w wr p ao cap L c f R v cs) : wr.cell? ⟨w.heap.size, 0, none⟩ = some (.slice none 0 0) ∧ wr.frozen? ⟨w.heap.size, 0, none⟩ = false ∧ wr.cell? ⟨w.heap.size + 1, 0, none⟩ = some v ∧ wr.frozen? ⟨w.heap.size + 1, 0, none⟩ = false := by
  refine ⟨?_, ?_, ?_, ?_⟩ <;> simp [World.cell?, World.frozen?, h.b0, h.b1]
theorem PrgAt.far (h : PrgAt w wr p ao cap L c f R v cs) (hg : wr.grownBy wr' v.ownBlock) : wr'.heap[w.heap.size + 1]? = some (.cells #[v] 61 (0, 0)) := by
  have ho : Only (fun k => w.heap.size + 2 ≤ k) wr wr' := (Only.refl _ wr).grown hg (fun k hk _ => own_new h.col.gr.1 k hk)
  rw [ho.block _ (Array.getElem?_eq_some_iff.1 h.b1).1 (by omega)]; exact h.b1
theorem PrgAt.push (h : PrgAt w wr p ao cap L c f R v cs) (hg : wr.grownBy wr' v.ownBlock) (hG : Grow elClx 58 (w.heap.size + 2) wr' v' cs') : PrgAt w (wr'.setCell ⟨w.heap.size + 1, 0, none⟩ v') p ao cap L c f R v' cs' := by
  have hp := h.col.pl
  have hc := h.col.grown hg hG
  have ho : Only (fun k => w.heap.size + 2 ≤ k) wr wr' := (Only.refl _ wr).grown hg (fun k hk _ => own_new h.col.gr.1 k hk)
  have ho2 : Only (fun k => k = w.heap.size + 1) wr' (wr'.setCell ⟨w.heap.size + 1, 0, none⟩ v') := (Only.refl (fun k => k = w.heap.size + 1) wr').setCell (p := ⟨w.heap.size + 1, 0, none⟩) rfl _
  have hb0 : wr'.heap[w.heap.size]? = some (.cells #[.slice none 0 0] 61 (0, 0)) := by rw [ho.block _ (Array.getElem?_eq_some_iff.1 h.b0).1 (by omega)]; exact h.b0
  refine ⟨⟨?_, hc.gr.above fun b hb hlt => ho2.block b hlt (by omega), hc.on.trans (ho2.mono fun k _ (e : k = w.heap.size + 1) => .inr (by omega)), hp, hc.tk, hc.lo, Nat.le_trans hc.hi ho2.size⟩, ?_, ?_⟩
  · obtain ⟨i, q1, q2⟩ := hc.ah
    exact ⟨i, q1.only ho2 (by omega) (fun g hg hl => by have := hc.tk g hg hl; omega), q2⟩
  · rw [ho2.block _ (Array.getElem?_eq_some_iff.1 hb0).1 (by omega)]; exact hb0
  · have := h.far hg
    simp [World.setCell, Array.getElem?_modify, this]
theorem PrgAt.start (h : Ahead w p ao cap L c f R) : PrgAt w ((w.alloc (.cells #[.slice none 0 0] 61)).alloc (.cells #[.slice none 0 0] 61)) p ao cap L c f R (.slice none 0 0) [] :=
  have hb := TwoBox.start h.lt (.cells #[.slice none 0 0] 61) (.cells #[.slice none 0 0] 61)
  ⟨⟨h.kept (below2a _ _ _), Grow.nil _ _ _ _, hb.on, h.lt, h.tk, by omega, by simp⟩, hb.b0, hb.b1⟩
end
theorem prgRes (W : World) (b : Nat) (u0 : Value) (tmps : Array Value) (ht : tmps[2]? = some (.pointer (some ⟨b, 0, none⟩))) (hb : W.heap[b]? = some (.cells #[u0] 61 (0, 0))) :
    (results Tryd.f29 tmps).run Tryd.prog W = .ok (.agg #[u0]) W := by
  have c0 : W.cell? ⟨b, 0, none⟩ = some u0 := by simp [World.cell?, hb]
  simp [results, Tryd.results29, go_sem, ht, c0]

set_option maxHeartbeats 4000000 in
set_option maxRecDepth 100000 in
theorem program_any {w : World} {p : Nat} {ao : Option Addr} {cap : Nat} {L : List Tok} {c f : Int} {R : List Tok} (h : Ahead w p ao cap L c f R) :
    Calls Tryd.prog 29 #[.pointer (some ⟨p, 0, none⟩)] w (ProgPost w p ao cap L c f (progP c f R)) := by
  obtain ⟨res, hres⟩ : ∃ res, progP c f R = res := ⟨_, rfl⟩
  rw [hres]
  have HRes0 : Hid (progF c f (R.length + 1) [] R = res) := hres
  obtain ⟨Post, hPost⟩ : ∃ Post : Ending → World → Prop, Post = ProgPost w p ao cap L c f res := ⟨_, rfl⟩
  rw [← hPost]
  have PB : Hid (∀ ec eo w', res = .bad ec eo → Only (fun k => k = p) w w' → Post (PEnd ec eo) w') := fun ec eo w' hr ho => by
    rw [hPost, hr]; exact ⟨rfl, ho⟩
  have PG : Hid (∀ b r' v cs w', res = .ok b r' → cs.map Clx.pur = b → cs.length ≤ 512 → Grow elClx 58 w.heap.size w' v cs → Ahead w' p ao cap L c f r' → Only (fun k => k = p) w w' → Post (.returned (.agg #[v])) w') := fun b r' v cs w' hr h1 h2 h3 h4 h5 => by
    rw [hPost, hr]; exact ⟨v, cs, rfl, h1, h2, h3, h4, h5⟩
  have HC0 := hide (PrgAt.start h)
  have H0 := hide h
  clear hPost h hres
  go_enter Tryd.func29, Tryd.ntmps29
  go_wp2
  go_loopw [4] (fun _ wr => ∃ (n : Nat) (cs : List Clx) (R1 : List Tok) (v : Value), cs.length ≤ 512 ∧ R1.length < n ∧ Hid (PrgAt w wr p ao cap L c f R1 v cs) ∧ Hid (progF c f n (cs.map Clx.pur) R1 = res)) (fun _ wr => 70000 - (intOf ((wr.cell? ⟨p, 4, none⟩).getD undef)).toNat)
  case atStart => exact ⟨R.length + 1, [], R, _, by simp, by omega, HC0, HRes0⟩
  case round =>
    clear HC0 HRes0
    obtain ⟨n, cs, R1, v, hcs, hn, HC, HRes⟩ := hrel
    obtain ⟨n, rfl⟩ : ∃ m, n = m + 1 := ⟨n - 1, by omega⟩
    obtain ⟨va, vc, rfl, -⟩ := HC.out.col.gr.shape
    cases hT : takeP c f [1, 0] R1 with
    | bad ec eo =>
      have HT : Hid (∀ (W : World) (g : Nat), W.heap.size = g → Ahead W p ao cap L c f R1 → Calls Tryd.prog 40 #[.pointer (some ⟨p, 0, none⟩), .slice (some ⟨g, 0, none⟩) 2 2] (W.alloc (.cells #[.int .i64 1, .int .i64 0] 3)) fun e w' => e = PEnd ec eo ∧ Below W.heap.size W w') := fun W g hg ha => hg ▸ take_lit_fail [1, 0] ha (by decide) hT
      have HX : Hid (res = .bad ec eo) := by show _ = _; rw [← HRes.out]; exact prog_bad1 hT
      clear hT
      go_wp2_with (go_at_call 40; refine (HT.out _ _ rfl HC.out.col.ah).mono ?_; rintro e w1 ⟨rfl, hb1⟩)
      exact ⟨rfl, PB.out _ _ _ HX.out (HC.out.col.below hb1).end_⟩
    | ok t r1 =>
      have HT : Hid (∀ (W : World) (g : Nat), W.heap.size = g → Ahead W p ao cap L c f R1 → Calls Tryd.prog 40 #[.pointer (some ⟨p, 0, none⟩), .slice (some ⟨g, 0, none⟩) 2 2] (W.alloc (.cells #[.int .i64 1, .int .i64 0] 3)) fun e w' => e = .returned (tokV t) ∧ Ahead w' p ao cap L c f r1 ∧ Only (fun b => b = p) W w') := fun W g hg ha => hg ▸ take_lit_good [1, 0] ha (by decide) hT
      have htg : t.good := HC.out.col.ah.good t (by rw [(take_eq hT).1]; exact List.mem_cons_self)
      have l1 := take_len hT
      unfold tokV at HT
      by_cases h0 : t.k = 0
      · have e0 : (t.k == 0) = true := by simpa using h0
        have HX : Hid (res = .ok (cs.map Clx.pur) r1) := by show _ = _; rw [← HRes.out]; exact prog_end hT h0
        clear hT h0
        go_wp2_with (go_at_call 40; refine (HT.out _ _ rfl HC.out.col.ah).mono ?_; rintro e w1 ⟨rfl, ha1, ho1⟩; have HwR := hide ho1.size; have Hw1 := hide (Nat.le_trans HC.out.col.hi ho1.size); have HC1 := hide ((HC.out.move ho1 ha1).below (belowA w1 (.cells #[.int .i64 t.k, .string t.t, .int .i64 t.n, .int .i64 t.op, .int .i64 (t.off : Int), .int .i64 (t.en : Int)] 108))); clear ha1 ho1 HT; obtain ⟨q0, q1, q2, q3⟩ := HC1.out.cells)
        have hs := HC1.out.col.hi
        have ho2 : Only (fun k => k = w.heap.size) (w1.alloc (.cells #[.int .i64 t.k, .string t.t, .int .i64 t.n, .int .i64 t.op, .int .i64 (t.off : Int), .int .i64 (t.en : Int)] 108)) ((w1.alloc (.cells #[.int .i64 t.k, .string t.t, .int .i64 t.n, .int .i64 t.op, .int .i64 (t.off : Int), .int .i64 (t.en : Int)] 108)).setCell ⟨w.heap.size, 0, none⟩ (.slice va cs.length vc)) := (Only.refl (fun k => k = w.heap.size) _).setCell (p := ⟨w.heap.size, 0, none⟩) rfl _
        obtain ⟨z1, z2⟩ := fin_ahead H0.out HC1.out.col.ah HC1.out.col.on ho2 (Nat.le_refl _)
        refine bodyPost_ret (prgRes _ w.heap.size (.slice va cs.length vc) _ rfl (by have := HC1.out.b0; simp [World.setCell, Array.getElem?_modify, this])) rfl ?_
        exact PG.out _ _ _ _ _ HX.out rfl hcs ((HC1.out.col.gr.above fun b hb hlt => ho2.block b hlt (by omega)).mono (by omega)) z1 z2
      · have e0 : (t.k == 0) = false := by simpa using h0
        by_cases h512 : cs.length = 512
        · have HLm := hide (limit_eq (cs.length : Int) 512 24 (t.off : Int) (h := by omega))
          have HX : Hid (res = .bad 24 (t.off : Int)) := by show _ = _; rw [← HRes.out]; exact prog_lim hT h0 (by rw [List.length_map]; exact h512)
          clear hT h0 h512 hcs
          go_wp2_with (first
            | (go_at_call 40; refine (HT.out _ _ rfl HC.out.col.ah).mono ?_; rintro e w1 ⟨rfl, ha1, ho1⟩; have HwR := hide ho1.size; have Hw1 := hide (Nat.le_trans HC.out.col.hi ho1.size); have HC1 := hide ((HC.out.move ho1 ha1).below (belowA w1 (.cells #[.int .i64 t.k, .string t.t, .int .i64 t.n, .int .i64 t.op, .int .i64 (t.off : Int), .int .i64 (t.en : Int)] 108))); clear ha1 ho1 HT; obtain ⟨q0, q1, q2, q3⟩ := HC1.out.cells)
            | (go_at_call 42; refine (HLm.out _).mono ?_; rintro e w2 ⟨rfl, hw⟩; have hw := hw.symm; subst hw))
          exact ⟨rfl, PB.out _ _ _ HX.out HC1.out.col.end_⟩
        · have HLm := hide (limit_ok (cs.length : Int) 512 24 (t.off : Int) (h := by omega))
          have hcs5 : cs.length < 512 := by omega
          have HCl0 := fun (W : World) (ha : Ahead W p ao cap L c f r1) => clause_any t ha htg
          unfold tokV at HCl0
          cases hC : clauseP c f t r1 with
          | bad ec eo =>
            rw [hC] at HCl0
            have HCl := hide HCl0
            have HX : Hid (res = .bad ec eo) := by show _ = _; rw [← HRes.out]; exact prog_cls hT h0 (by rw [List.length_map]; exact h512) hC
            clear hT h0 h512 hC HCl0
            go_wp2_with (first
              | (go_at_call 40; refine (HT.out _ _ rfl HC.out.col.ah).mono ?_; rintro e w1 ⟨rfl, ha1, ho1⟩; have HwR := hide ho1.size; have Hw1 := hide (Nat.le_trans HC.out.col.hi ho1.size); have HC1 := hide ((HC.out.move ho1 ha1).below (belowA w1 (.cells #[.int .i64 t.k, .string t.t, .int .i64 t.n, .int .i64 t.op, .int .i64 (t.off : Int), .int .i64 (t.en : Int)] 108))); clear ha1 ho1 HT; obtain ⟨q0, q1, q2, q3⟩ := HC1.out.cells)
              | (go_at_call 42; refine (HLm.out _).mono ?_; rintro e w2 ⟨⟨v2, rfl⟩, hw⟩; have hw := hw.symm; subst hw))
            go_region_with (first
              | (go_at_call 45; refine (HCl.out _ (by first | exact HC1.out.col.ah.drew | exact HC1.out.col.ah)).mono ?_; intro e w3 hq; obtain ⟨rfl, ho3⟩ := clsPost_bad hq; clear hq; refine panic_ends (P := Tryd.prog) (w := w3) ⟨rfl, PB.out _ _ _ HX.out (by first | exact HC1.out.drew.col.endM ho3 | exact HC1.out.col.endM ho3)⟩ ?_))
            all_goals trivial
          | ok x r2 =>
            rw [hC] at HCl0
            have HCl := hide HCl0
            have l2 := clause_len hC
            have HX : Hid (progF c f n (cs.map Clx.pur ++ [x]) r2 = res) := by show _ = _; rw [← HRes.out]; exact (prog_more hT h0 (by rw [List.length_map]; exact h512) hC).symm
            have HLn : Hid (r2.length < R1.length ∧ r2.length < n) := ⟨by omega, by omega⟩
            obtain ⟨ix, isz⟩ := HC.out.col.ah.index
            have HIx := hide (And.intro ix isz)
            clear hT h0 h512 hC HCl0 l1 l2 ix isz
            go_wp2_with (first
              | (go_at_call 40; refine (HT.out _ _ rfl HC.out.col.ah).mono ?_; rintro e w1 ⟨rfl, ha1, ho1⟩; have HwR := hide ho1.size; have Hw1 := hide (Nat.le_trans HC.out.col.hi ho1.size); have HC1 := hide ((HC.out.move ho1 ha1).below (belowA w1 (.cells #[.int .i64 t.k, .string t.t, .int .i64 t.n, .int .i64 t.op, .int .i64 (t.off : Int), .int .i64 (t.en : Int)] 108))); clear ha1 ho1 HT; obtain ⟨q0, q1, q2, q3⟩ := HC1.out.cells)
              | (go_at_call 42; refine (HLm.out _).mono ?_; rintro e w2 ⟨⟨v2, rfl⟩, hw⟩; have hw := hw.symm; subst hw))
            obtain ⟨Z, hZ⟩ : ∃ Z, Z = w1.alloc (.cells #[.int .i64 t.k, .string t.t, .int .i64 t.n, .int .i64 t.op, .int .i64 (t.off : Int), .int .i64 (t.en : Int)] 108) := ⟨_, rfl⟩
            rw [← hZ] at HC1 ⊢
            have hTk : Z.heap[w1.heap.size]? = some (.cells #[.int .i64 t.k, .string t.t, .int .i64 t.n, .int .i64 t.op, .int .i64 (t.off : Int), .int .i64 (t.en : Int)] 108 (0, 0)) := by rw [hZ]; exact heap_alloc_new w1 _
            have hw1 : w.heap.size + 2 ≤ w1.heap.size := Hw1.out
            have HSof : Hid (∀ V : World, V.heap[w.heap.size + 1]? = some (.cells #[.slice va cs.length vc] 61 (0, 0)) → V.heap[w1.heap.size]? = some (.cells #[.int .i64 t.k, .string t.t, .int .i64 t.n, .int .i64 t.op, .int .i64 (t.off : Int), .int .i64 (t.en : Int)] 108 (0, 0)) → V.cell? ⟨w.heap.size + 1, 0, none⟩ = some (.slice va cs.length vc) ∧ V.cell? ⟨w1.heap.size, 0, none⟩ = some (.int .i64 t.k) ∧ V.cell? ⟨w1.heap.size, 1, none⟩ = some (.string t.t) ∧ V.cell? ⟨w1.heap.size, 2, none⟩ = some (.int .i64 t.n) ∧ V.cell? ⟨w1.heap.size, 3, none⟩ = some (.int .i64 t.op) ∧ V.cell? ⟨w1.heap.size, 4, none⟩ = some (.int .i64 (t.off : Int)) ∧ V.cell? ⟨w1.heap.size, 5, none⟩ = some (.int .i64 (t.en : Int))) := fun V h1 h2 => ⟨by simp [World.cell?, h1], tok_cells h2⟩
            have HTk := hide hTk
            clear hZ
            clear q0 q1 q2 q3
            refine wp_region_last (by kernel_rfl) (fun V => V.cell? ⟨w.heap.size + 1, 0, none⟩ = some (.slice va cs.length vc) ∧ V.cell? ⟨w1.heap.size, 0, none⟩ = some (.int .i64 t.k) ∧ V.cell? ⟨w1.heap.size, 1, none⟩ = some (.string t.t) ∧ V.cell? ⟨w1.heap.size, 2, none⟩ = some (.int .i64 t.n) ∧ V.cell? ⟨w1.heap.size, 3, none⟩ = some (.int .i64 t.op) ∧ V.cell? ⟨w1.heap.size, 4, none⟩ = some (.int .i64 (t.off : Int)) ∧ V.cell? ⟨w1.heap.size, 5, none⟩ = some (.int .i64 (t.en : Int))) 8 ?_
            have HS1 := HSof.out Z.drew HC1.out.drew.b1 hTk
            refine wpAnyM_take (i := 0) (v := ?_) rfl (by kernel_rfl) (by kernel_rfl) (by kernel_rfl) (by kernel_rfl) (fun _ _ _ h => h) HS1 (Or.inl ⟨by rfl, ?_⟩) ?_
            rotate_left
            · (intro w hSw; (try dsimp only at hSw); go_simp; try with_reducible rfl)
            simp only [Act.put, List.setIfInBounds_toArray, List.set_cons_zero, List.set_cons_succ]
            refine wpAnyM_take (i := 1) (v := ?_) rfl (by kernel_rfl) (by kernel_rfl) (by kernel_rfl) (by kernel_rfl) (fun _ _ _ h => h) HS1 (Or.inl ⟨by rfl, ?_⟩) ?_
            rotate_left
            · (intro w hSw; (try dsimp only at hSw); go_simp; try with_reducible rfl)
            simp only [Act.put, List.setIfInBounds_toArray, List.set_cons_zero, List.set_cons_succ]
            refine wpAnyM_take (i := 2) (v := ?_) rfl (by kernel_rfl) (by kernel_rfl) (by kernel_rfl) (by kernel_rfl) (fun _ _ _ h => h) HS1 (Or.inl ⟨by rfl, ?_⟩) ?_
            rotate_left
            · (intro w hSw; (try dsimp only at hSw); go_simp; try with_reducible rfl)
            simp only [Act.put, List.setIfInBounds_toArray, List.set_cons_zero, List.set_cons_succ]
            refine wpAnyM_take (i := 3) (v := ?_) rfl (by kernel_rfl) (by kernel_rfl) (by kernel_rfl) (by kernel_rfl) (fun _ _ _ h => h) HS1 (Or.inl ⟨by rfl, ?_⟩) ?_
            rotate_left
            · (intro w hSw; (try dsimp only at hSw); go_simp; try with_reducible rfl)
            simp only [Act.put, List.setIfInBounds_toArray, List.set_cons_zero, List.set_cons_succ]
            refine wpAnyM_one (i := 4) (by kernel_rfl) rfl (fun K hK => ?_)
            go_simp
            refine (HCl.out _ HC1.out.drew.col.ah).mono ?_
            intro e w3 hq
            obtain ⟨⟨⟨ap, av, aoff, ats⟩, bv, ls⟩, rfl, hpur, hok, ha3, ho3⟩ := clsPost_ok hq
            clear hq
            obtain ⟨xa, xc, rfl, -⟩ := (show Lst elTrm _ _ av ats from hok.1.2.2).shape
            obtain ⟨ba, bc, rfl, -⟩ := (show Lst elLix _ _ bv ls from hok.2).shape
            have HC3 := hide (HC1.out.drew.move ho3 ha3)
            have HOk3 := HC1.out.drew.col.gr.behind HC1.out.drew.col.hi elClx hok
            have hTk3 : w3.heap[w1.heap.size]? = some (.cells #[.int .i64 t.k, .string t.t, .int .i64 t.n, .int .i64 t.op, .int .i64 (t.off : Int), .int .i64 (t.en : Int)] 108 (0, 0)) := box_moved (W := Z.drew) hTk (by have := HC1.out.col.pl; omega) ho3
            have HPu := hide hpur
            have HOk4 := hide (elClx.move HOk3 fun b hlt hF => ⟨hF, (belowA w3 (.cells #[.string ap, .slice xa ats.length xc, .int .i64 aoff, .slice ba ls.length bc] 58)).block b hlt⟩)
            have HC4 := hide (HC3.out.below (belowA w3 (.cells #[.string ap, .slice xa ats.length xc, .int .i64 aoff, .slice ba ls.length bc] 58)))
            have hlt3 := (Array.getElem?_eq_some_iff.1 hTk3).1
            have hTk4 : (w3.alloc (.cells #[.string ap, .slice xa ats.length xc, .int .i64 aoff, .slice ba ls.length bc] 58)).heap[w1.heap.size]? = some (.cells #[.int .i64 t.k, .string t.t, .int .i64 t.n, .int .i64 t.op, .int .i64 (t.off : Int), .int .i64 (t.en : Int)] 108 (0, 0)) := by rw [(belowA w3 (.cells #[.string ap, .slice xa ats.length xc, .int .i64 aoff, .slice ba ls.length bc] 58)).block _ hlt3]; exact hTk3
            clear hpur hok ha3 ho3 HOk3
            unfold Clx.val
            have HS3 := HSof.out w3 HC3.out.b1 hTk3
            refine hK.out _ _ HS3 (fun _ => ?_)
            clear hK K HS1
            try simp only [Act.put, List.setIfInBounds_toArray, List.set_cons_zero, List.set_cons_succ]
            refine wpAnyM_one (i := 5) (by kernel_rfl) rfl (fun K hK => ?_)
            go_simp
            have HS4 := HSof.out _ HC4.out.b1 hTk4
            refine hK.out _ _ HS4 (fun _ => ?_)
            clear hK K HS3
            refine wpAnyM_one (i := 6) (by kernel_rfl) rfl (fun K hK => ?_)
            obtain ⟨i0, hi0, hz0, hz1, hz2⟩ := info_parts Tryd.infoCls
            refine step_push (w0 := w3.alloc (.cells #[.string ap, .slice xa ats.length xc, .int .i64 aoff, .slice ba ls.length bc] 58)) elClx (by rfl) _ _ _ (by rfl) (w.heap.size + 2) 58 i0 _ 72 Tryd.underlying55 hi0 hz0 hz1 hz2 rfl (by decide) (.slice va cs.length vc) cs cs.length rfl (by rfl) HC4.out.col.gr ⟨⟨ap, .slice xa ats.length xc, aoff, ats⟩, .slice ba ls.length bc, ls⟩ w3.heap.size 1 (by rfl) (fun j u hu => new_cells (cs := #[.string ap, .slice xa ats.length xc, .int .i64 aoff, .slice ba ls.length bc]) j u hu) HOk4.out (by omega) (Below.refl _ _) HC4.out.col.hi ?_
            intro g cap' w5 HG5 HB5 HGr
            clear HB5 hi0 hz0 hz1 hz2 i0
            have hb5 := HC4.out.far HGr.out
            have hTk5 : w5.heap[w1.heap.size]? = some (.cells #[.int .i64 t.k, .string t.t, .int .i64 t.n, .int .i64 t.op, .int .i64 (t.off : Int), .int .i64 (t.en : Int)] 108 (0, 0)) := by rw [HGr.out.block w1.heap.size (by have := (belowA w3 (.cells #[.string ap, .slice xa ats.length xc, .int .i64 aoff, .slice ba ls.length bc] 58)).size; omega) (fun e => by have := own_lt6 HC.out.col.gr.1 _ e.symm; have := HwR.out; omega)]; exact hTk4
            have HS5 := HSof.out w5 hb5 hTk5
            have HC5 := hide (HC4.out.push HGr.out HG5.out)
            refine hK.out _ _ HS5 (fun _ => ?_)
            clear hK K HS4 HSof HOk4 HC4 HC3 HGr HG5
            have c5 : w5.cell? ⟨w.heap.size + 1, 0, none⟩ = some (.slice va cs.length vc) := by simp [World.cell?, hb5]
            have z5 : w5.frozen? ⟨w.heap.size + 1, 0, none⟩ = false := by simp [World.frozen?, hb5]
            clear hb5 hTk5 hTk4 hTk3 hTk hlt3
            try simp only [Act.put, List.setIfInBounds_toArray, List.set_cons_zero, List.set_cons_succ]
            refine wpAnyM_take (i := 7) (v := ?_) rfl (by kernel_rfl) (by kernel_rfl) (by kernel_rfl) (by kernel_rfl) (fun _ _ _ h => h) HS5 (Or.inl ⟨by rfl, ?_⟩) ?_
            rotate_left
            · (intro w hSw; (try dsimp only at hSw); go_simp; try with_reducible rfl)
            simp only [Act.put, List.setIfInBounds_toArray, List.set_cons_zero, List.set_cons_succ]
            clear HS5
            refine wpAnyM_end (by kernel_rfl) rfl (by kernel_rfl) (fun K hK => ?_)
            go_simp
            refine hK.out _ _ ?_
            clear hK K
            go_wp2
            go_roundw
            case rel => exact ⟨n, cs ++ [⟨⟨ap, .slice xa ats.length xc, aoff, ats⟩, .slice ba ls.length bc, ls⟩], r2, _, by simp; omega, HLn.out.2, HC5, by show _ = _; rw [List.map_append, List.map_singleton, HPu.out]; exact HX.out⟩
            case measure =>
              obtain ⟨jx, -⟩ := HC5.out.col.ah.index
              have h1 := HLn.out
              have h2 := HIx.out
              omega
end Go.Proofs.YtilckhdaijfddaaDoor

namespace Go.Proofs.YtilckhdaijfddaaDoor
set_option linter.unusedSimpArgs false
set_option linter.unusedVariables false
open Go.RowKit

def ReadProg (w : World) (s : ByteArray) (e : Ending) (w' : World) : Prop :=
  match progP (scanX s).2.1 ((scanX s).2.2 : Int) (scanX s).1 with
  | .bad ec eo => e = .returned (.tuple #[.agg #[.slice none 0 0], faultV ec eo]) ∧ Below w.heap.size w w'
  | .ok b _ => ∃ v cs, e = .returned (.tuple #[.agg #[v], faultV 0 0]) ∧ cs.map Clx.pur = b ∧ cs.length ≤ 512 ∧ Grow elClx 58 w.heap.size w' v cs ∧ Below w.heap.size w w'

set_option maxRecDepth 100000 in
set_option maxHeartbeats 2000000 in
theorem readProg_any (s : ByteArray) (w : World) (hl : LexLaid w) (hs : s.size ≤ 140737488351232) :
    Calls Tryd.prog 28 #[.string s, .func (.func 29) #[] #[]] w (ReadProg w s) := by
  have hmf : ∀ (fn : Fn) (first cap : Array Value) (w : World), (Instr.makeFunc fn first cap).run Tryd.prog w = .ok (.func fn first cap) w := fun _ _ _ _ => rfl
  have HSc := hide (fun (W : World) (hb : Below w.heap.size w W) => scan_any s W (hl.kept hb) hs)
  clear hl hs
  unfold faultVal at HSc
  obtain ⟨res, hres⟩ : ∃ res, progP (scanX s).2.1 ((scanX s).2.2 : Int) (scanX s).1 = res := ⟨_, rfl⟩
  obtain ⟨Post, hPost⟩ : ∃ Post : Ending → World → Prop, Post = ReadProg w s := ⟨_, rfl⟩
  rw [← hPost]
  have PB : Hid (∀ ec eo w', res = .bad ec eo → Below w.heap.size w w' → Post (.returned (.tuple #[.agg #[.slice none 0 0], .agg #[.int .i64 ec, .int .i64 0, .int .i64 eo]])) w') := fun ec eo w' hr hb => by
    rw [hPost]; unfold ReadProg; rw [hres, hr]; exact ⟨rfl, hb⟩
  have PG : Hid (∀ b r v cs w', res = .ok b r → cs.map Clx.pur = b → cs.length ≤ 512 → Grow elClx 58 w.heap.size w' v cs → Below w.heap.size w w' → Post (.returned (.tuple #[.agg #[v], .agg #[.int .i64 0, .int .i64 0, .int .i64 0]])) w') := fun b r v cs w' hr h1 h2 h3 h4 => by
    rw [hPost]; unfold ReadProg; rw [hres, hr]; exact ⟨v, cs, rfl, h1, h2, h3, h4⟩
  have HR := hide hres
  clear hPost hres
  go_enter_defers Tryd.func28, Tryd.ntmps28
  go_wp2_with (go_at_call 38; refine (HSc.out _ (below2a _ _ _)).mono ?_; rintro e w1 ⟨v, rfl, ho1, hb1⟩; obtain ⟨ao, cap, rfl⟩ := own_shape ho1; have HO1 := hide ho1; have HB1 := hide hb1; clear ho1 hb1)
  have hs1 : w.heap.size + 2 ≤ w1.heap.size := by have := HB1.out.size; simp at this; omega
  have HA := hide (scan_ahead HB1.out HO1.out (W2 := (w1.alloc (.cells #[.int .i64 (scanX s).2.1, .int .i64 0, .int .i64 ((scanX s).2.2 : Int)] 45)).alloc (.cells #[.slice ao (scanX s).1.length cap, .int .i64 (scanX s).2.1, .int .i64 0, .int .i64 ((scanX s).2.2 : Int), .int .i64 0] 105)) (below2a w1 _ _) rfl (p := w1.heap.size + 1) (by omega) (by have := heap_alloc_new (w1.alloc (.cells #[.int .i64 (scanX s).2.1, .int .i64 0, .int .i64 ((scanX s).2.2 : Int)] 45)) (.cells #[.slice ao (scanX s).1.length cap, .int .i64 (scanX s).2.1, .int .i64 0, .int .i64 ((scanX s).2.2 : Int), .int .i64 0] 105); simpa using this))
  have HP := program_any HA.out
  rw [HR.out] at HP
  have HK : Hid (∀ w2, Only (fun k => k = w1.heap.size + 1) ((w1.alloc (.cells #[.int .i64 (scanX s).2.1, .int .i64 0, .int .i64 ((scanX s).2.2 : Int)] 45)).alloc (.cells #[.slice ao (scanX s).1.length cap, .int .i64 (scanX s).2.1, .int .i64 0, .int .i64 ((scanX s).2.2 : Int), .int .i64 0] 105)) w2 → w2.heap[w.heap.size]? = some (.cells #[.slice none 0 0] 61 (0, 0)) ∧ w2.heap[w.heap.size + 1]? = some (.cells #[.int .i64 0, .int .i64 0, .int .i64 0] 45 (0, 0)) ∧ Only (fun k => w.heap.size ≤ k) w w2) := fun w2 ho => by
    have q : ∀ k, k < w.heap.size + 2 → w2.heap[k]? = ((w.alloc (.cells #[.slice none 0 0] 61)).alloc (.cells #[.int .i64 0, .int .i64 0, .int .i64 0] 45)).heap[k]? := fun k hk => by
      rw [ho.block k (by simp; omega) (by omega), (below2a w1 _ _).block k (by omega), HB1.out.block k (by simp; omega)]
    refine ⟨?_, ?_, ((Only.of_below (below2a w _ _) _).trans (Only.of_below HB1.out _)).trans ((Only.of_below (below2a w1 _ _) _).trans (ho.mono fun k _ (e : k = w1.heap.size + 1) => by omega))⟩
    · rw [q _ (by omega), (belowA (w.alloc _) _).block _ (by simp)]; exact heap_alloc_new w _
    · rw [q _ (by omega)]
      have := heap_alloc_new (w.alloc (.cells #[.slice none 0 0] 61)) (.cells #[.int .i64 0, .int .i64 0, .int .i64 0] 45)
      simpa using this
  clear HO1 HB1 HSc HR
  cases res with
  | bad ec eo =>
    refine HP.mono ?_
    intro e w2 hq
    obtain ⟨rfl, ho2⟩ := progPost_bad hq
    obtain ⟨k0, k1, k2⟩ := HK.out w2 ho2
    clear hq HP HA
    refine leaves_cons (f := 44) (args := #[.pointer (some ⟨w.heap.size + 1, 0, none⟩)]) (by simp) (by simp [go_sem]) ?_
    refine (caughtProg (w.heap.size + 1) ec eo [] w2 k1).mono ?_
    rintro e u' w3 ⟨rfl, rfl, h3, o3⟩
    have h0 : w3.heap[w.heap.size]? = some (.cells #[.slice none 0 0] 61 (0, 0)) := by rw [o3.block _ (Array.getElem?_eq_some_iff.1 k0).1 (by omega)]; exact k0
    have c0 : w3.cell? ⟨w.heap.size, 0, none⟩ = some (.slice none 0 0) := by simp [World.cell?, h0]
    obtain ⟨⟨d0, d1, d2⟩, -⟩ := fault_cells h3
    have HF := hide (PB.out ec eo w3 rfl ((k2.trans (o3.mono fun k _ (e : k = w.heap.size + 1) => by omega)).below (Nat.le_refl _) (fun k hk e => by omega)))
    clear o3 h3 h0 k0 k1 k2
    simp [Leaves, settle, results, Tryd.results28, go_sem, c0, d0, d1, d2]
    exact HF.out
  | ok b r =>
    refine HP.mono ?_
    intro e w2 hq
    obtain ⟨v, cs, rfl, hpur, hlen, hgr, ha2, ho2⟩ := progPost_ok hq
    obtain ⟨va, vc, rfl, -⟩ := hgr.shape
    obtain ⟨k0, k1, k2⟩ := HK.out w2 ho2
    have HPu := hide hpur
    have HLn := hide hlen
    have HG := hide hgr
    have HK2 := hide k2
    clear hq HP HA hpur hlen hgr ha2 ho2
    have c0 : w2.cell? ⟨w.heap.size, 0, none⟩ = some (.slice none 0 0) := by simp [World.cell?, k0]
    have z0 : w2.frozen? ⟨w.heap.size, 0, none⟩ = false := by simp [World.frozen?, k0]
    obtain ⟨⟨d0, d1, d2⟩, ⟨y0, y1, y2⟩⟩ := fault_cells k1
    go_wp2_with fail
    have hO : Only (fun k => k = w.heap.size ∨ k = w.heap.size + 1) w2 ((((w2.setCell ⟨w.heap.size, 0, none⟩ (.slice va cs.length vc)).setCell ⟨w.heap.size + 1, 0, none⟩ (.int .i64 0)).setCell ⟨w.heap.size + 1, 1, none⟩ (.int .i64 0)).setCell ⟨w.heap.size + 1, 2, none⟩ (.int .i64 0)) := ((((Only.refl (fun k => k = w.heap.size ∨ k = w.heap.size + 1) w2).setCell (p := ⟨w.heap.size, 0, none⟩) (.inl rfl) _).setCell (p := ⟨w.heap.size + 1, 0, none⟩) (.inr rfl) _).setCell (p := ⟨w.heap.size + 1, 1, none⟩) (.inr rfl) _).setCell (p := ⟨w.heap.size + 1, 2, none⟩) (.inr rfl) _
    have hV0 : ((((w2.setCell ⟨w.heap.size, 0, none⟩ (.slice va cs.length vc)).setCell ⟨w.heap.size + 1, 0, none⟩ (.int .i64 0)).setCell ⟨w.heap.size + 1, 1, none⟩ (.int .i64 0)).setCell ⟨w.heap.size + 1, 2, none⟩ (.int .i64 0)).heap[w.heap.size]? = some (.cells #[.slice va cs.length vc] 61 (0, 0)) := by simp [World.setCell, Array.getElem?_modify, k0]
    have hV1 : ((((w2.setCell ⟨w.heap.size, 0, none⟩ (.slice va cs.length vc)).setCell ⟨w.heap.size + 1, 0, none⟩ (.int .i64 0)).setCell ⟨w.heap.size + 1, 1, none⟩ (.int .i64 0)).setCell ⟨w.heap.size + 1, 2, none⟩ (.int .i64 0)).heap[w.heap.size + 1]? = some (.cells #[.int .i64 0, .int .i64 0, .int .i64 0] 45 (0, 0)) := by simp [World.setCell, Array.getElem?_modify, k1]
    generalize (((w2.setCell ⟨w.heap.size, 0, none⟩ (.slice va cs.length vc)).setCell ⟨w.heap.size + 1, 0, none⟩ (.int .i64 0)).setCell ⟨w.heap.size + 1, 1, none⟩ (.int .i64 0)).setCell ⟨w.heap.size + 1, 2, none⟩ (.int .i64 0) = V at hO hV0 hV1 ⊢
    clear c0 z0 d0 d1 d2 y0 y1 y2 k0 k1
    refine leaves_cons (f := 44) (args := #[.pointer (some ⟨w.heap.size + 1, 0, none⟩)]) (by simp) (by simp [go_sem]) ?_
    refine (idleProg ⟨w.heap.size + 1, 0, none⟩ V).mono ?_
    rintro e u' w3 ⟨rfl, rfl, hw⟩
    have hw := hw.symm
    subst hw
    have c0 : V.cell? ⟨w.heap.size, 0, none⟩ = some (.slice va cs.length vc) := by simp [World.cell?, hV0]
    obtain ⟨⟨d0, d1, d2⟩, -⟩ := fault_cells hV1
    have HF := hide (PG.out b r (.slice va cs.length vc) cs V rfl HPu.out HLn.out ((HG.out.above fun k hk hlt => hO.block k hlt (by simp at hk; omega)).mono (by simp <;> omega)) ((HK2.out.trans (hO.mono fun k _ (e : k = w.heap.size ∨ k = w.heap.size + 1) => by omega)).below (Nat.le_refl _) (fun k hk e => by omega)))
    clear hO hV0 hV1
    simp [Leaves, settle, results, Tryd.results28, go_sem, c0, d0, d1, d2]
    exact HF.out
end Go.Proofs.YtilckhdaijfddaaDoor

namespace Go.Proofs.YtilckhdaijfddaaDoor
set_option linter.unusedSimpArgs false
set_option linter.unusedVariables false
open Go.RowKit

set_option maxHeartbeats 4000000 in
set_option maxRecDepth 100000 in
theorem atomValue {w : World} {p : Nat} {ao : Option Addr} {cap : Nat} {L : List Tok} {c f : Int} {R : List Tok} (name : Tok) (h : Ahead w p ao cap L c f R) (hname : name.good) :
    Calls Tryd.prog 51 #[.pointer (some ⟨p, 0, none⟩), tokV name, .func (.func 52) #[] #[]] w (AtmPost w p ao cap L c f (atomP c f valueKs name R)) := by
  unfold tokV
  match R, h with
  | [], h =>
    have HL := hide (fun W (hb : Below w.heap.size w W) => look_none (h.kept hb))
    have HE : Hid (atomP c f valueKs name [] = .bad c f) := rfl
    rw [HE.out]
    clear HE h
    unfold AtmPost
    go_enter Tryd.func51, Tryd.ntmps51
    go_wp2_with (go_at_call 53; refine (HL.out _ (below3a _ _ _ _)).mono ?_; rintro e w1 ⟨rfl, hb⟩)
    exact ⟨rfl, rfl, Only.of_below (belowt2 (below3a _ _ _ _) hb) _⟩
  | x :: r, h =>
    have HL := hide (fun W (hb : Below w.heap.size w W) => look_good (h.kept hb))
    unfold tokV at HL
    by_cases h5 : x.k = 5
    · have hT : takeP c f [5] (x :: r) = .ok x r := by simp [takeP, h5]
      have HE : Hid (atomP c f valueKs name (x :: r) = toAtom name (argsP c f valueKs [] r)) := by show atomP _ _ _ _ _ = _; unfold atomP; simp only; rw [if_pos h5]; cases argsP c f valueKs [] r <;> rfl
      have hfd := tok_kind (.int .i64 x.k) (.string x.t) (.int .i64 x.n) (.int .i64 x.op) (.int .i64 (x.off : Int)) (.int .i64 (x.en : Int))
      have e5 : (x.k != 5) = false := by simpa using h5
      obtain ⟨res, hres⟩ : ∃ res, argsP c f valueKs [] r = res := ⟨_, rfl⟩
      rw [HE.out, hres]
      obtain ⟨Post, hPost⟩ : ∃ Post : Ending → World → Prop, Post = AtmPost w p ao cap L c f (toAtom name res) := ⟨_, rfl⟩
      rw [← hPost]
      have PB : Hid (∀ ec eo w', res = .bad ec eo → Only (fun k => k = p) w w' → Post (PEnd ec eo) w') := fun ec eo w' hr ho => by
        rw [hPost, hr]; exact ⟨rfl, ho⟩
      have PG : Hid (∀ ts r' v w', res = .ok ts r' → Lst elTrm w' (fun b => w.heap.size ≤ b) v ts → Ahead w' p ao cap L c f r' → Only (fun k => k = p) w w' → Post (.returned (.agg #[.string name.t, v, .int .i64 (name.off : Int)])) w') := fun ts r' v w' hr h1 h2 h3 => by
        rw [hPost, hr]; exact ⟨⟨name.t, v, name.off, ts⟩, rfl, rfl, ⟨(good_parts hname).1, (good_parts hname).2, h1⟩, h2, h3⟩
      have HRes := hide hres
      have H0 := hide h
      have hp := h.lt
      have HT : Hid (∀ W, Below w.heap.size w W → Calls Tryd.prog 40 #[.pointer (some ⟨p, 0, none⟩), .slice (some ⟨W.heap.size, 0, none⟩) 1 1] (W.alloc (.cells #[.int .i64 5] 3)) fun e w' => e = .returned (tokV x) ∧ Ahead w' p ao cap L c f r ∧ Only (fun b => b = p) W w') := fun W hb => take_lit_good [5] (h.kept hb) (by decide) hT
      clear HE h h5 hres hT hPost
      go_enter Tryd.func51, Tryd.ntmps51
      go_wp2_with (first
        | (go_at_call 53; refine (HL.out _ (below3a _ _ _ _)).mono ?_; rintro e w1 ⟨rfl, hb⟩; have HB := hide hb; have HW := hide (belowt2 (below3a _ _ _ _) hb); clear hb)
        | (go_at_call 40; refine (HT.out _ HW.out).mono ?_; rintro e w2 ⟨rfl, ha, ho⟩; have HA := hide ha; have HO := hide ho; clear ha ho))
      have HS : Hid (AtmLoop w w2 p ao cap L c f r name.t (name.off : Int) (.slice none 0 0) []) :=
        (AtmLoop.move ⟨H0.out.kept HW.out, atom_box2 HB.out, atom_box HB.out, World.ownsRow_nil _ _ _ _, Only.of_below HW.out _, hp, by simp, H0.out.tk⟩ HO.out HA.out : AtmLoop w w2 p ao cap L c f r name.t (name.off : Int) (.slice none 0 0) [])
      clear HA HO HT HL HB HW
      go_loopw [8] (fun _ wr => ∃ (acc : List Trm) (R : List Tok) (v : Value), acc.length ≤ 8 ∧ Hid (AtmLoop w wr p ao cap L c f R name.t (name.off : Int) v acc) ∧ Hid (argsP c f valueKs acc R = res)) (fun _ wr => 70000 - (intOf ((wr.cell? ⟨p, 4, none⟩).getD undef)).toNat)
      case atStart => exact ⟨[], r, _, by simp, HS, HRes⟩
      case round =>
        clear HS HRes hfd e5
        obtain ⟨acc, R, v, hacc, HS, HRes⟩ := hrel
        obtain ⟨ix, isz⟩ := HS.out.ah.index
        obtain ⟨vo, vc, rfl⟩ := own_shape HS.out.ow
        cases hT : takeP c f valueKs R with
        | bad ec eo =>
          have HP := hide (value_fail HS.out.ah hT)
          have HX : Hid (res = .bad ec eo) := by show _ = _; rw [← HRes.out]; exact args_bad1 hT
          clear hT
          go_wp2_with (go_at_call 52; refine HP.out.mono ?_; rintro e w3 ⟨rfl, hb⟩)
          exact ⟨rfl, PB.out _ _ _ HX.out (only_drop (HS.out.below hb).on)⟩
        | ok t r1 =>
          have HP := hide (value_good HS.out.ah hT)
          have tp := take_eq hT
          have HTok : Hid ((termP t).ok) := termP_ok (HS.out.ah.good t (by rw [tp.1]; exact List.mem_cons_self))
          unfold Trm.val at HP
          clear tp
          by_cases h8 : acc.length = 8
          · have HX : Hid (res = .bad 22 (termP t).off) := by show _ = _; rw [← HRes.out]; exact args_lim hT h8
            have HLm := hide (limit_bad 8 22 (termP t).off)
            rw [h8] at HS
            clear hT hacc
            go_wp2_with (first
              | (go_at_call 52; refine HP.out.mono ?_; rintro e w3 ⟨rfl, ha, ho⟩; have HS3 := hide (HS.out.move ho ha); clear ha ho; obtain ⟨d0, d1, d2, d3⟩ := (HS3.out.below (belowA w3 (.cells #[.int .i64 (termP t).k, .int .i64 (termP t).n, .string (termP t).s, .int .i64 (termP t).off] 73))).cells)
              | (go_at_call 42; refine (HLm.out _).mono ?_; rintro e w4 ⟨rfl, hw⟩; have hw := hw.symm; subst hw))
            exact ⟨rfl, PB.out _ _ _ HX.out (only_drop (HS3.out.below (belowA _ _)).on)⟩
          · have HLm := hide (limit_ok (acc.length : Int) 8 22 (termP t).off (h := by omega))
            have HNx := args_next (c := c) (f := f) hT h8
            have hlen1 : r1.length + 1 = R.length := by rw [(take_eq hT).1]; rfl
            have hacc8 : acc.length < 8 := by omega
            clear hT h8
            cases hU : takeP c f [7, 6] r1 with
            | bad ec eo =>
              have HX : Hid (res = .bad ec eo) := by show _ = _; rw [← HRes.out, HNx, hU]
              have HT2 : Hid (∀ (W : World) (n : Nat), W.heap.size = n → Ahead W p ao cap L c f r1 → Calls Tryd.prog 40 #[.pointer (some ⟨p, 0, none⟩), .slice (some ⟨n, 0, none⟩) 2 2] (W.alloc (.cells #[.int .i64 7, .int .i64 6] 3)) fun e w' => e = PEnd ec eo ∧ Below W.heap.size W w') := fun W n hn ha => hn ▸ take_lit_fail [7, 6] ha (by decide) hU
              clear hU HNx hlen1
              go_wp2_with (first
                | (go_at_call 52; refine HP.out.mono ?_; rintro e w3 ⟨rfl, ha, ho⟩; have HS3 := hide (HS.out.move ho ha); clear ha ho; obtain ⟨d0, d1, d2, d3⟩ := (HS3.out.below (belowA w3 (.cells #[.int .i64 (termP t).k, .int .i64 (termP t).n, .string (termP t).s, .int .i64 (termP t).off] 73))).cells; have HS5 := hide ((HS3.out.below (belowA w3 (.cells #[.int .i64 (termP t).k, .int .i64 (termP t).n, .string (termP t).s, .int .i64 (termP t).off] 73))).below (belowA _ (.cells #[.int .i64 (termP t).k, .int .i64 (termP t).n, .string (termP t).s, .int .i64 (termP t).off] 73))))
                | (go_at_call 42; refine (HLm.out _).mono ?_; rintro e w4 ⟨⟨v4, rfl⟩, hw⟩; have hw := hw.symm; subst hw)
                | (at_builtin; obtain ⟨i0, hi0, hz0, hz1, hz2⟩ := info_parts Tryd.infoTerm; refine wpList_push (w0 := (w3.alloc (.cells #[.int .i64 (termP t).k, .int .i64 (termP t).n, .string (termP t).s, .int .i64 (termP t).off] 73)).alloc (.cells #[.int .i64 (termP t).k, .int .i64 (termP t).n, .string (termP t).s, .int .i64 (termP t).off] 73)) elTrm rfl _ _ 30 rfl (w.heap.size + 3) 73 i0 _ 40 Tryd.underlying30 hi0 hz0 hz1 hz2 rfl (by decide) _ acc acc.length rfl rfl HS5.out.grow (termP t) (w3.heap.size + 1) 1 rfl (fun j u hu => by have := new_cells (w := w3.alloc (.cells #[.int .i64 (termP t).k, .int .i64 (termP t).n, .string (termP t).s, .int .i64 (termP t).off] 73)) (cs := #[.int .i64 (termP t).k, .int .i64 (termP t).n, .string (termP t).s, .int .i64 (termP t).off]) (t := 73) j u hu; simpa using this) HTok.out (by omega) (Below.refl _ _) HS5.out.base ?_; intro g cap' w5 HG5 HB5 HGr; clear HB5 hi0 hz0 hz1 hz2; obtain ⟨f0, f1⟩ := HS5.out.far HGr.out; have HS6 := hide (HS5.out.pushG HTok.out HGr.out HG5.out); clear HG5 HGr)
                | (go_at_call 40; refine (HT2.out _ _ (by simp) HS6.out.ah).mono ?_; rintro e w6 ⟨rfl, hb6⟩))
              exact ⟨rfl, PB.out _ _ _ HX.out (only_drop (HS6.out.below hb6).on)⟩
            | ok s r2 =>
              have HT2 : Hid (∀ (W : World) (n : Nat), W.heap.size = n → Ahead W p ao cap L c f r1 → Calls Tryd.prog 40 #[.pointer (some ⟨p, 0, none⟩), .slice (some ⟨n, 0, none⟩) 2 2] (W.alloc (.cells #[.int .i64 7, .int .i64 6] 3)) fun e w' => e = .returned (tokV s) ∧ Ahead w' p ao cap L c f r2 ∧ Only (fun b => b = p) W w') := fun W n hn ha => hn ▸ take_lit_good [7, 6] ha (by decide) hU
              have hfd2 := tok_kind (.int .i64 s.k) (.string s.t) (.int .i64 s.n) (.int .i64 s.op) (.int .i64 (s.off : Int)) (.int .i64 (s.en : Int))
              have hs76 := (take_eq hU).2
              have hlen2 : r2.length + 2 = R.length := by rw [← hlen1, (take_eq hU).1]; rfl
              unfold tokV at HT2
              by_cases h6 : s.k = 6
              · have e6 : (s.k == 6) = true := by simpa using h6
                have HX : Hid (res = .ok (acc ++ [termP t]) r2) := by show _ = _; rw [← HRes.out, HNx, hU]; simp only; rw [if_neg (by omega)]
                clear hU HNx hlen1 hlen2 hs76 h6
                go_wp2_with (first
                | (go_at_call 52; refine HP.out.mono ?_; rintro e w3 ⟨rfl, ha, ho⟩; have HS3 := hide (HS.out.move ho ha); clear ha ho; obtain ⟨d0, d1, d2, d3⟩ := (HS3.out.below (belowA w3 (.cells #[.int .i64 (termP t).k, .int .i64 (termP t).n, .string (termP t).s, .int .i64 (termP t).off] 73))).cells; have HS5 := hide ((HS3.out.below (belowA w3 (.cells #[.int .i64 (termP t).k, .int .i64 (termP t).n, .string (termP t).s, .int .i64 (termP t).off] 73))).below (belowA _ (.cells #[.int .i64 (termP t).k, .int .i64 (termP t).n, .string (termP t).s, .int .i64 (termP t).off] 73))))
                | (go_at_call 42; refine (HLm.out _).mono ?_; rintro e w4 ⟨⟨v4, rfl⟩, hw⟩; have hw := hw.symm; subst hw)
                | (at_builtin; obtain ⟨i0, hi0, hz0, hz1, hz2⟩ := info_parts Tryd.infoTerm; refine wpList_push (w0 := (w3.alloc (.cells #[.int .i64 (termP t).k, .int .i64 (termP t).n, .string (termP t).s, .int .i64 (termP t).off] 73)).alloc (.cells #[.int .i64 (termP t).k, .int .i64 (termP t).n, .string (termP t).s, .int .i64 (termP t).off] 73)) elTrm rfl _ _ 30 rfl (w.heap.size + 3) 73 i0 _ 40 Tryd.underlying30 hi0 hz0 hz1 hz2 rfl (by decide) _ acc acc.length rfl rfl HS5.out.grow (termP t) (w3.heap.size + 1) 1 rfl (fun j u hu => by have := new_cells (w := w3.alloc (.cells #[.int .i64 (termP t).k, .int .i64 (termP t).n, .string (termP t).s, .int .i64 (termP t).off] 73)) (cs := #[.int .i64 (termP t).k, .int .i64 (termP t).n, .string (termP t).s, .int .i64 (termP t).off]) (t := 73) j u hu; simpa using this) HTok.out (by omega) (Below.refl _ _) HS5.out.base ?_; intro g cap' w5 HG5 HB5 HGr; clear HB5 hi0 hz0 hz1 hz2; obtain ⟨f0, f1⟩ := HS5.out.far HGr.out; have HS6 := hide (HS5.out.pushG HTok.out HGr.out HG5.out); clear HG5 HGr)
                  | (go_at_call 40; refine (HT2.out _ _ (by simp) HS6.out.ah).mono ?_; rintro e w6 ⟨rfl, ha, ho⟩; have HS7 := hide (HS6.out.move ho ha); clear ha ho; obtain ⟨y0, y1, y2, y3⟩ := HS7.out.cells; obtain ⟨q0, q1, q2, q3, q4, q5⟩ := HS7.out.box))
                obtain ⟨z1, z2, z3⟩ := HS7.out.fin (by simp; omega) (.string name.t) (.slice (some ⟨g, 0, none⟩) (acc.length + 1) cap') (.int .i64 (name.off : Int))
                exact bodyPost_ret (atom_res _ (w.heap.size + 1) _ _ _ _ rfl (box3_put HS7.out.br _ _ _)) rfl (PG.out _ _ _ _ HX.out z1 z2 z3)
              · have e6 : (s.k == 6) = false := by simpa using h6
                have HX : Hid (argsP c f valueKs (acc ++ [termP t]) r2 = res) := by show _ = _; rw [← HRes.out, HNx, hU]; simp only; rw [if_pos (by simp at hs76; omega)]
                clear hU HNx hlen1 hs76 h6
                have HL2 := hide hlen2
                clear hlen2
                go_wp2_with (first
                | (go_at_call 52; refine HP.out.mono ?_; rintro e w3 ⟨rfl, ha, ho⟩; have HS3 := hide (HS.out.move ho ha); clear ha ho; obtain ⟨d0, d1, d2, d3⟩ := (HS3.out.below (belowA w3 (.cells #[.int .i64 (termP t).k, .int .i64 (termP t).n, .string (termP t).s, .int .i64 (termP t).off] 73))).cells; have HS5 := hide ((HS3.out.below (belowA w3 (.cells #[.int .i64 (termP t).k, .int .i64 (termP t).n, .string (termP t).s, .int .i64 (termP t).off] 73))).below (belowA _ (.cells #[.int .i64 (termP t).k, .int .i64 (termP t).n, .string (termP t).s, .int .i64 (termP t).off] 73))))
                | (go_at_call 42; refine (HLm.out _).mono ?_; rintro e w4 ⟨⟨v4, rfl⟩, hw⟩; have hw := hw.symm; subst hw)
                | (at_builtin; obtain ⟨i0, hi0, hz0, hz1, hz2⟩ := info_parts Tryd.infoTerm; refine wpList_push (w0 := (w3.alloc (.cells #[.int .i64 (termP t).k, .int .i64 (termP t).n, .string (termP t).s, .int .i64 (termP t).off] 73)).alloc (.cells #[.int .i64 (termP t).k, .int .i64 (termP t).n, .string (termP t).s, .int .i64 (termP t).off] 73)) elTrm rfl _ _ 30 rfl (w.heap.size + 3) 73 i0 _ 40 Tryd.underlying30 hi0 hz0 hz1 hz2 rfl (by decide) _ acc acc.length rfl rfl HS5.out.grow (termP t) (w3.heap.size + 1) 1 rfl (fun j u hu => by have := new_cells (w := w3.alloc (.cells #[.int .i64 (termP t).k, .int .i64 (termP t).n, .string (termP t).s, .int .i64 (termP t).off] 73)) (cs := #[.int .i64 (termP t).k, .int .i64 (termP t).n, .string (termP t).s, .int .i64 (termP t).off]) (t := 73) j u hu; simpa using this) HTok.out (by omega) (Below.refl _ _) HS5.out.base ?_; intro g cap' w5 HG5 HB5 HGr; clear HB5 hi0 hz0 hz1 hz2; obtain ⟨f0, f1⟩ := HS5.out.far HGr.out; have HS6 := hide (HS5.out.pushG HTok.out HGr.out HG5.out); clear HG5 HGr)
                  | (go_at_call 40; refine (HT2.out _ _ (by simp) HS6.out.ah).mono ?_; rintro e w6 ⟨rfl, ha, ho⟩; have HS7 := hide (HS6.out.move ho ha); clear ha ho))
                go_roundw
                case rel => exact ⟨acc ++ [termP t], r2, _, by simp; omega, HS7, HX⟩
                case measure =>
                  obtain ⟨jx, -⟩ := HS7.out.ah.index
                  have := HL2.out
                  omega
    · have HE : Hid (atomP c f valueKs name (x :: r) = .ok ⟨name.t, [], name.off⟩ (x :: r)) := by show atomP _ _ _ _ _ = _; unfold atomP; simp only; rw [if_neg h5]
      have e5 : (x.k != 5) = true := by simpa using h5
      have hfd := tok_kind (.int .i64 x.k) (.string x.t) (.int .i64 x.n) (.int .i64 x.op) (.int .i64 (x.off : Int)) (.int .i64 (x.en : Int))
      rw [HE.out]
      have H0 := hide h
      clear HE h h5
      unfold AtmPost
      go_enter Tryd.func51, Tryd.ntmps51
      go_wp2_with (go_at_call 53; refine (HL.out _ (below3a _ _ _ _)).mono ?_; rintro e w1 ⟨rfl, hb⟩; have HB := hide hb; clear hb; obtain ⟨k0, k1, k2, z0, z1, z2, a0, a1, a2⟩ := atom_boxes HB.out)
      have HO2 : Only (fun k => k = p ∨ w.heap.size ≤ k) w w1 := Only.of_below (belowt2 (below3a _ _ _ _) HB.out) _
      have HE := only_drop (((HO2.setCell (p := ⟨w.heap.size + 1, 0, none⟩) (.inr (Nat.le_add_right _ _)) (.string name.t)).setCell (p := ⟨w.heap.size + 1, 1, none⟩) (.inr (Nat.le_add_right _ _)) (.slice none 0 0)).setCell (p := ⟨w.heap.size + 1, 2, none⟩) (.inr (Nat.le_add_right _ _)) (.int .i64 (name.off : Int)))
      have HA2 := H0.out.box (H0.out.kept (belowt2 (below3a _ _ _ _) HB.out)) ((((Only.refl (fun b => w.heap.size ≤ b) w1).setCell (p := ⟨w.heap.size + 1, 0, none⟩) (Nat.le_add_right _ _) (.string name.t)).setCell (p := ⟨w.heap.size + 1, 1, none⟩) (Nat.le_add_right _ _) (.slice none 0 0)).setCell (p := ⟨w.heap.size + 1, 2, none⟩) (Nat.le_add_right _ _) (.int .i64 (name.off : Int)))
      exact bodyPost_ret (atom_res _ (w.heap.size + 1) _ _ _ _ rfl (box3_put (atom_box HB.out) _ _ _)) rfl ⟨⟨name.t, .slice none 0 0, name.off, []⟩, rfl, rfl, ⟨(good_parts hname).1, (good_parts hname).2, Lst.nil _ _ _⟩, HA2, HE⟩

end Go.Proofs.YtilckhdaijfddaaDoor

namespace Go.Proofs.YtilckhdaijfddaaDoor
set_option linter.unusedSimpArgs false
set_option linter.unusedVariables false
open Go.RowKit

theorem groundRes (W : World) (b : Nat) (u0 u1 u2 : Value) (tmps : Array Value) (ht : tmps[4]? = some (.pointer (some ⟨b, 0, none⟩))) (hb : W.heap[b]? = some (.cells #[u0, u1, u2] 32 (0, 0))) :
    (results Tryd.f39 tmps).run Tryd.prog W = .ok (.agg #[u0, u1, u2]) W := by
  obtain ⟨c0, c1, c2, -⟩ := box3_cells hb
  simp [results, Tryd.results39, go_sem, ht, c0, c1, c2]

set_option maxHeartbeats 1000000 in
set_option maxRecDepth 100000 in
theorem ground_any {w : World} {p : Nat} {ao : Option Addr} {cap : Nat} {L : List Tok} {c f : Int} {R : List Tok} (name : Tok) (h : Ahead w p ao cap L c f R) (hname : name.good) :
    Calls Tryd.prog 39 #[.pointer (some ⟨p, 0, none⟩), tokV name] w (AtmPost w p ao cap L c f (atomP c f valueKs name R)) := by
  have HC := hide (fun (W : World) (hb : Below w.heap.size w W) => atomValue name (h.kept hb) hname)
  have H0 := hide h
  have hp := h.lt
  clear h hname
  unfold tokV at *
  obtain ⟨res, hres⟩ : ∃ res, atomP c f valueKs name R = res := ⟨_, rfl⟩
  rw [hres] at HC ⊢
  clear hres
  cases res with
  | bad ec eo =>
    unfold AtmPost
    go_enter Tryd.func39, Tryd.ntmps39
    go_wp2_with (go_at_call 51; refine (HC.out _ (below2a _ _ _)).mono ?_; intro e w1 hq; obtain ⟨rfl, ho⟩ := atmPost_bad hq; clear hq)
    exact ⟨rfl, rfl, only_drop (only_wide (below2a _ _ _) ho)⟩
  | ok x r =>
    unfold AtmPost
    go_enter Tryd.func39, Tryd.ntmps39
    go_wp2_with (go_at_call 51; refine (HC.out _ (below2a _ _ _)).mono ?_; intro e w1 hq; obtain ⟨a, rfl, hpur, hok, ha, ho⟩ := atmPost_ok hq; clear hq; have HPu := hide hpur; have HOk := hide hok; have HA := hide ha; have HO := hide ho; have HBx := hide (second_box hp ho); clear hpur hok ha ho; unfold Atx.val; obtain ⟨q0, q1, q2, q3, q4, q5⟩ := box3_cells HBx.out; obtain ⟨va, vc, hv, -⟩ := HOk.out.2.2.shape)
    obtain ⟨z1, z2⟩ := fin_ahead H0.out HA.out (only_wide (below2a _ _ _) HO.out) (only_three (w.heap.size + 1) (.string a.p) a.v (.int .i64 a.off)) (by omega)
    have z3 := fin_ok elAtx (n := w.heap.size) HOk.out (only_three (w.heap.size + 1) (.string a.p) a.v (.int .i64 a.off)) (by simp) (by simp; omega)
    rw [hv] at z1 z2 z3
    exact bodyPost_ret (groundRes _ (w.heap.size + 1) _ _ _ _ rfl (box3_put HBx.out _ _ _)) rfl ⟨a, by unfold Atx.val; rw [hv], HPu.out, z3, z1, z2⟩
end Go.Proofs.YtilckhdaijfddaaDoor

namespace Go.Proofs.YtilckhdaijfddaaDoor
set_option linter.unusedSimpArgs false
set_option linter.unusedVariables false
open Go.RowKit

theorem Tryd.infoAtm : (Tryd.prog.info? 32).map (fun i => (i.zero, i.size, i.bytes)) = some (some (.agg #[.string ⟨#[]⟩, .slice none 0 0, .int .i64 0]), 3, 48) := by kernel_rfl

def FactsPost (w : World) (p : Nat) (ao : Option Addr) (cap : Nat) (L : List Tok) (c f : Int) (res : PR (List PAtom)) (e : Ending) (w' : World) : Prop :=
  match res with
  | .bad ec eo => e = PEnd ec eo ∧ Only (fun k => k = p) w w'
  | .ok b r => ∃ v ls, e = .returned v ∧ ls.map Atx.pur = b ∧ ls.length ≤ 4096 ∧ Grow elAtx 32 w.heap.size w' v ls ∧ Ahead w' p ao cap L c f r ∧ Only (fun k => k = p) w w'
theorem factsPost_bad {w w' : World} {p : Nat} {ao : Option Addr} {cap : Nat} {L : List Tok} {c f ec eo : Int} {e : Ending} (h : FactsPost w p ao cap L c f (.bad ec eo) e w') : e = PEnd ec eo ∧ Only (fun k => k = p) w w' := h
theorem factsPost_ok {w w' : World} {p : Nat} {ao : Option Addr} {cap : Nat} {L : List Tok} {c f : Int} {x : List PAtom} {r : List Tok} {e : Ending} (h : FactsPost w p ao cap L c f (.ok x r) e w') : ∃ v ls, e = .returned v ∧ ls.map Atx.pur = x ∧ ls.length ≤ 4096 ∧ Grow elAtx 32 w.heap.size w' v ls ∧ Ahead w' p ao cap L c f r ∧ Only (fun k => k = p) w w' := h

set_option maxHeartbeats 4000000 in
set_option maxRecDepth 100000 in
theorem facts_any {w : World} {p : Nat} {ao : Option Addr} {cap : Nat} {L : List Tok} {c f : Int} {R : List Tok} (h : Ahead w p ao cap L c f R) :
    Calls Tryd.prog 25 #[.pointer (some ⟨p, 0, none⟩)] w (FactsPost w p ao cap L c f (factsP c f R)) := by
  obtain ⟨res, hres⟩ : ∃ res, factsP c f R = res := ⟨_, rfl⟩
  rw [hres]
  have HRes0 : Hid (factsF c f (R.length + 1) [] R = res) := hres
  obtain ⟨Post, hPost⟩ : ∃ Post : Ending → World → Prop, Post = FactsPost w p ao cap L c f res := ⟨_, rfl⟩
  rw [← hPost]
  have PB : Hid (∀ ec eo w', res = .bad ec eo → Only (fun k => k = p) w w' → Post (PEnd ec eo) w') := fun ec eo w' hr ho => by
    rw [hPost, hr]; exact ⟨rfl, ho⟩
  have PG : Hid (∀ b r' v ls w', res = .ok b r' → ls.map Atx.pur = b → ls.length ≤ 4096 → Grow elAtx 32 w.heap.size w' v ls → Ahead w' p ao cap L c f r' → Only (fun k => k = p) w w' → Post (.returned v) w') := fun b r' v ls w' hr h1 h2 h3 h4 h5 => by
    rw [hPost, hr]; exact ⟨v, ls, rfl, h1, h2, h3, h4, h5⟩
  have HC0 := hide (Coll3.start (E := elAtx) (e := 32) h)
  clear hPost h hres
  go_enter Tryd.func25, Tryd.ntmps25
  go_wp2
  go_loopw [3] (fun v wr => ∃ (n : Nat) (ls : List Atx) (R1 : List Tok), ls.length ≤ 4096 ∧ R1.length < n ∧ Hid (Coll3 elAtx 32 w wr p ao cap L c f R1 w.heap.size v ls) ∧ Hid (factsF c f n (ls.map Atx.pur) R1 = res)) (fun _ wr => 70000 - (intOf ((wr.cell? ⟨p, 4, none⟩).getD undef)).toNat)
  case atStart => exact ⟨R.length + 1, [], R, by simp, by omega, HC0, HRes0⟩
  case round =>
    clear HC0 HRes0
    obtain ⟨n, ls, R1, hls, hn, HC, HRes⟩ := hrel
    obtain ⟨n, rfl⟩ : ∃ m, n = m + 1 := ⟨n - 1, by omega⟩
    obtain ⟨va, vc, rfl, -⟩ := HC.out.gr.shape
    cases hT : takeP c f [1, 0] R1 with
    | bad ec eo =>
      have HT : Hid (∀ (W : World) (g : Nat), W.heap.size = g → Ahead W p ao cap L c f R1 → Calls Tryd.prog 40 #[.pointer (some ⟨p, 0, none⟩), .slice (some ⟨g, 0, none⟩) 2 2] (W.alloc (.cells #[.int .i64 1, .int .i64 0] 3)) fun e w' => e = PEnd ec eo ∧ Below W.heap.size W w') := fun W g hg ha => hg ▸ take_lit_fail [1, 0] ha (by decide) hT
      have HX : Hid (res = .bad ec eo) := by show _ = _; rw [← HRes.out]; exact facts_bad1 hT
      clear hT
      go_wp2_with (go_at_call 40; refine (HT.out _ _ rfl HC.out.ah).mono ?_; rintro e w1 ⟨rfl, hb1⟩)
      exact ⟨rfl, PB.out _ _ _ HX.out (HC.out.below hb1).end_⟩
    | ok t r1 =>
      have HT : Hid (∀ (W : World) (g : Nat), W.heap.size = g → Ahead W p ao cap L c f R1 → Calls Tryd.prog 40 #[.pointer (some ⟨p, 0, none⟩), .slice (some ⟨g, 0, none⟩) 2 2] (W.alloc (.cells #[.int .i64 1, .int .i64 0] 3)) fun e w' => e = .returned (tokV t) ∧ Ahead w' p ao cap L c f r1 ∧ Only (fun b => b = p) W w') := fun W g hg ha => hg ▸ take_lit_good [1, 0] ha (by decide) hT
      have htg : t.good := HC.out.ah.good t (by rw [(take_eq hT).1]; exact List.mem_cons_self)
      have l1 := take_len hT
      unfold tokV at HT
      by_cases h0 : t.k = 0
      · have e0 : (t.k == 0) = true := by simpa using h0
        have HX : Hid (res = .ok (ls.map Atx.pur) r1) := by show _ = _; rw [← HRes.out]; exact facts_end hT h0
        clear hT h0
        go_wp2_with (go_at_call 40; refine (HT.out _ _ rfl HC.out.ah).mono ?_; rintro e w1 ⟨rfl, ha1, ho1⟩; have HC1 := hide ((HC.out.move ho1 ha1).below (belowA w1 (.cells #[.int .i64 t.k, .string t.t, .int .i64 t.n, .int .i64 t.op, .int .i64 (t.off : Int), .int .i64 (t.en : Int)] 108))); clear ha1 ho1 HT)
        exact PG.out _ _ _ _ _ HX.out rfl hls HC1.out.gr HC1.out.ah HC1.out.end_
      · have e0 : (t.k == 0) = false := by simpa using h0
        by_cases hmx : ls.length = 4096
        · have HLm := hide (limit_eq (ls.length : Int) 4096 24 (t.off : Int) (h := by omega))
          have HX : Hid (res = .bad 24 (t.off : Int)) := by show _ = _; rw [← HRes.out]; exact facts_lim hT h0 (by rw [List.length_map]; exact hmx)
          clear hT h0 hmx hls
          go_wp2_with (first
            | (go_at_call 40; refine (HT.out _ _ rfl HC.out.ah).mono ?_; rintro e w1 ⟨rfl, ha1, ho1⟩; have HC1 := hide ((HC.out.move ho1 ha1).below (belowA w1 (.cells #[.int .i64 t.k, .string t.t, .int .i64 t.n, .int .i64 t.op, .int .i64 (t.off : Int), .int .i64 (t.en : Int)] 108))); clear ha1 ho1 HT)
            | (go_at_call 42; refine (HLm.out _).mono ?_; rintro e w2 ⟨rfl, hw⟩; have hw := hw.symm; subst hw))
          exact ⟨rfl, PB.out _ _ _ HX.out HC1.out.end_⟩
        · have HLm := hide (limit_ok (ls.length : Int) 4096 24 (t.off : Int) (h := by omega))
          have hls4 : ls.length < 4096 := by omega
          have HG0 := fun (W : World) (ha : Ahead W p ao cap L c f r1) => ground_any t ha htg
          unfold tokV at HG0
          cases hC : atomP c f valueKs t r1 with
          | bad ec eo =>
            rw [hC] at HG0
            have HGd := hide HG0
            have HX : Hid (res = .bad ec eo) := by show _ = _; rw [← HRes.out]; exact facts_atom hT h0 (by rw [List.length_map]; exact hmx) hC
            clear hT h0 hmx hC HG0
            go_wp2_with (first
              | (go_at_call 40; refine (HT.out _ _ rfl HC.out.ah).mono ?_; rintro e w1 ⟨rfl, ha1, ho1⟩; have HC1 := hide ((HC.out.move ho1 ha1).below (belowA w1 (.cells #[.int .i64 t.k, .string t.t, .int .i64 t.n, .int .i64 t.op, .int .i64 (t.off : Int), .int .i64 (t.en : Int)] 108))); clear ha1 ho1 HT)
              | (go_at_call 42; refine (HLm.out _).mono ?_; rintro e w2 ⟨⟨v2, rfl⟩, hw⟩; have hw := hw.symm; subst hw)
              | (go_at_call 39; refine (HGd.out _ HC1.out.ah).mono ?_; intro e w3 hq; obtain ⟨rfl, ho3⟩ := atmPost_bad hq; clear hq))
            exact ⟨rfl, PB.out _ _ _ HX.out (HC1.out.endM ho3)⟩
          | ok x r2 =>
            rw [hC] at HG0
            have HGd := hide HG0
            have l2 := atom_len hC
            clear HG0
            cases hD : takeP c f [8] r2 with
            | bad ec eo =>
              have HU : Hid (∀ (W : World) (g : Nat), W.heap.size = g → Ahead W p ao cap L c f r2 → Calls Tryd.prog 40 #[.pointer (some ⟨p, 0, none⟩), .slice (some ⟨g, 0, none⟩) 1 1] (W.alloc (.cells #[.int .i64 8] 3)) fun e w' => e = PEnd ec eo ∧ Below W.heap.size W w') := fun W g hg ha => hg ▸ take_lit_fail [8] ha (by decide) hD
              have HX : Hid (res = .bad ec eo) := by show _ = _; rw [← HRes.out]; exact facts_dot hT h0 (by rw [List.length_map]; exact hmx) hC hD
              clear hT h0 hmx hC hD
              go_wp2_with (first
                | (go_at_call 40; refine (HT.out _ _ rfl HC.out.ah).mono ?_; rintro e w1 ⟨rfl, ha1, ho1⟩; have HC1 := hide ((HC.out.move ho1 ha1).below (belowA w1 (.cells #[.int .i64 t.k, .string t.t, .int .i64 t.n, .int .i64 t.op, .int .i64 (t.off : Int), .int .i64 (t.en : Int)] 108))); clear ha1 ho1 HT)
                | (go_at_call 42; refine (HLm.out _).mono ?_; rintro e w2 ⟨⟨v2, rfl⟩, hw⟩; have hw := hw.symm; subst hw)
                | (go_at_call 39; refine (HGd.out _ HC1.out.ah).mono ?_; intro e w3 hq; obtain ⟨⟨ap, av, aoff, ats⟩, rfl, hpur, hok, ha3, ho3⟩ := atmPost_ok hq; clear hq; obtain ⟨xa, xc, rfl, -⟩ := (show Lst elTrm _ _ av ats from hok.2.2).shape; have HPu := hide hpur; have HOk := hide (HC1.out.gr.behind HC1.out.hi elAtx hok); have HC3 := hide (HC1.out.move ho3 ha3); have HC4 := hide (HC3.out.below (belowA w3 (.cells #[.string ap, .slice xa ats.length xc, .int .i64 aoff] 32))); have HOk4 := hide (elAtx.move HOk.out fun b hlt hF => ⟨hF, (belowA w3 (.cells #[.string ap, .slice xa ats.length xc, .int .i64 aoff] 32)).block b hlt⟩); clear hpur hok ha3 ho3 HOk HGd; unfold Atx.val)
                | (at_builtin; obtain ⟨i0, hi0, hz0, hz1, hz2⟩ := info_parts Tryd.infoAtm; refine wpList_push (w0 := w3.alloc (.cells #[.string ap, .slice xa ats.length xc, .int .i64 aoff] 32)) elAtx rfl _ _ 29 rfl w.heap.size 32 i0 _ 48 Tryd.underlying29 hi0 hz0 hz1 hz2 rfl (by decide) _ ls ls.length rfl rfl HC4.out.gr ⟨ap, .slice xa ats.length xc, aoff, ats⟩ w3.heap.size 1 rfl (fun j u hu => new_cells (cs := #[.string ap, .slice xa ats.length xc, .int .i64 aoff]) j u hu) HOk4.out (by omega) (Below.refl _ _) HC4.out.hi ?_; intro g cap' w5 HG5 HB5 HGr; clear HB5 hi0 hz0 hz1 hz2; have HC5 := hide (HC4.out.grown HGr.out HG5.out); clear HG5 HGr HC4 HOk4)
                | (go_at_call 40; refine (HU.out _ _ rfl HC5.out.ah).mono ?_; rintro e w6 ⟨rfl, hb6⟩))
              exact ⟨rfl, PB.out _ _ _ HX.out (HC5.out.below hb6).end_⟩
            | ok s r3 =>
              have HU : Hid (∀ (W : World) (g : Nat), W.heap.size = g → Ahead W p ao cap L c f r2 → Calls Tryd.prog 40 #[.pointer (some ⟨p, 0, none⟩), .slice (some ⟨g, 0, none⟩) 1 1] (W.alloc (.cells #[.int .i64 8] 3)) fun e w' => e = .returned (tokV s) ∧ Ahead w' p ao cap L c f r3 ∧ Only (fun b => b = p) W w') := fun W g hg ha => hg ▸ take_lit_good [8] ha (by decide) hD
              have l3 := take_len hD
              have HX : Hid (factsF c f n (ls.map Atx.pur ++ [x]) r3 = res) := by show _ = _; rw [← HRes.out]; exact (facts_more hT h0 (by rw [List.length_map]; exact hmx) hC hD).symm
              have HLn : Hid (r3.length < R1.length ∧ r3.length < n) := ⟨by omega, by omega⟩
              obtain ⟨ix, isz⟩ := HC.out.ah.index
              have HIx := hide (And.intro ix isz)
              clear hT h0 hmx hC hD l1 l2 l3 ix isz
              go_wp2_with (first
                | (go_at_call 40; refine (HT.out _ _ rfl HC.out.ah).mono ?_; rintro e w1 ⟨rfl, ha1, ho1⟩; have HC1 := hide ((HC.out.move ho1 ha1).below (belowA w1 (.cells #[.int .i64 t.k, .string t.t, .int .i64 t.n, .int .i64 t.op, .int .i64 (t.off : Int), .int .i64 (t.en : Int)] 108))); clear ha1 ho1 HT)
                | (go_at_call 42; refine (HLm.out _).mono ?_; rintro e w2 ⟨⟨v2, rfl⟩, hw⟩; have hw := hw.symm; subst hw)
                | (go_at_call 39; refine (HGd.out _ HC1.out.ah).mono ?_; intro e w3 hq; obtain ⟨⟨ap, av, aoff, ats⟩, rfl, hpur, hok, ha3, ho3⟩ := atmPost_ok hq; clear hq; obtain ⟨xa, xc, rfl, -⟩ := (show Lst elTrm _ _ av ats from hok.2.2).shape; have HPu := hide hpur; have HOk := hide (HC1.out.gr.behind HC1.out.hi elAtx hok); have HC3 := hide (HC1.out.move ho3 ha3); have HC4 := hide (HC3.out.below (belowA w3 (.cells #[.string ap, .slice xa ats.length xc, .int .i64 aoff] 32))); have HOk4 := hide (elAtx.move HOk.out fun b hlt hF => ⟨hF, (belowA w3 (.cells #[.string ap, .slice xa ats.length xc, .int .i64 aoff] 32)).block b hlt⟩); clear hpur hok ha3 ho3 HOk HGd; unfold Atx.val)
                | (at_builtin; obtain ⟨i0, hi0, hz0, hz1, hz2⟩ := info_parts Tryd.infoAtm; refine wpList_push (w0 := w3.alloc (.cells #[.string ap, .slice xa ats.length xc, .int .i64 aoff] 32)) elAtx rfl _ _ 29 rfl w.heap.size 32 i0 _ 48 Tryd.underlying29 hi0 hz0 hz1 hz2 rfl (by decide) _ ls ls.length rfl rfl HC4.out.gr ⟨ap, .slice xa ats.length xc, aoff, ats⟩ w3.heap.size 1 rfl (fun j u hu => new_cells (cs := #[.string ap, .slice xa ats.length xc, .int .i64 aoff]) j u hu) HOk4.out (by omega) (Below.refl _ _) HC4.out.hi ?_; intro g cap' w5 HG5 HB5 HGr; clear HB5 hi0 hz0 hz1 hz2; have HC5 := hide (HC4.out.grown HGr.out HG5.out); clear HG5 HGr HC4 HOk4)
                | (go_at_call 40; refine (HU.out _ _ rfl HC5.out.ah).mono ?_; rintro e w6 ⟨rfl, ha6, ho6⟩; have HC6 := hide (HC5.out.move ho6 ha6); clear ha6 ho6))
              go_roundw
              case rel => exact ⟨n, ls ++ [⟨ap, .slice xa ats.length xc, aoff, ats⟩], r3, by simp; omega, HLn.out.2, HC6, by show _ = _; rw [List.map_append, List.map_singleton, HPu.out]; exact HX.out⟩
              case measure =>
                obtain ⟨jx, -⟩ := HC6.out.ah.index
                have h1 := HLn.out
                have h2 := HIx.out
                omega

set_option maxHeartbeats 1000000 in
set_option maxRecDepth 100000 in
theorem query_any {w : World} {p : Nat} {ao : Option Addr} {cap : Nat} {L : List Tok} {c f : Int} {R : List Tok} (h : Ahead w p ao cap L c f R) :
    Calls Tryd.prog 31 #[.pointer (some ⟨p, 0, none⟩)] w (BodyPost w p ao cap L c f (queryP c f R)) := by
  have HB0 := body_any h
  have hp := h.lt
  clear h
  cases hB : bodyP c f R with
  | bad ec eo =>
    rw [hB] at HB0
    have HBo := hide HB0
    rw [show queryP c f R = .bad ec eo from by unfold queryP; rw [hB]]
    clear HB0 hB
    unfold BodyPost
    go_enter Tryd.func31, Tryd.ntmps31
    go_wp2_with (go_at_call 47; refine HBo.out.mono ?_; intro e w1 hq; obtain ⟨rfl, ho1⟩ := bodyPost_bad hq; clear hq)
    exact ⟨rfl, rfl, ho1⟩
  | ok b r1 =>
    rw [hB] at HB0
    have HBo := hide HB0
    clear HB0
    cases hT : takeP c f [0] r1 with
    | bad ec eo =>
      have HU : Hid (∀ (W : World) (g : Nat), W.heap.size = g → Ahead W p ao cap L c f r1 → Calls Tryd.prog 40 #[.pointer (some ⟨p, 0, none⟩), .slice (some ⟨g, 0, none⟩) 1 1] (W.alloc (.cells #[.int .i64 0] 3)) fun e w' => e = PEnd ec eo ∧ Below W.heap.size W w') := fun W g hg ha => hg ▸ take_lit_fail [0] ha (by decide) hT
      rw [show queryP c f R = .bad ec eo from by unfold queryP; rw [hB]; simp only; rw [hT]]
      clear hB hT
      unfold BodyPost
      go_enter Tryd.func31, Tryd.ntmps31
      go_wp2_with (first
        | (go_at_call 47; refine HBo.out.mono ?_; intro e w1 hq; obtain ⟨bv, ls, rfl, hpur, hl, hgr, ha1, ho1⟩ := bodyPost_ok hq; clear hq; have HPu := hide hpur; have HL1 := hide hl; have HG1 := hide hgr; have HA1 := hide ha1; have HO1 := hide ho1; obtain ⟨ba, bc, rfl, -⟩ := hgr.shape; clear hpur hl hgr ha1 ho1)
        | (go_at_call 40; refine (HU.out _ _ rfl HA1.out).mono ?_; rintro e w2 ⟨rfl, hb2⟩))
      exact ⟨rfl, rfl, HO1.out.trans (Only.of_below hb2 _)⟩
    | ok s r2 =>
      have HU : Hid (∀ (W : World) (g : Nat), W.heap.size = g → Ahead W p ao cap L c f r1 → Calls Tryd.prog 40 #[.pointer (some ⟨p, 0, none⟩), .slice (some ⟨g, 0, none⟩) 1 1] (W.alloc (.cells #[.int .i64 0] 3)) fun e w' => e = .returned (tokV s) ∧ Ahead w' p ao cap L c f r2 ∧ Only (fun b => b = p) W w') := fun W g hg ha => hg ▸ take_lit_good [0] ha (by decide) hT
      rw [show queryP c f R = .ok b r2 from by unfold queryP; rw [hB]; simp only; rw [hT]]
      clear hB hT
      obtain ⟨Post, hPost⟩ : ∃ Post : Ending → World → Prop, Post = BodyPost w p ao cap L c f (.ok b r2) := ⟨_, rfl⟩
      rw [← hPost]
      have PG : Hid (∀ v ls w', ls.map Lix.pur = b → ls.length ≤ 16 → Grow elLix 86 w.heap.size w' v ls → Ahead w' p ao cap L c f r2 → Only (fun k => k = p) w w' → Post (.returned v) w') := fun v ls w' h1 h2 h3 h4 h5 => by
        rw [hPost]; exact ⟨v, ls, rfl, h1, h2, h3, h4, h5⟩
      clear hPost
      go_enter Tryd.func31, Tryd.ntmps31
      go_wp2_with (first
        | (go_at_call 47; refine HBo.out.mono ?_; intro e w1 hq; obtain ⟨bv, ls, rfl, hpur, hl, hgr, ha1, ho1⟩ := bodyPost_ok hq; clear hq; have HPu := hide hpur; have HL1 := hide hl; have HG1 := hide hgr; have HA1 := hide ha1; have HO1 := hide ho1; obtain ⟨ba, bc, rfl, -⟩ := hgr.shape; clear hpur hl hgr ha1 ho1)
        | (go_at_call 40; refine (HU.out _ _ rfl HA1.out).mono ?_; rintro e w2 ⟨rfl, ha2, ho2⟩; have HA2 := hide ha2; have HO2 := hide ho2; clear ha2 ho2))
      first
        | exact PG.out _ _ _ HPu.out HL1.out (HG1.out.above fun k hk hlt => HO2.out.block k hlt (by omega)) HA2.out (HO1.out.trans HO2.out)
        | (go_ret; exact PG.out _ _ _ HPu.out HL1.out (HG1.out.above fun k hk hlt => HO2.out.block k hlt (by omega)) HA2.out (HO1.out.trans HO2.out))
end Go.Proofs.YtilckhdaijfddaaDoor

namespace Go.Proofs.YtilckhdaijfddaaDoor
set_option linter.unusedSimpArgs false
set_option linter.unusedVariables false
open Go.RowKit

def ReadFacts (w : World) (s : ByteArray) (e : Ending) (w' : World) : Prop :=
  match factsP (scanX s).2.1 ((scanX s).2.2 : Int) (scanX s).1 with
  | .bad ec eo => e = .returned (.tuple #[.slice none 0 0, faultV ec eo]) ∧ Below w.heap.size w w'
  | .ok b _ => ∃ v cs, e = .returned (.tuple #[v, faultV 0 0]) ∧ cs.map Atx.pur = b ∧ cs.length ≤ 4096 ∧ Grow elAtx 32 w.heap.size w' v cs ∧ Below w.heap.size w w'

set_option maxRecDepth 100000 in
set_option maxHeartbeats 2000000 in
theorem readFacts_any (s : ByteArray) (w : World) (hl : LexLaid w) (hs : s.size ≤ 140737488351232) :
    Calls Tryd.prog 24 #[.string s, .func (.func 25) #[] #[]] w (ReadFacts w s) := by
  have hmf : ∀ (fn : Fn) (first cap : Array Value) (w : World), (Instr.makeFunc fn first cap).run Tryd.prog w = .ok (.func fn first cap) w := fun _ _ _ _ => rfl
  have HSc := hide (fun (W : World) (hb : Below w.heap.size w W) => scan_any s W (hl.kept hb) hs)
  clear hl hs
  unfold faultVal at HSc
  obtain ⟨res, hres⟩ : ∃ res, factsP (scanX s).2.1 ((scanX s).2.2 : Int) (scanX s).1 = res := ⟨_, rfl⟩
  obtain ⟨Post, hPost⟩ : ∃ Post : Ending → World → Prop, Post = ReadFacts w s := ⟨_, rfl⟩
  rw [← hPost]
  have PB : Hid (∀ ec eo w', res = .bad ec eo → Below w.heap.size w w' → Post (.returned (.tuple #[.slice none 0 0, .agg #[.int .i64 ec, .int .i64 0, .int .i64 eo]])) w') := fun ec eo w' hr hb => by
    rw [hPost]; unfold ReadFacts; rw [hres, hr]; exact ⟨rfl, hb⟩
  have PG : Hid (∀ b r v cs w', res = .ok b r → cs.map Atx.pur = b → cs.length ≤ 4096 → Grow elAtx 32 w.heap.size w' v cs → Below w.heap.size w w' → Post (.returned (.tuple #[v, .agg #[.int .i64 0, .int .i64 0, .int .i64 0]])) w') := fun b r v cs w' hr h1 h2 h3 h4 => by
    rw [hPost]; unfold ReadFacts; rw [hres, hr]; exact ⟨v, cs, rfl, h1, h2, h3, h4⟩
  have HR := hide hres
  clear hPost hres
  go_enter_defers Tryd.func24, Tryd.ntmps24
  go_wp2_with (go_at_call 38; refine (HSc.out _ (belowA _ _)).mono ?_; rintro e w1 ⟨v, rfl, ho1, hb1⟩; obtain ⟨ao, cap, rfl⟩ := own_shape ho1; have HO1 := hide ho1; have HB1 := hide hb1; clear ho1 hb1)
  have hs1 : w.heap.size + 1 ≤ w1.heap.size := by have := HB1.out.size; simp at this; omega
  have HA := hide (scan_ahead HB1.out HO1.out (W2 := (w1.alloc (.cells #[.int .i64 (scanX s).2.1, .int .i64 0, .int .i64 ((scanX s).2.2 : Int)] 45)).alloc (.cells #[.slice ao (scanX s).1.length cap, .int .i64 (scanX s).2.1, .int .i64 0, .int .i64 ((scanX s).2.2 : Int), .int .i64 0] 105)) (below2a w1 _ _) rfl (p := w1.heap.size + 1) (by omega) (by have := heap_alloc_new (w1.alloc (.cells #[.int .i64 (scanX s).2.1, .int .i64 0, .int .i64 ((scanX s).2.2 : Int)] 45)) (.cells #[.slice ao (scanX s).1.length cap, .int .i64 (scanX s).2.1, .int .i64 0, .int .i64 ((scanX s).2.2 : Int), .int .i64 0] 105); simpa using this))
  have HP := facts_any HA.out
  rw [HR.out] at HP
  have HK : Hid (∀ w2, Only (fun k => k = w1.heap.size + 1) ((w1.alloc (.cells #[.int .i64 (scanX s).2.1, .int .i64 0, .int .i64 ((scanX s).2.2 : Int)] 45)).alloc (.cells #[.slice ao (scanX s).1.length cap, .int .i64 (scanX s).2.1, .int .i64 0, .int .i64 ((scanX s).2.2 : Int), .int .i64 0] 105)) w2 → w2.heap[w.heap.size]? = some (.cells #[.int .i64 0, .int .i64 0, .int .i64 0] 45 (0, 0)) ∧ Only (fun k => w.heap.size ≤ k) w w2) := fun w2 ho => by
    have q : ∀ k, k < w.heap.size + 1 → w2.heap[k]? = (w.alloc (.cells #[.int .i64 0, .int .i64 0, .int .i64 0] 45)).heap[k]? := fun k hk => by
      rw [ho.block k (by simp; omega) (by omega), (below2a w1 _ _).block k (by omega), HB1.out.block k (by simp; omega)]
    refine ⟨?_, ((Only.of_below (belowA w _) _).trans (Only.of_below HB1.out _)).trans ((Only.of_below (below2a w1 _ _) _).trans (ho.mono fun k _ (e : k = w1.heap.size + 1) => by omega))⟩
    rw [q _ (by omega)]; exact heap_alloc_new w _
  clear HO1 HB1 HSc HR
  cases res with
  | bad ec eo =>
    refine HP.mono ?_
    intro e w2 hq
    obtain ⟨rfl, ho2⟩ := factsPost_bad hq
    obtain ⟨k1, k2⟩ := HK.out w2 ho2
    clear hq HP HA
    refine leaves_cons (f := 41) (args := #[.pointer (some ⟨w.heap.size, 0, none⟩)]) (by simp) (by simp [go_sem]) ?_
    refine (caughtFacts w.heap.size ec eo [] w2 k1).mono ?_
    rintro e u' w3 ⟨rfl, rfl, h3, o3⟩
    obtain ⟨⟨d0, d1, d2⟩, -⟩ := fault_cells h3
    have HF := hide (PB.out ec eo w3 rfl ((k2.trans (o3.mono fun k _ (e : k = w.heap.size) => by omega)).below (Nat.le_refl _) (fun k hk e => by omega)))
    clear o3 h3 k1 k2
    simp [Leaves, settle, results, Tryd.results24, go_sem, d0, d1, d2]
    exact HF.out
  | ok b r =>
    refine HP.mono ?_
    intro e w2 hq
    obtain ⟨v, cs, rfl, hpur, hlen, hgr, ha2, ho2⟩ := factsPost_ok hq
    obtain ⟨va, vc, rfl, -⟩ := hgr.shape
    obtain ⟨k1, k2⟩ := HK.out w2 ho2
    have HPu := hide hpur
    have HLn := hide hlen
    have HG := hide hgr
    have HK2 := hide k2
    clear hq HP HA hpur hlen hgr ha2 ho2
    obtain ⟨⟨d0, d1, d2⟩, ⟨y0, y1, y2⟩⟩ := fault_cells k1
    go_wp2_with fail
    have hO : Only (fun k => k = w.heap.size) w2 (((w2.setCell ⟨w.heap.size, 0, none⟩ (.int .i64 0)).setCell ⟨w.heap.size, 1, none⟩ (.int .i64 0)).setCell ⟨w.heap.size, 2, none⟩ (.int .i64 0)) := (((Only.refl (fun k => k = w.heap.size) w2).setCell (p := ⟨w.heap.size, 0, none⟩) rfl _).setCell (p := ⟨w.heap.size, 1, none⟩) rfl _).setCell (p := ⟨w.heap.size, 2, none⟩) rfl _
    have hV1 : (((w2.setCell ⟨w.heap.size, 0, none⟩ (.int .i64 0)).setCell ⟨w.heap.size, 1, none⟩ (.int .i64 0)).setCell ⟨w.heap.size, 2, none⟩ (.int .i64 0)).heap[w.heap.size]? = some (.cells #[.int .i64 0, .int .i64 0, .int .i64 0] 45 (0, 0)) := by simp [World.setCell, Array.getElem?_modify, k1]
    generalize ((w2.setCell ⟨w.heap.size, 0, none⟩ (.int .i64 0)).setCell ⟨w.heap.size, 1, none⟩ (.int .i64 0)).setCell ⟨w.heap.size, 2, none⟩ (.int .i64 0) = V at hO hV1 ⊢
    clear d0 d1 d2 y0 y1 y2 k1
    refine leaves_cons (f := 41) (args := #[.pointer (some ⟨w.heap.size, 0, none⟩)]) (by simp) (by simp [go_sem]) ?_
    refine (idleFacts ⟨w.heap.size, 0, none⟩ V).mono ?_
    rintro e u' w3 ⟨rfl, rfl, hw⟩
    have hw := hw.symm
    subst hw
    obtain ⟨⟨d0, d1, d2⟩, -⟩ := fault_cells hV1
    have HF := hide (PG.out b r (.slice va cs.length vc) cs V rfl HPu.out HLn.out ((HG.out.above fun k hk hlt => hO.block k hlt (by simp at hk; omega)).mono (by simp <;> omega)) ((HK2.out.trans (hO.mono fun k _ (e : k = w.heap.size) => by omega)).below (Nat.le_refl _) (fun k hk e => by omega)))
    clear hO hV1
    simp [Leaves, settle, results, Tryd.results24, go_sem, d0, d1, d2]
    exact HF.out
end Go.Proofs.YtilckhdaijfddaaDoor

namespace Go.Proofs.YtilckhdaijfddaaDoor
set_option linter.unusedSimpArgs false
set_option linter.unusedVariables false
open Go.RowKit

def ReadQuery (w : World) (s : ByteArray) (e : Ending) (w' : World) : Prop :=
  match queryP (scanX s).2.1 ((scanX s).2.2 : Int) (scanX s).1 with
  | .bad ec eo => e = .returned (.tuple #[.slice none 0 0, faultV ec eo]) ∧ Below w.heap.size w w'
  | .ok b _ => ∃ v cs, e = .returned (.tuple #[v, faultV 0 0]) ∧ cs.map Lix.pur = b ∧ cs.length ≤ 16 ∧ Grow elLix 86 w.heap.size w' v cs ∧ Below w.heap.size w w'

set_option maxRecDepth 100000 in
set_option maxHeartbeats 2000000 in
theorem readQuery_any (s : ByteArray) (w : World) (hl : LexLaid w) (hs : s.size ≤ 140737488351232) :
    Calls Tryd.prog 30 #[.string s, .func (.func 31) #[] #[]] w (ReadQuery w s) := by
  have hmf : ∀ (fn : Fn) (first cap : Array Value) (w : World), (Instr.makeFunc fn first cap).run Tryd.prog w = .ok (.func fn first cap) w := fun _ _ _ _ => rfl
  have HSc := hide (fun (W : World) (hb : Below w.heap.size w W) => scan_any s W (hl.kept hb) hs)
  clear hl hs
  unfold faultVal at HSc
  obtain ⟨res, hres⟩ : ∃ res, queryP (scanX s).2.1 ((scanX s).2.2 : Int) (scanX s).1 = res := ⟨_, rfl⟩
  obtain ⟨Post, hPost⟩ : ∃ Post : Ending → World → Prop, Post = ReadQuery w s := ⟨_, rfl⟩
  rw [← hPost]
  have PB : Hid (∀ ec eo w', res = .bad ec eo → Below w.heap.size w w' → Post (.returned (.tuple #[.slice none 0 0, .agg #[.int .i64 ec, .int .i64 0, .int .i64 eo]])) w') := fun ec eo w' hr hb => by
    rw [hPost]; unfold ReadQuery; rw [hres, hr]; exact ⟨rfl, hb⟩
  have PG : Hid (∀ b r v cs w', res = .ok b r → cs.map Lix.pur = b → cs.length ≤ 16 → Grow elLix 86 w.heap.size w' v cs → Below w.heap.size w w' → Post (.returned (.tuple #[v, .agg #[.int .i64 0, .int .i64 0, .int .i64 0]])) w') := fun b r v cs w' hr h1 h2 h3 h4 => by
    rw [hPost]; unfold ReadQuery; rw [hres, hr]; exact ⟨v, cs, rfl, h1, h2, h3, h4⟩
  have HR := hide hres
  clear hPost hres
  go_enter_defers Tryd.func30, Tryd.ntmps30
  go_wp2_with (go_at_call 38; refine (HSc.out _ (belowA _ _)).mono ?_; rintro e w1 ⟨v, rfl, ho1, hb1⟩; obtain ⟨ao, cap, rfl⟩ := own_shape ho1; have HO1 := hide ho1; have HB1 := hide hb1; clear ho1 hb1)
  have hs1 : w.heap.size + 1 ≤ w1.heap.size := by have := HB1.out.size; simp at this; omega
  have HA := hide (scan_ahead HB1.out HO1.out (W2 := (w1.alloc (.cells #[.int .i64 (scanX s).2.1, .int .i64 0, .int .i64 ((scanX s).2.2 : Int)] 45)).alloc (.cells #[.slice ao (scanX s).1.length cap, .int .i64 (scanX s).2.1, .int .i64 0, .int .i64 ((scanX s).2.2 : Int), .int .i64 0] 105)) (below2a w1 _ _) rfl (p := w1.heap.size + 1) (by omega) (by have := heap_alloc_new (w1.alloc (.cells #[.int .i64 (scanX s).2.1, .int .i64 0, .int .i64 ((scanX s).2.2 : Int)] 45)) (.cells #[.slice ao (scanX s).1.length cap, .int .i64 (scanX s).2.1, .int .i64 0, .int .i64 ((scanX s).2.2 : Int), .int .i64 0] 105); simpa using this))
  have HP := query_any HA.out
  rw [HR.out] at HP
  have HK : Hid (∀ w2, Only (fun k => k = w1.heap.size + 1) ((w1.alloc (.cells #[.int .i64 (scanX s).2.1, .int .i64 0, .int .i64 ((scanX s).2.2 : Int)] 45)).alloc (.cells #[.slice ao (scanX s).1.length cap, .int .i64 (scanX s).2.1, .int .i64 0, .int .i64 ((scanX s).2.2 : Int), .int .i64 0] 105)) w2 → w2.heap[w.heap.size]? = some (.cells #[.int .i64 0, .int .i64 0, .int .i64 0] 45 (0, 0)) ∧ Only (fun k => w.heap.size ≤ k) w w2) := fun w2 ho => by
    have q : ∀ k, k < w.heap.size + 1 → w2.heap[k]? = (w.alloc (.cells #[.int .i64 0, .int .i64 0, .int .i64 0] 45)).heap[k]? := fun k hk => by
      rw [ho.block k (by simp; omega) (by omega), (below2a w1 _ _).block k (by omega), HB1.out.block k (by simp; omega)]
    refine ⟨?_, ((Only.of_below (belowA w _) _).trans (Only.of_below HB1.out _)).trans ((Only.of_below (below2a w1 _ _) _).trans (ho.mono fun k _ (e : k = w1.heap.size + 1) => by omega))⟩
    rw [q _ (by omega)]; exact heap_alloc_new w _
  clear HO1 HB1 HSc HR
  cases res with
  | bad ec eo =>
    refine HP.mono ?_
    intro e w2 hq
    obtain ⟨rfl, ho2⟩ := bodyPost_bad hq
    obtain ⟨k1, k2⟩ := HK.out w2 ho2
    clear hq HP HA
    refine leaves_cons (f := 46) (args := #[.pointer (some ⟨w.heap.size, 0, none⟩)]) (by simp) (by simp [go_sem]) ?_
    refine (caughtQuery w.heap.size ec eo [] w2 k1).mono ?_
    rintro e u' w3 ⟨rfl, rfl, h3, o3⟩
    obtain ⟨⟨d0, d1, d2⟩, -⟩ := fault_cells h3
    have HF := hide (PB.out ec eo w3 rfl ((k2.trans (o3.mono fun k _ (e : k = w.heap.size) => by omega)).below (Nat.le_refl _) (fun k hk e => by omega)))
    clear o3 h3 k1 k2
    simp [Leaves, settle, results, Tryd.results30, go_sem, d0, d1, d2]
    exact HF.out
  | ok b r =>
    refine HP.mono ?_
    intro e w2 hq
    obtain ⟨v, cs, rfl, hpur, hlen, hgr, ha2, ho2⟩ := bodyPost_ok hq
    obtain ⟨va, vc, rfl, -⟩ := hgr.shape
    obtain ⟨k1, k2⟩ := HK.out w2 ho2
    have HPu := hide hpur
    have HLn := hide hlen
    have HG := hide hgr
    have HK2 := hide k2
    clear hq HP HA hpur hlen hgr ha2 ho2
    obtain ⟨⟨d0, d1, d2⟩, ⟨y0, y1, y2⟩⟩ := fault_cells k1
    go_wp2_with fail
    have hO : Only (fun k => k = w.heap.size) w2 (((w2.setCell ⟨w.heap.size, 0, none⟩ (.int .i64 0)).setCell ⟨w.heap.size, 1, none⟩ (.int .i64 0)).setCell ⟨w.heap.size, 2, none⟩ (.int .i64 0)) := (((Only.refl (fun k => k = w.heap.size) w2).setCell (p := ⟨w.heap.size, 0, none⟩) rfl _).setCell (p := ⟨w.heap.size, 1, none⟩) rfl _).setCell (p := ⟨w.heap.size, 2, none⟩) rfl _
    have hV1 : (((w2.setCell ⟨w.heap.size, 0, none⟩ (.int .i64 0)).setCell ⟨w.heap.size, 1, none⟩ (.int .i64 0)).setCell ⟨w.heap.size, 2, none⟩ (.int .i64 0)).heap[w.heap.size]? = some (.cells #[.int .i64 0, .int .i64 0, .int .i64 0] 45 (0, 0)) := by simp [World.setCell, Array.getElem?_modify, k1]
    generalize ((w2.setCell ⟨w.heap.size, 0, none⟩ (.int .i64 0)).setCell ⟨w.heap.size, 1, none⟩ (.int .i64 0)).setCell ⟨w.heap.size, 2, none⟩ (.int .i64 0) = V at hO hV1 ⊢
    clear d0 d1 d2 y0 y1 y2 k1
    refine leaves_cons (f := 46) (args := #[.pointer (some ⟨w.heap.size, 0, none⟩)]) (by simp) (by simp [go_sem]) ?_
    refine (idleQuery ⟨w.heap.size, 0, none⟩ V).mono ?_
    rintro e u' w3 ⟨rfl, rfl, hw⟩
    have hw := hw.symm
    subst hw
    obtain ⟨⟨d0, d1, d2⟩, -⟩ := fault_cells hV1
    have HF := hide (PG.out b r (.slice va cs.length vc) cs V rfl HPu.out HLn.out ((HG.out.above fun k hk hlt => hO.block k hlt (by simp at hk; omega)).mono (by simp <;> omega)) ((HK2.out.trans (hO.mono fun k _ (e : k = w.heap.size) => by omega)).below (Nat.le_refl _) (fun k hk e => by omega)))
    clear hO hV1
    simp [Leaves, settle, results, Tryd.results30, go_sem, d0, d1, d2]
    exact HF.out
end Go.Proofs.YtilckhdaijfddaaDoor

namespace Go.Proofs.YtilckhdaijfddaaDoor
set_option linter.unusedSimpArgs false
set_option linter.unusedVariables false
open Go.RowKit

theorem progCell {V : World} {b : Nat} {u : Value} (h : V.heap[b]? = some (.cells #[u] 61 (0, 0))) : V.cell? ⟨b, 0, none⟩ = some u ∧ V.frozen? ⟨b, 0, none⟩ = false := by
  refine ⟨?_, ?_⟩ <;> simp [World.cell?, World.frozen?, h]

theorem readProg_bad {w w' : World} {s : ByteArray} {e : Ending} {ec eo : Int} (h : ReadProg w s e w') (hr : progP (scanX s).2.1 ((scanX s).2.2 : Int) (scanX s).1 = .bad ec eo) : e = .returned (.tuple #[.agg #[.slice none 0 0], faultV ec eo]) ∧ Below w.heap.size w w' := by
  unfold ReadProg at h
  rw [hr] at h
  exact h
theorem readProg_own {w w' : World} {s : ByteArray} {e : Ending} {b} {r : List Tok} (h : ReadProg w s e w') (hr : progP (scanX s).2.1 ((scanX s).2.2 : Int) (scanX s).1 = .ok b r) : ∃ v cs, e = .returned (.tuple #[.agg #[v], faultV 0 0]) ∧ cs.map Clx.pur = b ∧ cs.length ≤ 512 ∧ Grow elClx 58 w.heap.size w' v cs ∧ Below w.heap.size w w' := by
  unfold ReadProg at h
  rw [hr] at h
  exact h
theorem readProg_ok {w w' : World} {s : ByteArray} {e : Ending} {b} {r : List Tok} (h : ReadProg w s e w') (hr : progP (scanX s).2.1 ((scanX s).2.2 : Int) (scanX s).1 = .ok b r) : ∃ v cs, e = .returned (.tuple #[.agg #[v], faultV 0 0]) ∧ cs.map Clx.pur = b ∧ cs.length ≤ 512 ∧ Lst elClx w' (fun k => w.heap.size ≤ k) v cs ∧ Below w.heap.size w w' := by
  unfold ReadProg at h
  rw [hr] at h
  obtain ⟨v, cs, e, h1, h2, h3, hb⟩ := h
  exact ⟨v, cs, e, h1, h2, h3.new (by omega), hb⟩
theorem readProg_mkb {w w' : World} {s : ByteArray} {ec eo : Int} (hr : progP (scanX s).2.1 ((scanX s).2.2 : Int) (scanX s).1 = .bad ec eo) (hb : Below w.heap.size w w') : ReadProg w s (.returned (.tuple #[.agg #[.slice none 0 0], faultV ec eo])) w' := by
  unfold ReadProg
  rw [hr]
  exact ⟨rfl, hb⟩
theorem readProg_mko {w w' : World} {s : ByteArray} {b} {r : List Tok} (hr : progP (scanX s).2.1 ((scanX s).2.2 : Int) (scanX s).1 = .ok b r) {v : Value} {cs : List Clx} (h1 : cs.map Clx.pur = b) (h2 : cs.length ≤ 512) (h3 : Grow elClx 58 w.heap.size w' v cs) (hb : Below w.heap.size w w') : ReadProg w s (.returned (.tuple #[.agg #[v], faultV 0 0])) w' := by
  unfold ReadProg
  rw [hr]
  exact ⟨v, cs, rfl, h1, h2, h3, hb⟩

theorem readFacts_bad {w w' : World} {s : ByteArray} {e : Ending} {ec eo : Int} (h : ReadFacts w s e w') (hr : factsP (scanX s).2.1 ((scanX s).2.2 : Int) (scanX s).1 = .bad ec eo) : e = .returned (.tuple #[.slice none 0 0, faultV ec eo]) ∧ Below w.heap.size w w' := by
  unfold ReadFacts at h
  rw [hr] at h
  exact h
theorem readFacts_own {w w' : World} {s : ByteArray} {e : Ending} {b} {r : List Tok} (h : ReadFacts w s e w') (hr : factsP (scanX s).2.1 ((scanX s).2.2 : Int) (scanX s).1 = .ok b r) : ∃ v cs, e = .returned (.tuple #[v, faultV 0 0]) ∧ cs.map Atx.pur = b ∧ cs.length ≤ 4096 ∧ Grow elAtx 32 w.heap.size w' v cs ∧ Below w.heap.size w w' := by
  unfold ReadFacts at h
  rw [hr] at h
  exact h
theorem readFacts_ok {w w' : World} {s : ByteArray} {e : Ending} {b} {r : List Tok} (h : ReadFacts w s e w') (hr : factsP (scanX s).2.1 ((scanX s).2.2 : Int) (scanX s).1 = .ok b r) : ∃ v cs, e = .returned (.tuple #[v, faultV 0 0]) ∧ cs.map Atx.pur = b ∧ cs.length ≤ 4096 ∧ Lst elAtx w' (fun k => w.heap.size ≤ k) v cs ∧ Below w.heap.size w w' := by
  unfold ReadFacts at h
  rw [hr] at h
  obtain ⟨v, cs, e, h1, h2, h3, hb⟩ := h
  exact ⟨v, cs, e, h1, h2, h3.new (by omega), hb⟩
theorem readFacts_mkb {w w' : World} {s : ByteArray} {ec eo : Int} (hr : factsP (scanX s).2.1 ((scanX s).2.2 : Int) (scanX s).1 = .bad ec eo) (hb : Below w.heap.size w w') : ReadFacts w s (.returned (.tuple #[.slice none 0 0, faultV ec eo])) w' := by
  unfold ReadFacts
  rw [hr]
  exact ⟨rfl, hb⟩
theorem readFacts_mko {w w' : World} {s : ByteArray} {b} {r : List Tok} (hr : factsP (scanX s).2.1 ((scanX s).2.2 : Int) (scanX s).1 = .ok b r) {v : Value} {cs : List Atx} (h1 : cs.map Atx.pur = b) (h2 : cs.length ≤ 4096) (h3 : Grow elAtx 32 w.heap.size w' v cs) (hb : Below w.heap.size w w') : ReadFacts w s (.returned (.tuple #[v, faultV 0 0])) w' := by
  unfold ReadFacts
  rw [hr]
  exact ⟨v, cs, rfl, h1, h2, h3, hb⟩

theorem readQuery_bad {w w' : World} {s : ByteArray} {e : Ending} {ec eo : Int} (h : ReadQuery w s e w') (hr : queryP (scanX s).2.1 ((scanX s).2.2 : Int) (scanX s).1 = .bad ec eo) : e = .returned (.tuple #[.slice none 0 0, faultV ec eo]) ∧ Below w.heap.size w w' := by
  unfold ReadQuery at h
  rw [hr] at h
  exact h
theorem readQuery_own {w w' : World} {s : ByteArray} {e : Ending} {b} {r : List Tok} (h : ReadQuery w s e w') (hr : queryP (scanX s).2.1 ((scanX s).2.2 : Int) (scanX s).1 = .ok b r) : ∃ v cs, e = .returned (.tuple #[v, faultV 0 0]) ∧ cs.map Lix.pur = b ∧ cs.length ≤ 16 ∧ Grow elLix 86 w.heap.size w' v cs ∧ Below w.heap.size w w' := by
  unfold ReadQuery at h
  rw [hr] at h
  exact h
theorem readQuery_ok {w w' : World} {s : ByteArray} {e : Ending} {b} {r : List Tok} (h : ReadQuery w s e w') (hr : queryP (scanX s).2.1 ((scanX s).2.2 : Int) (scanX s).1 = .ok b r) : ∃ v cs, e = .returned (.tuple #[v, faultV 0 0]) ∧ cs.map Lix.pur = b ∧ cs.length ≤ 16 ∧ Lst elLix w' (fun k => w.heap.size ≤ k) v cs ∧ Below w.heap.size w w' := by
  unfold ReadQuery at h
  rw [hr] at h
  obtain ⟨v, cs, e, h1, h2, h3, hb⟩ := h
  exact ⟨v, cs, e, h1, h2, h3.new (by omega), hb⟩
theorem readQuery_mkb {w w' : World} {s : ByteArray} {ec eo : Int} (hr : queryP (scanX s).2.1 ((scanX s).2.2 : Int) (scanX s).1 = .bad ec eo) (hb : Below w.heap.size w w') : ReadQuery w s (.returned (.tuple #[.slice none 0 0, faultV ec eo])) w' := by
  unfold ReadQuery
  rw [hr]
  exact ⟨rfl, hb⟩
theorem readQuery_mko {w w' : World} {s : ByteArray} {b} {r : List Tok} (hr : queryP (scanX s).2.1 ((scanX s).2.2 : Int) (scanX s).1 = .ok b r) {v : Value} {cs : List Lix} (h1 : cs.map Lix.pur = b) (h2 : cs.length ≤ 16) (h3 : Grow elLix 86 w.heap.size w' v cs) (hb : Below w.heap.size w w') : ReadQuery w s (.returned (.tuple #[v, faultV 0 0])) w' := by
  unfold ReadQuery
  rw [hr]
  exact ⟨v, cs, rfl, h1, h2, h3, hb⟩

set_option maxRecDepth 100000 in
set_option maxHeartbeats 2000000 in
theorem parseProgram_any (s : ByteArray) (w : World) (hl : LexLaid w) (hs : s.size ≤ 140737488351232) :
    Calls Tryd.prog 14 #[.string s] w (ReadProg w s) := by
  have HC := hide (fun (W : World) (hb : Below w.heap.size w W) => readProg_any s W (hl.kept hb) hs)
  clear hl hs
  obtain ⟨Post, hPost⟩ : ∃ Post : Ending → World → Prop, Post = ReadProg w s := ⟨_, rfl⟩
  rw [← hPost]
  have HK : Hid (∀ w2, Below ((w.alloc (.cells #[.slice none 0 0] 61)).alloc (.cells #[.int .i64 0, .int .i64 0, .int .i64 0] 45)).heap.size ((w.alloc (.cells #[.slice none 0 0] 61)).alloc (.cells #[.int .i64 0, .int .i64 0, .int .i64 0] 45)) w2 → w2.heap[w.heap.size]? = some (.cells #[.slice none 0 0] 61 (0, 0)) ∧ w2.heap[w.heap.size + 1]? = some (.cells #[.int .i64 0, .int .i64 0, .int .i64 0] 45 (0, 0)) ∧ Below w.heap.size w w2) := fun w2 hb => by
    refine ⟨?_, ?_, belowt2 (below2a w _ _) hb⟩
    · rw [hb.block _ (by simp; omega), (belowA (w.alloc _) _).block _ (by simp)]; exact heap_alloc_new w _
    · rw [hb.block _ (by simp)]
      have := heap_alloc_new (w.alloc (.cells #[.slice none 0 0] 61)) (.cells #[.int .i64 0, .int .i64 0, .int .i64 0] 45)
      simpa using this
  cases hr : progP (scanX s).2.1 ((scanX s).2.2 : Int) (scanX s).1 with
  | bad ec eo =>
    have PB : Hid (∀ w', Below w.heap.size w w' → Post (.returned (.tuple #[.agg #[.slice none 0 0], .agg #[.int .i64 ec, .int .i64 0, .int .i64 eo]])) w') := fun w' hb => by rw [hPost]; exact readProg_mkb hr hb
    have HRr := hide hr
    clear hr hPost
    go_enter Tryd.func14, Tryd.ntmps14
    go_wp2_with (go_at_call 28; refine (HC.out _ (below2a _ _ _)).mono ?_; intro e w2 hq; obtain ⟨rfl, hb2⟩ := readProg_bad hq HRr.out; clear hq; obtain ⟨k0, k1, k2⟩ := HK.out w2 hb2; have HK2 := hide k2; clear hb2 k2; obtain ⟨c0, z0⟩ := progCell k0; obtain ⟨⟨d0, d1, d2⟩, ⟨y0, y1, y2⟩⟩ := fault_cells k1; unfold faultV)
    have hV0 : ((((w2.setCell ⟨w.heap.size, 0, none⟩ (.slice none 0 0)).setCell ⟨w.heap.size + 1, 0, none⟩ (.int .i64 ec)).setCell ⟨w.heap.size + 1, 1, none⟩ (.int .i64 0)).setCell ⟨w.heap.size + 1, 2, none⟩ (.int .i64 eo)).heap[w.heap.size]? = some (.cells #[.slice none 0 0] 61 (0, 0)) := by simp [World.setCell, Array.getElem?_modify, k0]
    have hV1 : ((((w2.setCell ⟨w.heap.size, 0, none⟩ (.slice none 0 0)).setCell ⟨w.heap.size + 1, 0, none⟩ (.int .i64 ec)).setCell ⟨w.heap.size + 1, 1, none⟩ (.int .i64 0)).setCell ⟨w.heap.size + 1, 2, none⟩ (.int .i64 eo)).heap[w.heap.size + 1]? = some (.cells #[.int .i64 ec, .int .i64 0, .int .i64 eo] 45 (0, 0)) := by simp [World.setCell, Array.getElem?_modify, k1]
    have hO : Below w.heap.size w ((((w2.setCell ⟨w.heap.size, 0, none⟩ (.slice none 0 0)).setCell ⟨w.heap.size + 1, 0, none⟩ (.int .i64 ec)).setCell ⟨w.heap.size + 1, 1, none⟩ (.int .i64 0)).setCell ⟨w.heap.size + 1, 2, none⟩ (.int .i64 eo)) := (((((Only.of_below HK2.out (fun k => w.heap.size ≤ k)).setCell (p := ⟨w.heap.size, 0, none⟩) (Nat.le_refl _) _).setCell (p := ⟨w.heap.size + 1, 0, none⟩) (Nat.le_succ _) _).setCell (p := ⟨w.heap.size + 1, 1, none⟩) (Nat.le_succ _) _).setCell (p := ⟨w.heap.size + 1, 2, none⟩) (Nat.le_succ _) _).below (Nat.le_refl _) (fun k hk e => by omega)
    generalize (((w2.setCell ⟨w.heap.size, 0, none⟩ (.slice none 0 0)).setCell ⟨w.heap.size + 1, 0, none⟩ (.int .i64 ec)).setCell ⟨w.heap.size + 1, 1, none⟩ (.int .i64 0)).setCell ⟨w.heap.size + 1, 2, none⟩ (.int .i64 eo) = V at hV0 hV1 hO ⊢
    obtain ⟨f0, -⟩ := progCell hV0
    obtain ⟨⟨f1, f2, f3⟩, -⟩ := fault_cells hV1
    exact bodyPost_ret (v := .tuple #[.agg #[.slice none 0 0], .agg #[.int .i64 ec, .int .i64 0, .int .i64 eo]]) (by simp [results, Tryd.results14, go_sem, f0, f1, f2, f3]) rfl (PB.out _ hO)
  | ok b r =>
    have PG : Hid (∀ w' v cs, cs.map Clx.pur = b → cs.length ≤ 512 → Grow elClx 58 w.heap.size w' v cs → Below w.heap.size w w' → Post (.returned (.tuple #[.agg #[v], .agg #[.int .i64 0, .int .i64 0, .int .i64 0]])) w') := fun w' v cs h1 h2 h3 h4 => by rw [hPost]; exact readProg_mko hr h1 h2 h3 h4
    have HRr := hide hr
    clear hr hPost
    go_enter Tryd.func14, Tryd.ntmps14
    go_wp2_with (go_at_call 28; refine (HC.out _ (below2a _ _ _)).mono ?_; intro e w2 hq; obtain ⟨v, cs, rfl, hpur, hlen, hls, hb2⟩ := readProg_own hq HRr.out; clear hq; obtain ⟨va, vc, rfl, -⟩ := hls.shape; obtain ⟨k0, k1, k2⟩ := HK.out w2 hb2; have HK2 := hide k2; have HLs := hide hls; have HPu := hide hpur; have HLn := hide hlen; clear hb2 k2 hls hpur hlen; obtain ⟨c0, z0⟩ := progCell k0; obtain ⟨⟨d0, d1, d2⟩, ⟨y0, y1, y2⟩⟩ := fault_cells k1; unfold faultV)
    have hV0 : ((((w2.setCell ⟨w.heap.size, 0, none⟩ (.slice va cs.length vc)).setCell ⟨w.heap.size + 1, 0, none⟩ (.int .i64 0)).setCell ⟨w.heap.size + 1, 1, none⟩ (.int .i64 0)).setCell ⟨w.heap.size + 1, 2, none⟩ (.int .i64 0)).heap[w.heap.size]? = some (.cells #[.slice va cs.length vc] 61 (0, 0)) := by simp [World.setCell, Array.getElem?_modify, k0]
    have hV1 : ((((w2.setCell ⟨w.heap.size, 0, none⟩ (.slice va cs.length vc)).setCell ⟨w.heap.size + 1, 0, none⟩ (.int .i64 0)).setCell ⟨w.heap.size + 1, 1, none⟩ (.int .i64 0)).setCell ⟨w.heap.size + 1, 2, none⟩ (.int .i64 0)).heap[w.heap.size + 1]? = some (.cells #[.int .i64 0, .int .i64 0, .int .i64 0] 45 (0, 0)) := by simp [World.setCell, Array.getElem?_modify, k1]
    have hB : Below w.heap.size w ((((w2.setCell ⟨w.heap.size, 0, none⟩ (.slice va cs.length vc)).setCell ⟨w.heap.size + 1, 0, none⟩ (.int .i64 0)).setCell ⟨w.heap.size + 1, 1, none⟩ (.int .i64 0)).setCell ⟨w.heap.size + 1, 2, none⟩ (.int .i64 0)) := (((((Only.of_below HK2.out (fun k => w.heap.size ≤ k)).setCell (p := ⟨w.heap.size, 0, none⟩) (Nat.le_refl _) _).setCell (p := ⟨w.heap.size + 1, 0, none⟩) (Nat.le_succ _) _).setCell (p := ⟨w.heap.size + 1, 1, none⟩) (Nat.le_succ _) _).setCell (p := ⟨w.heap.size + 1, 2, none⟩) (Nat.le_succ _) _).below (Nat.le_refl _) (fun k hk e => by omega)
    have hO : Only (fun k => k = w.heap.size ∨ k = w.heap.size + 1) w2 ((((w2.setCell ⟨w.heap.size, 0, none⟩ (.slice va cs.length vc)).setCell ⟨w.heap.size + 1, 0, none⟩ (.int .i64 0)).setCell ⟨w.heap.size + 1, 1, none⟩ (.int .i64 0)).setCell ⟨w.heap.size + 1, 2, none⟩ (.int .i64 0)) := ((((Only.refl (fun k => k = w.heap.size ∨ k = w.heap.size + 1) w2).setCell (p := ⟨w.heap.size, 0, none⟩) (.inl rfl) _).setCell (p := ⟨w.heap.size + 1, 0, none⟩) (.inr rfl) _).setCell (p := ⟨w.heap.size + 1, 1, none⟩) (.inr rfl) _).setCell (p := ⟨w.heap.size + 1, 2, none⟩) (.inr rfl) _
    generalize (((w2.setCell ⟨w.heap.size, 0, none⟩ (.slice va cs.length vc)).setCell ⟨w.heap.size + 1, 0, none⟩ (.int .i64 0)).setCell ⟨w.heap.size + 1, 1, none⟩ (.int .i64 0)).setCell ⟨w.heap.size + 1, 2, none⟩ (.int .i64 0) = V at hV0 hV1 hO hB ⊢
    obtain ⟨f0, -⟩ := progCell hV0
    obtain ⟨⟨f1, f2, f3⟩, -⟩ := fault_cells hV1
    exact bodyPost_ret (v := .tuple #[.agg #[.slice va cs.length vc], .agg #[.int .i64 0, .int .i64 0, .int .i64 0]]) (by simp [results, Tryd.results14, go_sem, f0, f1, f2, f3]) rfl (PG.out _ _ cs HPu.out HLn.out ((HLs.out.above fun k hk hlt => hO.block k hlt (by simp at hk; omega)).mono (by simp <;> omega)) hB)

set_option maxRecDepth 100000 in
set_option maxHeartbeats 2000000 in
theorem parseFacts_any (s : ByteArray) (w : World) (hl : LexLaid w) (hs : s.size ≤ 140737488351232) :
    Calls Tryd.prog 10 #[.string s] w (ReadFacts w s) := by
  have HC := hide (fun (W : World) (hb : Below w.heap.size w W) => readFacts_any s W (hl.kept hb) hs)
  clear hl hs
  obtain ⟨Post, hPost⟩ : ∃ Post : Ending → World → Prop, Post = ReadFacts w s := ⟨_, rfl⟩
  rw [← hPost]
  have HK : Hid (∀ w2, Below (w.alloc (.cells #[.int .i64 0, .int .i64 0, .int .i64 0] 45)).heap.size (w.alloc (.cells #[.int .i64 0, .int .i64 0, .int .i64 0] 45)) w2 → w2.heap[w.heap.size]? = some (.cells #[.int .i64 0, .int .i64 0, .int .i64 0] 45 (0, 0)) ∧ Below w.heap.size w w2) := fun w2 hb => by
    refine ⟨?_, belowt2 (belowA w _) hb⟩
    rw [hb.block _ (by simp)]; exact heap_alloc_new w _
  cases hr : factsP (scanX s).2.1 ((scanX s).2.2 : Int) (scanX s).1 with
  | bad ec eo =>
    have PB : Hid (∀ w', Below w.heap.size w w' → Post (.returned (.tuple #[.slice none 0 0, .agg #[.int .i64 ec, .int .i64 0, .int .i64 eo]])) w') := fun w' hb => by rw [hPost]; exact readFacts_mkb hr hb
    have HRr := hide hr
    clear hr hPost
    go_enter Tryd.func10, Tryd.ntmps10
    go_wp2_with (go_at_call 24; refine (HC.out _ (belowA _ _)).mono ?_; intro e w2 hq; obtain ⟨rfl, hb2⟩ := readFacts_bad hq HRr.out; clear hq; obtain ⟨k1, k2⟩ := HK.out w2 hb2; have HK2 := hide k2; clear hb2 k2; obtain ⟨⟨d0, d1, d2⟩, ⟨y0, y1, y2⟩⟩ := fault_cells k1; unfold faultV)
    have hV1 : (((w2.setCell ⟨w.heap.size, 0, none⟩ (.int .i64 ec)).setCell ⟨w.heap.size, 1, none⟩ (.int .i64 0)).setCell ⟨w.heap.size, 2, none⟩ (.int .i64 eo)).heap[w.heap.size]? = some (.cells #[.int .i64 ec, .int .i64 0, .int .i64 eo] 45 (0, 0)) := by simp [World.setCell, Array.getElem?_modify, k1]
    have hO : Below w.heap.size w (((w2.setCell ⟨w.heap.size, 0, none⟩ (.int .i64 ec)).setCell ⟨w.heap.size, 1, none⟩ (.int .i64 0)).setCell ⟨w.heap.size, 2, none⟩ (.int .i64 eo)) := ((((Only.of_below HK2.out (fun k => w.heap.size ≤ k)).setCell (p := ⟨w.heap.size, 0, none⟩) (Nat.le_refl _) _).setCell (p := ⟨w.heap.size, 1, none⟩) (Nat.le_refl _) _).setCell (p := ⟨w.heap.size, 2, none⟩) (Nat.le_refl _) _).below (Nat.le_refl _) (fun k hk e => by omega)
    generalize ((w2.setCell ⟨w.heap.size, 0, none⟩ (.int .i64 ec)).setCell ⟨w.heap.size, 1, none⟩ (.int .i64 0)).setCell ⟨w.heap.size, 2, none⟩ (.int .i64 eo) = V at hV1 hO ⊢
    obtain ⟨⟨f1, f2, f3⟩, -⟩ := fault_cells hV1
    exact bodyPost_ret (v := .tuple #[.slice none 0 0, .agg #[.int .i64 ec, .int .i64 0, .int .i64 eo]]) (by simp [results, Tryd.results10, go_sem, f1, f2, f3]) rfl (PB.out _ hO)
  | ok b r =>
    have PG : Hid (∀ w' v cs, cs.map Atx.pur = b → cs.length ≤ 4096 → Grow elAtx 32 w.heap.size w' v cs → Below w.heap.size w w' → Post (.returned (.tuple #[v, .agg #[.int .i64 0, .int .i64 0, .int .i64 0]])) w') := fun w' v cs h1 h2 h3 h4 => by rw [hPost]; exact readFacts_mko hr h1 h2 h3 h4
    have HRr := hide hr
    clear hr hPost
    go_enter Tryd.func10, Tryd.ntmps10
    go_wp2_with (go_at_call 24; refine (HC.out _ (belowA _ _)).mono ?_; intro e w2 hq; obtain ⟨v, cs, rfl, hpur, hlen, hls, hb2⟩ := readFacts_own hq HRr.out; clear hq; obtain ⟨va, vc, rfl, -⟩ := hls.shape; obtain ⟨k1, k2⟩ := HK.out w2 hb2; have HK2 := hide k2; have HLs := hide hls; have HPu := hide hpur; have HLn := hide hlen; clear hb2 k2 hls hpur hlen; obtain ⟨⟨d0, d1, d2⟩, ⟨y0, y1, y2⟩⟩ := fault_cells k1; unfold faultV)
    have hV1 : (((w2.setCell ⟨w.heap.size, 0, none⟩ (.int .i64 0)).setCell ⟨w.heap.size, 1, none⟩ (.int .i64 0)).setCell ⟨w.heap.size, 2, none⟩ (.int .i64 0)).heap[w.heap.size]? = some (.cells #[.int .i64 0, .int .i64 0, .int .i64 0] 45 (0, 0)) := by simp [World.setCell, Array.getElem?_modify, k1]
    have hB : Below w.heap.size w (((w2.setCell ⟨w.heap.size, 0, none⟩ (.int .i64 0)).setCell ⟨w.heap.size, 1, none⟩ (.int .i64 0)).setCell ⟨w.heap.size, 2, none⟩ (.int .i64 0)) := ((((Only.of_below HK2.out (fun k => w.heap.size ≤ k)).setCell (p := ⟨w.heap.size, 0, none⟩) (Nat.le_refl _) _).setCell (p := ⟨w.heap.size, 1, none⟩) (Nat.le_refl _) _).setCell (p := ⟨w.heap.size, 2, none⟩) (Nat.le_refl _) _).below (Nat.le_refl _) (fun k hk e => by omega)
    have hO : Only (fun k => k = w.heap.size) w2 (((w2.setCell ⟨w.heap.size, 0, none⟩ (.int .i64 0)).setCell ⟨w.heap.size, 1, none⟩ (.int .i64 0)).setCell ⟨w.heap.size, 2, none⟩ (.int .i64 0)) := (((Only.refl (fun k => k = w.heap.size) w2).setCell (p := ⟨w.heap.size, 0, none⟩) rfl _).setCell (p := ⟨w.heap.size, 1, none⟩) rfl _).setCell (p := ⟨w.heap.size, 2, none⟩) rfl _
    generalize ((w2.setCell ⟨w.heap.size, 0, none⟩ (.int .i64 0)).setCell ⟨w.heap.size, 1, none⟩ (.int .i64 0)).setCell ⟨w.heap.size, 2, none⟩ (.int .i64 0) = V at hV1 hO hB ⊢
    obtain ⟨⟨f1, f2, f3⟩, -⟩ := fault_cells hV1
    exact bodyPost_ret (v := .tuple #[.slice va cs.length vc, .agg #[.int .i64 0, .int .i64 0, .int .i64 0]]) (by simp [results, Tryd.results10, go_sem, f1, f2, f3]) rfl (PG.out _ _ cs HPu.out HLn.out ((HLs.out.above fun k hk hlt => hO.block k hlt (by simp at hk; omega)).mono (by simp <;> omega)) hB)

set_option maxRecDepth 100000 in
set_option maxHeartbeats 2000000 in
theorem parseQuery_any (s : ByteArray) (w : World) (hl : LexLaid w) (hs : s.size ≤ 140737488351232) :
    Calls Tryd.prog 16 #[.string s] w (ReadQuery w s) := by
  have HC := hide (fun (W : World) (hb : Below w.heap.size w W) => readQuery_any s W (hl.kept hb) hs)
  clear hl hs
  obtain ⟨Post, hPost⟩ : ∃ Post : Ending → World → Prop, Post = ReadQuery w s := ⟨_, rfl⟩
  rw [← hPost]
  have HK : Hid (∀ w2, Below (w.alloc (.cells #[.int .i64 0, .int .i64 0, .int .i64 0] 45)).heap.size (w.alloc (.cells #[.int .i64 0, .int .i64 0, .int .i64 0] 45)) w2 → w2.heap[w.heap.size]? = some (.cells #[.int .i64 0, .int .i64 0, .int .i64 0] 45 (0, 0)) ∧ Below w.heap.size w w2) := fun w2 hb => by
    refine ⟨?_, belowt2 (belowA w _) hb⟩
    rw [hb.block _ (by simp)]; exact heap_alloc_new w _
  cases hr : queryP (scanX s).2.1 ((scanX s).2.2 : Int) (scanX s).1 with
  | bad ec eo =>
    have PB : Hid (∀ w', Below w.heap.size w w' → Post (.returned (.tuple #[.slice none 0 0, .agg #[.int .i64 ec, .int .i64 0, .int .i64 eo]])) w') := fun w' hb => by rw [hPost]; exact readQuery_mkb hr hb
    have HRr := hide hr
    clear hr hPost
    go_enter Tryd.func16, Tryd.ntmps16
    go_wp2_with (go_at_call 30; refine (HC.out _ (belowA _ _)).mono ?_; intro e w2 hq; obtain ⟨rfl, hb2⟩ := readQuery_bad hq HRr.out; clear hq; obtain ⟨k1, k2⟩ := HK.out w2 hb2; have HK2 := hide k2; clear hb2 k2; obtain ⟨⟨d0, d1, d2⟩, ⟨y0, y1, y2⟩⟩ := fault_cells k1; unfold faultV)
    have hV1 : (((w2.setCell ⟨w.heap.size, 0, none⟩ (.int .i64 ec)).setCell ⟨w.heap.size, 1, none⟩ (.int .i64 0)).setCell ⟨w.heap.size, 2, none⟩ (.int .i64 eo)).heap[w.heap.size]? = some (.cells #[.int .i64 ec, .int .i64 0, .int .i64 eo] 45 (0, 0)) := by simp [World.setCell, Array.getElem?_modify, k1]
    have hO : Below w.heap.size w (((w2.setCell ⟨w.heap.size, 0, none⟩ (.int .i64 ec)).setCell ⟨w.heap.size, 1, none⟩ (.int .i64 0)).setCell ⟨w.heap.size, 2, none⟩ (.int .i64 eo)) := ((((Only.of_below HK2.out (fun k => w.heap.size ≤ k)).setCell (p := ⟨w.heap.size, 0, none⟩) (Nat.le_refl _) _).setCell (p := ⟨w.heap.size, 1, none⟩) (Nat.le_refl _) _).setCell (p := ⟨w.heap.size, 2, none⟩) (Nat.le_refl _) _).below (Nat.le_refl _) (fun k hk e => by omega)
    generalize ((w2.setCell ⟨w.heap.size, 0, none⟩ (.int .i64 ec)).setCell ⟨w.heap.size, 1, none⟩ (.int .i64 0)).setCell ⟨w.heap.size, 2, none⟩ (.int .i64 eo) = V at hV1 hO ⊢
    obtain ⟨⟨f1, f2, f3⟩, -⟩ := fault_cells hV1
    exact bodyPost_ret (v := .tuple #[.slice none 0 0, .agg #[.int .i64 ec, .int .i64 0, .int .i64 eo]]) (by simp [results, Tryd.results16, go_sem, f1, f2, f3]) rfl (PB.out _ hO)
  | ok b r =>
    have PG : Hid (∀ w' v cs, cs.map Lix.pur = b → cs.length ≤ 16 → Grow elLix 86 w.heap.size w' v cs → Below w.heap.size w w' → Post (.returned (.tuple #[v, .agg #[.int .i64 0, .int .i64 0, .int .i64 0]])) w') := fun w' v cs h1 h2 h3 h4 => by rw [hPost]; exact readQuery_mko hr h1 h2 h3 h4
    have HRr := hide hr
    clear hr hPost
    go_enter Tryd.func16, Tryd.ntmps16
    go_wp2_with (go_at_call 30; refine (HC.out _ (belowA _ _)).mono ?_; intro e w2 hq; obtain ⟨v, cs, rfl, hpur, hlen, hls, hb2⟩ := readQuery_own hq HRr.out; clear hq; obtain ⟨va, vc, rfl, -⟩ := hls.shape; obtain ⟨k1, k2⟩ := HK.out w2 hb2; have HK2 := hide k2; have HLs := hide hls; have HPu := hide hpur; have HLn := hide hlen; clear hb2 k2 hls hpur hlen; obtain ⟨⟨d0, d1, d2⟩, ⟨y0, y1, y2⟩⟩ := fault_cells k1; unfold faultV)
    have hV1 : (((w2.setCell ⟨w.heap.size, 0, none⟩ (.int .i64 0)).setCell ⟨w.heap.size, 1, none⟩ (.int .i64 0)).setCell ⟨w.heap.size, 2, none⟩ (.int .i64 0)).heap[w.heap.size]? = some (.cells #[.int .i64 0, .int .i64 0, .int .i64 0] 45 (0, 0)) := by simp [World.setCell, Array.getElem?_modify, k1]
    have hB : Below w.heap.size w (((w2.setCell ⟨w.heap.size, 0, none⟩ (.int .i64 0)).setCell ⟨w.heap.size, 1, none⟩ (.int .i64 0)).setCell ⟨w.heap.size, 2, none⟩ (.int .i64 0)) := ((((Only.of_below HK2.out (fun k => w.heap.size ≤ k)).setCell (p := ⟨w.heap.size, 0, none⟩) (Nat.le_refl _) _).setCell (p := ⟨w.heap.size, 1, none⟩) (Nat.le_refl _) _).setCell (p := ⟨w.heap.size, 2, none⟩) (Nat.le_refl _) _).below (Nat.le_refl _) (fun k hk e => by omega)
    have hO : Only (fun k => k = w.heap.size) w2 (((w2.setCell ⟨w.heap.size, 0, none⟩ (.int .i64 0)).setCell ⟨w.heap.size, 1, none⟩ (.int .i64 0)).setCell ⟨w.heap.size, 2, none⟩ (.int .i64 0)) := (((Only.refl (fun k => k = w.heap.size) w2).setCell (p := ⟨w.heap.size, 0, none⟩) rfl _).setCell (p := ⟨w.heap.size, 1, none⟩) rfl _).setCell (p := ⟨w.heap.size, 2, none⟩) rfl _
    generalize ((w2.setCell ⟨w.heap.size, 0, none⟩ (.int .i64 0)).setCell ⟨w.heap.size, 1, none⟩ (.int .i64 0)).setCell ⟨w.heap.size, 2, none⟩ (.int .i64 0) = V at hV1 hO hB ⊢
    obtain ⟨⟨f1, f2, f3⟩, -⟩ := fault_cells hV1
    exact bodyPost_ret (v := .tuple #[.slice va cs.length vc, .agg #[.int .i64 0, .int .i64 0, .int .i64 0]]) (by simp [results, Tryd.results16, go_sem, f1, f2, f3]) rfl (PG.out _ _ cs HPu.out HLn.out ((HLs.out.above fun k hk hlt => hO.block k hlt (by simp at hk; omega)).mono (by simp <;> omega)) hB)
end Go.Proofs.YtilckhdaijfddaaDoor

namespace Go.Proofs.YtilckhdaijfddaaDoor
set_option linter.unusedSimpArgs false
set_option linter.unusedVariables false
open Go.RowKit

def takenS : ByteArray := ⟨#[112, 40, 97, 41, 58, 45, 88, 60, 49, 46]⟩
theorem takenP : progP (scanX takenS).2.1 ((scanX takenS).2.2 : Int) (scanX takenS).1 = .ok [⟨⟨⟨#[112]⟩, [⟨2, 0, ⟨#[97]⟩, 2⟩], 0⟩, [⟨3, zeroAtom, 3, ⟨4, 0, ⟨#[88]⟩, 6⟩, ⟨1, 1, ⟨#[]⟩, 8⟩, 6⟩]⟩] [] := by kernel_rfl

/-- The cells of a list's element. -/
theorem Lst.cells {α : Type} {E : El α} {w : World} {F : Nat → Prop} {ao : Option Addr} {n cap : Nat} {l : List α} (h : Lst E w F (.slice ao n cap) l) (hp : 0 < l.length) : ∃ b off, ao = some ⟨b, off, none⟩ ∧ b < w.heap.size ∧ F b ∧ ∀ i x, l[i]? = some x → ∀ j u, (E.cells x)[j]? = some u → w.cell? ⟨b, off + i * E.size + j, none⟩ = some u := h.row hp

theorem one_of_map {α β : Type} {g : α → β} {l : List α} {y : β} (h : l.map g = [y]) : ∃ c, l = [c] := by
  match l, h with
  | [c], _ => exact ⟨c, rfl⟩

set_option maxRecDepth 100000 in
set_option maxHeartbeats 2000000 in
theorem taken_any (w : World) (hl : LexLaid w) : Calls Tryd.prog 11 #[] w fun e w' => e = .returned (.bool true) ∧ Below w.heap.size w w' := by
  have HC := hide (parseProgram_any takenS w hl (by decide))
  have hfs := fault_self
  clear hl
  go_enter Tryd.func11, Tryd.ntmps11
  go_wp2_with (go_at_call 14; refine HC.out.mono ?_; intro e w1 hq; obtain ⟨v, cs, rfl, hpur, hlen, hls, hb1⟩ := readProg_ok hq takenP; clear hq; obtain ⟨⟨⟨cp, cv, coff, cts⟩, bv, ls⟩, rfl⟩ : ∃ c, cs = [c] := one_of_map hpur; have HB1 := hide hb1; have hx := hpur; simp only [List.map_cons, List.map_nil, Clx.pur, Atx.pur, List.cons.injEq, PCls.mk.injEq, PAtom.mk.injEq, and_true] at hx; obtain ⟨⟨rfl, rfl, rfl⟩, hlb⟩ := hx; obtain ⟨⟨lk, la, lop, ll, lr, loff⟩, rfl⟩ : ∃ c, ls = [c] := one_of_map hlb; simp only [List.map_cons, List.map_nil, Lix.pur, List.cons.injEq, PLit.mk.injEq, and_true] at hlb; obtain ⟨rfl, -, rfl, rfl, rfl, rfl⟩ := hlb; clear hpur hlen hb1; obtain ⟨va, vc, rfl, -⟩ := hls.shape; obtain ⟨b0, o0, rfl, -, -, r0⟩ := hls.row (by simp); have hok := hls.ok (List.mem_singleton.2 rfl); obtain ⟨ta, tc, rfl, -⟩ := (show Lst elTrm w1 (fun k => w.heap.size ≤ k) cv [(⟨2, 0, ⟨#[97]⟩, 2⟩ : Trm)] from hok.1.2.2).shape; obtain ⟨b1, o1, rfl, -, -, r1⟩ := (show Lst elTrm w1 (fun k => w.heap.size ≤ k) (.slice ta 1 tc) [(⟨2, 0, ⟨#[97]⟩, 2⟩ : Trm)] from hok.1.2.2).row (by simp); obtain ⟨la2, lc, rfl, -⟩ := (show Lst elLix w1 (fun k => w.heap.size ≤ k) bv [(⟨3, la, 3, ⟨4, 0, ⟨#[88]⟩, 6⟩, ⟨1, 1, ⟨#[]⟩, 8⟩, 6⟩ : Lix)] from hok.2).shape; obtain ⟨b2, o2, rfl, -, -, r2⟩ := (show Lst elLix w1 (fun k => w.heap.size ≤ k) (.slice la2 1 lc) [(⟨3, la, 3, ⟨4, 0, ⟨#[88]⟩, 6⟩, ⟨1, 1, ⟨#[]⟩, 8⟩, 6⟩ : Lix)] from hok.2).row (by simp); have HX := hide (And.intro (r0 0 _ rfl) (And.intro (r1 0 _ rfl) (r2 0 _ rfl))); clear r0 r1 r2 hok hls; have k0 := kept_cell (below2a w1 (.cells #[.slice (some ⟨b0, o0, none⟩) 1 vc] 61) (.cells #[.int .i64 0, .int .i64 0, .int .i64 0] 45)) (HX.out.1 0 _ rfl); have k1 := kept_cell (below2a w1 (.cells #[.slice (some ⟨b0, o0, none⟩) 1 vc] 61) (.cells #[.int .i64 0, .int .i64 0, .int .i64 0] 45)) (HX.out.1 1 _ rfl); have k3 := kept_cell (below2a w1 (.cells #[.slice (some ⟨b0, o0, none⟩) 1 vc] 61) (.cells #[.int .i64 0, .int .i64 0, .int .i64 0] 45)) (HX.out.1 3 _ rfl); have k5 := kept_cell (below2a w1 (.cells #[.slice (some ⟨b0, o0, none⟩) 1 vc] 61) (.cells #[.int .i64 0, .int .i64 0, .int .i64 0] 45)) (HX.out.2.1 2 _ rfl); have k6 := kept_cell (below2a w1 (.cells #[.slice (some ⟨b0, o0, none⟩) 1 vc] 61) (.cells #[.int .i64 0, .int .i64 0, .int .i64 0] 45)) (HX.out.2.2 10 _ rfl); simp only [Nat.zero_mul, Nat.add_zero] at k0 k1 k3 k5 k6; unfold faultV)
  go_ret
  exact ⟨rfl, belowt2 HB1.out (below2a _ _ _)⟩
end Go.Proofs.YtilckhdaijfddaaDoor
