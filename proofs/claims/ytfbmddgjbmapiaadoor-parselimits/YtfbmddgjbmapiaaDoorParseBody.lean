/- parse's reader takes a body. -/
import Derived.Test.YtfbmddgjbmapiaaDoorProg
import Derived.Test.YtfbmddgjbmapiaaDoorParseLit3
import Derived.Test.YtfbmddgjbmapiaaDoorParseLen
namespace Go.Proofs.YtfbmddgjbmapiaaDoor
set_option linter.unusedSimpArgs false
set_option linter.unusedVariables false
open Go.RowKit

theorem Tryd.infoLit : (Tryd.prog.info? 57).map (fun i => (i.zero, i.size, i.bytes)) = some (some (.agg #[.int .i64 0, .string ⟨#[]⟩, .slice none 0 0, .int .i64 0, .int .i64 0, .int .i64 0, .int .i64 0, .string ⟨#[]⟩, .int .i64 0, .int .i64 0, .int .i64 0, .string ⟨#[]⟩, .int .i64 0, .int .i64 0]), 14, 152) := by kernel_rfl

theorem limit_eq (n m c o : Int) (w : World) (h : n = m) : Calls Tryd.prog 27 #[.int .i64 n, .int .i64 m, .int .i64 c, .int .i64 o] w fun e w' => e = PEnd c o ∧ w' = w := by
  subst h
  exact limit_bad n c o w

/-- A reader and a list of the caller's own that grows, all in new memory. -/
structure Coll3 {α : Type} (E : El α) (e : TypeId) (w wr : World) (p : Nat) (ao : Option Addr) (cap : Nat) (L : List Tok) (c f : Int) (R : List Tok) (base : Nat) (v : Value) (l : List α) : Prop where
  ah : Ahead wr p ao cap L c f R
  gr : Grow E e base wr v l
  on : Only (fun k => k = p ∨ w.heap.size ≤ k) w wr
  pl : p < w.heap.size
  tk : ∀ g, ao = some ⟨g, 0, none⟩ → 0 < L.length → g < w.heap.size
  lo : w.heap.size ≤ base
  hi : base ≤ wr.heap.size
section
variable {α : Type} {E : El α} {e : TypeId} {w wr wr' : World} {p : Nat} {ao : Option Addr} {cap : Nat} {L : List Tok} {c f : Int} {R R' : List Tok} {base : Nat} {v : Value} {l : List α}
theorem Coll3.move (h : Coll3 E e w wr p ao cap L c f R base v l) (ho : Only (fun k => k = p) wr wr') (ha : Ahead wr' p ao cap L c f R') : Coll3 E e w wr' p ao cap L c f R' base v l :=
  have hp := h.pl
  have hl := h.lo
  ⟨ha, h.gr.above fun b hb hlt => ho.block b hlt (by omega), h.on.trans (ho.mono fun k _ e => .inl e), h.pl, h.tk, h.lo, Nat.le_trans h.hi ho.size⟩
theorem Coll3.below (h : Coll3 E e w wr p ao cap L c f R base v l) (hb : Below wr.heap.size wr wr') : Coll3 E e w wr' p ao cap L c f R base v l :=
  h.move (Only.of_below hb _) (h.ah.kept hb)
theorem Coll3.grown (h : Coll3 E e w wr p ao cap L c f R base v l) {v' : Value} {l' : List α} (hg : wr.grownBy wr' v.ownBlock) (hG : Grow E e base wr' v' l') : Coll3 E e w wr' p ao cap L c f R base v' l' := by
  have hp := h.pl
  have hl := h.lo
  have ho : Only (fun k => base ≤ k) wr wr' := (Only.refl _ wr).grown hg (fun k hk _ => own_new h.gr.1 k hk)
  refine ⟨?_, hG, h.on.trans (ho.mono fun k _ (e : base ≤ k) => .inr (by omega)), h.pl, h.tk, h.lo, Nat.le_trans h.hi ho.size⟩
  obtain ⟨i, q1, q2⟩ := h.ah
  exact ⟨i, q1.only ho (by omega) (fun g hg hl => by have := h.tk g hg hl; omega), q2⟩
theorem Coll3.start (h : Ahead w p ao cap L c f R) : Coll3 E e w w p ao cap L c f R w.heap.size (.slice none 0 0) [] :=
  ⟨h, Grow.nil _ _ _ _, Only.refl _ _, h.lt, h.tk, Nat.le_refl _, Nat.le_refl _⟩
theorem Coll3.endM (h : Coll3 E e w wr p ao cap L c f R base v l) (ho : Only (fun k => k = p) wr wr') : Only (fun k => k = p) w wr' := only_drop (h.on.trans (ho.mono fun k _ e => .inl e))
theorem Coll3.end_ (h : Coll3 E e w wr p ao cap L c f R base v l) : Only (fun k => k = p) w wr := only_drop h.on
end

def BodyPost (w : World) (p : Nat) (ao : Option Addr) (cap : Nat) (L : List Tok) (c f : Int) (res : PR (List PLit)) (e : Ending) (w' : World) : Prop :=
  match res with
  | .bad ec eo => e = PEnd ec eo ∧ Only (fun k => k = p) w w'
  | .ok b r => ∃ v ls, e = .returned v ∧ ls.map Lix.pur = b ∧ ls.length ≤ 16 ∧ Grow elLix 57 w.heap.size w' v ls ∧ Ahead w' p ao cap L c f r ∧ Only (fun k => k = p) w w'
theorem bodyPost_bad {w w' : World} {p : Nat} {ao : Option Addr} {cap : Nat} {L : List Tok} {c f ec eo : Int} {e : Ending} (h : BodyPost w p ao cap L c f (.bad ec eo) e w') : e = PEnd ec eo ∧ Only (fun k => k = p) w w' := h
theorem bodyPost_ok {w w' : World} {p : Nat} {ao : Option Addr} {cap : Nat} {L : List Tok} {c f : Int} {x : List PLit} {r : List Tok} {e : Ending} (h : BodyPost w p ao cap L c f (.ok x r) e w') : ∃ v ls, e = .returned v ∧ ls.map Lix.pur = x ∧ ls.length ≤ 16 ∧ Grow elLix 57 w.heap.size w' v ls ∧ Ahead w' p ao cap L c f r ∧ Only (fun k => k = p) w w' := h

set_option maxHeartbeats 4000000 in
set_option maxRecDepth 100000 in
theorem body_any {w : World} {p : Nat} {ao : Option Addr} {cap : Nat} {L : List Tok} {c f : Int} {R : List Tok} (h : Ahead w p ao cap L c f R) :
    Calls Tryd.prog 42 #[.pointer (some ⟨p, 0, none⟩)] w (BodyPost w p ao cap L c f (bodyP c f R)) := by
  obtain ⟨res, hres⟩ : ∃ res, bodyP c f R = res := ⟨_, rfl⟩
  rw [hres]
  have HRes0 : Hid (bodyF c f (R.length + 1) [] R = res) := hres
  obtain ⟨Post, hPost⟩ : ∃ Post : Ending → World → Prop, Post = BodyPost w p ao cap L c f res := ⟨_, rfl⟩
  rw [← hPost]
  have PB : Hid (∀ ec eo w', res = .bad ec eo → Only (fun k => k = p) w w' → Post (PEnd ec eo) w') := fun ec eo w' hr ho => by
    rw [hPost, hr]; exact ⟨rfl, ho⟩
  have PG : Hid (∀ b r' v ls w', res = .ok b r' → ls.map Lix.pur = b → ls.length ≤ 16 → Grow elLix 57 w.heap.size w' v ls → Ahead w' p ao cap L c f r' → Only (fun k => k = p) w w' → Post (.returned v) w') := fun b r' v ls w' hr h1 h2 h3 h4 h5 => by
    rw [hPost, hr]; exact ⟨v, ls, rfl, h1, h2, h3, h4, h5⟩
  have HC0 := hide (Coll3.start (E := elLix) (e := 57) h)
  have HLt := hide h.lt
  clear hPost h hres
  go_enter Tryd.func42, Tryd.ntmps42
  go_wp2
  go_loopw [3] (fun v wr => ∃ (n : Nat) (ls : List Lix) (R1 : List Tok), ls.length ≤ 16 ∧ R1.length < n ∧ Hid (Coll3 elLix 57 w wr p ao cap L c f R1 w.heap.size v ls) ∧ Hid (bodyF c f n (ls.map Lix.pur) R1 = res)) (fun _ wr => 70000 - (intOf ((wr.cell? ⟨p, 4, none⟩).getD undef)).toNat)
  case atStart => exact ⟨R.length + 1, [], R, by simp, by omega, HC0, HRes0⟩
  case round =>
    clear HC0 HRes0
    obtain ⟨n, ls, R1, hls, hn, HC, HRes⟩ := hrel
    obtain ⟨n, rfl⟩ : ∃ m, n = m + 1 := ⟨n - 1, by omega⟩
    obtain ⟨va, vc, rfl, -⟩ := HC.out.gr.shape
    cases hT : takeP c f [1, 10, 2, 3, 4] R1 with
    | bad ec eo =>
      have HT : Hid (∀ (W : World) (g : Nat), W.heap.size = g → Ahead W p ao cap L c f R1 → Calls Tryd.prog 26 #[.pointer (some ⟨p, 0, none⟩), .slice (some ⟨g, 0, none⟩) 5 5] (W.alloc (.cells #[.int .i64 1, .int .i64 10, .int .i64 2, .int .i64 3, .int .i64 4] 3)) fun e w' => e = PEnd ec eo ∧ Below W.heap.size W w') := fun W g hg ha => hg ▸ take_lit_fail [1, 10, 2, 3, 4] ha (by decide) hT
      have HX : Hid (res = .bad ec eo) := by show _ = _; rw [← HRes.out]; exact body_bad1 hT
      clear hT
      go_wp2_with (go_at_call 26; refine (HT.out _ _ rfl HC.out.ah).mono ?_; rintro e w1 ⟨rfl, hb1⟩)
      exact ⟨rfl, PB.out _ _ _ HX.out (HC.out.below hb1).end_⟩
    | ok t r1 =>
      have HT : Hid (∀ (W : World) (g : Nat), W.heap.size = g → Ahead W p ao cap L c f R1 → Calls Tryd.prog 26 #[.pointer (some ⟨p, 0, none⟩), .slice (some ⟨g, 0, none⟩) 5 5] (W.alloc (.cells #[.int .i64 1, .int .i64 10, .int .i64 2, .int .i64 3, .int .i64 4] 3)) fun e w' => e = .returned (tokV t) ∧ Ahead w' p ao cap L c f r1 ∧ Only (fun b => b = p) W w') := fun W g hg ha => hg ▸ take_lit_good [1, 10, 2, 3, 4] ha (by decide) hT
      have htg : t.good := HC.out.ah.good t (by rw [(take_eq hT).1]; exact List.mem_cons_self)
      have l1 := take_len hT
      unfold tokV at HT
      by_cases h16 : ls.length = 16
      · have HLm := hide (limit_eq (ls.length : Int) 16 23 (t.off : Int) (h := by omega))
        have HX : Hid (res = .bad 23 (t.off : Int)) := by show _ = _; rw [← HRes.out]; exact body_lim hT (by rw [List.length_map]; exact h16)
        clear hT
        clear h16 hls
        go_wp2_with (first
          | (go_at_call 26; refine (HT.out _ _ rfl HC.out.ah).mono ?_; rintro e w1 ⟨rfl, ha1, ho1⟩; have HC1 := hide (HC.out.move ho1 ha1); clear ha1 ho1)
          | (go_at_call 27; refine (HLm.out _).mono ?_; rintro e w2 ⟨rfl, hw⟩; have hw := hw.symm; subst hw))
        exact ⟨rfl, PB.out _ _ _ HX.out (HC1.out.below (belowA _ _)).end_⟩
      · have HLm := hide (limit_ok (ls.length : Int) 16 23 (t.off : Int) (h := by omega))
        have hls16 : ls.length < 16 := by omega
        have HLi0 := fun (W : World) (ha : Ahead W p ao cap L c f r1) => literal_any t ha htg
        cases hrl : litP c f t r1 with
        | bad ec eo =>
          rw [hrl] at HLi0
          have HLi := hide HLi0
          have HX : Hid (res = .bad ec eo) := by show _ = _; rw [← HRes.out]; exact body_lit hT (by rw [List.length_map]; exact h16) hrl
          clear HLi0 hT hrl h16
          unfold tokV at HLi
          go_wp2_with (first
            | (go_at_call 26; refine (HT.out _ _ rfl HC.out.ah).mono ?_; rintro e w1 ⟨rfl, ha1, ho1⟩; have HC1 := hide ((HC.out.move ho1 ha1).below (belowA w1 (.cells #[.int .i64 t.k, .string t.t, .int .i64 t.n, .int .i64 t.op, .int .i64 (t.off : Int), .int .i64 (t.en : Int)] 78))); clear ha1 ho1 HT)
            | (go_at_call 27; refine (HLm.out _).mono ?_; rintro e w2 ⟨⟨v2, rfl⟩, hw⟩; have hw := hw.symm; subst hw)
            | (go_at_call 50; refine (HLi.out _ HC1.out.ah).mono ?_; intro e w3 hq; obtain ⟨rfl, ho3⟩ := litPost_bad hq; clear hq))
          exact ⟨rfl, PB.out _ _ _ HX.out (HC1.out.endM ho3)⟩
        | ok x r2 =>
          rw [hrl] at HLi0
          have HLi := hide HLi0
          unfold tokV at HLi
          clear HLi0
          have l2 := lit_len hrl
          cases hU0 : takeP c f [7, 8] r2 with
          | bad ec eo =>
            have HU : Hid (∀ (W : World) (g : Nat), W.heap.size = g → Ahead W p ao cap L c f r2 → Calls Tryd.prog 26 #[.pointer (some ⟨p, 0, none⟩), .slice (some ⟨g, 0, none⟩) 2 2] (W.alloc (.cells #[.int .i64 7, .int .i64 8] 3)) fun e w' => e = PEnd ec eo ∧ Below W.heap.size W w') := fun W g hg ha => hg ▸ take_lit_fail [7, 8] ha (by decide) hU0
            have HX : Hid (res = .bad ec eo) := by show _ = _; rw [← HRes.out]; exact body_sep hT (by rw [List.length_map]; exact h16) hrl hU0
            clear hT hrl hU0 h16
            go_wp2_with (first
              | (go_at_call 26; refine (HT.out _ _ rfl HC.out.ah).mono ?_; rintro e w1 ⟨rfl, ha1, ho1⟩; have HC1 := hide ((HC.out.move ho1 ha1).below (belowA w1 (.cells #[.int .i64 t.k, .string t.t, .int .i64 t.n, .int .i64 t.op, .int .i64 (t.off : Int), .int .i64 (t.en : Int)] 78))); clear ha1 ho1 HT)
              | (go_at_call 27; refine (HLm.out _).mono ?_; rintro e w2 ⟨⟨v2, rfl⟩, hw⟩; have hw := hw.symm; subst hw)
              | (go_at_call 50; refine (HLi.out _ HC1.out.ah).mono ?_; intro e w3 hq; obtain ⟨⟨xk, ⟨ap, av, aoff, ats⟩, xop, xl, xr, xoff⟩, rfl, hpur, hok, ha3, ho3⟩ := litPost_ok hq; clear hq; obtain ⟨xa, xc, rfl, -⟩ := (show Lst elTrm _ _ av ats from hok.2.1.2.2).shape; have HPu := hide hpur; have HOk := hide (HC1.out.gr.behind HC1.out.hi elLix hok); have HC3 := hide (HC1.out.move ho3 ha3); have HC4 := hide (HC3.out.below (belowA w3 (.cells #[.int .i64 xk, .string ap, .slice xa ats.length xc, .int .i64 aoff, .int .i64 xop, .int .i64 xl.k, .int .i64 xl.n, .string xl.s, .int .i64 xl.off, .int .i64 xr.k, .int .i64 xr.n, .string xr.s, .int .i64 xr.off, .int .i64 xoff] 57))); have HOk4 := hide (elLix.move HOk.out fun b hlt hF => ⟨hF, (belowA w3 (.cells #[.int .i64 xk, .string ap, .slice xa ats.length xc, .int .i64 aoff, .int .i64 xop, .int .i64 xl.k, .int .i64 xl.n, .string xl.s, .int .i64 xl.off, .int .i64 xr.k, .int .i64 xr.n, .string xr.s, .int .i64 xr.off, .int .i64 xoff] 57)).block b hlt⟩); clear hpur hok ha3 ho3 HOk HLi; unfold Lix.val)
              | (at_builtin; obtain ⟨i0, hi0, hz0, hz1, hz2⟩ := info_parts Tryd.infoLit; refine wpList_push (w0 := w3.alloc (.cells #[.int .i64 xk, .string ap, .slice xa ats.length xc, .int .i64 aoff, .int .i64 xop, .int .i64 xl.k, .int .i64 xl.n, .string xl.s, .int .i64 xl.off, .int .i64 xr.k, .int .i64 xr.n, .string xr.s, .int .i64 xr.off, .int .i64 xoff] 57)) elLix rfl _ _ 33 rfl w.heap.size 57 i0 _ 152 Tryd.underlying33 hi0 hz0 hz1 hz2 rfl (by decide) _ ls ls.length rfl rfl HC4.out.gr ⟨xk, ⟨ap, .slice xa ats.length xc, aoff, ats⟩, xop, xl, xr, xoff⟩ w3.heap.size 1 rfl (fun j u hu => new_cells (cs := #[.int .i64 xk, .string ap, .slice xa ats.length xc, .int .i64 aoff, .int .i64 xop, .int .i64 xl.k, .int .i64 xl.n, .string xl.s, .int .i64 xl.off, .int .i64 xr.k, .int .i64 xr.n, .string xr.s, .int .i64 xr.off, .int .i64 xoff]) j u hu) HOk4.out (by omega) (Below.refl _ _) HC4.out.hi ?_; intro g cap' w5 HG5 HB5 HGr; clear HB5 hi0 hz0 hz1 hz2; have HC5 := hide (HC4.out.grown HGr.out HG5.out); clear HG5 HGr HC4 HOk4)
              | (go_at_call 26; refine (HU.out _ _ rfl HC5.out.ah).mono ?_; rintro e w6 ⟨rfl, hb6⟩))
            exact ⟨rfl, PB.out _ _ _ HX.out (HC5.out.below hb6).end_⟩
          | ok s r3 =>
            have HU : Hid (∀ (W : World) (g : Nat), W.heap.size = g → Ahead W p ao cap L c f r2 → Calls Tryd.prog 26 #[.pointer (some ⟨p, 0, none⟩), .slice (some ⟨g, 0, none⟩) 2 2] (W.alloc (.cells #[.int .i64 7, .int .i64 8] 3)) fun e w' => e = .returned (tokV s) ∧ Ahead w' p ao cap L c f r3 ∧ Only (fun b => b = p) W w') := fun W g hg ha => hg ▸ take_lit_good [7, 8] ha (by decide) hU0
            have hfd2 := tok_kind (.int .i64 s.k) (.string s.t) (.int .i64 s.n) (.int .i64 s.op) (.int .i64 (s.off : Int)) (.int .i64 (s.en : Int))
            have l3 := take_len hU0
            unfold tokV at HU
            by_cases h8 : s.k = 8
            · have e8 : (s.k == 8) = true := by simpa using h8
              have HX : Hid (res = .ok (ls.map Lix.pur ++ [x]) r3) := by show _ = _; rw [← HRes.out]; exact body_end hT (by rw [List.length_map]; exact h16) hrl hU0 h8
              clear hT hrl hU0 h16 h8
              go_wp2_with (first
                | (go_at_call 26; refine (HT.out _ _ rfl HC.out.ah).mono ?_; rintro e w1 ⟨rfl, ha1, ho1⟩; have HC1 := hide ((HC.out.move ho1 ha1).below (belowA w1 (.cells #[.int .i64 t.k, .string t.t, .int .i64 t.n, .int .i64 t.op, .int .i64 (t.off : Int), .int .i64 (t.en : Int)] 78))); clear ha1 ho1 HT)
                | (go_at_call 27; refine (HLm.out _).mono ?_; rintro e w2 ⟨⟨v2, rfl⟩, hw⟩; have hw := hw.symm; subst hw)
                | (go_at_call 50; refine (HLi.out _ HC1.out.ah).mono ?_; intro e w3 hq; obtain ⟨⟨xk, ⟨ap, av, aoff, ats⟩, xop, xl, xr, xoff⟩, rfl, hpur, hok, ha3, ho3⟩ := litPost_ok hq; clear hq; obtain ⟨xa, xc, rfl, -⟩ := (show Lst elTrm _ _ av ats from hok.2.1.2.2).shape; have HPu := hide hpur; have HOk := hide (HC1.out.gr.behind HC1.out.hi elLix hok); have HC3 := hide (HC1.out.move ho3 ha3); have HC4 := hide (HC3.out.below (belowA w3 (.cells #[.int .i64 xk, .string ap, .slice xa ats.length xc, .int .i64 aoff, .int .i64 xop, .int .i64 xl.k, .int .i64 xl.n, .string xl.s, .int .i64 xl.off, .int .i64 xr.k, .int .i64 xr.n, .string xr.s, .int .i64 xr.off, .int .i64 xoff] 57))); have HOk4 := hide (elLix.move HOk.out fun b hlt hF => ⟨hF, (belowA w3 (.cells #[.int .i64 xk, .string ap, .slice xa ats.length xc, .int .i64 aoff, .int .i64 xop, .int .i64 xl.k, .int .i64 xl.n, .string xl.s, .int .i64 xl.off, .int .i64 xr.k, .int .i64 xr.n, .string xr.s, .int .i64 xr.off, .int .i64 xoff] 57)).block b hlt⟩); clear hpur hok ha3 ho3 HOk HLi; unfold Lix.val)
                | (at_builtin; obtain ⟨i0, hi0, hz0, hz1, hz2⟩ := info_parts Tryd.infoLit; refine wpList_push (w0 := w3.alloc (.cells #[.int .i64 xk, .string ap, .slice xa ats.length xc, .int .i64 aoff, .int .i64 xop, .int .i64 xl.k, .int .i64 xl.n, .string xl.s, .int .i64 xl.off, .int .i64 xr.k, .int .i64 xr.n, .string xr.s, .int .i64 xr.off, .int .i64 xoff] 57)) elLix rfl _ _ 33 rfl w.heap.size 57 i0 _ 152 Tryd.underlying33 hi0 hz0 hz1 hz2 rfl (by decide) _ ls ls.length rfl rfl HC4.out.gr ⟨xk, ⟨ap, .slice xa ats.length xc, aoff, ats⟩, xop, xl, xr, xoff⟩ w3.heap.size 1 rfl (fun j u hu => new_cells (cs := #[.int .i64 xk, .string ap, .slice xa ats.length xc, .int .i64 aoff, .int .i64 xop, .int .i64 xl.k, .int .i64 xl.n, .string xl.s, .int .i64 xl.off, .int .i64 xr.k, .int .i64 xr.n, .string xr.s, .int .i64 xr.off, .int .i64 xoff]) j u hu) HOk4.out (by omega) (Below.refl _ _) HC4.out.hi ?_; intro g cap' w5 HG5 HB5 HGr; clear HB5 hi0 hz0 hz1 hz2; have HC5 := hide (HC4.out.grown HGr.out HG5.out); clear HG5 HGr HC4 HOk4)
                | (go_at_call 26; refine (HU.out _ _ rfl HC5.out.ah).mono ?_; rintro e w6 ⟨rfl, ha6, ho6⟩; have HC6 := hide (HC5.out.move ho6 ha6); clear ha6 ho6))
              exact PG.out _ _ _ _ _ HX.out (by rw [List.map_append, List.map_singleton, HPu.out]) (by simp; omega) HC6.out.gr HC6.out.ah HC6.out.end_
            · have e8 : (s.k == 8) = false := by simpa using h8
              have HX : Hid (bodyF c f n (ls.map Lix.pur ++ [x]) r3 = res) := by show _ = _; rw [← HRes.out]; exact (body_more hT (by rw [List.length_map]; exact h16) hrl hU0 h8).symm
              clear hT hrl hU0 h16 h8
              have HLn : Hid (r3.length < R1.length ∧ r3.length < n) := ⟨by omega, by omega⟩
              obtain ⟨ix, isz⟩ := HC.out.ah.index
              have HIx := hide (And.intro ix isz)
              clear l1 l2 l3 ix isz
              go_wp2_with (first
                | (go_at_call 26; refine (HT.out _ _ rfl HC.out.ah).mono ?_; rintro e w1 ⟨rfl, ha1, ho1⟩; have HC1 := hide ((HC.out.move ho1 ha1).below (belowA w1 (.cells #[.int .i64 t.k, .string t.t, .int .i64 t.n, .int .i64 t.op, .int .i64 (t.off : Int), .int .i64 (t.en : Int)] 78))); clear ha1 ho1 HT)
                | (go_at_call 27; refine (HLm.out _).mono ?_; rintro e w2 ⟨⟨v2, rfl⟩, hw⟩; have hw := hw.symm; subst hw)
                | (go_at_call 50; refine (HLi.out _ HC1.out.ah).mono ?_; intro e w3 hq; obtain ⟨⟨xk, ⟨ap, av, aoff, ats⟩, xop, xl, xr, xoff⟩, rfl, hpur, hok, ha3, ho3⟩ := litPost_ok hq; clear hq; obtain ⟨xa, xc, rfl, -⟩ := (show Lst elTrm _ _ av ats from hok.2.1.2.2).shape; have HPu := hide hpur; have HOk := hide (HC1.out.gr.behind HC1.out.hi elLix hok); have HC3 := hide (HC1.out.move ho3 ha3); have HC4 := hide (HC3.out.below (belowA w3 (.cells #[.int .i64 xk, .string ap, .slice xa ats.length xc, .int .i64 aoff, .int .i64 xop, .int .i64 xl.k, .int .i64 xl.n, .string xl.s, .int .i64 xl.off, .int .i64 xr.k, .int .i64 xr.n, .string xr.s, .int .i64 xr.off, .int .i64 xoff] 57))); have HOk4 := hide (elLix.move HOk.out fun b hlt hF => ⟨hF, (belowA w3 (.cells #[.int .i64 xk, .string ap, .slice xa ats.length xc, .int .i64 aoff, .int .i64 xop, .int .i64 xl.k, .int .i64 xl.n, .string xl.s, .int .i64 xl.off, .int .i64 xr.k, .int .i64 xr.n, .string xr.s, .int .i64 xr.off, .int .i64 xoff] 57)).block b hlt⟩); clear hpur hok ha3 ho3 HOk HLi; unfold Lix.val)
                | (at_builtin; obtain ⟨i0, hi0, hz0, hz1, hz2⟩ := info_parts Tryd.infoLit; refine wpList_push (w0 := w3.alloc (.cells #[.int .i64 xk, .string ap, .slice xa ats.length xc, .int .i64 aoff, .int .i64 xop, .int .i64 xl.k, .int .i64 xl.n, .string xl.s, .int .i64 xl.off, .int .i64 xr.k, .int .i64 xr.n, .string xr.s, .int .i64 xr.off, .int .i64 xoff] 57)) elLix rfl _ _ 33 rfl w.heap.size 57 i0 _ 152 Tryd.underlying33 hi0 hz0 hz1 hz2 rfl (by decide) _ ls ls.length rfl rfl HC4.out.gr ⟨xk, ⟨ap, .slice xa ats.length xc, aoff, ats⟩, xop, xl, xr, xoff⟩ w3.heap.size 1 rfl (fun j u hu => new_cells (cs := #[.int .i64 xk, .string ap, .slice xa ats.length xc, .int .i64 aoff, .int .i64 xop, .int .i64 xl.k, .int .i64 xl.n, .string xl.s, .int .i64 xl.off, .int .i64 xr.k, .int .i64 xr.n, .string xr.s, .int .i64 xr.off, .int .i64 xoff]) j u hu) HOk4.out (by omega) (Below.refl _ _) HC4.out.hi ?_; intro g cap' w5 HG5 HB5 HGr; clear HB5 hi0 hz0 hz1 hz2; have HC5 := hide (HC4.out.grown HGr.out HG5.out); clear HG5 HGr HC4 HOk4)
                | (go_at_call 26; refine (HU.out _ _ rfl HC5.out.ah).mono ?_; rintro e w6 ⟨rfl, ha6, ho6⟩; have HC6 := hide (HC5.out.move ho6 ha6); clear ha6 ho6))
              go_roundw
              case rel => exact ⟨n, ls ++ [⟨xk, ⟨ap, .slice xa ats.length xc, aoff, ats⟩, xop, xl, xr, xoff⟩], r3, by simp; omega, HLn.out.2, HC6, by show _ = _; rw [List.map_append, List.map_singleton, HPu.out]; exact HX.out⟩
              case measure =>
                obtain ⟨jx, -⟩ := HC6.out.ah.index
                have h1 := HLn.out
                have h2 := HIx.out
                omega
end Go.Proofs.YtfbmddgjbmapiaaDoor
