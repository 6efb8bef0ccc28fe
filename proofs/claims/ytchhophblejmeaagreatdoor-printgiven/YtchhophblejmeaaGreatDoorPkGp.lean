/- parse's reader takes one fact. parse.read of one fact. parse.Fact. -/
import Derived.Test.YtchhophblejmeaaGreatDoorProg
import Derived.Test.YtchhophblejmeaaGreatDoorPkBd

namespace Go.Proofs.YtchhophblejmeaaGreatDoor
set_option linter.unusedSimpArgs false
set_option linter.unusedVariables false
open Go.RowKit

theorem Tryz.infoCon : (Tryz.prog.info? 68).map (fun i => (i.zero, i.size, i.bytes)) = some (some (.agg #[.int .i64 0, .int .i64 0, .string ⟨#[]⟩]), 3, 32) := by kernel_rfl

def FactPost (w : World) (p : Nat) (ao : Option Addr) (cap : Nat) (L : List Tok) (c f : Int) (res : PR PAtom) (e : Ending) (w' : World) : Prop :=
  match res with
  | .bad ec eo => e = PEnd ec eo ∧ Only (fun k => k = p) w w'
  | .ok a r => ∃ v, e = .returned (.agg #[.string a.p, v]) ∧ Lst elCon w' (fun b => w.heap.size ≤ b) v (a.ts.map Trm.con) ∧ Ahead w' p ao cap L c f r ∧ Only (fun k => k = p) w w'
theorem factPost_bad {w w' : World} {p : Nat} {ao : Option Addr} {cap : Nat} {L : List Tok} {c f ec eo : Int} {e : Ending} (h : FactPost w p ao cap L c f (.bad ec eo) e w') : e = PEnd ec eo ∧ Only (fun k => k = p) w w' := h
theorem factPost_ok {w w' : World} {p : Nat} {ao : Option Addr} {cap : Nat} {L : List Tok} {c f : Int} {a : PAtom} {r : List Tok} {e : Ending} (h : FactPost w p ao cap L c f (.ok a r) e w') : ∃ v, e = .returned (.agg #[.string a.p, v]) ∧ Lst elCon w' (fun b => w.heap.size ≤ b) v (a.ts.map Trm.con) ∧ Ahead w' p ao cap L c f r ∧ Only (fun k => k = p) w w' := h

/-- What the loop of a fact's constants keeps in memory. -/
structure FctAt (w wr : World) (p : Nat) (ao : Option Addr) (cap : Nat) (L : List Tok) (c f : Int) (R : List Tok) (b4 : Nat) (pr : ByteArray) (v : Value) (l : List Con) (av : Value) (ts : List Trm) : Prop where
  col : Coll3 elCon 68 w wr p ao cap L c f R (b4 + 1) v l
  b0 : wr.heap[w.heap.size]? = some (.cells #[.string ⟨#[]⟩, .slice none 0 0] 28 (0, 0))
  bx : wr.heap[b4]? = some (.cells #[.string pr, v] 28 (0, 0))
  ar : Lst elTrm wr (fun k => w.heap.size < k ∧ k < b4) av ts
  hb : w.heap.size < b4
section
variable {w wr wr' : World} {p : Nat} {ao : Option Addr} {cap : Nat} {L : List Tok} {c f : Int} {R R' : List Tok} {b4 : Nat} {pr : ByteArray} {v v' av : Value} {l l' : List Con} {ts : List Trm}
theorem FctAt.below (h : FctAt w wr p ao cap L c f R b4 pr v l av ts) (hb : Below wr.heap.size wr wr') : FctAt w wr' p ao cap L c f R b4 pr v l av ts :=
  ⟨h.col.below hb, by rw [hb.block _ (Array.getElem?_eq_some_iff.1 h.b0).1]; exact h.b0, by rw [hb.block _ (Array.getElem?_eq_some_iff.1 h.bx).1]; exact h.bx, h.ar.move fun k hk hF => ⟨hF, hb.block k hk⟩, h.hb⟩
theorem FctAt.cells (h : FctAt w wr p ao cap L c f R b4 pr v l av ts) : (wr.cell? ⟨w.heap.size, 0, none⟩ = some (.string ⟨#[]⟩) ∧ wr.cell? ⟨w.heap.size, 1, none⟩ = some (.slice none 0 0) ∧ wr.frozen? ⟨w.heap.size, 0, none⟩ = false ∧ wr.frozen? ⟨w.heap.size, 1, none⟩ = false) ∧ wr.cell? ⟨b4, 0, none⟩ = some (.string pr) ∧ wr.cell? ⟨b4, 1, none⟩ = some v ∧ wr.frozen? ⟨b4, 1, none⟩ = false := by
  refine ⟨⟨?_, ?_, ?_, ?_⟩, ?_, ?_, ?_⟩ <;> simp [World.cell?, World.frozen?, h.b0, h.bx]
theorem FctAt.far (h : FctAt w wr p ao cap L c f R b4 pr v l av ts) (hg : wr.grownBy wr' v.ownBlock) : wr'.heap[b4]? = some (.cells #[.string pr, v] 28 (0, 0)) := by
  have ho : Only (fun k => b4 + 1 ≤ k) wr wr' := (Only.refl _ wr).grown hg (fun k hk _ => own_new h.col.gr.1 k hk)
  rw [ho.block _ (Array.getElem?_eq_some_iff.1 h.bx).1 (by omega)]; exact h.bx
theorem FctAt.push (h : FctAt w wr p ao cap L c f R b4 pr v l av ts) (hg : wr.grownBy wr' v.ownBlock) (hG : Grow elCon 68 (b4 + 1) wr' v' l') : FctAt w (wr'.setCell ⟨b4, 1, none⟩ v') p ao cap L c f R b4 pr v' l' av ts := by
  have hp := h.col.pl
  have hb := h.hb
  have hc := h.col.grown hg hG
  have ho : Only (fun k => b4 + 1 ≤ k) wr wr' := (Only.refl _ wr).grown hg (fun k hk _ => own_new h.col.gr.1 k hk)
  have ho2 : Only (fun k => k = b4) wr' (wr'.setCell ⟨b4, 1, none⟩ v') := (Only.refl (fun k => k = b4) wr').setCell (p := ⟨b4, 1, none⟩) rfl _
  have hb0 : wr'.heap[w.heap.size]? = some (.cells #[.string ⟨#[]⟩, .slice none 0 0] 28 (0, 0)) := by rw [ho.block _ (Array.getElem?_eq_some_iff.1 h.b0).1 (by omega)]; exact h.b0
  refine ⟨⟨?_, hc.gr.above fun b hb hlt => ho2.block b hlt (by omega), hc.on.trans (ho2.mono fun k _ (e : k = b4) => .inr (by omega)), hp, hc.tk, hc.lo, Nat.le_trans hc.hi ho2.size⟩, ?_, ?_, ?_, hb⟩
  · obtain ⟨i, q1, q2⟩ := hc.ah
    exact ⟨i, q1.only ho2 (by omega) (fun g hg hl => by have := hc.tk g hg hl; omega), q2⟩
  · rw [ho2.block _ (Array.getElem?_eq_some_iff.1 hb0).1 (by omega)]; exact hb0
  · have := h.far hg
    simp [World.setCell, Array.getElem?_modify, this]
  · exact h.ar.move fun k hk hF => ⟨hF, by rw [ho2.block k (Nat.lt_of_lt_of_le hk ho.size) (by omega), ho.block k hk (by omega)]⟩
end
theorem fctRes (W : World) (b : Nat) (u0 u1 : Value) (tmps : Array Value) (ht : tmps[2]? = some (.pointer (some ⟨b, 0, none⟩))) (hb : W.heap[b]? = some (.cells #[u0, u1] 28 (0, 0))) :
    (results Tryz.f31 tmps).run Tryz.prog W = .ok (.agg #[u0, u1]) W := by
  have c0 : W.cell? ⟨b, 0, none⟩ = some u0 := by simp [World.cell?, hb]
  have c1 : W.cell? ⟨b, 1, none⟩ = some u1 := by simp [World.cell?, hb]
  simp [results, Tryz.results31, go_sem, ht, c0, c1]
theorem atom3_cells {V : World} {b : Nat} {u0 u1 u2 : Value} (h : V.heap[b]? = some (.cells #[u0, u1, u2] 42 (0, 0))) : V.cell? ⟨b, 0, none⟩ = some u0 ∧ V.cell? ⟨b, 1, none⟩ = some u1 := by
  refine ⟨?_, ?_⟩ <;> simp [World.cell?, h]

theorem box_kept0 {W W' : World} {b : Nat} {x : Obj} (h : W.heap[b]? = some x) (hb : Below W.heap.size W W') : W'.heap[b]? = some x := by
  rw [hb.block _ (Array.getElem?_eq_some_iff.1 h).1]; exact h
theorem box_moved0 {W W' : World} {p b : Nat} {x : Obj} (h : W.heap[b]? = some x) (hp : p ≠ b) (ho : Only (fun k => k = p) W W') : W'.heap[b]? = some x := by
  rw [ho.block _ (Array.getElem?_eq_some_iff.1 h).1 (by omega)]; exact h
set_option maxHeartbeats 4000000 in
set_option maxRecDepth 100000 in
theorem fact_any {w : World} {p : Nat} {ao : Option Addr} {cap : Nat} {L : List Tok} {c f : Int} {R : List Tok} (h : Ahead w p ao cap L c f R) :
    Calls Tryz.prog 31 #[.pointer (some ⟨p, 0, none⟩)] w (FactPost w p ao cap L c f (factP c f R)) := by
  have H0 := hide h
  have hp := h.lt
  have HB0 := hide (belowA w (.cells #[.string ⟨#[]⟩, .slice none 0 0] 28))
  have HA0 := hide (h.kept (belowA w (.cells #[.string ⟨#[]⟩, .slice none 0 0] 28)))
  clear h
  cases hT : takeP c f [1] R with
  | bad ec eo =>
    have HT : Hid (∀ (W : World) (g : Nat), W.heap.size = g → Ahead W p ao cap L c f R → Calls Tryz.prog 51 #[.pointer (some ⟨p, 0, none⟩), .slice (some ⟨g, 0, none⟩) 1 1] (W.alloc (.cells #[.int .i64 1] 3)) fun e w' => e = PEnd ec eo ∧ Below W.heap.size W w') := fun W g hg ha => hg ▸ take_lit_fail [1] ha (by decide) hT
    rw [show factP c f R = .bad ec eo from by unfold factP; rw [hT]]
    clear hT
    unfold FactPost
    go_enter Tryz.func31, Tryz.ntmps31
    go_wp2_with (go_at_call 51; refine (HT.out _ _ (by simp) HA0.out).mono ?_; rintro e w1 ⟨rfl, hb1⟩)
    exact ⟨rfl, rfl, Only.of_below (belowt2 HB0.out hb1) _⟩
  | ok t r1 =>
    have HT : Hid (∀ (W : World) (g : Nat), W.heap.size = g → Ahead W p ao cap L c f R → Calls Tryz.prog 51 #[.pointer (some ⟨p, 0, none⟩), .slice (some ⟨g, 0, none⟩) 1 1] (W.alloc (.cells #[.int .i64 1] 3)) fun e w' => e = .returned (tokV t) ∧ Ahead w' p ao cap L c f r1 ∧ Only (fun b => b = p) W w') := fun W g hg ha => hg ▸ take_lit_good [1] ha (by decide) hT
    have htg : t.good := H0.out.good t (by rw [(take_eq hT).1]; exact List.mem_cons_self)
    have HG0 := fun (W : World) (ha : Ahead W p ao cap L c f r1) => ground_any t ha htg
    cases hA : atomP c f valueKs t r1 with
    | bad ec eo =>
      rw [hA] at HG0
      have HGd := hide HG0
      rw [show factP c f R = .bad ec eo from by unfold factP; rw [hT]; simp only; rw [hA]]
      clear hT hA HG0
      unfold FactPost
      go_enter Tryz.func31, Tryz.ntmps31
      go_wp2_with (first
        | (go_at_call 51; refine (HT.out _ _ (by simp) HA0.out).mono ?_; rintro e w1 ⟨rfl, ha1, ho1⟩; have HA1 := hide ha1; have HO1 := hide (only_wide HB0.out ho1); have Hs1 := hide ho1.size; have HZ1 := hide (box_moved0 (heap_alloc_new w (.cells #[.string ⟨#[]⟩, .slice none 0 0] 28)) (by omega) ho1); clear ha1 ho1 HT)
        | (go_at_call 50; refine (HGd.out _ HA1.out).mono ?_; intro e w2 hq; obtain ⟨rfl, ho2⟩ := atmPost_bad hq; clear hq))
      exact ⟨rfl, rfl, only_drop (HO1.out.trans (ho2.mono fun k _ e => .inl e))⟩
    | ok a r2 =>
      rw [hA] at HG0
      have HGd := hide HG0
      clear HG0
      cases hD : takeP c f [0] r2 with
      | bad ec eo =>
        have HU : Hid (∀ (W : World) (g : Nat), W.heap.size = g → Ahead W p ao cap L c f r2 → Calls Tryz.prog 51 #[.pointer (some ⟨p, 0, none⟩), .slice (some ⟨g, 0, none⟩) 1 1] (W.alloc (.cells #[.int .i64 0] 3)) fun e w' => e = PEnd ec eo ∧ Below W.heap.size W w') := fun W g hg ha => hg ▸ take_lit_fail [0] ha (by decide) hD
        rw [show factP c f R = .bad ec eo from by unfold factP; rw [hT]; simp only; rw [hA]; simp only; rw [hD]]
        clear hT hA hD
        unfold FactPost
        go_enter Tryz.func31, Tryz.ntmps31
        go_wp2_with (first
          | (go_at_call 51; refine (HT.out _ _ (by simp) HA0.out).mono ?_; rintro e w1 ⟨rfl, ha1, ho1⟩; have HA1 := hide ha1; have HO1 := hide (only_wide HB0.out ho1); have Hs1 := hide ho1.size; have HZ1 := hide (box_moved0 (heap_alloc_new w (.cells #[.string ⟨#[]⟩, .slice none 0 0] 28)) (by omega) ho1); clear ha1 ho1 HT)
          | (go_at_call 50; refine (HGd.out _ HA1.out).mono ?_; intro e w2 hq; obtain ⟨⟨ap, av, aoff, ats⟩, rfl, hpur, hok, ha2, ho2⟩ := atmPost_ok hq; clear hq; obtain ⟨xa, xc, rfl, -⟩ := (show Lst elTrm _ _ av ats from hok.2.2).shape; have HA2 := hide (ha2.kept (belowA w2 (.cells #[.string ap, .slice xa ats.length xc, .int .i64 aoff] 42))); have HO2 := hide ((HO1.out.trans (ho2.mono fun k _ e => .inl e)).alloc (.cells #[.string ap, .slice xa ats.length xc, .int .i64 aoff] 42)); have HZ2 := hide (box_kept0 (box_moved0 HZ1.out (by omega) ho2) (belowA w2 (.cells #[.string ap, .slice xa ats.length xc, .int .i64 aoff] 42))); have HX2 := hide (heap_alloc_new w2 (.cells #[.string ap, .slice xa ats.length xc, .int .i64 aoff] 42)); have HAr2 := hide ((show Lst elTrm w2 (fun b => w1.heap.size ≤ b) (.slice xa ats.length xc) ats from hok.2.2).move fun k hk hF => (⟨⟨by have := Hs1.out; simp at this; omega, hk⟩, (belowA w2 (.cells #[.string ap, .slice xa ats.length xc, .int .i64 aoff] 42)).block k hk⟩ : (w.heap.size < k ∧ k < w2.heap.size) ∧ _)); have Hs2 := hide (Nat.le_trans Hs1.out ho2.size); have HPu := hide hpur; clear hpur hok ha2 ho2 HGd; unfold Atx.val)
          | (go_at_call 51; refine (HU.out _ _ (by simp) HA2.out).mono ?_; rintro e w3 ⟨rfl, hb3⟩))
        exact ⟨rfl, rfl, only_drop (HO2.out.trans (Only.of_below hb3 _))⟩
      | ok s r3 =>
        have HU : Hid (∀ (W : World) (g : Nat), W.heap.size = g → Ahead W p ao cap L c f r2 → Calls Tryz.prog 51 #[.pointer (some ⟨p, 0, none⟩), .slice (some ⟨g, 0, none⟩) 1 1] (W.alloc (.cells #[.int .i64 0] 3)) fun e w' => e = .returned (tokV s) ∧ Ahead w' p ao cap L c f r3 ∧ Only (fun b => b = p) W w') := fun W g hg ha => hg ▸ take_lit_good [0] ha (by decide) hD
        rw [show factP c f R = .ok a r3 from by unfold factP; rw [hT]; simp only; rw [hA]; simp only; rw [hD]]
        clear hT hA hD
        obtain ⟨Post, hPost⟩ : ∃ Post : Ending → World → Prop, Post = FactPost w p ao cap L c f (.ok a r3) := ⟨_, rfl⟩
        rw [← hPost]
        have PG : Hid (∀ v w', Lst elCon w' (fun b => w.heap.size ≤ b) v (a.ts.map Trm.con) → Ahead w' p ao cap L c f r3 → Only (fun k => k = p) w w' → Post (.returned (.agg #[.string a.p, v])) w') := fun v w' h1 h2 h3 => by
          rw [hPost]; exact ⟨v, rfl, h1, h2, h3⟩
        clear hPost
        go_enter Tryz.func31, Tryz.ntmps31
        go_wp2_with (first
          | (go_at_call 51; refine (HT.out _ _ (by simp) HA0.out).mono ?_; rintro e w1 ⟨rfl, ha1, ho1⟩; have HA1 := hide ha1; have HO1 := hide (only_wide HB0.out ho1); have Hs1 := hide ho1.size; have HZ1 := hide (box_moved0 (heap_alloc_new w (.cells #[.string ⟨#[]⟩, .slice none 0 0] 28)) (by omega) ho1); clear ha1 ho1 HT)
          | (go_at_call 50; refine (HGd.out _ HA1.out).mono ?_; intro e w2 hq; obtain ⟨⟨ap, av, aoff, ats⟩, rfl, hpur, hok, ha2, ho2⟩ := atmPost_ok hq; clear hq; obtain ⟨xa, xc, rfl, -⟩ := (show Lst elTrm _ _ av ats from hok.2.2).shape; have HA2 := hide (ha2.kept (belowA w2 (.cells #[.string ap, .slice xa ats.length xc, .int .i64 aoff] 42))); have HO2 := hide ((HO1.out.trans (ho2.mono fun k _ e => .inl e)).alloc (.cells #[.string ap, .slice xa ats.length xc, .int .i64 aoff] 42)); have HZ2 := hide (box_kept0 (box_moved0 HZ1.out (by omega) ho2) (belowA w2 (.cells #[.string ap, .slice xa ats.length xc, .int .i64 aoff] 42))); have HX2 := hide (heap_alloc_new w2 (.cells #[.string ap, .slice xa ats.length xc, .int .i64 aoff] 42)); have HAr2 := hide ((show Lst elTrm w2 (fun b => w1.heap.size ≤ b) (.slice xa ats.length xc) ats from hok.2.2).move fun k hk hF => (⟨⟨by have := Hs1.out; simp at this; omega, hk⟩, (belowA w2 (.cells #[.string ap, .slice xa ats.length xc, .int .i64 aoff] 42)).block k hk⟩ : (w.heap.size < k ∧ k < w2.heap.size) ∧ _)); have Hs2 := hide (Nat.le_trans Hs1.out ho2.size); have HPu := hide hpur; clear hpur hok ha2 ho2 HGd; unfold Atx.val)
          | (go_at_call 51; refine (HU.out _ _ (by simp) HA2.out).mono ?_; rintro e w3 ⟨rfl, ha3, ho3⟩; have HA3 := hide ha3; have HO3 := hide (HO2.out.trans (ho3.mono fun k _ e => .inl e)); have HZ3 := hide (box_moved0 HZ2.out (by omega) ho3); have hs2 := Hs2.out; simp at hs2; have HX3 := hide (box_moved0 HX2.out (by omega) ho3); have HAr3 := hide (HAr2.out.move fun k hk hF => ⟨hF, ho3.block k hk (by omega)⟩); have HS3 := hide ho3.size; clear ha3 ho3; obtain ⟨m0, m1⟩ := atom3_cells HX3.out; have m2 := kept_cell (belowA w3 (.cells #[.string ap, .slice none 0 0] 28)) m1))
        have hs3 := HS3.out
        simp at hs3
        have HF0 : Hid (FctAt w (w3.alloc (.cells #[.string ap, .slice none 0 0] 28)) p ao cap L c f r3 w3.heap.size ap (.slice none 0 0) [] (.slice xa ats.length xc) ats) :=
          ⟨⟨HA3.out.kept (belowA w3 (.cells #[.string ap, .slice none 0 0] 28)), Grow.nil _ _ _ _, HO3.out.alloc _, hp, H0.out.tk, by omega, by simp⟩, box_kept0 HZ3.out (belowA w3 (.cells #[.string ap, .slice none 0 0] 28)), heap_alloc_new w3 (.cells #[.string ap, .slice none 0 0] 28), HAr3.out.move fun k hk hF => ⟨⟨hF.1, by omega⟩, (belowA w3 (.cells #[.string ap, .slice none 0 0] 28)).block k hk⟩, by omega⟩
        have hln : ats.length < 1073741824 := by obtain ⟨_, _, _, _, _, q⟩ := HAr3.out.shape; exact q
        clear m0 m1 m2 HA3 HO3 HZ3 HX3 HAr3 HS3 HA2 HO2 HZ2 HX2 HAr2 Hs2 HA1 HO1 HZ1 Hs1 HU HA0 HB0
        go_loopw [21] (fun i wr => ∃ (j : Nat) (v : Value) (l : List Con), j ≤ ats.length ∧ i = .int .i64 j ∧ Hid (l = (ats.take j).map Trm.con) ∧ Hid (FctAt w wr p ao cap L c f r3 w3.heap.size ap v l (.slice xa ats.length xc) ats)) (fun i _ => ats.length - (intOf i).toNat)
        case atStart => exact ⟨0, _, [], by omega, rfl, by show _ = _; simp, HF0⟩
        case round =>
          clear HF0
          obtain ⟨j, v, l, hj, rfl, HL, HF⟩ := hrel
          obtain ⟨va, vc, rfl, -⟩ := HF.out.col.gr.shape
          have hlj : l.length ≤ j := by rw [HL.out]; simp; omega
          by_cases hlt : j < ats.length
          · have hi : (j : Int) < (ats.length : Int) := by omega
            have hi0 : (0 : Int) ≤ (j : Int) := by omega
            obtain ⟨u, hu⟩ : ∃ u, ats[j]? = some u := ⟨_, List.getElem?_eq_getElem hlt⟩
            obtain ⟨b2, o2, rfl, -, -, hr2⟩ := HF.out.ar.row (by omega)
            have y0 := hr2 j _ hu 0 _ rfl
            have y1 := hr2 j _ hu 1 _ rfl
            have y2 := hr2 j _ hu 2 _ rfl
            have y3 := hr2 j _ hu 3 _ rfl
            simp only [elTrm, Nat.add_zero] at y0 y1 y2 y3
            have HOk : Hid (u.con.ok) := (HF.out.ar.ok (List.mem_of_getElem? hu)).1
            have HL2 : Hid (l ++ [u.con] = (ats.take (j + 1)).map Trm.con) := by
              show _ = _
              rw [HL.out, List.take_add_one, hu, Option.toList_some, List.map_append, List.map_singleton]
            have HF1 := hide (HF.out.below (belowA wr (.cells #[.int .i64 u.k, .int .i64 u.n, .string u.s, .int .i64 u.off] 54)))
            have HF2 := hide (HF1.out.below (belowA _ (.cells #[.int .i64 u.k, .int .i64 u.n, .string u.s] 68)))
            obtain ⟨-, n0, n1, n2⟩ := HF1.out.cells
            clear hr2 hu
            go_wp2_with (at_builtin; obtain ⟨i0, hi0', hz0, hz1, hz2⟩ := info_parts Tryz.infoCon; refine wpList_push (w0 := (wr.alloc (.cells #[.int .i64 u.k, .int .i64 u.n, .string u.s, .int .i64 u.off] 54)).alloc (.cells #[.int .i64 u.k, .int .i64 u.n, .string u.s] 68)) elCon rfl _ _ 26 rfl (w3.heap.size + 1) 68 i0 _ 32 Tryz.underlying26 hi0' hz0 hz1 hz2 rfl (by decide) _ l l.length rfl rfl HF2.out.col.gr u.con (wr.heap.size + 1) 1 rfl (fun j u' hu => by have := new_cells (w := wr.alloc (.cells #[.int .i64 u.k, .int .i64 u.n, .string u.s, .int .i64 u.off] 54)) (cs := #[.int .i64 u.k, .int .i64 u.n, .string u.s]) (t := 68) j u' hu; simpa using this) HOk.out (by omega) (Below.refl _ _) HF2.out.col.hi ?_; intro g cap' w5 HG5 HB5 HGr; clear HB5 hi0' hz0 hz1 hz2; have hfar := HF2.out.far HGr.out; have f0 : w5.cell? ⟨w3.heap.size, 1, none⟩ = some (.slice va l.length vc) := (by simp [World.cell?, hfar]); have f1 : w5.frozen? ⟨w3.heap.size, 1, none⟩ = false := (by simp [World.frozen?, hfar]); have HF5 := hide (HF2.out.push HGr.out HG5.out); clear HG5 HGr hfar)
            go_roundw
            case rel => exact ⟨j + 1, _, l ++ [u.con], by omega, by go_num, HL2, HF5⟩
            case measure => simp [intOf]; omega
          · obtain rfl : j = ats.length := by omega
            have hi : ¬ (ats.length : Int) < (ats.length : Int) := by omega
            obtain ⟨⟨q0, q1, q2, q3⟩, n0, n1, n2⟩ := HF.out.cells
            have hb4 := HF.out.hb
            have q4 : ¬ w3.heap.size = w.heap.size := by omega
            have q5 : ¬ w.heap.size = w3.heap.size := by omega
            go_wp2
            have ho2 : Only (fun k => k = w.heap.size) wr ((wr.setCell ⟨w.heap.size, 0, none⟩ (.string ap)).setCell ⟨w.heap.size, 1, none⟩ (.slice va l.length vc)) := ((Only.refl (fun k => k = w.heap.size) wr).setCell (p := ⟨w.heap.size, 0, none⟩) rfl _).setCell (p := ⟨w.heap.size, 1, none⟩) rfl _
            obtain ⟨z1, z2⟩ := fin_ahead H0.out HF.out.col.ah HF.out.col.on ho2 (Nat.le_refl _)
            have hz := HL.out
            rw [List.take_length] at hz
            have z3 := ((HF.out.col.gr.above fun b hb hlt => ho2.block b hlt (by omega)).new (by omega)).move (G := fun b => w.heap.size ≤ b) fun k _ hF => ⟨by omega, rfl⟩
            rw [hz] at z3
            refine bodyPost_ret (fctRes _ w.heap.size (.string ap) (.slice va l.length vc) _ rfl (by have := HF.out.b0; simp [World.setCell, Array.getElem?_modify, this])) rfl ?_
            have hpu := HPu.out
            subst hpu
            rw [hz]
            rw [hz] at z1 z2
            exact PG.out _ _ z3 z1 z2
end Go.Proofs.YtchhophblejmeaaGreatDoor

namespace Go.Proofs.YtchhophblejmeaaGreatDoor
set_option linter.unusedSimpArgs false
set_option linter.unusedVariables false
open Go.RowKit

set_option maxRecDepth 100000 in
set_option maxHeartbeats 1000000 in
theorem idleFact (p : Addr) (w : World) :
    CallsD Tryz.prog 48 #[.pointer (some p)] .returning w fun e u' w' => e = .returned (.tuple #[]) ∧ u' = .returning ∧ w' = w := by
  refine callsD_of_wpS Tryz.func48 rfl fun c₀ cs hu => ?_
  apply wpS_seq
  apply wpS_region
  simp [wpOpsS, go_sem, recoverD, hu, Tryz.ntmps48, Exit.thenS]
  apply wpS_seq
  apply wpS_seq
  apply wpS_region
  simp [wpOpsS, go_sem, Exit.thenS]
  refine wpS_cond (t := true) (by simp [Act.eval, Array.replicate]) ?_
  simp only [if_true]
  refine wpS_of_wp (wp_ret ?_)
  cases c₀
  simp_all [bodyPostS, results, Tryz.results48, Exit.thenS]

set_option maxRecDepth 100000 in
set_option maxHeartbeats 1000000 in
theorem caughtFact (b : Nat) (c o : Int) (older : List PanicEntry) (w : World) (hb : w.heap[b]? = some (.cells #[.int .i64 0, .int .i64 0, .int .i64 0] 31 (0, 0))) :
    CallsD Tryz.prog 48 #[.pointer (some ⟨b, 0, none⟩)] (.panicking ({ v := faultP c o, recovered := false } :: older)) w fun e u' w' =>
      e = .returned (.tuple #[]) ∧ u' = .panicking ({ v := faultP c o, recovered := true } :: older) ∧ w'.heap[b]? = some (.cells #[.int .i64 c, .int .i64 0, .int .i64 o] 31 (0, 0)) ∧ Only (fun k => k = b) w w' := by
  obtain ⟨⟨c0, c1, c2⟩, ⟨z0, z1, z2⟩⟩ := fault_cells hb
  have hlt := (Array.getElem?_eq_some_iff.1 hb).1
  have hne : ¬ b = w.heap.size := by omega
  have hne2 : ¬ w.heap.size = b := by omega
  have hta : ∀ W : World, (Instr.typeAssert (faultP c o) 20 31 true).run Tryz.prog W = .ok (.tuple #[.agg #[.int .i64 c, .int .i64 0, .int .i64 o], .bool true]) W := fun W => by rfl
  refine callsD_of_wpS Tryz.func48 rfl fun c₀ cs hu => ?_
  apply wpS_seq
  apply wpS_region
  simp [wpOpsS, go_sem, recoverD, hu, Tryz.ntmps48, Exit.thenS]
  apply wpS_seq
  apply wpS_seq
  apply wpS_region
  simp [wpOpsS, go_sem, Exit.thenS]
  refine wpS_cond (t := false) (by simp [Act.eval, Array.replicate]) ?_
  simp only [Bool.false_eq_true, if_false]
  refine wpS_of_wp (wp_skip ?_)
  simp only [Exit.thenS]
  refine wpS_of_wp ?_
  change Code.wp _ _ _ ⟨#[.pointer (some ⟨b, 0, none⟩), faultP c o, undef, undef, faultP c o, faultP c o, .bool false, undef, undef, undef, undef, undef, undef, undef, undef, undef], []⟩ w
  go_wp2
  have hX : ((((w.setCell ⟨b, 0, none⟩ (.int .i64 c)).setCell ⟨b, 1, none⟩ (.int .i64 0)).setCell ⟨b, 2, none⟩ (.int .i64 o)).alloc (.cells #[.int .i64 c, .int .i64 0, .int .i64 o] 31)).heap[b]? = some (.cells #[.int .i64 c, .int .i64 0, .int .i64 o] 31 (0, 0)) := by
    rw [(belowA _ _).block _ (by simp; exact hlt)]
    simp [World.setCell, Array.getElem?_modify, hb]
  have hO : Only (fun k => k = b) w ((((w.setCell ⟨b, 0, none⟩ (.int .i64 c)).setCell ⟨b, 1, none⟩ (.int .i64 0)).setCell ⟨b, 2, none⟩ (.int .i64 o)).alloc (.cells #[.int .i64 c, .int .i64 0, .int .i64 o] 31)) :=
    ((((Only.refl (fun k => k = b) w).setCell (p := ⟨b, 0, none⟩) rfl _).setCell (p := ⟨b, 1, none⟩) rfl _).setCell (p := ⟨b, 2, none⟩) rfl _).alloc _
  generalize (((w.setCell ⟨b, 0, none⟩ (.int .i64 c)).setCell ⟨b, 1, none⟩ (.int .i64 0)).setCell ⟨b, 2, none⟩ (.int .i64 o)).alloc (.cells #[.int .i64 c, .int .i64 0, .int .i64 o] 31) = V at hX hO ⊢
  simp [bodyPostS, results, Tryz.results48, hX, hO]

def ReadFact (w : World) (s : ByteArray) (e : Ending) (w' : World) : Prop :=
  match factP (scanX s).2.1 ((scanX s).2.2 : Int) (scanX s).1 with
  | .bad ec eo => e = .returned (.tuple #[.agg #[.string ⟨#[]⟩, .slice none 0 0], faultV ec eo]) ∧ Below w.heap.size w w'
  | .ok b _ => ∃ v, e = .returned (.tuple #[.agg #[.string b.p, v], faultV 0 0]) ∧ Lst elCon w' (fun k => w.heap.size ≤ k) v (b.ts.map Trm.con) ∧ Below w.heap.size w w'

set_option maxRecDepth 100000 in
set_option maxHeartbeats 2000000 in
theorem readFact_any (s : ByteArray) (w : World) (hl : LexLaid w) (hs : s.size ≤ 140737488351232) :
    Calls Tryz.prog 30 #[.string s, .func (.func 31) #[] #[]] w (ReadFact w s) := by
  have hmf : ∀ (fn : Fn) (first cap : Array Value) (w : World), (Instr.makeFunc fn first cap).run Tryz.prog w = .ok (.func fn first cap) w := fun _ _ _ _ => rfl
  have HSc := hide (fun (W : World) (hb : Below w.heap.size w W) => scan_any s W (hl.kept hb) hs)
  clear hl hs
  unfold faultVal at HSc
  obtain ⟨res, hres⟩ : ∃ res, factP (scanX s).2.1 ((scanX s).2.2 : Int) (scanX s).1 = res := ⟨_, rfl⟩
  obtain ⟨Post, hPost⟩ : ∃ Post : Ending → World → Prop, Post = ReadFact w s := ⟨_, rfl⟩
  rw [← hPost]
  have PB : Hid (∀ ec eo w', res = .bad ec eo → Below w.heap.size w w' → Post (.returned (.tuple #[.agg #[.string ⟨#[]⟩, .slice none 0 0], .agg #[.int .i64 ec, .int .i64 0, .int .i64 eo]])) w') := fun ec eo w' hr hb => by
    rw [hPost]; unfold ReadFact; rw [hres, hr]; exact ⟨rfl, hb⟩
  have PG : Hid (∀ b r v w', res = .ok b r → Lst elCon w' (fun k => w.heap.size ≤ k) v (b.ts.map Trm.con) → Below w.heap.size w w' → Post (.returned (.tuple #[.agg #[.string b.p, v], .agg #[.int .i64 0, .int .i64 0, .int .i64 0]])) w') := fun b r v w' hr h3 h4 => by
    rw [hPost]; unfold ReadFact; rw [hres, hr]; exact ⟨v, rfl, h3, h4⟩
  have HR := hide hres
  clear hPost hres
  go_enter_defers Tryz.func30, Tryz.ntmps30
  go_wp2_with (go_at_call 49; refine (HSc.out _ (below2a _ _ _)).mono ?_; rintro e w1 ⟨v, rfl, ho1, hb1⟩; obtain ⟨ao, cap, rfl⟩ := own_shape ho1; have HO1 := hide ho1; have HB1 := hide hb1; clear ho1 hb1)
  have hs1 : w.heap.size + 2 ≤ w1.heap.size := by have := HB1.out.size; simp at this; omega
  have HA := hide (scan_ahead HB1.out HO1.out (W2 := (w1.alloc (.cells #[.int .i64 (scanX s).2.1, .int .i64 0, .int .i64 ((scanX s).2.2 : Int)] 31)).alloc (.cells #[.slice ao (scanX s).1.length cap, .int .i64 (scanX s).2.1, .int .i64 0, .int .i64 ((scanX s).2.2 : Int), .int .i64 0] 113)) (below2a w1 _ _) rfl (p := w1.heap.size + 1) (by omega) (by have := heap_alloc_new (w1.alloc (.cells #[.int .i64 (scanX s).2.1, .int .i64 0, .int .i64 ((scanX s).2.2 : Int)] 31)) (.cells #[.slice ao (scanX s).1.length cap, .int .i64 (scanX s).2.1, .int .i64 0, .int .i64 ((scanX s).2.2 : Int), .int .i64 0] 113); simpa using this))
  have HP := fact_any HA.out
  rw [HR.out] at HP
  have HK : Hid (∀ w2, Only (fun k => k = w1.heap.size + 1) ((w1.alloc (.cells #[.int .i64 (scanX s).2.1, .int .i64 0, .int .i64 ((scanX s).2.2 : Int)] 31)).alloc (.cells #[.slice ao (scanX s).1.length cap, .int .i64 (scanX s).2.1, .int .i64 0, .int .i64 ((scanX s).2.2 : Int), .int .i64 0] 113)) w2 → w2.heap[w.heap.size]? = some (.cells #[.string ⟨#[]⟩, .slice none 0 0] 28 (0, 0)) ∧ w2.heap[w.heap.size + 1]? = some (.cells #[.int .i64 0, .int .i64 0, .int .i64 0] 31 (0, 0)) ∧ Only (fun k => w.heap.size ≤ k) w w2) := fun w2 ho => by
    have q : ∀ k, k < w.heap.size + 2 → w2.heap[k]? = ((w.alloc (.cells #[.string ⟨#[]⟩, .slice none 0 0] 28)).alloc (.cells #[.int .i64 0, .int .i64 0, .int .i64 0] 31)).heap[k]? := fun k hk => by
      rw [ho.block k (by simp; omega) (by omega), (below2a w1 _ _).block k (by omega), HB1.out.block k (by simp; omega)]
    refine ⟨?_, ?_, ((Only.of_below (below2a w _ _) _).trans (Only.of_below HB1.out _)).trans ((Only.of_below (below2a w1 _ _) _).trans (ho.mono fun k _ (e : k = w1.heap.size + 1) => by omega))⟩
    · rw [q _ (by omega), (belowA (w.alloc _) _).block _ (by simp)]; exact heap_alloc_new w _
    · rw [q _ (by omega)]
      have := heap_alloc_new (w.alloc (.cells #[.string ⟨#[]⟩, .slice none 0 0] 28)) (.cells #[.int .i64 0, .int .i64 0, .int .i64 0] 31)
      simpa using this
  clear HO1 HB1 HSc HR
  cases res with
  | bad ec eo =>
    refine HP.mono ?_
    intro e w2 hq
    obtain ⟨rfl, ho2⟩ := factPost_bad hq
    obtain ⟨k0, k1, k2⟩ := HK.out w2 ho2
    clear hq HP HA
    refine leaves_cons (f := 48) (args := #[.pointer (some ⟨w.heap.size + 1, 0, none⟩)]) (by simp) (by simp [go_sem]) ?_
    refine (caughtFact (w.heap.size + 1) ec eo [] w2 k1).mono ?_
    rintro e u' w3 ⟨rfl, rfl, h3, o3⟩
    have h0 : w3.heap[w.heap.size]? = some (.cells #[.string ⟨#[]⟩, .slice none 0 0] 28 (0, 0)) := by rw [o3.block _ (Array.getElem?_eq_some_iff.1 k0).1 (by omega)]; exact k0
    have c0 : w3.cell? ⟨w.heap.size, 0, none⟩ = some (.string ⟨#[]⟩) := by simp [World.cell?, h0]
    have c1 : w3.cell? ⟨w.heap.size, 1, none⟩ = some (.slice none 0 0) := by simp [World.cell?, h0]
    obtain ⟨⟨d0, d1, d2⟩, -⟩ := fault_cells h3
    have HF := hide (PB.out ec eo w3 rfl ((k2.trans (o3.mono fun k _ (e : k = w.heap.size + 1) => by omega)).below (Nat.le_refl _) (fun k hk e => by omega)))
    clear o3 h3 h0 k0 k1 k2
    simp [Leaves, settle, results, Tryz.results30, go_sem, c0, c1, d0, d1, d2]
    exact HF.out
  | ok b r =>
    refine HP.mono ?_
    intro e w2 hq
    obtain ⟨v, rfl, hgr, ha2, ho2⟩ := factPost_ok hq
    obtain ⟨va, vc, rfl, -⟩ := hgr.shape
    obtain ⟨k0, k1, k2⟩ := HK.out w2 ho2
    have HG := hide hgr
    have HK2 := hide k2
    clear hq HP HA hgr ha2 ho2
    have c0 : w2.cell? ⟨w.heap.size, 0, none⟩ = some (.string ⟨#[]⟩) := by simp [World.cell?, k0]
    have c1 : w2.cell? ⟨w.heap.size, 1, none⟩ = some (.slice none 0 0) := by simp [World.cell?, k0]
    have z0 : w2.frozen? ⟨w.heap.size, 0, none⟩ = false := by simp [World.frozen?, k0]
    have z1 : w2.frozen? ⟨w.heap.size, 1, none⟩ = false := by simp [World.frozen?, k0]
    obtain ⟨⟨d0, d1, d2⟩, ⟨y0, y1, y2⟩⟩ := fault_cells k1
    obtain ⟨m, hm⟩ : ∃ m, m = (b.ts.map Trm.con).length := ⟨_, rfl⟩
    have HM := hide hm
    rw [← hm]
    clear hm
    go_wp2_with fail
    have hO : Only (fun k => k = w.heap.size ∨ k = w.heap.size + 1) w2 (((((w2.setCell ⟨w.heap.size, 0, none⟩ (.string b.p)).setCell ⟨w.heap.size, 1, none⟩ (.slice va m vc)).setCell ⟨w.heap.size + 1, 0, none⟩ (.int .i64 0)).setCell ⟨w.heap.size + 1, 1, none⟩ (.int .i64 0)).setCell ⟨w.heap.size + 1, 2, none⟩ (.int .i64 0)) := (((((Only.refl (fun k => k = w.heap.size ∨ k = w.heap.size + 1) w2).setCell (p := ⟨w.heap.size, 0, none⟩) (.inl rfl) _).setCell (p := ⟨w.heap.size, 1, none⟩) (.inl rfl) _).setCell (p := ⟨w.heap.size + 1, 0, none⟩) (.inr rfl) _).setCell (p := ⟨w.heap.size + 1, 1, none⟩) (.inr rfl) _).setCell (p := ⟨w.heap.size + 1, 2, none⟩) (.inr rfl) _
    have hV0 : (((((w2.setCell ⟨w.heap.size, 0, none⟩ (.string b.p)).setCell ⟨w.heap.size, 1, none⟩ (.slice va m vc)).setCell ⟨w.heap.size + 1, 0, none⟩ (.int .i64 0)).setCell ⟨w.heap.size + 1, 1, none⟩ (.int .i64 0)).setCell ⟨w.heap.size + 1, 2, none⟩ (.int .i64 0)).heap[w.heap.size]? = some (.cells #[.string b.p, .slice va m vc] 28 (0, 0)) := by simp [World.setCell, Array.getElem?_modify, k0]
    have hV1 : (((((w2.setCell ⟨w.heap.size, 0, none⟩ (.string b.p)).setCell ⟨w.heap.size, 1, none⟩ (.slice va m vc)).setCell ⟨w.heap.size + 1, 0, none⟩ (.int .i64 0)).setCell ⟨w.heap.size + 1, 1, none⟩ (.int .i64 0)).setCell ⟨w.heap.size + 1, 2, none⟩ (.int .i64 0)).heap[w.heap.size + 1]? = some (.cells #[.int .i64 0, .int .i64 0, .int .i64 0] 31 (0, 0)) := by simp [World.setCell, Array.getElem?_modify, k1]
    generalize ((((w2.setCell ⟨w.heap.size, 0, none⟩ (.string b.p)).setCell ⟨w.heap.size, 1, none⟩ (.slice va m vc)).setCell ⟨w.heap.size + 1, 0, none⟩ (.int .i64 0)).setCell ⟨w.heap.size + 1, 1, none⟩ (.int .i64 0)).setCell ⟨w.heap.size + 1, 2, none⟩ (.int .i64 0) = V at hO hV0 hV1 ⊢
    clear c0 c1 z0 z1 d0 d1 d2 y0 y1 y2 k0 k1
    refine leaves_cons (f := 48) (args := #[.pointer (some ⟨w.heap.size + 1, 0, none⟩)]) (by simp) (by simp [go_sem]) ?_
    refine (idleFact ⟨w.heap.size + 1, 0, none⟩ V).mono ?_
    rintro e u' w3 ⟨rfl, rfl, hw⟩
    have hw := hw.symm
    subst hw
    have c0 : V.cell? ⟨w.heap.size, 0, none⟩ = some (.string b.p) := by simp [World.cell?, hV0]
    have c1 : V.cell? ⟨w.heap.size, 1, none⟩ = some (.slice va m vc) := by simp [World.cell?, hV0]
    obtain ⟨⟨d0, d1, d2⟩, -⟩ := fault_cells hV1
    have HF := hide (PG.out b r (.slice va m vc) V rfl (by rw [HM.out]; exact HG.out.move fun k hk hF => ⟨by simp at hF; omega, hO.block k hk (by simp at hF; omega)⟩) ((HK2.out.trans (hO.mono fun k _ (e : k = w.heap.size ∨ k = w.heap.size + 1) => by omega)).below (Nat.le_refl _) (fun k hk e => by omega)))
    clear hO hV0 hV1
    simp [Leaves, settle, results, Tryz.results30, go_sem, c0, c1, d0, d1, d2]
    exact HF.out
end Go.Proofs.YtchhophblejmeaaGreatDoor

namespace Go.Proofs.YtchhophblejmeaaGreatDoor
set_option linter.unusedSimpArgs false
set_option linter.unusedVariables false
open Go.RowKit

theorem factCell {V : World} {b : Nat} {u0 u1 : Value} (h : V.heap[b]? = some (.cells #[u0, u1] 28 (0, 0))) : V.cell? ⟨b, 0, none⟩ = some u0 ∧ V.cell? ⟨b, 1, none⟩ = some u1 ∧ V.frozen? ⟨b, 0, none⟩ = false ∧ V.frozen? ⟨b, 1, none⟩ = false := by
  refine ⟨?_, ?_, ?_, ?_⟩ <;> simp [World.cell?, World.frozen?, h]
theorem readFact_bad {w w' : World} {s : ByteArray} {e : Ending} {ec eo : Int} (h : ReadFact w s e w') (hr : factP (scanX s).2.1 ((scanX s).2.2 : Int) (scanX s).1 = .bad ec eo) : e = .returned (.tuple #[.agg #[.string ⟨#[]⟩, .slice none 0 0], faultV ec eo]) ∧ Below w.heap.size w w' := by
  unfold ReadFact at h
  rw [hr] at h
  exact h
theorem readFact_ok {w w' : World} {s : ByteArray} {e : Ending} {b : PAtom} {r : List Tok} (h : ReadFact w s e w') (hr : factP (scanX s).2.1 ((scanX s).2.2 : Int) (scanX s).1 = .ok b r) : ∃ v, e = .returned (.tuple #[.agg #[.string b.p, v], faultV 0 0]) ∧ Lst elCon w' (fun k => w.heap.size ≤ k) v (b.ts.map Trm.con) ∧ Below w.heap.size w w' := by
  unfold ReadFact at h
  rw [hr] at h
  exact h
theorem readFact_mkb {w w' : World} {s : ByteArray} {ec eo : Int} (hr : factP (scanX s).2.1 ((scanX s).2.2 : Int) (scanX s).1 = .bad ec eo) (hb : Below w.heap.size w w') : ReadFact w s (.returned (.tuple #[.agg #[.string ⟨#[]⟩, .slice none 0 0], faultV ec eo])) w' := by
  unfold ReadFact
  rw [hr]
  exact ⟨rfl, hb⟩
theorem readFact_mko {w w' : World} {s : ByteArray} {b : PAtom} {r : List Tok} (hr : factP (scanX s).2.1 ((scanX s).2.2 : Int) (scanX s).1 = .ok b r) {v : Value} (h3 : Lst elCon w' (fun k => w.heap.size ≤ k) v (b.ts.map Trm.con)) (hb : Below w.heap.size w w') : ReadFact w s (.returned (.tuple #[.agg #[.string b.p, v], faultV 0 0])) w' := by
  unfold ReadFact
  rw [hr]
  exact ⟨v, rfl, h3, hb⟩

set_option maxRecDepth 100000 in
set_option maxHeartbeats 2000000 in
theorem parseFact_any (s : ByteArray) (w : World) (hl : LexLaid w) (hs : s.size ≤ 140737488351232) :
    Calls Tryz.prog 10 #[.string s] w (ReadFact w s) := by
  have HC := hide (fun (W : World) (hb : Below w.heap.size w W) => readFact_any s W (hl.kept hb) hs)
  clear hl hs
  obtain ⟨Post, hPost⟩ : ∃ Post : Ending → World → Prop, Post = ReadFact w s := ⟨_, rfl⟩
  rw [← hPost]
  have HK : Hid (∀ w2, Below ((w.alloc (.cells #[.string ⟨#[]⟩, .slice none 0 0] 28)).alloc (.cells #[.int .i64 0, .int .i64 0, .int .i64 0] 31)).heap.size ((w.alloc (.cells #[.string ⟨#[]⟩, .slice none 0 0] 28)).alloc (.cells #[.int .i64 0, .int .i64 0, .int .i64 0] 31)) w2 → w2.heap[w.heap.size]? = some (.cells #[.string ⟨#[]⟩, .slice none 0 0] 28 (0, 0)) ∧ w2.heap[w.heap.size + 1]? = some (.cells #[.int .i64 0, .int .i64 0, .int .i64 0] 31 (0, 0)) ∧ Below w.heap.size w w2) := fun w2 hb => by
    refine ⟨?_, ?_, belowt2 (below2a w _ _) hb⟩
    · rw [hb.block _ (by simp; omega), (belowA (w.alloc _) _).block _ (by simp)]; exact heap_alloc_new w _
    · rw [hb.block _ (by simp)]
      have := heap_alloc_new (w.alloc (.cells #[.string ⟨#[]⟩, .slice none 0 0] 28)) (.cells #[.int .i64 0, .int .i64 0, .int .i64 0] 31)
      simpa using this
  cases hr : factP (scanX s).2.1 ((scanX s).2.2 : Int) (scanX s).1 with
  | bad ec eo =>
    have PB : Hid (∀ w', Below w.heap.size w w' → Post (.returned (.tuple #[.agg #[.string ⟨#[]⟩, .slice none 0 0], .agg #[.int .i64 ec, .int .i64 0, .int .i64 eo]])) w') := fun w' hb => by rw [hPost]; exact readFact_mkb hr hb
    have HRr := hide hr
    clear hr hPost
    go_enter Tryz.func10, Tryz.ntmps10
    go_wp2_with (go_at_call 30; refine (HC.out _ (below2a _ _ _)).mono ?_; intro e w2 hq; obtain ⟨rfl, hb2⟩ := readFact_bad hq HRr.out; clear hq; obtain ⟨k0, k1, k2⟩ := HK.out w2 hb2; have HK2 := hide k2; clear hb2 k2; obtain ⟨c0, c1, z0, z1⟩ := factCell k0; obtain ⟨⟨d0, d1, d2⟩, ⟨y0, y1, y2⟩⟩ := fault_cells k1; unfold faultV)
    have hV0 : (((((w2.setCell ⟨w.heap.size, 0, none⟩ (.string ⟨#[]⟩)).setCell ⟨w.heap.size, 1, none⟩ (.slice none 0 0)).setCell ⟨w.heap.size + 1, 0, none⟩ (.int .i64 ec)).setCell ⟨w.heap.size + 1, 1, none⟩ (.int .i64 0)).setCell ⟨w.heap.size + 1, 2, none⟩ (.int .i64 eo)).heap[w.heap.size]? = some (.cells #[.string ⟨#[]⟩, .slice none 0 0] 28 (0, 0)) := by simp [World.setCell, Array.getElem?_modify, k0]
    have hV1 : (((((w2.setCell ⟨w.heap.size, 0, none⟩ (.string ⟨#[]⟩)).setCell ⟨w.heap.size, 1, none⟩ (.slice none 0 0)).setCell ⟨w.heap.size + 1, 0, none⟩ (.int .i64 ec)).setCell ⟨w.heap.size + 1, 1, none⟩ (.int .i64 0)).setCell ⟨w.heap.size + 1, 2, none⟩ (.int .i64 eo)).heap[w.heap.size + 1]? = some (.cells #[.int .i64 ec, .int .i64 0, .int .i64 eo] 31 (0, 0)) := by simp [World.setCell, Array.getElem?_modify, k1]
    have hO : Below w.heap.size w (((((w2.setCell ⟨w.heap.size, 0, none⟩ (.string ⟨#[]⟩)).setCell ⟨w.heap.size, 1, none⟩ (.slice none 0 0)).setCell ⟨w.heap.size + 1, 0, none⟩ (.int .i64 ec)).setCell ⟨w.heap.size + 1, 1, none⟩ (.int .i64 0)).setCell ⟨w.heap.size + 1, 2, none⟩ (.int .i64 eo)) := ((((((Only.of_below HK2.out (fun k => w.heap.size ≤ k)).setCell (p := ⟨w.heap.size, 0, none⟩) (Nat.le_refl _) _).setCell (p := ⟨w.heap.size, 1, none⟩) (Nat.le_refl _) _).setCell (p := ⟨w.heap.size + 1, 0, none⟩) (Nat.le_succ _) _).setCell (p := ⟨w.heap.size + 1, 1, none⟩) (Nat.le_succ _) _).setCell (p := ⟨w.heap.size + 1, 2, none⟩) (Nat.le_succ _) _).below (Nat.le_refl _) (fun k hk e => by omega)
    generalize ((((w2.setCell ⟨w.heap.size, 0, none⟩ (.string ⟨#[]⟩)).setCell ⟨w.heap.size, 1, none⟩ (.slice none 0 0)).setCell ⟨w.heap.size + 1, 0, none⟩ (.int .i64 ec)).setCell ⟨w.heap.size + 1, 1, none⟩ (.int .i64 0)).setCell ⟨w.heap.size + 1, 2, none⟩ (.int .i64 eo) = V at hV0 hV1 hO ⊢
    obtain ⟨f0, f4, -⟩ := factCell hV0
    obtain ⟨⟨f1, f2, f3⟩, -⟩ := fault_cells hV1
    exact bodyPost_ret (v := .tuple #[.agg #[.string ⟨#[]⟩, .slice none 0 0], .agg #[.int .i64 ec, .int .i64 0, .int .i64 eo]]) (by simp [results, Tryz.results10, go_sem, f0, f4, f1, f2, f3]) rfl (PB.out _ hO)
  | ok b r =>
    have PG : Hid (∀ w' v, Lst elCon w' (fun k => w.heap.size ≤ k) v (b.ts.map Trm.con) → Below w.heap.size w w' → Post (.returned (.tuple #[.agg #[.string b.p, v], .agg #[.int .i64 0, .int .i64 0, .int .i64 0]])) w') := fun w' v h3 h4 => by rw [hPost]; exact readFact_mko hr h3 h4
    obtain ⟨m, hm⟩ : ∃ m, m = (b.ts.map Trm.con).length := ⟨_, rfl⟩
    have HM := hide hm
    clear hm
    have HRr := hide hr
    clear hr hPost
    go_enter Tryz.func10, Tryz.ntmps10
    go_wp2_with (go_at_call 30; refine (HC.out _ (below2a _ _ _)).mono ?_; intro e w2 hq; obtain ⟨v, rfl, hls, hb2⟩ := readFact_ok hq HRr.out; clear hq; obtain ⟨va, vc, rfl, -⟩ := hls.shape; rw [← HM.out] at hls ⊢; obtain ⟨k0, k1, k2⟩ := HK.out w2 hb2; have HK2 := hide k2; have HLs := hide hls; clear hb2 k2 hls; obtain ⟨c0, c1, z0, z1⟩ := factCell k0; obtain ⟨⟨d0, d1, d2⟩, ⟨y0, y1, y2⟩⟩ := fault_cells k1; unfold faultV)
    have hV0 : (((((w2.setCell ⟨w.heap.size, 0, none⟩ (.string b.p)).setCell ⟨w.heap.size, 1, none⟩ (.slice va m vc)).setCell ⟨w.heap.size + 1, 0, none⟩ (.int .i64 0)).setCell ⟨w.heap.size + 1, 1, none⟩ (.int .i64 0)).setCell ⟨w.heap.size + 1, 2, none⟩ (.int .i64 0)).heap[w.heap.size]? = some (.cells #[.string b.p, .slice va m vc] 28 (0, 0)) := by simp [World.setCell, Array.getElem?_modify, k0]
    have hV1 : (((((w2.setCell ⟨w.heap.size, 0, none⟩ (.string b.p)).setCell ⟨w.heap.size, 1, none⟩ (.slice va m vc)).setCell ⟨w.heap.size + 1, 0, none⟩ (.int .i64 0)).setCell ⟨w.heap.size + 1, 1, none⟩ (.int .i64 0)).setCell ⟨w.heap.size + 1, 2, none⟩ (.int .i64 0)).heap[w.heap.size + 1]? = some (.cells #[.int .i64 0, .int .i64 0, .int .i64 0] 31 (0, 0)) := by simp [World.setCell, Array.getElem?_modify, k1]
    have hB : Below w.heap.size w (((((w2.setCell ⟨w.heap.size, 0, none⟩ (.string b.p)).setCell ⟨w.heap.size, 1, none⟩ (.slice va m vc)).setCell ⟨w.heap.size + 1, 0, none⟩ (.int .i64 0)).setCell ⟨w.heap.size + 1, 1, none⟩ (.int .i64 0)).setCell ⟨w.heap.size + 1, 2, none⟩ (.int .i64 0)) := ((((((Only.of_below HK2.out (fun k => w.heap.size ≤ k)).setCell (p := ⟨w.heap.size, 0, none⟩) (Nat.le_refl _) _).setCell (p := ⟨w.heap.size, 1, none⟩) (Nat.le_refl _) _).setCell (p := ⟨w.heap.size + 1, 0, none⟩) (Nat.le_succ _) _).setCell (p := ⟨w.heap.size + 1, 1, none⟩) (Nat.le_succ _) _).setCell (p := ⟨w.heap.size + 1, 2, none⟩) (Nat.le_succ _) _).below (Nat.le_refl _) (fun k hk e => by omega)
    have hO : Only (fun k => k = w.heap.size ∨ k = w.heap.size + 1) w2 (((((w2.setCell ⟨w.heap.size, 0, none⟩ (.string b.p)).setCell ⟨w.heap.size, 1, none⟩ (.slice va m vc)).setCell ⟨w.heap.size + 1, 0, none⟩ (.int .i64 0)).setCell ⟨w.heap.size + 1, 1, none⟩ (.int .i64 0)).setCell ⟨w.heap.size + 1, 2, none⟩ (.int .i64 0)) := (((((Only.refl (fun k => k = w.heap.size ∨ k = w.heap.size + 1) w2).setCell (p := ⟨w.heap.size, 0, none⟩) (.inl rfl) _).setCell (p := ⟨w.heap.size, 1, none⟩) (.inl rfl) _).setCell (p := ⟨w.heap.size + 1, 0, none⟩) (.inr rfl) _).setCell (p := ⟨w.heap.size + 1, 1, none⟩) (.inr rfl) _).setCell (p := ⟨w.heap.size + 1, 2, none⟩) (.inr rfl) _
    generalize ((((w2.setCell ⟨w.heap.size, 0, none⟩ (.string b.p)).setCell ⟨w.heap.size, 1, none⟩ (.slice va m vc)).setCell ⟨w.heap.size + 1, 0, none⟩ (.int .i64 0)).setCell ⟨w.heap.size + 1, 1, none⟩ (.int .i64 0)).setCell ⟨w.heap.size + 1, 2, none⟩ (.int .i64 0) = V at hV0 hV1 hO hB ⊢
    obtain ⟨f0, f4, -⟩ := factCell hV0
    obtain ⟨⟨f1, f2, f3⟩, -⟩ := fault_cells hV1
    exact bodyPost_ret (v := .tuple #[.agg #[.string b.p, .slice va m vc], .agg #[.int .i64 0, .int .i64 0, .int .i64 0]]) (by simp [results, Tryz.results10, go_sem, f0, f4, f1, f2, f3]) rfl (PG.out _ _ (HLs.out.move fun k hk hF => ⟨by simp at hF; omega, hO.block k hk (by simp at hF; omega)⟩) hB)

end Go.Proofs.YtchhophblejmeaaGreatDoor
