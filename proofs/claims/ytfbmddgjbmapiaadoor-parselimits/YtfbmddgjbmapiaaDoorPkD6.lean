/- parse's reader takes one fact. parse.read of one fact. parse.Fact. A fault of parse's grammar is that of the tokens, or bears a number of parse's own. The law's own faultOf. Two strings one behind the other. The law's own taken: the document's example is read. -/
import Derived.Test.YtfbmddgjbmapiaaDoorProg
import Derived.Test.YtfbmddgjbmapiaaDoorPkA6
import Derived.Test.YtfbmddgjbmapiaaDoorParseCatch
import Derived.Test.YtfbmddgjbmapiaaDoorParseLen
import Derived.Test.YtfbmddgjbmapiaaDoorParseGood
import Derived.Test.YtfbmddgjbmapiaaDoorOpen

namespace Go.Proofs.YtfbmddgjbmapiaaDoor
set_option linter.unusedSimpArgs false
set_option linter.unusedVariables false
open Go.RowKit

theorem Tryd.infoCon : (Tryd.prog.info? 100).map (fun i => (i.zero, i.size, i.bytes)) = some (some (.agg #[.int .i64 0, .int .i64 0, .string ⟨#[]⟩]), 3, 32) := by kernel_rfl

def FactPost (w : World) (p : Nat) (ao : Option Addr) (cap : Nat) (L : List Tok) (c f : Int) (res : PR PAtom) (e : Ending) (w' : World) : Prop :=
  match res with
  | .bad ec eo => e = PEnd ec eo ∧ Only (fun k => k = p) w w'
  | .ok a r => ∃ v, e = .returned (.agg #[.string a.p, v]) ∧ Lst elCon w' (fun b => w.heap.size ≤ b) v (a.ts.map Trm.con) ∧ Ahead w' p ao cap L c f r ∧ Only (fun k => k = p) w w'
theorem factPost_bad {w w' : World} {p : Nat} {ao : Option Addr} {cap : Nat} {L : List Tok} {c f ec eo : Int} {e : Ending} (h : FactPost w p ao cap L c f (.bad ec eo) e w') : e = PEnd ec eo ∧ Only (fun k => k = p) w w' := h
theorem factPost_ok {w w' : World} {p : Nat} {ao : Option Addr} {cap : Nat} {L : List Tok} {c f : Int} {a : PAtom} {r : List Tok} {e : Ending} (h : FactPost w p ao cap L c f (.ok a r) e w') : ∃ v, e = .returned (.agg #[.string a.p, v]) ∧ Lst elCon w' (fun b => w.heap.size ≤ b) v (a.ts.map Trm.con) ∧ Ahead w' p ao cap L c f r ∧ Only (fun k => k = p) w w' := h

/-- What the loop of a fact's constants keeps in memory. -/
structure FctAt (w wr : World) (p : Nat) (ao : Option Addr) (cap : Nat) (L : List Tok) (c f : Int) (R : List Tok) (b4 : Nat) (pr : ByteArray) (v : Value) (l : List Con) (av : Value) (ts : List Trm) : Prop where
  col : Coll3 elCon 100 w wr p ao cap L c f R (b4 + 1) v l
  b0 : wr.heap[w.heap.size]? = some (.cells #[.string ⟨#[]⟩, .slice none 0 0] 68 (0, 0))
  bx : wr.heap[b4]? = some (.cells #[.string pr, v] 68 (0, 0))
  ar : Lst elTrm wr (fun k => w.heap.size < k ∧ k < b4) av ts
  hb : w.heap.size < b4
section
variable {w wr wr' : World} {p : Nat} {ao : Option Addr} {cap : Nat} {L : List Tok} {c f : Int} {R R' : List Tok} {b4 : Nat} {pr : ByteArray} {v v' av : Value} {l l' : List Con} {ts : List Trm}
theorem FctAt.below (h : FctAt w wr p ao cap L c f R b4 pr v l av ts) (hb : Below wr.heap.size wr wr') : FctAt w wr' p ao cap L c f R b4 pr v l av ts :=
  ⟨h.col.below hb, by rw [hb.block _ (Array.getElem?_eq_some_iff.1 h.b0).1]; exact h.b0, by rw [hb.block _ (Array.getElem?_eq_some_iff.1 h.bx).1]; exact h.bx, h.ar.move fun k hk hF => ⟨hF, hb.block k hk⟩, h.hb⟩
theorem FctAt.cells (h : FctAt w wr p ao cap L c f R b4 pr v l av ts) : (wr.cell? ⟨w.heap.size, 0, none⟩ = some (.string ⟨#[]⟩) ∧ wr.cell? ⟨w.heap.size, 1, none⟩ = some (.slice none 0 0) ∧ wr.frozen? ⟨w.heap.size, 0, none⟩ = false ∧ wr.frozen? ⟨w.heap.size, 1, none⟩ = false) ∧ wr.cell? ⟨b4, 0, none⟩ = some (.string pr) ∧ wr.cell? ⟨b4, 1, none⟩ = some v ∧ wr.frozen? ⟨b4, 1, none⟩ = false := by
  refine ⟨⟨?_, ?_, ?_, ?_⟩, ?_, ?_, ?_⟩ <;> simp [World.cell?, World.frozen?, h.b0, h.bx]
theorem FctAt.far (h : FctAt w wr p ao cap L c f R b4 pr v l av ts) (hg : wr.grownBy wr' v.ownBlock) : wr'.heap[b4]? = some (.cells #[.string pr, v] 68 (0, 0)) := by
  have ho : Only (fun k => b4 + 1 ≤ k) wr wr' := (Only.refl _ wr).grown hg (fun k hk _ => own_new h.col.gr.1 k hk)
  rw [ho.block _ (Array.getElem?_eq_some_iff.1 h.bx).1 (by omega)]; exact h.bx
theorem FctAt.push (h : FctAt w wr p ao cap L c f R b4 pr v l av ts) (hg : wr.grownBy wr' v.ownBlock) (hG : Grow elCon 100 (b4 + 1) wr' v' l') : FctAt w (wr'.setCell ⟨b4, 1, none⟩ v') p ao cap L c f R b4 pr v' l' av ts := by
  have hp := h.col.pl
  have hb := h.hb
  have hc := h.col.grown hg hG
  have ho : Only (fun k => b4 + 1 ≤ k) wr wr' := (Only.refl _ wr).grown hg (fun k hk _ => own_new h.col.gr.1 k hk)
  have ho2 : Only (fun k => k = b4) wr' (wr'.setCell ⟨b4, 1, none⟩ v') := (Only.refl (fun k => k = b4) wr').setCell (p := ⟨b4, 1, none⟩) rfl _
  have hb0 : wr'.heap[w.heap.size]? = some (.cells #[.string ⟨#[]⟩, .slice none 0 0] 68 (0, 0)) := by rw [ho.block _ (Array.getElem?_eq_some_iff.1 h.b0).1 (by omega)]; exact h.b0
  refine ⟨⟨?_, hc.gr.above fun b hb hlt => ho2.block b hlt (by omega), hc.on.trans (ho2.mono fun k _ (e : k = b4) => .inr (by omega)), hp, hc.tk, hc.lo, Nat.le_trans hc.hi ho2.size⟩, ?_, ?_, ?_, hb⟩
  · obtain ⟨i, q1, q2⟩ := hc.ah
    exact ⟨i, q1.only ho2 (by omega) (fun g hg hl => by have := hc.tk g hg hl; omega), q2⟩
  · rw [ho2.block _ (Array.getElem?_eq_some_iff.1 hb0).1 (by omega)]; exact hb0
  · have := h.far hg
    simp [World.setCell, Array.getElem?_modify, this]
  · exact h.ar.move fun k hk hF => ⟨hF, by rw [ho2.block k (Nat.lt_of_lt_of_le hk ho.size) (by omega), ho.block k hk (by omega)]⟩
end
theorem fctRes (W : World) (b : Nat) (u0 u1 : Value) (tmps : Array Value) (ht : tmps[2]? = some (.pointer (some ⟨b, 0, none⟩))) (hb : W.heap[b]? = some (.cells #[u0, u1] 68 (0, 0))) :
    (results Tryd.f34 tmps).run Tryd.prog W = .ok (.agg #[u0, u1]) W := by
  have c0 : W.cell? ⟨b, 0, none⟩ = some u0 := by simp [World.cell?, hb]
  have c1 : W.cell? ⟨b, 1, none⟩ = some u1 := by simp [World.cell?, hb]
  simp [results, Tryd.results34, go_sem, ht, c0, c1]
theorem atom3_cells {V : World} {b : Nat} {u0 u1 u2 : Value} (h : V.heap[b]? = some (.cells #[u0, u1, u2] 32 (0, 0))) : V.cell? ⟨b, 0, none⟩ = some u0 ∧ V.cell? ⟨b, 1, none⟩ = some u1 := by
  refine ⟨?_, ?_⟩ <;> simp [World.cell?, h]

theorem box_kept0 {W W' : World} {b : Nat} {x : Obj} (h : W.heap[b]? = some x) (hb : Below W.heap.size W W') : W'.heap[b]? = some x := by
  rw [hb.block _ (Array.getElem?_eq_some_iff.1 h).1]; exact h
theorem box_moved0 {W W' : World} {p b : Nat} {x : Obj} (h : W.heap[b]? = some x) (hp : p ≠ b) (ho : Only (fun k => k = p) W W') : W'.heap[b]? = some x := by
  rw [ho.block _ (Array.getElem?_eq_some_iff.1 h).1 (by omega)]; exact h
set_option maxHeartbeats 4000000 in
set_option maxRecDepth 100000 in
theorem fact_any {w : World} {p : Nat} {ao : Option Addr} {cap : Nat} {L : List Tok} {c f : Int} {R : List Tok} (h : Ahead w p ao cap L c f R) :
    Calls Tryd.prog 34 #[.pointer (some ⟨p, 0, none⟩)] w (FactPost w p ao cap L c f (factP c f R)) := by
  have H0 := hide h
  have hp := h.lt
  have HB0 := hide (belowA w (.cells #[.string ⟨#[]⟩, .slice none 0 0] 68))
  have HA0 := hide (h.kept (belowA w (.cells #[.string ⟨#[]⟩, .slice none 0 0] 68)))
  clear h
  cases hT : takeP c f [1] R with
  | bad ec eo =>
    have HT : Hid (∀ (W : World) (g : Nat), W.heap.size = g → Ahead W p ao cap L c f R → Calls Tryd.prog 26 #[.pointer (some ⟨p, 0, none⟩), .slice (some ⟨g, 0, none⟩) 1 1] (W.alloc (.cells #[.int .i64 1] 3)) fun e w' => e = PEnd ec eo ∧ Below W.heap.size W w') := fun W g hg ha => hg ▸ take_lit_fail [1] ha (by decide) hT
    rw [show factP c f R = .bad ec eo from by unfold factP; rw [hT]]
    clear hT
    unfold FactPost
    go_enter Tryd.func34, Tryd.ntmps34
    go_wp2_with (go_at_call 26; refine (HT.out _ _ (by simp) HA0.out).mono ?_; rintro e w1 ⟨rfl, hb1⟩)
    exact ⟨rfl, rfl, Only.of_below (belowt2 HB0.out hb1) _⟩
  | ok t r1 =>
    have HT : Hid (∀ (W : World) (g : Nat), W.heap.size = g → Ahead W p ao cap L c f R → Calls Tryd.prog 26 #[.pointer (some ⟨p, 0, none⟩), .slice (some ⟨g, 0, none⟩) 1 1] (W.alloc (.cells #[.int .i64 1] 3)) fun e w' => e = .returned (tokV t) ∧ Ahead w' p ao cap L c f r1 ∧ Only (fun b => b = p) W w') := fun W g hg ha => hg ▸ take_lit_good [1] ha (by decide) hT
    have htg : t.good := H0.out.good t (by rw [(take_eq hT).1]; exact List.mem_cons_self)
    have HG0 := fun (W : World) (ha : Ahead W p ao cap L c f r1) => ground_any t ha htg
    cases hA : atomP c f valueKs t r1 with
    | bad ec eo =>
      rw [hA] at HG0
      have HGd := hide HG0
      rw [show factP c f R = .bad ec eo from by unfold factP; rw [hT]; simp only; rw [hA]]
      clear hT hA HG0
      unfold FactPost
      go_enter Tryd.func34, Tryd.ntmps34
      go_wp2_with (first
        | (go_at_call 26; refine (HT.out _ _ (by simp) HA0.out).mono ?_; rintro e w1 ⟨rfl, ha1, ho1⟩; have HA1 := hide ha1; have HO1 := hide (only_wide HB0.out ho1); have Hs1 := hide ho1.size; have HZ1 := hide (box_moved0 (heap_alloc_new w (.cells #[.string ⟨#[]⟩, .slice none 0 0] 68)) (by omega) ho1); clear ha1 ho1 HT)
        | (go_at_call 30; refine (HGd.out _ HA1.out).mono ?_; intro e w2 hq; obtain ⟨rfl, ho2⟩ := atmPost_bad hq; clear hq))
      exact ⟨rfl, rfl, only_drop (HO1.out.trans (ho2.mono fun k _ e => .inl e))⟩
    | ok a r2 =>
      rw [hA] at HG0
      have HGd := hide HG0
      clear HG0
      cases hD : takeP c f [0] r2 with
      | bad ec eo =>
        have HU : Hid (∀ (W : World) (g : Nat), W.heap.size = g → Ahead W p ao cap L c f r2 → Calls Tryd.prog 26 #[.pointer (some ⟨p, 0, none⟩), .slice (some ⟨g, 0, none⟩) 1 1] (W.alloc (.cells #[.int .i64 0] 3)) fun e w' => e = PEnd ec eo ∧ Below W.heap.size W w') := fun W g hg ha => hg ▸ take_lit_fail [0] ha (by decide) hD
        rw [show factP c f R = .bad ec eo from by unfold factP; rw [hT]; simp only; rw [hA]; simp only; rw [hD]]
        clear hT hA hD
        unfold FactPost
        go_enter Tryd.func34, Tryd.ntmps34
        go_wp2_with (first
          | (go_at_call 26; refine (HT.out _ _ (by simp) HA0.out).mono ?_; rintro e w1 ⟨rfl, ha1, ho1⟩; have HA1 := hide ha1; have HO1 := hide (only_wide HB0.out ho1); have Hs1 := hide ho1.size; have HZ1 := hide (box_moved0 (heap_alloc_new w (.cells #[.string ⟨#[]⟩, .slice none 0 0] 68)) (by omega) ho1); clear ha1 ho1 HT)
          | (go_at_call 30; refine (HGd.out _ HA1.out).mono ?_; intro e w2 hq; obtain ⟨⟨ap, av, aoff, ats⟩, rfl, hpur, hok, ha2, ho2⟩ := atmPost_ok hq; clear hq; obtain ⟨xa, xc, rfl, -⟩ := (show Lst elTrm _ _ av ats from hok.2.2).shape; have HA2 := hide (ha2.kept (belowA w2 (.cells #[.string ap, .slice xa ats.length xc, .int .i64 aoff] 32))); have HO2 := hide ((HO1.out.trans (ho2.mono fun k _ e => .inl e)).alloc (.cells #[.string ap, .slice xa ats.length xc, .int .i64 aoff] 32)); have HZ2 := hide (box_kept0 (box_moved0 HZ1.out (by omega) ho2) (belowA w2 (.cells #[.string ap, .slice xa ats.length xc, .int .i64 aoff] 32))); have HX2 := hide (heap_alloc_new w2 (.cells #[.string ap, .slice xa ats.length xc, .int .i64 aoff] 32)); have HAr2 := hide ((show Lst elTrm w2 (fun b => w1.heap.size ≤ b) (.slice xa ats.length xc) ats from hok.2.2).move fun k hk hF => (⟨⟨by have := Hs1.out; simp at this; omega, hk⟩, (belowA w2 (.cells #[.string ap, .slice xa ats.length xc, .int .i64 aoff] 32)).block k hk⟩ : (w.heap.size < k ∧ k < w2.heap.size) ∧ _)); have Hs2 := hide (Nat.le_trans Hs1.out ho2.size); have HPu := hide hpur; clear hpur hok ha2 ho2 HGd; unfold Atx.val)
          | (go_at_call 26; refine (HU.out _ _ (by simp) HA2.out).mono ?_; rintro e w3 ⟨rfl, hb3⟩))
        exact ⟨rfl, rfl, only_drop (HO2.out.trans (Only.of_below hb3 _))⟩
      | ok s r3 =>
        have HU : Hid (∀ (W : World) (g : Nat), W.heap.size = g → Ahead W p ao cap L c f r2 → Calls Tryd.prog 26 #[.pointer (some ⟨p, 0, none⟩), .slice (some ⟨g, 0, none⟩) 1 1] (W.alloc (.cells #[.int .i64 0] 3)) fun e w' => e = .returned (tokV s) ∧ Ahead w' p ao cap L c f r3 ∧ Only (fun b => b = p) W w') := fun W g hg ha => hg ▸ take_lit_good [0] ha (by decide) hD
        rw [show factP c f R = .ok a r3 from by unfold factP; rw [hT]; simp only; rw [hA]; simp only; rw [hD]]
        clear hT hA hD
        obtain ⟨Post, hPost⟩ : ∃ Post : Ending → World → Prop, Post = FactPost w p ao cap L c f (.ok a r3) := ⟨_, rfl⟩
        rw [← hPost]
        have PG : Hid (∀ v w', Lst elCon w' (fun b => w.heap.size ≤ b) v (a.ts.map Trm.con) → Ahead w' p ao cap L c f r3 → Only (fun k => k = p) w w' → Post (.returned (.agg #[.string a.p, v])) w') := fun v w' h1 h2 h3 => by
          rw [hPost]; exact ⟨v, rfl, h1, h2, h3⟩
        clear hPost
        go_enter Tryd.func34, Tryd.ntmps34
        go_wp2_with (first
          | (go_at_call 26; refine (HT.out _ _ (by simp) HA0.out).mono ?_; rintro e w1 ⟨rfl, ha1, ho1⟩; have HA1 := hide ha1; have HO1 := hide (only_wide HB0.out ho1); have Hs1 := hide ho1.size; have HZ1 := hide (box_moved0 (heap_alloc_new w (.cells #[.string ⟨#[]⟩, .slice none 0 0] 68)) (by omega) ho1); clear ha1 ho1 HT)
          | (go_at_call 30; refine (HGd.out _ HA1.out).mono ?_; intro e w2 hq; obtain ⟨⟨ap, av, aoff, ats⟩, rfl, hpur, hok, ha2, ho2⟩ := atmPost_ok hq; clear hq; obtain ⟨xa, xc, rfl, -⟩ := (show Lst elTrm _ _ av ats from hok.2.2).shape; have HA2 := hide (ha2.kept (belowA w2 (.cells #[.string ap, .slice xa ats.length xc, .int .i64 aoff] 32))); have HO2 := hide ((HO1.out.trans (ho2.mono fun k _ e => .inl e)).alloc (.cells #[.string ap, .slice xa ats.length xc, .int .i64 aoff] 32)); have HZ2 := hide (box_kept0 (box_moved0 HZ1.out (by omega) ho2) (belowA w2 (.cells #[.string ap, .slice xa ats.length xc, .int .i64 aoff] 32))); have HX2 := hide (heap_alloc_new w2 (.cells #[.string ap, .slice xa ats.length xc, .int .i64 aoff] 32)); have HAr2 := hide ((show Lst elTrm w2 (fun b => w1.heap.size ≤ b) (.slice xa ats.length xc) ats from hok.2.2).move fun k hk hF => (⟨⟨by have := Hs1.out; simp at this; omega, hk⟩, (belowA w2 (.cells #[.string ap, .slice xa ats.length xc, .int .i64 aoff] 32)).block k hk⟩ : (w.heap.size < k ∧ k < w2.heap.size) ∧ _)); have Hs2 := hide (Nat.le_trans Hs1.out ho2.size); have HPu := hide hpur; clear hpur hok ha2 ho2 HGd; unfold Atx.val)
          | (go_at_call 26; refine (HU.out _ _ (by simp) HA2.out).mono ?_; rintro e w3 ⟨rfl, ha3, ho3⟩; have HA3 := hide ha3; have HO3 := hide (HO2.out.trans (ho3.mono fun k _ e => .inl e)); have HZ3 := hide (box_moved0 HZ2.out (by omega) ho3); have hs2 := Hs2.out; simp at hs2; have HX3 := hide (box_moved0 HX2.out (by omega) ho3); have HAr3 := hide (HAr2.out.move fun k hk hF => ⟨hF, ho3.block k hk (by omega)⟩); have HS3 := hide ho3.size; clear ha3 ho3; obtain ⟨m0, m1⟩ := atom3_cells HX3.out; have m2 := kept_cell (belowA w3 (.cells #[.string ap, .slice none 0 0] 68)) m1))
        have hs3 := HS3.out
        simp at hs3
        have HF0 : Hid (FctAt w (w3.alloc (.cells #[.string ap, .slice none 0 0] 68)) p ao cap L c f r3 w3.heap.size ap (.slice none 0 0) [] (.slice xa ats.length xc) ats) :=
          ⟨⟨HA3.out.kept (belowA w3 (.cells #[.string ap, .slice none 0 0] 68)), Grow.nil _ _ _ _, HO3.out.alloc _, hp, H0.out.tk, by omega, by simp⟩, box_kept0 HZ3.out (belowA w3 (.cells #[.string ap, .slice none 0 0] 68)), heap_alloc_new w3 (.cells #[.string ap, .slice none 0 0] 68), HAr3.out.move fun k hk hF => ⟨⟨hF.1, by omega⟩, (belowA w3 (.cells #[.string ap, .slice none 0 0] 68)).block k hk⟩, by omega⟩
        have hln : ats.length < 1073741824 := by obtain ⟨_, _, _, _, _, q⟩ := HAr3.out.shape; exact q
        clear m0 m1 m2 HA3 HO3 HZ3 HX3 HAr3 HS3 HA2 HO2 HZ2 HX2 HAr2 Hs2 HA1 HO1 HZ1 Hs1 HU HA0 HB0
        go_loopw [21] (fun i wr => ∃ (j : Nat) (v : Value) (l : List Con), j ≤ ats.length ∧ i = .int .i64 j ∧ Hid (l = (ats.take j).map Trm.con) ∧ Hid (FctAt w wr p ao cap L c f r3 w3.heap.size ap v l (.slice xa ats.length xc) ats)) (fun i _ => ats.length - (intOf i).toNat)
        case atStart => exact ⟨0, _, [], by omega, rfl, by show _ = _; simp, HF0⟩
        case round =>
          clear HF0
          obtain ⟨j, v, l, hj, rfl, HL, HF⟩ := hrel
          obtain ⟨va, vc, rfl, -⟩ := HF.out.col.gr.shape
          have hlj : l.length ≤ j := by rw [HL.out]; simp; omega
          by_cases hlt : j < ats.length
          · have hi : (j : Int) < (ats.length : Int) := by omega
            have hi0 : (0 : Int) ≤ (j : Int) := by omega
            obtain ⟨u, hu⟩ : ∃ u, ats[j]? = some u := ⟨_, List.getElem?_eq_getElem hlt⟩
            obtain ⟨b2, o2, rfl, -, -, hr2⟩ := HF.out.ar.row (by omega)
            have y0 := hr2 j _ hu 0 _ rfl
            have y1 := hr2 j _ hu 1 _ rfl
            have y2 := hr2 j _ hu 2 _ rfl
            have y3 := hr2 j _ hu 3 _ rfl
            simp only [elTrm, Nat.add_zero] at y0 y1 y2 y3
            have HOk : Hid (u.con.ok) := (HF.out.ar.ok (List.mem_of_getElem? hu)).1
            have HL2 : Hid (l ++ [u.con] = (ats.take (j + 1)).map Trm.con) := by
              show _ = _
              rw [HL.out, List.take_add_one, hu, Option.toList_some, List.map_append, List.map_singleton]
            have HF1 := hide (HF.out.below (belowA wr (.cells #[.int .i64 u.k, .int .i64 u.n, .string u.s, .int .i64 u.off] 55)))
            have HF2 := hide (HF1.out.below (belowA _ (.cells #[.int .i64 u.k, .int .i64 u.n, .string u.s] 100)))
            obtain ⟨-, n0, n1, n2⟩ := HF1.out.cells
            clear hr2 hu
            go_wp2_with (at_builtin; obtain ⟨i0, hi0', hz0, hz1, hz2⟩ := info_parts Tryd.infoCon; refine wpList_push (w0 := (wr.alloc (.cells #[.int .i64 u.k, .int .i64 u.n, .string u.s, .int .i64 u.off] 55)).alloc (.cells #[.int .i64 u.k, .int .i64 u.n, .string u.s] 100)) elCon rfl _ _ 66 rfl (w3.heap.size + 1) 100 i0 _ 32 Tryd.underlying66 hi0' hz0 hz1 hz2 rfl (by decide) _ l l.length rfl rfl HF2.out.col.gr u.con (wr.heap.size + 1) 1 rfl (fun j u' hu => by have := new_cells (w := wr.alloc (.cells #[.int .i64 u.k, .int .i64 u.n, .string u.s, .int .i64 u.off] 55)) (cs := #[.int .i64 u.k, .int .i64 u.n, .string u.s]) (t := 100) j u' hu; simpa using this) HOk.out (by omega) (Below.refl _ _) HF2.out.col.hi ?_; intro g cap' w5 HG5 HB5 HGr; clear HB5 hi0' hz0 hz1 hz2; have hfar := HF2.out.far HGr.out; have f0 : w5.cell? ⟨w3.heap.size, 1, none⟩ = some (.slice va l.length vc) := (by simp [World.cell?, hfar]); have f1 : w5.frozen? ⟨w3.heap.size, 1, none⟩ = false := (by simp [World.frozen?, hfar]); have HF5 := hide (HF2.out.push HGr.out HG5.out); clear HG5 HGr hfar)
            go_roundw
            case rel => exact ⟨j + 1, _, l ++ [u.con], by omega, by go_num, HL2, HF5⟩
            case measure => simp [intOf]; omega
          · obtain rfl : j = ats.length := by omega
            have hi : ¬ (ats.length : Int) < (ats.length : Int) := by omega
            obtain ⟨⟨q0, q1, q2, q3⟩, n0, n1, n2⟩ := HF.out.cells
            have hb4 := HF.out.hb
            have q4 : ¬ w3.heap.size = w.heap.size := by omega
            have q5 : ¬ w.heap.size = w3.heap.size := by omega
            go_wp2
            have ho2 : Only (fun k => k = w.heap.size) wr ((wr.setCell ⟨w.heap.size, 0, none⟩ (.string ap)).setCell ⟨w.heap.size, 1, none⟩ (.slice va l.length vc)) := ((Only.refl (fun k => k = w.heap.size) wr).setCell (p := ⟨w.heap.size, 0, none⟩) rfl _).setCell (p := ⟨w.heap.size, 1, none⟩) rfl _
            obtain ⟨z1, z2⟩ := fin_ahead H0.out HF.out.col.ah HF.out.col.on ho2 (Nat.le_refl _)
            have hz := HL.out
            rw [List.take_length] at hz
            have z3 := ((HF.out.col.gr.above fun b hb hlt => ho2.block b hlt (by omega)).new (by omega)).move (G := fun b => w.heap.size ≤ b) fun k _ hF => ⟨by omega, rfl⟩
            rw [hz] at z3
            refine bodyPost_ret (fctRes _ w.heap.size (.string ap) (.slice va l.length vc) _ rfl (by have := HF.out.b0; simp [World.setCell, Array.getElem?_modify, this])) rfl ?_
            have hpu := HPu.out
            subst hpu
            rw [hz]
            rw [hz] at z1 z2
            exact PG.out _ _ z3 z1 z2
end Go.Proofs.YtfbmddgjbmapiaaDoor

namespace Go.Proofs.YtfbmddgjbmapiaaDoor
set_option linter.unusedSimpArgs false
set_option linter.unusedVariables false
open Go.RowKit

set_option maxRecDepth 100000 in
set_option maxHeartbeats 1000000 in
theorem idleFact (p : Addr) (w : World) :
    CallsD Tryd.prog 46 #[.pointer (some p)] .returning w fun e u' w' => e = .returned (.tuple #[]) ∧ u' = .returning ∧ w' = w := by
  refine callsD_of_wpS Tryd.func46 rfl fun c₀ cs hu => ?_
  apply wpS_seq
  apply wpS_region
  simp [wpOpsS, go_sem, recoverD, hu, Tryd.ntmps46, Exit.thenS]
  apply wpS_seq
  apply wpS_seq
  apply wpS_region
  simp [wpOpsS, go_sem, Exit.thenS]
  refine wpS_cond (t := true) (by simp [Act.eval, Array.replicate]) ?_
  simp only [if_true]
  refine wpS_of_wp (wp_ret ?_)
  cases c₀
  simp_all [bodyPostS, results, Tryd.results46, Exit.thenS]

set_option maxRecDepth 100000 in
set_option maxHeartbeats 1000000 in
theorem caughtFact (b : Nat) (c o : Int) (older : List PanicEntry) (w : World) (hb : w.heap[b]? = some (.cells #[.int .i64 0, .int .i64 0, .int .i64 0] 27 (0, 0))) :
    CallsD Tryd.prog 46 #[.pointer (some ⟨b, 0, none⟩)] (.panicking ({ v := faultP c o, recovered := false } :: older)) w fun e u' w' =>
      e = .returned (.tuple #[]) ∧ u' = .panicking ({ v := faultP c o, recovered := true } :: older) ∧ w'.heap[b]? = some (.cells #[.int .i64 c, .int .i64 0, .int .i64 o] 27 (0, 0)) ∧ Only (fun k => k = b) w w' := by
  obtain ⟨⟨c0, c1, c2⟩, ⟨z0, z1, z2⟩⟩ := fault_cells hb
  have hlt := (Array.getElem?_eq_some_iff.1 hb).1
  have hne : ¬ b = w.heap.size := by omega
  have hne2 : ¬ w.heap.size = b := by omega
  have hta : ∀ W : World, (Instr.typeAssert (faultP c o) 20 27 true).run Tryd.prog W = .ok (.tuple #[.agg #[.int .i64 c, .int .i64 0, .int .i64 o], .bool true]) W := fun W => by rfl
  refine callsD_of_wpS Tryd.func46 rfl fun c₀ cs hu => ?_
  apply wpS_seq
  apply wpS_region
  simp [wpOpsS, go_sem, recoverD, hu, Tryd.ntmps46, Exit.thenS]
  apply wpS_seq
  apply wpS_seq
  apply wpS_region
  simp [wpOpsS, go_sem, Exit.thenS]
  refine wpS_cond (t := false) (by simp [Act.eval, Array.replicate]) ?_
  simp only [Bool.false_eq_true, if_false]
  refine wpS_of_wp (wp_skip ?_)
  simp only [Exit.thenS]
  refine wpS_of_wp ?_
  change Code.wp _ _ _ ⟨#[.pointer (some ⟨b, 0, none⟩), faultP c o, undef, undef, faultP c o, faultP c o, .bool false, undef, undef, undef, undef, undef, undef, undef, undef, undef], []⟩ w
  go_wp2
  have hX : ((((w.setCell ⟨b, 0, none⟩ (.int .i64 c)).setCell ⟨b, 1, none⟩ (.int .i64 0)).setCell ⟨b, 2, none⟩ (.int .i64 o)).alloc (.cells #[.int .i64 c, .int .i64 0, .int .i64 o] 27)).heap[b]? = some (.cells #[.int .i64 c, .int .i64 0, .int .i64 o] 27 (0, 0)) := by
    rw [(belowA _ _).block _ (by simp; exact hlt)]
    simp [World.setCell, Array.getElem?_modify, hb]
  have hO : Only (fun k => k = b) w ((((w.setCell ⟨b, 0, none⟩ (.int .i64 c)).setCell ⟨b, 1, none⟩ (.int .i64 0)).setCell ⟨b, 2, none⟩ (.int .i64 o)).alloc (.cells #[.int .i64 c, .int .i64 0, .int .i64 o] 27)) :=
    ((((Only.refl (fun k => k = b) w).setCell (p := ⟨b, 0, none⟩) rfl _).setCell (p := ⟨b, 1, none⟩) rfl _).setCell (p := ⟨b, 2, none⟩) rfl _).alloc _
  generalize (((w.setCell ⟨b, 0, none⟩ (.int .i64 c)).setCell ⟨b, 1, none⟩ (.int .i64 0)).setCell ⟨b, 2, none⟩ (.int .i64 o)).alloc (.cells #[.int .i64 c, .int .i64 0, .int .i64 o] 27) = V at hX hO ⊢
  simp [bodyPostS, results, Tryd.results46, hX, hO]

def ReadFact (w : World) (s : ByteArray) (e : Ending) (w' : World) : Prop :=
  match factP (scanX s).2.1 ((scanX s).2.2 : Int) (scanX s).1 with
  | .bad ec eo => e = .returned (.tuple #[.agg #[.string ⟨#[]⟩, .slice none 0 0], faultV ec eo]) ∧ Below w.heap.size w w'
  | .ok b _ => ∃ v, e = .returned (.tuple #[.agg #[.string b.p, v], faultV 0 0]) ∧ Lst elCon w' (fun k => w.heap.size ≤ k) v (b.ts.map Trm.con) ∧ Below w.heap.size w w'

set_option maxRecDepth 100000 in
set_option maxHeartbeats 2000000 in
theorem readFact_any (s : ByteArray) (w : World) (hl : LexLaid w) (hs : s.size ≤ 140737488351232) :
    Calls Tryd.prog 33 #[.string s, .func (.func 34) #[] #[]] w (ReadFact w s) := by
  have hmf : ∀ (fn : Fn) (first cap : Array Value) (w : World), (Instr.makeFunc fn first cap).run Tryd.prog w = .ok (.func fn first cap) w := fun _ _ _ _ => rfl
  have HSc := hide (fun (W : World) (hb : Below w.heap.size w W) => scan_any s W (hl.kept hb) hs)
  clear hl hs
  unfold faultVal at HSc
  obtain ⟨res, hres⟩ : ∃ res, factP (scanX s).2.1 ((scanX s).2.2 : Int) (scanX s).1 = res := ⟨_, rfl⟩
  obtain ⟨Post, hPost⟩ : ∃ Post : Ending → World → Prop, Post = ReadFact w s := ⟨_, rfl⟩
  rw [← hPost]
  have PB : Hid (∀ ec eo w', res = .bad ec eo → Below w.heap.size w w' → Post (.returned (.tuple #[.agg #[.string ⟨#[]⟩, .slice none 0 0], .agg #[.int .i64 ec, .int .i64 0, .int .i64 eo]])) w') := fun ec eo w' hr hb => by
    rw [hPost]; unfold ReadFact; rw [hres, hr]; exact ⟨rfl, hb⟩
  have PG : Hid (∀ b r v w', res = .ok b r → Lst elCon w' (fun k => w.heap.size ≤ k) v (b.ts.map Trm.con) → Below w.heap.size w w' → Post (.returned (.tuple #[.agg #[.string b.p, v], .agg #[.int .i64 0, .int .i64 0, .int .i64 0]])) w') := fun b r v w' hr h3 h4 => by
    rw [hPost]; unfold ReadFact; rw [hres, hr]; exact ⟨v, rfl, h3, h4⟩
  have HR := hide hres
  clear hPost hres
  go_enter_defers Tryd.func33, Tryd.ntmps33
  go_wp2_with (go_at_call 25; refine (HSc.out _ (below2a _ _ _)).mono ?_; rintro e w1 ⟨v, rfl, ho1, hb1⟩; obtain ⟨ao, cap, rfl⟩ := own_shape ho1; have HO1 := hide ho1; have HB1 := hide hb1; clear ho1 hb1)
  have hs1 : w.heap.size + 2 ≤ w1.heap.size := by have := HB1.out.size; simp at this; omega
  have HA := hide (scan_ahead HB1.out HO1.out (W2 := (w1.alloc (.cells #[.int .i64 (scanX s).2.1, .int .i64 0, .int .i64 ((scanX s).2.2 : Int)] 27)).alloc (.cells #[.slice ao (scanX s).1.length cap, .int .i64 (scanX s).2.1, .int .i64 0, .int .i64 ((scanX s).2.2 : Int), .int .i64 0] 76)) (below2a w1 _ _) rfl (p := w1.heap.size + 1) (by omega) (by have := heap_alloc_new (w1.alloc (.cells #[.int .i64 (scanX s).2.1, .int .i64 0, .int .i64 ((scanX s).2.2 : Int)] 27)) (.cells #[.slice ao (scanX s).1.length cap, .int .i64 (scanX s).2.1, .int .i64 0, .int .i64 ((scanX s).2.2 : Int), .int .i64 0] 76); simpa using this))
  have HP := fact_any HA.out
  rw [HR.out] at HP
  have HK : Hid (∀ w2, Only (fun k => k = w1.heap.size + 1) ((w1.alloc (.cells #[.int .i64 (scanX s).2.1, .int .i64 0, .int .i64 ((scanX s).2.2 : Int)] 27)).alloc (.cells #[.slice ao (scanX s).1.length cap, .int .i64 (scanX s).2.1, .int .i64 0, .int .i64 ((scanX s).2.2 : Int), .int .i64 0] 76)) w2 → w2.heap[w.heap.size]? = some (.cells #[.string ⟨#[]⟩, .slice none 0 0] 68 (0, 0)) ∧ w2.heap[w.heap.size + 1]? = some (.cells #[.int .i64 0, .int .i64 0, .int .i64 0] 27 (0, 0)) ∧ Only (fun k => w.heap.size ≤ k) w w2) := fun w2 ho => by
    have q : ∀ k, k < w.heap.size + 2 → w2.heap[k]? = ((w.alloc (.cells #[.string ⟨#[]⟩, .slice none 0 0] 68)).alloc (.cells #[.int .i64 0, .int .i64 0, .int .i64 0] 27)).heap[k]? := fun k hk => by
      rw [ho.block k (by simp; omega) (by omega), (below2a w1 _ _).block k (by omega), HB1.out.block k (by simp; omega)]
    refine ⟨?_, ?_, ((Only.of_below (below2a w _ _) _).trans (Only.of_below HB1.out _)).trans ((Only.of_below (below2a w1 _ _) _).trans (ho.mono fun k _ (e : k = w1.heap.size + 1) => by omega))⟩
    · rw [q _ (by omega), (belowA (w.alloc _) _).block _ (by simp)]; exact heap_alloc_new w _
    · rw [q _ (by omega)]
      have := heap_alloc_new (w.alloc (.cells #[.string ⟨#[]⟩, .slice none 0 0] 68)) (.cells #[.int .i64 0, .int .i64 0, .int .i64 0] 27)
      simpa using this
  clear HO1 HB1 HSc HR
  cases res with
  | bad ec eo =>
    refine HP.mono ?_
    intro e w2 hq
    obtain ⟨rfl, ho2⟩ := factPost_bad hq
    obtain ⟨k0, k1, k2⟩ := HK.out w2 ho2
    clear hq HP HA
    refine leaves_cons (f := 46) (args := #[.pointer (some ⟨w.heap.size + 1, 0, none⟩)]) (by simp) (by simp [go_sem]) ?_
    refine (caughtFact (w.heap.size + 1) ec eo [] w2 k1).mono ?_
    rintro e u' w3 ⟨rfl, rfl, h3, o3⟩
    have h0 : w3.heap[w.heap.size]? = some (.cells #[.string ⟨#[]⟩, .slice none 0 0] 68 (0, 0)) := by rw [o3.block _ (Array.getElem?_eq_some_iff.1 k0).1 (by omega)]; exact k0
    have c0 : w3.cell? ⟨w.heap.size, 0, none⟩ = some (.string ⟨#[]⟩) := by simp [World.cell?, h0]
    have c1 : w3.cell? ⟨w.heap.size, 1, none⟩ = some (.slice none 0 0) := by simp [World.cell?, h0]
    obtain ⟨⟨d0, d1, d2⟩, -⟩ := fault_cells h3
    have HF := hide (PB.out ec eo w3 rfl ((k2.trans (o3.mono fun k _ (e : k = w.heap.size + 1) => by omega)).below (Nat.le_refl _) (fun k hk e => by omega)))
    clear o3 h3 h0 k0 k1 k2
    simp [Leaves, settle, results, Tryd.results33, go_sem, c0, c1, d0, d1, d2]
    exact HF.out
  | ok b r =>
    refine HP.mono ?_
    intro e w2 hq
    obtain ⟨v, rfl, hgr, ha2, ho2⟩ := factPost_ok hq
    obtain ⟨va, vc, rfl, -⟩ := hgr.shape
    obtain ⟨k0, k1, k2⟩ := HK.out w2 ho2
    have HG := hide hgr
    have HK2 := hide k2
    clear hq HP HA hgr ha2 ho2
    have c0 : w2.cell? ⟨w.heap.size, 0, none⟩ = some (.string ⟨#[]⟩) := by simp [World.cell?, k0]
    have c1 : w2.cell? ⟨w.heap.size, 1, none⟩ = some (.slice none 0 0) := by simp [World.cell?, k0]
    have z0 : w2.frozen? ⟨w.heap.size, 0, none⟩ = false := by simp [World.frozen?, k0]
    have z1 : w2.frozen? ⟨w.heap.size, 1, none⟩ = false := by simp [World.frozen?, k0]
    obtain ⟨⟨d0, d1, d2⟩, ⟨y0, y1, y2⟩⟩ := fault_cells k1
    obtain ⟨m, hm⟩ : ∃ m, m = (b.ts.map Trm.con).length := ⟨_, rfl⟩
    have HM := hide hm
    rw [← hm]
    clear hm
    go_wp2_with fail
    have hO : Only (fun k => k = w.heap.size ∨ k = w.heap.size + 1) w2 (((((w2.setCell ⟨w.heap.size, 0, none⟩ (.string b.p)).setCell ⟨w.heap.size, 1, none⟩ (.slice va m vc)).setCell ⟨w.heap.size + 1, 0, none⟩ (.int .i64 0)).setCell ⟨w.heap.size + 1, 1, none⟩ (.int .i64 0)).setCell ⟨w.heap.size + 1, 2, none⟩ (.int .i64 0)) := (((((Only.refl (fun k => k = w.heap.size ∨ k = w.heap.size + 1) w2).setCell (p := ⟨w.heap.size, 0, none⟩) (.inl rfl) _).setCell (p := ⟨w.heap.size, 1, none⟩) (.inl rfl) _).setCell (p := ⟨w.heap.size + 1, 0, none⟩) (.inr rfl) _).setCell (p := ⟨w.heap.size + 1, 1, none⟩) (.inr rfl) _).setCell (p := ⟨w.heap.size + 1, 2, none⟩) (.inr rfl) _
    have hV0 : (((((w2.setCell ⟨w.heap.size, 0, none⟩ (.string b.p)).setCell ⟨w.heap.size, 1, none⟩ (.slice va m vc)).setCell ⟨w.heap.size + 1, 0, none⟩ (.int .i64 0)).setCell ⟨w.heap.size + 1, 1, none⟩ (.int .i64 0)).setCell ⟨w.heap.size + 1, 2, none⟩ (.int .i64 0)).heap[w.heap.size]? = some (.cells #[.string b.p, .slice va m vc] 68 (0, 0)) := by simp [World.setCell, Array.getElem?_modify, k0]
    have hV1 : (((((w2.setCell ⟨w.heap.size, 0, none⟩ (.string b.p)).setCell ⟨w.heap.size, 1, none⟩ (.slice va m vc)).setCell ⟨w.heap.size + 1, 0, none⟩ (.int .i64 0)).setCell ⟨w.heap.size + 1, 1, none⟩ (.int .i64 0)).setCell ⟨w.heap.size + 1, 2, none⟩ (.int .i64 0)).heap[w.heap.size + 1]? = some (.cells #[.int .i64 0, .int .i64 0, .int .i64 0] 27 (0, 0)) := by simp [World.setCell, Array.getElem?_modify, k1]
    generalize ((((w2.setCell ⟨w.heap.size, 0, none⟩ (.string b.p)).setCell ⟨w.heap.size, 1, none⟩ (.slice va m vc)).setCell ⟨w.heap.size + 1, 0, none⟩ (.int .i64 0)).setCell ⟨w.heap.size + 1, 1, none⟩ (.int .i64 0)).setCell ⟨w.heap.size + 1, 2, none⟩ (.int .i64 0) = V at hO hV0 hV1 ⊢
    clear c0 c1 z0 z1 d0 d1 d2 y0 y1 y2 k0 k1
    refine leaves_cons (f := 46) (args := #[.pointer (some ⟨w.heap.size + 1, 0, none⟩)]) (by simp) (by simp [go_sem]) ?_
    refine (idleFact ⟨w.heap.size + 1, 0, none⟩ V).mono ?_
    rintro e u' w3 ⟨rfl, rfl, hw⟩
    have hw := hw.symm
    subst hw
    have c0 : V.cell? ⟨w.heap.size, 0, none⟩ = some (.string b.p) := by simp [World.cell?, hV0]
    have c1 : V.cell? ⟨w.heap.size, 1, none⟩ = some (.slice va m vc) := by simp [World.cell?, hV0]
    obtain ⟨⟨d0, d1, d2⟩, -⟩ := fault_cells hV1
    have HF := hide (PG.out b r (.slice va m vc) V rfl (by rw [HM.out]; exact HG.out.move fun k hk hF => ⟨by simp at hF; omega, hO.block k hk (by simp at hF; omega)⟩) ((HK2.out.trans (hO.mono fun k _ (e : k = w.heap.size ∨ k = w.heap.size + 1) => by omega)).below (Nat.le_refl _) (fun k hk e => by omega)))
    clear hO hV0 hV1
    simp [Leaves, settle, results, Tryd.results33, go_sem, c0, c1, d0, d1, d2]
    exact HF.out
end Go.Proofs.YtfbmddgjbmapiaaDoor

namespace Go.Proofs.YtfbmddgjbmapiaaDoor
set_option linter.unusedSimpArgs false
set_option linter.unusedVariables false
open Go.RowKit

theorem factCell {V : World} {b : Nat} {u0 u1 : Value} (h : V.heap[b]? = some (.cells #[u0, u1] 68 (0, 0))) : V.cell? ⟨b, 0, none⟩ = some u0 ∧ V.cell? ⟨b, 1, none⟩ = some u1 ∧ V.frozen? ⟨b, 0, none⟩ = false ∧ V.frozen? ⟨b, 1, none⟩ = false := by
  refine ⟨?_, ?_, ?_, ?_⟩ <;> simp [World.cell?, World.frozen?, h]
theorem readFact_bad {w w' : World} {s : ByteArray} {e : Ending} {ec eo : Int} (h : ReadFact w s e w') (hr : factP (scanX s).2.1 ((scanX s).2.2 : Int) (scanX s).1 = .bad ec eo) : e = .returned (.tuple #[.agg #[.string ⟨#[]⟩, .slice none 0 0], faultV ec eo]) ∧ Below w.heap.size w w' := by
  unfold ReadFact at h
  rw [hr] at h
  exact h
theorem readFact_ok {w w' : World} {s : ByteArray} {e : Ending} {b : PAtom} {r : List Tok} (h : ReadFact w s e w') (hr : factP (scanX s).2.1 ((scanX s).2.2 : Int) (scanX s).1 = .ok b r) : ∃ v, e = .returned (.tuple #[.agg #[.string b.p, v], faultV 0 0]) ∧ Lst elCon w' (fun k => w.heap.size ≤ k) v (b.ts.map Trm.con) ∧ Below w.heap.size w w' := by
  unfold ReadFact at h
  rw [hr] at h
  exact h
theorem readFact_mkb {w w' : World} {s : ByteArray} {ec eo : Int} (hr : factP (scanX s).2.1 ((scanX s).2.2 : Int) (scanX s).1 = .bad ec eo) (hb : Below w.heap.size w w') : ReadFact w s (.returned (.tuple #[.agg #[.string ⟨#[]⟩, .slice none 0 0], faultV ec eo])) w' := by
  unfold ReadFact
  rw [hr]
  exact ⟨rfl, hb⟩
theorem readFact_mko {w w' : World} {s : ByteArray} {b : PAtom} {r : List Tok} (hr : factP (scanX s).2.1 ((scanX s).2.2 : Int) (scanX s).1 = .ok b r) {v : Value} (h3 : Lst elCon w' (fun k => w.heap.size ≤ k) v (b.ts.map Trm.con)) (hb : Below w.heap.size w w') : ReadFact w s (.returned (.tuple #[.agg #[.string b.p, v], faultV 0 0])) w' := by
  unfold ReadFact
  rw [hr]
  exact ⟨v, rfl, h3, hb⟩

set_option maxRecDepth 100000 in
set_option maxHeartbeats 2000000 in
theorem parseFact_any (s : ByteArray) (w : World) (hl : LexLaid w) (hs : s.size ≤ 140737488351232) :
    Calls Tryd.prog 23 #[.string s] w (ReadFact w s) := by
  have HC := hide (fun (W : World) (hb : Below w.heap.size w W) => readFact_any s W (hl.kept hb) hs)
  clear hl hs
  obtain ⟨Post, hPost⟩ : ∃ Post : Ending → World → Prop, Post = ReadFact w s := ⟨_, rfl⟩
  rw [← hPost]
  have HK : Hid (∀ w2, Below ((w.alloc (.cells #[.string ⟨#[]⟩, .slice none 0 0] 68)).alloc (.cells #[.int .i64 0, .int .i64 0, .int .i64 0] 27)).heap.size ((w.alloc (.cells #[.string ⟨#[]⟩, .slice none 0 0] 68)).alloc (.cells #[.int .i64 0, .int .i64 0, .int .i64 0] 27)) w2 → w2.heap[w.heap.size]? = some (.cells #[.string ⟨#[]⟩, .slice none 0 0] 68 (0, 0)) ∧ w2.heap[w.heap.size + 1]? = some (.cells #[.int .i64 0, .int .i64 0, .int .i64 0] 27 (0, 0)) ∧ Below w.heap.size w w2) := fun w2 hb => by
    refine ⟨?_, ?_, belowt2 (below2a w _ _) hb⟩
    · rw [hb.block _ (by simp; omega), (belowA (w.alloc _) _).block _ (by simp)]; exact heap_alloc_new w _
    · rw [hb.block _ (by simp)]
      have := heap_alloc_new (w.alloc (.cells #[.string ⟨#[]⟩, .slice none 0 0] 68)) (.cells #[.int .i64 0, .int .i64 0, .int .i64 0] 27)
      simpa using this
  cases hr : factP (scanX s).2.1 ((scanX s).2.2 : Int) (scanX s).1 with
  | bad ec eo =>
    have PB : Hid (∀ w', Below w.heap.size w w' → Post (.returned (.tuple #[.agg #[.string ⟨#[]⟩, .slice none 0 0], .agg #[.int .i64 ec, .int .i64 0, .int .i64 eo]])) w') := fun w' hb => by rw [hPost]; exact readFact_mkb hr hb
    have HRr := hide hr
    clear hr hPost
    go_enter Tryd.func23, Tryd.ntmps23
    go_wp2_with (go_at_call 33; refine (HC.out _ (below2a _ _ _)).mono ?_; intro e w2 hq; obtain ⟨rfl, hb2⟩ := readFact_bad hq HRr.out; clear hq; obtain ⟨k0, k1, k2⟩ := HK.out w2 hb2; have HK2 := hide k2; clear hb2 k2; obtain ⟨c0, c1, z0, z1⟩ := factCell k0; obtain ⟨⟨d0, d1, d2⟩, ⟨y0, y1, y2⟩⟩ := fault_cells k1; unfold faultV)
    have hV0 : (((((w2.setCell ⟨w.heap.size, 0, none⟩ (.string ⟨#[]⟩)).setCell ⟨w.heap.size, 1, none⟩ (.slice none 0 0)).setCell ⟨w.heap.size + 1, 0, none⟩ (.int .i64 ec)).setCell ⟨w.heap.size + 1, 1, none⟩ (.int .i64 0)).setCell ⟨w.heap.size + 1, 2, none⟩ (.int .i64 eo)).heap[w.heap.size]? = some (.cells #[.string ⟨#[]⟩, .slice none 0 0] 68 (0, 0)) := by simp [World.setCell, Array.getElem?_modify, k0]
    have hV1 : (((((w2.setCell ⟨w.heap.size, 0, none⟩ (.string ⟨#[]⟩)).setCell ⟨w.heap.size, 1, none⟩ (.slice none 0 0)).setCell ⟨w.heap.size + 1, 0, none⟩ (.int .i64 ec)).setCell ⟨w.heap.size + 1, 1, none⟩ (.int .i64 0)).setCell ⟨w.heap.size + 1, 2, none⟩ (.int .i64 eo)).heap[w.heap.size + 1]? = some (.cells #[.int .i64 ec, .int .i64 0, .int .i64 eo] 27 (0, 0)) := by simp [World.setCell, Array.getElem?_modify, k1]
    have hO : Below w.heap.size w (((((w2.setCell ⟨w.heap.size, 0, none⟩ (.string ⟨#[]⟩)).setCell ⟨w.heap.size, 1, none⟩ (.slice none 0 0)).setCell ⟨w.heap.size + 1, 0, none⟩ (.int .i64 ec)).setCell ⟨w.heap.size + 1, 1, none⟩ (.int .i64 0)).setCell ⟨w.heap.size + 1, 2, none⟩ (.int .i64 eo)) := ((((((Only.of_below HK2.out (fun k => w.heap.size ≤ k)).setCell (p := ⟨w.heap.size, 0, none⟩) (Nat.le_refl _) _).setCell (p := ⟨w.heap.size, 1, none⟩) (Nat.le_refl _) _).setCell (p := ⟨w.heap.size + 1, 0, none⟩) (Nat.le_succ _) _).setCell (p := ⟨w.heap.size + 1, 1, none⟩) (Nat.le_succ _) _).setCell (p := ⟨w.heap.size + 1, 2, none⟩) (Nat.le_succ _) _).below (Nat.le_refl _) (fun k hk e => by omega)
    generalize ((((w2.setCell ⟨w.heap.size, 0, none⟩ (.string ⟨#[]⟩)).setCell ⟨w.heap.size, 1, none⟩ (.slice none 0 0)).setCell ⟨w.heap.size + 1, 0, none⟩ (.int .i64 ec)).setCell ⟨w.heap.size + 1, 1, none⟩ (.int .i64 0)).setCell ⟨w.heap.size + 1, 2, none⟩ (.int .i64 eo) = V at hV0 hV1 hO ⊢
    obtain ⟨f0, f4, -⟩ := factCell hV0
    obtain ⟨⟨f1, f2, f3⟩, -⟩ := fault_cells hV1
    exact bodyPost_ret (v := .tuple #[.agg #[.string ⟨#[]⟩, .slice none 0 0], .agg #[.int .i64 ec, .int .i64 0, .int .i64 eo]]) (by simp [results, Tryd.results23, go_sem, f0, f4, f1, f2, f3]) rfl (PB.out _ hO)
  | ok b r =>
    have PG : Hid (∀ w' v, Lst elCon w' (fun k => w.heap.size ≤ k) v (b.ts.map Trm.con) → Below w.heap.size w w' → Post (.returned (.tuple #[.agg #[.string b.p, v], .agg #[.int .i64 0, .int .i64 0, .int .i64 0]])) w') := fun w' v h3 h4 => by rw [hPost]; exact readFact_mko hr h3 h4
    obtain ⟨m, hm⟩ : ∃ m, m = (b.ts.map Trm.con).length := ⟨_, rfl⟩
    have HM := hide hm
    clear hm
    have HRr := hide hr
    clear hr hPost
    go_enter Tryd.func23, Tryd.ntmps23
    go_wp2_with (go_at_call 33; refine (HC.out _ (below2a _ _ _)).mono ?_; intro e w2 hq; obtain ⟨v, rfl, hls, hb2⟩ := readFact_ok hq HRr.out; clear hq; obtain ⟨va, vc, rfl, -⟩ := hls.shape; rw [← HM.out] at hls ⊢; obtain ⟨k0, k1, k2⟩ := HK.out w2 hb2; have HK2 := hide k2; have HLs := hide hls; clear hb2 k2 hls; obtain ⟨c0, c1, z0, z1⟩ := factCell k0; obtain ⟨⟨d0, d1, d2⟩, ⟨y0, y1, y2⟩⟩ := fault_cells k1; unfold faultV)
    have hV0 : (((((w2.setCell ⟨w.heap.size, 0, none⟩ (.string b.p)).setCell ⟨w.heap.size, 1, none⟩ (.slice va m vc)).setCell ⟨w.heap.size + 1, 0, none⟩ (.int .i64 0)).setCell ⟨w.heap.size + 1, 1, none⟩ (.int .i64 0)).setCell ⟨w.heap.size + 1, 2, none⟩ (.int .i64 0)).heap[w.heap.size]? = some (.cells #[.string b.p, .slice va m vc] 68 (0, 0)) := by simp [World.setCell, Array.getElem?_modify, k0]
    have hV1 : (((((w2.setCell ⟨w.heap.size, 0, none⟩ (.string b.p)).setCell ⟨w.heap.size, 1, none⟩ (.slice va m vc)).setCell ⟨w.heap.size + 1, 0, none⟩ (.int .i64 0)).setCell ⟨w.heap.size + 1, 1, none⟩ (.int .i64 0)).setCell ⟨w.heap.size + 1, 2, none⟩ (.int .i64 0)).heap[w.heap.size + 1]? = some (.cells #[.int .i64 0, .int .i64 0, .int .i64 0] 27 (0, 0)) := by simp [World.setCell, Array.getElem?_modify, k1]
    have hB : Below w.heap.size w (((((w2.setCell ⟨w.heap.size, 0, none⟩ (.string b.p)).setCell ⟨w.heap.size, 1, none⟩ (.slice va m vc)).setCell ⟨w.heap.size + 1, 0, none⟩ (.int .i64 0)).setCell ⟨w.heap.size + 1, 1, none⟩ (.int .i64 0)).setCell ⟨w.heap.size + 1, 2, none⟩ (.int .i64 0)) := ((((((Only.of_below HK2.out (fun k => w.heap.size ≤ k)).setCell (p := ⟨w.heap.size, 0, none⟩) (Nat.le_refl _) _).setCell (p := ⟨w.heap.size, 1, none⟩) (Nat.le_refl _) _).setCell (p := ⟨w.heap.size + 1, 0, none⟩) (Nat.le_succ _) _).setCell (p := ⟨w.heap.size + 1, 1, none⟩) (Nat.le_succ _) _).setCell (p := ⟨w.heap.size + 1, 2, none⟩) (Nat.le_succ _) _).below (Nat.le_refl _) (fun k hk e => by omega)
    have hO : Only (fun k => k = w.heap.size ∨ k = w.heap.size + 1) w2 (((((w2.setCell ⟨w.heap.size, 0, none⟩ (.string b.p)).setCell ⟨w.heap.size, 1, none⟩ (.slice va m vc)).setCell ⟨w.heap.size + 1, 0, none⟩ (.int .i64 0)).setCell ⟨w.heap.size + 1, 1, none⟩ (.int .i64 0)).setCell ⟨w.heap.size + 1, 2, none⟩ (.int .i64 0)) := (((((Only.refl (fun k => k = w.heap.size ∨ k = w.heap.size + 1) w2).setCell (p := ⟨w.heap.size, 0, none⟩) (.inl rfl) _).setCell (p := ⟨w.heap.size, 1, none⟩) (.inl rfl) _).setCell (p := ⟨w.heap.size + 1, 0, none⟩) (.inr rfl) _).setCell (p := ⟨w.heap.size + 1, 1, none⟩) (.inr rfl) _).setCell (p := ⟨w.heap.size + 1, 2, none⟩) (.inr rfl) _
    generalize ((((w2.setCell ⟨w.heap.size, 0, none⟩ (.string b.p)).setCell ⟨w.heap.size, 1, none⟩ (.slice va m vc)).setCell ⟨w.heap.size + 1, 0, none⟩ (.int .i64 0)).setCell ⟨w.heap.size + 1, 1, none⟩ (.int .i64 0)).setCell ⟨w.heap.size + 1, 2, none⟩ (.int .i64 0) = V at hV0 hV1 hO hB ⊢
    obtain ⟨f0, f4, -⟩ := factCell hV0
    obtain ⟨⟨f1, f2, f3⟩, -⟩ := fault_cells hV1
    exact bodyPost_ret (v := .tuple #[.agg #[.string b.p, .slice va m vc], .agg #[.int .i64 0, .int .i64 0, .int .i64 0]]) (by simp [results, Tryd.results23, go_sem, f0, f4, f1, f2, f3]) rfl (PG.out _ _ (HLs.out.move fun k hk hF => ⟨by simp at hF; omega, hO.block k hk (by simp at hF; omega)⟩) hB)

end Go.Proofs.YtfbmddgjbmapiaaDoor

namespace Go.Proofs.YtfbmddgjbmapiaaDoor
set_option linter.unusedSimpArgs false
set_option linter.unusedVariables false
open Go.RowKit

def Cd {α : Type} (c : Int) : PR α → Prop
  | .bad ec _ => ec = c ∨ 20 ≤ ec
  | .ok _ _ => True
theorem misK_20 (k : Int) : 20 ≤ misK k := by unfold misK; split <;> decide
theorem take_cd {c f : Int} {ks : List Int} {R : List Tok} : Cd c (takeP c f ks R) := by
  match R with
  | [] => exact .inl rfl
  | t :: r =>
    simp only [takeP]
    by_cases hm : t.k ∈ ks
    · rw [if_pos hm]; trivial
    · rw [if_neg hm]; exact .inr (misK_20 _)
theorem cd_bad {α : Type} {c ec eo : Int} {x : PR α} (h : Cd c x) (e : x = .bad ec eo) : ec = c ∨ 20 ≤ ec := by subst e; exact h
theorem args_cd {c f : Int} {ks : List Int} : ∀ (n : Nat) (acc : List Trm) (R : List Tok), R.length = n → Cd c (argsP c f ks acc R) := by
  intro n
  induction n using Nat.strongRecOn with
  | ind n ih =>
    intro acc R hn
    cases hT : takeP c f ks R with
    | bad ec eo => rw [args_bad1 hT]; exact cd_bad take_cd hT
    | ok t r1 =>
      have l1 := take_len hT
      by_cases h8 : acc.length = 8
      · rw [args_lim hT h8]; exact .inr (by decide)
      · rw [args_next hT h8]
        cases hU : takeP c f [7, 6] r1 with
        | bad ec eo => exact cd_bad take_cd hU
        | ok s r2 =>
          have l2 := take_len hU
          simp only
          by_cases h7 : s.k = 7
          · rw [if_pos h7]; exact ih r2.length (by omega) _ r2 rfl
          · rw [if_neg h7]; trivial
theorem atom_cd {c f : Int} {ks : List Int} {name : Tok} {R : List Tok} : Cd c (atomP c f ks name R) := by
  match R with
  | [] => exact .inl rfl
  | t :: r1 =>
    unfold atomP
    simp only
    by_cases h5 : t.k = 5
    · rw [if_pos h5]
      cases hA : argsP c f ks [] r1 with
      | bad ec eo => exact cd_bad (args_cd _ _ _ rfl) hA
      | ok ts r2 => trivial
    · rw [if_neg h5]; trivial
theorem lit_cd {c f : Int} {first : Tok} {R : List Tok} : Cd c (litP c f first R) := by
  have test : Cd c (match takeP c f [11] R with
      | .bad c o => PR.bad c o
      | .ok o1 r' => match takeP c f termKs r' with
        | .bad c o => .bad c o
        | .ok t2 r'' => .ok (⟨3, zeroAtom, o1.op, termP first, termP t2, first.off⟩ : PLit) r'') := by
    cases hT : takeP c f [11] R with
    | bad ec eo => exact cd_bad take_cd hT
    | ok o1 r1 =>
      simp only
      cases hU : takeP c f termKs r1 with
      | bad ec eo => exact cd_bad take_cd hU
      | ok t2 r2 => trivial
  unfold litP
  by_cases h10 : first.k = 10
  · rw [if_pos h10]
    cases hT : takeP c f [1] R with
    | bad ec eo => exact cd_bad take_cd hT
    | ok n r1 =>
      simp only
      cases hA : atomP c f termKs n r1 with
      | bad ec eo => exact cd_bad atom_cd hA
      | ok a r2 => trivial
  · rw [if_neg h10]
    simp only
    by_cases h1 : first.k = 1
    · rw [if_pos h1]
      cases R with
      | nil => exact .inl rfl
      | cons t r1 =>
        simp only
        by_cases h11 : t.k = 11
        · rw [if_pos h11]; exact test
        · rw [if_neg h11]
          cases hA : atomP c f termKs first (t :: r1) with
          | bad ec eo => exact cd_bad atom_cd hA
          | ok a r2 => trivial
    · rw [if_neg h1]; exact test
theorem body_cd {c f : Int} : ∀ (n : Nat) (acc : List PLit) (R : List Tok), Cd c (bodyF c f n acc R) := by
  intro n
  induction n with
  | zero => intro acc R; exact .inl rfl
  | succ n ih =>
    intro acc R
    cases hT : takeP c f [1, 10, 2, 3, 4] R with
    | bad ec eo => rw [body_bad1 hT]; exact cd_bad take_cd hT
    | ok t r1 =>
      by_cases h16 : acc.length = 16
      · rw [body_lim hT h16]; exact .inr (by decide)
      · cases hL : litP c f t r1 with
        | bad ec eo => rw [body_lit hT h16 hL]; exact cd_bad lit_cd hL
        | ok x r2 =>
          cases hU : takeP c f [7, 8] r2 with
          | bad ec eo => rw [body_sep hT h16 hL hU]; exact cd_bad take_cd hU
          | ok s r3 =>
            by_cases h8 : s.k = 8
            · rw [body_end hT h16 hL hU h8]; trivial
            · rw [body_more hT h16 hL hU h8]; exact ih _ _
theorem clause_cd {c f : Int} {name : Tok} {R : List Tok} : Cd c (clauseP c f name R) := by
  unfold clauseP
  cases hA : atomP c f termKs name R with
  | bad ec eo => exact cd_bad atom_cd hA
  | ok a r1 =>
    simp only
    cases hT : takeP c f [8, 9] r1 with
    | bad ec eo => exact cd_bad take_cd hT
    | ok s r2 =>
      simp only
      by_cases h9 : s.k = 9
      · rw [if_pos h9]
        cases hB : bodyP c f r2 with
        | bad ec eo => exact cd_bad (body_cd _ _ _) hB
        | ok b r3 => trivial
      · rw [if_neg h9]; trivial
theorem prog_cd {c f : Int} : ∀ (n : Nat) (acc : List PCls) (R : List Tok), Cd c (progF c f n acc R) := by
  intro n
  induction n with
  | zero => intro acc R; exact .inl rfl
  | succ n ih =>
    intro acc R
    cases hT : takeP c f [1, 0] R with
    | bad e1 e2 => rw [prog_bad1 hT]; exact cd_bad take_cd hT
    | ok t r1 =>
      by_cases h0 : t.k = 0
      · rw [prog_end hT h0]; trivial
      · by_cases h5 : acc.length = 512
        · rw [prog_lim hT h0 h5]; exact .inr (by decide)
        · cases hC : clauseP c f t r1 with
          | bad e1 e2 => rw [prog_cls hT h0 h5 hC]; exact cd_bad clause_cd hC
          | ok x r2 => rw [prog_more hT h0 h5 hC]; exact ih _ _
theorem facts_cd {c f : Int} : ∀ (n : Nat) (acc : List PAtom) (R : List Tok), Cd c (factsF c f n acc R) := by
  intro n
  induction n with
  | zero => intro acc R; exact .inl rfl
  | succ n ih =>
    intro acc R
    cases hT : takeP c f [1, 0] R with
    | bad e1 e2 => rw [facts_bad1 hT]; exact cd_bad take_cd hT
    | ok t r1 =>
      by_cases h0 : t.k = 0
      · rw [facts_end hT h0]; trivial
      · by_cases h5 : acc.length = 4096
        · rw [facts_lim hT h0 h5]; exact .inr (by decide)
        · cases hC : atomP c f valueKs t r1 with
          | bad e1 e2 => rw [facts_atom hT h0 h5 hC]; exact cd_bad atom_cd hC
          | ok x r2 =>
            cases hD : takeP c f [8] r2 with
            | bad e1 e2 => rw [facts_dot hT h0 h5 hC hD]; exact cd_bad take_cd hD
            | ok s r3 => rw [facts_more hT h0 h5 hC hD]; exact ih _ _
theorem query_cd {c f : Int} {R : List Tok} : Cd c (queryP c f R) := by
  unfold queryP
  cases hB : bodyP c f R with
  | bad ec eo => exact cd_bad (body_cd _ _ _) hB
  | ok b r =>
    simp only
    cases hT : takeP c f [0] r with
    | bad ec eo => exact cd_bad take_cd hT
    | ok s r2 => trivial
theorem fact_cd {c f : Int} {R : List Tok} : Cd c (factP c f R) := by
  unfold factP
  cases hT : takeP c f [1] R with
  | bad ec eo => exact cd_bad take_cd hT
  | ok t r =>
    simp only
    cases hA : atomP c f valueKs t r with
    | bad ec eo => exact cd_bad atom_cd hA
    | ok a r2 =>
      simp only
      cases hD : takeP c f [0] r2 with
      | bad ec eo => exact cd_bad take_cd hD
      | ok s r3 => trivial
def fltP {α : Type} : PR α → Int × Int
  | .bad c o => (c, o)
  | .ok _ _ => (0, 0)
theorem flt_ne1 {α : Type} {c : Int} {x : PR α} (h : Cd c x) (hc : c ≠ 1) : (fltP x).1 ≠ 1 := by
  cases x with
  | bad ec eo => show ec ≠ 1; rcases h with h | h <;> omega
  | ok a r => show (0 : Int) ≠ 1; decide
theorem toks_c {s : ByteArray} {o : Nat} {L : List Tok} {c : Int} {f : Nat} (h : Toks s o L c f) : c ≠ 1 := by
  induction h with
  | bad ho hx => rcases next_bad hx with h | h <;> omega
  | last ho hx hk => decide
  | more ho hx hk T ih => exact ih
/-- The fault that each of the four readers tells. -/
def fOf (r : Nat) (s : ByteArray) : Int × Int :=
  if r = 0 then fltP (progP (scanX s).2.1 ((scanX s).2.2 : Int) (scanX s).1)
  else if r = 1 then fltP (factsP (scanX s).2.1 ((scanX s).2.2 : Int) (scanX s).1)
  else if r = 2 then fltP (queryP (scanX s).2.1 ((scanX s).2.2 : Int) (scanX s).1)
  else fltP (factP (scanX s).2.1 ((scanX s).2.2 : Int) (scanX s).1)
theorem fOf_short (r : Nat) {s : ByteArray} (h : s.size ≤ 65536) : (fOf r s).1 ≠ 1 := by
  have hc := toks_c (scan_toks s h)
  unfold fOf
  split
  · exact flt_ne1 (prog_cd _ _ _) hc
  · split
    · exact flt_ne1 (facts_cd _ _ _) hc
    · split
      · exact flt_ne1 query_cd hc
      · exact flt_ne1 fact_cd hc
theorem fOf_long (r : Nat) {s : ByteArray} (h : 65536 < s.size) : fOf r s = (1, 0) := by
  have e : scanX s = ([], 1, 0) := if_pos (by omega)
  unfold fOf
  rw [e]
  split
  · rfl
  · split
    · rfl
    · split <;> rfl
end Go.Proofs.YtfbmddgjbmapiaaDoor

namespace Go.Proofs.YtfbmddgjbmapiaaDoor
set_option linter.unusedSimpArgs false
set_option linter.unusedVariables false
open Go.RowKit

theorem fltProg {w w' : World} {s : ByteArray} {e : Ending} (h : ReadProg w s e w') : ∃ v, e = .returned (.tuple #[v, faultV (fltP (progP (scanX s).2.1 ((scanX s).2.2 : Int) (scanX s).1)).1 (fltP (progP (scanX s).2.1 ((scanX s).2.2 : Int) (scanX s).1)).2]) ∧ Below w.heap.size w w' := by
  cases hr : progP (scanX s).2.1 ((scanX s).2.2 : Int) (scanX s).1 with
  | bad ec eo => obtain ⟨rfl, hb⟩ := readProg_bad h hr; exact ⟨_, rfl, hb⟩
  | ok b r => obtain ⟨v, cs, rfl, -, -, -, hb⟩ := readProg_ok h hr; exact ⟨_, rfl, hb⟩
theorem fltFacts {w w' : World} {s : ByteArray} {e : Ending} (h : ReadFacts w s e w') : ∃ v, e = .returned (.tuple #[v, faultV (fltP (factsP (scanX s).2.1 ((scanX s).2.2 : Int) (scanX s).1)).1 (fltP (factsP (scanX s).2.1 ((scanX s).2.2 : Int) (scanX s).1)).2]) ∧ Below w.heap.size w w' := by
  cases hr : factsP (scanX s).2.1 ((scanX s).2.2 : Int) (scanX s).1 with
  | bad ec eo => obtain ⟨rfl, hb⟩ := readFacts_bad h hr; exact ⟨_, rfl, hb⟩
  | ok b r => obtain ⟨v, cs, rfl, -, -, -, hb⟩ := readFacts_ok h hr; exact ⟨_, rfl, hb⟩
theorem fltQuery {w w' : World} {s : ByteArray} {e : Ending} (h : ReadQuery w s e w') : ∃ v, e = .returned (.tuple #[v, faultV (fltP (queryP (scanX s).2.1 ((scanX s).2.2 : Int) (scanX s).1)).1 (fltP (queryP (scanX s).2.1 ((scanX s).2.2 : Int) (scanX s).1)).2]) ∧ Below w.heap.size w w' := by
  cases hr : queryP (scanX s).2.1 ((scanX s).2.2 : Int) (scanX s).1 with
  | bad ec eo => obtain ⟨rfl, hb⟩ := readQuery_bad h hr; exact ⟨_, rfl, hb⟩
  | ok b r => obtain ⟨v, cs, rfl, -, -, -, hb⟩ := readQuery_ok h hr; exact ⟨_, rfl, hb⟩
theorem fltFact {w w' : World} {s : ByteArray} {e : Ending} (h : ReadFact w s e w') : ∃ v, e = .returned (.tuple #[v, faultV (fltP (factP (scanX s).2.1 ((scanX s).2.2 : Int) (scanX s).1)).1 (fltP (factP (scanX s).2.1 ((scanX s).2.2 : Int) (scanX s).1)).2]) ∧ Below w.heap.size w w' := by
  cases hr : factP (scanX s).2.1 ((scanX s).2.2 : Int) (scanX s).1 with
  | bad ec eo => obtain ⟨rfl, hb⟩ := readFact_bad h hr; exact ⟨_, rfl, hb⟩
  | ok b r => obtain ⟨v, rfl, -, hb⟩ := readFact_ok h hr; exact ⟨_, rfl, hb⟩
theorem two_faults {w w2 : World} (hb : Below ((w.alloc (.cells #[.int .i64 0, .int .i64 0, .int .i64 0] 27)).alloc (.cells #[.int .i64 0, .int .i64 0, .int .i64 0] 27)).heap.size ((w.alloc (.cells #[.int .i64 0, .int .i64 0, .int .i64 0] 27)).alloc (.cells #[.int .i64 0, .int .i64 0, .int .i64 0] 27)) w2) : w2.heap[w.heap.size]? = some (.cells #[.int .i64 0, .int .i64 0, .int .i64 0] 27 (0, 0)) ∧ w2.heap[w.heap.size + 1]? = some (.cells #[.int .i64 0, .int .i64 0, .int .i64 0] 27 (0, 0)) ∧ Below w.heap.size w w2 := by
  refine ⟨?_, ?_, belowt2 (below2a w _ _) hb⟩
  · rw [hb.block _ (by simp; omega), (belowA (w.alloc _) _).block _ (by simp)]; exact heap_alloc_new w _
  · rw [hb.block _ (by simp)]
    have := heap_alloc_new (w.alloc (.cells #[.int .i64 0, .int .i64 0, .int .i64 0] 27)) (.cells #[.int .i64 0, .int .i64 0, .int .i64 0] 27)
    simpa using this
theorem fault_end {w w2 : World} (hb : Below w.heap.size w w2) (k0 : w2.heap[w.heap.size]? = some (.cells #[.int .i64 0, .int .i64 0, .int .i64 0] 27 (0, 0))) (c o : Int) :
    ((((((w2.setCell ⟨w.heap.size + 1, 0, none⟩ (.int .i64 c)).setCell ⟨w.heap.size + 1, 1, none⟩ (.int .i64 0)).setCell ⟨w.heap.size + 1, 2, none⟩ (.int .i64 o)).setCell ⟨w.heap.size, 0, none⟩ (.int .i64 c)).setCell ⟨w.heap.size, 1, none⟩ (.int .i64 0)).setCell ⟨w.heap.size, 2, none⟩ (.int .i64 o)).heap[w.heap.size]? = some (.cells #[.int .i64 c, .int .i64 0, .int .i64 o] 27 (0, 0)) ∧ Below w.heap.size w ((((((w2.setCell ⟨w.heap.size + 1, 0, none⟩ (.int .i64 c)).setCell ⟨w.heap.size + 1, 1, none⟩ (.int .i64 0)).setCell ⟨w.heap.size + 1, 2, none⟩ (.int .i64 o)).setCell ⟨w.heap.size, 0, none⟩ (.int .i64 c)).setCell ⟨w.heap.size, 1, none⟩ (.int .i64 0)).setCell ⟨w.heap.size, 2, none⟩ (.int .i64 o)) := by
  refine ⟨by simp [World.setCell, Array.getElem?_modify, k0], ?_⟩
  exact (((((((Only.of_below hb (fun k => w.heap.size ≤ k)).setCell (p := ⟨w.heap.size + 1, 0, none⟩) (Nat.le_succ _) _).setCell (p := ⟨w.heap.size + 1, 1, none⟩) (Nat.le_succ _) _).setCell (p := ⟨w.heap.size + 1, 2, none⟩) (Nat.le_succ _) _).setCell (p := ⟨w.heap.size, 0, none⟩) (Nat.le_refl _) _).setCell (p := ⟨w.heap.size, 1, none⟩) (Nat.le_refl _) _).setCell (p := ⟨w.heap.size, 2, none⟩) (Nat.le_refl _) _).below (Nat.le_refl _) (fun k hk e => by omega)
theorem faultRes (W : World) (b : Nat) (u0 u1 u2 : Value) (tmps : Array Value) (ht : tmps[4]? = some (.pointer (some ⟨b, 0, none⟩))) (hb : W.heap[b]? = some (.cells #[u0, u1, u2] 27 (0, 0))) :
    (results Tryd.f14 tmps).run Tryd.prog W = .ok (.agg #[u0, u1, u2]) W := by
  obtain ⟨⟨c0, c1, c2⟩, -⟩ := fault_cells hb
  simp [results, Tryd.results14, go_sem, ht, c0, c1, c2]

set_option maxRecDepth 100000 in
set_option maxHeartbeats 1000000 in
theorem faultOf0 (s : ByteArray) (w : World) (hl : LexLaid w) (hs : s.size ≤ 140737488351232) :
    Calls Tryd.prog 14 #[.int .i64 0, .string s] w fun e w' => e = .returned (faultV (fOf 0 s).1 (fOf 0 s).2) ∧ Below w.heap.size w w' := by
  have HC := hide (fun (W : World) (hb : Below w.heap.size w W) => parseProgram_any s W (hl.kept hb) hs)
  clear hl hs
  obtain ⟨q, hq0⟩ : ∃ q, fOf 0 s = q := ⟨_, rfl⟩
  obtain ⟨c, o⟩ := q
  rw [hq0]
  have HQ : Hid (fltP (progP (scanX s).2.1 ((scanX s).2.2 : Int) (scanX s).1) = (c, o)) := hq0
  clear hq0
  unfold faultV
  go_enter Tryd.func14, Tryd.ntmps14
  go_wp2_with (go_at_call 5; refine (HC.out _ (below2a _ _ _)).mono ?_; intro e w2 hq; obtain ⟨v, rfl, hb2⟩ := fltProg hq; clear hq; obtain ⟨k0, k1, k2⟩ := two_faults hb2; have HK2 := hide k2; clear hb2 k2; obtain ⟨⟨d0, d1, d2⟩, ⟨y0, y1, y2⟩⟩ := fault_cells k0; obtain ⟨⟨d3, d4, d5⟩, ⟨y3, y4, y5⟩⟩ := fault_cells k1; unfold faultV; rw [HQ.out])
  obtain ⟨z0, z1⟩ := fault_end HK2.out k0 c o
  exact bodyPost_ret (faultRes _ w.heap.size _ _ _ _ rfl z0) rfl ⟨rfl, z1⟩

set_option maxRecDepth 100000 in
set_option maxHeartbeats 1000000 in
theorem faultOf1 (s : ByteArray) (w : World) (hl : LexLaid w) (hs : s.size ≤ 140737488351232) :
    Calls Tryd.prog 14 #[.int .i64 1, .string s] w fun e w' => e = .returned (faultV (fOf 1 s).1 (fOf 1 s).2) ∧ Below w.heap.size w w' := by
  have HC := hide (fun (W : World) (hb : Below w.heap.size w W) => parseFacts_any s W (hl.kept hb) hs)
  clear hl hs
  obtain ⟨q, hq0⟩ : ∃ q, fOf 1 s = q := ⟨_, rfl⟩
  obtain ⟨c, o⟩ := q
  rw [hq0]
  have HQ : Hid (fltP (factsP (scanX s).2.1 ((scanX s).2.2 : Int) (scanX s).1) = (c, o)) := hq0
  clear hq0
  unfold faultV
  go_enter Tryd.func14, Tryd.ntmps14
  go_wp2_with (go_at_call 9; refine (HC.out _ (below2a _ _ _)).mono ?_; intro e w2 hq; obtain ⟨v, rfl, hb2⟩ := fltFacts hq; clear hq; obtain ⟨k0, k1, k2⟩ := two_faults hb2; have HK2 := hide k2; clear hb2 k2; obtain ⟨⟨d0, d1, d2⟩, ⟨y0, y1, y2⟩⟩ := fault_cells k0; obtain ⟨⟨d3, d4, d5⟩, ⟨y3, y4, y5⟩⟩ := fault_cells k1; unfold faultV; rw [HQ.out])
  obtain ⟨z0, z1⟩ := fault_end HK2.out k0 c o
  exact bodyPost_ret (faultRes _ w.heap.size _ _ _ _ rfl z0) rfl ⟨rfl, z1⟩

set_option maxRecDepth 100000 in
set_option maxHeartbeats 1000000 in
theorem faultOf2 (s : ByteArray) (w : World) (hl : LexLaid w) (hs : s.size ≤ 140737488351232) :
    Calls Tryd.prog 14 #[.int .i64 2, .string s] w fun e w' => e = .returned (faultV (fOf 2 s).1 (fOf 2 s).2) ∧ Below w.heap.size w w' := by
  have HC := hide (fun (W : World) (hb : Below w.heap.size w W) => parseQuery_any s W (hl.kept hb) hs)
  clear hl hs
  obtain ⟨q, hq0⟩ : ∃ q, fOf 2 s = q := ⟨_, rfl⟩
  obtain ⟨c, o⟩ := q
  rw [hq0]
  have HQ : Hid (fltP (queryP (scanX s).2.1 ((scanX s).2.2 : Int) (scanX s).1) = (c, o)) := hq0
  clear hq0
  unfold faultV
  go_enter Tryd.func14, Tryd.ntmps14
  go_wp2_with (go_at_call 22; refine (HC.out _ (below2a _ _ _)).mono ?_; intro e w2 hq; obtain ⟨v, rfl, hb2⟩ := fltQuery hq; clear hq; obtain ⟨k0, k1, k2⟩ := two_faults hb2; have HK2 := hide k2; clear hb2 k2; obtain ⟨⟨d0, d1, d2⟩, ⟨y0, y1, y2⟩⟩ := fault_cells k0; obtain ⟨⟨d3, d4, d5⟩, ⟨y3, y4, y5⟩⟩ := fault_cells k1; unfold faultV; rw [HQ.out])
  obtain ⟨z0, z1⟩ := fault_end HK2.out k0 c o
  exact bodyPost_ret (faultRes _ w.heap.size _ _ _ _ rfl z0) rfl ⟨rfl, z1⟩

set_option maxRecDepth 100000 in
set_option maxHeartbeats 1000000 in
theorem faultOf3 (s : ByteArray) (w : World) (hl : LexLaid w) (hs : s.size ≤ 140737488351232) :
    Calls Tryd.prog 14 #[.int .i64 3, .string s] w fun e w' => e = .returned (faultV (fOf 3 s).1 (fOf 3 s).2) ∧ Below w.heap.size w w' := by
  have HC := hide (fun (W : World) (hb : Below w.heap.size w W) => parseFact_any s W (hl.kept hb) hs)
  clear hl hs
  obtain ⟨q, hq0⟩ : ∃ q, fOf 3 s = q := ⟨_, rfl⟩
  obtain ⟨c, o⟩ := q
  rw [hq0]
  have HQ : Hid (fltP (factP (scanX s).2.1 ((scanX s).2.2 : Int) (scanX s).1) = (c, o)) := hq0
  clear hq0
  unfold faultV
  go_enter Tryd.func14, Tryd.ntmps14
  go_wp2_with (go_at_call 23; refine (HC.out _ (below2a _ _ _)).mono ?_; intro e w2 hq; obtain ⟨v, rfl, hb2⟩ := fltFact hq; clear hq; obtain ⟨k0, k1, k2⟩ := two_faults hb2; have HK2 := hide k2; clear hb2 k2; obtain ⟨⟨d0, d1, d2⟩, ⟨y0, y1, y2⟩⟩ := fault_cells k0; obtain ⟨⟨d3, d4, d5⟩, ⟨y3, y4, y5⟩⟩ := fault_cells k1; unfold faultV; rw [HQ.out])
  obtain ⟨z0, z1⟩ := fault_end HK2.out k0 c o
  exact bodyPost_ret (faultRes _ w.heap.size _ _ _ _ rfl z0) rfl ⟨rfl, z1⟩

theorem faultOf_any (r : Nat) (hr : r < 4) (s : ByteArray) (w : World) (hl : LexLaid w) (hs : s.size ≤ 140737488351232) :
    Calls Tryd.prog 14 #[.int .i64 (r : Int), .string s] w fun e w' => e = .returned (faultV (fOf r s).1 (fOf r s).2) ∧ Below w.heap.size w w' := by
  match r, hr with
  | 0, _ => exact faultOf0 s w hl hs
  | 1, _ => exact faultOf1 s w hl hs
  | 2, _ => exact faultOf2 s w hl hs
  | 3, _ => exact faultOf3 s w hl hs
end Go.Proofs.YtfbmddgjbmapiaaDoor

namespace Go.Proofs.YtfbmddgjbmapiaaDoor
set_option linter.unusedSimpArgs false
set_option linter.unusedVariables false
open Go.RowKit

theorem small_cat (a b : ByteArray) (h : a.size + b.size ≤ 1000000) (w : World) : (Op.stringOp .add a b).run Tryd.prog w = .ok (.string (a ++ b)) w := by
  have h1 : ¬ (((a.size + b.size : Nat) : Int) > IntKind.i64.max) := by show ¬ _ > (9223372036854775807 : Int); omega
  unfold Op.stringOp
  simp only
  rw [if_neg h1]
  rfl
end Go.Proofs.YtfbmddgjbmapiaaDoor

namespace Go.Proofs.YtfbmddgjbmapiaaDoor
set_option linter.unusedSimpArgs false
set_option linter.unusedVariables false
open Go.RowKit

def takenS : ByteArray := ⟨#[112, 40, 97, 41, 58, 45, 88, 60, 49, 46]⟩
theorem takenP : progP (scanX takenS).2.1 ((scanX takenS).2.2 : Int) (scanX takenS).1 = .ok [⟨⟨⟨#[112]⟩, [⟨2, 0, ⟨#[97]⟩, 2⟩], 0⟩, [⟨3, zeroAtom, 3, ⟨4, 0, ⟨#[88]⟩, 6⟩, ⟨1, 1, ⟨#[]⟩, 8⟩, 6⟩]⟩] [] := by kernel_rfl

/-- The cells of a list's element. -/
theorem Lst.cells {α : Type} {E : El α} {w : World} {F : Nat → Prop} {ao : Option Addr} {n cap : Nat} {l : List α} (h : Lst E w F (.slice ao n cap) l) (hp : 0 < l.length) : ∃ b off, ao = some ⟨b, off, none⟩ ∧ b < w.heap.size ∧ F b ∧ ∀ i x, l[i]? = some x → ∀ j u, (E.cells x)[j]? = some u → w.cell? ⟨b, off + i * E.size + j, none⟩ = some u := h.row hp

theorem one_of_map {α β : Type} {g : α → β} {l : List α} {y : β} (h : l.map g = [y]) : ∃ c, l = [c] := by
  match l, h with
  | [c], _ => exact ⟨c, rfl⟩

set_option maxRecDepth 100000 in
set_option maxHeartbeats 2000000 in
theorem taken_any (w : World) (hl : LexLaid w) : Calls Tryd.prog 10 #[] w fun e w' => e = .returned (.bool true) ∧ Below w.heap.size w w' := by
  have HC := hide (parseProgram_any takenS w hl (by decide))
  have hfs := fault_self
  clear hl
  go_enter Tryd.func10, Tryd.ntmps10
  go_wp2_with (go_at_call 5; refine HC.out.mono ?_; intro e w1 hq; obtain ⟨v, cs, rfl, hpur, hlen, hls, hb1⟩ := readProg_ok hq takenP; clear hq; obtain ⟨⟨⟨cp, cv, coff, cts⟩, bv, ls⟩, rfl⟩ : ∃ c, cs = [c] := one_of_map hpur; have HB1 := hide hb1; have hx := hpur; simp only [List.map_cons, List.map_nil, Clx.pur, Atx.pur, List.cons.injEq, PCls.mk.injEq, PAtom.mk.injEq, and_true] at hx; obtain ⟨⟨rfl, rfl, rfl⟩, hlb⟩ := hx; obtain ⟨⟨lk, la, lop, ll, lr, loff⟩, rfl⟩ : ∃ c, ls = [c] := one_of_map hlb; simp only [List.map_cons, List.map_nil, Lix.pur, List.cons.injEq, PLit.mk.injEq, and_true] at hlb; obtain ⟨rfl, -, rfl, rfl, rfl, rfl⟩ := hlb; clear hpur hlen hb1; obtain ⟨va, vc, rfl, -⟩ := hls.shape; obtain ⟨b0, o0, rfl, -, -, r0⟩ := hls.row (by simp); have hok := hls.ok (List.mem_singleton.2 rfl); obtain ⟨ta, tc, rfl, -⟩ := (show Lst elTrm w1 (fun k => w.heap.size ≤ k) cv [(⟨2, 0, ⟨#[97]⟩, 2⟩ : Trm)] from hok.1.2.2).shape; obtain ⟨b1, o1, rfl, -, -, r1⟩ := (show Lst elTrm w1 (fun k => w.heap.size ≤ k) (.slice ta 1 tc) [(⟨2, 0, ⟨#[97]⟩, 2⟩ : Trm)] from hok.1.2.2).row (by simp); obtain ⟨la2, lc, rfl, -⟩ := (show Lst elLix w1 (fun k => w.heap.size ≤ k) bv [(⟨3, la, 3, ⟨4, 0, ⟨#[88]⟩, 6⟩, ⟨1, 1, ⟨#[]⟩, 8⟩, 6⟩ : Lix)] from hok.2).shape; obtain ⟨b2, o2, rfl, -, -, r2⟩ := (show Lst elLix w1 (fun k => w.heap.size ≤ k) (.slice la2 1 lc) [(⟨3, la, 3, ⟨4, 0, ⟨#[88]⟩, 6⟩, ⟨1, 1, ⟨#[]⟩, 8⟩, 6⟩ : Lix)] from hok.2).row (by simp); have HX := hide (And.intro (r0 0 _ rfl) (And.intro (r1 0 _ rfl) (r2 0 _ rfl))); clear r0 r1 r2 hok hls; have k0 := kept_cell (below2a w1 (.cells #[.slice (some ⟨b0, o0, none⟩) 1 vc] 24) (.cells #[.int .i64 0, .int .i64 0, .int .i64 0] 27)) (HX.out.1 0 _ rfl); have k1 := kept_cell (below2a w1 (.cells #[.slice (some ⟨b0, o0, none⟩) 1 vc] 24) (.cells #[.int .i64 0, .int .i64 0, .int .i64 0] 27)) (HX.out.1 1 _ rfl); have k3 := kept_cell (below2a w1 (.cells #[.slice (some ⟨b0, o0, none⟩) 1 vc] 24) (.cells #[.int .i64 0, .int .i64 0, .int .i64 0] 27)) (HX.out.1 3 _ rfl); have k5 := kept_cell (below2a w1 (.cells #[.slice (some ⟨b0, o0, none⟩) 1 vc] 24) (.cells #[.int .i64 0, .int .i64 0, .int .i64 0] 27)) (HX.out.2.1 2 _ rfl); have k6 := kept_cell (below2a w1 (.cells #[.slice (some ⟨b0, o0, none⟩) 1 vc] 24) (.cells #[.int .i64 0, .int .i64 0, .int .i64 0] 27)) (HX.out.2.2 10 _ rfl); simp only [Nat.zero_mul, Nat.add_zero] at k0 k1 k3 k5 k6; unfold faultV)
  go_ret
  exact ⟨rfl, belowt2 HB1.out (below2a _ _ _)⟩
end Go.Proofs.YtfbmddgjbmapiaaDoor
