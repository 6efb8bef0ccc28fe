/- parse's reader takes one fact. parse.read of one fact. parse.Fact. The law's own factIs at a fact and the same atom. The law's own sameAtom at equal atoms. The law's own sameAtoms at equal lists of atoms. ParseMakesFacts: heads without variables that the maker puts are read as just these, all together and each alone. -/
import Derived.Test.YtilckhdaijfddaaDoorProg
import Derived.Test.YtilckhdaijfddaaDoorPkM5
import Derived.Test.YtilckhdaijfddaaDoorForms
import Derived.Test.YtilckhdaijfddaaDoorOver
import Derived.Test.YtilckhdaijfddaaDoorParseLit
import Derived.Test.YtilckhdaijfddaaDoorParseAtom
import Derived.Test.YtilckhdaijfddaaDoorPkM6

namespace Go.Proofs.YtilckhdaijfddaaDoor
set_option linter.unusedSimpArgs false
set_option linter.unusedVariables false
open Go.RowKit

theorem Tryd.infoCon : (Tryd.prog.info? 80).map (fun i => (i.zero, i.size, i.bytes)) = some (some (.agg #[.int .i64 0, .int .i64 0, .string ⟨#[]⟩]), 3, 32) := by kernel_rfl

def FactPost (w : World) (p : Nat) (ao : Option Addr) (cap : Nat) (L : List Tok) (c f : Int) (res : PR PAtom) (e : Ending) (w' : World) : Prop :=
  match res with
  | .bad ec eo => e = PEnd ec eo ∧ Only (fun k => k = p) w w'
  | .ok a r => ∃ v, e = .returned (.agg #[.string a.p, v]) ∧ Lst elCon w' (fun b => w.heap.size ≤ b) v (a.ts.map Trm.con) ∧ Ahead w' p ao cap L c f r ∧ Only (fun k => k = p) w w'
theorem factPost_bad {w w' : World} {p : Nat} {ao : Option Addr} {cap : Nat} {L : List Tok} {c f ec eo : Int} {e : Ending} (h : FactPost w p ao cap L c f (.bad ec eo) e w') : e = PEnd ec eo ∧ Only (fun k => k = p) w w' := h
theorem factPost_ok {w w' : World} {p : Nat} {ao : Option Addr} {cap : Nat} {L : List Tok} {c f : Int} {a : PAtom} {r : List Tok} {e : Ending} (h : FactPost w p ao cap L c f (.ok a r) e w') : ∃ v, e = .returned (.agg #[.string a.p, v]) ∧ Lst elCon w' (fun b => w.heap.size ≤ b) v (a.ts.map Trm.con) ∧ Ahead w' p ao cap L c f r ∧ Only (fun k => k = p) w w' := h

/-- What the loop of a fact's constants keeps in memory. -/
structure FctAt (w wr : World) (p : Nat) (ao : Option Addr) (cap : Nat) (L : List Tok) (c f : Int) (R : List Tok) (b4 : Nat) (pr : ByteArray) (v : Value) (l : List Con) (av : Value) (ts : List Trm) : Prop where
  col : Coll3 elCon 80 w wr p ao cap L c f R (b4 + 1) v l
  b0 : wr.heap[w.heap.size]? = some (.cells #[.string ⟨#[]⟩, .slice none 0 0] 42 (0, 0))
  bx : wr.heap[b4]? = some (.cells #[.string pr, v] 42 (0, 0))
  ar : Lst elTrm wr (fun k => w.heap.size < k ∧ k < b4) av ts
  hb : w.heap.size < b4
section
variable {w wr wr' : World} {p : Nat} {ao : Option Addr} {cap : Nat} {L : List Tok} {c f : Int} {R R' : List Tok} {b4 : Nat} {pr : ByteArray} {v v' av : Value} {l l' : List Con} {ts : List Trm}
theorem FctAt.below (h : FctAt w wr p ao cap L c f R b4 pr v l av ts) (hb : Below wr.heap.size wr wr') : FctAt w wr' p ao cap L c f R b4 pr v l av ts :=
  ⟨h.col.below hb, by rw [hb.block _ (Array.getElem?_eq_some_iff.1 h.b0).1]; exact h.b0, by rw [hb.block _ (Array.getElem?_eq_some_iff.1 h.bx).1]; exact h.bx, h.ar.move fun k hk hF => ⟨hF, hb.block k hk⟩, h.hb⟩
theorem FctAt.cells (h : FctAt w wr p ao cap L c f R b4 pr v l av ts) : (wr.cell? ⟨w.heap.size, 0, none⟩ = some (.string ⟨#[]⟩) ∧ wr.cell? ⟨w.heap.size, 1, none⟩ = some (.slice none 0 0) ∧ wr.frozen? ⟨w.heap.size, 0, none⟩ = false ∧ wr.frozen? ⟨w.heap.size, 1, none⟩ = false) ∧ wr.cell? ⟨b4, 0, none⟩ = some (.string pr) ∧ wr.cell? ⟨b4, 1, none⟩ = some v ∧ wr.frozen? ⟨b4, 1, none⟩ = false := by
  refine ⟨⟨?_, ?_, ?_, ?_⟩, ?_, ?_, ?_⟩ <;> simp [World.cell?, World.frozen?, h.b0, h.bx]
theorem FctAt.far (h : FctAt w wr p ao cap L c f R b4 pr v l av ts) (hg : wr.grownBy wr' v.ownBlock) : wr'.heap[b4]? = some (.cells #[.string pr, v] 42 (0, 0)) := by
  have ho : Only (fun k => b4 + 1 ≤ k) wr wr' := (Only.refl _ wr).grown hg (fun k hk _ => own_new h.col.gr.1 k hk)
  rw [ho.block _ (Array.getElem?_eq_some_iff.1 h.bx).1 (by omega)]; exact h.bx
theorem FctAt.push (h : FctAt w wr p ao cap L c f R b4 pr v l av ts) (hg : wr.grownBy wr' v.ownBlock) (hG : Grow elCon 80 (b4 + 1) wr' v' l') : FctAt w (wr'.setCell ⟨b4, 1, none⟩ v') p ao cap L c f R b4 pr v' l' av ts := by
  have hp := h.col.pl
  have hb := h.hb
  have hc := h.col.grown hg hG
  have ho : Only (fun k => b4 + 1 ≤ k) wr wr' := (Only.refl _ wr).grown hg (fun k hk _ => own_new h.col.gr.1 k hk)
  have ho2 : Only (fun k => k = b4) wr' (wr'.setCell ⟨b4, 1, none⟩ v') := (Only.refl (fun k => k = b4) wr').setCell (p := ⟨b4, 1, none⟩) rfl _
  have hb0 : wr'.heap[w.heap.size]? = some (.cells #[.string ⟨#[]⟩, .slice none 0 0] 42 (0, 0)) := by rw [ho.block _ (Array.getElem?_eq_some_iff.1 h.b0).1 (by omega)]; exact h.b0
  refine ⟨⟨?_, hc.gr.above fun b hb hlt => ho2.block b hlt (by omega), hc.on.trans (ho2.mono fun k _ (e : k = b4) => .inr (by omega)), hp, hc.tk, hc.lo, Nat.le_trans hc.hi ho2.size⟩, ?_, ?_, ?_, hb⟩
  · obtain ⟨i, q1, q2⟩ := hc.ah
    exact ⟨i, q1.only ho2 (by omega) (fun g hg hl => by have := hc.tk g hg hl; omega), q2⟩
  · rw [ho2.block _ (Array.getElem?_eq_some_iff.1 hb0).1 (by omega)]; exact hb0
  · have := h.far hg
    simp [World.setCell, Array.getElem?_modify, this]
  · exact h.ar.move fun k hk hF => ⟨hF, by rw [ho2.block k (Nat.lt_of_lt_of_le hk ho.size) (by omega), ho.block k hk (by omega)]⟩
end
theorem fctRes (W : World) (b : Nat) (u0 u1 : Value) (tmps : Array Value) (ht : tmps[2]? = some (.pointer (some ⟨b, 0, none⟩))) (hb : W.heap[b]? = some (.cells #[u0, u1] 42 (0, 0))) :
    (results Tryd.f22 tmps).run Tryd.prog W = .ok (.agg #[u0, u1]) W := by
  have c0 : W.cell? ⟨b, 0, none⟩ = some u0 := by simp [World.cell?, hb]
  have c1 : W.cell? ⟨b, 1, none⟩ = some u1 := by simp [World.cell?, hb]
  simp [results, Tryd.results22, go_sem, ht, c0, c1]
theorem atom3_cells {V : World} {b : Nat} {u0 u1 u2 : Value} (h : V.heap[b]? = some (.cells #[u0, u1, u2] 32 (0, 0))) : V.cell? ⟨b, 0, none⟩ = some u0 ∧ V.cell? ⟨b, 1, none⟩ = some u1 := by
  refine ⟨?_, ?_⟩ <;> simp [World.cell?, h]

theorem box_kept0 {W W' : World} {b : Nat} {x : Obj} (h : W.heap[b]? = some x) (hb : Below W.heap.size W W') : W'.heap[b]? = some x := by
  rw [hb.block _ (Array.getElem?_eq_some_iff.1 h).1]; exact h
theorem box_moved0 {W W' : World} {p b : Nat} {x : Obj} (h : W.heap[b]? = some x) (hp : p ≠ b) (ho : Only (fun k => k = p) W W') : W'.heap[b]? = some x := by
  rw [ho.block _ (Array.getElem?_eq_some_iff.1 h).1 (by omega)]; exact h
set_option maxHeartbeats 4000000 in
set_option maxRecDepth 100000 in
theorem fact_any {w : World} {p : Nat} {ao : Option Addr} {cap : Nat} {L : List Tok} {c f : Int} {R : List Tok} (h : Ahead w p ao cap L c f R) :
    Calls Tryd.prog 22 #[.pointer (some ⟨p, 0, none⟩)] w (FactPost w p ao cap L c f (factP c f R)) := by
  have H0 := hide h
  have hp := h.lt
  have HB0 := hide (belowA w (.cells #[.string ⟨#[]⟩, .slice none 0 0] 42))
  have HA0 := hide (h.kept (belowA w (.cells #[.string ⟨#[]⟩, .slice none 0 0] 42)))
  clear h
  cases hT : takeP c f [1] R with
  | bad ec eo =>
    have HT : Hid (∀ (W : World) (g : Nat), W.heap.size = g → Ahead W p ao cap L c f R → Calls Tryd.prog 40 #[.pointer (some ⟨p, 0, none⟩), .slice (some ⟨g, 0, none⟩) 1 1] (W.alloc (.cells #[.int .i64 1] 3)) fun e w' => e = PEnd ec eo ∧ Below W.heap.size W w') := fun W g hg ha => hg ▸ take_lit_fail [1] ha (by decide) hT
    rw [show factP c f R = .bad ec eo from by unfold factP; rw [hT]]
    clear hT
    unfold FactPost
    go_enter Tryd.func22, Tryd.ntmps22
    go_wp2_with (go_at_call 40; refine (HT.out _ _ (by simp) HA0.out).mono ?_; rintro e w1 ⟨rfl, hb1⟩)
    exact ⟨rfl, rfl, Only.of_below (belowt2 HB0.out hb1) _⟩
  | ok t r1 =>
    have HT : Hid (∀ (W : World) (g : Nat), W.heap.size = g → Ahead W p ao cap L c f R → Calls Tryd.prog 40 #[.pointer (some ⟨p, 0, none⟩), .slice (some ⟨g, 0, none⟩) 1 1] (W.alloc (.cells #[.int .i64 1] 3)) fun e w' => e = .returned (tokV t) ∧ Ahead w' p ao cap L c f r1 ∧ Only (fun b => b = p) W w') := fun W g hg ha => hg ▸ take_lit_good [1] ha (by decide) hT
    have htg : t.good := H0.out.good t (by rw [(take_eq hT).1]; exact List.mem_cons_self)
    have HG0 := fun (W : World) (ha : Ahead W p ao cap L c f r1) => ground_any t ha htg
    cases hA : atomP c f valueKs t r1 with
    | bad ec eo =>
      rw [hA] at HG0
      have HGd := hide HG0
      rw [show factP c f R = .bad ec eo from by unfold factP; rw [hT]; simp only; rw [hA]]
      clear hT hA HG0
      unfold FactPost
      go_enter Tryd.func22, Tryd.ntmps22
      go_wp2_with (first
        | (go_at_call 40; refine (HT.out _ _ (by simp) HA0.out).mono ?_; rintro e w1 ⟨rfl, ha1, ho1⟩; have HA1 := hide ha1; have HO1 := hide (only_wide HB0.out ho1); have Hs1 := hide ho1.size; have HZ1 := hide (box_moved0 (heap_alloc_new w (.cells #[.string ⟨#[]⟩, .slice none 0 0] 42)) (by omega) ho1); clear ha1 ho1 HT)
        | (go_at_call 39; refine (HGd.out _ HA1.out).mono ?_; intro e w2 hq; obtain ⟨rfl, ho2⟩ := atmPost_bad hq; clear hq))
      exact ⟨rfl, rfl, only_drop (HO1.out.trans (ho2.mono fun k _ e => .inl e))⟩
    | ok a r2 =>
      rw [hA] at HG0
      have HGd := hide HG0
      clear HG0
      cases hD : takeP c f [0] r2 with
      | bad ec eo =>
        have HU : Hid (∀ (W : World) (g : Nat), W.heap.size = g → Ahead W p ao cap L c f r2 → Calls Tryd.prog 40 #[.pointer (some ⟨p, 0, none⟩), .slice (some ⟨g, 0, none⟩) 1 1] (W.alloc (.cells #[.int .i64 0] 3)) fun e w' => e = PEnd ec eo ∧ Below W.heap.size W w') := fun W g hg ha => hg ▸ take_lit_fail [0] ha (by decide) hD
        rw [show factP c f R = .bad ec eo from by unfold factP; rw [hT]; simp only; rw [hA]; simp only; rw [hD]]
        clear hT hA hD
        unfold FactPost
        go_enter Tryd.func22, Tryd.ntmps22
        go_wp2_with (first
          | (go_at_call 40; refine (HT.out _ _ (by simp) HA0.out).mono ?_; rintro e w1 ⟨rfl, ha1, ho1⟩; have HA1 := hide ha1; have HO1 := hide (only_wide HB0.out ho1); have Hs1 := hide ho1.size; have HZ1 := hide (box_moved0 (heap_alloc_new w (.cells #[.string ⟨#[]⟩, .slice none 0 0] 42)) (by omega) ho1); clear ha1 ho1 HT)
          | (go_at_call 39; refine (HGd.out _ HA1.out).mono ?_; intro e w2 hq; obtain ⟨⟨ap, av, aoff, ats⟩, rfl, hpur, hok, ha2, ho2⟩ := atmPost_ok hq; clear hq; obtain ⟨xa, xc, rfl, -⟩ := (show Lst elTrm _ _ av ats from hok.2.2).shape; have HA2 := hide (ha2.kept (belowA w2 (.cells #[.string ap, .slice xa ats.length xc, .int .i64 aoff] 32))); have HO2 := hide ((HO1.out.trans (ho2.mono fun k _ e => .inl e)).alloc (.cells #[.string ap, .slice xa ats.length xc, .int .i64 aoff] 32)); have HZ2 := hide (box_kept0 (box_moved0 HZ1.out (by omega) ho2) (belowA w2 (.cells #[.string ap, .slice xa ats.length xc, .int .i64 aoff] 32))); have HX2 := hide (heap_alloc_new w2 (.cells #[.string ap, .slice xa ats.length xc, .int .i64 aoff] 32)); have HAr2 := hide ((show Lst elTrm w2 (fun b => w1.heap.size ≤ b) (.slice xa ats.length xc) ats from hok.2.2).move fun k hk hF => (⟨⟨by have := Hs1.out; simp at this; omega, hk⟩, (belowA w2 (.cells #[.string ap, .slice xa ats.length xc, .int .i64 aoff] 32)).block k hk⟩ : (w.heap.size < k ∧ k < w2.heap.size) ∧ _)); have Hs2 := hide (Nat.le_trans Hs1.out ho2.size); have HPu := hide hpur; clear hpur hok ha2 ho2 HGd; unfold Atx.val)
          | (go_at_call 40; refine (HU.out _ _ (by simp) HA2.out).mono ?_; rintro e w3 ⟨rfl, hb3⟩))
        exact ⟨rfl, rfl, only_drop (HO2.out.trans (Only.of_below hb3 _))⟩
      | ok s r3 =>
        have HU : Hid (∀ (W : World) (g : Nat), W.heap.size = g → Ahead W p ao cap L c f r2 → Calls Tryd.prog 40 #[.pointer (some ⟨p, 0, none⟩), .slice (some ⟨g, 0, none⟩) 1 1] (W.alloc (.cells #[.int .i64 0] 3)) fun e w' => e = .returned (tokV s) ∧ Ahead w' p ao cap L c f r3 ∧ Only (fun b => b = p) W w') := fun W g hg ha => hg ▸ take_lit_good [0] ha (by decide) hD
        rw [show factP c f R = .ok a r3 from by unfold factP; rw [hT]; simp only; rw [hA]; simp only; rw [hD]]
        clear hT hA hD
        obtain ⟨Post, hPost⟩ : ∃ Post : Ending → World → Prop, Post = FactPost w p ao cap L c f (.ok a r3) := ⟨_, rfl⟩
        rw [← hPost]
        have PG : Hid (∀ v w', Lst elCon w' (fun b => w.heap.size ≤ b) v (a.ts.map Trm.con) → Ahead w' p ao cap L c f r3 → Only (fun k => k = p) w w' → Post (.returned (.agg #[.string a.p, v])) w') := fun v w' h1 h2 h3 => by
          rw [hPost]; exact ⟨v, rfl, h1, h2, h3⟩
        clear hPost
        go_enter Tryd.func22, Tryd.ntmps22
        go_wp2_with (first
          | (go_at_call 40; refine (HT.out _ _ (by simp) HA0.out).mono ?_; rintro e w1 ⟨rfl, ha1, ho1⟩; have HA1 := hide ha1; have HO1 := hide (only_wide HB0.out ho1); have Hs1 := hide ho1.size; have HZ1 := hide (box_moved0 (heap_alloc_new w (.cells #[.string ⟨#[]⟩, .slice none 0 0] 42)) (by omega) ho1); clear ha1 ho1 HT)
          | (go_at_call 39; refine (HGd.out _ HA1.out).mono ?_; intro e w2 hq; obtain ⟨⟨ap, av, aoff, ats⟩, rfl, hpur, hok, ha2, ho2⟩ := atmPost_ok hq; clear hq; obtain ⟨xa, xc, rfl, -⟩ := (show Lst elTrm _ _ av ats from hok.2.2).shape; have HA2 := hide (ha2.kept (belowA w2 (.cells #[.string ap, .slice xa ats.length xc, .int .i64 aoff] 32))); have HO2 := hide ((HO1.out.trans (ho2.mono fun k _ e => .inl e)).alloc (.cells #[.string ap, .slice xa ats.length xc, .int .i64 aoff] 32)); have HZ2 := hide (box_kept0 (box_moved0 HZ1.out (by omega) ho2) (belowA w2 (.cells #[.string ap, .slice xa ats.length xc, .int .i64 aoff] 32))); have HX2 := hide (heap_alloc_new w2 (.cells #[.string ap, .slice xa ats.length xc, .int .i64 aoff] 32)); have HAr2 := hide ((show Lst elTrm w2 (fun b => w1.heap.size ≤ b) (.slice xa ats.length xc) ats from hok.2.2).move fun k hk hF => (⟨⟨by have := Hs1.out; simp at this; omega, hk⟩, (belowA w2 (.cells #[.string ap, .slice xa ats.length xc, .int .i64 aoff] 32)).block k hk⟩ : (w.heap.size < k ∧ k < w2.heap.size) ∧ _)); have Hs2 := hide (Nat.le_trans Hs1.out ho2.size); have HPu := hide hpur; clear hpur hok ha2 ho2 HGd; unfold Atx.val)
          | (go_at_call 40; refine (HU.out _ _ (by simp) HA2.out).mono ?_; rintro e w3 ⟨rfl, ha3, ho3⟩; have HA3 := hide ha3; have HO3 := hide (HO2.out.trans (ho3.mono fun k _ e => .inl e)); have HZ3 := hide (box_moved0 HZ2.out (by omega) ho3); have hs2 := Hs2.out; simp at hs2; have HX3 := hide (box_moved0 HX2.out (by omega) ho3); have HAr3 := hide (HAr2.out.move fun k hk hF => ⟨hF, ho3.block k hk (by omega)⟩); have HS3 := hide ho3.size; clear ha3 ho3; obtain ⟨m0, m1⟩ := atom3_cells HX3.out; have m2 := kept_cell (belowA w3 (.cells #[.string ap, .slice none 0 0] 42)) m1))
        have hs3 := HS3.out
        simp at hs3
        have HF0 : Hid (FctAt w (w3.alloc (.cells #[.string ap, .slice none 0 0] 42)) p ao cap L c f r3 w3.heap.size ap (.slice none 0 0) [] (.slice xa ats.length xc) ats) :=
          ⟨⟨HA3.out.kept (belowA w3 (.cells #[.string ap, .slice none 0 0] 42)), Grow.nil _ _ _ _, HO3.out.alloc _, hp, H0.out.tk, by omega, by simp⟩, box_kept0 HZ3.out (belowA w3 (.cells #[.string ap, .slice none 0 0] 42)), heap_alloc_new w3 (.cells #[.string ap, .slice none 0 0] 42), HAr3.out.move fun k hk hF => ⟨⟨hF.1, by omega⟩, (belowA w3 (.cells #[.string ap, .slice none 0 0] 42)).block k hk⟩, by omega⟩
        have hln : ats.length < 1073741824 := by obtain ⟨_, _, _, _, _, q⟩ := HAr3.out.shape; exact q
        clear m0 m1 m2 HA3 HO3 HZ3 HX3 HAr3 HS3 HA2 HO2 HZ2 HX2 HAr2 Hs2 HA1 HO1 HZ1 Hs1 HU HA0 HB0
        go_loopw [21] (fun i wr => ∃ (j : Nat) (v : Value) (l : List Con), j ≤ ats.length ∧ i = .int .i64 j ∧ Hid (l = (ats.take j).map Trm.con) ∧ Hid (FctAt w wr p ao cap L c f r3 w3.heap.size ap v l (.slice xa ats.length xc) ats)) (fun i _ => ats.length - (intOf i).toNat)
        case atStart => exact ⟨0, _, [], by omega, rfl, by show _ = _; simp, HF0⟩
        case round =>
          clear HF0
          obtain ⟨j, v, l, hj, rfl, HL, HF⟩ := hrel
          obtain ⟨va, vc, rfl, -⟩ := HF.out.col.gr.shape
          have hlj : l.length ≤ j := by rw [HL.out]; simp; omega
          by_cases hlt : j < ats.length
          · have hi : (j : Int) < (ats.length : Int) := by omega
            have hi0 : (0 : Int) ≤ (j : Int) := by omega
            obtain ⟨u, hu⟩ : ∃ u, ats[j]? = some u := ⟨_, List.getElem?_eq_getElem hlt⟩
            obtain ⟨b2, o2, rfl, -, -, hr2⟩ := HF.out.ar.row (by omega)
            have y0 := hr2 j _ hu 0 _ rfl
            have y1 := hr2 j _ hu 1 _ rfl
            have y2 := hr2 j _ hu 2 _ rfl
            have y3 := hr2 j _ hu 3 _ rfl
            simp only [elTrm, Nat.add_zero] at y0 y1 y2 y3
            have HOk : Hid (u.con.ok) := (HF.out.ar.ok (List.mem_of_getElem? hu)).1
            have HL2 : Hid (l ++ [u.con] = (ats.take (j + 1)).map Trm.con) := by
              show _ = _
              rw [HL.out, List.take_add_one, hu, Option.toList_some, List.map_append, List.map_singleton]
            have HF1 := hide (HF.out.below (belowA wr (.cells #[.int .i64 u.k, .int .i64 u.n, .string u.s, .int .i64 u.off] 73)))
            have HF2 := hide (HF1.out.below (belowA _ (.cells #[.int .i64 u.k, .int .i64 u.n, .string u.s] 80)))
            obtain ⟨-, n0, n1, n2⟩ := HF1.out.cells
            clear hr2 hu
            go_wp2_with (at_builtin; obtain ⟨i0, hi0', hz0, hz1, hz2⟩ := info_parts Tryd.infoCon; refine wpList_push (w0 := (wr.alloc (.cells #[.int .i64 u.k, .int .i64 u.n, .string u.s, .int .i64 u.off] 73)).alloc (.cells #[.int .i64 u.k, .int .i64 u.n, .string u.s] 80)) elCon rfl _ _ 40 rfl (w3.heap.size + 1) 80 i0 _ 32 Tryd.underlying40 hi0' hz0 hz1 hz2 rfl (by decide) _ l l.length rfl rfl HF2.out.col.gr u.con (wr.heap.size + 1) 1 rfl (fun j u' hu => by have := new_cells (w := wr.alloc (.cells #[.int .i64 u.k, .int .i64 u.n, .string u.s, .int .i64 u.off] 73)) (cs := #[.int .i64 u.k, .int .i64 u.n, .string u.s]) (t := 80) j u' hu; simpa using this) HOk.out (by omega) (Below.refl _ _) HF2.out.col.hi ?_; intro g cap' w5 HG5 HB5 HGr; clear HB5 hi0' hz0 hz1 hz2; have hfar := HF2.out.far HGr.out; have f0 : w5.cell? ⟨w3.heap.size, 1, none⟩ = some (.slice va l.length vc) := (by simp [World.cell?, hfar]); have f1 : w5.frozen? ⟨w3.heap.size, 1, none⟩ = false := (by simp [World.frozen?, hfar]); have HF5 := hide (HF2.out.push HGr.out HG5.out); clear HG5 HGr hfar)
            go_roundw
            case rel => exact ⟨j + 1, _, l ++ [u.con], by omega, by go_num, HL2, HF5⟩
            case measure => simp [intOf]; omega
          · obtain rfl : j = ats.length := by omega
            have hi : ¬ (ats.length : Int) < (ats.length : Int) := by omega
            obtain ⟨⟨q0, q1, q2, q3⟩, n0, n1, n2⟩ := HF.out.cells
            have hb4 := HF.out.hb
            have q4 : ¬ w3.heap.size = w.heap.size := by omega
            have q5 : ¬ w.heap.size = w3.heap.size := by omega
            go_wp2
            have ho2 : Only (fun k => k = w.heap.size) wr ((wr.setCell ⟨w.heap.size, 0, none⟩ (.string ap)).setCell ⟨w.heap.size, 1, none⟩ (.slice va l.length vc)) := ((Only.refl (fun k => k = w.heap.size) wr).setCell (p := ⟨w.heap.size, 0, none⟩) rfl _).setCell (p := ⟨w.heap.size, 1, none⟩) rfl _
            obtain ⟨z1, z2⟩ := fin_ahead H0.out HF.out.col.ah HF.out.col.on ho2 (Nat.le_refl _)
            have hz := HL.out
            rw [List.take_length] at hz
            have z3 := ((HF.out.col.gr.above fun b hb hlt => ho2.block b hlt (by omega)).new (by omega)).move (G := fun b => w.heap.size ≤ b) fun k _ hF => ⟨by omega, rfl⟩
            rw [hz] at z3
            refine bodyPost_ret (fctRes _ w.heap.size (.string ap) (.slice va l.length vc) _ rfl (by have := HF.out.b0; simp [World.setCell, Array.getElem?_modify, this])) rfl ?_
            have hpu := HPu.out
            subst hpu
            rw [hz]
            rw [hz] at z1 z2
            exact PG.out _ _ z3 z1 z2
end Go.Proofs.YtilckhdaijfddaaDoor

namespace Go.Proofs.YtilckhdaijfddaaDoor
set_option linter.unusedSimpArgs false
set_option linter.unusedVariables false
open Go.RowKit

set_option maxRecDepth 100000 in
set_option maxHeartbeats 1000000 in
theorem idleFact (p : Addr) (w : World) :
    CallsD Tryd.prog 37 #[.pointer (some p)] .returning w fun e u' w' => e = .returned (.tuple #[]) ∧ u' = .returning ∧ w' = w := by
  refine callsD_of_wpS Tryd.func37 rfl fun c₀ cs hu => ?_
  apply wpS_seq
  apply wpS_region
  simp [wpOpsS, go_sem, recoverD, hu, Tryd.ntmps37, Exit.thenS]
  apply wpS_seq
  apply wpS_seq
  apply wpS_region
  simp [wpOpsS, go_sem, Exit.thenS]
  refine wpS_cond (t := true) (by simp [Act.eval, Array.replicate]) ?_
  simp only [if_true]
  refine wpS_of_wp (wp_ret ?_)
  cases c₀
  simp_all [bodyPostS, results, Tryd.results37, Exit.thenS]

set_option maxRecDepth 100000 in
set_option maxHeartbeats 1000000 in
theorem caughtFact (b : Nat) (c o : Int) (older : List PanicEntry) (w : World) (hb : w.heap[b]? = some (.cells #[.int .i64 0, .int .i64 0, .int .i64 0] 45 (0, 0))) :
    CallsD Tryd.prog 37 #[.pointer (some ⟨b, 0, none⟩)] (.panicking ({ v := faultP c o, recovered := false } :: older)) w fun e u' w' =>
      e = .returned (.tuple #[]) ∧ u' = .panicking ({ v := faultP c o, recovered := true } :: older) ∧ w'.heap[b]? = some (.cells #[.int .i64 c, .int .i64 0, .int .i64 o] 45 (0, 0)) ∧ Only (fun k => k = b) w w' := by
  obtain ⟨⟨c0, c1, c2⟩, ⟨z0, z1, z2⟩⟩ := fault_cells hb
  have hlt := (Array.getElem?_eq_some_iff.1 hb).1
  have hne : ¬ b = w.heap.size := by omega
  have hne2 : ¬ w.heap.size = b := by omega
  have hta : ∀ W : World, (Instr.typeAssert (faultP c o) 20 45 true).run Tryd.prog W = .ok (.tuple #[.agg #[.int .i64 c, .int .i64 0, .int .i64 o], .bool true]) W := fun W => by rfl
  refine callsD_of_wpS Tryd.func37 rfl fun c₀ cs hu => ?_
  apply wpS_seq
  apply wpS_region
  simp [wpOpsS, go_sem, recoverD, hu, Tryd.ntmps37, Exit.thenS]
  apply wpS_seq
  apply wpS_seq
  apply wpS_region
  simp [wpOpsS, go_sem, Exit.thenS]
  refine wpS_cond (t := false) (by simp [Act.eval, Array.replicate]) ?_
  simp only [Bool.false_eq_true, if_false]
  refine wpS_of_wp (wp_skip ?_)
  simp only [Exit.thenS]
  refine wpS_of_wp ?_
  change Code.wp _ _ _ ⟨#[.pointer (some ⟨b, 0, none⟩), faultP c o, undef, undef, faultP c o, faultP c o, .bool false, undef, undef, undef, undef, undef, undef, undef, undef, undef], []⟩ w
  go_wp2
  have hX : ((((w.setCell ⟨b, 0, none⟩ (.int .i64 c)).setCell ⟨b, 1, none⟩ (.int .i64 0)).setCell ⟨b, 2, none⟩ (.int .i64 o)).alloc (.cells #[.int .i64 c, .int .i64 0, .int .i64 o] 45)).heap[b]? = some (.cells #[.int .i64 c, .int .i64 0, .int .i64 o] 45 (0, 0)) := by
    rw [(belowA _ _).block _ (by simp; exact hlt)]
    simp [World.setCell, Array.getElem?_modify, hb]
  have hO : Only (fun k => k = b) w ((((w.setCell ⟨b, 0, none⟩ (.int .i64 c)).setCell ⟨b, 1, none⟩ (.int .i64 0)).setCell ⟨b, 2, none⟩ (.int .i64 o)).alloc (.cells #[.int .i64 c, .int .i64 0, .int .i64 o] 45)) :=
    ((((Only.refl (fun k => k = b) w).setCell (p := ⟨b, 0, none⟩) rfl _).setCell (p := ⟨b, 1, none⟩) rfl _).setCell (p := ⟨b, 2, none⟩) rfl _).alloc _
  generalize (((w.setCell ⟨b, 0, none⟩ (.int .i64 c)).setCell ⟨b, 1, none⟩ (.int .i64 0)).setCell ⟨b, 2, none⟩ (.int .i64 o)).alloc (.cells #[.int .i64 c, .int .i64 0, .int .i64 o] 45) = V at hX hO ⊢
  simp [bodyPostS, results, Tryd.results37, hX, hO]

def ReadFact (w : World) (s : ByteArray) (e : Ending) (w' : World) : Prop :=
  match factP (scanX s).2.1 ((scanX s).2.2 : Int) (scanX s).1 with
  | .bad ec eo => e = .returned (.tuple #[.agg #[.string ⟨#[]⟩, .slice none 0 0], faultV ec eo]) ∧ Below w.heap.size w w'
  | .ok b _ => ∃ v, e = .returned (.tuple #[.agg #[.string b.p, v], faultV 0 0]) ∧ Lst elCon w' (fun k => w.heap.size ≤ k) v (b.ts.map Trm.con) ∧ Below w.heap.size w w'

set_option maxRecDepth 100000 in
set_option maxHeartbeats 2000000 in
theorem readFact_any (s : ByteArray) (w : World) (hl : LexLaid w) (hs : s.size ≤ 140737488351232) :
    Calls Tryd.prog 21 #[.string s, .func (.func 22) #[] #[]] w (ReadFact w s) := by
  have hmf : ∀ (fn : Fn) (first cap : Array Value) (w : World), (Instr.makeFunc fn first cap).run Tryd.prog w = .ok (.func fn first cap) w := fun _ _ _ _ => rfl
  have HSc := hide (fun (W : World) (hb : Below w.heap.size w W) => scan_any s W (hl.kept hb) hs)
  clear hl hs
  unfold faultVal at HSc
  obtain ⟨res, hres⟩ : ∃ res, factP (scanX s).2.1 ((scanX s).2.2 : Int) (scanX s).1 = res := ⟨_, rfl⟩
  obtain ⟨Post, hPost⟩ : ∃ Post : Ending → World → Prop, Post = ReadFact w s := ⟨_, rfl⟩
  rw [← hPost]
  have PB : Hid (∀ ec eo w', res = .bad ec eo → Below w.heap.size w w' → Post (.returned (.tuple #[.agg #[.string ⟨#[]⟩, .slice none 0 0], .agg #[.int .i64 ec, .int .i64 0, .int .i64 eo]])) w') := fun ec eo w' hr hb => by
    rw [hPost]; unfold ReadFact; rw [hres, hr]; exact ⟨rfl, hb⟩
  have PG : Hid (∀ b r v w', res = .ok b r → Lst elCon w' (fun k => w.heap.size ≤ k) v (b.ts.map Trm.con) → Below w.heap.size w w' → Post (.returned (.tuple #[.agg #[.string b.p, v], .agg #[.int .i64 0, .int .i64 0, .int .i64 0]])) w') := fun b r v w' hr h3 h4 => by
    rw [hPost]; unfold ReadFact; rw [hres, hr]; exact ⟨v, rfl, h3, h4⟩
  have HR := hide hres
  clear hPost hres
  go_enter_defers Tryd.func21, Tryd.ntmps21
  go_wp2_with (go_at_call 38; refine (HSc.out _ (below2a _ _ _)).mono ?_; rintro e w1 ⟨v, rfl, ho1, hb1⟩; obtain ⟨ao, cap, rfl⟩ := own_shape ho1; have HO1 := hide ho1; have HB1 := hide hb1; clear ho1 hb1)
  have hs1 : w.heap.size + 2 ≤ w1.heap.size := by have := HB1.out.size; simp at this; omega
  have HA := hide (scan_ahead HB1.out HO1.out (W2 := (w1.alloc (.cells #[.int .i64 (scanX s).2.1, .int .i64 0, .int .i64 ((scanX s).2.2 : Int)] 45)).alloc (.cells #[.slice ao (scanX s).1.length cap, .int .i64 (scanX s).2.1, .int .i64 0, .int .i64 ((scanX s).2.2 : Int), .int .i64 0] 105)) (below2a w1 _ _) rfl (p := w1.heap.size + 1) (by omega) (by have := heap_alloc_new (w1.alloc (.cells #[.int .i64 (scanX s).2.1, .int .i64 0, .int .i64 ((scanX s).2.2 : Int)] 45)) (.cells #[.slice ao (scanX s).1.length cap, .int .i64 (scanX s).2.1, .int .i64 0, .int .i64 ((scanX s).2.2 : Int), .int .i64 0] 105); simpa using this))
  have HP := fact_any HA.out
  rw [HR.out] at HP
  have HK : Hid (∀ w2, Only (fun k => k = w1.heap.size + 1) ((w1.alloc (.cells #[.int .i64 (scanX s).2.1, .int .i64 0, .int .i64 ((scanX s).2.2 : Int)] 45)).alloc (.cells #[.slice ao (scanX s).1.length cap, .int .i64 (scanX s).2.1, .int .i64 0, .int .i64 ((scanX s).2.2 : Int), .int .i64 0] 105)) w2 → w2.heap[w.heap.size]? = some (.cells #[.string ⟨#[]⟩, .slice none 0 0] 42 (0, 0)) ∧ w2.heap[w.heap.size + 1]? = some (.cells #[.int .i64 0, .int .i64 0, .int .i64 0] 45 (0, 0)) ∧ Only (fun k => w.heap.size ≤ k) w w2) := fun w2 ho => by
    have q : ∀ k, k < w.heap.size + 2 → w2.heap[k]? = ((w.alloc (.cells #[.string ⟨#[]⟩, .slice none 0 0] 42)).alloc (.cells #[.int .i64 0, .int .i64 0, .int .i64 0] 45)).heap[k]? := fun k hk => by
      rw [ho.block k (by simp; omega) (by omega), (below2a w1 _ _).block k (by omega), HB1.out.block k (by simp; omega)]
    refine ⟨?_, ?_, ((Only.of_below (below2a w _ _) _).trans (Only.of_below HB1.out _)).trans ((Only.of_below (below2a w1 _ _) _).trans (ho.mono fun k _ (e : k = w1.heap.size + 1) => by omega))⟩
    · rw [q _ (by omega), (belowA (w.alloc _) _).block _ (by simp)]; exact heap_alloc_new w _
    · rw [q _ (by omega)]
      have := heap_alloc_new (w.alloc (.cells #[.string ⟨#[]⟩, .slice none 0 0] 42)) (.cells #[.int .i64 0, .int .i64 0, .int .i64 0] 45)
      simpa using this
  clear HO1 HB1 HSc HR
  cases res with
  | bad ec eo =>
    refine HP.mono ?_
    intro e w2 hq
    obtain ⟨rfl, ho2⟩ := factPost_bad hq
    obtain ⟨k0, k1, k2⟩ := HK.out w2 ho2
    clear hq HP HA
    refine leaves_cons (f := 37) (args := #[.pointer (some ⟨w.heap.size + 1, 0, none⟩)]) (by simp) (by simp [go_sem]) ?_
    refine (caughtFact (w.heap.size + 1) ec eo [] w2 k1).mono ?_
    rintro e u' w3 ⟨rfl, rfl, h3, o3⟩
    have h0 : w3.heap[w.heap.size]? = some (.cells #[.string ⟨#[]⟩, .slice none 0 0] 42 (0, 0)) := by rw [o3.block _ (Array.getElem?_eq_some_iff.1 k0).1 (by omega)]; exact k0
    have c0 : w3.cell? ⟨w.heap.size, 0, none⟩ = some (.string ⟨#[]⟩) := by simp [World.cell?, h0]
    have c1 : w3.cell? ⟨w.heap.size, 1, none⟩ = some (.slice none 0 0) := by simp [World.cell?, h0]
    obtain ⟨⟨d0, d1, d2⟩, -⟩ := fault_cells h3
    have HF := hide (PB.out ec eo w3 rfl ((k2.trans (o3.mono fun k _ (e : k = w.heap.size + 1) => by omega)).below (Nat.le_refl _) (fun k hk e => by omega)))
    clear o3 h3 h0 k0 k1 k2
    simp [Leaves, settle, results, Tryd.results21, go_sem, c0, c1, d0, d1, d2]
    exact HF.out
  | ok b r =>
    refine HP.mono ?_
    intro e w2 hq
    obtain ⟨v, rfl, hgr, ha2, ho2⟩ := factPost_ok hq
    obtain ⟨va, vc, rfl, -⟩ := hgr.shape
    obtain ⟨k0, k1, k2⟩ := HK.out w2 ho2
    have HG := hide hgr
    have HK2 := hide k2
    clear hq HP HA hgr ha2 ho2
    have c0 : w2.cell? ⟨w.heap.size, 0, none⟩ = some (.string ⟨#[]⟩) := by simp [World.cell?, k0]
    have c1 : w2.cell? ⟨w.heap.size, 1, none⟩ = some (.slice none 0 0) := by simp [World.cell?, k0]
    have z0 : w2.frozen? ⟨w.heap.size, 0, none⟩ = false := by simp [World.frozen?, k0]
    have z1 : w2.frozen? ⟨w.heap.size, 1, none⟩ = false := by simp [World.frozen?, k0]
    obtain ⟨⟨d0, d1, d2⟩, ⟨y0, y1, y2⟩⟩ := fault_cells k1
    obtain ⟨m, hm⟩ : ∃ m, m = (b.ts.map Trm.con).length := ⟨_, rfl⟩
    have HM := hide hm
    rw [← hm]
    clear hm
    go_wp2_with fail
    have hO : Only (fun k => k = w.heap.size ∨ k = w.heap.size + 1) w2 (((((w2.setCell ⟨w.heap.size, 0, none⟩ (.string b.p)).setCell ⟨w.heap.size, 1, none⟩ (.slice va m vc)).setCell ⟨w.heap.size + 1, 0, none⟩ (.int .i64 0)).setCell ⟨w.heap.size + 1, 1, none⟩ (.int .i64 0)).setCell ⟨w.heap.size + 1, 2, none⟩ (.int .i64 0)) := (((((Only.refl (fun k => k = w.heap.size ∨ k = w.heap.size + 1) w2).setCell (p := ⟨w.heap.size, 0, none⟩) (.inl rfl) _).setCell (p := ⟨w.heap.size, 1, none⟩) (.inl rfl) _).setCell (p := ⟨w.heap.size + 1, 0, none⟩) (.inr rfl) _).setCell (p := ⟨w.heap.size + 1, 1, none⟩) (.inr rfl) _).setCell (p := ⟨w.heap.size + 1, 2, none⟩) (.inr rfl) _
    have hV0 : (((((w2.setCell ⟨w.heap.size, 0, none⟩ (.string b.p)).setCell ⟨w.heap.size, 1, none⟩ (.slice va m vc)).setCell ⟨w.heap.size + 1, 0, none⟩ (.int .i64 0)).setCell ⟨w.heap.size + 1, 1, none⟩ (.int .i64 0)).setCell ⟨w.heap.size + 1, 2, none⟩ (.int .i64 0)).heap[w.heap.size]? = some (.cells #[.string b.p, .slice va m vc] 42 (0, 0)) := by simp [World.setCell, Array.getElem?_modify, k0]
    have hV1 : (((((w2.setCell ⟨w.heap.size, 0, none⟩ (.string b.p)).setCell ⟨w.heap.size, 1, none⟩ (.slice va m vc)).setCell ⟨w.heap.size + 1, 0, none⟩ (.int .i64 0)).setCell ⟨w.heap.size + 1, 1, none⟩ (.int .i64 0)).setCell ⟨w.heap.size + 1, 2, none⟩ (.int .i64 0)).heap[w.heap.size + 1]? = some (.cells #[.int .i64 0, .int .i64 0, .int .i64 0] 45 (0, 0)) := by simp [World.setCell, Array.getElem?_modify, k1]
    generalize ((((w2.setCell ⟨w.heap.size, 0, none⟩ (.string b.p)).setCell ⟨w.heap.size, 1, none⟩ (.slice va m vc)).setCell ⟨w.heap.size + 1, 0, none⟩ (.int .i64 0)).setCell ⟨w.heap.size + 1, 1, none⟩ (.int .i64 0)).setCell ⟨w.heap.size + 1, 2, none⟩ (.int .i64 0) = V at hO hV0 hV1 ⊢
    clear c0 c1 z0 z1 d0 d1 d2 y0 y1 y2 k0 k1
    refine leaves_cons (f := 37) (args := #[.pointer (some ⟨w.heap.size + 1, 0, none⟩)]) (by simp) (by simp [go_sem]) ?_
    refine (idleFact ⟨w.heap.size + 1, 0, none⟩ V).mono ?_
    rintro e u' w3 ⟨rfl, rfl, hw⟩
    have hw := hw.symm
    subst hw
    have c0 : V.cell? ⟨w.heap.size, 0, none⟩ = some (.string b.p) := by simp [World.cell?, hV0]
    have c1 : V.cell? ⟨w.heap.size, 1, none⟩ = some (.slice va m vc) := by simp [World.cell?, hV0]
    obtain ⟨⟨d0, d1, d2⟩, -⟩ := fault_cells hV1
    have HF := hide (PG.out b r (.slice va m vc) V rfl (by rw [HM.out]; exact HG.out.move fun k hk hF => ⟨by simp at hF; omega, hO.block k hk (by simp at hF; omega)⟩) ((HK2.out.trans (hO.mono fun k _ (e : k = w.heap.size ∨ k = w.heap.size + 1) => by omega)).below (Nat.le_refl _) (fun k hk e => by omega)))
    clear hO hV0 hV1
    simp [Leaves, settle, results, Tryd.results21, go_sem, c0, c1, d0, d1, d2]
    exact HF.out
end Go.Proofs.YtilckhdaijfddaaDoor

namespace Go.Proofs.YtilckhdaijfddaaDoor
set_option linter.unusedSimpArgs false
set_option linter.unusedVariables false
open Go.RowKit

theorem factCell {V : World} {b : Nat} {u0 u1 : Value} (h : V.heap[b]? = some (.cells #[u0, u1] 42 (0, 0))) : V.cell? ⟨b, 0, none⟩ = some u0 ∧ V.cell? ⟨b, 1, none⟩ = some u1 ∧ V.frozen? ⟨b, 0, none⟩ = false ∧ V.frozen? ⟨b, 1, none⟩ = false := by
  refine ⟨?_, ?_, ?_, ?_⟩ <;> simp [World.cell?, World.frozen?, h]
theorem readFact_bad {w w' : World} {s : ByteArray} {e : Ending} {ec eo : Int} (h : ReadFact w s e w') (hr : factP (scanX s).2.1 ((scanX s).2.2 : Int) (scanX s).1 = .bad ec eo) : e = .returned (.tuple #[.agg #[.string ⟨#[]⟩, .slice none 0 0], faultV ec eo]) ∧ Below w.heap.size w w' := by
  unfold ReadFact at h
  rw [hr] at h
  exact h
theorem readFact_ok {w w' : World} {s : ByteArray} {e : Ending} {b : PAtom} {r : List Tok} (h : ReadFact w s e w') (hr : factP (scanX s).2.1 ((scanX s).2.2 : Int) (scanX s).1 = .ok b r) : ∃ v, e = .returned (.tuple #[.agg #[.string b.p, v], faultV 0 0]) ∧ Lst elCon w' (fun k => w.heap.size ≤ k) v (b.ts.map Trm.con) ∧ Below w.heap.size w w' := by
  unfold ReadFact at h
  rw [hr] at h
  exact h
theorem readFact_mkb {w w' : World} {s : ByteArray} {ec eo : Int} (hr : factP (scanX s).2.1 ((scanX s).2.2 : Int) (scanX s).1 = .bad ec eo) (hb : Below w.heap.size w w') : ReadFact w s (.returned (.tuple #[.agg #[.string ⟨#[]⟩, .slice none 0 0], faultV ec eo])) w' := by
  unfold ReadFact
  rw [hr]
  exact ⟨rfl, hb⟩
theorem readFact_mko {w w' : World} {s : ByteArray} {b : PAtom} {r : List Tok} (hr : factP (scanX s).2.1 ((scanX s).2.2 : Int) (scanX s).1 = .ok b r) {v : Value} (h3 : Lst elCon w' (fun k => w.heap.size ≤ k) v (b.ts.map Trm.con)) (hb : Below w.heap.size w w') : ReadFact w s (.returned (.tuple #[.agg #[.string b.p, v], faultV 0 0])) w' := by
  unfold ReadFact
  rw [hr]
  exact ⟨v, rfl, h3, hb⟩

set_option maxRecDepth 100000 in
set_option maxHeartbeats 2000000 in
theorem parseFact_any (s : ByteArray) (w : World) (hl : LexLaid w) (hs : s.size ≤ 140737488351232) :
    Calls Tryd.prog 7 #[.string s] w (ReadFact w s) := by
  have HC := hide (fun (W : World) (hb : Below w.heap.size w W) => readFact_any s W (hl.kept hb) hs)
  clear hl hs
  obtain ⟨Post, hPost⟩ : ∃ Post : Ending → World → Prop, Post = ReadFact w s := ⟨_, rfl⟩
  rw [← hPost]
  have HK : Hid (∀ w2, Below ((w.alloc (.cells #[.string ⟨#[]⟩, .slice none 0 0] 42)).alloc (.cells #[.int .i64 0, .int .i64 0, .int .i64 0] 45)).heap.size ((w.alloc (.cells #[.string ⟨#[]⟩, .slice none 0 0] 42)).alloc (.cells #[.int .i64 0, .int .i64 0, .int .i64 0] 45)) w2 → w2.heap[w.heap.size]? = some (.cells #[.string ⟨#[]⟩, .slice none 0 0] 42 (0, 0)) ∧ w2.heap[w.heap.size + 1]? = some (.cells #[.int .i64 0, .int .i64 0, .int .i64 0] 45 (0, 0)) ∧ Below w.heap.size w w2) := fun w2 hb => by
    refine ⟨?_, ?_, belowt2 (below2a w _ _) hb⟩
    · rw [hb.block _ (by simp; omega), (belowA (w.alloc _) _).block _ (by simp)]; exact heap_alloc_new w _
    · rw [hb.block _ (by simp)]
      have := heap_alloc_new (w.alloc (.cells #[.string ⟨#[]⟩, .slice none 0 0] 42)) (.cells #[.int .i64 0, .int .i64 0, .int .i64 0] 45)
      simpa using this
  cases hr : factP (scanX s).2.1 ((scanX s).2.2 : Int) (scanX s).1 with
  | bad ec eo =>
    have PB : Hid (∀ w', Below w.heap.size w w' → Post (.returned (.tuple #[.agg #[.string ⟨#[]⟩, .slice none 0 0], .agg #[.int .i64 ec, .int .i64 0, .int .i64 eo]])) w') := fun w' hb => by rw [hPost]; exact readFact_mkb hr hb
    have HRr := hide hr
    clear hr hPost
    go_enter Tryd.func7, Tryd.ntmps7
    go_wp2_with (go_at_call 21; refine (HC.out _ (below2a _ _ _)).mono ?_; intro e w2 hq; obtain ⟨rfl, hb2⟩ := readFact_bad hq HRr.out; clear hq; obtain ⟨k0, k1, k2⟩ := HK.out w2 hb2; have HK2 := hide k2; clear hb2 k2; obtain ⟨c0, c1, z0, z1⟩ := factCell k0; obtain ⟨⟨d0, d1, d2⟩, ⟨y0, y1, y2⟩⟩ := fault_cells k1; unfold faultV)
    have hV0 : (((((w2.setCell ⟨w.heap.size, 0, none⟩ (.string ⟨#[]⟩)).setCell ⟨w.heap.size, 1, none⟩ (.slice none 0 0)).setCell ⟨w.heap.size + 1, 0, none⟩ (.int .i64 ec)).setCell ⟨w.heap.size + 1, 1, none⟩ (.int .i64 0)).setCell ⟨w.heap.size + 1, 2, none⟩ (.int .i64 eo)).heap[w.heap.size]? = some (.cells #[.string ⟨#[]⟩, .slice none 0 0] 42 (0, 0)) := by simp [World.setCell, Array.getElem?_modify, k0]
    have hV1 : (((((w2.setCell ⟨w.heap.size, 0, none⟩ (.string ⟨#[]⟩)).setCell ⟨w.heap.size, 1, none⟩ (.slice none 0 0)).setCell ⟨w.heap.size + 1, 0, none⟩ (.int .i64 ec)).setCell ⟨w.heap.size + 1, 1, none⟩ (.int .i64 0)).setCell ⟨w.heap.size + 1, 2, none⟩ (.int .i64 eo)).heap[w.heap.size + 1]? = some (.cells #[.int .i64 ec, .int .i64 0, .int .i64 eo] 45 (0, 0)) := by simp [World.setCell, Array.getElem?_modify, k1]
    have hO : Below w.heap.size w (((((w2.setCell ⟨w.heap.size, 0, none⟩ (.string ⟨#[]⟩)).setCell ⟨w.heap.size, 1, none⟩ (.slice none 0 0)).setCell ⟨w.heap.size + 1, 0, none⟩ (.int .i64 ec)).setCell ⟨w.heap.size + 1, 1, none⟩ (.int .i64 0)).setCell ⟨w.heap.size + 1, 2, none⟩ (.int .i64 eo)) := ((((((Only.of_below HK2.out (fun k => w.heap.size ≤ k)).setCell (p := ⟨w.heap.size, 0, none⟩) (Nat.le_refl _) _).setCell (p := ⟨w.heap.size, 1, none⟩) (Nat.le_refl _) _).setCell (p := ⟨w.heap.size + 1, 0, none⟩) (Nat.le_succ _) _).setCell (p := ⟨w.heap.size + 1, 1, none⟩) (Nat.le_succ _) _).setCell (p := ⟨w.heap.size + 1, 2, none⟩) (Nat.le_succ _) _).below (Nat.le_refl _) (fun k hk e => by omega)
    generalize ((((w2.setCell ⟨w.heap.size, 0, none⟩ (.string ⟨#[]⟩)).setCell ⟨w.heap.size, 1, none⟩ (.slice none 0 0)).setCell ⟨w.heap.size + 1, 0, none⟩ (.int .i64 ec)).setCell ⟨w.heap.size + 1, 1, none⟩ (.int .i64 0)).setCell ⟨w.heap.size + 1, 2, none⟩ (.int .i64 eo) = V at hV0 hV1 hO ⊢
    obtain ⟨f0, f4, -⟩ := factCell hV0
    obtain ⟨⟨f1, f2, f3⟩, -⟩ := fault_cells hV1
    exact bodyPost_ret (v := .tuple #[.agg #[.string ⟨#[]⟩, .slice none 0 0], .agg #[.int .i64 ec, .int .i64 0, .int .i64 eo]]) (by simp [results, Tryd.results7, go_sem, f0, f4, f1, f2, f3]) rfl (PB.out _ hO)
  | ok b r =>
    have PG : Hid (∀ w' v, Lst elCon w' (fun k => w.heap.size ≤ k) v (b.ts.map Trm.con) → Below w.heap.size w w' → Post (.returned (.tuple #[.agg #[.string b.p, v], .agg #[.int .i64 0, .int .i64 0, .int .i64 0]])) w') := fun w' v h3 h4 => by rw [hPost]; exact readFact_mko hr h3 h4
    obtain ⟨m, hm⟩ : ∃ m, m = (b.ts.map Trm.con).length := ⟨_, rfl⟩
    have HM := hide hm
    clear hm
    have HRr := hide hr
    clear hr hPost
    go_enter Tryd.func7, Tryd.ntmps7
    go_wp2_with (go_at_call 21; refine (HC.out _ (below2a _ _ _)).mono ?_; intro e w2 hq; obtain ⟨v, rfl, hls, hb2⟩ := readFact_ok hq HRr.out; clear hq; obtain ⟨va, vc, rfl, -⟩ := hls.shape; rw [← HM.out] at hls ⊢; obtain ⟨k0, k1, k2⟩ := HK.out w2 hb2; have HK2 := hide k2; have HLs := hide hls; clear hb2 k2 hls; obtain ⟨c0, c1, z0, z1⟩ := factCell k0; obtain ⟨⟨d0, d1, d2⟩, ⟨y0, y1, y2⟩⟩ := fault_cells k1; unfold faultV)
    have hV0 : (((((w2.setCell ⟨w.heap.size, 0, none⟩ (.string b.p)).setCell ⟨w.heap.size, 1, none⟩ (.slice va m vc)).setCell ⟨w.heap.size + 1, 0, none⟩ (.int .i64 0)).setCell ⟨w.heap.size + 1, 1, none⟩ (.int .i64 0)).setCell ⟨w.heap.size + 1, 2, none⟩ (.int .i64 0)).heap[w.heap.size]? = some (.cells #[.string b.p, .slice va m vc] 42 (0, 0)) := by simp [World.setCell, Array.getElem?_modify, k0]
    have hV1 : (((((w2.setCell ⟨w.heap.size, 0, none⟩ (.string b.p)).setCell ⟨w.heap.size, 1, none⟩ (.slice va m vc)).setCell ⟨w.heap.size + 1, 0, none⟩ (.int .i64 0)).setCell ⟨w.heap.size + 1, 1, none⟩ (.int .i64 0)).setCell ⟨w.heap.size + 1, 2, none⟩ (.int .i64 0)).heap[w.heap.size + 1]? = some (.cells #[.int .i64 0, .int .i64 0, .int .i64 0] 45 (0, 0)) := by simp [World.setCell, Array.getElem?_modify, k1]
    have hB : Below w.heap.size w (((((w2.setCell ⟨w.heap.size, 0, none⟩ (.string b.p)).setCell ⟨w.heap.size, 1, none⟩ (.slice va m vc)).setCell ⟨w.heap.size + 1, 0, none⟩ (.int .i64 0)).setCell ⟨w.heap.size + 1, 1, none⟩ (.int .i64 0)).setCell ⟨w.heap.size + 1, 2, none⟩ (.int .i64 0)) := ((((((Only.of_below HK2.out (fun k => w.heap.size ≤ k)).setCell (p := ⟨w.heap.size, 0, none⟩) (Nat.le_refl _) _).setCell (p := ⟨w.heap.size, 1, none⟩) (Nat.le_refl _) _).setCell (p := ⟨w.heap.size + 1, 0, none⟩) (Nat.le_succ _) _).setCell (p := ⟨w.heap.size + 1, 1, none⟩) (Nat.le_succ _) _).setCell (p := ⟨w.heap.size + 1, 2, none⟩) (Nat.le_succ _) _).below (Nat.le_refl _) (fun k hk e => by omega)
    have hO : Only (fun k => k = w.heap.size ∨ k = w.heap.size + 1) w2 (((((w2.setCell ⟨w.heap.size, 0, none⟩ (.string b.p)).setCell ⟨w.heap.size, 1, none⟩ (.slice va m vc)).setCell ⟨w.heap.size + 1, 0, none⟩ (.int .i64 0)).setCell ⟨w.heap.size + 1, 1, none⟩ (.int .i64 0)).setCell ⟨w.heap.size + 1, 2, none⟩ (.int .i64 0)) := (((((Only.refl (fun k => k = w.heap.size ∨ k = w.heap.size + 1) w2).setCell (p := ⟨w.heap.size, 0, none⟩) (.inl rfl) _).setCell (p := ⟨w.heap.size, 1, none⟩) (.inl rfl) _).setCell (p := ⟨w.heap.size + 1, 0, none⟩) (.inr rfl) _).setCell (p := ⟨w.heap.size + 1, 1, none⟩) (.inr rfl) _).setCell (p := ⟨w.heap.size + 1, 2, none⟩) (.inr rfl) _
    generalize ((((w2.setCell ⟨w.heap.size, 0, none⟩ (.string b.p)).setCell ⟨w.heap.size, 1, none⟩ (.slice va m vc)).setCell ⟨w.heap.size + 1, 0, none⟩ (.int .i64 0)).setCell ⟨w.heap.size + 1, 1, none⟩ (.int .i64 0)).setCell ⟨w.heap.size + 1, 2, none⟩ (.int .i64 0) = V at hV0 hV1 hO hB ⊢
    obtain ⟨f0, f4, -⟩ := factCell hV0
    obtain ⟨⟨f1, f2, f3⟩, -⟩ := fault_cells hV1
    exact bodyPost_ret (v := .tuple #[.agg #[.string b.p, .slice va m vc], .agg #[.int .i64 0, .int .i64 0, .int .i64 0]]) (by simp [results, Tryd.results7, go_sem, f0, f4, f1, f2, f3]) rfl (PG.out _ _ (HLs.out.move fun k hk hF => ⟨by simp at hF; omega, hO.block k hk (by simp at hF; omega)⟩) hB)

end Go.Proofs.YtilckhdaijfddaaDoor

namespace Go.Proofs.YtilckhdaijfddaaDoor
set_option linter.unusedSimpArgs false
set_option linter.unusedVariables false
open Go.RowKit

theorem neqConS (a : Con) (w : World) : (binOp .neq 80 (.agg #[.int .i64 a.k, .int .i64 a.n, .string a.s]) (.agg #[.int .i64 a.k, .int .i64 a.n, .string a.s])).run Tryd.prog w = .ok (.bool false) w := by
  have h1 := run_equalIn_struct (P := Tryd.prog) w 9999 80 #[.int .i64 a.k, .int .i64 a.n, .string a.s] #[.int .i64 a.k, .int .i64 a.n, .string a.s] (by kernel_rfl) (by kernel_rfl)
  simp only [binOp]
  simp only [Op.equal, Op.maxDepth, Sem.run_bind]
  go_simp

set_option maxRecDepth 100000 in
set_option maxHeartbeats 2000000 in
theorem factIs_any {w : World} {F G : Nat → Prop} (pr : ByteArray) (off : Int) (ts : List Trm) (v1 v2 : Value) (h1 : Lst elCon w F v1 (ts.map Trm.con)) (h2 : Lst elTrm w G v2 ts) :
    Calls Tryd.prog 8 #[.agg #[.string pr, v1], .agg #[.string pr, v2, .int .i64 off]] w fun e w' => e = .returned (.bool true) ∧ Below w.heap.size w w' := by
  obtain ⟨a1, c1, rfl, -⟩ := h1.shape
  obtain ⟨a2, c2, rfl, -, -, hlen⟩ := h2.shape
  rw [List.length_map] at h1 ⊢
  have HH1 := hide h1
  have HH2 := hide h2
  clear h1 h2
  have hps : (pr.toList != pr.toList) = false := by simp
  go_enter Tryd.func8, Tryd.ntmps8
  go_wp2
  obtain ⟨Y, hY⟩ : ∃ Y, Y = (w.alloc (.cells #[.string pr, .slice a1 ts.length c1] 42)).alloc (.cells #[.string pr, .slice a2 ts.length c2, .int .i64 off] 32) := ⟨_, rfl⟩
  have HB0 : Hid (Below w.heap.size w Y) := by rw [hY]; exact below2a _ _ _
  have HP : Hid (Y.cell? ⟨w.heap.size, 1, none⟩ = some (.slice a1 ts.length c1) ∧ Y.cell? ⟨w.heap.size + 1, 1, none⟩ = some (.slice a2 ts.length c2)) := by
    show _ ∧ _
    rw [hY]
    constructor <;> simp
  rw [← hY]
  clear hY
  go_loopw [23] (fun i wl => ∃ k : Nat, k ≤ ts.length ∧ i = .int .i64 k ∧ Hid (Below Y.heap.size Y wl)) (fun i _ => ts.length - (intOf i).toNat)
  case atStart => exact ⟨0, by omega, rfl, Below.refl _ _⟩
  case round =>
    obtain ⟨k, hk, rfl, HB⟩ := hrel
    have HBw := hide (HB0.out.trans (HB.out.mono HB0.out.size))
    have p1 := kept_cell HB.out HP.out.1
    have p2 := kept_cell HB.out HP.out.2
    by_cases hlt : k < ts.length
    · have hi : (k : Int) < (ts.length : Int) := by omega
      have hi0 : (0 : Int) ≤ (k : Int) := by omega
      obtain ⟨b1, o1, rfl, -, -, hr1⟩ := HH1.out.row (by rw [List.length_map]; omega)
      obtain ⟨b2, o2, rfl, -, -, hr2⟩ := HH2.out.row (by omega)
      obtain ⟨x, hx⟩ : ∃ x, ts[k]? = some x := ⟨_, List.getElem?_eq_getElem hlt⟩
      have hxc : (ts.map Trm.con)[k]? = some x.con := by rw [List.getElem?_map, hx]; rfl
      have x0 := over_cell (kept_cell HBw.out (hr1 k x.con hxc 0 _ rfl))
      have x1 := over_cell (kept_cell HBw.out (hr1 k x.con hxc 1 _ rfl))
      have x2 := over_cell (kept_cell HBw.out (hr1 k x.con hxc 2 _ rfl))
      have y0 := over_cell (kept_cell HBw.out (hr2 k x hx 0 _ rfl))
      have y1 := over_cell (kept_cell HBw.out (hr2 k x hx 1 _ rfl))
      have y2 := over_cell (kept_cell HBw.out (hr2 k x hx 2 _ rfl))
      simp only [elTrm, elCon, Trm.con, Nat.add_zero] at x0 x1 x2 y0 y1 y2
      have hs := neqConS x.con
      simp only [Trm.con] at hs
      clear hr1 hr2 hx hxc
      go_wp2
      refine wp_region_over (fun W => W = wr) (by kernel_rfl) (by kernel_rfl) rfl ?_
      rintro W rfl
      have p1' := over_cell p1
      have p2' := over_cell p2
      clear p1 p2
      repeat (go_big_quiet_step (first | fail))
      refine wpQuiet_nil ?_
      rintro _ ⟨z, rfl⟩
      have HB3 := hide (HB.out.trans ((over_below W z).mono HB.out.size))
      clear x0 x1 x2 y0 y1 y2 p1' p2'
      go_wp2
      go_roundw
      case rel => exact ⟨k + 1, by omega, by go_num, HB3⟩
      case measure => simp [intOf]; omega
    · obtain rfl : k = ts.length := by omega
      have hi : ¬ (ts.length : Int) < (ts.length : Int) := by omega
      go_wp2
      go_ret
      exact ⟨rfl, HBw.out⟩
end Go.Proofs.YtilckhdaijfddaaDoor

namespace Go.Proofs.YtilckhdaijfddaaDoor
set_option linter.unusedSimpArgs false
set_option linter.unusedVariables false
open Go.RowKit

theorem neqTrmSame (a : Trm) (w : World) : (binOp .neq 73 (.agg #[.int .i64 a.k, .int .i64 a.n, .string a.s, .int .i64 a.off]) (.agg #[.int .i64 a.k, .int .i64 a.n, .string a.s, .int .i64 a.off])).run Tryd.prog w = .ok (.bool false) w := by
  have h1 := run_equalIn_struct (P := Tryd.prog) w 9999 73 #[.int .i64 a.k, .int .i64 a.n, .string a.s, .int .i64 a.off] #[.int .i64 a.k, .int .i64 a.n, .string a.s, .int .i64 a.off] (by kernel_rfl) (by kernel_rfl)
  simp only [binOp]
  simp only [Op.equal, Op.maxDepth, Sem.run_bind]
  go_simp

set_option maxRecDepth 100000 in
set_option maxHeartbeats 1000000 in
theorem sameAtom_any {w : World} {F G : Nat → Prop} (pr : ByteArray) (off : Int) (ts : List Trm) (v1 v2 : Value) (h1 : Lst elTrm w F v1 ts) (h2 : Lst elTrm w G v2 ts) :
    Calls Tryd.prog 26 #[.agg #[.string pr, v1, .int .i64 off], .agg #[.string pr, v2, .int .i64 off]] w fun e w' => e = .returned (.bool true) ∧ Below w.heap.size w w' := by
  obtain ⟨a1, c1, rfl, -, -, hlen⟩ := h1.shape
  obtain ⟨a2, c2, rfl, -⟩ := h2.shape
  have HH1 := hide h1
  have HH2 := hide h2
  clear h1 h2
  have hq : (off != off) = false := by simp
  have hps : (pr.toList != pr.toList) = false := by simp
  go_enter Tryd.func26, Tryd.ntmps26
  go_wp2
  obtain ⟨Y, hY⟩ : ∃ Y, Y = (w.alloc (.cells #[.string pr, .slice a1 ts.length c1, .int .i64 off] 32)).alloc (.cells #[.string pr, .slice a2 ts.length c2, .int .i64 off] 32) := ⟨_, rfl⟩
  have HB0 : Hid (Below w.heap.size w Y) := by rw [hY]; exact below2a _ _ _
  have HP : Hid (Y.cell? ⟨w.heap.size, 1, none⟩ = some (.slice a1 ts.length c1) ∧ Y.cell? ⟨w.heap.size + 1, 1, none⟩ = some (.slice a2 ts.length c2)) := by
    show _ ∧ _
    rw [hY]
    constructor <;> simp
  rw [← hY]
  clear hY
  go_loopw [30] (fun i wl => ∃ k : Nat, k ≤ ts.length ∧ i = .int .i64 k ∧ Hid (Below Y.heap.size Y wl)) (fun i _ => ts.length - (intOf i).toNat)
  case atStart => exact ⟨0, by omega, rfl, Below.refl _ _⟩
  case round =>
    obtain ⟨k, hk, rfl, HB⟩ := hrel
    have HBw := hide (HB0.out.trans (HB.out.mono HB0.out.size))
    have p1 := kept_cell HB.out HP.out.1
    have p2 := kept_cell HB.out HP.out.2
    by_cases hlt : k < ts.length
    · have hi : (k : Int) < (ts.length : Int) := by omega
      have hi0 : (0 : Int) ≤ (k : Int) := by omega
      obtain ⟨b1, o1, rfl, -, -, hr1⟩ := HH1.out.row (by omega)
      obtain ⟨b2, o2, rfl, -, -, hr2⟩ := HH2.out.row (by omega)
      obtain ⟨x, hx⟩ : ∃ x, ts[k]? = some x := ⟨_, List.getElem?_eq_getElem hlt⟩
      have x0 := over_cell (kept_cell HBw.out (hr1 k x hx 0 _ rfl))
      have x1 := over_cell (kept_cell HBw.out (hr1 k x hx 1 _ rfl))
      have x2 := over_cell (kept_cell HBw.out (hr1 k x hx 2 _ rfl))
      have x3 := over_cell (kept_cell HBw.out (hr1 k x hx 3 _ rfl))
      have y0 := over_cell (kept_cell HBw.out (hr2 k x hx 0 _ rfl))
      have y1 := over_cell (kept_cell HBw.out (hr2 k x hx 1 _ rfl))
      have y2 := over_cell (kept_cell HBw.out (hr2 k x hx 2 _ rfl))
      have y3 := over_cell (kept_cell HBw.out (hr2 k x hx 3 _ rfl))
      simp only [elTrm, Nat.add_zero] at x0 x1 x2 x3 y0 y1 y2 y3
      have hs := neqTrmSame x
      clear hr1 hr2 hx
      go_wp2
      refine wp_region_over (fun W => W = wr) (by kernel_rfl) (by kernel_rfl) rfl ?_
      rintro W rfl
      have p1' := over_cell p1
      have p2' := over_cell p2
      clear p1 p2
      repeat (go_big_quiet_step (first | fail))
      refine wpQuiet_nil ?_
      rintro _ ⟨z, rfl⟩
      have HB3 := hide (HB.out.trans ((over_below W z).mono HB.out.size))
      clear x0 x1 x2 x3 y0 y1 y2 y3 p1' p2'
      go_wp2
      go_roundw
      case rel => exact ⟨k + 1, by omega, by go_num, HB3⟩
      case measure => simp [intOf]; omega
    · obtain rfl : k = ts.length := by omega
      have hi : ¬ (ts.length : Int) < (ts.length : Int) := by omega
      go_wp2
      go_ret
      exact ⟨rfl, HBw.out⟩

end Go.Proofs.YtilckhdaijfddaaDoor

namespace Go.Proofs.YtilckhdaijfddaaDoor
set_option linter.unusedSimpArgs false
set_option linter.unusedVariables false
open Go.RowKit

theorem pur_at {α β : Type} {f : α → β} {l m : List α} (h : l.map f = m.map f) {k : Nat} {x y : α} (hx : l[k]? = some x) (hy : m[k]? = some y) : f x = f y := by
  have e := congrArg (fun z => z[k]?) h
  simp only [List.getElem?_map, hx, hy, Option.map_some, Option.some.injEq] at e
  exact e
set_option maxRecDepth 100000 in
set_option maxHeartbeats 2000000 in
theorem sameAtoms_any {w : World} {F G : Nat → Prop} {v1 v2 : Value} {l m : List Atx} (h1 : Lst elAtx w F v1 l) (h2 : Lst elAtx w G v2 m) (hp : l.map Atx.pur = m.map Atx.pur) :
    Calls Tryd.prog 12 #[v1, v2] w fun e w' => e = .returned (.bool true) ∧ Below w.heap.size w w' := by
  obtain ⟨a1, c1, rfl, -, -, hl1⟩ := h1.shape
  obtain ⟨a2, c2, rfl, -, -, hl2⟩ := h2.shape
  have hl : l.length = m.length := by have := congrArg List.length hp; simpa using this
  have H1 := hide h1.all
  have H2 := hide h2.all
  have HP := hide hp
  have HE := hide hl
  obtain ⟨n, hn⟩ : ∃ n, n = l.length := ⟨_, rfl⟩
  rw [← hl, ← hn]
  rw [← hn] at hl1
  rw [← hl] at H2
  rw [← hn] at H1 H2
  have HN := hide hn
  clear h1 h2 hp hl hl2 hn
  have hnn : ((n : Int) != (n : Int)) = false := by simp
  go_enter Tryd.func12, Tryd.ntmps12
  go_wp2
  go_loopw [13] (fun i wl => ∃ k : Nat, k ≤ n ∧ i = .int .i64 k ∧ Hid (Below w.heap.size w wl)) (fun i _ => n - (intOf i).toNat)
  case atStart => exact ⟨0, by omega, rfl, Below.refl _ _⟩
  case round =>
    obtain ⟨k, hk, rfl, HB⟩ := hrel
    by_cases hlt : k < n
    · have hi : (k : Int) < (n : Int) := by omega
      have hi0 : (0 : Int) ≤ (k : Int) := by omega
      obtain ⟨b, bo, rfl, -, -, hrow⟩ := H1.out.row (by have := HN.out; omega)
      obtain ⟨c, co, rfl, -, -, krow⟩ := H2.out.row (by have := HN.out; have := HE.out; omega)
      obtain ⟨x, hx⟩ : ∃ x, l[k]? = some x := ⟨_, List.getElem?_eq_getElem (by have := HN.out; omega)⟩
      obtain ⟨y, hy⟩ : ∃ y, m[k]? = some y := ⟨_, List.getElem?_eq_getElem (by have := HN.out; have := HE.out; omega)⟩
      have hpq := pur_at HP.out hx hy
      have x0 := over_cell (kept_cell HB.out (hrow k _ hx 0 _ rfl))
      have x1 := over_cell (kept_cell HB.out (hrow k _ hx 1 _ rfl))
      have x2 := over_cell (kept_cell HB.out (hrow k _ hx 2 _ rfl))
      have y0 := over_cell (kept_cell HB.out (krow k _ hy 0 _ rfl))
      have y1 := over_cell (kept_cell HB.out (krow k _ hy 1 _ rfl))
      have y2 := over_cell (kept_cell HB.out (krow k _ hy 2 _ rfl))
      have hxo := H1.out.ok (List.mem_of_getElem? hx)
      have hyo := H2.out.ok (List.mem_of_getElem? hy)
      obtain ⟨xp, xv, xoff, xts⟩ := x
      obtain ⟨yp, yv, yoff, yts⟩ := y
      simp only [elAtx, Nat.add_zero] at x0 x1 x2 y0 y1 y2
      simp only [Atx.pur, PAtom.mk.injEq] at hpq
      obtain ⟨rfl, rfl, rfl⟩ := hpq
      have HS := hide (fun x => sameAtom_any xp xoff xts xv yv (((show Lst elTrm w (fun _ => True) xv xts from hxo.2.2).kept HB.out).kept (over_below _ x)) (((show Lst elTrm w (fun _ => True) yv xts from hyo.2.2).kept HB.out).kept (over_below _ x)))
      obtain ⟨xa, xc, rfl, -⟩ := (show Lst elTrm w (fun _ => True) xv xts from hxo.2.2).shape
      obtain ⟨ya, yc, rfl, -⟩ := (show Lst elTrm w (fun _ => True) yv xts from hyo.2.2).shape
      clear hrow hx krow hy hxo hyo
      go_wp2
      refine wp_region_over (fun W => W = wr) (by kernel_rfl) (by kernel_rfl) rfl ?_
      rintro W rfl
      repeat (go_big_quiet_step (first | (go_at_call 26; exact calls_over (HS.out _))))
      refine wpQuiet_nil ?_
      rintro _ ⟨z, rfl⟩
      have HB3 := hide (HB.out.trans ((over_below W z).mono HB.out.size))
      clear x0 x1 x2 y0 y1 y2 HS
      go_wp2
      go_roundw
      case rel => exact ⟨k + 1, by omega, by go_num, HB3⟩
      case measure => simp [intOf]; omega
    · obtain rfl : k = n := by omega
      have hi : ¬ (k : Int) < (k : Int) := by omega
      go_wp2
      go_ret
      exact ⟨rfl, HB.out⟩
end Go.Proofs.YtilckhdaijfddaaDoor

namespace Go.Proofs.YtilckhdaijfddaaDoor
set_option linter.unusedSimpArgs false
set_option linter.unusedVariables false
open Go.RowKit

theorem fq_oneF (w : World) : (binOp .eql 45 (.agg #[.int .i64 1, .int .i64 0, .int .i64 0]) (.agg #[.int .i64 1, .int .i64 0, .int .i64 0])).run Tryd.prog w = .ok (.bool true) w := by
  have h1 := run_equalIn_struct (P := Tryd.prog) w 9999 45 #[.int .i64 1, .int .i64 0, .int .i64 0] #[.int .i64 1, .int .i64 0, .int .i64 0] (by kernel_rfl) (by kernel_rfl)
  simp only [binOp]
  simp only [Op.equal, Op.maxDepth, Sem.run_bind]
  go_simp
theorem fn_zeroF (w : World) : (binOp .neq 45 (.agg #[.int .i64 0, .int .i64 0, .int .i64 0]) (.agg #[.int .i64 0, .int .i64 0, .int .i64 0])).run Tryd.prog w = .ok (.bool false) w := by
  have h1 := run_equalIn_struct (P := Tryd.prog) w 9999 45 #[.int .i64 0, .int .i64 0, .int .i64 0] #[.int .i64 0, .int .i64 0, .int .i64 0] (by kernel_rfl) (by kernel_rfl)
  simp only [binOp]
  simp only [Op.equal, Op.maxDepth, Sem.run_bind]
  go_simp
theorem in_cellsF {V : World} {b : Nat} {u0 u1 : Value} (h : V.heap[b]? = some (.cells #[u0, u1] 25 (0, 0))) : V.cell? ⟨b, 0, none⟩ = some u0 ∧ V.cell? ⟨b, 1, none⟩ = some u1 := by
  refine ⟨?_, ?_⟩ <;> simp [World.cell?, h]
theorem CollM.jumpF {α : Type} {El0 : El α} {e : TypeId} {E : MkEnv} {w W W' : World} {p base : Nat} {st st' : St} {v : Value} {l : List α} (h : CollM El0 e E w W p st base v l) (ho : Only (fun k => k = p ∨ W.heap.size ≤ k) W W') (hm : MkS E W' p st') : CollM El0 e E w W' p st' base v l := by
  have hp := h.pl
  have hl := h.lo
  have hs := h.on.size
  exact ⟨hm, h.gr.above fun b hb hlt => ho.block b hlt (fun e => by rcases e with e | e <;> omega), h.on.trans (ho.mono fun k _ e => e.elim .inl fun e => .inr (by omega)), h.pl, h.lo, Nat.le_trans h.hi ho.size⟩
theorem atx_hereM {V : World} {c : Obj} {U base : Nat} {v : Value} {x : Atx} (ha : elAtx.ok V (fun k => U ≤ k) x) (hB : base ≤ U) (hv : ∀ k, v.ownBlock = some k → k < U) : elAtx.ok (V.alloc c) (fun k => base ≤ k ∧ v.ownBlock ≠ some k) x :=
  elAtx.move ha fun k hk hF => ⟨⟨Nat.le_trans hB hF, fun e => by have := hv k e; omega⟩, (belowA V c).block k hk⟩
/-- An atom that was put, in its box. -/
structure FcM (E : MkEnv) (wr W : World) (p b7 : Nat) (st : St) (x : Atx) : Prop where
  ms : MkS E W p st
  on : Only (fun k => k = p ∨ wr.heap.size ≤ k) wr W
  d7 : W.heap[b7]? = some (.cells #[.string x.p, x.v, .int .i64 x.off] 32 (0, 0))
  ok : elAtx.ok W (fun b => wr.heap.size ≤ b) x
  lo : wr.heap.size ≤ b7
  pl : p < wr.heap.size
section
variable {E : MkEnv} {wr W W' : World} {p b7 : Nat} {st st' : St} {x : Atx}
theorem FcM.move (h : FcM E wr W p b7 st x) (ho : Only (fun k => k = p) W W') (hm : MkS E W' p st') : FcM E wr W' p b7 st' x :=
  have hp := h.pl
  have hl := h.lo
  ⟨hm, h.on.trans (ho.mono fun k _ e => .inl e), by rw [ho.block _ (Array.getElem?_eq_some_iff.1 h.d7).1 (by omega)]; exact h.d7, elAtx.move h.ok fun b hb hF => ⟨hF, ho.block b hb (by have h9 : wr.heap.size ≤ b := hF; omega)⟩, h.lo, h.pl⟩
theorem FcM.below (h : FcM E wr W p b7 st x) (hb : Below W.heap.size W W') : FcM E wr W' p b7 st x := h.move (Only.of_below hb _) (h.ms.kept hb)
theorem FcM.start {w3 : World} (hp : p < wr.heap.size) (hm : MkS E w3 p st) (ho : Only (fun k => k = p) wr w3) (hok : elAtx.ok w3 (fun b => wr.heap.size ≤ b) x) : FcM E wr (w3.alloc (.cells #[.string x.p, x.v, .int .i64 x.off] 32)) p w3.heap.size st x :=
  ⟨hm.kept (belowA _ _), (ho.mono fun k _ e => .inl e).alloc _, heap_alloc_new w3 _, elAtx.move hok fun b hb hF => ⟨hF, (belowA w3 _).block b hb⟩, ho.size, hp⟩
end
theorem factsS_snoc {G : Nat → Int} (s : St) (l : List DA) (t : DA) : factsS G s (l ++ [t]) = factS1 G (factsS G s l) t := by unfold factsS; rw [List.foldl_append]; rfl
theorem atom_kF {G : Nat → Int} (s : St) (a : DA) (h : a.ts.length ≤ 8) : (atomS G s a).1.k ≤ s.k + 18 := by
  rw [(atom_run (G := G) (e := []) a [] s).2.1]
  unfold atomN
  split <;> omega
theorem dt_con (t : DT) (q q' : Nat) : (dtAt t q).con = (dtAt t q').con := rfl
theorem args_con {G : Nat → Int} : ∀ (ts : List DT) (i o o' : Nat), (argsTr G i ts o).map Trm.con = (argsTr G i ts o').map Trm.con
  | [], _, _, _ => rfl
  | t :: ts, i, o, o' => by
    show Trm.con _ :: List.map _ _ = Trm.con _ :: List.map _ _
    rw [args_con ts _ _ (o' + gl G i + 1 + gl G (i + 1) + (tmS t).length)]
    rfl
theorem gnd_kind (k : Int) : modM (modM k 3) 4 = 0 ∨ modM (modM k 3) 4 = 1 ∨ modM (modM k 3) 4 = 2 := by
  have h := modM_lt k (k := 3) (by decide)
  generalize modM k 3 = m at h ⊢
  unfold modM
  rw [Int.tmod_eq_emod_of_nonneg h.1]
  omega
theorem gA_ok {a : DA} (h8 : a.ts.length ≤ 8) (hg : ∀ t ∈ a.ts, I64 t.n) : GOk (gA true a) := by
  refine ⟨by show (a.ts.map _).length ≤ 8; rw [List.length_map]; exact h8, fun t ht => ?_, fun t ht => ?_⟩
  · obtain ⟨u, hu, rfl⟩ := List.mem_map.1 ht
    rw [gT_n]; exact hg u hu
  · obtain ⟨u, hu, rfl⟩ := List.mem_map.1 ht
    show (tmX ⟨modM u.k 3, u.n⟩).k ∈ valueKs
    unfold tmX
    simp only
    rcases gnd_kind u.k with e | e | e <;> rw [e] <;> simp [valueKs]
theorem ext_list (T : ByteArray) (n : Nat) : (T.extract n T.size).data.toList = T.data.toList.drop n := by
  rw [ByteArray.data_extract, Array.toList_extract, List.extract_eq_take_drop]
  exact List.take_of_length_le (by rw [List.length_drop]; exact Nat.le_refl _)
theorem fact_long {T : ByteArray} (h : ¬ T.size ≤ 65536) : factP (scanX T).2.1 ((scanX T).2.2 : Int) (scanX T).1 = .bad 1 0 := by rw [scan_long h]; rfl
theorem fact_text {G : Nat → Int} {a : DA} (ha : GOk a) (s : St) {T : ByteArray} (hT : T = ⟨(atomS G s a).1.b.toArray⟩) (hs : (T.extract s.b.length T.size).size ≤ 65536) :
    factP (scanX (T.extract s.b.length T.size)).2.1 ((scanX (T.extract s.b.length T.size)).2.2 : Int) (scanX (T.extract s.b.length T.size)).1 = .ok (atomTr G s.k [] a 0) [] := by
  obtain ⟨h1, -⟩ := atom_run (G := G) (e := []) a [] s
  refine make_fact ?_ ha hs
  rw [ext_list, hT, arr_list]
  rw [show (atomS G s a).1.b = s.b ++ txt (atomK G s.k [] a []) [] by rw [h1]; simp [txt]]
  rw [List.drop_left]

set_option maxRecDepth 100000 in
set_option maxHeartbeats 8000000 in
theorem parseMakesFacts_walk (ca : Option Addr) (cn cc : Nat) (ga : Option Addr) (gn gc : Nat) (cs : List DC) (g : Nat → Int) (w : World) (hin : MkIn w ca cn ga gn cs g) (hlaid : LexLaid w ∧ ItoaOk w) :
    Calls Tryd.prog 3 #[.agg #[.slice ca cn cc, .slice ga gn gc]] w fun e w' => e = .returned (.bool true) ∧ Below w.heap.size w w' := by
  have HIn := hide hin
  have HLd := hide hlaid
  have HTk := hide (fun (W : World) (hb : Below w.heap.size w W) => taken_any W (hlaid.1.kept hb))
  clear hin hlaid
  go_enter Tryd.func3, Tryd.ntmps3
  go_wp2
  obtain ⟨W1, hW1⟩ : ∃ W1, W1 = (w.alloc (.cells #[.slice ca cn cc, .slice ga gn gc] 25)).alloc (.cells #[.string ⟨#[]⟩, .slice ga gn gc, .int .i64 0] 28) := ⟨_, rfl⟩
  obtain ⟨E, hE⟩ : ∃ E : MkEnv, E = ⟨w, ga, gn, gc, g⟩ := ⟨_, rfl⟩
  have HE : Hid E.ok := by rw [hE]; exact HIn.out.env HLd.out.2 (Below.refl _ _)
  have HEw : Hid (E.w0 = w) := by rw [hE]; rfl
  have HX1 : Hid (W1.heap[w.heap.size]? = some (.cells #[.slice ca cn cc, .slice ga gn gc] 25 (0, 0))) := by
    rw [hW1]
    show _ = _
    rw [(belowA (w.alloc _) _).block _ (by simp)]
    exact heap_alloc_new w _
  have hz : W1.heap.size = w.heap.size + 2 := by rw [hW1]; simp
  have HS0 : Hid (MkS E W1 (w.heap.size + 1) ⟨[], 0⟩) := by
    rw [hE, hW1]
    have h1 := mk_start w ga gn gc g (w.alloc (.cells #[.slice ca cn cc, .slice ga gn gc] 25)) (belowA _ _)
    rw [show (w.alloc (.cells #[.slice ca cn cc, .slice ga gn gc] 25)).heap.size = w.heap.size + 1 by simp] at h1
    exact h1
  rw [← hW1]
  have HZ := hide hz
  have HC0 := hide (CollM.start (El0 := elAtx) (e := 32) HS0.out)
  clear hW1 hE HS0 hz
  go_loopw [4, 5] (fun ov i wl => ∃ (j : Nat) (st : St) (ps : List PAtom) (xs : List Atx), j ≤ cs.length ∧ i = .int .i64 j ∧ st.k ≤ 400 * j ∧ Hid (xs.length = j) ∧ Hid (xs.map Atx.pur = ps) ∧ Hid (factsS E.G ⟨[], 0⟩ ((cs.take j).map fun c => gA true c.h) = (st, ps)) ∧ Hid (CollM elAtx 32 E W1 wl (w.heap.size + 1) st W1.heap.size ov xs)) (fun _ i _ => cs.length - (intOf i).toNat)
  case atStart => exact ⟨0, ⟨[], 0⟩, [], [], by omega, rfl, by show 0 ≤ _; omega, rfl, rfl, rfl, HC0⟩
  case round =>
    clear HC0
    obtain ⟨j, st, ps, xs, hj, rfl, hsk, HLn, HPs, HQ, HC⟩ := hrel
    have hn := HIn.out.n
    have hcl40 : cs.length ≤ 40 := by omega
    have HXl : Hid (wr.heap[w.heap.size]? = some (.cells #[.slice ca cn cc, .slice ga gn gc] 25 (0, 0))) := by
      show _ = _
      rw [HC.out.on.block _ (Array.getElem?_eq_some_iff.1 HX1.out).1 (fun e => by have := HZ.out; rcases e with e | e <;> omega)]
      exact HX1.out
    have HBw : Hid (Below w.heap.size w wr) := by have h9 := HC.out.ms.1.bel; rw [HEw.out] at h9; exact h9
    obtain ⟨k0, k1⟩ := in_cellsF HXl.out
    obtain ⟨oa, oc, rfl, -⟩ := HC.out.gr.shape
    rw [HLn.out]
    rw [HLn.out] at HC
    have HKs : Hid (st.k ≤ 100000) := by show _ ≤ _; omega
    by_cases hlt : j < cs.length
    · have hi : (j : Int) < (cn : Int) := by omega
      have hi8 : (j : Int) < 40 := by omega
      have hi0 : (0 : Int) ≤ (j : Int) := by omega
      have hj40 : j < 40 := by omega
      obtain ⟨c, ht⟩ : ∃ c, cs[j]? = some c := ⟨_, List.getElem?_eq_getElem hlt⟩
      obtain ⟨b3, o3, hca, hr3⟩ := HIn.out.row (by omega)
      have hct := hr3 j c ht
      obtain ⟨a1, l1, c1, a2, l2, c2, hh, hbd, x0, x1, x2⟩ := hct
      have y0 := kept_cell HBw.out x0
      have y1 := kept_cell HBw.out x1
      have hgok : GOk (gA true c.h) := gA_ok (by have := hh.n; omega) hh.ok
      have HSn : Hid ((cs.take (j + 1)).map (fun c => gA true c.h) = (cs.take j).map (fun c => gA true c.h) ++ [gA true c.h]) := by show _ = _; rw [List.take_add_one, ht, List.map_append]; rfl
      have HRh : Hid (RowT E.w0 a1 l1 c.h.ts) := by rw [HEw.out]; exact hh
      have HAt : Hid (∀ W : World, MkS E W (w.heap.size + 1) st → Calls Tryd.prog 6 #[.pointer (some ⟨w.heap.size + 1, 0, none⟩), .agg #[.int .i64 c.h.p, .slice a1 l1 c1], .bool true] W fun e w' => ∃ x : Atx, e = .returned x.val ∧ x.pur = (atomS E.G st (gA true c.h)).2 ∧ elAtx.ok w' (fun b => W.heap.size ≤ b) x ∧ MkS E w' (w.heap.size + 1) (atomS E.G st (gA true c.h)).1 ∧ Only (fun j => j = w.heap.size + 1) W w') := fun W hW => atomM_any HE.out hW (by omega) c.h c1 HRh.out true
      obtain ⟨s1, hs1⟩ : ∃ s1, s1 = (atomS E.G st (gA true c.h)).1 := ⟨_, rfl⟩
      obtain ⟨z1, hz1⟩ : ∃ z1, z1 = (atomS E.G st (gA true c.h)).2 := ⟨_, rfl⟩
      have hk1 : s1.k ≤ st.k + 18 := by rw [hs1]; exact atom_kF st _ hgok.1
      obtain ⟨T0, hT0⟩ : ∃ T0 : ByteArray, T0 = ⟨st.b.toArray⟩ := ⟨_, rfl⟩
      obtain ⟨T1, hT1⟩ : ∃ T1 : ByteArray, T1 = ⟨s1.b.toArray⟩ := ⟨_, rfl⟩
      have hsz0 : T0.size = st.b.length := by rw [hT0, arr_size]
      obtain ⟨b0, hb0⟩ : ∃ b0, b0 = atomTr E.G st.k [] (gA true c.h) 0 := ⟨_, rfl⟩
      have HFt : Hid ((T1.extract T0.size T1.size).size ≤ 65536 → factP (scanX (T1.extract T0.size T1.size)).2.1 ((scanX (T1.extract T0.size T1.size)).2.2 : Int) (scanX (T1.extract T0.size T1.size)).1 = .ok b0 []) := fun hs => by
        rw [hsz0] at hs ⊢
        rw [hb0]
        exact fact_text hgok st (by rw [hT1, hs1]) hs
      have HBp : Hid (b0.p = z1.p ∧ b0.ts.map Trm.con = z1.ts.map Trm.con) := by
        have h9 := (atom_run (G := E.G) (e := []) (gA true c.h) [] st).2.2.1
        rw [hz1, hb0, h9]
        exact ⟨rfl, args_con _ _ _ _⟩
      rw [← hs1, ← hz1] at HAt
      rw [hca] at k0
      have HTl : Hid (T0.size ≤ T1.size) := by
        show _ ≤ _
        have h9 := (atom_run (G := E.G) (e := []) (gA true c.h) [] st).1
        rw [← hs1] at h9
        rw [show txt [] [] = [] from rfl] at h9
        have h8 := congrArg List.length h9
        simp only [List.length_append, List.length_nil] at h8
        rw [hT1, hsz0, arr_size]
        omega
      have HT0 := hide hT0
      have HT1 := hide hT1
      have HStep : Hid (factsS E.G ⟨[], 0⟩ ((cs.take (j + 1)).map fun c => gA true c.h) = (s1.put E.G [46], ps ++ [z1])) := by
        show _ = _
        rw [HSn.out, factsS_snoc, HQ.out]
        unfold factS1
        simp only
        rw [hs1, hz1]
      have HPd : Hid (∀ W : World, MkS E W (w.heap.size + 1) s1 → Calls Tryd.prog 9 #[.pointer (some ⟨w.heap.size + 1, 0, none⟩), .string ⟨#[46]⟩] W fun e w' => e = .returned (.int .i64 (s1.off E.G : Int)) ∧ MkS E w' (w.heap.size + 1) (s1.put E.G [46]) ∧ Only (fun j => j = w.heap.size + 1) W w') := fun W hW => put_any HE.out hW (by omega) [46] (by decide)
      have HOb : Hid (∀ k, (Value.slice oa j oc).ownBlock = some k → k < wr.heap.size) := own_lt6 HC.out.gr.1
      have d0 : wr.cell? ⟨w.heap.size + 1, 0, none⟩ = some (.string T0) := by rw [hT0]; exact (mk_cells HC.out.ms.1.blk).1.1
      obtain ⟨T2, hT2⟩ : ∃ T2, T2 = T1.extract T0.size T1.size := ⟨_, rfl⟩
      have hsz2 : T2.size = T1.size - T0.size := by rw [hT2, ByteArray.size_extract]; omega
      have hl0 : (0 : Int) ≤ (T0.size : Int) := by omega
      have hl2 : T0.size ≤ T1.size := HTl.out
      have hl1 : (T0.size : Int) ≤ (T1.size : Int) := by omega
      have HSz2 := hide hsz2
      rw [← hT2] at HFt
      have hT2' := hT2.symm
      have hq := fn_zeroF
      clear hT0 hT1 hb0 hs1 hz1 hgok hh hbd hca hn hr3 ht x0 x1 x2 hsz0 hT2
      by_cases hs : T2.size ≤ 65536
      · have HQ2 := hide (HFt.out hs)
        have hle : decide ((T1.size : Int) - (T0.size : Int) ≤ 65536) = true := decide_eq_true (by omega)
        have hle2 : (T1.size : Int) - (T0.size : Int) ≤ 65536 := by omega
        clear HFt hs hsz2
        go_wp2_with (first
          | (go_at_call 6; refine (HAt.out _ HC.out.ms).mono ?_; intro e w3 hqq; obtain ⟨⟨ap, av, aoff, ats⟩, rfl, hpur, hok, hm3, ho3⟩ := hqq; obtain ⟨va, vc, rfl, -⟩ := (show Lst elTrm _ _ av ats from hok.2.2).shape; have HM3 := hide (FcM.start HC.out.ms.lt hm3 ho3 hok); have HPu := hide hpur; have HPp : Hid (z1.p = ap) := (by show _ = _; rw [← hpur]; rfl); have HPt : Hid (z1.ts = ats) := (by show _ = _; rw [← hpur]; rfl); have HBq : Hid (Below w.heap.size w (w3.alloc (.cells #[.string ap, .slice va ats.length vc, .int .i64 aoff] 32))) := (by have h9 := HM3.out.ms.1.bel; rw [HEw.out] at h9; exact h9); clear hm3 ho3 hpur hok; have hT1s : (T1.size : Int) ≤ 1000000000 := (by have h9 := HM3.out.ms.2; have h7 : T1.size = s1.b.length := (by rw [HT1.out, arr_size]); have h6 := HKs.out; omega); unfold Atx.val; have d1 : (w3.alloc (.cells #[.string ap, .slice va ats.length vc, .int .i64 aoff] 32)).cell? ⟨w.heap.size + 1, 0, none⟩ = some (.string T1) := (by rw [HT1.out]; exact (mk_cells HM3.out.ms.1.blk).1.1))
          | (go_at_call 7; refine (parseFact_any T2 _ (HLd.out.1.kept (HBq.out)) (by have h9 := HM3.out.ms.2; have h8 := HSz2.out; have h7 : T1.size = s1.b.length := (by rw [HT1.out, arr_size]); have h6 := HKs.out; omega)).mono ?_; intro e w5 hqq; obtain ⟨fv, he, hls, hb5⟩ := readFact_ok hqq HQ2.out; rw [HBp.out.1, HPp.out] at he; rw [HBp.out.2, HPt.out] at hls; subst he; clear hqq; obtain ⟨fa, fc, rfl, -⟩ := hls.shape; rw [List.length_map] at hls ⊢; have HM5 := hide (HM3.out.below (belowt2 hb5 (below2a w5 (.cells #[.string ap, .slice fa ats.length fc] 42) (.cells #[.int .i64 0, .int .i64 0, .int .i64 0] 45)))); have HLf := hide (Lst.move hls (G := fun _ => True) fun b hb _ => ⟨trivial, (below2a w5 (.cells #[.string ap, .slice fa ats.length fc] 42) (.cells #[.int .i64 0, .int .i64 0, .int .i64 0] 45)).block b hb⟩); unfold faultV; clear hb5 hls; have d2 := (mk_cells HM5.out.ms.1.blk).1.1; rw [← HT1.out] at d2; obtain ⟨f0, f1, f2, -⟩ := box3_cells HM5.out.d7)
          | (go_at_call 8; refine (factIs_any ap aoff ats _ _ HLf.out HM5.out.ok.2.2).mono ?_; rintro e w6 ⟨rfl, hb6⟩; have HM6 := hide (HM5.out.below hb6); clear hb6)
          | (go_at_call 9; (with_reducible refine (HPd.out _ HM6.out.ms).mono ?_); rintro e w8 ⟨rfl, hm8, ho8⟩; have HM8 := hide (HM6.out.move ho8 hm8); clear hm8 ho8; obtain ⟨f0, f1, f2, -⟩ := box3_cells HM8.out.d7)
          | (at_builtin; obtain ⟨i0, hi0', hz0, hz1, hz2⟩ := info_parts Tryd.infoAtm; have HC8 := hide ((HC.out.jumpF HM8.out.on HM8.out.ms).below (belowA w8 (.cells #[.string ap, .slice va ats.length vc, .int .i64 aoff] 32))); have HOk8 : Hid (elAtx.ok (w8.alloc (.cells #[.string ap, .slice va ats.length vc, .int .i64 aoff] 32)) (fun k => W1.heap.size ≤ k ∧ (Value.slice oa j oc).ownBlock ≠ some k) ⟨ap, .slice va ats.length vc, aoff, ats⟩) := atx_hereM HM8.out.ok HC.out.hi HOb.out; refine wpList_push (w0 := w8.alloc (.cells #[.string ap, .slice va ats.length vc, .int .i64 aoff] 32)) elAtx rfl _ _ 29 rfl W1.heap.size 32 i0 _ 48 Tryd.underlying29 hi0' hz0 hz1 hz2 rfl (by decide) _ xs j HLn.out rfl HC8.out.gr ⟨ap, .slice va ats.length vc, aoff, ats⟩ w8.heap.size 1 rfl (fun j u hu => new_cells (cs := #[.string ap, .slice va ats.length vc, .int .i64 aoff]) j u hu) HOk8.out (by omega) (Below.refl _ _) HC8.out.hi ?_; intro g9 cap9 w9 HG9 HB9 HGr; clear HB9 hi0' hz0 hz1 hz2; have HC9 := hide (HC8.out.grown HGr.out HG9.out); clear HG9 HGr HC8 HOk8))
        go_roundw
        case rel => exact ⟨j + 1, s1.put E.G [46], ps ++ [z1], xs ++ [⟨ap, .slice va ats.length vc, aoff, ats⟩], by omega, by go_num, by show s1.k + 1 ≤ _; omega, by show List.length _ = _; rw [List.length_append, HLn.out]; rfl, by show List.map _ _ = _; rw [List.map_append, HPs.out, ← HPu.out]; rfl, HStep.out, HC9⟩
        case measure => simp [intOf]; omega
      · have HQ2 := hide (fact_long hs)
        have hle : decide ((T1.size : Int) - (T0.size : Int) ≤ 65536) = false := decide_eq_false (by omega)
        have hle2 : ¬ (T1.size : Int) - (T0.size : Int) ≤ 65536 := by omega
        clear HFt hs hsz2
        go_wp2_with (first
          | (go_at_call 6; refine (HAt.out _ HC.out.ms).mono ?_; intro e w3 hqq; obtain ⟨⟨ap, av, aoff, ats⟩, rfl, hpur, hok, hm3, ho3⟩ := hqq; obtain ⟨va, vc, rfl, -⟩ := (show Lst elTrm _ _ av ats from hok.2.2).shape; have HM3 := hide (FcM.start HC.out.ms.lt hm3 ho3 hok); have HPu := hide hpur; have HPp : Hid (z1.p = ap) := (by show _ = _; rw [← hpur]; rfl); have HPt : Hid (z1.ts = ats) := (by show _ = _; rw [← hpur]; rfl); have HBq : Hid (Below w.heap.size w (w3.alloc (.cells #[.string ap, .slice va ats.length vc, .int .i64 aoff] 32))) := (by have h9 := HM3.out.ms.1.bel; rw [HEw.out] at h9; exact h9); clear hm3 ho3 hpur hok; have hT1s : (T1.size : Int) ≤ 1000000000 := (by have h9 := HM3.out.ms.2; have h7 : T1.size = s1.b.length := (by rw [HT1.out, arr_size]); have h6 := HKs.out; omega); unfold Atx.val; have d1 : (w3.alloc (.cells #[.string ap, .slice va ats.length vc, .int .i64 aoff] 32)).cell? ⟨w.heap.size + 1, 0, none⟩ = some (.string T1) := (by rw [HT1.out]; exact (mk_cells HM3.out.ms.1.blk).1.1))
          | (go_at_call 7; refine (parseFact_any T2 _ (HLd.out.1.kept (HBq.out)) (by have h9 := HM3.out.ms.2; have h8 := HSz2.out; have h7 : T1.size = s1.b.length := (by rw [HT1.out, arr_size]); have h6 := HKs.out; omega)).mono ?_; intro e w5 hqq; obtain ⟨rfl, hb5⟩ := readFact_bad hqq HQ2.out; clear hqq; have HM6 := hide (HM3.out.below (belowt2 hb5 (below2a w5 (.cells #[.string ⟨#[]⟩, .slice none 0 0] 42) (.cells #[.int .i64 1, .int .i64 0, .int .i64 0] 45)))); unfold faultV; clear hb5; have d2 := (mk_cells HM6.out.ms.1.blk).1.1; rw [← HT1.out] at d2)
          | (go_at_call 9; (with_reducible refine (HPd.out _ HM6.out.ms).mono ?_); rintro e w8 ⟨rfl, hm8, ho8⟩; have HM8 := hide (HM6.out.move ho8 hm8); clear hm8 ho8; obtain ⟨f0, f1, f2, -⟩ := box3_cells HM8.out.d7)
          | (at_builtin; obtain ⟨i0, hi0', hz0, hz1, hz2⟩ := info_parts Tryd.infoAtm; have HC8 := hide ((HC.out.jumpF HM8.out.on HM8.out.ms).below (belowA w8 (.cells #[.string ap, .slice va ats.length vc, .int .i64 aoff] 32))); have HOk8 : Hid (elAtx.ok (w8.alloc (.cells #[.string ap, .slice va ats.length vc, .int .i64 aoff] 32)) (fun k => W1.heap.size ≤ k ∧ (Value.slice oa j oc).ownBlock ≠ some k) ⟨ap, .slice va ats.length vc, aoff, ats⟩) := atx_hereM HM8.out.ok HC.out.hi HOb.out; refine wpList_push (w0 := w8.alloc (.cells #[.string ap, .slice va ats.length vc, .int .i64 aoff] 32)) elAtx rfl _ _ 29 rfl W1.heap.size 32 i0 _ 48 Tryd.underlying29 hi0' hz0 hz1 hz2 rfl (by decide) _ xs j HLn.out rfl HC8.out.gr ⟨ap, .slice va ats.length vc, aoff, ats⟩ w8.heap.size 1 rfl (fun j u hu => new_cells (cs := #[.string ap, .slice va ats.length vc, .int .i64 aoff]) j u hu) HOk8.out (by omega) (Below.refl _ _) HC8.out.hi ?_; intro g9 cap9 w9 HG9 HB9 HGr; clear HB9 hi0' hz0 hz1 hz2; have HC9 := hide (HC8.out.grown HGr.out HG9.out); clear HG9 HGr HC8 HOk8))
        go_roundw
        case rel => exact ⟨j + 1, s1.put E.G [46], ps ++ [z1], xs ++ [⟨ap, .slice va ats.length vc, aoff, ats⟩], by omega, by go_num, by show s1.k + 1 ≤ _; omega, by show List.length _ = _; rw [List.length_append, HLn.out]; rfl, by show List.map _ _ = _; rw [List.map_append, HPs.out, ← HPu.out]; rfl, HStep.out, HC9⟩
        case measure => simp [intOf]; omega
    · obtain rfl : j = cs.length := by omega
      rw [List.take_of_length_le (Nat.le_refl _)] at HQ
      have hend : ¬ ((cs.length : Int) < (cn : Int)) ∨ ((cs.length : Int) < (cn : Int) ∧ ¬ (cs.length : Int) < 40) := by omega
      obtain ⟨T, hT⟩ : ∃ T : ByteArray, T = ⟨((st.put E.G []).b).toArray⟩ := ⟨_, rfl⟩
      have HT := hide hT
      have HOk : Hid (∀ a ∈ cs.map (fun c => gA true c.h), GOk a) := fun a ha => by
        obtain ⟨c, hc, rfl⟩ := List.mem_map.1 ha
        obtain ⟨i, hi⟩ := List.getElem?_of_mem hc
        obtain ⟨b3, o3, hca, hr3⟩ := HIn.out.row (by have := (List.getElem?_eq_some_iff.1 hi).1; omega)
        obtain ⟨a1, l1, c1, a2, l2, c2, hh, -⟩ := hr3 i c hi
        exact gA_ok (by have := hh.n; omega) hh.ok
      have HQt : Hid (T.size ≤ 65536 → factsP (scanX T).2.1 ((scanX T).2.2 : Int) (scanX T).1 = .ok ps []) := fun hs => by
        have h9 := facts_text (G := E.G) HOk.out (by rw [List.length_map]; exact hcl40) (T := T) (by rw [HQ.out]; exact hT) hs
        rw [HQ.out] at h9
        exact h9
      have HPe : Hid (∀ W : World, MkS E W (w.heap.size + 1) st → Calls Tryd.prog 9 #[.pointer (some ⟨w.heap.size + 1, 0, none⟩), .string ⟨#[]⟩] W fun e w' => e = .returned (.int .i64 (st.off E.G : Int)) ∧ MkS E w' (w.heap.size + 1) (st.put E.G []) ∧ Only (fun j => j = w.heap.size + 1) W w') := fun W hW => put_any HE.out hW (by omega) [] (by decide)
      clear hn hT
      by_cases hs : T.size ≤ 65536
      · have HQ2 := hide (HQt.out hs)
        have hle : decide ((65536 : Int) < (T.size : Int)) = false := decide_eq_false (by omega)
        have hle2 : ¬ (65536 : Int) < (T.size : Int) := by omega
        have hq := fq_zero
        clear HQt hs
        rcases hend with hi | ⟨hi, hi8⟩ <;>
        · go_wp2_with (first
            | (go_at_call 9; (with_reducible refine (HPe.out _ HC.out.ms).mono ?_); rintro e w4 ⟨rfl, hm4, ho4⟩; have HM4 := hide hm4; have HLw4 : Hid (Lst elAtx w4 (fun b => W1.heap.size ≤ b) (.slice oa cs.length oc) xs) := (HC.out.gr.new (by rw [HLn.out]; omega)).move fun b hb hF => ⟨hF, ho4.block b hb (by have h9 : W1.heap.size ≤ b := hF; have h8 := HZ.out; omega)⟩; have HBq : Hid (Below w.heap.size w w4) := (by have h9 := hm4.1.bel; rw [HEw.out] at h9; exact h9); clear hm4 ho4; have d0 : w4.cell? ⟨w.heap.size + 1, 0, none⟩ = some (.string T) := (by rw [HT.out]; exact (mk_cells HM4.out.1.blk).1.1))
            | (go_at_call 10; refine (parseFacts_any T _ (HLd.out.1.kept (HBq.out)) (by have h9 := HM4.out.2; have h8 : (st.put E.G []).k = st.k + 1 := rfl; have h7 := HKs.out; rw [HT.out, arr_size]; omega)).mono ?_; intro e w5 hqq; obtain ⟨qv, qs, rfl, hpq, hlq, hlst, hb5⟩ := readFacts_ok hqq HQ2.out; clear hqq; obtain ⟨qa, qc, rfl, -⟩ := hlst.shape; have HB5 := hide (belowt2 hb5 (belowA w5 (.cells #[.int .i64 0, .int .i64 0, .int .i64 0] 45))); have d1 := kept_cell HB5.out d0; have HLq := hide (Lst.move hlst (G := fun _ => True) fun b hb _ => ⟨trivial, (belowA w5 (.cells #[.int .i64 0, .int .i64 0, .int .i64 0] 45)).block b hb⟩); have HPq := hide hpq; unfold faultV; clear hb5 hlst hpq)
            | (go_at_call 12; refine (sameAtoms_any HLq.out (Lst.move HLw4.out (G := fun _ => True) fun b hb _ => ⟨trivial, HB5.out.block b hb⟩) (by rw [HPq.out, HPs.out])).mono ?_; rintro e w6 ⟨rfl, hb6⟩; have HB6 := hide (belowt2 (belowt2 HBq.out HB5.out) hb6); clear hb6)
            | (go_at_call 11; refine (HTk.out _ HB6.out).mono ?_; rintro e w7 ⟨rfl, hb7⟩; have HB7 := hide (belowt2 HB6.out hb7); clear hb7))
          go_ret
          exact ⟨rfl, HB7.out⟩
      · have HQ2 := hide (facts_long hs)
        have hle : decide ((65536 : Int) < (T.size : Int)) = true := decide_eq_true (by omega)
        have hle2 : (65536 : Int) < (T.size : Int) := by omega
        have hq := fq_oneF
        clear HQt hs
        rcases hend with hi | ⟨hi, hi8⟩ <;>
        · go_wp2_with (first
            | (go_at_call 9; (with_reducible refine (HPe.out _ HC.out.ms).mono ?_); rintro e w4 ⟨rfl, hm4, ho4⟩; have HM4 := hide hm4; have HLw4 : Hid (Lst elAtx w4 (fun b => W1.heap.size ≤ b) (.slice oa cs.length oc) xs) := (HC.out.gr.new (by rw [HLn.out]; omega)).move fun b hb hF => ⟨hF, ho4.block b hb (by have h9 : W1.heap.size ≤ b := hF; have h8 := HZ.out; omega)⟩; have HBq : Hid (Below w.heap.size w w4) := (by have h9 := hm4.1.bel; rw [HEw.out] at h9; exact h9); clear hm4 ho4; have d0 : w4.cell? ⟨w.heap.size + 1, 0, none⟩ = some (.string T) := (by rw [HT.out]; exact (mk_cells HM4.out.1.blk).1.1))
            | (go_at_call 10; refine (parseFacts_any T _ (HLd.out.1.kept (HBq.out)) (by have h9 := HM4.out.2; have h8 : (st.put E.G []).k = st.k + 1 := rfl; have h7 := HKs.out; rw [HT.out, arr_size]; omega)).mono ?_; intro e w5 hqq; obtain ⟨rfl, hb5⟩ := readFacts_bad hqq HQ2.out; clear hqq; have HB5 := hide (belowt2 hb5 (belowA w5 (.cells #[.int .i64 1, .int .i64 0, .int .i64 0] 45))); have HB6 := hide (belowt2 HBq.out HB5.out); have d1 := kept_cell HB5.out d0; unfold faultV; clear hb5)
            | (go_at_call 11; refine (HTk.out _ HB6.out).mono ?_; rintro e w7 ⟨rfl, hb7⟩; have HB7 := hide (belowt2 HB6.out hb7); clear hb7))
          go_ret
          exact ⟨rfl, HB7.out⟩
end Go.Proofs.YtilckhdaijfddaaDoor
