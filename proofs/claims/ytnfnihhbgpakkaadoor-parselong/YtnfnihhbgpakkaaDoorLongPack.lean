/- parse.read: a text's tokens, taken by a rule; where it gives up, the fault. parse's reader takes an atom without variables. parse's reader takes an atom without variables, by its name. parse's reader takes facts, and a query. parse.read: a text's tokens, taken by a rule; where it gives up, the fault. parse.read: a text's tokens, taken by a rule; where it gives up, the fault. parse.Program, parse.Facts, parse.Query. parse's reader takes one fact. parse.read of one fact. parse.Fact. A fault of parse's grammar is that of the tokens, or bears a number of parse's own. The law's own faultOf. The law's own taken: the document's example is read. The law's own times and mod. ParseLong: a text is refused by its length just above 65536 bytes, whatever stands in it. -/
import Derived.Test.YtnfnihhbgpakkaaDoorProg
import Derived.Test.YtnfnihhbgpakkaaDoorParseCatch
import Derived.Test.YtnfnihhbgpakkaaDoorParseProg
import Derived.Test.YtnfnihhbgpakkaaDoorParseAtom
import Derived.Test.YtnfnihhbgpakkaaDoorParseLit
import Derived.Test.YtnfnihhbgpakkaaDoorParseBody
import Derived.Test.YtnfnihhbgpakkaaDoorParseLen
import Derived.Test.YtnfnihhbgpakkaaDoorParseGood

namespace Go.Proofs.YtnfnihhbgpakkaaDoor
set_option linter.unusedSimpArgs false
set_option linter.unusedVariables false
open Go.RowKit

def ReadProg (w : World) (s : ByteArray) (e : Ending) (w' : World) : Prop :=
  match progP (scanX s).2.1 ((scanX s).2.2 : Int) (scanX s).1 with
  | .bad ec eo => e = .returned (.tuple #[.agg #[.slice none 0 0], faultV ec eo]) ∧ Below w.heap.size w w'
  | .ok b _ => ∃ v cs, e = .returned (.tuple #[.agg #[v], faultV 0 0]) ∧ cs.map Clx.pur = b ∧ cs.length ≤ 512 ∧ Lst elClx w' (fun k => w.heap.size ≤ k) v cs ∧ Below w.heap.size w w'

set_option maxRecDepth 100000 in
set_option maxHeartbeats 2000000 in
theorem readProg_any (s : ByteArray) (w : World) (hl : LexLaid w) (hs : s.size ≤ 140737488351232) :
    Calls Tryd.prog 24 #[.string s, .func (.func 25) #[] #[]] w (ReadProg w s) := by
  have hmf : ∀ (fn : Fn) (first cap : Array Value) (w : World), (Instr.makeFunc fn first cap).run Tryd.prog w = .ok (.func fn first cap) w := fun _ _ _ _ => rfl
  have HSc := hide (fun (W : World) (hb : Below w.heap.size w W) => scan_any s W (hl.kept hb) hs)
  clear hl hs
  unfold faultVal at HSc
  obtain ⟨res, hres⟩ : ∃ res, progP (scanX s).2.1 ((scanX s).2.2 : Int) (scanX s).1 = res := ⟨_, rfl⟩
  obtain ⟨Post, hPost⟩ : ∃ Post : Ending → World → Prop, Post = ReadProg w s := ⟨_, rfl⟩
  rw [← hPost]
  have PB : Hid (∀ ec eo w', res = .bad ec eo → Below w.heap.size w w' → Post (.returned (.tuple #[.agg #[.slice none 0 0], .agg #[.int .i64 ec, .int .i64 0, .int .i64 eo]])) w') := fun ec eo w' hr hb => by
    rw [hPost]; unfold ReadProg; rw [hres, hr]; exact ⟨rfl, hb⟩
  have PG : Hid (∀ b r v cs w', res = .ok b r → cs.map Clx.pur = b → cs.length ≤ 512 → Lst elClx w' (fun k => w.heap.size ≤ k) v cs → Below w.heap.size w w' → Post (.returned (.tuple #[.agg #[v], .agg #[.int .i64 0, .int .i64 0, .int .i64 0]])) w') := fun b r v cs w' hr h1 h2 h3 h4 => by
    rw [hPost]; unfold ReadProg; rw [hres, hr]; exact ⟨v, cs, rfl, h1, h2, h3, h4⟩
  have HR := hide hres
  clear hPost hres
  go_enter_defers Tryd.func24, Tryd.ntmps24
  go_wp2_with (go_at_call 30; refine (HSc.out _ (below2a _ _ _)).mono ?_; rintro e w1 ⟨v, rfl, ho1, hb1⟩; obtain ⟨ao, cap, rfl⟩ := own_shape ho1; have HO1 := hide ho1; have HB1 := hide hb1; clear ho1 hb1)
  have hs1 : w.heap.size + 2 ≤ w1.heap.size := by have := HB1.out.size; simp at this; omega
  have HA := hide (scan_ahead HB1.out HO1.out (W2 := (w1.alloc (.cells #[.int .i64 (scanX s).2.1, .int .i64 0, .int .i64 ((scanX s).2.2 : Int)] 27)).alloc (.cells #[.slice ao (scanX s).1.length cap, .int .i64 (scanX s).2.1, .int .i64 0, .int .i64 ((scanX s).2.2 : Int), .int .i64 0] 82)) (below2a w1 _ _) rfl (p := w1.heap.size + 1) (by omega) (by have := heap_alloc_new (w1.alloc (.cells #[.int .i64 (scanX s).2.1, .int .i64 0, .int .i64 ((scanX s).2.2 : Int)] 27)) (.cells #[.slice ao (scanX s).1.length cap, .int .i64 (scanX s).2.1, .int .i64 0, .int .i64 ((scanX s).2.2 : Int), .int .i64 0] 82); simpa using this))
  have HP := program_any HA.out
  rw [HR.out] at HP
  have HK : Hid (∀ w2, Only (fun k => k = w1.heap.size + 1) ((w1.alloc (.cells #[.int .i64 (scanX s).2.1, .int .i64 0, .int .i64 ((scanX s).2.2 : Int)] 27)).alloc (.cells #[.slice ao (scanX s).1.length cap, .int .i64 (scanX s).2.1, .int .i64 0, .int .i64 ((scanX s).2.2 : Int), .int .i64 0] 82)) w2 → w2.heap[w.heap.size]? = some (.cells #[.slice none 0 0] 41 (0, 0)) ∧ w2.heap[w.heap.size + 1]? = some (.cells #[.int .i64 0, .int .i64 0, .int .i64 0] 27 (0, 0)) ∧ Only (fun k => w.heap.size ≤ k) w w2) := fun w2 ho => by
    have q : ∀ k, k < w.heap.size + 2 → w2.heap[k]? = ((w.alloc (.cells #[.slice none 0 0] 41)).alloc (.cells #[.int .i64 0, .int .i64 0, .int .i64 0] 27)).heap[k]? := fun k hk => by
      rw [ho.block k (by simp; omega) (by omega), (below2a w1 _ _).block k (by omega), HB1.out.block k (by simp; omega)]
    refine ⟨?_, ?_, ((Only.of_below (below2a w _ _) _).trans (Only.of_below HB1.out _)).trans ((Only.of_below (below2a w1 _ _) _).trans (ho.mono fun k _ (e : k = w1.heap.size + 1) => by omega))⟩
    · rw [q _ (by omega), (belowA (w.alloc _) _).block _ (by simp)]; exact heap_alloc_new w _
    · rw [q _ (by omega)]
      have := heap_alloc_new (w.alloc (.cells #[.slice none 0 0] 41)) (.cells #[.int .i64 0, .int .i64 0, .int .i64 0] 27)
      simpa using this
  clear HO1 HB1 HSc HR
  cases res with
  | bad ec eo =>
    refine HP.mono ?_
    intro e w2 hq
    obtain ⟨rfl, ho2⟩ := progPost_bad hq
    obtain ⟨k0, k1, k2⟩ := HK.out w2 ho2
    clear hq HP HA
    refine leaves_cons (f := 35) (args := #[.pointer (some ⟨w.heap.size + 1, 0, none⟩)]) (by simp) (by simp [go_sem]) ?_
    refine (caughtProg (w.heap.size + 1) ec eo [] w2 k1).mono ?_
    rintro e u' w3 ⟨rfl, rfl, h3, o3⟩
    have h0 : w3.heap[w.heap.size]? = some (.cells #[.slice none 0 0] 41 (0, 0)) := by rw [o3.block _ (Array.getElem?_eq_some_iff.1 k0).1 (by omega)]; exact k0
    have c0 : w3.cell? ⟨w.heap.size, 0, none⟩ = some (.slice none 0 0) := by simp [World.cell?, h0]
    obtain ⟨⟨d0, d1, d2⟩, -⟩ := fault_cells h3
    have HF := hide (PB.out ec eo w3 rfl ((k2.trans (o3.mono fun k _ (e : k = w.heap.size + 1) => by omega)).below (Nat.le_refl _) (fun k hk e => by omega)))
    clear o3 h3 h0 k0 k1 k2
    simp [Leaves, settle, results, Tryd.results24, go_sem, c0, d0, d1, d2]
    exact HF.out
  | ok b r =>
    refine HP.mono ?_
    intro e w2 hq
    obtain ⟨v, cs, rfl, hpur, hlen, hgr, ha2, ho2⟩ := progPost_ok hq
    obtain ⟨va, vc, rfl, -⟩ := hgr.shape
    obtain ⟨k0, k1, k2⟩ := HK.out w2 ho2
    have HPu := hide hpur
    have HLn := hide hlen
    have HG := hide (hgr.new (by omega))
    have HK2 := hide k2
    clear hq HP HA hpur hlen hgr ha2 ho2
    have c0 : w2.cell? ⟨w.heap.size, 0, none⟩ = some (.slice none 0 0) := by simp [World.cell?, k0]
    have z0 : w2.frozen? ⟨w.heap.size, 0, none⟩ = false := by simp [World.frozen?, k0]
    obtain ⟨⟨d0, d1, d2⟩, ⟨y0, y1, y2⟩⟩ := fault_cells k1
    go_wp2_with fail
    have hO : Only (fun k => k = w.heap.size ∨ k = w.heap.size + 1) w2 ((((w2.setCell ⟨w.heap.size, 0, none⟩ (.slice va cs.length vc)).setCell ⟨w.heap.size + 1, 0, none⟩ (.int .i64 0)).setCell ⟨w.heap.size + 1, 1, none⟩ (.int .i64 0)).setCell ⟨w.heap.size + 1, 2, none⟩ (.int .i64 0)) := ((((Only.refl (fun k => k = w.heap.size ∨ k = w.heap.size + 1) w2).setCell (p := ⟨w.heap.size, 0, none⟩) (.inl rfl) _).setCell (p := ⟨w.heap.size + 1, 0, none⟩) (.inr rfl) _).setCell (p := ⟨w.heap.size + 1, 1, none⟩) (.inr rfl) _).setCell (p := ⟨w.heap.size + 1, 2, none⟩) (.inr rfl) _
    have hV0 : ((((w2.setCell ⟨w.heap.size, 0, none⟩ (.slice va cs.length vc)).setCell ⟨w.heap.size + 1, 0, none⟩ (.int .i64 0)).setCell ⟨w.heap.size + 1, 1, none⟩ (.int .i64 0)).setCell ⟨w.heap.size + 1, 2, none⟩ (.int .i64 0)).heap[w.heap.size]? = some (.cells #[.slice va cs.length vc] 41 (0, 0)) := by simp [World.setCell, Array.getElem?_modify, k0]
    have hV1 : ((((w2.setCell ⟨w.heap.size, 0, none⟩ (.slice va cs.length vc)).setCell ⟨w.heap.size + 1, 0, none⟩ (.int .i64 0)).setCell ⟨w.heap.size + 1, 1, none⟩ (.int .i64 0)).setCell ⟨w.heap.size + 1, 2, none⟩ (.int .i64 0)).heap[w.heap.size + 1]? = some (.cells #[.int .i64 0, .int .i64 0, .int .i64 0] 27 (0, 0)) := by simp [World.setCell, Array.getElem?_modify, k1]
    generalize (((w2.setCell ⟨w.heap.size, 0, none⟩ (.slice va cs.length vc)).setCell ⟨w.heap.size + 1, 0, none⟩ (.int .i64 0)).setCell ⟨w.heap.size + 1, 1, none⟩ (.int .i64 0)).setCell ⟨w.heap.size + 1, 2, none⟩ (.int .i64 0) = V at hO hV0 hV1 ⊢
    clear c0 z0 d0 d1 d2 y0 y1 y2 k0 k1
    refine leaves_cons (f := 35) (args := #[.pointer (some ⟨w.heap.size + 1, 0, none⟩)]) (by simp) (by simp [go_sem]) ?_
    refine (idleProg ⟨w.heap.size + 1, 0, none⟩ V).mono ?_
    rintro e u' w3 ⟨rfl, rfl, hw⟩
    have hw := hw.symm
    subst hw
    have c0 : V.cell? ⟨w.heap.size, 0, none⟩ = some (.slice va cs.length vc) := by simp [World.cell?, hV0]
    obtain ⟨⟨d0, d1, d2⟩, -⟩ := fault_cells hV1
    have HF := hide (PG.out b r (.slice va cs.length vc) cs V rfl HPu.out HLn.out (HG.out.move fun k hk hF => ⟨by simp at hF; omega, hO.block k hk (by simp at hF; omega)⟩) ((HK2.out.trans (hO.mono fun k _ (e : k = w.heap.size ∨ k = w.heap.size + 1) => by omega)).below (Nat.le_refl _) (fun k hk e => by omega)))
    clear hO hV0 hV1
    simp [Leaves, settle, results, Tryd.results24, go_sem, c0, d0, d1, d2]
    exact HF.out
end Go.Proofs.YtnfnihhbgpakkaaDoor

namespace Go.Proofs.YtnfnihhbgpakkaaDoor
set_option linter.unusedSimpArgs false
set_option linter.unusedVariables false
open Go.RowKit

set_option maxHeartbeats 4000000 in
set_option maxRecDepth 100000 in
theorem atomValue {w : World} {p : Nat} {ao : Option Addr} {cap : Nat} {L : List Tok} {c f : Int} {R : List Tok} (name : Tok) (h : Ahead w p ao cap L c f R) (hname : name.good) :
    Calls Tryd.prog 41 #[.pointer (some ⟨p, 0, none⟩), tokV name, .func (.func 42) #[] #[]] w (AtmPost w p ao cap L c f (atomP c f valueKs name R)) := by
  unfold tokV
  match R, h with
  | [], h =>
    have HL := hide (fun W (hb : Below w.heap.size w W) => look_none (h.kept hb))
    have HE : Hid (atomP c f valueKs name [] = .bad c f) := rfl
    rw [HE.out]
    clear HE h
    unfold AtmPost
    go_enter Tryd.func41, Tryd.ntmps41
    go_wp2_with (go_at_call 43; refine (HL.out _ (below3a _ _ _ _)).mono ?_; rintro e w1 ⟨rfl, hb⟩)
    exact ⟨rfl, rfl, Only.of_below (belowt2 (below3a _ _ _ _) hb) _⟩
  | x :: r, h =>
    have HL := hide (fun W (hb : Below w.heap.size w W) => look_good (h.kept hb))
    unfold tokV at HL
    by_cases h5 : x.k = 5
    · have hT : takeP c f [5] (x :: r) = .ok x r := by simp [takeP, h5]
      have HE : Hid (atomP c f valueKs name (x :: r) = toAtom name (argsP c f valueKs [] r)) := by show atomP _ _ _ _ _ = _; unfold atomP; simp only; rw [if_pos h5]; cases argsP c f valueKs [] r <;> rfl
      have hfd := tok_kind (.int .i64 x.k) (.string x.t) (.int .i64 x.n) (.int .i64 x.op) (.int .i64 (x.off : Int)) (.int .i64 (x.en : Int))
      have e5 : (x.k != 5) = false := by simpa using h5
      obtain ⟨res, hres⟩ : ∃ res, argsP c f valueKs [] r = res := ⟨_, rfl⟩
      rw [HE.out, hres]
      obtain ⟨Post, hPost⟩ : ∃ Post : Ending → World → Prop, Post = AtmPost w p ao cap L c f (toAtom name res) := ⟨_, rfl⟩
      rw [← hPost]
      have PB : Hid (∀ ec eo w', res = .bad ec eo → Only (fun k => k = p) w w' → Post (PEnd ec eo) w') := fun ec eo w' hr ho => by
        rw [hPost, hr]; exact ⟨rfl, ho⟩
      have PG : Hid (∀ ts r' v w', res = .ok ts r' → Lst elTrm w' (fun b => w.heap.size ≤ b) v ts → Ahead w' p ao cap L c f r' → Only (fun k => k = p) w w' → Post (.returned (.agg #[.string name.t, v, .int .i64 (name.off : Int)])) w') := fun ts r' v w' hr h1 h2 h3 => by
        rw [hPost, hr]; exact ⟨⟨name.t, v, name.off, ts⟩, rfl, rfl, ⟨(good_parts hname).1, (good_parts hname).2, h1⟩, h2, h3⟩
      have HRes := hide hres
      have H0 := hide h
      have hp := h.lt
      have HT : Hid (∀ W, Below w.heap.size w W → Calls Tryd.prog 32 #[.pointer (some ⟨p, 0, none⟩), .slice (some ⟨W.heap.size, 0, none⟩) 1 1] (W.alloc (.cells #[.int .i64 5] 3)) fun e w' => e = .returned (tokV x) ∧ Ahead w' p ao cap L c f r ∧ Only (fun b => b = p) W w') := fun W hb => take_lit_good [5] (h.kept hb) (by decide) hT
      clear HE h h5 hres hT hPost
      go_enter Tryd.func41, Tryd.ntmps41
      go_wp2_with (first
        | (go_at_call 43; refine (HL.out _ (below3a _ _ _ _)).mono ?_; rintro e w1 ⟨rfl, hb⟩; have HB := hide hb; have HW := hide (belowt2 (below3a _ _ _ _) hb); clear hb)
        | (go_at_call 32; refine (HT.out _ HW.out).mono ?_; rintro e w2 ⟨rfl, ha, ho⟩; have HA := hide ha; have HO := hide ho; clear ha ho))
      have HS : Hid (AtmLoop w w2 p ao cap L c f r name.t (name.off : Int) (.slice none 0 0) []) :=
        (AtmLoop.move ⟨H0.out.kept HW.out, atom_box2 HB.out, atom_box HB.out, World.ownsRow_nil _ _ _ _, Only.of_below HW.out _, hp, by simp, H0.out.tk⟩ HO.out HA.out : AtmLoop w w2 p ao cap L c f r name.t (name.off : Int) (.slice none 0 0) [])
      clear HA HO HT HL HB HW
      go_loopw [8] (fun _ wr => ∃ (acc : List Trm) (R : List Tok) (v : Value), acc.length ≤ 8 ∧ Hid (AtmLoop w wr p ao cap L c f R name.t (name.off : Int) v acc) ∧ Hid (argsP c f valueKs acc R = res)) (fun _ wr => 70000 - (intOf ((wr.cell? ⟨p, 4, none⟩).getD undef)).toNat)
      case atStart => exact ⟨[], r, _, by simp, HS, HRes⟩
      case round =>
        clear HS HRes hfd e5
        obtain ⟨acc, R, v, hacc, HS, HRes⟩ := hrel
        obtain ⟨ix, isz⟩ := HS.out.ah.index
        obtain ⟨vo, vc, rfl⟩ := own_shape HS.out.ow
        cases hT : takeP c f valueKs R with
        | bad ec eo =>
          have HP := hide (value_fail HS.out.ah hT)
          have HX : Hid (res = .bad ec eo) := by show _ = _; rw [← HRes.out]; exact args_bad1 hT
          clear hT
          go_wp2_with (go_at_call 42; refine HP.out.mono ?_; rintro e w3 ⟨rfl, hb⟩)
          exact ⟨rfl, PB.out _ _ _ HX.out (only_drop (HS.out.below hb).on)⟩
        | ok t r1 =>
          have HP := hide (value_good HS.out.ah hT)
          have tp := take_eq hT
          have HTok : Hid ((termP t).ok) := termP_ok (HS.out.ah.good t (by rw [tp.1]; exact List.mem_cons_self))
          unfold Trm.val at HP
          clear tp
          by_cases h8 : acc.length = 8
          · have HX : Hid (res = .bad 22 (termP t).off) := by show _ = _; rw [← HRes.out]; exact args_lim hT h8
            have HLm := hide (limit_bad 8 22 (termP t).off)
            rw [h8] at HS
            clear hT hacc
            go_wp2_with (first
              | (go_at_call 42; refine HP.out.mono ?_; rintro e w3 ⟨rfl, ha, ho⟩; have HS3 := hide (HS.out.move ho ha); clear ha ho; obtain ⟨d0, d1, d2, d3⟩ := (HS3.out.below (belowA w3 (.cells #[.int .i64 (termP t).k, .int .i64 (termP t).n, .string (termP t).s, .int .i64 (termP t).off] 67))).cells)
              | (go_at_call 34; refine (HLm.out _).mono ?_; rintro e w4 ⟨rfl, hw⟩; have hw := hw.symm; subst hw))
            exact ⟨rfl, PB.out _ _ _ HX.out (only_drop (HS3.out.below (belowA _ _)).on)⟩
          · have HLm := hide (limit_ok (acc.length : Int) 8 22 (termP t).off (h := by omega))
            have HNx := args_next (c := c) (f := f) hT h8
            have hlen1 : r1.length + 1 = R.length := by rw [(take_eq hT).1]; rfl
            have hacc8 : acc.length < 8 := by omega
            clear hT h8
            cases hU : takeP c f [7, 6] r1 with
            | bad ec eo =>
              have HX : Hid (res = .bad ec eo) := by show _ = _; rw [← HRes.out, HNx, hU]
              have HT2 : Hid (∀ (W : World) (n : Nat), W.heap.size = n → Ahead W p ao cap L c f r1 → Calls Tryd.prog 32 #[.pointer (some ⟨p, 0, none⟩), .slice (some ⟨n, 0, none⟩) 2 2] (W.alloc (.cells #[.int .i64 7, .int .i64 6] 3)) fun e w' => e = PEnd ec eo ∧ Below W.heap.size W w') := fun W n hn ha => hn ▸ take_lit_fail [7, 6] ha (by decide) hU
              clear hU HNx hlen1
              go_wp2_with (first
                | (go_at_call 42; refine HP.out.mono ?_; rintro e w3 ⟨rfl, ha, ho⟩; have HS3 := hide (HS.out.move ho ha); clear ha ho; obtain ⟨d0, d1, d2, d3⟩ := (HS3.out.below (belowA w3 (.cells #[.int .i64 (termP t).k, .int .i64 (termP t).n, .string (termP t).s, .int .i64 (termP t).off] 67))).cells; have HS5 := hide ((HS3.out.below (belowA w3 (.cells #[.int .i64 (termP t).k, .int .i64 (termP t).n, .string (termP t).s, .int .i64 (termP t).off] 67))).below (belowA _ (.cells #[.int .i64 (termP t).k, .int .i64 (termP t).n, .string (termP t).s, .int .i64 (termP t).off] 67))))
                | (go_at_call 34; refine (HLm.out _).mono ?_; rintro e w4 ⟨⟨v4, rfl⟩, hw⟩; have hw := hw.symm; subst hw)
                | (at_builtin; obtain ⟨i0, hi0, hz0, hz1, hz2⟩ := info_parts Tryd.infoTerm; refine wpList_push (w0 := (w3.alloc (.cells #[.int .i64 (termP t).k, .int .i64 (termP t).n, .string (termP t).s, .int .i64 (termP t).off] 67)).alloc (.cells #[.int .i64 (termP t).k, .int .i64 (termP t).n, .string (termP t).s, .int .i64 (termP t).off] 67)) elTrm rfl _ _ 34 rfl (w.heap.size + 3) 67 i0 _ 40 Tryd.underlying34 hi0 hz0 hz1 hz2 rfl (by decide) _ acc acc.length rfl rfl HS5.out.grow (termP t) (w3.heap.size + 1) 1 rfl (fun j u hu => by have := new_cells (w := w3.alloc (.cells #[.int .i64 (termP t).k, .int .i64 (termP t).n, .string (termP t).s, .int .i64 (termP t).off] 67)) (cs := #[.int .i64 (termP t).k, .int .i64 (termP t).n, .string (termP t).s, .int .i64 (termP t).off]) (t := 67) j u hu; simpa using this) HTok.out (by omega) (Below.refl _ _) HS5.out.base ?_; intro g cap' w5 HG5 HB5 HGr; clear HB5 hi0 hz0 hz1 hz2; obtain ⟨f0, f1⟩ := HS5.out.far HGr.out; have HS6 := hide (HS5.out.pushG HTok.out HGr.out HG5.out); clear HG5 HGr)
                | (go_at_call 32; refine (HT2.out _ _ (by simp) HS6.out.ah).mono ?_; rintro e w6 ⟨rfl, hb6⟩))
              exact ⟨rfl, PB.out _ _ _ HX.out (only_drop (HS6.out.below hb6).on)⟩
            | ok s r2 =>
              have HT2 : Hid (∀ (W : World) (n : Nat), W.heap.size = n → Ahead W p ao cap L c f r1 → Calls Tryd.prog 32 #[.pointer (some ⟨p, 0, none⟩), .slice (some ⟨n, 0, none⟩) 2 2] (W.alloc (.cells #[.int .i64 7, .int .i64 6] 3)) fun e w' => e = .returned (tokV s) ∧ Ahead w' p ao cap L c f r2 ∧ Only (fun b => b = p) W w') := fun W n hn ha => hn ▸ take_lit_good [7, 6] ha (by decide) hU
              have hfd2 := tok_kind (.int .i64 s.k) (.string s.t) (.int .i64 s.n) (.int .i64 s.op) (.int .i64 (s.off : Int)) (.int .i64 (s.en : Int))
              have hs76 := (take_eq hU).2
              have hlen2 : r2.length + 2 = R.length := by rw [← hlen1, (take_eq hU).1]; rfl
              unfold tokV at HT2
              by_cases h6 : s.k = 6
              · have e6 : (s.k == 6) = true := by simpa using h6
                have HX : Hid (res = .ok (acc ++ [termP t]) r2) := by show _ = _; rw [← HRes.out, HNx, hU]; simp only; rw [if_neg (by omega)]
                clear hU HNx hlen1 hlen2 hs76 h6
                go_wp2_with (first
                | (go_at_call 42; refine HP.out.mono ?_; rintro e w3 ⟨rfl, ha, ho⟩; have HS3 := hide (HS.out.move ho ha); clear ha ho; obtain ⟨d0, d1, d2, d3⟩ := (HS3.out.below (belowA w3 (.cells #[.int .i64 (termP t).k, .int .i64 (termP t).n, .string (termP t).s, .int .i64 (termP t).off] 67))).cells; have HS5 := hide ((HS3.out.below (belowA w3 (.cells #[.int .i64 (termP t).k, .int .i64 (termP t).n, .string (termP t).s, .int .i64 (termP t).off] 67))).below (belowA _ (.cells #[.int .i64 (termP t).k, .int .i64 (termP t).n, .string (termP t).s, .int .i64 (termP t).off] 67))))
                | (go_at_call 34; refine (HLm.out _).mono ?_; rintro e w4 ⟨⟨v4, rfl⟩, hw⟩; have hw := hw.symm; subst hw)
                | (at_builtin; obtain ⟨i0, hi0, hz0, hz1, hz2⟩ := info_parts Tryd.infoTerm; refine wpList_push (w0 := (w3.alloc (.cells #[.int .i64 (termP t).k, .int .i64 (termP t).n, .string (termP t).s, .int .i64 (termP t).off] 67)).alloc (.cells #[.int .i64 (termP t).k, .int .i64 (termP t).n, .string (termP t).s, .int .i64 (termP t).off] 67)) elTrm rfl _ _ 34 rfl (w.heap.size + 3) 67 i0 _ 40 Tryd.underlying34 hi0 hz0 hz1 hz2 rfl (by decide) _ acc acc.length rfl rfl HS5.out.grow (termP t) (w3.heap.size + 1) 1 rfl (fun j u hu => by have := new_cells (w := w3.alloc (.cells #[.int .i64 (termP t).k, .int .i64 (termP t).n, .string (termP t).s, .int .i64 (termP t).off] 67)) (cs := #[.int .i64 (termP t).k, .int .i64 (termP t).n, .string (termP t).s, .int .i64 (termP t).off]) (t := 67) j u hu; simpa using this) HTok.out (by omega) (Below.refl _ _) HS5.out.base ?_; intro g cap' w5 HG5 HB5 HGr; clear HB5 hi0 hz0 hz1 hz2; obtain ⟨f0, f1⟩ := HS5.out.far HGr.out; have HS6 := hide (HS5.out.pushG HTok.out HGr.out HG5.out); clear HG5 HGr)
                  | (go_at_call 32; refine (HT2.out _ _ (by simp) HS6.out.ah).mono ?_; rintro e w6 ⟨rfl, ha, ho⟩; have HS7 := hide (HS6.out.move ho ha); clear ha ho; obtain ⟨y0, y1, y2, y3⟩ := HS7.out.cells; obtain ⟨q0, q1, q2, q3, q4, q5⟩ := HS7.out.box))
                obtain ⟨z1, z2, z3⟩ := HS7.out.fin (by simp; omega) (.string name.t) (.slice (some ⟨g, 0, none⟩) (acc.length + 1) cap') (.int .i64 (name.off : Int))
                exact bodyPost_ret (atom_res _ (w.heap.size + 1) _ _ _ _ rfl (box3_put HS7.out.br _ _ _)) rfl (PG.out _ _ _ _ HX.out z1 z2 z3)
              · have e6 : (s.k == 6) = false := by simpa using h6
                have HX : Hid (argsP c f valueKs (acc ++ [termP t]) r2 = res) := by show _ = _; rw [← HRes.out, HNx, hU]; simp only; rw [if_pos (by simp at hs76; omega)]
                clear hU HNx hlen1 hs76 h6
                have HL2 := hide hlen2
                clear hlen2
                go_wp2_with (first
                | (go_at_call 42; refine HP.out.mono ?_; rintro e w3 ⟨rfl, ha, ho⟩; have HS3 := hide (HS.out.move ho ha); clear ha ho; obtain ⟨d0, d1, d2, d3⟩ := (HS3.out.below (belowA w3 (.cells #[.int .i64 (termP t).k, .int .i64 (termP t).n, .string (termP t).s, .int .i64 (termP t).off] 67))).cells; have HS5 := hide ((HS3.out.below (belowA w3 (.cells #[.int .i64 (termP t).k, .int .i64 (termP t).n, .string (termP t).s, .int .i64 (termP t).off] 67))).below (belowA _ (.cells #[.int .i64 (termP t).k, .int .i64 (termP t).n, .string (termP t).s, .int .i64 (termP t).off] 67))))
                | (go_at_call 34; refine (HLm.out _).mono ?_; rintro e w4 ⟨⟨v4, rfl⟩, hw⟩; have hw := hw.symm; subst hw)
                | (at_builtin; obtain ⟨i0, hi0, hz0, hz1, hz2⟩ := info_parts Tryd.infoTerm; refine wpList_push (w0 := (w3.alloc (.cells #[.int .i64 (termP t).k, .int .i64 (termP t).n, .string (termP t).s, .int .i64 (termP t).off] 67)).alloc (.cells #[.int .i64 (termP t).k, .int .i64 (termP t).n, .string (termP t).s, .int .i64 (termP t).off] 67)) elTrm rfl _ _ 34 rfl (w.heap.size + 3) 67 i0 _ 40 Tryd.underlying34 hi0 hz0 hz1 hz2 rfl (by decide) _ acc acc.length rfl rfl HS5.out.grow (termP t) (w3.heap.size + 1) 1 rfl (fun j u hu => by have := new_cells (w := w3.alloc (.cells #[.int .i64 (termP t).k, .int .i64 (termP t).n, .string (termP t).s, .int .i64 (termP t).off] 67)) (cs := #[.int .i64 (termP t).k, .int .i64 (termP t).n, .string (termP t).s, .int .i64 (termP t).off]) (t := 67) j u hu; simpa using this) HTok.out (by omega) (Below.refl _ _) HS5.out.base ?_; intro g cap' w5 HG5 HB5 HGr; clear HB5 hi0 hz0 hz1 hz2; obtain ⟨f0, f1⟩ := HS5.out.far HGr.out; have HS6 := hide (HS5.out.pushG HTok.out HGr.out HG5.out); clear HG5 HGr)
                  | (go_at_call 32; refine (HT2.out _ _ (by simp) HS6.out.ah).mono ?_; rintro e w6 ⟨rfl, ha, ho⟩; have HS7 := hide (HS6.out.move ho ha); clear ha ho))
                go_roundw
                case rel => exact ⟨acc ++ [termP t], r2, _, by simp; omega, HS7, HX⟩
                case measure =>
                  obtain ⟨jx, -⟩ := HS7.out.ah.index
                  have := HL2.out
                  omega
    · have HE : Hid (atomP c f valueKs name (x :: r) = .ok ⟨name.t, [], name.off⟩ (x :: r)) := by show atomP _ _ _ _ _ = _; unfold atomP; simp only; rw [if_neg h5]
      have e5 : (x.k != 5) = true := by simpa using h5
      have hfd := tok_kind (.int .i64 x.k) (.string x.t) (.int .i64 x.n) (.int .i64 x.op) (.int .i64 (x.off : Int)) (.int .i64 (x.en : Int))
      rw [HE.out]
      have H0 := hide h
      clear HE h h5
      unfold AtmPost
      go_enter Tryd.func41, Tryd.ntmps41
      go_wp2_with (go_at_call 43; refine (HL.out _ (below3a _ _ _ _)).mono ?_; rintro e w1 ⟨rfl, hb⟩; have HB := hide hb; clear hb; obtain ⟨k0, k1, k2, z0, z1, z2, a0, a1, a2⟩ := atom_boxes HB.out)
      have HO2 : Only (fun k => k = p ∨ w.heap.size ≤ k) w w1 := Only.of_below (belowt2 (below3a _ _ _ _) HB.out) _
      have HE := only_drop (((HO2.setCell (p := ⟨w.heap.size + 1, 0, none⟩) (.inr (Nat.le_add_right _ _)) (.string name.t)).setCell (p := ⟨w.heap.size + 1, 1, none⟩) (.inr (Nat.le_add_right _ _)) (.slice none 0 0)).setCell (p := ⟨w.heap.size + 1, 2, none⟩) (.inr (Nat.le_add_right _ _)) (.int .i64 (name.off : Int)))
      have HA2 := H0.out.box (H0.out.kept (belowt2 (below3a _ _ _ _) HB.out)) ((((Only.refl (fun b => w.heap.size ≤ b) w1).setCell (p := ⟨w.heap.size + 1, 0, none⟩) (Nat.le_add_right _ _) (.string name.t)).setCell (p := ⟨w.heap.size + 1, 1, none⟩) (Nat.le_add_right _ _) (.slice none 0 0)).setCell (p := ⟨w.heap.size + 1, 2, none⟩) (Nat.le_add_right _ _) (.int .i64 (name.off : Int)))
      exact bodyPost_ret (atom_res _ (w.heap.size + 1) _ _ _ _ rfl (box3_put (atom_box HB.out) _ _ _)) rfl ⟨⟨name.t, .slice none 0 0, name.off, []⟩, rfl, rfl, ⟨(good_parts hname).1, (good_parts hname).2, Lst.nil _ _ _⟩, HA2, HE⟩

end Go.Proofs.YtnfnihhbgpakkaaDoor

namespace Go.Proofs.YtnfnihhbgpakkaaDoor
set_option linter.unusedSimpArgs false
set_option linter.unusedVariables false
open Go.RowKit

theorem groundRes (W : World) (b : Nat) (u0 u1 u2 : Value) (tmps : Array Value) (ht : tmps[4]? = some (.pointer (some ⟨b, 0, none⟩))) (hb : W.heap[b]? = some (.cells #[u0, u1, u2] 36 (0, 0))) :
    (results Tryd.f31 tmps).run Tryd.prog W = .ok (.agg #[u0, u1, u2]) W := by
  obtain ⟨c0, c1, c2, -⟩ := box3_cells hb
  simp [results, Tryd.results31, go_sem, ht, c0, c1, c2]

set_option maxHeartbeats 1000000 in
set_option maxRecDepth 100000 in
theorem ground_any {w : World} {p : Nat} {ao : Option Addr} {cap : Nat} {L : List Tok} {c f : Int} {R : List Tok} (name : Tok) (h : Ahead w p ao cap L c f R) (hname : name.good) :
    Calls Tryd.prog 31 #[.pointer (some ⟨p, 0, none⟩), tokV name] w (AtmPost w p ao cap L c f (atomP c f valueKs name R)) := by
  have HC := hide (fun (W : World) (hb : Below w.heap.size w W) => atomValue name (h.kept hb) hname)
  have H0 := hide h
  have hp := h.lt
  clear h hname
  unfold tokV at *
  obtain ⟨res, hres⟩ : ∃ res, atomP c f valueKs name R = res := ⟨_, rfl⟩
  rw [hres] at HC ⊢
  clear hres
  cases res with
  | bad ec eo =>
    unfold AtmPost
    go_enter Tryd.func31, Tryd.ntmps31
    go_wp2_with (go_at_call 41; refine (HC.out _ (below2a _ _ _)).mono ?_; intro e w1 hq; obtain ⟨rfl, ho⟩ := atmPost_bad hq; clear hq)
    exact ⟨rfl, rfl, only_drop (only_wide (below2a _ _ _) ho)⟩
  | ok x r =>
    unfold AtmPost
    go_enter Tryd.func31, Tryd.ntmps31
    go_wp2_with (go_at_call 41; refine (HC.out _ (below2a _ _ _)).mono ?_; intro e w1 hq; obtain ⟨a, rfl, hpur, hok, ha, ho⟩ := atmPost_ok hq; clear hq; have HPu := hide hpur; have HOk := hide hok; have HA := hide ha; have HO := hide ho; have HBx := hide (second_box hp ho); clear hpur hok ha ho; unfold Atx.val; obtain ⟨q0, q1, q2, q3, q4, q5⟩ := box3_cells HBx.out; obtain ⟨va, vc, hv, -⟩ := HOk.out.2.2.shape)
    obtain ⟨z1, z2⟩ := fin_ahead H0.out HA.out (only_wide (below2a _ _ _) HO.out) (only_three (w.heap.size + 1) (.string a.p) a.v (.int .i64 a.off)) (by omega)
    have z3 := fin_ok elAtx (n := w.heap.size) HOk.out (only_three (w.heap.size + 1) (.string a.p) a.v (.int .i64 a.off)) (by simp) (by simp; omega)
    rw [hv] at z1 z2 z3
    exact bodyPost_ret (groundRes _ (w.heap.size + 1) _ _ _ _ rfl (box3_put HBx.out _ _ _)) rfl ⟨a, by unfold Atx.val; rw [hv], HPu.out, z3, z1, z2⟩
end Go.Proofs.YtnfnihhbgpakkaaDoor

namespace Go.Proofs.YtnfnihhbgpakkaaDoor
set_option linter.unusedSimpArgs false
set_option linter.unusedVariables false
open Go.RowKit

theorem Tryd.infoAtm : (Tryd.prog.info? 36).map (fun i => (i.zero, i.size, i.bytes)) = some (some (.agg #[.string ⟨#[]⟩, .slice none 0 0, .int .i64 0]), 3, 48) := by kernel_rfl

def FactsPost (w : World) (p : Nat) (ao : Option Addr) (cap : Nat) (L : List Tok) (c f : Int) (res : PR (List PAtom)) (e : Ending) (w' : World) : Prop :=
  match res with
  | .bad ec eo => e = PEnd ec eo ∧ Only (fun k => k = p) w w'
  | .ok b r => ∃ v ls, e = .returned v ∧ ls.map Atx.pur = b ∧ ls.length ≤ 4096 ∧ Grow elAtx 36 w.heap.size w' v ls ∧ Ahead w' p ao cap L c f r ∧ Only (fun k => k = p) w w'
theorem factsPost_bad {w w' : World} {p : Nat} {ao : Option Addr} {cap : Nat} {L : List Tok} {c f ec eo : Int} {e : Ending} (h : FactsPost w p ao cap L c f (.bad ec eo) e w') : e = PEnd ec eo ∧ Only (fun k => k = p) w w' := h
theorem factsPost_ok {w w' : World} {p : Nat} {ao : Option Addr} {cap : Nat} {L : List Tok} {c f : Int} {x : List PAtom} {r : List Tok} {e : Ending} (h : FactsPost w p ao cap L c f (.ok x r) e w') : ∃ v ls, e = .returned v ∧ ls.map Atx.pur = x ∧ ls.length ≤ 4096 ∧ Grow elAtx 36 w.heap.size w' v ls ∧ Ahead w' p ao cap L c f r ∧ Only (fun k => k = p) w w' := h

set_option maxHeartbeats 4000000 in
set_option maxRecDepth 100000 in
theorem facts_any {w : World} {p : Nat} {ao : Option Addr} {cap : Nat} {L : List Tok} {c f : Int} {R : List Tok} (h : Ahead w p ao cap L c f R) :
    Calls Tryd.prog 23 #[.pointer (some ⟨p, 0, none⟩)] w (FactsPost w p ao cap L c f (factsP c f R)) := by
  obtain ⟨res, hres⟩ : ∃ res, factsP c f R = res := ⟨_, rfl⟩
  rw [hres]
  have HRes0 : Hid (factsF c f (R.length + 1) [] R = res) := hres
  obtain ⟨Post, hPost⟩ : ∃ Post : Ending → World → Prop, Post = FactsPost w p ao cap L c f res := ⟨_, rfl⟩
  rw [← hPost]
  have PB : Hid (∀ ec eo w', res = .bad ec eo → Only (fun k => k = p) w w' → Post (PEnd ec eo) w') := fun ec eo w' hr ho => by
    rw [hPost, hr]; exact ⟨rfl, ho⟩
  have PG : Hid (∀ b r' v ls w', res = .ok b r' → ls.map Atx.pur = b → ls.length ≤ 4096 → Grow elAtx 36 w.heap.size w' v ls → Ahead w' p ao cap L c f r' → Only (fun k => k = p) w w' → Post (.returned v) w') := fun b r' v ls w' hr h1 h2 h3 h4 h5 => by
    rw [hPost, hr]; exact ⟨v, ls, rfl, h1, h2, h3, h4, h5⟩
  have HC0 := hide (Coll3.start (E := elAtx) (e := 36) h)
  clear hPost h hres
  go_enter Tryd.func23, Tryd.ntmps23
  go_wp2
  go_loopw [3] (fun v wr => ∃ (n : Nat) (ls : List Atx) (R1 : List Tok), ls.length ≤ 4096 ∧ R1.length < n ∧ Hid (Coll3 elAtx 36 w wr p ao cap L c f R1 w.heap.size v ls) ∧ Hid (factsF c f n (ls.map Atx.pur) R1 = res)) (fun _ wr => 70000 - (intOf ((wr.cell? ⟨p, 4, none⟩).getD undef)).toNat)
  case atStart => exact ⟨R.length + 1, [], R, by simp, by omega, HC0, HRes0⟩
  case round =>
    clear HC0 HRes0
    obtain ⟨n, ls, R1, hls, hn, HC, HRes⟩ := hrel
    obtain ⟨n, rfl⟩ : ∃ m, n = m + 1 := ⟨n - 1, by omega⟩
    obtain ⟨va, vc, rfl, -⟩ := HC.out.gr.shape
    cases hT : takeP c f [1, 0] R1 with
    | bad ec eo =>
      have HT : Hid (∀ (W : World) (g : Nat), W.heap.size = g → Ahead W p ao cap L c f R1 → Calls Tryd.prog 32 #[.pointer (some ⟨p, 0, none⟩), .slice (some ⟨g, 0, none⟩) 2 2] (W.alloc (.cells #[.int .i64 1, .int .i64 0] 3)) fun e w' => e = PEnd ec eo ∧ Below W.heap.size W w') := fun W g hg ha => hg ▸ take_lit_fail [1, 0] ha (by decide) hT
      have HX : Hid (res = .bad ec eo) := by show _ = _; rw [← HRes.out]; exact facts_bad1 hT
      clear hT
      go_wp2_with (go_at_call 32; refine (HT.out _ _ rfl HC.out.ah).mono ?_; rintro e w1 ⟨rfl, hb1⟩)
      exact ⟨rfl, PB.out _ _ _ HX.out (HC.out.below hb1).end_⟩
    | ok t r1 =>
      have HT : Hid (∀ (W : World) (g : Nat), W.heap.size = g → Ahead W p ao cap L c f R1 → Calls Tryd.prog 32 #[.pointer (some ⟨p, 0, none⟩), .slice (some ⟨g, 0, none⟩) 2 2] (W.alloc (.cells #[.int .i64 1, .int .i64 0] 3)) fun e w' => e = .returned (tokV t) ∧ Ahead w' p ao cap L c f r1 ∧ Only (fun b => b = p) W w') := fun W g hg ha => hg ▸ take_lit_good [1, 0] ha (by decide) hT
      have htg : t.good := HC.out.ah.good t (by rw [(take_eq hT).1]; exact List.mem_cons_self)
      have l1 := take_len hT
      unfold tokV at HT
      by_cases h0 : t.k = 0
      · have e0 : (t.k == 0) = true := by simpa using h0
        have HX : Hid (res = .ok (ls.map Atx.pur) r1) := by show _ = _; rw [← HRes.out]; exact facts_end hT h0
        clear hT h0
        go_wp2_with (go_at_call 32; refine (HT.out _ _ rfl HC.out.ah).mono ?_; rintro e w1 ⟨rfl, ha1, ho1⟩; have HC1 := hide ((HC.out.move ho1 ha1).below (belowA w1 (.cells #[.int .i64 t.k, .string t.t, .int .i64 t.n, .int .i64 t.op, .int .i64 (t.off : Int), .int .i64 (t.en : Int)] 85))); clear ha1 ho1 HT)
        exact PG.out _ _ _ _ _ HX.out rfl hls HC1.out.gr HC1.out.ah HC1.out.end_
      · have e0 : (t.k == 0) = false := by simpa using h0
        by_cases hmx : ls.length = 4096
        · have HLm := hide (limit_eq (ls.length : Int) 4096 24 (t.off : Int) (h := by omega))
          have HX : Hid (res = .bad 24 (t.off : Int)) := by show _ = _; rw [← HRes.out]; exact facts_lim hT h0 (by rw [List.length_map]; exact hmx)
          clear hT h0 hmx hls
          go_wp2_with (first
            | (go_at_call 32; refine (HT.out _ _ rfl HC.out.ah).mono ?_; rintro e w1 ⟨rfl, ha1, ho1⟩; have HC1 := hide ((HC.out.move ho1 ha1).below (belowA w1 (.cells #[.int .i64 t.k, .string t.t, .int .i64 t.n, .int .i64 t.op, .int .i64 (t.off : Int), .int .i64 (t.en : Int)] 85))); clear ha1 ho1 HT)
            | (go_at_call 34; refine (HLm.out _).mono ?_; rintro e w2 ⟨rfl, hw⟩; have hw := hw.symm; subst hw))
          exact ⟨rfl, PB.out _ _ _ HX.out HC1.out.end_⟩
        · have HLm := hide (limit_ok (ls.length : Int) 4096 24 (t.off : Int) (h := by omega))
          have hls4 : ls.length < 4096 := by omega
          have HG0 := fun (W : World) (ha : Ahead W p ao cap L c f r1) => ground_any t ha htg
          unfold tokV at HG0
          cases hC : atomP c f valueKs t r1 with
          | bad ec eo =>
            rw [hC] at HG0
            have HGd := hide HG0
            have HX : Hid (res = .bad ec eo) := by show _ = _; rw [← HRes.out]; exact facts_atom hT h0 (by rw [List.length_map]; exact hmx) hC
            clear hT h0 hmx hC HG0
            go_wp2_with (first
              | (go_at_call 32; refine (HT.out _ _ rfl HC.out.ah).mono ?_; rintro e w1 ⟨rfl, ha1, ho1⟩; have HC1 := hide ((HC.out.move ho1 ha1).below (belowA w1 (.cells #[.int .i64 t.k, .string t.t, .int .i64 t.n, .int .i64 t.op, .int .i64 (t.off : Int), .int .i64 (t.en : Int)] 85))); clear ha1 ho1 HT)
              | (go_at_call 34; refine (HLm.out _).mono ?_; rintro e w2 ⟨⟨v2, rfl⟩, hw⟩; have hw := hw.symm; subst hw)
              | (go_at_call 31; refine (HGd.out _ HC1.out.ah).mono ?_; intro e w3 hq; obtain ⟨rfl, ho3⟩ := atmPost_bad hq; clear hq))
            exact ⟨rfl, PB.out _ _ _ HX.out (HC1.out.endM ho3)⟩
          | ok x r2 =>
            rw [hC] at HG0
            have HGd := hide HG0
            have l2 := atom_len hC
            clear HG0
            cases hD : takeP c f [8] r2 with
            | bad ec eo =>
              have HU : Hid (∀ (W : World) (g : Nat), W.heap.size = g → Ahead W p ao cap L c f r2 → Calls Tryd.prog 32 #[.pointer (some ⟨p, 0, none⟩), .slice (some ⟨g, 0, none⟩) 1 1] (W.alloc (.cells #[.int .i64 8] 3)) fun e w' => e = PEnd ec eo ∧ Below W.heap.size W w') := fun W g hg ha => hg ▸ take_lit_fail [8] ha (by decide) hD
              have HX : Hid (res = .bad ec eo) := by show _ = _; rw [← HRes.out]; exact facts_dot hT h0 (by rw [List.length_map]; exact hmx) hC hD
              clear hT h0 hmx hC hD
              go_wp2_with (first
                | (go_at_call 32; refine (HT.out _ _ rfl HC.out.ah).mono ?_; rintro e w1 ⟨rfl, ha1, ho1⟩; have HC1 := hide ((HC.out.move ho1 ha1).below (belowA w1 (.cells #[.int .i64 t.k, .string t.t, .int .i64 t.n, .int .i64 t.op, .int .i64 (t.off : Int), .int .i64 (t.en : Int)] 85))); clear ha1 ho1 HT)
                | (go_at_call 34; refine (HLm.out _).mono ?_; rintro e w2 ⟨⟨v2, rfl⟩, hw⟩; have hw := hw.symm; subst hw)
                | (go_at_call 31; refine (HGd.out _ HC1.out.ah).mono ?_; intro e w3 hq; obtain ⟨⟨ap, av, aoff, ats⟩, rfl, hpur, hok, ha3, ho3⟩ := atmPost_ok hq; clear hq; obtain ⟨xa, xc, rfl, -⟩ := (show Lst elTrm _ _ av ats from hok.2.2).shape; have HPu := hide hpur; have HOk := hide (HC1.out.gr.behind HC1.out.hi elAtx hok); have HC3 := hide (HC1.out.move ho3 ha3); have HC4 := hide (HC3.out.below (belowA w3 (.cells #[.string ap, .slice xa ats.length xc, .int .i64 aoff] 36))); have HOk4 := hide (elAtx.move HOk.out fun b hlt hF => ⟨hF, (belowA w3 (.cells #[.string ap, .slice xa ats.length xc, .int .i64 aoff] 36)).block b hlt⟩); clear hpur hok ha3 ho3 HOk HGd; unfold Atx.val)
                | (at_builtin; obtain ⟨i0, hi0, hz0, hz1, hz2⟩ := info_parts Tryd.infoAtm; refine wpList_push (w0 := w3.alloc (.cells #[.string ap, .slice xa ats.length xc, .int .i64 aoff] 36)) elAtx rfl _ _ 30 rfl w.heap.size 36 i0 _ 48 Tryd.underlying30 hi0 hz0 hz1 hz2 rfl (by decide) _ ls ls.length rfl rfl HC4.out.gr ⟨ap, .slice xa ats.length xc, aoff, ats⟩ w3.heap.size 1 rfl (fun j u hu => new_cells (cs := #[.string ap, .slice xa ats.length xc, .int .i64 aoff]) j u hu) HOk4.out (by omega) (Below.refl _ _) HC4.out.hi ?_; intro g cap' w5 HG5 HB5 HGr; clear HB5 hi0 hz0 hz1 hz2; have HC5 := hide (HC4.out.grown HGr.out HG5.out); clear HG5 HGr HC4 HOk4)
                | (go_at_call 32; refine (HU.out _ _ rfl HC5.out.ah).mono ?_; rintro e w6 ⟨rfl, hb6⟩))
              exact ⟨rfl, PB.out _ _ _ HX.out (HC5.out.below hb6).end_⟩
            | ok s r3 =>
              have HU : Hid (∀ (W : World) (g : Nat), W.heap.size = g → Ahead W p ao cap L c f r2 → Calls Tryd.prog 32 #[.pointer (some ⟨p, 0, none⟩), .slice (some ⟨g, 0, none⟩) 1 1] (W.alloc (.cells #[.int .i64 8] 3)) fun e w' => e = .returned (tokV s) ∧ Ahead w' p ao cap L c f r3 ∧ Only (fun b => b = p) W w') := fun W g hg ha => hg ▸ take_lit_good [8] ha (by decide) hD
              have l3 := take_len hD
              have HX : Hid (factsF c f n (ls.map Atx.pur ++ [x]) r3 = res) := by show _ = _; rw [← HRes.out]; exact (facts_more hT h0 (by rw [List.length_map]; exact hmx) hC hD).symm
              have HLn : Hid (r3.length < R1.length ∧ r3.length < n) := ⟨by omega, by omega⟩
              obtain ⟨ix, isz⟩ := HC.out.ah.index
              have HIx := hide (And.intro ix isz)
              clear hT h0 hmx hC hD l1 l2 l3 ix isz
              go_wp2_with (first
                | (go_at_call 32; refine (HT.out _ _ rfl HC.out.ah).mono ?_; rintro e w1 ⟨rfl, ha1, ho1⟩; have HC1 := hide ((HC.out.move ho1 ha1).below (belowA w1 (.cells #[.int .i64 t.k, .string t.t, .int .i64 t.n, .int .i64 t.op, .int .i64 (t.off : Int), .int .i64 (t.en : Int)] 85))); clear ha1 ho1 HT)
                | (go_at_call 34; refine (HLm.out _).mono ?_; rintro e w2 ⟨⟨v2, rfl⟩, hw⟩; have hw := hw.symm; subst hw)
                | (go_at_call 31; refine (HGd.out _ HC1.out.ah).mono ?_; intro e w3 hq; obtain ⟨⟨ap, av, aoff, ats⟩, rfl, hpur, hok, ha3, ho3⟩ := atmPost_ok hq; clear hq; obtain ⟨xa, xc, rfl, -⟩ := (show Lst elTrm _ _ av ats from hok.2.2).shape; have HPu := hide hpur; have HOk := hide (HC1.out.gr.behind HC1.out.hi elAtx hok); have HC3 := hide (HC1.out.move ho3 ha3); have HC4 := hide (HC3.out.below (belowA w3 (.cells #[.string ap, .slice xa ats.length xc, .int .i64 aoff] 36))); have HOk4 := hide (elAtx.move HOk.out fun b hlt hF => ⟨hF, (belowA w3 (.cells #[.string ap, .slice xa ats.length xc, .int .i64 aoff] 36)).block b hlt⟩); clear hpur hok ha3 ho3 HOk HGd; unfold Atx.val)
                | (at_builtin; obtain ⟨i0, hi0, hz0, hz1, hz2⟩ := info_parts Tryd.infoAtm; refine wpList_push (w0 := w3.alloc (.cells #[.string ap, .slice xa ats.length xc, .int .i64 aoff] 36)) elAtx rfl _ _ 30 rfl w.heap.size 36 i0 _ 48 Tryd.underlying30 hi0 hz0 hz1 hz2 rfl (by decide) _ ls ls.length rfl rfl HC4.out.gr ⟨ap, .slice xa ats.length xc, aoff, ats⟩ w3.heap.size 1 rfl (fun j u hu => new_cells (cs := #[.string ap, .slice xa ats.length xc, .int .i64 aoff]) j u hu) HOk4.out (by omega) (Below.refl _ _) HC4.out.hi ?_; intro g cap' w5 HG5 HB5 HGr; clear HB5 hi0 hz0 hz1 hz2; have HC5 := hide (HC4.out.grown HGr.out HG5.out); clear HG5 HGr HC4 HOk4)
                | (go_at_call 32; refine (HU.out _ _ rfl HC5.out.ah).mono ?_; rintro e w6 ⟨rfl, ha6, ho6⟩; have HC6 := hide (HC5.out.move ho6 ha6); clear ha6 ho6))
              go_roundw
              case rel => exact ⟨n, ls ++ [⟨ap, .slice xa ats.length xc, aoff, ats⟩], r3, by simp; omega, HLn.out.2, HC6, by show _ = _; rw [List.map_append, List.map_singleton, HPu.out]; exact HX.out⟩
              case measure =>
                obtain ⟨jx, -⟩ := HC6.out.ah.index
                have h1 := HLn.out
                have h2 := HIx.out
                omega

set_option maxHeartbeats 1000000 in
set_option maxRecDepth 100000 in
theorem query_any {w : World} {p : Nat} {ao : Option Addr} {cap : Nat} {L : List Tok} {c f : Int} {R : List Tok} (h : Ahead w p ao cap L c f R) :
    Calls Tryd.prog 27 #[.pointer (some ⟨p, 0, none⟩)] w (BodyPost w p ao cap L c f (queryP c f R)) := by
  have HB0 := body_any h
  have hp := h.lt
  clear h
  cases hB : bodyP c f R with
  | bad ec eo =>
    rw [hB] at HB0
    have HBo := hide HB0
    rw [show queryP c f R = .bad ec eo from by unfold queryP; rw [hB]]
    clear HB0 hB
    unfold BodyPost
    go_enter Tryd.func27, Tryd.ntmps27
    go_wp2_with (go_at_call 38; refine HBo.out.mono ?_; intro e w1 hq; obtain ⟨rfl, ho1⟩ := bodyPost_bad hq; clear hq)
    exact ⟨rfl, rfl, ho1⟩
  | ok b r1 =>
    rw [hB] at HB0
    have HBo := hide HB0
    clear HB0
    cases hT : takeP c f [0] r1 with
    | bad ec eo =>
      have HU : Hid (∀ (W : World) (g : Nat), W.heap.size = g → Ahead W p ao cap L c f r1 → Calls Tryd.prog 32 #[.pointer (some ⟨p, 0, none⟩), .slice (some ⟨g, 0, none⟩) 1 1] (W.alloc (.cells #[.int .i64 0] 3)) fun e w' => e = PEnd ec eo ∧ Below W.heap.size W w') := fun W g hg ha => hg ▸ take_lit_fail [0] ha (by decide) hT
      rw [show queryP c f R = .bad ec eo from by unfold queryP; rw [hB]; simp only; rw [hT]]
      clear hB hT
      unfold BodyPost
      go_enter Tryd.func27, Tryd.ntmps27
      go_wp2_with (first
        | (go_at_call 38; refine HBo.out.mono ?_; intro e w1 hq; obtain ⟨bv, ls, rfl, hpur, hl, hgr, ha1, ho1⟩ := bodyPost_ok hq; clear hq; have HPu := hide hpur; have HL1 := hide hl; have HG1 := hide hgr; have HA1 := hide ha1; have HO1 := hide ho1; obtain ⟨ba, bc, rfl, -⟩ := hgr.shape; clear hpur hl hgr ha1 ho1)
        | (go_at_call 32; refine (HU.out _ _ rfl HA1.out).mono ?_; rintro e w2 ⟨rfl, hb2⟩))
      exact ⟨rfl, rfl, HO1.out.trans (Only.of_below hb2 _)⟩
    | ok s r2 =>
      have HU : Hid (∀ (W : World) (g : Nat), W.heap.size = g → Ahead W p ao cap L c f r1 → Calls Tryd.prog 32 #[.pointer (some ⟨p, 0, none⟩), .slice (some ⟨g, 0, none⟩) 1 1] (W.alloc (.cells #[.int .i64 0] 3)) fun e w' => e = .returned (tokV s) ∧ Ahead w' p ao cap L c f r2 ∧ Only (fun b => b = p) W w') := fun W g hg ha => hg ▸ take_lit_good [0] ha (by decide) hT
      rw [show queryP c f R = .ok b r2 from by unfold queryP; rw [hB]; simp only; rw [hT]]
      clear hB hT
      obtain ⟨Post, hPost⟩ : ∃ Post : Ending → World → Prop, Post = BodyPost w p ao cap L c f (.ok b r2) := ⟨_, rfl⟩
      rw [← hPost]
      have PG : Hid (∀ v ls w', ls.map Lix.pur = b → ls.length ≤ 16 → Grow elLix 69 w.heap.size w' v ls → Ahead w' p ao cap L c f r2 → Only (fun k => k = p) w w' → Post (.returned v) w') := fun v ls w' h1 h2 h3 h4 h5 => by
        rw [hPost]; exact ⟨v, ls, rfl, h1, h2, h3, h4, h5⟩
      clear hPost
      go_enter Tryd.func27, Tryd.ntmps27
      go_wp2_with (first
        | (go_at_call 38; refine HBo.out.mono ?_; intro e w1 hq; obtain ⟨bv, ls, rfl, hpur, hl, hgr, ha1, ho1⟩ := bodyPost_ok hq; clear hq; have HPu := hide hpur; have HL1 := hide hl; have HG1 := hide hgr; have HA1 := hide ha1; have HO1 := hide ho1; obtain ⟨ba, bc, rfl, -⟩ := hgr.shape; clear hpur hl hgr ha1 ho1)
        | (go_at_call 32; refine (HU.out _ _ rfl HA1.out).mono ?_; rintro e w2 ⟨rfl, ha2, ho2⟩; have HA2 := hide ha2; have HO2 := hide ho2; clear ha2 ho2))
      first
        | exact PG.out _ _ _ HPu.out HL1.out (HG1.out.above fun k hk hlt => HO2.out.block k hlt (by omega)) HA2.out (HO1.out.trans HO2.out)
        | (go_ret; exact PG.out _ _ _ HPu.out HL1.out (HG1.out.above fun k hk hlt => HO2.out.block k hlt (by omega)) HA2.out (HO1.out.trans HO2.out))
end Go.Proofs.YtnfnihhbgpakkaaDoor

namespace Go.Proofs.YtnfnihhbgpakkaaDoor
set_option linter.unusedSimpArgs false
set_option linter.unusedVariables false
open Go.RowKit

def ReadFacts (w : World) (s : ByteArray) (e : Ending) (w' : World) : Prop :=
  match factsP (scanX s).2.1 ((scanX s).2.2 : Int) (scanX s).1 with
  | .bad ec eo => e = .returned (.tuple #[.slice none 0 0, faultV ec eo]) ∧ Below w.heap.size w w'
  | .ok b _ => ∃ v cs, e = .returned (.tuple #[v, faultV 0 0]) ∧ cs.map Atx.pur = b ∧ cs.length ≤ 4096 ∧ Lst elAtx w' (fun k => w.heap.size ≤ k) v cs ∧ Below w.heap.size w w'

set_option maxRecDepth 100000 in
set_option maxHeartbeats 2000000 in
theorem readFacts_any (s : ByteArray) (w : World) (hl : LexLaid w) (hs : s.size ≤ 140737488351232) :
    Calls Tryd.prog 22 #[.string s, .func (.func 23) #[] #[]] w (ReadFacts w s) := by
  have hmf : ∀ (fn : Fn) (first cap : Array Value) (w : World), (Instr.makeFunc fn first cap).run Tryd.prog w = .ok (.func fn first cap) w := fun _ _ _ _ => rfl
  have HSc := hide (fun (W : World) (hb : Below w.heap.size w W) => scan_any s W (hl.kept hb) hs)
  clear hl hs
  unfold faultVal at HSc
  obtain ⟨res, hres⟩ : ∃ res, factsP (scanX s).2.1 ((scanX s).2.2 : Int) (scanX s).1 = res := ⟨_, rfl⟩
  obtain ⟨Post, hPost⟩ : ∃ Post : Ending → World → Prop, Post = ReadFacts w s := ⟨_, rfl⟩
  rw [← hPost]
  have PB : Hid (∀ ec eo w', res = .bad ec eo → Below w.heap.size w w' → Post (.returned (.tuple #[.slice none 0 0, .agg #[.int .i64 ec, .int .i64 0, .int .i64 eo]])) w') := fun ec eo w' hr hb => by
    rw [hPost]; unfold ReadFacts; rw [hres, hr]; exact ⟨rfl, hb⟩
  have PG : Hid (∀ b r v cs w', res = .ok b r → cs.map Atx.pur = b → cs.length ≤ 4096 → Lst elAtx w' (fun k => w.heap.size ≤ k) v cs → Below w.heap.size w w' → Post (.returned (.tuple #[v, .agg #[.int .i64 0, .int .i64 0, .int .i64 0]])) w') := fun b r v cs w' hr h1 h2 h3 h4 => by
    rw [hPost]; unfold ReadFacts; rw [hres, hr]; exact ⟨v, cs, rfl, h1, h2, h3, h4⟩
  have HR := hide hres
  clear hPost hres
  go_enter_defers Tryd.func22, Tryd.ntmps22
  go_wp2_with (go_at_call 30; refine (HSc.out _ (belowA _ _)).mono ?_; rintro e w1 ⟨v, rfl, ho1, hb1⟩; obtain ⟨ao, cap, rfl⟩ := own_shape ho1; have HO1 := hide ho1; have HB1 := hide hb1; clear ho1 hb1)
  have hs1 : w.heap.size + 1 ≤ w1.heap.size := by have := HB1.out.size; simp at this; omega
  have HA := hide (scan_ahead HB1.out HO1.out (W2 := (w1.alloc (.cells #[.int .i64 (scanX s).2.1, .int .i64 0, .int .i64 ((scanX s).2.2 : Int)] 27)).alloc (.cells #[.slice ao (scanX s).1.length cap, .int .i64 (scanX s).2.1, .int .i64 0, .int .i64 ((scanX s).2.2 : Int), .int .i64 0] 82)) (below2a w1 _ _) rfl (p := w1.heap.size + 1) (by omega) (by have := heap_alloc_new (w1.alloc (.cells #[.int .i64 (scanX s).2.1, .int .i64 0, .int .i64 ((scanX s).2.2 : Int)] 27)) (.cells #[.slice ao (scanX s).1.length cap, .int .i64 (scanX s).2.1, .int .i64 0, .int .i64 ((scanX s).2.2 : Int), .int .i64 0] 82); simpa using this))
  have HP := facts_any HA.out
  rw [HR.out] at HP
  have HK : Hid (∀ w2, Only (fun k => k = w1.heap.size + 1) ((w1.alloc (.cells #[.int .i64 (scanX s).2.1, .int .i64 0, .int .i64 ((scanX s).2.2 : Int)] 27)).alloc (.cells #[.slice ao (scanX s).1.length cap, .int .i64 (scanX s).2.1, .int .i64 0, .int .i64 ((scanX s).2.2 : Int), .int .i64 0] 82)) w2 → w2.heap[w.heap.size]? = some (.cells #[.int .i64 0, .int .i64 0, .int .i64 0] 27 (0, 0)) ∧ Only (fun k => w.heap.size ≤ k) w w2) := fun w2 ho => by
    have q : ∀ k, k < w.heap.size + 1 → w2.heap[k]? = (w.alloc (.cells #[.int .i64 0, .int .i64 0, .int .i64 0] 27)).heap[k]? := fun k hk => by
      rw [ho.block k (by simp; omega) (by omega), (below2a w1 _ _).block k (by omega), HB1.out.block k (by simp; omega)]
    refine ⟨?_, ((Only.of_below (belowA w _) _).trans (Only.of_below HB1.out _)).trans ((Only.of_below (below2a w1 _ _) _).trans (ho.mono fun k _ (e : k = w1.heap.size + 1) => by omega))⟩
    rw [q _ (by omega)]; exact heap_alloc_new w _
  clear HO1 HB1 HSc HR
  cases res with
  | bad ec eo =>
    refine HP.mono ?_
    intro e w2 hq
    obtain ⟨rfl, ho2⟩ := factsPost_bad hq
    obtain ⟨k1, k2⟩ := HK.out w2 ho2
    clear hq HP HA
    refine leaves_cons (f := 33) (args := #[.pointer (some ⟨w.heap.size, 0, none⟩)]) (by simp) (by simp [go_sem]) ?_
    refine (caughtFacts w.heap.size ec eo [] w2 k1).mono ?_
    rintro e u' w3 ⟨rfl, rfl, h3, o3⟩
    obtain ⟨⟨d0, d1, d2⟩, -⟩ := fault_cells h3
    have HF := hide (PB.out ec eo w3 rfl ((k2.trans (o3.mono fun k _ (e : k = w.heap.size) => by omega)).below (Nat.le_refl _) (fun k hk e => by omega)))
    clear o3 h3 k1 k2
    simp [Leaves, settle, results, Tryd.results22, go_sem, d0, d1, d2]
    exact HF.out
  | ok b r =>
    refine HP.mono ?_
    intro e w2 hq
    obtain ⟨v, cs, rfl, hpur, hlen, hgr, ha2, ho2⟩ := factsPost_ok hq
    obtain ⟨va, vc, rfl, -⟩ := hgr.shape
    obtain ⟨k1, k2⟩ := HK.out w2 ho2
    have HPu := hide hpur
    have HLn := hide hlen
    have HG := hide (hgr.new (by omega))
    have HK2 := hide k2
    clear hq HP HA hpur hlen hgr ha2 ho2
    obtain ⟨⟨d0, d1, d2⟩, ⟨y0, y1, y2⟩⟩ := fault_cells k1
    go_wp2_with fail
    have hO : Only (fun k => k = w.heap.size) w2 (((w2.setCell ⟨w.heap.size, 0, none⟩ (.int .i64 0)).setCell ⟨w.heap.size, 1, none⟩ (.int .i64 0)).setCell ⟨w.heap.size, 2, none⟩ (.int .i64 0)) := (((Only.refl (fun k => k = w.heap.size) w2).setCell (p := ⟨w.heap.size, 0, none⟩) rfl _).setCell (p := ⟨w.heap.size, 1, none⟩) rfl _).setCell (p := ⟨w.heap.size, 2, none⟩) rfl _
    have hV1 : (((w2.setCell ⟨w.heap.size, 0, none⟩ (.int .i64 0)).setCell ⟨w.heap.size, 1, none⟩ (.int .i64 0)).setCell ⟨w.heap.size, 2, none⟩ (.int .i64 0)).heap[w.heap.size]? = some (.cells #[.int .i64 0, .int .i64 0, .int .i64 0] 27 (0, 0)) := by simp [World.setCell, Array.getElem?_modify, k1]
    generalize ((w2.setCell ⟨w.heap.size, 0, none⟩ (.int .i64 0)).setCell ⟨w.heap.size, 1, none⟩ (.int .i64 0)).setCell ⟨w.heap.size, 2, none⟩ (.int .i64 0) = V at hO hV1 ⊢
    clear d0 d1 d2 y0 y1 y2 k1
    refine leaves_cons (f := 33) (args := #[.pointer (some ⟨w.heap.size, 0, none⟩)]) (by simp) (by simp [go_sem]) ?_
    refine (idleFacts ⟨w.heap.size, 0, none⟩ V).mono ?_
    rintro e u' w3 ⟨rfl, rfl, hw⟩
    have hw := hw.symm
    subst hw
    obtain ⟨⟨d0, d1, d2⟩, -⟩ := fault_cells hV1
    have HF := hide (PG.out b r (.slice va cs.length vc) cs V rfl HPu.out HLn.out (HG.out.move fun k hk hF => ⟨by simp at hF; omega, hO.block k hk (by simp at hF; omega)⟩) ((HK2.out.trans (hO.mono fun k _ (e : k = w.heap.size) => by omega)).below (Nat.le_refl _) (fun k hk e => by omega)))
    clear hO hV1
    simp [Leaves, settle, results, Tryd.results22, go_sem, d0, d1, d2]
    exact HF.out
end Go.Proofs.YtnfnihhbgpakkaaDoor

namespace Go.Proofs.YtnfnihhbgpakkaaDoor
set_option linter.unusedSimpArgs false
set_option linter.unusedVariables false
open Go.RowKit

def ReadQuery (w : World) (s : ByteArray) (e : Ending) (w' : World) : Prop :=
  match queryP (scanX s).2.1 ((scanX s).2.2 : Int) (scanX s).1 with
  | .bad ec eo => e = .returned (.tuple #[.slice none 0 0, faultV ec eo]) ∧ Below w.heap.size w w'
  | .ok b _ => ∃ v cs, e = .returned (.tuple #[v, faultV 0 0]) ∧ cs.map Lix.pur = b ∧ cs.length ≤ 16 ∧ Lst elLix w' (fun k => w.heap.size ≤ k) v cs ∧ Below w.heap.size w w'

set_option maxRecDepth 100000 in
set_option maxHeartbeats 2000000 in
theorem readQuery_any (s : ByteArray) (w : World) (hl : LexLaid w) (hs : s.size ≤ 140737488351232) :
    Calls Tryd.prog 26 #[.string s, .func (.func 27) #[] #[]] w (ReadQuery w s) := by
  have hmf : ∀ (fn : Fn) (first cap : Array Value) (w : World), (Instr.makeFunc fn first cap).run Tryd.prog w = .ok (.func fn first cap) w := fun _ _ _ _ => rfl
  have HSc := hide (fun (W : World) (hb : Below w.heap.size w W) => scan_any s W (hl.kept hb) hs)
  clear hl hs
  unfold faultVal at HSc
  obtain ⟨res, hres⟩ : ∃ res, queryP (scanX s).2.1 ((scanX s).2.2 : Int) (scanX s).1 = res := ⟨_, rfl⟩
  obtain ⟨Post, hPost⟩ : ∃ Post : Ending → World → Prop, Post = ReadQuery w s := ⟨_, rfl⟩
  rw [← hPost]
  have PB : Hid (∀ ec eo w', res = .bad ec eo → Below w.heap.size w w' → Post (.returned (.tuple #[.slice none 0 0, .agg #[.int .i64 ec, .int .i64 0, .int .i64 eo]])) w') := fun ec eo w' hr hb => by
    rw [hPost]; unfold ReadQuery; rw [hres, hr]; exact ⟨rfl, hb⟩
  have PG : Hid (∀ b r v cs w', res = .ok b r → cs.map Lix.pur = b → cs.length ≤ 16 → Lst elLix w' (fun k => w.heap.size ≤ k) v cs → Below w.heap.size w w' → Post (.returned (.tuple #[v, .agg #[.int .i64 0, .int .i64 0, .int .i64 0]])) w') := fun b r v cs w' hr h1 h2 h3 h4 => by
    rw [hPost]; unfold ReadQuery; rw [hres, hr]; exact ⟨v, cs, rfl, h1, h2, h3, h4⟩
  have HR := hide hres
  clear hPost hres
  go_enter_defers Tryd.func26, Tryd.ntmps26
  go_wp2_with (go_at_call 30; refine (HSc.out _ (belowA _ _)).mono ?_; rintro e w1 ⟨v, rfl, ho1, hb1⟩; obtain ⟨ao, cap, rfl⟩ := own_shape ho1; have HO1 := hide ho1; have HB1 := hide hb1; clear ho1 hb1)
  have hs1 : w.heap.size + 1 ≤ w1.heap.size := by have := HB1.out.size; simp at this; omega
  have HA := hide (scan_ahead HB1.out HO1.out (W2 := (w1.alloc (.cells #[.int .i64 (scanX s).2.1, .int .i64 0, .int .i64 ((scanX s).2.2 : Int)] 27)).alloc (.cells #[.slice ao (scanX s).1.length cap, .int .i64 (scanX s).2.1, .int .i64 0, .int .i64 ((scanX s).2.2 : Int), .int .i64 0] 82)) (below2a w1 _ _) rfl (p := w1.heap.size + 1) (by omega) (by have := heap_alloc_new (w1.alloc (.cells #[.int .i64 (scanX s).2.1, .int .i64 0, .int .i64 ((scanX s).2.2 : Int)] 27)) (.cells #[.slice ao (scanX s).1.length cap, .int .i64 (scanX s).2.1, .int .i64 0, .int .i64 ((scanX s).2.2 : Int), .int .i64 0] 82); simpa using this))
  have HP := query_any HA.out
  rw [HR.out] at HP
  have HK : Hid (∀ w2, Only (fun k => k = w1.heap.size + 1) ((w1.alloc (.cells #[.int .i64 (scanX s).2.1, .int .i64 0, .int .i64 ((scanX s).2.2 : Int)] 27)).alloc (.cells #[.slice ao (scanX s).1.length cap, .int .i64 (scanX s).2.1, .int .i64 0, .int .i64 ((scanX s).2.2 : Int), .int .i64 0] 82)) w2 → w2.heap[w.heap.size]? = some (.cells #[.int .i64 0, .int .i64 0, .int .i64 0] 27 (0, 0)) ∧ Only (fun k => w.heap.size ≤ k) w w2) := fun w2 ho => by
    have q : ∀ k, k < w.heap.size + 1 → w2.heap[k]? = (w.alloc (.cells #[.int .i64 0, .int .i64 0, .int .i64 0] 27)).heap[k]? := fun k hk => by
      rw [ho.block k (by simp; omega) (by omega), (below2a w1 _ _).block k (by omega), HB1.out.block k (by simp; omega)]
    refine ⟨?_, ((Only.of_below (belowA w _) _).trans (Only.of_below HB1.out _)).trans ((Only.of_below (below2a w1 _ _) _).trans (ho.mono fun k _ (e : k = w1.heap.size + 1) => by omega))⟩
    rw [q _ (by omega)]; exact heap_alloc_new w _
  clear HO1 HB1 HSc HR
  cases res with
  | bad ec eo =>
    refine HP.mono ?_
    intro e w2 hq
    obtain ⟨rfl, ho2⟩ := bodyPost_bad hq
    obtain ⟨k1, k2⟩ := HK.out w2 ho2
    clear hq HP HA
    refine leaves_cons (f := 37) (args := #[.pointer (some ⟨w.heap.size, 0, none⟩)]) (by simp) (by simp [go_sem]) ?_
    refine (caughtQuery w.heap.size ec eo [] w2 k1).mono ?_
    rintro e u' w3 ⟨rfl, rfl, h3, o3⟩
    obtain ⟨⟨d0, d1, d2⟩, -⟩ := fault_cells h3
    have HF := hide (PB.out ec eo w3 rfl ((k2.trans (o3.mono fun k _ (e : k = w.heap.size) => by omega)).below (Nat.le_refl _) (fun k hk e => by omega)))
    clear o3 h3 k1 k2
    simp [Leaves, settle, results, Tryd.results26, go_sem, d0, d1, d2]
    exact HF.out
  | ok b r =>
    refine HP.mono ?_
    intro e w2 hq
    obtain ⟨v, cs, rfl, hpur, hlen, hgr, ha2, ho2⟩ := bodyPost_ok hq
    obtain ⟨va, vc, rfl, -⟩ := hgr.shape
    obtain ⟨k1, k2⟩ := HK.out w2 ho2
    have HPu := hide hpur
    have HLn := hide hlen
    have HG := hide (hgr.new (by omega))
    have HK2 := hide k2
    clear hq HP HA hpur hlen hgr ha2 ho2
    obtain ⟨⟨d0, d1, d2⟩, ⟨y0, y1, y2⟩⟩ := fault_cells k1
    go_wp2_with fail
    have hO : Only (fun k => k = w.heap.size) w2 (((w2.setCell ⟨w.heap.size, 0, none⟩ (.int .i64 0)).setCell ⟨w.heap.size, 1, none⟩ (.int .i64 0)).setCell ⟨w.heap.size, 2, none⟩ (.int .i64 0)) := (((Only.refl (fun k => k = w.heap.size) w2).setCell (p := ⟨w.heap.size, 0, none⟩) rfl _).setCell (p := ⟨w.heap.size, 1, none⟩) rfl _).setCell (p := ⟨w.heap.size, 2, none⟩) rfl _
    have hV1 : (((w2.setCell ⟨w.heap.size, 0, none⟩ (.int .i64 0)).setCell ⟨w.heap.size, 1, none⟩ (.int .i64 0)).setCell ⟨w.heap.size, 2, none⟩ (.int .i64 0)).heap[w.heap.size]? = some (.cells #[.int .i64 0, .int .i64 0, .int .i64 0] 27 (0, 0)) := by simp [World.setCell, Array.getElem?_modify, k1]
    generalize ((w2.setCell ⟨w.heap.size, 0, none⟩ (.int .i64 0)).setCell ⟨w.heap.size, 1, none⟩ (.int .i64 0)).setCell ⟨w.heap.size, 2, none⟩ (.int .i64 0) = V at hO hV1 ⊢
    clear d0 d1 d2 y0 y1 y2 k1
    refine leaves_cons (f := 37) (args := #[.pointer (some ⟨w.heap.size, 0, none⟩)]) (by simp) (by simp [go_sem]) ?_
    refine (idleQuery ⟨w.heap.size, 0, none⟩ V).mono ?_
    rintro e u' w3 ⟨rfl, rfl, hw⟩
    have hw := hw.symm
    subst hw
    obtain ⟨⟨d0, d1, d2⟩, -⟩ := fault_cells hV1
    have HF := hide (PG.out b r (.slice va cs.length vc) cs V rfl HPu.out HLn.out (HG.out.move fun k hk hF => ⟨by simp at hF; omega, hO.block k hk (by simp at hF; omega)⟩) ((HK2.out.trans (hO.mono fun k _ (e : k = w.heap.size) => by omega)).below (Nat.le_refl _) (fun k hk e => by omega)))
    clear hO hV1
    simp [Leaves, settle, results, Tryd.results26, go_sem, d0, d1, d2]
    exact HF.out
end Go.Proofs.YtnfnihhbgpakkaaDoor

namespace Go.Proofs.YtnfnihhbgpakkaaDoor
set_option linter.unusedSimpArgs false
set_option linter.unusedVariables false
open Go.RowKit

theorem progCell {V : World} {b : Nat} {u : Value} (h : V.heap[b]? = some (.cells #[u] 41 (0, 0))) : V.cell? ⟨b, 0, none⟩ = some u ∧ V.frozen? ⟨b, 0, none⟩ = false := by
  refine ⟨?_, ?_⟩ <;> simp [World.cell?, World.frozen?, h]

theorem readProg_bad {w w' : World} {s : ByteArray} {e : Ending} {ec eo : Int} (h : ReadProg w s e w') (hr : progP (scanX s).2.1 ((scanX s).2.2 : Int) (scanX s).1 = .bad ec eo) : e = .returned (.tuple #[.agg #[.slice none 0 0], faultV ec eo]) ∧ Below w.heap.size w w' := by
  unfold ReadProg at h
  rw [hr] at h
  exact h
theorem readProg_ok {w w' : World} {s : ByteArray} {e : Ending} {b} {r : List Tok} (h : ReadProg w s e w') (hr : progP (scanX s).2.1 ((scanX s).2.2 : Int) (scanX s).1 = .ok b r) : ∃ v cs, e = .returned (.tuple #[.agg #[v], faultV 0 0]) ∧ cs.map Clx.pur = b ∧ cs.length ≤ 512 ∧ Lst elClx w' (fun k => w.heap.size ≤ k) v cs ∧ Below w.heap.size w w' := by
  unfold ReadProg at h
  rw [hr] at h
  exact h
theorem readProg_mkb {w w' : World} {s : ByteArray} {ec eo : Int} (hr : progP (scanX s).2.1 ((scanX s).2.2 : Int) (scanX s).1 = .bad ec eo) (hb : Below w.heap.size w w') : ReadProg w s (.returned (.tuple #[.agg #[.slice none 0 0], faultV ec eo])) w' := by
  unfold ReadProg
  rw [hr]
  exact ⟨rfl, hb⟩
theorem readProg_mko {w w' : World} {s : ByteArray} {b} {r : List Tok} (hr : progP (scanX s).2.1 ((scanX s).2.2 : Int) (scanX s).1 = .ok b r) {v : Value} {cs : List Clx} (h1 : cs.map Clx.pur = b) (h2 : cs.length ≤ 512) (h3 : Lst elClx w' (fun k => w.heap.size ≤ k) v cs) (hb : Below w.heap.size w w') : ReadProg w s (.returned (.tuple #[.agg #[v], faultV 0 0])) w' := by
  unfold ReadProg
  rw [hr]
  exact ⟨v, cs, rfl, h1, h2, h3, hb⟩

theorem readFacts_bad {w w' : World} {s : ByteArray} {e : Ending} {ec eo : Int} (h : ReadFacts w s e w') (hr : factsP (scanX s).2.1 ((scanX s).2.2 : Int) (scanX s).1 = .bad ec eo) : e = .returned (.tuple #[.slice none 0 0, faultV ec eo]) ∧ Below w.heap.size w w' := by
  unfold ReadFacts at h
  rw [hr] at h
  exact h
theorem readFacts_ok {w w' : World} {s : ByteArray} {e : Ending} {b} {r : List Tok} (h : ReadFacts w s e w') (hr : factsP (scanX s).2.1 ((scanX s).2.2 : Int) (scanX s).1 = .ok b r) : ∃ v cs, e = .returned (.tuple #[v, faultV 0 0]) ∧ cs.map Atx.pur = b ∧ cs.length ≤ 4096 ∧ Lst elAtx w' (fun k => w.heap.size ≤ k) v cs ∧ Below w.heap.size w w' := by
  unfold ReadFacts at h
  rw [hr] at h
  exact h
theorem readFacts_mkb {w w' : World} {s : ByteArray} {ec eo : Int} (hr : factsP (scanX s).2.1 ((scanX s).2.2 : Int) (scanX s).1 = .bad ec eo) (hb : Below w.heap.size w w') : ReadFacts w s (.returned (.tuple #[.slice none 0 0, faultV ec eo])) w' := by
  unfold ReadFacts
  rw [hr]
  exact ⟨rfl, hb⟩
theorem readFacts_mko {w w' : World} {s : ByteArray} {b} {r : List Tok} (hr : factsP (scanX s).2.1 ((scanX s).2.2 : Int) (scanX s).1 = .ok b r) {v : Value} {cs : List Atx} (h1 : cs.map Atx.pur = b) (h2 : cs.length ≤ 4096) (h3 : Lst elAtx w' (fun k => w.heap.size ≤ k) v cs) (hb : Below w.heap.size w w') : ReadFacts w s (.returned (.tuple #[v, faultV 0 0])) w' := by
  unfold ReadFacts
  rw [hr]
  exact ⟨v, cs, rfl, h1, h2, h3, hb⟩

theorem readQuery_bad {w w' : World} {s : ByteArray} {e : Ending} {ec eo : Int} (h : ReadQuery w s e w') (hr : queryP (scanX s).2.1 ((scanX s).2.2 : Int) (scanX s).1 = .bad ec eo) : e = .returned (.tuple #[.slice none 0 0, faultV ec eo]) ∧ Below w.heap.size w w' := by
  unfold ReadQuery at h
  rw [hr] at h
  exact h
theorem readQuery_ok {w w' : World} {s : ByteArray} {e : Ending} {b} {r : List Tok} (h : ReadQuery w s e w') (hr : queryP (scanX s).2.1 ((scanX s).2.2 : Int) (scanX s).1 = .ok b r) : ∃ v cs, e = .returned (.tuple #[v, faultV 0 0]) ∧ cs.map Lix.pur = b ∧ cs.length ≤ 16 ∧ Lst elLix w' (fun k => w.heap.size ≤ k) v cs ∧ Below w.heap.size w w' := by
  unfold ReadQuery at h
  rw [hr] at h
  exact h
theorem readQuery_mkb {w w' : World} {s : ByteArray} {ec eo : Int} (hr : queryP (scanX s).2.1 ((scanX s).2.2 : Int) (scanX s).1 = .bad ec eo) (hb : Below w.heap.size w w') : ReadQuery w s (.returned (.tuple #[.slice none 0 0, faultV ec eo])) w' := by
  unfold ReadQuery
  rw [hr]
  exact ⟨rfl, hb⟩
theorem readQuery_mko {w w' : World} {s : ByteArray} {b} {r : List Tok} (hr : queryP (scanX s).2.1 ((scanX s).2.2 : Int) (scanX s).1 = .ok b r) {v : Value} {cs : List Lix} (h1 : cs.map Lix.pur = b) (h2 : cs.length ≤ 16) (h3 : Lst elLix w' (fun k => w.heap.size ≤ k) v cs) (hb : Below w.heap.size w w') : ReadQuery w s (.returned (.tuple #[v, faultV 0 0])) w' := by
  unfold ReadQuery
  rw [hr]
  exact ⟨v, cs, rfl, h1, h2, h3, hb⟩

set_option maxRecDepth 100000 in
set_option maxHeartbeats 2000000 in
theorem parseProgram_any (s : ByteArray) (w : World) (hl : LexLaid w) (hs : s.size ≤ 140737488351232) :
    Calls Tryd.prog 11 #[.string s] w (ReadProg w s) := by
  have HC := hide (fun (W : World) (hb : Below w.heap.size w W) => readProg_any s W (hl.kept hb) hs)
  clear hl hs
  obtain ⟨Post, hPost⟩ : ∃ Post : Ending → World → Prop, Post = ReadProg w s := ⟨_, rfl⟩
  rw [← hPost]
  have HK : Hid (∀ w2, Below ((w.alloc (.cells #[.slice none 0 0] 41)).alloc (.cells #[.int .i64 0, .int .i64 0, .int .i64 0] 27)).heap.size ((w.alloc (.cells #[.slice none 0 0] 41)).alloc (.cells #[.int .i64 0, .int .i64 0, .int .i64 0] 27)) w2 → w2.heap[w.heap.size]? = some (.cells #[.slice none 0 0] 41 (0, 0)) ∧ w2.heap[w.heap.size + 1]? = some (.cells #[.int .i64 0, .int .i64 0, .int .i64 0] 27 (0, 0)) ∧ Below w.heap.size w w2) := fun w2 hb => by
    refine ⟨?_, ?_, belowt2 (below2a w _ _) hb⟩
    · rw [hb.block _ (by simp; omega), (belowA (w.alloc _) _).block _ (by simp)]; exact heap_alloc_new w _
    · rw [hb.block _ (by simp)]
      have := heap_alloc_new (w.alloc (.cells #[.slice none 0 0] 41)) (.cells #[.int .i64 0, .int .i64 0, .int .i64 0] 27)
      simpa using this
  cases hr : progP (scanX s).2.1 ((scanX s).2.2 : Int) (scanX s).1 with
  | bad ec eo =>
    have PB : Hid (∀ w', Below w.heap.size w w' → Post (.returned (.tuple #[.agg #[.slice none 0 0], .agg #[.int .i64 ec, .int .i64 0, .int .i64 eo]])) w') := fun w' hb => by rw [hPost]; exact readProg_mkb hr hb
    have HRr := hide hr
    clear hr hPost
    go_enter Tryd.func11, Tryd.ntmps11
    go_wp2_with (go_at_call 24; refine (HC.out _ (below2a _ _ _)).mono ?_; intro e w2 hq; obtain ⟨rfl, hb2⟩ := readProg_bad hq HRr.out; clear hq; obtain ⟨k0, k1, k2⟩ := HK.out w2 hb2; have HK2 := hide k2; clear hb2 k2; obtain ⟨c0, z0⟩ := progCell k0; obtain ⟨⟨d0, d1, d2⟩, ⟨y0, y1, y2⟩⟩ := fault_cells k1; unfold faultV)
    have hV0 : ((((w2.setCell ⟨w.heap.size, 0, none⟩ (.slice none 0 0)).setCell ⟨w.heap.size + 1, 0, none⟩ (.int .i64 ec)).setCell ⟨w.heap.size + 1, 1, none⟩ (.int .i64 0)).setCell ⟨w.heap.size + 1, 2, none⟩ (.int .i64 eo)).heap[w.heap.size]? = some (.cells #[.slice none 0 0] 41 (0, 0)) := by simp [World.setCell, Array.getElem?_modify, k0]
    have hV1 : ((((w2.setCell ⟨w.heap.size, 0, none⟩ (.slice none 0 0)).setCell ⟨w.heap.size + 1, 0, none⟩ (.int .i64 ec)).setCell ⟨w.heap.size + 1, 1, none⟩ (.int .i64 0)).setCell ⟨w.heap.size + 1, 2, none⟩ (.int .i64 eo)).heap[w.heap.size + 1]? = some (.cells #[.int .i64 ec, .int .i64 0, .int .i64 eo] 27 (0, 0)) := by simp [World.setCell, Array.getElem?_modify, k1]
    have hO : Below w.heap.size w ((((w2.setCell ⟨w.heap.size, 0, none⟩ (.slice none 0 0)).setCell ⟨w.heap.size + 1, 0, none⟩ (.int .i64 ec)).setCell ⟨w.heap.size + 1, 1, none⟩ (.int .i64 0)).setCell ⟨w.heap.size + 1, 2, none⟩ (.int .i64 eo)) := (((((Only.of_below HK2.out (fun k => w.heap.size ≤ k)).setCell (p := ⟨w.heap.size, 0, none⟩) (Nat.le_refl _) _).setCell (p := ⟨w.heap.size + 1, 0, none⟩) (Nat.le_succ _) _).setCell (p := ⟨w.heap.size + 1, 1, none⟩) (Nat.le_succ _) _).setCell (p := ⟨w.heap.size + 1, 2, none⟩) (Nat.le_succ _) _).below (Nat.le_refl _) (fun k hk e => by omega)
    generalize (((w2.setCell ⟨w.heap.size, 0, none⟩ (.slice none 0 0)).setCell ⟨w.heap.size + 1, 0, none⟩ (.int .i64 ec)).setCell ⟨w.heap.size + 1, 1, none⟩ (.int .i64 0)).setCell ⟨w.heap.size + 1, 2, none⟩ (.int .i64 eo) = V at hV0 hV1 hO ⊢
    obtain ⟨f0, -⟩ := progCell hV0
    obtain ⟨⟨f1, f2, f3⟩, -⟩ := fault_cells hV1
    exact bodyPost_ret (v := .tuple #[.agg #[.slice none 0 0], .agg #[.int .i64 ec, .int .i64 0, .int .i64 eo]]) (by simp [results, Tryd.results11, go_sem, f0, f1, f2, f3]) rfl (PB.out _ hO)
  | ok b r =>
    have PG : Hid (∀ w' v cs, cs.map Clx.pur = b → cs.length ≤ 512 → Lst elClx w' (fun k => w.heap.size ≤ k) v cs → Below w.heap.size w w' → Post (.returned (.tuple #[.agg #[v], .agg #[.int .i64 0, .int .i64 0, .int .i64 0]])) w') := fun w' v cs h1 h2 h3 h4 => by rw [hPost]; exact readProg_mko hr h1 h2 h3 h4
    have HRr := hide hr
    clear hr hPost
    go_enter Tryd.func11, Tryd.ntmps11
    go_wp2_with (go_at_call 24; refine (HC.out _ (below2a _ _ _)).mono ?_; intro e w2 hq; obtain ⟨v, cs, rfl, hpur, hlen, hls, hb2⟩ := readProg_ok hq HRr.out; clear hq; obtain ⟨va, vc, rfl, -⟩ := hls.shape; obtain ⟨k0, k1, k2⟩ := HK.out w2 hb2; have HK2 := hide k2; have HLs := hide hls; have HPu := hide hpur; have HLn := hide hlen; clear hb2 k2 hls hpur hlen; obtain ⟨c0, z0⟩ := progCell k0; obtain ⟨⟨d0, d1, d2⟩, ⟨y0, y1, y2⟩⟩ := fault_cells k1; unfold faultV)
    have hV0 : ((((w2.setCell ⟨w.heap.size, 0, none⟩ (.slice va cs.length vc)).setCell ⟨w.heap.size + 1, 0, none⟩ (.int .i64 0)).setCell ⟨w.heap.size + 1, 1, none⟩ (.int .i64 0)).setCell ⟨w.heap.size + 1, 2, none⟩ (.int .i64 0)).heap[w.heap.size]? = some (.cells #[.slice va cs.length vc] 41 (0, 0)) := by simp [World.setCell, Array.getElem?_modify, k0]
    have hV1 : ((((w2.setCell ⟨w.heap.size, 0, none⟩ (.slice va cs.length vc)).setCell ⟨w.heap.size + 1, 0, none⟩ (.int .i64 0)).setCell ⟨w.heap.size + 1, 1, none⟩ (.int .i64 0)).setCell ⟨w.heap.size + 1, 2, none⟩ (.int .i64 0)).heap[w.heap.size + 1]? = some (.cells #[.int .i64 0, .int .i64 0, .int .i64 0] 27 (0, 0)) := by simp [World.setCell, Array.getElem?_modify, k1]
    have hB : Below w.heap.size w ((((w2.setCell ⟨w.heap.size, 0, none⟩ (.slice va cs.length vc)).setCell ⟨w.heap.size + 1, 0, none⟩ (.int .i64 0)).setCell ⟨w.heap.size + 1, 1, none⟩ (.int .i64 0)).setCell ⟨w.heap.size + 1, 2, none⟩ (.int .i64 0)) := (((((Only.of_below HK2.out (fun k => w.heap.size ≤ k)).setCell (p := ⟨w.heap.size, 0, none⟩) (Nat.le_refl _) _).setCell (p := ⟨w.heap.size + 1, 0, none⟩) (Nat.le_succ _) _).setCell (p := ⟨w.heap.size + 1, 1, none⟩) (Nat.le_succ _) _).setCell (p := ⟨w.heap.size + 1, 2, none⟩) (Nat.le_succ _) _).below (Nat.le_refl _) (fun k hk e => by omega)
    have hO : Only (fun k => k = w.heap.size ∨ k = w.heap.size + 1) w2 ((((w2.setCell ⟨w.heap.size, 0, none⟩ (.slice va cs.length vc)).setCell ⟨w.heap.size + 1, 0, none⟩ (.int .i64 0)).setCell ⟨w.heap.size + 1, 1, none⟩ (.int .i64 0)).setCell ⟨w.heap.size + 1, 2, none⟩ (.int .i64 0)) := ((((Only.refl (fun k => k = w.heap.size ∨ k = w.heap.size + 1) w2).setCell (p := ⟨w.heap.size, 0, none⟩) (.inl rfl) _).setCell (p := ⟨w.heap.size + 1, 0, none⟩) (.inr rfl) _).setCell (p := ⟨w.heap.size + 1, 1, none⟩) (.inr rfl) _).setCell (p := ⟨w.heap.size + 1, 2, none⟩) (.inr rfl) _
    generalize (((w2.setCell ⟨w.heap.size, 0, none⟩ (.slice va cs.length vc)).setCell ⟨w.heap.size + 1, 0, none⟩ (.int .i64 0)).setCell ⟨w.heap.size + 1, 1, none⟩ (.int .i64 0)).setCell ⟨w.heap.size + 1, 2, none⟩ (.int .i64 0) = V at hV0 hV1 hO hB ⊢
    obtain ⟨f0, -⟩ := progCell hV0
    obtain ⟨⟨f1, f2, f3⟩, -⟩ := fault_cells hV1
    exact bodyPost_ret (v := .tuple #[.agg #[.slice va cs.length vc], .agg #[.int .i64 0, .int .i64 0, .int .i64 0]]) (by simp [results, Tryd.results11, go_sem, f0, f1, f2, f3]) rfl (PG.out _ _ cs HPu.out HLn.out (HLs.out.move fun k hk hF => ⟨by simp at hF; omega, hO.block k hk (by simp at hF; omega)⟩) hB)

set_option maxRecDepth 100000 in
set_option maxHeartbeats 2000000 in
theorem parseFacts_any (s : ByteArray) (w : World) (hl : LexLaid w) (hs : s.size ≤ 140737488351232) :
    Calls Tryd.prog 8 #[.string s] w (ReadFacts w s) := by
  have HC := hide (fun (W : World) (hb : Below w.heap.size w W) => readFacts_any s W (hl.kept hb) hs)
  clear hl hs
  obtain ⟨Post, hPost⟩ : ∃ Post : Ending → World → Prop, Post = ReadFacts w s := ⟨_, rfl⟩
  rw [← hPost]
  have HK : Hid (∀ w2, Below (w.alloc (.cells #[.int .i64 0, .int .i64 0, .int .i64 0] 27)).heap.size (w.alloc (.cells #[.int .i64 0, .int .i64 0, .int .i64 0] 27)) w2 → w2.heap[w.heap.size]? = some (.cells #[.int .i64 0, .int .i64 0, .int .i64 0] 27 (0, 0)) ∧ Below w.heap.size w w2) := fun w2 hb => by
    refine ⟨?_, belowt2 (belowA w _) hb⟩
    rw [hb.block _ (by simp)]; exact heap_alloc_new w _
  cases hr : factsP (scanX s).2.1 ((scanX s).2.2 : Int) (scanX s).1 with
  | bad ec eo =>
    have PB : Hid (∀ w', Below w.heap.size w w' → Post (.returned (.tuple #[.slice none 0 0, .agg #[.int .i64 ec, .int .i64 0, .int .i64 eo]])) w') := fun w' hb => by rw [hPost]; exact readFacts_mkb hr hb
    have HRr := hide hr
    clear hr hPost
    go_enter Tryd.func8, Tryd.ntmps8
    go_wp2_with (go_at_call 22; refine (HC.out _ (belowA _ _)).mono ?_; intro e w2 hq; obtain ⟨rfl, hb2⟩ := readFacts_bad hq HRr.out; clear hq; obtain ⟨k1, k2⟩ := HK.out w2 hb2; have HK2 := hide k2; clear hb2 k2; obtain ⟨⟨d0, d1, d2⟩, ⟨y0, y1, y2⟩⟩ := fault_cells k1; unfold faultV)
    have hV1 : (((w2.setCell ⟨w.heap.size, 0, none⟩ (.int .i64 ec)).setCell ⟨w.heap.size, 1, none⟩ (.int .i64 0)).setCell ⟨w.heap.size, 2, none⟩ (.int .i64 eo)).heap[w.heap.size]? = some (.cells #[.int .i64 ec, .int .i64 0, .int .i64 eo] 27 (0, 0)) := by simp [World.setCell, Array.getElem?_modify, k1]
    have hO : Below w.heap.size w (((w2.setCell ⟨w.heap.size, 0, none⟩ (.int .i64 ec)).setCell ⟨w.heap.size, 1, none⟩ (.int .i64 0)).setCell ⟨w.heap.size, 2, none⟩ (.int .i64 eo)) := ((((Only.of_below HK2.out (fun k => w.heap.size ≤ k)).setCell (p := ⟨w.heap.size, 0, none⟩) (Nat.le_refl _) _).setCell (p := ⟨w.heap.size, 1, none⟩) (Nat.le_refl _) _).setCell (p := ⟨w.heap.size, 2, none⟩) (Nat.le_refl _) _).below (Nat.le_refl _) (fun k hk e => by omega)
    generalize ((w2.setCell ⟨w.heap.size, 0, none⟩ (.int .i64 ec)).setCell ⟨w.heap.size, 1, none⟩ (.int .i64 0)).setCell ⟨w.heap.size, 2, none⟩ (.int .i64 eo) = V at hV1 hO ⊢
    obtain ⟨⟨f1, f2, f3⟩, -⟩ := fault_cells hV1
    exact bodyPost_ret (v := .tuple #[.slice none 0 0, .agg #[.int .i64 ec, .int .i64 0, .int .i64 eo]]) (by simp [results, Tryd.results8, go_sem, f1, f2, f3]) rfl (PB.out _ hO)
  | ok b r =>
    have PG : Hid (∀ w' v cs, cs.map Atx.pur = b → cs.length ≤ 4096 → Lst elAtx w' (fun k => w.heap.size ≤ k) v cs → Below w.heap.size w w' → Post (.returned (.tuple #[v, .agg #[.int .i64 0, .int .i64 0, .int .i64 0]])) w') := fun w' v cs h1 h2 h3 h4 => by rw [hPost]; exact readFacts_mko hr h1 h2 h3 h4
    have HRr := hide hr
    clear hr hPost
    go_enter Tryd.func8, Tryd.ntmps8
    go_wp2_with (go_at_call 22; refine (HC.out _ (belowA _ _)).mono ?_; intro e w2 hq; obtain ⟨v, cs, rfl, hpur, hlen, hls, hb2⟩ := readFacts_ok hq HRr.out; clear hq; obtain ⟨va, vc, rfl, -⟩ := hls.shape; obtain ⟨k1, k2⟩ := HK.out w2 hb2; have HK2 := hide k2; have HLs := hide hls; have HPu := hide hpur; have HLn := hide hlen; clear hb2 k2 hls hpur hlen; obtain ⟨⟨d0, d1, d2⟩, ⟨y0, y1, y2⟩⟩ := fault_cells k1; unfold faultV)
    have hV1 : (((w2.setCell ⟨w.heap.size, 0, none⟩ (.int .i64 0)).setCell ⟨w.heap.size, 1, none⟩ (.int .i64 0)).setCell ⟨w.heap.size, 2, none⟩ (.int .i64 0)).heap[w.heap.size]? = some (.cells #[.int .i64 0, .int .i64 0, .int .i64 0] 27 (0, 0)) := by simp [World.setCell, Array.getElem?_modify, k1]
    have hB : Below w.heap.size w (((w2.setCell ⟨w.heap.size, 0, none⟩ (.int .i64 0)).setCell ⟨w.heap.size, 1, none⟩ (.int .i64 0)).setCell ⟨w.heap.size, 2, none⟩ (.int .i64 0)) := ((((Only.of_below HK2.out (fun k => w.heap.size ≤ k)).setCell (p := ⟨w.heap.size, 0, none⟩) (Nat.le_refl _) _).setCell (p := ⟨w.heap.size, 1, none⟩) (Nat.le_refl _) _).setCell (p := ⟨w.heap.size, 2, none⟩) (Nat.le_refl _) _).below (Nat.le_refl _) (fun k hk e => by omega)
    have hO : Only (fun k => k = w.heap.size) w2 (((w2.setCell ⟨w.heap.size, 0, none⟩ (.int .i64 0)).setCell ⟨w.heap.size, 1, none⟩ (.int .i64 0)).setCell ⟨w.heap.size, 2, none⟩ (.int .i64 0)) := (((Only.refl (fun k => k = w.heap.size) w2).setCell (p := ⟨w.heap.size, 0, none⟩) rfl _).setCell (p := ⟨w.heap.size, 1, none⟩) rfl _).setCell (p := ⟨w.heap.size, 2, none⟩) rfl _
    generalize ((w2.setCell ⟨w.heap.size, 0, none⟩ (.int .i64 0)).setCell ⟨w.heap.size, 1, none⟩ (.int .i64 0)).setCell ⟨w.heap.size, 2, none⟩ (.int .i64 0) = V at hV1 hO hB ⊢
    obtain ⟨⟨f1, f2, f3⟩, -⟩ := fault_cells hV1
    exact bodyPost_ret (v := .tuple #[.slice va cs.length vc, .agg #[.int .i64 0, .int .i64 0, .int .i64 0]]) (by simp [results, Tryd.results8, go_sem, f1, f2, f3]) rfl (PG.out _ _ cs HPu.out HLn.out (HLs.out.move fun k hk hF => ⟨by simp at hF; omega, hO.block k hk (by simp at hF; omega)⟩) hB)

set_option maxRecDepth 100000 in
set_option maxHeartbeats 2000000 in
theorem parseQuery_any (s : ByteArray) (w : World) (hl : LexLaid w) (hs : s.size ≤ 140737488351232) :
    Calls Tryd.prog 14 #[.string s] w (ReadQuery w s) := by
  have HC := hide (fun (W : World) (hb : Below w.heap.size w W) => readQuery_any s W (hl.kept hb) hs)
  clear hl hs
  obtain ⟨Post, hPost⟩ : ∃ Post : Ending → World → Prop, Post = ReadQuery w s := ⟨_, rfl⟩
  rw [← hPost]
  have HK : Hid (∀ w2, Below (w.alloc (.cells #[.int .i64 0, .int .i64 0, .int .i64 0] 27)).heap.size (w.alloc (.cells #[.int .i64 0, .int .i64 0, .int .i64 0] 27)) w2 → w2.heap[w.heap.size]? = some (.cells #[.int .i64 0, .int .i64 0, .int .i64 0] 27 (0, 0)) ∧ Below w.heap.size w w2) := fun w2 hb => by
    refine ⟨?_, belowt2 (belowA w _) hb⟩
    rw [hb.block _ (by simp)]; exact heap_alloc_new w _
  cases hr : queryP (scanX s).2.1 ((scanX s).2.2 : Int) (scanX s).1 with
  | bad ec eo =>
    have PB : Hid (∀ w', Below w.heap.size w w' → Post (.returned (.tuple #[.slice none 0 0, .agg #[.int .i64 ec, .int .i64 0, .int .i64 eo]])) w') := fun w' hb => by rw [hPost]; exact readQuery_mkb hr hb
    have HRr := hide hr
    clear hr hPost
    go_enter Tryd.func14, Tryd.ntmps14
    go_wp2_with (go_at_call 26; refine (HC.out _ (belowA _ _)).mono ?_; intro e w2 hq; obtain ⟨rfl, hb2⟩ := readQuery_bad hq HRr.out; clear hq; obtain ⟨k1, k2⟩ := HK.out w2 hb2; have HK2 := hide k2; clear hb2 k2; obtain ⟨⟨d0, d1, d2⟩, ⟨y0, y1, y2⟩⟩ := fault_cells k1; unfold faultV)
    have hV1 : (((w2.setCell ⟨w.heap.size, 0, none⟩ (.int .i64 ec)).setCell ⟨w.heap.size, 1, none⟩ (.int .i64 0)).setCell ⟨w.heap.size, 2, none⟩ (.int .i64 eo)).heap[w.heap.size]? = some (.cells #[.int .i64 ec, .int .i64 0, .int .i64 eo] 27 (0, 0)) := by simp [World.setCell, Array.getElem?_modify, k1]
    have hO : Below w.heap.size w (((w2.setCell ⟨w.heap.size, 0, none⟩ (.int .i64 ec)).setCell ⟨w.heap.size, 1, none⟩ (.int .i64 0)).setCell ⟨w.heap.size, 2, none⟩ (.int .i64 eo)) := ((((Only.of_below HK2.out (fun k => w.heap.size ≤ k)).setCell (p := ⟨w.heap.size, 0, none⟩) (Nat.le_refl _) _).setCell (p := ⟨w.heap.size, 1, none⟩) (Nat.le_refl _) _).setCell (p := ⟨w.heap.size, 2, none⟩) (Nat.le_refl _) _).below (Nat.le_refl _) (fun k hk e => by omega)
    generalize ((w2.setCell ⟨w.heap.size, 0, none⟩ (.int .i64 ec)).setCell ⟨w.heap.size, 1, none⟩ (.int .i64 0)).setCell ⟨w.heap.size, 2, none⟩ (.int .i64 eo) = V at hV1 hO ⊢
    obtain ⟨⟨f1, f2, f3⟩, -⟩ := fault_cells hV1
    exact bodyPost_ret (v := .tuple #[.slice none 0 0, .agg #[.int .i64 ec, .int .i64 0, .int .i64 eo]]) (by simp [results, Tryd.results14, go_sem, f1, f2, f3]) rfl (PB.out _ hO)
  | ok b r =>
    have PG : Hid (∀ w' v cs, cs.map Lix.pur = b → cs.length ≤ 16 → Lst elLix w' (fun k => w.heap.size ≤ k) v cs → Below w.heap.size w w' → Post (.returned (.tuple #[v, .agg #[.int .i64 0, .int .i64 0, .int .i64 0]])) w') := fun w' v cs h1 h2 h3 h4 => by rw [hPost]; exact readQuery_mko hr h1 h2 h3 h4
    have HRr := hide hr
    clear hr hPost
    go_enter Tryd.func14, Tryd.ntmps14
    go_wp2_with (go_at_call 26; refine (HC.out _ (belowA _ _)).mono ?_; intro e w2 hq; obtain ⟨v, cs, rfl, hpur, hlen, hls, hb2⟩ := readQuery_ok hq HRr.out; clear hq; obtain ⟨va, vc, rfl, -⟩ := hls.shape; obtain ⟨k1, k2⟩ := HK.out w2 hb2; have HK2 := hide k2; have HLs := hide hls; have HPu := hide hpur; have HLn := hide hlen; clear hb2 k2 hls hpur hlen; obtain ⟨⟨d0, d1, d2⟩, ⟨y0, y1, y2⟩⟩ := fault_cells k1; unfold faultV)
    have hV1 : (((w2.setCell ⟨w.heap.size, 0, none⟩ (.int .i64 0)).setCell ⟨w.heap.size, 1, none⟩ (.int .i64 0)).setCell ⟨w.heap.size, 2, none⟩ (.int .i64 0)).heap[w.heap.size]? = some (.cells #[.int .i64 0, .int .i64 0, .int .i64 0] 27 (0, 0)) := by simp [World.setCell, Array.getElem?_modify, k1]
    have hB : Below w.heap.size w (((w2.setCell ⟨w.heap.size, 0, none⟩ (.int .i64 0)).setCell ⟨w.heap.size, 1, none⟩ (.int .i64 0)).setCell ⟨w.heap.size, 2, none⟩ (.int .i64 0)) := ((((Only.of_below HK2.out (fun k => w.heap.size ≤ k)).setCell (p := ⟨w.heap.size, 0, none⟩) (Nat.le_refl _) _).setCell (p := ⟨w.heap.size, 1, none⟩) (Nat.le_refl _) _).setCell (p := ⟨w.heap.size, 2, none⟩) (Nat.le_refl _) _).below (Nat.le_refl _) (fun k hk e => by omega)
    have hO : Only (fun k => k = w.heap.size) w2 (((w2.setCell ⟨w.heap.size, 0, none⟩ (.int .i64 0)).setCell ⟨w.heap.size, 1, none⟩ (.int .i64 0)).setCell ⟨w.heap.size, 2, none⟩ (.int .i64 0)) := (((Only.refl (fun k => k = w.heap.size) w2).setCell (p := ⟨w.heap.size, 0, none⟩) rfl _).setCell (p := ⟨w.heap.size, 1, none⟩) rfl _).setCell (p := ⟨w.heap.size, 2, none⟩) rfl _
    generalize ((w2.setCell ⟨w.heap.size, 0, none⟩ (.int .i64 0)).setCell ⟨w.heap.size, 1, none⟩ (.int .i64 0)).setCell ⟨w.heap.size, 2, none⟩ (.int .i64 0) = V at hV1 hO hB ⊢
    obtain ⟨⟨f1, f2, f3⟩, -⟩ := fault_cells hV1
    exact bodyPost_ret (v := .tuple #[.slice va cs.length vc, .agg #[.int .i64 0, .int .i64 0, .int .i64 0]]) (by simp [results, Tryd.results14, go_sem, f1, f2, f3]) rfl (PG.out _ _ cs HPu.out HLn.out (HLs.out.move fun k hk hF => ⟨by simp at hF; omega, hO.block k hk (by simp at hF; omega)⟩) hB)
end Go.Proofs.YtnfnihhbgpakkaaDoor

namespace Go.Proofs.YtnfnihhbgpakkaaDoor
set_option linter.unusedSimpArgs false
set_option linter.unusedVariables false
open Go.RowKit

theorem Tryd.infoCon : (Tryd.prog.info? 65).map (fun i => (i.zero, i.size, i.bytes)) = some (some (.agg #[.int .i64 0, .int .i64 0, .string ⟨#[]⟩]), 3, 32) := by kernel_rfl

def FactPost (w : World) (p : Nat) (ao : Option Addr) (cap : Nat) (L : List Tok) (c f : Int) (res : PR PAtom) (e : Ending) (w' : World) : Prop :=
  match res with
  | .bad ec eo => e = PEnd ec eo ∧ Only (fun k => k = p) w w'
  | .ok a r => ∃ v, e = .returned (.agg #[.string a.p, v]) ∧ Lst elCon w' (fun b => w.heap.size ≤ b) v (a.ts.map Trm.con) ∧ Ahead w' p ao cap L c f r ∧ Only (fun k => k = p) w w'
theorem factPost_bad {w w' : World} {p : Nat} {ao : Option Addr} {cap : Nat} {L : List Tok} {c f ec eo : Int} {e : Ending} (h : FactPost w p ao cap L c f (.bad ec eo) e w') : e = PEnd ec eo ∧ Only (fun k => k = p) w w' := h
theorem factPost_ok {w w' : World} {p : Nat} {ao : Option Addr} {cap : Nat} {L : List Tok} {c f : Int} {a : PAtom} {r : List Tok} {e : Ending} (h : FactPost w p ao cap L c f (.ok a r) e w') : ∃ v, e = .returned (.agg #[.string a.p, v]) ∧ Lst elCon w' (fun b => w.heap.size ≤ b) v (a.ts.map Trm.con) ∧ Ahead w' p ao cap L c f r ∧ Only (fun k => k = p) w w' := h

/-- What the loop of a fact's constants keeps in memory. -/
structure FctAt (w wr : World) (p : Nat) (ao : Option Addr) (cap : Nat) (L : List Tok) (c f : Int) (R : List Tok) (b4 : Nat) (pr : ByteArray) (v : Value) (l : List Con) (av : Value) (ts : List Trm) : Prop where
  col : Coll3 elCon 65 w wr p ao cap L c f R (b4 + 1) v l
  b0 : wr.heap[w.heap.size]? = some (.cells #[.string ⟨#[]⟩, .slice none 0 0] 24 (0, 0))
  bx : wr.heap[b4]? = some (.cells #[.string pr, v] 24 (0, 0))
  ar : Lst elTrm wr (fun k => w.heap.size < k ∧ k < b4) av ts
  hb : w.heap.size < b4
section
variable {w wr wr' : World} {p : Nat} {ao : Option Addr} {cap : Nat} {L : List Tok} {c f : Int} {R R' : List Tok} {b4 : Nat} {pr : ByteArray} {v v' av : Value} {l l' : List Con} {ts : List Trm}
theorem FctAt.below (h : FctAt w wr p ao cap L c f R b4 pr v l av ts) (hb : Below wr.heap.size wr wr') : FctAt w wr' p ao cap L c f R b4 pr v l av ts :=
  ⟨h.col.below hb, by rw [hb.block _ (Array.getElem?_eq_some_iff.1 h.b0).1]; exact h.b0, by rw [hb.block _ (Array.getElem?_eq_some_iff.1 h.bx).1]; exact h.bx, h.ar.move fun k hk hF => ⟨hF, hb.block k hk⟩, h.hb⟩
theorem FctAt.cells (h : FctAt w wr p ao cap L c f R b4 pr v l av ts) : (wr.cell? ⟨w.heap.size, 0, none⟩ = some (.string ⟨#[]⟩) ∧ wr.cell? ⟨w.heap.size, 1, none⟩ = some (.slice none 0 0) ∧ wr.frozen? ⟨w.heap.size, 0, none⟩ = false ∧ wr.frozen? ⟨w.heap.size, 1, none⟩ = false) ∧ wr.cell? ⟨b4, 0, none⟩ = some (.string pr) ∧ wr.cell? ⟨b4, 1, none⟩ = some v ∧ wr.frozen? ⟨b4, 1, none⟩ = false := by
  refine ⟨⟨?_, ?_, ?_, ?_⟩, ?_, ?_, ?_⟩ <;> simp [World.cell?, World.frozen?, h.b0, h.bx]
theorem FctAt.far (h : FctAt w wr p ao cap L c f R b4 pr v l av ts) (hg : wr.grownBy wr' v.ownBlock) : wr'.heap[b4]? = some (.cells #[.string pr, v] 24 (0, 0)) := by
  have ho : Only (fun k => b4 + 1 ≤ k) wr wr' := (Only.refl _ wr).grown hg (fun k hk _ => own_new h.col.gr.1 k hk)
  rw [ho.block _ (Array.getElem?_eq_some_iff.1 h.bx).1 (by omega)]; exact h.bx
theorem FctAt.push (h : FctAt w wr p ao cap L c f R b4 pr v l av ts) (hg : wr.grownBy wr' v.ownBlock) (hG : Grow elCon 65 (b4 + 1) wr' v' l') : FctAt w (wr'.setCell ⟨b4, 1, none⟩ v') p ao cap L c f R b4 pr v' l' av ts := by
  have hp := h.col.pl
  have hb := h.hb
  have hc := h.col.grown hg hG
  have ho : Only (fun k => b4 + 1 ≤ k) wr wr' := (Only.refl _ wr).grown hg (fun k hk _ => own_new h.col.gr.1 k hk)
  have ho2 : Only (fun k => k = b4) wr' (wr'.setCell ⟨b4, 1, none⟩ v') := (Only.refl (fun k => k = b4) wr').setCell (p := ⟨b4, 1, none⟩) rfl _
  have hb0 : wr'.heap[w.heap.size]? = some (.cells #[.string ⟨#[]⟩, .slice none 0 0] 24 (0, 0)) := by rw [ho.block _ (Array.getElem?_eq_some_iff.1 h.b0).1 (by omega)]; exact h.b0
  refine ⟨⟨?_, hc.gr.above fun b hb hlt => ho2.block b hlt (by omega), hc.on.trans (ho2.mono fun k _ (e : k = b4) => .inr (by omega)), hp, hc.tk, hc.lo, Nat.le_trans hc.hi ho2.size⟩, ?_, ?_, ?_, hb⟩
  · obtain ⟨i, q1, q2⟩ := hc.ah
    exact ⟨i, q1.only ho2 (by omega) (fun g hg hl => by have := hc.tk g hg hl; omega), q2⟩
  · rw [ho2.block _ (Array.getElem?_eq_some_iff.1 hb0).1 (by omega)]; exact hb0
  · have := h.far hg
    simp [World.setCell, Array.getElem?_modify, this]
  · exact h.ar.move fun k hk hF => ⟨hF, by rw [ho2.block k (Nat.lt_of_lt_of_le hk ho.size) (by omega), ho.block k hk (by omega)]⟩
end
theorem fctRes (W : World) (b : Nat) (u0 u1 : Value) (tmps : Array Value) (ht : tmps[2]? = some (.pointer (some ⟨b, 0, none⟩))) (hb : W.heap[b]? = some (.cells #[u0, u1] 24 (0, 0))) :
    (results Tryd.f21 tmps).run Tryd.prog W = .ok (.agg #[u0, u1]) W := by
  have c0 : W.cell? ⟨b, 0, none⟩ = some u0 := by simp [World.cell?, hb]
  have c1 : W.cell? ⟨b, 1, none⟩ = some u1 := by simp [World.cell?, hb]
  simp [results, Tryd.results21, go_sem, ht, c0, c1]
theorem atom3_cells {V : World} {b : Nat} {u0 u1 u2 : Value} (h : V.heap[b]? = some (.cells #[u0, u1, u2] 36 (0, 0))) : V.cell? ⟨b, 0, none⟩ = some u0 ∧ V.cell? ⟨b, 1, none⟩ = some u1 := by
  refine ⟨?_, ?_⟩ <;> simp [World.cell?, h]

theorem box_kept0 {W W' : World} {b : Nat} {x : Obj} (h : W.heap[b]? = some x) (hb : Below W.heap.size W W') : W'.heap[b]? = some x := by
  rw [hb.block _ (Array.getElem?_eq_some_iff.1 h).1]; exact h
theorem box_moved0 {W W' : World} {p b : Nat} {x : Obj} (h : W.heap[b]? = some x) (hp : p ≠ b) (ho : Only (fun k => k = p) W W') : W'.heap[b]? = some x := by
  rw [ho.block _ (Array.getElem?_eq_some_iff.1 h).1 (by omega)]; exact h
set_option maxHeartbeats 4000000 in
set_option maxRecDepth 100000 in
theorem fact_any {w : World} {p : Nat} {ao : Option Addr} {cap : Nat} {L : List Tok} {c f : Int} {R : List Tok} (h : Ahead w p ao cap L c f R) :
    Calls Tryd.prog 21 #[.pointer (some ⟨p, 0, none⟩)] w (FactPost w p ao cap L c f (factP c f R)) := by
  have H0 := hide h
  have hp := h.lt
  have HB0 := hide (belowA w (.cells #[.string ⟨#[]⟩, .slice none 0 0] 24))
  have HA0 := hide (h.kept (belowA w (.cells #[.string ⟨#[]⟩, .slice none 0 0] 24)))
  clear h
  cases hT : takeP c f [1] R with
  | bad ec eo =>
    have HT : Hid (∀ (W : World) (g : Nat), W.heap.size = g → Ahead W p ao cap L c f R → Calls Tryd.prog 32 #[.pointer (some ⟨p, 0, none⟩), .slice (some ⟨g, 0, none⟩) 1 1] (W.alloc (.cells #[.int .i64 1] 3)) fun e w' => e = PEnd ec eo ∧ Below W.heap.size W w') := fun W g hg ha => hg ▸ take_lit_fail [1] ha (by decide) hT
    rw [show factP c f R = .bad ec eo from by unfold factP; rw [hT]]
    clear hT
    unfold FactPost
    go_enter Tryd.func21, Tryd.ntmps21
    go_wp2_with (go_at_call 32; refine (HT.out _ _ (by simp) HA0.out).mono ?_; rintro e w1 ⟨rfl, hb1⟩)
    exact ⟨rfl, rfl, Only.of_below (belowt2 HB0.out hb1) _⟩
  | ok t r1 =>
    have HT : Hid (∀ (W : World) (g : Nat), W.heap.size = g → Ahead W p ao cap L c f R → Calls Tryd.prog 32 #[.pointer (some ⟨p, 0, none⟩), .slice (some ⟨g, 0, none⟩) 1 1] (W.alloc (.cells #[.int .i64 1] 3)) fun e w' => e = .returned (tokV t) ∧ Ahead w' p ao cap L c f r1 ∧ Only (fun b => b = p) W w') := fun W g hg ha => hg ▸ take_lit_good [1] ha (by decide) hT
    have htg : t.good := H0.out.good t (by rw [(take_eq hT).1]; exact List.mem_cons_self)
    have HG0 := fun (W : World) (ha : Ahead W p ao cap L c f r1) => ground_any t ha htg
    cases hA : atomP c f valueKs t r1 with
    | bad ec eo =>
      rw [hA] at HG0
      have HGd := hide HG0
      rw [show factP c f R = .bad ec eo from by unfold factP; rw [hT]; simp only; rw [hA]]
      clear hT hA HG0
      unfold FactPost
      go_enter Tryd.func21, Tryd.ntmps21
      go_wp2_with (first
        | (go_at_call 32; refine (HT.out _ _ (by simp) HA0.out).mono ?_; rintro e w1 ⟨rfl, ha1, ho1⟩; have HA1 := hide ha1; have HO1 := hide (only_wide HB0.out ho1); have Hs1 := hide ho1.size; have HZ1 := hide (box_moved0 (heap_alloc_new w (.cells #[.string ⟨#[]⟩, .slice none 0 0] 24)) (by omega) ho1); clear ha1 ho1 HT)
        | (go_at_call 31; refine (HGd.out _ HA1.out).mono ?_; intro e w2 hq; obtain ⟨rfl, ho2⟩ := atmPost_bad hq; clear hq))
      exact ⟨rfl, rfl, only_drop (HO1.out.trans (ho2.mono fun k _ e => .inl e))⟩
    | ok a r2 =>
      rw [hA] at HG0
      have HGd := hide HG0
      clear HG0
      cases hD : takeP c f [0] r2 with
      | bad ec eo =>
        have HU : Hid (∀ (W : World) (g : Nat), W.heap.size = g → Ahead W p ao cap L c f r2 → Calls Tryd.prog 32 #[.pointer (some ⟨p, 0, none⟩), .slice (some ⟨g, 0, none⟩) 1 1] (W.alloc (.cells #[.int .i64 0] 3)) fun e w' => e = PEnd ec eo ∧ Below W.heap.size W w') := fun W g hg ha => hg ▸ take_lit_fail [0] ha (by decide) hD
        rw [show factP c f R = .bad ec eo from by unfold factP; rw [hT]; simp only; rw [hA]; simp only; rw [hD]]
        clear hT hA hD
        unfold FactPost
        go_enter Tryd.func21, Tryd.ntmps21
        go_wp2_with (first
          | (go_at_call 32; refine (HT.out _ _ (by simp) HA0.out).mono ?_; rintro e w1 ⟨rfl, ha1, ho1⟩; have HA1 := hide ha1; have HO1 := hide (only_wide HB0.out ho1); have Hs1 := hide ho1.size; have HZ1 := hide (box_moved0 (heap_alloc_new w (.cells #[.string ⟨#[]⟩, .slice none 0 0] 24)) (by omega) ho1); clear ha1 ho1 HT)
          | (go_at_call 31; refine (HGd.out _ HA1.out).mono ?_; intro e w2 hq; obtain ⟨⟨ap, av, aoff, ats⟩, rfl, hpur, hok, ha2, ho2⟩ := atmPost_ok hq; clear hq; obtain ⟨xa, xc, rfl, -⟩ := (show Lst elTrm _ _ av ats from hok.2.2).shape; have HA2 := hide (ha2.kept (belowA w2 (.cells #[.string ap, .slice xa ats.length xc, .int .i64 aoff] 36))); have HO2 := hide ((HO1.out.trans (ho2.mono fun k _ e => .inl e)).alloc (.cells #[.string ap, .slice xa ats.length xc, .int .i64 aoff] 36)); have HZ2 := hide (box_kept0 (box_moved0 HZ1.out (by omega) ho2) (belowA w2 (.cells #[.string ap, .slice xa ats.length xc, .int .i64 aoff] 36))); have HX2 := hide (heap_alloc_new w2 (.cells #[.string ap, .slice xa ats.length xc, .int .i64 aoff] 36)); have HAr2 := hide ((show Lst elTrm w2 (fun b => w1.heap.size ≤ b) (.slice xa ats.length xc) ats from hok.2.2).move fun k hk hF => (⟨⟨by have := Hs1.out; simp at this; omega, hk⟩, (belowA w2 (.cells #[.string ap, .slice xa ats.length xc, .int .i64 aoff] 36)).block k hk⟩ : (w.heap.size < k ∧ k < w2.heap.size) ∧ _)); have Hs2 := hide (Nat.le_trans Hs1.out ho2.size); have HPu := hide hpur; clear hpur hok ha2 ho2 HGd; unfold Atx.val)
          | (go_at_call 32; refine (HU.out _ _ (by simp) HA2.out).mono ?_; rintro e w3 ⟨rfl, hb3⟩))
        exact ⟨rfl, rfl, only_drop (HO2.out.trans (Only.of_below hb3 _))⟩
      | ok s r3 =>
        have HU : Hid (∀ (W : World) (g : Nat), W.heap.size = g → Ahead W p ao cap L c f r2 → Calls Tryd.prog 32 #[.pointer (some ⟨p, 0, none⟩), .slice (some ⟨g, 0, none⟩) 1 1] (W.alloc (.cells #[.int .i64 0] 3)) fun e w' => e = .returned (tokV s) ∧ Ahead w' p ao cap L c f r3 ∧ Only (fun b => b = p) W w') := fun W g hg ha => hg ▸ take_lit_good [0] ha (by decide) hD
        rw [show factP c f R = .ok a r3 from by unfold factP; rw [hT]; simp only; rw [hA]; simp only; rw [hD]]
        clear hT hA hD
        obtain ⟨Post, hPost⟩ : ∃ Post : Ending → World → Prop, Post = FactPost w p ao cap L c f (.ok a r3) := ⟨_, rfl⟩
        rw [← hPost]
        have PG : Hid (∀ v w', Lst elCon w' (fun b => w.heap.size ≤ b) v (a.ts.map Trm.con) → Ahead w' p ao cap L c f r3 → Only (fun k => k = p) w w' → Post (.returned (.agg #[.string a.p, v])) w') := fun v w' h1 h2 h3 => by
          rw [hPost]; exact ⟨v, rfl, h1, h2, h3⟩
        clear hPost
        go_enter Tryd.func21, Tryd.ntmps21
        go_wp2_with (first
          | (go_at_call 32; refine (HT.out _ _ (by simp) HA0.out).mono ?_; rintro e w1 ⟨rfl, ha1, ho1⟩; have HA1 := hide ha1; have HO1 := hide (only_wide HB0.out ho1); have Hs1 := hide ho1.size; have HZ1 := hide (box_moved0 (heap_alloc_new w (.cells #[.string ⟨#[]⟩, .slice none 0 0] 24)) (by omega) ho1); clear ha1 ho1 HT)
          | (go_at_call 31; refine (HGd.out _ HA1.out).mono ?_; intro e w2 hq; obtain ⟨⟨ap, av, aoff, ats⟩, rfl, hpur, hok, ha2, ho2⟩ := atmPost_ok hq; clear hq; obtain ⟨xa, xc, rfl, -⟩ := (show Lst elTrm _ _ av ats from hok.2.2).shape; have HA2 := hide (ha2.kept (belowA w2 (.cells #[.string ap, .slice xa ats.length xc, .int .i64 aoff] 36))); have HO2 := hide ((HO1.out.trans (ho2.mono fun k _ e => .inl e)).alloc (.cells #[.string ap, .slice xa ats.length xc, .int .i64 aoff] 36)); have HZ2 := hide (box_kept0 (box_moved0 HZ1.out (by omega) ho2) (belowA w2 (.cells #[.string ap, .slice xa ats.length xc, .int .i64 aoff] 36))); have HX2 := hide (heap_alloc_new w2 (.cells #[.string ap, .slice xa ats.length xc, .int .i64 aoff] 36)); have HAr2 := hide ((show Lst elTrm w2 (fun b => w1.heap.size ≤ b) (.slice xa ats.length xc) ats from hok.2.2).move fun k hk hF => (⟨⟨by have := Hs1.out; simp at this; omega, hk⟩, (belowA w2 (.cells #[.string ap, .slice xa ats.length xc, .int .i64 aoff] 36)).block k hk⟩ : (w.heap.size < k ∧ k < w2.heap.size) ∧ _)); have Hs2 := hide (Nat.le_trans Hs1.out ho2.size); have HPu := hide hpur; clear hpur hok ha2 ho2 HGd; unfold Atx.val)
          | (go_at_call 32; refine (HU.out _ _ (by simp) HA2.out).mono ?_; rintro e w3 ⟨rfl, ha3, ho3⟩; have HA3 := hide ha3; have HO3 := hide (HO2.out.trans (ho3.mono fun k _ e => .inl e)); have HZ3 := hide (box_moved0 HZ2.out (by omega) ho3); have hs2 := Hs2.out; simp at hs2; have HX3 := hide (box_moved0 HX2.out (by omega) ho3); have HAr3 := hide (HAr2.out.move fun k hk hF => ⟨hF, ho3.block k hk (by omega)⟩); have HS3 := hide ho3.size; clear ha3 ho3; obtain ⟨m0, m1⟩ := atom3_cells HX3.out; have m2 := kept_cell (belowA w3 (.cells #[.string ap, .slice none 0 0] 24)) m1))
        have hs3 := HS3.out
        simp at hs3
        have HF0 : Hid (FctAt w (w3.alloc (.cells #[.string ap, .slice none 0 0] 24)) p ao cap L c f r3 w3.heap.size ap (.slice none 0 0) [] (.slice xa ats.length xc) ats) :=
          ⟨⟨HA3.out.kept (belowA w3 (.cells #[.string ap, .slice none 0 0] 24)), Grow.nil _ _ _ _, HO3.out.alloc _, hp, H0.out.tk, by omega, by simp⟩, box_kept0 HZ3.out (belowA w3 (.cells #[.string ap, .slice none 0 0] 24)), heap_alloc_new w3 (.cells #[.string ap, .slice none 0 0] 24), HAr3.out.move fun k hk hF => ⟨⟨hF.1, by omega⟩, (belowA w3 (.cells #[.string ap, .slice none 0 0] 24)).block k hk⟩, by omega⟩
        have hln : ats.length < 1073741824 := by obtain ⟨_, _, _, _, _, q⟩ := HAr3.out.shape; exact q
        clear m0 m1 m2 HA3 HO3 HZ3 HX3 HAr3 HS3 HA2 HO2 HZ2 HX2 HAr2 Hs2 HA1 HO1 HZ1 Hs1 HU HA0 HB0
        go_loopw [21] (fun i wr => ∃ (j : Nat) (v : Value) (l : List Con), j ≤ ats.length ∧ i = .int .i64 j ∧ Hid (l = (ats.take j).map Trm.con) ∧ Hid (FctAt w wr p ao cap L c f r3 w3.heap.size ap v l (.slice xa ats.length xc) ats)) (fun i _ => ats.length - (intOf i).toNat)
        case atStart => exact ⟨0, _, [], by omega, rfl, by show _ = _; simp, HF0⟩
        case round =>
          clear HF0
          obtain ⟨j, v, l, hj, rfl, HL, HF⟩ := hrel
          obtain ⟨va, vc, rfl, -⟩ := HF.out.col.gr.shape
          have hlj : l.length ≤ j := by rw [HL.out]; simp; omega
          by_cases hlt : j < ats.length
          · have hi : (j : Int) < (ats.length : Int) := by omega
            have hi0 : (0 : Int) ≤ (j : Int) := by omega
            obtain ⟨u, hu⟩ : ∃ u, ats[j]? = some u := ⟨_, List.getElem?_eq_getElem hlt⟩
            obtain ⟨b2, o2, rfl, -, -, hr2⟩ := HF.out.ar.row (by omega)
            have y0 := hr2 j _ hu 0 _ rfl
            have y1 := hr2 j _ hu 1 _ rfl
            have y2 := hr2 j _ hu 2 _ rfl
            have y3 := hr2 j _ hu 3 _ rfl
            simp only [elTrm, Nat.add_zero] at y0 y1 y2 y3
            have HOk : Hid (u.con.ok) := (HF.out.ar.ok (List.mem_of_getElem? hu)).1
            have HL2 : Hid (l ++ [u.con] = (ats.take (j + 1)).map Trm.con) := by
              show _ = _
              rw [HL.out, List.take_add_one, hu, Option.toList_some, List.map_append, List.map_singleton]
            have HF1 := hide (HF.out.below (belowA wr (.cells #[.int .i64 u.k, .int .i64 u.n, .string u.s, .int .i64 u.off] 67)))
            have HF2 := hide (HF1.out.below (belowA _ (.cells #[.int .i64 u.k, .int .i64 u.n, .string u.s] 65)))
            obtain ⟨-, n0, n1, n2⟩ := HF1.out.cells
            clear hr2 hu
            go_wp2_with (at_builtin; obtain ⟨i0, hi0', hz0, hz1, hz2⟩ := info_parts Tryd.infoCon; refine wpList_push (w0 := (wr.alloc (.cells #[.int .i64 u.k, .int .i64 u.n, .string u.s, .int .i64 u.off] 67)).alloc (.cells #[.int .i64 u.k, .int .i64 u.n, .string u.s] 65)) elCon rfl _ _ 22 rfl (w3.heap.size + 1) 65 i0 _ 32 Tryd.underlying22 hi0' hz0 hz1 hz2 rfl (by decide) _ l l.length rfl rfl HF2.out.col.gr u.con (wr.heap.size + 1) 1 rfl (fun j u' hu => by have := new_cells (w := wr.alloc (.cells #[.int .i64 u.k, .int .i64 u.n, .string u.s, .int .i64 u.off] 67)) (cs := #[.int .i64 u.k, .int .i64 u.n, .string u.s]) (t := 65) j u' hu; simpa using this) HOk.out (by omega) (Below.refl _ _) HF2.out.col.hi ?_; intro g cap' w5 HG5 HB5 HGr; clear HB5 hi0' hz0 hz1 hz2; have hfar := HF2.out.far HGr.out; have f0 : w5.cell? ⟨w3.heap.size, 1, none⟩ = some (.slice va l.length vc) := (by simp [World.cell?, hfar]); have f1 : w5.frozen? ⟨w3.heap.size, 1, none⟩ = false := (by simp [World.frozen?, hfar]); have HF5 := hide (HF2.out.push HGr.out HG5.out); clear HG5 HGr hfar)
            go_roundw
            case rel => exact ⟨j + 1, _, l ++ [u.con], by omega, by go_num, HL2, HF5⟩
            case measure => simp [intOf]; omega
          · obtain rfl : j = ats.length := by omega
            have hi : ¬ (ats.length : Int) < (ats.length : Int) := by omega
            obtain ⟨⟨q0, q1, q2, q3⟩, n0, n1, n2⟩ := HF.out.cells
            have hb4 := HF.out.hb
            have q4 : ¬ w3.heap.size = w.heap.size := by omega
            have q5 : ¬ w.heap.size = w3.heap.size := by omega
            go_wp2
            have ho2 : Only (fun k => k = w.heap.size) wr ((wr.setCell ⟨w.heap.size, 0, none⟩ (.string ap)).setCell ⟨w.heap.size, 1, none⟩ (.slice va l.length vc)) := ((Only.refl (fun k => k = w.heap.size) wr).setCell (p := ⟨w.heap.size, 0, none⟩) rfl _).setCell (p := ⟨w.heap.size, 1, none⟩) rfl _
            obtain ⟨z1, z2⟩ := fin_ahead H0.out HF.out.col.ah HF.out.col.on ho2 (Nat.le_refl _)
            have hz := HL.out
            rw [List.take_length] at hz
            have z3 := ((HF.out.col.gr.above fun b hb hlt => ho2.block b hlt (by omega)).new (by omega)).move (G := fun b => w.heap.size ≤ b) fun k _ hF => ⟨by omega, rfl⟩
            rw [hz] at z3
            refine bodyPost_ret (fctRes _ w.heap.size (.string ap) (.slice va l.length vc) _ rfl (by have := HF.out.b0; simp [World.setCell, Array.getElem?_modify, this])) rfl ?_
            have hpu := HPu.out
            subst hpu
            rw [hz]
            rw [hz] at z1 z2
            exact PG.out _ _ z3 z1 z2
end Go.Proofs.YtnfnihhbgpakkaaDoor

namespace Go.Proofs.YtnfnihhbgpakkaaDoor
set_option linter.unusedSimpArgs false
set_option linter.unusedVariables false
open Go.RowKit

set_option maxRecDepth 100000 in
set_option maxHeartbeats 1000000 in
theorem idleFact (p : Addr) (w : World) :
    CallsD Tryd.prog 29 #[.pointer (some p)] .returning w fun e u' w' => e = .returned (.tuple #[]) ∧ u' = .returning ∧ w' = w := by
  refine callsD_of_wpS Tryd.func29 rfl fun c₀ cs hu => ?_
  apply wpS_seq
  apply wpS_region
  simp [wpOpsS, go_sem, recoverD, hu, Tryd.ntmps29, Exit.thenS]
  apply wpS_seq
  apply wpS_seq
  apply wpS_region
  simp [wpOpsS, go_sem, Exit.thenS]
  refine wpS_cond (t := true) (by simp [Act.eval, Array.replicate]) ?_
  simp only [if_true]
  refine wpS_of_wp (wp_ret ?_)
  cases c₀
  simp_all [bodyPostS, results, Tryd.results29, Exit.thenS]

set_option maxRecDepth 100000 in
set_option maxHeartbeats 1000000 in
theorem caughtFact (b : Nat) (c o : Int) (older : List PanicEntry) (w : World) (hb : w.heap[b]? = some (.cells #[.int .i64 0, .int .i64 0, .int .i64 0] 27 (0, 0))) :
    CallsD Tryd.prog 29 #[.pointer (some ⟨b, 0, none⟩)] (.panicking ({ v := faultP c o, recovered := false } :: older)) w fun e u' w' =>
      e = .returned (.tuple #[]) ∧ u' = .panicking ({ v := faultP c o, recovered := true } :: older) ∧ w'.heap[b]? = some (.cells #[.int .i64 c, .int .i64 0, .int .i64 o] 27 (0, 0)) ∧ Only (fun k => k = b) w w' := by
  obtain ⟨⟨c0, c1, c2⟩, ⟨z0, z1, z2⟩⟩ := fault_cells hb
  have hlt := (Array.getElem?_eq_some_iff.1 hb).1
  have hne : ¬ b = w.heap.size := by omega
  have hne2 : ¬ w.heap.size = b := by omega
  have hta : ∀ W : World, (Instr.typeAssert (faultP c o) 20 27 true).run Tryd.prog W = .ok (.tuple #[.agg #[.int .i64 c, .int .i64 0, .int .i64 o], .bool true]) W := fun W => by rfl
  refine callsD_of_wpS Tryd.func29 rfl fun c₀ cs hu => ?_
  apply wpS_seq
  apply wpS_region
  simp [wpOpsS, go_sem, recoverD, hu, Tryd.ntmps29, Exit.thenS]
  apply wpS_seq
  apply wpS_seq
  apply wpS_region
  simp [wpOpsS, go_sem, Exit.thenS]
  refine wpS_cond (t := false) (by simp [Act.eval, Array.replicate]) ?_
  simp only [Bool.false_eq_true, if_false]
  refine wpS_of_wp (wp_skip ?_)
  simp only [Exit.thenS]
  refine wpS_of_wp ?_
  change Code.wp _ _ _ ⟨#[.pointer (some ⟨b, 0, none⟩), faultP c o, undef, undef, faultP c o, faultP c o, .bool false, undef, undef, undef, undef, undef, undef, undef, undef, undef], []⟩ w
  go_wp2
  have hX : ((((w.setCell ⟨b, 0, none⟩ (.int .i64 c)).setCell ⟨b, 1, none⟩ (.int .i64 0)).setCell ⟨b, 2, none⟩ (.int .i64 o)).alloc (.cells #[.int .i64 c, .int .i64 0, .int .i64 o] 27)).heap[b]? = some (.cells #[.int .i64 c, .int .i64 0, .int .i64 o] 27 (0, 0)) := by
    rw [(belowA _ _).block _ (by simp; exact hlt)]
    simp [World.setCell, Array.getElem?_modify, hb]
  have hO : Only (fun k => k = b) w ((((w.setCell ⟨b, 0, none⟩ (.int .i64 c)).setCell ⟨b, 1, none⟩ (.int .i64 0)).setCell ⟨b, 2, none⟩ (.int .i64 o)).alloc (.cells #[.int .i64 c, .int .i64 0, .int .i64 o] 27)) :=
    ((((Only.refl (fun k => k = b) w).setCell (p := ⟨b, 0, none⟩) rfl _).setCell (p := ⟨b, 1, none⟩) rfl _).setCell (p := ⟨b, 2, none⟩) rfl _).alloc _
  generalize (((w.setCell ⟨b, 0, none⟩ (.int .i64 c)).setCell ⟨b, 1, none⟩ (.int .i64 0)).setCell ⟨b, 2, none⟩ (.int .i64 o)).alloc (.cells #[.int .i64 c, .int .i64 0, .int .i64 o] 27) = V at hX hO ⊢
  simp [bodyPostS, results, Tryd.results29, hX, hO]

def ReadFact (w : World) (s : ByteArray) (e : Ending) (w' : World) : Prop :=
  match factP (scanX s).2.1 ((scanX s).2.2 : Int) (scanX s).1 with
  | .bad ec eo => e = .returned (.tuple #[.agg #[.string ⟨#[]⟩, .slice none 0 0], faultV ec eo]) ∧ Below w.heap.size w w'
  | .ok b _ => ∃ v, e = .returned (.tuple #[.agg #[.string b.p, v], faultV 0 0]) ∧ Lst elCon w' (fun k => w.heap.size ≤ k) v (b.ts.map Trm.con) ∧ Below w.heap.size w w'

set_option maxRecDepth 100000 in
set_option maxHeartbeats 2000000 in
theorem readFact_any (s : ByteArray) (w : World) (hl : LexLaid w) (hs : s.size ≤ 140737488351232) :
    Calls Tryd.prog 20 #[.string s, .func (.func 21) #[] #[]] w (ReadFact w s) := by
  have hmf : ∀ (fn : Fn) (first cap : Array Value) (w : World), (Instr.makeFunc fn first cap).run Tryd.prog w = .ok (.func fn first cap) w := fun _ _ _ _ => rfl
  have HSc := hide (fun (W : World) (hb : Below w.heap.size w W) => scan_any s W (hl.kept hb) hs)
  clear hl hs
  unfold faultVal at HSc
  obtain ⟨res, hres⟩ : ∃ res, factP (scanX s).2.1 ((scanX s).2.2 : Int) (scanX s).1 = res := ⟨_, rfl⟩
  obtain ⟨Post, hPost⟩ : ∃ Post : Ending → World → Prop, Post = ReadFact w s := ⟨_, rfl⟩
  rw [← hPost]
  have PB : Hid (∀ ec eo w', res = .bad ec eo → Below w.heap.size w w' → Post (.returned (.tuple #[.agg #[.string ⟨#[]⟩, .slice none 0 0], .agg #[.int .i64 ec, .int .i64 0, .int .i64 eo]])) w') := fun ec eo w' hr hb => by
    rw [hPost]; unfold ReadFact; rw [hres, hr]; exact ⟨rfl, hb⟩
  have PG : Hid (∀ b r v w', res = .ok b r → Lst elCon w' (fun k => w.heap.size ≤ k) v (b.ts.map Trm.con) → Below w.heap.size w w' → Post (.returned (.tuple #[.agg #[.string b.p, v], .agg #[.int .i64 0, .int .i64 0, .int .i64 0]])) w') := fun b r v w' hr h3 h4 => by
    rw [hPost]; unfold ReadFact; rw [hres, hr]; exact ⟨v, rfl, h3, h4⟩
  have HR := hide hres
  clear hPost hres
  go_enter_defers Tryd.func20, Tryd.ntmps20
  go_wp2_with (go_at_call 30; refine (HSc.out _ (below2a _ _ _)).mono ?_; rintro e w1 ⟨v, rfl, ho1, hb1⟩; obtain ⟨ao, cap, rfl⟩ := own_shape ho1; have HO1 := hide ho1; have HB1 := hide hb1; clear ho1 hb1)
  have hs1 : w.heap.size + 2 ≤ w1.heap.size := by have := HB1.out.size; simp at this; omega
  have HA := hide (scan_ahead HB1.out HO1.out (W2 := (w1.alloc (.cells #[.int .i64 (scanX s).2.1, .int .i64 0, .int .i64 ((scanX s).2.2 : Int)] 27)).alloc (.cells #[.slice ao (scanX s).1.length cap, .int .i64 (scanX s).2.1, .int .i64 0, .int .i64 ((scanX s).2.2 : Int), .int .i64 0] 82)) (below2a w1 _ _) rfl (p := w1.heap.size + 1) (by omega) (by have := heap_alloc_new (w1.alloc (.cells #[.int .i64 (scanX s).2.1, .int .i64 0, .int .i64 ((scanX s).2.2 : Int)] 27)) (.cells #[.slice ao (scanX s).1.length cap, .int .i64 (scanX s).2.1, .int .i64 0, .int .i64 ((scanX s).2.2 : Int), .int .i64 0] 82); simpa using this))
  have HP := fact_any HA.out
  rw [HR.out] at HP
  have HK : Hid (∀ w2, Only (fun k => k = w1.heap.size + 1) ((w1.alloc (.cells #[.int .i64 (scanX s).2.1, .int .i64 0, .int .i64 ((scanX s).2.2 : Int)] 27)).alloc (.cells #[.slice ao (scanX s).1.length cap, .int .i64 (scanX s).2.1, .int .i64 0, .int .i64 ((scanX s).2.2 : Int), .int .i64 0] 82)) w2 → w2.heap[w.heap.size]? = some (.cells #[.string ⟨#[]⟩, .slice none 0 0] 24 (0, 0)) ∧ w2.heap[w.heap.size + 1]? = some (.cells #[.int .i64 0, .int .i64 0, .int .i64 0] 27 (0, 0)) ∧ Only (fun k => w.heap.size ≤ k) w w2) := fun w2 ho => by
    have q : ∀ k, k < w.heap.size + 2 → w2.heap[k]? = ((w.alloc (.cells #[.string ⟨#[]⟩, .slice none 0 0] 24)).alloc (.cells #[.int .i64 0, .int .i64 0, .int .i64 0] 27)).heap[k]? := fun k hk => by
      rw [ho.block k (by simp; omega) (by omega), (below2a w1 _ _).block k (by omega), HB1.out.block k (by simp; omega)]
    refine ⟨?_, ?_, ((Only.of_below (below2a w _ _) _).trans (Only.of_below HB1.out _)).trans ((Only.of_below (below2a w1 _ _) _).trans (ho.mono fun k _ (e : k = w1.heap.size + 1) => by omega))⟩
    · rw [q _ (by omega), (belowA (w.alloc _) _).block _ (by simp)]; exact heap_alloc_new w _
    · rw [q _ (by omega)]
      have := heap_alloc_new (w.alloc (.cells #[.string ⟨#[]⟩, .slice none 0 0] 24)) (.cells #[.int .i64 0, .int .i64 0, .int .i64 0] 27)
      simpa using this
  clear HO1 HB1 HSc HR
  cases res with
  | bad ec eo =>
    refine HP.mono ?_
    intro e w2 hq
    obtain ⟨rfl, ho2⟩ := factPost_bad hq
    obtain ⟨k0, k1, k2⟩ := HK.out w2 ho2
    clear hq HP HA
    refine leaves_cons (f := 29) (args := #[.pointer (some ⟨w.heap.size + 1, 0, none⟩)]) (by simp) (by simp [go_sem]) ?_
    refine (caughtFact (w.heap.size + 1) ec eo [] w2 k1).mono ?_
    rintro e u' w3 ⟨rfl, rfl, h3, o3⟩
    have h0 : w3.heap[w.heap.size]? = some (.cells #[.string ⟨#[]⟩, .slice none 0 0] 24 (0, 0)) := by rw [o3.block _ (Array.getElem?_eq_some_iff.1 k0).1 (by omega)]; exact k0
    have c0 : w3.cell? ⟨w.heap.size, 0, none⟩ = some (.string ⟨#[]⟩) := by simp [World.cell?, h0]
    have c1 : w3.cell? ⟨w.heap.size, 1, none⟩ = some (.slice none 0 0) := by simp [World.cell?, h0]
    obtain ⟨⟨d0, d1, d2⟩, -⟩ := fault_cells h3
    have HF := hide (PB.out ec eo w3 rfl ((k2.trans (o3.mono fun k _ (e : k = w.heap.size + 1) => by omega)).below (Nat.le_refl _) (fun k hk e => by omega)))
    clear o3 h3 h0 k0 k1 k2
    simp [Leaves, settle, results, Tryd.results20, go_sem, c0, c1, d0, d1, d2]
    exact HF.out
  | ok b r =>
    refine HP.mono ?_
    intro e w2 hq
    obtain ⟨v, rfl, hgr, ha2, ho2⟩ := factPost_ok hq
    obtain ⟨va, vc, rfl, -⟩ := hgr.shape
    obtain ⟨k0, k1, k2⟩ := HK.out w2 ho2
    have HG := hide hgr
    have HK2 := hide k2
    clear hq HP HA hgr ha2 ho2
    have c0 : w2.cell? ⟨w.heap.size, 0, none⟩ = some (.string ⟨#[]⟩) := by simp [World.cell?, k0]
    have c1 : w2.cell? ⟨w.heap.size, 1, none⟩ = some (.slice none 0 0) := by simp [World.cell?, k0]
    have z0 : w2.frozen? ⟨w.heap.size, 0, none⟩ = false := by simp [World.frozen?, k0]
    have z1 : w2.frozen? ⟨w.heap.size, 1, none⟩ = false := by simp [World.frozen?, k0]
    obtain ⟨⟨d0, d1, d2⟩, ⟨y0, y1, y2⟩⟩ := fault_cells k1
    obtain ⟨m, hm⟩ : ∃ m, m = (b.ts.map Trm.con).length := ⟨_, rfl⟩
    have HM := hide hm
    rw [← hm]
    clear hm
    go_wp2_with fail
    have hO : Only (fun k => k = w.heap.size ∨ k = w.heap.size + 1) w2 (((((w2.setCell ⟨w.heap.size, 0, none⟩ (.string b.p)).setCell ⟨w.heap.size, 1, none⟩ (.slice va m vc)).setCell ⟨w.heap.size + 1, 0, none⟩ (.int .i64 0)).setCell ⟨w.heap.size + 1, 1, none⟩ (.int .i64 0)).setCell ⟨w.heap.size + 1, 2, none⟩ (.int .i64 0)) := (((((Only.refl (fun k => k = w.heap.size ∨ k = w.heap.size + 1) w2).setCell (p := ⟨w.heap.size, 0, none⟩) (.inl rfl) _).setCell (p := ⟨w.heap.size, 1, none⟩) (.inl rfl) _).setCell (p := ⟨w.heap.size + 1, 0, none⟩) (.inr rfl) _).setCell (p := ⟨w.heap.size + 1, 1, none⟩) (.inr rfl) _).setCell (p := ⟨w.heap.size + 1, 2, none⟩) (.inr rfl) _
    have hV0 : (((((w2.setCell ⟨w.heap.size, 0, none⟩ (.string b.p)).setCell ⟨w.heap.size, 1, none⟩ (.slice va m vc)).setCell ⟨w.heap.size + 1, 0, none⟩ (.int .i64 0)).setCell ⟨w.heap.size + 1, 1, none⟩ (.int .i64 0)).setCell ⟨w.heap.size + 1, 2, none⟩ (.int .i64 0)).heap[w.heap.size]? = some (.cells #[.string b.p, .slice va m vc] 24 (0, 0)) := by simp [World.setCell, Array.getElem?_modify, k0]
    have hV1 : (((((w2.setCell ⟨w.heap.size, 0, none⟩ (.string b.p)).setCell ⟨w.heap.size, 1, none⟩ (.slice va m vc)).setCell ⟨w.heap.size + 1, 0, none⟩ (.int .i64 0)).setCell ⟨w.heap.size + 1, 1, none⟩ (.int .i64 0)).setCell ⟨w.heap.size + 1, 2, none⟩ (.int .i64 0)).heap[w.heap.size + 1]? = some (.cells #[.int .i64 0, .int .i64 0, .int .i64 0] 27 (0, 0)) := by simp [World.setCell, Array.getElem?_modify, k1]
    generalize ((((w2.setCell ⟨w.heap.size, 0, none⟩ (.string b.p)).setCell ⟨w.heap.size, 1, none⟩ (.slice va m vc)).setCell ⟨w.heap.size + 1, 0, none⟩ (.int .i64 0)).setCell ⟨w.heap.size + 1, 1, none⟩ (.int .i64 0)).setCell ⟨w.heap.size + 1, 2, none⟩ (.int .i64 0) = V at hO hV0 hV1 ⊢
    clear c0 c1 z0 z1 d0 d1 d2 y0 y1 y2 k0 k1
    refine leaves_cons (f := 29) (args := #[.pointer (some ⟨w.heap.size + 1, 0, none⟩)]) (by simp) (by simp [go_sem]) ?_
    refine (idleFact ⟨w.heap.size + 1, 0, none⟩ V).mono ?_
    rintro e u' w3 ⟨rfl, rfl, hw⟩
    have hw := hw.symm
    subst hw
    have c0 : V.cell? ⟨w.heap.size, 0, none⟩ = some (.string b.p) := by simp [World.cell?, hV0]
    have c1 : V.cell? ⟨w.heap.size, 1, none⟩ = some (.slice va m vc) := by simp [World.cell?, hV0]
    obtain ⟨⟨d0, d1, d2⟩, -⟩ := fault_cells hV1
    have HF := hide (PG.out b r (.slice va m vc) V rfl (by rw [HM.out]; exact HG.out.move fun k hk hF => ⟨by simp at hF; omega, hO.block k hk (by simp at hF; omega)⟩) ((HK2.out.trans (hO.mono fun k _ (e : k = w.heap.size ∨ k = w.heap.size + 1) => by omega)).below (Nat.le_refl _) (fun k hk e => by omega)))
    clear hO hV0 hV1
    simp [Leaves, settle, results, Tryd.results20, go_sem, c0, c1, d0, d1, d2]
    exact HF.out
end Go.Proofs.YtnfnihhbgpakkaaDoor

namespace Go.Proofs.YtnfnihhbgpakkaaDoor
set_option linter.unusedSimpArgs false
set_option linter.unusedVariables false
open Go.RowKit

theorem factCell {V : World} {b : Nat} {u0 u1 : Value} (h : V.heap[b]? = some (.cells #[u0, u1] 24 (0, 0))) : V.cell? ⟨b, 0, none⟩ = some u0 ∧ V.cell? ⟨b, 1, none⟩ = some u1 ∧ V.frozen? ⟨b, 0, none⟩ = false ∧ V.frozen? ⟨b, 1, none⟩ = false := by
  refine ⟨?_, ?_, ?_, ?_⟩ <;> simp [World.cell?, World.frozen?, h]
theorem readFact_bad {w w' : World} {s : ByteArray} {e : Ending} {ec eo : Int} (h : ReadFact w s e w') (hr : factP (scanX s).2.1 ((scanX s).2.2 : Int) (scanX s).1 = .bad ec eo) : e = .returned (.tuple #[.agg #[.string ⟨#[]⟩, .slice none 0 0], faultV ec eo]) ∧ Below w.heap.size w w' := by
  unfold ReadFact at h
  rw [hr] at h
  exact h
theorem readFact_ok {w w' : World} {s : ByteArray} {e : Ending} {b : PAtom} {r : List Tok} (h : ReadFact w s e w') (hr : factP (scanX s).2.1 ((scanX s).2.2 : Int) (scanX s).1 = .ok b r) : ∃ v, e = .returned (.tuple #[.agg #[.string b.p, v], faultV 0 0]) ∧ Lst elCon w' (fun k => w.heap.size ≤ k) v (b.ts.map Trm.con) ∧ Below w.heap.size w w' := by
  unfold ReadFact at h
  rw [hr] at h
  exact h
theorem readFact_mkb {w w' : World} {s : ByteArray} {ec eo : Int} (hr : factP (scanX s).2.1 ((scanX s).2.2 : Int) (scanX s).1 = .bad ec eo) (hb : Below w.heap.size w w') : ReadFact w s (.returned (.tuple #[.agg #[.string ⟨#[]⟩, .slice none 0 0], faultV ec eo])) w' := by
  unfold ReadFact
  rw [hr]
  exact ⟨rfl, hb⟩
theorem readFact_mko {w w' : World} {s : ByteArray} {b : PAtom} {r : List Tok} (hr : factP (scanX s).2.1 ((scanX s).2.2 : Int) (scanX s).1 = .ok b r) {v : Value} (h3 : Lst elCon w' (fun k => w.heap.size ≤ k) v (b.ts.map Trm.con)) (hb : Below w.heap.size w w') : ReadFact w s (.returned (.tuple #[.agg #[.string b.p, v], faultV 0 0])) w' := by
  unfold ReadFact
  rw [hr]
  exact ⟨v, rfl, h3, hb⟩

set_option maxRecDepth 100000 in
set_option maxHeartbeats 2000000 in
theorem parseFact_any (s : ByteArray) (w : World) (hl : LexLaid w) (hs : s.size ≤ 140737488351232) :
    Calls Tryd.prog 7 #[.string s] w (ReadFact w s) := by
  have HC := hide (fun (W : World) (hb : Below w.heap.size w W) => readFact_any s W (hl.kept hb) hs)
  clear hl hs
  obtain ⟨Post, hPost⟩ : ∃ Post : Ending → World → Prop, Post = ReadFact w s := ⟨_, rfl⟩
  rw [← hPost]
  have HK : Hid (∀ w2, Below ((w.alloc (.cells #[.string ⟨#[]⟩, .slice none 0 0] 24)).alloc (.cells #[.int .i64 0, .int .i64 0, .int .i64 0] 27)).heap.size ((w.alloc (.cells #[.string ⟨#[]⟩, .slice none 0 0] 24)).alloc (.cells #[.int .i64 0, .int .i64 0, .int .i64 0] 27)) w2 → w2.heap[w.heap.size]? = some (.cells #[.string ⟨#[]⟩, .slice none 0 0] 24 (0, 0)) ∧ w2.heap[w.heap.size + 1]? = some (.cells #[.int .i64 0, .int .i64 0, .int .i64 0] 27 (0, 0)) ∧ Below w.heap.size w w2) := fun w2 hb => by
    refine ⟨?_, ?_, belowt2 (below2a w _ _) hb⟩
    · rw [hb.block _ (by simp; omega), (belowA (w.alloc _) _).block _ (by simp)]; exact heap_alloc_new w _
    · rw [hb.block _ (by simp)]
      have := heap_alloc_new (w.alloc (.cells #[.string ⟨#[]⟩, .slice none 0 0] 24)) (.cells #[.int .i64 0, .int .i64 0, .int .i64 0] 27)
      simpa using this
  cases hr : factP (scanX s).2.1 ((scanX s).2.2 : Int) (scanX s).1 with
  | bad ec eo =>
    have PB : Hid (∀ w', Below w.heap.size w w' → Post (.returned (.tuple #[.agg #[.string ⟨#[]⟩, .slice none 0 0], .agg #[.int .i64 ec, .int .i64 0, .int .i64 eo]])) w') := fun w' hb => by rw [hPost]; exact readFact_mkb hr hb
    have HRr := hide hr
    clear hr hPost
    go_enter Tryd.func7, Tryd.ntmps7
    go_wp2_with (go_at_call 20; refine (HC.out _ (below2a _ _ _)).mono ?_; intro e w2 hq; obtain ⟨rfl, hb2⟩ := readFact_bad hq HRr.out; clear hq; obtain ⟨k0, k1, k2⟩ := HK.out w2 hb2; have HK2 := hide k2; clear hb2 k2; obtain ⟨c0, c1, z0, z1⟩ := factCell k0; obtain ⟨⟨d0, d1, d2⟩, ⟨y0, y1, y2⟩⟩ := fault_cells k1; unfold faultV)
    have hV0 : (((((w2.setCell ⟨w.heap.size, 0, none⟩ (.string ⟨#[]⟩)).setCell ⟨w.heap.size, 1, none⟩ (.slice none 0 0)).setCell ⟨w.heap.size + 1, 0, none⟩ (.int .i64 ec)).setCell ⟨w.heap.size + 1, 1, none⟩ (.int .i64 0)).setCell ⟨w.heap.size + 1, 2, none⟩ (.int .i64 eo)).heap[w.heap.size]? = some (.cells #[.string ⟨#[]⟩, .slice none 0 0] 24 (0, 0)) := by simp [World.setCell, Array.getElem?_modify, k0]
    have hV1 : (((((w2.setCell ⟨w.heap.size, 0, none⟩ (.string ⟨#[]⟩)).setCell ⟨w.heap.size, 1, none⟩ (.slice none 0 0)).setCell ⟨w.heap.size + 1, 0, none⟩ (.int .i64 ec)).setCell ⟨w.heap.size + 1, 1, none⟩ (.int .i64 0)).setCell ⟨w.heap.size + 1, 2, none⟩ (.int .i64 eo)).heap[w.heap.size + 1]? = some (.cells #[.int .i64 ec, .int .i64 0, .int .i64 eo] 27 (0, 0)) := by simp [World.setCell, Array.getElem?_modify, k1]
    have hO : Below w.heap.size w (((((w2.setCell ⟨w.heap.size, 0, none⟩ (.string ⟨#[]⟩)).setCell ⟨w.heap.size, 1, none⟩ (.slice none 0 0)).setCell ⟨w.heap.size + 1, 0, none⟩ (.int .i64 ec)).setCell ⟨w.heap.size + 1, 1, none⟩ (.int .i64 0)).setCell ⟨w.heap.size + 1, 2, none⟩ (.int .i64 eo)) := ((((((Only.of_below HK2.out (fun k => w.heap.size ≤ k)).setCell (p := ⟨w.heap.size, 0, none⟩) (Nat.le_refl _) _).setCell (p := ⟨w.heap.size, 1, none⟩) (Nat.le_refl _) _).setCell (p := ⟨w.heap.size + 1, 0, none⟩) (Nat.le_succ _) _).setCell (p := ⟨w.heap.size + 1, 1, none⟩) (Nat.le_succ _) _).setCell (p := ⟨w.heap.size + 1, 2, none⟩) (Nat.le_succ _) _).below (Nat.le_refl _) (fun k hk e => by omega)
    generalize ((((w2.setCell ⟨w.heap.size, 0, none⟩ (.string ⟨#[]⟩)).setCell ⟨w.heap.size, 1, none⟩ (.slice none 0 0)).setCell ⟨w.heap.size + 1, 0, none⟩ (.int .i64 ec)).setCell ⟨w.heap.size + 1, 1, none⟩ (.int .i64 0)).setCell ⟨w.heap.size + 1, 2, none⟩ (.int .i64 eo) = V at hV0 hV1 hO ⊢
    obtain ⟨f0, f4, -⟩ := factCell hV0
    obtain ⟨⟨f1, f2, f3⟩, -⟩ := fault_cells hV1
    exact bodyPost_ret (v := .tuple #[.agg #[.string ⟨#[]⟩, .slice none 0 0], .agg #[.int .i64 ec, .int .i64 0, .int .i64 eo]]) (by simp [results, Tryd.results7, go_sem, f0, f4, f1, f2, f3]) rfl (PB.out _ hO)
  | ok b r =>
    have PG : Hid (∀ w' v, Lst elCon w' (fun k => w.heap.size ≤ k) v (b.ts.map Trm.con) → Below w.heap.size w w' → Post (.returned (.tuple #[.agg #[.string b.p, v], .agg #[.int .i64 0, .int .i64 0, .int .i64 0]])) w') := fun w' v h3 h4 => by rw [hPost]; exact readFact_mko hr h3 h4
    obtain ⟨m, hm⟩ : ∃ m, m = (b.ts.map Trm.con).length := ⟨_, rfl⟩
    have HM := hide hm
    clear hm
    have HRr := hide hr
    clear hr hPost
    go_enter Tryd.func7, Tryd.ntmps7
    go_wp2_with (go_at_call 20; refine (HC.out _ (below2a _ _ _)).mono ?_; intro e w2 hq; obtain ⟨v, rfl, hls, hb2⟩ := readFact_ok hq HRr.out; clear hq; obtain ⟨va, vc, rfl, -⟩ := hls.shape; rw [← HM.out] at hls ⊢; obtain ⟨k0, k1, k2⟩ := HK.out w2 hb2; have HK2 := hide k2; have HLs := hide hls; clear hb2 k2 hls; obtain ⟨c0, c1, z0, z1⟩ := factCell k0; obtain ⟨⟨d0, d1, d2⟩, ⟨y0, y1, y2⟩⟩ := fault_cells k1; unfold faultV)
    have hV0 : (((((w2.setCell ⟨w.heap.size, 0, none⟩ (.string b.p)).setCell ⟨w.heap.size, 1, none⟩ (.slice va m vc)).setCell ⟨w.heap.size + 1, 0, none⟩ (.int .i64 0)).setCell ⟨w.heap.size + 1, 1, none⟩ (.int .i64 0)).setCell ⟨w.heap.size + 1, 2, none⟩ (.int .i64 0)).heap[w.heap.size]? = some (.cells #[.string b.p, .slice va m vc] 24 (0, 0)) := by simp [World.setCell, Array.getElem?_modify, k0]
    have hV1 : (((((w2.setCell ⟨w.heap.size, 0, none⟩ (.string b.p)).setCell ⟨w.heap.size, 1, none⟩ (.slice va m vc)).setCell ⟨w.heap.size + 1, 0, none⟩ (.int .i64 0)).setCell ⟨w.heap.size + 1, 1, none⟩ (.int .i64 0)).setCell ⟨w.heap.size + 1, 2, none⟩ (.int .i64 0)).heap[w.heap.size + 1]? = some (.cells #[.int .i64 0, .int .i64 0, .int .i64 0] 27 (0, 0)) := by simp [World.setCell, Array.getElem?_modify, k1]
    have hB : Below w.heap.size w (((((w2.setCell ⟨w.heap.size, 0, none⟩ (.string b.p)).setCell ⟨w.heap.size, 1, none⟩ (.slice va m vc)).setCell ⟨w.heap.size + 1, 0, none⟩ (.int .i64 0)).setCell ⟨w.heap.size + 1, 1, none⟩ (.int .i64 0)).setCell ⟨w.heap.size + 1, 2, none⟩ (.int .i64 0)) := ((((((Only.of_below HK2.out (fun k => w.heap.size ≤ k)).setCell (p := ⟨w.heap.size, 0, none⟩) (Nat.le_refl _) _).setCell (p := ⟨w.heap.size, 1, none⟩) (Nat.le_refl _) _).setCell (p := ⟨w.heap.size + 1, 0, none⟩) (Nat.le_succ _) _).setCell (p := ⟨w.heap.size + 1, 1, none⟩) (Nat.le_succ _) _).setCell (p := ⟨w.heap.size + 1, 2, none⟩) (Nat.le_succ _) _).below (Nat.le_refl _) (fun k hk e => by omega)
    have hO : Only (fun k => k = w.heap.size ∨ k = w.heap.size + 1) w2 (((((w2.setCell ⟨w.heap.size, 0, none⟩ (.string b.p)).setCell ⟨w.heap.size, 1, none⟩ (.slice va m vc)).setCell ⟨w.heap.size + 1, 0, none⟩ (.int .i64 0)).setCell ⟨w.heap.size + 1, 1, none⟩ (.int .i64 0)).setCell ⟨w.heap.size + 1, 2, none⟩ (.int .i64 0)) := (((((Only.refl (fun k => k = w.heap.size ∨ k = w.heap.size + 1) w2).setCell (p := ⟨w.heap.size, 0, none⟩) (.inl rfl) _).setCell (p := ⟨w.heap.size, 1, none⟩) (.inl rfl) _).setCell (p := ⟨w.heap.size + 1, 0, none⟩) (.inr rfl) _).setCell (p := ⟨w.heap.size + 1, 1, none⟩) (.inr rfl) _).setCell (p := ⟨w.heap.size + 1, 2, none⟩) (.inr rfl) _
    generalize ((((w2.setCell ⟨w.heap.size, 0, none⟩ (.string b.p)).setCell ⟨w.heap.size, 1, none⟩ (.slice va m vc)).setCell ⟨w.heap.size + 1, 0, none⟩ (.int .i64 0)).setCell ⟨w.heap.size + 1, 1, none⟩ (.int .i64 0)).setCell ⟨w.heap.size + 1, 2, none⟩ (.int .i64 0) = V at hV0 hV1 hO hB ⊢
    obtain ⟨f0, f4, -⟩ := factCell hV0
    obtain ⟨⟨f1, f2, f3⟩, -⟩ := fault_cells hV1
    exact bodyPost_ret (v := .tuple #[.agg #[.string b.p, .slice va m vc], .agg #[.int .i64 0, .int .i64 0, .int .i64 0]]) (by simp [results, Tryd.results7, go_sem, f0, f4, f1, f2, f3]) rfl (PG.out _ _ (HLs.out.move fun k hk hF => ⟨by simp at hF; omega, hO.block k hk (by simp at hF; omega)⟩) hB)

end Go.Proofs.YtnfnihhbgpakkaaDoor

namespace Go.Proofs.YtnfnihhbgpakkaaDoor
set_option linter.unusedSimpArgs false
set_option linter.unusedVariables false
open Go.RowKit

def Cd {α : Type} (c : Int) : PR α → Prop
  | .bad ec _ => ec = c ∨ 20 ≤ ec
  | .ok _ _ => True
theorem misK_20 (k : Int) : 20 ≤ misK k := by unfold misK; split <;> decide
theorem take_cd {c f : Int} {ks : List Int} {R : List Tok} : Cd c (takeP c f ks R) := by
  match R with
  | [] => exact .inl rfl
  | t :: r =>
    simp only [takeP]
    by_cases hm : t.k ∈ ks
    · rw [if_pos hm]; trivial
    · rw [if_neg hm]; exact .inr (misK_20 _)
theorem cd_bad {α : Type} {c ec eo : Int} {x : PR α} (h : Cd c x) (e : x = .bad ec eo) : ec = c ∨ 20 ≤ ec := by subst e; exact h
theorem args_cd {c f : Int} {ks : List Int} : ∀ (n : Nat) (acc : List Trm) (R : List Tok), R.length = n → Cd c (argsP c f ks acc R) := by
  intro n
  induction n using Nat.strongRecOn with
  | ind n ih =>
    intro acc R hn
    cases hT : takeP c f ks R with
    | bad ec eo => rw [args_bad1 hT]; exact cd_bad take_cd hT
    | ok t r1 =>
      have l1 := take_len hT
      by_cases h8 : acc.length = 8
      · rw [args_lim hT h8]; exact .inr (by decide)
      · rw [args_next hT h8]
        cases hU : takeP c f [7, 6] r1 with
        | bad ec eo => exact cd_bad take_cd hU
        | ok s r2 =>
          have l2 := take_len hU
          simp only
          by_cases h7 : s.k = 7
          · rw [if_pos h7]; exact ih r2.length (by omega) _ r2 rfl
          · rw [if_neg h7]; trivial
theorem atom_cd {c f : Int} {ks : List Int} {name : Tok} {R : List Tok} : Cd c (atomP c f ks name R) := by
  match R with
  | [] => exact .inl rfl
  | t :: r1 =>
    unfold atomP
    simp only
    by_cases h5 : t.k = 5
    · rw [if_pos h5]
      cases hA : argsP c f ks [] r1 with
      | bad ec eo => exact cd_bad (args_cd _ _ _ rfl) hA
      | ok ts r2 => trivial
    · rw [if_neg h5]; trivial
theorem lit_cd {c f : Int} {first : Tok} {R : List Tok} : Cd c (litP c f first R) := by
  have test : Cd c (match takeP c f [11] R with
      | .bad c o => PR.bad c o
      | .ok o1 r' => match takeP c f termKs r' with
        | .bad c o => .bad c o
        | .ok t2 r'' => .ok (⟨3, zeroAtom, o1.op, termP first, termP t2, first.off⟩ : PLit) r'') := by
    cases hT : takeP c f [11] R with
    | bad ec eo => exact cd_bad take_cd hT
    | ok o1 r1 =>
      simp only
      cases hU : takeP c f termKs r1 with
      | bad ec eo => exact cd_bad take_cd hU
      | ok t2 r2 => trivial
  unfold litP
  by_cases h10 : first.k = 10
  · rw [if_pos h10]
    cases hT : takeP c f [1] R with
    | bad ec eo => exact cd_bad take_cd hT
    | ok n r1 =>
      simp only
      cases hA : atomP c f termKs n r1 with
      | bad ec eo => exact cd_bad atom_cd hA
      | ok a r2 => trivial
  · rw [if_neg h10]
    simp only
    by_cases h1 : first.k = 1
    · rw [if_pos h1]
      cases R with
      | nil => exact .inl rfl
      | cons t r1 =>
        simp only
        by_cases h11 : t.k = 11
        · rw [if_pos h11]; exact test
        · rw [if_neg h11]
          cases hA : atomP c f termKs first (t :: r1) with
          | bad ec eo => exact cd_bad atom_cd hA
          | ok a r2 => trivial
    · rw [if_neg h1]; exact test
theorem body_cd {c f : Int} : ∀ (n : Nat) (acc : List PLit) (R : List Tok), Cd c (bodyF c f n acc R) := by
  intro n
  induction n with
  | zero => intro acc R; exact .inl rfl
  | succ n ih =>
    intro acc R
    cases hT : takeP c f [1, 10, 2, 3, 4] R with
    | bad ec eo => rw [body_bad1 hT]; exact cd_bad take_cd hT
    | ok t r1 =>
      by_cases h16 : acc.length = 16
      · rw [body_lim hT h16]; exact .inr (by decide)
      · cases hL : litP c f t r1 with
        | bad ec eo => rw [body_lit hT h16 hL]; exact cd_bad lit_cd hL
        | ok x r2 =>
          cases hU : takeP c f [7, 8] r2 with
          | bad ec eo => rw [body_sep hT h16 hL hU]; exact cd_bad take_cd hU
          | ok s r3 =>
            by_cases h8 : s.k = 8
            · rw [body_end hT h16 hL hU h8]; trivial
            · rw [body_more hT h16 hL hU h8]; exact ih _ _
theorem clause_cd {c f : Int} {name : Tok} {R : List Tok} : Cd c (clauseP c f name R) := by
  unfold clauseP
  cases hA : atomP c f termKs name R with
  | bad ec eo => exact cd_bad atom_cd hA
  | ok a r1 =>
    simp only
    cases hT : takeP c f [8, 9] r1 with
    | bad ec eo => exact cd_bad take_cd hT
    | ok s r2 =>
      simp only
      by_cases h9 : s.k = 9
      · rw [if_pos h9]
        cases hB : bodyP c f r2 with
        | bad ec eo => exact cd_bad (body_cd _ _ _) hB
        | ok b r3 => trivial
      · rw [if_neg h9]; trivial
theorem prog_cd {c f : Int} : ∀ (n : Nat) (acc : List PCls) (R : List Tok), Cd c (progF c f n acc R) := by
  intro n
  induction n with
  | zero => intro acc R; exact .inl rfl
  | succ n ih =>
    intro acc R
    cases hT : takeP c f [1, 0] R with
    | bad e1 e2 => rw [prog_bad1 hT]; exact cd_bad take_cd hT
    | ok t r1 =>
      by_cases h0 : t.k = 0
      · rw [prog_end hT h0]; trivial
      · by_cases h5 : acc.length = 512
        · rw [prog_lim hT h0 h5]; exact .inr (by decide)
        · cases hC : clauseP c f t r1 with
          | bad e1 e2 => rw [prog_cls hT h0 h5 hC]; exact cd_bad clause_cd hC
          | ok x r2 => rw [prog_more hT h0 h5 hC]; exact ih _ _
theorem facts_cd {c f : Int} : ∀ (n : Nat) (acc : List PAtom) (R : List Tok), Cd c (factsF c f n acc R) := by
  intro n
  induction n with
  | zero => intro acc R; exact .inl rfl
  | succ n ih =>
    intro acc R
    cases hT : takeP c f [1, 0] R with
    | bad e1 e2 => rw [facts_bad1 hT]; exact cd_bad take_cd hT
    | ok t r1 =>
      by_cases h0 : t.k = 0
      · rw [facts_end hT h0]; trivial
      · by_cases h5 : acc.length = 4096
        · rw [facts_lim hT h0 h5]; exact .inr (by decide)
        · cases hC : atomP c f valueKs t r1 with
          | bad e1 e2 => rw [facts_atom hT h0 h5 hC]; exact cd_bad atom_cd hC
          | ok x r2 =>
            cases hD : takeP c f [8] r2 with
            | bad e1 e2 => rw [facts_dot hT h0 h5 hC hD]; exact cd_bad take_cd hD
            | ok s r3 => rw [facts_more hT h0 h5 hC hD]; exact ih _ _
theorem query_cd {c f : Int} {R : List Tok} : Cd c (queryP c f R) := by
  unfold queryP
  cases hB : bodyP c f R with
  | bad ec eo => exact cd_bad (body_cd _ _ _) hB
  | ok b r =>
    simp only
    cases hT : takeP c f [0] r with
    | bad ec eo => exact cd_bad take_cd hT
    | ok s r2 => trivial
theorem fact_cd {c f : Int} {R : List Tok} : Cd c (factP c f R) := by
  unfold factP
  cases hT : takeP c f [1] R with
  | bad ec eo => exact cd_bad take_cd hT
  | ok t r =>
    simp only
    cases hA : atomP c f valueKs t r with
    | bad ec eo => exact cd_bad atom_cd hA
    | ok a r2 =>
      simp only
      cases hD : takeP c f [0] r2 with
      | bad ec eo => exact cd_bad take_cd hD
      | ok s r3 => trivial
def fltP {α : Type} : PR α → Int × Int
  | .bad c o => (c, o)
  | .ok _ _ => (0, 0)
theorem flt_ne1 {α : Type} {c : Int} {x : PR α} (h : Cd c x) (hc : c ≠ 1) : (fltP x).1 ≠ 1 := by
  cases x with
  | bad ec eo => show ec ≠ 1; rcases h with h | h <;> omega
  | ok a r => show (0 : Int) ≠ 1; decide
theorem toks_c {s : ByteArray} {o : Nat} {L : List Tok} {c : Int} {f : Nat} (h : Toks s o L c f) : c ≠ 1 := by
  induction h with
  | bad ho hx => rcases next_bad hx with h | h <;> omega
  | last ho hx hk => decide
  | more ho hx hk T ih => exact ih
/-- The fault that each of the four readers tells. -/
def fOf (r : Nat) (s : ByteArray) : Int × Int :=
  if r = 0 then fltP (progP (scanX s).2.1 ((scanX s).2.2 : Int) (scanX s).1)
  else if r = 1 then fltP (factsP (scanX s).2.1 ((scanX s).2.2 : Int) (scanX s).1)
  else if r = 2 then fltP (queryP (scanX s).2.1 ((scanX s).2.2 : Int) (scanX s).1)
  else fltP (factP (scanX s).2.1 ((scanX s).2.2 : Int) (scanX s).1)
theorem fOf_short (r : Nat) {s : ByteArray} (h : s.size ≤ 65536) : (fOf r s).1 ≠ 1 := by
  have hc := toks_c (scan_toks s h)
  unfold fOf
  split
  · exact flt_ne1 (prog_cd _ _ _) hc
  · split
    · exact flt_ne1 (facts_cd _ _ _) hc
    · split
      · exact flt_ne1 query_cd hc
      · exact flt_ne1 fact_cd hc
theorem fOf_long (r : Nat) {s : ByteArray} (h : 65536 < s.size) : fOf r s = (1, 0) := by
  have e : scanX s = ([], 1, 0) := if_pos (by omega)
  unfold fOf
  rw [e]
  split
  · rfl
  · split
    · rfl
    · split <;> rfl
end Go.Proofs.YtnfnihhbgpakkaaDoor

namespace Go.Proofs.YtnfnihhbgpakkaaDoor
set_option linter.unusedSimpArgs false
set_option linter.unusedVariables false
open Go.RowKit

theorem fltProg {w w' : World} {s : ByteArray} {e : Ending} (h : ReadProg w s e w') : ∃ v, e = .returned (.tuple #[v, faultV (fltP (progP (scanX s).2.1 ((scanX s).2.2 : Int) (scanX s).1)).1 (fltP (progP (scanX s).2.1 ((scanX s).2.2 : Int) (scanX s).1)).2]) ∧ Below w.heap.size w w' := by
  cases hr : progP (scanX s).2.1 ((scanX s).2.2 : Int) (scanX s).1 with
  | bad ec eo => obtain ⟨rfl, hb⟩ := readProg_bad h hr; exact ⟨_, rfl, hb⟩
  | ok b r => obtain ⟨v, cs, rfl, -, -, -, hb⟩ := readProg_ok h hr; exact ⟨_, rfl, hb⟩
theorem fltFacts {w w' : World} {s : ByteArray} {e : Ending} (h : ReadFacts w s e w') : ∃ v, e = .returned (.tuple #[v, faultV (fltP (factsP (scanX s).2.1 ((scanX s).2.2 : Int) (scanX s).1)).1 (fltP (factsP (scanX s).2.1 ((scanX s).2.2 : Int) (scanX s).1)).2]) ∧ Below w.heap.size w w' := by
  cases hr : factsP (scanX s).2.1 ((scanX s).2.2 : Int) (scanX s).1 with
  | bad ec eo => obtain ⟨rfl, hb⟩ := readFacts_bad h hr; exact ⟨_, rfl, hb⟩
  | ok b r => obtain ⟨v, cs, rfl, -, -, -, hb⟩ := readFacts_ok h hr; exact ⟨_, rfl, hb⟩
theorem fltQuery {w w' : World} {s : ByteArray} {e : Ending} (h : ReadQuery w s e w') : ∃ v, e = .returned (.tuple #[v, faultV (fltP (queryP (scanX s).2.1 ((scanX s).2.2 : Int) (scanX s).1)).1 (fltP (queryP (scanX s).2.1 ((scanX s).2.2 : Int) (scanX s).1)).2]) ∧ Below w.heap.size w w' := by
  cases hr : queryP (scanX s).2.1 ((scanX s).2.2 : Int) (scanX s).1 with
  | bad ec eo => obtain ⟨rfl, hb⟩ := readQuery_bad h hr; exact ⟨_, rfl, hb⟩
  | ok b r => obtain ⟨v, cs, rfl, -, -, -, hb⟩ := readQuery_ok h hr; exact ⟨_, rfl, hb⟩
theorem fltFact {w w' : World} {s : ByteArray} {e : Ending} (h : ReadFact w s e w') : ∃ v, e = .returned (.tuple #[v, faultV (fltP (factP (scanX s).2.1 ((scanX s).2.2 : Int) (scanX s).1)).1 (fltP (factP (scanX s).2.1 ((scanX s).2.2 : Int) (scanX s).1)).2]) ∧ Below w.heap.size w w' := by
  cases hr : factP (scanX s).2.1 ((scanX s).2.2 : Int) (scanX s).1 with
  | bad ec eo => obtain ⟨rfl, hb⟩ := readFact_bad h hr; exact ⟨_, rfl, hb⟩
  | ok b r => obtain ⟨v, rfl, -, hb⟩ := readFact_ok h hr; exact ⟨_, rfl, hb⟩
theorem two_faults {w w2 : World} (hb : Below ((w.alloc (.cells #[.int .i64 0, .int .i64 0, .int .i64 0] 27)).alloc (.cells #[.int .i64 0, .int .i64 0, .int .i64 0] 27)).heap.size ((w.alloc (.cells #[.int .i64 0, .int .i64 0, .int .i64 0] 27)).alloc (.cells #[.int .i64 0, .int .i64 0, .int .i64 0] 27)) w2) : w2.heap[w.heap.size]? = some (.cells #[.int .i64 0, .int .i64 0, .int .i64 0] 27 (0, 0)) ∧ w2.heap[w.heap.size + 1]? = some (.cells #[.int .i64 0, .int .i64 0, .int .i64 0] 27 (0, 0)) ∧ Below w.heap.size w w2 := by
  refine ⟨?_, ?_, belowt2 (below2a w _ _) hb⟩
  · rw [hb.block _ (by simp; omega), (belowA (w.alloc _) _).block _ (by simp)]; exact heap_alloc_new w _
  · rw [hb.block _ (by simp)]
    have := heap_alloc_new (w.alloc (.cells #[.int .i64 0, .int .i64 0, .int .i64 0] 27)) (.cells #[.int .i64 0, .int .i64 0, .int .i64 0] 27)
    simpa using this
theorem fault_end {w w2 : World} (hb : Below w.heap.size w w2) (k0 : w2.heap[w.heap.size]? = some (.cells #[.int .i64 0, .int .i64 0, .int .i64 0] 27 (0, 0))) (c o : Int) :
    ((((((w2.setCell ⟨w.heap.size + 1, 0, none⟩ (.int .i64 c)).setCell ⟨w.heap.size + 1, 1, none⟩ (.int .i64 0)).setCell ⟨w.heap.size + 1, 2, none⟩ (.int .i64 o)).setCell ⟨w.heap.size, 0, none⟩ (.int .i64 c)).setCell ⟨w.heap.size, 1, none⟩ (.int .i64 0)).setCell ⟨w.heap.size, 2, none⟩ (.int .i64 o)).heap[w.heap.size]? = some (.cells #[.int .i64 c, .int .i64 0, .int .i64 o] 27 (0, 0)) ∧ Below w.heap.size w ((((((w2.setCell ⟨w.heap.size + 1, 0, none⟩ (.int .i64 c)).setCell ⟨w.heap.size + 1, 1, none⟩ (.int .i64 0)).setCell ⟨w.heap.size + 1, 2, none⟩ (.int .i64 o)).setCell ⟨w.heap.size, 0, none⟩ (.int .i64 c)).setCell ⟨w.heap.size, 1, none⟩ (.int .i64 0)).setCell ⟨w.heap.size, 2, none⟩ (.int .i64 o)) := by
  refine ⟨by simp [World.setCell, Array.getElem?_modify, k0], ?_⟩
  exact (((((((Only.of_below hb (fun k => w.heap.size ≤ k)).setCell (p := ⟨w.heap.size + 1, 0, none⟩) (Nat.le_succ _) _).setCell (p := ⟨w.heap.size + 1, 1, none⟩) (Nat.le_succ _) _).setCell (p := ⟨w.heap.size + 1, 2, none⟩) (Nat.le_succ _) _).setCell (p := ⟨w.heap.size, 0, none⟩) (Nat.le_refl _) _).setCell (p := ⟨w.heap.size, 1, none⟩) (Nat.le_refl _) _).setCell (p := ⟨w.heap.size, 2, none⟩) (Nat.le_refl _) _).below (Nat.le_refl _) (fun k hk e => by omega)
theorem faultRes (W : World) (b : Nat) (u0 u1 u2 : Value) (tmps : Array Value) (ht : tmps[4]? = some (.pointer (some ⟨b, 0, none⟩))) (hb : W.heap[b]? = some (.cells #[u0, u1, u2] 27 (0, 0))) :
    (results Tryd.f19 tmps).run Tryd.prog W = .ok (.agg #[u0, u1, u2]) W := by
  obtain ⟨⟨c0, c1, c2⟩, -⟩ := fault_cells hb
  simp [results, Tryd.results19, go_sem, ht, c0, c1, c2]

set_option maxRecDepth 100000 in
set_option maxHeartbeats 1000000 in
theorem faultOf0 (s : ByteArray) (w : World) (hl : LexLaid w) (hs : s.size ≤ 140737488351232) :
    Calls Tryd.prog 19 #[.int .i64 0, .string s] w fun e w' => e = .returned (faultV (fOf 0 s).1 (fOf 0 s).2) ∧ Below w.heap.size w w' := by
  have HC := hide (fun (W : World) (hb : Below w.heap.size w W) => parseProgram_any s W (hl.kept hb) hs)
  clear hl hs
  obtain ⟨q, hq0⟩ : ∃ q, fOf 0 s = q := ⟨_, rfl⟩
  obtain ⟨c, o⟩ := q
  rw [hq0]
  have HQ : Hid (fltP (progP (scanX s).2.1 ((scanX s).2.2 : Int) (scanX s).1) = (c, o)) := hq0
  clear hq0
  unfold faultV
  go_enter Tryd.func19, Tryd.ntmps19
  go_wp2_with (go_at_call 11; refine (HC.out _ (below2a _ _ _)).mono ?_; intro e w2 hq; obtain ⟨v, rfl, hb2⟩ := fltProg hq; clear hq; obtain ⟨k0, k1, k2⟩ := two_faults hb2; have HK2 := hide k2; clear hb2 k2; obtain ⟨⟨d0, d1, d2⟩, ⟨y0, y1, y2⟩⟩ := fault_cells k0; obtain ⟨⟨d3, d4, d5⟩, ⟨y3, y4, y5⟩⟩ := fault_cells k1; unfold faultV; rw [HQ.out])
  obtain ⟨z0, z1⟩ := fault_end HK2.out k0 c o
  exact bodyPost_ret (faultRes _ w.heap.size _ _ _ _ rfl z0) rfl ⟨rfl, z1⟩

set_option maxRecDepth 100000 in
set_option maxHeartbeats 1000000 in
theorem faultOf1 (s : ByteArray) (w : World) (hl : LexLaid w) (hs : s.size ≤ 140737488351232) :
    Calls Tryd.prog 19 #[.int .i64 1, .string s] w fun e w' => e = .returned (faultV (fOf 1 s).1 (fOf 1 s).2) ∧ Below w.heap.size w w' := by
  have HC := hide (fun (W : World) (hb : Below w.heap.size w W) => parseFacts_any s W (hl.kept hb) hs)
  clear hl hs
  obtain ⟨q, hq0⟩ : ∃ q, fOf 1 s = q := ⟨_, rfl⟩
  obtain ⟨c, o⟩ := q
  rw [hq0]
  have HQ : Hid (fltP (factsP (scanX s).2.1 ((scanX s).2.2 : Int) (scanX s).1) = (c, o)) := hq0
  clear hq0
  unfold faultV
  go_enter Tryd.func19, Tryd.ntmps19
  go_wp2_with (go_at_call 8; refine (HC.out _ (below2a _ _ _)).mono ?_; intro e w2 hq; obtain ⟨v, rfl, hb2⟩ := fltFacts hq; clear hq; obtain ⟨k0, k1, k2⟩ := two_faults hb2; have HK2 := hide k2; clear hb2 k2; obtain ⟨⟨d0, d1, d2⟩, ⟨y0, y1, y2⟩⟩ := fault_cells k0; obtain ⟨⟨d3, d4, d5⟩, ⟨y3, y4, y5⟩⟩ := fault_cells k1; unfold faultV; rw [HQ.out])
  obtain ⟨z0, z1⟩ := fault_end HK2.out k0 c o
  exact bodyPost_ret (faultRes _ w.heap.size _ _ _ _ rfl z0) rfl ⟨rfl, z1⟩

set_option maxRecDepth 100000 in
set_option maxHeartbeats 1000000 in
theorem faultOf2 (s : ByteArray) (w : World) (hl : LexLaid w) (hs : s.size ≤ 140737488351232) :
    Calls Tryd.prog 19 #[.int .i64 2, .string s] w fun e w' => e = .returned (faultV (fOf 2 s).1 (fOf 2 s).2) ∧ Below w.heap.size w w' := by
  have HC := hide (fun (W : World) (hb : Below w.heap.size w W) => parseQuery_any s W (hl.kept hb) hs)
  clear hl hs
  obtain ⟨q, hq0⟩ : ∃ q, fOf 2 s = q := ⟨_, rfl⟩
  obtain ⟨c, o⟩ := q
  rw [hq0]
  have HQ : Hid (fltP (queryP (scanX s).2.1 ((scanX s).2.2 : Int) (scanX s).1) = (c, o)) := hq0
  clear hq0
  unfold faultV
  go_enter Tryd.func19, Tryd.ntmps19
  go_wp2_with (go_at_call 14; refine (HC.out _ (below2a _ _ _)).mono ?_; intro e w2 hq; obtain ⟨v, rfl, hb2⟩ := fltQuery hq; clear hq; obtain ⟨k0, k1, k2⟩ := two_faults hb2; have HK2 := hide k2; clear hb2 k2; obtain ⟨⟨d0, d1, d2⟩, ⟨y0, y1, y2⟩⟩ := fault_cells k0; obtain ⟨⟨d3, d4, d5⟩, ⟨y3, y4, y5⟩⟩ := fault_cells k1; unfold faultV; rw [HQ.out])
  obtain ⟨z0, z1⟩ := fault_end HK2.out k0 c o
  exact bodyPost_ret (faultRes _ w.heap.size _ _ _ _ rfl z0) rfl ⟨rfl, z1⟩

set_option maxRecDepth 100000 in
set_option maxHeartbeats 1000000 in
theorem faultOf3 (s : ByteArray) (w : World) (hl : LexLaid w) (hs : s.size ≤ 140737488351232) :
    Calls Tryd.prog 19 #[.int .i64 3, .string s] w fun e w' => e = .returned (faultV (fOf 3 s).1 (fOf 3 s).2) ∧ Below w.heap.size w w' := by
  have HC := hide (fun (W : World) (hb : Below w.heap.size w W) => parseFact_any s W (hl.kept hb) hs)
  clear hl hs
  obtain ⟨q, hq0⟩ : ∃ q, fOf 3 s = q := ⟨_, rfl⟩
  obtain ⟨c, o⟩ := q
  rw [hq0]
  have HQ : Hid (fltP (factP (scanX s).2.1 ((scanX s).2.2 : Int) (scanX s).1) = (c, o)) := hq0
  clear hq0
  unfold faultV
  go_enter Tryd.func19, Tryd.ntmps19
  go_wp2_with (go_at_call 7; refine (HC.out _ (below2a _ _ _)).mono ?_; intro e w2 hq; obtain ⟨v, rfl, hb2⟩ := fltFact hq; clear hq; obtain ⟨k0, k1, k2⟩ := two_faults hb2; have HK2 := hide k2; clear hb2 k2; obtain ⟨⟨d0, d1, d2⟩, ⟨y0, y1, y2⟩⟩ := fault_cells k0; obtain ⟨⟨d3, d4, d5⟩, ⟨y3, y4, y5⟩⟩ := fault_cells k1; unfold faultV; rw [HQ.out])
  obtain ⟨z0, z1⟩ := fault_end HK2.out k0 c o
  exact bodyPost_ret (faultRes _ w.heap.size _ _ _ _ rfl z0) rfl ⟨rfl, z1⟩

theorem faultOf_any (r : Nat) (hr : r < 4) (s : ByteArray) (w : World) (hl : LexLaid w) (hs : s.size ≤ 140737488351232) :
    Calls Tryd.prog 19 #[.int .i64 (r : Int), .string s] w fun e w' => e = .returned (faultV (fOf r s).1 (fOf r s).2) ∧ Below w.heap.size w w' := by
  match r, hr with
  | 0, _ => exact faultOf0 s w hl hs
  | 1, _ => exact faultOf1 s w hl hs
  | 2, _ => exact faultOf2 s w hl hs
  | 3, _ => exact faultOf3 s w hl hs
end Go.Proofs.YtnfnihhbgpakkaaDoor

namespace Go.Proofs.YtnfnihhbgpakkaaDoor
set_option linter.unusedSimpArgs false
set_option linter.unusedVariables false
open Go.RowKit

def takenS : ByteArray := ⟨#[112, 40, 97, 41, 58, 45, 88, 60, 49, 46]⟩
theorem takenP : progP (scanX takenS).2.1 ((scanX takenS).2.2 : Int) (scanX takenS).1 = .ok [⟨⟨⟨#[112]⟩, [⟨2, 0, ⟨#[97]⟩, 2⟩], 0⟩, [⟨3, zeroAtom, 3, ⟨4, 0, ⟨#[88]⟩, 6⟩, ⟨1, 1, ⟨#[]⟩, 8⟩, 6⟩]⟩] [] := by kernel_rfl

/-- The cells of a list's element. -/
theorem Lst.cells {α : Type} {E : El α} {w : World} {F : Nat → Prop} {ao : Option Addr} {n cap : Nat} {l : List α} (h : Lst E w F (.slice ao n cap) l) (hp : 0 < l.length) : ∃ b off, ao = some ⟨b, off, none⟩ ∧ b < w.heap.size ∧ F b ∧ ∀ i x, l[i]? = some x → ∀ j u, (E.cells x)[j]? = some u → w.cell? ⟨b, off + i * E.size + j, none⟩ = some u := h.row hp

theorem one_of_map {α β : Type} {g : α → β} {l : List α} {y : β} (h : l.map g = [y]) : ∃ c, l = [c] := by
  match l, h with
  | [c], _ => exact ⟨c, rfl⟩

set_option maxRecDepth 100000 in
set_option maxHeartbeats 2000000 in
theorem taken_any (w : World) (hl : LexLaid w) : Calls Tryd.prog 10 #[] w fun e w' => e = .returned (.bool true) ∧ Below w.heap.size w w' := by
  have HC := hide (parseProgram_any takenS w hl (by decide))
  have hfs := fault_self
  clear hl
  go_enter Tryd.func10, Tryd.ntmps10
  go_wp2_with (go_at_call 11; refine HC.out.mono ?_; intro e w1 hq; obtain ⟨v, cs, rfl, hpur, hlen, hls, hb1⟩ := readProg_ok hq takenP; clear hq; obtain ⟨⟨⟨cp, cv, coff, cts⟩, bv, ls⟩, rfl⟩ : ∃ c, cs = [c] := one_of_map hpur; have HB1 := hide hb1; have hx := hpur; simp only [List.map_cons, List.map_nil, Clx.pur, Atx.pur, List.cons.injEq, PCls.mk.injEq, PAtom.mk.injEq, and_true] at hx; obtain ⟨⟨rfl, rfl, rfl⟩, hlb⟩ := hx; obtain ⟨⟨lk, la, lop, ll, lr, loff⟩, rfl⟩ : ∃ c, ls = [c] := one_of_map hlb; simp only [List.map_cons, List.map_nil, Lix.pur, List.cons.injEq, PLit.mk.injEq, and_true] at hlb; obtain ⟨rfl, -, rfl, rfl, rfl, rfl⟩ := hlb; clear hpur hlen hb1; obtain ⟨va, vc, rfl, -⟩ := hls.shape; obtain ⟨b0, o0, rfl, -, -, r0⟩ := hls.row (by simp); have hok := hls.ok (List.mem_singleton.2 rfl); obtain ⟨ta, tc, rfl, -⟩ := (show Lst elTrm w1 (fun k => w.heap.size ≤ k) cv [(⟨2, 0, ⟨#[97]⟩, 2⟩ : Trm)] from hok.1.2.2).shape; obtain ⟨b1, o1, rfl, -, -, r1⟩ := (show Lst elTrm w1 (fun k => w.heap.size ≤ k) (.slice ta 1 tc) [(⟨2, 0, ⟨#[97]⟩, 2⟩ : Trm)] from hok.1.2.2).row (by simp); obtain ⟨la2, lc, rfl, -⟩ := (show Lst elLix w1 (fun k => w.heap.size ≤ k) bv [(⟨3, la, 3, ⟨4, 0, ⟨#[88]⟩, 6⟩, ⟨1, 1, ⟨#[]⟩, 8⟩, 6⟩ : Lix)] from hok.2).shape; obtain ⟨b2, o2, rfl, -, -, r2⟩ := (show Lst elLix w1 (fun k => w.heap.size ≤ k) (.slice la2 1 lc) [(⟨3, la, 3, ⟨4, 0, ⟨#[88]⟩, 6⟩, ⟨1, 1, ⟨#[]⟩, 8⟩, 6⟩ : Lix)] from hok.2).row (by simp); have HX := hide (And.intro (r0 0 _ rfl) (And.intro (r1 0 _ rfl) (r2 0 _ rfl))); clear r0 r1 r2 hok hls; have k0 := kept_cell (below2a w1 (.cells #[.slice (some ⟨b0, o0, none⟩) 1 vc] 41) (.cells #[.int .i64 0, .int .i64 0, .int .i64 0] 27)) (HX.out.1 0 _ rfl); have k1 := kept_cell (below2a w1 (.cells #[.slice (some ⟨b0, o0, none⟩) 1 vc] 41) (.cells #[.int .i64 0, .int .i64 0, .int .i64 0] 27)) (HX.out.1 1 _ rfl); have k3 := kept_cell (below2a w1 (.cells #[.slice (some ⟨b0, o0, none⟩) 1 vc] 41) (.cells #[.int .i64 0, .int .i64 0, .int .i64 0] 27)) (HX.out.1 3 _ rfl); have k5 := kept_cell (below2a w1 (.cells #[.slice (some ⟨b0, o0, none⟩) 1 vc] 41) (.cells #[.int .i64 0, .int .i64 0, .int .i64 0] 27)) (HX.out.2.1 2 _ rfl); have k6 := kept_cell (below2a w1 (.cells #[.slice (some ⟨b0, o0, none⟩) 1 vc] 41) (.cells #[.int .i64 0, .int .i64 0, .int .i64 0] 27)) (HX.out.2.2 10 _ rfl); simp only [Nat.zero_mul, Nat.add_zero] at k0 k1 k3 k5 k6; unfold faultV)
  go_ret
  exact ⟨rfl, belowt2 HB1.out (below2a _ _ _)⟩
end Go.Proofs.YtnfnihhbgpakkaaDoor

namespace Go.Proofs.YtnfnihhbgpakkaaDoor
set_option linter.unusedSimpArgs false
set_option linter.unusedVariables false
open Go.RowKit

set_option maxRecDepth 100000 in
set_option maxHeartbeats 1000000 in
theorem mod_any (n : Int) (hn : I64 n) (w : World) : Calls Tryd.prog 17 #[.int .i64 n, .int .i64 200] w fun e w' => ∃ m : Nat, m < 200 ∧ e = .returned (.int .i64 (m : Int)) ∧ w' = w := by
  go_enter Tryd.func17, Tryd.ntmps17
  go_wp2
  go_ret
  have h1 := Int.tmod_lt_of_pos n (show (0 : Int) < 200 by decide)
  have h2 := Int.lt_tmod_of_pos n (show (0 : Int) < 200 by decide)
  generalize n.tmod 200 = x at *
  have hw : wrap64 (x + 200) = x + 200 := by unfold wrap64; omega
  have h3 : (x + 200).tmod 200 = (x + 200) % 200 := Int.tmod_eq_emod_of_nonneg (by omega)
  refine ⟨((x + 200) % 200).toNat, by omega, ?_, rfl⟩
  show Ending.returned (.int .i64 ((wrap64 (x + 200)).tmod 200)) = _
  rw [hw, h3, Int.toNat_of_nonneg (by omega)]

theorem small_cat (a b : ByteArray) (h : a.size + b.size ≤ 1000000) (w : World) : (Op.stringOp .add a b).run Tryd.prog w = .ok (.string (a ++ b)) w := by
  have h1 : ¬ (((a.size + b.size : Nat) : Int) > IntKind.i64.max) := by show ¬ _ > (9223372036854775807 : Int); omega
  unfold Op.stringOp
  simp only
  rw [if_neg h1]
  rfl

set_option maxRecDepth 100000 in
set_option maxHeartbeats 1000000 in
theorem times_any : ∀ (n : Nat), n ≤ 70000 → ∀ w : World, Calls Tryd.prog 18 #[.string ⟨#[32]⟩, .int .i64 (n : Int)] w fun e w' => ∃ t : ByteArray, t.size = n ∧ e = .returned (.string t) ∧ w' = w := by
  intro n
  induction n using Nat.strongRecOn with
  | ind n ih =>
    intro hn w
    by_cases h0 : n = 0
    · subst h0
      go_enter Tryd.func18, Tryd.ntmps18
      go_wp2
      go_ret
      exact ⟨⟨#[]⟩, rfl, rfl, rfl⟩
    · have hi : ¬ (n : Int) ≤ 0 := by omega
      have IH0 := fun w => ih (n / 2) (by omega) (by omega) w
      rw [show ((n / 2 : Nat) : Int) = (n : Int) / 2 from by omega] at IH0
      have IH := hide IH0
      clear ih IH0
      by_cases hm : n % 2 = 1
      · have e1 : ((n : Int) % 2 == 1) = true := by simp; omega
        have e2 : ((n : Int).tmod 2 == 1) = true := by rw [Int.tmod_eq_emod_of_nonneg (by omega)]; exact e1
        go_enter Tryd.func18, Tryd.ntmps18
        go_wp2_with (go_at_call 18; refine (IH.out _).mono ?_; rintro e w1 ⟨t, ht, rfl, hw⟩; have hw := hw.symm; subst hw; have HT := hide ht; have hc1 := small_cat t t (by omega); have hc2 := small_cat (t ++ t) ⟨#[32]⟩ (by rw [ByteArray.size_append]; show _ + 1 ≤ _; omega); clear ht)
        go_ret
        exact ⟨t ++ t ++ ⟨#[32]⟩, by rw [ByteArray.size_append, ByteArray.size_append, HT.out]; show _ + 1 = _; omega, rfl, rfl⟩
      · have e1 : ((n : Int) % 2 == 1) = false := by simp; omega
        have e2 : ((n : Int).tmod 2 == 1) = false := by rw [Int.tmod_eq_emod_of_nonneg (by omega)]; exact e1
        go_enter Tryd.func18, Tryd.ntmps18
        go_wp2_with (go_at_call 18; refine (IH.out _).mono ?_; rintro e w1 ⟨t, ht, rfl, hw⟩; have hw := hw.symm; subst hw; have HT := hide ht; have hc1 := small_cat t t (by omega); clear ht)
        go_ret
        exact ⟨t ++ t, by rw [ByteArray.size_append, HT.out]; omega, rfl, rfl⟩
end Go.Proofs.YtnfnihhbgpakkaaDoor

namespace Go.Proofs.YtnfnihhbgpakkaaDoor
set_option linter.unusedSimpArgs false
set_option linter.unusedVariables false
open Go.RowKit

theorem faultOneT (w : World) : (binOp .eql 27 (.agg #[.int .i64 1, .int .i64 0, .int .i64 0]) (.agg #[.int .i64 1, .int .i64 0, .int .i64 0])).run Tryd.prog w = .ok (.bool true) w := by
  have h1 := run_equalIn_struct (P := Tryd.prog) w 9999 27 #[.int .i64 1, .int .i64 0, .int .i64 0] #[.int .i64 1, .int .i64 0, .int .i64 0] (by kernel_rfl) (by kernel_rfl)
  simp only [binOp]
  simp only [Op.equal, Op.maxDepth, Sem.run_bind]
  go_simp
theorem faultOneF (c o : Int) (h : c ≠ 1) (w : World) : (binOp .eql 27 (.agg #[.int .i64 c, .int .i64 0, .int .i64 o]) (.agg #[.int .i64 1, .int .i64 0, .int .i64 0])).run Tryd.prog w = .ok (.bool false) w := by
  have hc : (c == 1) = false := by simpa using h
  have h1 := run_equalIn_struct (P := Tryd.prog) w 9999 27 #[.int .i64 c, .int .i64 0, .int .i64 o] #[.int .i64 1, .int .i64 0, .int .i64 0] (by kernel_rfl) (by kernel_rfl)
  simp only [binOp]
  simp only [Op.equal, Op.maxDepth, Sem.run_bind]
  go_simp

set_option maxRecDepth 100000 in
set_option maxHeartbeats 4000000 in
theorem parseLong_walk (s : ByteArray) (n : Int) (w : World) (hs : s.size ≤ 140737488351232) (hn : -9223372036854775808 ≤ n ∧ n ≤ 9223372036854775807) (hl : LexLaid w) :
    Calls Tryd.prog 6 #[.string s, .int .i64 n] w fun e w' => e = .returned (.bool true) ∧ Below w.heap.size w w' := by
  have HM := hide (mod_any n hn)
  have HTi : Hid (∀ m : Nat, m < 200 → ∀ W : World, Calls Tryd.prog 18 #[.string ⟨#[32]⟩, .int .i64 (65436 + (m : Int))] W fun e w' => ∃ t : ByteArray, t.size = 65436 + m ∧ e = .returned (.string t) ∧ w' = W) := fun m hm W => by
    have := times_any (65436 + m) (by omega) W
    rw [show ((65436 + m : Nat) : Int) = 65436 + (m : Int) from by omega] at this
    exact this
  have HFo := hide (fun (r : Nat) (hr : r < 4) (S : ByteArray) (hS : S.size ≤ 140737488351232) (W : World) (hb : Below w.heap.size w W) => faultOf_any r hr S W (hl.kept hb) hS)
  have HTk := hide (fun (W : World) (hb : Below w.heap.size w W) => taken_any W (hl.kept hb))
  clear hn hl
  by_cases h100 : 100 < s.size
  · have hg : (100 : Int) < (s.size : Int) := by omega
    have hg2 : (100 : Int) ≤ (s.size : Int) := by omega
    have hg3 : (0 : Int) ≤ 100 := by decide
    obtain ⟨p, hp⟩ : ∃ p, p = s.extract 0 100 := ⟨_, rfl⟩
    have hps : p.size ≤ 100 := by rw [hp, ByteArray.size_extract]; omega
    have HP := hide hp
    have hp2 := hp.symm
    clear hp
    have hc0 := small_cat (s.extract 0 100) ⟨#[10]⟩ (by rw [hp2]; show _ + 1 ≤ _; omega)
    clear hp2
    go_enter Tryd.func6, Tryd.ntmps6
    go_wp2_with (first
      | (go_at_call 17; refine (HM.out _).mono ?_; rintro e w1 ⟨m, hm, rfl, hw⟩; have hw := hw.symm; subst hw; have HMm := hide hm)
      | (go_at_call 18; refine (HTi.out m HMm.out _).mono ?_; rintro e w1 ⟨t, ht, rfl, hw⟩; have hw := hw.symm; subst hw; have HT := hide ht; have hc1 := small_cat (s.extract 0 100 ++ ⟨#[10]⟩) t (by have := HMm.out; rw [ByteArray.size_append]; show _ + 1 + _ ≤ _; have := HP.out ▸ hps; omega); clear ht))
    obtain ⟨S, hS⟩ : ∃ S, S = s.extract 0 100 ++ ⟨#[10]⟩ ++ t := ⟨_, rfl⟩
    have HSs : Hid (S.size ≤ 70000) := by
      show _ ≤ _
      have := HMm.out
      rw [hS, ByteArray.size_append, ByteArray.size_append, HT.out]
      show _ + 1 + _ ≤ _
      have := HP.out ▸ hps
      omega
    rw [← hS]
    clear hS hc0 hc1
    go_loopw [22] (fun i wl => ∃ r : Nat, r ≤ 4 ∧ i = .int .i64 r ∧ Hid (Below w.heap.size w wl)) (fun i _ => 4 - (intOf i).toNat)
    case atStart => exact ⟨0, by omega, rfl, Below.refl _ _⟩
    case round =>
      obtain ⟨r, hr, rfl, HB⟩ := hrel
      by_cases hlt : r < 4
      · have hi : (r : Int) < 4 := by omega
        have HF := hide (HFo.out r hlt S (by have := HSs.out; omega) wr HB.out)
        by_cases hS : 65536 < S.size
        · have hgt : ((65536 : Int) < (S.size : Int)) = True := eq_true (by omega)
          have e1 := faultOneT
          have HQ := hide (fOf_long r hS)
          clear hS
          go_wp2_with (go_at_call 19; refine HF.out.mono ?_; rintro e w2 ⟨rfl, hb2⟩; have HB2 := hide (belowt2 (belowt2 HB.out hb2) (belowA w2 (.cells #[.int .i64 1, .int .i64 0, .int .i64 0] 27))); clear hb2; rw [HQ.out]; unfold faultV)
          go_roundw
          case rel => exact ⟨r + 1, by omega, by go_num, HB2⟩
          case measure => simp [intOf]; omega
        · have hgt : ((65536 : Int) < (S.size : Int)) = False := eq_false (by omega)
          obtain ⟨q, hq0⟩ : ∃ q, fOf r S = q := ⟨_, rfl⟩
          obtain ⟨c, o⟩ := q
          have hne := fOf_short r (s := S) (by omega)
          rw [hq0] at hne
          have e1 := faultOneF c o hne
          have HQ := hide hq0
          clear hS hq0 hne
          go_wp2_with (go_at_call 19; refine HF.out.mono ?_; rintro e w2 ⟨rfl, hb2⟩; have HB2 := hide (belowt2 (belowt2 HB.out hb2) (belowA w2 (.cells #[.int .i64 c, .int .i64 0, .int .i64 o] 27))); clear hb2; rw [HQ.out]; unfold faultV)
          go_roundw
          case rel => exact ⟨r + 1, by omega, by go_num, HB2⟩
          case measure => simp [intOf]; omega
      · obtain rfl : r = 4 := by omega
        have hi : ¬ ((4 : Nat) : Int) < 4 := by decide
        go_wp2_with (go_at_call 10; refine (HTk.out _ HB.out).mono ?_; rintro e w9 ⟨rfl, hb9⟩)
        go_ret
        exact ⟨rfl, belowt2 HB.out hb9⟩
  · have hg : ¬ (100 : Int) < (s.size : Int) := by omega
    obtain ⟨p, hp⟩ : ∃ p, p = s := ⟨_, rfl⟩
    subst hp
    have hps : p.size ≤ 100 := by omega
    have hc0 := small_cat p ⟨#[10]⟩ (by show _ + 1 ≤ _; omega)
    go_enter Tryd.func6, Tryd.ntmps6
    go_wp2_with (first
      | (go_at_call 17; refine (HM.out _).mono ?_; rintro e w1 ⟨m, hm, rfl, hw⟩; have hw := hw.symm; subst hw; have HMm := hide hm)
      | (go_at_call 18; refine (HTi.out m HMm.out _).mono ?_; rintro e w1 ⟨t, ht, rfl, hw⟩; have hw := hw.symm; subst hw; have HT := hide ht; have hc1 := small_cat (p ++ ⟨#[10]⟩) t (by have := HMm.out; rw [ByteArray.size_append]; show _ + 1 + _ ≤ _; skip; omega); clear ht))
    obtain ⟨S, hS⟩ : ∃ S, S = p ++ ⟨#[10]⟩ ++ t := ⟨_, rfl⟩
    have HSs : Hid (S.size ≤ 70000) := by
      show _ ≤ _
      have := HMm.out
      rw [hS, ByteArray.size_append, ByteArray.size_append, HT.out]
      show _ + 1 + _ ≤ _
      skip
      omega
    rw [← hS]
    clear hS hc0 hc1
    go_loopw [22] (fun i wl => ∃ r : Nat, r ≤ 4 ∧ i = .int .i64 r ∧ Hid (Below w.heap.size w wl)) (fun i _ => 4 - (intOf i).toNat)
    case atStart => exact ⟨0, by omega, rfl, Below.refl _ _⟩
    case round =>
      obtain ⟨r, hr, rfl, HB⟩ := hrel
      by_cases hlt : r < 4
      · have hi : (r : Int) < 4 := by omega
        have HF := hide (HFo.out r hlt S (by have := HSs.out; omega) wr HB.out)
        by_cases hS : 65536 < S.size
        · have hgt : ((65536 : Int) < (S.size : Int)) = True := eq_true (by omega)
          have e1 := faultOneT
          have HQ := hide (fOf_long r hS)
          clear hS
          go_wp2_with (go_at_call 19; refine HF.out.mono ?_; rintro e w2 ⟨rfl, hb2⟩; have HB2 := hide (belowt2 (belowt2 HB.out hb2) (belowA w2 (.cells #[.int .i64 1, .int .i64 0, .int .i64 0] 27))); clear hb2; rw [HQ.out]; unfold faultV)
          go_roundw
          case rel => exact ⟨r + 1, by omega, by go_num, HB2⟩
          case measure => simp [intOf]; omega
        · have hgt : ((65536 : Int) < (S.size : Int)) = False := eq_false (by omega)
          obtain ⟨q, hq0⟩ : ∃ q, fOf r S = q := ⟨_, rfl⟩
          obtain ⟨c, o⟩ := q
          have hne := fOf_short r (s := S) (by omega)
          rw [hq0] at hne
          have e1 := faultOneF c o hne
          have HQ := hide hq0
          clear hS hq0 hne
          go_wp2_with (go_at_call 19; refine HF.out.mono ?_; rintro e w2 ⟨rfl, hb2⟩; have HB2 := hide (belowt2 (belowt2 HB.out hb2) (belowA w2 (.cells #[.int .i64 c, .int .i64 0, .int .i64 o] 27))); clear hb2; rw [HQ.out]; unfold faultV)
          go_roundw
          case rel => exact ⟨r + 1, by omega, by go_num, HB2⟩
          case measure => simp [intOf]; omega
      · obtain rfl : r = 4 := by omega
        have hi : ¬ ((4 : Nat) : Int) < 4 := by decide
        go_wp2_with (go_at_call 10; refine (HTk.out _ HB.out).mono ?_; rintro e w9 ⟨rfl, hb9⟩)
        go_ret
        exact ⟨rfl, belowt2 HB.out hb9⟩
end Go.Proofs.YtnfnihhbgpakkaaDoor
