/- parse.read: a text's tokens, taken by a rule; where it gives up, the fault. parse's reader takes an atom without variables. parse's reader takes an atom without variables, by its name. parse's reader takes facts, and a query. parse.read: a text's tokens, taken by a rule; where it gives up, the fault. parse.read: a text's tokens, taken by a rule; where it gives up, the fault. parse.Program, parse.Facts, parse.Query. The law's own taken: the document's example is read. Where parse's grammar gives up, the fault has a code. A program of facts without variables, and a facts text: the same over the same tokens. The law's own sameAtom and ground. ParseGround: a facts text of up to 512 facts is a program of just these; a program of nothing but facts without variables is a facts text. -/
import Derived.Test.YtnfnihhbgpakkaaDoorProg
import Derived.Test.YtnfnihhbgpakkaaDoorParseCatch
import Derived.Test.YtnfnihhbgpakkaaDoorParseProg
import Derived.Test.YtnfnihhbgpakkaaDoorParseAtom
import Derived.Test.YtnfnihhbgpakkaaDoorParseLit
import Derived.Test.YtnfnihhbgpakkaaDoorParseBody
import Derived.Test.YtnfnihhbgpakkaaDoorParseLen
import Derived.Test.YtnfnihhbgpakkaaDoorParseGood

namespace Go.Proofs.YtnfnihhbgpakkaaDoor
set_option linter.unusedSimpArgs false
set_option linter.unusedVariables false
open Go.RowKit

def ReadProg (w : World) (s : ByteArray) (e : Ending) (w' : World) : Prop :=
  match progP (scanX s).2.1 ((scanX s).2.2 : Int) (scanX s).1 with
  | .bad ec eo => e = .returned (.tuple #[.agg #[.slice none 0 0], faultV ec eo]) ∧ Below w.heap.size w w'
  | .ok b _ => ∃ v cs, e = .returned (.tuple #[.agg #[v], faultV 0 0]) ∧ cs.map Clx.pur = b ∧ cs.length ≤ 512 ∧ Lst elClx w' (fun k => w.heap.size ≤ k) v cs ∧ Below w.heap.size w w'

set_option maxRecDepth 100000 in
set_option maxHeartbeats 2000000 in
theorem readProg_any (s : ByteArray) (w : World) (hl : LexLaid w) (hs : s.size ≤ 140737488351232) :
    Calls Tryd.prog 24 #[.string s, .func (.func 25) #[] #[]] w (ReadProg w s) := by
  have hmf : ∀ (fn : Fn) (first cap : Array Value) (w : World), (Instr.makeFunc fn first cap).run Tryd.prog w = .ok (.func fn first cap) w := fun _ _ _ _ => rfl
  have HSc := hide (fun (W : World) (hb : Below w.heap.size w W) => scan_any s W (hl.kept hb) hs)
  clear hl hs
  unfold faultVal at HSc
  obtain ⟨res, hres⟩ : ∃ res, progP (scanX s).2.1 ((scanX s).2.2 : Int) (scanX s).1 = res := ⟨_, rfl⟩
  obtain ⟨Post, hPost⟩ : ∃ Post : Ending → World → Prop, Post = ReadProg w s := ⟨_, rfl⟩
  rw [← hPost]
  have PB : Hid (∀ ec eo w', res = .bad ec eo → Below w.heap.size w w' → Post (.returned (.tuple #[.agg #[.slice none 0 0], .agg #[.int .i64 ec, .int .i64 0, .int .i64 eo]])) w') := fun ec eo w' hr hb => by
    rw [hPost]; unfold ReadProg; rw [hres, hr]; exact ⟨rfl, hb⟩
  have PG : Hid (∀ b r v cs w', res = .ok b r → cs.map Clx.pur = b → cs.length ≤ 512 → Lst elClx w' (fun k => w.heap.size ≤ k) v cs → Below w.heap.size w w' → Post (.returned (.tuple #[.agg #[v], .agg #[.int .i64 0, .int .i64 0, .int .i64 0]])) w') := fun b r v cs w' hr h1 h2 h3 h4 => by
    rw [hPost]; unfold ReadProg; rw [hres, hr]; exact ⟨v, cs, rfl, h1, h2, h3, h4⟩
  have HR := hide hres
  clear hPost hres
  go_enter_defers Tryd.func24, Tryd.ntmps24
  go_wp2_with (go_at_call 30; refine (HSc.out _ (below2a _ _ _)).mono ?_; rintro e w1 ⟨v, rfl, ho1, hb1⟩; obtain ⟨ao, cap, rfl⟩ := own_shape ho1; have HO1 := hide ho1; have HB1 := hide hb1; clear ho1 hb1)
  have hs1 : w.heap.size + 2 ≤ w1.heap.size := by have := HB1.out.size; simp at this; omega
  have HA := hide (scan_ahead HB1.out HO1.out (W2 := (w1.alloc (.cells #[.int .i64 (scanX s).2.1, .int .i64 0, .int .i64 ((scanX s).2.2 : Int)] 27)).alloc (.cells #[.slice ao (scanX s).1.length cap, .int .i64 (scanX s).2.1, .int .i64 0, .int .i64 ((scanX s).2.2 : Int), .int .i64 0] 82)) (below2a w1 _ _) rfl (p := w1.heap.size + 1) (by omega) (by have := heap_alloc_new (w1.alloc (.cells #[.int .i64 (scanX s).2.1, .int .i64 0, .int .i64 ((scanX s).2.2 : Int)] 27)) (.cells #[.slice ao (scanX s).1.length cap, .int .i64 (scanX s).2.1, .int .i64 0, .int .i64 ((scanX s).2.2 : Int), .int .i64 0] 82); simpa using this))
  have HP := program_any HA.out
  rw [HR.out] at HP
  have HK : Hid (∀ w2, Only (fun k => k = w1.heap.size + 1) ((w1.alloc (.cells #[.int .i64 (scanX s).2.1, .int .i64 0, .int .i64 ((scanX s).2.2 : Int)] 27)).alloc (.cells #[.slice ao (scanX s).1.length cap, .int .i64 (scanX s).2.1, .int .i64 0, .int .i64 ((scanX s).2.2 : Int), .int .i64 0] 82)) w2 → w2.heap[w.heap.size]? = some (.cells #[.slice none 0 0] 41 (0, 0)) ∧ w2.heap[w.heap.size + 1]? = some (.cells #[.int .i64 0, .int .i64 0, .int .i64 0] 27 (0, 0)) ∧ Only (fun k => w.heap.size ≤ k) w w2) := fun w2 ho => by
    have q : ∀ k, k < w.heap.size + 2 → w2.heap[k]? = ((w.alloc (.cells #[.slice none 0 0] 41)).alloc (.cells #[.int .i64 0, .int .i64 0, .int .i64 0] 27)).heap[k]? := fun k hk => by
      rw [ho.block k (by simp; omega) (by omega), (below2a w1 _ _).block k (by omega), HB1.out.block k (by simp; omega)]
    refine ⟨?_, ?_, ((Only.of_below (below2a w _ _) _).trans (Only.of_below HB1.out _)).trans ((Only.of_below (below2a w1 _ _) _).trans (ho.mono fun k _ (e : k = w1.heap.size + 1) => by omega))⟩
    · rw [q _ (by omega), (belowA (w.alloc _) _).block _ (by simp)]; exact heap_alloc_new w _
    · rw [q _ (by omega)]
      have := heap_alloc_new (w.alloc (.cells #[.slice none 0 0] 41)) (.cells #[.int .i64 0, .int .i64 0, .int .i64 0] 27)
      simpa using this
  clear HO1 HB1 HSc HR
  cases res with
  | bad ec eo =>
    refine HP.mono ?_
    intro e w2 hq
    obtain ⟨rfl, ho2⟩ := progPost_bad hq
    obtain ⟨k0, k1, k2⟩ := HK.out w2 ho2
    clear hq HP HA
    refine leaves_cons (f := 35) (args := #[.pointer (some ⟨w.heap.size + 1, 0, none⟩)]) (by simp) (by simp [go_sem]) ?_
    refine (caughtProg (w.heap.size + 1) ec eo [] w2 k1).mono ?_
    rintro e u' w3 ⟨rfl, rfl, h3, o3⟩
    have h0 : w3.heap[w.heap.size]? = some (.cells #[.slice none 0 0] 41 (0, 0)) := by rw [o3.block _ (Array.getElem?_eq_some_iff.1 k0).1 (by omega)]; exact k0
    have c0 : w3.cell? ⟨w.heap.size, 0, none⟩ = some (.slice none 0 0) := by simp [World.cell?, h0]
    obtain ⟨⟨d0, d1, d2⟩, -⟩ := fault_cells h3
    have HF := hide (PB.out ec eo w3 rfl ((k2.trans (o3.mono fun k _ (e : k = w.heap.size + 1) => by omega)).below (Nat.le_refl _) (fun k hk e => by omega)))
    clear o3 h3 h0 k0 k1 k2
    simp [Leaves, settle, results, Tryd.results24, go_sem, c0, d0, d1, d2]
    exact HF.out
  | ok b r =>
    refine HP.mono ?_
    intro e w2 hq
    obtain ⟨v, cs, rfl, hpur, hlen, hgr, ha2, ho2⟩ := progPost_ok hq
    obtain ⟨va, vc, rfl, -⟩ := hgr.shape
    obtain ⟨k0, k1, k2⟩ := HK.out w2 ho2
    have HPu := hide hpur
    have HLn := hide hlen
    have HG := hide (hgr.new (by omega))
    have HK2 := hide k2
    clear hq HP HA hpur hlen hgr ha2 ho2
    have c0 : w2.cell? ⟨w.heap.size, 0, none⟩ = some (.slice none 0 0) := by simp [World.cell?, k0]
    have z0 : w2.frozen? ⟨w.heap.size, 0, none⟩ = false := by simp [World.frozen?, k0]
    obtain ⟨⟨d0, d1, d2⟩, ⟨y0, y1, y2⟩⟩ := fault_cells k1
    go_wp2_with fail
    have hO : Only (fun k => k = w.heap.size ∨ k = w.heap.size + 1) w2 ((((w2.setCell ⟨w.heap.size, 0, none⟩ (.slice va cs.length vc)).setCell ⟨w.heap.size + 1, 0, none⟩ (.int .i64 0)).setCell ⟨w.heap.size + 1, 1, none⟩ (.int .i64 0)).setCell ⟨w.heap.size + 1, 2, none⟩ (.int .i64 0)) := ((((Only.refl (fun k => k = w.heap.size ∨ k = w.heap.size + 1) w2).setCell (p := ⟨w.heap.size, 0, none⟩) (.inl rfl) _).setCell (p := ⟨w.heap.size + 1, 0, none⟩) (.inr rfl) _).setCell (p := ⟨w.heap.size + 1, 1, none⟩) (.inr rfl) _).setCell (p := ⟨w.heap.size + 1, 2, none⟩) (.inr rfl) _
    have hV0 : ((((w2.setCell ⟨w.heap.size, 0, none⟩ (.slice va cs.length vc)).setCell ⟨w.heap.size + 1, 0, none⟩ (.int .i64 0)).setCell ⟨w.heap.size + 1, 1, none⟩ (.int .i64 0)).setCell ⟨w.heap.size + 1, 2, none⟩ (.int .i64 0)).heap[w.heap.size]? = some (.cells #[.slice va cs.length vc] 41 (0, 0)) := by simp [World.setCell, Array.getElem?_modify, k0]
    have hV1 : ((((w2.setCell ⟨w.heap.size, 0, none⟩ (.slice va cs.length vc)).setCell ⟨w.heap.size + 1, 0, none⟩ (.int .i64 0)).setCell ⟨w.heap.size + 1, 1, none⟩ (.int .i64 0)).setCell ⟨w.heap.size + 1, 2, none⟩ (.int .i64 0)).heap[w.heap.size + 1]? = some (.cells #[.int .i64 0, .int .i64 0, .int .i64 0] 27 (0, 0)) := by simp [World.setCell, Array.getElem?_modify, k1]
    generalize (((w2.setCell ⟨w.heap.size, 0, none⟩ (.slice va cs.length vc)).setCell ⟨w.heap.size + 1, 0, none⟩ (.int .i64 0)).setCell ⟨w.heap.size + 1, 1, none⟩ (.int .i64 0)).setCell ⟨w.heap.size + 1, 2, none⟩ (.int .i64 0) = V at hO hV0 hV1 ⊢
    clear c0 z0 d0 d1 d2 y0 y1 y2 k0 k1
    refine leaves_cons (f := 35) (args := #[.pointer (some ⟨w.heap.size + 1, 0, none⟩)]) (by simp) (by simp [go_sem]) ?_
    refine (idleProg ⟨w.heap.size + 1, 0, none⟩ V).mono ?_
    rintro e u' w3 ⟨rfl, rfl, hw⟩
    have hw := hw.symm
    subst hw
    have c0 : V.cell? ⟨w.heap.size, 0, none⟩ = some (.slice va cs.length vc) := by simp [World.cell?, hV0]
    obtain ⟨⟨d0, d1, d2⟩, -⟩ := fault_cells hV1
    have HF := hide (PG.out b r (.slice va cs.length vc) cs V rfl HPu.out HLn.out (HG.out.move fun k hk hF => ⟨by simp at hF; omega, hO.block k hk (by simp at hF; omega)⟩) ((HK2.out.trans (hO.mono fun k _ (e : k = w.heap.size ∨ k = w.heap.size + 1) => by omega)).below (Nat.le_refl _) (fun k hk e => by omega)))
    clear hO hV0 hV1
    simp [Leaves, settle, results, Tryd.results24, go_sem, c0, d0, d1, d2]
    exact HF.out
end Go.Proofs.YtnfnihhbgpakkaaDoor

namespace Go.Proofs.YtnfnihhbgpakkaaDoor
set_option linter.unusedSimpArgs false
set_option linter.unusedVariables false
open Go.RowKit

set_option maxHeartbeats 4000000 in
set_option maxRecDepth 100000 in
theorem atomValue {w : World} {p : Nat} {ao : Option Addr} {cap : Nat} {L : List Tok} {c f : Int} {R : List Tok} (name : Tok) (h : Ahead w p ao cap L c f R) (hname : name.good) :
    Calls Tryd.prog 41 #[.pointer (some ⟨p, 0, none⟩), tokV name, .func (.func 42) #[] #[]] w (AtmPost w p ao cap L c f (atomP c f valueKs name R)) := by
  unfold tokV
  match R, h with
  | [], h =>
    have HL := hide (fun W (hb : Below w.heap.size w W) => look_none (h.kept hb))
    have HE : Hid (atomP c f valueKs name [] = .bad c f) := rfl
    rw [HE.out]
    clear HE h
    unfold AtmPost
    go_enter Tryd.func41, Tryd.ntmps41
    go_wp2_with (go_at_call 43; refine (HL.out _ (below3a _ _ _ _)).mono ?_; rintro e w1 ⟨rfl, hb⟩)
    exact ⟨rfl, rfl, Only.of_below (belowt2 (below3a _ _ _ _) hb) _⟩
  | x :: r, h =>
    have HL := hide (fun W (hb : Below w.heap.size w W) => look_good (h.kept hb))
    unfold tokV at HL
    by_cases h5 : x.k = 5
    · have hT : takeP c f [5] (x :: r) = .ok x r := by simp [takeP, h5]
      have HE : Hid (atomP c f valueKs name (x :: r) = toAtom name (argsP c f valueKs [] r)) := by show atomP _ _ _ _ _ = _; unfold atomP; simp only; rw [if_pos h5]; cases argsP c f valueKs [] r <;> rfl
      have hfd := tok_kind (.int .i64 x.k) (.string x.t) (.int .i64 x.n) (.int .i64 x.op) (.int .i64 (x.off : Int)) (.int .i64 (x.en : Int))
      have e5 : (x.k != 5) = false := by simpa using h5
      obtain ⟨res, hres⟩ : ∃ res, argsP c f valueKs [] r = res := ⟨_, rfl⟩
      rw [HE.out, hres]
      obtain ⟨Post, hPost⟩ : ∃ Post : Ending → World → Prop, Post = AtmPost w p ao cap L c f (toAtom name res) := ⟨_, rfl⟩
      rw [← hPost]
      have PB : Hid (∀ ec eo w', res = .bad ec eo → Only (fun k => k = p) w w' → Post (PEnd ec eo) w') := fun ec eo w' hr ho => by
        rw [hPost, hr]; exact ⟨rfl, ho⟩
      have PG : Hid (∀ ts r' v w', res = .ok ts r' → Lst elTrm w' (fun b => w.heap.size ≤ b) v ts → Ahead w' p ao cap L c f r' → Only (fun k => k = p) w w' → Post (.returned (.agg #[.string name.t, v, .int .i64 (name.off : Int)])) w') := fun ts r' v w' hr h1 h2 h3 => by
        rw [hPost, hr]; exact ⟨⟨name.t, v, name.off, ts⟩, rfl, rfl, ⟨(good_parts hname).1, (good_parts hname).2, h1⟩, h2, h3⟩
      have HRes := hide hres
      have H0 := hide h
      have hp := h.lt
      have HT : Hid (∀ W, Below w.heap.size w W → Calls Tryd.prog 32 #[.pointer (some ⟨p, 0, none⟩), .slice (some ⟨W.heap.size, 0, none⟩) 1 1] (W.alloc (.cells #[.int .i64 5] 3)) fun e w' => e = .returned (tokV x) ∧ Ahead w' p ao cap L c f r ∧ Only (fun b => b = p) W w') := fun W hb => take_lit_good [5] (h.kept hb) (by decide) hT
      clear HE h h5 hres hT hPost
      go_enter Tryd.func41, Tryd.ntmps41
      go_wp2_with (first
        | (go_at_call 43; refine (HL.out _ (below3a _ _ _ _)).mono ?_; rintro e w1 ⟨rfl, hb⟩; have HB := hide hb; have HW := hide (belowt2 (below3a _ _ _ _) hb); clear hb)
        | (go_at_call 32; refine (HT.out _ HW.out).mono ?_; rintro e w2 ⟨rfl, ha, ho⟩; have HA := hide ha; have HO := hide ho; clear ha ho))
      have HS : Hid (AtmLoop w w2 p ao cap L c f r name.t (name.off : Int) (.slice none 0 0) []) :=
        (AtmLoop.move ⟨H0.out.kept HW.out, atom_box2 HB.out, atom_box HB.out, World.ownsRow_nil _ _ _ _, Only.of_below HW.out _, hp, by simp, H0.out.tk⟩ HO.out HA.out : AtmLoop w w2 p ao cap L c f r name.t (name.off : Int) (.slice none 0 0) [])
      clear HA HO HT HL HB HW
      go_loopw [8] (fun _ wr => ∃ (acc : List Trm) (R : List Tok) (v : Value), acc.length ≤ 8 ∧ Hid (AtmLoop w wr p ao cap L c f R name.t (name.off : Int) v acc) ∧ Hid (argsP c f valueKs acc R = res)) (fun _ wr => 70000 - (intOf ((wr.cell? ⟨p, 4, none⟩).getD undef)).toNat)
      case atStart => exact ⟨[], r, _, by simp, HS, HRes⟩
      case round =>
        clear HS HRes hfd e5
        obtain ⟨acc, R, v, hacc, HS, HRes⟩ := hrel
        obtain ⟨ix, isz⟩ := HS.out.ah.index
        obtain ⟨vo, vc, rfl⟩ := own_shape HS.out.ow
        cases hT : takeP c f valueKs R with
        | bad ec eo =>
          have HP := hide (value_fail HS.out.ah hT)
          have HX : Hid (res = .bad ec eo) := by show _ = _; rw [← HRes.out]; exact args_bad1 hT
          clear hT
          go_wp2_with (go_at_call 42; refine HP.out.mono ?_; rintro e w3 ⟨rfl, hb⟩)
          exact ⟨rfl, PB.out _ _ _ HX.out (only_drop (HS.out.below hb).on)⟩
        | ok t r1 =>
          have HP := hide (value_good HS.out.ah hT)
          have tp := take_eq hT
          have HTok : Hid ((termP t).ok) := termP_ok (HS.out.ah.good t (by rw [tp.1]; exact List.mem_cons_self))
          unfold Trm.val at HP
          clear tp
          by_cases h8 : acc.length = 8
          · have HX : Hid (res = .bad 22 (termP t).off) := by show _ = _; rw [← HRes.out]; exact args_lim hT h8
            have HLm := hide (limit_bad 8 22 (termP t).off)
            rw [h8] at HS
            clear hT hacc
            go_wp2_with (first
              | (go_at_call 42; refine HP.out.mono ?_; rintro e w3 ⟨rfl, ha, ho⟩; have HS3 := hide (HS.out.move ho ha); clear ha ho; obtain ⟨d0, d1, d2, d3⟩ := (HS3.out.below (belowA w3 (.cells #[.int .i64 (termP t).k, .int .i64 (termP t).n, .string (termP t).s, .int .i64 (termP t).off] 67))).cells)
              | (go_at_call 34; refine (HLm.out _).mono ?_; rintro e w4 ⟨rfl, hw⟩; have hw := hw.symm; subst hw))
            exact ⟨rfl, PB.out _ _ _ HX.out (only_drop (HS3.out.below (belowA _ _)).on)⟩
          · have HLm := hide (limit_ok (acc.length : Int) 8 22 (termP t).off (h := by omega))
            have HNx := args_next (c := c) (f := f) hT h8
            have hlen1 : r1.length + 1 = R.length := by rw [(take_eq hT).1]; rfl
            have hacc8 : acc.length < 8 := by omega
            clear hT h8
            cases hU : takeP c f [7, 6] r1 with
            | bad ec eo =>
              have HX : Hid (res = .bad ec eo) := by show _ = _; rw [← HRes.out, HNx, hU]
              have HT2 : Hid (∀ (W : World) (n : Nat), W.heap.size = n → Ahead W p ao cap L c f r1 → Calls Tryd.prog 32 #[.pointer (some ⟨p, 0, none⟩), .slice (some ⟨n, 0, none⟩) 2 2] (W.alloc (.cells #[.int .i64 7, .int .i64 6] 3)) fun e w' => e = PEnd ec eo ∧ Below W.heap.size W w') := fun W n hn ha => hn ▸ take_lit_fail [7, 6] ha (by decide) hU
              clear hU HNx hlen1
              go_wp2_with (first
                | (go_at_call 42; refine HP.out.mono ?_; rintro e w3 ⟨rfl, ha, ho⟩; have HS3 := hide (HS.out.move ho ha); clear ha ho; obtain ⟨d0, d1, d2, d3⟩ := (HS3.out.below (belowA w3 (.cells #[.int .i64 (termP t).k, .int .i64 (termP t).n, .string (termP t).s, .int .i64 (termP t).off] 67))).cells; have HS5 := hide ((HS3.out.below (belowA w3 (.cells #[.int .i64 (termP t).k, .int .i64 (termP t).n, .string (termP t).s, .int .i64 (termP t).off] 67))).below (belowA _ (.cells #[.int .i64 (termP t).k, .int .i64 (termP t).n, .string (termP t).s, .int .i64 (termP t).off] 67))))
                | (go_at_call 34; refine (HLm.out _).mono ?_; rintro e w4 ⟨⟨v4, rfl⟩, hw⟩; have hw := hw.symm; subst hw)
                | (at_builtin; obtain ⟨i0, hi0, hz0, hz1, hz2⟩ := info_parts Tryd.infoTerm; refine wpList_push (w0 := (w3.alloc (.cells #[.int .i64 (termP t).k, .int .i64 (termP t).n, .string (termP t).s, .int .i64 (termP t).off] 67)).alloc (.cells #[.int .i64 (termP t).k, .int .i64 (termP t).n, .string (termP t).s, .int .i64 (termP t).off] 67)) elTrm rfl _ _ 34 rfl (w.heap.size + 3) 67 i0 _ 40 Tryd.underlying34 hi0 hz0 hz1 hz2 rfl (by decide) _ acc acc.length rfl rfl HS5.out.grow (termP t) (w3.heap.size + 1) 1 rfl (fun j u hu => by have := new_cells (w := w3.alloc (.cells #[.int .i64 (termP t).k, .int .i64 (termP t).n, .string (termP t).s, .int .i64 (termP t).off] 67)) (cs := #[.int .i64 (termP t).k, .int .i64 (termP t).n, .string (termP t).s, .int .i64 (termP t).off]) (t := 67) j u hu; simpa using this) HTok.out (by omega) (Below.refl _ _) HS5.out.base ?_; intro g cap' w5 HG5 HB5 HGr; clear HB5 hi0 hz0 hz1 hz2; obtain ⟨f0, f1⟩ := HS5.out.far HGr.out; have HS6 := hide (HS5.out.pushG HTok.out HGr.out HG5.out); clear HG5 HGr)
                | (go_at_call 32; refine (HT2.out _ _ (by simp) HS6.out.ah).mono ?_; rintro e w6 ⟨rfl, hb6⟩))
              exact ⟨rfl, PB.out _ _ _ HX.out (only_drop (HS6.out.below hb6).on)⟩
            | ok s r2 =>
              have HT2 : Hid (∀ (W : World) (n : Nat), W.heap.size = n → Ahead W p ao cap L c f r1 → Calls Tryd.prog 32 #[.pointer (some ⟨p, 0, none⟩), .slice (some ⟨n, 0, none⟩) 2 2] (W.alloc (.cells #[.int .i64 7, .int .i64 6] 3)) fun e w' => e = .returned (tokV s) ∧ Ahead w' p ao cap L c f r2 ∧ Only (fun b => b = p) W w') := fun W n hn ha => hn ▸ take_lit_good [7, 6] ha (by decide) hU
              have hfd2 := tok_kind (.int .i64 s.k) (.string s.t) (.int .i64 s.n) (.int .i64 s.op) (.int .i64 (s.off : Int)) (.int .i64 (s.en : Int))
              have hs76 := (take_eq hU).2
              have hlen2 : r2.length + 2 = R.length := by rw [← hlen1, (take_eq hU).1]; rfl
              unfold tokV at HT2
              by_cases h6 : s.k = 6
              · have e6 : (s.k == 6) = true := by simpa using h6
                have HX : Hid (res = .ok (acc ++ [termP t]) r2) := by show _ = _; rw [← HRes.out, HNx, hU]; simp only; rw [if_neg (by omega)]
                clear hU HNx hlen1 hlen2 hs76 h6
                go_wp2_with (first
                | (go_at_call 42; refine HP.out.mono ?_; rintro e w3 ⟨rfl, ha, ho⟩; have HS3 := hide (HS.out.move ho ha); clear ha ho; obtain ⟨d0, d1, d2, d3⟩ := (HS3.out.below (belowA w3 (.cells #[.int .i64 (termP t).k, .int .i64 (termP t).n, .string (termP t).s, .int .i64 (termP t).off] 67))).cells; have HS5 := hide ((HS3.out.below (belowA w3 (.cells #[.int .i64 (termP t).k, .int .i64 (termP t).n, .string (termP t).s, .int .i64 (termP t).off] 67))).below (belowA _ (.cells #[.int .i64 (termP t).k, .int .i64 (termP t).n, .string (termP t).s, .int .i64 (termP t).off] 67))))
                | (go_at_call 34; refine (HLm.out _).mono ?_; rintro e w4 ⟨⟨v4, rfl⟩, hw⟩; have hw := hw.symm; subst hw)
                | (at_builtin; obtain ⟨i0, hi0, hz0, hz1, hz2⟩ := info_parts Tryd.infoTerm; refine wpList_push (w0 := (w3.alloc (.cells #[.int .i64 (termP t).k, .int .i64 (termP t).n, .string (termP t).s, .int .i64 (termP t).off] 67)).alloc (.cells #[.int .i64 (termP t).k, .int .i64 (termP t).n, .string (termP t).s, .int .i64 (termP t).off] 67)) elTrm rfl _ _ 34 rfl (w.heap.size + 3) 67 i0 _ 40 Tryd.underlying34 hi0 hz0 hz1 hz2 rfl (by decide) _ acc acc.length rfl rfl HS5.out.grow (termP t) (w3.heap.size + 1) 1 rfl (fun j u hu => by have := new_cells (w := w3.alloc (.cells #[.int .i64 (termP t).k, .int .i64 (termP t).n, .string (termP t).s, .int .i64 (termP t).off] 67)) (cs := #[.int .i64 (termP t).k, .int .i64 (termP t).n, .string (termP t).s, .int .i64 (termP t).off]) (t := 67) j u hu; simpa using this) HTok.out (by omega) (Below.refl _ _) HS5.out.base ?_; intro g cap' w5 HG5 HB5 HGr; clear HB5 hi0 hz0 hz1 hz2; obtain ⟨f0, f1⟩ := HS5.out.far HGr.out; have HS6 := hide (HS5.out.pushG HTok.out HGr.out HG5.out); clear HG5 HGr)
                  | (go_at_call 32; refine (HT2.out _ _ (by simp) HS6.out.ah).mono ?_; rintro e w6 ⟨rfl, ha, ho⟩; have HS7 := hide (HS6.out.move ho ha); clear ha ho; obtain ⟨y0, y1, y2, y3⟩ := HS7.out.cells; obtain ⟨q0, q1, q2, q3, q4, q5⟩ := HS7.out.box))
                obtain ⟨z1, z2, z3⟩ := HS7.out.fin (by simp; omega) (.string name.t) (.slice (some ⟨g, 0, none⟩) (acc.length + 1) cap') (.int .i64 (name.off : Int))
                exact bodyPost_ret (atom_res _ (w.heap.size + 1) _ _ _ _ rfl (box3_put HS7.out.br _ _ _)) rfl (PG.out _ _ _ _ HX.out z1 z2 z3)
              · have e6 : (s.k == 6) = false := by simpa using h6
                have HX : Hid (argsP c f valueKs (acc ++ [termP t]) r2 = res) := by show _ = _; rw [← HRes.out, HNx, hU]; simp only; rw [if_pos (by simp at hs76; omega)]
                clear hU HNx hlen1 hs76 h6
                have HL2 := hide hlen2
                clear hlen2
                go_wp2_with (first
                | (go_at_call 42; refine HP.out.mono ?_; rintro e w3 ⟨rfl, ha, ho⟩; have HS3 := hide (HS.out.move ho ha); clear ha ho; obtain ⟨d0, d1, d2, d3⟩ := (HS3.out.below (belowA w3 (.cells #[.int .i64 (termP t).k, .int .i64 (termP t).n, .string (termP t).s, .int .i64 (termP t).off] 67))).cells; have HS5 := hide ((HS3.out.below (belowA w3 (.cells #[.int .i64 (termP t).k, .int .i64 (termP t).n, .string (termP t).s, .int .i64 (termP t).off] 67))).below (belowA _ (.cells #[.int .i64 (termP t).k, .int .i64 (termP t).n, .string (termP t).s, .int .i64 (termP t).off] 67))))
                | (go_at_call 34; refine (HLm.out _).mono ?_; rintro e w4 ⟨⟨v4, rfl⟩, hw⟩; have hw := hw.symm; subst hw)
                | (at_builtin; obtain ⟨i0, hi0, hz0, hz1, hz2⟩ := info_parts Tryd.infoTerm; refine wpList_push (w0 := (w3.alloc (.cells #[.int .i64 (termP t).k, .int .i64 (termP t).n, .string (termP t).s, .int .i64 (termP t).off] 67)).alloc (.cells #[.int .i64 (termP t).k, .int .i64 (termP t).n, .string (termP t).s, .int .i64 (termP t).off] 67)) elTrm rfl _ _ 34 rfl (w.heap.size + 3) 67 i0 _ 40 Tryd.underlying34 hi0 hz0 hz1 hz2 rfl (by decide) _ acc acc.length rfl rfl HS5.out.grow (termP t) (w3.heap.size + 1) 1 rfl (fun j u hu => by have := new_cells (w := w3.alloc (.cells #[.int .i64 (termP t).k, .int .i64 (termP t).n, .string (termP t).s, .int .i64 (termP t).off] 67)) (cs := #[.int .i64 (termP t).k, .int .i64 (termP t).n, .string (termP t).s, .int .i64 (termP t).off]) (t := 67) j u hu; simpa using this) HTok.out (by omega) (Below.refl _ _) HS5.out.base ?_; intro g cap' w5 HG5 HB5 HGr; clear HB5 hi0 hz0 hz1 hz2; obtain ⟨f0, f1⟩ := HS5.out.far HGr.out; have HS6 := hide (HS5.out.pushG HTok.out HGr.out HG5.out); clear HG5 HGr)
                  | (go_at_call 32; refine (HT2.out _ _ (by simp) HS6.out.ah).mono ?_; rintro e w6 ⟨rfl, ha, ho⟩; have HS7 := hide (HS6.out.move ho ha); clear ha ho))
                go_roundw
                case rel => exact ⟨acc ++ [termP t], r2, _, by simp; omega, HS7, HX⟩
                case measure =>
                  obtain ⟨jx, -⟩ := HS7.out.ah.index
                  have := HL2.out
                  omega
    · have HE : Hid (atomP c f valueKs name (x :: r) = .ok ⟨name.t, [], name.off⟩ (x :: r)) := by show atomP _ _ _ _ _ = _; unfold atomP; simp only; rw [if_neg h5]
      have e5 : (x.k != 5) = true := by simpa using h5
      have hfd := tok_kind (.int .i64 x.k) (.string x.t) (.int .i64 x.n) (.int .i64 x.op) (.int .i64 (x.off : Int)) (.int .i64 (x.en : Int))
      rw [HE.out]
      have H0 := hide h
      clear HE h h5
      unfold AtmPost
      go_enter Tryd.func41, Tryd.ntmps41
      go_wp2_with (go_at_call 43; refine (HL.out _ (below3a _ _ _ _)).mono ?_; rintro e w1 ⟨rfl, hb⟩; have HB := hide hb; clear hb; obtain ⟨k0, k1, k2, z0, z1, z2, a0, a1, a2⟩ := atom_boxes HB.out)
      have HO2 : Only (fun k => k = p ∨ w.heap.size ≤ k) w w1 := Only.of_below (belowt2 (below3a _ _ _ _) HB.out) _
      have HE := only_drop (((HO2.setCell (p := ⟨w.heap.size + 1, 0, none⟩) (.inr (Nat.le_add_right _ _)) (.string name.t)).setCell (p := ⟨w.heap.size + 1, 1, none⟩) (.inr (Nat.le_add_right _ _)) (.slice none 0 0)).setCell (p := ⟨w.heap.size + 1, 2, none⟩) (.inr (Nat.le_add_right _ _)) (.int .i64 (name.off : Int)))
      have HA2 := H0.out.box (H0.out.kept (belowt2 (below3a _ _ _ _) HB.out)) ((((Only.refl (fun b => w.heap.size ≤ b) w1).setCell (p := ⟨w.heap.size + 1, 0, none⟩) (Nat.le_add_right _ _) (.string name.t)).setCell (p := ⟨w.heap.size + 1, 1, none⟩) (Nat.le_add_right _ _) (.slice none 0 0)).setCell (p := ⟨w.heap.size + 1, 2, none⟩) (Nat.le_add_right _ _) (.int .i64 (name.off : Int)))
      exact bodyPost_ret (atom_res _ (w.heap.size + 1) _ _ _ _ rfl (box3_put (atom_box HB.out) _ _ _)) rfl ⟨⟨name.t, .slice none 0 0, name.off, []⟩, rfl, rfl, ⟨(good_parts hname).1, (good_parts hname).2, Lst.nil _ _ _⟩, HA2, HE⟩

end Go.Proofs.YtnfnihhbgpakkaaDoor

namespace Go.Proofs.YtnfnihhbgpakkaaDoor
set_option linter.unusedSimpArgs false
set_option linter.unusedVariables false
open Go.RowKit

theorem groundRes (W : World) (b : Nat) (u0 u1 u2 : Value) (tmps : Array Value) (ht : tmps[4]? = some (.pointer (some ⟨b, 0, none⟩))) (hb : W.heap[b]? = some (.cells #[u0, u1, u2] 36 (0, 0))) :
    (results Tryd.f31 tmps).run Tryd.prog W = .ok (.agg #[u0, u1, u2]) W := by
  obtain ⟨c0, c1, c2, -⟩ := box3_cells hb
  simp [results, Tryd.results31, go_sem, ht, c0, c1, c2]

set_option maxHeartbeats 1000000 in
set_option maxRecDepth 100000 in
theorem ground_any {w : World} {p : Nat} {ao : Option Addr} {cap : Nat} {L : List Tok} {c f : Int} {R : List Tok} (name : Tok) (h : Ahead w p ao cap L c f R) (hname : name.good) :
    Calls Tryd.prog 31 #[.pointer (some ⟨p, 0, none⟩), tokV name] w (AtmPost w p ao cap L c f (atomP c f valueKs name R)) := by
  have HC := hide (fun (W : World) (hb : Below w.heap.size w W) => atomValue name (h.kept hb) hname)
  have H0 := hide h
  have hp := h.lt
  clear h hname
  unfold tokV at *
  obtain ⟨res, hres⟩ : ∃ res, atomP c f valueKs name R = res := ⟨_, rfl⟩
  rw [hres] at HC ⊢
  clear hres
  cases res with
  | bad ec eo =>
    unfold AtmPost
    go_enter Tryd.func31, Tryd.ntmps31
    go_wp2_with (go_at_call 41; refine (HC.out _ (below2a _ _ _)).mono ?_; intro e w1 hq; obtain ⟨rfl, ho⟩ := atmPost_bad hq; clear hq)
    exact ⟨rfl, rfl, only_drop (only_wide (below2a _ _ _) ho)⟩
  | ok x r =>
    unfold AtmPost
    go_enter Tryd.func31, Tryd.ntmps31
    go_wp2_with (go_at_call 41; refine (HC.out _ (below2a _ _ _)).mono ?_; intro e w1 hq; obtain ⟨a, rfl, hpur, hok, ha, ho⟩ := atmPost_ok hq; clear hq; have HPu := hide hpur; have HOk := hide hok; have HA := hide ha; have HO := hide ho; have HBx := hide (second_box hp ho); clear hpur hok ha ho; unfold Atx.val; obtain ⟨q0, q1, q2, q3, q4, q5⟩ := box3_cells HBx.out; obtain ⟨va, vc, hv, -⟩ := HOk.out.2.2.shape)
    obtain ⟨z1, z2⟩ := fin_ahead H0.out HA.out (only_wide (below2a _ _ _) HO.out) (only_three (w.heap.size + 1) (.string a.p) a.v (.int .i64 a.off)) (by omega)
    have z3 := fin_ok elAtx (n := w.heap.size) HOk.out (only_three (w.heap.size + 1) (.string a.p) a.v (.int .i64 a.off)) (by simp) (by simp; omega)
    rw [hv] at z1 z2 z3
    exact bodyPost_ret (groundRes _ (w.heap.size + 1) _ _ _ _ rfl (box3_put HBx.out _ _ _)) rfl ⟨a, by unfold Atx.val; rw [hv], HPu.out, z3, z1, z2⟩
end Go.Proofs.YtnfnihhbgpakkaaDoor

namespace Go.Proofs.YtnfnihhbgpakkaaDoor
set_option linter.unusedSimpArgs false
set_option linter.unusedVariables false
open Go.RowKit

theorem Tryd.infoAtm : (Tryd.prog.info? 36).map (fun i => (i.zero, i.size, i.bytes)) = some (some (.agg #[.string ⟨#[]⟩, .slice none 0 0, .int .i64 0]), 3, 48) := by kernel_rfl

def FactsPost (w : World) (p : Nat) (ao : Option Addr) (cap : Nat) (L : List Tok) (c f : Int) (res : PR (List PAtom)) (e : Ending) (w' : World) : Prop :=
  match res with
  | .bad ec eo => e = PEnd ec eo ∧ Only (fun k => k = p) w w'
  | .ok b r => ∃ v ls, e = .returned v ∧ ls.map Atx.pur = b ∧ ls.length ≤ 4096 ∧ Grow elAtx 36 w.heap.size w' v ls ∧ Ahead w' p ao cap L c f r ∧ Only (fun k => k = p) w w'
theorem factsPost_bad {w w' : World} {p : Nat} {ao : Option Addr} {cap : Nat} {L : List Tok} {c f ec eo : Int} {e : Ending} (h : FactsPost w p ao cap L c f (.bad ec eo) e w') : e = PEnd ec eo ∧ Only (fun k => k = p) w w' := h
theorem factsPost_ok {w w' : World} {p : Nat} {ao : Option Addr} {cap : Nat} {L : List Tok} {c f : Int} {x : List PAtom} {r : List Tok} {e : Ending} (h : FactsPost w p ao cap L c f (.ok x r) e w') : ∃ v ls, e = .returned v ∧ ls.map Atx.pur = x ∧ ls.length ≤ 4096 ∧ Grow elAtx 36 w.heap.size w' v ls ∧ Ahead w' p ao cap L c f r ∧ Only (fun k => k = p) w w' := h

set_option maxHeartbeats 4000000 in
set_option maxRecDepth 100000 in
theorem facts_any {w : World} {p : Nat} {ao : Option Addr} {cap : Nat} {L : List Tok} {c f : Int} {R : List Tok} (h : Ahead w p ao cap L c f R) :
    Calls Tryd.prog 23 #[.pointer (some ⟨p, 0, none⟩)] w (FactsPost w p ao cap L c f (factsP c f R)) := by
  obtain ⟨res, hres⟩ : ∃ res, factsP c f R = res := ⟨_, rfl⟩
  rw [hres]
  have HRes0 : Hid (factsF c f (R.length + 1) [] R = res) := hres
  obtain ⟨Post, hPost⟩ : ∃ Post : Ending → World → Prop, Post = FactsPost w p ao cap L c f res := ⟨_, rfl⟩
  rw [← hPost]
  have PB : Hid (∀ ec eo w', res = .bad ec eo → Only (fun k => k = p) w w' → Post (PEnd ec eo) w') := fun ec eo w' hr ho => by
    rw [hPost, hr]; exact ⟨rfl, ho⟩
  have PG : Hid (∀ b r' v ls w', res = .ok b r' → ls.map Atx.pur = b → ls.length ≤ 4096 → Grow elAtx 36 w.heap.size w' v ls → Ahead w' p ao cap L c f r' → Only (fun k => k = p) w w' → Post (.returned v) w') := fun b r' v ls w' hr h1 h2 h3 h4 h5 => by
    rw [hPost, hr]; exact ⟨v, ls, rfl, h1, h2, h3, h4, h5⟩
  have HC0 := hide (Coll3.start (E := elAtx) (e := 36) h)
  clear hPost h hres
  go_enter Tryd.func23, Tryd.ntmps23
  go_wp2
  go_loopw [3] (fun v wr => ∃ (n : Nat) (ls : List Atx) (R1 : List Tok), ls.length ≤ 4096 ∧ R1.length < n ∧ Hid (Coll3 elAtx 36 w wr p ao cap L c f R1 w.heap.size v ls) ∧ Hid (factsF c f n (ls.map Atx.pur) R1 = res)) (fun _ wr => 70000 - (intOf ((wr.cell? ⟨p, 4, none⟩).getD undef)).toNat)
  case atStart => exact ⟨R.length + 1, [], R, by simp, by omega, HC0, HRes0⟩
  case round =>
    clear HC0 HRes0
    obtain ⟨n, ls, R1, hls, hn, HC, HRes⟩ := hrel
    obtain ⟨n, rfl⟩ : ∃ m, n = m + 1 := ⟨n - 1, by omega⟩
    obtain ⟨va, vc, rfl, -⟩ := HC.out.gr.shape
    cases hT : takeP c f [1, 0] R1 with
    | bad ec eo =>
      have HT : Hid (∀ (W : World) (g : Nat), W.heap.size = g → Ahead W p ao cap L c f R1 → Calls Tryd.prog 32 #[.pointer (some ⟨p, 0, none⟩), .slice (some ⟨g, 0, none⟩) 2 2] (W.alloc (.cells #[.int .i64 1, .int .i64 0] 3)) fun e w' => e = PEnd ec eo ∧ Below W.heap.size W w') := fun W g hg ha => hg ▸ take_lit_fail [1, 0] ha (by decide) hT
      have HX : Hid (res = .bad ec eo) := by show _ = _; rw [← HRes.out]; exact facts_bad1 hT
      clear hT
      go_wp2_with (go_at_call 32; refine (HT.out _ _ rfl HC.out.ah).mono ?_; rintro e w1 ⟨rfl, hb1⟩)
      exact ⟨rfl, PB.out _ _ _ HX.out (HC.out.below hb1).end_⟩
    | ok t r1 =>
      have HT : Hid (∀ (W : World) (g : Nat), W.heap.size = g → Ahead W p ao cap L c f R1 → Calls Tryd.prog 32 #[.pointer (some ⟨p, 0, none⟩), .slice (some ⟨g, 0, none⟩) 2 2] (W.alloc (.cells #[.int .i64 1, .int .i64 0] 3)) fun e w' => e = .returned (tokV t) ∧ Ahead w' p ao cap L c f r1 ∧ Only (fun b => b = p) W w') := fun W g hg ha => hg ▸ take_lit_good [1, 0] ha (by decide) hT
      have htg : t.good := HC.out.ah.good t (by rw [(take_eq hT).1]; exact List.mem_cons_self)
      have l1 := take_len hT
      unfold tokV at HT
      by_cases h0 : t.k = 0
      · have e0 : (t.k == 0) = true := by simpa using h0
        have HX : Hid (res = .ok (ls.map Atx.pur) r1) := by show _ = _; rw [← HRes.out]; exact facts_end hT h0
        clear hT h0
        go_wp2_with (go_at_call 32; refine (HT.out _ _ rfl HC.out.ah).mono ?_; rintro e w1 ⟨rfl, ha1, ho1⟩; have HC1 := hide ((HC.out.move ho1 ha1).below (belowA w1 (.cells #[.int .i64 t.k, .string t.t, .int .i64 t.n, .int .i64 t.op, .int .i64 (t.off : Int), .int .i64 (t.en : Int)] 85))); clear ha1 ho1 HT)
        exact PG.out _ _ _ _ _ HX.out rfl hls HC1.out.gr HC1.out.ah HC1.out.end_
      · have e0 : (t.k == 0) = false := by simpa using h0
        by_cases hmx : ls.length = 4096
        · have HLm := hide (limit_eq (ls.length : Int) 4096 24 (t.off : Int) (h := by omega))
          have HX : Hid (res = .bad 24 (t.off : Int)) := by show _ = _; rw [← HRes.out]; exact facts_lim hT h0 (by rw [List.length_map]; exact hmx)
          clear hT h0 hmx hls
          go_wp2_with (first
            | (go_at_call 32; refine (HT.out _ _ rfl HC.out.ah).mono ?_; rintro e w1 ⟨rfl, ha1, ho1⟩; have HC1 := hide ((HC.out.move ho1 ha1).below (belowA w1 (.cells #[.int .i64 t.k, .string t.t, .int .i64 t.n, .int .i64 t.op, .int .i64 (t.off : Int), .int .i64 (t.en : Int)] 85))); clear ha1 ho1 HT)
            | (go_at_call 34; refine (HLm.out _).mono ?_; rintro e w2 ⟨rfl, hw⟩; have hw := hw.symm; subst hw))
          exact ⟨rfl, PB.out _ _ _ HX.out HC1.out.end_⟩
        · have HLm := hide (limit_ok (ls.length : Int) 4096 24 (t.off : Int) (h := by omega))
          have hls4 : ls.length < 4096 := by omega
          have HG0 := fun (W : World) (ha : Ahead W p ao cap L c f r1) => ground_any t ha htg
          unfold tokV at HG0
          cases hC : atomP c f valueKs t r1 with
          | bad ec eo =>
            rw [hC] at HG0
            have HGd := hide HG0
            have HX : Hid (res = .bad ec eo) := by show _ = _; rw [← HRes.out]; exact facts_atom hT h0 (by rw [List.length_map]; exact hmx) hC
            clear hT h0 hmx hC HG0
            go_wp2_with (first
              | (go_at_call 32; refine (HT.out _ _ rfl HC.out.ah).mono ?_; rintro e w1 ⟨rfl, ha1, ho1⟩; have HC1 := hide ((HC.out.move ho1 ha1).below (belowA w1 (.cells #[.int .i64 t.k, .string t.t, .int .i64 t.n, .int .i64 t.op, .int .i64 (t.off : Int), .int .i64 (t.en : Int)] 85))); clear ha1 ho1 HT)
              | (go_at_call 34; refine (HLm.out _).mono ?_; rintro e w2 ⟨⟨v2, rfl⟩, hw⟩; have hw := hw.symm; subst hw)
              | (go_at_call 31; refine (HGd.out _ HC1.out.ah).mono ?_; intro e w3 hq; obtain ⟨rfl, ho3⟩ := atmPost_bad hq; clear hq))
            exact ⟨rfl, PB.out _ _ _ HX.out (HC1.out.endM ho3)⟩
          | ok x r2 =>
            rw [hC] at HG0
            have HGd := hide HG0
            have l2 := atom_len hC
            clear HG0
            cases hD : takeP c f [8] r2 with
            | bad ec eo =>
              have HU : Hid (∀ (W : World) (g : Nat), W.heap.size = g → Ahead W p ao cap L c f r2 → Calls Tryd.prog 32 #[.pointer (some ⟨p, 0, none⟩), .slice (some ⟨g, 0, none⟩) 1 1] (W.alloc (.cells #[.int .i64 8] 3)) fun e w' => e = PEnd ec eo ∧ Below W.heap.size W w') := fun W g hg ha => hg ▸ take_lit_fail [8] ha (by decide) hD
              have HX : Hid (res = .bad ec eo) := by show _ = _; rw [← HRes.out]; exact facts_dot hT h0 (by rw [List.length_map]; exact hmx) hC hD
              clear hT h0 hmx hC hD
              go_wp2_with (first
                | (go_at_call 32; refine (HT.out _ _ rfl HC.out.ah).mono ?_; rintro e w1 ⟨rfl, ha1, ho1⟩; have HC1 := hide ((HC.out.move ho1 ha1).below (belowA w1 (.cells #[.int .i64 t.k, .string t.t, .int .i64 t.n, .int .i64 t.op, .int .i64 (t.off : Int), .int .i64 (t.en : Int)] 85))); clear ha1 ho1 HT)
                | (go_at_call 34; refine (HLm.out _).mono ?_; rintro e w2 ⟨⟨v2, rfl⟩, hw⟩; have hw := hw.symm; subst hw)
                | (go_at_call 31; refine (HGd.out _ HC1.out.ah).mono ?_; intro e w3 hq; obtain ⟨⟨ap, av, aoff, ats⟩, rfl, hpur, hok, ha3, ho3⟩ := atmPost_ok hq; clear hq; obtain ⟨xa, xc, rfl, -⟩ := (show Lst elTrm _ _ av ats from hok.2.2).shape; have HPu := hide hpur; have HOk := hide (HC1.out.gr.behind HC1.out.hi elAtx hok); have HC3 := hide (HC1.out.move ho3 ha3); have HC4 := hide (HC3.out.below (belowA w3 (.cells #[.string ap, .slice xa ats.length xc, .int .i64 aoff] 36))); have HOk4 := hide (elAtx.move HOk.out fun b hlt hF => ⟨hF, (belowA w3 (.cells #[.string ap, .slice xa ats.length xc, .int .i64 aoff] 36)).block b hlt⟩); clear hpur hok ha3 ho3 HOk HGd; unfold Atx.val)
                | (at_builtin; obtain ⟨i0, hi0, hz0, hz1, hz2⟩ := info_parts Tryd.infoAtm; refine wpList_push (w0 := w3.alloc (.cells #[.string ap, .slice xa ats.length xc, .int .i64 aoff] 36)) elAtx rfl _ _ 30 rfl w.heap.size 36 i0 _ 48 Tryd.underlying30 hi0 hz0 hz1 hz2 rfl (by decide) _ ls ls.length rfl rfl HC4.out.gr ⟨ap, .slice xa ats.length xc, aoff, ats⟩ w3.heap.size 1 rfl (fun j u hu => new_cells (cs := #[.string ap, .slice xa ats.length xc, .int .i64 aoff]) j u hu) HOk4.out (by omega) (Below.refl _ _) HC4.out.hi ?_; intro g cap' w5 HG5 HB5 HGr; clear HB5 hi0 hz0 hz1 hz2; have HC5 := hide (HC4.out.grown HGr.out HG5.out); clear HG5 HGr HC4 HOk4)
                | (go_at_call 32; refine (HU.out _ _ rfl HC5.out.ah).mono ?_; rintro e w6 ⟨rfl, hb6⟩))
              exact ⟨rfl, PB.out _ _ _ HX.out (HC5.out.below hb6).end_⟩
            | ok s r3 =>
              have HU : Hid (∀ (W : World) (g : Nat), W.heap.size = g → Ahead W p ao cap L c f r2 → Calls Tryd.prog 32 #[.pointer (some ⟨p, 0, none⟩), .slice (some ⟨g, 0, none⟩) 1 1] (W.alloc (.cells #[.int .i64 8] 3)) fun e w' => e = .returned (tokV s) ∧ Ahead w' p ao cap L c f r3 ∧ Only (fun b => b = p) W w') := fun W g hg ha => hg ▸ take_lit_good [8] ha (by decide) hD
              have l3 := take_len hD
              have HX : Hid (factsF c f n (ls.map Atx.pur ++ [x]) r3 = res) := by show _ = _; rw [← HRes.out]; exact (facts_more hT h0 (by rw [List.length_map]; exact hmx) hC hD).symm
              have HLn : Hid (r3.length < R1.length ∧ r3.length < n) := ⟨by omega, by omega⟩
              obtain ⟨ix, isz⟩ := HC.out.ah.index
              have HIx := hide (And.intro ix isz)
              clear hT h0 hmx hC hD l1 l2 l3 ix isz
              go_wp2_with (first
                | (go_at_call 32; refine (HT.out _ _ rfl HC.out.ah).mono ?_; rintro e w1 ⟨rfl, ha1, ho1⟩; have HC1 := hide ((HC.out.move ho1 ha1).below (belowA w1 (.cells #[.int .i64 t.k, .string t.t, .int .i64 t.n, .int .i64 t.op, .int .i64 (t.off : Int), .int .i64 (t.en : Int)] 85))); clear ha1 ho1 HT)
                | (go_at_call 34; refine (HLm.out _).mono ?_; rintro e w2 ⟨⟨v2, rfl⟩, hw⟩; have hw := hw.symm; subst hw)
                | (go_at_call 31; refine (HGd.out _ HC1.out.ah).mono ?_; intro e w3 hq; obtain ⟨⟨ap, av, aoff, ats⟩, rfl, hpur, hok, ha3, ho3⟩ := atmPost_ok hq; clear hq; obtain ⟨xa, xc, rfl, -⟩ := (show Lst elTrm _ _ av ats from hok.2.2).shape; have HPu := hide hpur; have HOk := hide (HC1.out.gr.behind HC1.out.hi elAtx hok); have HC3 := hide (HC1.out.move ho3 ha3); have HC4 := hide (HC3.out.below (belowA w3 (.cells #[.string ap, .slice xa ats.length xc, .int .i64 aoff] 36))); have HOk4 := hide (elAtx.move HOk.out fun b hlt hF => ⟨hF, (belowA w3 (.cells #[.string ap, .slice xa ats.length xc, .int .i64 aoff] 36)).block b hlt⟩); clear hpur hok ha3 ho3 HOk HGd; unfold Atx.val)
                | (at_builtin; obtain ⟨i0, hi0, hz0, hz1, hz2⟩ := info_parts Tryd.infoAtm; refine wpList_push (w0 := w3.alloc (.cells #[.string ap, .slice xa ats.length xc, .int .i64 aoff] 36)) elAtx rfl _ _ 30 rfl w.heap.size 36 i0 _ 48 Tryd.underlying30 hi0 hz0 hz1 hz2 rfl (by decide) _ ls ls.length rfl rfl HC4.out.gr ⟨ap, .slice xa ats.length xc, aoff, ats⟩ w3.heap.size 1 rfl (fun j u hu => new_cells (cs := #[.string ap, .slice xa ats.length xc, .int .i64 aoff]) j u hu) HOk4.out (by omega) (Below.refl _ _) HC4.out.hi ?_; intro g cap' w5 HG5 HB5 HGr; clear HB5 hi0 hz0 hz1 hz2; have HC5 := hide (HC4.out.grown HGr.out HG5.out); clear HG5 HGr HC4 HOk4)
                | (go_at_call 32; refine (HU.out _ _ rfl HC5.out.ah).mono ?_; rintro e w6 ⟨rfl, ha6, ho6⟩; have HC6 := hide (HC5.out.move ho6 ha6); clear ha6 ho6))
              go_roundw
              case rel => exact ⟨n, ls ++ [⟨ap, .slice xa ats.length xc, aoff, ats⟩], r3, by simp; omega, HLn.out.2, HC6, by show _ = _; rw [List.map_append, List.map_singleton, HPu.out]; exact HX.out⟩
              case measure =>
                obtain ⟨jx, -⟩ := HC6.out.ah.index
                have h1 := HLn.out
                have h2 := HIx.out
                omega

set_option maxHeartbeats 1000000 in
set_option maxRecDepth 100000 in
theorem query_any {w : World} {p : Nat} {ao : Option Addr} {cap : Nat} {L : List Tok} {c f : Int} {R : List Tok} (h : Ahead w p ao cap L c f R) :
    Calls Tryd.prog 27 #[.pointer (some ⟨p, 0, none⟩)] w (BodyPost w p ao cap L c f (queryP c f R)) := by
  have HB0 := body_any h
  have hp := h.lt
  clear h
  cases hB : bodyP c f R with
  | bad ec eo =>
    rw [hB] at HB0
    have HBo := hide HB0
    rw [show queryP c f R = .bad ec eo from by unfold queryP; rw [hB]]
    clear HB0 hB
    unfold BodyPost
    go_enter Tryd.func27, Tryd.ntmps27
    go_wp2_with (go_at_call 38; refine HBo.out.mono ?_; intro e w1 hq; obtain ⟨rfl, ho1⟩ := bodyPost_bad hq; clear hq)
    exact ⟨rfl, rfl, ho1⟩
  | ok b r1 =>
    rw [hB] at HB0
    have HBo := hide HB0
    clear HB0
    cases hT : takeP c f [0] r1 with
    | bad ec eo =>
      have HU : Hid (∀ (W : World) (g : Nat), W.heap.size = g → Ahead W p ao cap L c f r1 → Calls Tryd.prog 32 #[.pointer (some ⟨p, 0, none⟩), .slice (some ⟨g, 0, none⟩) 1 1] (W.alloc (.cells #[.int .i64 0] 3)) fun e w' => e = PEnd ec eo ∧ Below W.heap.size W w') := fun W g hg ha => hg ▸ take_lit_fail [0] ha (by decide) hT
      rw [show queryP c f R = .bad ec eo from by unfold queryP; rw [hB]; simp only; rw [hT]]
      clear hB hT
      unfold BodyPost
      go_enter Tryd.func27, Tryd.ntmps27
      go_wp2_with (first
        | (go_at_call 38; refine HBo.out.mono ?_; intro e w1 hq; obtain ⟨bv, ls, rfl, hpur, hl, hgr, ha1, ho1⟩ := bodyPost_ok hq; clear hq; have HPu := hide hpur; have HL1 := hide hl; have HG1 := hide hgr; have HA1 := hide ha1; have HO1 := hide ho1; obtain ⟨ba, bc, rfl, -⟩ := hgr.shape; clear hpur hl hgr ha1 ho1)
        | (go_at_call 32; refine (HU.out _ _ rfl HA1.out).mono ?_; rintro e w2 ⟨rfl, hb2⟩))
      exact ⟨rfl, rfl, HO1.out.trans (Only.of_below hb2 _)⟩
    | ok s r2 =>
      have HU : Hid (∀ (W : World) (g : Nat), W.heap.size = g → Ahead W p ao cap L c f r1 → Calls Tryd.prog 32 #[.pointer (some ⟨p, 0, none⟩), .slice (some ⟨g, 0, none⟩) 1 1] (W.alloc (.cells #[.int .i64 0] 3)) fun e w' => e = .returned (tokV s) ∧ Ahead w' p ao cap L c f r2 ∧ Only (fun b => b = p) W w') := fun W g hg ha => hg ▸ take_lit_good [0] ha (by decide) hT
      rw [show queryP c f R = .ok b r2 from by unfold queryP; rw [hB]; simp only; rw [hT]]
      clear hB hT
      obtain ⟨Post, hPost⟩ : ∃ Post : Ending → World → Prop, Post = BodyPost w p ao cap L c f (.ok b r2) := ⟨_, rfl⟩
      rw [← hPost]
      have PG : Hid (∀ v ls w', ls.map Lix.pur = b → ls.length ≤ 16 → Grow elLix 69 w.heap.size w' v ls → Ahead w' p ao cap L c f r2 → Only (fun k => k = p) w w' → Post (.returned v) w') := fun v ls w' h1 h2 h3 h4 h5 => by
        rw [hPost]; exact ⟨v, ls, rfl, h1, h2, h3, h4, h5⟩
      clear hPost
      go_enter Tryd.func27, Tryd.ntmps27
      go_wp2_with (first
        | (go_at_call 38; refine HBo.out.mono ?_; intro e w1 hq; obtain ⟨bv, ls, rfl, hpur, hl, hgr, ha1, ho1⟩ := bodyPost_ok hq; clear hq; have HPu := hide hpur; have HL1 := hide hl; have HG1 := hide hgr; have HA1 := hide ha1; have HO1 := hide ho1; obtain ⟨ba, bc, rfl, -⟩ := hgr.shape; clear hpur hl hgr ha1 ho1)
        | (go_at_call 32; refine (HU.out _ _ rfl HA1.out).mono ?_; rintro e w2 ⟨rfl, ha2, ho2⟩; have HA2 := hide ha2; have HO2 := hide ho2; clear ha2 ho2))
      first
        | exact PG.out _ _ _ HPu.out HL1.out (HG1.out.above fun k hk hlt => HO2.out.block k hlt (by omega)) HA2.out (HO1.out.trans HO2.out)
        | (go_ret; exact PG.out _ _ _ HPu.out HL1.out (HG1.out.above fun k hk hlt => HO2.out.block k hlt (by omega)) HA2.out (HO1.out.trans HO2.out))
end Go.Proofs.YtnfnihhbgpakkaaDoor

namespace Go.Proofs.YtnfnihhbgpakkaaDoor
set_option linter.unusedSimpArgs false
set_option linter.unusedVariables false
open Go.RowKit

def ReadFacts (w : World) (s : ByteArray) (e : Ending) (w' : World) : Prop :=
  match factsP (scanX s).2.1 ((scanX s).2.2 : Int) (scanX s).1 with
  | .bad ec eo => e = .returned (.tuple #[.slice none 0 0, faultV ec eo]) ∧ Below w.heap.size w w'
  | .ok b _ => ∃ v cs, e = .returned (.tuple #[v, faultV 0 0]) ∧ cs.map Atx.pur = b ∧ cs.length ≤ 4096 ∧ Lst elAtx w' (fun k => w.heap.size ≤ k) v cs ∧ Below w.heap.size w w'

set_option maxRecDepth 100000 in
set_option maxHeartbeats 2000000 in
theorem readFacts_any (s : ByteArray) (w : World) (hl : LexLaid w) (hs : s.size ≤ 140737488351232) :
    Calls Tryd.prog 22 #[.string s, .func (.func 23) #[] #[]] w (ReadFacts w s) := by
  have hmf : ∀ (fn : Fn) (first cap : Array Value) (w : World), (Instr.makeFunc fn first cap).run Tryd.prog w = .ok (.func fn first cap) w := fun _ _ _ _ => rfl
  have HSc := hide (fun (W : World) (hb : Below w.heap.size w W) => scan_any s W (hl.kept hb) hs)
  clear hl hs
  unfold faultVal at HSc
  obtain ⟨res, hres⟩ : ∃ res, factsP (scanX s).2.1 ((scanX s).2.2 : Int) (scanX s).1 = res := ⟨_, rfl⟩
  obtain ⟨Post, hPost⟩ : ∃ Post : Ending → World → Prop, Post = ReadFacts w s := ⟨_, rfl⟩
  rw [← hPost]
  have PB : Hid (∀ ec eo w', res = .bad ec eo → Below w.heap.size w w' → Post (.returned (.tuple #[.slice none 0 0, .agg #[.int .i64 ec, .int .i64 0, .int .i64 eo]])) w') := fun ec eo w' hr hb => by
    rw [hPost]; unfold ReadFacts; rw [hres, hr]; exact ⟨rfl, hb⟩
  have PG : Hid (∀ b r v cs w', res = .ok b r → cs.map Atx.pur = b → cs.length ≤ 4096 → Lst elAtx w' (fun k => w.heap.size ≤ k) v cs → Below w.heap.size w w' → Post (.returned (.tuple #[v, .agg #[.int .i64 0, .int .i64 0, .int .i64 0]])) w') := fun b r v cs w' hr h1 h2 h3 h4 => by
    rw [hPost]; unfold ReadFacts; rw [hres, hr]; exact ⟨v, cs, rfl, h1, h2, h3, h4⟩
  have HR := hide hres
  clear hPost hres
  go_enter_defers Tryd.func22, Tryd.ntmps22
  go_wp2_with (go_at_call 30; refine (HSc.out _ (belowA _ _)).mono ?_; rintro e w1 ⟨v, rfl, ho1, hb1⟩; obtain ⟨ao, cap, rfl⟩ := own_shape ho1; have HO1 := hide ho1; have HB1 := hide hb1; clear ho1 hb1)
  have hs1 : w.heap.size + 1 ≤ w1.heap.size := by have := HB1.out.size; simp at this; omega
  have HA := hide (scan_ahead HB1.out HO1.out (W2 := (w1.alloc (.cells #[.int .i64 (scanX s).2.1, .int .i64 0, .int .i64 ((scanX s).2.2 : Int)] 27)).alloc (.cells #[.slice ao (scanX s).1.length cap, .int .i64 (scanX s).2.1, .int .i64 0, .int .i64 ((scanX s).2.2 : Int), .int .i64 0] 82)) (below2a w1 _ _) rfl (p := w1.heap.size + 1) (by omega) (by have := heap_alloc_new (w1.alloc (.cells #[.int .i64 (scanX s).2.1, .int .i64 0, .int .i64 ((scanX s).2.2 : Int)] 27)) (.cells #[.slice ao (scanX s).1.length cap, .int .i64 (scanX s).2.1, .int .i64 0, .int .i64 ((scanX s).2.2 : Int), .int .i64 0] 82); simpa using this))
  have HP := facts_any HA.out
  rw [HR.out] at HP
  have HK : Hid (∀ w2, Only (fun k => k = w1.heap.size + 1) ((w1.alloc (.cells #[.int .i64 (scanX s).2.1, .int .i64 0, .int .i64 ((scanX s).2.2 : Int)] 27)).alloc (.cells #[.slice ao (scanX s).1.length cap, .int .i64 (scanX s).2.1, .int .i64 0, .int .i64 ((scanX s).2.2 : Int), .int .i64 0] 82)) w2 → w2.heap[w.heap.size]? = some (.cells #[.int .i64 0, .int .i64 0, .int .i64 0] 27 (0, 0)) ∧ Only (fun k => w.heap.size ≤ k) w w2) := fun w2 ho => by
    have q : ∀ k, k < w.heap.size + 1 → w2.heap[k]? = (w.alloc (.cells #[.int .i64 0, .int .i64 0, .int .i64 0] 27)).heap[k]? := fun k hk => by
      rw [ho.block k (by simp; omega) (by omega), (below2a w1 _ _).block k (by omega), HB1.out.block k (by simp; omega)]
    refine ⟨?_, ((Only.of_below (belowA w _) _).trans (Only.of_below HB1.out _)).trans ((Only.of_below (below2a w1 _ _) _).trans (ho.mono fun k _ (e : k = w1.heap.size + 1) => by omega))⟩
    rw [q _ (by omega)]; exact heap_alloc_new w _
  clear HO1 HB1 HSc HR
  cases res with
  | bad ec eo =>
    refine HP.mono ?_
    intro e w2 hq
    obtain ⟨rfl, ho2⟩ := factsPost_bad hq
    obtain ⟨k1, k2⟩ := HK.out w2 ho2
    clear hq HP HA
    refine leaves_cons (f := 33) (args := #[.pointer (some ⟨w.heap.size, 0, none⟩)]) (by simp) (by simp [go_sem]) ?_
    refine (caughtFacts w.heap.size ec eo [] w2 k1).mono ?_
    rintro e u' w3 ⟨rfl, rfl, h3, o3⟩
    obtain ⟨⟨d0, d1, d2⟩, -⟩ := fault_cells h3
    have HF := hide (PB.out ec eo w3 rfl ((k2.trans (o3.mono fun k _ (e : k = w.heap.size) => by omega)).below (Nat.le_refl _) (fun k hk e => by omega)))
    clear o3 h3 k1 k2
    simp [Leaves, settle, results, Tryd.results22, go_sem, d0, d1, d2]
    exact HF.out
  | ok b r =>
    refine HP.mono ?_
    intro e w2 hq
    obtain ⟨v, cs, rfl, hpur, hlen, hgr, ha2, ho2⟩ := factsPost_ok hq
    obtain ⟨va, vc, rfl, -⟩ := hgr.shape
    obtain ⟨k1, k2⟩ := HK.out w2 ho2
    have HPu := hide hpur
    have HLn := hide hlen
    have HG := hide (hgr.new (by omega))
    have HK2 := hide k2
    clear hq HP HA hpur hlen hgr ha2 ho2
    obtain ⟨⟨d0, d1, d2⟩, ⟨y0, y1, y2⟩⟩ := fault_cells k1
    go_wp2_with fail
    have hO : Only (fun k => k = w.heap.size) w2 (((w2.setCell ⟨w.heap.size, 0, none⟩ (.int .i64 0)).setCell ⟨w.heap.size, 1, none⟩ (.int .i64 0)).setCell ⟨w.heap.size, 2, none⟩ (.int .i64 0)) := (((Only.refl (fun k => k = w.heap.size) w2).setCell (p := ⟨w.heap.size, 0, none⟩) rfl _).setCell (p := ⟨w.heap.size, 1, none⟩) rfl _).setCell (p := ⟨w.heap.size, 2, none⟩) rfl _
    have hV1 : (((w2.setCell ⟨w.heap.size, 0, none⟩ (.int .i64 0)).setCell ⟨w.heap.size, 1, none⟩ (.int .i64 0)).setCell ⟨w.heap.size, 2, none⟩ (.int .i64 0)).heap[w.heap.size]? = some (.cells #[.int .i64 0, .int .i64 0, .int .i64 0] 27 (0, 0)) := by simp [World.setCell, Array.getElem?_modify, k1]
    generalize ((w2.setCell ⟨w.heap.size, 0, none⟩ (.int .i64 0)).setCell ⟨w.heap.size, 1, none⟩ (.int .i64 0)).setCell ⟨w.heap.size, 2, none⟩ (.int .i64 0) = V at hO hV1 ⊢
    clear d0 d1 d2 y0 y1 y2 k1
    refine leaves_cons (f := 33) (args := #[.pointer (some ⟨w.heap.size, 0, none⟩)]) (by simp) (by simp [go_sem]) ?_
    refine (idleFacts ⟨w.heap.size, 0, none⟩ V).mono ?_
    rintro e u' w3 ⟨rfl, rfl, hw⟩
    have hw := hw.symm
    subst hw
    obtain ⟨⟨d0, d1, d2⟩, -⟩ := fault_cells hV1
    have HF := hide (PG.out b r (.slice va cs.length vc) cs V rfl HPu.out HLn.out (HG.out.move fun k hk hF => ⟨by simp at hF; omega, hO.block k hk (by simp at hF; omega)⟩) ((HK2.out.trans (hO.mono fun k _ (e : k = w.heap.size) => by omega)).below (Nat.le_refl _) (fun k hk e => by omega)))
    clear hO hV1
    simp [Leaves, settle, results, Tryd.results22, go_sem, d0, d1, d2]
    exact HF.out
end Go.Proofs.YtnfnihhbgpakkaaDoor

namespace Go.Proofs.YtnfnihhbgpakkaaDoor
set_option linter.unusedSimpArgs false
set_option linter.unusedVariables false
open Go.RowKit

def ReadQuery (w : World) (s : ByteArray) (e : Ending) (w' : World) : Prop :=
  match queryP (scanX s).2.1 ((scanX s).2.2 : Int) (scanX s).1 with
  | .bad ec eo => e = .returned (.tuple #[.slice none 0 0, faultV ec eo]) ∧ Below w.heap.size w w'
  | .ok b _ => ∃ v cs, e = .returned (.tuple #[v, faultV 0 0]) ∧ cs.map Lix.pur = b ∧ cs.length ≤ 16 ∧ Lst elLix w' (fun k => w.heap.size ≤ k) v cs ∧ Below w.heap.size w w'

set_option maxRecDepth 100000 in
set_option maxHeartbeats 2000000 in
theorem readQuery_any (s : ByteArray) (w : World) (hl : LexLaid w) (hs : s.size ≤ 140737488351232) :
    Calls Tryd.prog 26 #[.string s, .func (.func 27) #[] #[]] w (ReadQuery w s) := by
  have hmf : ∀ (fn : Fn) (first cap : Array Value) (w : World), (Instr.makeFunc fn first cap).run Tryd.prog w = .ok (.func fn first cap) w := fun _ _ _ _ => rfl
  have HSc := hide (fun (W : World) (hb : Below w.heap.size w W) => scan_any s W (hl.kept hb) hs)
  clear hl hs
  unfold faultVal at HSc
  obtain ⟨res, hres⟩ : ∃ res, queryP (scanX s).2.1 ((scanX s).2.2 : Int) (scanX s).1 = res := ⟨_, rfl⟩
  obtain ⟨Post, hPost⟩ : ∃ Post : Ending → World → Prop, Post = ReadQuery w s := ⟨_, rfl⟩
  rw [← hPost]
  have PB : Hid (∀ ec eo w', res = .bad ec eo → Below w.heap.size w w' → Post (.returned (.tuple #[.slice none 0 0, .agg #[.int .i64 ec, .int .i64 0, .int .i64 eo]])) w') := fun ec eo w' hr hb => by
    rw [hPost]; unfold ReadQuery; rw [hres, hr]; exact ⟨rfl, hb⟩
  have PG : Hid (∀ b r v cs w', res = .ok b r → cs.map Lix.pur = b → cs.length ≤ 16 → Lst elLix w' (fun k => w.heap.size ≤ k) v cs → Below w.heap.size w w' → Post (.returned (.tuple #[v, .agg #[.int .i64 0, .int .i64 0, .int .i64 0]])) w') := fun b r v cs w' hr h1 h2 h3 h4 => by
    rw [hPost]; unfold ReadQuery; rw [hres, hr]; exact ⟨v, cs, rfl, h1, h2, h3, h4⟩
  have HR := hide hres
  clear hPost hres
  go_enter_defers Tryd.func26, Tryd.ntmps26
  go_wp2_with (go_at_call 30; refine (HSc.out _ (belowA _ _)).mono ?_; rintro e w1 ⟨v, rfl, ho1, hb1⟩; obtain ⟨ao, cap, rfl⟩ := own_shape ho1; have HO1 := hide ho1; have HB1 := hide hb1; clear ho1 hb1)
  have hs1 : w.heap.size + 1 ≤ w1.heap.size := by have := HB1.out.size; simp at this; omega
  have HA := hide (scan_ahead HB1.out HO1.out (W2 := (w1.alloc (.cells #[.int .i64 (scanX s).2.1, .int .i64 0, .int .i64 ((scanX s).2.2 : Int)] 27)).alloc (.cells #[.slice ao (scanX s).1.length cap, .int .i64 (scanX s).2.1, .int .i64 0, .int .i64 ((scanX s).2.2 : Int), .int .i64 0] 82)) (below2a w1 _ _) rfl (p := w1.heap.size + 1) (by omega) (by have := heap_alloc_new (w1.alloc (.cells #[.int .i64 (scanX s).2.1, .int .i64 0, .int .i64 ((scanX s).2.2 : Int)] 27)) (.cells #[.slice ao (scanX s).1.length cap, .int .i64 (scanX s).2.1, .int .i64 0, .int .i64 ((scanX s).2.2 : Int), .int .i64 0] 82); simpa using this))
  have HP := query_any HA.out
  rw [HR.out] at HP
  have HK : Hid (∀ w2, Only (fun k => k = w1.heap.size + 1) ((w1.alloc (.cells #[.int .i64 (scanX s).2.1, .int .i64 0, .int .i64 ((scanX s).2.2 : Int)] 27)).alloc (.cells #[.slice ao (scanX s).1.length cap, .int .i64 (scanX s).2.1, .int .i64 0, .int .i64 ((scanX s).2.2 : Int), .int .i64 0] 82)) w2 → w2.heap[w.heap.size]? = some (.cells #[.int .i64 0, .int .i64 0, .int .i64 0] 27 (0, 0)) ∧ Only (fun k => w.heap.size ≤ k) w w2) := fun w2 ho => by
    have q : ∀ k, k < w.heap.size + 1 → w2.heap[k]? = (w.alloc (.cells #[.int .i64 0, .int .i64 0, .int .i64 0] 27)).heap[k]? := fun k hk => by
      rw [ho.block k (by simp; omega) (by omega), (below2a w1 _ _).block k (by omega), HB1.out.block k (by simp; omega)]
    refine ⟨?_, ((Only.of_below (belowA w _) _).trans (Only.of_below HB1.out _)).trans ((Only.of_below (below2a w1 _ _) _).trans (ho.mono fun k _ (e : k = w1.heap.size + 1) => by omega))⟩
    rw [q _ (by omega)]; exact heap_alloc_new w _
  clear HO1 HB1 HSc HR
  cases res with
  | bad ec eo =>
    refine HP.mono ?_
    intro e w2 hq
    obtain ⟨rfl, ho2⟩ := bodyPost_bad hq
    obtain ⟨k1, k2⟩ := HK.out w2 ho2
    clear hq HP HA
    refine leaves_cons (f := 37) (args := #[.pointer (some ⟨w.heap.size, 0, none⟩)]) (by simp) (by simp [go_sem]) ?_
    refine (caughtQuery w.heap.size ec eo [] w2 k1).mono ?_
    rintro e u' w3 ⟨rfl, rfl, h3, o3⟩
    obtain ⟨⟨d0, d1, d2⟩, -⟩ := fault_cells h3
    have HF := hide (PB.out ec eo w3 rfl ((k2.trans (o3.mono fun k _ (e : k = w.heap.size) => by omega)).below (Nat.le_refl _) (fun k hk e => by omega)))
    clear o3 h3 k1 k2
    simp [Leaves, settle, results, Tryd.results26, go_sem, d0, d1, d2]
    exact HF.out
  | ok b r =>
    refine HP.mono ?_
    intro e w2 hq
    obtain ⟨v, cs, rfl, hpur, hlen, hgr, ha2, ho2⟩ := bodyPost_ok hq
    obtain ⟨va, vc, rfl, -⟩ := hgr.shape
    obtain ⟨k1, k2⟩ := HK.out w2 ho2
    have HPu := hide hpur
    have HLn := hide hlen
    have HG := hide (hgr.new (by omega))
    have HK2 := hide k2
    clear hq HP HA hpur hlen hgr ha2 ho2
    obtain ⟨⟨d0, d1, d2⟩, ⟨y0, y1, y2⟩⟩ := fault_cells k1
    go_wp2_with fail
    have hO : Only (fun k => k = w.heap.size) w2 (((w2.setCell ⟨w.heap.size, 0, none⟩ (.int .i64 0)).setCell ⟨w.heap.size, 1, none⟩ (.int .i64 0)).setCell ⟨w.heap.size, 2, none⟩ (.int .i64 0)) := (((Only.refl (fun k => k = w.heap.size) w2).setCell (p := ⟨w.heap.size, 0, none⟩) rfl _).setCell (p := ⟨w.heap.size, 1, none⟩) rfl _).setCell (p := ⟨w.heap.size, 2, none⟩) rfl _
    have hV1 : (((w2.setCell ⟨w.heap.size, 0, none⟩ (.int .i64 0)).setCell ⟨w.heap.size, 1, none⟩ (.int .i64 0)).setCell ⟨w.heap.size, 2, none⟩ (.int .i64 0)).heap[w.heap.size]? = some (.cells #[.int .i64 0, .int .i64 0, .int .i64 0] 27 (0, 0)) := by simp [World.setCell, Array.getElem?_modify, k1]
    generalize ((w2.setCell ⟨w.heap.size, 0, none⟩ (.int .i64 0)).setCell ⟨w.heap.size, 1, none⟩ (.int .i64 0)).setCell ⟨w.heap.size, 2, none⟩ (.int .i64 0) = V at hO hV1 ⊢
    clear d0 d1 d2 y0 y1 y2 k1
    refine leaves_cons (f := 37) (args := #[.pointer (some ⟨w.heap.size, 0, none⟩)]) (by simp) (by simp [go_sem]) ?_
    refine (idleQuery ⟨w.heap.size, 0, none⟩ V).mono ?_
    rintro e u' w3 ⟨rfl, rfl, hw⟩
    have hw := hw.symm
    subst hw
    obtain ⟨⟨d0, d1, d2⟩, -⟩ := fault_cells hV1
    have HF := hide (PG.out b r (.slice va cs.length vc) cs V rfl HPu.out HLn.out (HG.out.move fun k hk hF => ⟨by simp at hF; omega, hO.block k hk (by simp at hF; omega)⟩) ((HK2.out.trans (hO.mono fun k _ (e : k = w.heap.size) => by omega)).below (Nat.le_refl _) (fun k hk e => by omega)))
    clear hO hV1
    simp [Leaves, settle, results, Tryd.results26, go_sem, d0, d1, d2]
    exact HF.out
end Go.Proofs.YtnfnihhbgpakkaaDoor

namespace Go.Proofs.YtnfnihhbgpakkaaDoor
set_option linter.unusedSimpArgs false
set_option linter.unusedVariables false
open Go.RowKit

theorem progCell {V : World} {b : Nat} {u : Value} (h : V.heap[b]? = some (.cells #[u] 41 (0, 0))) : V.cell? ⟨b, 0, none⟩ = some u ∧ V.frozen? ⟨b, 0, none⟩ = false := by
  refine ⟨?_, ?_⟩ <;> simp [World.cell?, World.frozen?, h]

theorem readProg_bad {w w' : World} {s : ByteArray} {e : Ending} {ec eo : Int} (h : ReadProg w s e w') (hr : progP (scanX s).2.1 ((scanX s).2.2 : Int) (scanX s).1 = .bad ec eo) : e = .returned (.tuple #[.agg #[.slice none 0 0], faultV ec eo]) ∧ Below w.heap.size w w' := by
  unfold ReadProg at h
  rw [hr] at h
  exact h
theorem readProg_ok {w w' : World} {s : ByteArray} {e : Ending} {b} {r : List Tok} (h : ReadProg w s e w') (hr : progP (scanX s).2.1 ((scanX s).2.2 : Int) (scanX s).1 = .ok b r) : ∃ v cs, e = .returned (.tuple #[.agg #[v], faultV 0 0]) ∧ cs.map Clx.pur = b ∧ cs.length ≤ 512 ∧ Lst elClx w' (fun k => w.heap.size ≤ k) v cs ∧ Below w.heap.size w w' := by
  unfold ReadProg at h
  rw [hr] at h
  exact h
theorem readProg_mkb {w w' : World} {s : ByteArray} {ec eo : Int} (hr : progP (scanX s).2.1 ((scanX s).2.2 : Int) (scanX s).1 = .bad ec eo) (hb : Below w.heap.size w w') : ReadProg w s (.returned (.tuple #[.agg #[.slice none 0 0], faultV ec eo])) w' := by
  unfold ReadProg
  rw [hr]
  exact ⟨rfl, hb⟩
theorem readProg_mko {w w' : World} {s : ByteArray} {b} {r : List Tok} (hr : progP (scanX s).2.1 ((scanX s).2.2 : Int) (scanX s).1 = .ok b r) {v : Value} {cs : List Clx} (h1 : cs.map Clx.pur = b) (h2 : cs.length ≤ 512) (h3 : Lst elClx w' (fun k => w.heap.size ≤ k) v cs) (hb : Below w.heap.size w w') : ReadProg w s (.returned (.tuple #[.agg #[v], faultV 0 0])) w' := by
  unfold ReadProg
  rw [hr]
  exact ⟨v, cs, rfl, h1, h2, h3, hb⟩

theorem readFacts_bad {w w' : World} {s : ByteArray} {e : Ending} {ec eo : Int} (h : ReadFacts w s e w') (hr : factsP (scanX s).2.1 ((scanX s).2.2 : Int) (scanX s).1 = .bad ec eo) : e = .returned (.tuple #[.slice none 0 0, faultV ec eo]) ∧ Below w.heap.size w w' := by
  unfold ReadFacts at h
  rw [hr] at h
  exact h
theorem readFacts_ok {w w' : World} {s : ByteArray} {e : Ending} {b} {r : List Tok} (h : ReadFacts w s e w') (hr : factsP (scanX s).2.1 ((scanX s).2.2 : Int) (scanX s).1 = .ok b r) : ∃ v cs, e = .returned (.tuple #[v, faultV 0 0]) ∧ cs.map Atx.pur = b ∧ cs.length ≤ 4096 ∧ Lst elAtx w' (fun k => w.heap.size ≤ k) v cs ∧ Below w.heap.size w w' := by
  unfold ReadFacts at h
  rw [hr] at h
  exact h
theorem readFacts_mkb {w w' : World} {s : ByteArray} {ec eo : Int} (hr : factsP (scanX s).2.1 ((scanX s).2.2 : Int) (scanX s).1 = .bad ec eo) (hb : Below w.heap.size w w') : ReadFacts w s (.returned (.tuple #[.slice none 0 0, faultV ec eo])) w' := by
  unfold ReadFacts
  rw [hr]
  exact ⟨rfl, hb⟩
theorem readFacts_mko {w w' : World} {s : ByteArray} {b} {r : List Tok} (hr : factsP (scanX s).2.1 ((scanX s).2.2 : Int) (scanX s).1 = .ok b r) {v : Value} {cs : List Atx} (h1 : cs.map Atx.pur = b) (h2 : cs.length ≤ 4096) (h3 : Lst elAtx w' (fun k => w.heap.size ≤ k) v cs) (hb : Below w.heap.size w w') : ReadFacts w s (.returned (.tuple #[v, faultV 0 0])) w' := by
  unfold ReadFacts
  rw [hr]
  exact ⟨v, cs, rfl, h1, h2, h3, hb⟩

theorem readQuery_bad {w w' : World} {s : ByteArray} {e : Ending} {ec eo : Int} (h : ReadQuery w s e w') (hr : queryP (scanX s).2.1 ((scanX s).2.2 : Int) (scanX s).1 = .bad ec eo) : e = .returned (.tuple #[.slice none 0 0, faultV ec eo]) ∧ Below w.heap.size w w' := by
  unfold ReadQuery at h
  rw [hr] at h
  exact h
theorem readQuery_ok {w w' : World} {s : ByteArray} {e : Ending} {b} {r : List Tok} (h : ReadQuery w s e w') (hr : queryP (scanX s).2.1 ((scanX s).2.2 : Int) (scanX s).1 = .ok b r) : ∃ v cs, e = .returned (.tuple #[v, faultV 0 0]) ∧ cs.map Lix.pur = b ∧ cs.length ≤ 16 ∧ Lst elLix w' (fun k => w.heap.size ≤ k) v cs ∧ Below w.heap.size w w' := by
  unfold ReadQuery at h
  rw [hr] at h
  exact h
theorem readQuery_mkb {w w' : World} {s : ByteArray} {ec eo : Int} (hr : queryP (scanX s).2.1 ((scanX s).2.2 : Int) (scanX s).1 = .bad ec eo) (hb : Below w.heap.size w w') : ReadQuery w s (.returned (.tuple #[.slice none 0 0, faultV ec eo])) w' := by
  unfold ReadQuery
  rw [hr]
  exact ⟨rfl, hb⟩
theorem readQuery_mko {w w' : World} {s : ByteArray} {b} {r : List Tok} (hr : queryP (scanX s).2.1 ((scanX s).2.2 : Int) (scanX s).1 = .ok b r) {v : Value} {cs : List Lix} (h1 : cs.map Lix.pur = b) (h2 : cs.length ≤ 16) (h3 : Lst elLix w' (fun k => w.heap.size ≤ k) v cs) (hb : Below w.heap.size w w') : ReadQuery w s (.returned (.tuple #[v, faultV 0 0])) w' := by
  unfold ReadQuery
  rw [hr]
  exact ⟨v, cs, rfl, h1, h2, h3, hb⟩

set_option maxRecDepth 100000 in
set_option maxHeartbeats 2000000 in
theorem parseProgram_any (s : ByteArray) (w : World) (hl : LexLaid w) (hs : s.size ≤ 140737488351232) :
    Calls Tryd.prog 11 #[.string s] w (ReadProg w s) := by
  have HC := hide (fun (W : World) (hb : Below w.heap.size w W) => readProg_any s W (hl.kept hb) hs)
  clear hl hs
  obtain ⟨Post, hPost⟩ : ∃ Post : Ending → World → Prop, Post = ReadProg w s := ⟨_, rfl⟩
  rw [← hPost]
  have HK : Hid (∀ w2, Below ((w.alloc (.cells #[.slice none 0 0] 41)).alloc (.cells #[.int .i64 0, .int .i64 0, .int .i64 0] 27)).heap.size ((w.alloc (.cells #[.slice none 0 0] 41)).alloc (.cells #[.int .i64 0, .int .i64 0, .int .i64 0] 27)) w2 → w2.heap[w.heap.size]? = some (.cells #[.slice none 0 0] 41 (0, 0)) ∧ w2.heap[w.heap.size + 1]? = some (.cells #[.int .i64 0, .int .i64 0, .int .i64 0] 27 (0, 0)) ∧ Below w.heap.size w w2) := fun w2 hb => by
    refine ⟨?_, ?_, belowt2 (below2a w _ _) hb⟩
    · rw [hb.block _ (by simp; omega), (belowA (w.alloc _) _).block _ (by simp)]; exact heap_alloc_new w _
    · rw [hb.block _ (by simp)]
      have := heap_alloc_new (w.alloc (.cells #[.slice none 0 0] 41)) (.cells #[.int .i64 0, .int .i64 0, .int .i64 0] 27)
      simpa using this
  cases hr : progP (scanX s).2.1 ((scanX s).2.2 : Int) (scanX s).1 with
  | bad ec eo =>
    have PB : Hid (∀ w', Below w.heap.size w w' → Post (.returned (.tuple #[.agg #[.slice none 0 0], .agg #[.int .i64 ec, .int .i64 0, .int .i64 eo]])) w') := fun w' hb => by rw [hPost]; exact readProg_mkb hr hb
    have HRr := hide hr
    clear hr hPost
    go_enter Tryd.func11, Tryd.ntmps11
    go_wp2_with (go_at_call 24; refine (HC.out _ (below2a _ _ _)).mono ?_; intro e w2 hq; obtain ⟨rfl, hb2⟩ := readProg_bad hq HRr.out; clear hq; obtain ⟨k0, k1, k2⟩ := HK.out w2 hb2; have HK2 := hide k2; clear hb2 k2; obtain ⟨c0, z0⟩ := progCell k0; obtain ⟨⟨d0, d1, d2⟩, ⟨y0, y1, y2⟩⟩ := fault_cells k1; unfold faultV)
    have hV0 : ((((w2.setCell ⟨w.heap.size, 0, none⟩ (.slice none 0 0)).setCell ⟨w.heap.size + 1, 0, none⟩ (.int .i64 ec)).setCell ⟨w.heap.size + 1, 1, none⟩ (.int .i64 0)).setCell ⟨w.heap.size + 1, 2, none⟩ (.int .i64 eo)).heap[w.heap.size]? = some (.cells #[.slice none 0 0] 41 (0, 0)) := by simp [World.setCell, Array.getElem?_modify, k0]
    have hV1 : ((((w2.setCell ⟨w.heap.size, 0, none⟩ (.slice none 0 0)).setCell ⟨w.heap.size + 1, 0, none⟩ (.int .i64 ec)).setCell ⟨w.heap.size + 1, 1, none⟩ (.int .i64 0)).setCell ⟨w.heap.size + 1, 2, none⟩ (.int .i64 eo)).heap[w.heap.size + 1]? = some (.cells #[.int .i64 ec, .int .i64 0, .int .i64 eo] 27 (0, 0)) := by simp [World.setCell, Array.getElem?_modify, k1]
    have hO : Below w.heap.size w ((((w2.setCell ⟨w.heap.size, 0, none⟩ (.slice none 0 0)).setCell ⟨w.heap.size + 1, 0, none⟩ (.int .i64 ec)).setCell ⟨w.heap.size + 1, 1, none⟩ (.int .i64 0)).setCell ⟨w.heap.size + 1, 2, none⟩ (.int .i64 eo)) := (((((Only.of_below HK2.out (fun k => w.heap.size ≤ k)).setCell (p := ⟨w.heap.size, 0, none⟩) (Nat.le_refl _) _).setCell (p := ⟨w.heap.size + 1, 0, none⟩) (Nat.le_succ _) _).setCell (p := ⟨w.heap.size + 1, 1, none⟩) (Nat.le_succ _) _).setCell (p := ⟨w.heap.size + 1, 2, none⟩) (Nat.le_succ _) _).below (Nat.le_refl _) (fun k hk e => by omega)
    generalize (((w2.setCell ⟨w.heap.size, 0, none⟩ (.slice none 0 0)).setCell ⟨w.heap.size + 1, 0, none⟩ (.int .i64 ec)).setCell ⟨w.heap.size + 1, 1, none⟩ (.int .i64 0)).setCell ⟨w.heap.size + 1, 2, none⟩ (.int .i64 eo) = V at hV0 hV1 hO ⊢
    obtain ⟨f0, -⟩ := progCell hV0
    obtain ⟨⟨f1, f2, f3⟩, -⟩ := fault_cells hV1
    exact bodyPost_ret (v := .tuple #[.agg #[.slice none 0 0], .agg #[.int .i64 ec, .int .i64 0, .int .i64 eo]]) (by simp [results, Tryd.results11, go_sem, f0, f1, f2, f3]) rfl (PB.out _ hO)
  | ok b r =>
    have PG : Hid (∀ w' v cs, cs.map Clx.pur = b → cs.length ≤ 512 → Lst elClx w' (fun k => w.heap.size ≤ k) v cs → Below w.heap.size w w' → Post (.returned (.tuple #[.agg #[v], .agg #[.int .i64 0, .int .i64 0, .int .i64 0]])) w') := fun w' v cs h1 h2 h3 h4 => by rw [hPost]; exact readProg_mko hr h1 h2 h3 h4
    have HRr := hide hr
    clear hr hPost
    go_enter Tryd.func11, Tryd.ntmps11
    go_wp2_with (go_at_call 24; refine (HC.out _ (below2a _ _ _)).mono ?_; intro e w2 hq; obtain ⟨v, cs, rfl, hpur, hlen, hls, hb2⟩ := readProg_ok hq HRr.out; clear hq; obtain ⟨va, vc, rfl, -⟩ := hls.shape; obtain ⟨k0, k1, k2⟩ := HK.out w2 hb2; have HK2 := hide k2; have HLs := hide hls; have HPu := hide hpur; have HLn := hide hlen; clear hb2 k2 hls hpur hlen; obtain ⟨c0, z0⟩ := progCell k0; obtain ⟨⟨d0, d1, d2⟩, ⟨y0, y1, y2⟩⟩ := fault_cells k1; unfold faultV)
    have hV0 : ((((w2.setCell ⟨w.heap.size, 0, none⟩ (.slice va cs.length vc)).setCell ⟨w.heap.size + 1, 0, none⟩ (.int .i64 0)).setCell ⟨w.heap.size + 1, 1, none⟩ (.int .i64 0)).setCell ⟨w.heap.size + 1, 2, none⟩ (.int .i64 0)).heap[w.heap.size]? = some (.cells #[.slice va cs.length vc] 41 (0, 0)) := by simp [World.setCell, Array.getElem?_modify, k0]
    have hV1 : ((((w2.setCell ⟨w.heap.size, 0, none⟩ (.slice va cs.length vc)).setCell ⟨w.heap.size + 1, 0, none⟩ (.int .i64 0)).setCell ⟨w.heap.size + 1, 1, none⟩ (.int .i64 0)).setCell ⟨w.heap.size + 1, 2, none⟩ (.int .i64 0)).heap[w.heap.size + 1]? = some (.cells #[.int .i64 0, .int .i64 0, .int .i64 0] 27 (0, 0)) := by simp [World.setCell, Array.getElem?_modify, k1]
    have hB : Below w.heap.size w ((((w2.setCell ⟨w.heap.size, 0, none⟩ (.slice va cs.length vc)).setCell ⟨w.heap.size + 1, 0, none⟩ (.int .i64 0)).setCell ⟨w.heap.size + 1, 1, none⟩ (.int .i64 0)).setCell ⟨w.heap.size + 1, 2, none⟩ (.int .i64 0)) := (((((Only.of_below HK2.out (fun k => w.heap.size ≤ k)).setCell (p := ⟨w.heap.size, 0, none⟩) (Nat.le_refl _) _).setCell (p := ⟨w.heap.size + 1, 0, none⟩) (Nat.le_succ _) _).setCell (p := ⟨w.heap.size + 1, 1, none⟩) (Nat.le_succ _) _).setCell (p := ⟨w.heap.size + 1, 2, none⟩) (Nat.le_succ _) _).below (Nat.le_refl _) (fun k hk e => by omega)
    have hO : Only (fun k => k = w.heap.size ∨ k = w.heap.size + 1) w2 ((((w2.setCell ⟨w.heap.size, 0, none⟩ (.slice va cs.length vc)).setCell ⟨w.heap.size + 1, 0, none⟩ (.int .i64 0)).setCell ⟨w.heap.size + 1, 1, none⟩ (.int .i64 0)).setCell ⟨w.heap.size + 1, 2, none⟩ (.int .i64 0)) := ((((Only.refl (fun k => k = w.heap.size ∨ k = w.heap.size + 1) w2).setCell (p := ⟨w.heap.size, 0, none⟩) (.inl rfl) _).setCell (p := ⟨w.heap.size + 1, 0, none⟩) (.inr rfl) _).setCell (p := ⟨w.heap.size + 1, 1, none⟩) (.inr rfl) _).setCell (p := ⟨w.heap.size + 1, 2, none⟩) (.inr rfl) _
    generalize (((w2.setCell ⟨w.heap.size, 0, none⟩ (.slice va cs.length vc)).setCell ⟨w.heap.size + 1, 0, none⟩ (.int .i64 0)).setCell ⟨w.heap.size + 1, 1, none⟩ (.int .i64 0)).setCell ⟨w.heap.size + 1, 2, none⟩ (.int .i64 0) = V at hV0 hV1 hO hB ⊢
    obtain ⟨f0, -⟩ := progCell hV0
    obtain ⟨⟨f1, f2, f3⟩, -⟩ := fault_cells hV1
    exact bodyPost_ret (v := .tuple #[.agg #[.slice va cs.length vc], .agg #[.int .i64 0, .int .i64 0, .int .i64 0]]) (by simp [results, Tryd.results11, go_sem, f0, f1, f2, f3]) rfl (PG.out _ _ cs HPu.out HLn.out (HLs.out.move fun k hk hF => ⟨by simp at hF; omega, hO.block k hk (by simp at hF; omega)⟩) hB)

set_option maxRecDepth 100000 in
set_option maxHeartbeats 2000000 in
theorem parseFacts_any (s : ByteArray) (w : World) (hl : LexLaid w) (hs : s.size ≤ 140737488351232) :
    Calls Tryd.prog 8 #[.string s] w (ReadFacts w s) := by
  have HC := hide (fun (W : World) (hb : Below w.heap.size w W) => readFacts_any s W (hl.kept hb) hs)
  clear hl hs
  obtain ⟨Post, hPost⟩ : ∃ Post : Ending → World → Prop, Post = ReadFacts w s := ⟨_, rfl⟩
  rw [← hPost]
  have HK : Hid (∀ w2, Below (w.alloc (.cells #[.int .i64 0, .int .i64 0, .int .i64 0] 27)).heap.size (w.alloc (.cells #[.int .i64 0, .int .i64 0, .int .i64 0] 27)) w2 → w2.heap[w.heap.size]? = some (.cells #[.int .i64 0, .int .i64 0, .int .i64 0] 27 (0, 0)) ∧ Below w.heap.size w w2) := fun w2 hb => by
    refine ⟨?_, belowt2 (belowA w _) hb⟩
    rw [hb.block _ (by simp)]; exact heap_alloc_new w _
  cases hr : factsP (scanX s).2.1 ((scanX s).2.2 : Int) (scanX s).1 with
  | bad ec eo =>
    have PB : Hid (∀ w', Below w.heap.size w w' → Post (.returned (.tuple #[.slice none 0 0, .agg #[.int .i64 ec, .int .i64 0, .int .i64 eo]])) w') := fun w' hb => by rw [hPost]; exact readFacts_mkb hr hb
    have HRr := hide hr
    clear hr hPost
    go_enter Tryd.func8, Tryd.ntmps8
    go_wp2_with (go_at_call 22; refine (HC.out _ (belowA _ _)).mono ?_; intro e w2 hq; obtain ⟨rfl, hb2⟩ := readFacts_bad hq HRr.out; clear hq; obtain ⟨k1, k2⟩ := HK.out w2 hb2; have HK2 := hide k2; clear hb2 k2; obtain ⟨⟨d0, d1, d2⟩, ⟨y0, y1, y2⟩⟩ := fault_cells k1; unfold faultV)
    have hV1 : (((w2.setCell ⟨w.heap.size, 0, none⟩ (.int .i64 ec)).setCell ⟨w.heap.size, 1, none⟩ (.int .i64 0)).setCell ⟨w.heap.size, 2, none⟩ (.int .i64 eo)).heap[w.heap.size]? = some (.cells #[.int .i64 ec, .int .i64 0, .int .i64 eo] 27 (0, 0)) := by simp [World.setCell, Array.getElem?_modify, k1]
    have hO : Below w.heap.size w (((w2.setCell ⟨w.heap.size, 0, none⟩ (.int .i64 ec)).setCell ⟨w.heap.size, 1, none⟩ (.int .i64 0)).setCell ⟨w.heap.size, 2, none⟩ (.int .i64 eo)) := ((((Only.of_below HK2.out (fun k => w.heap.size ≤ k)).setCell (p := ⟨w.heap.size, 0, none⟩) (Nat.le_refl _) _).setCell (p := ⟨w.heap.size, 1, none⟩) (Nat.le_refl _) _).setCell (p := ⟨w.heap.size, 2, none⟩) (Nat.le_refl _) _).below (Nat.le_refl _) (fun k hk e => by omega)
    generalize ((w2.setCell ⟨w.heap.size, 0, none⟩ (.int .i64 ec)).setCell ⟨w.heap.size, 1, none⟩ (.int .i64 0)).setCell ⟨w.heap.size, 2, none⟩ (.int .i64 eo) = V at hV1 hO ⊢
    obtain ⟨⟨f1, f2, f3⟩, -⟩ := fault_cells hV1
    exact bodyPost_ret (v := .tuple #[.slice none 0 0, .agg #[.int .i64 ec, .int .i64 0, .int .i64 eo]]) (by simp [results, Tryd.results8, go_sem, f1, f2, f3]) rfl (PB.out _ hO)
  | ok b r =>
    have PG : Hid (∀ w' v cs, cs.map Atx.pur = b → cs.length ≤ 4096 → Lst elAtx w' (fun k => w.heap.size ≤ k) v cs → Below w.heap.size w w' → Post (.returned (.tuple #[v, .agg #[.int .i64 0, .int .i64 0, .int .i64 0]])) w') := fun w' v cs h1 h2 h3 h4 => by rw [hPost]; exact readFacts_mko hr h1 h2 h3 h4
    have HRr := hide hr
    clear hr hPost
    go_enter Tryd.func8, Tryd.ntmps8
    go_wp2_with (go_at_call 22; refine (HC.out _ (belowA _ _)).mono ?_; intro e w2 hq; obtain ⟨v, cs, rfl, hpur, hlen, hls, hb2⟩ := readFacts_ok hq HRr.out; clear hq; obtain ⟨va, vc, rfl, -⟩ := hls.shape; obtain ⟨k1, k2⟩ := HK.out w2 hb2; have HK2 := hide k2; have HLs := hide hls; have HPu := hide hpur; have HLn := hide hlen; clear hb2 k2 hls hpur hlen; obtain ⟨⟨d0, d1, d2⟩, ⟨y0, y1, y2⟩⟩ := fault_cells k1; unfold faultV)
    have hV1 : (((w2.setCell ⟨w.heap.size, 0, none⟩ (.int .i64 0)).setCell ⟨w.heap.size, 1, none⟩ (.int .i64 0)).setCell ⟨w.heap.size, 2, none⟩ (.int .i64 0)).heap[w.heap.size]? = some (.cells #[.int .i64 0, .int .i64 0, .int .i64 0] 27 (0, 0)) := by simp [World.setCell, Array.getElem?_modify, k1]
    have hB : Below w.heap.size w (((w2.setCell ⟨w.heap.size, 0, none⟩ (.int .i64 0)).setCell ⟨w.heap.size, 1, none⟩ (.int .i64 0)).setCell ⟨w.heap.size, 2, none⟩ (.int .i64 0)) := ((((Only.of_below HK2.out (fun k => w.heap.size ≤ k)).setCell (p := ⟨w.heap.size, 0, none⟩) (Nat.le_refl _) _).setCell (p := ⟨w.heap.size, 1, none⟩) (Nat.le_refl _) _).setCell (p := ⟨w.heap.size, 2, none⟩) (Nat.le_refl _) _).below (Nat.le_refl _) (fun k hk e => by omega)
    have hO : Only (fun k => k = w.heap.size) w2 (((w2.setCell ⟨w.heap.size, 0, none⟩ (.int .i64 0)).setCell ⟨w.heap.size, 1, none⟩ (.int .i64 0)).setCell ⟨w.heap.size, 2, none⟩ (.int .i64 0)) := (((Only.refl (fun k => k = w.heap.size) w2).setCell (p := ⟨w.heap.size, 0, none⟩) rfl _).setCell (p := ⟨w.heap.size, 1, none⟩) rfl _).setCell (p := ⟨w.heap.size, 2, none⟩) rfl _
    generalize ((w2.setCell ⟨w.heap.size, 0, none⟩ (.int .i64 0)).setCell ⟨w.heap.size, 1, none⟩ (.int .i64 0)).setCell ⟨w.heap.size, 2, none⟩ (.int .i64 0) = V at hV1 hO hB ⊢
    obtain ⟨⟨f1, f2, f3⟩, -⟩ := fault_cells hV1
    exact bodyPost_ret (v := .tuple #[.slice va cs.length vc, .agg #[.int .i64 0, .int .i64 0, .int .i64 0]]) (by simp [results, Tryd.results8, go_sem, f1, f2, f3]) rfl (PG.out _ _ cs HPu.out HLn.out (HLs.out.move fun k hk hF => ⟨by simp at hF; omega, hO.block k hk (by simp at hF; omega)⟩) hB)

set_option maxRecDepth 100000 in
set_option maxHeartbeats 2000000 in
theorem parseQuery_any (s : ByteArray) (w : World) (hl : LexLaid w) (hs : s.size ≤ 140737488351232) :
    Calls Tryd.prog 14 #[.string s] w (ReadQuery w s) := by
  have HC := hide (fun (W : World) (hb : Below w.heap.size w W) => readQuery_any s W (hl.kept hb) hs)
  clear hl hs
  obtain ⟨Post, hPost⟩ : ∃ Post : Ending → World → Prop, Post = ReadQuery w s := ⟨_, rfl⟩
  rw [← hPost]
  have HK : Hid (∀ w2, Below (w.alloc (.cells #[.int .i64 0, .int .i64 0, .int .i64 0] 27)).heap.size (w.alloc (.cells #[.int .i64 0, .int .i64 0, .int .i64 0] 27)) w2 → w2.heap[w.heap.size]? = some (.cells #[.int .i64 0, .int .i64 0, .int .i64 0] 27 (0, 0)) ∧ Below w.heap.size w w2) := fun w2 hb => by
    refine ⟨?_, belowt2 (belowA w _) hb⟩
    rw [hb.block _ (by simp)]; exact heap_alloc_new w _
  cases hr : queryP (scanX s).2.1 ((scanX s).2.2 : Int) (scanX s).1 with
  | bad ec eo =>
    have PB : Hid (∀ w', Below w.heap.size w w' → Post (.returned (.tuple #[.slice none 0 0, .agg #[.int .i64 ec, .int .i64 0, .int .i64 eo]])) w') := fun w' hb => by rw [hPost]; exact readQuery_mkb hr hb
    have HRr := hide hr
    clear hr hPost
    go_enter Tryd.func14, Tryd.ntmps14
    go_wp2_with (go_at_call 26; refine (HC.out _ (belowA _ _)).mono ?_; intro e w2 hq; obtain ⟨rfl, hb2⟩ := readQuery_bad hq HRr.out; clear hq; obtain ⟨k1, k2⟩ := HK.out w2 hb2; have HK2 := hide k2; clear hb2 k2; obtain ⟨⟨d0, d1, d2⟩, ⟨y0, y1, y2⟩⟩ := fault_cells k1; unfold faultV)
    have hV1 : (((w2.setCell ⟨w.heap.size, 0, none⟩ (.int .i64 ec)).setCell ⟨w.heap.size, 1, none⟩ (.int .i64 0)).setCell ⟨w.heap.size, 2, none⟩ (.int .i64 eo)).heap[w.heap.size]? = some (.cells #[.int .i64 ec, .int .i64 0, .int .i64 eo] 27 (0, 0)) := by simp [World.setCell, Array.getElem?_modify, k1]
    have hO : Below w.heap.size w (((w2.setCell ⟨w.heap.size, 0, none⟩ (.int .i64 ec)).setCell ⟨w.heap.size, 1, none⟩ (.int .i64 0)).setCell ⟨w.heap.size, 2, none⟩ (.int .i64 eo)) := ((((Only.of_below HK2.out (fun k => w.heap.size ≤ k)).setCell (p := ⟨w.heap.size, 0, none⟩) (Nat.le_refl _) _).setCell (p := ⟨w.heap.size, 1, none⟩) (Nat.le_refl _) _).setCell (p := ⟨w.heap.size, 2, none⟩) (Nat.le_refl _) _).below (Nat.le_refl _) (fun k hk e => by omega)
    generalize ((w2.setCell ⟨w.heap.size, 0, none⟩ (.int .i64 ec)).setCell ⟨w.heap.size, 1, none⟩ (.int .i64 0)).setCell ⟨w.heap.size, 2, none⟩ (.int .i64 eo) = V at hV1 hO ⊢
    obtain ⟨⟨f1, f2, f3⟩, -⟩ := fault_cells hV1
    exact bodyPost_ret (v := .tuple #[.slice none 0 0, .agg #[.int .i64 ec, .int .i64 0, .int .i64 eo]]) (by simp [results, Tryd.results14, go_sem, f1, f2, f3]) rfl (PB.out _ hO)
  | ok b r =>
    have PG : Hid (∀ w' v cs, cs.map Lix.pur = b → cs.length ≤ 16 → Lst elLix w' (fun k => w.heap.size ≤ k) v cs → Below w.heap.size w w' → Post (.returned (.tuple #[v, .agg #[.int .i64 0, .int .i64 0, .int .i64 0]])) w') := fun w' v cs h1 h2 h3 h4 => by rw [hPost]; exact readQuery_mko hr h1 h2 h3 h4
    have HRr := hide hr
    clear hr hPost
    go_enter Tryd.func14, Tryd.ntmps14
    go_wp2_with (go_at_call 26; refine (HC.out _ (belowA _ _)).mono ?_; intro e w2 hq; obtain ⟨v, cs, rfl, hpur, hlen, hls, hb2⟩ := readQuery_ok hq HRr.out; clear hq; obtain ⟨va, vc, rfl, -⟩ := hls.shape; obtain ⟨k1, k2⟩ := HK.out w2 hb2; have HK2 := hide k2; have HLs := hide hls; have HPu := hide hpur; have HLn := hide hlen; clear hb2 k2 hls hpur hlen; obtain ⟨⟨d0, d1, d2⟩, ⟨y0, y1, y2⟩⟩ := fault_cells k1; unfold faultV)
    have hV1 : (((w2.setCell ⟨w.heap.size, 0, none⟩ (.int .i64 0)).setCell ⟨w.heap.size, 1, none⟩ (.int .i64 0)).setCell ⟨w.heap.size, 2, none⟩ (.int .i64 0)).heap[w.heap.size]? = some (.cells #[.int .i64 0, .int .i64 0, .int .i64 0] 27 (0, 0)) := by simp [World.setCell, Array.getElem?_modify, k1]
    have hB : Below w.heap.size w (((w2.setCell ⟨w.heap.size, 0, none⟩ (.int .i64 0)).setCell ⟨w.heap.size, 1, none⟩ (.int .i64 0)).setCell ⟨w.heap.size, 2, none⟩ (.int .i64 0)) := ((((Only.of_below HK2.out (fun k => w.heap.size ≤ k)).setCell (p := ⟨w.heap.size, 0, none⟩) (Nat.le_refl _) _).setCell (p := ⟨w.heap.size, 1, none⟩) (Nat.le_refl _) _).setCell (p := ⟨w.heap.size, 2, none⟩) (Nat.le_refl _) _).below (Nat.le_refl _) (fun k hk e => by omega)
    have hO : Only (fun k => k = w.heap.size) w2 (((w2.setCell ⟨w.heap.size, 0, none⟩ (.int .i64 0)).setCell ⟨w.heap.size, 1, none⟩ (.int .i64 0)).setCell ⟨w.heap.size, 2, none⟩ (.int .i64 0)) := (((Only.refl (fun k => k = w.heap.size) w2).setCell (p := ⟨w.heap.size, 0, none⟩) rfl _).setCell (p := ⟨w.heap.size, 1, none⟩) rfl _).setCell (p := ⟨w.heap.size, 2, none⟩) rfl _
    generalize ((w2.setCell ⟨w.heap.size, 0, none⟩ (.int .i64 0)).setCell ⟨w.heap.size, 1, none⟩ (.int .i64 0)).setCell ⟨w.heap.size, 2, none⟩ (.int .i64 0) = V at hV1 hO hB ⊢
    obtain ⟨⟨f1, f2, f3⟩, -⟩ := fault_cells hV1
    exact bodyPost_ret (v := .tuple #[.slice va cs.length vc, .agg #[.int .i64 0, .int .i64 0, .int .i64 0]]) (by simp [results, Tryd.results14, go_sem, f1, f2, f3]) rfl (PG.out _ _ cs HPu.out HLn.out (HLs.out.move fun k hk hF => ⟨by simp at hF; omega, hO.block k hk (by simp at hF; omega)⟩) hB)
end Go.Proofs.YtnfnihhbgpakkaaDoor

namespace Go.Proofs.YtnfnihhbgpakkaaDoor
set_option linter.unusedSimpArgs false
set_option linter.unusedVariables false
open Go.RowKit

def takenS : ByteArray := ⟨#[112, 40, 97, 41, 58, 45, 88, 60, 49, 46]⟩
theorem takenP : progP (scanX takenS).2.1 ((scanX takenS).2.2 : Int) (scanX takenS).1 = .ok [⟨⟨⟨#[112]⟩, [⟨2, 0, ⟨#[97]⟩, 2⟩], 0⟩, [⟨3, zeroAtom, 3, ⟨4, 0, ⟨#[88]⟩, 6⟩, ⟨1, 1, ⟨#[]⟩, 8⟩, 6⟩]⟩] [] := by kernel_rfl

/-- The cells of a list's element. -/
theorem Lst.cells {α : Type} {E : El α} {w : World} {F : Nat → Prop} {ao : Option Addr} {n cap : Nat} {l : List α} (h : Lst E w F (.slice ao n cap) l) (hp : 0 < l.length) : ∃ b off, ao = some ⟨b, off, none⟩ ∧ b < w.heap.size ∧ F b ∧ ∀ i x, l[i]? = some x → ∀ j u, (E.cells x)[j]? = some u → w.cell? ⟨b, off + i * E.size + j, none⟩ = some u := h.row hp

theorem one_of_map {α β : Type} {g : α → β} {l : List α} {y : β} (h : l.map g = [y]) : ∃ c, l = [c] := by
  match l, h with
  | [c], _ => exact ⟨c, rfl⟩

set_option maxRecDepth 100000 in
set_option maxHeartbeats 2000000 in
theorem taken_any (w : World) (hl : LexLaid w) : Calls Tryd.prog 10 #[] w fun e w' => e = .returned (.bool true) ∧ Below w.heap.size w w' := by
  have HC := hide (parseProgram_any takenS w hl (by decide))
  have hfs := fault_self
  clear hl
  go_enter Tryd.func10, Tryd.ntmps10
  go_wp2_with (go_at_call 11; refine HC.out.mono ?_; intro e w1 hq; obtain ⟨v, cs, rfl, hpur, hlen, hls, hb1⟩ := readProg_ok hq takenP; clear hq; obtain ⟨⟨⟨cp, cv, coff, cts⟩, bv, ls⟩, rfl⟩ : ∃ c, cs = [c] := one_of_map hpur; have HB1 := hide hb1; have hx := hpur; simp only [List.map_cons, List.map_nil, Clx.pur, Atx.pur, List.cons.injEq, PCls.mk.injEq, PAtom.mk.injEq, and_true] at hx; obtain ⟨⟨rfl, rfl, rfl⟩, hlb⟩ := hx; obtain ⟨⟨lk, la, lop, ll, lr, loff⟩, rfl⟩ : ∃ c, ls = [c] := one_of_map hlb; simp only [List.map_cons, List.map_nil, Lix.pur, List.cons.injEq, PLit.mk.injEq, and_true] at hlb; obtain ⟨rfl, -, rfl, rfl, rfl, rfl⟩ := hlb; clear hpur hlen hb1; obtain ⟨va, vc, rfl, -⟩ := hls.shape; obtain ⟨b0, o0, rfl, -, -, r0⟩ := hls.row (by simp); have hok := hls.ok (List.mem_singleton.2 rfl); obtain ⟨ta, tc, rfl, -⟩ := (show Lst elTrm w1 (fun k => w.heap.size ≤ k) cv [(⟨2, 0, ⟨#[97]⟩, 2⟩ : Trm)] from hok.1.2.2).shape; obtain ⟨b1, o1, rfl, -, -, r1⟩ := (show Lst elTrm w1 (fun k => w.heap.size ≤ k) (.slice ta 1 tc) [(⟨2, 0, ⟨#[97]⟩, 2⟩ : Trm)] from hok.1.2.2).row (by simp); obtain ⟨la2, lc, rfl, -⟩ := (show Lst elLix w1 (fun k => w.heap.size ≤ k) bv [(⟨3, la, 3, ⟨4, 0, ⟨#[88]⟩, 6⟩, ⟨1, 1, ⟨#[]⟩, 8⟩, 6⟩ : Lix)] from hok.2).shape; obtain ⟨b2, o2, rfl, -, -, r2⟩ := (show Lst elLix w1 (fun k => w.heap.size ≤ k) (.slice la2 1 lc) [(⟨3, la, 3, ⟨4, 0, ⟨#[88]⟩, 6⟩, ⟨1, 1, ⟨#[]⟩, 8⟩, 6⟩ : Lix)] from hok.2).row (by simp); have HX := hide (And.intro (r0 0 _ rfl) (And.intro (r1 0 _ rfl) (r2 0 _ rfl))); clear r0 r1 r2 hok hls; have k0 := kept_cell (below2a w1 (.cells #[.slice (some ⟨b0, o0, none⟩) 1 vc] 41) (.cells #[.int .i64 0, .int .i64 0, .int .i64 0] 27)) (HX.out.1 0 _ rfl); have k1 := kept_cell (below2a w1 (.cells #[.slice (some ⟨b0, o0, none⟩) 1 vc] 41) (.cells #[.int .i64 0, .int .i64 0, .int .i64 0] 27)) (HX.out.1 1 _ rfl); have k3 := kept_cell (below2a w1 (.cells #[.slice (some ⟨b0, o0, none⟩) 1 vc] 41) (.cells #[.int .i64 0, .int .i64 0, .int .i64 0] 27)) (HX.out.1 3 _ rfl); have k5 := kept_cell (below2a w1 (.cells #[.slice (some ⟨b0, o0, none⟩) 1 vc] 41) (.cells #[.int .i64 0, .int .i64 0, .int .i64 0] 27)) (HX.out.2.1 2 _ rfl); have k6 := kept_cell (below2a w1 (.cells #[.slice (some ⟨b0, o0, none⟩) 1 vc] 41) (.cells #[.int .i64 0, .int .i64 0, .int .i64 0] 27)) (HX.out.2.2 10 _ rfl); simp only [Nat.zero_mul, Nat.add_zero] at k0 k1 k3 k5 k6; unfold faultV)
  go_ret
  exact ⟨rfl, belowt2 HB1.out (below2a _ _ _)⟩
end Go.Proofs.YtnfnihhbgpakkaaDoor

namespace Go.Proofs.YtnfnihhbgpakkaaDoor
set_option linter.unusedSimpArgs false
set_option linter.unusedVariables false
open Go.RowKit

/-- No token follows for a reason, or the end is still ahead. -/
def NE (c : Int) (R : List Tok) : Prop := c ≠ 0 ∨ ∃ t ∈ R, t.k = 0
def Bd {α : Type} (c : Int) : PR α → Prop
  | .bad ec _ => ec ≠ 0
  | .ok _ r => NE c r
theorem misK_ne (k : Int) : misK k ≠ 0 := by unfold misK; split <;> decide
theorem NE.next {c : Int} {t : Tok} {r : List Tok} (h : NE c (t :: r)) (ht : t.k ≠ 0) : NE c r := by
  rcases h with h | ⟨x, hx, h0⟩
  · exact .inl h
  · rcases List.mem_cons.1 hx with rfl | hx
    · exact absurd h0 ht
    · exact .inr ⟨x, hx, h0⟩
theorem NE.nil {c : Int} (h : NE c []) : c ≠ 0 := by
  rcases h with h | ⟨x, hx, _⟩
  · exact h
  · cases hx
theorem take_bd {c f : Int} {ks : List Int} {R : List Tok} (h : NE c R) (h0 : (0 : Int) ∉ ks) : Bd c (takeP c f ks R) := by
  match R, h with
  | [], h => exact h.nil
  | t :: r, h =>
    simp only [takeP]
    by_cases hm : t.k ∈ ks
    · rw [if_pos hm]; exact h.next (fun e => h0 (e ▸ hm))
    · rw [if_neg hm]; exact misK_ne _
theorem take_bd0 {c f ec eo : Int} {ks : List Int} {R : List Tok} (h : NE c R) (hT : takeP c f ks R = .bad ec eo) : ec ≠ 0 := by
  match R, h, hT with
  | [], h, hT => simp only [takeP] at hT; injection hT with e1 e2; subst e1; exact h.nil
  | t :: r, h, hT =>
    simp only [takeP] at hT
    by_cases hm : t.k ∈ ks
    · rw [if_pos hm] at hT; cases hT
    · rw [if_neg hm] at hT; injection hT with e1 e2; subst e1; exact misK_ne _
theorem bd_bad {α : Type} {c ec eo : Int} {x : PR α} (h : Bd c x) (e : x = .bad ec eo) : ec ≠ 0 := by subst e; exact h
theorem bd_ok {α : Type} {c : Int} {x : PR α} {a : α} {r : List Tok} (h : Bd c x) (e : x = .ok a r) : NE c r := by subst e; exact h
theorem args_bd {c f : Int} {ks : List Int} (h0 : (0 : Int) ∉ ks) : ∀ (n : Nat) (acc : List Trm) (R : List Tok), R.length = n → NE c R → Bd c (argsP c f ks acc R) := by
  intro n
  induction n using Nat.strongRecOn with
  | ind n ih =>
    intro acc R hn h
    have b1 := take_bd (f := f) h h0
    cases hT : takeP c f ks R with
    | bad ec eo => rw [args_bad1 hT]; exact bd_bad b1 hT
    | ok t r1 =>
      have l1 := take_len hT
      by_cases h8 : acc.length = 8
      · rw [args_lim hT h8]; show (22 : Int) ≠ 0; decide
      · rw [args_next hT h8]
        have b2 := take_bd (f := f) (ks := [7, 6]) (bd_ok b1 hT) (by decide)
        cases hU : takeP c f [7, 6] r1 with
        | bad ec eo => exact bd_bad b2 hU
        | ok s r2 =>
          have l2 := take_len hU
          simp only
          by_cases h7 : s.k = 7
          · rw [if_pos h7]; exact ih r2.length (by omega) _ r2 rfl (bd_ok b2 hU)
          · rw [if_neg h7]; exact bd_ok b2 hU
theorem atom_bd {c f : Int} {ks : List Int} (h0 : (0 : Int) ∉ ks) {name : Tok} {R : List Tok} (h : NE c R) : Bd c (atomP c f ks name R) := by
  match R, h with
  | [], h => exact h.nil
  | t :: r1, h =>
    unfold atomP
    simp only
    by_cases h5 : t.k = 5
    · rw [if_pos h5]
      have b := args_bd (f := f) h0 _ [] r1 rfl (h.next (by omega))
      cases hA : argsP c f ks [] r1 with
      | bad ec eo => exact bd_bad b hA
      | ok ts r2 => exact bd_ok b hA
    · rw [if_neg h5]; exact h
theorem lit_bd {c f : Int} {first : Tok} {R : List Tok} (h : NE c R) : Bd c (litP c f first R) := by
  have test : Bd c (match takeP c f [11] R with
      | .bad c o => PR.bad c o
      | .ok o1 r' => match takeP c f termKs r' with
        | .bad c o => .bad c o
        | .ok t2 r'' => .ok (⟨3, zeroAtom, o1.op, termP first, termP t2, first.off⟩ : PLit) r'') := by
    have b1 := take_bd (f := f) (ks := [11]) h (by decide)
    cases hT : takeP c f [11] R with
    | bad ec eo => exact bd_bad b1 hT
    | ok o1 r1 =>
      simp only
      have b2 := take_bd (f := f) (ks := termKs) (bd_ok b1 hT) (by decide)
      cases hU : takeP c f termKs r1 with
      | bad ec eo => exact bd_bad b2 hU
      | ok t2 r2 => exact bd_ok b2 hU
  unfold litP
  by_cases h10 : first.k = 10
  · rw [if_pos h10]
    have b1 := take_bd (f := f) (ks := [1]) h (by decide)
    cases hT : takeP c f [1] R with
    | bad ec eo => exact bd_bad b1 hT
    | ok n r1 =>
      simp only
      have b2 := atom_bd (f := f) (ks := termKs) (by decide) (name := n) (bd_ok b1 hT)
      cases hA : atomP c f termKs n r1 with
      | bad ec eo => exact bd_bad b2 hA
      | ok a r2 => exact bd_ok b2 hA
  · rw [if_neg h10]
    simp only
    by_cases h1 : first.k = 1
    · rw [if_pos h1]
      cases R with
      | nil => exact h.nil
      | cons t r1 =>
        simp only
        by_cases h11 : t.k = 11
        · rw [if_pos h11]; exact test
        · rw [if_neg h11]
          have b2 := atom_bd (f := f) (ks := termKs) (by decide) (name := first) h
          cases hA : atomP c f termKs first (t :: r1) with
          | bad ec eo => exact bd_bad b2 hA
          | ok a r2 => exact bd_ok b2 hA
    · rw [if_neg h1]; exact test
theorem body_bd {c f : Int} : ∀ (n : Nat) (acc : List PLit) (R : List Tok), R.length < n → NE c R → Bd c (bodyF c f n acc R) := by
  intro n
  induction n with
  | zero => intro acc R hn; omega
  | succ n ih =>
    intro acc R hn h
    have b1 := take_bd (f := f) (ks := [1, 10, 2, 3, 4]) h (by decide)
    cases hT : takeP c f [1, 10, 2, 3, 4] R with
    | bad ec eo => rw [body_bad1 hT]; exact bd_bad b1 hT
    | ok t r1 =>
      have l1 := take_len hT
      by_cases h16 : acc.length = 16
      · rw [body_lim hT h16]; show (23 : Int) ≠ 0; decide
      · have b2 := lit_bd (f := f) (first := t) (bd_ok b1 hT)
        cases hL : litP c f t r1 with
        | bad ec eo => rw [body_lit hT h16 hL]; exact bd_bad b2 hL
        | ok x r2 =>
          have l2 := lit_len hL
          have b3 := take_bd (f := f) (ks := [7, 8]) (bd_ok b2 hL) (by decide)
          cases hU : takeP c f [7, 8] r2 with
          | bad ec eo => rw [body_sep hT h16 hL hU]; exact bd_bad b3 hU
          | ok s r3 =>
            have l3 := take_len hU
            by_cases h8 : s.k = 8
            · rw [body_end hT h16 hL hU h8]; exact bd_ok b3 hU
            · rw [body_more hT h16 hL hU h8]; exact ih _ _ (by omega) (bd_ok b3 hU)
theorem clause_bd {c f : Int} {name : Tok} {R : List Tok} (h : NE c R) : Bd c (clauseP c f name R) := by
  unfold clauseP
  have b1 := atom_bd (f := f) (ks := termKs) (by decide) (name := name) h
  cases hA : atomP c f termKs name R with
  | bad ec eo => exact bd_bad b1 hA
  | ok a r1 =>
    simp only
    have b2 := take_bd (f := f) (ks := [8, 9]) (bd_ok b1 hA) (by decide)
    cases hT : takeP c f [8, 9] r1 with
    | bad ec eo => exact bd_bad b2 hT
    | ok s r2 =>
      simp only
      by_cases h9 : s.k = 9
      · rw [if_pos h9]
        have b3 := body_bd (f := f) (r2.length + 1) [] r2 (by omega) (bd_ok b2 hT)
        cases hB : bodyP c f r2 with
        | bad ec eo => exact bd_bad b3 hB
        | ok b r3 => exact bd_ok b3 hB
      · rw [if_neg h9]; exact bd_ok b2 hT
theorem prog_ne {c f ec eo : Int} : ∀ (n : Nat) (acc : List PCls) (R : List Tok), R.length < n → NE c R → progF c f n acc R = .bad ec eo → ec ≠ 0 := by
  intro n
  induction n with
  | zero => intro acc R hn; omega
  | succ n ih =>
    intro acc R hn h he
    cases hT : takeP c f [1, 0] R with
    | bad e1 e2 => rw [prog_bad1 hT] at he; injection he with q1 q2; subst q1; exact take_bd0 h hT
    | ok t r1 =>
      have l1 := take_len hT
      by_cases h0 : t.k = 0
      · rw [prog_end hT h0] at he; cases he
      · have n1 : NE c r1 := by rw [(take_eq hT).1] at h; exact h.next h0
        by_cases h5 : acc.length = 512
        · rw [prog_lim hT h0 h5] at he; injection he with q1 q2; subst q1; decide
        · have b := clause_bd (f := f) (name := t) n1
          cases hC : clauseP c f t r1 with
          | bad e1 e2 => rw [prog_cls hT h0 h5 hC] at he; injection he with q1 q2; subst q1; exact bd_bad b hC
          | ok x r2 =>
            have l2 := clause_len hC
            rw [prog_more hT h0 h5 hC] at he
            exact ih _ _ (by omega) (bd_ok b hC) he
theorem facts_ne {c f ec eo : Int} : ∀ (n : Nat) (acc : List PAtom) (R : List Tok), R.length < n → NE c R → factsF c f n acc R = .bad ec eo → ec ≠ 0 := by
  intro n
  induction n with
  | zero => intro acc R hn; omega
  | succ n ih =>
    intro acc R hn h he
    cases hT : takeP c f [1, 0] R with
    | bad e1 e2 => rw [facts_bad1 hT] at he; injection he with q1 q2; subst q1; exact take_bd0 h hT
    | ok t r1 =>
      have l1 := take_len hT
      by_cases h0 : t.k = 0
      · rw [facts_end hT h0] at he; cases he
      · have n1 : NE c r1 := by rw [(take_eq hT).1] at h; exact h.next h0
        by_cases h5 : acc.length = 4096
        · rw [facts_lim hT h0 h5] at he; injection he with q1 q2; subst q1; decide
        · have b := atom_bd (f := f) (ks := valueKs) (by decide) (name := t) n1
          cases hC : atomP c f valueKs t r1 with
          | bad e1 e2 => rw [facts_atom hT h0 h5 hC] at he; injection he with q1 q2; subst q1; exact bd_bad b hC
          | ok x r2 =>
            have l2 := atom_len hC
            have b2 := take_bd (f := f) (ks := [8]) (bd_ok b hC) (by decide)
            cases hD : takeP c f [8] r2 with
            | bad e1 e2 => rw [facts_dot hT h0 h5 hC hD] at he; injection he with q1 q2; subst q1; exact bd_bad b2 hD
            | ok s r3 =>
              have l3 := take_len hD
              rw [facts_more hT h0 h5 hC hD] at he
              exact ih _ _ (by omega) (bd_ok b2 hD) he
theorem toks_ne {s : ByteArray} {o : Nat} {L : List Tok} {c : Int} {f : Nat} (h : Toks s o L c f) : NE c L := by
  induction h with
  | bad ho hx => rcases next_bad hx with h | h <;> exact .inl (by omega)
  | last ho hx hk => exact .inr ⟨_, List.mem_singleton.2 rfl, hk⟩
  | more ho hx hk T ih =>
    rcases ih with h | ⟨x, hx, h0⟩
    · exact .inl h
    · exact .inr ⟨x, List.mem_cons_of_mem _ hx, h0⟩
theorem scan_ne (s : ByteArray) : NE (scanX s).2.1 (scanX s).1 := by
  by_cases hs : s.size ≤ 65536
  · exact toks_ne (scan_toks s hs)
  · have e : scanX s = ([], 1, 0) := if_pos (by omega)
    rw [e]; exact .inl (by decide)
end Go.Proofs.YtnfnihhbgpakkaaDoor

namespace Go.Proofs.YtnfnihhbgpakkaaDoor
set_option linter.unusedSimpArgs false
set_option linter.unusedVariables false
open Go.RowKit

def mkC (a : PAtom) : PCls := ⟨a, []⟩
def gAtom (a : PAtom) : Bool := a.ts.all fun t => t.k != 4
def gCls (x : PCls) : Bool := x.b.isEmpty && gAtom x.h
theorem value_term {k : Int} (h : k ∈ valueKs) : k ∈ termKs ∧ kindT k ≠ 4 := by
  simp only [valueKs, List.mem_cons, List.not_mem_nil, or_false] at h
  rcases h with rfl | rfl | rfl <;> exact ⟨by decide, by decide⟩
theorem term_value {k : Int} (h : k ∈ termKs) (h4 : kindT k ≠ 4) : k ∈ valueKs := by
  simp only [termKs, List.mem_cons, List.not_mem_nil, or_false] at h
  rcases h with rfl | rfl | rfl | rfl
  · exact absurd rfl h4
  all_goals decide
theorem take_sub {c f : Int} {ks ls : List Int} {R r : List Tok} {t : Tok} (h : takeP c f ks R = .ok t r) (hl : t.k ∈ ls) : takeP c f ls R = .ok t r := by
  obtain ⟨rfl, _⟩ := take_eq h
  simp only [takeP]
  rw [if_pos hl]
theorem args_val {c f : Int} : ∀ (n : Nat) (acc : List Trm) (R r : List Tok) (ts : List Trm), R.length = n → argsP c f valueKs acc R = .ok ts r → argsP c f termKs acc R = .ok ts r ∧ ∃ us, ts = acc ++ us ∧ ∀ u ∈ us, u.k ≠ 4 := by
  intro n
  induction n using Nat.strongRecOn with
  | ind n ih =>
    intro acc R r ts hn h
    cases hT : takeP c f valueKs R with
    | bad ec eo => rw [args_bad1 hT] at h; cases h
    | ok t r1 =>
      have l1 := take_len hT
      have hv := value_term (take_eq hT).2
      have hT2 := take_sub hT hv.1
      by_cases h8 : acc.length = 8
      · rw [args_lim hT h8] at h; cases h
      · rw [args_next hT h8] at h
        rw [args_next hT2 h8]
        cases hU : takeP c f [7, 6] r1 with
        | bad ec eo => rw [hU] at h; cases h
        | ok s r2 =>
          have l2 := take_len hU
          rw [hU] at h
          simp only at h ⊢
          by_cases h7 : s.k = 7
          · rw [if_pos h7] at h ⊢
            obtain ⟨q1, us, q2, q3⟩ := ih r2.length (by omega) _ r2 r ts rfl h
            refine ⟨q1, termP t :: us, by rw [q2, List.append_assoc]; rfl, fun u hu => ?_⟩
            rcases List.mem_cons.1 hu with rfl | hu
            · exact hv.2
            · exact q3 u hu
          · rw [if_neg h7] at h ⊢
            injection h with e1 e2
            subst e1 e2
            exact ⟨rfl, [termP t], rfl, fun u hu => by simp only [List.mem_singleton] at hu; subst hu; exact hv.2⟩
theorem args_term {c f : Int} : ∀ (n : Nat) (acc : List Trm) (R r : List Tok) (ts : List Trm), R.length = n → argsP c f termKs acc R = .ok ts r → (∃ us, ts = acc ++ us) ∧ ((∀ u ∈ ts, u.k ≠ 4) → argsP c f valueKs acc R = .ok ts r) := by
  intro n
  induction n using Nat.strongRecOn with
  | ind n ih =>
    intro acc R r ts hn h
    cases hT : takeP c f termKs R with
    | bad ec eo => rw [args_bad1 hT] at h; cases h
    | ok t r1 =>
      have l1 := take_len hT
      have ht := (take_eq hT).2
      by_cases h8 : acc.length = 8
      · rw [args_lim hT h8] at h; cases h
      · rw [args_next hT h8] at h
        cases hU : takeP c f [7, 6] r1 with
        | bad ec eo => rw [hU] at h; cases h
        | ok s r2 =>
          have l2 := take_len hU
          rw [hU] at h
          simp only at h
          by_cases h7 : s.k = 7
          · rw [if_pos h7] at h
            obtain ⟨⟨us, q2⟩, q1⟩ := ih r2.length (by omega) _ r2 r ts rfl h
            refine ⟨⟨termP t :: us, by rw [q2, List.append_assoc]; rfl⟩, fun hg => ?_⟩
            have hv := term_value ht (hg (termP t) (by rw [q2]; simp))
            rw [args_next (take_sub hT hv) h8, hU]
            simp only
            rw [if_pos h7]
            exact q1 hg
          · rw [if_neg h7] at h
            injection h with e1 e2
            subst e1 e2
            refine ⟨⟨_, rfl⟩, fun hg => ?_⟩
            have hv := term_value ht (hg (termP t) (by simp))
            rw [args_next (take_sub hT hv) h8, hU]
            simp only
            rw [if_neg h7]
theorem atom_val {c f : Int} {name : Tok} {R r : List Tok} {a : PAtom} (h : atomP c f valueKs name R = .ok a r) : atomP c f termKs name R = .ok a r ∧ gAtom a = true := by
  match R, h with
  | [], h => simp [atomP] at h
  | t :: r1, h =>
    unfold atomP at h ⊢
    simp only at h ⊢
    by_cases h5 : t.k = 5
    · rw [if_pos h5] at h ⊢
      cases hA : argsP c f valueKs [] r1 with
      | bad ec eo => rw [hA] at h; cases h
      | ok ts r2 =>
        rw [hA] at h
        injection h with e1 e2
        subst e1 e2
        obtain ⟨q1, us, q2, q3⟩ := args_val _ _ _ _ _ rfl hA
        rw [q1]
        refine ⟨rfl, ?_⟩
        unfold gAtom
        rw [List.all_eq_true]
        intro u hu
        have := q3 u (by rw [q2] at hu; simpa using hu)
        simpa using this
    · rw [if_neg h5] at h ⊢
      injection h with e1 e2
      subst e1 e2
      exact ⟨rfl, rfl⟩
theorem atom_term {c f : Int} {name : Tok} {R r : List Tok} {a : PAtom} (h : atomP c f termKs name R = .ok a r) (hg : gAtom a = true) : atomP c f valueKs name R = .ok a r := by
  match R, h with
  | [], h => simp [atomP] at h
  | t :: r1, h =>
    unfold atomP at h ⊢
    simp only at h ⊢
    by_cases h5 : t.k = 5
    · rw [if_pos h5] at h ⊢
      cases hA : argsP c f termKs [] r1 with
      | bad ec eo => rw [hA] at h; cases h
      | ok ts r2 =>
        rw [hA] at h
        injection h with e1 e2
        subst e1 e2
        rw [(args_term _ _ _ _ _ rfl hA).2 (fun u hu => by unfold gAtom at hg; have := List.all_eq_true.1 hg u hu; simpa using this)]
    · rw [if_neg h5] at h ⊢
      exact h
theorem body_nonempty {c f : Int} : ∀ (n : Nat) (acc : List PLit) (R r : List Tok) (b : List PLit), bodyF c f n acc R = .ok b r → b ≠ [] := by
  intro n
  induction n with
  | zero => intro acc R r b h; cases h
  | succ n ih =>
    intro acc R r b h
    cases hT : takeP c f [1, 10, 2, 3, 4] R with
    | bad ec eo => rw [body_bad1 hT] at h; cases h
    | ok t r1 =>
      by_cases h16 : acc.length = 16
      · rw [body_lim hT h16] at h; cases h
      · cases hL : litP c f t r1 with
        | bad ec eo => rw [body_lit hT h16 hL] at h; cases h
        | ok x r2 =>
          cases hU : takeP c f [7, 8] r2 with
          | bad ec eo => rw [body_sep hT h16 hL hU] at h; cases h
          | ok s r3 =>
            by_cases h8 : s.k = 8
            · rw [body_end hT h16 hL hU h8] at h; injection h with e1 e2; subst e1; simp
            · rw [body_more hT h16 hL hU h8] at h; exact ih _ _ _ _ h
theorem clause_fact {c f : Int} {name s : Tok} {R r2 r3 : List Tok} {a : PAtom} (hA : atomP c f valueKs name R = .ok a r2) (hD : takeP c f [8] r2 = .ok s r3) : clauseP c f name R = .ok (mkC a) r3 := by
  have h8 : s.k = 8 := by simpa using (take_eq hD).2
  unfold clauseP
  rw [(atom_val hA).1]
  simp only
  rw [take_sub hD (ls := [8, 9]) (by rw [h8]; decide)]
  simp only
  rw [if_neg (by omega)]
  rfl
theorem fact_clause {c f : Int} {name : Tok} {R r : List Tok} {x : PCls} (h : clauseP c f name R = .ok x r) (hg : gCls x = true) : ∃ s r2, atomP c f valueKs name R = .ok x.h r2 ∧ takeP c f [8] r2 = .ok s r ∧ x = mkC x.h := by
  unfold gCls at hg
  simp only [Bool.and_eq_true, List.isEmpty_iff] at hg
  unfold clauseP at h
  cases hA : atomP c f termKs name R with
  | bad ec eo => rw [hA] at h; cases h
  | ok a r1 =>
    rw [hA] at h
    simp only at h
    cases hT : takeP c f [8, 9] r1 with
    | bad ec eo => rw [hT] at h; cases h
    | ok s r2 =>
      rw [hT] at h
      simp only at h
      by_cases h9 : s.k = 9
      · rw [if_pos h9] at h
        cases hB : bodyP c f r2 with
        | bad ec eo => rw [hB] at h; cases h
        | ok b r3 =>
          rw [hB] at h
          injection h with e1 e2
          subst e1
          exact absurd hg.1 (body_nonempty _ _ _ _ _ hB)
      · rw [if_neg h9] at h
        injection h with e1 e2
        subst e1 e2
        have h8 : s.k = 8 := by have := (take_eq hT).2; simp at this; omega
        exact ⟨s, r1, atom_term hA hg.2, take_sub hT (by rw [h8]; decide), rfl⟩
theorem facts_more_len {c f : Int} : ∀ (n : Nat) (fs : List PAtom) (R r : List Tok) (out : List PAtom), factsF c f n fs R = .ok out r → ∃ us, out = fs ++ us := by
  intro n
  induction n with
  | zero => intro fs R r out h; cases h
  | succ n ih =>
    intro fs R r out h
    cases hT : takeP c f [1, 0] R with
    | bad e1 e2 => rw [facts_bad1 hT] at h; cases h
    | ok t r1 =>
      by_cases h0 : t.k = 0
      · rw [facts_end hT h0] at h; injection h with e1 e2; subst e1; exact ⟨[], by simp⟩
      · by_cases h5 : fs.length = 4096
        · rw [facts_lim hT h0 h5] at h; cases h
        · cases hC : atomP c f valueKs t r1 with
          | bad e1 e2 => rw [facts_atom hT h0 h5 hC] at h; cases h
          | ok x r2 =>
            cases hD : takeP c f [8] r2 with
            | bad e1 e2 => rw [facts_dot hT h0 h5 hC hD] at h; cases h
            | ok s r3 =>
              rw [facts_more hT h0 h5 hC hD] at h
              obtain ⟨us, e⟩ := ih _ _ _ _ h
              exact ⟨x :: us, by rw [e, List.append_assoc]; rfl⟩
/-- A facts text of up to 512 facts is a program of just these. -/
theorem facts_prog {c f : Int} : ∀ (n : Nat) (fs : List PAtom) (R r : List Tok) (out : List PAtom), factsF c f n fs R = .ok out r → out.length ≤ 512 → progF c f n (fs.map mkC) R = .ok (out.map mkC) r ∧ ((∀ a ∈ fs, gAtom a = true) → ∀ a ∈ out, gAtom a = true) := by
  intro n
  induction n with
  | zero => intro fs R r out h; cases h
  | succ n ih =>
    intro fs R r out h hl
    cases hT : takeP c f [1, 0] R with
    | bad e1 e2 => rw [facts_bad1 hT] at h; cases h
    | ok t r1 =>
      by_cases h0 : t.k = 0
      · rw [facts_end hT h0] at h; injection h with e1 e2; subst e1 e2; exact ⟨prog_end hT h0, fun h => h⟩
      · by_cases h5 : fs.length = 4096
        · rw [facts_lim hT h0 h5] at h; cases h
        · cases hC : atomP c f valueKs t r1 with
          | bad e1 e2 => rw [facts_atom hT h0 h5 hC] at h; cases h
          | ok x r2 =>
            cases hD : takeP c f [8] r2 with
            | bad e1 e2 => rw [facts_dot hT h0 h5 hC hD] at h; cases h
            | ok s r3 =>
              rw [facts_more hT h0 h5 hC hD] at h
              obtain ⟨us, e⟩ := facts_more_len _ _ _ _ _ h
              obtain ⟨q1, q2⟩ := ih _ _ _ _ h hl
              have hne : (fs.map mkC).length ≠ 512 := by
                have := congrArg List.length e
                simp only [List.length_append, List.length_singleton] at this
                rw [List.length_map]; omega
              rw [prog_more hT h0 hne (clause_fact hC hD)]
              rw [List.map_append, List.map_singleton] at q1
              exact ⟨q1, fun hg => q2 (fun a ha => (List.mem_append.1 ha).elim (hg a) (fun e => by simp only [List.mem_singleton] at e; subst e; exact (atom_val hC).2))⟩
theorem prog_len {c f : Int} : ∀ (n : Nat) (acc : List PCls) (R r : List Tok) (out : List PCls), progF c f n acc R = .ok out r → ∃ us, out = acc ++ us := by
  intro n
  induction n with
  | zero => intro acc R r out h; cases h
  | succ n ih =>
    intro acc R r out h
    cases hT : takeP c f [1, 0] R with
    | bad e1 e2 => rw [prog_bad1 hT] at h; cases h
    | ok t r1 =>
      by_cases h0 : t.k = 0
      · rw [prog_end hT h0] at h; injection h with e1 e2; subst e1; exact ⟨[], by simp⟩
      · by_cases h5 : acc.length = 512
        · rw [prog_lim hT h0 h5] at h; cases h
        · cases hC : clauseP c f t r1 with
          | bad e1 e2 => rw [prog_cls hT h0 h5 hC] at h; cases h
          | ok x r2 =>
            rw [prog_more hT h0 h5 hC] at h
            obtain ⟨us, e⟩ := ih _ _ _ _ h
            exact ⟨x :: us, by rw [e, List.append_assoc]; rfl⟩
theorem prog_most {c f : Int} : ∀ (n : Nat) (acc : List PCls) (R r : List Tok) (out : List PCls), acc.length ≤ 512 → progF c f n acc R = .ok out r → out.length ≤ 512 := by
  intro n
  induction n with
  | zero => intro acc R r out _ h; cases h
  | succ n ih =>
    intro acc R r out hl h
    cases hT : takeP c f [1, 0] R with
    | bad e1 e2 => rw [prog_bad1 hT] at h; cases h
    | ok t r1 =>
      by_cases h0 : t.k = 0
      · rw [prog_end hT h0] at h; injection h with e1 e2; subst e1; exact hl
      · by_cases h5 : acc.length = 512
        · rw [prog_lim hT h0 h5] at h; cases h
        · cases hC : clauseP c f t r1 with
          | bad e1 e2 => rw [prog_cls hT h0 h5 hC] at h; cases h
          | ok x r2 =>
            rw [prog_more hT h0 h5 hC] at h
            exact ih _ _ _ _ (by simp; omega) h
/-- A program of nothing but facts without variables is a facts text. -/
theorem prog_facts {c f : Int} : ∀ (n : Nat) (acc : List PCls) (R r : List Tok) (out : List PCls), acc.length ≤ 512 → progF c f n acc R = .ok out r → (∀ x ∈ out, gCls x = true) → factsF c f n (acc.map (·.h)) R = .ok (out.map (·.h)) r := by
  intro n
  induction n with
  | zero => intro acc R r out _ h; cases h
  | succ n ih =>
    intro acc R r out hl h hg
    cases hT : takeP c f [1, 0] R with
    | bad e1 e2 => rw [prog_bad1 hT] at h; cases h
    | ok t r1 =>
      by_cases h0 : t.k = 0
      · rw [prog_end hT h0] at h; injection h with e1 e2; subst e1 e2; exact facts_end hT h0
      · by_cases h5 : acc.length = 512
        · rw [prog_lim hT h0 h5] at h; cases h
        · cases hC : clauseP c f t r1 with
          | bad e1 e2 => rw [prog_cls hT h0 h5 hC] at h; cases h
          | ok x r2 =>
            rw [prog_more hT h0 h5 hC] at h
            obtain ⟨us, e⟩ := prog_len _ _ _ _ _ h
            obtain ⟨s, r4, q1, q2, q3⟩ := fact_clause hC (hg x (by rw [e]; simp))
            have := ih _ _ _ _ (by simp; omega) h hg
            rw [List.map_append, List.map_singleton] at this
            rw [facts_more hT h0 (by rw [List.length_map]; omega) q1 q2]
            exact this
end Go.Proofs.YtnfnihhbgpakkaaDoor

namespace Go.Proofs.YtnfnihhbgpakkaaDoor
set_option linter.unusedSimpArgs false
set_option linter.unusedVariables false
open Go.RowKit

theorem neqTrmSame (a : Trm) (w : World) : (binOp .neq 67 (.agg #[.int .i64 a.k, .int .i64 a.n, .string a.s, .int .i64 a.off]) (.agg #[.int .i64 a.k, .int .i64 a.n, .string a.s, .int .i64 a.off])).run Tryd.prog w = .ok (.bool false) w := by
  have h1 := run_equalIn_struct (P := Tryd.prog) w 9999 67 #[.int .i64 a.k, .int .i64 a.n, .string a.s, .int .i64 a.off] #[.int .i64 a.k, .int .i64 a.n, .string a.s, .int .i64 a.off] (by kernel_rfl) (by kernel_rfl)
  simp only [binOp]
  simp only [Op.equal, Op.maxDepth, Sem.run_bind]
  go_simp

set_option maxRecDepth 100000 in
set_option maxHeartbeats 1000000 in
theorem sameAtom_any {w : World} {F G : Nat → Prop} (pr : ByteArray) (off : Int) (ts : List Trm) (v1 v2 : Value) (h1 : Lst elTrm w F v1 ts) (h2 : Lst elTrm w G v2 ts) :
    Calls Tryd.prog 13 #[.agg #[.string pr, v1, .int .i64 off], .agg #[.string pr, v2, .int .i64 off]] w fun e w' => e = .returned (.bool true) ∧ Below w.heap.size w w' := by
  obtain ⟨a1, c1, rfl, -, -, hlen⟩ := h1.shape
  obtain ⟨a2, c2, rfl, -⟩ := h2.shape
  have HH1 := hide h1
  have HH2 := hide h2
  clear h1 h2
  have hq : (off != off) = false := by simp
  have hps : (pr.toList != pr.toList) = false := by simp
  go_enter Tryd.func13, Tryd.ntmps13
  go_wp2
  obtain ⟨Y, hY⟩ : ∃ Y, Y = (w.alloc (.cells #[.string pr, .slice a1 ts.length c1, .int .i64 off] 36)).alloc (.cells #[.string pr, .slice a2 ts.length c2, .int .i64 off] 36) := ⟨_, rfl⟩
  have HB0 : Hid (Below w.heap.size w Y) := by rw [hY]; exact below2a _ _ _
  have HP : Hid (Y.cell? ⟨w.heap.size, 1, none⟩ = some (.slice a1 ts.length c1) ∧ Y.cell? ⟨w.heap.size + 1, 1, none⟩ = some (.slice a2 ts.length c2)) := by
    show _ ∧ _
    rw [hY]
    constructor <;> simp
  rw [← hY]
  clear hY
  go_loopw [30] (fun i wl => ∃ k : Nat, k ≤ ts.length ∧ i = .int .i64 k ∧ Hid (Below Y.heap.size Y wl)) (fun i _ => ts.length - (intOf i).toNat)
  case atStart => exact ⟨0, by omega, rfl, Below.refl _ _⟩
  case round =>
    obtain ⟨k, hk, rfl, HB⟩ := hrel
    have HBw := hide (HB0.out.trans (HB.out.mono HB0.out.size))
    have p1 := kept_cell HB.out HP.out.1
    have p2 := kept_cell HB.out HP.out.2
    by_cases hlt : k < ts.length
    · have hi : (k : Int) < (ts.length : Int) := by omega
      have hi0 : (0 : Int) ≤ (k : Int) := by omega
      obtain ⟨b1, o1, rfl, -, -, hr1⟩ := HH1.out.row (by omega)
      obtain ⟨b2, o2, rfl, -, -, hr2⟩ := HH2.out.row (by omega)
      obtain ⟨x, hx⟩ : ∃ x, ts[k]? = some x := ⟨_, List.getElem?_eq_getElem hlt⟩
      have x0 := over_cell (kept_cell HBw.out (hr1 k x hx 0 _ rfl))
      have x1 := over_cell (kept_cell HBw.out (hr1 k x hx 1 _ rfl))
      have x2 := over_cell (kept_cell HBw.out (hr1 k x hx 2 _ rfl))
      have x3 := over_cell (kept_cell HBw.out (hr1 k x hx 3 _ rfl))
      have y0 := over_cell (kept_cell HBw.out (hr2 k x hx 0 _ rfl))
      have y1 := over_cell (kept_cell HBw.out (hr2 k x hx 1 _ rfl))
      have y2 := over_cell (kept_cell HBw.out (hr2 k x hx 2 _ rfl))
      have y3 := over_cell (kept_cell HBw.out (hr2 k x hx 3 _ rfl))
      simp only [elTrm, Nat.add_zero] at x0 x1 x2 x3 y0 y1 y2 y3
      have hs := neqTrmSame x
      clear hr1 hr2 hx
      go_wp2
      refine wp_region_over (fun W => W = wr) (by kernel_rfl) (by kernel_rfl) rfl ?_
      rintro W rfl
      have p1' := over_cell p1
      have p2' := over_cell p2
      clear p1 p2
      repeat (go_big_quiet_step (first | fail))
      refine wpQuiet_nil ?_
      rintro _ ⟨z, rfl⟩
      have HB3 := hide (HB.out.trans ((over_below W z).mono HB.out.size))
      clear x0 x1 x2 x3 y0 y1 y2 y3 p1' p2'
      go_wp2
      go_roundw
      case rel => exact ⟨k + 1, by omega, by go_num, HB3⟩
      case measure => simp [intOf]; omega
    · obtain rfl : k = ts.length := by omega
      have hi : ¬ (ts.length : Int) < (ts.length : Int) := by omega
      go_wp2
      go_ret
      exact ⟨rfl, HBw.out⟩

theorem all_take_snoc {α : Type} {P : α → Prop} {l : List α} {k : Nat} {x : α} (h : ∀ y ∈ l.take k, P y) (hx : l[k]? = some x) (hp : P x) : ∀ y ∈ l.take (k + 1), P y := by
  intro y hy
  rw [List.take_add_one, hx, Option.toList_some, List.mem_append, List.mem_singleton] at hy
  rcases hy with hy | rfl
  · exact h y hy
  · exact hp

set_option maxRecDepth 100000 in
set_option maxHeartbeats 2000000 in
theorem ground_law {w : World} {F : Nat → Prop} {v : Value} {cs : List Clx} (h : Lst elClx w F v cs) (hc : ∀ x ∈ cs, x.h.ts.length < 1073741824 ∧ x.ls.length < 1073741824) :
    Calls Tryd.prog 12 #[v] w fun e w' => e = .returned (.bool (cs.all fun x => gCls x.pur)) ∧ Below w.heap.size w w' := by
  obtain ⟨va, vc, rfl, -, -, hn30⟩ := h.shape
  have HH := hide h
  have HC := hide hc
  clear h hc
  obtain ⟨n, hn⟩ : ∃ n, n = cs.length := ⟨_, rfl⟩
  rw [← hn] at hn30 ⊢
  have HN := hide hn
  clear hn
  obtain ⟨res, hres⟩ : ∃ res, (cs.all fun x => gCls x.pur) = res := ⟨_, rfl⟩
  rw [hres]
  have HR := hide hres
  clear hres
  go_enter Tryd.func12, Tryd.ntmps12
  go_wp2
  go_loopw [9] (fun i wl => ∃ k : Nat, k ≤ n ∧ i = .int .i64 k ∧ Hid (Below w.heap.size w wl) ∧ Hid (∀ x ∈ cs.take k, gCls x.pur = true)) (fun i _ => n - (intOf i).toNat)
  case atStart => exact ⟨0, by omega, rfl, Below.refl _ _, by show ∀ x ∈ _, _; simp⟩
  case round =>
    obtain ⟨k, hk, rfl, HB, HA⟩ := hrel
    by_cases hlt : k < n
    · have hi : (k : Int) < (n : Int) := by omega
      have hi0 : (0 : Int) ≤ (k : Int) := by omega
      obtain ⟨x, hx⟩ : ∃ x, cs[k]? = some x := ⟨_, List.getElem?_eq_getElem (by rw [← HN.out]; exact hlt)⟩
      obtain ⟨b1, o1, rfl, -, -, hr1⟩ := HH.out.row (by rw [← HN.out]; omega)
      have hok := HH.out.ok (List.mem_of_getElem? hx)
      have hsm := HC.out x (List.mem_of_getElem? hx)
      have HXm := hide (List.mem_of_getElem? hx)
      have HXk := hide hx
      obtain ⟨⟨ap, av, aoff, ats⟩, bv, ls⟩ := x
      obtain ⟨ta, tc, rfl, -⟩ := (show Lst elTrm w F av ats from hok.1.2.2).shape
      obtain ⟨la, lc, rfl, -⟩ := (show Lst elLix w F bv ls from hok.2).shape
      have HT := hide (show Lst elTrm w F (.slice ta ats.length tc) ats from hok.1.2.2)
      have x0 := kept_cell HB.out (hr1 k _ hx 0 _ rfl)
      have x1 := kept_cell HB.out (hr1 k _ hx 1 _ rfl)
      have x2 := kept_cell HB.out (hr1 k _ hx 2 _ rfl)
      have x3 := kept_cell HB.out (hr1 k _ hx 3 _ rfl)
      simp only [elClx, Nat.add_zero] at x0 x1 x2 x3
      clear hr1 hx hok
      by_cases hb : 0 < ls.length
      · have hbi : (0 : Int) < (ls.length : Int) := by omega
        have HF : Hid (res = false) := by
          show _ = _
          rw [← HR.out, List.all_eq_false]
          refine ⟨_, HXm.out, ?_⟩
          have : ls ≠ [] := fun e => by rw [e] at hb; simp at hb
          simp [gCls, Clx.pur, this]
        go_wp2
        go_ret
        exact ⟨by rw [HF.out]; rfl, HB.out.trans ((belowA _ _).mono HB.out.size)⟩
      · have hbi : ¬ (0 : Int) < (ls.length : Int) := by omega
        obtain rfl : ls = [] := List.eq_nil_of_length_eq_zero (by omega)
        generalize wr = wo at *
        go_wp2
        obtain ⟨Z, hZ⟩ : ∃ Z, Z = wo.alloc (.cells #[.string ap, .slice ta ats.length tc, .int .i64 aoff, .slice la 0 lc] 48) := ⟨_, rfl⟩
        have HZ : Hid (Below w.heap.size w Z) := by rw [hZ]; exact HB.out.trans ((belowA _ _).mono HB.out.size)
        try simp only [List.length_nil] at *
        rw [← hZ]
        clear hZ x0 x1 x2 x3
        go_loopw [21] (fun i wl => ∃ j : Nat, j ≤ ats.length ∧ i = .int .i64 j ∧ Hid (Below w.heap.size w wl) ∧ Hid (∀ u ∈ ats.take j, u.k ≠ 4)) (fun i _ => ats.length - (intOf i).toNat)
        case atStart => exact ⟨0, by omega, rfl, HZ, by show ∀ x ∈ _, _; simp⟩
        case round =>
          obtain ⟨j, hj, rfl, HB2, HA2⟩ := hrel
          by_cases hlt2 : j < ats.length
          · have hj1 : (j : Int) < (ats.length : Int) := by omega
            have hj0 : (0 : Int) ≤ (j : Int) := by omega
            obtain ⟨u, hu⟩ : ∃ u, ats[j]? = some u := ⟨_, List.getElem?_eq_getElem hlt2⟩
            obtain ⟨b2, o2, rfl, -, -, hr2⟩ := HT.out.row (by omega)
            have y0 := kept_cell HB2.out (hr2 j _ hu 0 _ rfl)
            have y1 := kept_cell HB2.out (hr2 j _ hu 1 _ rfl)
            have y2 := kept_cell HB2.out (hr2 j _ hu 2 _ rfl)
            have y3 := kept_cell HB2.out (hr2 j _ hu 3 _ rfl)
            simp only [elTrm, Nat.add_zero] at y0 y1 y2 y3
            clear hr2
            by_cases h4 : u.k = 4
            · have e4 : (u.k == 4) = true := by simpa using h4
              have HF : Hid (res = false) := by
                show _ = _
                rw [← HR.out, List.all_eq_false]
                refine ⟨_, HXm.out, ?_⟩
                have : (ats.all fun t => t.k != 4) = false := List.all_eq_false.2 ⟨u, List.mem_of_getElem? hu, by simp [h4]⟩
                simp [gCls, gAtom, Clx.pur, Atx.pur]
                exact ⟨u, List.mem_of_getElem? hu, h4⟩
              clear h4 hu
              go_wp2
              go_ret
              exact ⟨by rw [HF.out]; rfl, HB2.out.trans ((belowA _ _).mono HB2.out.size)⟩
            · have e4 : (u.k == 4) = false := by simpa using h4
              have HA3 := hide (all_take_snoc HA2.out hu h4)
              clear h4 hu
              go_wp2
              go_roundw
              case rel => exact ⟨j + 1, by omega, by go_num, HB2.out.trans ((belowA _ _).mono HB2.out.size), HA3⟩
              case measure => simp [intOf]; omega
          · obtain rfl : j = ats.length := by omega
            have hj1 : ¬ (ats.length : Int) < (ats.length : Int) := by omega
            have HG : Hid (gCls (Clx.pur ⟨⟨ap, .slice ta ats.length tc, aoff, ats⟩, .slice la 0 lc, []⟩) = true) := by
              show _ = _
              have := HA2.out
              rw [List.take_length] at this
              simp [gCls, gAtom, Clx.pur, Atx.pur]
              exact this
            have HA4 := hide (all_take_snoc (P := fun x => gCls x.pur = true) HA.out HXk.out HG.out)
            go_wp2
            go_roundw
            case rel => exact ⟨k + 1, by omega, by go_num, HB2, HA4⟩
            case measure => simp [intOf]; omega
    · obtain rfl : k = n := by omega
      have hi : ¬ (k : Int) < (k : Int) := by omega
      have HT : Hid (res = true) := by
        show _ = _
        rw [← HR.out, List.all_eq_true]
        have := HA.out
        rw [List.take_of_length_le (by rw [← HN.out]; omega)] at this
        exact this
      go_wp2
      go_ret
      exact ⟨by rw [HT.out]; rfl, HB.out⟩
end Go.Proofs.YtnfnihhbgpakkaaDoor

namespace Go.Proofs.YtnfnihhbgpakkaaDoor
set_option linter.unusedSimpArgs false
set_option linter.unusedVariables false
open Go.RowKit

theorem faultEql (w : World) : (binOp .eql 27 (.agg #[.int .i64 0, .int .i64 0, .int .i64 0]) (.agg #[.int .i64 0, .int .i64 0, .int .i64 0])).run Tryd.prog w = .ok (.bool true) w := by
  have h1 := run_equalIn_struct (P := Tryd.prog) w 9999 27 #[.int .i64 0, .int .i64 0, .int .i64 0] #[.int .i64 0, .int .i64 0, .int .i64 0] (by kernel_rfl) (by kernel_rfl)
  simp only [binOp]
  simp only [Op.equal, Op.maxDepth, Sem.run_bind]
  go_simp
theorem faultEqlBad (c o : Int) (h : c ≠ 0) (w : World) : (binOp .eql 27 (.agg #[.int .i64 c, .int .i64 0, .int .i64 o]) (.agg #[.int .i64 0, .int .i64 0, .int .i64 0])).run Tryd.prog w = .ok (.bool false) w := by
  have hc : (c == 0) = false := by simpa using h
  have h1 := run_equalIn_struct (P := Tryd.prog) w 9999 27 #[.int .i64 c, .int .i64 0, .int .i64 o] #[.int .i64 0, .int .i64 0, .int .i64 0] (by kernel_rfl) (by kernel_rfl)
  simp only [binOp]
  simp only [Op.equal, Op.maxDepth, Sem.run_bind]
  go_simp
theorem faultNeqBad (c o : Int) (h : c ≠ 0) (w : World) : (binOp .neq 27 (.agg #[.int .i64 c, .int .i64 0, .int .i64 o]) (.agg #[.int .i64 0, .int .i64 0, .int .i64 0])).run Tryd.prog w = .ok (.bool true) w := by
  have hc : (c == 0) = false := by simpa using h
  have h1 := run_equalIn_struct (P := Tryd.prog) w 9999 27 #[.int .i64 c, .int .i64 0, .int .i64 o] #[.int .i64 0, .int .i64 0, .int .i64 0] (by kernel_rfl) (by kernel_rfl)
  simp only [binOp]
  simp only [Op.equal, Op.maxDepth, Sem.run_bind]
  go_simp
theorem box_kept {W W' : World} {b : Nat} {x : Obj} (h : W.heap[b]? = some x) (hb : Below W.heap.size W W') : W'.heap[b]? = some x := by
  rw [hb.block _ (Array.getElem?_eq_some_iff.1 h).1]; exact h
theorem two_first (w : World) (x y : Obj) : ((w.alloc x).alloc y).heap[w.heap.size]? = some x := by
  rw [(belowA (w.alloc x) y).block _ (by simp)]; exact heap_alloc_new w _
theorem two_second (w : World) (x y : Obj) : ((w.alloc x).alloc y).heap[w.heap.size + 1]? = some y := by
  have := heap_alloc_new (w.alloc x) y
  simpa using this
theorem clx_small {w : World} {F : Nat → Prop} {v : Value} {cs : List Clx} (h : Lst elClx w F v cs) : ∀ x ∈ cs, x.h.ts.length < 1073741824 ∧ x.ls.length < 1073741824 := fun x hx => by
  have ho := h.ok hx
  obtain ⟨_, _, _, _, _, h1⟩ := ho.1.2.2.shape
  obtain ⟨_, _, _, _, _, h2⟩ := ho.2.shape
  exact ⟨h1, h2⟩

theorem gmap {cs : List Clx} {b : List PCls} (h : cs.map Clx.pur = b) : (cs.all fun x => gCls x.pur) = b.all gCls := by rw [← h, List.all_map]; rfl
theorem same_at {fs : List Atx} {cs : List Clx} {out : List PAtom} {k : Nat} {x : Atx} {y : Clx} (h1 : fs.map Atx.pur = out) (h2 : cs.map Clx.pur = out.map mkC) (hx : fs[k]? = some x) (hy : cs[k]? = some y) : x.p = y.h.p ∧ x.off = y.h.off ∧ x.ts = y.h.ts := by
  have e : (cs.map Clx.pur)[k]? = ((fs.map Atx.pur).map mkC)[k]? := by rw [h2, h1]
  rw [List.getElem?_map, hy, List.getElem?_map, List.getElem?_map, hx] at e
  simp only [Option.map_some, Option.some.injEq, Clx.pur, mkC, PCls.mk.injEq, Atx.pur, PAtom.mk.injEq] at e
  exact ⟨e.1.1.symm, e.1.2.2.symm, e.1.2.1.symm⟩
theorem len_eq {fs : List Atx} {cs : List Clx} {out : List PAtom} (h1 : fs.map Atx.pur = out) (h2 : cs.map Clx.pur = out.map mkC) : fs.length = cs.length := by
  have e1 := congrArg List.length h1
  have e2 := congrArg List.length h2
  simp only [List.length_map] at e1 e2
  omega

set_option maxRecDepth 100000 in
set_option maxHeartbeats 4000000 in
theorem pg_bb (s : ByteArray) (w : World) (hl : LexLaid w) (hs : s.size ≤ 140737488351232) {pc po fc fo : Int} (hP : progP (scanX s).2.1 ((scanX s).2.2 : Int) (scanX s).1 = .bad pc po) (hpc : pc ≠ 0) (hF : factsP (scanX s).2.1 ((scanX s).2.2 : Int) (scanX s).1 = .bad fc fo) (hfc : fc ≠ 0) :
    Calls Tryd.prog 4 #[.string s] w fun e w' => e = .returned (.bool true) ∧ Below w.heap.size w w' := by
  have HPr := hide (parseProgram_any s w hl hs)
  have HFa := hide (fun (W : World) (hb : Below w.heap.size w W) => parseFacts_any s W (hl.kept hb) hs)
  have HTk := hide (fun (W : World) (hb : Below w.heap.size w W) => taken_any W (hl.kept hb))
  have hf0 := fault_self
  have hf1 := faultEql
  have hp1 := faultNeqBad pc po hpc
  have HP := hide hP
  clear hP hpc
  have hq1 := faultEqlBad fc fo hfc
  have HF := hide hF
  clear hF hfc
  clear hl hs
  go_enter Tryd.func4, Tryd.ntmps4
  go_wp2_with (first
    | (go_at_call 11; refine HPr.out.mono ?_; intro e w1 hq; obtain ⟨rfl, hb1⟩ := readProg_bad hq HP.out; clear hq; have HBW := hide (belowt2 hb1 (below2a w1 (.cells #[.slice none 0 0] 41) (.cells #[.int .i64 pc, .int .i64 0, .int .i64 po] 27))); have HBp := hide (two_first w1 (.cells #[.slice none 0 0] 41) (.cells #[.int .i64 pc, .int .i64 0, .int .i64 po] 27)); have HBf := hide (two_second w1 (.cells #[.slice none 0 0] 41) (.cells #[.int .i64 pc, .int .i64 0, .int .i64 po] 27)); clear hb1; unfold faultV)
    | (go_at_call 8; refine (HFa.out _ HBW.out).mono ?_; intro e w2 hq; obtain ⟨rfl, hb2⟩ := readFacts_bad hq HF.out; clear hq; have HBp3 := hide (box_kept (box_kept HBp.out hb2) (belowA w2 (.cells #[.int .i64 fc, .int .i64 0, .int .i64 fo] 27))); have HBf3 := hide (box_kept (box_kept HBf.out hb2) (belowA w2 (.cells #[.int .i64 fc, .int .i64 0, .int .i64 fo] 27))); have HBg3 := hide (heap_alloc_new w2 (.cells #[.int .i64 fc, .int .i64 0, .int .i64 fo] 27)); have HBW3 := hide (belowt2 (HBW.out.trans (hb2.mono HBW.out.size)) (belowA w2 (.cells #[.int .i64 fc, .int .i64 0, .int .i64 fo] 27))); obtain ⟨k0, -⟩ := progCell HBp3.out; obtain ⟨⟨k1, k2, k3⟩, -⟩ := fault_cells HBf3.out; obtain ⟨⟨k4, k5, k6⟩, -⟩ := fault_cells HBg3.out;  clear hb2; unfold faultV)
    | (go_at_call 10; refine (HTk.out _ HBW3.out).mono ?_; rintro e w9 ⟨rfl, hb9⟩; have HB9 := hide (belowt2 HBW3.out hb9); clear hb9))
  go_ret
  exact ⟨rfl, HB9.out⟩

set_option maxRecDepth 100000 in
set_option maxHeartbeats 4000000 in
theorem pg_bo (s : ByteArray) (w : World) (hl : LexLaid w) (hs : s.size ≤ 140737488351232) {pc po : Int} {out : List PAtom} {rf : List Tok} (hP : progP (scanX s).2.1 ((scanX s).2.2 : Int) (scanX s).1 = .bad pc po) (hpc : pc ≠ 0) (hF : factsP (scanX s).2.1 ((scanX s).2.2 : Int) (scanX s).1 = .ok out rf) (hl5 : 512 < out.length) :
    Calls Tryd.prog 4 #[.string s] w fun e w' => e = .returned (.bool true) ∧ Below w.heap.size w w' := by
  have HPr := hide (parseProgram_any s w hl hs)
  have HFa := hide (fun (W : World) (hb : Below w.heap.size w W) => parseFacts_any s W (hl.kept hb) hs)
  have HTk := hide (fun (W : World) (hb : Below w.heap.size w W) => taken_any W (hl.kept hb))
  have hf0 := fault_self
  have hf1 := faultEql
  have hp1 := faultNeqBad pc po hpc
  have HP := hide hP
  clear hP hpc
  have HF := hide hF
  clear hF
  clear hl hs
  go_enter Tryd.func4, Tryd.ntmps4
  go_wp2_with (first
    | (go_at_call 11; refine HPr.out.mono ?_; intro e w1 hq; obtain ⟨rfl, hb1⟩ := readProg_bad hq HP.out; clear hq; have HBW := hide (belowt2 hb1 (below2a w1 (.cells #[.slice none 0 0] 41) (.cells #[.int .i64 pc, .int .i64 0, .int .i64 po] 27))); have HBp := hide (two_first w1 (.cells #[.slice none 0 0] 41) (.cells #[.int .i64 pc, .int .i64 0, .int .i64 po] 27)); have HBf := hide (two_second w1 (.cells #[.slice none 0 0] 41) (.cells #[.int .i64 pc, .int .i64 0, .int .i64 po] 27)); clear hb1; unfold faultV)
    | (go_at_call 8; refine (HFa.out _ HBW.out).mono ?_; intro e w2 hq; obtain ⟨v, fs, rfl, hpuf, hlef, hlf, hb2⟩ := readFacts_ok hq HF.out; clear hq; obtain ⟨fa, fcap, rfl, -⟩ := hlf.shape; have HBp3 := hide (box_kept (box_kept HBp.out hb2) (belowA w2 (.cells #[.int .i64 0, .int .i64 0, .int .i64 0] 27))); have HBf3 := hide (box_kept (box_kept HBf.out hb2) (belowA w2 (.cells #[.int .i64 0, .int .i64 0, .int .i64 0] 27))); have HBg3 := hide (heap_alloc_new w2 (.cells #[.int .i64 0, .int .i64 0, .int .i64 0] 27)); have HBW3 := hide (belowt2 (HBW.out.trans (hb2.mono HBW.out.size)) (belowA w2 (.cells #[.int .i64 0, .int .i64 0, .int .i64 0] 27))); obtain ⟨k0, -⟩ := progCell HBp3.out; obtain ⟨⟨k1, k2, k3⟩, -⟩ := fault_cells HBf3.out; obtain ⟨⟨k4, k5, k6⟩, -⟩ := fault_cells HBg3.out;  have HLf3 := hide (hlf.all.kept (belowA w2 (.cells #[.int .i64 0, .int .i64 0, .int .i64 0] 27))); have HPuf := hide hpuf; have HLef := hide hlef; have h512 : ¬ (fs.length : Int) ≤ 512 := (by have := congrArg List.length hpuf; rw [List.length_map] at this; omega); clear hb2 hlf hpuf hlef; unfold faultV)
    | (go_at_call 10; refine (HTk.out _ HBW3.out).mono ?_; rintro e w9 ⟨rfl, hb9⟩; have HB9 := hide (belowt2 HBW3.out hb9); clear hb9))
  go_ret
  exact ⟨rfl, HB9.out⟩

set_option maxRecDepth 100000 in
set_option maxHeartbeats 4000000 in
theorem pg_ob (s : ByteArray) (w : World) (hl : LexLaid w) (hs : s.size ≤ 140737488351232) {fc fo : Int} {b : List PCls} {rp : List Tok} (hP : progP (scanX s).2.1 ((scanX s).2.2 : Int) (scanX s).1 = .ok b rp) (hF : factsP (scanX s).2.1 ((scanX s).2.2 : Int) (scanX s).1 = .bad fc fo) (hfc : fc ≠ 0) (hgr : b.all gCls = false) :
    Calls Tryd.prog 4 #[.string s] w fun e w' => e = .returned (.bool true) ∧ Below w.heap.size w w' := by
  have HPr := hide (parseProgram_any s w hl hs)
  have HFa := hide (fun (W : World) (hb : Below w.heap.size w W) => parseFacts_any s W (hl.kept hb) hs)
  have HTk := hide (fun (W : World) (hb : Below w.heap.size w W) => taken_any W (hl.kept hb))
  have hf0 := fault_self
  have hf1 := faultEql
  have HP := hide hP
  clear hP
  have hq1 := faultEqlBad fc fo hfc
  have HF := hide hF
  clear hF hfc
  clear hl hs
  go_enter Tryd.func4, Tryd.ntmps4
  go_wp2_with (first
    | (go_at_call 11; refine HPr.out.mono ?_; intro e w1 hq; obtain ⟨v, cs, rfl, hpur, hlen, hls, hb1⟩ := readProg_ok hq HP.out; clear hq; obtain ⟨va, vc, rfl, -⟩ := hls.shape; have HBW := hide (belowt2 hb1 (below2a w1 (.cells #[.slice va cs.length vc] 41) (.cells #[.int .i64 0, .int .i64 0, .int .i64 0] 27))); have HBp := hide (two_first w1 (.cells #[.slice va cs.length vc] 41) (.cells #[.int .i64 0, .int .i64 0, .int .i64 0] 27)); have HBf := hide (two_second w1 (.cells #[.slice va cs.length vc] 41) (.cells #[.int .i64 0, .int .i64 0, .int .i64 0] 27)); have HLs := hide (hls.all.kept (below2a w1 (.cells #[.slice va cs.length vc] 41) (.cells #[.int .i64 0, .int .i64 0, .int .i64 0] 27))); have HPu := hide hpur; have HLen := hide hlen; have HSm := hide (clx_small hls); clear hb1 hls hpur hlen; unfold faultV)
    | (go_at_call 8; refine (HFa.out _ HBW.out).mono ?_; intro e w2 hq; obtain ⟨rfl, hb2⟩ := readFacts_bad hq HF.out; clear hq; have HBp3 := hide (box_kept (box_kept HBp.out hb2) (belowA w2 (.cells #[.int .i64 fc, .int .i64 0, .int .i64 fo] 27))); have HBf3 := hide (box_kept (box_kept HBf.out hb2) (belowA w2 (.cells #[.int .i64 fc, .int .i64 0, .int .i64 fo] 27))); have HBg3 := hide (heap_alloc_new w2 (.cells #[.int .i64 fc, .int .i64 0, .int .i64 fo] 27)); have HBW3 := hide (belowt2 (HBW.out.trans (hb2.mono HBW.out.size)) (belowA w2 (.cells #[.int .i64 fc, .int .i64 0, .int .i64 fo] 27))); obtain ⟨k0, -⟩ := progCell HBp3.out; obtain ⟨⟨k1, k2, k3⟩, -⟩ := fault_cells HBf3.out; obtain ⟨⟨k4, k5, k6⟩, -⟩ := fault_cells HBg3.out;  have HLs3 := hide (HLs.out.kept (belowt2 hb2 (belowA w2 (.cells #[.int .i64 fc, .int .i64 0, .int .i64 fo] 27)))); clear hb2; unfold faultV)
    | (go_at_call 12; have HGq := ground_law (w := w2.alloc (.cells #[.int .i64 fc, .int .i64 0, .int .i64 fo] 27)) HLs3.out HSm.out; rw [gmap HPu.out, hgr] at HGq; refine HGq.mono ?_; rintro e w4 ⟨rfl, hb4⟩; have HBW4 := hide (belowt2 HBW3.out hb4); clear hb4 HGq)
    | (go_at_call 10; refine (HTk.out _ HBW4.out).mono ?_; rintro e w9 ⟨rfl, hb9⟩; have HB9 := hide (belowt2 HBW4.out hb9); clear hb9))
  go_ret
  exact ⟨rfl, HB9.out⟩

set_option maxRecDepth 100000 in
set_option maxHeartbeats 4000000 in
theorem pg_oo (s : ByteArray) (w : World) (hl : LexLaid w) (hs : s.size ≤ 140737488351232) {out : List PAtom} {rf : List Tok} {b : List PCls} {rp : List Tok} (hP : progP (scanX s).2.1 ((scanX s).2.2 : Int) (scanX s).1 = .ok b rp) (hF : factsP (scanX s).2.1 ((scanX s).2.2 : Int) (scanX s).1 = .ok out rf) (hl5 : 512 < out.length) (hgr : b.all gCls = false) :
    Calls Tryd.prog 4 #[.string s] w fun e w' => e = .returned (.bool true) ∧ Below w.heap.size w w' := by
  have HPr := hide (parseProgram_any s w hl hs)
  have HFa := hide (fun (W : World) (hb : Below w.heap.size w W) => parseFacts_any s W (hl.kept hb) hs)
  have HTk := hide (fun (W : World) (hb : Below w.heap.size w W) => taken_any W (hl.kept hb))
  have hf0 := fault_self
  have hf1 := faultEql
  have HP := hide hP
  clear hP
  have HF := hide hF
  clear hF
  clear hl hs
  go_enter Tryd.func4, Tryd.ntmps4
  go_wp2_with (first
    | (go_at_call 11; refine HPr.out.mono ?_; intro e w1 hq; obtain ⟨v, cs, rfl, hpur, hlen, hls, hb1⟩ := readProg_ok hq HP.out; clear hq; obtain ⟨va, vc, rfl, -⟩ := hls.shape; have HBW := hide (belowt2 hb1 (below2a w1 (.cells #[.slice va cs.length vc] 41) (.cells #[.int .i64 0, .int .i64 0, .int .i64 0] 27))); have HBp := hide (two_first w1 (.cells #[.slice va cs.length vc] 41) (.cells #[.int .i64 0, .int .i64 0, .int .i64 0] 27)); have HBf := hide (two_second w1 (.cells #[.slice va cs.length vc] 41) (.cells #[.int .i64 0, .int .i64 0, .int .i64 0] 27)); have HLs := hide (hls.all.kept (below2a w1 (.cells #[.slice va cs.length vc] 41) (.cells #[.int .i64 0, .int .i64 0, .int .i64 0] 27))); have HPu := hide hpur; have HLen := hide hlen; have HSm := hide (clx_small hls); clear hb1 hls hpur hlen; unfold faultV)
    | (go_at_call 8; refine (HFa.out _ HBW.out).mono ?_; intro e w2 hq; obtain ⟨v, fs, rfl, hpuf, hlef, hlf, hb2⟩ := readFacts_ok hq HF.out; clear hq; obtain ⟨fa, fcap, rfl, -⟩ := hlf.shape; have HBp3 := hide (box_kept (box_kept HBp.out hb2) (belowA w2 (.cells #[.int .i64 0, .int .i64 0, .int .i64 0] 27))); have HBf3 := hide (box_kept (box_kept HBf.out hb2) (belowA w2 (.cells #[.int .i64 0, .int .i64 0, .int .i64 0] 27))); have HBg3 := hide (heap_alloc_new w2 (.cells #[.int .i64 0, .int .i64 0, .int .i64 0] 27)); have HBW3 := hide (belowt2 (HBW.out.trans (hb2.mono HBW.out.size)) (belowA w2 (.cells #[.int .i64 0, .int .i64 0, .int .i64 0] 27))); obtain ⟨k0, -⟩ := progCell HBp3.out; obtain ⟨⟨k1, k2, k3⟩, -⟩ := fault_cells HBf3.out; obtain ⟨⟨k4, k5, k6⟩, -⟩ := fault_cells HBg3.out;  have HLs3 := hide (HLs.out.kept (belowt2 hb2 (belowA w2 (.cells #[.int .i64 0, .int .i64 0, .int .i64 0] 27)))); have HLf3 := hide (hlf.all.kept (belowA w2 (.cells #[.int .i64 0, .int .i64 0, .int .i64 0] 27))); have HPuf := hide hpuf; have HLef := hide hlef; have h512 : ¬ (fs.length : Int) ≤ 512 := (by have := congrArg List.length hpuf; rw [List.length_map] at this; omega); clear hb2 hlf hpuf hlef; unfold faultV)
    | (go_at_call 12; have HGq := ground_law (w := w2.alloc (.cells #[.int .i64 0, .int .i64 0, .int .i64 0] 27)) HLs3.out HSm.out; rw [gmap HPu.out, hgr] at HGq; refine HGq.mono ?_; rintro e w4 ⟨rfl, hb4⟩; have HBW4 := hide (belowt2 HBW3.out hb4); clear hb4 HGq)
    | (go_at_call 10; refine (HTk.out _ HBW4.out).mono ?_; rintro e w9 ⟨rfl, hb9⟩; have HB9 := hide (belowt2 HBW4.out hb9); clear hb9))
  go_ret
  exact ⟨rfl, HB9.out⟩

set_option maxRecDepth 100000 in
set_option maxHeartbeats 4000000 in
theorem pg_main (s : ByteArray) (w : World) (hl : LexLaid w) (hs : s.size ≤ 140737488351232) {out : List PAtom} {rf : List Tok} {rp : List Tok} (hP : progP (scanX s).2.1 ((scanX s).2.2 : Int) (scanX s).1 = .ok (out.map mkC) rp) (hF : factsP (scanX s).2.1 ((scanX s).2.2 : Int) (scanX s).1 = .ok out rf) (hl5 : out.length ≤ 512) (hgr : (out.map mkC).all gCls = true) :
    Calls Tryd.prog 4 #[.string s] w fun e w' => e = .returned (.bool true) ∧ Below w.heap.size w w' := by
  have HPr := hide (parseProgram_any s w hl hs)
  have HFa := hide (fun (W : World) (hb : Below w.heap.size w W) => parseFacts_any s W (hl.kept hb) hs)
  have HTk := hide (fun (W : World) (hb : Below w.heap.size w W) => taken_any W (hl.kept hb))
  have hf0 := fault_self
  have hf1 := faultEql
  have HP := hide hP
  clear hP
  have HF := hide hF
  clear hF
  clear hl hs
  go_enter Tryd.func4, Tryd.ntmps4
  go_wp2_with (first
    | (go_at_call 11; refine HPr.out.mono ?_; intro e w1 hq; obtain ⟨v, cs, rfl, hpur, hlen, hls, hb1⟩ := readProg_ok hq HP.out; clear hq; obtain ⟨va, vc, rfl, -⟩ := hls.shape; have HBW := hide (belowt2 hb1 (below2a w1 (.cells #[.slice va cs.length vc] 41) (.cells #[.int .i64 0, .int .i64 0, .int .i64 0] 27))); have HBp := hide (two_first w1 (.cells #[.slice va cs.length vc] 41) (.cells #[.int .i64 0, .int .i64 0, .int .i64 0] 27)); have HBf := hide (two_second w1 (.cells #[.slice va cs.length vc] 41) (.cells #[.int .i64 0, .int .i64 0, .int .i64 0] 27)); have HLs := hide (hls.all.kept (below2a w1 (.cells #[.slice va cs.length vc] 41) (.cells #[.int .i64 0, .int .i64 0, .int .i64 0] 27))); have HPu := hide hpur; have HLen := hide hlen; have HSm := hide (clx_small hls); clear hb1 hls hpur hlen; unfold faultV)
    | (go_at_call 8; refine (HFa.out _ HBW.out).mono ?_; intro e w2 hq; obtain ⟨v, fs, rfl, hpuf, hlef, hlf, hb2⟩ := readFacts_ok hq HF.out; clear hq; obtain ⟨fa, fcap, rfl, -⟩ := hlf.shape; have HBp3 := hide (box_kept (box_kept HBp.out hb2) (belowA w2 (.cells #[.int .i64 0, .int .i64 0, .int .i64 0] 27))); have HBf3 := hide (box_kept (box_kept HBf.out hb2) (belowA w2 (.cells #[.int .i64 0, .int .i64 0, .int .i64 0] 27))); have HBg3 := hide (heap_alloc_new w2 (.cells #[.int .i64 0, .int .i64 0, .int .i64 0] 27)); have HBW3 := hide (belowt2 (HBW.out.trans (hb2.mono HBW.out.size)) (belowA w2 (.cells #[.int .i64 0, .int .i64 0, .int .i64 0] 27))); obtain ⟨k0, -⟩ := progCell HBp3.out; obtain ⟨⟨k1, k2, k3⟩, -⟩ := fault_cells HBf3.out; obtain ⟨⟨k4, k5, k6⟩, -⟩ := fault_cells HBg3.out;  have HLs3 := hide (HLs.out.kept (belowt2 hb2 (belowA w2 (.cells #[.int .i64 0, .int .i64 0, .int .i64 0] 27)))); have HLf3 := hide (hlf.all.kept (belowA w2 (.cells #[.int .i64 0, .int .i64 0, .int .i64 0] 27))); have HPuf := hide hpuf; have HLef := hide hlef; have h512 : (fs.length : Int) ≤ 512 := (by have := congrArg List.length hpuf; rw [List.length_map] at this; omega); clear hb2 hlf hpuf hlef; unfold faultV)
    | (go_at_call 12; have HGq := ground_law (w := w2.alloc (.cells #[.int .i64 0, .int .i64 0, .int .i64 0] 27)) HLs3.out HSm.out; rw [gmap HPu.out, hgr] at HGq; refine HGq.mono ?_; rintro e w4 ⟨rfl, hb4⟩; have HBW4 := hide (belowt2 HBW3.out hb4); have HLs4 := hide (HLs3.out.kept hb4); have HLf4 := hide (HLf3.out.kept hb4); have HBp4 := hide (box_kept HBp3.out hb4); have HBf4 := hide (box_kept HBf3.out hb4); have HBg4 := hide (box_kept HBg3.out hb4); clear hb4 HGq k0 k1 k2 k3 k4 k5 k6 HLs3 HLf3; obtain ⟨k0, -⟩ := progCell HBp4.out; obtain ⟨⟨k1, k2, k3⟩, -⟩ := fault_cells HBf4.out; obtain ⟨⟨k4, k5, k6⟩, -⟩ := fault_cells HBg4.out)
    | (go_at_call 12; have HGq := ground_law (w := w4) HLs4.out HSm.out; rw [gmap HPu.out, hgr] at HGq; refine HGq.mono ?_; rintro e w5 ⟨rfl, hb5⟩; have HBW5 := hide (belowt2 HBW4.out hb5); have HLs5 := hide (HLs4.out.kept hb5); have HLf5 := hide (HLf4.out.kept hb5); have HBp5 := hide (box_kept HBp4.out hb5); have HBf5 := hide (box_kept HBf4.out hb5); have HBg5 := hide (box_kept HBg4.out hb5); clear hb5 HGq k0 k1 k2 k3 k4 k5 k6 HLs4 HLf4; obtain ⟨k0, -⟩ := progCell HBp5.out; obtain ⟨⟨k1, k2, k3⟩, -⟩ := fault_cells HBf5.out; obtain ⟨⟨k4, k5, k6⟩, -⟩ := fault_cells HBg5.out; have hlq : fs.length = cs.length := len_eq HPuf.out HPu.out; have hln : ((fs.length : Int) != (cs.length : Int)) = false := (by rw [hlq]; simp); clear hlq))
  clear k0 k1 k2 k3 k4 k5 k6
  go_loopw [60] (fun i wl => ∃ k : Nat, k ≤ fs.length ∧ i = .int .i64 k ∧ Hid (Below w5.heap.size w5 wl)) (fun i _ => fs.length - (intOf i).toNat)
  case atStart => exact ⟨0, by omega, rfl, Below.refl _ _⟩
  case round =>
    obtain ⟨k, hk, rfl, HB⟩ := hrel
    have HBw := hide (belowt2 HBW5.out HB.out)
    by_cases hlt : k < fs.length
    · have hi : (k : Int) < (fs.length : Int) := by omega
      have hlq := len_eq HPuf.out HPu.out
      have hi2 : (k : Int) < (cs.length : Int) := by omega
      have hi0 : (0 : Int) ≤ (k : Int) := by omega
      obtain ⟨x, hx⟩ : ∃ x, fs[k]? = some x := ⟨_, List.getElem?_eq_getElem hlt⟩
      obtain ⟨y, hy⟩ : ∃ y, cs[k]? = some y := ⟨_, List.getElem?_eq_getElem (by omega)⟩
      obtain ⟨hp1, hp2, hp3⟩ := same_at HPuf.out HPu.out hx hy
      have HLfk := hide (HLf5.out.kept HB.out)
      have HLsk := hide (HLs5.out.kept HB.out)
      obtain ⟨fb, fo, rfl, -, -, hr1⟩ := HLfk.out.row (by omega)
      obtain ⟨cb, co, rfl, -, -, hr2⟩ := HLsk.out.row (by omega)
      have hxo := HLfk.out.ok (List.mem_of_getElem? hx)
      have hyo := HLsk.out.ok (List.mem_of_getElem? hy)
      obtain ⟨xp, xv, xoff, xts⟩ := x
      obtain ⟨⟨yp, yv, yoff, yts⟩, bv, ls⟩ := y
      simp only at hp1 hp2 hp3
      subst hp1 hp2 hp3
      have HS := hide (fun (W : World) (hb : Below wr.heap.size wr W) => sameAtom_any xp xoff xts xv yv ((show Lst elTrm wr (fun _ => True) xv xts from hxo.2.2).kept hb) ((show Lst elTrm wr (fun _ => True) yv xts from hyo.1.2.2).kept hb))
      obtain ⟨xa, xc, rfl, -⟩ := (show Lst elTrm wr (fun _ => True) xv xts from hxo.2.2).shape
      obtain ⟨ya, yc, rfl, -⟩ := (show Lst elTrm wr (fun _ => True) yv xts from hyo.1.2.2).shape
      have x0 := hr1 k _ hx 0 _ rfl
      have x1 := hr1 k _ hx 1 _ rfl
      have x2 := hr1 k _ hx 2 _ rfl
      have y0 := hr2 k _ hy 0 _ rfl
      have y1 := hr2 k _ hy 1 _ rfl
      have y2 := hr2 k _ hy 2 _ rfl
      simp only [elAtx, elClx, Nat.add_zero] at x0 x1 x2 y0 y1 y2
      obtain ⟨k0, -⟩ := progCell (box_kept HBp5.out HB.out)
      clear hr1 hr2 hx hy hxo hyo hlq HLfk HLsk
      go_wp2
      go_region_held3 (fun w' => w'.cell? ⟨w1.heap.size, 0, none⟩ = some (.slice (some ⟨cb, co, none⟩) cs.length vc) ∧ w'.cell? ⟨fb, fo + k * 3, none⟩ = some (.string xp) ∧ w'.cell? ⟨fb, fo + k * 3 + 1, none⟩ = some (.slice xa xts.length xc) ∧ w'.cell? ⟨fb, fo + k * 3 + 2, none⟩ = some (.int .i64 xoff) ∧ w'.cell? ⟨cb, co + k * 4, none⟩ = some (.string xp) ∧ w'.cell? ⟨cb, co + k * 4 + 1, none⟩ = some (.slice ya xts.length yc) ∧ w'.cell? ⟨cb, co + k * 4 + 2, none⟩ = some (.int .i64 xoff))
        (first | (with_reducible exact hS3) | (go_keep; done))
        (first
          | (go_at_call 13; refine (HS.out _ (below_drewN _ wr 1)).mono ?_; rintro e w7 ⟨rfl, hb7⟩; have hb8 : Below wr.heap.size wr w7 := (below_drewN _ wr 1).trans hb7; have hS3 := And.intro (kept_cell hb8 k0) (And.intro (kept_cell hb8 x0) (And.intro (kept_cell hb8 x1) (And.intro (kept_cell hb8 x2) (And.intro (kept_cell hb8 y0) (And.intro (kept_cell hb8 y1) (kept_cell hb8 y2)))))); have HB8 := hide (belowt2 HB.out hb8); clear hb7 hb8))
      go_wp2
      go_roundw
      case rel => exact ⟨k + 1, by omega, by go_num, HB8⟩
      case measure => simp [intOf]; omega
    · obtain rfl : k = fs.length := by omega
      have hi : ¬ (fs.length : Int) < (fs.length : Int) := by omega
      go_wp2_with (go_at_call 10; refine (HTk.out _ HBw.out).mono ?_; rintro e w9 ⟨rfl, hb9⟩)
      go_ret
      exact ⟨rfl, belowt2 HBw.out hb9⟩

theorem parseGround_walk (s : ByteArray) (w : World) (hs : s.size ≤ 140737488351232) (hl : LexLaid w) :
    Calls Tryd.prog 4 #[.string s] w fun e w' => e = .returned (.bool true) ∧ Below w.heap.size w w' := by
  have hne := scan_ne s
  cases hP : progP (scanX s).2.1 ((scanX s).2.2 : Int) (scanX s).1 with
  | bad pc po =>
    have hpc := prog_ne _ _ _ (by omega) hne hP
    cases hF : factsP (scanX s).2.1 ((scanX s).2.2 : Int) (scanX s).1 with
    | bad fc fo => exact pg_bb s w hl hs hP hpc hF (facts_ne _ _ _ (by omega) hne hF)
    | ok out rf =>
      rcases Nat.lt_or_ge 512 out.length with h5 | h5
      · exact pg_bo s w hl hs hP hpc hF h5
      · have := (facts_prog _ _ _ _ _ hF h5).1
        rw [List.map_nil] at this
        unfold progP at hP
        rw [this] at hP
        cases hP
  | ok b rp =>
    cases hF : factsP (scanX s).2.1 ((scanX s).2.2 : Int) (scanX s).1 with
    | bad fc fo =>
      cases hgr : b.all gCls with
      | false => exact pg_ob s w hl hs hP hF (facts_ne _ _ _ (by omega) hne hF) hgr
      | true =>
        have := prog_facts _ _ _ _ _ (by simp) hP (List.all_eq_true.1 hgr)
        rw [List.map_nil] at this
        unfold factsP at hF
        rw [this] at hF
        cases hF
    | ok out rf =>
      rcases Nat.lt_or_ge 512 out.length with h5 | h5
      · cases hgr : b.all gCls with
        | false => exact pg_oo s w hl hs hP hF h5 hgr
        | true =>
          have := prog_facts _ _ _ _ _ (by simp) hP (List.all_eq_true.1 hgr)
          rw [List.map_nil] at this
          unfold factsP at hF
          rw [this] at hF
          injection hF with e1 e2
          have hb := prog_most _ _ _ _ _ (by simp) hP
          rw [← e1, List.length_map] at h5
          omega
      · obtain ⟨q1, q2⟩ := facts_prog _ _ _ _ _ hF h5
        rw [List.map_nil] at q1
        have hP2 := hP
        unfold progP at hP
        rw [q1] at hP
        injection hP with e1 e2
        rw [← e1] at hP2
        refine pg_main s w hl hs hP2 hF h5 ?_
        rw [List.all_map, List.all_eq_true]
        intro a ha
        have := q2 (by simp) a ha
        simp [gCls, mkC, this]
end Go.Proofs.YtnfnihhbgpakkaaDoor
