/- parse's reader takes an atom. parse's reader takes an atom by its name, and a literal. The two ways in which programs are told of in memory: from the lists' to the rows'. The laws' own atoms of edictlaw04. parse's reader takes a literal. The laws' own literals of edictlaw04. The laws' own tests of edictlaw04; all literals. parse's reader takes a literal: an atom, or a test. parse's reader takes a literal: a test. -/
import Derived.Test.YtchhophblejmeaaGreatDoorProg
import Derived.Test.YtchhophblejmeaaGreatDoorPkB4
import Derived.Test.YtchhophblejmeaaGreatDoorPkB3
import Derived.Test.YtchhophblejmeaaGreatDoorPkB7
import Derived.Deep.RegionHeld3
import Derived.Deep.DeepCutAuto
import Derived.Deep.Cut

namespace Go.Proofs.YtchhophblejmeaaGreatDoor
set_option linter.unusedSimpArgs false
set_option linter.unusedVariables false
open Go.RowKit

/-- What stands in an atom, whatever its memory. -/
def Atx.pur (a : Atx) : PAtom := ⟨a.p, a.ts, a.off⟩
def Atx.val (a : Atx) : Value := .agg #[.string a.p, a.v, .int .i64 a.off]
def AtmPost (w : World) (p : Nat) (ao : Option Addr) (cap : Nat) (L : List Tok) (c f : Int) (res : PR PAtom) (e : Ending) (w' : World) : Prop :=
  match res with
  | .bad ec eo => e = PEnd ec eo ∧ Only (fun k => k = p) w w'
  | .ok x r => ∃ a : Atx, e = .returned a.val ∧ a.pur = x ∧ elAtx.ok w' (fun b => w.heap.size ≤ b) a ∧ Ahead w' p ao cap L c f r ∧ Only (fun k => k = p) w w'

theorem take_lit_good {W : World} {p : Nat} {ao : Option Addr} {cap : Nat} {L : List Tok} {c f : Int} {R r : List Tok} {t : Tok} (ks : List Int) (h : Ahead W p ao cap L c f R) (hkl : ks.length ≤ 100) (hT : takeP c f ks R = .ok t r) :
    Calls Tryz.prog 51 #[.pointer (some ⟨p, 0, none⟩), .slice (some ⟨W.heap.size, 0, none⟩) ks.length ks.length] (W.alloc (.cells (ks.map (Value.int .i64)).toArray 3)) fun e w' => e = .returned (tokV t) ∧ Ahead w' p ao cap L c f r ∧ Only (fun b => b = p) W w' :=
  (take_good W.heap.size (ks := ks) (h.kept (belowA _ _)) (ks_new W ks) hkl hT).mono fun e w' ⟨he, ha, ho⟩ => ⟨he, ha, ((Only.refl _ W).alloc _).trans ho⟩
theorem take_lit_fail {W : World} {p : Nat} {ao : Option Addr} {cap : Nat} {L : List Tok} {c f ec eo : Int} {R : List Tok} (ks : List Int) (h : Ahead W p ao cap L c f R) (hkl : ks.length ≤ 100) (hT : takeP c f ks R = .bad ec eo) :
    Calls Tryz.prog 51 #[.pointer (some ⟨p, 0, none⟩), .slice (some ⟨W.heap.size, 0, none⟩) ks.length ks.length] (W.alloc (.cells (ks.map (Value.int .i64)).toArray 3)) fun e w' => e = PEnd ec eo ∧ Below W.heap.size W w' :=
  (take_fail W.heap.size (ks := ks) (h.kept (belowA _ _)) (ks_new W ks) hkl hT).mono fun e w' ⟨he, hb⟩ => ⟨he, belowt2 (belowA _ _) hb⟩

theorem below3a (w : World) (x y z : Obj) : Below w.heap.size w (((w.alloc x).alloc y).alloc z) := belowt2 (belowt2 (belowA w x) (belowA _ y)) (belowA _ z)

theorem atom_box {w w1 : World} {x : Obj} {nt : ByteArray} {off : Int} (hb : Below (((w.alloc x).alloc (.cells #[.string ⟨#[]⟩, .slice none 0 0, .int .i64 0] 42)).alloc (.cells #[.string nt, .slice none 0 0, .int .i64 off] 42)).heap.size (((w.alloc x).alloc (.cells #[.string ⟨#[]⟩, .slice none 0 0, .int .i64 0] 42)).alloc (.cells #[.string nt, .slice none 0 0, .int .i64 off] 42)) w1) :
    w1.heap[w.heap.size + 1]? = some (.cells #[.string ⟨#[]⟩, .slice none 0 0, .int .i64 0] 42 (0, 0)) := by
  have e1 : (w.alloc x).heap.size = w.heap.size + 1 := by simp
  rw [hb.block _ (by simp), (belowA ((w.alloc x).alloc _) _).block _ (by simp), ← e1]
  exact heap_alloc_new (w.alloc x) _
theorem atom_box2 {w w1 : World} {x : Obj} {nt : ByteArray} {off : Int} (hb : Below (((w.alloc x).alloc (.cells #[.string ⟨#[]⟩, .slice none 0 0, .int .i64 0] 42)).alloc (.cells #[.string nt, .slice none 0 0, .int .i64 off] 42)).heap.size (((w.alloc x).alloc (.cells #[.string ⟨#[]⟩, .slice none 0 0, .int .i64 0] 42)).alloc (.cells #[.string nt, .slice none 0 0, .int .i64 off] 42)) w1) :
    w1.heap[w.heap.size + 1 + 1]? = some (.cells #[.string nt, .slice none 0 0, .int .i64 off] 42 (0, 0)) := by
  have e2 : ((w.alloc x).alloc (.cells #[.string ⟨#[]⟩, .slice none 0 0, .int .i64 0] 42)).heap.size = w.heap.size + 1 + 1 := by simp
  rw [hb.block _ (by simp), ← e2]
  exact heap_alloc_new ((w.alloc x).alloc _) _

theorem box3_put {V : World} {b : Nat} {a0 a1 a2 : Value} (h : V.heap[b]? = some (.cells #[a0, a1, a2] 42 (0, 0))) (u0 u1 u2 : Value) :
    (((V.setCell ⟨b, 0, none⟩ u0).setCell ⟨b, 1, none⟩ u1).setCell ⟨b, 2, none⟩ u2).heap[b]? = some (.cells #[u0, u1, u2] 42 (0, 0)) := by
  simp [World.setCell, Array.getElem?_modify, h]

theorem atom_res (W : World) (b : Nat) (u0 u1 u2 : Value) (tmps : Array Value) (ht : tmps[6]? = some (.pointer (some ⟨b, 0, none⟩))) (hb : W.heap[b]? = some (.cells #[u0, u1, u2] 42 (0, 0))) :
    (results Tryz.f67 tmps).run Tryz.prog W = .ok (.agg #[u0, u1, u2]) W := by
  have c : ∀ j v, (#[u0, u1, u2] : Array Value)[j]? = some v → W.cell? ⟨b, j, none⟩ = some v := fun j v hv => by simp [World.cell?, hb, hv]
  have c0 := c 0 u0 rfl
  have c1 := c 1 u1 rfl
  have c2 := c 2 u2 rfl
  simp [results, Tryz.results67, go_sem, ht, c0, c1, c2]

theorem good_parts {t : Tok} (h : t.good) : t.t.size ≤ 140737488351232 ∧ I64 (t.off : Int) := by
  obtain ⟨h1, _, _, _, h5⟩ := h
  unfold I64
  omega

theorem Ahead.index {w : World} {p : Nat} {ao : Option Addr} {cap : Nat} {L : List Tok} {c f : Int} {R : List Tok} (h : Ahead w p ao cap L c f R) : (intOf ((w.cell? ⟨p, 4, none⟩).getD undef)).toNat + R.length = L.length ∧ L.length ≤ 65538 := by
  obtain ⟨i, h1, h2⟩ := h
  obtain ⟨_, _, _, _, c4, _⟩ := h1.cells
  have := congrArg List.length h2
  rw [List.length_drop] at this
  have hle := h1.le
  rw [c4]
  refine ⟨?_, h1.small⟩
  simp [intOf]
  omega

theorem Ahead.tk {w : World} {p : Nat} {ao : Option Addr} {cap : Nat} {L : List Tok} {c f : Int} {R : List Tok} (h : Ahead w p ao cap L c f R) : ∀ g, ao = some ⟨g, 0, none⟩ → 0 < L.length → g < w.heap.size := fun g hg hl => by
  obtain ⟨i, h1, _⟩ := h
  obtain ⟨g', e, _, hr⟩ := h1.toks hl
  rw [hg] at e
  obtain rfl : g = g' := by simpa using e
  exact lt_of_cell (hr 0 L[0] (List.getElem?_eq_getElem hl)).c0

def toAtom (name : Tok) : PR (List Trm) → PR PAtom
  | .bad c o => .bad c o
  | .ok ts r' => .ok ⟨name.t, ts, name.off⟩ r'
theorem hold_goal {p : Prop} (h : Hid p) : p := h.out
theorem atom_boxes {w w1 : World} {x : Obj} {nt : ByteArray} {off : Int} (hb : Below (((w.alloc x).alloc (.cells #[.string ⟨#[]⟩, .slice none 0 0, .int .i64 0] 42)).alloc (.cells #[.string nt, .slice none 0 0, .int .i64 off] 42)).heap.size (((w.alloc x).alloc (.cells #[.string ⟨#[]⟩, .slice none 0 0, .int .i64 0] 42)).alloc (.cells #[.string nt, .slice none 0 0, .int .i64 off] 42)) w1) :
    w1.cell? ⟨w.heap.size + 1, 0, none⟩ = some (.string ⟨#[]⟩) ∧ w1.cell? ⟨w.heap.size + 1, 1, none⟩ = some (.slice none 0 0) ∧ w1.cell? ⟨w.heap.size + 1, 2, none⟩ = some (.int .i64 0) ∧ w1.frozen? ⟨w.heap.size + 1, 0, none⟩ = false ∧ w1.frozen? ⟨w.heap.size + 1, 1, none⟩ = false ∧ w1.frozen? ⟨w.heap.size + 1, 2, none⟩ = false ∧
    w1.cell? ⟨w.heap.size + 1 + 1, 0, none⟩ = some (.string nt) ∧ w1.cell? ⟨w.heap.size + 1 + 1, 1, none⟩ = some (.slice none 0 0) ∧ w1.cell? ⟨w.heap.size + 1 + 1, 2, none⟩ = some (.int .i64 off) := by
  have e1 : (w.alloc x).heap.size = w.heap.size + 1 := by simp
  have e2 : ((w.alloc x).alloc (.cells #[.string ⟨#[]⟩, .slice none 0 0, .int .i64 0] 42)).heap.size = w.heap.size + 1 + 1 := by simp
  have hr : w1.heap[w.heap.size + 1]? = some (.cells #[.string ⟨#[]⟩, .slice none 0 0, .int .i64 0] 42 (0, 0)) := by
    rw [hb.block _ (by simp), (belowA ((w.alloc x).alloc _) _).block _ (by simp), ← e1]
    exact heap_alloc_new (w.alloc x) _
  have ha : w1.heap[w.heap.size + 1 + 1]? = some (.cells #[.string nt, .slice none 0 0, .int .i64 off] 42 (0, 0)) := by
    rw [hb.block _ (by simp), ← e2]
    exact heap_alloc_new ((w.alloc x).alloc _) _
  refine ⟨?_, ?_, ?_, ?_, ?_, ?_, ?_, ?_, ?_⟩ <;> simp [World.cell?, World.frozen?, hr, ha]

theorem only_drop {w w' : World} {p : Nat} (h : Only (fun k => k = p ∨ w.heap.size ≤ k) w w') : Only (fun k => k = p) w w' := h.mono fun k hk e => e.elim id fun e => by omega

set_option maxHeartbeats 4000000 in
set_option maxRecDepth 100000 in
theorem atomTerm {w : World} {p : Nat} {ao : Option Addr} {cap : Nat} {L : List Tok} {c f : Int} {R : List Tok} (name : Tok) (h : Ahead w p ao cap L c f R) (hname : name.good) :
    Calls Tryz.prog 67 #[.pointer (some ⟨p, 0, none⟩), tokV name, .func (.func 84) #[] #[]] w (AtmPost w p ao cap L c f (atomP c f termKs name R)) := by
  unfold tokV
  match R, h with
  | [], h =>
    have HL := hide (fun W (hb : Below w.heap.size w W) => look_none (h.kept hb))
    have HE : Hid (atomP c f termKs name [] = .bad c f) := rfl
    rw [HE.out]
    clear HE h
    unfold AtmPost
    go_enter Tryz.func67, Tryz.ntmps67
    go_wp2_with (go_at_call 69; refine (HL.out _ (below3a _ _ _ _)).mono ?_; rintro e w1 ⟨rfl, hb⟩)
    exact ⟨rfl, rfl, Only.of_below (belowt2 (below3a _ _ _ _) hb) _⟩
  | x :: r, h =>
    have HL := hide (fun W (hb : Below w.heap.size w W) => look_good (h.kept hb))
    unfold tokV at HL
    by_cases h5 : x.k = 5
    · have hT : takeP c f [5] (x :: r) = .ok x r := by simp [takeP, h5]
      have HE : Hid (atomP c f termKs name (x :: r) = toAtom name (argsP c f termKs [] r)) := by show atomP _ _ _ _ _ = _; unfold atomP; simp only; rw [if_pos h5]; cases argsP c f termKs [] r <;> rfl
      have hfd := tok_kind (.int .i64 x.k) (.string x.t) (.int .i64 x.n) (.int .i64 x.op) (.int .i64 (x.off : Int)) (.int .i64 (x.en : Int))
      have e5 : (x.k != 5) = false := by simpa using h5
      obtain ⟨res, hres⟩ : ∃ res, argsP c f termKs [] r = res := ⟨_, rfl⟩
      rw [HE.out, hres]
      obtain ⟨Post, hPost⟩ : ∃ Post : Ending → World → Prop, Post = AtmPost w p ao cap L c f (toAtom name res) := ⟨_, rfl⟩
      rw [← hPost]
      have PB : Hid (∀ ec eo w', res = .bad ec eo → Only (fun k => k = p) w w' → Post (PEnd ec eo) w') := fun ec eo w' hr ho => by
        rw [hPost, hr]; exact ⟨rfl, ho⟩
      have PG : Hid (∀ ts r' v w', res = .ok ts r' → Lst elTrm w' (fun b => w.heap.size ≤ b) v ts → Ahead w' p ao cap L c f r' → Only (fun k => k = p) w w' → Post (.returned (.agg #[.string name.t, v, .int .i64 (name.off : Int)])) w') := fun ts r' v w' hr h1 h2 h3 => by
        rw [hPost, hr]; exact ⟨⟨name.t, v, name.off, ts⟩, rfl, rfl, ⟨(good_parts hname).1, (good_parts hname).2, h1⟩, h2, h3⟩
      have HRes := hide hres
      have H0 := hide h
      have hp := h.lt
      have HT : Hid (∀ W, Below w.heap.size w W → Calls Tryz.prog 51 #[.pointer (some ⟨p, 0, none⟩), .slice (some ⟨W.heap.size, 0, none⟩) 1 1] (W.alloc (.cells #[.int .i64 5] 3)) fun e w' => e = .returned (tokV x) ∧ Ahead w' p ao cap L c f r ∧ Only (fun b => b = p) W w') := fun W hb => take_lit_good [5] (h.kept hb) (by decide) hT
      clear HE h h5 hres hT hPost
      go_enter Tryz.func67, Tryz.ntmps67
      go_wp2_with (first
        | (go_at_call 69; refine (HL.out _ (below3a _ _ _ _)).mono ?_; rintro e w1 ⟨rfl, hb⟩; have HB := hide hb; have HW := hide (belowt2 (below3a _ _ _ _) hb); clear hb)
        | (go_at_call 51; refine (HT.out _ HW.out).mono ?_; rintro e w2 ⟨rfl, ha, ho⟩; have HA := hide ha; have HO := hide ho; clear ha ho))
      have HS : Hid (AtmLoop w w2 p ao cap L c f r name.t (name.off : Int) (.slice none 0 0) []) :=
        (AtmLoop.move ⟨H0.out.kept HW.out, atom_box2 HB.out, atom_box HB.out, World.ownsRow_nil _ _ _ _, Only.of_below HW.out _, hp, by simp, H0.out.tk⟩ HO.out HA.out : AtmLoop w w2 p ao cap L c f r name.t (name.off : Int) (.slice none 0 0) [])
      clear HA HO HT HL HB HW
      go_loopw [8] (fun _ wr => ∃ (acc : List Trm) (R : List Tok) (v : Value), acc.length ≤ 8 ∧ Hid (AtmLoop w wr p ao cap L c f R name.t (name.off : Int) v acc) ∧ Hid (argsP c f termKs acc R = res)) (fun _ wr => 70000 - (intOf ((wr.cell? ⟨p, 4, none⟩).getD undef)).toNat)
      case atStart => exact ⟨[], r, _, by simp, HS, HRes⟩
      case round =>
        clear HS HRes hfd e5
        obtain ⟨acc, R, v, hacc, HS, HRes⟩ := hrel
        obtain ⟨ix, isz⟩ := HS.out.ah.index
        obtain ⟨vo, vc, rfl⟩ := own_shape HS.out.ow
        cases hT : takeP c f termKs R with
        | bad ec eo =>
          have HP := hide (term_fail HS.out.ah hT)
          have HX : Hid (res = .bad ec eo) := by show _ = _; rw [← HRes.out]; exact args_bad1 hT
          clear hT
          go_wp2_with (go_at_call 84; refine HP.out.mono ?_; rintro e w3 ⟨rfl, hb⟩)
          exact ⟨rfl, PB.out _ _ _ HX.out (only_drop (HS.out.below hb).on)⟩
        | ok t r1 =>
          have HP := hide (term_good HS.out.ah hT)
          have tp := take_eq hT
          have HTok : Hid ((termP t).ok) := termP_ok (HS.out.ah.good t (by rw [tp.1]; exact List.mem_cons_self))
          unfold Trm.val at HP
          clear tp
          by_cases h8 : acc.length = 8
          · have HX : Hid (res = .bad 22 (termP t).off) := by show _ = _; rw [← HRes.out]; exact args_lim hT h8
            have HLm := hide (limit_bad 8 22 (termP t).off)
            rw [h8] at HS
            clear hT hacc
            go_wp2_with (first
              | (go_at_call 84; refine HP.out.mono ?_; rintro e w3 ⟨rfl, ha, ho⟩; have HS3 := hide (HS.out.move ho ha); clear ha ho; obtain ⟨d0, d1, d2, d3⟩ := (HS3.out.below (belowA w3 (.cells #[.int .i64 (termP t).k, .int .i64 (termP t).n, .string (termP t).s, .int .i64 (termP t).off] 54))).cells)
              | (go_at_call 53; refine (HLm.out _).mono ?_; rintro e w4 ⟨rfl, hw⟩; have hw := hw.symm; subst hw))
            exact ⟨rfl, PB.out _ _ _ HX.out (only_drop (HS3.out.below (belowA _ _)).on)⟩
          · have HLm := hide (limit_ok (acc.length : Int) 8 22 (termP t).off (h := by omega))
            have HNx := args_next (c := c) (f := f) hT h8
            have hlen1 : r1.length + 1 = R.length := by rw [(take_eq hT).1]; rfl
            have hacc8 : acc.length < 8 := by omega
            clear hT h8
            cases hU : takeP c f [7, 6] r1 with
            | bad ec eo =>
              have HX : Hid (res = .bad ec eo) := by show _ = _; rw [← HRes.out, HNx, hU]
              have HT2 : Hid (∀ (W : World) (n : Nat), W.heap.size = n → Ahead W p ao cap L c f r1 → Calls Tryz.prog 51 #[.pointer (some ⟨p, 0, none⟩), .slice (some ⟨n, 0, none⟩) 2 2] (W.alloc (.cells #[.int .i64 7, .int .i64 6] 3)) fun e w' => e = PEnd ec eo ∧ Below W.heap.size W w') := fun W n hn ha => hn ▸ take_lit_fail [7, 6] ha (by decide) hU
              clear hU HNx hlen1
              go_wp2_with (first
                | (go_at_call 84; refine HP.out.mono ?_; rintro e w3 ⟨rfl, ha, ho⟩; have HS3 := hide (HS.out.move ho ha); clear ha ho; obtain ⟨d0, d1, d2, d3⟩ := (HS3.out.below (belowA w3 (.cells #[.int .i64 (termP t).k, .int .i64 (termP t).n, .string (termP t).s, .int .i64 (termP t).off] 54))).cells; have HS5 := hide ((HS3.out.below (belowA w3 (.cells #[.int .i64 (termP t).k, .int .i64 (termP t).n, .string (termP t).s, .int .i64 (termP t).off] 54))).below (belowA _ (.cells #[.int .i64 (termP t).k, .int .i64 (termP t).n, .string (termP t).s, .int .i64 (termP t).off] 54))))
                | (go_at_call 53; refine (HLm.out _).mono ?_; rintro e w4 ⟨⟨v4, rfl⟩, hw⟩; have hw := hw.symm; subst hw)
                | (at_builtin; obtain ⟨i0, hi0, hz0, hz1, hz2⟩ := info_parts Tryz.infoTerm; refine wpList_push (w0 := (w3.alloc (.cells #[.int .i64 (termP t).k, .int .i64 (termP t).n, .string (termP t).s, .int .i64 (termP t).off] 54)).alloc (.cells #[.int .i64 (termP t).k, .int .i64 (termP t).n, .string (termP t).s, .int .i64 (termP t).off] 54)) elTrm rfl _ _ 40 rfl (w.heap.size + 3) 54 i0 _ 40 Tryz.underlying40 hi0 hz0 hz1 hz2 rfl (by decide) _ acc acc.length rfl rfl HS5.out.grow (termP t) (w3.heap.size + 1) 1 rfl (fun j u hu => by have := new_cells (w := w3.alloc (.cells #[.int .i64 (termP t).k, .int .i64 (termP t).n, .string (termP t).s, .int .i64 (termP t).off] 54)) (cs := #[.int .i64 (termP t).k, .int .i64 (termP t).n, .string (termP t).s, .int .i64 (termP t).off]) (t := 54) j u hu; simpa using this) HTok.out (by omega) (Below.refl _ _) HS5.out.base ?_; intro g cap' w5 HG5 HB5 HGr; clear HB5 hi0 hz0 hz1 hz2; obtain ⟨f0, f1⟩ := HS5.out.far HGr.out; have HS6 := hide (HS5.out.pushG HTok.out HGr.out HG5.out); clear HG5 HGr)
                | (go_at_call 51; refine (HT2.out _ _ (by simp) HS6.out.ah).mono ?_; rintro e w6 ⟨rfl, hb6⟩))
              exact ⟨rfl, PB.out _ _ _ HX.out (only_drop (HS6.out.below hb6).on)⟩
            | ok s r2 =>
              have HT2 : Hid (∀ (W : World) (n : Nat), W.heap.size = n → Ahead W p ao cap L c f r1 → Calls Tryz.prog 51 #[.pointer (some ⟨p, 0, none⟩), .slice (some ⟨n, 0, none⟩) 2 2] (W.alloc (.cells #[.int .i64 7, .int .i64 6] 3)) fun e w' => e = .returned (tokV s) ∧ Ahead w' p ao cap L c f r2 ∧ Only (fun b => b = p) W w') := fun W n hn ha => hn ▸ take_lit_good [7, 6] ha (by decide) hU
              have hfd2 := tok_kind (.int .i64 s.k) (.string s.t) (.int .i64 s.n) (.int .i64 s.op) (.int .i64 (s.off : Int)) (.int .i64 (s.en : Int))
              have hs76 := (take_eq hU).2
              have hlen2 : r2.length + 2 = R.length := by rw [← hlen1, (take_eq hU).1]; rfl
              unfold tokV at HT2
              by_cases h6 : s.k = 6
              · have e6 : (s.k == 6) = true := by simpa using h6
                have HX : Hid (res = .ok (acc ++ [termP t]) r2) := by show _ = _; rw [← HRes.out, HNx, hU]; simp only; rw [if_neg (by omega)]
                clear hU HNx hlen1 hlen2 hs76 h6
                go_wp2_with (first
                | (go_at_call 84; refine HP.out.mono ?_; rintro e w3 ⟨rfl, ha, ho⟩; have HS3 := hide (HS.out.move ho ha); clear ha ho; obtain ⟨d0, d1, d2, d3⟩ := (HS3.out.below (belowA w3 (.cells #[.int .i64 (termP t).k, .int .i64 (termP t).n, .string (termP t).s, .int .i64 (termP t).off] 54))).cells; have HS5 := hide ((HS3.out.below (belowA w3 (.cells #[.int .i64 (termP t).k, .int .i64 (termP t).n, .string (termP t).s, .int .i64 (termP t).off] 54))).below (belowA _ (.cells #[.int .i64 (termP t).k, .int .i64 (termP t).n, .string (termP t).s, .int .i64 (termP t).off] 54))))
                | (go_at_call 53; refine (HLm.out _).mono ?_; rintro e w4 ⟨⟨v4, rfl⟩, hw⟩; have hw := hw.symm; subst hw)
                | (at_builtin; obtain ⟨i0, hi0, hz0, hz1, hz2⟩ := info_parts Tryz.infoTerm; refine wpList_push (w0 := (w3.alloc (.cells #[.int .i64 (termP t).k, .int .i64 (termP t).n, .string (termP t).s, .int .i64 (termP t).off] 54)).alloc (.cells #[.int .i64 (termP t).k, .int .i64 (termP t).n, .string (termP t).s, .int .i64 (termP t).off] 54)) elTrm rfl _ _ 40 rfl (w.heap.size + 3) 54 i0 _ 40 Tryz.underlying40 hi0 hz0 hz1 hz2 rfl (by decide) _ acc acc.length rfl rfl HS5.out.grow (termP t) (w3.heap.size + 1) 1 rfl (fun j u hu => by have := new_cells (w := w3.alloc (.cells #[.int .i64 (termP t).k, .int .i64 (termP t).n, .string (termP t).s, .int .i64 (termP t).off] 54)) (cs := #[.int .i64 (termP t).k, .int .i64 (termP t).n, .string (termP t).s, .int .i64 (termP t).off]) (t := 54) j u hu; simpa using this) HTok.out (by omega) (Below.refl _ _) HS5.out.base ?_; intro g cap' w5 HG5 HB5 HGr; clear HB5 hi0 hz0 hz1 hz2; obtain ⟨f0, f1⟩ := HS5.out.far HGr.out; have HS6 := hide (HS5.out.pushG HTok.out HGr.out HG5.out); clear HG5 HGr)
                  | (go_at_call 51; refine (HT2.out _ _ (by simp) HS6.out.ah).mono ?_; rintro e w6 ⟨rfl, ha, ho⟩; have HS7 := hide (HS6.out.move ho ha); clear ha ho; obtain ⟨y0, y1, y2, y3⟩ := HS7.out.cells; obtain ⟨q0, q1, q2, q3, q4, q5⟩ := HS7.out.box))
                obtain ⟨z1, z2, z3⟩ := HS7.out.fin (by simp; omega) (.string name.t) (.slice (some ⟨g, 0, none⟩) (acc.length + 1) cap') (.int .i64 (name.off : Int))
                exact bodyPost_ret (atom_res _ (w.heap.size + 1) _ _ _ _ rfl (box3_put HS7.out.br _ _ _)) rfl (PG.out _ _ _ _ HX.out z1 z2 z3)
              · have e6 : (s.k == 6) = false := by simpa using h6
                have HX : Hid (argsP c f termKs (acc ++ [termP t]) r2 = res) := by show _ = _; rw [← HRes.out, HNx, hU]; simp only; rw [if_pos (by simp at hs76; omega)]
                clear hU HNx hlen1 hs76 h6
                have HL2 := hide hlen2
                clear hlen2
                go_wp2_with (first
                | (go_at_call 84; refine HP.out.mono ?_; rintro e w3 ⟨rfl, ha, ho⟩; have HS3 := hide (HS.out.move ho ha); clear ha ho; obtain ⟨d0, d1, d2, d3⟩ := (HS3.out.below (belowA w3 (.cells #[.int .i64 (termP t).k, .int .i64 (termP t).n, .string (termP t).s, .int .i64 (termP t).off] 54))).cells; have HS5 := hide ((HS3.out.below (belowA w3 (.cells #[.int .i64 (termP t).k, .int .i64 (termP t).n, .string (termP t).s, .int .i64 (termP t).off] 54))).below (belowA _ (.cells #[.int .i64 (termP t).k, .int .i64 (termP t).n, .string (termP t).s, .int .i64 (termP t).off] 54))))
                | (go_at_call 53; refine (HLm.out _).mono ?_; rintro e w4 ⟨⟨v4, rfl⟩, hw⟩; have hw := hw.symm; subst hw)
                | (at_builtin; obtain ⟨i0, hi0, hz0, hz1, hz2⟩ := info_parts Tryz.infoTerm; refine wpList_push (w0 := (w3.alloc (.cells #[.int .i64 (termP t).k, .int .i64 (termP t).n, .string (termP t).s, .int .i64 (termP t).off] 54)).alloc (.cells #[.int .i64 (termP t).k, .int .i64 (termP t).n, .string (termP t).s, .int .i64 (termP t).off] 54)) elTrm rfl _ _ 40 rfl (w.heap.size + 3) 54 i0 _ 40 Tryz.underlying40 hi0 hz0 hz1 hz2 rfl (by decide) _ acc acc.length rfl rfl HS5.out.grow (termP t) (w3.heap.size + 1) 1 rfl (fun j u hu => by have := new_cells (w := w3.alloc (.cells #[.int .i64 (termP t).k, .int .i64 (termP t).n, .string (termP t).s, .int .i64 (termP t).off] 54)) (cs := #[.int .i64 (termP t).k, .int .i64 (termP t).n, .string (termP t).s, .int .i64 (termP t).off]) (t := 54) j u hu; simpa using this) HTok.out (by omega) (Below.refl _ _) HS5.out.base ?_; intro g cap' w5 HG5 HB5 HGr; clear HB5 hi0 hz0 hz1 hz2; obtain ⟨f0, f1⟩ := HS5.out.far HGr.out; have HS6 := hide (HS5.out.pushG HTok.out HGr.out HG5.out); clear HG5 HGr)
                  | (go_at_call 51; refine (HT2.out _ _ (by simp) HS6.out.ah).mono ?_; rintro e w6 ⟨rfl, ha, ho⟩; have HS7 := hide (HS6.out.move ho ha); clear ha ho))
                go_roundw
                case rel => exact ⟨acc ++ [termP t], r2, _, by simp; omega, HS7, HX⟩
                case measure =>
                  obtain ⟨jx, -⟩ := HS7.out.ah.index
                  have := HL2.out
                  omega
    · have HE : Hid (atomP c f termKs name (x :: r) = .ok ⟨name.t, [], name.off⟩ (x :: r)) := by show atomP _ _ _ _ _ = _; unfold atomP; simp only; rw [if_neg h5]
      have e5 : (x.k != 5) = true := by simpa using h5
      have hfd := tok_kind (.int .i64 x.k) (.string x.t) (.int .i64 x.n) (.int .i64 x.op) (.int .i64 (x.off : Int)) (.int .i64 (x.en : Int))
      rw [HE.out]
      have H0 := hide h
      clear HE h h5
      unfold AtmPost
      go_enter Tryz.func67, Tryz.ntmps67
      go_wp2_with (go_at_call 69; refine (HL.out _ (below3a _ _ _ _)).mono ?_; rintro e w1 ⟨rfl, hb⟩; have HB := hide hb; clear hb; obtain ⟨k0, k1, k2, z0, z1, z2, a0, a1, a2⟩ := atom_boxes HB.out)
      have HO2 : Only (fun k => k = p ∨ w.heap.size ≤ k) w w1 := Only.of_below (belowt2 (below3a _ _ _ _) HB.out) _
      have HE := only_drop (((HO2.setCell (p := ⟨w.heap.size + 1, 0, none⟩) (.inr (Nat.le_add_right _ _)) (.string name.t)).setCell (p := ⟨w.heap.size + 1, 1, none⟩) (.inr (Nat.le_add_right _ _)) (.slice none 0 0)).setCell (p := ⟨w.heap.size + 1, 2, none⟩) (.inr (Nat.le_add_right _ _)) (.int .i64 (name.off : Int)))
      have HA2 := H0.out.box (H0.out.kept (belowt2 (below3a _ _ _ _) HB.out)) ((((Only.refl (fun b => w.heap.size ≤ b) w1).setCell (p := ⟨w.heap.size + 1, 0, none⟩) (Nat.le_add_right _ _) (.string name.t)).setCell (p := ⟨w.heap.size + 1, 1, none⟩) (Nat.le_add_right _ _) (.slice none 0 0)).setCell (p := ⟨w.heap.size + 1, 2, none⟩) (Nat.le_add_right _ _) (.int .i64 (name.off : Int)))
      exact bodyPost_ret (atom_res _ (w.heap.size + 1) _ _ _ _ rfl (box3_put (atom_box HB.out) _ _ _)) rfl ⟨⟨name.t, .slice none 0 0, name.off, []⟩, rfl, rfl, ⟨(good_parts hname).1, (good_parts hname).2, Lst.nil _ _ _⟩, HA2, HE⟩

end Go.Proofs.YtchhophblejmeaaGreatDoor

namespace Go.Proofs.YtchhophblejmeaaGreatDoor
set_option linter.unusedSimpArgs false
set_option linter.unusedVariables false
open Go.RowKit

/-- A result's box, written last: the reader stands where it stood, and nothing else that was there has changed. -/
theorem fin_ahead {w w1 w2 : World} {p b : Nat} {ao : Option Addr} {cap : Nat} {L : List Tok} {c f : Int} {R0 r : List Tok} (h0 : Ahead w p ao cap L c f R0) (hA : Ahead w1 p ao cap L c f r) (ho : Only (fun k => k = p ∨ w.heap.size ≤ k) w w1) (ho2 : Only (fun k => k = b) w1 w2) (hb : w.heap.size ≤ b) :
    Ahead w2 p ao cap L c f r ∧ Only (fun k => k = p) w w2 :=
  ⟨h0.box hA (ho2.mono fun k _ (e : k = b) => by omega), only_drop (ho.trans (ho2.mono fun k _ (e : k = b) => .inr (by omega)))⟩
theorem fin_ok {α : Type} (E : El α) {w1 w2 : World} {b N n : Nat} {x : α} (hx : E.ok w1 (fun k => N ≤ k) x) (ho2 : Only (fun k => k = b) w1 w2) (hb : b < N) (hn : n ≤ N) : E.ok w2 (fun k => n ≤ k) x :=
  E.move hx fun k hk hF => ⟨by omega, ho2.block k hk (by omega)⟩
theorem only_wide {w W w1 : World} {p : Nat} (hb : Below w.heap.size w W) (ho : Only (fun k => k = p) W w1) : Only (fun k => k = p ∨ w.heap.size ≤ k) w w1 := (Only.of_below hb _).trans (ho.mono fun k _ e => .inl e)
theorem below2a (w : World) (x y : Obj) : Below w.heap.size w ((w.alloc x).alloc y) := belowt2 (belowA w x) (belowA _ y)
theorem only_three {w1 : World} (b : Nat) (u0 u1 u2 : Value) : Only (fun k => k = b) w1 (((w1.setCell ⟨b, 0, none⟩ u0).setCell ⟨b, 1, none⟩ u1).setCell ⟨b, 2, none⟩ u2) := (((Only.refl (fun k => k = b) w1).setCell (p := ⟨b, 0, none⟩) rfl _).setCell (p := ⟨b, 1, none⟩) rfl _).setCell (p := ⟨b, 2, none⟩) rfl _
theorem box3_cells {V : World} {b : Nat} {a0 a1 a2 : Value} (h : V.heap[b]? = some (.cells #[a0, a1, a2] 42 (0, 0))) : V.cell? ⟨b, 0, none⟩ = some a0 ∧ V.cell? ⟨b, 1, none⟩ = some a1 ∧ V.cell? ⟨b, 2, none⟩ = some a2 ∧ V.frozen? ⟨b, 0, none⟩ = false ∧ V.frozen? ⟨b, 1, none⟩ = false ∧ V.frozen? ⟨b, 2, none⟩ = false := by
  refine ⟨?_, ?_, ?_, ?_, ?_, ?_⟩ <;> simp [World.cell?, World.frozen?, h]
/-- The second of two new blocks, behind a call that moves the reader. -/
theorem second_box {w w1 : World} {p : Nat} {x y : Obj} (hp : p < w.heap.size) (ho : Only (fun k => k = p) ((w.alloc x).alloc y) w1) : w1.heap[w.heap.size + 1]? = some y := by
  have e1 : (w.alloc x).heap.size = w.heap.size + 1 := by simp
  rw [ho.block _ (by simp) (by omega), ← e1]
  exact heap_alloc_new (w.alloc x) _
theorem first_box {w w1 : World} {p : Nat} {x y : Obj} (hp : p < w.heap.size) (ho : Only (fun k => k = p) ((w.alloc x).alloc y) w1) : w1.heap[w.heap.size]? = some x := by
  rw [ho.block _ (by simp; omega) (by omega), (belowA (w.alloc x) y).block _ (by simp)]
  exact heap_alloc_new w _

theorem atomRes (W : World) (b : Nat) (u0 u1 u2 : Value) (tmps : Array Value) (ht : tmps[4]? = some (.pointer (some ⟨b, 0, none⟩))) (hb : W.heap[b]? = some (.cells #[u0, u1, u2] 42 (0, 0))) :
    (results Tryz.f73 tmps).run Tryz.prog W = .ok (.agg #[u0, u1, u2]) W := by
  obtain ⟨c0, c1, c2, -⟩ := box3_cells hb
  simp [results, Tryz.results73, go_sem, ht, c0, c1, c2]

theorem atmPost_bad {w w' : World} {p : Nat} {ao : Option Addr} {cap : Nat} {L : List Tok} {c f ec eo : Int} {e : Ending} (h : AtmPost w p ao cap L c f (.bad ec eo) e w') : e = PEnd ec eo ∧ Only (fun k => k = p) w w' := h
theorem atmPost_ok {w w' : World} {p : Nat} {ao : Option Addr} {cap : Nat} {L : List Tok} {c f : Int} {x : PAtom} {r : List Tok} {e : Ending} (h : AtmPost w p ao cap L c f (.ok x r) e w') : ∃ a : Atx, e = .returned a.val ∧ a.pur = x ∧ elAtx.ok w' (fun b => w.heap.size ≤ b) a ∧ Ahead w' p ao cap L c f r ∧ Only (fun k => k = p) w w' := h

set_option maxHeartbeats 1000000 in
set_option maxRecDepth 100000 in
theorem atom_any {w : World} {p : Nat} {ao : Option Addr} {cap : Nat} {L : List Tok} {c f : Int} {R : List Tok} (name : Tok) (h : Ahead w p ao cap L c f R) (hname : name.good) :
    Calls Tryz.prog 73 #[.pointer (some ⟨p, 0, none⟩), tokV name] w (AtmPost w p ao cap L c f (atomP c f termKs name R)) := by
  have HC := hide (fun (W : World) (hb : Below w.heap.size w W) => atomTerm name (h.kept hb) hname)
  have H0 := hide h
  have hp := h.lt
  clear h hname
  unfold tokV at *
  obtain ⟨res, hres⟩ : ∃ res, atomP c f termKs name R = res := ⟨_, rfl⟩
  rw [hres] at HC ⊢
  clear hres
  cases res with
  | bad ec eo =>
    unfold AtmPost
    go_enter Tryz.func73, Tryz.ntmps73
    go_wp2_with (go_at_call 67; refine (HC.out _ (below2a _ _ _)).mono ?_; intro e w1 hq; obtain ⟨rfl, ho⟩ := atmPost_bad hq; clear hq)
    exact ⟨rfl, rfl, only_drop (only_wide (below2a _ _ _) ho)⟩
  | ok x r =>
    unfold AtmPost
    go_enter Tryz.func73, Tryz.ntmps73
    go_wp2_with (go_at_call 67; refine (HC.out _ (below2a _ _ _)).mono ?_; intro e w1 hq; obtain ⟨a, rfl, hpur, hok, ha, ho⟩ := atmPost_ok hq; clear hq; have HPu := hide hpur; have HOk := hide hok; have HA := hide ha; have HO := hide ho; have HBx := hide (second_box hp ho); clear hpur hok ha ho; unfold Atx.val; obtain ⟨q0, q1, q2, q3, q4, q5⟩ := box3_cells HBx.out; obtain ⟨va, vc, hv, -⟩ := HOk.out.2.2.shape)
    obtain ⟨z1, z2⟩ := fin_ahead H0.out HA.out (only_wide (below2a _ _ _) HO.out) (only_three (w.heap.size + 1) (.string a.p) a.v (.int .i64 a.off)) (by omega)
    have z3 := fin_ok elAtx (n := w.heap.size) HOk.out (only_three (w.heap.size + 1) (.string a.p) a.v (.int .i64 a.off)) (by simp) (by simp; omega)
    rw [hv] at z1 z2 z3
    exact bodyPost_ret (atomRes _ (w.heap.size + 1) _ _ _ _ rfl (box3_put HBx.out _ _ _)) rfl ⟨a, by unfold Atx.val; rw [hv], HPu.out, z3, z1, z2⟩
end Go.Proofs.YtchhophblejmeaaGreatDoor

namespace Go.Proofs.YtchhophblejmeaaGreatDoor
set_option linter.unusedSimpArgs false
set_option linter.unusedVariables false
open Go.RowKit

theorem trms_of {w : World} {F : Nat → Prop} {ao : Option Addr} {cap : Nat} {ts : List Trm} (h : Lst elTrm w F (.slice ao ts.length cap) ts) : IsTrms w ao ts.length ts := by
  obtain ⟨_, _, -, -, -, hl⟩ := h.shape
  refine ⟨rfl, by omega, fun t ht => h.ok ht, fun hp => ?_⟩
  obtain ⟨b, off, e, -, -, hr⟩ := h.row hp
  exact ⟨b, off, e, fun i t ht => ⟨hr i t ht 0 _ rfl, hr i t ht 1 _ rfl, hr i t ht 2 _ rfl, hr i t ht 3 _ rfl⟩⟩
/-- An atom's slice taken apart. -/
def atmOf (a : Atx) : Atm := match a.v with
  | .slice ao n cap => ⟨a.p, ao, n, cap, a.off, a.ts⟩
  | _ => ⟨a.p, none, 0, 0, a.off, a.ts⟩
def ltrOf (x : Lix) : Ltr := ⟨x.k, atmOf x.a, x.op, x.l, x.r, x.off⟩
def clsOf (c : Clx) : Cls := match c.v with
  | .slice ao n cap => ⟨atmOf c.h, ao, n, cap, c.ls.map ltrOf⟩
  | _ => ⟨atmOf c.h, none, 0, 0, c.ls.map ltrOf⟩
theorem atmOf_p (a : Atx) : (atmOf a).p = a.p := by unfold atmOf; split <;> rfl
theorem atmOf_ts (a : Atx) : (atmOf a).ts = a.ts := by unfold atmOf; split <;> rfl
theorem atmOf_off (a : Atx) : (atmOf a).off = a.off := by unfold atmOf; split <;> rfl
theorem clsOf_h (c : Clx) : (clsOf c).h = atmOf c.h := by unfold clsOf; split <;> rfl
theorem clsOf_ls (c : Clx) : (clsOf c).ls = c.ls.map ltrOf := by unfold clsOf; split <;> rfl
theorem atm_of {w : World} {F : Nat → Prop} {a : Atx} (h : elAtx.ok w F a) : (atmOf a).at w ∧ a.v = .slice (atmOf a).ao (atmOf a).len (atmOf a).cap := by
  obtain ⟨h1, h2, h3⟩ := elAtx_ok h
  obtain ⟨ao, cap, hv, -⟩ := h3.shape
  have he : atmOf a = ⟨a.p, ao, a.ts.length, cap, a.off, a.ts⟩ := by unfold atmOf; rw [hv]
  rw [he]
  rw [hv] at h3 ⊢
  exact ⟨⟨h1, h2, trms_of h3⟩, rfl⟩
theorem ltr_of {w : World} {F : Nat → Prop} {x : Lix} (h : elLix.ok w F x) : (ltrOf x).at w := by
  obtain ⟨h1, h2, h3, h4, h5, h6⟩ := elLix_ok h
  exact ⟨h1, (atm_of h2).1, h3, h4, h5, h6⟩
theorem ltrs_of {w : World} {F : Nat → Prop} {ao : Option Addr} {cap : Nat} {ls : List Lix} (h : Lst elLix w F (.slice ao ls.length cap) ls) : IsLtrs w ao ls.length (ls.map ltrOf) := by
  obtain ⟨_, _, -, -, -, hl⟩ := h.shape
  refine ⟨by simp, by omega, fun x hx => ?_, fun hp => ?_⟩
  · obtain ⟨y, hy, rfl⟩ := List.mem_map.1 hx
    exact ltr_of (h.ok hy)
  · obtain ⟨b, off, e, -, -, hr⟩ := h.row hp
    refine ⟨b, off, e, fun i x hx => ?_⟩
    rw [List.getElem?_map] at hx
    obtain ⟨y, hy, rfl⟩ := Option.map_eq_some_iff.1 hx
    have ha := (atm_of (elLix_ok (h.ok (List.mem_of_getElem? hy))).2.1).2
    have h2 := hr i y hy 2 _ rfl
    rw [ha] at h2
    refine ⟨hr i y hy 0 _ rfl, by show w.cell? _ = some (.string (atmOf y.a).p); rw [atmOf_p]; exact hr i y hy 1 _ rfl, h2, by show w.cell? _ = some (.int .i64 (atmOf y.a).off); rw [atmOf_off]; exact hr i y hy 3 _ rfl, hr i y hy 4 _ rfl, ⟨hr i y hy 5 _ rfl, hr i y hy 6 _ rfl, hr i y hy 7 _ rfl, hr i y hy 8 _ rfl⟩, ⟨hr i y hy 9 _ rfl, hr i y hy 10 _ rfl, hr i y hy 11 _ rfl, hr i y hy 12 _ rfl⟩, hr i y hy 13 _ rfl⟩
theorem cls_of {w : World} {F : Nat → Prop} {c : Clx} (h : elClx.ok w F c) : (clsOf c).at w ∧ c.v = .slice (clsOf c).ao (clsOf c).len (clsOf c).cap := by
  obtain ⟨h1, h2⟩ := elClx_ok h
  obtain ⟨ao, cap, hv, -⟩ := h2.shape
  have he : clsOf c = ⟨atmOf c.h, ao, c.ls.length, cap, c.ls.map ltrOf⟩ := by unfold clsOf; rw [hv]
  rw [he]
  rw [hv] at h2 ⊢
  exact ⟨⟨(atm_of h1).1, ltrs_of h2⟩, rfl⟩
theorem clss_of {w : World} {F : Nat → Prop} {ao : Option Addr} {cap : Nat} {cs : List Clx} (h : Lst elClx w F (.slice ao cs.length cap) cs) : IsClss w ao cs.length (cs.map clsOf) := by
  obtain ⟨_, _, -, -, -, hl⟩ := h.shape
  refine ⟨by simp, by omega, fun x hx => ?_, fun hp => ?_⟩
  · obtain ⟨y, hy, rfl⟩ := List.mem_map.1 hx
    exact (cls_of (h.ok hy)).1
  · obtain ⟨b, off, e, -, -, hr⟩ := h.row hp
    refine ⟨b, off, e, fun i x hx => ?_⟩
    rw [List.getElem?_map] at hx
    obtain ⟨y, hy, rfl⟩ := Option.map_eq_some_iff.1 hx
    have ho := h.ok (List.mem_of_getElem? hy)
    have ha := (atm_of (elClx_ok ho).1).2
    have hb := (cls_of ho).2
    have h1 := hr i y hy 1 _ rfl
    have h3 := hr i y hy 3 _ rfl
    rw [ha] at h1
    rw [hb] at h3
    refine ⟨by rw [clsOf_h, atmOf_p]; exact hr i y hy 0 _ rfl, by rw [clsOf_h]; exact h1, by rw [clsOf_h, atmOf_off]; exact hr i y hy 2 _ rfl, h3⟩
end Go.Proofs.YtchhophblejmeaaGreatDoor

namespace Go.Proofs.YtchhophblejmeaaGreatDoor
set_option linter.unusedSimpArgs false
set_option linter.unusedVariables false
open Go.RowKit
attribute [local go_sem] over_cellAt over_frozenAt over_setAt

theorem term4 (t : Trm) (w : World) (h : t.ok) : Calls Tryz.prog 58 #[.agg #[.int .i64 t.k, .int .i64 t.n, .string t.s, .int .i64 t.off]] w fun e w' => e = .returned (.agg #[.int .i64 (trm4 t).k, .int .i64 (trm4 t).n, .string (trm4 t).s, .int .i64 (trm4 t).off]) ∧ Below w.heap.size w w' := by
  unfold trm4 trmM
  by_cases h0 : modP t.k 4 = 0
  · rw [if_pos h0]; exact term4a t.k t.n t.s t.off w h.1.2.2 h0
  · rw [if_neg h0]; exact term4b t.k t.n t.s t.off w h.1.2.2 h0

/-- Two boxes of a function's own, the first and the second block behind what was there; nothing that was there has changed. -/
structure Two4 (w W : World) (x y : Obj) : Prop where
  b0 : W.heap[w.heap.size]? = some x
  b1 : W.heap[w.heap.size + 1]? = some y
  on : Below w.heap.size w W
theorem Two4.below {w W W' : World} {x y : Obj} (h : Two4 w W x y) (hb : Below W.heap.size W W') : Two4 w W' x y :=
  ⟨by rw [hb.block _ (Array.getElem?_eq_some_iff.1 h.b0).1]; exact h.b0, by rw [hb.block _ (Array.getElem?_eq_some_iff.1 h.b1).1]; exact h.b1, h.on.trans (hb.mono h.on.size)⟩
theorem Two4.drew {w W : World} {x y : Obj} (h : Two4 w W x y) : Two4 w W.drew x y := h.below (Below.refl _ _).drew
theorem Two4.start (w : World) (x y : Obj) : Two4 w ((w.alloc x).alloc y) x y := by
  have e : (w.alloc x).heap.size = w.heap.size + 1 := by simp
  refine ⟨?_, ?_, below2a w x y⟩
  · rw [(belowA (w.alloc x) y).block _ (by omega)]; exact heap_alloc_new w x
  · have := heap_alloc_new (w.alloc x) y
    rw [e] at this
    exact this
theorem Two4.lt {w W : World} {x y : Obj} (h : Two4 w W x y) : w.heap.size + 2 ≤ W.heap.size := (Array.getElem?_eq_some_iff.1 h.b1).1

/-- An atom that is made: what was handed in, the answer's box, the atom's own box and its terms so far. -/
structure MLoop (w W : World) (b7 : Nat) (ap : ByteArray) (ao : Option Addr) (len cap : Nat) (off : Int) (nt : ByteArray) (v : Value) (acc : List Trm) : Prop where
  q4 : W.heap[w.heap.size]? = some (.cells #[.string ap, .slice ao len cap, .int .i64 off] 42 (0, 0))
  q6 : W.heap[w.heap.size + 1]? = some (.cells #[.string ⟨#[]⟩, .slice none 0 0, .int .i64 0] 42 (0, 0))
  q7 : W.heap[b7]? = some (.cells #[.string nt, v, .int .i64 off] 42 (0, 0))
  gr : Grow elTrm 54 (b7 + 1) W v acc
  on : Only (fun k => w.heap.size ≤ k) w W
  lo : w.heap.size + 2 ≤ b7
section
variable {w W W' : World} {b7 : Nat} {ap : ByteArray} {ao : Option Addr} {len cap : Nat} {off : Int} {nt : ByteArray} {v v' : Value} {acc acc' : List Trm}
theorem MLoop.hi (h : MLoop w W b7 ap ao len cap off nt v acc) : b7 + 1 ≤ W.heap.size := (Array.getElem?_eq_some_iff.1 h.q7).1
theorem MLoop.kept (h : MLoop w W b7 ap ao len cap off nt v acc) (hb : Below W.heap.size W W') : MLoop w W' b7 ap ao len cap off nt v acc :=
  ⟨by rw [hb.block _ (Array.getElem?_eq_some_iff.1 h.q4).1]; exact h.q4, by rw [hb.block _ (Array.getElem?_eq_some_iff.1 h.q6).1]; exact h.q6, by rw [hb.block _ (Array.getElem?_eq_some_iff.1 h.q7).1]; exact h.q7,
    h.gr.kept hb, h.on.trans (Only.of_below hb _), h.lo⟩
theorem MLoop.bel (h : MLoop w W b7 ap ao len cap off nt v acc) : Below w.heap.size w W := h.on.below (Nat.le_refl _) (fun k hk e => by omega)
theorem MLoop.far (h : MLoop w W b7 ap ao len cap off nt v acc) (hg : W.grownBy W' v.ownBlock) : W'.heap[b7]? = some (.cells #[.string nt, v, .int .i64 off] 42 (0, 0)) := by
  have ho : Only (fun k => b7 + 1 ≤ k) W W' := (Only.refl _ W).grown hg (fun k hk _ => own_new h.gr.1 k hk)
  rw [ho.block _ (Array.getElem?_eq_some_iff.1 h.q7).1 (by omega)]; exact h.q7
theorem MLoop.far3 (h : MLoop w W b7 ap ao len cap off nt v acc) (hg : W.grownBy W' v.ownBlock) : W'.heap[b7]? = some (.cells #[.string nt, v, .int .i64 off] 42 (0, 0)) ∧ W'.heap[w.heap.size]? = some (.cells #[.string ap, .slice ao len cap, .int .i64 off] 42 (0, 0)) ∧ Only (fun k => w.heap.size ≤ k) w W' := by
  have hl := h.lo
  have ho : Only (fun k => b7 + 1 ≤ k) W W' := (Only.refl _ W).grown hg (fun k hk _ => own_new h.gr.1 k hk)
  exact ⟨h.far hg, by rw [ho.block _ (Array.getElem?_eq_some_iff.1 h.q4).1 (by omega)]; exact h.q4, h.on.trans (ho.mono fun k _ (e : b7 + 1 ≤ k) => (by omega : w.heap.size ≤ k))⟩
theorem MLoop.push (h : MLoop w W b7 ap ao len cap off nt v acc) (hg : W.grownBy W' v.ownBlock) (hG : Grow elTrm 54 (b7 + 1) W' v' acc') : MLoop w (W'.setCell ⟨b7, 1, none⟩ v') b7 ap ao len cap off nt v' acc' := by
  have hl := h.lo
  have ho : Only (fun k => b7 + 1 ≤ k) W W' := (Only.refl _ W).grown hg (fun k hk _ => own_new h.gr.1 k hk)
  have ho2 : Only (fun k => k = b7) W' (W'.setCell ⟨b7, 1, none⟩ v') := (Only.refl (fun k => k = b7) W').setCell (p := ⟨b7, 1, none⟩) rfl _
  have hf := h.far hg
  have ho3 : Only (fun k => b7 ≤ k) W (W'.setCell ⟨b7, 1, none⟩ v') := (ho.mono fun k _ (e : b7 + 1 ≤ k) => (by omega : b7 ≤ k)).trans (ho2.mono fun k _ (e : k = b7) => (by omega : b7 ≤ k))
  refine ⟨?_, ?_, ?_, hG.above fun b hb hlt => ho2.block b hlt (by omega), h.on.trans (ho3.mono fun k _ (e : b7 ≤ k) => (by omega : w.heap.size ≤ k)), h.lo⟩
  · rw [ho3.block _ (Array.getElem?_eq_some_iff.1 h.q4).1 (by omega)]; exact h.q4
  · rw [ho3.block _ (Array.getElem?_eq_some_iff.1 h.q6).1 (by omega)]; exact h.q6
  · simp [World.setCell, Array.getElem?_modify, hf]
theorem MLoop.fin (h : MLoop w W b7 ap ao len cap off nt v acc) (hl : acc.length < 1073741824) (hn : nt.size ≤ 140737488351232) (hof : I64 off) :
    (((W.setCell ⟨w.heap.size + 1, 0, none⟩ (.string nt)).setCell ⟨w.heap.size + 1, 1, none⟩ v).setCell ⟨w.heap.size + 1, 2, none⟩ (.int .i64 off)).heap[w.heap.size + 1]? = some (.cells #[.string nt, v, .int .i64 off] 42 (0, 0)) ∧ Below w.heap.size w (((W.setCell ⟨w.heap.size + 1, 0, none⟩ (.string nt)).setCell ⟨w.heap.size + 1, 1, none⟩ v).setCell ⟨w.heap.size + 1, 2, none⟩ (.int .i64 off)) ∧ elAtx.ok (((W.setCell ⟨w.heap.size + 1, 0, none⟩ (.string nt)).setCell ⟨w.heap.size + 1, 1, none⟩ v).setCell ⟨w.heap.size + 1, 2, none⟩ (.int .i64 off)) (fun b => w.heap.size ≤ b) ⟨nt, v, off, acc⟩ := by
  have ho := only_three (w1 := W) (w.heap.size + 1) (.string nt) v (.int .i64 off)
  have hlo := h.lo
  exact ⟨by simp [World.setCell, Array.getElem?_modify, h.q6], (h.on.trans (ho.mono fun k _ e => by omega)).below (Nat.le_refl _) (fun k hk e => by omega), hn, hof, (h.gr.new hl).move fun b hb hF => ⟨by omega, ho.block b hb (by omega)⟩⟩
theorem MLoop.start_new {Y w3 : World} (hT : Two4 w Y (.cells #[.string ap, .slice ao len cap, .int .i64 off] 42) (.cells #[.string ⟨#[]⟩, .slice none 0 0, .int .i64 0] 42)) (hB : Below Y.heap.size Y w3) :
    MLoop w (w3.alloc (.cells #[.string nt, .slice none 0 0, .int .i64 off] 42)) w3.heap.size ap ao len cap off nt (.slice none 0 0) [] := by
  have h1 := (hT.below hB).below (belowA w3 (.cells #[.string nt, .slice none 0 0, .int .i64 off] 42))
  exact ⟨h1.b0, h1.b1, heap_alloc_new w3 _, Grow.nil _ _ _ _, Only.of_below h1.on _, (hT.below hB).lt⟩
theorem MLoop.start_set {Y w3 : World} (hT : Two4 w Y (.cells #[.string ap, .slice ao len cap, .int .i64 off] 42) (.cells #[.string ⟨#[]⟩, .slice none 0 0, .int .i64 0] 42)) (hB : Below Y.heap.size Y w3) (hz : w3.heap[Y.heap.size]? = some (.cells #[.string ⟨#[]⟩, .slice none 0 0, .int .i64 0] 42 (0, 0))) :
    MLoop w (((w3.setCell ⟨Y.heap.size, 0, none⟩ (.string nt)).setCell ⟨Y.heap.size, 1, none⟩ (.slice none 0 0)).setCell ⟨Y.heap.size, 2, none⟩ (.int .i64 off)) Y.heap.size ap ao len cap off nt (.slice none 0 0) [] := by
  have hB2 : Below Y.heap.size Y (((w3.setCell ⟨Y.heap.size, 0, none⟩ (.string nt)).setCell ⟨Y.heap.size, 1, none⟩ (.slice none 0 0)).setCell ⟨Y.heap.size, 2, none⟩ (.int .i64 off)) := ((hB.setCell (Nat.le_refl _) _).setCell (Nat.le_refl _) _).setCell (Nat.le_refl _) _
  have h1 := hT.below hB2
  exact ⟨h1.b0, h1.b1, by simp [World.setCell, Array.getElem?_modify, hz], Grow.nil _ _ _ _, Only.of_below h1.on _, hT.lt⟩
end
theorem made4Res (W : World) (b : Nat) (u0 u1 u2 : Value) (tmps : Array Value) (ht : tmps[2]? = some (.pointer (some ⟨b, 0, none⟩))) (hb : W.heap[b]? = some (.cells #[u0, u1, u2] 42 (0, 0))) :
    (results Tryz.f43 tmps).run Tryz.prog W = .ok (.agg #[u0, u1, u2]) W := by
  obtain ⟨c0, c1, c2, -⟩ := box3_cells hb
  simp [results, Tryz.results43, go_sem, ht, c0, c1, c2]

set_option maxRecDepth 100000 in
set_option maxHeartbeats 8000000 in
theorem made4 (a : Atm) {w : World} (h : a.at w) :
    Calls Tryz.prog 43 #[.agg #[.string a.p, .slice a.ao a.len a.cap, .int .i64 a.off]] w fun e w' => ∃ x : Atx, e = .returned x.val ∧ x.pur = atm4 a ∧ elAtx.ok w' (fun b => w.heap.size ≤ b) x ∧ Below w.heap.size w w' := by
  have HN := hide (fun W => name4 a.p W h.1)
  have HT := hide (fun (t : Trm) (ht : t.ok) W => term4 t W ht)
  have HR := hide h.2.2
  have HOff := hide h.2.1
  have HNs := hide (nameM_size a.p)
  have HE : Hid (atm4 a = ⟨nameM a.p, (a.ts.take 8).map trm4, a.off⟩) := rfl
  obtain ⟨ap, ao, len, cap, off, ts⟩ := a
  simp only at *
  clear h
  rw [HE.out]
  clear HE
  generalize nameM ap = nt at *
  go_enter Tryz.func43, Tryz.ntmps43
  go_upto_region 1 with fail
  obtain ⟨Y, hY⟩ : ∃ Y, Y = (w.alloc (.cells #[.string ap, .slice ao len cap, .int .i64 off] 42)).alloc (.cells #[.string ⟨#[]⟩, .slice none 0 0, .int .i64 0] 42) := ⟨_, rfl⟩
  have HY : Hid (Two4 w Y (.cells #[.string ap, .slice ao len cap, .int .i64 off] 42) (.cells #[.string ⟨#[]⟩, .slice none 0 0, .int .i64 0] 42)) := by rw [hY]; exact Two4.start w _ _
  rw [← hY]
  clear hY
  have HSc : Hid (∀ V : World, Below Y.heap.size Y V → V.cell? ⟨w.heap.size, 0, none⟩ = some (.string ap) ∧ V.cell? ⟨w.heap.size, 2, none⟩ = some (.int .i64 off)) := fun V hV => by
    obtain ⟨g0, -, g2, -⟩ := box3_cells (HY.out.below hV).b0
    exact ⟨g0, g2⟩
  obtain ⟨hs0, hs1⟩ := HSc.out Y (Below.refl _ _)
  go_cut [3] (fun t wx => ∃ b7, t = .pointer (some ⟨b7, 0, none⟩) ∧ Hid (MLoop w wx b7 ap ao len cap off nt (.slice none 0 0) []))
  case first =>
    go_region_held3 (fun w' => w'.cell? ⟨w.heap.size, 0, none⟩ = some (.string ap) ∧ w'.cell? ⟨w.heap.size, 2, none⟩ = some (.int .i64 off))
      (first
        | exact HSc.out _ (Below.refl _ _)
        | exact HSc.out _ ((Below.refl _ Y).drew)
        | exact HSc.out _ (((Below.refl _ Y).drew).alloc (Nat.le_refl _) _)
        | exact HSc.out _ HB3.out
        | exact HSc.out _ HB3.out.drew
        | exact HSc.out _ (HB3.out.alloc HB3.out.size _)
        | exact HSc.out _ (((HB3.out.setCell (Nat.le_refl _) _).setCell (Nat.le_refl _) _).setCell (Nat.le_refl _) _))
      (first
        | (go_at_call 25; refine (HN.out Y.drew).mono ?_; rintro e w3 ⟨rfl, hb3⟩; have HB3 : Hid (Below Y.heap.size Y w3) := (Below.refl _ Y).drew.trans (hb3.mono (by simp)))
        | (go_at_call 25; refine (HN.out (Y.drew.alloc (.cells #[.string ⟨#[]⟩, .slice none 0 0, .int .i64 0] 42))).mono ?_; rintro e w3 ⟨rfl, hb3⟩; have HB3 : Hid (Below Y.heap.size Y w3) := ((Below.refl _ Y).drew.alloc (Nat.le_refl _) _).trans (hb3.mono (by simp)); have HZ3 : Hid (w3.heap[Y.heap.size]? = some (.cells #[.string ⟨#[]⟩, .slice none 0 0, .int .i64 0] 42 (0, 0))) := (hb3.block _ (by simp)).trans (heap_alloc_new Y.drew (.cells #[.string ⟨#[]⟩, .slice none 0 0, .int .i64 0] 42)); obtain ⟨k0, k1, k2, l0, l1, l2⟩ := box3_cells HZ3.out))
    all_goals (go_wp2; go_meet)
    · exact ⟨_, rfl, MLoop.start_new HY.out HB3.out⟩
    · exact ⟨_, rfl, MLoop.start_set HY.out HB3.out HZ3.out⟩
  case rest =>
    obtain ⟨b7, rfl, HA0⟩ := hcut
    clear HSc hs0 hs1 HY
    clear Y
    go_wp2
    go_loopw [4] (fun i wl => ∃ (j : Nat) (acc : List Trm) (va : Option Addr) (vc : Nat), j ≤ min ts.length 8 ∧ i = .int .i64 j ∧ Hid (acc.length = j) ∧ Hid (acc = (ts.take j).map trm4) ∧ Hid (MLoop w wl b7 ap ao len cap off nt (.slice va j vc) acc)) (fun i _ => 8 - (intOf i).toNat)
    case atStart => exact ⟨0, [], none, 0, by omega, rfl, rfl, rfl, HA0⟩
    case round =>
      clear HA0
      obtain ⟨j, acc, va, vc, hj, rfl, HLn, HQ, HA⟩ := hrel
      have hn := HR.out.1
      obtain ⟨a0, a1, a2, -⟩ := box3_cells HA.out.q4
      by_cases hlt : j < min ts.length 8
      · have hi : (j : Int) < (len : Int) := by omega
        have hi8 : (j : Int) < 8 := by omega
        have hi0 : (0 : Int) ≤ (j : Int) := by omega
        obtain ⟨t, ht⟩ : ∃ t, ts[j]? = some t := ⟨_, List.getElem?_eq_getElem (by omega)⟩
        have HOk := hide (HR.out.2.2.1 t (List.mem_of_getElem? ht))
        obtain ⟨b3, o3, hao, hr3⟩ := HR.out.2.2.2 (by omega)
        have HTr := hide (hr3 j t ht)
        have HTm := hide (fun W => HT.out t HOk.out W)
        have HSn : Hid ((ts.take (j + 1)).map trm4 = (ts.take j).map trm4 ++ [trm4 t]) := by show _ = _; rw [List.take_add_one, ht, List.map_append]; rfl
        have HT4 := hide (trm4_ok HOk.out).1
        subst hao
        clear hr3 ht HR hn HT HOk
        generalize trm4 t = t4 at *
        obtain ⟨k4, n4, s4, o4⟩ := t4
        obtain ⟨tk, tn, tx, tq⟩ := t
        simp only at HTm HTr
        have HSof : Hid (∀ V : World, V.heap[b7]? = some (.cells #[.string nt, .slice va j vc, .int .i64 off] 42 (0, 0)) → V.heap[w.heap.size]? = some (.cells #[.string ap, .slice (some ⟨b3, o3, none⟩) len cap, .int .i64 off] 42 (0, 0)) → Only (fun k => w.heap.size ≤ k) w V → V.cell? ⟨b7, 1, none⟩ = some (.slice va j vc) ∧ V.cell? ⟨w.heap.size, 1, none⟩ = some (.slice (some ⟨b3, o3, none⟩) len cap) ∧ V.cell? ⟨b3, o3 + j * 4, none⟩ = some (.int .i64 tk) ∧ V.cell? ⟨b3, o3 + j * 4 + 1, none⟩ = some (.int .i64 tn) ∧ V.cell? ⟨b3, o3 + j * 4 + 2, none⟩ = some (.string tx) ∧ V.cell? ⟨b3, o3 + j * 4 + 3, none⟩ = some (.int .i64 tq)) := fun V h1 h2 h3 => by
          obtain ⟨z0, z1, z2, z3⟩ := HTr.out.kept (h3.below (Nat.le_refl _) (fun k hk e => by omega))
          exact ⟨(box3_cells h1).2.1, (box3_cells h2).2.1, z0, z1, z2, z3⟩
        clear HTr
        go_upto_region 5 with fail
        refine wp_region_last (by kernel_rfl) (fun V => V.cell? ⟨b7, 1, none⟩ = some (.slice va j vc) ∧ V.cell? ⟨w.heap.size, 1, none⟩ = some (.slice (some ⟨b3, o3, none⟩) len cap) ∧ V.cell? ⟨b3, o3 + j * 4, none⟩ = some (.int .i64 tk) ∧ V.cell? ⟨b3, o3 + j * 4 + 1, none⟩ = some (.int .i64 tn) ∧ V.cell? ⟨b3, o3 + j * 4 + 2, none⟩ = some (.string tx) ∧ V.cell? ⟨b3, o3 + j * 4 + 3, none⟩ = some (.int .i64 tq)) 11 ?_
        have HS1 := HSof.out wr.drew HA.out.q7 HA.out.q4 HA.out.on.drew
        refine wpAnyM_take (i := 0) (v := ?_) rfl (by kernel_rfl) (by kernel_rfl) (by kernel_rfl) (by kernel_rfl) (fun _ _ _ h => h) HS1 (Or.inl ⟨by rfl, ?_⟩) ?_
        rotate_left
        · (intro w hSw; (try dsimp only at hSw); go_simp; try with_reducible rfl)
        simp only [Act.put, List.setIfInBounds_toArray, List.set_cons_zero, List.set_cons_succ]
        refine wpAnyM_take (i := 1) (v := ?_) rfl (by kernel_rfl) (by kernel_rfl) (by kernel_rfl) (by kernel_rfl) (fun _ _ _ h => h) HS1 (Or.inl ⟨by rfl, ?_⟩) ?_
        rotate_left
        · (intro w hSw; (try dsimp only at hSw); go_simp; try with_reducible rfl)
        simp only [Act.put, List.setIfInBounds_toArray, List.set_cons_zero, List.set_cons_succ]
        refine wpAnyM_take (i := 2) (v := ?_) rfl (by kernel_rfl) (by kernel_rfl) (by kernel_rfl) (by kernel_rfl) (fun _ _ _ h => h) HS1 (Or.inl ⟨by rfl, ?_⟩) ?_
        rotate_left
        · (intro w hSw; (try dsimp only at hSw); go_simp; try with_reducible rfl)
        simp only [Act.put, List.setIfInBounds_toArray, List.set_cons_zero, List.set_cons_succ]
        refine wpAnyM_take (i := 3) (v := ?_) rfl (by kernel_rfl) (by kernel_rfl) (by kernel_rfl) (by kernel_rfl) (fun _ _ _ h => h) HS1 (Or.inl ⟨by rfl, ?_⟩) ?_
        rotate_left
        · (intro w hSw; (try dsimp only at hSw); go_simp; try with_reducible rfl)
        simp only [Act.put, List.setIfInBounds_toArray, List.set_cons_zero, List.set_cons_succ]
        refine wpAnyM_take (i := 4) (v := ?_) rfl (by kernel_rfl) (by kernel_rfl) (by kernel_rfl) (by kernel_rfl) (fun _ _ _ h => h) HS1 (Or.inl ⟨by rfl, ?_⟩) ?_
        rotate_left
        · (intro w hSw; (try dsimp only at hSw); go_simp; try with_reducible rfl)
        simp only [Act.put, List.setIfInBounds_toArray, List.set_cons_zero, List.set_cons_succ]
        refine wpAnyM_take (i := 5) (v := ?_) rfl (by kernel_rfl) (by kernel_rfl) (by kernel_rfl) (by kernel_rfl) (fun _ _ _ h => h) HS1 (Or.inl ⟨by rfl, ?_⟩) ?_
        rotate_left
        · (intro w hSw; (try dsimp only at hSw); go_simp; try with_reducible rfl)
        simp only [Act.put, List.setIfInBounds_toArray, List.set_cons_zero, List.set_cons_succ]
        refine wpAnyM_take (i := 6) (v := ?_) rfl (by kernel_rfl) (by kernel_rfl) (by kernel_rfl) (by kernel_rfl) (fun _ _ _ h => h) HS1 (Or.inl ⟨by rfl, ?_⟩) ?_
        rotate_left
        · (intro w hSw; (try dsimp only at hSw); go_simp; try with_reducible rfl)
        simp only [Act.put, List.setIfInBounds_toArray, List.set_cons_zero, List.set_cons_succ]
        refine wpAnyM_one (i := 7) (by kernel_rfl) rfl (fun K hK => ?_)
        go_simp
        refine (HTm.out _).mono ?_
        rintro e w3 ⟨rfl, hb3⟩
        have HZ3 := hide (HA.out.kept ((Below.refl _ _).drew.trans (hb3.mono (by simp))))
        have HZ4 := hide (HZ3.out.kept (belowA w3 (.cells #[.int .i64 k4, .int .i64 n4, .string s4, .int .i64 o4] 54)))
        have HS3 := HSof.out w3 HZ3.out.q7 HZ3.out.q4 HZ3.out.on
        refine hK.out _ _ HS3 (fun _ => ?_)
        clear hK K HS1 hb3
        try simp only [Act.put, List.setIfInBounds_toArray, List.set_cons_zero, List.set_cons_succ]
        refine wpAnyM_one (i := 8) (by kernel_rfl) rfl (fun K hK => ?_)
        go_simp
        have HS4 := HSof.out _ HZ4.out.q7 HZ4.out.q4 HZ4.out.on
        refine hK.out _ _ HS4 (fun _ => ?_)
        clear hK K HS3
        refine wpAnyM_one (i := 9) (by kernel_rfl) rfl (fun K hK => ?_)
        obtain ⟨i0, hi0', hz0, hz1, hz2⟩ := info_parts Tryz.infoTerm
        refine step_push (w0 := w3.alloc (.cells #[.int .i64 k4, .int .i64 n4, .string s4, .int .i64 o4] 54)) elTrm (by rfl) _ _ _ (by rfl) (b7 + 1) 54 i0 _ 40 Tryz.underlying40 hi0' hz0 hz1 hz2 rfl (by decide) (.slice va j vc) acc j HLn.out (by rfl) HZ4.out.gr ⟨k4, n4, s4, o4⟩ w3.heap.size 1 (by rfl) (fun j u hu => new_cells (cs := #[.int .i64 k4, .int .i64 n4, .string s4, .int .i64 o4]) j u hu) HT4.out (by omega) (Below.refl _ _) HZ4.out.hi ?_
        intro g cap' w5 HG5 HB5 HGr
        clear HB5 hi0' hz0 hz1 hz2 i0
        obtain ⟨hb5, hc5, ho5⟩ := HZ4.out.far3 HGr.out
        have HS5 := HSof.out w5 hb5 hc5 ho5
        have HZ5 := hide (HZ4.out.push HGr.out HG5.out)
        refine hK.out _ _ HS5 (fun _ => ?_)
        clear hK K HS4 HSof HZ4 HZ3 HGr HG5
        have c5 : w5.cell? ⟨b7, 1, none⟩ = some (.slice va j vc) := by simp [World.cell?, hb5]
        have z5 : w5.frozen? ⟨b7, 1, none⟩ = false := by simp [World.frozen?, hb5]
        clear hb5 hc5 ho5
        try simp only [Act.put, List.setIfInBounds_toArray, List.set_cons_zero, List.set_cons_succ]
        refine wpAnyM_take (i := 10) (v := ?_) rfl (by kernel_rfl) (by kernel_rfl) (by kernel_rfl) (by kernel_rfl) (fun _ _ _ h => h) HS5 (Or.inl ⟨by rfl, ?_⟩) ?_
        rotate_left
        · (intro w hSw; (try dsimp only at hSw); go_simp; try with_reducible rfl)
        simp only [Act.put, List.setIfInBounds_toArray, List.set_cons_zero, List.set_cons_succ]
        clear HS5
        refine wpAnyM_end (by kernel_rfl) rfl (by kernel_rfl) (fun K hK => ?_)
        go_simp
        refine hK.out _ _ ?_
        clear hK K
        go_wp2
        go_roundw
        case rel =>
          refine ⟨j + 1, acc ++ [⟨k4, n4, s4, o4⟩], some ⟨g, 0, none⟩, cap', by omega, by go_num, ?_, ?_, HZ5⟩
          · show List.length _ = _; rw [List.length_append, HLn.out]; rfl
          · show _ ++ _ = _; rw [HSn.out, HQ.out]
        case measure => simp [intOf]; omega
      · have hje : j = min ts.length 8 := by omega
        have HTk : Hid (acc = (ts.take 8).map trm4) := by
          show _ = _
          rw [HQ.out]
          rcases Nat.le_total ts.length 8 with h1 | h1
          · rw [List.take_of_length_le (by omega), List.take_of_length_le h1]
          · rw [show j = 8 by omega]
        have hl8 : acc.length < 1073741824 := by have := HLn.out; omega
        have HFin := hide (HA.out.fin hl8 (by have := HNs.out; omega) HOff.out)
        obtain ⟨k0, k1, k2, l0, l1, l2⟩ := box3_cells HA.out.q6
        obtain ⟨m0, m1, m2, -⟩ := box3_cells HA.out.q7
        have hend : ¬ ((j : Int) < (len : Int)) ∨ ((j : Int) < (len : Int) ∧ ¬ (j : Int) < 8) := by omega
        clear hn hj hlt hje hl8 HQ HLn HT HR HN
        rcases hend with hi | ⟨hi, hi8⟩ <;>
        · go_wp2
          refine bodyPost_ret (made4Res _ (w.heap.size + 1) _ _ _ _ rfl HFin.out.1) rfl ?_
          exact ⟨⟨nt, _, off, acc⟩, rfl, by show (⟨nt, acc, off⟩ : PAtom) = _; rw [HTk.out]; simp only [List.map_take], HFin.out.2.2, HFin.out.2.1⟩
end Go.Proofs.YtchhophblejmeaaGreatDoor

namespace Go.Proofs.YtchhophblejmeaaGreatDoor
set_option linter.unusedSimpArgs false
set_option linter.unusedVariables false
open Go.RowKit

def Lix.pur (x : Lix) : PLit := ⟨x.k, x.a.pur, x.op, x.l, x.r, x.off⟩
def Lix.val (c : Lix) : Value := .agg #[.int .i64 c.k, .string c.a.p, c.a.v, .int .i64 c.a.off, .int .i64 c.op, .int .i64 c.l.k, .int .i64 c.l.n, .string c.l.s, .int .i64 c.l.off, .int .i64 c.r.k, .int .i64 c.r.n, .string c.r.s, .int .i64 c.r.off, .int .i64 c.off]
def LitPost (w : World) (p : Nat) (ao : Option Addr) (cap : Nat) (L : List Tok) (c f : Int) (res : PR PLit) (e : Ending) (w' : World) : Prop :=
  match res with
  | .bad ec eo => e = PEnd ec eo ∧ Only (fun k => k = p) w w'
  | .ok x r => ∃ a : Lix, e = .returned a.val ∧ a.pur = x ∧ elLix.ok w' (fun b => w.heap.size ≤ b) a ∧ Ahead w' p ao cap L c f r ∧ Only (fun k => k = p) w w'
theorem litPost_bad {w w' : World} {p : Nat} {ao : Option Addr} {cap : Nat} {L : List Tok} {c f ec eo : Int} {e : Ending} (h : LitPost w p ao cap L c f (.bad ec eo) e w') : e = PEnd ec eo ∧ Only (fun k => k = p) w w' := h
theorem litPost_ok {w w' : World} {p : Nat} {ao : Option Addr} {cap : Nat} {L : List Tok} {c f : Int} {x : PLit} {r : List Tok} {e : Ending} (h : LitPost w p ao cap L c f (.ok x r) e w') : ∃ a : Lix, e = .returned a.val ∧ a.pur = x ∧ elLix.ok w' (fun b => w.heap.size ≤ b) a ∧ Ahead w' p ao cap L c f r ∧ Only (fun k => k = p) w w' := h

theorem boxL_cells {V : World} {b : Nat} {u0 u1 u2 u3 u4 u5 u6 u7 u8 u9 u10 u11 u12 u13 : Value} (h : V.heap[b]? = some (.cells #[u0, u1, u2, u3, u4, u5, u6, u7, u8, u9, u10, u11, u12, u13] 56 (0, 0))) : (V.cell? ⟨b, 0, none⟩ = some u0 ∧ V.cell? ⟨b, 1, none⟩ = some u1 ∧ V.cell? ⟨b, 2, none⟩ = some u2 ∧ V.cell? ⟨b, 3, none⟩ = some u3 ∧ V.cell? ⟨b, 4, none⟩ = some u4 ∧ V.cell? ⟨b, 5, none⟩ = some u5 ∧ V.cell? ⟨b, 6, none⟩ = some u6 ∧ V.cell? ⟨b, 7, none⟩ = some u7 ∧ V.cell? ⟨b, 8, none⟩ = some u8 ∧ V.cell? ⟨b, 9, none⟩ = some u9 ∧ V.cell? ⟨b, 10, none⟩ = some u10 ∧ V.cell? ⟨b, 11, none⟩ = some u11 ∧ V.cell? ⟨b, 12, none⟩ = some u12 ∧ V.cell? ⟨b, 13, none⟩ = some u13) ∧ (V.frozen? ⟨b, 0, none⟩ = false ∧ V.frozen? ⟨b, 1, none⟩ = false ∧ V.frozen? ⟨b, 2, none⟩ = false ∧ V.frozen? ⟨b, 3, none⟩ = false ∧ V.frozen? ⟨b, 4, none⟩ = false ∧ V.frozen? ⟨b, 5, none⟩ = false ∧ V.frozen? ⟨b, 6, none⟩ = false ∧ V.frozen? ⟨b, 7, none⟩ = false ∧ V.frozen? ⟨b, 8, none⟩ = false ∧ V.frozen? ⟨b, 9, none⟩ = false ∧ V.frozen? ⟨b, 10, none⟩ = false ∧ V.frozen? ⟨b, 11, none⟩ = false ∧ V.frozen? ⟨b, 12, none⟩ = false ∧ V.frozen? ⟨b, 13, none⟩ = false) := by
  refine ⟨⟨?_, ?_, ?_, ?_, ?_, ?_, ?_, ?_, ?_, ?_, ?_, ?_, ?_, ?_⟩, ⟨?_, ?_, ?_, ?_, ?_, ?_, ?_, ?_, ?_, ?_, ?_, ?_, ?_, ?_⟩⟩ <;> simp [World.cell?, World.frozen?, h]
theorem boxL_put {V : World} {b : Nat} {u0 u1 u2 u3 u4 u5 u6 u7 u8 u9 u10 u11 u12 u13 : Value} (h : V.heap[b]? = some (.cells #[u0, u1, u2, u3, u4, u5, u6, u7, u8, u9, u10, u11, u12, u13] 56 (0, 0))) (x0 x1 x2 x3 x4 x5 x6 x7 x8 x9 x10 x11 x12 x13 : Value) :
    ((((((((((((((V.setCell ⟨b, 0, none⟩ x0).setCell ⟨b, 1, none⟩ x1).setCell ⟨b, 2, none⟩ x2).setCell ⟨b, 3, none⟩ x3).setCell ⟨b, 4, none⟩ x4).setCell ⟨b, 5, none⟩ x5).setCell ⟨b, 6, none⟩ x6).setCell ⟨b, 7, none⟩ x7).setCell ⟨b, 8, none⟩ x8).setCell ⟨b, 9, none⟩ x9).setCell ⟨b, 10, none⟩ x10).setCell ⟨b, 11, none⟩ x11).setCell ⟨b, 12, none⟩ x12).setCell ⟨b, 13, none⟩ x13).heap[b]? = some (.cells #[x0, x1, x2, x3, x4, x5, x6, x7, x8, x9, x10, x11, x12, x13] 56 (0, 0)) := by
  simp [World.setCell, Array.getElem?_modify, h]
theorem boxL_only (V : World) (b : Nat) (x0 x1 x2 x3 x4 x5 x6 x7 x8 x9 x10 x11 x12 x13 : Value) : Only (fun k => k = b) V ((((((((((((((V.setCell ⟨b, 0, none⟩ x0).setCell ⟨b, 1, none⟩ x1).setCell ⟨b, 2, none⟩ x2).setCell ⟨b, 3, none⟩ x3).setCell ⟨b, 4, none⟩ x4).setCell ⟨b, 5, none⟩ x5).setCell ⟨b, 6, none⟩ x6).setCell ⟨b, 7, none⟩ x7).setCell ⟨b, 8, none⟩ x8).setCell ⟨b, 9, none⟩ x9).setCell ⟨b, 10, none⟩ x10).setCell ⟨b, 11, none⟩ x11).setCell ⟨b, 12, none⟩ x12).setCell ⟨b, 13, none⟩ x13) := ((((((((((((((Only.refl (fun k => k = b) V).setCell (p := ⟨b, 0, none⟩) rfl _).setCell (p := ⟨b, 1, none⟩) rfl _).setCell (p := ⟨b, 2, none⟩) rfl _).setCell (p := ⟨b, 3, none⟩) rfl _).setCell (p := ⟨b, 4, none⟩) rfl _).setCell (p := ⟨b, 5, none⟩) rfl _).setCell (p := ⟨b, 6, none⟩) rfl _).setCell (p := ⟨b, 7, none⟩) rfl _).setCell (p := ⟨b, 8, none⟩) rfl _).setCell (p := ⟨b, 9, none⟩) rfl _).setCell (p := ⟨b, 10, none⟩) rfl _).setCell (p := ⟨b, 11, none⟩) rfl _).setCell (p := ⟨b, 12, none⟩) rfl _).setCell (p := ⟨b, 13, none⟩) rfl _
theorem litRes (W : World) (b : Nat) (u0 u1 u2 u3 u4 u5 u6 u7 u8 u9 u10 u11 u12 u13 : Value) (tmps : Array Value) (ht : tmps[4]? = some (.pointer (some ⟨b, 0, none⟩))) (hb : W.heap[b]? = some (.cells #[u0, u1, u2, u3, u4, u5, u6, u7, u8, u9, u10, u11, u12, u13] 56 (0, 0))) :
    (results Tryz.f78 tmps).run Tryz.prog W = .ok (.agg #[u0, u1, u2, u3, u4, u5, u6, u7, u8, u9, u10, u11, u12, u13]) W := by
  obtain ⟨⟨c0, c1, c2, c3, c4, c5, c6, c7, c8, c9, c10, c11, c12, c13⟩, -⟩ := boxL_cells hb
  simp [results, Tryz.results78, go_sem, ht, c0, c1, c2, c3, c4, c5, c6, c7, c8, c9, c10, c11, c12, c13]
theorem tok_cells {V : World} {b : Nat} {t : Tok} (h : V.heap[b]? = some (.cells #[.int .i64 t.k, .string t.t, .int .i64 t.n, .int .i64 t.op, .int .i64 (t.off : Int), .int .i64 (t.en : Int)] 116 (0, 0))) :
    V.cell? ⟨b, 0, none⟩ = some (.int .i64 t.k) ∧ V.cell? ⟨b, 1, none⟩ = some (.string t.t) ∧ V.cell? ⟨b, 2, none⟩ = some (.int .i64 t.n) ∧ V.cell? ⟨b, 3, none⟩ = some (.int .i64 t.op) ∧ V.cell? ⟨b, 4, none⟩ = some (.int .i64 (t.off : Int)) ∧ V.cell? ⟨b, 5, none⟩ = some (.int .i64 (t.en : Int)) := by
  refine ⟨?_, ?_, ?_, ?_, ?_, ?_⟩ <;> simp [World.cell?, h]
theorem Ahead.drew {w : World} {p : Nat} {ao : Option Addr} {cap : Nat} {L : List Tok} {c f : Int} {R : List Tok} (h : Ahead w p ao cap L c f R) : Ahead w.drew p ao cap L c f R := h.kept (Below.refl _ _).drew
theorem ks_at {W : World} {g : Nat} (ks : List Int) (h : W.heap.size = g) : KsAt (W.alloc (.cells (ks.map (Value.int .i64)).toArray 3)).drew g ks := h ▸ (ks_new W ks).kept (Below.refl _ _).drew
/-- Two boxes of a function's own, the first and the second block behind what was there; beside them only the reader has moved. -/
structure TwoBox (w W : World) (p : Nat) (x y : Obj) : Prop where
  b0 : W.heap[w.heap.size]? = some x
  b1 : W.heap[w.heap.size + 1]? = some y
  on : Only (fun k => k = p ∨ w.heap.size ≤ k) w W
  pl : p < w.heap.size
theorem TwoBox.move {w W W' : World} {p : Nat} {x y : Obj} (h : TwoBox w W p x y) (ho : Only (fun k => k = p) W W') : TwoBox w W' p x y :=
  have hp := h.pl
  ⟨by rw [ho.block _ (Array.getElem?_eq_some_iff.1 h.b0).1 (by omega)]; exact h.b0, by rw [ho.block _ (Array.getElem?_eq_some_iff.1 h.b1).1 (by omega)]; exact h.b1, h.on.trans (ho.mono fun k _ e => .inl e), h.pl⟩
theorem TwoBox.below {w W W' : World} {p : Nat} {x y : Obj} (h : TwoBox w W p x y) (hb : Below W.heap.size W W') : TwoBox w W' p x y := h.move (Only.of_below hb _)
theorem TwoBox.drew {w W : World} {p : Nat} {x y : Obj} (h : TwoBox w W p x y) : TwoBox w W.drew p x y := h.below (Below.refl _ _).drew
theorem TwoBox.start {w : World} {p : Nat} (hp : p < w.heap.size) (x y : Obj) : TwoBox w ((w.alloc x).alloc y) p x y :=
  ⟨first_box hp (Only.refl _ _), second_box hp (Only.refl _ _), Only.of_below (below2a w x y) _, hp⟩
theorem TwoBox.lt {w W : World} {p : Nat} {x y : Obj} (h : TwoBox w W p x y) : w.heap.size + 2 ≤ W.heap.size := (Array.getElem?_eq_some_iff.1 h.b1).1
theorem i64_0 : I64 0 := by unfold I64; decide
theorem i64_1 : I64 1 := by unfold I64; decide
theorem i64_2 : I64 2 := by unfold I64; decide
theorem i64_3 : I64 3 := by unfold I64; decide
theorem zeroTrm_ok : zeroTrm.ok := ⟨⟨by unfold I64 zeroTrm Trm.con; decide, by unfold I64 zeroTrm Trm.con; decide, by unfold zeroTrm Trm.con; decide⟩, by unfold I64 zeroTrm; decide⟩
theorem lit_fin {w W : World} {p : Nat} {ao : Option Addr} {cap : Nat} {L : List Tok} {c f : Int} {R0 r : List Tok} {x y : Obj} (h0 : Ahead w p ao cap L c f R0) (hA : Ahead W p ao cap L c f r) (hB : TwoBox w W p x y) (a : Lix) (z : PLit) (hz : a.pur = z) {N : Nat} (hok : elLix.ok W (fun k => N ≤ k) a) (hN : w.heap.size + 2 ≤ N) (x0 x1 x2 x3 x4 x5 x6 x7 x8 x9 x10 x11 x12 x13 : Value) :
    LitPost w p ao cap L c f (.ok z r) (.returned a.val) ((((((((((((((W.setCell ⟨w.heap.size + 1, 0, none⟩ x0).setCell ⟨w.heap.size + 1, 1, none⟩ x1).setCell ⟨w.heap.size + 1, 2, none⟩ x2).setCell ⟨w.heap.size + 1, 3, none⟩ x3).setCell ⟨w.heap.size + 1, 4, none⟩ x4).setCell ⟨w.heap.size + 1, 5, none⟩ x5).setCell ⟨w.heap.size + 1, 6, none⟩ x6).setCell ⟨w.heap.size + 1, 7, none⟩ x7).setCell ⟨w.heap.size + 1, 8, none⟩ x8).setCell ⟨w.heap.size + 1, 9, none⟩ x9).setCell ⟨w.heap.size + 1, 10, none⟩ x10).setCell ⟨w.heap.size + 1, 11, none⟩ x11).setCell ⟨w.heap.size + 1, 12, none⟩ x12).setCell ⟨w.heap.size + 1, 13, none⟩ x13) := by
  have ho2 := boxL_only W (w.heap.size + 1) x0 x1 x2 x3 x4 x5 x6 x7 x8 x9 x10 x11 x12 x13
  obtain ⟨q1, q2⟩ := fin_ahead h0 hA hB.on ho2 (by omega)
  exact ⟨a, rfl, hz, fin_ok elLix hok ho2 (by omega) (by omega), q1, q2⟩
theorem KsAt.drew {w : World} {g : Nat} {ks : List Int} (h : KsAt w g ks) : KsAt w.drew g ks := h.kept (Below.refl _ _).drew

set_option maxHeartbeats 4000000 in
set_option maxRecDepth 100000 in
theorem lit_not {w : World} {p : Nat} {ao : Option Addr} {cap : Nat} {L : List Tok} {c f : Int} {R : List Tok} (first : Tok) (h : Ahead w p ao cap L c f R) (hname : first.good) (h10 : first.k = 10) :
    Calls Tryz.prog 78 #[.pointer (some ⟨p, 0, none⟩), tokV first] w (LitPost w p ao cap L c f (litP c f first R)) := by
  have e10 : (first.k == 10) = true := by simpa using h10
  have HE : litP c f first R = (match takeP c f [1] R with | .bad c o => .bad c o | .ok n r' => match atomP c f termKs n r' with | .bad c o => .bad c o | .ok a r'' => .ok ⟨2, a, 0, zeroTrm, zeroTrm, first.off⟩ r'') := by unfold litP; rw [if_pos h10]; rfl
  rw [HE]
  have H0 := hide h
  have hp := h.lt
  unfold tokV
  clear HE h10 h
  cases hT : takeP c f [1] R with
  | bad ec eo =>
    have HT := hide (fun (W : World) (g : Nat) (ha : Ahead W p ao cap L c f R) (hk : KsAt W g [1]) => take_fail g ha hk (by decide) hT)
    simp only []
    clear hT
    unfold LitPost
    go_enter Tryz.func78, Tryz.ntmps78
    go_wp2
    go_region_with (first
        | (go_at_call 51; refine (HT.out _ _ (by first | exact (H0.out.kept (below3a _ _ _ _)).drew | exact (H0.out.kept (below2a _ _ _)).drew) (by exact ks_at [1] (by simp))).mono ?_; rintro e w1 ⟨rfl, hb1⟩; refine panic_ends (P := Tryz.prog) (w := w1) ⟨rfl, rfl, by first | exact only_drop (Only.of_below (belowt2 (below3a _ _ _ _).drew hb1) _) | exact only_drop (Only.of_below (belowt2 (below2a _ _ _).drew hb1) _)⟩ ?_))
    all_goals trivial
  | ok n r1 =>
    have HT := hide (fun (W : World) (g : Nat) (ha : Ahead W p ao cap L c f R) (hk : KsAt W g [1]) => take_good g ha hk (by decide) hT)
    have hng : n.good := H0.out.good n (by rw [(take_eq hT).1]; exact List.mem_cons_self)
    simp only []
    obtain ⟨res, hres⟩ : ∃ res, atomP c f termKs n r1 = res := ⟨_, rfl⟩
    have HAt := hide (fun (W : World) (ha : Ahead W p ao cap L c f r1) => atom_any n ha hng)
    rw [hres] at HAt ⊢
    clear hT hres hng
    have HB := hide (TwoBox.start (w := w) hp (.cells #[.int .i64 first.k, .string first.t, .int .i64 first.n, .int .i64 first.op, .int .i64 (first.off : Int), .int .i64 (first.en : Int)] 116) (.cells #[.int .i64 0, .string ⟨#[]⟩, .slice none 0 0, .int .i64 0, .int .i64 0, .int .i64 0, .int .i64 0, .string ⟨#[]⟩, .int .i64 0, .int .i64 0, .int .i64 0, .string ⟨#[]⟩, .int .i64 0, .int .i64 0] 56))
    cases res with
    | bad ec eo =>
      simp only []
      unfold LitPost
      go_enter Tryz.func78, Tryz.ntmps78
      go_wp2
      go_region_with (first
        | (go_at_call 51; refine (HT.out _ _ (by first | exact (H0.out.kept (below3a _ _ _ _)).drew | exact (H0.out.kept (below2a _ _ _)).drew) (by exact ks_at [1] (by simp))).mono ?_; rintro e w1 ⟨rfl, ha1, ho1⟩; have HA1 := hide ha1; have HB1 := hide (((HB.out.below (belowA _ _)).drew).move ho1); clear ha1 ho1; obtain ⟨-, -, -, -, y4, -⟩ := tok_cells HB1.out.b0)
        | (go_at_call 73; refine (HAt.out _ (by first | exact HA1.out | exact HA1.out.drew)).mono ?_; intro e w2 hq; obtain ⟨rfl, ho2⟩ := atmPost_bad hq; clear hq; refine panic_ends (P := Tryz.prog) (w := w2) ⟨rfl, rfl, by first | exact only_drop (HB1.out.move ho2).on | exact only_drop (HB1.out.drew.move ho2).on⟩ ?_))
      all_goals trivial
    | ok a r2 =>
      simp only []
      unfold LitPost
      go_enter Tryz.func78, Tryz.ntmps78
      go_wp2
      go_region_held3 (fun w' => w'.cell? ⟨w.heap.size, 4, none⟩ = some (.int .i64 (first.off : Int)))
        (first | (with_reducible exact y4) | (with_reducible exact z4) | (go_keep; done))
        (first
        | (go_at_call 51; refine (HT.out _ _ (by first | exact (H0.out.kept (below3a _ _ _ _)).drew | exact (H0.out.kept (below2a _ _ _)).drew) (by exact ks_at [1] (by simp))).mono ?_; rintro e w1 ⟨rfl, ha1, ho1⟩; have HA1 := hide ha1; have HB1 := hide (((HB.out.below (belowA _ _)).drew).move ho1); clear ha1 ho1; obtain ⟨-, -, -, -, y4, -⟩ := tok_cells HB1.out.b0)
        | (go_at_call 73; refine (HAt.out _ (by first | exact HA1.out | exact HA1.out.drew)).mono ?_; intro e w2 hq; obtain ⟨⟨ap, av, aoff, ats⟩, rfl, hpur, hok, ha2, ho2⟩ := atmPost_ok hq; clear hq; obtain ⟨va, vc, rfl, -⟩ := (show Lst elTrm _ _ av ats from hok.2.2).shape; have HA2 := hide ha2; have HB2 := hide (HB1.out.move ho2); have HPu := hide hpur; have HOk := hide hok; clear ha2 ho2 hpur hok; obtain ⟨-, -, -, -, z4, -⟩ := tok_cells HB2.out.b0; obtain ⟨⟨k0, k1, k2, k3, k4, k5, k6, k7, k8, k9, k10, k11, k12, k13⟩, ⟨l0, l1, l2, l3, l4, l5, l6, l7, l8, l9, l10, l11, l12, l13⟩⟩ := boxL_cells HB2.out.b1; unfold Atx.val))
      go_wp2
      refine bodyPost_ret (litRes _ (w.heap.size + 1) _ _ _ _ _ _ _ _ _ _ _ _ _ _ _ rfl (boxL_put HB2.out.b1 _ _ _ _ _ _ _ _ _ _ _ _ _ _)) rfl ?_
      exact lit_fin H0.out HA2.out HB2.out ⟨2, ⟨ap, _, aoff, ats⟩, 0, zeroTrm, zeroTrm, first.off⟩ _ (by unfold Lix.pur; rw [HPu.out]) ⟨i64_2, HOk.out, i64_0, zeroTrm_ok, zeroTrm_ok, (good_parts hname).2⟩ HB1.out.lt _ _ _ _ _ _ _ _ _ _ _ _ _ _
end Go.Proofs.YtchhophblejmeaaGreatDoor

namespace Go.Proofs.YtchhophblejmeaaGreatDoor
set_option linter.unusedSimpArgs false
set_option linter.unusedVariables false
open Go.RowKit

theorem lit4Res (W : World) (b : Nat) (u0 u1 u2 u3 u4 u5 u6 u7 u8 u9 u10 u11 u12 u13 : Value) (tmps : Array Value) (ht : tmps[2]? = some (.pointer (some ⟨b, 0, none⟩))) (hb : W.heap[b]? = some (.cells #[u0, u1, u2, u3, u4, u5, u6, u7, u8, u9, u10, u11, u12, u13] 56 (0, 0))) :
    (results Tryz.f38 tmps).run Tryz.prog W = .ok (.agg #[u0, u1, u2, u3, u4, u5, u6, u7, u8, u9, u10, u11, u12, u13]) W := by
  obtain ⟨⟨c0, c1, c2, c3, c4, c5, c6, c7, c8, c9, c10, c11, c12, c13⟩, -⟩ := boxL_cells hb
  simp [results, Tryz.results38, go_sem, ht, c0, c1, c2, c3, c4, c5, c6, c7, c8, c9, c10, c11, c12, c13]
theorem lit4_fin {w W : World} {x y : Obj} (hB : Two4 w W x y) (a : Lix) (z : PLit) (hz : a.pur = z) {N : Nat} (hok : elLix.ok W (fun k => N ≤ k) a) (hN : w.heap.size + 2 ≤ N) (x0 x1 x2 x3 x4 x5 x6 x7 x8 x9 x10 x11 x12 x13 : Value) {W' : World} (hW : W' = ((((((((((((((W.setCell ⟨w.heap.size + 1, 0, none⟩ x0).setCell ⟨w.heap.size + 1, 1, none⟩ x1).setCell ⟨w.heap.size + 1, 2, none⟩ x2).setCell ⟨w.heap.size + 1, 3, none⟩ x3).setCell ⟨w.heap.size + 1, 4, none⟩ x4).setCell ⟨w.heap.size + 1, 5, none⟩ x5).setCell ⟨w.heap.size + 1, 6, none⟩ x6).setCell ⟨w.heap.size + 1, 7, none⟩ x7).setCell ⟨w.heap.size + 1, 8, none⟩ x8).setCell ⟨w.heap.size + 1, 9, none⟩ x9).setCell ⟨w.heap.size + 1, 10, none⟩ x10).setCell ⟨w.heap.size + 1, 11, none⟩ x11).setCell ⟨w.heap.size + 1, 12, none⟩ x12).setCell ⟨w.heap.size + 1, 13, none⟩ x13)) :
    ∃ y : Lix, (Ending.returned a.val) = .returned y.val ∧ y.pur = z ∧ elLix.ok W' (fun b => w.heap.size ≤ b) y ∧ Below w.heap.size w W' := by
  have ho2 := boxL_only W (w.heap.size + 1) x0 x1 x2 x3 x4 x5 x6 x7 x8 x9 x10 x11 x12 x13
  subst hW
  exact ⟨a, rfl, hz, fin_ok elLix hok ho2 (by omega) (by omega), hB.on.trans (ho2.below (show w.heap.size ≤ W.heap.size from hB.on.size) (fun k hk e => by omega))⟩

set_option maxRecDepth 100000 in
set_option maxHeartbeats 8000000 in
theorem lit4_atom (x : Ltr) {w : World} (h : x.at w) (m : Int) (hm : modP x.k 3 = m) (h12 : m = 1 ∨ m = 2) :
    Calls Tryz.prog 38 #[x.val] w fun e w' => ∃ y : Lix, e = .returned y.val ∧ y.pur = ⟨m, atm4 x.a, 0, zeroTrm, zeroTrm, x.off⟩ ∧ elLix.ok w' (fun b => w.heap.size ≤ b) y ∧ Below w.heap.size w w' := by
  have HM : Hid (∀ W, Calls Tryz.prog 15 #[.int .i64 x.k, .int .i64 3] W fun e w' => e = .returned (.int .i64 m) ∧ w' = W) := fun W => by rw [← hm]; exact mod4_3 x.k W
  have HA := hide (fun (W : World) (hb : Below w.heap.size w W) => made4 x.a (h.2.1.kept hb))
  have HOff := hide h.2.2.2.2.2
  unfold Ltr.val
  obtain ⟨xk, a, xop, ⟨lk, ln, ls, lo⟩, ⟨rk, rn, rs, ro⟩, xoff⟩ := x
  simp only at *
  generalize atm4 a = pa at *
  obtain ⟨ap, ao, len, cap, aoff, ats⟩ := a
  simp only at *
  clear h hm
  obtain ⟨Y, hY⟩ : ∃ Y, Y = (w.alloc (.cells #[.int .i64 xk, .string ap, .slice ao len cap, .int .i64 aoff, .int .i64 xop, .int .i64 lk, .int .i64 ln, .string ls, .int .i64 lo, .int .i64 rk, .int .i64 rn, .string rs, .int .i64 ro, .int .i64 xoff] 56)).alloc (.cells #[.int .i64 0, .string ⟨#[]⟩, .slice none 0 0, .int .i64 0, .int .i64 0, .int .i64 0, .int .i64 0, .string ⟨#[]⟩, .int .i64 0, .int .i64 0, .int .i64 0, .string ⟨#[]⟩, .int .i64 0, .int .i64 0] 56) := ⟨_, rfl⟩
  have HB : Hid (Two4 w Y (.cells #[.int .i64 xk, .string ap, .slice ao len cap, .int .i64 aoff, .int .i64 xop, .int .i64 lk, .int .i64 ln, .string ls, .int .i64 lo, .int .i64 rk, .int .i64 rn, .string rs, .int .i64 ro, .int .i64 xoff] 56) (.cells #[.int .i64 0, .string ⟨#[]⟩, .slice none 0 0, .int .i64 0, .int .i64 0, .int .i64 0, .int .i64 0, .string ⟨#[]⟩, .int .i64 0, .int .i64 0, .int .i64 0, .string ⟨#[]⟩, .int .i64 0, .int .i64 0] 56)) := by rw [hY]; exact Two4.start w _ _
  obtain ⟨⟨-, y1, y2, y3, -, -, -, -, -, -, -, -, -, y4⟩, -⟩ := boxL_cells HB.out.b0
  rcases h12 with rfl | rfl <;>
  · go_enter Tryz.func38, Tryz.ntmps38
    go_wp2_with (go_at_call 15; refine (HM.out _).mono ?_; rintro e w1 ⟨rfl, hw⟩; have hw := hw.symm; subst hw)
    rw [← hY]
    clear hY HM
    go_region_held3 (fun w' => w'.cell? ⟨w.heap.size, 1, none⟩ = some (.string ap) ∧ w'.cell? ⟨w.heap.size, 2, none⟩ = some (.slice ao len cap) ∧ w'.cell? ⟨w.heap.size, 3, none⟩ = some (.int .i64 aoff) ∧ w'.cell? ⟨w.heap.size, 13, none⟩ = some (.int .i64 xoff))
      (first | (with_reducible exact ⟨y1, y2, y3, y4⟩) | (with_reducible exact ⟨z1, z2, z3, z4⟩) | (go_keep; done))
      (first | (go_at_call 43; refine (HA.out Y.drew HB.out.drew.on).mono ?_; intro e w2 hq; obtain ⟨⟨yp, yv, yoff, yts⟩, rfl, hpur, hok, hb2⟩ := hq; obtain ⟨va, vc, rfl, -⟩ := (show Lst elTrm _ _ yv yts from hok.2.2).shape; have HB2 := hide (HB.out.drew.below hb2); have HPu := hide hpur; have HOk := hide hok; clear hpur hok hb2; obtain ⟨⟨-, z1, z2, z3, -, -, -, -, -, -, -, -, -, z4⟩, -⟩ := boxL_cells HB2.out.b0; obtain ⟨⟨k0, k1, k2, k3, k4, k5, k6, k7, k8, k9, k10, k11, k12, k13⟩, ⟨l0, l1, l2, l3, l4, l5, l6, l7, l8, l9, l10, l11, l12, l13⟩⟩ := boxL_cells HB2.out.b1; unfold Atx.val))
    go_wp2
    refine bodyPost_ret (lit4Res _ (w.heap.size + 1) _ _ _ _ _ _ _ _ _ _ _ _ _ _ _ rfl (boxL_put HB2.out.b1 _ _ _ _ _ _ _ _ _ _ _ _ _ _)) rfl ?_
    exact lit4_fin HB2.out ⟨_, ⟨yp, _, yoff, yts⟩, 0, zeroTrm, zeroTrm, xoff⟩ _ (by unfold Lix.pur; rw [HPu.out]) ⟨by first | exact i64_1 | exact i64_2, HOk.out, i64_0, zeroTrm_ok, zeroTrm_ok, HOff.out⟩ HB.out.lt _ _ _ _ _ _ _ _ _ _ _ _ _ _ rfl

end Go.Proofs.YtchhophblejmeaaGreatDoor

namespace Go.Proofs.YtchhophblejmeaaGreatDoor
set_option linter.unusedSimpArgs false
set_option linter.unusedVariables false
open Go.RowKit

set_option maxRecDepth 100000 in
set_option maxHeartbeats 8000000 in
theorem lit4_test (x : Ltr) {w : World} (h : x.at w) (hm : modP x.k 3 = 0) :
    Calls Tryz.prog 38 #[x.val] w fun e w' => ∃ y : Lix, e = .returned y.val ∧ y.pur = ⟨3, zeroAtom, 1 + modP x.op 6, trm4 x.l, trm4 x.r, x.off⟩ ∧ elLix.ok w' (fun b => w.heap.size ≤ b) y ∧ Below w.heap.size w w' := by
  obtain ⟨hop1, hop2⟩ := modP_lt x.op (k := 6) (by decide)
  have HM : Hid (∀ W, Calls Tryz.prog 15 #[.int .i64 x.k, .int .i64 3] W fun e w' => e = .returned (.int .i64 0) ∧ w' = W) := fun W => by rw [← hm]; exact mod4_3 x.k W
  have HO : Hid (∀ W, Calls Tryz.prog 15 #[.int .i64 x.op, .int .i64 6] W fun e w' => e = .returned (.int .i64 (modP x.op 6)) ∧ Below W.heap.size W w') := fun W => (mod4_6 x.op W).mono fun e w' ⟨h1, h2⟩ => ⟨h1, by rw [h2]; exact Below.refl _ _⟩
  have HTl := hide (fun W => term4 x.l W h.2.2.2.1)
  have HTr := hide (fun W => term4 x.r W h.2.2.2.2.1)
  have HKl := hide (trm4_ok h.2.2.2.1).1
  have HKr := hide (trm4_ok h.2.2.2.2.1).1
  have HOff := hide h.2.2.2.2.2
  unfold Ltr.val
  obtain ⟨xk, ⟨ap, ao, len, cap, aoff, ats⟩, xop, l, r, xoff⟩ := x
  simp only at *
  generalize modP xop 6 = m at *
  generalize trm4 l = tl at *
  generalize trm4 r = tr at *
  obtain ⟨lk, ln, ls, lo⟩ := l
  obtain ⟨rk, rn, rs, ro⟩ := r
  obtain ⟨tlk, tln, tls, tlo⟩ := tl
  obtain ⟨trk, trn, trs, tro⟩ := tr
  simp only at *
  clear h hm
  have hwrap : wrap64 (1 + m) = 1 + m := by unfold wrap64; omega
  obtain ⟨Y, hY⟩ : ∃ Y, Y = (w.alloc (.cells #[.int .i64 xk, .string ap, .slice ao len cap, .int .i64 aoff, .int .i64 xop, .int .i64 lk, .int .i64 ln, .string ls, .int .i64 lo, .int .i64 rk, .int .i64 rn, .string rs, .int .i64 ro, .int .i64 xoff] 56)).alloc (.cells #[.int .i64 0, .string ⟨#[]⟩, .slice none 0 0, .int .i64 0, .int .i64 0, .int .i64 0, .int .i64 0, .string ⟨#[]⟩, .int .i64 0, .int .i64 0, .int .i64 0, .string ⟨#[]⟩, .int .i64 0, .int .i64 0] 56) := ⟨_, rfl⟩
  have HB : Hid (Two4 w Y (.cells #[.int .i64 xk, .string ap, .slice ao len cap, .int .i64 aoff, .int .i64 xop, .int .i64 lk, .int .i64 ln, .string ls, .int .i64 lo, .int .i64 rk, .int .i64 rn, .string rs, .int .i64 ro, .int .i64 xoff] 56) (.cells #[.int .i64 0, .string ⟨#[]⟩, .slice none 0 0, .int .i64 0, .int .i64 0, .int .i64 0, .int .i64 0, .string ⟨#[]⟩, .int .i64 0, .int .i64 0, .int .i64 0, .string ⟨#[]⟩, .int .i64 0, .int .i64 0] 56)) := by rw [hY]; exact Two4.start w _ _
  obtain ⟨⟨-, -, -, -, y4, y5, y6, y7, y8, y9, y10, y11, y12, y13⟩, -⟩ := boxL_cells HB.out.b0
  go_enter Tryz.func38, Tryz.ntmps38
  go_wp2_with (go_at_call 15; refine (HM.out _).mono ?_; rintro e w1 ⟨rfl, hw⟩; have hw := hw.symm; subst hw)
  rw [← hY]
  clear hY HM
  go_region_held3 (fun w' => w'.cell? ⟨w.heap.size, 4, none⟩ = some (.int .i64 xop) ∧ w'.cell? ⟨w.heap.size, 5, none⟩ = some (.int .i64 lk) ∧ w'.cell? ⟨w.heap.size, 6, none⟩ = some (.int .i64 ln) ∧ w'.cell? ⟨w.heap.size, 7, none⟩ = some (.string ls) ∧ w'.cell? ⟨w.heap.size, 8, none⟩ = some (.int .i64 lo) ∧ w'.cell? ⟨w.heap.size, 9, none⟩ = some (.int .i64 rk) ∧ w'.cell? ⟨w.heap.size, 10, none⟩ = some (.int .i64 rn) ∧ w'.cell? ⟨w.heap.size, 11, none⟩ = some (.string rs) ∧ w'.cell? ⟨w.heap.size, 12, none⟩ = some (.int .i64 ro) ∧ w'.cell? ⟨w.heap.size, 13, none⟩ = some (.int .i64 xoff))
    (first | (with_reducible exact ⟨y4, y5, y6, y7, y8, y9, y10, y11, y12, y13⟩) | (with_reducible exact ⟨c4, c5, c6, c7, c8, c9, c10, c11, c12, c13⟩) | (with_reducible exact ⟨d4, d5, d6, d7, d8, d9, d10, d11, d12, d13⟩) | (with_reducible exact ⟨e4, e5, e6, e7, e8, e9, e10, e11, e12, e13⟩) | (go_keep; done))
    (first
      | (go_at_call 15; refine (HO.out Y.drew).mono ?_; rintro e w1 ⟨rfl, hb1⟩; have HB1 := hide (HB.out.drew.below hb1); clear hb1; obtain ⟨⟨-, -, -, -, c4, c5, c6, c7, c8, c9, c10, c11, c12, c13⟩, -⟩ := boxL_cells HB1.out.b0)
      | (go_at_call 58; with_reducible refine (HTl.out w1).mono ?_; rintro e w2 ⟨rfl, hb2⟩; have HB2 := hide (HB1.out.below hb2); clear hb2; obtain ⟨⟨-, -, -, -, d4, d5, d6, d7, d8, d9, d10, d11, d12, d13⟩, -⟩ := boxL_cells HB2.out.b0)
      | (go_at_call 58; with_reducible refine (HTr.out w2).mono ?_; rintro e w3 ⟨rfl, hb3⟩; have HB3 := hide (HB2.out.below hb3); clear hb3; obtain ⟨⟨-, -, -, -, e4, e5, e6, e7, e8, e9, e10, e11, e12, e13⟩, -⟩ := boxL_cells HB3.out.b0; obtain ⟨⟨k0, k1, k2, k3, k4, k5, k6, k7, k8, k9, k10, k11, k12, k13⟩, ⟨l0, l1, l2, l3, l4, l5, l6, l7, l8, l9, l10, l11, l12, l13⟩⟩ := boxL_cells HB3.out.b1))
  go_wp2
  refine bodyPost_ret (lit4Res _ (w.heap.size + 1) _ _ _ _ _ _ _ _ _ _ _ _ _ _ _ rfl (boxL_put HB3.out.b1 _ _ _ _ _ _ _ _ _ _ _ _ _ _)) rfl ?_
  rw [show IntKind.i64.wrap (1 + m) = 1 + m from by rw [IntKind.wrap_i64]; omega]
  exact lit4_fin HB3.out ⟨3, ⟨⟨#[]⟩, .slice none 0 0, 0, []⟩, 1 + m, ⟨tlk, tln, tls, tlo⟩, ⟨trk, trn, trs, tro⟩, xoff⟩ ⟨3, zeroAtom, 1 + m, ⟨tlk, tln, tls, tlo⟩, ⟨trk, trn, trs, tro⟩, xoff⟩ rfl ⟨i64_3, ⟨by show (0 : Nat) ≤ _; omega, i64_0, Lst.nil _ _ _⟩, by unfold I64; show _ ≤ 1 + m ∧ 1 + m ≤ _; omega, HKl.out, HKr.out, HOff.out⟩ HB.out.lt _ _ _ _ _ _ _ _ _ _ _ _ _ _ rfl

theorem lit4 (x : Ltr) {w : World} (h : x.at w) :
    Calls Tryz.prog 38 #[x.val] w fun e w' => ∃ y : Lix, e = .returned y.val ∧ y.pur = ltr4 x ∧ elLix.ok w' (fun b => w.heap.size ≤ b) y ∧ Below w.heap.size w w' := by
  have hm := modP_lt x.k (k := 3) (by decide)
  unfold ltr4
  by_cases h0 : modP x.k 3 = 0
  · rw [if_pos h0]; exact lit4_test x h h0
  · rw [if_neg h0]
    by_cases h1 : modP x.k 3 = 1
    · rw [if_pos h1]; exact lit4_atom x h 1 h1 (.inl rfl)
    · rw [if_neg h1]; exact lit4_atom x h 2 (by omega) (.inr rfl)
end Go.Proofs.YtchhophblejmeaaGreatDoor

namespace Go.Proofs.YtchhophblejmeaaGreatDoor
set_option linter.unusedSimpArgs false
set_option linter.unusedVariables false
open Go.RowKit

set_option maxHeartbeats 4000000 in
set_option maxRecDepth 100000 in
theorem lit_none {w : World} {p : Nat} {ao : Option Addr} {cap : Nat} {L : List Tok} {c f : Int} (first : Tok) (h : Ahead w p ao cap L c f []) (hname : first.good) (h1 : first.k = 1) :
    Calls Tryz.prog 78 #[.pointer (some ⟨p, 0, none⟩), tokV first] w (LitPost w p ao cap L c f (litP c f first [])) := by
  have e10 : (first.k == 10) = false := by simp; omega
  have e1 : (first.k == 1) = true := by simpa using h1
  have HE : litP c f first [] = .bad c f := by unfold litP; rw [if_neg (by omega)]; simp only; rw [if_pos h1]
  rw [HE]
  have HL := hide (fun W (hb : Below w.heap.size w W) => look_none (h.kept hb))
  have H0 := hide h
  have hp := h.lt
  have HB := hide (TwoBox.start (w := w) hp (.cells #[.int .i64 first.k, .string first.t, .int .i64 first.n, .int .i64 first.op, .int .i64 (first.off : Int), .int .i64 (first.en : Int)] 116) (.cells #[.int .i64 0, .string ⟨#[]⟩, .slice none 0 0, .int .i64 0, .int .i64 0, .int .i64 0, .int .i64 0, .string ⟨#[]⟩, .int .i64 0, .int .i64 0, .int .i64 0, .string ⟨#[]⟩, .int .i64 0, .int .i64 0] 56))
  unfold tokV
  clear HE h1 h
  unfold LitPost
  go_enter Tryz.func78, Tryz.ntmps78
  go_wp2_with (go_at_call 69; refine (HL.out _ (below2a _ _ _)).mono ?_; rintro e w1 ⟨rfl, hb1⟩)
  exact ⟨rfl, rfl, only_drop (HB.out.below hb1).on⟩

set_option maxHeartbeats 4000000 in
set_option maxRecDepth 100000 in
theorem lit_pos {w : World} {p : Nat} {ao : Option Addr} {cap : Nat} {L : List Tok} {c f : Int} {t : Tok} {R : List Tok} (first : Tok) (h : Ahead w p ao cap L c f (t :: R)) (hname : first.good) (h1 : first.k = 1) (h11 : t.k ≠ 11) :
    Calls Tryz.prog 78 #[.pointer (some ⟨p, 0, none⟩), tokV first] w (LitPost w p ao cap L c f (litP c f first (t :: R))) := by
  have e10 : (first.k == 10) = false := by simp; omega
  have e1 : (first.k == 1) = true := by simpa using h1
  have e11 : (t.k != 11) = true := by simpa using h11
  have HE : litP c f first (t :: R) = (match atomP c f termKs first (t :: R) with | .bad c o => .bad c o | .ok a r' => .ok ⟨1, a, 0, zeroTrm, zeroTrm, first.off⟩ r') := by unfold litP; rw [if_neg (by omega)]; simp only; rw [if_pos h1, if_neg h11]; rfl
  rw [HE]
  have HL := hide (fun W (hb : Below w.heap.size w W) => look_good (h.kept hb))
  have hfd := tok_kind (.int .i64 t.k) (.string t.t) (.int .i64 t.n) (.int .i64 t.op) (.int .i64 (t.off : Int)) (.int .i64 (t.en : Int))
  have H0 := hide h
  have hp := h.lt
  have HB := hide (TwoBox.start (w := w) hp (.cells #[.int .i64 first.k, .string first.t, .int .i64 first.n, .int .i64 first.op, .int .i64 (first.off : Int), .int .i64 (first.en : Int)] 116) (.cells #[.int .i64 0, .string ⟨#[]⟩, .slice none 0 0, .int .i64 0, .int .i64 0, .int .i64 0, .int .i64 0, .string ⟨#[]⟩, .int .i64 0, .int .i64 0, .int .i64 0, .string ⟨#[]⟩, .int .i64 0, .int .i64 0] 56))
  obtain ⟨res, hres⟩ : ∃ res, atomP c f termKs first (t :: R) = res := ⟨_, rfl⟩
  have HAt := hide (fun (W : World) (ha : Ahead W p ao cap L c f (t :: R)) => atom_any first ha hname)
  rw [hres] at HAt ⊢
  unfold tokV at HL HAt ⊢
  clear HE h1 h11 h hres
  cases res with
  | bad ec eo =>
    simp only []
    unfold LitPost
    go_enter Tryz.func78, Tryz.ntmps78
    go_wp2_with (first | (go_at_call 69; refine (HL.out _ (below2a _ _ _)).mono ?_; rintro e w1 ⟨rfl, hb1⟩; have HA1 := hide ((H0.out.kept (below2a _ _ _)).kept hb1); have HB1 := hide (HB.out.below hb1); clear hb1; obtain ⟨x0, x1, x2, x3, x4, x5⟩ := tok_cells HB1.out.b0))
    go_region_with (first
      | (go_at_call 73; refine (HAt.out _ (by first | exact HA1.out.drew | exact HA1.out)).mono ?_; intro e w2 hq; obtain ⟨rfl, ho2⟩ := atmPost_bad hq; clear hq; refine panic_ends (P := Tryz.prog) (w := w2) ⟨rfl, rfl, by first | exact only_drop (HB1.out.drew.move ho2).on | exact only_drop (HB1.out.move ho2).on⟩ ?_))
    all_goals trivial
  | ok a r2 =>
    simp only []
    unfold LitPost
    go_enter Tryz.func78, Tryz.ntmps78
    go_wp2_with (first | (go_at_call 69; refine (HL.out _ (below2a _ _ _)).mono ?_; rintro e w1 ⟨rfl, hb1⟩; have HA1 := hide ((H0.out.kept (below2a _ _ _)).kept hb1); have HB1 := hide (HB.out.below hb1); clear hb1; obtain ⟨x0, x1, x2, x3, x4, x5⟩ := tok_cells HB1.out.b0))
    go_region_held3 (fun w' => w'.cell? ⟨w.heap.size, 0, none⟩ = some (.int .i64 first.k) ∧ w'.cell? ⟨w.heap.size, 1, none⟩ = some (.string first.t) ∧ w'.cell? ⟨w.heap.size, 2, none⟩ = some (.int .i64 first.n) ∧ w'.cell? ⟨w.heap.size, 3, none⟩ = some (.int .i64 first.op) ∧ w'.cell? ⟨w.heap.size, 4, none⟩ = some (.int .i64 (first.off : Int)) ∧ w'.cell? ⟨w.heap.size, 5, none⟩ = some (.int .i64 (first.en : Int)))
      (first | (with_reducible exact z6) | (go_keep; done))
      (first
        | (go_at_call 73; refine (HAt.out _ (by first | exact HA1.out.drew | exact HA1.out)).mono ?_; intro e w2 hq; obtain ⟨⟨ap, av, aoff, ats⟩, rfl, hpur, hok, ha2, ho2⟩ := atmPost_ok hq; clear hq; obtain ⟨va, vc, rfl, -⟩ := (show Lst elTrm _ _ av ats from hok.2.2).shape; have HA2 := hide ha2; have HB2 := hide (HB1.out.drew.move ho2); have HPu := hide hpur; have HOk := hide hok; clear ha2 ho2 hpur hok; have z6 := tok_cells HB2.out.b0; obtain ⟨⟨k0, k1, k2, k3, k4, k5, k6, k7, k8, k9, k10, k11, k12, k13⟩, ⟨l0, l1, l2, l3, l4, l5, l6, l7, l8, l9, l10, l11, l12, l13⟩⟩ := boxL_cells HB2.out.b1; unfold Atx.val))
    go_wp2
    refine bodyPost_ret (litRes _ (w.heap.size + 1) _ _ _ _ _ _ _ _ _ _ _ _ _ _ _ rfl (boxL_put HB2.out.b1 _ _ _ _ _ _ _ _ _ _ _ _ _ _)) rfl ?_
    exact lit_fin H0.out HA2.out HB2.out ⟨1, ⟨ap, _, aoff, ats⟩, 0, zeroTrm, zeroTrm, first.off⟩ _ (by unfold Lix.pur; rw [HPu.out]) ⟨i64_1, HOk.out, i64_0, zeroTrm_ok, zeroTrm_ok, (good_parts hname).2⟩ HB1.out.lt _ _ _ _ _ _ _ _ _ _ _ _ _ _
end Go.Proofs.YtchhophblejmeaaGreatDoor

namespace Go.Proofs.YtchhophblejmeaaGreatDoor
set_option linter.unusedSimpArgs false
set_option linter.unusedVariables false
open Go.RowKit

def zeroAtx : Atx := ⟨⟨#[]⟩, .slice none 0 0, 0, []⟩
theorem zeroAtx_ok (w : World) (F : Nat → Prop) : elAtx.ok w F zeroAtx := ⟨by unfold zeroAtx; decide, i64_0, Lst.nil _ _ _⟩
def testP (c f : Int) (first : Tok) (R : List Tok) : PR PLit := match takeP c f [11] R with
  | .bad c o => PR.bad c o
  | .ok o1 r' => match takeP c f termKs r' with
    | .bad c o => .bad c o
    | .ok t2 r'' => .ok ⟨3, zeroAtom, o1.op, termP first, termP t2, first.off⟩ r''

set_option maxHeartbeats 4000000 in
set_option maxRecDepth 100000 in
theorem lit_testB {w : World} {p : Nat} {ao : Option Addr} {cap : Nat} {L : List Tok} {c f : Int} {R : List Tok} (first : Tok) (h : Ahead w p ao cap L c f R) (hname : first.good) (h10 : first.k ≠ 10) (h1 : first.k ≠ 1) :
    Calls Tryz.prog 78 #[.pointer (some ⟨p, 0, none⟩), tokV first] w (LitPost w p ao cap L c f (litP c f first R)) := by
  have e10 : (first.k == 10) = false := by simpa using h10
  have e1 : (first.k == 1) = false := by simpa using h1
  have HE : litP c f first R = testP c f first R := by unfold litP testP; rw [if_neg h10]; simp only; rw [if_neg h1]; rfl
  rw [HE]
  have H0 := hide h
  have hp := h.lt
  have HB := hide (TwoBox.start (w := w) hp (.cells #[.int .i64 first.k, .string first.t, .int .i64 first.n, .int .i64 first.op, .int .i64 (first.off : Int), .int .i64 (first.en : Int)] 116) (.cells #[.int .i64 0, .string ⟨#[]⟩, .slice none 0 0, .int .i64 0, .int .i64 0, .int .i64 0, .int .i64 0, .string ⟨#[]⟩, .int .i64 0, .int .i64 0, .int .i64 0, .string ⟨#[]⟩, .int .i64 0, .int .i64 0] 56))
  have HF := hide (termOf_any first)
  unfold tokV at HF ⊢
  unfold Trm.val at HF
  have HA1 := hide (H0.out.kept (below2a w (.cells #[.int .i64 first.k, .string first.t, .int .i64 first.n, .int .i64 first.op, .int .i64 (first.off : Int), .int .i64 (first.en : Int)] 116) (.cells #[.int .i64 0, .string ⟨#[]⟩, .slice none 0 0, .int .i64 0, .int .i64 0, .int .i64 0, .int .i64 0, .string ⟨#[]⟩, .int .i64 0, .int .i64 0, .int .i64 0, .string ⟨#[]⟩, .int .i64 0, .int .i64 0] 56)))
  have HB1 := HB
  clear h h10 h1 HE
  cases hT : takeP c f [11] R with
  | bad ec eo =>
    have HT : Hid (∀ (W : World) (n : Nat), W.heap.size = n → Ahead W p ao cap L c f R → Calls Tryz.prog 51 #[.pointer (some ⟨p, 0, none⟩), .slice (some ⟨n, 0, none⟩) 1 1] (W.alloc (.cells #[.int .i64 11] 3)) fun e w' => e = PEnd ec eo ∧ Below W.heap.size W w') := fun W n hn ha => hn ▸ take_lit_fail [11] ha (by decide) hT
    rw [show testP c f first R = .bad ec eo from by unfold testP; rw [hT]]
    clear hT
    unfold LitPost
    go_enter Tryz.func78, Tryz.ntmps78
    go_wp2_with (first
      | (go_at_call 51; refine (HT.out _ _ (by simp) HA1.out).mono ?_; rintro e w2 ⟨rfl, hb2⟩))
    exact ⟨rfl, rfl, only_drop (HB1.out.below hb2).on⟩
  | ok o1 r1 =>
    have HT : Hid (∀ (W : World) (n : Nat), W.heap.size = n → Ahead W p ao cap L c f R → Calls Tryz.prog 51 #[.pointer (some ⟨p, 0, none⟩), .slice (some ⟨n, 0, none⟩) 1 1] (W.alloc (.cells #[.int .i64 11] 3)) fun e w' => e = .returned (tokV o1) ∧ Ahead w' p ao cap L c f r1 ∧ Only (fun b => b = p) W w') := fun W n hn ha => hn ▸ take_lit_good [11] ha (by decide) hT
    have hfo := tok_op (.int .i64 o1.k) (.string o1.t) (.int .i64 o1.n) (.int .i64 o1.op) (.int .i64 (o1.off : Int)) (.int .i64 (o1.en : Int))
    have HO1 := hide (H0.out.good o1 (by rw [(take_eq hT).1]; exact List.mem_cons_self))
    have HSub : Hid (∀ t ∈ r1, t.good) := fun t ht => H0.out.good t (by rw [(take_eq hT).1]; exact List.mem_cons_of_mem _ ht)
    unfold tokV at HT
    cases hT2 : takeP c f termKs r1 with
    | bad ec eo =>
      have HP := hide (fun (W : World) (ha : Ahead W p ao cap L c f r1) => term_fail ha hT2)
      rw [show testP c f first R = .bad ec eo from by unfold testP; rw [hT]; simp only; rw [hT2]]
      clear hT hT2
      unfold LitPost
      go_enter Tryz.func78, Tryz.ntmps78
      go_wp2_with (first
      | (go_at_call 51; refine (HT.out _ _ (by simp) HA1.out).mono ?_; rintro e w2 ⟨rfl, ha2, ho2⟩; have HA2 := hide ha2; have HB2 := hide (HB1.out.move ho2); clear ha2 ho2; obtain ⟨x0, x1, x2, x3, x4, x5⟩ := tok_cells HB2.out.b0))
      go_region_with (first
        | (go_at_call 82; refine (HF.out _).mono ?_; rintro e w3 ⟨rfl, hb3⟩; have HA3 := hide (HA2.out.drew.kept hb3); have HB3 := hide (HB2.out.drew.below hb3); clear hb3; have z6 := tok_cells HB3.out.b0)
        | (go_at_call 84; refine (HP.out _ (by first | exact HA3.out | exact HA3.out.drew)).mono ?_; rintro e w4 ⟨rfl, hb4⟩; refine panic_ends (P := Tryz.prog) (w := w4) ⟨rfl, rfl, by first | exact only_drop (HB3.out.below hb4).on | exact only_drop (HB3.out.drew.below hb4).on⟩ ?_))
      all_goals trivial
    | ok t2 r2 =>
      have HP := hide (fun (W : World) (ha : Ahead W p ao cap L c f r1) => term_good ha hT2)
      have HT2 := hide (HSub.out t2 (by rw [(take_eq hT2).1]; exact List.mem_cons_self))
      unfold Trm.val at HP
      rw [show testP c f first R = .ok ⟨3, zeroAtom, o1.op, termP first, termP t2, first.off⟩ r2 from by unfold testP; rw [hT]; simp only; rw [hT2]]
      clear hT hT2
      unfold LitPost
      go_enter Tryz.func78, Tryz.ntmps78
      go_wp2_with (first
      | (go_at_call 51; refine (HT.out _ _ (by simp) HA1.out).mono ?_; rintro e w2 ⟨rfl, ha2, ho2⟩; have HA2 := hide ha2; have HB2 := hide (HB1.out.move ho2); clear ha2 ho2; obtain ⟨x0, x1, x2, x3, x4, x5⟩ := tok_cells HB2.out.b0))
      go_region_held3 (fun w' => w'.cell? ⟨w.heap.size, 0, none⟩ = some (.int .i64 first.k) ∧ w'.cell? ⟨w.heap.size, 1, none⟩ = some (.string first.t) ∧ w'.cell? ⟨w.heap.size, 2, none⟩ = some (.int .i64 first.n) ∧ w'.cell? ⟨w.heap.size, 3, none⟩ = some (.int .i64 first.op) ∧ w'.cell? ⟨w.heap.size, 4, none⟩ = some (.int .i64 (first.off : Int)) ∧ w'.cell? ⟨w.heap.size, 5, none⟩ = some (.int .i64 (first.en : Int)))
        (first | (with_reducible exact z6) | (with_reducible exact z7) | (go_keep; done))
        (first
        | (go_at_call 82; refine (HF.out _).mono ?_; rintro e w3 ⟨rfl, hb3⟩; have HA3 := hide (HA2.out.drew.kept hb3); have HB3 := hide (HB2.out.drew.below hb3); clear hb3; have z6 := tok_cells HB3.out.b0)
        | (go_at_call 84; refine (HP.out _ (by first | exact HA3.out | exact HA3.out.drew)).mono ?_; rintro e w4 ⟨rfl, ha4, ho4⟩; have HA4 := hide ha4; have HB4 := hide (HB3.out.move ho4); clear ha4 ho4; have z7 := tok_cells HB4.out.b0; obtain ⟨⟨k0, k1, k2, k3, k4, k5, k6, k7, k8, k9, k10, k11, k12, k13⟩, ⟨l0, l1, l2, l3, l4, l5, l6, l7, l8, l9, l10, l11, l12, l13⟩⟩ := boxL_cells HB4.out.b1))
      go_wp2
      refine bodyPost_ret (litRes _ (w.heap.size + 1) _ _ _ _ _ _ _ _ _ _ _ _ _ _ _ rfl (boxL_put HB4.out.b1 _ _ _ _ _ _ _ _ _ _ _ _ _ _)) rfl ?_
      exact lit_fin H0.out HA4.out HB4.out ⟨3, zeroAtx, o1.op, termP first, termP t2, first.off⟩ _ rfl ⟨i64_3, zeroAtx_ok _ _, HO1.out.2.2.2.1, termP_ok hname, termP_ok HT2.out, (good_parts hname).2⟩ (Nat.le_refl (w.heap.size + 2)) _ _ _ _ _ _ _ _ _ _ _ _ _ _

set_option maxHeartbeats 4000000 in
set_option maxRecDepth 100000 in
theorem lit_testA {w : World} {p : Nat} {ao : Option Addr} {cap : Nat} {L : List Tok} {c f : Int} {t : Tok} {R : List Tok} (first : Tok) (h : Ahead w p ao cap L c f (t :: R)) (hname : first.good) (h1 : first.k = 1) (h11 : t.k = 11) :
    Calls Tryz.prog 78 #[.pointer (some ⟨p, 0, none⟩), tokV first] w (LitPost w p ao cap L c f (litP c f first (t :: R))) := by
  have e10 : (first.k == 10) = false := by simp; omega
  have e1 : (first.k == 1) = true := by simpa using h1
  have e11 : (t.k != 11) = false := by simpa using h11
  have HE : litP c f first (t :: R) = testP c f first (t :: R) := by unfold litP testP; rw [if_neg (by omega)]; simp only; rw [if_pos h1, if_pos h11]; rfl
  rw [HE]
  have HL := hide (fun W (hb : Below w.heap.size w W) => look_good (h.kept hb))
  have hfd := tok_kind (.int .i64 t.k) (.string t.t) (.int .i64 t.n) (.int .i64 t.op) (.int .i64 (t.off : Int)) (.int .i64 (t.en : Int))
  have H0 := hide h
  have hp := h.lt
  have HB := hide (TwoBox.start (w := w) hp (.cells #[.int .i64 first.k, .string first.t, .int .i64 first.n, .int .i64 first.op, .int .i64 (first.off : Int), .int .i64 (first.en : Int)] 116) (.cells #[.int .i64 0, .string ⟨#[]⟩, .slice none 0 0, .int .i64 0, .int .i64 0, .int .i64 0, .int .i64 0, .string ⟨#[]⟩, .int .i64 0, .int .i64 0, .int .i64 0, .string ⟨#[]⟩, .int .i64 0, .int .i64 0] 56))
  have HF := hide (termOf_any first)
  unfold tokV at HF ⊢
  unfold Trm.val at HF
  unfold tokV at HL
  clear h h1 h11 HE
  cases hT : takeP c f [11] (t :: R) with
  | bad ec eo =>
    have HT : Hid (∀ (W : World) (n : Nat), W.heap.size = n → Ahead W p ao cap L c f (t :: R) → Calls Tryz.prog 51 #[.pointer (some ⟨p, 0, none⟩), .slice (some ⟨n, 0, none⟩) 1 1] (W.alloc (.cells #[.int .i64 11] 3)) fun e w' => e = PEnd ec eo ∧ Below W.heap.size W w') := fun W n hn ha => hn ▸ take_lit_fail [11] ha (by decide) hT
    rw [show testP c f first (t :: R) = .bad ec eo from by unfold testP; rw [hT]]
    clear hT
    unfold LitPost
    go_enter Tryz.func78, Tryz.ntmps78
    go_wp2_with (first
      | (go_at_call 69; refine (HL.out _ (below2a _ _ _)).mono ?_; rintro e w1 ⟨rfl, hb1⟩; have HA1 := hide ((H0.out.kept (below2a _ _ _)).kept hb1); have HB1 := hide (HB.out.below hb1); clear hb1; obtain ⟨x0, x1, x2, x3, x4, x5⟩ := tok_cells HB1.out.b0)
      | (go_at_call 51; refine (HT.out _ _ (by simp) HA1.out).mono ?_; rintro e w2 ⟨rfl, hb2⟩))
    exact ⟨rfl, rfl, only_drop (HB1.out.below hb2).on⟩
  | ok o1 r1 =>
    have HT : Hid (∀ (W : World) (n : Nat), W.heap.size = n → Ahead W p ao cap L c f (t :: R) → Calls Tryz.prog 51 #[.pointer (some ⟨p, 0, none⟩), .slice (some ⟨n, 0, none⟩) 1 1] (W.alloc (.cells #[.int .i64 11] 3)) fun e w' => e = .returned (tokV o1) ∧ Ahead w' p ao cap L c f r1 ∧ Only (fun b => b = p) W w') := fun W n hn ha => hn ▸ take_lit_good [11] ha (by decide) hT
    have hfo := tok_op (.int .i64 o1.k) (.string o1.t) (.int .i64 o1.n) (.int .i64 o1.op) (.int .i64 (o1.off : Int)) (.int .i64 (o1.en : Int))
    have HO1 := hide (H0.out.good o1 (by rw [(take_eq hT).1]; exact List.mem_cons_self))
    have HSub : Hid (∀ t ∈ r1, t.good) := fun t ht => H0.out.good t (by rw [(take_eq hT).1]; exact List.mem_cons_of_mem _ ht)
    unfold tokV at HT
    cases hT2 : takeP c f termKs r1 with
    | bad ec eo =>
      have HP := hide (fun (W : World) (ha : Ahead W p ao cap L c f r1) => term_fail ha hT2)
      rw [show testP c f first (t :: R) = .bad ec eo from by unfold testP; rw [hT]; simp only; rw [hT2]]
      clear hT hT2
      unfold LitPost
      go_enter Tryz.func78, Tryz.ntmps78
      go_wp2_with (first
      | (go_at_call 69; refine (HL.out _ (below2a _ _ _)).mono ?_; rintro e w1 ⟨rfl, hb1⟩; have HA1 := hide ((H0.out.kept (below2a _ _ _)).kept hb1); have HB1 := hide (HB.out.below hb1); clear hb1; obtain ⟨x0, x1, x2, x3, x4, x5⟩ := tok_cells HB1.out.b0)
      | (go_at_call 51; refine (HT.out _ _ (by simp) HA1.out).mono ?_; rintro e w2 ⟨rfl, ha2, ho2⟩; have HA2 := hide ha2; have HB2 := hide (HB1.out.move ho2); clear ha2 ho2; obtain ⟨x0, x1, x2, x3, x4, x5⟩ := tok_cells HB2.out.b0))
      go_region_with (first
        | (go_at_call 82; refine (HF.out _).mono ?_; rintro e w3 ⟨rfl, hb3⟩; have HA3 := hide (HA2.out.drew.kept hb3); have HB3 := hide (HB2.out.drew.below hb3); clear hb3; have z6 := tok_cells HB3.out.b0)
        | (go_at_call 84; refine (HP.out _ (by first | exact HA3.out | exact HA3.out.drew)).mono ?_; rintro e w4 ⟨rfl, hb4⟩; refine panic_ends (P := Tryz.prog) (w := w4) ⟨rfl, rfl, by first | exact only_drop (HB3.out.below hb4).on | exact only_drop (HB3.out.drew.below hb4).on⟩ ?_))
      all_goals trivial
    | ok t2 r2 =>
      have HP := hide (fun (W : World) (ha : Ahead W p ao cap L c f r1) => term_good ha hT2)
      have HT2 := hide (HSub.out t2 (by rw [(take_eq hT2).1]; exact List.mem_cons_self))
      unfold Trm.val at HP
      rw [show testP c f first (t :: R) = .ok ⟨3, zeroAtom, o1.op, termP first, termP t2, first.off⟩ r2 from by unfold testP; rw [hT]; simp only; rw [hT2]]
      clear hT hT2
      unfold LitPost
      go_enter Tryz.func78, Tryz.ntmps78
      go_wp2_with (first
      | (go_at_call 69; refine (HL.out _ (below2a _ _ _)).mono ?_; rintro e w1 ⟨rfl, hb1⟩; have HA1 := hide ((H0.out.kept (below2a _ _ _)).kept hb1); have HB1 := hide (HB.out.below hb1); clear hb1; obtain ⟨x0, x1, x2, x3, x4, x5⟩ := tok_cells HB1.out.b0)
      | (go_at_call 51; refine (HT.out _ _ (by simp) HA1.out).mono ?_; rintro e w2 ⟨rfl, ha2, ho2⟩; have HA2 := hide ha2; have HB2 := hide (HB1.out.move ho2); clear ha2 ho2; obtain ⟨x0, x1, x2, x3, x4, x5⟩ := tok_cells HB2.out.b0))
      go_region_held3 (fun w' => w'.cell? ⟨w.heap.size, 0, none⟩ = some (.int .i64 first.k) ∧ w'.cell? ⟨w.heap.size, 1, none⟩ = some (.string first.t) ∧ w'.cell? ⟨w.heap.size, 2, none⟩ = some (.int .i64 first.n) ∧ w'.cell? ⟨w.heap.size, 3, none⟩ = some (.int .i64 first.op) ∧ w'.cell? ⟨w.heap.size, 4, none⟩ = some (.int .i64 (first.off : Int)) ∧ w'.cell? ⟨w.heap.size, 5, none⟩ = some (.int .i64 (first.en : Int)))
        (first | (with_reducible exact z6) | (with_reducible exact z7) | (go_keep; done))
        (first
        | (go_at_call 82; refine (HF.out _).mono ?_; rintro e w3 ⟨rfl, hb3⟩; have HA3 := hide (HA2.out.drew.kept hb3); have HB3 := hide (HB2.out.drew.below hb3); clear hb3; have z6 := tok_cells HB3.out.b0)
        | (go_at_call 84; refine (HP.out _ (by first | exact HA3.out | exact HA3.out.drew)).mono ?_; rintro e w4 ⟨rfl, ha4, ho4⟩; have HA4 := hide ha4; have HB4 := hide (HB3.out.move ho4); clear ha4 ho4; have z7 := tok_cells HB4.out.b0; obtain ⟨⟨k0, k1, k2, k3, k4, k5, k6, k7, k8, k9, k10, k11, k12, k13⟩, ⟨l0, l1, l2, l3, l4, l5, l6, l7, l8, l9, l10, l11, l12, l13⟩⟩ := boxL_cells HB4.out.b1))
      go_wp2
      refine bodyPost_ret (litRes _ (w.heap.size + 1) _ _ _ _ _ _ _ _ _ _ _ _ _ _ _ rfl (boxL_put HB4.out.b1 _ _ _ _ _ _ _ _ _ _ _ _ _ _)) rfl ?_
      exact lit_fin H0.out HA4.out HB4.out ⟨3, zeroAtx, o1.op, termP first, termP t2, first.off⟩ _ rfl ⟨i64_3, zeroAtx_ok _ _, HO1.out.2.2.2.1, termP_ok hname, termP_ok HT2.out, (good_parts hname).2⟩ (Nat.le_refl (w.heap.size + 2)) _ _ _ _ _ _ _ _ _ _ _ _ _ _

/-- A literal that a token begins. -/
theorem literal_any {w : World} {p : Nat} {ao : Option Addr} {cap : Nat} {L : List Tok} {c f : Int} {R : List Tok} (first : Tok) (h : Ahead w p ao cap L c f R) (hname : first.good) :
    Calls Tryz.prog 78 #[.pointer (some ⟨p, 0, none⟩), tokV first] w (LitPost w p ao cap L c f (litP c f first R)) := by
  by_cases h10 : first.k = 10
  · exact lit_not first h hname h10
  by_cases h1 : first.k = 1
  · match R, h with
    | [], h => exact lit_none first h hname h1
    | t :: r, h =>
      by_cases h11 : t.k = 11
      · exact lit_testA first h hname h1 h11
      · exact lit_pos first h hname h1 h11
  · exact lit_testB first h hname h10 h1
end Go.Proofs.YtchhophblejmeaaGreatDoor
