/- parse's reader takes an atom. -/
import Derived.Test.YtnpmdepbfobebaaGreatDoorProg
import Derived.Test.YtnpmdepbfobebaaGreatDoorParseAtomMem
namespace Go.Proofs.YtnpmdepbfobebaaGreatDoor
set_option linter.unusedSimpArgs false
set_option linter.unusedVariables false
open Go.RowKit

/-- What stands in an atom, whatever its memory. -/
def Atx.pur (a : Atx) : PAtom := ⟨a.p, a.ts, a.off⟩
def Atx.val (a : Atx) : Value := .agg #[.string a.p, a.v, .int .i64 a.off]
def AtmPost (w : World) (p : Nat) (ao : Option Addr) (cap : Nat) (L : List Tok) (c f : Int) (res : PR PAtom) (e : Ending) (w' : World) : Prop :=
  match res with
  | .bad ec eo => e = PEnd ec eo ∧ Only (fun k => k = p) w w'
  | .ok x r => ∃ a : Atx, e = .returned a.val ∧ a.pur = x ∧ elAtx.ok w' (fun b => w.heap.size ≤ b) a ∧ Ahead w' p ao cap L c f r ∧ Only (fun k => k = p) w w'

theorem take_lit_good {W : World} {p : Nat} {ao : Option Addr} {cap : Nat} {L : List Tok} {c f : Int} {R r : List Tok} {t : Tok} (ks : List Int) (h : Ahead W p ao cap L c f R) (hkl : ks.length ≤ 100) (hT : takeP c f ks R = .ok t r) :
    Calls Tryz.prog 51 #[.pointer (some ⟨p, 0, none⟩), .slice (some ⟨W.heap.size, 0, none⟩) ks.length ks.length] (W.alloc (.cells (ks.map (Value.int .i64)).toArray 3)) fun e w' => e = .returned (tokV t) ∧ Ahead w' p ao cap L c f r ∧ Only (fun b => b = p) W w' :=
  (take_good W.heap.size (ks := ks) (h.kept (belowA _ _)) (ks_new W ks) hkl hT).mono fun e w' ⟨he, ha, ho⟩ => ⟨he, ha, ((Only.refl _ W).alloc _).trans ho⟩
theorem take_lit_fail {W : World} {p : Nat} {ao : Option Addr} {cap : Nat} {L : List Tok} {c f ec eo : Int} {R : List Tok} (ks : List Int) (h : Ahead W p ao cap L c f R) (hkl : ks.length ≤ 100) (hT : takeP c f ks R = .bad ec eo) :
    Calls Tryz.prog 51 #[.pointer (some ⟨p, 0, none⟩), .slice (some ⟨W.heap.size, 0, none⟩) ks.length ks.length] (W.alloc (.cells (ks.map (Value.int .i64)).toArray 3)) fun e w' => e = PEnd ec eo ∧ Below W.heap.size W w' :=
  (take_fail W.heap.size (ks := ks) (h.kept (belowA _ _)) (ks_new W ks) hkl hT).mono fun e w' ⟨he, hb⟩ => ⟨he, belowt2 (belowA _ _) hb⟩

theorem below3a (w : World) (x y z : Obj) : Below w.heap.size w (((w.alloc x).alloc y).alloc z) := belowt2 (belowt2 (belowA w x) (belowA _ y)) (belowA _ z)

theorem atom_box {w w1 : World} {x : Obj} {nt : ByteArray} {off : Int} (hb : Below (((w.alloc x).alloc (.cells #[.string ⟨#[]⟩, .slice none 0 0, .int .i64 0] 42)).alloc (.cells #[.string nt, .slice none 0 0, .int .i64 off] 42)).heap.size (((w.alloc x).alloc (.cells #[.string ⟨#[]⟩, .slice none 0 0, .int .i64 0] 42)).alloc (.cells #[.string nt, .slice none 0 0, .int .i64 off] 42)) w1) :
    w1.heap[w.heap.size + 1]? = some (.cells #[.string ⟨#[]⟩, .slice none 0 0, .int .i64 0] 42 (0, 0)) := by
  have e1 : (w.alloc x).heap.size = w.heap.size + 1 := by simp
  rw [hb.block _ (by simp), (belowA ((w.alloc x).alloc _) _).block _ (by simp), ← e1]
  exact heap_alloc_new (w.alloc x) _
theorem atom_box2 {w w1 : World} {x : Obj} {nt : ByteArray} {off : Int} (hb : Below (((w.alloc x).alloc (.cells #[.string ⟨#[]⟩, .slice none 0 0, .int .i64 0] 42)).alloc (.cells #[.string nt, .slice none 0 0, .int .i64 off] 42)).heap.size (((w.alloc x).alloc (.cells #[.string ⟨#[]⟩, .slice none 0 0, .int .i64 0] 42)).alloc (.cells #[.string nt, .slice none 0 0, .int .i64 off] 42)) w1) :
    w1.heap[w.heap.size + 1 + 1]? = some (.cells #[.string nt, .slice none 0 0, .int .i64 off] 42 (0, 0)) := by
  have e2 : ((w.alloc x).alloc (.cells #[.string ⟨#[]⟩, .slice none 0 0, .int .i64 0] 42)).heap.size = w.heap.size + 1 + 1 := by simp
  rw [hb.block _ (by simp), ← e2]
  exact heap_alloc_new ((w.alloc x).alloc _) _

theorem box3_put {V : World} {b : Nat} {a0 a1 a2 : Value} (h : V.heap[b]? = some (.cells #[a0, a1, a2] 42 (0, 0))) (u0 u1 u2 : Value) :
    (((V.setCell ⟨b, 0, none⟩ u0).setCell ⟨b, 1, none⟩ u1).setCell ⟨b, 2, none⟩ u2).heap[b]? = some (.cells #[u0, u1, u2] 42 (0, 0)) := by
  simp [World.setCell, Array.getElem?_modify, h]

theorem atom_res (W : World) (b : Nat) (u0 u1 u2 : Value) (tmps : Array Value) (ht : tmps[6]? = some (.pointer (some ⟨b, 0, none⟩))) (hb : W.heap[b]? = some (.cells #[u0, u1, u2] 42 (0, 0))) :
    (results Tryz.f67 tmps).run Tryz.prog W = .ok (.agg #[u0, u1, u2]) W := by
  have c : ∀ j v, (#[u0, u1, u2] : Array Value)[j]? = some v → W.cell? ⟨b, j, none⟩ = some v := fun j v hv => by simp [World.cell?, hb, hv]
  have c0 := c 0 u0 rfl
  have c1 := c 1 u1 rfl
  have c2 := c 2 u2 rfl
  simp [results, Tryz.results67, go_sem, ht, c0, c1, c2]

theorem good_parts {t : Tok} (h : t.good) : t.t.size ≤ 140737488351232 ∧ I64 (t.off : Int) := by
  obtain ⟨h1, _, _, _, h5⟩ := h
  unfold I64
  omega

theorem Ahead.index {w : World} {p : Nat} {ao : Option Addr} {cap : Nat} {L : List Tok} {c f : Int} {R : List Tok} (h : Ahead w p ao cap L c f R) : (intOf ((w.cell? ⟨p, 4, none⟩).getD undef)).toNat + R.length = L.length ∧ L.length ≤ 65538 := by
  obtain ⟨i, h1, h2⟩ := h
  obtain ⟨_, _, _, _, c4, _⟩ := h1.cells
  have := congrArg List.length h2
  rw [List.length_drop] at this
  have hle := h1.le
  rw [c4]
  refine ⟨?_, h1.small⟩
  simp [intOf]
  omega

theorem Ahead.tk {w : World} {p : Nat} {ao : Option Addr} {cap : Nat} {L : List Tok} {c f : Int} {R : List Tok} (h : Ahead w p ao cap L c f R) : ∀ g, ao = some ⟨g, 0, none⟩ → 0 < L.length → g < w.heap.size := fun g hg hl => by
  obtain ⟨i, h1, _⟩ := h
  obtain ⟨g', e, _, hr⟩ := h1.toks hl
  rw [hg] at e
  obtain rfl : g = g' := by simpa using e
  exact lt_of_cell (hr 0 L[0] (List.getElem?_eq_getElem hl)).c0

def toAtom (name : Tok) : PR (List Trm) → PR PAtom
  | .bad c o => .bad c o
  | .ok ts r' => .ok ⟨name.t, ts, name.off⟩ r'
theorem hold_goal {p : Prop} (h : Hid p) : p := h.out
theorem atom_boxes {w w1 : World} {x : Obj} {nt : ByteArray} {off : Int} (hb : Below (((w.alloc x).alloc (.cells #[.string ⟨#[]⟩, .slice none 0 0, .int .i64 0] 42)).alloc (.cells #[.string nt, .slice none 0 0, .int .i64 off] 42)).heap.size (((w.alloc x).alloc (.cells #[.string ⟨#[]⟩, .slice none 0 0, .int .i64 0] 42)).alloc (.cells #[.string nt, .slice none 0 0, .int .i64 off] 42)) w1) :
    w1.cell? ⟨w.heap.size + 1, 0, none⟩ = some (.string ⟨#[]⟩) ∧ w1.cell? ⟨w.heap.size + 1, 1, none⟩ = some (.slice none 0 0) ∧ w1.cell? ⟨w.heap.size + 1, 2, none⟩ = some (.int .i64 0) ∧ w1.frozen? ⟨w.heap.size + 1, 0, none⟩ = false ∧ w1.frozen? ⟨w.heap.size + 1, 1, none⟩ = false ∧ w1.frozen? ⟨w.heap.size + 1, 2, none⟩ = false ∧
    w1.cell? ⟨w.heap.size + 1 + 1, 0, none⟩ = some (.string nt) ∧ w1.cell? ⟨w.heap.size + 1 + 1, 1, none⟩ = some (.slice none 0 0) ∧ w1.cell? ⟨w.heap.size + 1 + 1, 2, none⟩ = some (.int .i64 off) := by
  have e1 : (w.alloc x).heap.size = w.heap.size + 1 := by simp
  have e2 : ((w.alloc x).alloc (.cells #[.string ⟨#[]⟩, .slice none 0 0, .int .i64 0] 42)).heap.size = w.heap.size + 1 + 1 := by simp
  have hr : w1.heap[w.heap.size + 1]? = some (.cells #[.string ⟨#[]⟩, .slice none 0 0, .int .i64 0] 42 (0, 0)) := by
    rw [hb.block _ (by simp), (belowA ((w.alloc x).alloc _) _).block _ (by simp), ← e1]
    exact heap_alloc_new (w.alloc x) _
  have ha : w1.heap[w.heap.size + 1 + 1]? = some (.cells #[.string nt, .slice none 0 0, .int .i64 off] 42 (0, 0)) := by
    rw [hb.block _ (by simp), ← e2]
    exact heap_alloc_new ((w.alloc x).alloc _) _
  refine ⟨?_, ?_, ?_, ?_, ?_, ?_, ?_, ?_, ?_⟩ <;> simp [World.cell?, World.frozen?, hr, ha]

theorem only_drop {w w' : World} {p : Nat} (h : Only (fun k => k = p ∨ w.heap.size ≤ k) w w') : Only (fun k => k = p) w w' := h.mono fun k hk e => e.elim id fun e => by omega

set_option maxHeartbeats 4000000 in
set_option maxRecDepth 100000 in
theorem atomTerm {w : World} {p : Nat} {ao : Option Addr} {cap : Nat} {L : List Tok} {c f : Int} {R : List Tok} (name : Tok) (h : Ahead w p ao cap L c f R) (hname : name.good) :
    Calls Tryz.prog 67 #[.pointer (some ⟨p, 0, none⟩), tokV name, .func (.func 84) #[] #[]] w (AtmPost w p ao cap L c f (atomP c f termKs name R)) := by
  unfold tokV
  match R, h with
  | [], h =>
    have HL := hide (fun W (hb : Below w.heap.size w W) => look_none (h.kept hb))
    have HE : Hid (atomP c f termKs name [] = .bad c f) := rfl
    rw [HE.out]
    clear HE h
    unfold AtmPost
    go_enter Tryz.func67, Tryz.ntmps67
    go_wp2_with (go_at_call 69; refine (HL.out _ (below3a _ _ _ _)).mono ?_; rintro e w1 ⟨rfl, hb⟩)
    exact ⟨rfl, rfl, Only.of_below (belowt2 (below3a _ _ _ _) hb) _⟩
  | x :: r, h =>
    have HL := hide (fun W (hb : Below w.heap.size w W) => look_good (h.kept hb))
    unfold tokV at HL
    by_cases h5 : x.k = 5
    · have hT : takeP c f [5] (x :: r) = .ok x r := by simp [takeP, h5]
      have HE : Hid (atomP c f termKs name (x :: r) = toAtom name (argsP c f termKs [] r)) := by show atomP _ _ _ _ _ = _; unfold atomP; simp only; rw [if_pos h5]; cases argsP c f termKs [] r <;> rfl
      have hfd := tok_kind (.int .i64 x.k) (.string x.t) (.int .i64 x.n) (.int .i64 x.op) (.int .i64 (x.off : Int)) (.int .i64 (x.en : Int))
      have e5 : (x.k != 5) = false := by simpa using h5
      obtain ⟨res, hres⟩ : ∃ res, argsP c f termKs [] r = res := ⟨_, rfl⟩
      rw [HE.out, hres]
      obtain ⟨Post, hPost⟩ : ∃ Post : Ending → World → Prop, Post = AtmPost w p ao cap L c f (toAtom name res) := ⟨_, rfl⟩
      rw [← hPost]
      have PB : Hid (∀ ec eo w', res = .bad ec eo → Only (fun k => k = p) w w' → Post (PEnd ec eo) w') := fun ec eo w' hr ho => by
        rw [hPost, hr]; exact ⟨rfl, ho⟩
      have PG : Hid (∀ ts r' v w', res = .ok ts r' → Lst elTrm w' (fun b => w.heap.size ≤ b) v ts → Ahead w' p ao cap L c f r' → Only (fun k => k = p) w w' → Post (.returned (.agg #[.string name.t, v, .int .i64 (name.off : Int)])) w') := fun ts r' v w' hr h1 h2 h3 => by
        rw [hPost, hr]; exact ⟨⟨name.t, v, name.off, ts⟩, rfl, rfl, ⟨(good_parts hname).1, (good_parts hname).2, h1⟩, h2, h3⟩
      have HRes := hide hres
      have H0 := hide h
      have hp := h.lt
      have HT : Hid (∀ W, Below w.heap.size w W → Calls Tryz.prog 51 #[.pointer (some ⟨p, 0, none⟩), .slice (some ⟨W.heap.size, 0, none⟩) 1 1] (W.alloc (.cells #[.int .i64 5] 3)) fun e w' => e = .returned (tokV x) ∧ Ahead w' p ao cap L c f r ∧ Only (fun b => b = p) W w') := fun W hb => take_lit_good [5] (h.kept hb) (by decide) hT
      clear HE h h5 hres hT hPost
      go_enter Tryz.func67, Tryz.ntmps67
      go_wp2_with (first
        | (go_at_call 69; refine (HL.out _ (below3a _ _ _ _)).mono ?_; rintro e w1 ⟨rfl, hb⟩; have HB := hide hb; have HW := hide (belowt2 (below3a _ _ _ _) hb); clear hb)
        | (go_at_call 51; refine (HT.out _ HW.out).mono ?_; rintro e w2 ⟨rfl, ha, ho⟩; have HA := hide ha; have HO := hide ho; clear ha ho))
      have HS : Hid (AtmLoop w w2 p ao cap L c f r name.t (name.off : Int) (.slice none 0 0) []) :=
        (AtmLoop.move ⟨H0.out.kept HW.out, atom_box2 HB.out, atom_box HB.out, World.ownsRow_nil _ _ _ _, Only.of_below HW.out _, hp, by simp, H0.out.tk⟩ HO.out HA.out : AtmLoop w w2 p ao cap L c f r name.t (name.off : Int) (.slice none 0 0) [])
      clear HA HO HT HL HB HW
      go_loopw [8] (fun _ wr => ∃ (acc : List Trm) (R : List Tok) (v : Value), acc.length ≤ 8 ∧ Hid (AtmLoop w wr p ao cap L c f R name.t (name.off : Int) v acc) ∧ Hid (argsP c f termKs acc R = res)) (fun _ wr => 70000 - (intOf ((wr.cell? ⟨p, 4, none⟩).getD undef)).toNat)
      case atStart => exact ⟨[], r, _, by simp, HS, HRes⟩
      case round =>
        clear HS HRes hfd e5
        obtain ⟨acc, R, v, hacc, HS, HRes⟩ := hrel
        obtain ⟨ix, isz⟩ := HS.out.ah.index
        obtain ⟨vo, vc, rfl⟩ := own_shape HS.out.ow
        cases hT : takeP c f termKs R with
        | bad ec eo =>
          have HP := hide (term_fail HS.out.ah hT)
          have HX : Hid (res = .bad ec eo) := by show _ = _; rw [← HRes.out]; exact args_bad1 hT
          clear hT
          go_wp2_with (go_at_call 84; refine HP.out.mono ?_; rintro e w3 ⟨rfl, hb⟩)
          exact ⟨rfl, PB.out _ _ _ HX.out (only_drop (HS.out.below hb).on)⟩
        | ok t r1 =>
          have HP := hide (term_good HS.out.ah hT)
          have tp := take_eq hT
          have HTok : Hid ((termP t).ok) := termP_ok (HS.out.ah.good t (by rw [tp.1]; exact List.mem_cons_self))
          unfold Trm.val at HP
          clear tp
          by_cases h8 : acc.length = 8
          · have HX : Hid (res = .bad 22 (termP t).off) := by show _ = _; rw [← HRes.out]; exact args_lim hT h8
            have HLm := hide (limit_bad 8 22 (termP t).off)
            rw [h8] at HS
            clear hT hacc
            go_wp2_with (first
              | (go_at_call 84; refine HP.out.mono ?_; rintro e w3 ⟨rfl, ha, ho⟩; have HS3 := hide (HS.out.move ho ha); clear ha ho; obtain ⟨d0, d1, d2, d3⟩ := (HS3.out.below (belowA w3 (.cells #[.int .i64 (termP t).k, .int .i64 (termP t).n, .string (termP t).s, .int .i64 (termP t).off] 54))).cells)
              | (go_at_call 53; refine (HLm.out _).mono ?_; rintro e w4 ⟨rfl, hw⟩; have hw := hw.symm; subst hw))
            exact ⟨rfl, PB.out _ _ _ HX.out (only_drop (HS3.out.below (belowA _ _)).on)⟩
          · have HLm := hide (limit_ok (acc.length : Int) 8 22 (termP t).off (h := by omega))
            have HNx := args_next (c := c) (f := f) hT h8
            have hlen1 : r1.length + 1 = R.length := by rw [(take_eq hT).1]; rfl
            have hacc8 : acc.length < 8 := by omega
            clear hT h8
            cases hU : takeP c f [7, 6] r1 with
            | bad ec eo =>
              have HX : Hid (res = .bad ec eo) := by show _ = _; rw [← HRes.out, HNx, hU]
              have HT2 : Hid (∀ (W : World) (n : Nat), W.heap.size = n → Ahead W p ao cap L c f r1 → Calls Tryz.prog 51 #[.pointer (some ⟨p, 0, none⟩), .slice (some ⟨n, 0, none⟩) 2 2] (W.alloc (.cells #[.int .i64 7, .int .i64 6] 3)) fun e w' => e = PEnd ec eo ∧ Below W.heap.size W w') := fun W n hn ha => hn ▸ take_lit_fail [7, 6] ha (by decide) hU
              clear hU HNx hlen1
              go_wp2_with (first
                | (go_at_call 84; refine HP.out.mono ?_; rintro e w3 ⟨rfl, ha, ho⟩; have HS3 := hide (HS.out.move ho ha); clear ha ho; obtain ⟨d0, d1, d2, d3⟩ := (HS3.out.below (belowA w3 (.cells #[.int .i64 (termP t).k, .int .i64 (termP t).n, .string (termP t).s, .int .i64 (termP t).off] 54))).cells; have HS5 := hide ((HS3.out.below (belowA w3 (.cells #[.int .i64 (termP t).k, .int .i64 (termP t).n, .string (termP t).s, .int .i64 (termP t).off] 54))).below (belowA _ (.cells #[.int .i64 (termP t).k, .int .i64 (termP t).n, .string (termP t).s, .int .i64 (termP t).off] 54))))
                | (go_at_call 53; refine (HLm.out _).mono ?_; rintro e w4 ⟨⟨v4, rfl⟩, hw⟩; have hw := hw.symm; subst hw)
                | (at_builtin; obtain ⟨i0, hi0, hz0, hz1, hz2⟩ := info_parts Tryz.infoTerm; refine wpList_push (w0 := (w3.alloc (.cells #[.int .i64 (termP t).k, .int .i64 (termP t).n, .string (termP t).s, .int .i64 (termP t).off] 54)).alloc (.cells #[.int .i64 (termP t).k, .int .i64 (termP t).n, .string (termP t).s, .int .i64 (termP t).off] 54)) elTrm rfl _ _ 40 rfl (w.heap.size + 3) 54 i0 _ 40 Tryz.underlying40 hi0 hz0 hz1 hz2 rfl (by decide) _ acc acc.length rfl rfl HS5.out.grow (termP t) (w3.heap.size + 1) 1 rfl (fun j u hu => by have := new_cells (w := w3.alloc (.cells #[.int .i64 (termP t).k, .int .i64 (termP t).n, .string (termP t).s, .int .i64 (termP t).off] 54)) (cs := #[.int .i64 (termP t).k, .int .i64 (termP t).n, .string (termP t).s, .int .i64 (termP t).off]) (t := 54) j u hu; simpa using this) HTok.out (by omega) (Below.refl _ _) HS5.out.base ?_; intro g cap' w5 HG5 HB5 HGr; clear HB5 hi0 hz0 hz1 hz2; obtain ⟨f0, f1⟩ := HS5.out.far HGr.out; have HS6 := hide (HS5.out.pushG HTok.out HGr.out HG5.out); clear HG5 HGr)
                | (go_at_call 51; refine (HT2.out _ _ (by simp) HS6.out.ah).mono ?_; rintro e w6 ⟨rfl, hb6⟩))
              exact ⟨rfl, PB.out _ _ _ HX.out (only_drop (HS6.out.below hb6).on)⟩
            | ok s r2 =>
              have HT2 : Hid (∀ (W : World) (n : Nat), W.heap.size = n → Ahead W p ao cap L c f r1 → Calls Tryz.prog 51 #[.pointer (some ⟨p, 0, none⟩), .slice (some ⟨n, 0, none⟩) 2 2] (W.alloc (.cells #[.int .i64 7, .int .i64 6] 3)) fun e w' => e = .returned (tokV s) ∧ Ahead w' p ao cap L c f r2 ∧ Only (fun b => b = p) W w') := fun W n hn ha => hn ▸ take_lit_good [7, 6] ha (by decide) hU
              have hfd2 := tok_kind (.int .i64 s.k) (.string s.t) (.int .i64 s.n) (.int .i64 s.op) (.int .i64 (s.off : Int)) (.int .i64 (s.en : Int))
              have hs76 := (take_eq hU).2
              have hlen2 : r2.length + 2 = R.length := by rw [← hlen1, (take_eq hU).1]; rfl
              unfold tokV at HT2
              by_cases h6 : s.k = 6
              · have e6 : (s.k == 6) = true := by simpa using h6
                have HX : Hid (res = .ok (acc ++ [termP t]) r2) := by show _ = _; rw [← HRes.out, HNx, hU]; simp only; rw [if_neg (by omega)]
                clear hU HNx hlen1 hlen2 hs76 h6
                go_wp2_with (first
                | (go_at_call 84; refine HP.out.mono ?_; rintro e w3 ⟨rfl, ha, ho⟩; have HS3 := hide (HS.out.move ho ha); clear ha ho; obtain ⟨d0, d1, d2, d3⟩ := (HS3.out.below (belowA w3 (.cells #[.int .i64 (termP t).k, .int .i64 (termP t).n, .string (termP t).s, .int .i64 (termP t).off] 54))).cells; have HS5 := hide ((HS3.out.below (belowA w3 (.cells #[.int .i64 (termP t).k, .int .i64 (termP t).n, .string (termP t).s, .int .i64 (termP t).off] 54))).below (belowA _ (.cells #[.int .i64 (termP t).k, .int .i64 (termP t).n, .string (termP t).s, .int .i64 (termP t).off] 54))))
                | (go_at_call 53; refine (HLm.out _).mono ?_; rintro e w4 ⟨⟨v4, rfl⟩, hw⟩; have hw := hw.symm; subst hw)
                | (at_builtin; obtain ⟨i0, hi0, hz0, hz1, hz2⟩ := info_parts Tryz.infoTerm; refine wpList_push (w0 := (w3.alloc (.cells #[.int .i64 (termP t).k, .int .i64 (termP t).n, .string (termP t).s, .int .i64 (termP t).off] 54)).alloc (.cells #[.int .i64 (termP t).k, .int .i64 (termP t).n, .string (termP t).s, .int .i64 (termP t).off] 54)) elTrm rfl _ _ 40 rfl (w.heap.size + 3) 54 i0 _ 40 Tryz.underlying40 hi0 hz0 hz1 hz2 rfl (by decide) _ acc acc.length rfl rfl HS5.out.grow (termP t) (w3.heap.size + 1) 1 rfl (fun j u hu => by have := new_cells (w := w3.alloc (.cells #[.int .i64 (termP t).k, .int .i64 (termP t).n, .string (termP t).s, .int .i64 (termP t).off] 54)) (cs := #[.int .i64 (termP t).k, .int .i64 (termP t).n, .string (termP t).s, .int .i64 (termP t).off]) (t := 54) j u hu; simpa using this) HTok.out (by omega) (Below.refl _ _) HS5.out.base ?_; intro g cap' w5 HG5 HB5 HGr; clear HB5 hi0 hz0 hz1 hz2; obtain ⟨f0, f1⟩ := HS5.out.far HGr.out; have HS6 := hide (HS5.out.pushG HTok.out HGr.out HG5.out); clear HG5 HGr)
                  | (go_at_call 51; refine (HT2.out _ _ (by simp) HS6.out.ah).mono ?_; rintro e w6 ⟨rfl, ha, ho⟩; have HS7 := hide (HS6.out.move ho ha); clear ha ho; obtain ⟨y0, y1, y2, y3⟩ := HS7.out.cells; obtain ⟨q0, q1, q2, q3, q4, q5⟩ := HS7.out.box))
                obtain ⟨z1, z2, z3⟩ := HS7.out.fin (by simp; omega) (.string name.t) (.slice (some ⟨g, 0, none⟩) (acc.length + 1) cap') (.int .i64 (name.off : Int))
                exact bodyPost_ret (atom_res _ (w.heap.size + 1) _ _ _ _ rfl (box3_put HS7.out.br _ _ _)) rfl (PG.out _ _ _ _ HX.out z1 z2 z3)
              · have e6 : (s.k == 6) = false := by simpa using h6
                have HX : Hid (argsP c f termKs (acc ++ [termP t]) r2 = res) := by show _ = _; rw [← HRes.out, HNx, hU]; simp only; rw [if_pos (by simp at hs76; omega)]
                clear hU HNx hlen1 hs76 h6
                have HL2 := hide hlen2
                clear hlen2
                go_wp2_with (first
                | (go_at_call 84; refine HP.out.mono ?_; rintro e w3 ⟨rfl, ha, ho⟩; have HS3 := hide (HS.out.move ho ha); clear ha ho; obtain ⟨d0, d1, d2, d3⟩ := (HS3.out.below (belowA w3 (.cells #[.int .i64 (termP t).k, .int .i64 (termP t).n, .string (termP t).s, .int .i64 (termP t).off] 54))).cells; have HS5 := hide ((HS3.out.below (belowA w3 (.cells #[.int .i64 (termP t).k, .int .i64 (termP t).n, .string (termP t).s, .int .i64 (termP t).off] 54))).below (belowA _ (.cells #[.int .i64 (termP t).k, .int .i64 (termP t).n, .string (termP t).s, .int .i64 (termP t).off] 54))))
                | (go_at_call 53; refine (HLm.out _).mono ?_; rintro e w4 ⟨⟨v4, rfl⟩, hw⟩; have hw := hw.symm; subst hw)
                | (at_builtin; obtain ⟨i0, hi0, hz0, hz1, hz2⟩ := info_parts Tryz.infoTerm; refine wpList_push (w0 := (w3.alloc (.cells #[.int .i64 (termP t).k, .int .i64 (termP t).n, .string (termP t).s, .int .i64 (termP t).off] 54)).alloc (.cells #[.int .i64 (termP t).k, .int .i64 (termP t).n, .string (termP t).s, .int .i64 (termP t).off] 54)) elTrm rfl _ _ 40 rfl (w.heap.size + 3) 54 i0 _ 40 Tryz.underlying40 hi0 hz0 hz1 hz2 rfl (by decide) _ acc acc.length rfl rfl HS5.out.grow (termP t) (w3.heap.size + 1) 1 rfl (fun j u hu => by have := new_cells (w := w3.alloc (.cells #[.int .i64 (termP t).k, .int .i64 (termP t).n, .string (termP t).s, .int .i64 (termP t).off] 54)) (cs := #[.int .i64 (termP t).k, .int .i64 (termP t).n, .string (termP t).s, .int .i64 (termP t).off]) (t := 54) j u hu; simpa using this) HTok.out (by omega) (Below.refl _ _) HS5.out.base ?_; intro g cap' w5 HG5 HB5 HGr; clear HB5 hi0 hz0 hz1 hz2; obtain ⟨f0, f1⟩ := HS5.out.far HGr.out; have HS6 := hide (HS5.out.pushG HTok.out HGr.out HG5.out); clear HG5 HGr)
                  | (go_at_call 51; refine (HT2.out _ _ (by simp) HS6.out.ah).mono ?_; rintro e w6 ⟨rfl, ha, ho⟩; have HS7 := hide (HS6.out.move ho ha); clear ha ho))
                go_roundw
                case rel => exact ⟨acc ++ [termP t], r2, _, by simp; omega, HS7, HX⟩
                case measure =>
                  obtain ⟨jx, -⟩ := HS7.out.ah.index
                  have := HL2.out
                  omega
    · have HE : Hid (atomP c f termKs name (x :: r) = .ok ⟨name.t, [], name.off⟩ (x :: r)) := by show atomP _ _ _ _ _ = _; unfold atomP; simp only; rw [if_neg h5]
      have e5 : (x.k != 5) = true := by simpa using h5
      have hfd := tok_kind (.int .i64 x.k) (.string x.t) (.int .i64 x.n) (.int .i64 x.op) (.int .i64 (x.off : Int)) (.int .i64 (x.en : Int))
      rw [HE.out]
      have H0 := hide h
      clear HE h h5
      unfold AtmPost
      go_enter Tryz.func67, Tryz.ntmps67
      go_wp2_with (go_at_call 69; refine (HL.out _ (below3a _ _ _ _)).mono ?_; rintro e w1 ⟨rfl, hb⟩; have HB := hide hb; clear hb; obtain ⟨k0, k1, k2, z0, z1, z2, a0, a1, a2⟩ := atom_boxes HB.out)
      have HO2 : Only (fun k => k = p ∨ w.heap.size ≤ k) w w1 := Only.of_below (belowt2 (below3a _ _ _ _) HB.out) _
      have HE := only_drop (((HO2.setCell (p := ⟨w.heap.size + 1, 0, none⟩) (.inr (Nat.le_add_right _ _)) (.string name.t)).setCell (p := ⟨w.heap.size + 1, 1, none⟩) (.inr (Nat.le_add_right _ _)) (.slice none 0 0)).setCell (p := ⟨w.heap.size + 1, 2, none⟩) (.inr (Nat.le_add_right _ _)) (.int .i64 (name.off : Int)))
      have HA2 := H0.out.box (H0.out.kept (belowt2 (below3a _ _ _ _) HB.out)) ((((Only.refl (fun b => w.heap.size ≤ b) w1).setCell (p := ⟨w.heap.size + 1, 0, none⟩) (Nat.le_add_right _ _) (.string name.t)).setCell (p := ⟨w.heap.size + 1, 1, none⟩) (Nat.le_add_right _ _) (.slice none 0 0)).setCell (p := ⟨w.heap.size + 1, 2, none⟩) (Nat.le_add_right _ _) (.int .i64 (name.off : Int)))
      exact bodyPost_ret (atom_res _ (w.heap.size + 1) _ _ _ _ rfl (box3_put (atom_box HB.out) _ _ _)) rfl ⟨⟨name.t, .slice none 0 0, name.off, []⟩, rfl, rfl, ⟨(good_parts hname).1, (good_parts hname).2, Lst.nil _ _ _⟩, HA2, HE⟩

end Go.Proofs.YtnpmdepbfobebaaGreatDoor
