/- The law's own walk over tokens: eat, where the token is of that kind. The law's own walk over tokens: term, where the token spells it. The law's own walk over tokens: atom, where the tokens spell it. The law's own walk over tokens: literal, where the tokens spell it. The law's own walk over tokens: body, where the tokens spell it. The law's refused: lex's own fault, or one that stands at a token. -/
import Derived.Test.YtjofiibfgfdleaaDoorProg
import Derived.Test.YtjofiibfgfdleaaDoorPkA3
import Derived.Test.YtjofiibfgfdleaaDoorParseTerms
import Derived.Deep.RegionHeld3
import Derived.Test.YtjofiibfgfdleaaDoorParseAtom
import Derived.Test.YtjofiibfgfdleaaDoorForms
import Derived.Test.YtjofiibfgfdleaaDoorParseLiteral

namespace Go.Proofs.YtjofiibfgfdleaaDoor
set_option linter.unusedSimpArgs false
set_option linter.unusedVariables false
open Go.RowKit

/-- The walk at block p: its tokens, where it stands; all went well so far. -/
structure Wk (w : World) (p : Nat) (va : Option Addr) (vc : Nat) (L : List Tok) (i : Nat) : Prop where
  bx : w.heap[p]? = some (.cells #[.slice va L.length vc, .int .i64 (i : Int), .bool true] 47 (0, 0))
  tk : Lst elTk w (fun b => b < p) (.slice va L.length vc) L
theorem Wk.lt {w : World} {p : Nat} {va : Option Addr} {vc : Nat} {L : List Tok} {i : Nat} (h : Wk w p va vc L i) : p < w.heap.size := (Array.getElem?_eq_some_iff.1 h.bx).1
theorem Wk.kept {w w' : World} {p : Nat} {va : Option Addr} {vc : Nat} {L : List Tok} {i : Nat} (h : Wk w p va vc L i) (hb : Below w.heap.size w w') : Wk w' p va vc L i :=
  ⟨by rw [hb.block _ h.lt]; exact h.bx, h.tk.move fun b hl hF => ⟨hF, hb.block b hl⟩⟩
theorem Wk.cells {w : World} {p : Nat} {va : Option Addr} {vc : Nat} {L : List Tok} {i : Nat} (h : Wk w p va vc L i) : (w.cell? ⟨p, 0, none⟩ = some (.slice va L.length vc) ∧ w.cell? ⟨p, 1, none⟩ = some (.int .i64 (i : Int)) ∧ w.cell? ⟨p, 2, none⟩ = some (.bool true)) ∧ w.frozen? ⟨p, 1, none⟩ = false ∧ w.frozen? ⟨p, 2, none⟩ = false := by
  refine ⟨⟨?_, ?_, ?_⟩, ?_, ?_⟩ <;> simp [World.cell?, World.frozen?, h.bx]
theorem Wk.step {w : World} {p : Nat} {va : Option Addr} {vc : Nat} {L : List Tok} {i : Nat} (h : Wk w p va vc L i) (j : Nat) : Wk (w.setCell ⟨p, 1, none⟩ (.int .i64 (j : Int))) p va vc L j := by
  have ho : Only (fun k => k = p) w (w.setCell ⟨p, 1, none⟩ (.int .i64 (j : Int))) := (Only.refl (fun k => k = p) w).setCell (p := ⟨p, 1, none⟩) rfl _
  exact ⟨by simp [World.setCell, Array.getElem?_modify, h.bx], h.tk.move fun b hl hF => ⟨hF, ho.block b hl (by have h9 : b < p := hF; omega)⟩⟩
theorem eatRes (W : World) (b : Nat) (u0 u1 u2 u3 u4 u5 : Value) (tmps : Array Value) (ht : tmps[4]? = some (.pointer (some ⟨b, 0, none⟩))) (hb : W.heap[b]? = some (.cells #[u0, u1, u2, u3, u4, u5] 30 (0, 0))) :
    (results Tryd.f18 tmps).run Tryd.prog W = .ok (.agg #[u0, u1, u2, u3, u4, u5]) W := by
  have c0 : W.cell? ⟨b, 0, none⟩ = some u0 := by simp [World.cell?, hb]
  have c1 : W.cell? ⟨b, 1, none⟩ = some u1 := by simp [World.cell?, hb]
  have c2 : W.cell? ⟨b, 2, none⟩ = some u2 := by simp [World.cell?, hb]
  have c3 : W.cell? ⟨b, 3, none⟩ = some u3 := by simp [World.cell?, hb]
  have c4 : W.cell? ⟨b, 4, none⟩ = some u4 := by simp [World.cell?, hb]
  have c5 : W.cell? ⟨b, 5, none⟩ = some u5 := by simp [World.cell?, hb]
  simp [results, Tryd.results18, go_sem, ht, c0, c1, c2, c3, c4, c5]

theorem six_only (V : World) (b : Nat) (x0 x1 x2 x3 x4 x5 : Value) : Only (fun k => k = b) V ((((((V.setCell ⟨b, 0, none⟩ x0).setCell ⟨b, 1, none⟩ x1).setCell ⟨b, 2, none⟩ x2).setCell ⟨b, 3, none⟩ x3).setCell ⟨b, 4, none⟩ x4).setCell ⟨b, 5, none⟩ x5) := ((((((Only.refl (fun k => k = b) V).setCell (p := ⟨b, 0, none⟩) rfl _).setCell (p := ⟨b, 1, none⟩) rfl _).setCell (p := ⟨b, 2, none⟩) rfl _).setCell (p := ⟨b, 3, none⟩) rfl _).setCell (p := ⟨b, 4, none⟩) rfl _).setCell (p := ⟨b, 5, none⟩) rfl _
theorem six_put0 {V : World} {b : Nat} {u0 u1 u2 u3 u4 u5 : Value} (h : V.heap[b]? = some (.cells #[u0, u1, u2, u3, u4, u5] 30 (0, 0))) (x0 x1 x2 x3 x4 x5 : Value) :
    ((((((V.setCell ⟨b, 0, none⟩ x0).setCell ⟨b, 1, none⟩ x1).setCell ⟨b, 2, none⟩ x2).setCell ⟨b, 3, none⟩ x3).setCell ⟨b, 4, none⟩ x4).setCell ⟨b, 5, none⟩ x5).heap[b]? = some (.cells #[x0, x1, x2, x3, x4, x5] 30 (0, 0)) := by
  simp [World.setCell, Array.getElem?_modify, h]
theorem drew_heap (W : World) (b : Nat) : W.drew.heap[b]? = W.heap[b]? := rfl
theorem six_put {V : World} {b : Nat} {u0 u1 u2 u3 u4 u5 : Value} (h : V.heap[b]? = some (.cells #[u0, u1, u2, u3, u4, u5] 30 (0, 0))) (x0 x1 x2 x3 x4 x5 : Value) :
    ((((((V.setCell ⟨b, 0, none⟩ x0).setCell ⟨b, 1, none⟩ x1).setCell ⟨b, 2, none⟩ x2).setCell ⟨b, 3, none⟩ x3).setCell ⟨b, 4, none⟩ x4).setCell ⟨b, 5, none⟩ x5).drew.heap[b]? = some (.cells #[x0, x1, x2, x3, x4, x5] 30 (0, 0)) := (drew_heap _ b).trans (six_put0 h x0 x1 x2 x3 x4 x5)

set_option maxRecDepth 100000 in
set_option maxHeartbeats 4000000 in
theorem eat_ok {w : World} {p : Nat} {va : Option Addr} {vc : Nat} {L : List Tok} {i : Nat} (h : Wk w p va vc L i) {t : Tok} (ht : L[i]? = some t) (hL : L.length ≤ 100000) :
    Calls Tryd.prog 18 #[.pointer (some ⟨p, 0, none⟩), .int .i64 t.k] w fun e w' => e = .returned (tokV t) ∧ Wk w' p va vc L (i + 1) ∧ Only (fun k => k = p) w w' := by
  have hi := (List.getElem?_eq_some_iff.1 ht).1
  obtain ⟨b2, o2, rfl, -, hF, hr2⟩ := h.tk.row (by omega)
  unfold tokV
  have HW := hide h
  have hp := h.lt
  have g1 : decide ((L.length : Int) ≤ (i : Int)) = false := decide_eq_false (by omega)
  have g1' : decide (L.length ≤ i) = false := decide_eq_false (by omega)
  have g2 : (t.k != t.k) = false := by simp
  have i0 : (0 : Int) ≤ (i : Int) := by omega
  have i1 : (i : Int) < (L.length : Int) := by omega
  have HSc : Hid (∀ V : World, Below w.heap.size w V → V.cell? ⟨p, 0, none⟩ = some (.slice (some ⟨b2, o2, none⟩) L.length vc) ∧ V.cell? ⟨p, 1, none⟩ = some (.int .i64 (i : Int)) ∧ V.cell? ⟨p, 2, none⟩ = some (.bool true) ∧ V.cell? ⟨b2, o2 + i * 6, none⟩ = some (.int .i64 t.k)) := fun V hV => by
    obtain ⟨⟨c0, c1, c2⟩, -⟩ := (HW.out.kept hV).cells
    have y0 := kept_cell hV (hr2 i _ ht 0 _ rfl)
    simp only [elTk, Nat.add_zero] at y0
    exact ⟨c0, c1, c2, y0⟩
  have HR := hide (fun j u hu => hr2 i t ht j u hu)
  have hF9 : b2 < p := hF
  have HFp : Hid (¬ b2 = p) := by show ¬ _; omega
  clear h hr2 ht
  go_enter Tryd.func18, Tryd.ntmps18
  go_upto_region 1 with fail
  obtain ⟨X0, hX0⟩ : ∃ X0, X0 = w.alloc (.cells #[.int .i64 0, .string ⟨#[]⟩, .int .i64 0, .int .i64 0, .int .i64 0, .int .i64 0] 30) := ⟨_, rfl⟩
  have HB0 : Hid (Below w.heap.size w X0) := by rw [hX0]; exact belowA _ _
  have HBx : Hid (X0.heap[w.heap.size]? = some (.cells #[.int .i64 0, .string ⟨#[]⟩, .int .i64 0, .int .i64 0, .int .i64 0, .int .i64 0] 30 (0, 0))) := by rw [hX0]; exact heap_alloc_new w _
  obtain ⟨s0, s1, s2, s3⟩ := HSc.out X0 HB0.out
  have HWX := hide (HW.out.kept HB0.out)
  rw [← hX0]
  clear hX0
  refine wp_region_over (fun W => W = X0) (by kernel_rfl) (by kernel_rfl) rfl ?_
  rintro W rfl
  have q0 := over_cell s0
  have q1 := over_cell s1
  have q2 := over_cell s2
  have q3 := over_cell s3
  clear s0 s1 s2 s3
  repeat (go_big_quiet_step (first | fail))
  refine wpQuiet_nil ?_
  rintro _ ⟨z, rfl⟩
  clear q0 q1 q2 q3
  have HBz := hide (belowt2 HB0.out (over_below W z))
  have HBxz : Hid ((over W z).heap[w.heap.size]? = some (.cells #[.int .i64 0, .string ⟨#[]⟩, .int .i64 0, .int .i64 0, .int .i64 0, .int .i64 0] 30 (0, 0))) := by show _ = _; rw [(over_below W z).block _ (Array.getElem?_eq_some_iff.1 HBx.out).1]; exact HBx.out
  have HWz := hide (HWX.out.kept (over_below W z))
  generalize over W z = V at *
  obtain ⟨⟨s0, s1, s2⟩, f1, f2⟩ := HWz.out.cells
  go_upto_region 5 with fail
  obtain ⟨U, hU⟩ : ∃ U, U = V.setCell ⟨p, 1, none⟩ (.int .i64 ((i : Int) + 1)) := ⟨_, rfl⟩
  have HWU : Hid (Wk U p (some ⟨b2, o2, none⟩) vc L (i + 1)) := by
    rw [hU, show ((i : Int) + 1) = ((i + 1 : Nat) : Int) from by omega]
    exact HWz.out.step (i + 1)
  have hoU : Only (fun k => k = p) V U := by rw [hU]; exact (Only.refl (fun k => k = p) V).setCell (p := ⟨p, 1, none⟩) rfl _
  have hbu : U.heap[w.heap.size]? = some (.cells #[.int .i64 0, .string ⟨#[]⟩, .int .i64 0, .int .i64 0, .int .i64 0, .int .i64 0] 30 (0, 0)) := by rw [hoU.block _ (Array.getElem?_eq_some_iff.1 HBxz.out).1 (by omega)]; exact HBxz.out
  have HBu := hide hbu
  have hb2 : b2 < w.heap.size := by
    have := HR.out 0 _ rfl
    exact lt_of_cell this
  have n1 : ¬ w.heap.size = p := by omega
  have n2 : ¬ w.heap.size = b2 := by omega
  have y0 := hoU.cell (kept_cell HBz.out (HR.out 0 _ rfl)) HFp.out
  have y1 := hoU.cell (kept_cell HBz.out (HR.out 1 _ rfl)) HFp.out
  have y2 := hoU.cell (kept_cell HBz.out (HR.out 2 _ rfl)) HFp.out
  have y3 := hoU.cell (kept_cell HBz.out (HR.out 3 _ rfl)) HFp.out
  have y4 := hoU.cell (kept_cell HBz.out (HR.out 4 _ rfl)) HFp.out
  have y5 := hoU.cell (kept_cell HBz.out (HR.out 5 _ rfl)) HFp.out
  simp only [elTk, Nat.add_zero] at y0 y1 y2 y3 y4 y5
  have HOn : Hid (Only (fun k => k = p ∨ k = w.heap.size) w U) := (Only.of_below HBz.out _).trans (hoU.mono fun k _ e => .inl e)
  rw [← hU]
  clear hU s0 s1 s2 f1 f2 hoU
  obtain ⟨⟨s0, s1, -⟩, -⟩ := HWU.out.cells
  have s1' : U.cell? ⟨p, 1, none⟩ = some (.int .i64 ((i : Int) + 1)) := by rw [s1]; congr 2
  clear s1
  obtain ⟨u0, u1, u2, u3, u4, u5⟩ : U.cell? ⟨w.heap.size, 0, none⟩ = some (.int .i64 0) ∧ U.cell? ⟨w.heap.size, 1, none⟩ = some (.string ⟨#[]⟩) ∧ U.cell? ⟨w.heap.size, 2, none⟩ = some (.int .i64 0) ∧ U.cell? ⟨w.heap.size, 3, none⟩ = some (.int .i64 0) ∧ U.cell? ⟨w.heap.size, 4, none⟩ = some (.int .i64 0) ∧ U.cell? ⟨w.heap.size, 5, none⟩ = some (.int .i64 0) := by
    refine ⟨?_, ?_, ?_, ?_, ?_, ?_⟩ <;> simp [World.cell?, hbu]
  obtain ⟨z0, z1, z2, z3, z4, z5⟩ : U.frozen? ⟨w.heap.size, 0, none⟩ = false ∧ U.frozen? ⟨w.heap.size, 1, none⟩ = false ∧ U.frozen? ⟨w.heap.size, 2, none⟩ = false ∧ U.frozen? ⟨w.heap.size, 3, none⟩ = false ∧ U.frozen? ⟨w.heap.size, 4, none⟩ = false ∧ U.frozen? ⟨w.heap.size, 5, none⟩ = false := by
    refine ⟨?_, ?_, ?_, ?_, ?_, ?_⟩ <;> simp [World.frozen?, hbu]
  clear hbu
  go_region
  go_wp2
  have ho6 := six_only U w.heap.size (.int .i64 t.k) (.string t.t) (.int .i64 t.n) (.int .i64 t.op) (.int .i64 (t.off : Int)) (.int .i64 (t.en : Int))
  refine bodyPost_ret (eatRes _ w.heap.size _ _ _ _ _ _ _ rfl (six_put HBu.out (.int .i64 t.k) (.string t.t) (.int .i64 t.n) (.int .i64 t.op) (.int .i64 (t.off : Int)) (.int .i64 (t.en : Int)))) rfl ⟨rfl, ?_, ?_⟩
  · exact ⟨by show _ = _; rw [ho6.drew.block _ HWU.out.lt (by omega)]; exact HWU.out.bx, HWU.out.tk.move fun b hl hF => ⟨hF, ho6.drew.block b hl (by have h9 : b < p := hF; omega)⟩⟩
  · exact (HOn.out.trans (ho6.drew.mono fun k _ e => .inr e)).mono fun k hk e => e.elim id fun e => by omega
end Go.Proofs.YtjofiibfgfdleaaDoor

namespace Go.Proofs.YtjofiibfgfdleaaDoor
set_option linter.unusedSimpArgs false
set_option linter.unusedVariables false
open Go.RowKit

theorem Wk.okay {w : World} {p : Nat} {va : Option Addr} {vc : Nat} {L : List Tok} {i : Nat} (h : Wk w p va vc L i) : Wk (w.setCell ⟨p, 2, none⟩ (.bool true)) p va vc L i := by
  have ho : Only (fun k => k = p) w (w.setCell ⟨p, 2, none⟩ (.bool true)) := (Only.refl (fun k => k = p) w).setCell (p := ⟨p, 2, none⟩) rfl _
  exact ⟨by simp [World.setCell, Array.getElem?_modify, h.bx], h.tk.move fun b hl hF => ⟨hF, ho.block b hl (by have h9 : b < p := hF; omega)⟩⟩
theorem Wk.only2 (w : World) (p : Nat) : Only (fun k => k = p) w (w.setCell ⟨p, 2, none⟩ (.bool true)) := (Only.refl (fun k => k = p) w).setCell (p := ⟨p, 2, none⟩) rfl _

set_option maxRecDepth 100000 in
set_option maxHeartbeats 4000000 in
theorem spTerm_ok {w : World} {p : Nat} {va : Option Addr} {vc : Nat} {L : List Tok} {i : Nat} (h : Wk w p va vc L i) {u : Tok} (ht : L[i]? = some u) (hL : L.length ≤ 100000) (hu : u.k = 3 ∨ u.k = 1 ∨ u.k = 4 ∨ u.k = 2) :
    Calls Tryd.prog 32 #[.pointer (some ⟨p, 0, none⟩), (termP u).val] w fun e w' => e = .returned (.tuple #[]) ∧ Wk w' p va vc L (i + 1) ∧ Only (fun k => k = p) w w' := by
  have HW := hide h
  unfold Trm.val
  have hst : (u.t.toList == u.t.toList) = true := by simp
  rcases hu with hk | hk | hk | hk
  · have HE := hide (fun (W : World) (hw : Wk W p va vc L i) => eat_ok hw ht hL)
    rw [hk] at HE
    unfold tokV at HE
    rw [hk] at HE
    have hkt : kindT u.k = 1 := by rw [hk]; rfl
    unfold termP
    rw [hkt]
    clear hk hkt
    simp only
    go_enter Tryd.func32, Tryd.ntmps32
    go_upto_region 12 with (go_at_call 18; refine (HE.out _ (HW.out.kept (belowA _ _))).mono ?_; rintro e w1 ⟨rfl, hw1, ho1⟩; have HW1 := hide hw1; have HO1 := hide ho1; clear hw1 ho1)
    obtain ⟨Z, hZ⟩ : ∃ Z, Z = w1.alloc (.cells #[.int .i64 3, .string u.t, .int .i64 u.n, .int .i64 u.op, .int .i64 (u.off : Int), .int .i64 (u.en : Int)] 30) := ⟨_, rfl⟩
    have HWZ : Hid (Wk Z p va vc L (i + 1)) := by rw [hZ]; exact HW1.out.kept (belowA _ _)
    have hbt : w1.heap[w.heap.size]? = some (.cells #[.int .i64 1, .int .i64 u.n, .string u.t, .int .i64 (u.off : Int)] 65 (0, 0)) := by rw [HO1.out.block _ (by simp) (by have := HW.out.lt; omega)]; exact heap_alloc_new w _
    have hlt1 := (Array.getElem?_eq_some_iff.1 hbt).1
    have hbz : Z.heap[w.heap.size]? = some (.cells #[.int .i64 1, .int .i64 u.n, .string u.t, .int .i64 (u.off : Int)] 65 (0, 0)) := by rw [hZ, (belowA w1 _).block _ hlt1]; exact hbt
    have hbx : Z.heap[w1.heap.size]? = some (.cells #[.int .i64 3, .string u.t, .int .i64 u.n, .int .i64 u.op, .int .i64 (u.off : Int), .int .i64 (u.en : Int)] 30 (0, 0)) := by rw [hZ]; exact heap_alloc_new w1 _
    have a1 : Z.cell? ⟨w.heap.size, 1, none⟩ = some (.int .i64 u.n) := by simp [World.cell?, hbz]
    have a2 : Z.cell? ⟨w.heap.size, 2, none⟩ = some (.string u.t) := by simp [World.cell?, hbz]
    have a3 : Z.cell? ⟨w.heap.size, 3, none⟩ = some (.int .i64 (u.off : Int)) := by simp [World.cell?, hbz]
    have b1 : Z.cell? ⟨w1.heap.size, 1, none⟩ = some (.string u.t) := by simp [World.cell?, hbx]
    have b2 : Z.cell? ⟨w1.heap.size, 2, none⟩ = some (.int .i64 u.n) := by simp [World.cell?, hbx]
    have b4 : Z.cell? ⟨w1.heap.size, 4, none⟩ = some (.int .i64 (u.off : Int)) := by simp [World.cell?, hbx]
    obtain ⟨⟨s0, s1, s2⟩, f1, f2⟩ := HWZ.out.cells
    have HOZ : Hid (Only (fun k => k = p) w Z) := ((Only.of_below (belowA w _) _).trans HO1.out).trans (by rw [hZ]; exact Only.of_below (belowA _ _) _)
    rw [← hZ]
    clear hZ hbt hbz hbx hlt1 HW1 HO1
    go_wp2
    go_end0
    exact ⟨rfl, HWZ.out.okay, HOZ.out.trans (Wk.only2 Z p)⟩
  · have HE := hide (fun (W : World) (hw : Wk W p va vc L i) => eat_ok hw ht hL)
    rw [hk] at HE
    unfold tokV at HE
    rw [hk] at HE
    have hkt : kindT u.k = 2 := by rw [hk]; rfl
    unfold termP
    rw [hkt]
    clear hk hkt
    simp only
    go_enter Tryd.func32, Tryd.ntmps32
    go_upto_region 12 with (go_at_call 18; refine (HE.out _ (HW.out.kept (belowA _ _))).mono ?_; rintro e w1 ⟨rfl, hw1, ho1⟩; have HW1 := hide hw1; have HO1 := hide ho1; clear hw1 ho1)
    obtain ⟨Z, hZ⟩ : ∃ Z, Z = w1.alloc (.cells #[.int .i64 1, .string u.t, .int .i64 u.n, .int .i64 u.op, .int .i64 (u.off : Int), .int .i64 (u.en : Int)] 30) := ⟨_, rfl⟩
    have HWZ : Hid (Wk Z p va vc L (i + 1)) := by rw [hZ]; exact HW1.out.kept (belowA _ _)
    have hbt : w1.heap[w.heap.size]? = some (.cells #[.int .i64 2, .int .i64 u.n, .string u.t, .int .i64 (u.off : Int)] 65 (0, 0)) := by rw [HO1.out.block _ (by simp) (by have := HW.out.lt; omega)]; exact heap_alloc_new w _
    have hlt1 := (Array.getElem?_eq_some_iff.1 hbt).1
    have hbz : Z.heap[w.heap.size]? = some (.cells #[.int .i64 2, .int .i64 u.n, .string u.t, .int .i64 (u.off : Int)] 65 (0, 0)) := by rw [hZ, (belowA w1 _).block _ hlt1]; exact hbt
    have hbx : Z.heap[w1.heap.size]? = some (.cells #[.int .i64 1, .string u.t, .int .i64 u.n, .int .i64 u.op, .int .i64 (u.off : Int), .int .i64 (u.en : Int)] 30 (0, 0)) := by rw [hZ]; exact heap_alloc_new w1 _
    have a1 : Z.cell? ⟨w.heap.size, 1, none⟩ = some (.int .i64 u.n) := by simp [World.cell?, hbz]
    have a2 : Z.cell? ⟨w.heap.size, 2, none⟩ = some (.string u.t) := by simp [World.cell?, hbz]
    have a3 : Z.cell? ⟨w.heap.size, 3, none⟩ = some (.int .i64 (u.off : Int)) := by simp [World.cell?, hbz]
    have b1 : Z.cell? ⟨w1.heap.size, 1, none⟩ = some (.string u.t) := by simp [World.cell?, hbx]
    have b2 : Z.cell? ⟨w1.heap.size, 2, none⟩ = some (.int .i64 u.n) := by simp [World.cell?, hbx]
    have b4 : Z.cell? ⟨w1.heap.size, 4, none⟩ = some (.int .i64 (u.off : Int)) := by simp [World.cell?, hbx]
    obtain ⟨⟨s0, s1, s2⟩, f1, f2⟩ := HWZ.out.cells
    have HOZ : Hid (Only (fun k => k = p) w Z) := ((Only.of_below (belowA w _) _).trans HO1.out).trans (by rw [hZ]; exact Only.of_below (belowA _ _) _)
    rw [← hZ]
    clear hZ hbt hbz hbx hlt1 HW1 HO1
    go_wp2
    go_end0
    exact ⟨rfl, HWZ.out.okay, HOZ.out.trans (Wk.only2 Z p)⟩
  · have HE := hide (fun (W : World) (hw : Wk W p va vc L i) => eat_ok hw ht hL)
    rw [hk] at HE
    unfold tokV at HE
    rw [hk] at HE
    have hkt : kindT u.k = 3 := by rw [hk]; rfl
    unfold termP
    rw [hkt]
    clear hk hkt
    simp only
    go_enter Tryd.func32, Tryd.ntmps32
    go_upto_region 12 with (go_at_call 18; refine (HE.out _ (HW.out.kept (belowA _ _))).mono ?_; rintro e w1 ⟨rfl, hw1, ho1⟩; have HW1 := hide hw1; have HO1 := hide ho1; clear hw1 ho1)
    obtain ⟨Z, hZ⟩ : ∃ Z, Z = w1.alloc (.cells #[.int .i64 4, .string u.t, .int .i64 u.n, .int .i64 u.op, .int .i64 (u.off : Int), .int .i64 (u.en : Int)] 30) := ⟨_, rfl⟩
    have HWZ : Hid (Wk Z p va vc L (i + 1)) := by rw [hZ]; exact HW1.out.kept (belowA _ _)
    have hbt : w1.heap[w.heap.size]? = some (.cells #[.int .i64 3, .int .i64 u.n, .string u.t, .int .i64 (u.off : Int)] 65 (0, 0)) := by rw [HO1.out.block _ (by simp) (by have := HW.out.lt; omega)]; exact heap_alloc_new w _
    have hlt1 := (Array.getElem?_eq_some_iff.1 hbt).1
    have hbz : Z.heap[w.heap.size]? = some (.cells #[.int .i64 3, .int .i64 u.n, .string u.t, .int .i64 (u.off : Int)] 65 (0, 0)) := by rw [hZ, (belowA w1 _).block _ hlt1]; exact hbt
    have hbx : Z.heap[w1.heap.size]? = some (.cells #[.int .i64 4, .string u.t, .int .i64 u.n, .int .i64 u.op, .int .i64 (u.off : Int), .int .i64 (u.en : Int)] 30 (0, 0)) := by rw [hZ]; exact heap_alloc_new w1 _
    have a1 : Z.cell? ⟨w.heap.size, 1, none⟩ = some (.int .i64 u.n) := by simp [World.cell?, hbz]
    have a2 : Z.cell? ⟨w.heap.size, 2, none⟩ = some (.string u.t) := by simp [World.cell?, hbz]
    have a3 : Z.cell? ⟨w.heap.size, 3, none⟩ = some (.int .i64 (u.off : Int)) := by simp [World.cell?, hbz]
    have b1 : Z.cell? ⟨w1.heap.size, 1, none⟩ = some (.string u.t) := by simp [World.cell?, hbx]
    have b2 : Z.cell? ⟨w1.heap.size, 2, none⟩ = some (.int .i64 u.n) := by simp [World.cell?, hbx]
    have b4 : Z.cell? ⟨w1.heap.size, 4, none⟩ = some (.int .i64 (u.off : Int)) := by simp [World.cell?, hbx]
    obtain ⟨⟨s0, s1, s2⟩, f1, f2⟩ := HWZ.out.cells
    have HOZ : Hid (Only (fun k => k = p) w Z) := ((Only.of_below (belowA w _) _).trans HO1.out).trans (by rw [hZ]; exact Only.of_below (belowA _ _) _)
    rw [← hZ]
    clear hZ hbt hbz hbx hlt1 HW1 HO1
    go_wp2
    go_end0
    exact ⟨rfl, HWZ.out.okay, HOZ.out.trans (Wk.only2 Z p)⟩
  · have HE := hide (fun (W : World) (hw : Wk W p va vc L i) => eat_ok hw ht hL)
    rw [hk] at HE
    unfold tokV at HE
    rw [hk] at HE
    have hkt : kindT u.k = 4 := by rw [hk]; rfl
    unfold termP
    rw [hkt]
    clear hk hkt
    simp only
    go_enter Tryd.func32, Tryd.ntmps32
    go_upto_region 12 with (go_at_call 18; refine (HE.out _ (HW.out.kept (belowA _ _))).mono ?_; rintro e w1 ⟨rfl, hw1, ho1⟩; have HW1 := hide hw1; have HO1 := hide ho1; clear hw1 ho1)
    obtain ⟨Z, hZ⟩ : ∃ Z, Z = w1.alloc (.cells #[.int .i64 2, .string u.t, .int .i64 u.n, .int .i64 u.op, .int .i64 (u.off : Int), .int .i64 (u.en : Int)] 30) := ⟨_, rfl⟩
    have HWZ : Hid (Wk Z p va vc L (i + 1)) := by rw [hZ]; exact HW1.out.kept (belowA _ _)
    have hbt : w1.heap[w.heap.size]? = some (.cells #[.int .i64 4, .int .i64 u.n, .string u.t, .int .i64 (u.off : Int)] 65 (0, 0)) := by rw [HO1.out.block _ (by simp) (by have := HW.out.lt; omega)]; exact heap_alloc_new w _
    have hlt1 := (Array.getElem?_eq_some_iff.1 hbt).1
    have hbz : Z.heap[w.heap.size]? = some (.cells #[.int .i64 4, .int .i64 u.n, .string u.t, .int .i64 (u.off : Int)] 65 (0, 0)) := by rw [hZ, (belowA w1 _).block _ hlt1]; exact hbt
    have hbx : Z.heap[w1.heap.size]? = some (.cells #[.int .i64 2, .string u.t, .int .i64 u.n, .int .i64 u.op, .int .i64 (u.off : Int), .int .i64 (u.en : Int)] 30 (0, 0)) := by rw [hZ]; exact heap_alloc_new w1 _
    have a1 : Z.cell? ⟨w.heap.size, 1, none⟩ = some (.int .i64 u.n) := by simp [World.cell?, hbz]
    have a2 : Z.cell? ⟨w.heap.size, 2, none⟩ = some (.string u.t) := by simp [World.cell?, hbz]
    have a3 : Z.cell? ⟨w.heap.size, 3, none⟩ = some (.int .i64 (u.off : Int)) := by simp [World.cell?, hbz]
    have b1 : Z.cell? ⟨w1.heap.size, 1, none⟩ = some (.string u.t) := by simp [World.cell?, hbx]
    have b2 : Z.cell? ⟨w1.heap.size, 2, none⟩ = some (.int .i64 u.n) := by simp [World.cell?, hbx]
    have b4 : Z.cell? ⟨w1.heap.size, 4, none⟩ = some (.int .i64 (u.off : Int)) := by simp [World.cell?, hbx]
    obtain ⟨⟨s0, s1, s2⟩, f1, f2⟩ := HWZ.out.cells
    have HOZ : Hid (Only (fun k => k = p) w Z) := ((Only.of_below (belowA w _) _).trans HO1.out).trans (by rw [hZ]; exact Only.of_below (belowA _ _) _)
    rw [← hZ]
    clear hZ hbt hbz hbx hlt1 HW1 HO1
    go_wp2
    go_end0
    exact ⟨rfl, HWZ.out.okay, HOZ.out.trans (Wk.only2 Z p)⟩
end Go.Proofs.YtjofiibfgfdleaaDoor

namespace Go.Proofs.YtjofiibfgfdleaaDoor
set_option linter.unusedSimpArgs false
set_option linter.unusedVariables false
open Go.RowKit

theorem blk_only {w w' : World} {p b : Nat} {x : Obj} (h : w.heap[b]? = some x) (ho : Only (fun k => k = p) w w') (hp : b ≠ p) : w'.heap[b]? = some x := by
  rw [ho.block _ (Array.getElem?_eq_some_iff.1 h).1 hp]; exact h
theorem lst_only {α : Type} {E : El α} {w w' : World} {p : Nat} {v : Value} {l : List α} (h : Lst E w (fun b => b < p) v l) (ho : Only (fun k => k = p) w w') : Lst E w' (fun b => b < p) v l :=
  h.move fun b hl hF => ⟨hF, ho.block b hl (by have h9 : b < p := hF; omega)⟩
theorem only_al {w w' : World} {p : Nat} (ho : Only (fun k => k = p) w w') (x : Obj) : Only (fun k => k = p) w (w'.alloc x) := ho.trans (Only.of_below (belowA _ _) _)

set_option maxRecDepth 100000 in
set_option maxHeartbeats 4000000 in
theorem spAtom_ok {w : World} {p : Nat} {va : Option Addr} {vc : Nat} {L : List Tok} {i i' : Nat} (h : Wk w p va vc L i) (hL : L.length ≤ 100000) (a : Atx) (hs : SpA L i a.pur i') (ha : Lst elTrm w (fun b => b < p) a.v a.ts) :
    Calls Tryd.prog 17 #[.pointer (some ⟨p, 0, none⟩), a.val] w fun e w' => e = .returned (.tuple #[]) ∧ Wk w' p va vc L i' ∧ Only (fun k => k = p) w w' := by
  obtain ⟨ap, av, aoff, ats⟩ := a
  obtain ⟨⟨n, hn, hnk, hnt, hno⟩, hfew, hts, hat⟩ := hs
  simp only [Atx.pur] at hnt hno hfew hts hat
  simp only at ha
  subst hnt hno
  obtain ⟨aa, ac, rfl, -⟩ := ha.shape
  unfold Atx.val
  simp only
  obtain ⟨m, hm⟩ : ∃ m, m = ats.length := ⟨_, rfl⟩
  rw [← hm] at ha hfew ⊢
  have HM := hide hm
  have HW := hide h
  have hpl := h.lt
  have HA := hide ha
  have HT := hide hts
  have HAt := hide hat
  have HE1 := hide (fun (W : World) (hw : Wk W p va vc L i) => eat_ok hw hn hL)
  unfold tokV at HE1
  rw [hnk] at HE1
  have hst : (n.t.toList == n.t.toList) = true := by simp
  have h8 : decide ((m : Int) ≤ 8) = true := decide_eq_true (by omega)
  have h8' : decide (m ≤ 8) = true := decide_eq_true hfew
  have hLl := hide hL
  clear h ha hts hat hn hnk hm hL
  go_enter Tryd.func17, Tryd.ntmps17
  go_upto_region 2 with (go_at_call 18; refine (HE1.out _ (HW.out.kept (belowA _ _))).mono ?_; rintro e w1 ⟨rfl, hw1, ho1⟩; have HW1 := hide hw1; have HO1 := hide ho1; clear hw1 ho1)
  obtain ⟨Z, hZ⟩ : ∃ Z, Z = w1.alloc (.cells #[.int .i64 1, .string n.t, .int .i64 n.n, .int .i64 n.op, .int .i64 (n.off : Int), .int .i64 (n.en : Int)] 30) := ⟨_, rfl⟩
  have HWZ : Hid (Wk Z p va vc L (i + 1)) := by rw [hZ]; exact HW1.out.kept (belowA _ _)
  have hbt : w1.heap[w.heap.size]? = some (.cells #[.string n.t, .slice aa m ac, .int .i64 (n.off : Int)] 50 (0, 0)) := blk_only (heap_alloc_new w _) HO1.out (by omega)
  have hlt1 := (Array.getElem?_eq_some_iff.1 hbt).1
  have hbz : Z.heap[w.heap.size]? = some (.cells #[.string n.t, .slice aa m ac, .int .i64 (n.off : Int)] 50 (0, 0)) := by rw [hZ, (belowA w1 _).block _ hlt1]; exact hbt
  have hbx : Z.heap[w1.heap.size]? = some (.cells #[.int .i64 1, .string n.t, .int .i64 n.n, .int .i64 n.op, .int .i64 (n.off : Int), .int .i64 (n.en : Int)] 30 (0, 0)) := by rw [hZ]; exact heap_alloc_new w1 _
  have a0 : Z.cell? ⟨w.heap.size, 0, none⟩ = some (.string n.t) := by simp [World.cell?, hbz]
  have a1 : Z.cell? ⟨w.heap.size, 1, none⟩ = some (.slice aa m ac) := by simp [World.cell?, hbz]
  have a2 : Z.cell? ⟨w.heap.size, 2, none⟩ = some (.int .i64 (n.off : Int)) := by simp [World.cell?, hbz]
  have b1 : Z.cell? ⟨w1.heap.size, 1, none⟩ = some (.string n.t) := by simp [World.cell?, hbx]
  have b4 : Z.cell? ⟨w1.heap.size, 4, none⟩ = some (.int .i64 (n.off : Int)) := by simp [World.cell?, hbx]
  obtain ⟨⟨s0, s1, s2⟩, f1, f2⟩ := HWZ.out.cells
  have HOZ : Hid (Only (fun k => k = p) w Z) := ((Only.of_below (belowA w _) _).trans HO1.out).trans (by rw [hZ]; exact Only.of_below (belowA _ _) _)
  have HBZ := hide hbz
  rw [← hZ]
  clear hZ hbt hbz hbx hlt1 HW1 HO1 HE1 HW
  go_upto_region 3 with fail
  obtain ⟨U, hU⟩ : ∃ U, U = Z.setCell ⟨p, 2, none⟩ (.bool true) := ⟨_, rfl⟩
  have HWU : Hid (Wk U p va vc L (i + 1)) := by rw [hU]; exact HWZ.out.okay
  have hoU : Only (fun k => k = p) Z U := by rw [hU]; exact Wk.only2 Z p
  have HOU : Hid (Only (fun k => k = p) w U) := HOZ.out.trans hoU
  have HBU := hide (blk_only HBZ.out hoU (by omega))
  have HAU := hide (lst_only HA.out HOU.out)
  have c1 : U.cell? ⟨w.heap.size, 1, none⟩ = some (.slice aa m ac) := by simp [World.cell?, HBU.out]
  rw [← hU]
  clear hU hoU a0 a1 a2 b1 b4 s0 s1 s2 f1 f2 HWZ HOZ HBZ HA
  go_wp2
  clear c1
  go_loopw [38] (fun iv wl => ∃ j : Nat, j ≤ m ∧ iv = .int .i64 (j : Int) ∧ Hid (Wk wl p va vc L (i + 1 + 2 * j)) ∧ Hid (Only (fun k => k = p) U wl)) (fun iv _ => m - (intOf iv).toNat)
  case atStart => exact ⟨0, by omega, rfl, HWU.out, Only.refl _ _⟩
  case round =>
    obtain ⟨j, hj, rfl, HWl, HOl⟩ := hrel
    have HBl := hide (blk_only HBU.out HOl.out (by omega))
    have d1 : wr.cell? ⟨w.heap.size, 1, none⟩ = some (.slice aa m ac) := by simp [World.cell?, HBl.out]
    by_cases hlt : j < m
    · have hi : (j : Int) < (m : Int) := by omega
      have hi0 : (0 : Int) ≤ (j : Int) := by omega
      obtain ⟨t, ht⟩ : ∃ t, ats[j]? = some t := ⟨_, List.getElem?_eq_getElem (by rw [← HM.out]; exact hlt)⟩
      obtain ⟨sp, hsp, hsk⟩ := HT.out.sep j (by rw [← HM.out]; exact hlt)
      obtain ⟨u, hu, huk, hut⟩ := HT.out.trm j t ht
      have HE := hide (eat_ok HWl.out hsp hLl.out)
      have HTr := hide (fun (W : World) (hw : Wk W p va vc L (i + 1 + 2 * j + 1)) => spTerm_ok hw hu hLl.out huk)
      rw [hut] at HTr
      unfold Trm.val at HTr
      have hAl := lst_only HAU.out HOl.out
      obtain ⟨b3, o3, rfl, -, hF3, hr3⟩ := hAl.row (by rw [← HM.out]; omega)
      have y0 := hr3 j _ ht 0 _ rfl
      have y1 := hr3 j _ ht 1 _ rfl
      have y2 := hr3 j _ ht 2 _ rfl
      have y3 := hr3 j _ ht 3 _ rfl
      simp only [elTrm, Nat.add_zero] at y0 y1 y2 y3
      have hb3 : ¬ b3 = p := by have h9 : b3 < p := hF3; omega
      have HPw := hide hpl
      unfold tokV at HE
      rw [hsk] at HE
      clear hr3 ht hsp hsk hu huk hut hAl hF3
      by_cases hj0 : j = 0
      · rw [if_pos hj0] at HE
        have e0 : ((j : Int) == 0) = true := beq_iff_eq.2 (by omega)
        have e0' : (j == 0) = true := beq_iff_eq.2 hj0
        clear hj0
        go_wp2_with (first
          | (go_at_call 18; refine HE.out.mono ?_; rintro e w2 ⟨rfl, hw2, ho2⟩; have HW2 := hide hw2; have HO2 := hide (HOl.out.trans ho2); have d2 := ho2.cell d1 (by dsimp only; have := HPw.out; omega); have z0 := ho2.cell y0 hb3; have z1 := ho2.cell y1 hb3; have z2 := ho2.cell y2 hb3; have z3 := ho2.cell y3 hb3; clear hw2 ho2)
          | (go_at_call 32; refine (HTr.out _ HW2.out).mono ?_; rintro e w3 ⟨rfl, hw3, ho3⟩; have HW3 := hide hw3; have HO3 := hide (HO2.out.trans ho3); clear hw3 ho3))
        go_roundw
        case rel => exact ⟨j + 1, by omega, by go_num, by show Wk _ _ _ _ _ _; rw [show i + 1 + 2 * (j + 1) = i + 1 + 2 * j + 1 + 1 by omega]; exact HW3.out, HO3⟩
        case measure => simp [intOf]; omega
      · rw [if_neg hj0] at HE
        have e0 : ((j : Int) == 0) = false := beq_eq_false_iff_ne.2 (by omega)
        have e0' : (j == 0) = false := beq_eq_false_iff_ne.2 hj0
        clear hj0
        go_wp2_with (first
          | (go_at_call 18; refine HE.out.mono ?_; rintro e w2 ⟨rfl, hw2, ho2⟩; have HW2 := hide hw2; have HO2 := hide (HOl.out.trans ho2); have d2 := ho2.cell d1 (by dsimp only; have := HPw.out; omega); have z0 := ho2.cell y0 hb3; have z1 := ho2.cell y1 hb3; have z2 := ho2.cell y2 hb3; have z3 := ho2.cell y3 hb3; clear hw2 ho2)
          | (go_at_call 32; refine (HTr.out _ HW2.out).mono ?_; rintro e w3 ⟨rfl, hw3, ho3⟩; have HW3 := hide hw3; have HO3 := hide (HO2.out.trans ho3); clear hw3 ho3))
        go_roundw
        case rel => exact ⟨j + 1, by omega, by go_num, by show Wk _ _ _ _ _ _; rw [show i + 1 + 2 * (j + 1) = i + 1 + 2 * j + 1 + 1 by omega]; exact HW3.out, HO3⟩
        case measure => simp [intOf]; omega
    · obtain rfl : j = m := by omega
      have hi : ¬ (j : Int) < (j : Int) := by omega
      by_cases hm0 : 0 < j
      · have g0 : (0 : Int) < (j : Int) := by omega
        have hne : ats ≠ [] := fun e => by have := HM.out; rw [e] at this; simp at this; omega
        obtain ⟨sp, hsp, hsk⟩ := HT.out.fin hne
        rw [← HM.out] at hsp
        have HE := hide (eat_ok HWl.out hsp hLl.out)
        unfold tokV at HE
        rw [hsk] at HE
        have HEq : Hid (i' = i + 1 + 2 * j + 1) := by show _ = _; rw [HAt.out]; unfold endT; rw [if_neg hne, ← HM.out]
        clear hsp hsk hm0 hne
        go_wp2_with (go_at_call 18; refine HE.out.mono ?_; rintro e w2 ⟨rfl, hw2, ho2⟩; have HW2 := hide hw2; have HO2 := hide ho2; clear hw2 ho2)
        go_end0
        exact ⟨rfl, by rw [HEq.out]; exact HW2.out, (HOU.out.trans HOl.out).trans HO2.out⟩
      · obtain rfl : j = 0 := by omega
        have HEq : Hid (i' = i + 1) := by show _ = _; rw [HAt.out]; unfold endT; rw [if_pos (List.length_eq_zero_iff.1 HM.out.symm)]
        go_wp2
        go_end0
        exact ⟨rfl, by rw [HEq.out]; exact HWl.out, HOU.out.trans HOl.out⟩
end Go.Proofs.YtjofiibfgfdleaaDoor

namespace Go.Proofs.YtjofiibfgfdleaaDoor
set_option linter.unusedSimpArgs false
set_option linter.unusedVariables false
open Go.RowKit

set_option maxRecDepth 100000 in
set_option maxHeartbeats 4000000 in
theorem spLit_pos {w : World} {p : Nat} {va : Option Addr} {vc : Nat} {L : List Tok} {i i' : Nat} (h : Wk w p va vc L i) (hL : L.length ≤ 100000) (a : Atx) (hs : SpA L i a.pur i') (ha : Lst elTrm w (fun b => b < p) a.v a.ts) :
    Calls Tryd.prog 33 #[.pointer (some ⟨p, 0, none⟩), (⟨1, a, 0, zeroTrm, zeroTrm, a.off⟩ : Lix).val] w fun e w' => e = .returned (.tuple #[]) ∧ Wk w' p va vc L i' ∧ Only (fun k => k = p) w w' := by
  have HAt := hide (fun (W : World) (hw : Wk W p va vc L i) (hl : Lst elTrm W (fun b => b < p) a.v a.ts) => spAtom_ok hw hL a hs hl)
  obtain ⟨ap, av, aoff, ats⟩ := a
  unfold Atx.val at HAt
  unfold Lix.val zeroTrm
  simp only at HAt ha ⊢
  obtain ⟨aa, ac, rfl, -⟩ := ha.shape
  have HW := hide h
  have HA := hide ha
  have hpl := h.lt
  clear h ha hs hL
  go_enter Tryd.func33, Tryd.ntmps33
  go_upto_region 5 with fail
  obtain ⟨Z, hZ⟩ : ∃ Z, Z = w.alloc (.cells #[.int .i64 1, .string ap, .slice aa ats.length ac, .int .i64 aoff, .int .i64 0, .int .i64 0, .int .i64 0, .string ⟨#[]⟩, .int .i64 0, .int .i64 0, .int .i64 0, .string ⟨#[]⟩, .int .i64 0, .int .i64 aoff] 76) := ⟨_, rfl⟩
  have HWZ : Hid (Wk Z p va vc L i) := by rw [hZ]; exact HW.out.kept (belowA _ _)
  have hbz : Z.heap[w.heap.size]? = some (.cells #[.int .i64 1, .string ap, .slice aa ats.length ac, .int .i64 aoff, .int .i64 0, .int .i64 0, .int .i64 0, .string ⟨#[]⟩, .int .i64 0, .int .i64 0, .int .i64 0, .string ⟨#[]⟩, .int .i64 0, .int .i64 aoff] 76 (0, 0)) := by rw [hZ]; exact heap_alloc_new w _
  have a3 : Z.cell? ⟨w.heap.size, 3, none⟩ = some (.int .i64 aoff) := by simp [World.cell?, hbz]
  have a13 : Z.cell? ⟨w.heap.size, 13, none⟩ = some (.int .i64 aoff) := by simp [World.cell?, hbz]
  obtain ⟨⟨s0, s1, s2⟩, f1, f2⟩ := HWZ.out.cells
  have HOZ : Hid (Only (fun k => k = p) w Z) := by rw [hZ]; exact Only.of_below (belowA w _) _
  have HBZ := hide hbz
  rw [← hZ]
  clear hZ hbz HW
  go_upto_region 6 with fail
  obtain ⟨U, hU⟩ : ∃ U, U = Z.setCell ⟨p, 2, none⟩ (.bool true) := ⟨_, rfl⟩
  have HWU : Hid (Wk U p va vc L i) := by rw [hU]; exact HWZ.out.okay
  have hoU : Only (fun k => k = p) Z U := by rw [hU]; exact Wk.only2 Z p
  have HOU : Hid (Only (fun k => k = p) w U) := HOZ.out.trans hoU
  have HBU := hide (blk_only HBZ.out hoU (by omega))
  have HAU := hide (lst_only HA.out HOU.out)
  have c1 : U.cell? ⟨w.heap.size, 1, none⟩ = some (.string ap) := by simp [World.cell?, HBU.out]
  have c2 : U.cell? ⟨w.heap.size, 2, none⟩ = some (.slice aa ats.length ac) := by simp [World.cell?, HBU.out]
  have c3 : U.cell? ⟨w.heap.size, 3, none⟩ = some (.int .i64 aoff) := by simp [World.cell?, HBU.out]
  rw [← hU]
  clear hU hoU a3 a13 s0 s1 s2 f1 f2 HWZ HOZ HBZ HA
  go_wp2_with (go_at_call 17; refine (HAt.out _ HWU.out HAU.out).mono ?_; rintro e w3 ⟨rfl, hw3, ho3⟩; have HW3 := hide hw3; have HO3 := hide ho3; clear hw3 ho3)
  go_end0
  exact ⟨rfl, HW3.out, HOU.out.trans HO3.out⟩
set_option maxRecDepth 100000 in
set_option maxHeartbeats 4000000 in
theorem spLit_neg {w : World} {p : Nat} {va : Option Addr} {vc : Nat} {L : List Tok} {i i' : Nat} (h : Wk w p va vc L i) (hL : L.length ≤ 100000) {n : Tok} (hn : L[i]? = some n) (hk : n.k = 10) (a : Atx) (hs : SpA L (i + 1) a.pur i') (ha : Lst elTrm w (fun b => b < p) a.v a.ts) :
    Calls Tryd.prog 33 #[.pointer (some ⟨p, 0, none⟩), (⟨2, a, 0, zeroTrm, zeroTrm, n.off⟩ : Lix).val] w fun e w' => e = .returned (.tuple #[]) ∧ Wk w' p va vc L i' ∧ Only (fun k => k = p) w w' := by
  have HAt := hide (fun (W : World) (hw : Wk W p va vc L (i + 1)) (hl : Lst elTrm W (fun b => b < p) a.v a.ts) => spAtom_ok hw hL a hs hl)
  have HE1 := hide (fun (W : World) (hw : Wk W p va vc L i) => eat_ok hw hn hL)
  unfold tokV at HE1
  rw [hk] at HE1
  obtain ⟨ap, av, aoff, ats⟩ := a
  unfold Atx.val at HAt
  unfold Lix.val zeroTrm
  simp only at HAt ha ⊢
  obtain ⟨aa, ac, rfl, -⟩ := ha.shape
  have HW := hide h
  have HA := hide ha
  have hpl := h.lt
  clear h ha hs hL hn hk
  go_enter Tryd.func33, Tryd.ntmps33
  go_upto_region 9 with (go_at_call 18; refine (HE1.out _ (HW.out.kept (belowA _ _))).mono ?_; rintro e w1 ⟨rfl, hw1, ho1⟩; have HW1 := hide hw1; have HO1 := hide ho1; clear hw1 ho1)
  obtain ⟨Z, hZ⟩ : ∃ Z, Z = w1.alloc (.cells #[.int .i64 10, .string n.t, .int .i64 n.n, .int .i64 n.op, .int .i64 (n.off : Int), .int .i64 (n.en : Int)] 30) := ⟨_, rfl⟩
  have HWZ : Hid (Wk Z p va vc L (i + 1)) := by rw [hZ]; exact HW1.out.kept (belowA _ _)
  have hbt : w1.heap[w.heap.size]? = some (.cells #[.int .i64 2, .string ap, .slice aa ats.length ac, .int .i64 aoff, .int .i64 0, .int .i64 0, .int .i64 0, .string ⟨#[]⟩, .int .i64 0, .int .i64 0, .int .i64 0, .string ⟨#[]⟩, .int .i64 0, .int .i64 (n.off : Int)] 76 (0, 0)) := blk_only (heap_alloc_new w _) HO1.out (by omega)
  have hlt1 := (Array.getElem?_eq_some_iff.1 hbt).1
  have hbz : Z.heap[w.heap.size]? = some (.cells #[.int .i64 2, .string ap, .slice aa ats.length ac, .int .i64 aoff, .int .i64 0, .int .i64 0, .int .i64 0, .string ⟨#[]⟩, .int .i64 0, .int .i64 0, .int .i64 0, .string ⟨#[]⟩, .int .i64 0, .int .i64 (n.off : Int)] 76 (0, 0)) := by rw [hZ, (belowA w1 _).block _ hlt1]; exact hbt
  have hbx : Z.heap[w1.heap.size]? = some (.cells #[.int .i64 10, .string n.t, .int .i64 n.n, .int .i64 n.op, .int .i64 (n.off : Int), .int .i64 (n.en : Int)] 30 (0, 0)) := by rw [hZ]; exact heap_alloc_new w1 _
  have a13 : Z.cell? ⟨w.heap.size, 13, none⟩ = some (.int .i64 (n.off : Int)) := by simp [World.cell?, hbz]
  have b4 : Z.cell? ⟨w1.heap.size, 4, none⟩ = some (.int .i64 (n.off : Int)) := by simp [World.cell?, hbx]
  obtain ⟨⟨s0, s1, s2⟩, f1, f2⟩ := HWZ.out.cells
  have HOZ : Hid (Only (fun k => k = p) w Z) := ((Only.of_below (belowA w _) _).trans HO1.out).trans (by rw [hZ]; exact Only.of_below (belowA _ _) _)
  have HBZ := hide hbz
  rw [← hZ]
  clear hZ hbt hbz hbx hlt1 HW1 HO1 HE1 HW
  go_upto_region 10 with fail
  obtain ⟨U, hU⟩ : ∃ U, U = Z.setCell ⟨p, 2, none⟩ (.bool true) := ⟨_, rfl⟩
  have HWU : Hid (Wk U p va vc L (i + 1)) := by rw [hU]; exact HWZ.out.okay
  have hoU : Only (fun k => k = p) Z U := by rw [hU]; exact Wk.only2 Z p
  have HOU : Hid (Only (fun k => k = p) w U) := HOZ.out.trans hoU
  have HBU := hide (blk_only HBZ.out hoU (by omega))
  have HAU := hide (lst_only HA.out HOU.out)
  have c1 : U.cell? ⟨w.heap.size, 1, none⟩ = some (.string ap) := by simp [World.cell?, HBU.out]
  have c2 : U.cell? ⟨w.heap.size, 2, none⟩ = some (.slice aa ats.length ac) := by simp [World.cell?, HBU.out]
  have c3 : U.cell? ⟨w.heap.size, 3, none⟩ = some (.int .i64 aoff) := by simp [World.cell?, HBU.out]
  rw [← hU]
  clear hU hoU a13 b4 s0 s1 s2 f1 f2 HWZ HOZ HBZ HA
  go_wp2_with (go_at_call 17; refine (HAt.out _ HWU.out HAU.out).mono ?_; rintro e w3 ⟨rfl, hw3, ho3⟩; have HW3 := hide hw3; have HO3 := hide ho3; clear hw3 ho3)
  go_end0
  exact ⟨rfl, HW3.out, HOU.out.trans HO3.out⟩
set_option maxRecDepth 100000 in
set_option maxHeartbeats 4000000 in
theorem noAtom_ok {w : World} (aa : Option Addr) (ac : Nat) : Calls Tryd.prog 47 #[.agg #[.string ⟨#[]⟩, .slice aa 0 ac, .int .i64 0]] w fun e w' => e = .returned (.bool true) ∧ Below w.heap.size w w' := by
  go_enter Tryd.func47, Tryd.ntmps47
  go_wp2
  go_ret
  exact ⟨rfl, belowA _ _⟩
set_option maxRecDepth 100000 in
set_option maxHeartbeats 4000000 in
theorem spLit_tst {w : World} {p : Nat} {va : Option Addr} {vc : Nat} {L : List Tok} {i : Nat} (h : Wk w p va vc L i) (hL : L.length ≤ 100000) {u o v : Tok} (hu : L[i]? = some u) (ku : TermK u.k) (ho : L[i + 1]? = some o) (ko : o.k = 11) (hv : L[i + 2]? = some v) (kv : TermK v.k) (aa : Option Addr) (ac : Nat) :
    Calls Tryd.prog 33 #[.pointer (some ⟨p, 0, none⟩), (⟨3, ⟨⟨#[]⟩, .slice aa 0 ac, 0, []⟩, o.op, termP u, termP v, u.off⟩ : Lix).val] w fun e w' => e = .returned (.tuple #[]) ∧ Wk w' p va vc L (i + 3) ∧ Only (fun k => k = p) w w' := by
  have HTu := hide (fun (W : World) (hw : Wk W p va vc L i) => spTerm_ok hw hu hL ku)
  have HE1 := hide (fun (W : World) (hw : Wk W p va vc L (i + 1)) => eat_ok hw ho hL)
  have HTv := hide (fun (W : World) (hw : Wk W p va vc L (i + 2)) => spTerm_ok hw hv hL kv)
  unfold tokV at HE1
  rw [ko] at HE1
  have huo : (termP u).off = (u.off : Int) := rfl
  have hku : ¬ (termP u).k = 0 := by unfold termP kindT; simp only; split <;> (try split) <;> (try split) <;> omega
  unfold Lix.val
  simp only
  generalize termP u = tu at *
  generalize termP v = tv at *
  unfold Trm.val at HTu HTv
  rw [huo] at HTu ⊢
  have HW := hide h
  have hpl := h.lt
  have kt : ¬ tu.k = 0 := hku
  have kt' : (tu.k == 0) = false := beq_eq_false_iff_ne.2 hku
  clear h hL hu ku ho ko hv kv huo hku
  by_cases hop : o.op = 0
  · rw [hop] at HE1 ⊢
    clear hop
    go_enter Tryd.func33, Tryd.ntmps33
    go_upto_region 12 with fail
    obtain ⟨Z, hZ⟩ : ∃ Z, Z = w.alloc (.cells #[.int .i64 3, .string ⟨#[]⟩, .slice aa 0 ac, .int .i64 0, .int .i64 0, .int .i64 tu.k, .int .i64 tu.n, .string tu.s, .int .i64 (u.off : Int), .int .i64 tv.k, .int .i64 tv.n, .string tv.s, .int .i64 tv.off, .int .i64 (u.off : Int)] 76) := ⟨_, rfl⟩
    have HWZ : Hid (Wk Z p va vc L i) := by rw [hZ]; exact HW.out.kept (belowA _ _)
    have hbz : Z.heap[w.heap.size]? = some (.cells #[.int .i64 3, .string ⟨#[]⟩, .slice aa 0 ac, .int .i64 0, .int .i64 0, .int .i64 tu.k, .int .i64 tu.n, .string tu.s, .int .i64 (u.off : Int), .int .i64 tv.k, .int .i64 tv.n, .string tv.s, .int .i64 tv.off, .int .i64 (u.off : Int)] 76 (0, 0)) := by rw [hZ]; exact heap_alloc_new w _
    have a1 : Z.cell? ⟨w.heap.size, 1, none⟩ = some (.string ⟨#[]⟩) := by simp [World.cell?, hbz]
    have a2 : Z.cell? ⟨w.heap.size, 2, none⟩ = some (.slice aa 0 ac) := by simp [World.cell?, hbz]
    have a3 : Z.cell? ⟨w.heap.size, 3, none⟩ = some (.int .i64 0) := by simp [World.cell?, hbz]
    have a8 : Z.cell? ⟨w.heap.size, 8, none⟩ = some (.int .i64 (u.off : Int)) := by simp [World.cell?, hbz]
    have a13 : Z.cell? ⟨w.heap.size, 13, none⟩ = some (.int .i64 (u.off : Int)) := by simp [World.cell?, hbz]
    obtain ⟨⟨s0, s1, s2⟩, f1, f2⟩ := HWZ.out.cells
    have HOZ : Hid (Only (fun k => k = p) w Z) := by rw [hZ]; exact Only.of_below (belowA w _) _
    have HBZ := hide hbz
    rw [← hZ]
    clear hZ hbz HW
    go_upto_region 13 with (go_at_call 47; refine (noAtom_ok aa ac).mono ?_; rintro e w1 ⟨rfl, hb1⟩; have b8 := kept_cell hb1 a8; have b13 := kept_cell hb1 a13; have HW1 := hide (HWZ.out.kept hb1); obtain ⟨⟨q0, q1, q2⟩, g1, g2⟩ := HW1.out.cells; have HO1 := hide (HOZ.out.trans (Only.of_below hb1 _)); have HB1 := hide ((hb1.block _ (Array.getElem?_eq_some_iff.1 HBZ.out).1).trans HBZ.out); clear hb1 a1 a2 a3 a8 a13 s0 s1 s2 f1 f2 HWZ HOZ HBZ)
    obtain ⟨U, hU⟩ : ∃ U, U = w1.setCell ⟨p, 2, none⟩ (.bool true) := ⟨_, rfl⟩
    have HWU : Hid (Wk U p va vc L i) := by rw [hU]; exact HW1.out.okay
    have hoU : Only (fun k => k = p) w1 U := by rw [hU]; exact Wk.only2 w1 p
    have HOU : Hid (Only (fun k => k = p) w U) := HO1.out.trans hoU
    have HBU := hide (blk_only HB1.out hoU (by omega))
    have c5 : U.cell? ⟨w.heap.size, 5, none⟩ = some (.int .i64 tu.k) := by simp [World.cell?, HBU.out]
    have c6 : U.cell? ⟨w.heap.size, 6, none⟩ = some (.int .i64 tu.n) := by simp [World.cell?, HBU.out]
    have c7 : U.cell? ⟨w.heap.size, 7, none⟩ = some (.string tu.s) := by simp [World.cell?, HBU.out]
    have c8 : U.cell? ⟨w.heap.size, 8, none⟩ = some (.int .i64 (u.off : Int)) := by simp [World.cell?, HBU.out]
    rw [← hU]
    clear hU hoU b8 b13 q0 q1 q2 g1 g2 HW1 HO1 HB1
    go_upto_region 15 with (first
      | (go_at_call 32; refine (HTu.out _ HWU.out).mono ?_; rintro e w2 ⟨rfl, hw2, ho2⟩; have HW2 := hide hw2; have HO2 := hide (HOU.out.trans ho2); have HB2 := hide (blk_only HBU.out ho2 (by omega)); clear hw2 ho2)
      | (go_at_call 18; refine (HE1.out _ HW2.out).mono ?_; rintro e w3 ⟨rfl, hw3, ho3⟩; have HW3 := hide hw3; have HO3 := hide (HO2.out.trans ho3); have HB3 := hide (blk_only HB2.out ho3 (by omega)); clear hw3 ho3))
    obtain ⟨Y, hY⟩ : ∃ Y, Y = w3.alloc (.cells #[.int .i64 11, .string o.t, .int .i64 o.n, .int .i64 0, .int .i64 (o.off : Int), .int .i64 (o.en : Int)] 30) := ⟨_, rfl⟩
    have HWY : Hid (Wk Y p va vc L (i + 2)) := by rw [hY]; exact HW3.out.kept (belowA _ _)
    have hby : Y.heap[w.heap.size]? = some (.cells #[.int .i64 3, .string ⟨#[]⟩, .slice aa 0 ac, .int .i64 0, .int .i64 0, .int .i64 tu.k, .int .i64 tu.n, .string tu.s, .int .i64 (u.off : Int), .int .i64 tv.k, .int .i64 tv.n, .string tv.s, .int .i64 tv.off, .int .i64 (u.off : Int)] 76 (0, 0)) := by rw [hY, (belowA w3 _).block _ (Array.getElem?_eq_some_iff.1 HB3.out).1]; exact HB3.out
    have hbx : Y.heap[w3.heap.size]? = some (.cells #[.int .i64 11, .string o.t, .int .i64 o.n, .int .i64 0, .int .i64 (o.off : Int), .int .i64 (o.en : Int)] 30 (0, 0)) := by rw [hY]; exact heap_alloc_new w3 _
    have d4 : Y.cell? ⟨w.heap.size, 4, none⟩ = some (.int .i64 0) := by simp [World.cell?, hby]
    have d3 : Y.cell? ⟨w3.heap.size, 3, none⟩ = some (.int .i64 0) := by simp [World.cell?, hbx]
    obtain ⟨⟨s0, s1, s2⟩, f1, f2⟩ := HWY.out.cells
    have HOY : Hid (Only (fun k => k = p) w Y) := by rw [hY]; exact HO3.out.trans (Only.of_below (belowA _ _) _)
    have HBY := hide hby
    rw [← hY]
    clear hY hby hbx c5 c6 c7 c8 HWU HOU HBU HW2 HO2 HB2 HW3 HO3 HB3
    go_upto_region 16 with fail
    obtain ⟨U, hU⟩ : ∃ U, U = Y.setCell ⟨p, 2, none⟩ (.bool true) := ⟨_, rfl⟩
    have HWU : Hid (Wk U p va vc L (i + 2)) := by rw [hU]; exact HWY.out.okay
    have hoU : Only (fun k => k = p) Y U := by rw [hU]; exact Wk.only2 Y p
    have HOU : Hid (Only (fun k => k = p) w U) := HOY.out.trans hoU
    have HBU := hide (blk_only HBY.out hoU (by omega))
    have c9 : U.cell? ⟨w.heap.size, 9, none⟩ = some (.int .i64 tv.k) := by simp [World.cell?, HBU.out]
    have c10 : U.cell? ⟨w.heap.size, 10, none⟩ = some (.int .i64 tv.n) := by simp [World.cell?, HBU.out]
    have c11 : U.cell? ⟨w.heap.size, 11, none⟩ = some (.string tv.s) := by simp [World.cell?, HBU.out]
    have c12 : U.cell? ⟨w.heap.size, 12, none⟩ = some (.int .i64 tv.off) := by simp [World.cell?, HBU.out]
    rw [← hU]
    clear hU hoU d3 d4 s0 s1 s2 f1 f2 HWY HOY HBY
    go_wp2_with (go_at_call 32; refine (HTv.out _ HWU.out).mono ?_; rintro e w5 ⟨rfl, hw5, ho5⟩; have HW5 := hide hw5; have HO5 := hide (HOU.out.trans ho5); clear hw5 ho5)
    go_end0
    exact ⟨rfl, HW5.out, HO5.out⟩
  · go_enter Tryd.func33, Tryd.ntmps33
    go_upto_region 12 with fail
    obtain ⟨Z, hZ⟩ : ∃ Z, Z = w.alloc (.cells #[.int .i64 3, .string ⟨#[]⟩, .slice aa 0 ac, .int .i64 0, .int .i64 o.op, .int .i64 tu.k, .int .i64 tu.n, .string tu.s, .int .i64 (u.off : Int), .int .i64 tv.k, .int .i64 tv.n, .string tv.s, .int .i64 tv.off, .int .i64 (u.off : Int)] 76) := ⟨_, rfl⟩
    have HWZ : Hid (Wk Z p va vc L i) := by rw [hZ]; exact HW.out.kept (belowA _ _)
    have hbz : Z.heap[w.heap.size]? = some (.cells #[.int .i64 3, .string ⟨#[]⟩, .slice aa 0 ac, .int .i64 0, .int .i64 o.op, .int .i64 tu.k, .int .i64 tu.n, .string tu.s, .int .i64 (u.off : Int), .int .i64 tv.k, .int .i64 tv.n, .string tv.s, .int .i64 tv.off, .int .i64 (u.off : Int)] 76 (0, 0)) := by rw [hZ]; exact heap_alloc_new w _
    have a1 : Z.cell? ⟨w.heap.size, 1, none⟩ = some (.string ⟨#[]⟩) := by simp [World.cell?, hbz]
    have a2 : Z.cell? ⟨w.heap.size, 2, none⟩ = some (.slice aa 0 ac) := by simp [World.cell?, hbz]
    have a3 : Z.cell? ⟨w.heap.size, 3, none⟩ = some (.int .i64 0) := by simp [World.cell?, hbz]
    have a8 : Z.cell? ⟨w.heap.size, 8, none⟩ = some (.int .i64 (u.off : Int)) := by simp [World.cell?, hbz]
    have a13 : Z.cell? ⟨w.heap.size, 13, none⟩ = some (.int .i64 (u.off : Int)) := by simp [World.cell?, hbz]
    obtain ⟨⟨s0, s1, s2⟩, f1, f2⟩ := HWZ.out.cells
    have HOZ : Hid (Only (fun k => k = p) w Z) := by rw [hZ]; exact Only.of_below (belowA w _) _
    have HBZ := hide hbz
    rw [← hZ]
    clear hZ hbz HW
    go_upto_region 13 with (go_at_call 47; refine (noAtom_ok aa ac).mono ?_; rintro e w1 ⟨rfl, hb1⟩; have b8 := kept_cell hb1 a8; have b13 := kept_cell hb1 a13; have HW1 := hide (HWZ.out.kept hb1); obtain ⟨⟨q0, q1, q2⟩, g1, g2⟩ := HW1.out.cells; have HO1 := hide (HOZ.out.trans (Only.of_below hb1 _)); have HB1 := hide ((hb1.block _ (Array.getElem?_eq_some_iff.1 HBZ.out).1).trans HBZ.out); clear hb1 a1 a2 a3 a8 a13 s0 s1 s2 f1 f2 HWZ HOZ HBZ)
    obtain ⟨U, hU⟩ : ∃ U, U = w1.setCell ⟨p, 2, none⟩ (.bool true) := ⟨_, rfl⟩
    have HWU : Hid (Wk U p va vc L i) := by rw [hU]; exact HW1.out.okay
    have hoU : Only (fun k => k = p) w1 U := by rw [hU]; exact Wk.only2 w1 p
    have HOU : Hid (Only (fun k => k = p) w U) := HO1.out.trans hoU
    have HBU := hide (blk_only HB1.out hoU (by omega))
    have c5 : U.cell? ⟨w.heap.size, 5, none⟩ = some (.int .i64 tu.k) := by simp [World.cell?, HBU.out]
    have c6 : U.cell? ⟨w.heap.size, 6, none⟩ = some (.int .i64 tu.n) := by simp [World.cell?, HBU.out]
    have c7 : U.cell? ⟨w.heap.size, 7, none⟩ = some (.string tu.s) := by simp [World.cell?, HBU.out]
    have c8 : U.cell? ⟨w.heap.size, 8, none⟩ = some (.int .i64 (u.off : Int)) := by simp [World.cell?, HBU.out]
    rw [← hU]
    clear hU hoU b8 b13 q0 q1 q2 g1 g2 HW1 HO1 HB1
    go_upto_region 15 with (first
      | (go_at_call 32; refine (HTu.out _ HWU.out).mono ?_; rintro e w2 ⟨rfl, hw2, ho2⟩; have HW2 := hide hw2; have HO2 := hide (HOU.out.trans ho2); have HB2 := hide (blk_only HBU.out ho2 (by omega)); clear hw2 ho2)
      | (go_at_call 18; refine (HE1.out _ HW2.out).mono ?_; rintro e w3 ⟨rfl, hw3, ho3⟩; have HW3 := hide hw3; have HO3 := hide (HO2.out.trans ho3); have HB3 := hide (blk_only HB2.out ho3 (by omega)); clear hw3 ho3))
    obtain ⟨Y, hY⟩ : ∃ Y, Y = w3.alloc (.cells #[.int .i64 11, .string o.t, .int .i64 o.n, .int .i64 o.op, .int .i64 (o.off : Int), .int .i64 (o.en : Int)] 30) := ⟨_, rfl⟩
    have HWY : Hid (Wk Y p va vc L (i + 2)) := by rw [hY]; exact HW3.out.kept (belowA _ _)
    have hby : Y.heap[w.heap.size]? = some (.cells #[.int .i64 3, .string ⟨#[]⟩, .slice aa 0 ac, .int .i64 0, .int .i64 o.op, .int .i64 tu.k, .int .i64 tu.n, .string tu.s, .int .i64 (u.off : Int), .int .i64 tv.k, .int .i64 tv.n, .string tv.s, .int .i64 tv.off, .int .i64 (u.off : Int)] 76 (0, 0)) := by rw [hY, (belowA w3 _).block _ (Array.getElem?_eq_some_iff.1 HB3.out).1]; exact HB3.out
    have hbx : Y.heap[w3.heap.size]? = some (.cells #[.int .i64 11, .string o.t, .int .i64 o.n, .int .i64 o.op, .int .i64 (o.off : Int), .int .i64 (o.en : Int)] 30 (0, 0)) := by rw [hY]; exact heap_alloc_new w3 _
    have d4 : Y.cell? ⟨w.heap.size, 4, none⟩ = some (.int .i64 o.op) := by simp [World.cell?, hby]
    have d3 : Y.cell? ⟨w3.heap.size, 3, none⟩ = some (.int .i64 o.op) := by simp [World.cell?, hbx]
    obtain ⟨⟨s0, s1, s2⟩, f1, f2⟩ := HWY.out.cells
    have HOY : Hid (Only (fun k => k = p) w Y) := by rw [hY]; exact HO3.out.trans (Only.of_below (belowA _ _) _)
    have HBY := hide hby
    rw [← hY]
    clear hY hby hbx c5 c6 c7 c8 HWU HOU HBU HW2 HO2 HB2 HW3 HO3 HB3
    go_upto_region 16 with fail
    obtain ⟨U, hU⟩ : ∃ U, U = Y.setCell ⟨p, 2, none⟩ (.bool true) := ⟨_, rfl⟩
    have HWU : Hid (Wk U p va vc L (i + 2)) := by rw [hU]; exact HWY.out.okay
    have hoU : Only (fun k => k = p) Y U := by rw [hU]; exact Wk.only2 Y p
    have HOU : Hid (Only (fun k => k = p) w U) := HOY.out.trans hoU
    have HBU := hide (blk_only HBY.out hoU (by omega))
    have c9 : U.cell? ⟨w.heap.size, 9, none⟩ = some (.int .i64 tv.k) := by simp [World.cell?, HBU.out]
    have c10 : U.cell? ⟨w.heap.size, 10, none⟩ = some (.int .i64 tv.n) := by simp [World.cell?, HBU.out]
    have c11 : U.cell? ⟨w.heap.size, 11, none⟩ = some (.string tv.s) := by simp [World.cell?, HBU.out]
    have c12 : U.cell? ⟨w.heap.size, 12, none⟩ = some (.int .i64 tv.off) := by simp [World.cell?, HBU.out]
    rw [← hU]
    clear hU hoU d3 d4 s0 s1 s2 f1 f2 HWY HOY HBY
    go_wp2_with (go_at_call 32; refine (HTv.out _ HWU.out).mono ?_; rintro e w5 ⟨rfl, hw5, ho5⟩; have HW5 := hide hw5; have HO5 := hide (HOU.out.trans ho5); clear hw5 ho5)
    go_end0
    exact ⟨rfl, HW5.out, HO5.out⟩
theorem spLit_ok {w : World} {p : Nat} {va : Option Addr} {vc : Nat} {L : List Tok} {i i' : Nat} (h : Wk w p va vc L i) (hL : L.length ≤ 100000) (x : Lix) (hs : SpL L i x.pur i') (ha : Lst elTrm w (fun b => b < p) x.a.v x.a.ts) :
    Calls Tryd.prog 33 #[.pointer (some ⟨p, 0, none⟩), x.val] w fun e w' => e = .returned (.tuple #[]) ∧ Wk w' p va vc L i' ∧ Only (fun k => k = p) w w' := by
  obtain ⟨k, a, op, l, r, off⟩ := x
  generalize hy : (⟨k, a, op, l, r, off⟩ : Lix).pur = y at hs
  simp only at ha
  cases hs with
  | pos hA =>
    unfold Lix.pur at hy
    injection hy with e1 e2 e3 e4 e5 e6
    subst e1 e3 e4 e5 e6
    rw [← e2] at hA ⊢
    exact spLit_pos h hL a hA ha
  | neg hn hk hA =>
    unfold Lix.pur at hy
    injection hy with e1 e2 e3 e4 e5 e6
    subst e1 e3 e4 e5 e6
    rw [← e2] at hA
    exact spLit_neg h hL hn hk a hA ha
  | tst hu ku ho ko hv kv =>
    unfold Lix.pur at hy
    injection hy with e1 e2 e3 e4 e5 e6
    obtain ⟨ap, av, aoff, ats⟩ := a
    simp only at ha
    obtain ⟨aa, ac, rfl, -⟩ := ha.shape
    unfold Atx.pur zeroAtom at e2
    injection e2 with g1 g2 g3
    simp only at g1 g2 g3
    subst e1 e3 e4 e5 e6 g1 g2 g3
    exact spLit_tst h hL hu ku ho ko hv kv aa ac
end Go.Proofs.YtjofiibfgfdleaaDoor

namespace Go.Proofs.YtjofiibfgfdleaaDoor
set_option linter.unusedSimpArgs false
set_option linter.unusedVariables false
open Go.RowKit

set_option maxRecDepth 100000 in
set_option maxHeartbeats 4000000 in
theorem spBody_ok {w : World} {p : Nat} {va : Option Addr} {vc : Nat} {L : List Tok} {i i' : Nat} (h : Wk w p va vc L i) (hL : L.length ≤ 100000) (v : Value) (ls : List Lix) (hs : SpB L i (ls.map Lix.pur) i') (ha : Lst elLix w (fun b => b < p) v ls) :
    Calls Tryd.prog 19 #[.pointer (some ⟨p, 0, none⟩), v] w fun e w' => e = .returned (.tuple #[]) ∧ Wk w' p va vc L i' ∧ Only (fun k => k = p) w w' := by
  obtain ⟨hfew, pl, h0, hl, hsep, ⟨fs, hfs, hfk⟩, rfl⟩ := hs
  rw [List.length_map] at hfew hsep hfs
  rw [List.length_map]
  obtain ⟨aa, ac, rfl, -⟩ := ha.shape
  obtain ⟨m, hm⟩ : ∃ m, m = ls.length := ⟨_, rfl⟩
  rw [← hm] at ha hfew hsep hfs ⊢
  have HM := hide hm
  have HA := hide ha
  have HSep := hide hsep
  have HLt : Hid (∀ j x, ls[j]? = some x → SpL L (if j = 0 then pl j else pl j + 1) x.pur (pl (j + 1))) := fun j x hj => hl j _ (by rw [List.getElem?_map, hj]; rfl)
  have HE8 := hide (fun (W : World) (hw : Wk W p va vc L (pl m)) => eat_ok hw hfs hL)
  unfold tokV at HE8
  rw [hfk] at HE8
  have hLl := hide hL
  rw [← h0] at h
  have HW := hide h
  have hpl := h.lt
  obtain ⟨⟨s0, s1, s2⟩, f1, f2⟩ := h.cells
  have k0 : decide ((0 : Int) < (m : Int)) = true := decide_eq_true (by omega)
  have k0' : decide (0 < m) = true := decide_eq_true hfew.1
  have k16 : decide ((m : Int) ≤ 16) = true := decide_eq_true (by omega)
  have k16' : decide (m ≤ 16) = true := decide_eq_true hfew.2
  have HF := hide hfew
  clear h ha hl hsep hfs hfk hm hL hfew h0
  go_enter Tryd.func19, Tryd.ntmps19
  go_upto_region 1 with fail
  obtain ⟨U, hU⟩ : ∃ U, U = w.setCell ⟨p, 2, none⟩ (.bool true) := ⟨_, rfl⟩
  have HWU : Hid (Wk U p va vc L (pl 0)) := by rw [hU]; exact HW.out.okay
  have HOU : Hid (Only (fun k => k = p) w U) := by rw [hU]; exact Wk.only2 w p
  have HAU := hide (lst_only HA.out HOU.out)
  rw [← hU]
  clear hU s0 s1 s2 f1 f2 HW HA k0 k0' k16 k16'
  go_wp2
  go_loopw [24] (fun iv wl => ∃ j : Nat, j ≤ m ∧ iv = .int .i64 (j : Int) ∧ Hid (Wk wl p va vc L (pl j)) ∧ Hid (Only (fun k => k = p) U wl)) (fun iv _ => m - (intOf iv).toNat)
  case atStart => exact ⟨0, by omega, rfl, HWU.out, Only.refl _ _⟩
  case round =>
    obtain ⟨j, hj, rfl, HWl, HOl⟩ := hrel
    have h16 := HF.out.2
    by_cases hlt : j < m
    · have hi : (j : Int) < (m : Int) := by omega
      have hi0 : (0 : Int) ≤ (j : Int) := by omega
      obtain ⟨x, hx⟩ : ∃ x, ls[j]? = some x := ⟨_, List.getElem?_eq_getElem (by rw [← HM.out]; exact hlt)⟩
      have hAl := lst_only HAU.out HOl.out
      have hok := (elAtx_ok (elLix_ok (hAl.ok (List.mem_of_getElem? hx))).2.1).2.2
      have hsp := HLt.out j x hx
      have HLit := hide (fun (W : World) (hw : Wk W p va vc L (if j = 0 then pl j else pl j + 1)) (hl : Lst elTrm W (fun b => b < p) x.a.v x.a.ts) => spLit_ok hw hLl.out x hsp hl)
      obtain ⟨xk, ⟨xp, xv, xo, xts⟩, xop, xl, xr, xf⟩ := x
      simp only at hok HLit
      obtain ⟨xa, xc, rfl, -⟩ := hok.shape
      unfold Lix.val at HLit
      simp only at HLit
      have HOk := hide hok
      clear hok hsp
      obtain ⟨b3, o3, rfl, -, hF3, hr3⟩ := hAl.row (by rw [← HM.out]; omega)
      have y0 := hr3 j _ hx 0 _ rfl
      have y1 := hr3 j _ hx 1 _ rfl
      have y2 := hr3 j _ hx 2 _ rfl
      have y3 := hr3 j _ hx 3 _ rfl
      have y4 := hr3 j _ hx 4 _ rfl
      have y5 := hr3 j _ hx 5 _ rfl
      have y6 := hr3 j _ hx 6 _ rfl
      have y7 := hr3 j _ hx 7 _ rfl
      have y8 := hr3 j _ hx 8 _ rfl
      have y9 := hr3 j _ hx 9 _ rfl
      have y10 := hr3 j _ hx 10 _ rfl
      have y11 := hr3 j _ hx 11 _ rfl
      have y12 := hr3 j _ hx 12 _ rfl
      have y13 := hr3 j _ hx 13 _ rfl
      simp only [elLix, Nat.add_zero] at y0 y1 y2 y3 y4 y5 y6 y7 y8 y9 y10 y11 y12 y13
      have hb3 : ¬ b3 = p := by have h9 : b3 < p := hF3; omega
      clear hr3 hx hAl hF3
      by_cases hj0 : j = 0
      · have g0 : ¬ (0 : Int) < (j : Int) := by omega
        rw [if_pos hj0] at HLit
        clear hj0
        go_wp2_with (go_at_call 33; refine (HLit.out _ HWl.out HOk.out).mono ?_; rintro e w3 ⟨rfl, hw3, ho3⟩; have HW3 := hide hw3; have HO3 := hide (HOl.out.trans ho3); clear hw3 ho3)
        go_roundw
        case rel => exact ⟨j + 1, by omega, by go_num, HW3, HO3⟩
        case measure => simp [intOf]; omega
      · have g0 : (0 : Int) < (j : Int) := by omega
        rw [if_neg hj0] at HLit
        obtain ⟨sp, hsp, hsk⟩ := HSep.out j (by omega) hlt
        have HE := hide (eat_ok HWl.out hsp hLl.out)
        unfold tokV at HE
        rw [hsk] at HE
        clear hj0 hsp hsk
        go_wp2_with (first
          | (go_at_call 18; refine HE.out.mono ?_; rintro e w2 ⟨rfl, hw2, ho2⟩; have HW2 := hide hw2; have HO2 := hide (HOl.out.trans ho2); have HOk2 := hide (lst_only HOk.out ho2); have z0 := ho2.cell y0 hb3; have z1 := ho2.cell y1 hb3; have z2 := ho2.cell y2 hb3; have z3 := ho2.cell y3 hb3; have z4 := ho2.cell y4 hb3; have z5 := ho2.cell y5 hb3; have z6 := ho2.cell y6 hb3; have z7 := ho2.cell y7 hb3; have z8 := ho2.cell y8 hb3; have z9 := ho2.cell y9 hb3; have z10 := ho2.cell y10 hb3; have z11 := ho2.cell y11 hb3; have z12 := ho2.cell y12 hb3; have z13 := ho2.cell y13 hb3; clear hw2 ho2)
          | (go_at_call 33; refine (HLit.out _ HW2.out HOk2.out).mono ?_; rintro e w3 ⟨rfl, hw3, ho3⟩; have HW3 := hide hw3; have HO3 := hide (HO2.out.trans ho3); clear hw3 ho3))
        go_roundw
        case rel => exact ⟨j + 1, by omega, by go_num, HW3, HO3⟩
        case measure => simp [intOf]; omega
    · obtain rfl : j = m := by omega
      have hi : ¬ (j : Int) < (j : Int) := by omega
      go_wp2_with (go_at_call 18; refine (HE8.out _ HWl.out).mono ?_; rintro e w2 ⟨rfl, hw2, ho2⟩; have HW2 := hide hw2; have HO2 := hide ho2; clear hw2 ho2)
      go_end0
      exact ⟨rfl, HW2.out, (HOU.out.trans HOl.out).trans HO2.out⟩
end Go.Proofs.YtjofiibfgfdleaaDoor

namespace Go.Proofs.YtjofiibfgfdleaaDoor
set_option linter.unusedSimpArgs false
set_option linter.unusedVariables false
open Go.RowKit

theorem second_new (w : World) (x y : Obj) : ((w.alloc x).alloc y).heap[w.heap.size + 1]? = some y := by
  have := heap_alloc_new (w.alloc x) y
  simpa using this

set_option maxRecDepth 100000 in
set_option maxHeartbeats 4000000 in
theorem refused_own (w : World) (v : Value) (c o : Int) (hc : c ≠ 0) :
    Calls Tryd.prog 16 #[v, .agg #[.int .i64 c, .int .i64 0, .int .i64 o], .agg #[.int .i64 c, .int .i64 0, .int .i64 o]] w fun e w' => e = .returned (.bool true) ∧ Below w.heap.size w w' := by
  have h0 : ¬ c = 0 := hc
  have h1 : (c != 0) = true := bne_iff_ne.2 hc
  go_enter Tryd.func16, Tryd.ntmps16
  go_wp2
  go_ret
  exact ⟨rfl, below2a _ _ _⟩

set_option maxRecDepth 100000 in
set_option maxHeartbeats 4000000 in
theorem refused_at (w : World) {F : Nat → Prop} {v : Value} {L : List Tok} (hv : Lst elTk w F v L) (hL : L.length ≤ 100000) (oc oo c o : Int) (hne : c ≠ oc) (hc : 20 ≤ c ∧ c ≤ 24) {q : Nat} {t : Tok} (hq : L[q]? = some t) (ho : (t.off : Int) = o) (hk : c = 21 ↔ t.k = 0) :
    Calls Tryd.prog 16 #[v, .agg #[.int .i64 oc, .int .i64 0, .int .i64 oo], .agg #[.int .i64 c, .int .i64 0, .int .i64 o]] w fun e w' => e = .returned (.bool true) ∧ Below w.heap.size w w' := by
  obtain ⟨va, vc, rfl, -⟩ := hv.shape
  have HV := hide hv
  have HL := hide hL
  have HQ := hide hq
  have HT := hide (And.intro ho hk)
  have hql := (List.getElem?_eq_some_iff.1 hq).1
  have c1 : ¬ c < 20 := by omega
  have c2 : ¬ 24 < c := by omega
  have c1' : decide (c < 20) = false := decide_eq_false c1
  have c2' : decide (24 < c) = false := decide_eq_false c2
  have hne' : ¬ c = oc := hne
  have hcb : (c == oc) = false := beq_eq_false_iff_ne.2 hne
  clear hv hL hq ho hk hne hc
  by_cases hoc : oc = 0
  · subst hoc
    go_enter Tryd.func16, Tryd.ntmps16
    go_wp2
    obtain ⟨X, hX⟩ : ∃ X, X = (w.alloc (.cells #[.int .i64 0, .int .i64 0, .int .i64 oo] 25)).alloc (.cells #[.int .i64 c, .int .i64 0, .int .i64 o] 25) := ⟨_, rfl⟩
    have HBX : Hid (Below w.heap.size w X) := by rw [hX]; exact below2a _ _ _
    have HBf : Hid (X.heap[w.heap.size + 1]? = some (.cells #[.int .i64 c, .int .i64 0, .int .i64 o] 25 (0, 0))) := by rw [hX]; exact second_new w _ _
    rw [← hX]
    clear hX
    go_loopw [32] (fun iv wl => ∃ j : Nat, j ≤ q ∧ iv = .int .i64 (j : Int) ∧ Hid (Below X.heap.size X wl)) (fun iv _ => q + 1 - (intOf iv).toNat)
    case atStart => exact ⟨0, by omega, rfl, Below.refl _ _⟩
    case round =>
      obtain ⟨j, hj, rfl, HBl⟩ := hrel
      have hll := HL.out
      have hi : (j : Int) < (L.length : Int) := by omega
      have hi0 : (0 : Int) ≤ (j : Int) := by omega
      obtain ⟨x, hx⟩ : ∃ x, L[j]? = some x := ⟨_, List.getElem?_eq_getElem (by omega)⟩
      have hAl := HV.out.all.kept (belowt2 HBX.out HBl.out)
      obtain ⟨b3, o3, rfl, -, hF3, hr3⟩ := hAl.row (by omega)
      have y0 := hr3 j _ hx 0 _ rfl
      have y1 := hr3 j _ hx 1 _ rfl
      have y2 := hr3 j _ hx 2 _ rfl
      have y3 := hr3 j _ hx 3 _ rfl
      have y4 := hr3 j _ hx 4 _ rfl
      have y5 := hr3 j _ hx 5 _ rfl
      simp only [elTk, Nat.add_zero] at y0 y1 y2 y3 y4 y5
      obtain ⟨Y, hY⟩ : ∃ Y, Y = wr.alloc (.cells #[.int .i64 x.k, .string x.t, .int .i64 x.n, .int .i64 x.op, .int .i64 (x.off : Int), .int .i64 (x.en : Int)] 30) := ⟨_, rfl⟩
      have HBY : Hid (Below X.heap.size X Y) := by rw [hY]; exact belowt2 HBl.out (belowA _ _)
      have hbf : Y.heap[w.heap.size + 1]? = some (.cells #[.int .i64 c, .int .i64 0, .int .i64 o] 25 (0, 0)) := by show _ = _; rw [HBY.out.block _ (Array.getElem?_eq_some_iff.1 HBf.out).1]; exact HBf.out
      have hbx : Y.heap[wr.heap.size]? = some (.cells #[.int .i64 x.k, .string x.t, .int .i64 x.n, .int .i64 x.op, .int .i64 (x.off : Int), .int .i64 (x.en : Int)] 30 (0, 0)) := by rw [hY]; exact heap_alloc_new wr _
      have d0 : Y.cell? ⟨w.heap.size + 1, 0, none⟩ = some (.int .i64 c) := by simp [World.cell?, hbf]
      have d2 : Y.cell? ⟨w.heap.size + 1, 2, none⟩ = some (.int .i64 o) := by simp [World.cell?, hbf]
      have e0 : Y.cell? ⟨wr.heap.size, 0, none⟩ = some (.int .i64 x.k) := by simp [World.cell?, hbx]
      have e4 : Y.cell? ⟨wr.heap.size, 4, none⟩ = some (.int .i64 (x.off : Int)) := by simp [World.cell?, hbx]
      clear hr3 hAl hF3 hbf hbx
      go_upto_region 8 with fail
      rw [← hY]
      clear hY y0 y1 y2 y3 y4 y5
      by_cases hxo : (x.off : Int) = o
      · have ex : ((x.off : Int) == o) = true := beq_iff_eq.2 hxo
        by_cases hxk : (x.k == 0) = (c == 21)
        · have ek : ((x.k == 0) == (c == 21)) = true := beq_iff_eq.2 hxk
          clear hxo hxk
          go_wp2
          go_ret
          exact ⟨rfl, belowt2 HBX.out HBY.out⟩
        · have ek : ((x.k == 0) == (c == 21)) = false := beq_eq_false_iff_ne.2 hxk
          have hjq : j ≠ q := fun e => by
            subst e
            have e2 : x = t := Option.some.inj (hx.symm.trans HQ.out)
            subst e2
            refine hxk ?_
            have := HT.out.2
            by_cases h9 : c = 21
            · rw [beq_iff_eq.2 h9, beq_iff_eq.2 (this.1 h9)]
            · rw [beq_eq_false_iff_ne.2 h9, beq_eq_false_iff_ne.2 fun e => h9 (this.2 e)]
          clear hxo hxk
          go_wp2
          go_roundw
          case rel => exact ⟨j + 1, by omega, by go_num, HBY⟩
          case measure => simp [intOf]; omega
      · have ex : ((x.off : Int) == o) = false := beq_eq_false_iff_ne.2 hxo
        have hjq : j ≠ q := fun e => by
          subst e
          have e2 : x = t := Option.some.inj (hx.symm.trans HQ.out)
          subst e2
          exact hxo HT.out.1
        clear hxo
        go_wp2
        go_roundw
        case rel => exact ⟨j + 1, by omega, by go_num, HBY⟩
        case measure => simp [intOf]; omega
  · go_enter Tryd.func16, Tryd.ntmps16
    go_wp2
    obtain ⟨X, hX⟩ : ∃ X, X = (w.alloc (.cells #[.int .i64 oc, .int .i64 0, .int .i64 oo] 25)).alloc (.cells #[.int .i64 c, .int .i64 0, .int .i64 o] 25) := ⟨_, rfl⟩
    have HBX : Hid (Below w.heap.size w X) := by rw [hX]; exact below2a _ _ _
    have HBf : Hid (X.heap[w.heap.size + 1]? = some (.cells #[.int .i64 c, .int .i64 0, .int .i64 o] 25 (0, 0))) := by rw [hX]; exact second_new w _ _
    rw [← hX]
    clear hX
    go_loopw [32] (fun iv wl => ∃ j : Nat, j ≤ q ∧ iv = .int .i64 (j : Int) ∧ Hid (Below X.heap.size X wl)) (fun iv _ => q + 1 - (intOf iv).toNat)
    case atStart => exact ⟨0, by omega, rfl, Below.refl _ _⟩
    case round =>
      obtain ⟨j, hj, rfl, HBl⟩ := hrel
      have hll := HL.out
      have hi : (j : Int) < (L.length : Int) := by omega
      have hi0 : (0 : Int) ≤ (j : Int) := by omega
      obtain ⟨x, hx⟩ : ∃ x, L[j]? = some x := ⟨_, List.getElem?_eq_getElem (by omega)⟩
      have hAl := HV.out.all.kept (belowt2 HBX.out HBl.out)
      obtain ⟨b3, o3, rfl, -, hF3, hr3⟩ := hAl.row (by omega)
      have y0 := hr3 j _ hx 0 _ rfl
      have y1 := hr3 j _ hx 1 _ rfl
      have y2 := hr3 j _ hx 2 _ rfl
      have y3 := hr3 j _ hx 3 _ rfl
      have y4 := hr3 j _ hx 4 _ rfl
      have y5 := hr3 j _ hx 5 _ rfl
      simp only [elTk, Nat.add_zero] at y0 y1 y2 y3 y4 y5
      obtain ⟨Y, hY⟩ : ∃ Y, Y = wr.alloc (.cells #[.int .i64 x.k, .string x.t, .int .i64 x.n, .int .i64 x.op, .int .i64 (x.off : Int), .int .i64 (x.en : Int)] 30) := ⟨_, rfl⟩
      have HBY : Hid (Below X.heap.size X Y) := by rw [hY]; exact belowt2 HBl.out (belowA _ _)
      have hbf : Y.heap[w.heap.size + 1]? = some (.cells #[.int .i64 c, .int .i64 0, .int .i64 o] 25 (0, 0)) := by show _ = _; rw [HBY.out.block _ (Array.getElem?_eq_some_iff.1 HBf.out).1]; exact HBf.out
      have hbx : Y.heap[wr.heap.size]? = some (.cells #[.int .i64 x.k, .string x.t, .int .i64 x.n, .int .i64 x.op, .int .i64 (x.off : Int), .int .i64 (x.en : Int)] 30 (0, 0)) := by rw [hY]; exact heap_alloc_new wr _
      have d0 : Y.cell? ⟨w.heap.size + 1, 0, none⟩ = some (.int .i64 c) := by simp [World.cell?, hbf]
      have d2 : Y.cell? ⟨w.heap.size + 1, 2, none⟩ = some (.int .i64 o) := by simp [World.cell?, hbf]
      have e0 : Y.cell? ⟨wr.heap.size, 0, none⟩ = some (.int .i64 x.k) := by simp [World.cell?, hbx]
      have e4 : Y.cell? ⟨wr.heap.size, 4, none⟩ = some (.int .i64 (x.off : Int)) := by simp [World.cell?, hbx]
      clear hr3 hAl hF3 hbf hbx
      go_upto_region 8 with fail
      rw [← hY]
      clear hY y0 y1 y2 y3 y4 y5
      by_cases hxo : (x.off : Int) = o
      · have ex : ((x.off : Int) == o) = true := beq_iff_eq.2 hxo
        by_cases hxk : (x.k == 0) = (c == 21)
        · have ek : ((x.k == 0) == (c == 21)) = true := beq_iff_eq.2 hxk
          clear hxo hxk
          go_wp2
          go_ret
          exact ⟨rfl, belowt2 HBX.out HBY.out⟩
        · have ek : ((x.k == 0) == (c == 21)) = false := beq_eq_false_iff_ne.2 hxk
          have hjq : j ≠ q := fun e => by
            subst e
            have e2 : x = t := Option.some.inj (hx.symm.trans HQ.out)
            subst e2
            refine hxk ?_
            have := HT.out.2
            by_cases h9 : c = 21
            · rw [beq_iff_eq.2 h9, beq_iff_eq.2 (this.1 h9)]
            · rw [beq_eq_false_iff_ne.2 h9, beq_eq_false_iff_ne.2 fun e => h9 (this.2 e)]
          clear hxo hxk
          go_wp2
          go_roundw
          case rel => exact ⟨j + 1, by omega, by go_num, HBY⟩
          case measure => simp [intOf]; omega
      · have ex : ((x.off : Int) == o) = false := beq_eq_false_iff_ne.2 hxo
        have hjq : j ≠ q := fun e => by
          subst e
          have e2 : x = t := Option.some.inj (hx.symm.trans HQ.out)
          subst e2
          exact hxo HT.out.1
        clear hxo
        go_wp2
        go_roundw
        case rel => exact ⟨j + 1, by omega, by go_num, HBY⟩
        case measure => simp [intOf]; omega
end Go.Proofs.YtjofiibfgfdleaaDoor
