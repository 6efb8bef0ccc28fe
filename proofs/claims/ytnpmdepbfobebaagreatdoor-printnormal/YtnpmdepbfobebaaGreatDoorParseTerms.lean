/- parse's reader takes a term or a value. -/
import Derived.Test.YtnpmdepbfobebaaGreatDoorProg
import Derived.Test.YtnpmdepbfobebaaGreatDoorParseTerm
namespace Go.Proofs.YtnpmdepbfobebaaGreatDoor
set_option linter.unusedSimpArgs false
set_option linter.unusedVariables false
open Go.RowKit

theorem below3 {w w' : World} {x y : Obj} (h : Below ((w.alloc x).alloc y).heap.size ((w.alloc x).alloc y) w') : Below w.heap.size w w' := belowt2 (belowt2 (belowA w x) (belowA (w.alloc x) y)) h
theorem only2 {S : Nat → Prop} {w w' : World} {x y : Obj} (h : Only S ((w.alloc x).alloc y) w') : Only S w w' := ((Only.refl S w).alloc x |>.alloc y).trans h
theorem Ahead.box {w w' w'' : World} {p : Nat} {ao : Option Addr} {cap : Nat} {L : List Tok} {c f : Int} {R0 R : List Tok} (h0 : Ahead w p ao cap L c f R0) (h : Ahead w' p ao cap L c f R) (ho : Only (fun b => w.heap.size ≤ b) w' w'') : Ahead w'' p ao cap L c f R := by
  obtain ⟨i0, q0, _⟩ := h0
  obtain ⟨i, h1, h2⟩ := h
  refine ⟨i, h1.only ho (by have := q0.lt; omega) (fun g hg hl => ?_), h2⟩
  obtain ⟨g', e, _, hr⟩ := q0.toks hl
  rw [hg] at e
  obtain rfl : g = g' := by simpa using e
  have := lt_of_cell (hr 0 L[0] (List.getElem?_eq_getElem hl)).c0
  simp only at this
  omega

theorem box4_put {V : World} {b : Nat} {a0 a1 a2 a3 : Value} (h : V.heap[b]? = some (.cells #[a0, a1, a2, a3] 54 (0, 0))) (u0 u1 u2 u3 : Value) :
    ((((V.setCell ⟨b, 0, none⟩ u0).setCell ⟨b, 1, none⟩ u1).setCell ⟨b, 2, none⟩ u2).setCell ⟨b, 3, none⟩ u3).heap[b]? = some (.cells #[u0, u1, u2, u3] 54 (0, 0)) := by
  simp [World.setCell, Array.getElem?_modify, h]

theorem box4_cells {V : World} {b : Nat} {a0 a1 a2 a3 : Value} (h : V.heap[b]? = some (.cells #[a0, a1, a2, a3] 54 (0, 0))) : V.cell? ⟨b, 0, none⟩ = some a0 ∧ V.cell? ⟨b, 1, none⟩ = some a1 ∧ V.cell? ⟨b, 2, none⟩ = some a2 ∧ V.cell? ⟨b, 3, none⟩ = some a3 ∧ V.frozen? ⟨b, 0, none⟩ = false ∧ V.frozen? ⟨b, 1, none⟩ = false ∧ V.frozen? ⟨b, 2, none⟩ = false ∧ V.frozen? ⟨b, 3, none⟩ = false := by
  refine ⟨?_, ?_, ?_, ?_, ?_, ?_, ?_, ?_⟩ <;> simp [World.cell?, World.frozen?, h]

theorem box_after {w w2 w3 : World} {p : Nat} {k : Obj} (hp : p < w.heap.size) (ho : Only (fun b => b = p) ((w.alloc (.cells #[.int .i64 0, .int .i64 0, .string ⟨#[]⟩, .int .i64 0] 54)).alloc k) w2) (hb : Below w2.heap.size w2 w3) :
    w3.heap[w.heap.size]? = some (.cells #[.int .i64 0, .int .i64 0, .string ⟨#[]⟩, .int .i64 0] 54 (0, 0)) := by
  have h1 : w.heap.size < w2.heap.size := Nat.lt_of_lt_of_le (by simp; omega) ho.size
  rw [hb.block _ h1, ho.block _ (by simp; omega) (by omega), (belowA _ k).block _ (by simp)]
  exact heap_alloc_new w _

theorem term_res (W : World) (b : Nat) (u0 u1 u2 u3 : Value) (tmps : Array Value) (ht : tmps[2]? = some (.pointer (some ⟨b, 0, none⟩))) (hb : W.heap[b]? = some (.cells #[u0, u1, u2, u3] 54 (0, 0))) :
    (results Tryz.f84 tmps).run Tryz.prog W = .ok (.agg #[u0, u1, u2, u3]) W := by
  obtain ⟨c0, c1, c2, c3, -⟩ := box4_cells hb
  simp [results, Tryz.results84, go_sem, ht, c0, c1, c2, c3]

set_option maxHeartbeats 1000000 in
set_option maxRecDepth 100000 in
theorem term_fail {w : World} {p : Nat} {ao : Option Addr} {cap : Nat} {L : List Tok} {c f ec eo : Int} {R : List Tok} (h : Ahead w p ao cap L c f R) (hT : takeP c f termKs R = .bad ec eo) :
    Calls Tryz.prog 84 #[.pointer (some ⟨p, 0, none⟩)] w fun e w' => e = PEnd ec eo ∧ Below w.heap.size w w' := by
  have hZ : (w.alloc (.cells #[.int .i64 0, .int .i64 0, .string ⟨#[]⟩, .int .i64 0] 54)).heap.size = w.heap.size + 1 := by simp
  have HT : Hid (Calls Tryz.prog 51 #[.pointer (some ⟨p, 0, none⟩), .slice (some ⟨w.heap.size + 1, 0, none⟩) 4 4] ((w.alloc (.cells #[.int .i64 0, .int .i64 0, .string ⟨#[]⟩, .int .i64 0] 54)).alloc (.cells #[.int .i64 2, .int .i64 3, .int .i64 1, .int .i64 4] 3)) fun e w' => e = PEnd ec eo ∧ Below ((w.alloc (.cells #[.int .i64 0, .int .i64 0, .string ⟨#[]⟩, .int .i64 0] 54)).alloc (.cells #[.int .i64 2, .int .i64 3, .int .i64 1, .int .i64 4] 3)).heap.size ((w.alloc (.cells #[.int .i64 0, .int .i64 0, .string ⟨#[]⟩, .int .i64 0] 54)).alloc (.cells #[.int .i64 2, .int .i64 3, .int .i64 1, .int .i64 4] 3)) w') := by
    have hk := ks_new (w.alloc (.cells #[.int .i64 0, .int .i64 0, .string ⟨#[]⟩, .int .i64 0] 54)) [2, 3, 1, 4]
    rw [hZ] at hk
    exact take_fail (w := (w.alloc (.cells #[.int .i64 0, .int .i64 0, .string ⟨#[]⟩, .int .i64 0] 54)).alloc (.cells #[.int .i64 2, .int .i64 3, .int .i64 1, .int .i64 4] 3)) (w.heap.size + 1) (ks := [2, 3, 1, 4]) ((h.kept (belowA _ _)).kept (belowA _ _)) hk (by decide) hT
  clear h hT hZ
  go_enter Tryz.func84, Tryz.ntmps84
  go_wp2_with (go_at_call 51; refine HT.out.mono ?_; rintro e w2 ⟨rfl, hb⟩)
  exact ⟨rfl, rfl, below3 hb⟩

set_option maxHeartbeats 1000000 in
set_option maxRecDepth 100000 in
theorem term_good {w : World} {p : Nat} {ao : Option Addr} {cap : Nat} {L : List Tok} {c f : Int} {R r : List Tok} {t : Tok} (h : Ahead w p ao cap L c f R) (hT : takeP c f termKs R = .ok t r) :
    Calls Tryz.prog 84 #[.pointer (some ⟨p, 0, none⟩)] w fun e w' => e = .returned (termP t).val ∧ Ahead w' p ao cap L c f r ∧ Only (fun b => b = p) w w' := by
  have hZ : (w.alloc (.cells #[.int .i64 0, .int .i64 0, .string ⟨#[]⟩, .int .i64 0] 54)).heap.size = w.heap.size + 1 := by simp
  have HT : Hid (Calls Tryz.prog 51 #[.pointer (some ⟨p, 0, none⟩), .slice (some ⟨w.heap.size + 1, 0, none⟩) 4 4] ((w.alloc (.cells #[.int .i64 0, .int .i64 0, .string ⟨#[]⟩, .int .i64 0] 54)).alloc (.cells #[.int .i64 2, .int .i64 3, .int .i64 1, .int .i64 4] 3)) fun e w' => e = .returned (tokV t) ∧ Ahead w' p ao cap L c f r ∧ Only (fun b => b = p) ((w.alloc (.cells #[.int .i64 0, .int .i64 0, .string ⟨#[]⟩, .int .i64 0] 54)).alloc (.cells #[.int .i64 2, .int .i64 3, .int .i64 1, .int .i64 4] 3)) w') := by
    have hk := ks_new (w.alloc (.cells #[.int .i64 0, .int .i64 0, .string ⟨#[]⟩, .int .i64 0] 54)) [2, 3, 1, 4]
    rw [hZ] at hk
    exact take_good (w := (w.alloc (.cells #[.int .i64 0, .int .i64 0, .string ⟨#[]⟩, .int .i64 0] 54)).alloc (.cells #[.int .i64 2, .int .i64 3, .int .i64 1, .int .i64 4] 3)) (w.heap.size + 1) (ks := [2, 3, 1, 4]) ((h.kept (belowA _ _)).kept (belowA _ _)) hk (by decide) hT
  have HF := hide (termOf_any t)
  have H0 := hide h
  have hp := h.lt
  clear h hT hZ
  unfold tokV at HT HF
  unfold Trm.val at *
  go_enter Tryz.func84, Tryz.ntmps84
  go_wp2_with (first
    | (go_at_call 51; refine HT.out.mono ?_; rintro e w2 ⟨rfl, ha, ho⟩; have HA := hide ha; have HO := hide ho; clear ha ho)
    | (go_at_call 82; refine (HF.out _).mono ?_; rintro e w3 ⟨rfl, hb⟩; have HB := hide hb; clear hb; have hbk : w3.heap[w.heap.size]? = some (.cells #[.int .i64 0, .int .i64 0, .string ⟨#[]⟩, .int .i64 0] 54 (0, 0)) := (box_after H0.out.lt HO.out HB.out); obtain ⟨c0, c1, c2, c3, z0, z1, z2, z3⟩ := box4_cells hbk))
  have HO2 : Only (fun b => b = p ∨ w.heap.size ≤ b) w w3 := (only2 (HO.out.mono (fun k _ e => .inl e))).trans (Only.of_below HB.out _)
  have HE := ((((HO2.setCell (p := ⟨w.heap.size, 0, none⟩) (.inr (Nat.le_refl _)) (.int .i64 (termP t).k)).setCell (p := ⟨w.heap.size, 1, none⟩) (.inr (Nat.le_refl _)) (.int .i64 (termP t).n)).setCell (p := ⟨w.heap.size, 2, none⟩) (.inr (Nat.le_refl _)) (.string (termP t).s)).setCell (p := ⟨w.heap.size, 3, none⟩) (.inr (Nat.le_refl _)) (.int .i64 (termP t).off)).mono (S' := fun b => b = p) (fun k hk e => e.elim id (fun e => by omega))
  have HA2 := H0.out.box (HA.out.kept HB.out) (((((Only.refl (fun b => w.heap.size ≤ b) w3).setCell (p := ⟨w.heap.size, 0, none⟩) (Nat.le_refl _) (.int .i64 (termP t).k)).setCell (p := ⟨w.heap.size, 1, none⟩) (Nat.le_refl _) (.int .i64 (termP t).n)).setCell (p := ⟨w.heap.size, 2, none⟩) (Nat.le_refl _) (.string (termP t).s)).setCell (p := ⟨w.heap.size, 3, none⟩) (Nat.le_refl _) (.int .i64 (termP t).off))
  exact bodyPost_ret (term_res _ w.heap.size _ _ _ _ _ rfl (box4_put hbk _ _ _ _)) rfl ⟨rfl, HA2, HE⟩

theorem value_res (W : World) (b : Nat) (u0 u1 u2 u3 : Value) (tmps : Array Value) (ht : tmps[2]? = some (.pointer (some ⟨b, 0, none⟩))) (hb : W.heap[b]? = some (.cells #[u0, u1, u2, u3] 54 (0, 0))) :
    (results Tryz.f68 tmps).run Tryz.prog W = .ok (.agg #[u0, u1, u2, u3]) W := by
  obtain ⟨c0, c1, c2, c3, -⟩ := box4_cells hb
  simp [results, Tryz.results68, go_sem, ht, c0, c1, c2, c3]

set_option maxHeartbeats 1000000 in
set_option maxRecDepth 100000 in
theorem value_fail {w : World} {p : Nat} {ao : Option Addr} {cap : Nat} {L : List Tok} {c f ec eo : Int} {R : List Tok} (h : Ahead w p ao cap L c f R) (hT : takeP c f valueKs R = .bad ec eo) :
    Calls Tryz.prog 68 #[.pointer (some ⟨p, 0, none⟩)] w fun e w' => e = PEnd ec eo ∧ Below w.heap.size w w' := by
  have hZ : (w.alloc (.cells #[.int .i64 0, .int .i64 0, .string ⟨#[]⟩, .int .i64 0] 54)).heap.size = w.heap.size + 1 := by simp
  have HT : Hid (Calls Tryz.prog 51 #[.pointer (some ⟨p, 0, none⟩), .slice (some ⟨w.heap.size + 1, 0, none⟩) 3 3] ((w.alloc (.cells #[.int .i64 0, .int .i64 0, .string ⟨#[]⟩, .int .i64 0] 54)).alloc (.cells #[.int .i64 3, .int .i64 1, .int .i64 4] 3)) fun e w' => e = PEnd ec eo ∧ Below ((w.alloc (.cells #[.int .i64 0, .int .i64 0, .string ⟨#[]⟩, .int .i64 0] 54)).alloc (.cells #[.int .i64 3, .int .i64 1, .int .i64 4] 3)).heap.size ((w.alloc (.cells #[.int .i64 0, .int .i64 0, .string ⟨#[]⟩, .int .i64 0] 54)).alloc (.cells #[.int .i64 3, .int .i64 1, .int .i64 4] 3)) w') := by
    have hk := ks_new (w.alloc (.cells #[.int .i64 0, .int .i64 0, .string ⟨#[]⟩, .int .i64 0] 54)) [3, 1, 4]
    rw [hZ] at hk
    exact take_fail (w := (w.alloc (.cells #[.int .i64 0, .int .i64 0, .string ⟨#[]⟩, .int .i64 0] 54)).alloc (.cells #[.int .i64 3, .int .i64 1, .int .i64 4] 3)) (w.heap.size + 1) (ks := [3, 1, 4]) ((h.kept (belowA _ _)).kept (belowA _ _)) hk (by decide) hT
  clear h hT hZ
  go_enter Tryz.func68, Tryz.ntmps68
  go_wp2_with (go_at_call 51; refine HT.out.mono ?_; rintro e w2 ⟨rfl, hb⟩)
  exact ⟨rfl, rfl, below3 hb⟩

set_option maxHeartbeats 1000000 in
set_option maxRecDepth 100000 in
theorem value_good {w : World} {p : Nat} {ao : Option Addr} {cap : Nat} {L : List Tok} {c f : Int} {R r : List Tok} {t : Tok} (h : Ahead w p ao cap L c f R) (hT : takeP c f valueKs R = .ok t r) :
    Calls Tryz.prog 68 #[.pointer (some ⟨p, 0, none⟩)] w fun e w' => e = .returned (termP t).val ∧ Ahead w' p ao cap L c f r ∧ Only (fun b => b = p) w w' := by
  have hZ : (w.alloc (.cells #[.int .i64 0, .int .i64 0, .string ⟨#[]⟩, .int .i64 0] 54)).heap.size = w.heap.size + 1 := by simp
  have HT : Hid (Calls Tryz.prog 51 #[.pointer (some ⟨p, 0, none⟩), .slice (some ⟨w.heap.size + 1, 0, none⟩) 3 3] ((w.alloc (.cells #[.int .i64 0, .int .i64 0, .string ⟨#[]⟩, .int .i64 0] 54)).alloc (.cells #[.int .i64 3, .int .i64 1, .int .i64 4] 3)) fun e w' => e = .returned (tokV t) ∧ Ahead w' p ao cap L c f r ∧ Only (fun b => b = p) ((w.alloc (.cells #[.int .i64 0, .int .i64 0, .string ⟨#[]⟩, .int .i64 0] 54)).alloc (.cells #[.int .i64 3, .int .i64 1, .int .i64 4] 3)) w') := by
    have hk := ks_new (w.alloc (.cells #[.int .i64 0, .int .i64 0, .string ⟨#[]⟩, .int .i64 0] 54)) [3, 1, 4]
    rw [hZ] at hk
    exact take_good (w := (w.alloc (.cells #[.int .i64 0, .int .i64 0, .string ⟨#[]⟩, .int .i64 0] 54)).alloc (.cells #[.int .i64 3, .int .i64 1, .int .i64 4] 3)) (w.heap.size + 1) (ks := [3, 1, 4]) ((h.kept (belowA _ _)).kept (belowA _ _)) hk (by decide) hT
  have HF := hide (termOf_any t)
  have H0 := hide h
  have hp := h.lt
  clear h hT hZ
  unfold tokV at HT HF
  unfold Trm.val at *
  go_enter Tryz.func68, Tryz.ntmps68
  go_wp2_with (first
    | (go_at_call 51; refine HT.out.mono ?_; rintro e w2 ⟨rfl, ha, ho⟩; have HA := hide ha; have HO := hide ho; clear ha ho)
    | (go_at_call 82; refine (HF.out _).mono ?_; rintro e w3 ⟨rfl, hb⟩; have HB := hide hb; clear hb; have hbk : w3.heap[w.heap.size]? = some (.cells #[.int .i64 0, .int .i64 0, .string ⟨#[]⟩, .int .i64 0] 54 (0, 0)) := (box_after H0.out.lt HO.out HB.out); obtain ⟨c0, c1, c2, c3, z0, z1, z2, z3⟩ := box4_cells hbk))
  have HO2 : Only (fun b => b = p ∨ w.heap.size ≤ b) w w3 := (only2 (HO.out.mono (fun k _ e => .inl e))).trans (Only.of_below HB.out _)
  have HE := ((((HO2.setCell (p := ⟨w.heap.size, 0, none⟩) (.inr (Nat.le_refl _)) (.int .i64 (termP t).k)).setCell (p := ⟨w.heap.size, 1, none⟩) (.inr (Nat.le_refl _)) (.int .i64 (termP t).n)).setCell (p := ⟨w.heap.size, 2, none⟩) (.inr (Nat.le_refl _)) (.string (termP t).s)).setCell (p := ⟨w.heap.size, 3, none⟩) (.inr (Nat.le_refl _)) (.int .i64 (termP t).off)).mono (S' := fun b => b = p) (fun k hk e => e.elim id (fun e => by omega))
  have HA2 := H0.out.box (HA.out.kept HB.out) (((((Only.refl (fun b => w.heap.size ≤ b) w3).setCell (p := ⟨w.heap.size, 0, none⟩) (Nat.le_refl _) (.int .i64 (termP t).k)).setCell (p := ⟨w.heap.size, 1, none⟩) (Nat.le_refl _) (.int .i64 (termP t).n)).setCell (p := ⟨w.heap.size, 2, none⟩) (Nat.le_refl _) (.string (termP t).s)).setCell (p := ⟨w.heap.size, 3, none⟩) (Nat.le_refl _) (.int .i64 (termP t).off))
  exact bodyPost_ret (value_res _ w.heap.size _ _ _ _ _ rfl (box4_put hbk _ _ _ _)) rfl ⟨rfl, HA2, HE⟩
end Go.Proofs.YtnpmdepbfobebaaGreatDoor
