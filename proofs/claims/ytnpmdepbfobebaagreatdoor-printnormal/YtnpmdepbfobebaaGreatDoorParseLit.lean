/- parse's reader takes an atom by its name, and a literal. -/
import Derived.Test.YtnpmdepbfobebaaGreatDoorProg
import Derived.Test.YtnpmdepbfobebaaGreatDoorParseAtom
namespace Go.Proofs.YtnpmdepbfobebaaGreatDoor
set_option linter.unusedSimpArgs false
set_option linter.unusedVariables false
open Go.RowKit

/-- A result's box, written last: the reader stands where it stood, and nothing else that was there has changed. -/
theorem fin_ahead {w w1 w2 : World} {p b : Nat} {ao : Option Addr} {cap : Nat} {L : List Tok} {c f : Int} {R0 r : List Tok} (h0 : Ahead w p ao cap L c f R0) (hA : Ahead w1 p ao cap L c f r) (ho : Only (fun k => k = p ∨ w.heap.size ≤ k) w w1) (ho2 : Only (fun k => k = b) w1 w2) (hb : w.heap.size ≤ b) :
    Ahead w2 p ao cap L c f r ∧ Only (fun k => k = p) w w2 :=
  ⟨h0.box hA (ho2.mono fun k _ (e : k = b) => by omega), only_drop (ho.trans (ho2.mono fun k _ (e : k = b) => .inr (by omega)))⟩
theorem fin_ok {α : Type} (E : El α) {w1 w2 : World} {b N n : Nat} {x : α} (hx : E.ok w1 (fun k => N ≤ k) x) (ho2 : Only (fun k => k = b) w1 w2) (hb : b < N) (hn : n ≤ N) : E.ok w2 (fun k => n ≤ k) x :=
  E.move hx fun k hk hF => ⟨by omega, ho2.block k hk (by omega)⟩
theorem only_wide {w W w1 : World} {p : Nat} (hb : Below w.heap.size w W) (ho : Only (fun k => k = p) W w1) : Only (fun k => k = p ∨ w.heap.size ≤ k) w w1 := (Only.of_below hb _).trans (ho.mono fun k _ e => .inl e)
theorem below2a (w : World) (x y : Obj) : Below w.heap.size w ((w.alloc x).alloc y) := belowt2 (belowA w x) (belowA _ y)
theorem only_three {w1 : World} (b : Nat) (u0 u1 u2 : Value) : Only (fun k => k = b) w1 (((w1.setCell ⟨b, 0, none⟩ u0).setCell ⟨b, 1, none⟩ u1).setCell ⟨b, 2, none⟩ u2) := (((Only.refl (fun k => k = b) w1).setCell (p := ⟨b, 0, none⟩) rfl _).setCell (p := ⟨b, 1, none⟩) rfl _).setCell (p := ⟨b, 2, none⟩) rfl _
theorem box3_cells {V : World} {b : Nat} {a0 a1 a2 : Value} (h : V.heap[b]? = some (.cells #[a0, a1, a2] 42 (0, 0))) : V.cell? ⟨b, 0, none⟩ = some a0 ∧ V.cell? ⟨b, 1, none⟩ = some a1 ∧ V.cell? ⟨b, 2, none⟩ = some a2 ∧ V.frozen? ⟨b, 0, none⟩ = false ∧ V.frozen? ⟨b, 1, none⟩ = false ∧ V.frozen? ⟨b, 2, none⟩ = false := by
  refine ⟨?_, ?_, ?_, ?_, ?_, ?_⟩ <;> simp [World.cell?, World.frozen?, h]
/-- The second of two new blocks, behind a call that moves the reader. -/
theorem second_box {w w1 : World} {p : Nat} {x y : Obj} (hp : p < w.heap.size) (ho : Only (fun k => k = p) ((w.alloc x).alloc y) w1) : w1.heap[w.heap.size + 1]? = some y := by
  have e1 : (w.alloc x).heap.size = w.heap.size + 1 := by simp
  rw [ho.block _ (by simp) (by omega), ← e1]
  exact heap_alloc_new (w.alloc x) _
theorem first_box {w w1 : World} {p : Nat} {x y : Obj} (hp : p < w.heap.size) (ho : Only (fun k => k = p) ((w.alloc x).alloc y) w1) : w1.heap[w.heap.size]? = some x := by
  rw [ho.block _ (by simp; omega) (by omega), (belowA (w.alloc x) y).block _ (by simp)]
  exact heap_alloc_new w _

theorem atomRes (W : World) (b : Nat) (u0 u1 u2 : Value) (tmps : Array Value) (ht : tmps[4]? = some (.pointer (some ⟨b, 0, none⟩))) (hb : W.heap[b]? = some (.cells #[u0, u1, u2] 42 (0, 0))) :
    (results Tryz.f73 tmps).run Tryz.prog W = .ok (.agg #[u0, u1, u2]) W := by
  obtain ⟨c0, c1, c2, -⟩ := box3_cells hb
  simp [results, Tryz.results73, go_sem, ht, c0, c1, c2]

theorem atmPost_bad {w w' : World} {p : Nat} {ao : Option Addr} {cap : Nat} {L : List Tok} {c f ec eo : Int} {e : Ending} (h : AtmPost w p ao cap L c f (.bad ec eo) e w') : e = PEnd ec eo ∧ Only (fun k => k = p) w w' := h
theorem atmPost_ok {w w' : World} {p : Nat} {ao : Option Addr} {cap : Nat} {L : List Tok} {c f : Int} {x : PAtom} {r : List Tok} {e : Ending} (h : AtmPost w p ao cap L c f (.ok x r) e w') : ∃ a : Atx, e = .returned a.val ∧ a.pur = x ∧ elAtx.ok w' (fun b => w.heap.size ≤ b) a ∧ Ahead w' p ao cap L c f r ∧ Only (fun k => k = p) w w' := h

set_option maxHeartbeats 1000000 in
set_option maxRecDepth 100000 in
theorem atom_any {w : World} {p : Nat} {ao : Option Addr} {cap : Nat} {L : List Tok} {c f : Int} {R : List Tok} (name : Tok) (h : Ahead w p ao cap L c f R) (hname : name.good) :
    Calls Tryz.prog 73 #[.pointer (some ⟨p, 0, none⟩), tokV name] w (AtmPost w p ao cap L c f (atomP c f termKs name R)) := by
  have HC := hide (fun (W : World) (hb : Below w.heap.size w W) => atomTerm name (h.kept hb) hname)
  have H0 := hide h
  have hp := h.lt
  clear h hname
  unfold tokV at *
  obtain ⟨res, hres⟩ : ∃ res, atomP c f termKs name R = res := ⟨_, rfl⟩
  rw [hres] at HC ⊢
  clear hres
  cases res with
  | bad ec eo =>
    unfold AtmPost
    go_enter Tryz.func73, Tryz.ntmps73
    go_wp2_with (go_at_call 67; refine (HC.out _ (below2a _ _ _)).mono ?_; intro e w1 hq; obtain ⟨rfl, ho⟩ := atmPost_bad hq; clear hq)
    exact ⟨rfl, rfl, only_drop (only_wide (below2a _ _ _) ho)⟩
  | ok x r =>
    unfold AtmPost
    go_enter Tryz.func73, Tryz.ntmps73
    go_wp2_with (go_at_call 67; refine (HC.out _ (below2a _ _ _)).mono ?_; intro e w1 hq; obtain ⟨a, rfl, hpur, hok, ha, ho⟩ := atmPost_ok hq; clear hq; have HPu := hide hpur; have HOk := hide hok; have HA := hide ha; have HO := hide ho; have HBx := hide (second_box hp ho); clear hpur hok ha ho; unfold Atx.val; obtain ⟨q0, q1, q2, q3, q4, q5⟩ := box3_cells HBx.out; obtain ⟨va, vc, hv, -⟩ := HOk.out.2.2.shape)
    obtain ⟨z1, z2⟩ := fin_ahead H0.out HA.out (only_wide (below2a _ _ _) HO.out) (only_three (w.heap.size + 1) (.string a.p) a.v (.int .i64 a.off)) (by omega)
    have z3 := fin_ok elAtx (n := w.heap.size) HOk.out (only_three (w.heap.size + 1) (.string a.p) a.v (.int .i64 a.off)) (by simp) (by simp; omega)
    rw [hv] at z1 z2 z3
    exact bodyPost_ret (atomRes _ (w.heap.size + 1) _ _ _ _ rfl (box3_put HBx.out _ _ _)) rfl ⟨a, by unfold Atx.val; rw [hv], HPu.out, z3, z1, z2⟩
end Go.Proofs.YtnpmdepbfobebaaGreatDoor
