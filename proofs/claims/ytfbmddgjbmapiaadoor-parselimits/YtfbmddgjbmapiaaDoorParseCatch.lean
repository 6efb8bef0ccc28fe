/- parse.read's deferred function; where the reader stands at first. -/
import Derived.Test.YtfbmddgjbmapiaaDoorProg
import Derived.Test.YtfbmddgjbmapiaaDoorParseAtom
import Derived.Test.YtfbmddgjbmapiaaDoorParseGood
import Derived.Defers
import Derived.Recover
namespace Go.Proofs.YtfbmddgjbmapiaaDoor
set_option linter.unusedSimpArgs false
set_option linter.unusedVariables false
open Go.RowKit

theorem fault_cells {V : World} {b : Nat} {u0 u1 u2 : Value} (h : V.heap[b]? = some (.cells #[u0, u1, u2] 27 (0, 0))) : (V.cell? ⟨b, 0, none⟩ = some u0 ∧ V.cell? ⟨b, 1, none⟩ = some u1 ∧ V.cell? ⟨b, 2, none⟩ = some u2) ∧ (V.frozen? ⟨b, 0, none⟩ = false ∧ V.frozen? ⟨b, 1, none⟩ = false ∧ V.frozen? ⟨b, 2, none⟩ = false) := by
  refine ⟨⟨?_, ?_, ?_⟩, ⟨?_, ?_, ?_⟩⟩ <;> simp [World.cell?, World.frozen?, h]

set_option maxRecDepth 100000 in
set_option maxHeartbeats 1000000 in
theorem idleProg (p : Addr) (w : World) :
    CallsD Tryd.prog 24 #[.pointer (some p)] .returning w fun e u' w' => e = .returned (.tuple #[]) ∧ u' = .returning ∧ w' = w := by
  refine callsD_of_wpS Tryd.func24 rfl fun c₀ cs hu => ?_
  apply wpS_seq
  apply wpS_region
  simp [wpOpsS, go_sem, recoverD, hu, Tryd.ntmps24, Exit.thenS]
  apply wpS_seq
  apply wpS_seq
  apply wpS_region
  simp [wpOpsS, go_sem, Exit.thenS]
  refine wpS_cond (t := true) (by simp [Act.eval, Array.replicate]) ?_
  simp only [if_true]
  refine wpS_of_wp (wp_ret ?_)
  cases c₀
  simp_all [bodyPostS, results, Tryd.results24, Exit.thenS]

set_option maxRecDepth 100000 in
set_option maxHeartbeats 1000000 in
theorem caughtProg (b : Nat) (c o : Int) (older : List PanicEntry) (w : World) (hb : w.heap[b]? = some (.cells #[.int .i64 0, .int .i64 0, .int .i64 0] 27 (0, 0))) :
    CallsD Tryd.prog 24 #[.pointer (some ⟨b, 0, none⟩)] (.panicking ({ v := faultP c o, recovered := false } :: older)) w fun e u' w' =>
      e = .returned (.tuple #[]) ∧ u' = .panicking ({ v := faultP c o, recovered := true } :: older) ∧ w'.heap[b]? = some (.cells #[.int .i64 c, .int .i64 0, .int .i64 o] 27 (0, 0)) ∧ Only (fun k => k = b) w w' := by
  obtain ⟨⟨c0, c1, c2⟩, ⟨z0, z1, z2⟩⟩ := fault_cells hb
  have hlt := (Array.getElem?_eq_some_iff.1 hb).1
  have hne : ¬ b = w.heap.size := by omega
  have hne2 : ¬ w.heap.size = b := by omega
  have hta : ∀ W : World, (Instr.typeAssert (faultP c o) 20 27 true).run Tryd.prog W = .ok (.tuple #[.agg #[.int .i64 c, .int .i64 0, .int .i64 o], .bool true]) W := fun W => by rfl
  refine callsD_of_wpS Tryd.func24 rfl fun c₀ cs hu => ?_
  apply wpS_seq
  apply wpS_region
  simp [wpOpsS, go_sem, recoverD, hu, Tryd.ntmps24, Exit.thenS]
  apply wpS_seq
  apply wpS_seq
  apply wpS_region
  simp [wpOpsS, go_sem, Exit.thenS]
  refine wpS_cond (t := false) (by simp [Act.eval, Array.replicate]) ?_
  simp only [Bool.false_eq_true, if_false]
  refine wpS_of_wp (wp_skip ?_)
  simp only [Exit.thenS]
  refine wpS_of_wp ?_
  change Code.wp _ _ _ ⟨#[.pointer (some ⟨b, 0, none⟩), faultP c o, undef, undef, faultP c o, faultP c o, .bool false, undef, undef, undef, undef, undef, undef, undef, undef, undef], []⟩ w
  go_wp2
  have hX : ((((w.setCell ⟨b, 0, none⟩ (.int .i64 c)).setCell ⟨b, 1, none⟩ (.int .i64 0)).setCell ⟨b, 2, none⟩ (.int .i64 o)).alloc (.cells #[.int .i64 c, .int .i64 0, .int .i64 o] 27)).heap[b]? = some (.cells #[.int .i64 c, .int .i64 0, .int .i64 o] 27 (0, 0)) := by
    rw [(belowA _ _).block _ (by simp; exact hlt)]
    simp [World.setCell, Array.getElem?_modify, hb]
  have hO : Only (fun k => k = b) w ((((w.setCell ⟨b, 0, none⟩ (.int .i64 c)).setCell ⟨b, 1, none⟩ (.int .i64 0)).setCell ⟨b, 2, none⟩ (.int .i64 o)).alloc (.cells #[.int .i64 c, .int .i64 0, .int .i64 o] 27)) :=
    ((((Only.refl (fun k => k = b) w).setCell (p := ⟨b, 0, none⟩) rfl _).setCell (p := ⟨b, 1, none⟩) rfl _).setCell (p := ⟨b, 2, none⟩) rfl _).alloc _
  generalize (((w.setCell ⟨b, 0, none⟩ (.int .i64 c)).setCell ⟨b, 1, none⟩ (.int .i64 0)).setCell ⟨b, 2, none⟩ (.int .i64 o)).alloc (.cells #[.int .i64 c, .int .i64 0, .int .i64 o] 27) = V at hX hO ⊢
  simp [bodyPostS, results, Tryd.results24, hX, hO]

set_option maxRecDepth 100000 in
set_option maxHeartbeats 1000000 in
theorem idleFacts (p : Addr) (w : World) :
    CallsD Tryd.prog 29 #[.pointer (some p)] .returning w fun e u' w' => e = .returned (.tuple #[]) ∧ u' = .returning ∧ w' = w := by
  refine callsD_of_wpS Tryd.func29 rfl fun c₀ cs hu => ?_
  apply wpS_seq
  apply wpS_region
  simp [wpOpsS, go_sem, recoverD, hu, Tryd.ntmps29, Exit.thenS]
  apply wpS_seq
  apply wpS_seq
  apply wpS_region
  simp [wpOpsS, go_sem, Exit.thenS]
  refine wpS_cond (t := true) (by simp [Act.eval, Array.replicate]) ?_
  simp only [if_true]
  refine wpS_of_wp (wp_ret ?_)
  cases c₀
  simp_all [bodyPostS, results, Tryd.results29, Exit.thenS]

set_option maxRecDepth 100000 in
set_option maxHeartbeats 1000000 in
theorem caughtFacts (b : Nat) (c o : Int) (older : List PanicEntry) (w : World) (hb : w.heap[b]? = some (.cells #[.int .i64 0, .int .i64 0, .int .i64 0] 27 (0, 0))) :
    CallsD Tryd.prog 29 #[.pointer (some ⟨b, 0, none⟩)] (.panicking ({ v := faultP c o, recovered := false } :: older)) w fun e u' w' =>
      e = .returned (.tuple #[]) ∧ u' = .panicking ({ v := faultP c o, recovered := true } :: older) ∧ w'.heap[b]? = some (.cells #[.int .i64 c, .int .i64 0, .int .i64 o] 27 (0, 0)) ∧ Only (fun k => k = b) w w' := by
  obtain ⟨⟨c0, c1, c2⟩, ⟨z0, z1, z2⟩⟩ := fault_cells hb
  have hlt := (Array.getElem?_eq_some_iff.1 hb).1
  have hne : ¬ b = w.heap.size := by omega
  have hne2 : ¬ w.heap.size = b := by omega
  have hta : ∀ W : World, (Instr.typeAssert (faultP c o) 20 27 true).run Tryd.prog W = .ok (.tuple #[.agg #[.int .i64 c, .int .i64 0, .int .i64 o], .bool true]) W := fun W => by rfl
  refine callsD_of_wpS Tryd.func29 rfl fun c₀ cs hu => ?_
  apply wpS_seq
  apply wpS_region
  simp [wpOpsS, go_sem, recoverD, hu, Tryd.ntmps29, Exit.thenS]
  apply wpS_seq
  apply wpS_seq
  apply wpS_region
  simp [wpOpsS, go_sem, Exit.thenS]
  refine wpS_cond (t := false) (by simp [Act.eval, Array.replicate]) ?_
  simp only [Bool.false_eq_true, if_false]
  refine wpS_of_wp (wp_skip ?_)
  simp only [Exit.thenS]
  refine wpS_of_wp ?_
  change Code.wp _ _ _ ⟨#[.pointer (some ⟨b, 0, none⟩), faultP c o, undef, undef, faultP c o, faultP c o, .bool false, undef, undef, undef, undef, undef, undef, undef, undef, undef], []⟩ w
  go_wp2
  have hX : ((((w.setCell ⟨b, 0, none⟩ (.int .i64 c)).setCell ⟨b, 1, none⟩ (.int .i64 0)).setCell ⟨b, 2, none⟩ (.int .i64 o)).alloc (.cells #[.int .i64 c, .int .i64 0, .int .i64 o] 27)).heap[b]? = some (.cells #[.int .i64 c, .int .i64 0, .int .i64 o] 27 (0, 0)) := by
    rw [(belowA _ _).block _ (by simp; exact hlt)]
    simp [World.setCell, Array.getElem?_modify, hb]
  have hO : Only (fun k => k = b) w ((((w.setCell ⟨b, 0, none⟩ (.int .i64 c)).setCell ⟨b, 1, none⟩ (.int .i64 0)).setCell ⟨b, 2, none⟩ (.int .i64 o)).alloc (.cells #[.int .i64 c, .int .i64 0, .int .i64 o] 27)) :=
    ((((Only.refl (fun k => k = b) w).setCell (p := ⟨b, 0, none⟩) rfl _).setCell (p := ⟨b, 1, none⟩) rfl _).setCell (p := ⟨b, 2, none⟩) rfl _).alloc _
  generalize (((w.setCell ⟨b, 0, none⟩ (.int .i64 c)).setCell ⟨b, 1, none⟩ (.int .i64 0)).setCell ⟨b, 2, none⟩ (.int .i64 o)).alloc (.cells #[.int .i64 c, .int .i64 0, .int .i64 o] 27) = V at hX hO ⊢
  simp [bodyPostS, results, Tryd.results29, hX, hO]

set_option maxRecDepth 100000 in
set_option maxHeartbeats 1000000 in
theorem idleQuery (p : Addr) (w : World) :
    CallsD Tryd.prog 45 #[.pointer (some p)] .returning w fun e u' w' => e = .returned (.tuple #[]) ∧ u' = .returning ∧ w' = w := by
  refine callsD_of_wpS Tryd.func45 rfl fun c₀ cs hu => ?_
  apply wpS_seq
  apply wpS_region
  simp [wpOpsS, go_sem, recoverD, hu, Tryd.ntmps45, Exit.thenS]
  apply wpS_seq
  apply wpS_seq
  apply wpS_region
  simp [wpOpsS, go_sem, Exit.thenS]
  refine wpS_cond (t := true) (by simp [Act.eval, Array.replicate]) ?_
  simp only [if_true]
  refine wpS_of_wp (wp_ret ?_)
  cases c₀
  simp_all [bodyPostS, results, Tryd.results45, Exit.thenS]

set_option maxRecDepth 100000 in
set_option maxHeartbeats 1000000 in
theorem caughtQuery (b : Nat) (c o : Int) (older : List PanicEntry) (w : World) (hb : w.heap[b]? = some (.cells #[.int .i64 0, .int .i64 0, .int .i64 0] 27 (0, 0))) :
    CallsD Tryd.prog 45 #[.pointer (some ⟨b, 0, none⟩)] (.panicking ({ v := faultP c o, recovered := false } :: older)) w fun e u' w' =>
      e = .returned (.tuple #[]) ∧ u' = .panicking ({ v := faultP c o, recovered := true } :: older) ∧ w'.heap[b]? = some (.cells #[.int .i64 c, .int .i64 0, .int .i64 o] 27 (0, 0)) ∧ Only (fun k => k = b) w w' := by
  obtain ⟨⟨c0, c1, c2⟩, ⟨z0, z1, z2⟩⟩ := fault_cells hb
  have hlt := (Array.getElem?_eq_some_iff.1 hb).1
  have hne : ¬ b = w.heap.size := by omega
  have hne2 : ¬ w.heap.size = b := by omega
  have hta : ∀ W : World, (Instr.typeAssert (faultP c o) 20 27 true).run Tryd.prog W = .ok (.tuple #[.agg #[.int .i64 c, .int .i64 0, .int .i64 o], .bool true]) W := fun W => by rfl
  refine callsD_of_wpS Tryd.func45 rfl fun c₀ cs hu => ?_
  apply wpS_seq
  apply wpS_region
  simp [wpOpsS, go_sem, recoverD, hu, Tryd.ntmps45, Exit.thenS]
  apply wpS_seq
  apply wpS_seq
  apply wpS_region
  simp [wpOpsS, go_sem, Exit.thenS]
  refine wpS_cond (t := false) (by simp [Act.eval, Array.replicate]) ?_
  simp only [Bool.false_eq_true, if_false]
  refine wpS_of_wp (wp_skip ?_)
  simp only [Exit.thenS]
  refine wpS_of_wp ?_
  change Code.wp _ _ _ ⟨#[.pointer (some ⟨b, 0, none⟩), faultP c o, undef, undef, faultP c o, faultP c o, .bool false, undef, undef, undef, undef, undef, undef, undef, undef, undef], []⟩ w
  go_wp2
  have hX : ((((w.setCell ⟨b, 0, none⟩ (.int .i64 c)).setCell ⟨b, 1, none⟩ (.int .i64 0)).setCell ⟨b, 2, none⟩ (.int .i64 o)).alloc (.cells #[.int .i64 c, .int .i64 0, .int .i64 o] 27)).heap[b]? = some (.cells #[.int .i64 c, .int .i64 0, .int .i64 o] 27 (0, 0)) := by
    rw [(belowA _ _).block _ (by simp; exact hlt)]
    simp [World.setCell, Array.getElem?_modify, hb]
  have hO : Only (fun k => k = b) w ((((w.setCell ⟨b, 0, none⟩ (.int .i64 c)).setCell ⟨b, 1, none⟩ (.int .i64 0)).setCell ⟨b, 2, none⟩ (.int .i64 o)).alloc (.cells #[.int .i64 c, .int .i64 0, .int .i64 o] 27)) :=
    ((((Only.refl (fun k => k = b) w).setCell (p := ⟨b, 0, none⟩) rfl _).setCell (p := ⟨b, 1, none⟩) rfl _).setCell (p := ⟨b, 2, none⟩) rfl _).alloc _
  generalize (((w.setCell ⟨b, 0, none⟩ (.int .i64 c)).setCell ⟨b, 1, none⟩ (.int .i64 0)).setCell ⟨b, 2, none⟩ (.int .i64 o)).alloc (.cells #[.int .i64 c, .int .i64 0, .int .i64 o] 27) = V at hX hO ⊢
  simp [bodyPostS, results, Tryd.results45, hX, hO]

/-- What read answers, by the pure rule's answer. -/
def faultV (c o : Int) : Value := .agg #[.int .i64 c, .int .i64 0, .int .i64 o]
theorem scan_ahead {w W : World} {v : Value} {s : ByteArray} (hb : Below w.heap.size w W) (ho : W.ownsRow w.heap.size 78 6 v (scanX s).1.length ((scanX s).1.flatMap cells6)) {W2 : World} (hb2 : Below W.heap.size W W2) {ao : Option Addr} {cap : Nat} (hv : v = .slice ao (scanX s).1.length cap) {p : Nat} (hp : W.heap.size ≤ p) (hblk : W2.heap[p]? = some (.cells #[.slice ao (scanX s).1.length cap, .int .i64 (scanX s).2.1, .int .i64 0, .int .i64 ((scanX s).2.2 : Int), .int .i64 0] 76 (0, 0))) :
    Ahead W2 p ao cap (scanX s).1 (scanX s).2.1 ((scanX s).2.2 : Int) (scanX s).1 := by
  refine ⟨0, ⟨hblk, fun h0 => ?_, Nat.zero_le _, (scan_good s).2, (scan_good s).1⟩, rfl⟩
  obtain ⟨g, cap', e, hbase, hlt, hr⟩ := own_toks ho h0
  rw [hv] at e
  injection e with e1 e2 e3
  exact ⟨g, e1, by omega, fun j t ht => (hr j t ht).kept hb2⟩

end Go.Proofs.YtfbmddgjbmapiaaDoor
