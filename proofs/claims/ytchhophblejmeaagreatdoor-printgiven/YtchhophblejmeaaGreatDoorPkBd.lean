/- parse.read's deferred function; where the reader stands at first. parse.read: a text's tokens, taken by a rule; where it gives up, the fault. parse's reader takes an atom without variables. parse's reader takes an atom without variables, by its name. parse's reader takes facts, and a query. parse.read: a text's tokens, taken by a rule; where it gives up, the fault. parse.read: a text's tokens, taken by a rule; where it gives up, the fault. parse.Program, parse.Facts, parse.Query. -/
import Derived.Test.YtchhophblejmeaaGreatDoorProg
import Derived.Test.YtchhophblejmeaaGreatDoorPkB8
import Derived.Test.YtchhophblejmeaaGreatDoorPkB4
import Derived.Defers
import Derived.Recover
import Derived.Test.YtchhophblejmeaaGreatDoorPkB9

namespace Go.Proofs.YtchhophblejmeaaGreatDoor
set_option linter.unusedSimpArgs false
set_option linter.unusedVariables false
open Go.RowKit

theorem fault_cells {V : World} {b : Nat} {u0 u1 u2 : Value} (h : V.heap[b]? = some (.cells #[u0, u1, u2] 31 (0, 0))) : (V.cell? ⟨b, 0, none⟩ = some u0 ∧ V.cell? ⟨b, 1, none⟩ = some u1 ∧ V.cell? ⟨b, 2, none⟩ = some u2) ∧ (V.frozen? ⟨b, 0, none⟩ = false ∧ V.frozen? ⟨b, 1, none⟩ = false ∧ V.frozen? ⟨b, 2, none⟩ = false) := by
  refine ⟨⟨?_, ?_, ?_⟩, ⟨?_, ?_, ?_⟩⟩ <;> simp [World.cell?, World.frozen?, h]

set_option maxRecDepth 100000 in
set_option maxHeartbeats 1000000 in
theorem idleProg (p : Addr) (w : World) :
    CallsD Tryz.prog 54 #[.pointer (some p)] .returning w fun e u' w' => e = .returned (.tuple #[]) ∧ u' = .returning ∧ w' = w := by
  refine callsD_of_wpS Tryz.func54 rfl fun c₀ cs hu => ?_
  apply wpS_seq
  apply wpS_region
  simp [wpOpsS, go_sem, recoverD, hu, Tryz.ntmps54, Exit.thenS]
  apply wpS_seq
  apply wpS_seq
  apply wpS_region
  simp [wpOpsS, go_sem, Exit.thenS]
  refine wpS_cond (t := true) (by simp [Act.eval, Array.replicate]) ?_
  simp only [if_true]
  refine wpS_of_wp (wp_ret ?_)
  cases c₀
  simp_all [bodyPostS, results, Tryz.results54, Exit.thenS]

set_option maxRecDepth 100000 in
set_option maxHeartbeats 1000000 in
theorem caughtProg (b : Nat) (c o : Int) (older : List PanicEntry) (w : World) (hb : w.heap[b]? = some (.cells #[.int .i64 0, .int .i64 0, .int .i64 0] 31 (0, 0))) :
    CallsD Tryz.prog 54 #[.pointer (some ⟨b, 0, none⟩)] (.panicking ({ v := faultP c o, recovered := false } :: older)) w fun e u' w' =>
      e = .returned (.tuple #[]) ∧ u' = .panicking ({ v := faultP c o, recovered := true } :: older) ∧ w'.heap[b]? = some (.cells #[.int .i64 c, .int .i64 0, .int .i64 o] 31 (0, 0)) ∧ Only (fun k => k = b) w w' := by
  obtain ⟨⟨c0, c1, c2⟩, ⟨z0, z1, z2⟩⟩ := fault_cells hb
  have hlt := (Array.getElem?_eq_some_iff.1 hb).1
  have hne : ¬ b = w.heap.size := by omega
  have hne2 : ¬ w.heap.size = b := by omega
  have hta : ∀ W : World, (Instr.typeAssert (faultP c o) 20 31 true).run Tryz.prog W = .ok (.tuple #[.agg #[.int .i64 c, .int .i64 0, .int .i64 o], .bool true]) W := fun W => by rfl
  refine callsD_of_wpS Tryz.func54 rfl fun c₀ cs hu => ?_
  apply wpS_seq
  apply wpS_region
  simp [wpOpsS, go_sem, recoverD, hu, Tryz.ntmps54, Exit.thenS]
  apply wpS_seq
  apply wpS_seq
  apply wpS_region
  simp [wpOpsS, go_sem, Exit.thenS]
  refine wpS_cond (t := false) (by simp [Act.eval, Array.replicate]) ?_
  simp only [Bool.false_eq_true, if_false]
  refine wpS_of_wp (wp_skip ?_)
  simp only [Exit.thenS]
  refine wpS_of_wp ?_
  change Code.wp _ _ _ ⟨#[.pointer (some ⟨b, 0, none⟩), faultP c o, undef, undef, faultP c o, faultP c o, .bool false, undef, undef, undef, undef, undef, undef, undef, undef, undef], []⟩ w
  go_wp2
  have hX : ((((w.setCell ⟨b, 0, none⟩ (.int .i64 c)).setCell ⟨b, 1, none⟩ (.int .i64 0)).setCell ⟨b, 2, none⟩ (.int .i64 o)).alloc (.cells #[.int .i64 c, .int .i64 0, .int .i64 o] 31)).heap[b]? = some (.cells #[.int .i64 c, .int .i64 0, .int .i64 o] 31 (0, 0)) := by
    rw [(belowA _ _).block _ (by simp; exact hlt)]
    simp [World.setCell, Array.getElem?_modify, hb]
  have hO : Only (fun k => k = b) w ((((w.setCell ⟨b, 0, none⟩ (.int .i64 c)).setCell ⟨b, 1, none⟩ (.int .i64 0)).setCell ⟨b, 2, none⟩ (.int .i64 o)).alloc (.cells #[.int .i64 c, .int .i64 0, .int .i64 o] 31)) :=
    ((((Only.refl (fun k => k = b) w).setCell (p := ⟨b, 0, none⟩) rfl _).setCell (p := ⟨b, 1, none⟩) rfl _).setCell (p := ⟨b, 2, none⟩) rfl _).alloc _
  generalize (((w.setCell ⟨b, 0, none⟩ (.int .i64 c)).setCell ⟨b, 1, none⟩ (.int .i64 0)).setCell ⟨b, 2, none⟩ (.int .i64 o)).alloc (.cells #[.int .i64 c, .int .i64 0, .int .i64 o] 31) = V at hX hO ⊢
  simp [bodyPostS, results, Tryz.results54, hX, hO]

set_option maxRecDepth 100000 in
set_option maxHeartbeats 1000000 in
theorem idleFacts (p : Addr) (w : World) :
    CallsD Tryz.prog 52 #[.pointer (some p)] .returning w fun e u' w' => e = .returned (.tuple #[]) ∧ u' = .returning ∧ w' = w := by
  refine callsD_of_wpS Tryz.func52 rfl fun c₀ cs hu => ?_
  apply wpS_seq
  apply wpS_region
  simp [wpOpsS, go_sem, recoverD, hu, Tryz.ntmps52, Exit.thenS]
  apply wpS_seq
  apply wpS_seq
  apply wpS_region
  simp [wpOpsS, go_sem, Exit.thenS]
  refine wpS_cond (t := true) (by simp [Act.eval, Array.replicate]) ?_
  simp only [if_true]
  refine wpS_of_wp (wp_ret ?_)
  cases c₀
  simp_all [bodyPostS, results, Tryz.results52, Exit.thenS]

set_option maxRecDepth 100000 in
set_option maxHeartbeats 1000000 in
theorem caughtFacts (b : Nat) (c o : Int) (older : List PanicEntry) (w : World) (hb : w.heap[b]? = some (.cells #[.int .i64 0, .int .i64 0, .int .i64 0] 31 (0, 0))) :
    CallsD Tryz.prog 52 #[.pointer (some ⟨b, 0, none⟩)] (.panicking ({ v := faultP c o, recovered := false } :: older)) w fun e u' w' =>
      e = .returned (.tuple #[]) ∧ u' = .panicking ({ v := faultP c o, recovered := true } :: older) ∧ w'.heap[b]? = some (.cells #[.int .i64 c, .int .i64 0, .int .i64 o] 31 (0, 0)) ∧ Only (fun k => k = b) w w' := by
  obtain ⟨⟨c0, c1, c2⟩, ⟨z0, z1, z2⟩⟩ := fault_cells hb
  have hlt := (Array.getElem?_eq_some_iff.1 hb).1
  have hne : ¬ b = w.heap.size := by omega
  have hne2 : ¬ w.heap.size = b := by omega
  have hta : ∀ W : World, (Instr.typeAssert (faultP c o) 20 31 true).run Tryz.prog W = .ok (.tuple #[.agg #[.int .i64 c, .int .i64 0, .int .i64 o], .bool true]) W := fun W => by rfl
  refine callsD_of_wpS Tryz.func52 rfl fun c₀ cs hu => ?_
  apply wpS_seq
  apply wpS_region
  simp [wpOpsS, go_sem, recoverD, hu, Tryz.ntmps52, Exit.thenS]
  apply wpS_seq
  apply wpS_seq
  apply wpS_region
  simp [wpOpsS, go_sem, Exit.thenS]
  refine wpS_cond (t := false) (by simp [Act.eval, Array.replicate]) ?_
  simp only [Bool.false_eq_true, if_false]
  refine wpS_of_wp (wp_skip ?_)
  simp only [Exit.thenS]
  refine wpS_of_wp ?_
  change Code.wp _ _ _ ⟨#[.pointer (some ⟨b, 0, none⟩), faultP c o, undef, undef, faultP c o, faultP c o, .bool false, undef, undef, undef, undef, undef, undef, undef, undef, undef], []⟩ w
  go_wp2
  have hX : ((((w.setCell ⟨b, 0, none⟩ (.int .i64 c)).setCell ⟨b, 1, none⟩ (.int .i64 0)).setCell ⟨b, 2, none⟩ (.int .i64 o)).alloc (.cells #[.int .i64 c, .int .i64 0, .int .i64 o] 31)).heap[b]? = some (.cells #[.int .i64 c, .int .i64 0, .int .i64 o] 31 (0, 0)) := by
    rw [(belowA _ _).block _ (by simp; exact hlt)]
    simp [World.setCell, Array.getElem?_modify, hb]
  have hO : Only (fun k => k = b) w ((((w.setCell ⟨b, 0, none⟩ (.int .i64 c)).setCell ⟨b, 1, none⟩ (.int .i64 0)).setCell ⟨b, 2, none⟩ (.int .i64 o)).alloc (.cells #[.int .i64 c, .int .i64 0, .int .i64 o] 31)) :=
    ((((Only.refl (fun k => k = b) w).setCell (p := ⟨b, 0, none⟩) rfl _).setCell (p := ⟨b, 1, none⟩) rfl _).setCell (p := ⟨b, 2, none⟩) rfl _).alloc _
  generalize (((w.setCell ⟨b, 0, none⟩ (.int .i64 c)).setCell ⟨b, 1, none⟩ (.int .i64 0)).setCell ⟨b, 2, none⟩ (.int .i64 o)).alloc (.cells #[.int .i64 c, .int .i64 0, .int .i64 o] 31) = V at hX hO ⊢
  simp [bodyPostS, results, Tryz.results52, hX, hO]

set_option maxRecDepth 100000 in
set_option maxHeartbeats 1000000 in
theorem idleQuery (p : Addr) (w : World) :
    CallsD Tryz.prog 60 #[.pointer (some p)] .returning w fun e u' w' => e = .returned (.tuple #[]) ∧ u' = .returning ∧ w' = w := by
  refine callsD_of_wpS Tryz.func60 rfl fun c₀ cs hu => ?_
  apply wpS_seq
  apply wpS_region
  simp [wpOpsS, go_sem, recoverD, hu, Tryz.ntmps60, Exit.thenS]
  apply wpS_seq
  apply wpS_seq
  apply wpS_region
  simp [wpOpsS, go_sem, Exit.thenS]
  refine wpS_cond (t := true) (by simp [Act.eval, Array.replicate]) ?_
  simp only [if_true]
  refine wpS_of_wp (wp_ret ?_)
  cases c₀
  simp_all [bodyPostS, results, Tryz.results60, Exit.thenS]

set_option maxRecDepth 100000 in
set_option maxHeartbeats 1000000 in
theorem caughtQuery (b : Nat) (c o : Int) (older : List PanicEntry) (w : World) (hb : w.heap[b]? = some (.cells #[.int .i64 0, .int .i64 0, .int .i64 0] 31 (0, 0))) :
    CallsD Tryz.prog 60 #[.pointer (some ⟨b, 0, none⟩)] (.panicking ({ v := faultP c o, recovered := false } :: older)) w fun e u' w' =>
      e = .returned (.tuple #[]) ∧ u' = .panicking ({ v := faultP c o, recovered := true } :: older) ∧ w'.heap[b]? = some (.cells #[.int .i64 c, .int .i64 0, .int .i64 o] 31 (0, 0)) ∧ Only (fun k => k = b) w w' := by
  obtain ⟨⟨c0, c1, c2⟩, ⟨z0, z1, z2⟩⟩ := fault_cells hb
  have hlt := (Array.getElem?_eq_some_iff.1 hb).1
  have hne : ¬ b = w.heap.size := by omega
  have hne2 : ¬ w.heap.size = b := by omega
  have hta : ∀ W : World, (Instr.typeAssert (faultP c o) 20 31 true).run Tryz.prog W = .ok (.tuple #[.agg #[.int .i64 c, .int .i64 0, .int .i64 o], .bool true]) W := fun W => by rfl
  refine callsD_of_wpS Tryz.func60 rfl fun c₀ cs hu => ?_
  apply wpS_seq
  apply wpS_region
  simp [wpOpsS, go_sem, recoverD, hu, Tryz.ntmps60, Exit.thenS]
  apply wpS_seq
  apply wpS_seq
  apply wpS_region
  simp [wpOpsS, go_sem, Exit.thenS]
  refine wpS_cond (t := false) (by simp [Act.eval, Array.replicate]) ?_
  simp only [Bool.false_eq_true, if_false]
  refine wpS_of_wp (wp_skip ?_)
  simp only [Exit.thenS]
  refine wpS_of_wp ?_
  change Code.wp _ _ _ ⟨#[.pointer (some ⟨b, 0, none⟩), faultP c o, undef, undef, faultP c o, faultP c o, .bool false, undef, undef, undef, undef, undef, undef, undef, undef, undef], []⟩ w
  go_wp2
  have hX : ((((w.setCell ⟨b, 0, none⟩ (.int .i64 c)).setCell ⟨b, 1, none⟩ (.int .i64 0)).setCell ⟨b, 2, none⟩ (.int .i64 o)).alloc (.cells #[.int .i64 c, .int .i64 0, .int .i64 o] 31)).heap[b]? = some (.cells #[.int .i64 c, .int .i64 0, .int .i64 o] 31 (0, 0)) := by
    rw [(belowA _ _).block _ (by simp; exact hlt)]
    simp [World.setCell, Array.getElem?_modify, hb]
  have hO : Only (fun k => k = b) w ((((w.setCell ⟨b, 0, none⟩ (.int .i64 c)).setCell ⟨b, 1, none⟩ (.int .i64 0)).setCell ⟨b, 2, none⟩ (.int .i64 o)).alloc (.cells #[.int .i64 c, .int .i64 0, .int .i64 o] 31)) :=
    ((((Only.refl (fun k => k = b) w).setCell (p := ⟨b, 0, none⟩) rfl _).setCell (p := ⟨b, 1, none⟩) rfl _).setCell (p := ⟨b, 2, none⟩) rfl _).alloc _
  generalize (((w.setCell ⟨b, 0, none⟩ (.int .i64 c)).setCell ⟨b, 1, none⟩ (.int .i64 0)).setCell ⟨b, 2, none⟩ (.int .i64 o)).alloc (.cells #[.int .i64 c, .int .i64 0, .int .i64 o] 31) = V at hX hO ⊢
  simp [bodyPostS, results, Tryz.results60, hX, hO]

/-- What read answers, by the pure rule's answer. -/
def faultV (c o : Int) : Value := .agg #[.int .i64 c, .int .i64 0, .int .i64 o]
theorem scan_ahead {w W : World} {v : Value} {s : ByteArray} (hb : Below w.heap.size w W) (ho : W.ownsRow w.heap.size 116 6 v (scanX s).1.length ((scanX s).1.flatMap cells6)) {W2 : World} (hb2 : Below W.heap.size W W2) {ao : Option Addr} {cap : Nat} (hv : v = .slice ao (scanX s).1.length cap) {p : Nat} (hp : W.heap.size ≤ p) (hblk : W2.heap[p]? = some (.cells #[.slice ao (scanX s).1.length cap, .int .i64 (scanX s).2.1, .int .i64 0, .int .i64 ((scanX s).2.2 : Int), .int .i64 0] 113 (0, 0))) :
    Ahead W2 p ao cap (scanX s).1 (scanX s).2.1 ((scanX s).2.2 : Int) (scanX s).1 := by
  refine ⟨0, ⟨hblk, fun h0 => ?_, Nat.zero_le _, (scan_good s).2, (scan_good s).1⟩, rfl⟩
  obtain ⟨g, cap', e, hbase, hlt, hr⟩ := own_toks ho h0
  rw [hv] at e
  injection e with e1 e2 e3
  exact ⟨g, e1, by omega, fun j t ht => (hr j t ht).kept hb2⟩

end Go.Proofs.YtchhophblejmeaaGreatDoor

namespace Go.Proofs.YtchhophblejmeaaGreatDoor
set_option linter.unusedSimpArgs false
set_option linter.unusedVariables false
open Go.RowKit

def ReadProg (w : World) (s : ByteArray) (e : Ending) (w' : World) : Prop :=
  match progP (scanX s).2.1 ((scanX s).2.2 : Int) (scanX s).1 with
  | .bad ec eo => e = .returned (.tuple #[.agg #[.slice none 0 0], faultV ec eo]) ∧ Below w.heap.size w w'
  | .ok b _ => ∃ v cs, e = .returned (.tuple #[.agg #[v], faultV 0 0]) ∧ cs.map Clx.pur = b ∧ cs.length ≤ 512 ∧ Grow elClx 88 w.heap.size w' v cs ∧ Below w.heap.size w w'

set_option maxRecDepth 100000 in
set_option maxHeartbeats 2000000 in
theorem readProg_any (s : ByteArray) (w : World) (hl : LexLaid w) (hs : s.size ≤ 140737488351232) :
    Calls Tryz.prog 34 #[.string s, .func (.func 35) #[] #[]] w (ReadProg w s) := by
  have hmf : ∀ (fn : Fn) (first cap : Array Value) (w : World), (Instr.makeFunc fn first cap).run Tryz.prog w = .ok (.func fn first cap) w := fun _ _ _ _ => rfl
  have HSc := hide (fun (W : World) (hb : Below w.heap.size w W) => scan_any s W (hl.kept hb) hs)
  clear hl hs
  unfold faultVal at HSc
  obtain ⟨res, hres⟩ : ∃ res, progP (scanX s).2.1 ((scanX s).2.2 : Int) (scanX s).1 = res := ⟨_, rfl⟩
  obtain ⟨Post, hPost⟩ : ∃ Post : Ending → World → Prop, Post = ReadProg w s := ⟨_, rfl⟩
  rw [← hPost]
  have PB : Hid (∀ ec eo w', res = .bad ec eo → Below w.heap.size w w' → Post (.returned (.tuple #[.agg #[.slice none 0 0], .agg #[.int .i64 ec, .int .i64 0, .int .i64 eo]])) w') := fun ec eo w' hr hb => by
    rw [hPost]; unfold ReadProg; rw [hres, hr]; exact ⟨rfl, hb⟩
  have PG : Hid (∀ b r v cs w', res = .ok b r → cs.map Clx.pur = b → cs.length ≤ 512 → Grow elClx 88 w.heap.size w' v cs → Below w.heap.size w w' → Post (.returned (.tuple #[.agg #[v], .agg #[.int .i64 0, .int .i64 0, .int .i64 0]])) w') := fun b r v cs w' hr h1 h2 h3 h4 => by
    rw [hPost]; unfold ReadProg; rw [hres, hr]; exact ⟨v, cs, rfl, h1, h2, h3, h4⟩
  have HR := hide hres
  clear hPost hres
  go_enter_defers Tryz.func34, Tryz.ntmps34
  go_wp2_with (go_at_call 49; refine (HSc.out _ (below2a _ _ _)).mono ?_; rintro e w1 ⟨v, rfl, ho1, hb1⟩; obtain ⟨ao, cap, rfl⟩ := own_shape ho1; have HO1 := hide ho1; have HB1 := hide hb1; clear ho1 hb1)
  have hs1 : w.heap.size + 2 ≤ w1.heap.size := by have := HB1.out.size; simp at this; omega
  have HA := hide (scan_ahead HB1.out HO1.out (W2 := (w1.alloc (.cells #[.int .i64 (scanX s).2.1, .int .i64 0, .int .i64 ((scanX s).2.2 : Int)] 31)).alloc (.cells #[.slice ao (scanX s).1.length cap, .int .i64 (scanX s).2.1, .int .i64 0, .int .i64 ((scanX s).2.2 : Int), .int .i64 0] 113)) (below2a w1 _ _) rfl (p := w1.heap.size + 1) (by omega) (by have := heap_alloc_new (w1.alloc (.cells #[.int .i64 (scanX s).2.1, .int .i64 0, .int .i64 ((scanX s).2.2 : Int)] 31)) (.cells #[.slice ao (scanX s).1.length cap, .int .i64 (scanX s).2.1, .int .i64 0, .int .i64 ((scanX s).2.2 : Int), .int .i64 0] 113); simpa using this))
  have HP := program_any HA.out
  rw [HR.out] at HP
  have HK : Hid (∀ w2, Only (fun k => k = w1.heap.size + 1) ((w1.alloc (.cells #[.int .i64 (scanX s).2.1, .int .i64 0, .int .i64 ((scanX s).2.2 : Int)] 31)).alloc (.cells #[.slice ao (scanX s).1.length cap, .int .i64 (scanX s).2.1, .int .i64 0, .int .i64 ((scanX s).2.2 : Int), .int .i64 0] 113)) w2 → w2.heap[w.heap.size]? = some (.cells #[.slice none 0 0] 47 (0, 0)) ∧ w2.heap[w.heap.size + 1]? = some (.cells #[.int .i64 0, .int .i64 0, .int .i64 0] 31 (0, 0)) ∧ Only (fun k => w.heap.size ≤ k) w w2) := fun w2 ho => by
    have q : ∀ k, k < w.heap.size + 2 → w2.heap[k]? = ((w.alloc (.cells #[.slice none 0 0] 47)).alloc (.cells #[.int .i64 0, .int .i64 0, .int .i64 0] 31)).heap[k]? := fun k hk => by
      rw [ho.block k (by simp; omega) (by omega), (below2a w1 _ _).block k (by omega), HB1.out.block k (by simp; omega)]
    refine ⟨?_, ?_, ((Only.of_below (below2a w _ _) _).trans (Only.of_below HB1.out _)).trans ((Only.of_below (below2a w1 _ _) _).trans (ho.mono fun k _ (e : k = w1.heap.size + 1) => by omega))⟩
    · rw [q _ (by omega), (belowA (w.alloc _) _).block _ (by simp)]; exact heap_alloc_new w _
    · rw [q _ (by omega)]
      have := heap_alloc_new (w.alloc (.cells #[.slice none 0 0] 47)) (.cells #[.int .i64 0, .int .i64 0, .int .i64 0] 31)
      simpa using this
  clear HO1 HB1 HSc HR
  cases res with
  | bad ec eo =>
    refine HP.mono ?_
    intro e w2 hq
    obtain ⟨rfl, ho2⟩ := progPost_bad hq
    obtain ⟨k0, k1, k2⟩ := HK.out w2 ho2
    clear hq HP HA
    refine leaves_cons (f := 54) (args := #[.pointer (some ⟨w.heap.size + 1, 0, none⟩)]) (by simp) (by simp [go_sem]) ?_
    refine (caughtProg (w.heap.size + 1) ec eo [] w2 k1).mono ?_
    rintro e u' w3 ⟨rfl, rfl, h3, o3⟩
    have h0 : w3.heap[w.heap.size]? = some (.cells #[.slice none 0 0] 47 (0, 0)) := by rw [o3.block _ (Array.getElem?_eq_some_iff.1 k0).1 (by omega)]; exact k0
    have c0 : w3.cell? ⟨w.heap.size, 0, none⟩ = some (.slice none 0 0) := by simp [World.cell?, h0]
    obtain ⟨⟨d0, d1, d2⟩, -⟩ := fault_cells h3
    have HF := hide (PB.out ec eo w3 rfl ((k2.trans (o3.mono fun k _ (e : k = w.heap.size + 1) => by omega)).below (Nat.le_refl _) (fun k hk e => by omega)))
    clear o3 h3 h0 k0 k1 k2
    simp [Leaves, settle, results, Tryz.results34, go_sem, c0, d0, d1, d2]
    exact HF.out
  | ok b r =>
    refine HP.mono ?_
    intro e w2 hq
    obtain ⟨v, cs, rfl, hpur, hlen, hgr, ha2, ho2⟩ := progPost_ok hq
    obtain ⟨va, vc, rfl, -⟩ := hgr.shape
    obtain ⟨k0, k1, k2⟩ := HK.out w2 ho2
    have HPu := hide hpur
    have HLn := hide hlen
    have HG := hide hgr
    have HK2 := hide k2
    clear hq HP HA hpur hlen hgr ha2 ho2
    have c0 : w2.cell? ⟨w.heap.size, 0, none⟩ = some (.slice none 0 0) := by simp [World.cell?, k0]
    have z0 : w2.frozen? ⟨w.heap.size, 0, none⟩ = false := by simp [World.frozen?, k0]
    obtain ⟨⟨d0, d1, d2⟩, ⟨y0, y1, y2⟩⟩ := fault_cells k1
    go_wp2_with fail
    have hO : Only (fun k => k = w.heap.size ∨ k = w.heap.size + 1) w2 ((((w2.setCell ⟨w.heap.size, 0, none⟩ (.slice va cs.length vc)).setCell ⟨w.heap.size + 1, 0, none⟩ (.int .i64 0)).setCell ⟨w.heap.size + 1, 1, none⟩ (.int .i64 0)).setCell ⟨w.heap.size + 1, 2, none⟩ (.int .i64 0)) := ((((Only.refl (fun k => k = w.heap.size ∨ k = w.heap.size + 1) w2).setCell (p := ⟨w.heap.size, 0, none⟩) (.inl rfl) _).setCell (p := ⟨w.heap.size + 1, 0, none⟩) (.inr rfl) _).setCell (p := ⟨w.heap.size + 1, 1, none⟩) (.inr rfl) _).setCell (p := ⟨w.heap.size + 1, 2, none⟩) (.inr rfl) _
    have hV0 : ((((w2.setCell ⟨w.heap.size, 0, none⟩ (.slice va cs.length vc)).setCell ⟨w.heap.size + 1, 0, none⟩ (.int .i64 0)).setCell ⟨w.heap.size + 1, 1, none⟩ (.int .i64 0)).setCell ⟨w.heap.size + 1, 2, none⟩ (.int .i64 0)).heap[w.heap.size]? = some (.cells #[.slice va cs.length vc] 47 (0, 0)) := by simp [World.setCell, Array.getElem?_modify, k0]
    have hV1 : ((((w2.setCell ⟨w.heap.size, 0, none⟩ (.slice va cs.length vc)).setCell ⟨w.heap.size + 1, 0, none⟩ (.int .i64 0)).setCell ⟨w.heap.size + 1, 1, none⟩ (.int .i64 0)).setCell ⟨w.heap.size + 1, 2, none⟩ (.int .i64 0)).heap[w.heap.size + 1]? = some (.cells #[.int .i64 0, .int .i64 0, .int .i64 0] 31 (0, 0)) := by simp [World.setCell, Array.getElem?_modify, k1]
    generalize (((w2.setCell ⟨w.heap.size, 0, none⟩ (.slice va cs.length vc)).setCell ⟨w.heap.size + 1, 0, none⟩ (.int .i64 0)).setCell ⟨w.heap.size + 1, 1, none⟩ (.int .i64 0)).setCell ⟨w.heap.size + 1, 2, none⟩ (.int .i64 0) = V at hO hV0 hV1 ⊢
    clear c0 z0 d0 d1 d2 y0 y1 y2 k0 k1
    refine leaves_cons (f := 54) (args := #[.pointer (some ⟨w.heap.size + 1, 0, none⟩)]) (by simp) (by simp [go_sem]) ?_
    refine (idleProg ⟨w.heap.size + 1, 0, none⟩ V).mono ?_
    rintro e u' w3 ⟨rfl, rfl, hw⟩
    have hw := hw.symm
    subst hw
    have c0 : V.cell? ⟨w.heap.size, 0, none⟩ = some (.slice va cs.length vc) := by simp [World.cell?, hV0]
    obtain ⟨⟨d0, d1, d2⟩, -⟩ := fault_cells hV1
    have HF := hide (PG.out b r (.slice va cs.length vc) cs V rfl HPu.out HLn.out ((HG.out.above fun k hk hlt => hO.block k hlt (by simp at hk; omega)).mono (by simp <;> omega)) ((HK2.out.trans (hO.mono fun k _ (e : k = w.heap.size ∨ k = w.heap.size + 1) => by omega)).below (Nat.le_refl _) (fun k hk e => by omega)))
    clear hO hV0 hV1
    simp [Leaves, settle, results, Tryz.results34, go_sem, c0, d0, d1, d2]
    exact HF.out
end Go.Proofs.YtchhophblejmeaaGreatDoor

namespace Go.Proofs.YtchhophblejmeaaGreatDoor
set_option linter.unusedSimpArgs false
set_option linter.unusedVariables false
open Go.RowKit

set_option maxHeartbeats 4000000 in
set_option maxRecDepth 100000 in
theorem atomValue {w : World} {p : Nat} {ao : Option Addr} {cap : Nat} {L : List Tok} {c f : Int} {R : List Tok} (name : Tok) (h : Ahead w p ao cap L c f R) (hname : name.good) :
    Calls Tryz.prog 67 #[.pointer (some ⟨p, 0, none⟩), tokV name, .func (.func 68) #[] #[]] w (AtmPost w p ao cap L c f (atomP c f valueKs name R)) := by
  unfold tokV
  match R, h with
  | [], h =>
    have HL := hide (fun W (hb : Below w.heap.size w W) => look_none (h.kept hb))
    have HE : Hid (atomP c f valueKs name [] = .bad c f) := rfl
    rw [HE.out]
    clear HE h
    unfold AtmPost
    go_enter Tryz.func67, Tryz.ntmps67
    go_wp2_with (go_at_call 69; refine (HL.out _ (below3a _ _ _ _)).mono ?_; rintro e w1 ⟨rfl, hb⟩)
    exact ⟨rfl, rfl, Only.of_below (belowt2 (below3a _ _ _ _) hb) _⟩
  | x :: r, h =>
    have HL := hide (fun W (hb : Below w.heap.size w W) => look_good (h.kept hb))
    unfold tokV at HL
    by_cases h5 : x.k = 5
    · have hT : takeP c f [5] (x :: r) = .ok x r := by simp [takeP, h5]
      have HE : Hid (atomP c f valueKs name (x :: r) = toAtom name (argsP c f valueKs [] r)) := by show atomP _ _ _ _ _ = _; unfold atomP; simp only; rw [if_pos h5]; cases argsP c f valueKs [] r <;> rfl
      have hfd := tok_kind (.int .i64 x.k) (.string x.t) (.int .i64 x.n) (.int .i64 x.op) (.int .i64 (x.off : Int)) (.int .i64 (x.en : Int))
      have e5 : (x.k != 5) = false := by simpa using h5
      obtain ⟨res, hres⟩ : ∃ res, argsP c f valueKs [] r = res := ⟨_, rfl⟩
      rw [HE.out, hres]
      obtain ⟨Post, hPost⟩ : ∃ Post : Ending → World → Prop, Post = AtmPost w p ao cap L c f (toAtom name res) := ⟨_, rfl⟩
      rw [← hPost]
      have PB : Hid (∀ ec eo w', res = .bad ec eo → Only (fun k => k = p) w w' → Post (PEnd ec eo) w') := fun ec eo w' hr ho => by
        rw [hPost, hr]; exact ⟨rfl, ho⟩
      have PG : Hid (∀ ts r' v w', res = .ok ts r' → Lst elTrm w' (fun b => w.heap.size ≤ b) v ts → Ahead w' p ao cap L c f r' → Only (fun k => k = p) w w' → Post (.returned (.agg #[.string name.t, v, .int .i64 (name.off : Int)])) w') := fun ts r' v w' hr h1 h2 h3 => by
        rw [hPost, hr]; exact ⟨⟨name.t, v, name.off, ts⟩, rfl, rfl, ⟨(good_parts hname).1, (good_parts hname).2, h1⟩, h2, h3⟩
      have HRes := hide hres
      have H0 := hide h
      have hp := h.lt
      have HT : Hid (∀ W, Below w.heap.size w W → Calls Tryz.prog 51 #[.pointer (some ⟨p, 0, none⟩), .slice (some ⟨W.heap.size, 0, none⟩) 1 1] (W.alloc (.cells #[.int .i64 5] 3)) fun e w' => e = .returned (tokV x) ∧ Ahead w' p ao cap L c f r ∧ Only (fun b => b = p) W w') := fun W hb => take_lit_good [5] (h.kept hb) (by decide) hT
      clear HE h h5 hres hT hPost
      go_enter Tryz.func67, Tryz.ntmps67
      go_wp2_with (first
        | (go_at_call 69; refine (HL.out _ (below3a _ _ _ _)).mono ?_; rintro e w1 ⟨rfl, hb⟩; have HB := hide hb; have HW := hide (belowt2 (below3a _ _ _ _) hb); clear hb)
        | (go_at_call 51; refine (HT.out _ HW.out).mono ?_; rintro e w2 ⟨rfl, ha, ho⟩; have HA := hide ha; have HO := hide ho; clear ha ho))
      have HS : Hid (AtmLoop w w2 p ao cap L c f r name.t (name.off : Int) (.slice none 0 0) []) :=
        (AtmLoop.move ⟨H0.out.kept HW.out, atom_box2 HB.out, atom_box HB.out, World.ownsRow_nil _ _ _ _, Only.of_below HW.out _, hp, by simp, H0.out.tk⟩ HO.out HA.out : AtmLoop w w2 p ao cap L c f r name.t (name.off : Int) (.slice none 0 0) [])
      clear HA HO HT HL HB HW
      go_loopw [8] (fun _ wr => ∃ (acc : List Trm) (R : List Tok) (v : Value), acc.length ≤ 8 ∧ Hid (AtmLoop w wr p ao cap L c f R name.t (name.off : Int) v acc) ∧ Hid (argsP c f valueKs acc R = res)) (fun _ wr => 70000 - (intOf ((wr.cell? ⟨p, 4, none⟩).getD undef)).toNat)
      case atStart => exact ⟨[], r, _, by simp, HS, HRes⟩
      case round =>
        clear HS HRes hfd e5
        obtain ⟨acc, R, v, hacc, HS, HRes⟩ := hrel
        obtain ⟨ix, isz⟩ := HS.out.ah.index
        obtain ⟨vo, vc, rfl⟩ := own_shape HS.out.ow
        cases hT : takeP c f valueKs R with
        | bad ec eo =>
          have HP := hide (value_fail HS.out.ah hT)
          have HX : Hid (res = .bad ec eo) := by show _ = _; rw [← HRes.out]; exact args_bad1 hT
          clear hT
          go_wp2_with (go_at_call 68; refine HP.out.mono ?_; rintro e w3 ⟨rfl, hb⟩)
          exact ⟨rfl, PB.out _ _ _ HX.out (only_drop (HS.out.below hb).on)⟩
        | ok t r1 =>
          have HP := hide (value_good HS.out.ah hT)
          have tp := take_eq hT
          have HTok : Hid ((termP t).ok) := termP_ok (HS.out.ah.good t (by rw [tp.1]; exact List.mem_cons_self))
          unfold Trm.val at HP
          clear tp
          by_cases h8 : acc.length = 8
          · have HX : Hid (res = .bad 22 (termP t).off) := by show _ = _; rw [← HRes.out]; exact args_lim hT h8
            have HLm := hide (limit_bad 8 22 (termP t).off)
            rw [h8] at HS
            clear hT hacc
            go_wp2_with (first
              | (go_at_call 68; refine HP.out.mono ?_; rintro e w3 ⟨rfl, ha, ho⟩; have HS3 := hide (HS.out.move ho ha); clear ha ho; obtain ⟨d0, d1, d2, d3⟩ := (HS3.out.below (belowA w3 (.cells #[.int .i64 (termP t).k, .int .i64 (termP t).n, .string (termP t).s, .int .i64 (termP t).off] 54))).cells)
              | (go_at_call 53; refine (HLm.out _).mono ?_; rintro e w4 ⟨rfl, hw⟩; have hw := hw.symm; subst hw))
            exact ⟨rfl, PB.out _ _ _ HX.out (only_drop (HS3.out.below (belowA _ _)).on)⟩
          · have HLm := hide (limit_ok (acc.length : Int) 8 22 (termP t).off (h := by omega))
            have HNx := args_next (c := c) (f := f) hT h8
            have hlen1 : r1.length + 1 = R.length := by rw [(take_eq hT).1]; rfl
            have hacc8 : acc.length < 8 := by omega
            clear hT h8
            cases hU : takeP c f [7, 6] r1 with
            | bad ec eo =>
              have HX : Hid (res = .bad ec eo) := by show _ = _; rw [← HRes.out, HNx, hU]
              have HT2 : Hid (∀ (W : World) (n : Nat), W.heap.size = n → Ahead W p ao cap L c f r1 → Calls Tryz.prog 51 #[.pointer (some ⟨p, 0, none⟩), .slice (some ⟨n, 0, none⟩) 2 2] (W.alloc (.cells #[.int .i64 7, .int .i64 6] 3)) fun e w' => e = PEnd ec eo ∧ Below W.heap.size W w') := fun W n hn ha => hn ▸ take_lit_fail [7, 6] ha (by decide) hU
              clear hU HNx hlen1
              go_wp2_with (first
                | (go_at_call 68; refine HP.out.mono ?_; rintro e w3 ⟨rfl, ha, ho⟩; have HS3 := hide (HS.out.move ho ha); clear ha ho; obtain ⟨d0, d1, d2, d3⟩ := (HS3.out.below (belowA w3 (.cells #[.int .i64 (termP t).k, .int .i64 (termP t).n, .string (termP t).s, .int .i64 (termP t).off] 54))).cells; have HS5 := hide ((HS3.out.below (belowA w3 (.cells #[.int .i64 (termP t).k, .int .i64 (termP t).n, .string (termP t).s, .int .i64 (termP t).off] 54))).below (belowA _ (.cells #[.int .i64 (termP t).k, .int .i64 (termP t).n, .string (termP t).s, .int .i64 (termP t).off] 54))))
                | (go_at_call 53; refine (HLm.out _).mono ?_; rintro e w4 ⟨⟨v4, rfl⟩, hw⟩; have hw := hw.symm; subst hw)
                | (at_builtin; obtain ⟨i0, hi0, hz0, hz1, hz2⟩ := info_parts Tryz.infoTerm; refine wpList_push (w0 := (w3.alloc (.cells #[.int .i64 (termP t).k, .int .i64 (termP t).n, .string (termP t).s, .int .i64 (termP t).off] 54)).alloc (.cells #[.int .i64 (termP t).k, .int .i64 (termP t).n, .string (termP t).s, .int .i64 (termP t).off] 54)) elTrm rfl _ _ 40 rfl (w.heap.size + 3) 54 i0 _ 40 Tryz.underlying40 hi0 hz0 hz1 hz2 rfl (by decide) _ acc acc.length rfl rfl HS5.out.grow (termP t) (w3.heap.size + 1) 1 rfl (fun j u hu => by have := new_cells (w := w3.alloc (.cells #[.int .i64 (termP t).k, .int .i64 (termP t).n, .string (termP t).s, .int .i64 (termP t).off] 54)) (cs := #[.int .i64 (termP t).k, .int .i64 (termP t).n, .string (termP t).s, .int .i64 (termP t).off]) (t := 54) j u hu; simpa using this) HTok.out (by omega) (Below.refl _ _) HS5.out.base ?_; intro g cap' w5 HG5 HB5 HGr; clear HB5 hi0 hz0 hz1 hz2; obtain ⟨f0, f1⟩ := HS5.out.far HGr.out; have HS6 := hide (HS5.out.pushG HTok.out HGr.out HG5.out); clear HG5 HGr)
                | (go_at_call 51; refine (HT2.out _ _ (by simp) HS6.out.ah).mono ?_; rintro e w6 ⟨rfl, hb6⟩))
              exact ⟨rfl, PB.out _ _ _ HX.out (only_drop (HS6.out.below hb6).on)⟩
            | ok s r2 =>
              have HT2 : Hid (∀ (W : World) (n : Nat), W.heap.size = n → Ahead W p ao cap L c f r1 → Calls Tryz.prog 51 #[.pointer (some ⟨p, 0, none⟩), .slice (some ⟨n, 0, none⟩) 2 2] (W.alloc (.cells #[.int .i64 7, .int .i64 6] 3)) fun e w' => e = .returned (tokV s) ∧ Ahead w' p ao cap L c f r2 ∧ Only (fun b => b = p) W w') := fun W n hn ha => hn ▸ take_lit_good [7, 6] ha (by decide) hU
              have hfd2 := tok_kind (.int .i64 s.k) (.string s.t) (.int .i64 s.n) (.int .i64 s.op) (.int .i64 (s.off : Int)) (.int .i64 (s.en : Int))
              have hs76 := (take_eq hU).2
              have hlen2 : r2.length + 2 = R.length := by rw [← hlen1, (take_eq hU).1]; rfl
              unfold tokV at HT2
              by_cases h6 : s.k = 6
              · have e6 : (s.k == 6) = true := by simpa using h6
                have HX : Hid (res = .ok (acc ++ [termP t]) r2) := by show _ = _; rw [← HRes.out, HNx, hU]; simp only; rw [if_neg (by omega)]
                clear hU HNx hlen1 hlen2 hs76 h6
                go_wp2_with (first
                | (go_at_call 68; refine HP.out.mono ?_; rintro e w3 ⟨rfl, ha, ho⟩; have HS3 := hide (HS.out.move ho ha); clear ha ho; obtain ⟨d0, d1, d2, d3⟩ := (HS3.out.below (belowA w3 (.cells #[.int .i64 (termP t).k, .int .i64 (termP t).n, .string (termP t).s, .int .i64 (termP t).off] 54))).cells; have HS5 := hide ((HS3.out.below (belowA w3 (.cells #[.int .i64 (termP t).k, .int .i64 (termP t).n, .string (termP t).s, .int .i64 (termP t).off] 54))).below (belowA _ (.cells #[.int .i64 (termP t).k, .int .i64 (termP t).n, .string (termP t).s, .int .i64 (termP t).off] 54))))
                | (go_at_call 53; refine (HLm.out _).mono ?_; rintro e w4 ⟨⟨v4, rfl⟩, hw⟩; have hw := hw.symm; subst hw)
                | (at_builtin; obtain ⟨i0, hi0, hz0, hz1, hz2⟩ := info_parts Tryz.infoTerm; refine wpList_push (w0 := (w3.alloc (.cells #[.int .i64 (termP t).k, .int .i64 (termP t).n, .string (termP t).s, .int .i64 (termP t).off] 54)).alloc (.cells #[.int .i64 (termP t).k, .int .i64 (termP t).n, .string (termP t).s, .int .i64 (termP t).off] 54)) elTrm rfl _ _ 40 rfl (w.heap.size + 3) 54 i0 _ 40 Tryz.underlying40 hi0 hz0 hz1 hz2 rfl (by decide) _ acc acc.length rfl rfl HS5.out.grow (termP t) (w3.heap.size + 1) 1 rfl (fun j u hu => by have := new_cells (w := w3.alloc (.cells #[.int .i64 (termP t).k, .int .i64 (termP t).n, .string (termP t).s, .int .i64 (termP t).off] 54)) (cs := #[.int .i64 (termP t).k, .int .i64 (termP t).n, .string (termP t).s, .int .i64 (termP t).off]) (t := 54) j u hu; simpa using this) HTok.out (by omega) (Below.refl _ _) HS5.out.base ?_; intro g cap' w5 HG5 HB5 HGr; clear HB5 hi0 hz0 hz1 hz2; obtain ⟨f0, f1⟩ := HS5.out.far HGr.out; have HS6 := hide (HS5.out.pushG HTok.out HGr.out HG5.out); clear HG5 HGr)
                  | (go_at_call 51; refine (HT2.out _ _ (by simp) HS6.out.ah).mono ?_; rintro e w6 ⟨rfl, ha, ho⟩; have HS7 := hide (HS6.out.move ho ha); clear ha ho; obtain ⟨y0, y1, y2, y3⟩ := HS7.out.cells; obtain ⟨q0, q1, q2, q3, q4, q5⟩ := HS7.out.box))
                obtain ⟨z1, z2, z3⟩ := HS7.out.fin (by simp; omega) (.string name.t) (.slice (some ⟨g, 0, none⟩) (acc.length + 1) cap') (.int .i64 (name.off : Int))
                exact bodyPost_ret (atom_res _ (w.heap.size + 1) _ _ _ _ rfl (box3_put HS7.out.br _ _ _)) rfl (PG.out _ _ _ _ HX.out z1 z2 z3)
              · have e6 : (s.k == 6) = false := by simpa using h6
                have HX : Hid (argsP c f valueKs (acc ++ [termP t]) r2 = res) := by show _ = _; rw [← HRes.out, HNx, hU]; simp only; rw [if_pos (by simp at hs76; omega)]
                clear hU HNx hlen1 hs76 h6
                have HL2 := hide hlen2
                clear hlen2
                go_wp2_with (first
                | (go_at_call 68; refine HP.out.mono ?_; rintro e w3 ⟨rfl, ha, ho⟩; have HS3 := hide (HS.out.move ho ha); clear ha ho; obtain ⟨d0, d1, d2, d3⟩ := (HS3.out.below (belowA w3 (.cells #[.int .i64 (termP t).k, .int .i64 (termP t).n, .string (termP t).s, .int .i64 (termP t).off] 54))).cells; have HS5 := hide ((HS3.out.below (belowA w3 (.cells #[.int .i64 (termP t).k, .int .i64 (termP t).n, .string (termP t).s, .int .i64 (termP t).off] 54))).below (belowA _ (.cells #[.int .i64 (termP t).k, .int .i64 (termP t).n, .string (termP t).s, .int .i64 (termP t).off] 54))))
                | (go_at_call 53; refine (HLm.out _).mono ?_; rintro e w4 ⟨⟨v4, rfl⟩, hw⟩; have hw := hw.symm; subst hw)
                | (at_builtin; obtain ⟨i0, hi0, hz0, hz1, hz2⟩ := info_parts Tryz.infoTerm; refine wpList_push (w0 := (w3.alloc (.cells #[.int .i64 (termP t).k, .int .i64 (termP t).n, .string (termP t).s, .int .i64 (termP t).off] 54)).alloc (.cells #[.int .i64 (termP t).k, .int .i64 (termP t).n, .string (termP t).s, .int .i64 (termP t).off] 54)) elTrm rfl _ _ 40 rfl (w.heap.size + 3) 54 i0 _ 40 Tryz.underlying40 hi0 hz0 hz1 hz2 rfl (by decide) _ acc acc.length rfl rfl HS5.out.grow (termP t) (w3.heap.size + 1) 1 rfl (fun j u hu => by have := new_cells (w := w3.alloc (.cells #[.int .i64 (termP t).k, .int .i64 (termP t).n, .string (termP t).s, .int .i64 (termP t).off] 54)) (cs := #[.int .i64 (termP t).k, .int .i64 (termP t).n, .string (termP t).s, .int .i64 (termP t).off]) (t := 54) j u hu; simpa using this) HTok.out (by omega) (Below.refl _ _) HS5.out.base ?_; intro g cap' w5 HG5 HB5 HGr; clear HB5 hi0 hz0 hz1 hz2; obtain ⟨f0, f1⟩ := HS5.out.far HGr.out; have HS6 := hide (HS5.out.pushG HTok.out HGr.out HG5.out); clear HG5 HGr)
                  | (go_at_call 51; refine (HT2.out _ _ (by simp) HS6.out.ah).mono ?_; rintro e w6 ⟨rfl, ha, ho⟩; have HS7 := hide (HS6.out.move ho ha); clear ha ho))
                go_roundw
                case rel => exact ⟨acc ++ [termP t], r2, _, by simp; omega, HS7, HX⟩
                case measure =>
                  obtain ⟨jx, -⟩ := HS7.out.ah.index
                  have := HL2.out
                  omega
    · have HE : Hid (atomP c f valueKs name (x :: r) = .ok ⟨name.t, [], name.off⟩ (x :: r)) := by show atomP _ _ _ _ _ = _; unfold atomP; simp only; rw [if_neg h5]
      have e5 : (x.k != 5) = true := by simpa using h5
      have hfd := tok_kind (.int .i64 x.k) (.string x.t) (.int .i64 x.n) (.int .i64 x.op) (.int .i64 (x.off : Int)) (.int .i64 (x.en : Int))
      rw [HE.out]
      have H0 := hide h
      clear HE h h5
      unfold AtmPost
      go_enter Tryz.func67, Tryz.ntmps67
      go_wp2_with (go_at_call 69; refine (HL.out _ (below3a _ _ _ _)).mono ?_; rintro e w1 ⟨rfl, hb⟩; have HB := hide hb; clear hb; obtain ⟨k0, k1, k2, z0, z1, z2, a0, a1, a2⟩ := atom_boxes HB.out)
      have HO2 : Only (fun k => k = p ∨ w.heap.size ≤ k) w w1 := Only.of_below (belowt2 (below3a _ _ _ _) HB.out) _
      have HE := only_drop (((HO2.setCell (p := ⟨w.heap.size + 1, 0, none⟩) (.inr (Nat.le_add_right _ _)) (.string name.t)).setCell (p := ⟨w.heap.size + 1, 1, none⟩) (.inr (Nat.le_add_right _ _)) (.slice none 0 0)).setCell (p := ⟨w.heap.size + 1, 2, none⟩) (.inr (Nat.le_add_right _ _)) (.int .i64 (name.off : Int)))
      have HA2 := H0.out.box (H0.out.kept (belowt2 (below3a _ _ _ _) HB.out)) ((((Only.refl (fun b => w.heap.size ≤ b) w1).setCell (p := ⟨w.heap.size + 1, 0, none⟩) (Nat.le_add_right _ _) (.string name.t)).setCell (p := ⟨w.heap.size + 1, 1, none⟩) (Nat.le_add_right _ _) (.slice none 0 0)).setCell (p := ⟨w.heap.size + 1, 2, none⟩) (Nat.le_add_right _ _) (.int .i64 (name.off : Int)))
      exact bodyPost_ret (atom_res _ (w.heap.size + 1) _ _ _ _ rfl (box3_put (atom_box HB.out) _ _ _)) rfl ⟨⟨name.t, .slice none 0 0, name.off, []⟩, rfl, rfl, ⟨(good_parts hname).1, (good_parts hname).2, Lst.nil _ _ _⟩, HA2, HE⟩

end Go.Proofs.YtchhophblejmeaaGreatDoor

namespace Go.Proofs.YtchhophblejmeaaGreatDoor
set_option linter.unusedSimpArgs false
set_option linter.unusedVariables false
open Go.RowKit

theorem groundRes (W : World) (b : Nat) (u0 u1 u2 : Value) (tmps : Array Value) (ht : tmps[4]? = some (.pointer (some ⟨b, 0, none⟩))) (hb : W.heap[b]? = some (.cells #[u0, u1, u2] 42 (0, 0))) :
    (results Tryz.f50 tmps).run Tryz.prog W = .ok (.agg #[u0, u1, u2]) W := by
  obtain ⟨c0, c1, c2, -⟩ := box3_cells hb
  simp [results, Tryz.results50, go_sem, ht, c0, c1, c2]

set_option maxHeartbeats 1000000 in
set_option maxRecDepth 100000 in
theorem ground_any {w : World} {p : Nat} {ao : Option Addr} {cap : Nat} {L : List Tok} {c f : Int} {R : List Tok} (name : Tok) (h : Ahead w p ao cap L c f R) (hname : name.good) :
    Calls Tryz.prog 50 #[.pointer (some ⟨p, 0, none⟩), tokV name] w (AtmPost w p ao cap L c f (atomP c f valueKs name R)) := by
  have HC := hide (fun (W : World) (hb : Below w.heap.size w W) => atomValue name (h.kept hb) hname)
  have H0 := hide h
  have hp := h.lt
  clear h hname
  unfold tokV at *
  obtain ⟨res, hres⟩ : ∃ res, atomP c f valueKs name R = res := ⟨_, rfl⟩
  rw [hres] at HC ⊢
  clear hres
  cases res with
  | bad ec eo =>
    unfold AtmPost
    go_enter Tryz.func50, Tryz.ntmps50
    go_wp2_with (go_at_call 67; refine (HC.out _ (below2a _ _ _)).mono ?_; intro e w1 hq; obtain ⟨rfl, ho⟩ := atmPost_bad hq; clear hq)
    exact ⟨rfl, rfl, only_drop (only_wide (below2a _ _ _) ho)⟩
  | ok x r =>
    unfold AtmPost
    go_enter Tryz.func50, Tryz.ntmps50
    go_wp2_with (go_at_call 67; refine (HC.out _ (below2a _ _ _)).mono ?_; intro e w1 hq; obtain ⟨a, rfl, hpur, hok, ha, ho⟩ := atmPost_ok hq; clear hq; have HPu := hide hpur; have HOk := hide hok; have HA := hide ha; have HO := hide ho; have HBx := hide (second_box hp ho); clear hpur hok ha ho; unfold Atx.val; obtain ⟨q0, q1, q2, q3, q4, q5⟩ := box3_cells HBx.out; obtain ⟨va, vc, hv, -⟩ := HOk.out.2.2.shape)
    obtain ⟨z1, z2⟩ := fin_ahead H0.out HA.out (only_wide (below2a _ _ _) HO.out) (only_three (w.heap.size + 1) (.string a.p) a.v (.int .i64 a.off)) (by omega)
    have z3 := fin_ok elAtx (n := w.heap.size) HOk.out (only_three (w.heap.size + 1) (.string a.p) a.v (.int .i64 a.off)) (by simp) (by simp; omega)
    rw [hv] at z1 z2 z3
    exact bodyPost_ret (groundRes _ (w.heap.size + 1) _ _ _ _ rfl (box3_put HBx.out _ _ _)) rfl ⟨a, by unfold Atx.val; rw [hv], HPu.out, z3, z1, z2⟩
end Go.Proofs.YtchhophblejmeaaGreatDoor

namespace Go.Proofs.YtchhophblejmeaaGreatDoor
set_option linter.unusedSimpArgs false
set_option linter.unusedVariables false
open Go.RowKit

theorem Tryz.infoAtm : (Tryz.prog.info? 42).map (fun i => (i.zero, i.size, i.bytes)) = some (some (.agg #[.string ⟨#[]⟩, .slice none 0 0, .int .i64 0]), 3, 48) := by kernel_rfl

def FactsPost (w : World) (p : Nat) (ao : Option Addr) (cap : Nat) (L : List Tok) (c f : Int) (res : PR (List PAtom)) (e : Ending) (w' : World) : Prop :=
  match res with
  | .bad ec eo => e = PEnd ec eo ∧ Only (fun k => k = p) w w'
  | .ok b r => ∃ v ls, e = .returned v ∧ ls.map Atx.pur = b ∧ ls.length ≤ 4096 ∧ Grow elAtx 42 w.heap.size w' v ls ∧ Ahead w' p ao cap L c f r ∧ Only (fun k => k = p) w w'
theorem factsPost_bad {w w' : World} {p : Nat} {ao : Option Addr} {cap : Nat} {L : List Tok} {c f ec eo : Int} {e : Ending} (h : FactsPost w p ao cap L c f (.bad ec eo) e w') : e = PEnd ec eo ∧ Only (fun k => k = p) w w' := h
theorem factsPost_ok {w w' : World} {p : Nat} {ao : Option Addr} {cap : Nat} {L : List Tok} {c f : Int} {x : List PAtom} {r : List Tok} {e : Ending} (h : FactsPost w p ao cap L c f (.ok x r) e w') : ∃ v ls, e = .returned v ∧ ls.map Atx.pur = x ∧ ls.length ≤ 4096 ∧ Grow elAtx 42 w.heap.size w' v ls ∧ Ahead w' p ao cap L c f r ∧ Only (fun k => k = p) w w' := h

set_option maxHeartbeats 4000000 in
set_option maxRecDepth 100000 in
theorem facts_any {w : World} {p : Nat} {ao : Option Addr} {cap : Nat} {L : List Tok} {c f : Int} {R : List Tok} (h : Ahead w p ao cap L c f R) :
    Calls Tryz.prog 33 #[.pointer (some ⟨p, 0, none⟩)] w (FactsPost w p ao cap L c f (factsP c f R)) := by
  obtain ⟨res, hres⟩ : ∃ res, factsP c f R = res := ⟨_, rfl⟩
  rw [hres]
  have HRes0 : Hid (factsF c f (R.length + 1) [] R = res) := hres
  obtain ⟨Post, hPost⟩ : ∃ Post : Ending → World → Prop, Post = FactsPost w p ao cap L c f res := ⟨_, rfl⟩
  rw [← hPost]
  have PB : Hid (∀ ec eo w', res = .bad ec eo → Only (fun k => k = p) w w' → Post (PEnd ec eo) w') := fun ec eo w' hr ho => by
    rw [hPost, hr]; exact ⟨rfl, ho⟩
  have PG : Hid (∀ b r' v ls w', res = .ok b r' → ls.map Atx.pur = b → ls.length ≤ 4096 → Grow elAtx 42 w.heap.size w' v ls → Ahead w' p ao cap L c f r' → Only (fun k => k = p) w w' → Post (.returned v) w') := fun b r' v ls w' hr h1 h2 h3 h4 h5 => by
    rw [hPost, hr]; exact ⟨v, ls, rfl, h1, h2, h3, h4, h5⟩
  have HC0 := hide (Coll3.start (E := elAtx) (e := 42) h)
  clear hPost h hres
  go_enter Tryz.func33, Tryz.ntmps33
  go_wp2
  go_loopw [3] (fun v wr => ∃ (n : Nat) (ls : List Atx) (R1 : List Tok), ls.length ≤ 4096 ∧ R1.length < n ∧ Hid (Coll3 elAtx 42 w wr p ao cap L c f R1 w.heap.size v ls) ∧ Hid (factsF c f n (ls.map Atx.pur) R1 = res)) (fun _ wr => 70000 - (intOf ((wr.cell? ⟨p, 4, none⟩).getD undef)).toNat)
  case atStart => exact ⟨R.length + 1, [], R, by simp, by omega, HC0, HRes0⟩
  case round =>
    clear HC0 HRes0
    obtain ⟨n, ls, R1, hls, hn, HC, HRes⟩ := hrel
    obtain ⟨n, rfl⟩ : ∃ m, n = m + 1 := ⟨n - 1, by omega⟩
    obtain ⟨va, vc, rfl, -⟩ := HC.out.gr.shape
    cases hT : takeP c f [1, 0] R1 with
    | bad ec eo =>
      have HT : Hid (∀ (W : World) (g : Nat), W.heap.size = g → Ahead W p ao cap L c f R1 → Calls Tryz.prog 51 #[.pointer (some ⟨p, 0, none⟩), .slice (some ⟨g, 0, none⟩) 2 2] (W.alloc (.cells #[.int .i64 1, .int .i64 0] 3)) fun e w' => e = PEnd ec eo ∧ Below W.heap.size W w') := fun W g hg ha => hg ▸ take_lit_fail [1, 0] ha (by decide) hT
      have HX : Hid (res = .bad ec eo) := by show _ = _; rw [← HRes.out]; exact facts_bad1 hT
      clear hT
      go_wp2_with (go_at_call 51; refine (HT.out _ _ rfl HC.out.ah).mono ?_; rintro e w1 ⟨rfl, hb1⟩)
      exact ⟨rfl, PB.out _ _ _ HX.out (HC.out.below hb1).end_⟩
    | ok t r1 =>
      have HT : Hid (∀ (W : World) (g : Nat), W.heap.size = g → Ahead W p ao cap L c f R1 → Calls Tryz.prog 51 #[.pointer (some ⟨p, 0, none⟩), .slice (some ⟨g, 0, none⟩) 2 2] (W.alloc (.cells #[.int .i64 1, .int .i64 0] 3)) fun e w' => e = .returned (tokV t) ∧ Ahead w' p ao cap L c f r1 ∧ Only (fun b => b = p) W w') := fun W g hg ha => hg ▸ take_lit_good [1, 0] ha (by decide) hT
      have htg : t.good := HC.out.ah.good t (by rw [(take_eq hT).1]; exact List.mem_cons_self)
      have l1 := take_len hT
      unfold tokV at HT
      by_cases h0 : t.k = 0
      · have e0 : (t.k == 0) = true := by simpa using h0
        have HX : Hid (res = .ok (ls.map Atx.pur) r1) := by show _ = _; rw [← HRes.out]; exact facts_end hT h0
        clear hT h0
        go_wp2_with (go_at_call 51; refine (HT.out _ _ rfl HC.out.ah).mono ?_; rintro e w1 ⟨rfl, ha1, ho1⟩; have HC1 := hide ((HC.out.move ho1 ha1).below (belowA w1 (.cells #[.int .i64 t.k, .string t.t, .int .i64 t.n, .int .i64 t.op, .int .i64 (t.off : Int), .int .i64 (t.en : Int)] 116))); clear ha1 ho1 HT)
        exact PG.out _ _ _ _ _ HX.out rfl hls HC1.out.gr HC1.out.ah HC1.out.end_
      · have e0 : (t.k == 0) = false := by simpa using h0
        by_cases hmx : ls.length = 4096
        · have HLm := hide (limit_eq (ls.length : Int) 4096 24 (t.off : Int) (h := by omega))
          have HX : Hid (res = .bad 24 (t.off : Int)) := by show _ = _; rw [← HRes.out]; exact facts_lim hT h0 (by rw [List.length_map]; exact hmx)
          clear hT h0 hmx hls
          go_wp2_with (first
            | (go_at_call 51; refine (HT.out _ _ rfl HC.out.ah).mono ?_; rintro e w1 ⟨rfl, ha1, ho1⟩; have HC1 := hide ((HC.out.move ho1 ha1).below (belowA w1 (.cells #[.int .i64 t.k, .string t.t, .int .i64 t.n, .int .i64 t.op, .int .i64 (t.off : Int), .int .i64 (t.en : Int)] 116))); clear ha1 ho1 HT)
            | (go_at_call 53; refine (HLm.out _).mono ?_; rintro e w2 ⟨rfl, hw⟩; have hw := hw.symm; subst hw))
          exact ⟨rfl, PB.out _ _ _ HX.out HC1.out.end_⟩
        · have HLm := hide (limit_ok (ls.length : Int) 4096 24 (t.off : Int) (h := by omega))
          have hls4 : ls.length < 4096 := by omega
          have HG0 := fun (W : World) (ha : Ahead W p ao cap L c f r1) => ground_any t ha htg
          unfold tokV at HG0
          cases hC : atomP c f valueKs t r1 with
          | bad ec eo =>
            rw [hC] at HG0
            have HGd := hide HG0
            have HX : Hid (res = .bad ec eo) := by show _ = _; rw [← HRes.out]; exact facts_atom hT h0 (by rw [List.length_map]; exact hmx) hC
            clear hT h0 hmx hC HG0
            go_wp2_with (first
              | (go_at_call 51; refine (HT.out _ _ rfl HC.out.ah).mono ?_; rintro e w1 ⟨rfl, ha1, ho1⟩; have HC1 := hide ((HC.out.move ho1 ha1).below (belowA w1 (.cells #[.int .i64 t.k, .string t.t, .int .i64 t.n, .int .i64 t.op, .int .i64 (t.off : Int), .int .i64 (t.en : Int)] 116))); clear ha1 ho1 HT)
              | (go_at_call 53; refine (HLm.out _).mono ?_; rintro e w2 ⟨⟨v2, rfl⟩, hw⟩; have hw := hw.symm; subst hw)
              | (go_at_call 50; refine (HGd.out _ HC1.out.ah).mono ?_; intro e w3 hq; obtain ⟨rfl, ho3⟩ := atmPost_bad hq; clear hq))
            exact ⟨rfl, PB.out _ _ _ HX.out (HC1.out.endM ho3)⟩
          | ok x r2 =>
            rw [hC] at HG0
            have HGd := hide HG0
            have l2 := atom_len hC
            clear HG0
            cases hD : takeP c f [8] r2 with
            | bad ec eo =>
              have HU : Hid (∀ (W : World) (g : Nat), W.heap.size = g → Ahead W p ao cap L c f r2 → Calls Tryz.prog 51 #[.pointer (some ⟨p, 0, none⟩), .slice (some ⟨g, 0, none⟩) 1 1] (W.alloc (.cells #[.int .i64 8] 3)) fun e w' => e = PEnd ec eo ∧ Below W.heap.size W w') := fun W g hg ha => hg ▸ take_lit_fail [8] ha (by decide) hD
              have HX : Hid (res = .bad ec eo) := by show _ = _; rw [← HRes.out]; exact facts_dot hT h0 (by rw [List.length_map]; exact hmx) hC hD
              clear hT h0 hmx hC hD
              go_wp2_with (first
                | (go_at_call 51; refine (HT.out _ _ rfl HC.out.ah).mono ?_; rintro e w1 ⟨rfl, ha1, ho1⟩; have HC1 := hide ((HC.out.move ho1 ha1).below (belowA w1 (.cells #[.int .i64 t.k, .string t.t, .int .i64 t.n, .int .i64 t.op, .int .i64 (t.off : Int), .int .i64 (t.en : Int)] 116))); clear ha1 ho1 HT)
                | (go_at_call 53; refine (HLm.out _).mono ?_; rintro e w2 ⟨⟨v2, rfl⟩, hw⟩; have hw := hw.symm; subst hw)
                | (go_at_call 50; refine (HGd.out _ HC1.out.ah).mono ?_; intro e w3 hq; obtain ⟨⟨ap, av, aoff, ats⟩, rfl, hpur, hok, ha3, ho3⟩ := atmPost_ok hq; clear hq; obtain ⟨xa, xc, rfl, -⟩ := (show Lst elTrm _ _ av ats from hok.2.2).shape; have HPu := hide hpur; have HOk := hide (HC1.out.gr.behind HC1.out.hi elAtx hok); have HC3 := hide (HC1.out.move ho3 ha3); have HC4 := hide (HC3.out.below (belowA w3 (.cells #[.string ap, .slice xa ats.length xc, .int .i64 aoff] 42))); have HOk4 := hide (elAtx.move HOk.out fun b hlt hF => ⟨hF, (belowA w3 (.cells #[.string ap, .slice xa ats.length xc, .int .i64 aoff] 42)).block b hlt⟩); clear hpur hok ha3 ho3 HOk HGd; unfold Atx.val)
                | (at_builtin; obtain ⟨i0, hi0, hz0, hz1, hz2⟩ := info_parts Tryz.infoAtm; refine wpList_push (w0 := w3.alloc (.cells #[.string ap, .slice xa ats.length xc, .int .i64 aoff] 42)) elAtx rfl _ _ 36 rfl w.heap.size 42 i0 _ 48 Tryz.underlying36 hi0 hz0 hz1 hz2 rfl (by decide) _ ls ls.length rfl rfl HC4.out.gr ⟨ap, .slice xa ats.length xc, aoff, ats⟩ w3.heap.size 1 rfl (fun j u hu => new_cells (cs := #[.string ap, .slice xa ats.length xc, .int .i64 aoff]) j u hu) HOk4.out (by omega) (Below.refl _ _) HC4.out.hi ?_; intro g cap' w5 HG5 HB5 HGr; clear HB5 hi0 hz0 hz1 hz2; have HC5 := hide (HC4.out.grown HGr.out HG5.out); clear HG5 HGr HC4 HOk4)
                | (go_at_call 51; refine (HU.out _ _ rfl HC5.out.ah).mono ?_; rintro e w6 ⟨rfl, hb6⟩))
              exact ⟨rfl, PB.out _ _ _ HX.out (HC5.out.below hb6).end_⟩
            | ok s r3 =>
              have HU : Hid (∀ (W : World) (g : Nat), W.heap.size = g → Ahead W p ao cap L c f r2 → Calls Tryz.prog 51 #[.pointer (some ⟨p, 0, none⟩), .slice (some ⟨g, 0, none⟩) 1 1] (W.alloc (.cells #[.int .i64 8] 3)) fun e w' => e = .returned (tokV s) ∧ Ahead w' p ao cap L c f r3 ∧ Only (fun b => b = p) W w') := fun W g hg ha => hg ▸ take_lit_good [8] ha (by decide) hD
              have l3 := take_len hD
              have HX : Hid (factsF c f n (ls.map Atx.pur ++ [x]) r3 = res) := by show _ = _; rw [← HRes.out]; exact (facts_more hT h0 (by rw [List.length_map]; exact hmx) hC hD).symm
              have HLn : Hid (r3.length < R1.length ∧ r3.length < n) := ⟨by omega, by omega⟩
              obtain ⟨ix, isz⟩ := HC.out.ah.index
              have HIx := hide (And.intro ix isz)
              clear hT h0 hmx hC hD l1 l2 l3 ix isz
              go_wp2_with (first
                | (go_at_call 51; refine (HT.out _ _ rfl HC.out.ah).mono ?_; rintro e w1 ⟨rfl, ha1, ho1⟩; have HC1 := hide ((HC.out.move ho1 ha1).below (belowA w1 (.cells #[.int .i64 t.k, .string t.t, .int .i64 t.n, .int .i64 t.op, .int .i64 (t.off : Int), .int .i64 (t.en : Int)] 116))); clear ha1 ho1 HT)
                | (go_at_call 53; refine (HLm.out _).mono ?_; rintro e w2 ⟨⟨v2, rfl⟩, hw⟩; have hw := hw.symm; subst hw)
                | (go_at_call 50; refine (HGd.out _ HC1.out.ah).mono ?_; intro e w3 hq; obtain ⟨⟨ap, av, aoff, ats⟩, rfl, hpur, hok, ha3, ho3⟩ := atmPost_ok hq; clear hq; obtain ⟨xa, xc, rfl, -⟩ := (show Lst elTrm _ _ av ats from hok.2.2).shape; have HPu := hide hpur; have HOk := hide (HC1.out.gr.behind HC1.out.hi elAtx hok); have HC3 := hide (HC1.out.move ho3 ha3); have HC4 := hide (HC3.out.below (belowA w3 (.cells #[.string ap, .slice xa ats.length xc, .int .i64 aoff] 42))); have HOk4 := hide (elAtx.move HOk.out fun b hlt hF => ⟨hF, (belowA w3 (.cells #[.string ap, .slice xa ats.length xc, .int .i64 aoff] 42)).block b hlt⟩); clear hpur hok ha3 ho3 HOk HGd; unfold Atx.val)
                | (at_builtin; obtain ⟨i0, hi0, hz0, hz1, hz2⟩ := info_parts Tryz.infoAtm; refine wpList_push (w0 := w3.alloc (.cells #[.string ap, .slice xa ats.length xc, .int .i64 aoff] 42)) elAtx rfl _ _ 36 rfl w.heap.size 42 i0 _ 48 Tryz.underlying36 hi0 hz0 hz1 hz2 rfl (by decide) _ ls ls.length rfl rfl HC4.out.gr ⟨ap, .slice xa ats.length xc, aoff, ats⟩ w3.heap.size 1 rfl (fun j u hu => new_cells (cs := #[.string ap, .slice xa ats.length xc, .int .i64 aoff]) j u hu) HOk4.out (by omega) (Below.refl _ _) HC4.out.hi ?_; intro g cap' w5 HG5 HB5 HGr; clear HB5 hi0 hz0 hz1 hz2; have HC5 := hide (HC4.out.grown HGr.out HG5.out); clear HG5 HGr HC4 HOk4)
                | (go_at_call 51; refine (HU.out _ _ rfl HC5.out.ah).mono ?_; rintro e w6 ⟨rfl, ha6, ho6⟩; have HC6 := hide (HC5.out.move ho6 ha6); clear ha6 ho6))
              go_roundw
              case rel => exact ⟨n, ls ++ [⟨ap, .slice xa ats.length xc, aoff, ats⟩], r3, by simp; omega, HLn.out.2, HC6, by show _ = _; rw [List.map_append, List.map_singleton, HPu.out]; exact HX.out⟩
              case measure =>
                obtain ⟨jx, -⟩ := HC6.out.ah.index
                have h1 := HLn.out
                have h2 := HIx.out
                omega

set_option maxHeartbeats 1000000 in
set_option maxRecDepth 100000 in
theorem query_any {w : World} {p : Nat} {ao : Option Addr} {cap : Nat} {L : List Tok} {c f : Int} {R : List Tok} (h : Ahead w p ao cap L c f R) :
    Calls Tryz.prog 41 #[.pointer (some ⟨p, 0, none⟩)] w (BodyPost w p ao cap L c f (queryP c f R)) := by
  have HB0 := body_any h
  have hp := h.lt
  clear h
  cases hB : bodyP c f R with
  | bad ec eo =>
    rw [hB] at HB0
    have HBo := hide HB0
    rw [show queryP c f R = .bad ec eo from by unfold queryP; rw [hB]]
    clear HB0 hB
    unfold BodyPost
    go_enter Tryz.func41, Tryz.ntmps41
    go_wp2_with (go_at_call 61; refine HBo.out.mono ?_; intro e w1 hq; obtain ⟨rfl, ho1⟩ := bodyPost_bad hq; clear hq)
    exact ⟨rfl, rfl, ho1⟩
  | ok b r1 =>
    rw [hB] at HB0
    have HBo := hide HB0
    clear HB0
    cases hT : takeP c f [0] r1 with
    | bad ec eo =>
      have HU : Hid (∀ (W : World) (g : Nat), W.heap.size = g → Ahead W p ao cap L c f r1 → Calls Tryz.prog 51 #[.pointer (some ⟨p, 0, none⟩), .slice (some ⟨g, 0, none⟩) 1 1] (W.alloc (.cells #[.int .i64 0] 3)) fun e w' => e = PEnd ec eo ∧ Below W.heap.size W w') := fun W g hg ha => hg ▸ take_lit_fail [0] ha (by decide) hT
      rw [show queryP c f R = .bad ec eo from by unfold queryP; rw [hB]; simp only; rw [hT]]
      clear hB hT
      unfold BodyPost
      go_enter Tryz.func41, Tryz.ntmps41
      go_wp2_with (first
        | (go_at_call 61; refine HBo.out.mono ?_; intro e w1 hq; obtain ⟨bv, ls, rfl, hpur, hl, hgr, ha1, ho1⟩ := bodyPost_ok hq; clear hq; have HPu := hide hpur; have HL1 := hide hl; have HG1 := hide hgr; have HA1 := hide ha1; have HO1 := hide ho1; obtain ⟨ba, bc, rfl, -⟩ := hgr.shape; clear hpur hl hgr ha1 ho1)
        | (go_at_call 51; refine (HU.out _ _ rfl HA1.out).mono ?_; rintro e w2 ⟨rfl, hb2⟩))
      exact ⟨rfl, rfl, HO1.out.trans (Only.of_below hb2 _)⟩
    | ok s r2 =>
      have HU : Hid (∀ (W : World) (g : Nat), W.heap.size = g → Ahead W p ao cap L c f r1 → Calls Tryz.prog 51 #[.pointer (some ⟨p, 0, none⟩), .slice (some ⟨g, 0, none⟩) 1 1] (W.alloc (.cells #[.int .i64 0] 3)) fun e w' => e = .returned (tokV s) ∧ Ahead w' p ao cap L c f r2 ∧ Only (fun b => b = p) W w') := fun W g hg ha => hg ▸ take_lit_good [0] ha (by decide) hT
      rw [show queryP c f R = .ok b r2 from by unfold queryP; rw [hB]; simp only; rw [hT]]
      clear hB hT
      obtain ⟨Post, hPost⟩ : ∃ Post : Ending → World → Prop, Post = BodyPost w p ao cap L c f (.ok b r2) := ⟨_, rfl⟩
      rw [← hPost]
      have PG : Hid (∀ v ls w', ls.map Lix.pur = b → ls.length ≤ 16 → Grow elLix 56 w.heap.size w' v ls → Ahead w' p ao cap L c f r2 → Only (fun k => k = p) w w' → Post (.returned v) w') := fun v ls w' h1 h2 h3 h4 h5 => by
        rw [hPost]; exact ⟨v, ls, rfl, h1, h2, h3, h4, h5⟩
      clear hPost
      go_enter Tryz.func41, Tryz.ntmps41
      go_wp2_with (first
        | (go_at_call 61; refine HBo.out.mono ?_; intro e w1 hq; obtain ⟨bv, ls, rfl, hpur, hl, hgr, ha1, ho1⟩ := bodyPost_ok hq; clear hq; have HPu := hide hpur; have HL1 := hide hl; have HG1 := hide hgr; have HA1 := hide ha1; have HO1 := hide ho1; obtain ⟨ba, bc, rfl, -⟩ := hgr.shape; clear hpur hl hgr ha1 ho1)
        | (go_at_call 51; refine (HU.out _ _ rfl HA1.out).mono ?_; rintro e w2 ⟨rfl, ha2, ho2⟩; have HA2 := hide ha2; have HO2 := hide ho2; clear ha2 ho2))
      first
        | exact PG.out _ _ _ HPu.out HL1.out (HG1.out.above fun k hk hlt => HO2.out.block k hlt (by omega)) HA2.out (HO1.out.trans HO2.out)
        | (go_ret; exact PG.out _ _ _ HPu.out HL1.out (HG1.out.above fun k hk hlt => HO2.out.block k hlt (by omega)) HA2.out (HO1.out.trans HO2.out))
end Go.Proofs.YtchhophblejmeaaGreatDoor

namespace Go.Proofs.YtchhophblejmeaaGreatDoor
set_option linter.unusedSimpArgs false
set_option linter.unusedVariables false
open Go.RowKit

def ReadFacts (w : World) (s : ByteArray) (e : Ending) (w' : World) : Prop :=
  match factsP (scanX s).2.1 ((scanX s).2.2 : Int) (scanX s).1 with
  | .bad ec eo => e = .returned (.tuple #[.slice none 0 0, faultV ec eo]) ∧ Below w.heap.size w w'
  | .ok b _ => ∃ v cs, e = .returned (.tuple #[v, faultV 0 0]) ∧ cs.map Atx.pur = b ∧ cs.length ≤ 4096 ∧ Grow elAtx 42 w.heap.size w' v cs ∧ Below w.heap.size w w'

set_option maxRecDepth 100000 in
set_option maxHeartbeats 2000000 in
theorem readFacts_any (s : ByteArray) (w : World) (hl : LexLaid w) (hs : s.size ≤ 140737488351232) :
    Calls Tryz.prog 32 #[.string s, .func (.func 33) #[] #[]] w (ReadFacts w s) := by
  have hmf : ∀ (fn : Fn) (first cap : Array Value) (w : World), (Instr.makeFunc fn first cap).run Tryz.prog w = .ok (.func fn first cap) w := fun _ _ _ _ => rfl
  have HSc := hide (fun (W : World) (hb : Below w.heap.size w W) => scan_any s W (hl.kept hb) hs)
  clear hl hs
  unfold faultVal at HSc
  obtain ⟨res, hres⟩ : ∃ res, factsP (scanX s).2.1 ((scanX s).2.2 : Int) (scanX s).1 = res := ⟨_, rfl⟩
  obtain ⟨Post, hPost⟩ : ∃ Post : Ending → World → Prop, Post = ReadFacts w s := ⟨_, rfl⟩
  rw [← hPost]
  have PB : Hid (∀ ec eo w', res = .bad ec eo → Below w.heap.size w w' → Post (.returned (.tuple #[.slice none 0 0, .agg #[.int .i64 ec, .int .i64 0, .int .i64 eo]])) w') := fun ec eo w' hr hb => by
    rw [hPost]; unfold ReadFacts; rw [hres, hr]; exact ⟨rfl, hb⟩
  have PG : Hid (∀ b r v cs w', res = .ok b r → cs.map Atx.pur = b → cs.length ≤ 4096 → Grow elAtx 42 w.heap.size w' v cs → Below w.heap.size w w' → Post (.returned (.tuple #[v, .agg #[.int .i64 0, .int .i64 0, .int .i64 0]])) w') := fun b r v cs w' hr h1 h2 h3 h4 => by
    rw [hPost]; unfold ReadFacts; rw [hres, hr]; exact ⟨v, cs, rfl, h1, h2, h3, h4⟩
  have HR := hide hres
  clear hPost hres
  go_enter_defers Tryz.func32, Tryz.ntmps32
  go_wp2_with (go_at_call 49; refine (HSc.out _ (belowA _ _)).mono ?_; rintro e w1 ⟨v, rfl, ho1, hb1⟩; obtain ⟨ao, cap, rfl⟩ := own_shape ho1; have HO1 := hide ho1; have HB1 := hide hb1; clear ho1 hb1)
  have hs1 : w.heap.size + 1 ≤ w1.heap.size := by have := HB1.out.size; simp at this; omega
  have HA := hide (scan_ahead HB1.out HO1.out (W2 := (w1.alloc (.cells #[.int .i64 (scanX s).2.1, .int .i64 0, .int .i64 ((scanX s).2.2 : Int)] 31)).alloc (.cells #[.slice ao (scanX s).1.length cap, .int .i64 (scanX s).2.1, .int .i64 0, .int .i64 ((scanX s).2.2 : Int), .int .i64 0] 113)) (below2a w1 _ _) rfl (p := w1.heap.size + 1) (by omega) (by have := heap_alloc_new (w1.alloc (.cells #[.int .i64 (scanX s).2.1, .int .i64 0, .int .i64 ((scanX s).2.2 : Int)] 31)) (.cells #[.slice ao (scanX s).1.length cap, .int .i64 (scanX s).2.1, .int .i64 0, .int .i64 ((scanX s).2.2 : Int), .int .i64 0] 113); simpa using this))
  have HP := facts_any HA.out
  rw [HR.out] at HP
  have HK : Hid (∀ w2, Only (fun k => k = w1.heap.size + 1) ((w1.alloc (.cells #[.int .i64 (scanX s).2.1, .int .i64 0, .int .i64 ((scanX s).2.2 : Int)] 31)).alloc (.cells #[.slice ao (scanX s).1.length cap, .int .i64 (scanX s).2.1, .int .i64 0, .int .i64 ((scanX s).2.2 : Int), .int .i64 0] 113)) w2 → w2.heap[w.heap.size]? = some (.cells #[.int .i64 0, .int .i64 0, .int .i64 0] 31 (0, 0)) ∧ Only (fun k => w.heap.size ≤ k) w w2) := fun w2 ho => by
    have q : ∀ k, k < w.heap.size + 1 → w2.heap[k]? = (w.alloc (.cells #[.int .i64 0, .int .i64 0, .int .i64 0] 31)).heap[k]? := fun k hk => by
      rw [ho.block k (by simp; omega) (by omega), (below2a w1 _ _).block k (by omega), HB1.out.block k (by simp; omega)]
    refine ⟨?_, ((Only.of_below (belowA w _) _).trans (Only.of_below HB1.out _)).trans ((Only.of_below (below2a w1 _ _) _).trans (ho.mono fun k _ (e : k = w1.heap.size + 1) => by omega))⟩
    rw [q _ (by omega)]; exact heap_alloc_new w _
  clear HO1 HB1 HSc HR
  cases res with
  | bad ec eo =>
    refine HP.mono ?_
    intro e w2 hq
    obtain ⟨rfl, ho2⟩ := factsPost_bad hq
    obtain ⟨k1, k2⟩ := HK.out w2 ho2
    clear hq HP HA
    refine leaves_cons (f := 52) (args := #[.pointer (some ⟨w.heap.size, 0, none⟩)]) (by simp) (by simp [go_sem]) ?_
    refine (caughtFacts w.heap.size ec eo [] w2 k1).mono ?_
    rintro e u' w3 ⟨rfl, rfl, h3, o3⟩
    obtain ⟨⟨d0, d1, d2⟩, -⟩ := fault_cells h3
    have HF := hide (PB.out ec eo w3 rfl ((k2.trans (o3.mono fun k _ (e : k = w.heap.size) => by omega)).below (Nat.le_refl _) (fun k hk e => by omega)))
    clear o3 h3 k1 k2
    simp [Leaves, settle, results, Tryz.results32, go_sem, d0, d1, d2]
    exact HF.out
  | ok b r =>
    refine HP.mono ?_
    intro e w2 hq
    obtain ⟨v, cs, rfl, hpur, hlen, hgr, ha2, ho2⟩ := factsPost_ok hq
    obtain ⟨va, vc, rfl, -⟩ := hgr.shape
    obtain ⟨k1, k2⟩ := HK.out w2 ho2
    have HPu := hide hpur
    have HLn := hide hlen
    have HG := hide hgr
    have HK2 := hide k2
    clear hq HP HA hpur hlen hgr ha2 ho2
    obtain ⟨⟨d0, d1, d2⟩, ⟨y0, y1, y2⟩⟩ := fault_cells k1
    go_wp2_with fail
    have hO : Only (fun k => k = w.heap.size) w2 (((w2.setCell ⟨w.heap.size, 0, none⟩ (.int .i64 0)).setCell ⟨w.heap.size, 1, none⟩ (.int .i64 0)).setCell ⟨w.heap.size, 2, none⟩ (.int .i64 0)) := (((Only.refl (fun k => k = w.heap.size) w2).setCell (p := ⟨w.heap.size, 0, none⟩) rfl _).setCell (p := ⟨w.heap.size, 1, none⟩) rfl _).setCell (p := ⟨w.heap.size, 2, none⟩) rfl _
    have hV1 : (((w2.setCell ⟨w.heap.size, 0, none⟩ (.int .i64 0)).setCell ⟨w.heap.size, 1, none⟩ (.int .i64 0)).setCell ⟨w.heap.size, 2, none⟩ (.int .i64 0)).heap[w.heap.size]? = some (.cells #[.int .i64 0, .int .i64 0, .int .i64 0] 31 (0, 0)) := by simp [World.setCell, Array.getElem?_modify, k1]
    generalize ((w2.setCell ⟨w.heap.size, 0, none⟩ (.int .i64 0)).setCell ⟨w.heap.size, 1, none⟩ (.int .i64 0)).setCell ⟨w.heap.size, 2, none⟩ (.int .i64 0) = V at hO hV1 ⊢
    clear d0 d1 d2 y0 y1 y2 k1
    refine leaves_cons (f := 52) (args := #[.pointer (some ⟨w.heap.size, 0, none⟩)]) (by simp) (by simp [go_sem]) ?_
    refine (idleFacts ⟨w.heap.size, 0, none⟩ V).mono ?_
    rintro e u' w3 ⟨rfl, rfl, hw⟩
    have hw := hw.symm
    subst hw
    obtain ⟨⟨d0, d1, d2⟩, -⟩ := fault_cells hV1
    have HF := hide (PG.out b r (.slice va cs.length vc) cs V rfl HPu.out HLn.out ((HG.out.above fun k hk hlt => hO.block k hlt (by simp at hk; omega)).mono (by simp <;> omega)) ((HK2.out.trans (hO.mono fun k _ (e : k = w.heap.size) => by omega)).below (Nat.le_refl _) (fun k hk e => by omega)))
    clear hO hV1
    simp [Leaves, settle, results, Tryz.results32, go_sem, d0, d1, d2]
    exact HF.out
end Go.Proofs.YtchhophblejmeaaGreatDoor

namespace Go.Proofs.YtchhophblejmeaaGreatDoor
set_option linter.unusedSimpArgs false
set_option linter.unusedVariables false
open Go.RowKit

def ReadQuery (w : World) (s : ByteArray) (e : Ending) (w' : World) : Prop :=
  match queryP (scanX s).2.1 ((scanX s).2.2 : Int) (scanX s).1 with
  | .bad ec eo => e = .returned (.tuple #[.slice none 0 0, faultV ec eo]) ∧ Below w.heap.size w w'
  | .ok b _ => ∃ v cs, e = .returned (.tuple #[v, faultV 0 0]) ∧ cs.map Lix.pur = b ∧ cs.length ≤ 16 ∧ Grow elLix 56 w.heap.size w' v cs ∧ Below w.heap.size w w'

set_option maxRecDepth 100000 in
set_option maxHeartbeats 2000000 in
theorem readQuery_any (s : ByteArray) (w : World) (hl : LexLaid w) (hs : s.size ≤ 140737488351232) :
    Calls Tryz.prog 40 #[.string s, .func (.func 41) #[] #[]] w (ReadQuery w s) := by
  have hmf : ∀ (fn : Fn) (first cap : Array Value) (w : World), (Instr.makeFunc fn first cap).run Tryz.prog w = .ok (.func fn first cap) w := fun _ _ _ _ => rfl
  have HSc := hide (fun (W : World) (hb : Below w.heap.size w W) => scan_any s W (hl.kept hb) hs)
  clear hl hs
  unfold faultVal at HSc
  obtain ⟨res, hres⟩ : ∃ res, queryP (scanX s).2.1 ((scanX s).2.2 : Int) (scanX s).1 = res := ⟨_, rfl⟩
  obtain ⟨Post, hPost⟩ : ∃ Post : Ending → World → Prop, Post = ReadQuery w s := ⟨_, rfl⟩
  rw [← hPost]
  have PB : Hid (∀ ec eo w', res = .bad ec eo → Below w.heap.size w w' → Post (.returned (.tuple #[.slice none 0 0, .agg #[.int .i64 ec, .int .i64 0, .int .i64 eo]])) w') := fun ec eo w' hr hb => by
    rw [hPost]; unfold ReadQuery; rw [hres, hr]; exact ⟨rfl, hb⟩
  have PG : Hid (∀ b r v cs w', res = .ok b r → cs.map Lix.pur = b → cs.length ≤ 16 → Grow elLix 56 w.heap.size w' v cs → Below w.heap.size w w' → Post (.returned (.tuple #[v, .agg #[.int .i64 0, .int .i64 0, .int .i64 0]])) w') := fun b r v cs w' hr h1 h2 h3 h4 => by
    rw [hPost]; unfold ReadQuery; rw [hres, hr]; exact ⟨v, cs, rfl, h1, h2, h3, h4⟩
  have HR := hide hres
  clear hPost hres
  go_enter_defers Tryz.func40, Tryz.ntmps40
  go_wp2_with (go_at_call 49; refine (HSc.out _ (belowA _ _)).mono ?_; rintro e w1 ⟨v, rfl, ho1, hb1⟩; obtain ⟨ao, cap, rfl⟩ := own_shape ho1; have HO1 := hide ho1; have HB1 := hide hb1; clear ho1 hb1)
  have hs1 : w.heap.size + 1 ≤ w1.heap.size := by have := HB1.out.size; simp at this; omega
  have HA := hide (scan_ahead HB1.out HO1.out (W2 := (w1.alloc (.cells #[.int .i64 (scanX s).2.1, .int .i64 0, .int .i64 ((scanX s).2.2 : Int)] 31)).alloc (.cells #[.slice ao (scanX s).1.length cap, .int .i64 (scanX s).2.1, .int .i64 0, .int .i64 ((scanX s).2.2 : Int), .int .i64 0] 113)) (below2a w1 _ _) rfl (p := w1.heap.size + 1) (by omega) (by have := heap_alloc_new (w1.alloc (.cells #[.int .i64 (scanX s).2.1, .int .i64 0, .int .i64 ((scanX s).2.2 : Int)] 31)) (.cells #[.slice ao (scanX s).1.length cap, .int .i64 (scanX s).2.1, .int .i64 0, .int .i64 ((scanX s).2.2 : Int), .int .i64 0] 113); simpa using this))
  have HP := query_any HA.out
  rw [HR.out] at HP
  have HK : Hid (∀ w2, Only (fun k => k = w1.heap.size + 1) ((w1.alloc (.cells #[.int .i64 (scanX s).2.1, .int .i64 0, .int .i64 ((scanX s).2.2 : Int)] 31)).alloc (.cells #[.slice ao (scanX s).1.length cap, .int .i64 (scanX s).2.1, .int .i64 0, .int .i64 ((scanX s).2.2 : Int), .int .i64 0] 113)) w2 → w2.heap[w.heap.size]? = some (.cells #[.int .i64 0, .int .i64 0, .int .i64 0] 31 (0, 0)) ∧ Only (fun k => w.heap.size ≤ k) w w2) := fun w2 ho => by
    have q : ∀ k, k < w.heap.size + 1 → w2.heap[k]? = (w.alloc (.cells #[.int .i64 0, .int .i64 0, .int .i64 0] 31)).heap[k]? := fun k hk => by
      rw [ho.block k (by simp; omega) (by omega), (below2a w1 _ _).block k (by omega), HB1.out.block k (by simp; omega)]
    refine ⟨?_, ((Only.of_below (belowA w _) _).trans (Only.of_below HB1.out _)).trans ((Only.of_below (below2a w1 _ _) _).trans (ho.mono fun k _ (e : k = w1.heap.size + 1) => by omega))⟩
    rw [q _ (by omega)]; exact heap_alloc_new w _
  clear HO1 HB1 HSc HR
  cases res with
  | bad ec eo =>
    refine HP.mono ?_
    intro e w2 hq
    obtain ⟨rfl, ho2⟩ := bodyPost_bad hq
    obtain ⟨k1, k2⟩ := HK.out w2 ho2
    clear hq HP HA
    refine leaves_cons (f := 60) (args := #[.pointer (some ⟨w.heap.size, 0, none⟩)]) (by simp) (by simp [go_sem]) ?_
    refine (caughtQuery w.heap.size ec eo [] w2 k1).mono ?_
    rintro e u' w3 ⟨rfl, rfl, h3, o3⟩
    obtain ⟨⟨d0, d1, d2⟩, -⟩ := fault_cells h3
    have HF := hide (PB.out ec eo w3 rfl ((k2.trans (o3.mono fun k _ (e : k = w.heap.size) => by omega)).below (Nat.le_refl _) (fun k hk e => by omega)))
    clear o3 h3 k1 k2
    simp [Leaves, settle, results, Tryz.results40, go_sem, d0, d1, d2]
    exact HF.out
  | ok b r =>
    refine HP.mono ?_
    intro e w2 hq
    obtain ⟨v, cs, rfl, hpur, hlen, hgr, ha2, ho2⟩ := bodyPost_ok hq
    obtain ⟨va, vc, rfl, -⟩ := hgr.shape
    obtain ⟨k1, k2⟩ := HK.out w2 ho2
    have HPu := hide hpur
    have HLn := hide hlen
    have HG := hide hgr
    have HK2 := hide k2
    clear hq HP HA hpur hlen hgr ha2 ho2
    obtain ⟨⟨d0, d1, d2⟩, ⟨y0, y1, y2⟩⟩ := fault_cells k1
    go_wp2_with fail
    have hO : Only (fun k => k = w.heap.size) w2 (((w2.setCell ⟨w.heap.size, 0, none⟩ (.int .i64 0)).setCell ⟨w.heap.size, 1, none⟩ (.int .i64 0)).setCell ⟨w.heap.size, 2, none⟩ (.int .i64 0)) := (((Only.refl (fun k => k = w.heap.size) w2).setCell (p := ⟨w.heap.size, 0, none⟩) rfl _).setCell (p := ⟨w.heap.size, 1, none⟩) rfl _).setCell (p := ⟨w.heap.size, 2, none⟩) rfl _
    have hV1 : (((w2.setCell ⟨w.heap.size, 0, none⟩ (.int .i64 0)).setCell ⟨w.heap.size, 1, none⟩ (.int .i64 0)).setCell ⟨w.heap.size, 2, none⟩ (.int .i64 0)).heap[w.heap.size]? = some (.cells #[.int .i64 0, .int .i64 0, .int .i64 0] 31 (0, 0)) := by simp [World.setCell, Array.getElem?_modify, k1]
    generalize ((w2.setCell ⟨w.heap.size, 0, none⟩ (.int .i64 0)).setCell ⟨w.heap.size, 1, none⟩ (.int .i64 0)).setCell ⟨w.heap.size, 2, none⟩ (.int .i64 0) = V at hO hV1 ⊢
    clear d0 d1 d2 y0 y1 y2 k1
    refine leaves_cons (f := 60) (args := #[.pointer (some ⟨w.heap.size, 0, none⟩)]) (by simp) (by simp [go_sem]) ?_
    refine (idleQuery ⟨w.heap.size, 0, none⟩ V).mono ?_
    rintro e u' w3 ⟨rfl, rfl, hw⟩
    have hw := hw.symm
    subst hw
    obtain ⟨⟨d0, d1, d2⟩, -⟩ := fault_cells hV1
    have HF := hide (PG.out b r (.slice va cs.length vc) cs V rfl HPu.out HLn.out ((HG.out.above fun k hk hlt => hO.block k hlt (by simp at hk; omega)).mono (by simp <;> omega)) ((HK2.out.trans (hO.mono fun k _ (e : k = w.heap.size) => by omega)).below (Nat.le_refl _) (fun k hk e => by omega)))
    clear hO hV1
    simp [Leaves, settle, results, Tryz.results40, go_sem, d0, d1, d2]
    exact HF.out
end Go.Proofs.YtchhophblejmeaaGreatDoor

namespace Go.Proofs.YtchhophblejmeaaGreatDoor
set_option linter.unusedSimpArgs false
set_option linter.unusedVariables false
open Go.RowKit

theorem progCell {V : World} {b : Nat} {u : Value} (h : V.heap[b]? = some (.cells #[u] 47 (0, 0))) : V.cell? ⟨b, 0, none⟩ = some u ∧ V.frozen? ⟨b, 0, none⟩ = false := by
  refine ⟨?_, ?_⟩ <;> simp [World.cell?, World.frozen?, h]

theorem readProg_bad {w w' : World} {s : ByteArray} {e : Ending} {ec eo : Int} (h : ReadProg w s e w') (hr : progP (scanX s).2.1 ((scanX s).2.2 : Int) (scanX s).1 = .bad ec eo) : e = .returned (.tuple #[.agg #[.slice none 0 0], faultV ec eo]) ∧ Below w.heap.size w w' := by
  unfold ReadProg at h
  rw [hr] at h
  exact h
theorem readProg_own {w w' : World} {s : ByteArray} {e : Ending} {b} {r : List Tok} (h : ReadProg w s e w') (hr : progP (scanX s).2.1 ((scanX s).2.2 : Int) (scanX s).1 = .ok b r) : ∃ v cs, e = .returned (.tuple #[.agg #[v], faultV 0 0]) ∧ cs.map Clx.pur = b ∧ cs.length ≤ 512 ∧ Grow elClx 88 w.heap.size w' v cs ∧ Below w.heap.size w w' := by
  unfold ReadProg at h
  rw [hr] at h
  exact h
theorem readProg_ok {w w' : World} {s : ByteArray} {e : Ending} {b} {r : List Tok} (h : ReadProg w s e w') (hr : progP (scanX s).2.1 ((scanX s).2.2 : Int) (scanX s).1 = .ok b r) : ∃ v cs, e = .returned (.tuple #[.agg #[v], faultV 0 0]) ∧ cs.map Clx.pur = b ∧ cs.length ≤ 512 ∧ Lst elClx w' (fun k => w.heap.size ≤ k) v cs ∧ Below w.heap.size w w' := by
  unfold ReadProg at h
  rw [hr] at h
  obtain ⟨v, cs, e, h1, h2, h3, hb⟩ := h
  exact ⟨v, cs, e, h1, h2, h3.new (by omega), hb⟩
theorem readProg_mkb {w w' : World} {s : ByteArray} {ec eo : Int} (hr : progP (scanX s).2.1 ((scanX s).2.2 : Int) (scanX s).1 = .bad ec eo) (hb : Below w.heap.size w w') : ReadProg w s (.returned (.tuple #[.agg #[.slice none 0 0], faultV ec eo])) w' := by
  unfold ReadProg
  rw [hr]
  exact ⟨rfl, hb⟩
theorem readProg_mko {w w' : World} {s : ByteArray} {b} {r : List Tok} (hr : progP (scanX s).2.1 ((scanX s).2.2 : Int) (scanX s).1 = .ok b r) {v : Value} {cs : List Clx} (h1 : cs.map Clx.pur = b) (h2 : cs.length ≤ 512) (h3 : Grow elClx 88 w.heap.size w' v cs) (hb : Below w.heap.size w w') : ReadProg w s (.returned (.tuple #[.agg #[v], faultV 0 0])) w' := by
  unfold ReadProg
  rw [hr]
  exact ⟨v, cs, rfl, h1, h2, h3, hb⟩

theorem readFacts_bad {w w' : World} {s : ByteArray} {e : Ending} {ec eo : Int} (h : ReadFacts w s e w') (hr : factsP (scanX s).2.1 ((scanX s).2.2 : Int) (scanX s).1 = .bad ec eo) : e = .returned (.tuple #[.slice none 0 0, faultV ec eo]) ∧ Below w.heap.size w w' := by
  unfold ReadFacts at h
  rw [hr] at h
  exact h
theorem readFacts_own {w w' : World} {s : ByteArray} {e : Ending} {b} {r : List Tok} (h : ReadFacts w s e w') (hr : factsP (scanX s).2.1 ((scanX s).2.2 : Int) (scanX s).1 = .ok b r) : ∃ v cs, e = .returned (.tuple #[v, faultV 0 0]) ∧ cs.map Atx.pur = b ∧ cs.length ≤ 4096 ∧ Grow elAtx 42 w.heap.size w' v cs ∧ Below w.heap.size w w' := by
  unfold ReadFacts at h
  rw [hr] at h
  exact h
theorem readFacts_ok {w w' : World} {s : ByteArray} {e : Ending} {b} {r : List Tok} (h : ReadFacts w s e w') (hr : factsP (scanX s).2.1 ((scanX s).2.2 : Int) (scanX s).1 = .ok b r) : ∃ v cs, e = .returned (.tuple #[v, faultV 0 0]) ∧ cs.map Atx.pur = b ∧ cs.length ≤ 4096 ∧ Lst elAtx w' (fun k => w.heap.size ≤ k) v cs ∧ Below w.heap.size w w' := by
  unfold ReadFacts at h
  rw [hr] at h
  obtain ⟨v, cs, e, h1, h2, h3, hb⟩ := h
  exact ⟨v, cs, e, h1, h2, h3.new (by omega), hb⟩
theorem readFacts_mkb {w w' : World} {s : ByteArray} {ec eo : Int} (hr : factsP (scanX s).2.1 ((scanX s).2.2 : Int) (scanX s).1 = .bad ec eo) (hb : Below w.heap.size w w') : ReadFacts w s (.returned (.tuple #[.slice none 0 0, faultV ec eo])) w' := by
  unfold ReadFacts
  rw [hr]
  exact ⟨rfl, hb⟩
theorem readFacts_mko {w w' : World} {s : ByteArray} {b} {r : List Tok} (hr : factsP (scanX s).2.1 ((scanX s).2.2 : Int) (scanX s).1 = .ok b r) {v : Value} {cs : List Atx} (h1 : cs.map Atx.pur = b) (h2 : cs.length ≤ 4096) (h3 : Grow elAtx 42 w.heap.size w' v cs) (hb : Below w.heap.size w w') : ReadFacts w s (.returned (.tuple #[v, faultV 0 0])) w' := by
  unfold ReadFacts
  rw [hr]
  exact ⟨v, cs, rfl, h1, h2, h3, hb⟩

theorem readQuery_bad {w w' : World} {s : ByteArray} {e : Ending} {ec eo : Int} (h : ReadQuery w s e w') (hr : queryP (scanX s).2.1 ((scanX s).2.2 : Int) (scanX s).1 = .bad ec eo) : e = .returned (.tuple #[.slice none 0 0, faultV ec eo]) ∧ Below w.heap.size w w' := by
  unfold ReadQuery at h
  rw [hr] at h
  exact h
theorem readQuery_own {w w' : World} {s : ByteArray} {e : Ending} {b} {r : List Tok} (h : ReadQuery w s e w') (hr : queryP (scanX s).2.1 ((scanX s).2.2 : Int) (scanX s).1 = .ok b r) : ∃ v cs, e = .returned (.tuple #[v, faultV 0 0]) ∧ cs.map Lix.pur = b ∧ cs.length ≤ 16 ∧ Grow elLix 56 w.heap.size w' v cs ∧ Below w.heap.size w w' := by
  unfold ReadQuery at h
  rw [hr] at h
  exact h
theorem readQuery_ok {w w' : World} {s : ByteArray} {e : Ending} {b} {r : List Tok} (h : ReadQuery w s e w') (hr : queryP (scanX s).2.1 ((scanX s).2.2 : Int) (scanX s).1 = .ok b r) : ∃ v cs, e = .returned (.tuple #[v, faultV 0 0]) ∧ cs.map Lix.pur = b ∧ cs.length ≤ 16 ∧ Lst elLix w' (fun k => w.heap.size ≤ k) v cs ∧ Below w.heap.size w w' := by
  unfold ReadQuery at h
  rw [hr] at h
  obtain ⟨v, cs, e, h1, h2, h3, hb⟩ := h
  exact ⟨v, cs, e, h1, h2, h3.new (by omega), hb⟩
theorem readQuery_mkb {w w' : World} {s : ByteArray} {ec eo : Int} (hr : queryP (scanX s).2.1 ((scanX s).2.2 : Int) (scanX s).1 = .bad ec eo) (hb : Below w.heap.size w w') : ReadQuery w s (.returned (.tuple #[.slice none 0 0, faultV ec eo])) w' := by
  unfold ReadQuery
  rw [hr]
  exact ⟨rfl, hb⟩
theorem readQuery_mko {w w' : World} {s : ByteArray} {b} {r : List Tok} (hr : queryP (scanX s).2.1 ((scanX s).2.2 : Int) (scanX s).1 = .ok b r) {v : Value} {cs : List Lix} (h1 : cs.map Lix.pur = b) (h2 : cs.length ≤ 16) (h3 : Grow elLix 56 w.heap.size w' v cs) (hb : Below w.heap.size w w') : ReadQuery w s (.returned (.tuple #[v, faultV 0 0])) w' := by
  unfold ReadQuery
  rw [hr]
  exact ⟨v, cs, rfl, h1, h2, h3, hb⟩

set_option maxRecDepth 100000 in
set_option maxHeartbeats 2000000 in
theorem parseProgram_any (s : ByteArray) (w : World) (hl : LexLaid w) (hs : s.size ≤ 140737488351232) :
    Calls Tryz.prog 16 #[.string s] w (ReadProg w s) := by
  have HC := hide (fun (W : World) (hb : Below w.heap.size w W) => readProg_any s W (hl.kept hb) hs)
  clear hl hs
  obtain ⟨Post, hPost⟩ : ∃ Post : Ending → World → Prop, Post = ReadProg w s := ⟨_, rfl⟩
  rw [← hPost]
  have HK : Hid (∀ w2, Below ((w.alloc (.cells #[.slice none 0 0] 47)).alloc (.cells #[.int .i64 0, .int .i64 0, .int .i64 0] 31)).heap.size ((w.alloc (.cells #[.slice none 0 0] 47)).alloc (.cells #[.int .i64 0, .int .i64 0, .int .i64 0] 31)) w2 → w2.heap[w.heap.size]? = some (.cells #[.slice none 0 0] 47 (0, 0)) ∧ w2.heap[w.heap.size + 1]? = some (.cells #[.int .i64 0, .int .i64 0, .int .i64 0] 31 (0, 0)) ∧ Below w.heap.size w w2) := fun w2 hb => by
    refine ⟨?_, ?_, belowt2 (below2a w _ _) hb⟩
    · rw [hb.block _ (by simp; omega), (belowA (w.alloc _) _).block _ (by simp)]; exact heap_alloc_new w _
    · rw [hb.block _ (by simp)]
      have := heap_alloc_new (w.alloc (.cells #[.slice none 0 0] 47)) (.cells #[.int .i64 0, .int .i64 0, .int .i64 0] 31)
      simpa using this
  cases hr : progP (scanX s).2.1 ((scanX s).2.2 : Int) (scanX s).1 with
  | bad ec eo =>
    have PB : Hid (∀ w', Below w.heap.size w w' → Post (.returned (.tuple #[.agg #[.slice none 0 0], .agg #[.int .i64 ec, .int .i64 0, .int .i64 eo]])) w') := fun w' hb => by rw [hPost]; exact readProg_mkb hr hb
    have HRr := hide hr
    clear hr hPost
    go_enter Tryz.func16, Tryz.ntmps16
    go_wp2_with (go_at_call 34; refine (HC.out _ (below2a _ _ _)).mono ?_; intro e w2 hq; obtain ⟨rfl, hb2⟩ := readProg_bad hq HRr.out; clear hq; obtain ⟨k0, k1, k2⟩ := HK.out w2 hb2; have HK2 := hide k2; clear hb2 k2; obtain ⟨c0, z0⟩ := progCell k0; obtain ⟨⟨d0, d1, d2⟩, ⟨y0, y1, y2⟩⟩ := fault_cells k1; unfold faultV)
    have hV0 : ((((w2.setCell ⟨w.heap.size, 0, none⟩ (.slice none 0 0)).setCell ⟨w.heap.size + 1, 0, none⟩ (.int .i64 ec)).setCell ⟨w.heap.size + 1, 1, none⟩ (.int .i64 0)).setCell ⟨w.heap.size + 1, 2, none⟩ (.int .i64 eo)).heap[w.heap.size]? = some (.cells #[.slice none 0 0] 47 (0, 0)) := by simp [World.setCell, Array.getElem?_modify, k0]
    have hV1 : ((((w2.setCell ⟨w.heap.size, 0, none⟩ (.slice none 0 0)).setCell ⟨w.heap.size + 1, 0, none⟩ (.int .i64 ec)).setCell ⟨w.heap.size + 1, 1, none⟩ (.int .i64 0)).setCell ⟨w.heap.size + 1, 2, none⟩ (.int .i64 eo)).heap[w.heap.size + 1]? = some (.cells #[.int .i64 ec, .int .i64 0, .int .i64 eo] 31 (0, 0)) := by simp [World.setCell, Array.getElem?_modify, k1]
    have hO : Below w.heap.size w ((((w2.setCell ⟨w.heap.size, 0, none⟩ (.slice none 0 0)).setCell ⟨w.heap.size + 1, 0, none⟩ (.int .i64 ec)).setCell ⟨w.heap.size + 1, 1, none⟩ (.int .i64 0)).setCell ⟨w.heap.size + 1, 2, none⟩ (.int .i64 eo)) := (((((Only.of_below HK2.out (fun k => w.heap.size ≤ k)).setCell (p := ⟨w.heap.size, 0, none⟩) (Nat.le_refl _) _).setCell (p := ⟨w.heap.size + 1, 0, none⟩) (Nat.le_succ _) _).setCell (p := ⟨w.heap.size + 1, 1, none⟩) (Nat.le_succ _) _).setCell (p := ⟨w.heap.size + 1, 2, none⟩) (Nat.le_succ _) _).below (Nat.le_refl _) (fun k hk e => by omega)
    generalize (((w2.setCell ⟨w.heap.size, 0, none⟩ (.slice none 0 0)).setCell ⟨w.heap.size + 1, 0, none⟩ (.int .i64 ec)).setCell ⟨w.heap.size + 1, 1, none⟩ (.int .i64 0)).setCell ⟨w.heap.size + 1, 2, none⟩ (.int .i64 eo) = V at hV0 hV1 hO ⊢
    obtain ⟨f0, -⟩ := progCell hV0
    obtain ⟨⟨f1, f2, f3⟩, -⟩ := fault_cells hV1
    exact bodyPost_ret (v := .tuple #[.agg #[.slice none 0 0], .agg #[.int .i64 ec, .int .i64 0, .int .i64 eo]]) (by simp [results, Tryz.results16, go_sem, f0, f1, f2, f3]) rfl (PB.out _ hO)
  | ok b r =>
    have PG : Hid (∀ w' v cs, cs.map Clx.pur = b → cs.length ≤ 512 → Grow elClx 88 w.heap.size w' v cs → Below w.heap.size w w' → Post (.returned (.tuple #[.agg #[v], .agg #[.int .i64 0, .int .i64 0, .int .i64 0]])) w') := fun w' v cs h1 h2 h3 h4 => by rw [hPost]; exact readProg_mko hr h1 h2 h3 h4
    have HRr := hide hr
    clear hr hPost
    go_enter Tryz.func16, Tryz.ntmps16
    go_wp2_with (go_at_call 34; refine (HC.out _ (below2a _ _ _)).mono ?_; intro e w2 hq; obtain ⟨v, cs, rfl, hpur, hlen, hls, hb2⟩ := readProg_own hq HRr.out; clear hq; obtain ⟨va, vc, rfl, -⟩ := hls.shape; obtain ⟨k0, k1, k2⟩ := HK.out w2 hb2; have HK2 := hide k2; have HLs := hide hls; have HPu := hide hpur; have HLn := hide hlen; clear hb2 k2 hls hpur hlen; obtain ⟨c0, z0⟩ := progCell k0; obtain ⟨⟨d0, d1, d2⟩, ⟨y0, y1, y2⟩⟩ := fault_cells k1; unfold faultV)
    have hV0 : ((((w2.setCell ⟨w.heap.size, 0, none⟩ (.slice va cs.length vc)).setCell ⟨w.heap.size + 1, 0, none⟩ (.int .i64 0)).setCell ⟨w.heap.size + 1, 1, none⟩ (.int .i64 0)).setCell ⟨w.heap.size + 1, 2, none⟩ (.int .i64 0)).heap[w.heap.size]? = some (.cells #[.slice va cs.length vc] 47 (0, 0)) := by simp [World.setCell, Array.getElem?_modify, k0]
    have hV1 : ((((w2.setCell ⟨w.heap.size, 0, none⟩ (.slice va cs.length vc)).setCell ⟨w.heap.size + 1, 0, none⟩ (.int .i64 0)).setCell ⟨w.heap.size + 1, 1, none⟩ (.int .i64 0)).setCell ⟨w.heap.size + 1, 2, none⟩ (.int .i64 0)).heap[w.heap.size + 1]? = some (.cells #[.int .i64 0, .int .i64 0, .int .i64 0] 31 (0, 0)) := by simp [World.setCell, Array.getElem?_modify, k1]
    have hB : Below w.heap.size w ((((w2.setCell ⟨w.heap.size, 0, none⟩ (.slice va cs.length vc)).setCell ⟨w.heap.size + 1, 0, none⟩ (.int .i64 0)).setCell ⟨w.heap.size + 1, 1, none⟩ (.int .i64 0)).setCell ⟨w.heap.size + 1, 2, none⟩ (.int .i64 0)) := (((((Only.of_below HK2.out (fun k => w.heap.size ≤ k)).setCell (p := ⟨w.heap.size, 0, none⟩) (Nat.le_refl _) _).setCell (p := ⟨w.heap.size + 1, 0, none⟩) (Nat.le_succ _) _).setCell (p := ⟨w.heap.size + 1, 1, none⟩) (Nat.le_succ _) _).setCell (p := ⟨w.heap.size + 1, 2, none⟩) (Nat.le_succ _) _).below (Nat.le_refl _) (fun k hk e => by omega)
    have hO : Only (fun k => k = w.heap.size ∨ k = w.heap.size + 1) w2 ((((w2.setCell ⟨w.heap.size, 0, none⟩ (.slice va cs.length vc)).setCell ⟨w.heap.size + 1, 0, none⟩ (.int .i64 0)).setCell ⟨w.heap.size + 1, 1, none⟩ (.int .i64 0)).setCell ⟨w.heap.size + 1, 2, none⟩ (.int .i64 0)) := ((((Only.refl (fun k => k = w.heap.size ∨ k = w.heap.size + 1) w2).setCell (p := ⟨w.heap.size, 0, none⟩) (.inl rfl) _).setCell (p := ⟨w.heap.size + 1, 0, none⟩) (.inr rfl) _).setCell (p := ⟨w.heap.size + 1, 1, none⟩) (.inr rfl) _).setCell (p := ⟨w.heap.size + 1, 2, none⟩) (.inr rfl) _
    generalize (((w2.setCell ⟨w.heap.size, 0, none⟩ (.slice va cs.length vc)).setCell ⟨w.heap.size + 1, 0, none⟩ (.int .i64 0)).setCell ⟨w.heap.size + 1, 1, none⟩ (.int .i64 0)).setCell ⟨w.heap.size + 1, 2, none⟩ (.int .i64 0) = V at hV0 hV1 hO hB ⊢
    obtain ⟨f0, -⟩ := progCell hV0
    obtain ⟨⟨f1, f2, f3⟩, -⟩ := fault_cells hV1
    exact bodyPost_ret (v := .tuple #[.agg #[.slice va cs.length vc], .agg #[.int .i64 0, .int .i64 0, .int .i64 0]]) (by simp [results, Tryz.results16, go_sem, f0, f1, f2, f3]) rfl (PG.out _ _ cs HPu.out HLn.out ((HLs.out.above fun k hk hlt => hO.block k hlt (by simp at hk; omega)).mono (by simp <;> omega)) hB)

set_option maxRecDepth 100000 in
set_option maxHeartbeats 2000000 in
theorem parseFacts_any (s : ByteArray) (w : World) (hl : LexLaid w) (hs : s.size ≤ 140737488351232) :
    Calls Tryz.prog 13 #[.string s] w (ReadFacts w s) := by
  have HC := hide (fun (W : World) (hb : Below w.heap.size w W) => readFacts_any s W (hl.kept hb) hs)
  clear hl hs
  obtain ⟨Post, hPost⟩ : ∃ Post : Ending → World → Prop, Post = ReadFacts w s := ⟨_, rfl⟩
  rw [← hPost]
  have HK : Hid (∀ w2, Below (w.alloc (.cells #[.int .i64 0, .int .i64 0, .int .i64 0] 31)).heap.size (w.alloc (.cells #[.int .i64 0, .int .i64 0, .int .i64 0] 31)) w2 → w2.heap[w.heap.size]? = some (.cells #[.int .i64 0, .int .i64 0, .int .i64 0] 31 (0, 0)) ∧ Below w.heap.size w w2) := fun w2 hb => by
    refine ⟨?_, belowt2 (belowA w _) hb⟩
    rw [hb.block _ (by simp)]; exact heap_alloc_new w _
  cases hr : factsP (scanX s).2.1 ((scanX s).2.2 : Int) (scanX s).1 with
  | bad ec eo =>
    have PB : Hid (∀ w', Below w.heap.size w w' → Post (.returned (.tuple #[.slice none 0 0, .agg #[.int .i64 ec, .int .i64 0, .int .i64 eo]])) w') := fun w' hb => by rw [hPost]; exact readFacts_mkb hr hb
    have HRr := hide hr
    clear hr hPost
    go_enter Tryz.func13, Tryz.ntmps13
    go_wp2_with (go_at_call 32; refine (HC.out _ (belowA _ _)).mono ?_; intro e w2 hq; obtain ⟨rfl, hb2⟩ := readFacts_bad hq HRr.out; clear hq; obtain ⟨k1, k2⟩ := HK.out w2 hb2; have HK2 := hide k2; clear hb2 k2; obtain ⟨⟨d0, d1, d2⟩, ⟨y0, y1, y2⟩⟩ := fault_cells k1; unfold faultV)
    have hV1 : (((w2.setCell ⟨w.heap.size, 0, none⟩ (.int .i64 ec)).setCell ⟨w.heap.size, 1, none⟩ (.int .i64 0)).setCell ⟨w.heap.size, 2, none⟩ (.int .i64 eo)).heap[w.heap.size]? = some (.cells #[.int .i64 ec, .int .i64 0, .int .i64 eo] 31 (0, 0)) := by simp [World.setCell, Array.getElem?_modify, k1]
    have hO : Below w.heap.size w (((w2.setCell ⟨w.heap.size, 0, none⟩ (.int .i64 ec)).setCell ⟨w.heap.size, 1, none⟩ (.int .i64 0)).setCell ⟨w.heap.size, 2, none⟩ (.int .i64 eo)) := ((((Only.of_below HK2.out (fun k => w.heap.size ≤ k)).setCell (p := ⟨w.heap.size, 0, none⟩) (Nat.le_refl _) _).setCell (p := ⟨w.heap.size, 1, none⟩) (Nat.le_refl _) _).setCell (p := ⟨w.heap.size, 2, none⟩) (Nat.le_refl _) _).below (Nat.le_refl _) (fun k hk e => by omega)
    generalize ((w2.setCell ⟨w.heap.size, 0, none⟩ (.int .i64 ec)).setCell ⟨w.heap.size, 1, none⟩ (.int .i64 0)).setCell ⟨w.heap.size, 2, none⟩ (.int .i64 eo) = V at hV1 hO ⊢
    obtain ⟨⟨f1, f2, f3⟩, -⟩ := fault_cells hV1
    exact bodyPost_ret (v := .tuple #[.slice none 0 0, .agg #[.int .i64 ec, .int .i64 0, .int .i64 eo]]) (by simp [results, Tryz.results13, go_sem, f1, f2, f3]) rfl (PB.out _ hO)
  | ok b r =>
    have PG : Hid (∀ w' v cs, cs.map Atx.pur = b → cs.length ≤ 4096 → Grow elAtx 42 w.heap.size w' v cs → Below w.heap.size w w' → Post (.returned (.tuple #[v, .agg #[.int .i64 0, .int .i64 0, .int .i64 0]])) w') := fun w' v cs h1 h2 h3 h4 => by rw [hPost]; exact readFacts_mko hr h1 h2 h3 h4
    have HRr := hide hr
    clear hr hPost
    go_enter Tryz.func13, Tryz.ntmps13
    go_wp2_with (go_at_call 32; refine (HC.out _ (belowA _ _)).mono ?_; intro e w2 hq; obtain ⟨v, cs, rfl, hpur, hlen, hls, hb2⟩ := readFacts_own hq HRr.out; clear hq; obtain ⟨va, vc, rfl, -⟩ := hls.shape; obtain ⟨k1, k2⟩ := HK.out w2 hb2; have HK2 := hide k2; have HLs := hide hls; have HPu := hide hpur; have HLn := hide hlen; clear hb2 k2 hls hpur hlen; obtain ⟨⟨d0, d1, d2⟩, ⟨y0, y1, y2⟩⟩ := fault_cells k1; unfold faultV)
    have hV1 : (((w2.setCell ⟨w.heap.size, 0, none⟩ (.int .i64 0)).setCell ⟨w.heap.size, 1, none⟩ (.int .i64 0)).setCell ⟨w.heap.size, 2, none⟩ (.int .i64 0)).heap[w.heap.size]? = some (.cells #[.int .i64 0, .int .i64 0, .int .i64 0] 31 (0, 0)) := by simp [World.setCell, Array.getElem?_modify, k1]
    have hB : Below w.heap.size w (((w2.setCell ⟨w.heap.size, 0, none⟩ (.int .i64 0)).setCell ⟨w.heap.size, 1, none⟩ (.int .i64 0)).setCell ⟨w.heap.size, 2, none⟩ (.int .i64 0)) := ((((Only.of_below HK2.out (fun k => w.heap.size ≤ k)).setCell (p := ⟨w.heap.size, 0, none⟩) (Nat.le_refl _) _).setCell (p := ⟨w.heap.size, 1, none⟩) (Nat.le_refl _) _).setCell (p := ⟨w.heap.size, 2, none⟩) (Nat.le_refl _) _).below (Nat.le_refl _) (fun k hk e => by omega)
    have hO : Only (fun k => k = w.heap.size) w2 (((w2.setCell ⟨w.heap.size, 0, none⟩ (.int .i64 0)).setCell ⟨w.heap.size, 1, none⟩ (.int .i64 0)).setCell ⟨w.heap.size, 2, none⟩ (.int .i64 0)) := (((Only.refl (fun k => k = w.heap.size) w2).setCell (p := ⟨w.heap.size, 0, none⟩) rfl _).setCell (p := ⟨w.heap.size, 1, none⟩) rfl _).setCell (p := ⟨w.heap.size, 2, none⟩) rfl _
    generalize ((w2.setCell ⟨w.heap.size, 0, none⟩ (.int .i64 0)).setCell ⟨w.heap.size, 1, none⟩ (.int .i64 0)).setCell ⟨w.heap.size, 2, none⟩ (.int .i64 0) = V at hV1 hO hB ⊢
    obtain ⟨⟨f1, f2, f3⟩, -⟩ := fault_cells hV1
    exact bodyPost_ret (v := .tuple #[.slice va cs.length vc, .agg #[.int .i64 0, .int .i64 0, .int .i64 0]]) (by simp [results, Tryz.results13, go_sem, f1, f2, f3]) rfl (PG.out _ _ cs HPu.out HLn.out ((HLs.out.above fun k hk hlt => hO.block k hlt (by simp at hk; omega)).mono (by simp <;> omega)) hB)

set_option maxRecDepth 100000 in
set_option maxHeartbeats 2000000 in
theorem parseQuery_any (s : ByteArray) (w : World) (hl : LexLaid w) (hs : s.size ≤ 140737488351232) :
    Calls Tryz.prog 22 #[.string s] w (ReadQuery w s) := by
  have HC := hide (fun (W : World) (hb : Below w.heap.size w W) => readQuery_any s W (hl.kept hb) hs)
  clear hl hs
  obtain ⟨Post, hPost⟩ : ∃ Post : Ending → World → Prop, Post = ReadQuery w s := ⟨_, rfl⟩
  rw [← hPost]
  have HK : Hid (∀ w2, Below (w.alloc (.cells #[.int .i64 0, .int .i64 0, .int .i64 0] 31)).heap.size (w.alloc (.cells #[.int .i64 0, .int .i64 0, .int .i64 0] 31)) w2 → w2.heap[w.heap.size]? = some (.cells #[.int .i64 0, .int .i64 0, .int .i64 0] 31 (0, 0)) ∧ Below w.heap.size w w2) := fun w2 hb => by
    refine ⟨?_, belowt2 (belowA w _) hb⟩
    rw [hb.block _ (by simp)]; exact heap_alloc_new w _
  cases hr : queryP (scanX s).2.1 ((scanX s).2.2 : Int) (scanX s).1 with
  | bad ec eo =>
    have PB : Hid (∀ w', Below w.heap.size w w' → Post (.returned (.tuple #[.slice none 0 0, .agg #[.int .i64 ec, .int .i64 0, .int .i64 eo]])) w') := fun w' hb => by rw [hPost]; exact readQuery_mkb hr hb
    have HRr := hide hr
    clear hr hPost
    go_enter Tryz.func22, Tryz.ntmps22
    go_wp2_with (go_at_call 40; refine (HC.out _ (belowA _ _)).mono ?_; intro e w2 hq; obtain ⟨rfl, hb2⟩ := readQuery_bad hq HRr.out; clear hq; obtain ⟨k1, k2⟩ := HK.out w2 hb2; have HK2 := hide k2; clear hb2 k2; obtain ⟨⟨d0, d1, d2⟩, ⟨y0, y1, y2⟩⟩ := fault_cells k1; unfold faultV)
    have hV1 : (((w2.setCell ⟨w.heap.size, 0, none⟩ (.int .i64 ec)).setCell ⟨w.heap.size, 1, none⟩ (.int .i64 0)).setCell ⟨w.heap.size, 2, none⟩ (.int .i64 eo)).heap[w.heap.size]? = some (.cells #[.int .i64 ec, .int .i64 0, .int .i64 eo] 31 (0, 0)) := by simp [World.setCell, Array.getElem?_modify, k1]
    have hO : Below w.heap.size w (((w2.setCell ⟨w.heap.size, 0, none⟩ (.int .i64 ec)).setCell ⟨w.heap.size, 1, none⟩ (.int .i64 0)).setCell ⟨w.heap.size, 2, none⟩ (.int .i64 eo)) := ((((Only.of_below HK2.out (fun k => w.heap.size ≤ k)).setCell (p := ⟨w.heap.size, 0, none⟩) (Nat.le_refl _) _).setCell (p := ⟨w.heap.size, 1, none⟩) (Nat.le_refl _) _).setCell (p := ⟨w.heap.size, 2, none⟩) (Nat.le_refl _) _).below (Nat.le_refl _) (fun k hk e => by omega)
    generalize ((w2.setCell ⟨w.heap.size, 0, none⟩ (.int .i64 ec)).setCell ⟨w.heap.size, 1, none⟩ (.int .i64 0)).setCell ⟨w.heap.size, 2, none⟩ (.int .i64 eo) = V at hV1 hO ⊢
    obtain ⟨⟨f1, f2, f3⟩, -⟩ := fault_cells hV1
    exact bodyPost_ret (v := .tuple #[.slice none 0 0, .agg #[.int .i64 ec, .int .i64 0, .int .i64 eo]]) (by simp [results, Tryz.results22, go_sem, f1, f2, f3]) rfl (PB.out _ hO)
  | ok b r =>
    have PG : Hid (∀ w' v cs, cs.map Lix.pur = b → cs.length ≤ 16 → Grow elLix 56 w.heap.size w' v cs → Below w.heap.size w w' → Post (.returned (.tuple #[v, .agg #[.int .i64 0, .int .i64 0, .int .i64 0]])) w') := fun w' v cs h1 h2 h3 h4 => by rw [hPost]; exact readQuery_mko hr h1 h2 h3 h4
    have HRr := hide hr
    clear hr hPost
    go_enter Tryz.func22, Tryz.ntmps22
    go_wp2_with (go_at_call 40; refine (HC.out _ (belowA _ _)).mono ?_; intro e w2 hq; obtain ⟨v, cs, rfl, hpur, hlen, hls, hb2⟩ := readQuery_own hq HRr.out; clear hq; obtain ⟨va, vc, rfl, -⟩ := hls.shape; obtain ⟨k1, k2⟩ := HK.out w2 hb2; have HK2 := hide k2; have HLs := hide hls; have HPu := hide hpur; have HLn := hide hlen; clear hb2 k2 hls hpur hlen; obtain ⟨⟨d0, d1, d2⟩, ⟨y0, y1, y2⟩⟩ := fault_cells k1; unfold faultV)
    have hV1 : (((w2.setCell ⟨w.heap.size, 0, none⟩ (.int .i64 0)).setCell ⟨w.heap.size, 1, none⟩ (.int .i64 0)).setCell ⟨w.heap.size, 2, none⟩ (.int .i64 0)).heap[w.heap.size]? = some (.cells #[.int .i64 0, .int .i64 0, .int .i64 0] 31 (0, 0)) := by simp [World.setCell, Array.getElem?_modify, k1]
    have hB : Below w.heap.size w (((w2.setCell ⟨w.heap.size, 0, none⟩ (.int .i64 0)).setCell ⟨w.heap.size, 1, none⟩ (.int .i64 0)).setCell ⟨w.heap.size, 2, none⟩ (.int .i64 0)) := ((((Only.of_below HK2.out (fun k => w.heap.size ≤ k)).setCell (p := ⟨w.heap.size, 0, none⟩) (Nat.le_refl _) _).setCell (p := ⟨w.heap.size, 1, none⟩) (Nat.le_refl _) _).setCell (p := ⟨w.heap.size, 2, none⟩) (Nat.le_refl _) _).below (Nat.le_refl _) (fun k hk e => by omega)
    have hO : Only (fun k => k = w.heap.size) w2 (((w2.setCell ⟨w.heap.size, 0, none⟩ (.int .i64 0)).setCell ⟨w.heap.size, 1, none⟩ (.int .i64 0)).setCell ⟨w.heap.size, 2, none⟩ (.int .i64 0)) := (((Only.refl (fun k => k = w.heap.size) w2).setCell (p := ⟨w.heap.size, 0, none⟩) rfl _).setCell (p := ⟨w.heap.size, 1, none⟩) rfl _).setCell (p := ⟨w.heap.size, 2, none⟩) rfl _
    generalize ((w2.setCell ⟨w.heap.size, 0, none⟩ (.int .i64 0)).setCell ⟨w.heap.size, 1, none⟩ (.int .i64 0)).setCell ⟨w.heap.size, 2, none⟩ (.int .i64 0) = V at hV1 hO hB ⊢
    obtain ⟨⟨f1, f2, f3⟩, -⟩ := fault_cells hV1
    exact bodyPost_ret (v := .tuple #[.slice va cs.length vc, .agg #[.int .i64 0, .int .i64 0, .int .i64 0]]) (by simp [results, Tryz.results22, go_sem, f1, f2, f3]) rfl (PG.out _ _ cs HPu.out HLn.out ((HLs.out.above fun k hk hlt => hO.block k hlt (by simp at hk; omega)).mono (by simp <;> omega)) hB)
end Go.Proofs.YtchhophblejmeaaGreatDoor
