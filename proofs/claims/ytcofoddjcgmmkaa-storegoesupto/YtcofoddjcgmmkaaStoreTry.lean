/- Try, with the law's own function. -/
import Derived.Test.YtcofoddjcgmmkaaStoreSince
import Derived.Test.YtcofoddjcgmmkaaStoreRows
import Derived.Defers
import Derived.Recover
import Derived.Deep.RegionHeld3
namespace Go.Proofs.Ytcofoddjcgmmkaa
set_option linter.unusedSimpArgs false
set_option linter.unusedVariables false
open Go.RowKit Go.Maps

set_option maxRecDepth 100000 in
set_option maxHeartbeats 2000000 in
theorem after_held {w : World} {h s c : Nat} (hh : w.cell? ⟨h, 0, none⟩ = some (.bool true)) :
    CallsD Try.prog 29 #[.pointer (some ⟨h, 0, none⟩), .pointer (some ⟨s, 0, none⟩), .pointer (some ⟨c, 0, none⟩)] .returning w fun e u' w' => e = .returned (.tuple #[]) ∧ u' = .returning ∧ w' = w := by
  refine callsD_of_wpS Try.func29 rfl fun c₀ cs hu => ?_
  apply wpS_seq
  apply wpS_seq
  apply wpS_region
  simp [wpOpsS, go_sem, hh, Try.ntmps29, Exit.thenS]
  refine wpS_cond (t := true) (by simp [Act.eval, Array.replicate]) ?_
  simp only [if_true]
  refine wpS_of_wp (wp_ret ?_)
  cases c₀
  simp_all [bodyPostS, results, Try.results29, Exit.thenS]

set_option maxRecDepth 100000 in
set_option maxHeartbeats 2000000 in
theorem after_undo {w : World} {h s c p n : Nat} {b : Int} {own : Own} {Q : World → Prop} (hh : w.cell? ⟨h, 0, none⟩ = some (.bool false)) (hs : w.cell? ⟨s, 0, none⟩ = some (.pointer (some ⟨p, 0, none⟩))) (hb : w.cell? ⟨c, 0, none⟩ = some (.int .i64 b)) (hns : own s = none) (hnc : own c = none)
    (hS : ∀ V, Below w.heap.size w V → Calls Try.prog 31 #[.pointer (some ⟨p, 0, none⟩), .int .i64 b] V fun e w' => e = .returned (.int .i64 (n : Int)) ∧ Below V.heap.size V w')
    (hR : ∀ V, Below w.heap.size w V → Calls Try.prog 30 #[.pointer (some ⟨p, 0, none⟩), .int .i64 (n : Int)] V fun e w' => e = .returned (.tuple #[]) ∧ Q w' ∧ Turn (fun _ => True) own own V w') :
    CallsD Try.prog 29 #[.pointer (some ⟨h, 0, none⟩), .pointer (some ⟨s, 0, none⟩), .pointer (some ⟨c, 0, none⟩)] .returning w fun e u' w' => e = .returned (.tuple #[]) ∧ u' = .returning ∧ Q w' ∧ Turn (fun _ => True) own own w w' := by
  refine callsD_of_wpS Try.func29 rfl fun c₀ cs hu => ?_
  have HS := hide hS
  have HR := hide hR
  have HSc : Hid (∀ V, Below w.heap.size w V → V.cell? ⟨s, 0, none⟩ = some (.pointer (some ⟨p, 0, none⟩)) ∧ V.cell? ⟨c, 0, none⟩ = some (.int .i64 b)) := fun V hV => ⟨kept_cell hV hs, kept_cell hV hb⟩
  clear hS hR
  apply wpS_seq
  apply wpS_seq
  apply wpS_region
  simp [wpOpsS, go_sem, hh, Try.ntmps29, Exit.thenS]
  refine wpS_cond (t := false) (by simp [Act.eval, Array.replicate]) ?_
  simp only [Bool.false_eq_true, if_false]
  refine wpS_of_wp (wp_skip ?_)
  simp only [Exit.thenS]
  apply wpS_seq
  apply wpS_region
  simp [wpOpsS, go_sem, recoverD, hu, Exit.thenS]
  refine wpS_of_wp ?_
  change Code.wp _ _ _ ⟨#[.pointer (some ⟨h, 0, none⟩), .pointer (some ⟨s, 0, none⟩), .pointer (some ⟨c, 0, none⟩), .bool false, .nilIface, _, _, _, _, _], []⟩ w
  go_region_held3 (fun V => V.cell? ⟨s, 0, none⟩ = some (.pointer (some ⟨p, 0, none⟩)) ∧ V.cell? ⟨c, 0, none⟩ = some (.int .i64 b))
    (first
      | exact HSc.out _ (Below.refl _ _)
      | exact HSc.out _ ((Below.refl _ w).drew)
      | exact HSc.out _ HB1.out
      | exact HS2)
    (first
      | (go_at_call 31; refine (HS.out _ ((Below.refl _ w).drew)).mono ?_; rintro e w1 ⟨rfl, h1⟩; have HB1 : Hid (Below w.heap.size w w1) := ((Below.refl _ w).drew).trans h1; clear h1)
      | (go_at_call 30; refine (HR.out _ HB1.out).mono ?_; rintro e w2 ⟨rfl, q2, t2⟩; have HQ2 := hide q2; have HT2 := hide t2; have HS2 := And.intro (t2.cell (HSc.out _ HB1.out).1 hns) (t2.cell (HSc.out _ HB1.out).2 hnc); clear q2 t2))
  cases c₀
  simp_all [bodyPostS, results, Try.results29, Exit.thenS]
  exact ⟨HQ2.out, (Turn.below HB1.out).trans HT2.out⟩

set_option maxRecDepth 100000 in
set_option maxHeartbeats 2000000 in
theorem try_any {w Y : World} {p : Nat} {cap : Array Value} {b : Int} {say : Bool} {R Q : World → Prop} (hb : w.cell? ⟨p, 4, none⟩ = some (.int .i64 b))
    (hY : Y = ((w.alloc (.cells #[.pointer (some ⟨p, 0, none⟩)] 27)).alloc (.cells #[.bool false] 4)).alloc (.cells #[.int .i64 b] 3))
    (hf : Calls Try.prog 11 cap Y fun e w' => e = .returned (.bool say) ∧ R w')
    (hD : ∀ W, R W → W.cell? ⟨w.heap.size + 1, 0, none⟩ = some (.bool false) ∧ W.frozen? ⟨w.heap.size + 1, 0, none⟩ = false ∧ CallsD Try.prog 29 #[.pointer (some ⟨w.heap.size + 1, 0, none⟩), .pointer (some ⟨w.heap.size, 0, none⟩), .pointer (some ⟨w.heap.size + 1 + 1, 0, none⟩)] .returning (W.setCell ⟨w.heap.size + 1, 0, none⟩ (.bool say)) fun e u' w' => e = .returned (.tuple #[]) ∧ u' = .returning ∧ w'.cell? ⟨w.heap.size + 1, 0, none⟩ = some (.bool say) ∧ Q w') :
    Calls Try.prog 10 #[.pointer (some ⟨p, 0, none⟩), .func (.func 11) #[] cap] w fun e w' => e = .returned (.bool say) ∧ Q w' := by
  have hmf : ∀ (fn : Fn) (first cap : Array Value) (w : World), (Instr.makeFunc fn first cap).run Try.prog w = .ok (.func fn first cap) w := fun _ _ _ _ => rfl
  have hnil : ∀ w : World, (binOp BinOp.eql 38 (.func (.func 11) #[] cap) .nilFunc).run Try.prog w = .ok (.bool false) w := fun _ => by rfl
  have hb2 := kept_cell (((Below.refl _ w).alloc (Nat.le_refl _) (.cells #[.pointer (some ⟨p, 0, none⟩)] 27)).alloc (by simp) (.cells #[.bool false] 4)) hb
  have HD := hide hD
  have HF := hide hf
  clear hD hf
  go_enter_defers Try.func10, Try.ntmps10
  go_wp2_with fail
  rw [← hY]
  clear hY
  refine HF.out.mono ?_
  rintro e w1 ⟨rfl, r1⟩
  obtain ⟨hc1, hf1, h2⟩ := HD.out w1 r1
  have H2 := hide h2
  clear h2
  go_wp2_with fail
  refine leaves_cons (f := 29) (args := #[.pointer (some ⟨w.heap.size + 1, 0, none⟩), .pointer (some ⟨w.heap.size, 0, none⟩), .pointer (some ⟨w.heap.size + 1 + 1, 0, none⟩)]) (by simp) (by simp [go_sem]) ?_
  refine H2.out.mono ?_
  rintro e u' w'' ⟨rfl, rfl, hc, hq⟩
  simp [Leaves, settle, results, Try.results10, go_sem, hc, hq]
end Go.Proofs.Ytcofoddjcgmmkaa
