/- edictlaw06.MatchHolds returns true at every list of constants, test and substitution. -/
import Derived.Test.YtnahfhfnodghaaaMatchHold
import Derived.Test.YtnahfhfnodghaaaRoomCons
namespace Go.Proofs.Ytnahfhfnodghaaa
set_option linter.unusedSimpArgs false
set_option linter.unusedVariables false
open Go.RowKit

set_option maxRecDepth 100000 in
set_option maxHeartbeats 1000000 in
theorem matchHolds_walk (ca : Option Addr) (cl cc : Nat) (cs : List Con) (t : Tst) (sa : Option Addr) (sl sc : Nat) (sub : List Int) (w : World)
    (hc : IsCons w ca cl cs) (hcn : cl ≤ cc ∧ (ca = none → cl = 0 ∧ cc = 0)) (hcz : cl * 32 ≤ 140737488351232) (ht : t.ok) (hs : IsNums w sa sl sub) (hsn : sl ≤ sc ∧ (sa = none → sl = 0 ∧ sc = 0)) (hsz : sl * 8 ≤ 140737488351232) :
    Calls Try.prog 6 #[.slice ca cl cc, t.val, .slice sa sl sc] w fun e w' => e = .returned (.bool true) ∧ Below w.heap.size w w' := by
  have T0 := tstAt_new w t
  have HB0 : Hid (Below w.heap.size w (w.alloc (tstObj t))) := (Below.refl _ _).alloc (Nat.le_refl _) _
  have HC := hide hc
  have HS := hide hs
  have HCz := hide hcz
  have HSz := hide hsz
  have HCn := hide hcn.2
  have HSn := hide hsn.2
  have HTk := hide ht
  have HRef : Hid (∀ W, Below w.heap.size w W → Calls Try.prog 18 #[.slice ca cl cc, t.val, .slice sa sl sc] W fun e w' => e = .returned (.tuple #[.bool (holdsP cs t sub).1, .int .i64 (holdsP cs t sub).2]) ∧ Below W.heap.size W w') := fun W hb => rholds_any ht ⟨hc.1, hc.2.1, hc.2.2.1, fun h => by obtain ⟨b, o, e, hr⟩ := hc.2.2.2 h; exact ⟨b, o, e, fun i c hi => conAt_kept (hr i c hi) hb⟩⟩ (hs.kept hb)
  have HMine : Hid (∀ W v1 v2 b1 b2, RoomC W b1 v1 cs → Room W b2 v2 sub → Calls Try.prog 20 #[v1, t.val, v2] W fun e w' => e = .returned (.tuple #[.bool (holdsP cs t sub).1, .int .i64 (holdsP cs t sub).2]) ∧ Below W.heap.size W w') := fun W v1 v2 b1 b2 h1 h2 => by
    obtain ⟨g1, c1, rfl, _, i1, _⟩ := h1.cons HC.out.2.2.1 (by rw [HC.out.1]; have := HCz.out; omega)
    obtain ⟨g2, c2, rfl, _, i2, _⟩ := h2.nums HS.out.2.2.1 (by rw [HS.out.1]; have := HSz.out; omega)
    exact holds6_any HTk.out i1 i2
  clear hc hs hcz hsz hcn hsn ht
  generalize holdsP cs t sub = R at *
  obtain ⟨x, n⟩ := R
  obtain ⟨op, ⟨lv, ln⟩, ⟨rv, rn⟩⟩ := t
  unfold Tst.val at *
  unfold tstObj at *
  simp only at *
  go_enter Try.func6, Try.ntmps6
  go_wp2_with fail
  refine (HRef.out _ HB0.out).mono ?_
  rintro e w1 ⟨rfl, h1⟩
  have HB1 := hide (HB0.out.trans (h1.mono HB0.out.size))
  have T1 := T0.kept h1
  clear h1 T0 HB0 HRef
  go_wp2_with fail
  refine (roomy_any (HS.out.kept HB1.out) HSn.out HSz.out).mono ?_
  rintro e w2 ⟨v2, rfl, r2, h1⟩
  have HB2 := hide (HB1.out.trans (h1.mono HB1.out.size))
  have T2 := T1.kept h1
  have HR2 := hide r2
  clear h1 T1 HB1 r2
  go_wp2_with fail
  refine (roomyConsts_any (isCons_kept HC.out HB2.out) HCn.out HCz.out).mono ?_
  rintro e w3 ⟨v3, rfl, r3, h1⟩
  have HB3 := hide (HB2.out.trans (h1.mono HB2.out.size))
  have T3 := T2.kept h1
  have HR3 := hide r3
  have HR2' := hide (HR2.out.kept h1)
  clear h1 T2 HB2 r3 HR2
  obtain ⟨t0, ⟨t1, t2⟩, ⟨t3, t4⟩⟩ := T3
  go_wp2_with fail
  refine (HMine.out _ _ _ _ _ HR3.out HR2'.out).mono ?_
  rintro e w4 ⟨rfl, h1⟩
  have HB4 := hide (HB3.out.trans (h1.mono HB3.out.size))
  have HR3'' := hide (HR3.out.kept h1)
  have HR2'' := hide (HR2'.out.kept h1)
  clear h1 t0 t1 t2 t3 t4 HB3 HR3 HR2' HMine
  go_wp2_with fail
  refine (untouched_any HR2''.out (HS.out.kept HB4.out)).mono ?_
  rintro e w5 ⟨rfl, h1⟩
  have HB5 := hide (HB4.out.trans (h1.mono HB4.out.size))
  have HR5 := hide (HR3''.out.kept h1)
  clear h1 HB4 HR3'' HR2''
  go_wp2_with fail
  refine (untouchedConsts_any HR5.out (isCons_kept HC.out HB5.out)).mono ?_
  rintro e w6 ⟨rfl, h1⟩
  have HB6 := hide (HB5.out.trans (h1.mono HB5.out.size))
  clear h1 HB5 HR5
  go_wp2
  go_ret
  exact ⟨rfl, HB6.out⟩
end Go.Proofs.Ytnahfhfnodghaaa
