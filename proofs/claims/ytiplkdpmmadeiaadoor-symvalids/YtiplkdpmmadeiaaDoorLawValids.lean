/- edictlaw01.SymValids returns true at every list of constants. -/
import Derived.Test.YtiplkdpmmadeiaaDoorProg
import Derived.Test.YtiplkdpmmadeiaaDoorSymText
import Derived.Test.YtiplkdpmmadeiaaDoorConEq
namespace Go.Proofs.YtiplkdpmmadeiaaDoor
set_option linter.unusedSimpArgs false
set_option linter.unusedVariables false
open Go.RowKit

theorem IsCons.kept {w w' : World} {ao : Option Addr} {len : Nat} {cs : List Con} (h : IsCons w ao len cs) (hb : Below w.heap.size w w') : IsCons w' ao len cs :=
  ⟨h.1, h.2.1, h.2.2.1, fun hl => by obtain ⟨b, off, e, hr⟩ := h.2.2.2 hl; exact ⟨b, off, e, fun i c hc => conAt_kept (hr i c hc) hb⟩⟩

set_option maxHeartbeats 4000000 in
set_option maxRecDepth 100000 in
theorem symValids_walk (ao : Option Addr) (n cap : Nat) (cs : List Con) (w : World) (h : IsCons w ao n cs) (ht : TabLaid w) :
    Calls Tryd.prog 3 #[.slice ao n cap] w fun e w' => e = .returned (.bool true) ∧ Below w.heap.size w w' := by
  have H1 := hide h
  have HT := hide ht
  have hn : n ≤ 140737488351232 := by have := h.2.1; omega
  clear h ht
  go_enter Tryd.func3, Tryd.ntmps3
  go_wp2
  go_loopw [3] (fun i wr => ∃ k : Nat, k ≤ n ∧ i = .int .i64 k ∧ Hid (Below w.heap.size w wr)) (fun i _ => n - (intOf i).toNat)
  case atStart => exact ⟨0, Nat.zero_le _, rfl, Below.refl _ _⟩
  case round =>
    obtain ⟨k, hk, rfl, HB⟩ := hrel
    by_cases hlt : k < n
    · have hi : (k : Int) < (n : Int) := by omega
      obtain ⟨hlen, -, hok, hrow⟩ := H1.out
      obtain ⟨b, off, rfl, hr⟩ := hrow (by omega)
      obtain ⟨x, hx⟩ : ∃ x, cs[k]? = some x := ⟨_, List.getElem?_eq_getElem (by omega)⟩
      have hxo := hok x (List.mem_of_getElem? hx)
      obtain ⟨x0, x1, x2⟩ := conAt_kept (hr k x hx) HB.out
      have HV1 : Hid (∀ z, Calls Tryd.prog 7 #[.agg #[.int .i64 x.k, .int .i64 x.n, .string x.s]] (over wr z) fun e w' => e = .returned (.bool (validC x)) ∧ Below (over wr z).heap.size (over wr z) w') := fun z => valid_any x _ hxo
      have HV2 : Hid (∀ z, Calls Tryd.prog 8 #[.agg #[.int .i64 x.k, .int .i64 x.n, .string x.s]] (over wr z) fun e w' => e = .returned (.bool (validC x)) ∧ Below (over wr z).heap.size (over wr z) w') := fun z => rvalid x _ hxo
      have HT1 : Hid (∀ z, Calls Tryd.prog 9 #[.agg #[.int .i64 x.k, .int .i64 x.n, .string x.s]] (over wr z) fun e w' => e = .returned (.string (textC x)) ∧ Below (over wr z).heap.size (over wr z) w') := fun z => symText_any x _ hxo (HT.out.kept (HB.out.trans ((over_below wr z).mono HB.out.size)))
      have HT2 : Hid (∀ z, Calls Tryd.prog 10 #[.agg #[.int .i64 x.k, .int .i64 x.n, .string x.s]] (over wr z) fun e w' => e = .returned (.string (textC x)) ∧ Below (over wr z).heap.size (over wr z) w') := fun z => rtext x _ hxo
      have hs1 : x.s.size ≤ maxLen := by have := hxo.2.2; unfold maxLen; omega
      have hs2 := hxo.2.2
      have HN1 : Hid (∀ W, Calls Tryd.prog 11 #[.string x.s] W fun e w' => e = .returned (.bool (isNameL x.s.toList)) ∧ Below W.heap.size W w') := fun W => (isName_any x.s W hs1).mono fun e w' ⟨he, hw⟩ => ⟨he, by rw [hw]; exact Below.refl _ _⟩
      have HN2 : Hid (∀ W, Calls Tryd.prog 12 #[.string x.s] W fun e w' => e = .returned (.bool (isNameL x.s.toList)) ∧ Below W.heap.size W w') := fun W => (rname x.s W hs2).mono fun e w' ⟨he, hw⟩ => ⟨he, by rw [hw]; exact Below.refl _ _⟩
      have HN3 : Hid (∀ W, Calls Tryd.prog 13 #[.string x.s] W fun e w' => e = .returned (.bool (isVarL x.s.toList)) ∧ Below W.heap.size W w') := fun W => (isVar_any x.s W hs1).mono fun e w' ⟨he, hw⟩ => ⟨he, by rw [hw]; exact Below.refl _ _⟩
      have HN4 : Hid (∀ W, Calls Tryd.prog 14 #[.string x.s] W fun e w' => e = .returned (.bool (isVarL x.s.toList)) ∧ Below W.heap.size W w') := fun W => (rvar x.s W hs2).mono fun e w' ⟨he, hw⟩ => ⟨he, by rw [hw]; exact Below.refl _ _⟩
      clear hr hx hlen hrow hok hxo hs1 hs2
      generalize validC x = bv at *
      generalize textC x = bt at *
      generalize isNameL x.s.toList = bn at *
      generalize isVarL x.s.toList = br at *
      go_wp2
      refine wp_region_over (fun W => W = wr) (by kernel_rfl) (by kernel_rfl) rfl ?_
      rintro W rfl
      have x0' := over_cell x0
      have x1' := over_cell x1
      have x2' := over_cell x2
      have X2 := hide x2
      clear x0 x1 x2
      repeat (go_big_quiet_step (first | (go_at_call 7; exact calls_over (HV1.out _)) | (go_at_call 8; exact calls_over (HV2.out _)) | (go_at_call 9; exact calls_over (HT1.out _)) | (go_at_call 10; exact calls_over (HT2.out _))))
      refine wpQuiet_nil ?_
      rintro _ ⟨z, rfl⟩
      have HB3 := hide (HB.out.trans ((over_below W z).mono HB.out.size))
      have x2 := kept_cell (over_below W z) X2.out
      clear x0' x1' x2' X2
      generalize over W z = W2 at *
      go_wp2
      refine wp_region_over (fun W => W = W2) (by kernel_rfl) (by kernel_rfl) rfl ?_
      rintro W3 rfl
      have x2' := over_cell x2
      clear x2
      repeat (go_big_quiet_step (first | (go_at_call 11; exact calls_over (HN1.out _)) | (go_at_call 12; exact calls_over (HN2.out _)) | (go_at_call 13; exact calls_over (HN3.out _)) | (go_at_call 14; exact calls_over (HN4.out _))))
      refine wpQuiet_nil ?_
      rintro _ ⟨z2, rfl⟩
      have HB4 := hide (HB3.out.trans ((over_below W3 z2).mono HB3.out.size))
      clear x2'
      go_wp2
      go_roundw
      case rel => exact ⟨k + 1, by omega, by go_num, HB4⟩
      case measure => simp [intOf]; omega
    · have hi : ¬ (k : Int) < (n : Int) := by omega
      go_wp2
      go_ret
      exact ⟨rfl, HB.out⟩
end Go.Proofs.YtiplkdpmmadeiaaDoor
