/- strconv.UnquoteChar at a double quote: escapes of two, four and eight digits. -/
import Derived.Test.YtoppnjpajeipdaaGreatDoorProg
import Derived.Test.YtoppnjpajeipdaaGreatDoorUnqChar
namespace Go.Proofs.YtoppnjpajeipdaaGreatDoor
set_option linter.unusedSimpArgs false
set_option linter.unusedVariables false
open Go.RowKit

/-- What the first k digits come to (said of one and of two). -/
structure UVal (t : ByteArray) (k : Nat) (u : Int) : Prop where
  nil : k = 0 → u = 0
  one : k = 1 → ∀ x, (∃ h : 0 < t.size, hexV (t[0].toNat : Int) = some x) → u = x
  both : k = 2 → ∀ x y, (∃ h : 0 < t.size, hexV (t[0].toNat : Int) = some x) → (∃ h : 1 < t.size, hexV (t[1].toNat : Int) = some y) → u = 16 * x + y
theorem or_of {s : ByteArray} {k : Nat} {h : 2 + k < s.size} (hk : k < 2) {h2 : 2 < s.size} {h3 : 3 < s.size} (e : hexV (s[2 + k].toNat : Int) = none) : hexV (s[2].toNat : Int) = none ∨ hexV (s[3].toNat : Int) = none := by
  match k, hk with
  | 0, _ => exact .inl e
  | 1, _ => exact .inr e
theorem UVal.zero (t : ByteArray) : UVal t 0 0 := ⟨fun _ => rfl, fun h => by omega, fun h => by omega⟩
theorem hexV_lt {b x : Int} (h : hexV b = some x) : 0 ≤ x ∧ x < 16 := by
  unfold hexV at h
  repeat' split at h
  all_goals first | (have := Option.some.inj h; omega) | cases h
theorem or_small (x y : Int) (hx : 0 ≤ x ∧ x < 16) (hy : 0 ≤ y ∧ y < 16) : bits .or .i32 (x * 16) y = 16 * x + y := by
  have key : ∀ a b : Fin 16, bits .or .i32 (((a.val : Nat) : Int) * 16) ((b.val : Nat) : Int) = 16 * ((a.val : Nat) : Int) + ((b.val : Nat) : Int) := by decide +kernel
  have := key ⟨x.toNat, by omega⟩ ⟨y.toNat, by omega⟩
  rw [show ((x.toNat : Nat) : Int) = x from by omega, show ((y.toNat : Nat) : Int) = y from by omega] at this
  exact this
/-- One digit more. -/
def shl4 (u d : Int) : Int := bits .or .i32 (wrap32 (u * 16)) d
theorem shl4_small (x y : Int) (hx : 0 ≤ x ∧ x < 16) (hy : 0 ≤ y ∧ y < 16) : shl4 x y = 16 * x + y := by
  unfold shl4
  rw [show wrap32 (x * 16) = x * 16 from by unfold wrap32; omega]
  exact or_small x y hx hy
theorem UVal.step {t : ByteArray} {k : Nat} {u d : Int} (h : UVal t k u) (hk : k < t.size) (hd : hexV (t[k].toNat : Int) = some d) : UVal t (k + 1) (shl4 u d) := by
  refine ⟨fun h => by omega, fun h1 x ⟨hx0, hx⟩ => ?_, fun h1 x y hx ⟨hy0, hy⟩ => ?_⟩
  · obtain rfl : k = 0 := by omega
    rw [h.nil rfl]
    rw [hd] at hx
    obtain rfl := Option.some.inj hx
    have := shl4_small 0 d (by omega) (hexV_lt hd)
    omega
  · obtain rfl : k = 1 := by omega
    have e := h.one rfl x hx
    subst e
    rw [hd] at hy
    obtain rfl := Option.some.inj hy
    obtain ⟨_, hx⟩ := hx
    exact shl4_small _ _ (hexV_lt hx) (hexV_lt hd)
theorem UVal.two {t : ByteArray} {u x y : Int} (h : UVal t 2 u) (ht : 1 < t.size) (hx : hexV (t[0].toNat : Int) = some x) (hy : hexV (t[1].toNat : Int) = some y) : u = 16 * x + y :=
  h.both rfl x y ⟨by omega, hx⟩ ⟨ht, hy⟩

set_option maxHeartbeats 4000000 in
set_option maxRecDepth 100000 in
theorem uchar_x_short (s : ByteArray) (w : World) (hs : s.size ≤ 140737488351232) (h0 : 1 < s.size) (h1 : s[0].toNat = 92) (h2 : s[1].toNat = 120) (h3 : s.size < 4) (hl : SynLaid w) :
    Calls Tryz.prog 75 #[.string s, .int .u8 34] w fun e w' => UAns s e ∧ Below w.heap.size w w' := by
  obtain ⟨ty, p, hc⟩ := hl
  have hz : (0 : Int) < (s.size : Int) := by omega
  have hz2 : (2 : Int) ≤ (s.size : Int) := by omega
  have hz3 : ¬ (s.size : Int) ≤ 1 := by omega
  have hx : (s[0].toNat : Int) = 92 := by omega
  have hy : (s[1].toNat : Int) = 120 := by omega
  have HB := hide (bad_hex h0 h1 h2 (.inl h3))
  have he : (s.extract 2 s.size).size = s.size - 2 := by rw [ByteArray.size_extract]; omega
  have hlt : ((s.extract 2 s.size).size : Int) < 2 := by omega
  clear h1 h2
  go_enter Tryz.func75, Tryz.ntmps75
  go_wp2
  exact bodyPost_ret (v := .tuple #[.int .i32 0, .bool false, .string ⟨#[]⟩, .iface ty p]) (by simp [results, Tryz.results75, go_sem]) rfl ⟨UAns.bad _ _ _ _ _ rfl HB.out, Below.refl _ _⟩

set_option maxHeartbeats 4000000 in
set_option maxRecDepth 100000 in
theorem uchar_x (s : ByteArray) (w : World) (hs : s.size ≤ 140737488351232) (h0 : 1 < s.size) (h1 : s[0].toNat = 92) (h2 : s[1].toNat = 120) (h3 : 4 ≤ s.size) (hl : SynLaid w) :
    Calls Tryz.prog 75 #[.string s, .int .u8 34] w fun e w' => UAns s e ∧ Below w.heap.size w w' := by
  have HL := hide hl
  clear hl
  have hz : (0 : Int) < (s.size : Int) := by omega
  have hz2 : (2 : Int) ≤ (s.size : Int) := by omega
  have hz3 : ¬ (s.size : Int) ≤ 1 := by omega
  have hx : (s[0].toNat : Int) = 92 := by omega
  have hy : (s[1].toNat : Int) = 120 := by omega
  have he : (s.extract 2 s.size).size = s.size - 2 := by rw [ByteArray.size_extract]; omega
  have hge : (2 : Int) ≤ ((s.extract 2 s.size).size : Int) := by omega
  have HG : Hid (∀ (k : Nat) (h : k < (s.extract 2 s.size).size), (s.extract 2 s.size)[k] = s[2 + k]'(by omega)) := fun k h => ByteArray.getElem_extract ..
  have H1 := hide h1
  have H2 := hide h2
  clear h1 h2
  go_enter Tryz.func75, Tryz.ntmps75
  go_wp2
  go_loopw [7, 13, 14] (fun er v j wr => ∃ (k : Nat) (u : Int), k ≤ 2 ∧ er = .nilIface ∧ j = .int .i64 k ∧ v = .int .i32 u ∧ Hid (UVal (s.extract 2 s.size) k u) ∧ Hid (Below w.heap.size w wr)) (fun _ _ j _ => 2 - (intOf j).toNat)
  case atStart => exact ⟨0, 0, Nat.zero_le _, rfl, rfl, rfl, UVal.zero _, Below.refl _ _⟩
  case round =>
    obtain ⟨k, u, hk, rfl, rfl, rfl, HV, HB⟩ := hrel
    by_cases hlt : k < 2
    · have hi : (k : Int) < 2 := by omega
      have hks : k < (s.extract 2 s.size).size := by omega
      have hki : (k : Int) < ((s.extract 2 s.size).size : Int) := by omega
      have hby : 0 ≤ ((s.extract 2 s.size)[k].toNat : Int) ∧ ((s.extract 2 s.size)[k].toNat : Int) ≤ 255 := by have := ((s.extract 2 s.size)[k]).toNat_lt; omega
      cases hd : hexV ((s.extract 2 s.size)[k].toNat : Int) with
      | some d =>
        have HU := hide (unhex_yes _ d wr hby hd)
        have HV2 := hide (HV.out.step hks hd)
        clear hd hby
        go_wp2_with (go_at_call 92; refine HU.out.mono ?_; rintro e w1 ⟨rfl, hb1⟩)
        go_roundw
        case rel => exact ⟨k + 1, _, by omega, rfl, by go_num, rfl, HV2, hide (HB.out.trans (hb1.mono HB.out.size))⟩
        case measure => simp [intOf]; omega
      | none =>
        have HU := hide (unhex_no _ wr hby hd)
        rw [HG.out k hks] at hd
        have HQ := hide (bad_hex (s := s) h0 H1.out H2.out (.inr ⟨by omega, or_of hlt hd⟩))
        have HC : Hid (∀ w1, Below w.heap.size w w1 → SynLaid w1) := fun w1 h => HL.out.kept h
        clear hd hby
        go_wp2_with (go_at_call 92; refine HU.out.mono ?_; rintro e w1 ⟨rfl, hb1⟩; obtain ⟨ty, p, hc⟩ := HC.out w1 (HB.out.trans (hb1.mono HB.out.size)))
        exact bodyPost_ret (v := .tuple #[.int .i32 0, .bool false, .string ⟨#[]⟩, .iface ty p]) (by simp [results, Tryz.results75, go_sem]) rfl ⟨UAns.bad _ _ _ _ _ rfl HQ.out, HB.out.trans (hb1.mono HB.out.size)⟩
    · have hi : ¬ (k : Int) < 2 := by omega
      have hk2 : k = 2 := by omega
      subst hk2
      have HQ := hide (ok_hex (s := s) (v := u) (by omega) H1.out H2.out (fun x y hx' hy' => HV.out.two (by omega) (by rw [HG.out 0 (by omega)]; exact hx') (by rw [HG.out 1 (by omega)]; exact hy')))
      go_wp2
      exact bodyPost_ret (v := .tuple #[.int .i32 u, .bool false, .string ((s.extract 2 s.size).extract 2 (s.extract 2 s.size).size), .nilIface]) (by simp [results, Tryz.results75, go_sem]) rfl ⟨UAns.ok _ _ _ rfl HQ.out, HB.out⟩

end Go.Proofs.YtoppnjpajeipdaaGreatDoor
