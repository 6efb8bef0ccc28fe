/- strconv.unquote at a string that begins with a double quote, every way; strconv.Unquote. -/
import Derived.Test.YtleakainhpgldaaDoorProg
import Derived.Test.YtleakainhpgldaaDoorUnqLoop
import Derived.Test.YtleakainhpgldaaDoorUnqSlow1
import Derived.Test.YtleakainhpgldaaDoorUnqSlow2
import Derived.Test.YtleakainhpgldaaDoorUnqSlow3
import Derived.Test.YtleakainhpgldaaDoorUnqAll
namespace Go.Proofs.YtleakainhpgldaaDoor
set_option linter.unusedSimpArgs false
set_option linter.unusedVariables false
open Go.RowKit

set_option maxHeartbeats 4000000 in
set_option maxRecDepth 100000 in
theorem unq_short (s : ByteArray) (w : World) (h0 : s.size = 1) (hl : SynLaid w) :
    Calls Tryd.prog 34 #[.string s, .bool true] w fun e w' => QAns s e ∧ Below w.heap.size w w' := by
  obtain ⟨ty, p, hc⟩ := hl
  have HQ : Hid (∀ T, Byt T → ¬ Quo T s) := fun T _ hq => by have := hq.len; omega
  have g1 : (s.size : Int) < 2 := by omega
  clear h0
  go_enter Tryd.func34, Tryd.ntmps34
  go_wp2
  go_region
  all_goals (try go_wp2)
  all_goals exact bodyPost_ret (v := .tuple #[.string ⟨#[]⟩, .string s, .iface ty p]) (by simp [results, Tryd.results34, go_sem]) rfl ⟨QAns.bad _ _ _ _ rfl ⟨Nat.le_refl _, HQ.out⟩, (Below.refl _ _).drew⟩

set_option maxHeartbeats 4000000 in
set_option maxRecDepth 100000 in
theorem unq_open (s : ByteArray) (w : World) (hs : s.size ≤ 2000000) (h1 : 1 < s.size) (h0 : s[0].toNat = 34) (hj : idxZ (s.extract 1 s.size) 34 = -1) (hl : SynLaid w) :
    Calls Tryd.prog 34 #[.string s, .bool true] w fun e w' => QAns s e ∧ Below w.heap.size w w' := by
  obtain ⟨ty, p, hc⟩ := hl
  have HQ : Hid (∀ T, Byt T → ¬ Quo T s) := fun T _ hq => by
    rcases idx_ints (s.extract 1 s.size) 34 (by decide) with ⟨k, e, _⟩ | ⟨_, h⟩
    · omega
    · rw [hq.tail] at h
      exact h (by simp)
  have HI := hide (fun W => index_any (s.extract 1 s.size) 34 W)
  rw [hj] at HI
  have g0 : (1 : Int) ≤ (s.size : Int) := by omega
  have g1 : ¬ (s.size : Int) < 2 := by omega
  have g2 : (0 : Int) < (s.size : Int) := by omega
  have hx : (s[0].toNat : Int) = 34 := by omega
  clear hj h0
  go_enter Tryd.func34, Tryd.ntmps34
  go_wp2_with (go_at_call 43; refine (HI.out _).mono ?_; rintro e w' ⟨rfl, hw'⟩; have hw' := hw'.symm; subst hw')
  go_region
  all_goals (try go_wp2)
  all_goals exact bodyPost_ret (v := .tuple #[.string ⟨#[]⟩, .string s, .iface ty p]) (by simp [results, Tryd.results34, go_sem]) rfl ⟨QAns.bad _ _ _ _ rfl ⟨Nat.le_refl _, HQ.out⟩, (Below.refl _ _).drew⟩

set_option maxHeartbeats 4000000 in
set_option maxRecDepth 100000 in
theorem unq_fast (s : ByteArray) (w : World) (hs : s.size ≤ 2000000) (h1 : 1 < s.size) (h0 : s[0].toNat = 34) (j : Nat) (hj : idxZ (s.extract 1 s.size) 34 = j) (hj2 : j + 2 ≤ s.size) (hu : UtfLaid w)
    (ha : hasC (s.extract 0 (j + 2)) 92 = false) (hb : hasC (s.extract 0 (j + 2)) 10 = false) (hc : Lib.validD (s.extract 1 (j + 1)).data.toList = true) :
    Calls Tryd.prog 34 #[.string s, .bool true] w fun e w' => QAns s e ∧ Below w.heap.size w w' := by
  have HI := hide (fun W => index_any (s.extract 1 s.size) 34 W)
  have HQ : Hid (∀ T, Byt T → Quo T s → j + 2 = s.size ∧ intsOf (s.extract 1 (j + 1)) = T) := fun T hT hq => hq.fast hT hj (hasC_no ha)
  rw [hj] at HI
  have HC := hide (fun W => contains_any (s.extract 0 (j + 2)) 92 (by decide) W)
  have HD := hide (fun W => contains_any (s.extract 0 (j + 2)) 10 (by decide) W)
  have HV := hide (valid8_any (s.extract 1 (j + 1)) w (by rw [ByteArray.size_extract]; omega) hu)
  rw [ha] at HC
  rw [hb] at HD
  rw [hc] at HV
  have g0 : (1 : Int) ≤ (s.size : Int) := by omega
  have g1 : ¬ (s.size : Int) < 2 := by omega
  have g2 : (0 : Int) < (s.size : Int) := by omega
  have g3 : ((j : Int) + 2) ≤ (s.size : Int) := by omega
  have g4 : ¬ (j : Int) < 0 := by omega
  have hx : (s[0].toNat : Int) = 34 := by omega
  have HE : Hid ((s.extract 0 (j + 2)).extract 1 (j + 2 - 1) = s.extract 1 (j + 1)) := by
    show _ = _
    apply intsOf_inj
    rw [intsOf_slice, intsOf_slice, intsOf_slice, List.drop_zero, List.drop_take, List.take_take]
    congr 1
    omega
  clear hj h0 hu ha hb hc
  go_enter Tryd.func34, Tryd.ntmps34
  go_wp2_with (first
    | (go_at_call 43; refine (HI.out _).mono ?_; rintro e w' ⟨rfl, hw'⟩; have hw' := hw'.symm; subst hw')
    | (go_at_call 44; with_reducible refine (HC.out _).mono ?_; rintro e w' ⟨rfl, hw'⟩; have hw' := hw'.symm; subst hw')
    | (go_at_call 44; with_reducible refine (HD.out _).mono ?_; rintro e w' ⟨rfl, hw'⟩; have hw' := hw'.symm; subst hw')
    | (go_at_call 45; refine HV.out.mono ?_; rintro e w1 ⟨rfl, hb1⟩))
  rw [HE.out]
  have hb2 := hb1.drew
  go_region
  all_goals (try go_wp2)
  all_goals exact bodyPost_ret (v := .tuple #[.string (s.extract 1 (j + 1)), .string (s.extract (j + 2) s.size), .nilIface]) (by simp [results, Tryd.results34, go_sem]) rfl ⟨QAns.okk _ _ rfl ⟨by rw [ByteArray.size_extract]; omega, by rw [ByteArray.size_extract]; omega, fun T hT hq => by obtain ⟨e1, e2⟩ := HQ.out T hT hq; exact ⟨e2, by rw [ByteArray.size_extract]; omega⟩⟩, hb2⟩

theorem unq_any (s : ByteArray) (w : World) (hs : s.size ≤ 2000000) (hp : 0 < s.size) (h0 : s[0].toNat = 34) (hl : SynLaid w) (hu : UtfLaid w) :
    Calls Tryd.prog 34 #[.string s, .bool true] w fun e w' => QAns s e ∧ Below w.heap.size w w' := by
  by_cases h1 : s.size = 1
  · exact unq_short s w h1 hl
  have h2 : 1 < s.size := by omega
  have UC := fun (s : ByteArray) (w : World) (a : s.size ≤ 140737488351232) (b : 0 < s.size) (c : SynLaid w) (d : UtfLaid w) => uchar_any s w a b c d
  rcases idx_ints (s.extract 1 s.size) 34 (by decide) with ⟨j, hj, hx, _⟩ | ⟨hj, _⟩
  · have hj2 : j + 2 ≤ s.size := by
      have := (List.getElem?_eq_some_iff.1 hx).1
      rw [intsOf_len, ByteArray.size_extract] at this
      omega
    cases ha : hasC (s.extract 0 (j + 2)) 92 with
    | true => exact unq_slow1 s w hs h2 h0 j hj hj2 hl hu ha UC
    | false =>
      cases hb : hasC (s.extract 0 (j + 2)) 10 with
      | true => exact unq_slow2 s w hs h2 h0 j hj hj2 hl hu ha hb UC
      | false =>
        cases hc : Lib.validD (s.extract 1 (j + 1)).data.toList with
        | true => exact unq_fast s w hs h2 h0 j hj hj2 hu ha hb hc
        | false => exact unq_slow3 s w hs h2 h0 j hj hj2 hl hu ha hb hc UC
  · exact unq_open s w hs h2 h0 hj hl

/-- What strconv.Unquote answers. -/
def RAns (s : ByteArray) (e : Ending) : Prop :=
  (∃ out, e = .returned (.tuple #[.string out, .nilIface]) ∧ out.size ≤ 4 * s.size ∧ ∀ T, Byt T → Quo T s → intsOf out = T) ∨
  (∃ out ty p, e = .returned (.tuple #[.string out, .iface ty p]) ∧ ∀ T, Byt T → ¬ Quo T s)

set_option maxHeartbeats 4000000 in
set_option maxRecDepth 100000 in
theorem unquote_any (s : ByteArray) (w : World) (hs : s.size ≤ 2000000) (hp : 0 < s.size) (h0 : s[0].toNat = 34) (hl : SynLaid w) (hu : UtfLaid w) :
    Calls Tryd.prog 22 #[.string s] w fun e w' => RAns s e ∧ Below w.heap.size w w' := by
  have HU := hide (unq_any s w hs hp h0 hl hu)
  have HL := hide hl
  clear hl hu h0
  go_enter Tryd.func22, Tryd.ntmps22
  go_wp2_with fail
  refine HU.out.mono ?_
  rintro e w1 ⟨hans, hb1⟩
  obtain ⟨ty, p, hc⟩ := HL.out.kept hb1
  have HB := hide hb1
  clear HU hb1
  rcases hans with ⟨out, rm, rfl, ho, hrm, hq⟩ | ⟨out, rm, ty', p', rfl, hrm, hq⟩
  · by_cases hz : rm.size = 0
    · have hz1 : ¬ (0 : Int) < (rm.size : Int) := by omega
      have HQ : Hid (∀ T, Byt T → Quo T s → intsOf out = T) := fun T hT h => (hq T hT h).1
      clear hq hz
      go_wp2
      go_ret2
      exact ⟨.inl ⟨_, rfl, ho, HQ.out⟩, HB.out⟩
    · have hz1 : (0 : Int) < (rm.size : Int) := by omega
      have HQ : Hid (∀ T, Byt T → ¬ Quo T s) := fun T hT h => hz (hq T hT h).2
      clear hq hz
      go_wp2
      try (go_region; all_goals (try go_wp2))
      all_goals (go_ret2; exact ⟨.inr ⟨_, _, _, rfl, HQ.out⟩, by first | exact HB.out | exact HB.out.drew⟩)
  · have HQ := hide hq
    clear hq
    by_cases hz : rm.size = 0
    · have hz1 : ¬ (0 : Int) < (rm.size : Int) := by omega
      clear hz
      go_wp2
      go_ret2
      exact ⟨.inr ⟨_, _, _, rfl, HQ.out⟩, HB.out⟩
    · have hz1 : (0 : Int) < (rm.size : Int) := by omega
      clear hz
      go_wp2
      try (go_region; all_goals (try go_wp2))
      all_goals (go_ret2; exact ⟨.inr ⟨_, _, _, rfl, HQ.out⟩, by first | exact HB.out | exact HB.out.drew⟩)
end Go.Proofs.YtleakainhpgldaaDoor
