/- strconv.UnquoteChar at a double quote, at every string that is not empty. strconv.unquote at a string that begins with a double quote, every way; strconv.Unquote. sym.readLoosely: the only constant that a text could be the text of. sym.Read, at every text: the one constant whose text it is, or none. What the program's start-up lays, read off the row's condition, as far as constants are read: two tables of utf8, strconv's two errors, the table by which strconv counts digits. -/
import Derived.Test.YtoppnjpajeipdaaGreatDoorProg
import Derived.Test.YtoppnjpajeipdaaGreatDoorUnqChar
import Derived.Test.YtoppnjpajeipdaaGreatDoorUnqChar2
import Derived.Test.YtoppnjpajeipdaaGreatDoorUnqChar3
import Derived.Test.YtoppnjpajeipdaaGreatDoorUnqChar4
import Derived.Test.YtoppnjpajeipdaaGreatDoorUnqChar5
import Derived.Test.YtoppnjpajeipdaaGreatDoorUnqLoop
import Derived.Test.YtoppnjpajeipdaaGreatDoorUnqSlow1
import Derived.Test.YtoppnjpajeipdaaGreatDoorUnqSlow2
import Derived.Test.YtoppnjpajeipdaaGreatDoorUnqSlow3
import Derived.Test.YtoppnjpajeipdaaGreatDoorSymRead
import Derived.Lib.ParseIntBTie
import Derived.Test.YtoppnjpajeipdaaGreatDoorReadBox
import Derived.Test.YtoppnjpajeipdaaGreatDoorRows
import Derived.Lib.LaidU8
import Derived.Lib.LaidTab
import Derived.MakeChecks
import Derived.OpenShut
import Derived.ProofKit
import Derived.LaidMore
import Derived.Stop.Joined
import Derived.LaidLaws

namespace Go.Proofs.YtoppnjpajeipdaaGreatDoor
set_option linter.unusedSimpArgs false
set_option linter.unusedVariables false
open Go.RowKit

theorem uchar_any (s : ByteArray) (w : World) (hs : s.size ≤ 140737488351232) (h0 : 0 < s.size) (hl : SynLaid w) (hu : UtfLaid w) :
    Calls Tryz.prog 75 #[.string s, .int .u8 34] w fun e w' => UAns s e ∧ Below w.heap.size w w' := by
  by_cases a1 : s[0].toNat = 34
  · exact uchar_quote s w hs h0 a1 hl
  by_cases a2 : 128 ≤ s[0].toNat
  · exact uchar_high s w hs h0 a2 hu hl
  by_cases a3 : s[0].toNat = 92
  · by_cases a4 : s.size ≤ 1
    · exact uchar_short s w hs h0 a3 a4 hl
    · have h1 : 1 < s.size := by omega
      by_cases c1 : s[1].toNat = 97
      · exact uchar_a s w hs h1 a3 c1 hl
      by_cases c2 : s[1].toNat = 98
      · exact uchar_b s w hs h1 a3 c2 hl
      by_cases c3 : s[1].toNat = 102
      · exact uchar_f s w hs h1 a3 c3 hl
      by_cases c4 : s[1].toNat = 110
      · exact uchar_n s w hs h1 a3 c4 hl
      by_cases c5 : s[1].toNat = 114
      · exact uchar_r s w hs h1 a3 c5 hl
      by_cases c6 : s[1].toNat = 116
      · exact uchar_t s w hs h1 a3 c6 hl
      by_cases c7 : s[1].toNat = 118
      · exact uchar_v s w hs h1 a3 c7 hl
      by_cases c8 : s[1].toNat = 92
      · exact uchar_bs s w hs h1 a3 c8 hl
      by_cases c9 : s[1].toNat = 34
      · exact uchar_dq s w hs h1 a3 c9 hl
      by_cases c10 : s[1].toNat = 39
      · exact uchar_sq s w hs h1 a3 c10 hl
      by_cases c11 : s[1].toNat = 120
      · by_cases q : s.size < 4
        · exact uchar_x_short s w hs h1 a3 c11 q hl
        · exact uchar_x s w hs h1 a3 c11 (by omega) hl
      by_cases c12 : s[1].toNat = 117
      · by_cases q : s.size < 6
        · exact uchar_u_short s w hs h1 a3 c12 q hl
        · exact uchar_u s w hs h1 a3 c12 (by omega) hl
      by_cases c13 : s[1].toNat = 85
      · by_cases q : s.size < 10
        · exact uchar_U_short s w hs h1 a3 c13 q hl
        · exact uchar_U s w hs h1 a3 c13 (by omega) hl
      by_cases d0 : s[1].toNat = 48
      · exact uchar_o0 s w hs h1 a3 d0 hl
      by_cases d1 : s[1].toNat = 49
      · exact uchar_o1 s w hs h1 a3 d1 hl
      by_cases d2 : s[1].toNat = 50
      · exact uchar_o2 s w hs h1 a3 d2 hl
      by_cases d3 : s[1].toNat = 51
      · exact uchar_o3 s w hs h1 a3 d3 hl
      by_cases d4 : s[1].toNat = 52
      · exact uchar_o4 s w hs h1 a3 d4 hl
      by_cases d5 : s[1].toNat = 53
      · exact uchar_o5 s w hs h1 a3 d5 hl
      by_cases d6 : s[1].toNat = 54
      · exact uchar_o6 s w hs h1 a3 d6 hl
      by_cases d7 : s[1].toNat = 55
      · exact uchar_o7 s w hs h1 a3 d7 hl
      exact uchar_none s w hs h1 a3 ⟨c1, c2, c3, c4, c5, c6, c7, c11, c12, c13, by omega, c8, c10, c9⟩ hl
  · exact uchar_plain s w hs h0 (by omega) a1 a3 hl
end Go.Proofs.YtoppnjpajeipdaaGreatDoor

namespace Go.Proofs.YtoppnjpajeipdaaGreatDoor
set_option linter.unusedSimpArgs false
set_option linter.unusedVariables false
open Go.RowKit

set_option maxHeartbeats 4000000 in
set_option maxRecDepth 100000 in
theorem unq_short (s : ByteArray) (w : World) (h0 : s.size = 1) (hl : SynLaid w) :
    Calls Tryz.prog 53 #[.string s, .bool true] w fun e w' => QAns s e ∧ Below w.heap.size w w' := by
  obtain ⟨ty, p, hc⟩ := hl
  have HQ : Hid (∀ T, Byt T → ¬ Quo T s) := fun T _ hq => by have := hq.len; omega
  have g1 : (s.size : Int) < 2 := by omega
  clear h0
  go_enter Tryz.func53, Tryz.ntmps53
  go_wp2
  go_region
  all_goals (try go_wp2)
  all_goals exact bodyPost_ret (v := .tuple #[.string ⟨#[]⟩, .string s, .iface ty p]) (by simp [results, Tryz.results53, go_sem]) rfl ⟨QAns.bad _ _ _ _ rfl ⟨Nat.le_refl _, HQ.out⟩, (Below.refl _ _).drew⟩

set_option maxHeartbeats 4000000 in
set_option maxRecDepth 100000 in
theorem unq_open (s : ByteArray) (w : World) (hs : s.size ≤ 2000000) (h1 : 1 < s.size) (h0 : s[0].toNat = 34) (hj : idxZ (s.extract 1 s.size) 34 = -1) (hl : SynLaid w) :
    Calls Tryz.prog 53 #[.string s, .bool true] w fun e w' => QAns s e ∧ Below w.heap.size w w' := by
  obtain ⟨ty, p, hc⟩ := hl
  have HQ : Hid (∀ T, Byt T → ¬ Quo T s) := fun T _ hq => by
    rcases idx_ints (s.extract 1 s.size) 34 (by decide) with ⟨k, e, _⟩ | ⟨_, h⟩
    · omega
    · rw [hq.tail] at h
      exact h (by simp)
  have HI := hide (fun W => index_any (s.extract 1 s.size) 34 W)
  rw [hj] at HI
  have g0 : (1 : Int) ≤ (s.size : Int) := by omega
  have g1 : ¬ (s.size : Int) < 2 := by omega
  have g2 : (0 : Int) < (s.size : Int) := by omega
  have hx : (s[0].toNat : Int) = 34 := by omega
  clear hj h0
  go_enter Tryz.func53, Tryz.ntmps53
  go_wp2_with (go_at_call 71; refine (HI.out _).mono ?_; rintro e w' ⟨rfl, hw'⟩; have hw' := hw'.symm; subst hw')
  go_region
  all_goals (try go_wp2)
  all_goals exact bodyPost_ret (v := .tuple #[.string ⟨#[]⟩, .string s, .iface ty p]) (by simp [results, Tryz.results53, go_sem]) rfl ⟨QAns.bad _ _ _ _ rfl ⟨Nat.le_refl _, HQ.out⟩, (Below.refl _ _).drew⟩

set_option maxHeartbeats 4000000 in
set_option maxRecDepth 100000 in
theorem unq_fast (s : ByteArray) (w : World) (hs : s.size ≤ 2000000) (h1 : 1 < s.size) (h0 : s[0].toNat = 34) (j : Nat) (hj : idxZ (s.extract 1 s.size) 34 = j) (hj2 : j + 2 ≤ s.size) (hu : UtfLaid w)
    (ha : hasC (s.extract 0 (j + 2)) 92 = false) (hb : hasC (s.extract 0 (j + 2)) 10 = false) (hc : Lib.validD (s.extract 1 (j + 1)).data.toList = true) :
    Calls Tryz.prog 53 #[.string s, .bool true] w fun e w' => QAns s e ∧ Below w.heap.size w w' := by
  have HI := hide (fun W => index_any (s.extract 1 s.size) 34 W)
  have HQ : Hid (∀ T, Byt T → Quo T s → j + 2 = s.size ∧ intsOf (s.extract 1 (j + 1)) = T) := fun T hT hq => hq.fast hT hj (hasC_no ha)
  rw [hj] at HI
  have HC := hide (fun W => contains_any (s.extract 0 (j + 2)) 92 (by decide) W)
  have HD := hide (fun W => contains_any (s.extract 0 (j + 2)) 10 (by decide) W)
  have HV := hide (valid8_any (s.extract 1 (j + 1)) w (by rw [ByteArray.size_extract]; omega) hu)
  rw [ha] at HC
  rw [hb] at HD
  rw [hc] at HV
  have g0 : (1 : Int) ≤ (s.size : Int) := by omega
  have g1 : ¬ (s.size : Int) < 2 := by omega
  have g2 : (0 : Int) < (s.size : Int) := by omega
  have g3 : ((j : Int) + 2) ≤ (s.size : Int) := by omega
  have g4 : ¬ (j : Int) < 0 := by omega
  have hx : (s[0].toNat : Int) = 34 := by omega
  have HE : Hid ((s.extract 0 (j + 2)).extract 1 (j + 2 - 1) = s.extract 1 (j + 1)) := by
    show _ = _
    apply intsOf_inj
    rw [intsOf_slice, intsOf_slice, intsOf_slice, List.drop_zero, List.drop_take, List.take_take]
    congr 1
    omega
  clear hj h0 hu ha hb hc
  go_enter Tryz.func53, Tryz.ntmps53
  go_wp2_with (first
    | (go_at_call 71; refine (HI.out _).mono ?_; rintro e w' ⟨rfl, hw'⟩; have hw' := hw'.symm; subst hw')
    | (go_at_call 72; with_reducible refine (HC.out _).mono ?_; rintro e w' ⟨rfl, hw'⟩; have hw' := hw'.symm; subst hw')
    | (go_at_call 72; with_reducible refine (HD.out _).mono ?_; rintro e w' ⟨rfl, hw'⟩; have hw' := hw'.symm; subst hw')
    | (go_at_call 73; refine HV.out.mono ?_; rintro e w1 ⟨rfl, hb1⟩))
  rw [HE.out]
  have hb2 := hb1.drew
  go_region
  all_goals (try go_wp2)
  all_goals exact bodyPost_ret (v := .tuple #[.string (s.extract 1 (j + 1)), .string (s.extract (j + 2) s.size), .nilIface]) (by simp [results, Tryz.results53, go_sem]) rfl ⟨QAns.okk _ _ rfl ⟨by rw [ByteArray.size_extract]; omega, by rw [ByteArray.size_extract]; omega, fun T hT hq => by obtain ⟨e1, e2⟩ := HQ.out T hT hq; exact ⟨e2, by rw [ByteArray.size_extract]; omega⟩⟩, hb2⟩

theorem unq_any (s : ByteArray) (w : World) (hs : s.size ≤ 2000000) (hp : 0 < s.size) (h0 : s[0].toNat = 34) (hl : SynLaid w) (hu : UtfLaid w) :
    Calls Tryz.prog 53 #[.string s, .bool true] w fun e w' => QAns s e ∧ Below w.heap.size w w' := by
  by_cases h1 : s.size = 1
  · exact unq_short s w h1 hl
  have h2 : 1 < s.size := by omega
  have UC := fun (s : ByteArray) (w : World) (a : s.size ≤ 140737488351232) (b : 0 < s.size) (c : SynLaid w) (d : UtfLaid w) => uchar_any s w a b c d
  rcases idx_ints (s.extract 1 s.size) 34 (by decide) with ⟨j, hj, hx, _⟩ | ⟨hj, _⟩
  · have hj2 : j + 2 ≤ s.size := by
      have := (List.getElem?_eq_some_iff.1 hx).1
      rw [intsOf_len, ByteArray.size_extract] at this
      omega
    cases ha : hasC (s.extract 0 (j + 2)) 92 with
    | true => exact unq_slow1 s w hs h2 h0 j hj hj2 hl hu ha UC
    | false =>
      cases hb : hasC (s.extract 0 (j + 2)) 10 with
      | true => exact unq_slow2 s w hs h2 h0 j hj hj2 hl hu ha hb UC
      | false =>
        cases hc : Lib.validD (s.extract 1 (j + 1)).data.toList with
        | true => exact unq_fast s w hs h2 h0 j hj hj2 hu ha hb hc
        | false => exact unq_slow3 s w hs h2 h0 j hj hj2 hl hu ha hb hc UC
  · exact unq_open s w hs h2 h0 hj hl

/-- What strconv.Unquote answers. -/
def RAns (s : ByteArray) (e : Ending) : Prop :=
  (∃ out, e = .returned (.tuple #[.string out, .nilIface]) ∧ out.size ≤ 4 * s.size ∧ ∀ T, Byt T → Quo T s → intsOf out = T) ∨
  (∃ out ty p, e = .returned (.tuple #[.string out, .iface ty p]) ∧ ∀ T, Byt T → ¬ Quo T s)

set_option maxHeartbeats 4000000 in
set_option maxRecDepth 100000 in
theorem unquote_any (s : ByteArray) (w : World) (hs : s.size ≤ 2000000) (hp : 0 < s.size) (h0 : s[0].toNat = 34) (hl : SynLaid w) (hu : UtfLaid w) :
    Calls Tryz.prog 38 #[.string s] w fun e w' => RAns s e ∧ Below w.heap.size w w' := by
  have HU := hide (unq_any s w hs hp h0 hl hu)
  have HL := hide hl
  clear hl hu h0
  go_enter Tryz.func38, Tryz.ntmps38
  go_wp2_with fail
  refine HU.out.mono ?_
  rintro e w1 ⟨hans, hb1⟩
  obtain ⟨ty, p, hc⟩ := HL.out.kept hb1
  have HB := hide hb1
  clear HU hb1
  rcases hans with ⟨out, rm, rfl, ho, hrm, hq⟩ | ⟨out, rm, ty', p', rfl, hrm, hq⟩
  · by_cases hz : rm.size = 0
    · have hz1 : ¬ (0 : Int) < (rm.size : Int) := by omega
      have HQ : Hid (∀ T, Byt T → Quo T s → intsOf out = T) := fun T hT h => (hq T hT h).1
      clear hq hz
      go_wp2
      go_ret2
      exact ⟨.inl ⟨_, rfl, ho, HQ.out⟩, HB.out⟩
    · have hz1 : (0 : Int) < (rm.size : Int) := by omega
      have HQ : Hid (∀ T, Byt T → ¬ Quo T s) := fun T hT h => hz (hq T hT h).2
      clear hq hz
      go_wp2
      try (go_region; all_goals (try go_wp2))
      all_goals (go_ret2; exact ⟨.inr ⟨_, _, _, rfl, HQ.out⟩, by first | exact HB.out | exact HB.out.drew⟩)
  · have HQ := hide hq
    clear hq
    by_cases hz : rm.size = 0
    · have hz1 : ¬ (0 : Int) < (rm.size : Int) := by omega
      clear hz
      go_wp2
      go_ret2
      exact ⟨.inr ⟨_, _, _, rfl, HQ.out⟩, HB.out⟩
    · have hz1 : (0 : Int) < (rm.size : Int) := by omega
      clear hz
      go_wp2
      try (go_region; all_goals (try go_wp2))
      all_goals (go_ret2; exact ⟨.inr ⟨_, _, _, rfl, HQ.out⟩, by first | exact HB.out | exact HB.out.drew⟩)
end Go.Proofs.YtoppnjpajeipdaaGreatDoor

namespace Go.Proofs.YtoppnjpajeipdaaGreatDoor
set_option linter.unusedSimpArgs false
set_option linter.unusedVariables false
open Go.RowKit

attribute [local go_sem] over_cellAt over_frozenAt over_setAt

/-- What start-up lays, as far as constants are read. -/
structure RdLaid (w : World) : Prop where
  syn : SynLaid w
  rng : ∃ t p, w.cell? ⟨4, 0, none⟩ = some (.iface t p)
  utf : UtfLaid w
  tab : TabLaid w
theorem RdLaid.kept {w w' : World} (h : RdLaid w) (hb : Below w.heap.size w w') : RdLaid w' where
  syn := h.syn.kept hb
  rng := by obtain ⟨t, p, e⟩ := h.rng; exact ⟨t, p, kept_cell hb e⟩
  utf := h.utf.kept hb
  tab := h.tab.kept hb

theorem parse_badS (s : ByteArray) (w : World) (hs : s.size ≤ 140737488351232) (hl : RdLaid w) (h : ∀ v, Lib.parseIntB 64 s.data.toList ≠ .ok v) :
    Calls Tryz.prog 40 #[.string s, .int .i64 10, .int .i64 64] w fun e w' => (∃ v t q, e = .returned (.tuple #[.int .i64 v, .iface t (.pointer (some q))])) ∧ Below w.heap.size w w' := by
  cases hp : Lib.parseIntB 64 s.data.toList with
  | ok v => exact absurd hp (h v)
  | «syntax» =>
    obtain ⟨t, p, e⟩ := hl.syn
    exact (Any.strconv_ParseInt_10_at64_syntax Tryz.lays174 s (by omega) hp _ w e (.inr ⟨_, _, rfl⟩)).mono fun e w' ⟨N, he, _, _, hb⟩ => ⟨⟨_, _, _, he⟩, hb⟩
  | range =>
    obtain ⟨t, p, e⟩ := hl.rng
    exact (Any.strconv_ParseInt_10_at64_range Tryz.lays174 s (by omega) hp _ w e (.inr ⟨_, _, rfl⟩)).mono fun e w' ⟨N, he, _, _, hb⟩ => ⟨⟨_, _, _, he⟩, hb⟩

theorem text_fst {a : Con} (va : validC a = true) : ∃ h : 0 < (textC a).size, (a.k = 1 ∧ ((textC a)[0].toNat = 45 ∨ (48 ≤ (textC a)[0].toNat ∧ (textC a)[0].toNat ≤ 57))) ∨ (a.k = 2 ∧ 97 ≤ (textC a)[0].toNat ∧ (textC a)[0].toNat ≤ 122) ∨ (a.k = 3 ∧ (textC a)[0].toNat = 34) := by
  rcases valid_kind va with hk | hk | ⟨hk, _⟩
  · obtain ⟨e1, _⟩ := text_int va hk
    obtain ⟨b, r, hb, hx⟩ := itoa_head a.n
    have hi : intsOf (textC a) = (b.toNat : Int) :: r.map fun b => (b.toNat : Int) := by rw [e1, itoa_ints, hb]; rfl
    obtain ⟨h0, h1⟩ := head_at hi
    exact ⟨h0, .inl ⟨hk, by omega⟩⟩
  · obtain ⟨e1, _, hn⟩ := text_name va hk
    obtain ⟨h0, h1⟩ := name_head hn
    refine ⟨by rw [e1]; exact h0, .inr (.inl ⟨hk, ?_⟩)⟩
    simp only [e1]; exact h1
  · obtain ⟨e1, _⟩ := text_text va hk
    have hi : intsOf (textC a) = 34 :: ((intsOf a.s).flatMap escI ++ [34]) := by rw [e1, ints_quot]
    obtain ⟨h0, h1⟩ := head_at hi
    exact ⟨h0, .inr (.inr ⟨hk, by omega⟩)⟩

theorem only_text {s out : ByteArray} (hp : 0 < s.size) (h0 : s[0].toNat = 34) (hq : ∀ T, Byt T → Quo T s → intsOf out = T) : Onl s ⟨3, 0, out⟩ := by
  rintro d hd vd rfl
  obtain ⟨_, hk⟩ := text_fst vd
  have hk3 : d.k = 3 := by rcases hk with ⟨_, h⟩ | ⟨_, h⟩ | ⟨h, _⟩ <;> first | exact h | omega
  obtain ⟨e1, n1, _⟩ := text_text vd hk3
  have := hq (intsOf d.s) (intsOf_byt _) (by unfold Quo; rw [e1, ints_quot])
  obtain ⟨k, n, s⟩ := d
  dsimp only at *
  rw [hk3, n1, intsOf_inj this]
theorem none_text {s : ByteArray} (hp : 0 < s.size) (h0 : s[0].toNat = 34) (hq : ∀ T, Byt T → ¬ Quo T s) (c : Con) : Onl s c := by
  rintro d hd vd rfl
  obtain ⟨_, hk⟩ := text_fst vd
  have hk3 : d.k = 3 := by rcases hk with ⟨_, h⟩ | ⟨_, h⟩ | ⟨h, _⟩ <;> first | exact h | omega
  obtain ⟨e1, n1, _⟩ := text_text vd hk3
  exact absurd (by unfold Quo; rw [e1, ints_quot]) (hq (intsOf d.s) (intsOf_byt _))
theorem only_int {s : ByteArray} {v : Int} (hp : 0 < s.size) (h0 : s[0].toNat = 45 ∨ (48 ≤ s[0].toNat ∧ s[0].toNat ≤ 57)) (hq : Lib.parseIntB 64 s.data.toList = .ok v) : Onl s ⟨1, v, ⟨#[]⟩⟩ := by
  rintro d hd vd rfl
  obtain ⟨_, hk⟩ := text_fst vd
  have hk1 : d.k = 1 := by rcases hk with ⟨h, _⟩ | ⟨_, h⟩ | ⟨_, h⟩ <;> first | exact h | omega
  obtain ⟨e1, s1⟩ := text_int vd hk1
  have hp := itoa_parse d.n hd.2.1
  have e2 : (textC d).data.toList = Lib.itoa d.n := by rw [e1]
  rw [e2, hp] at hq
  have hn : d.n = v := by simpa using hq
  obtain ⟨k, n, s⟩ := d
  dsimp only at *
  rw [hk1, hn, s1]
theorem none_int {s : ByteArray} (hp : 0 < s.size) (h0 : s[0].toNat = 45 ∨ (48 ≤ s[0].toNat ∧ s[0].toNat ≤ 57)) (hq : ∀ v, Lib.parseIntB 64 s.data.toList ≠ .ok v) (c : Con) : Onl s c := by
  rintro d hd vd rfl
  obtain ⟨_, hk⟩ := text_fst vd
  have hk1 : d.k = 1 := by rcases hk with ⟨h, _⟩ | ⟨_, h⟩ | ⟨_, h⟩ <;> first | exact h | omega
  obtain ⟨e1, s1⟩ := text_int vd hk1
  have hp := itoa_parse d.n hd.2.1
  have e2 : (textC d).data.toList = Lib.itoa d.n := by rw [e1]
  rw [e2] at hq
  exact absurd hp (hq _)
theorem only_name {s : ByteArray} (hp : 0 < s.size) (h0 : ¬ (s[0].toNat = 34 ∨ s[0].toNat = 45 ∨ (48 ≤ s[0].toNat ∧ s[0].toNat ≤ 57))) : Onl s ⟨2, 0, s⟩ := by
  rintro d hd vd rfl
  obtain ⟨_, hk⟩ := text_fst vd
  have hk2 : d.k = 2 := by rcases hk with ⟨_, h⟩ | ⟨h, _⟩ | ⟨_, h⟩ <;> first | exact h | omega
  obtain ⟨e1, n1, _⟩ := text_name vd hk2
  obtain ⟨k, n, s⟩ := d
  dsimp only at *
  rw [e1, hk2, n1]

theorem parse_i64 {l : List UInt8} {v : Int} (h : Lib.parseIntB 64 l = .ok v) : I64 v := by
  have := Lib.parseIntB_bounds h
  unfold I64
  omega
theorem i64_0 : I64 0 := by unfold I64; decide
theorem i64_1 : I64 1 := by unfold I64; decide
theorem i64_2 : I64 2 := by unfold I64; decide
theorem i64_3 : I64 3 := by unfold I64; decide
/-- What the call answers. -/
def LAns (s : ByteArray) (e : Ending) : Prop := ∃ c : Con, e = .returned (.agg #[.int .i64 c.k, .int .i64 c.n, .string c.s]) ∧ c.ok ∧ Onl s c

set_option maxHeartbeats 4000000 in
set_option maxRecDepth 100000 in
theorem loose_text (s : ByteArray) (w : World) (hs : s.size ≤ 2000000) (hp : 0 < s.size) (h0 : s[0].toNat = 34) (hl : RdLaid w) :
    Calls Tryz.prog 25 #[.string s] w fun e w' => LAns s e ∧ Below w.heap.size w w' := by
  have HU : Hid (∀ W, Below w.heap.size w W → Calls Tryz.prog 38 #[.string s] W fun e w' => RAns s e ∧ Below W.heap.size W w') := fun W h => unquote_any s W hs hp h0 (hl.kept h).syn (hl.kept h).utf
  have hx : (s[0].toNat : Int) = 34 := by omega
  have g0 : (0 : Int) < (s.size : Int) := by omega
  have H0 := hide h0
  clear hl h0
  go_enter Tryz.func25, Tryz.ntmps25
  go_wp2_with fail
  refine (HU.out _ (below1 _ _)).mono ?_
  rintro e w' ⟨hans, hb⟩
  obtain ⟨x, rfl⟩ := over_of hb
  clear hb HU
  rcases hans with ⟨out, rfl, ho, hq⟩ | ⟨out, ty, p, rfl, hq⟩
  · have HQ := hide (only_text hp H0.out hq)
    clear hq
    go_wp2
    exact bodyPost_ret (v := .agg #[.int .i64 3, .int .i64 0, .string out]) (by simp [results, Tryz.results25, go_sem]) rfl ⟨⟨⟨3, 0, out⟩, rfl, ⟨i64_3, i64_0, by show out.size ≤ _; omega⟩, HQ.out⟩, below1_over _ _ _⟩
  · have HQ := hide (none_text hp H0.out hq ⟨0, 0, ⟨#[]⟩⟩)
    clear hq
    go_wp2
    exact bodyPost_ret (v := .agg #[.int .i64 0, .int .i64 0, .string ⟨#[]⟩]) (by simp [results, Tryz.results25, go_sem]) rfl ⟨⟨⟨0, 0, ⟨#[]⟩⟩, rfl, ⟨by unfold I64; decide, by unfold I64; decide, by decide⟩, HQ.out⟩, below1_over _ _ _⟩
set_option maxHeartbeats 4000000 in
set_option maxRecDepth 100000 in
theorem loose_minus (s : ByteArray) (w : World) (hs : s.size ≤ 2000000) (hp : 0 < s.size) (h0 : s[0].toNat = 45) (hl : RdLaid w) :
    Calls Tryz.prog 25 #[.string s] w fun e w' => LAns s e ∧ Below w.heap.size w w' := by
  have g0 : (0 : Int) < (s.size : Int) := by omega
  have hx : (s[0].toNat : Int) = 45 := by omega
  have hk : s[0].toNat = 45 ∨ (48 ≤ s[0].toNat ∧ s[0].toNat ≤ 57) := .inl h0
  clear h0
  cases hpi : Lib.parseIntB 64 s.data.toList with
  | ok v =>
    have HP := hide (fun W => parse_ok s W (by omega) hpi)
    have HQ := hide (only_int hp hk hpi)
    have hv : I64 v := parse_i64 hpi
    clear hpi hk hl
    go_enter Tryz.func25, Tryz.ntmps25
    go_wp2_with (first
      | (go_at_call 40; refine (HP.out _).mono ?_; rintro e w' ⟨rfl, hb⟩; obtain ⟨x, rfl⟩ := over_of hb; clear hb))
    exact bodyPost_ret (v := .agg #[.int .i64 1, .int .i64 v, .string ⟨#[]⟩]) (by simp [results, Tryz.results25, go_sem]) rfl ⟨⟨⟨1, v, ⟨#[]⟩⟩, rfl, ⟨i64_1, hv, Nat.zero_le _⟩, HQ.out⟩, below1_over _ _ _⟩
  | «syntax» =>
    have HP : Hid (∀ W, Below w.heap.size w W → Calls Tryz.prog 40 #[.string s, .int .i64 10, .int .i64 64] W fun e w' => (∃ v t q, e = .returned (.tuple #[.int .i64 v, .iface t (.pointer (some q))])) ∧ Below W.heap.size W w') := fun W h => parse_badS s W (by omega) (hl.kept h) (by rw [hpi]; intro v hv; cases hv)
    have HQ := hide (none_int hp hk (by rw [hpi]; intro v hv; cases hv) ⟨0, 0, ⟨#[]⟩⟩)
    clear hpi hk hl
    go_enter Tryz.func25, Tryz.ntmps25
    go_wp2_with (first
      | (go_at_call 40; refine (HP.out _ (below1 _ _)).mono ?_; rintro e w' ⟨⟨v, t, p, rfl⟩, hb⟩; obtain ⟨x, rfl⟩ := over_of hb; clear hb))
    exact bodyPost_ret (v := .agg #[.int .i64 0, .int .i64 0, .string ⟨#[]⟩]) (by simp [results, Tryz.results25, go_sem]) rfl ⟨⟨⟨0, 0, ⟨#[]⟩⟩, rfl, ⟨i64_0, i64_0, by decide⟩, HQ.out⟩, below1_over _ _ _⟩
  | range =>
    have HP : Hid (∀ W, Below w.heap.size w W → Calls Tryz.prog 40 #[.string s, .int .i64 10, .int .i64 64] W fun e w' => (∃ v t q, e = .returned (.tuple #[.int .i64 v, .iface t (.pointer (some q))])) ∧ Below W.heap.size W w') := fun W h => parse_badS s W (by omega) (hl.kept h) (by rw [hpi]; intro v hv; cases hv)
    have HQ := hide (none_int hp hk (by rw [hpi]; intro v hv; cases hv) ⟨0, 0, ⟨#[]⟩⟩)
    clear hpi hk hl
    go_enter Tryz.func25, Tryz.ntmps25
    go_wp2_with (first
      | (go_at_call 40; refine (HP.out _ (below1 _ _)).mono ?_; rintro e w' ⟨⟨v, t, p, rfl⟩, hb⟩; obtain ⟨x, rfl⟩ := over_of hb; clear hb))
    exact bodyPost_ret (v := .agg #[.int .i64 0, .int .i64 0, .string ⟨#[]⟩]) (by simp [results, Tryz.results25, go_sem]) rfl ⟨⟨⟨0, 0, ⟨#[]⟩⟩, rfl, ⟨i64_0, i64_0, by decide⟩, HQ.out⟩, below1_over _ _ _⟩

set_option maxHeartbeats 4000000 in
set_option maxRecDepth 100000 in
theorem loose_digit (s : ByteArray) (w : World) (hs : s.size ≤ 2000000) (hp : 0 < s.size) (h0 : 48 ≤ s[0].toNat ∧ s[0].toNat ≤ 57) (hl : RdLaid w) :
    Calls Tryz.prog 25 #[.string s] w fun e w' => LAns s e ∧ Below w.heap.size w w' := by
  have g0 : (0 : Int) < (s.size : Int) := by omega
  have hk : s[0].toNat = 45 ∨ (48 ≤ s[0].toNat ∧ s[0].toNat ≤ 57) := .inr h0
  obtain ⟨x, hx⟩ : ∃ x : Int, (s[0].toNat : Int) = x := ⟨_, rfl⟩
  have x34 : (x == 34) = false := by simp; omega
  have x45 : (x == 45) = false := by simp; omega
  have HD := hide (fun W => dig_any x W (by omega))
  rw [show digN x = true from by simp [digN]; omega] at HD
  clear h0
  cases hpi : Lib.parseIntB 64 s.data.toList with
  | ok v =>
    have HP := hide (fun W => parse_ok s W (by omega) hpi)
    have HQ := hide (only_int hp hk hpi)
    have hv : I64 v := parse_i64 hpi
    clear hpi hk hl
    go_enter Tryz.func25, Tryz.ntmps25
    go_wp2_with (first
      | (go_at_call 40; refine (HP.out _).mono ?_; rintro e w' ⟨rfl, hb⟩; obtain ⟨x, rfl⟩ := over_of hb; clear hb)
      | (go_at_call 39; refine (HD.out _).mono ?_; rintro e w' ⟨rfl, hw'⟩; have hw' := hw'.symm; subst hw'))
    exact bodyPost_ret (v := .agg #[.int .i64 1, .int .i64 v, .string ⟨#[]⟩]) (by simp [results, Tryz.results25, go_sem]) rfl ⟨⟨⟨1, v, ⟨#[]⟩⟩, rfl, ⟨i64_1, hv, Nat.zero_le _⟩, HQ.out⟩, below1_over _ _ _⟩
  | «syntax» =>
    have HP : Hid (∀ W, Below w.heap.size w W → Calls Tryz.prog 40 #[.string s, .int .i64 10, .int .i64 64] W fun e w' => (∃ v t q, e = .returned (.tuple #[.int .i64 v, .iface t (.pointer (some q))])) ∧ Below W.heap.size W w') := fun W h => parse_badS s W (by omega) (hl.kept h) (by rw [hpi]; intro v hv; cases hv)
    have HQ := hide (none_int hp hk (by rw [hpi]; intro v hv; cases hv) ⟨0, 0, ⟨#[]⟩⟩)
    clear hpi hk hl
    go_enter Tryz.func25, Tryz.ntmps25
    go_wp2_with (first
      | (go_at_call 40; refine (HP.out _ (below1 _ _)).mono ?_; rintro e w' ⟨⟨v, t, p, rfl⟩, hb⟩; obtain ⟨x, rfl⟩ := over_of hb; clear hb)
      | (go_at_call 39; refine (HD.out _).mono ?_; rintro e w' ⟨rfl, hw'⟩; have hw' := hw'.symm; subst hw'))
    exact bodyPost_ret (v := .agg #[.int .i64 0, .int .i64 0, .string ⟨#[]⟩]) (by simp [results, Tryz.results25, go_sem]) rfl ⟨⟨⟨0, 0, ⟨#[]⟩⟩, rfl, ⟨i64_0, i64_0, by decide⟩, HQ.out⟩, below1_over _ _ _⟩
  | range =>
    have HP : Hid (∀ W, Below w.heap.size w W → Calls Tryz.prog 40 #[.string s, .int .i64 10, .int .i64 64] W fun e w' => (∃ v t q, e = .returned (.tuple #[.int .i64 v, .iface t (.pointer (some q))])) ∧ Below W.heap.size W w') := fun W h => parse_badS s W (by omega) (hl.kept h) (by rw [hpi]; intro v hv; cases hv)
    have HQ := hide (none_int hp hk (by rw [hpi]; intro v hv; cases hv) ⟨0, 0, ⟨#[]⟩⟩)
    clear hpi hk hl
    go_enter Tryz.func25, Tryz.ntmps25
    go_wp2_with (first
      | (go_at_call 40; refine (HP.out _ (below1 _ _)).mono ?_; rintro e w' ⟨⟨v, t, p, rfl⟩, hb⟩; obtain ⟨x, rfl⟩ := over_of hb; clear hb)
      | (go_at_call 39; refine (HD.out _).mono ?_; rintro e w' ⟨rfl, hw'⟩; have hw' := hw'.symm; subst hw'))
    exact bodyPost_ret (v := .agg #[.int .i64 0, .int .i64 0, .string ⟨#[]⟩]) (by simp [results, Tryz.results25, go_sem]) rfl ⟨⟨⟨0, 0, ⟨#[]⟩⟩, rfl, ⟨i64_0, i64_0, by decide⟩, HQ.out⟩, below1_over _ _ _⟩

set_option maxHeartbeats 4000000 in
set_option maxRecDepth 100000 in
theorem loose_name (s : ByteArray) (w : World) (hs : s.size ≤ 2000000) (hp : 0 < s.size) (h0 : ¬ (s[0].toNat = 34 ∨ s[0].toNat = 45 ∨ (48 ≤ s[0].toNat ∧ s[0].toNat ≤ 57))) :
    Calls Tryz.prog 25 #[.string s] w fun e w' => LAns s e ∧ Below w.heap.size w w' := by
  have g0 : (0 : Int) < (s.size : Int) := by omega
  have HQ := hide (only_name hp h0)
  have hxl : s[0].toNat < 256 := (s[0]).toNat_lt
  obtain ⟨x, hx⟩ : ∃ x : Int, (s[0].toNat : Int) = x := ⟨_, rfl⟩
  have x34 : (x == 34) = false := by simp; omega
  have x45 : (x == 45) = false := by simp; omega
  have HD := hide (fun W => dig_any x W (by omega))
  rw [show digN x = false from by simp [digN]; omega] at HD
  clear h0 hxl
  go_enter Tryz.func25, Tryz.ntmps25
  go_wp2_with (go_at_call 39; refine (HD.out _).mono ?_; rintro e w' ⟨rfl, hw'⟩; have hw' := hw'.symm; subst hw')
  exact bodyPost_ret (v := .agg #[.int .i64 2, .int .i64 0, .string s]) (by simp [results, Tryz.results25, go_sem]) rfl ⟨⟨⟨2, 0, s⟩, rfl, ⟨i64_2, i64_0, by show s.size ≤ _; omega⟩, HQ.out⟩, below1 _ _⟩

theorem loose_any (s : ByteArray) (w : World) (hs : s.size ≤ 2000000) (hp : 0 < s.size) (hl : RdLaid w) :
    Calls Tryz.prog 25 #[.string s] w fun e w' => LAns s e ∧ Below w.heap.size w w' := by
  by_cases h1 : s[0].toNat = 34
  · exact loose_text s w hs hp h1 hl
  by_cases h2 : s[0].toNat = 45
  · exact loose_minus s w hs hp h2 hl
  by_cases h3 : 48 ≤ s[0].toNat ∧ s[0].toNat ≤ 57
  · exact loose_digit s w hs hp h3 hl
  · exact loose_name s w hs hp (by omega)
end Go.Proofs.YtoppnjpajeipdaaGreatDoor

namespace Go.Proofs.YtoppnjpajeipdaaGreatDoor
set_option linter.unusedSimpArgs false
set_option linter.unusedVariables false
open Go.RowKit

/-- What the call answers. -/
def RdAns (s : ByteArray) (e : Ending) : Prop := ∃ (c : Con) (er : Int), e = .returned (.tuple #[.agg #[.int .i64 c.k, .int .i64 c.n, .string c.s], .int .i64 er]) ∧ ReadR s c er

theorem str_eq {a b : ByteArray} (h : a = b) : (a.toList == b.toList) = true := by rw [h]; simp
theorem str_ne {a b : ByteArray} (h : a ≠ b) : (a.toList == b.toList) = false := by
  cases hb : (a.toList == b.toList) with
  | false => rfl
  | true => exact absurd (toList_inj (by simpa using hb)) h

set_option maxHeartbeats 4000000 in
set_option maxRecDepth 100000 in
theorem read_empty (w : World) : Calls Tryz.prog 10 #[.string ⟨#[]⟩] w fun e w' => RdAns ⟨#[]⟩ e ∧ Below w.heap.size w w' := by
  have HR : Hid (ReadR ⟨#[]⟩ ⟨0, 0, ⟨#[]⟩⟩ 5) := .inr ⟨rfl, rfl, fun d hd vd e => by have := (text_size hd vd).1; rw [e] at this; exact absurd this (by decide)⟩
  obtain ⟨b, hb⟩ : ∃ b, b = w.heap.size := ⟨_, rfl⟩
  go_enter Tryz.func10, Tryz.ntmps10
  go_wp2
  exact bodyPost_ret (v := .tuple #[.agg #[.int .i64 0, .int .i64 0, .string ⟨#[]⟩], .int .i64 5]) (by simp [results, Tryz.results10, go_sem]) rfl ⟨⟨⟨0, 0, ⟨#[]⟩⟩, 5, rfl, HR.out⟩, below1 _ _⟩

set_option maxHeartbeats 4000000 in
set_option maxRecDepth 100000 in
theorem read_full (s : ByteArray) (w : World) (hs : s.size ≤ 2000000) (hp : 0 < s.size) (hl : RdLaid w) :
    Calls Tryz.prog 10 #[.string s] w fun e w' => RdAns s e ∧ Below w.heap.size w w' := by
  have HL := hide hl
  have HE := hide (str_ne (a := s) (b := ⟨#[]⟩) (by rintro rfl; exact absurd hp (by decide)))
  have HE2 : Hid ((s.toList.isEmpty) = false) := by
    show _ = _
    rw [ByteArray.toList_eq]
    cases h : s.data.toList with
    | nil => have hh : s.data.toList.length = s.size := rfl; rw [h] at hh; simp at hh; omega
    | cons => rfl
  have h2 := HE2.out
  clear hl
  obtain ⟨b, hb⟩ : ∃ b, b = w.heap.size := ⟨_, rfl⟩
  have hbx : conBox b (w.alloc (.cells #[.int .i64 0, .int .i64 0, .string ⟨#[]⟩] 26)) 0 0 ⟨#[]⟩ := by rw [hb]; exact heap_alloc_new w _
  go_enter Tryz.func10, Tryz.ntmps10
  go_wp2_with fail
  rw [← hb]
  have HBx := hide hbx
  have HBb := hide hb
  have HB0 := hide (below1 w (.cells #[.int .i64 0, .int .i64 0, .string ⟨#[]⟩] 26))
  clear hbx hb
  generalize w.alloc (.cells #[.int .i64 0, .int .i64 0, .string ⟨#[]⟩] 26) = W0 at *
  refine (loose_any s _ hs hp (HL.out.kept HB0.out)).mono ?_
  rintro e w1 ⟨⟨c, rfl, hc, ho⟩, hb1⟩
  have HX1 := hide (HBx.out.kept hb1)
  have HB1 := hide (HB0.out.trans (hb1.mono HB0.out.size))
  have HOn := hide ho
  have HCo := hide hc
  clear hb1 HBx ho hc
  go_wp2_with fail
  have HC2 : Hid (conBox w1.heap.size (w1.alloc (.cells #[.int .i64 c.k, .int .i64 c.n, .string c.s] 26)) c.k c.n c.s) := heap_alloc_new w1 _
  have HX2 := hide (HX1.out.kept (below1 w1 (.cells #[.int .i64 c.k, .int .i64 c.n, .string c.s] 26)))
  have HB2 := hide (HB1.out.trans ((below1 w1 (.cells #[.int .i64 c.k, .int .i64 c.n, .string c.s] 26)).mono HB1.out.size))
  generalize w1.alloc (.cells #[.int .i64 c.k, .int .i64 c.n, .string c.s] 26) = W2 at *
  refine (symText_any c _ HCo.out (HL.out.kept HB2.out).tab).mono ?_
  rintro e w3 ⟨rfl, hb3⟩
  have HX3 := hide (HX2.out.kept hb3)
  obtain ⟨y0, y1, y2, _⟩ := (HC2.out.kept hb3).cells
  obtain ⟨x0, x1, x2, z0, z1, z2, xlt⟩ := HX3.out.cells
  have HBw := hide (HB2.out.trans (hb3.mono HB2.out.size))
  have hne : ¬ w1.heap.size = b := by have := HX1.out.cells.2.2.2.2.2.2; omega
  have hle : w.heap.size ≤ b := Nat.le_of_eq HBb.out.symm
  clear hb3 HX1 HX2 HC2 HBb
  by_cases he : textC c = s
  · have hq := str_eq he
    have HR : Hid (ReadR s c 0) := .inl ⟨rfl, HCo.out, by
      cases hv : validC c with
      | true => rfl
      | false =>
        rw [show textC c = ⟨#[]⟩ from by unfold textC; rw [hv]; rfl] at he
        rw [← he] at hp
        exact absurd hp (by decide), he⟩
    obtain ⟨X, hX⟩ : ∃ X, textC c = X := ⟨_, rfl⟩
    rw [hX] at hq ⊢
    clear he hX
    go_wp2
    refine bodyPost_ret (read_results (HX3.out.put c.k c.n c.s) _ rfl rfl) rfl ⟨⟨c, 0, rfl, HR.out⟩, ?_⟩
    exact ((HBw.out.setCell (p := ⟨b, 0, none⟩) hle _).setCell (p := ⟨b, 1, none⟩) hle _).setCell (p := ⟨b, 2, none⟩) hle _
  · have hq := str_ne he
    have HR : Hid (ReadR s ⟨0, 0, ⟨#[]⟩⟩ 5) := .inr ⟨rfl, rfl, fun d hd vd e => he (by rw [← HOn.out d hd vd e]; exact e)⟩
    obtain ⟨X, hX⟩ : ∃ X, textC c = X := ⟨_, rfl⟩
    rw [hX] at hq ⊢
    clear he hX
    go_wp2
    refine bodyPost_ret (read_results (HX3.out.put 0 0 ⟨#[]⟩) _ rfl rfl) rfl ⟨⟨⟨0, 0, ⟨#[]⟩⟩, 5, rfl, HR.out⟩, ?_⟩
    exact ((HBw.out.setCell (p := ⟨b, 0, none⟩) hle _).setCell (p := ⟨b, 1, none⟩) hle _).setCell (p := ⟨b, 2, none⟩) hle _

theorem read_any (s : ByteArray) (w : World) (hs : s.size ≤ 2000000) (hl : RdLaid w) :
    Calls Tryz.prog 10 #[.string s] w fun e w' => RdAns s e ∧ Below w.heap.size w w' := by
  by_cases hp : 0 < s.size
  · exact read_full s w hs hp hl
  · have : s = ⟨#[]⟩ := by
      apply intsOf_inj
      have := intsOf_len s
      have h2 : intsOf s = [] := List.length_eq_zero_iff.1 (by omega)
      rw [h2]; rfl
    subst this
    exact read_empty w
end Go.Proofs.YtoppnjpajeipdaaGreatDoor

namespace Go.Proofs.YtoppnjpajeipdaaGreatDoor
set_option linter.unusedSimpArgs false
set_option linter.unusedVariables false
open Go.RowKit

def rdLaid : List (String × DataW Unit) := [("math/bits.deBruijn32tab", Rows.laid_math_bits_deBruijn32tab), ("math/bits.deBruijn64tab", Rows.laid_math_bits_deBruijn64tab), ("internal/strconv.uint64pow10", Rows.laid_internal_strconv_uint64pow10), ("unicode/utf8.acceptRanges", Rows.laid_unicode_utf8_acceptRanges), ("strconv.ErrRange", Rows.laid_strconv_ErrRange), ("strconv.ErrSyntax", Rows.laid_strconv_ErrSyntax), ("unicode/utf8.first", Rows.laid_unicode_utf8_first)]

theorem gPow : Tryz.prog.globalNamed "internal/strconv.uint64pow10" = some 1 := by kernel_rfl
theorem tPow : (Tryz.prog.globals[1]?).map (·.type) = some 101 := by kernel_rfl
theorem gSyn : Tryz.prog.globalNamed "strconv.ErrSyntax" = some 0 := by kernel_rfl
theorem gRng : Tryz.prog.globalNamed "strconv.ErrRange" = some 4 := by kernel_rfl
theorem tSyn : (Tryz.prog.globals[0]?).map (·.type) = some 69 := by kernel_rfl
theorem tRng : (Tryz.prog.globals[4]?).map (·.type) = some 69 := by kernel_rfl
theorem u8x : U8Extra Tryz.prog Tryz.lays197_ren := ⟨by kernel_rfl, by kernel_rfl, by kernel_rfl, by kernel_rfl, by kernel_rfl, by kernel_rfl, by kernel_rfl⟩

set_option maxRecDepth 100000 in
theorem iface_cells {fuel : Nat} {W : World} {cs : List Value} {n : String} {d : DataW Unit} {p : List MemPlace} {sp : Nat → Bool} {base : Nat}
    (h : DataW.trod (fun _ => ()) Tryz.prog W base sp false fuel 69 cs = some (.iface n d, p)) : ∃ t y, cs = [.iface t y] := by
  cases fuel with
  | zero => simp [DataW.trod] at h
  | succ m =>
    unfold DataW.trod at h
    rw [Tryz.underlying69] at h
    split at h <;> first | exact ⟨_, _, rfl⟩ | simp_all

theorem laid_rd {W : World} (h : laidMetH Tryz.prog rdLaid W) : RdLaid W := by
  rw [MakeChecks.laidMetH_plain _ _ _ (by kernel_rfl)] at h
  have r1 := Lib.laidMet.reads h (show ("internal/strconv.uint64pow10", Rows.laid_internal_strconv_uint64pow10) ∈ rdLaid from .tail _ (.tail _ (.head _)))
  have r2 := Lib.laidMet.reads h (show ("unicode/utf8.acceptRanges", Rows.laid_unicode_utf8_acceptRanges) ∈ rdLaid from .tail _ (.tail _ (.tail _ (.head _))))
  have r3 := Lib.laidMet.reads h (show ("strconv.ErrRange", Rows.laid_strconv_ErrRange) ∈ rdLaid from .tail _ (.tail _ (.tail _ (.tail _ (.head _)))))
  have r4 := Lib.laidMet.reads h (show ("strconv.ErrSyntax", Rows.laid_strconv_ErrSyntax) ∈ rdLaid from .tail _ (.tail _ (.tail _ (.tail _ (.tail _ (.head _))))))
  have r5 := Lib.laidMet.reads h (show ("unicode/utf8.first", Rows.laid_unicode_utf8_first) ∈ rdLaid from .tail _ (.tail _ (.tail _ (.tail _ (.tail _ (.tail _ (.head _)))))))
  refine ⟨?_, ?_, ?_, ?_⟩
  · obtain ⟨g, t, cs, fuel, p, hg, ht, hv, hd⟩ := r4
    obtain rfl := Option.some.inj (gSyn.symm.trans hg)
    obtain rfl := Option.some.inj (tSyn.symm.trans ht)
    obtain ⟨t, y, hcs⟩ := iface_cells hd
    refine ⟨t, y, ?_⟩
    have := World.var?_cell hg hv 0
    rw [Array.eq_one_of_toList hcs] at this
    simpa using this
  · obtain ⟨g, t, cs, fuel, p, hg, ht, hv, hd⟩ := r3
    obtain rfl := Option.some.inj (gRng.symm.trans hg)
    obtain rfl := Option.some.inj (tRng.symm.trans ht)
    obtain ⟨t, y, hcs⟩ := iface_cells hd
    refine ⟨t, y, ?_⟩
    have := World.var?_cell hg hv 0
    rw [Array.eq_one_of_toList hcs] at this
    simpa using this
  · have e1 : (Rows.laid_unicode_utf8_first : DataW Unit) = Lib.firstData := by kernel_rfl
    have e2 : (Rows.laid_unicode_utf8_acceptRanges : DataW Unit) = Lib.acceptData := by kernel_rfl
    rw [e1] at r5
    rw [e2] at r2
    exact utf8Tabs_of_reads { Tryz.lays197 with } u8x r5 r2
  · obtain ⟨g, t, cs, fuel, p, hg, ht, hv, hd⟩ := r1
    obtain rfl := Option.some.inj (gPow.symm.trans hg)
    obtain rfl := Option.some.inj (tPow.symm.trans ht)
    have hcs := Lib.cells_of_tab (k := .u64) (zs := Lib.pow10Tab) Tryz.underlying101 Tryz.underlying75 (by kernel_rfl) (by kernel_rfl) hd
    unfold TabLaid Lib.TabIs
    rw [hv, ← hcs]

/-- A witness at a world that is shaped, whatever it was made by. -/
theorem witness_rowS {H : Type} {enc : TypeId × Value → H} {C : Checked} {os : Os} {f : FuncId} {fn : Func} {s : OpenSpec} {conds : List PathCond} {apart : Bool} {laid : List (String × DataW Unit)} (modest : Bool) (w0 : World) (args : Array Value) (hos : w0.os = os)
    (hsh : (w0.forCall (fun _ _ => 0) ⟨#[], args, []⟩).Shaped C.prog)
    (hok : Input.okWideB C.prog (w0.forCall (fun _ _ => 0) ⟨#[], args, []⟩) f ⟨#[], args, []⟩ = true)
    (hrow : s.preRow enc C.prog fn conds apart laid (w0.forCall (fun _ _ => 0) ⟨#[], args, []⟩).memory args) :
    ∃ (w : World) (tape : Tape) (i : Input), w.os = os ∧ (w.forCall tape i).Shaped C.prog ∧ i.vars = [] ∧ Input.okWide C.prog (w.forCall tape i) .any w.heap.size f i ∧
      s.preRow enc C.prog fn conds apart laid (w.forCall tape i).memory i.args ∧ ({ modest := modest } : Assume).holds C.prog (lone (Frame.enter C.prog f i.args .normal) [] (w.forCall tape i)) :=
  ⟨w0, fun _ _ => 0, ⟨#[], args, []⟩, hos, hsh, (Input.okWide_of_okWideB (base := 0) hok).1, (Input.okWide_of_okWideB hok).2, hrow, by
    simp only [Assume.holds]
    exact ⟨by simp, by simp, fun _ => Modest.zero, by simp, by simp⟩⟩
end Go.Proofs.YtoppnjpajeipdaaGreatDoor
