/- sym.readLoosely: the only constant that a text could be the text of. -/
import Derived.Test.YtleakainhpgldaaDoorProg
import Derived.Test.YtleakainhpgldaaDoorUnqFast
import Derived.Test.YtleakainhpgldaaDoorSymRead
import Derived.Lib.ParseIntBTie
namespace Go.Proofs.YtleakainhpgldaaDoor
set_option linter.unusedSimpArgs false
set_option linter.unusedVariables false
open Go.RowKit

attribute [local go_sem] over_cellAt over_frozenAt over_setAt

/-- What start-up lays, as far as constants are read. -/
structure RdLaid (w : World) : Prop where
  syn : SynLaid w
  rng : ∃ t p, w.cell? ⟨4, 0, none⟩ = some (.iface t p)
  utf : UtfLaid w
  tab : TabLaid w
theorem RdLaid.kept {w w' : World} (h : RdLaid w) (hb : Below w.heap.size w w') : RdLaid w' where
  syn := h.syn.kept hb
  rng := by obtain ⟨t, p, e⟩ := h.rng; exact ⟨t, p, kept_cell hb e⟩
  utf := h.utf.kept hb
  tab := h.tab.kept hb

theorem parse_badS (s : ByteArray) (w : World) (hs : s.size ≤ 140737488351232) (hl : RdLaid w) (h : ∀ v, Lib.parseIntB 64 s.data.toList ≠ .ok v) :
    Calls Tryd.prog 24 #[.string s, .int .i64 10, .int .i64 64] w fun e w' => (∃ v t q, e = .returned (.tuple #[.int .i64 v, .iface t (.pointer (some q))])) ∧ Below w.heap.size w w' := by
  cases hp : Lib.parseIntB 64 s.data.toList with
  | ok v => exact absurd hp (h v)
  | «syntax» =>
    obtain ⟨t, p, e⟩ := hl.syn
    exact (Any.strconv_ParseInt_10_at64_syntax Tryd.lays174 s (by omega) hp _ w e (.inr ⟨_, _, rfl⟩)).mono fun e w' ⟨N, he, _, _, hb⟩ => ⟨⟨_, _, _, he⟩, hb⟩
  | range =>
    obtain ⟨t, p, e⟩ := hl.rng
    exact (Any.strconv_ParseInt_10_at64_range Tryd.lays174 s (by omega) hp _ w e (.inr ⟨_, _, rfl⟩)).mono fun e w' ⟨N, he, _, _, hb⟩ => ⟨⟨_, _, _, he⟩, hb⟩

theorem text_fst {a : Con} (va : validC a = true) : ∃ h : 0 < (textC a).size, (a.k = 1 ∧ ((textC a)[0].toNat = 45 ∨ (48 ≤ (textC a)[0].toNat ∧ (textC a)[0].toNat ≤ 57))) ∨ (a.k = 2 ∧ 97 ≤ (textC a)[0].toNat ∧ (textC a)[0].toNat ≤ 122) ∨ (a.k = 3 ∧ (textC a)[0].toNat = 34) := by
  rcases valid_kind va with hk | hk | ⟨hk, _⟩
  · obtain ⟨e1, _⟩ := text_int va hk
    obtain ⟨b, r, hb, hx⟩ := itoa_head a.n
    have hi : intsOf (textC a) = (b.toNat : Int) :: r.map fun b => (b.toNat : Int) := by rw [e1, itoa_ints, hb]; rfl
    obtain ⟨h0, h1⟩ := head_at hi
    exact ⟨h0, .inl ⟨hk, by omega⟩⟩
  · obtain ⟨e1, _, hn⟩ := text_name va hk
    obtain ⟨h0, h1⟩ := name_head hn
    refine ⟨by rw [e1]; exact h0, .inr (.inl ⟨hk, ?_⟩)⟩
    simp only [e1]; exact h1
  · obtain ⟨e1, _⟩ := text_text va hk
    have hi : intsOf (textC a) = 34 :: ((intsOf a.s).flatMap escI ++ [34]) := by rw [e1, ints_quot]
    obtain ⟨h0, h1⟩ := head_at hi
    exact ⟨h0, .inr (.inr ⟨hk, by omega⟩)⟩

theorem only_text {s out : ByteArray} (hp : 0 < s.size) (h0 : s[0].toNat = 34) (hq : ∀ T, Byt T → Quo T s → intsOf out = T) : Onl s ⟨3, 0, out⟩ := by
  rintro d hd vd rfl
  obtain ⟨_, hk⟩ := text_fst vd
  have hk3 : d.k = 3 := by rcases hk with ⟨_, h⟩ | ⟨_, h⟩ | ⟨h, _⟩ <;> first | exact h | omega
  obtain ⟨e1, n1, _⟩ := text_text vd hk3
  have := hq (intsOf d.s) (intsOf_byt _) (by unfold Quo; rw [e1, ints_quot])
  obtain ⟨k, n, s⟩ := d
  dsimp only at *
  rw [hk3, n1, intsOf_inj this]
theorem none_text {s : ByteArray} (hp : 0 < s.size) (h0 : s[0].toNat = 34) (hq : ∀ T, Byt T → ¬ Quo T s) (c : Con) : Onl s c := by
  rintro d hd vd rfl
  obtain ⟨_, hk⟩ := text_fst vd
  have hk3 : d.k = 3 := by rcases hk with ⟨_, h⟩ | ⟨_, h⟩ | ⟨h, _⟩ <;> first | exact h | omega
  obtain ⟨e1, n1, _⟩ := text_text vd hk3
  exact absurd (by unfold Quo; rw [e1, ints_quot]) (hq (intsOf d.s) (intsOf_byt _))
theorem only_int {s : ByteArray} {v : Int} (hp : 0 < s.size) (h0 : s[0].toNat = 45 ∨ (48 ≤ s[0].toNat ∧ s[0].toNat ≤ 57)) (hq : Lib.parseIntB 64 s.data.toList = .ok v) : Onl s ⟨1, v, ⟨#[]⟩⟩ := by
  rintro d hd vd rfl
  obtain ⟨_, hk⟩ := text_fst vd
  have hk1 : d.k = 1 := by rcases hk with ⟨h, _⟩ | ⟨_, h⟩ | ⟨_, h⟩ <;> first | exact h | omega
  obtain ⟨e1, s1⟩ := text_int vd hk1
  have hp := itoa_parse d.n hd.2.1
  have e2 : (textC d).data.toList = Lib.itoa d.n := by rw [e1]
  rw [e2, hp] at hq
  have hn : d.n = v := by simpa using hq
  obtain ⟨k, n, s⟩ := d
  dsimp only at *
  rw [hk1, hn, s1]
theorem none_int {s : ByteArray} (hp : 0 < s.size) (h0 : s[0].toNat = 45 ∨ (48 ≤ s[0].toNat ∧ s[0].toNat ≤ 57)) (hq : ∀ v, Lib.parseIntB 64 s.data.toList ≠ .ok v) (c : Con) : Onl s c := by
  rintro d hd vd rfl
  obtain ⟨_, hk⟩ := text_fst vd
  have hk1 : d.k = 1 := by rcases hk with ⟨h, _⟩ | ⟨_, h⟩ | ⟨_, h⟩ <;> first | exact h | omega
  obtain ⟨e1, s1⟩ := text_int vd hk1
  have hp := itoa_parse d.n hd.2.1
  have e2 : (textC d).data.toList = Lib.itoa d.n := by rw [e1]
  rw [e2] at hq
  exact absurd hp (hq _)
theorem only_name {s : ByteArray} (hp : 0 < s.size) (h0 : ¬ (s[0].toNat = 34 ∨ s[0].toNat = 45 ∨ (48 ≤ s[0].toNat ∧ s[0].toNat ≤ 57))) : Onl s ⟨2, 0, s⟩ := by
  rintro d hd vd rfl
  obtain ⟨_, hk⟩ := text_fst vd
  have hk2 : d.k = 2 := by rcases hk with ⟨_, h⟩ | ⟨h, _⟩ | ⟨_, h⟩ <;> first | exact h | omega
  obtain ⟨e1, n1, _⟩ := text_name vd hk2
  obtain ⟨k, n, s⟩ := d
  dsimp only at *
  rw [e1, hk2, n1]

theorem parse_i64 {l : List UInt8} {v : Int} (h : Lib.parseIntB 64 l = .ok v) : I64 v := by
  have := Lib.parseIntB_bounds h
  unfold I64
  omega
theorem i64_0 : I64 0 := by unfold I64; decide
theorem i64_1 : I64 1 := by unfold I64; decide
theorem i64_2 : I64 2 := by unfold I64; decide
theorem i64_3 : I64 3 := by unfold I64; decide
/-- What the call answers. -/
def LAns (s : ByteArray) (e : Ending) : Prop := ∃ c : Con, e = .returned (.agg #[.int .i64 c.k, .int .i64 c.n, .string c.s]) ∧ c.ok ∧ Onl s c

set_option maxHeartbeats 4000000 in
set_option maxRecDepth 100000 in
theorem loose_text (s : ByteArray) (w : World) (hs : s.size ≤ 2000000) (hp : 0 < s.size) (h0 : s[0].toNat = 34) (hl : RdLaid w) :
    Calls Tryd.prog 13 #[.string s] w fun e w' => LAns s e ∧ Below w.heap.size w w' := by
  have HU : Hid (∀ W, Below w.heap.size w W → Calls Tryd.prog 22 #[.string s] W fun e w' => RAns s e ∧ Below W.heap.size W w') := fun W h => unquote_any s W hs hp h0 (hl.kept h).syn (hl.kept h).utf
  have hx : (s[0].toNat : Int) = 34 := by omega
  have g0 : (0 : Int) < (s.size : Int) := by omega
  have H0 := hide h0
  clear hl h0
  go_enter Tryd.func13, Tryd.ntmps13
  go_wp2_with fail
  refine (HU.out _ (below1 _ _)).mono ?_
  rintro e w' ⟨hans, hb⟩
  obtain ⟨x, rfl⟩ := over_of hb
  clear hb HU
  rcases hans with ⟨out, rfl, ho, hq⟩ | ⟨out, ty, p, rfl, hq⟩
  · have HQ := hide (only_text hp H0.out hq)
    clear hq
    go_wp2
    exact bodyPost_ret (v := .agg #[.int .i64 3, .int .i64 0, .string out]) (by simp [results, Tryd.results13, go_sem]) rfl ⟨⟨⟨3, 0, out⟩, rfl, ⟨i64_3, i64_0, by show out.size ≤ _; omega⟩, HQ.out⟩, below1_over _ _ _⟩
  · have HQ := hide (none_text hp H0.out hq ⟨0, 0, ⟨#[]⟩⟩)
    clear hq
    go_wp2
    exact bodyPost_ret (v := .agg #[.int .i64 0, .int .i64 0, .string ⟨#[]⟩]) (by simp [results, Tryd.results13, go_sem]) rfl ⟨⟨⟨0, 0, ⟨#[]⟩⟩, rfl, ⟨by unfold I64; decide, by unfold I64; decide, by decide⟩, HQ.out⟩, below1_over _ _ _⟩
set_option maxHeartbeats 4000000 in
set_option maxRecDepth 100000 in
theorem loose_minus (s : ByteArray) (w : World) (hs : s.size ≤ 2000000) (hp : 0 < s.size) (h0 : s[0].toNat = 45) (hl : RdLaid w) :
    Calls Tryd.prog 13 #[.string s] w fun e w' => LAns s e ∧ Below w.heap.size w w' := by
  have g0 : (0 : Int) < (s.size : Int) := by omega
  have hx : (s[0].toNat : Int) = 45 := by omega
  have hk : s[0].toNat = 45 ∨ (48 ≤ s[0].toNat ∧ s[0].toNat ≤ 57) := .inl h0
  clear h0
  cases hpi : Lib.parseIntB 64 s.data.toList with
  | ok v =>
    have HP := hide (fun W => parse_ok s W (by omega) hpi)
    have HQ := hide (only_int hp hk hpi)
    have hv : I64 v := parse_i64 hpi
    clear hpi hk hl
    go_enter Tryd.func13, Tryd.ntmps13
    go_wp2_with (first
      | (go_at_call 24; refine (HP.out _).mono ?_; rintro e w' ⟨rfl, hb⟩; obtain ⟨x, rfl⟩ := over_of hb; clear hb))
    exact bodyPost_ret (v := .agg #[.int .i64 1, .int .i64 v, .string ⟨#[]⟩]) (by simp [results, Tryd.results13, go_sem]) rfl ⟨⟨⟨1, v, ⟨#[]⟩⟩, rfl, ⟨i64_1, hv, Nat.zero_le _⟩, HQ.out⟩, below1_over _ _ _⟩
  | «syntax» =>
    have HP : Hid (∀ W, Below w.heap.size w W → Calls Tryd.prog 24 #[.string s, .int .i64 10, .int .i64 64] W fun e w' => (∃ v t q, e = .returned (.tuple #[.int .i64 v, .iface t (.pointer (some q))])) ∧ Below W.heap.size W w') := fun W h => parse_badS s W (by omega) (hl.kept h) (by rw [hpi]; intro v hv; cases hv)
    have HQ := hide (none_int hp hk (by rw [hpi]; intro v hv; cases hv) ⟨0, 0, ⟨#[]⟩⟩)
    clear hpi hk hl
    go_enter Tryd.func13, Tryd.ntmps13
    go_wp2_with (first
      | (go_at_call 24; refine (HP.out _ (below1 _ _)).mono ?_; rintro e w' ⟨⟨v, t, p, rfl⟩, hb⟩; obtain ⟨x, rfl⟩ := over_of hb; clear hb))
    exact bodyPost_ret (v := .agg #[.int .i64 0, .int .i64 0, .string ⟨#[]⟩]) (by simp [results, Tryd.results13, go_sem]) rfl ⟨⟨⟨0, 0, ⟨#[]⟩⟩, rfl, ⟨i64_0, i64_0, by decide⟩, HQ.out⟩, below1_over _ _ _⟩
  | range =>
    have HP : Hid (∀ W, Below w.heap.size w W → Calls Tryd.prog 24 #[.string s, .int .i64 10, .int .i64 64] W fun e w' => (∃ v t q, e = .returned (.tuple #[.int .i64 v, .iface t (.pointer (some q))])) ∧ Below W.heap.size W w') := fun W h => parse_badS s W (by omega) (hl.kept h) (by rw [hpi]; intro v hv; cases hv)
    have HQ := hide (none_int hp hk (by rw [hpi]; intro v hv; cases hv) ⟨0, 0, ⟨#[]⟩⟩)
    clear hpi hk hl
    go_enter Tryd.func13, Tryd.ntmps13
    go_wp2_with (first
      | (go_at_call 24; refine (HP.out _ (below1 _ _)).mono ?_; rintro e w' ⟨⟨v, t, p, rfl⟩, hb⟩; obtain ⟨x, rfl⟩ := over_of hb; clear hb))
    exact bodyPost_ret (v := .agg #[.int .i64 0, .int .i64 0, .string ⟨#[]⟩]) (by simp [results, Tryd.results13, go_sem]) rfl ⟨⟨⟨0, 0, ⟨#[]⟩⟩, rfl, ⟨i64_0, i64_0, by decide⟩, HQ.out⟩, below1_over _ _ _⟩

set_option maxHeartbeats 4000000 in
set_option maxRecDepth 100000 in
theorem loose_digit (s : ByteArray) (w : World) (hs : s.size ≤ 2000000) (hp : 0 < s.size) (h0 : 48 ≤ s[0].toNat ∧ s[0].toNat ≤ 57) (hl : RdLaid w) :
    Calls Tryd.prog 13 #[.string s] w fun e w' => LAns s e ∧ Below w.heap.size w w' := by
  have g0 : (0 : Int) < (s.size : Int) := by omega
  have hk : s[0].toNat = 45 ∨ (48 ≤ s[0].toNat ∧ s[0].toNat ≤ 57) := .inr h0
  obtain ⟨x, hx⟩ : ∃ x : Int, (s[0].toNat : Int) = x := ⟨_, rfl⟩
  have x34 : (x == 34) = false := by simp; omega
  have x45 : (x == 45) = false := by simp; omega
  have HD := hide (fun W => dig_any x W (by omega))
  rw [show digN x = true from by simp [digN]; omega] at HD
  clear h0
  cases hpi : Lib.parseIntB 64 s.data.toList with
  | ok v =>
    have HP := hide (fun W => parse_ok s W (by omega) hpi)
    have HQ := hide (only_int hp hk hpi)
    have hv : I64 v := parse_i64 hpi
    clear hpi hk hl
    go_enter Tryd.func13, Tryd.ntmps13
    go_wp2_with (first
      | (go_at_call 24; refine (HP.out _).mono ?_; rintro e w' ⟨rfl, hb⟩; obtain ⟨x, rfl⟩ := over_of hb; clear hb)
      | (go_at_call 23; refine (HD.out _).mono ?_; rintro e w' ⟨rfl, hw'⟩; have hw' := hw'.symm; subst hw'))
    exact bodyPost_ret (v := .agg #[.int .i64 1, .int .i64 v, .string ⟨#[]⟩]) (by simp [results, Tryd.results13, go_sem]) rfl ⟨⟨⟨1, v, ⟨#[]⟩⟩, rfl, ⟨i64_1, hv, Nat.zero_le _⟩, HQ.out⟩, below1_over _ _ _⟩
  | «syntax» =>
    have HP : Hid (∀ W, Below w.heap.size w W → Calls Tryd.prog 24 #[.string s, .int .i64 10, .int .i64 64] W fun e w' => (∃ v t q, e = .returned (.tuple #[.int .i64 v, .iface t (.pointer (some q))])) ∧ Below W.heap.size W w') := fun W h => parse_badS s W (by omega) (hl.kept h) (by rw [hpi]; intro v hv; cases hv)
    have HQ := hide (none_int hp hk (by rw [hpi]; intro v hv; cases hv) ⟨0, 0, ⟨#[]⟩⟩)
    clear hpi hk hl
    go_enter Tryd.func13, Tryd.ntmps13
    go_wp2_with (first
      | (go_at_call 24; refine (HP.out _ (below1 _ _)).mono ?_; rintro e w' ⟨⟨v, t, p, rfl⟩, hb⟩; obtain ⟨x, rfl⟩ := over_of hb; clear hb)
      | (go_at_call 23; refine (HD.out _).mono ?_; rintro e w' ⟨rfl, hw'⟩; have hw' := hw'.symm; subst hw'))
    exact bodyPost_ret (v := .agg #[.int .i64 0, .int .i64 0, .string ⟨#[]⟩]) (by simp [results, Tryd.results13, go_sem]) rfl ⟨⟨⟨0, 0, ⟨#[]⟩⟩, rfl, ⟨i64_0, i64_0, by decide⟩, HQ.out⟩, below1_over _ _ _⟩
  | range =>
    have HP : Hid (∀ W, Below w.heap.size w W → Calls Tryd.prog 24 #[.string s, .int .i64 10, .int .i64 64] W fun e w' => (∃ v t q, e = .returned (.tuple #[.int .i64 v, .iface t (.pointer (some q))])) ∧ Below W.heap.size W w') := fun W h => parse_badS s W (by omega) (hl.kept h) (by rw [hpi]; intro v hv; cases hv)
    have HQ := hide (none_int hp hk (by rw [hpi]; intro v hv; cases hv) ⟨0, 0, ⟨#[]⟩⟩)
    clear hpi hk hl
    go_enter Tryd.func13, Tryd.ntmps13
    go_wp2_with (first
      | (go_at_call 24; refine (HP.out _ (below1 _ _)).mono ?_; rintro e w' ⟨⟨v, t, p, rfl⟩, hb⟩; obtain ⟨x, rfl⟩ := over_of hb; clear hb)
      | (go_at_call 23; refine (HD.out _).mono ?_; rintro e w' ⟨rfl, hw'⟩; have hw' := hw'.symm; subst hw'))
    exact bodyPost_ret (v := .agg #[.int .i64 0, .int .i64 0, .string ⟨#[]⟩]) (by simp [results, Tryd.results13, go_sem]) rfl ⟨⟨⟨0, 0, ⟨#[]⟩⟩, rfl, ⟨i64_0, i64_0, by decide⟩, HQ.out⟩, below1_over _ _ _⟩

set_option maxHeartbeats 4000000 in
set_option maxRecDepth 100000 in
theorem loose_name (s : ByteArray) (w : World) (hs : s.size ≤ 2000000) (hp : 0 < s.size) (h0 : ¬ (s[0].toNat = 34 ∨ s[0].toNat = 45 ∨ (48 ≤ s[0].toNat ∧ s[0].toNat ≤ 57))) :
    Calls Tryd.prog 13 #[.string s] w fun e w' => LAns s e ∧ Below w.heap.size w w' := by
  have g0 : (0 : Int) < (s.size : Int) := by omega
  have HQ := hide (only_name hp h0)
  have hxl : s[0].toNat < 256 := (s[0]).toNat_lt
  obtain ⟨x, hx⟩ : ∃ x : Int, (s[0].toNat : Int) = x := ⟨_, rfl⟩
  have x34 : (x == 34) = false := by simp; omega
  have x45 : (x == 45) = false := by simp; omega
  have HD := hide (fun W => dig_any x W (by omega))
  rw [show digN x = false from by simp [digN]; omega] at HD
  clear h0 hxl
  go_enter Tryd.func13, Tryd.ntmps13
  go_wp2_with (go_at_call 23; refine (HD.out _).mono ?_; rintro e w' ⟨rfl, hw'⟩; have hw' := hw'.symm; subst hw')
  exact bodyPost_ret (v := .agg #[.int .i64 2, .int .i64 0, .string s]) (by simp [results, Tryd.results13, go_sem]) rfl ⟨⟨⟨2, 0, s⟩, rfl, ⟨i64_2, i64_0, by show s.size ≤ _; omega⟩, HQ.out⟩, below1 _ _⟩

theorem loose_any (s : ByteArray) (w : World) (hs : s.size ≤ 2000000) (hp : 0 < s.size) (hl : RdLaid w) :
    Calls Tryd.prog 13 #[.string s] w fun e w' => LAns s e ∧ Below w.heap.size w w' := by
  by_cases h1 : s[0].toNat = 34
  · exact loose_text s w hs hp h1 hl
  by_cases h2 : s[0].toNat = 45
  · exact loose_minus s w hs hp h2 hl
  by_cases h3 : 48 ≤ s[0].toNat ∧ s[0].toNat ≤ 57
  · exact loose_digit s w hs hp h3 hl
  · exact loose_name s w hs hp (by omega)
end Go.Proofs.YtleakainhpgldaaDoor
