/- edictlaw01.SymStrict returns true at every text of at most a million bytes. -/
import Derived.Test.YtleakainhpgldaaDoorProg
import Derived.Test.YtleakainhpgldaaDoorReadAny
import Derived.Test.YtleakainhpgldaaDoorLetters
import Derived.Test.YtleakainhpgldaaDoorSmallCat
namespace Go.Proofs.YtleakainhpgldaaDoor
set_option linter.unusedSimpArgs false
set_option linter.unusedVariables false
open Go.RowKit

theorem text_last {d : Con} (hv : validC d = true) : ∀ l x, intsOf (textC d) = l ++ [x] → x ≠ 32 := by
  intro l x e
  rcases valid_kind hv with hk | hk | ⟨hk, _⟩
  · obtain ⟨e1, _⟩ := text_int hv hk
    have hm : x ∈ intsOf (textC d) := by rw [e]; simp
    rw [e1, itoa_ints] at hm
    obtain ⟨b, hb, rfl⟩ := List.mem_map.1 hm
    have := itoa_byt _ b hb
    omega
  · obtain ⟨e1, _, hn⟩ := text_name hv hk
    have hm : x ∈ intsOf (textC d) := by rw [e]; simp
    rw [e1] at hm
    unfold isNameL isWordL at hn
    simp only [Bool.and_eq_true, List.all_eq_true] at hn
    obtain ⟨⟨_, _, hall⟩, _⟩ := hn
    unfold intsOf at hm
    obtain ⟨b, hb, rfl⟩ := List.mem_map.1 hm
    rw [ByteArray.toList_eq] at hall
    have := hall b hb
    rintro h32
    unfold wordB at this
    rw [h32] at this
    exact absurd this (by decide)
  · obtain ⟨e1, _⟩ := text_text hv hk
    rw [e1, ints_quot] at e
    have e2 : (34 :: (intsOf d.s).flatMap escI) ++ [34] = l ++ [x] := e
    obtain ⟨_, h⟩ := List.append_inj' e2 rfl
    simp at h
    omega

theorem no_blank_behind {s : ByteArray} {d : Con} {f : Int} (h : ReadR (s ++ ⟨#[32]⟩) d f) : d = ⟨0, 0, ⟨#[]⟩⟩ ∧ f = 5 := by
  rcases h with ⟨_, hd, vd, e⟩ | ⟨h1, h2, _⟩
  · have e2 := congrArg intsOf e
    rw [intsOf_app] at e2
    exact absurd rfl (text_last vd _ 32 e2)
  · exact ⟨h2, h1⟩
theorem no_blank_ahead {s : ByteArray} {d : Con} {f : Int} (h : ReadR (⟨#[32]⟩ ++ s) d f) : d = ⟨0, 0, ⟨#[]⟩⟩ ∧ f = 5 := by
  rcases h with ⟨_, hd, vd, e⟩ | ⟨h1, h2, _⟩
  · have e2 := congrArg intsOf e
    rw [intsOf_app] at e2
    obtain ⟨h0, hk⟩ := text_fst vd
    obtain ⟨_, hx⟩ := head_at (show intsOf (textC d) = 32 :: intsOf s from e2)
    omega
  · exact ⟨h2, h1⟩
theorem plain_read {l : List Int} (hl : Pln l) (hs : l.length ≤ 255) {d : Con} {f : Int} (h : ReadR (⟨#[34]⟩ ++ strOf l ++ ⟨#[34]⟩) d f) : d = ⟨3, 0, strOf l⟩ ∧ f = 0 := by
  have hsz : (strOf l).size = l.length := strOf_size l
  have hv : validC ⟨3, 0, strOf l⟩ = true := by
    unfold validC
    show (if (3 : Int) = 1 then _ else if (3 : Int) = 2 then _ else if (3 : Int) = 3 then _ else _) = true
    rw [if_neg (by decide), if_neg (by decide), if_pos rfl]
    simp; omega
  have ht : textC ⟨3, 0, strOf l⟩ = ⟨#[34]⟩ ++ strOf l ++ ⟨#[34]⟩ := by
    obtain ⟨e1, _⟩ := text_text hv rfl
    rw [e1]
    apply intsOf_inj
    rw [ints_quot, intsOf_app, intsOf_app, intsOf_strOf hl.byt, hl.flat]
    rfl
  have h2 : ReadR (⟨#[34]⟩ ++ strOf l ++ ⟨#[34]⟩) ⟨3, 0, strOf l⟩ 0 := .inl ⟨rfl, ⟨i64_3, i64_0, by show (strOf l).size ≤ _; omega⟩, hv, ht⟩
  exact readR_uniq h h2

theorem eqZero (w : World) : (binOp .neq 23 (.agg #[.int .i64 0, .int .i64 0, .string ⟨#[]⟩]) (.agg #[.int .i64 0, .int .i64 0, .string ⟨#[]⟩])).run Tryd.prog w = .ok (.bool false) w := by
  have := neqCon zeroC zeroC w
  rw [conEq_refl] at this
  exact this
theorem eqText (s : ByteArray) (w : World) : (binOp .eql 23 (.agg #[.int .i64 3, .int .i64 0, .string s]) (.agg #[.int .i64 3, .int .i64 0, .string s])).run Tryd.prog w = .ok (.bool true) w := by
  have := eqCon ⟨3, 0, s⟩ ⟨3, 0, s⟩ w
  rw [conEq_refl] at this
  exact this

theorem cat_run (a b : ByteArray) (h : a.size + b.size ≤ 10000000) (w : World) : (Op.stringOp .add a b).run Tryd.prog w = .ok (.string (a ++ b)) w := by
  have h1 : ¬ (((a.size + b.size : Nat) : Int) > IntKind.i64.max) := by show ¬ _ > (9223372036854775807 : Int); omega
  unfold Op.stringOp
  simp only
  rw [if_neg h1]
  rfl

theorem size_one (b : UInt8) : (⟨#[b]⟩ : ByteArray).size = 1 := rfl
theorem size_b (s : ByteArray) (h : s.size ≤ 1048576) : (s ++ ⟨#[32]⟩).size ≤ 2000000 := by
  have e := ByteArray.size_append (a := s) (b := ⟨#[32]⟩)
  have := size_one 32
  omega
theorem size_a (s : ByteArray) (h : s.size ≤ 1048576) : (⟨#[32]⟩ ++ s).size ≤ 2000000 := by
  have e := ByteArray.size_append (a := ⟨#[32]⟩) (b := s)
  have := size_one 32
  omega
theorem size_q (s : ByteArray) (h : s.size ≤ 255) : (⟨#[34]⟩ ++ s ++ ⟨#[34]⟩).size ≤ 2000000 := by
  have e := ByteArray.size_append (a := ⟨#[34]⟩) (b := s)
  have e2 := ByteArray.size_append (a := ⟨#[34]⟩ ++ s) (b := ⟨#[34]⟩)
  have := size_one 34
  omega
theorem size_r (s : ByteArray) (h : s.size ≤ 255) : (⟨#[34]⟩ ++ s).size + (⟨#[34]⟩ : ByteArray).size ≤ 10000000 := by
  have e := ByteArray.size_append (a := ⟨#[34]⟩) (b := s)
  have := size_one 34
  omega

set_option maxHeartbeats 8000000 in
set_option maxRecDepth 100000 in
theorem symStrict_walk (s : ByteArray) (w : World) (hs : s.size ≤ 1048576) (hl : RdLaid w) :
    Calls Tryd.prog 3 #[.string s] w fun e w' => e = .returned (.bool true) ∧ Below w.heap.size w w' := by
  have HL := hide hl
  have hz := eqZero
  clear hl
  go_enter Tryd.func3, Tryd.ntmps3
  go_wp2_with fail
  refine (read_any s w (by omega) HL.out).mono ?_
  rintro e w1 ⟨⟨c, er, rfl, hr⟩, hb1⟩
  have HB1 := hide hb1
  clear hb1
  rcases hr with ⟨rfl, hc, vc, tc⟩ | ⟨rfl, rfl, _⟩
  · have HV := hide (fun W => valid_any c W hc)
    rw [vc] at HV
    have HT : Hid (∀ W, Below w.heap.size w W → Calls Tryd.prog 8 #[c.val] W fun e w' => e = .returned (.string s) ∧ Below W.heap.size W w') := fun W h => by rw [← tc]; exact symText_any c W hc (HL.out.kept h).tab
    unfold Con.val at HV HT
    clear hc vc tc
    go_wp2_with fail
    obtain ⟨b2, hb2⟩ : ∃ b, b = w1.heap.size := ⟨_, rfl⟩
    have HX2 : Hid (conBox b2 (w1.alloc (.cells #[.int .i64 c.k, .int .i64 c.n, .string c.s] 23)) c.k c.n c.s) := by rw [hb2]; exact heap_alloc_new w1 _
    have HB2 := hide (HB1.out.trans ((below1 w1 (.cells #[.int .i64 c.k, .int .i64 c.n, .string c.s] 23)).mono HB1.out.size))
    rw [← hb2]
    clear hb2 HB1
    generalize w1.alloc (.cells #[.int .i64 c.k, .int .i64 c.n, .string c.s] 23) = W2 at *
    refine (HV.out _).mono ?_
    rintro e w3 ⟨rfl, hb3⟩
    have HX3 := hide (HX2.out.kept hb3)
    have HB3 := hide (HB2.out.trans (hb3.mono HB2.out.size))
    obtain ⟨x0, x1, x2, _, _, _, xlt⟩ := HX3.out.cells
    clear hb3 HX2 HB2 HV
    go_wp2_with fail
    refine (HT.out _ HB3.out).mono ?_
    rintro e w4 ⟨rfl, hb4⟩
    have HB4 := hide (HB3.out.trans (hb4.mono HB3.out.size))
    clear hb4 HB3 HT x0 x1 x2 xlt HX3
    have hk1 := fun w => cat_run s ⟨#[32]⟩ (by show s.size + 1 ≤ _; omega) w
    have hk2 := fun w => cat_run ⟨#[32]⟩ s (by show 1 + s.size ≤ _; omega) w
    have hX1 := size_b s hs
    have hX2 := size_a s hs
    have HN1 := hide (fun d f (h : ReadR (s ++ ⟨#[32]⟩) d f) => no_blank_behind h)
    have HN2 := hide (fun d f (h : ReadR (⟨#[32]⟩ ++ s) d f) => no_blank_ahead h)
    generalize s ++ (⟨#[32]⟩ : ByteArray) = X1 at hk1 hX1 HN1
    generalize (⟨#[32]⟩ : ByteArray) ++ s = X2 at hk2 hX2 HN2
    go_wp2_with fail
    refine (read_any X1 _ hX1 (HL.out.kept HB4.out)).mono ?_
    rintro e w5 ⟨⟨d, f, rfl, hrd⟩, hb5⟩
    obtain ⟨rfl, rfl⟩ := HN1.out _ _ hrd
    have HB5 := hide (HB4.out.trans (hb5.mono HB4.out.size))
    clear hb5 hrd HB4 hk1 HN1 hX1
    go_wp2_with fail
    obtain ⟨b6, hb6⟩ : ∃ b, b = w5.heap.size := ⟨_, rfl⟩
    have HX6 : Hid (conBox b6 (w5.alloc (.cells #[.int .i64 0, .int .i64 0, .string ⟨#[]⟩] 23)) 0 0 ⟨#[]⟩) := by rw [hb6]; exact heap_alloc_new w5 _
    have HB6 := hide (HB5.out.trans ((below1 w5 (.cells #[.int .i64 0, .int .i64 0, .string ⟨#[]⟩] 23)).mono HB5.out.size))
    rw [← hb6]
    clear hb6 HB5
    generalize w5.alloc (.cells #[.int .i64 0, .int .i64 0, .string ⟨#[]⟩] 23) = W6 at *
    refine (read_any X2 _ hX2 (HL.out.kept HB6.out)).mono ?_
    rintro e w7 ⟨⟨d, f, rfl, hrd⟩, hb7⟩
    obtain ⟨rfl, rfl⟩ := HN2.out _ _ hrd
    have HX7 := hide (HX6.out.kept hb7)
    have HB7 := hide (HB6.out.trans (hb7.mono HB6.out.size))
    obtain ⟨x0, x1, x2, _, _, _, xlt⟩ := HX7.out.cells
    clear hb7 hrd HB6 HX6 hk2 HN2 hX2
    go_wp2_with fail
    clear x0 x1 x2 xlt HX7
    obtain ⟨bT, hbT⟩ : ∃ b, b = w7.heap.size := ⟨_, rfl⟩
    have HXT : Hid (conBox bT (w7.alloc (.cells #[.int .i64 0, .int .i64 0, .string ⟨#[]⟩] 23)) 0 0 ⟨#[]⟩) := by rw [hbT]; exact heap_alloc_new w7 _
    have HBT := hide (HB7.out.trans ((below1 w7 (.cells #[.int .i64 0, .int .i64 0, .string ⟨#[]⟩] 23)).mono HB7.out.size))
    rw [← hbT]
    clear hbT HB7 HXT
    generalize w7.alloc (.cells #[.int .i64 0, .int .i64 0, .string ⟨#[]⟩] 23) = WT at *
    refine (letters_any s _ (by omega)).mono ?_
    rintro e wl ⟨⟨l, rfl, hpl, hll⟩, hbl⟩
    have HBl := hide (HBT.out.trans (hbl.mono HBT.out.size))
    have hsl : (strOf l).size = l.length := strOf_size l
    have HPl := hide hpl
    clear hbl hpl
    have HR2 := hide (fun d f (h : ReadR (⟨#[34]⟩ ++ strOf l ++ ⟨#[34]⟩) d f) => plain_read HPl.out hll h)
    obtain ⟨L, hL⟩ : ∃ L, strOf l = L := ⟨_, rfl⟩
    rw [hL] at hsl HR2
    rw [hL]
    clear hL
    have hc1 := fun w => cat_run ⟨#[34]⟩ L (by show 1 + L.size ≤ _; omega) w
    have hc2 := fun w => cat_run (⟨#[34]⟩ ++ L) ⟨#[34]⟩ (size_r L (by omega)) w
    have hX3 := size_q L (by omega)
    generalize (⟨#[34]⟩ : ByteArray) ++ L ++ ⟨#[34]⟩ = X3 at hc2 hX3 HR2
    generalize (⟨#[34]⟩ : ByteArray) ++ L = X4 at hc1 hc2
    go_wp2_with fail
    refine (read_any X3 _ hX3 (HL.out.kept HBl.out)).mono ?_
    rintro e wz ⟨⟨d, f, rfl, hrd⟩, hbz⟩
    obtain ⟨rfl, rfl⟩ := HR2.out _ _ hrd
    have HBz := hide (HBl.out.trans (hbz.mono HBl.out.size))
    clear hbz hrd HR2 hc1 hc2 hX3
    have hte := fun w => eqText L w
    go_wp2
    go_ret
    exact ⟨rfl, HBz.out.trans ((below1 wz _).mono HBz.out.size)⟩
  · go_wp2_with fail
    obtain ⟨bT, hbT⟩ : ∃ b, b = w1.heap.size := ⟨_, rfl⟩
    have HXT : Hid (conBox bT (w1.alloc (.cells #[.int .i64 0, .int .i64 0, .string ⟨#[]⟩] 23)) 0 0 ⟨#[]⟩) := by rw [hbT]; exact heap_alloc_new w1 _
    have HBT := hide (HB1.out.trans ((below1 w1 (.cells #[.int .i64 0, .int .i64 0, .string ⟨#[]⟩] 23)).mono HB1.out.size))
    rw [← hbT]
    clear hbT HB1 HXT
    generalize w1.alloc (.cells #[.int .i64 0, .int .i64 0, .string ⟨#[]⟩] 23) = WT at *
    refine (letters_any s _ (by omega)).mono ?_
    rintro e wl ⟨⟨l, rfl, hpl, hll⟩, hbl⟩
    have HBl := hide (HBT.out.trans (hbl.mono HBT.out.size))
    have hsl : (strOf l).size = l.length := strOf_size l
    have HPl := hide hpl
    clear hbl hpl
    have HR2 := hide (fun d f (h : ReadR (⟨#[34]⟩ ++ strOf l ++ ⟨#[34]⟩) d f) => plain_read HPl.out hll h)
    obtain ⟨L, hL⟩ : ∃ L, strOf l = L := ⟨_, rfl⟩
    rw [hL] at hsl HR2
    rw [hL]
    clear hL
    have hc1 := fun w => cat_run ⟨#[34]⟩ L (by show 1 + L.size ≤ _; omega) w
    have hc2 := fun w => cat_run (⟨#[34]⟩ ++ L) ⟨#[34]⟩ (size_r L (by omega)) w
    have hX3 := size_q L (by omega)
    generalize (⟨#[34]⟩ : ByteArray) ++ L ++ ⟨#[34]⟩ = X3 at hc2 hX3 HR2
    generalize (⟨#[34]⟩ : ByteArray) ++ L = X4 at hc1 hc2
    go_wp2_with fail
    refine (read_any X3 _ hX3 (HL.out.kept HBl.out)).mono ?_
    rintro e wz ⟨⟨d, f, rfl, hrd⟩, hbz⟩
    obtain ⟨rfl, rfl⟩ := HR2.out _ _ hrd
    have HBz := hide (HBl.out.trans (hbz.mono HBl.out.size))
    clear hbz hrd HR2 hc1 hc2 hX3
    have hte := fun w => eqText L w
    go_wp2
    go_ret
    exact ⟨rfl, HBz.out.trans ((below1 wz _).mono HBz.out.size)⟩
end Go.Proofs.YtleakainhpgldaaDoor
