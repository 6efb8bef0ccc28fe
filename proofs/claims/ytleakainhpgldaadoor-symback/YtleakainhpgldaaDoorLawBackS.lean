/- edictlaw01.SymBack returns true at every two constants. -/
import Derived.Test.YtleakainhpgldaaDoorProg
import Derived.Test.YtleakainhpgldaaDoorLawBack1
namespace Go.Proofs.YtleakainhpgldaaDoor
set_option linter.unusedSimpArgs false
set_option linter.unusedVariables false
open Go.RowKit

theorem read_back (c : Con) (hc : c.ok) (hv : validC c = true) (W : World) (hl : RdLaid W) :
    Calls Tryd.prog 6 #[.string (textC c)] W fun e w' => e = .returned (.tuple #[.agg #[.int .i64 c.k, .int .i64 c.n, .string c.s], .int .i64 0]) ∧ Below W.heap.size W w' :=
  (read_any (textC c) W (by have := (text_size hc hv).2; omega) hl).mono fun e w' ⟨⟨x, er, he, hr⟩, hb⟩ => by
    obtain ⟨rfl, rfl⟩ := back_read hc hv hr
    exact ⟨he, hb⟩
theorem not_nil {s : ByteArray} (h : 0 < s.size) : s.toList.isEmpty = false ∧ (s.toList == []) = false := by
  rw [ByteArray.toList_eq]
  cases hd : s.data.toList with
  | nil => have hh : s.data.toList.length = s.size := rfl; rw [hd] at hh; simp at hh; omega
  | cons => exact ⟨rfl, rfl⟩
theorem eqTwo (c d : Con) (h : c ≠ d) (w : World) : (binOp .eql 23 (.agg #[.int .i64 c.k, .int .i64 c.n, .string c.s]) (.agg #[.int .i64 d.k, .int .i64 d.n, .string d.s])).run Tryd.prog w = .ok (.bool false) w := by
  have := eqCon c d w
  rw [show conEq c d = false from by cases hb : conEq c d with | false => rfl | true => exact absurd ((conEq_iff c d).1 hb) h] at this
  exact this

/-- The first byte tells the kind. -/
theorem kind_of {c : Con} (hv : validC c = true) : ∃ h : 0 < (textC c).size,
    (c.k = 1 ∧ ((textC c)[0].toNat : Int) ≠ 34 ∧ ¬ (97 : Int) ≤ ((textC c)[0].toNat : Int)) ∨ (c.k = 2 ∧ ((textC c)[0].toNat : Int) ≠ 34 ∧ (97 : Int) ≤ ((textC c)[0].toNat : Int) ∧ ((textC c)[0].toNat : Int) ≤ 122) ∨ (c.k = 3 ∧ ((textC c)[0].toNat : Int) = 34) := by
  obtain ⟨h0, h⟩ := text_fst hv
  refine ⟨h0, ?_⟩
  rcases h with ⟨h1, h2⟩ | ⟨h1, h2⟩ | ⟨h1, h2⟩
  · exact .inl ⟨h1, by omega, by omega⟩
  · exact .inr (.inl ⟨h1, by omega, by omega, by omega⟩)
  · exact .inr (.inr ⟨h1, by omega⟩)

set_option maxHeartbeats 8000000 in
set_option maxRecDepth 100000 in
theorem symBack_walk (a b : Con) (w : World) (ha : a.ok) (hb : b.ok) (hl : RdLaid w) :
    Calls Tryd.prog 4 #[a.val, b.val] w fun e w' => e = .returned (.bool true) ∧ Below w.heap.size w w' := by
  have HL := hide hl
  have HMB := hide (fun W => made_ok b hb W)
  have HMA := hide (fun W => made_ok a ha W)
  unfold Con.val at HMA HMB ⊢
  clear hl ha hb
  go_enter Tryd.func4, Tryd.ntmps4
  go_wp2_with fail
  obtain ⟨bB, hbB⟩ : ∃ x, x = (w.alloc (.cells #[.int .i64 a.k, .int .i64 a.n, .string a.s] 23)).heap.size := ⟨_, rfl⟩
  have hbB2 : w.heap.size + 1 = bB := by rw [hbB]; simp
  have HXB : Hid (conBox bB ((w.alloc (.cells #[.int .i64 a.k, .int .i64 a.n, .string a.s] 23)).alloc (.cells #[.int .i64 b.k, .int .i64 b.n, .string b.s] 23)) b.k b.n b.s) := by rw [hbB]; exact heap_alloc_new _ _
  have HB0 := hide (((below1 w (.cells #[.int .i64 a.k, .int .i64 a.n, .string a.s] 23)).alloc (by simp) (.cells #[.int .i64 b.k, .int .i64 b.n, .string b.s] 23) : Below w.heap.size w ((w.alloc (.cells #[.int .i64 a.k, .int .i64 a.n, .string a.s] 23)).alloc (.cells #[.int .i64 b.k, .int .i64 b.n, .string b.s] 23))))
  rw [hbB2]
  clear hbB hbB2
  generalize (w.alloc (.cells #[.int .i64 a.k, .int .i64 a.n, .string a.s] 23)).alloc (.cells #[.int .i64 b.k, .int .i64 b.n, .string b.s] 23) = W0 at *
  refine (HMA.out _).mono ?_
  rintro e w1 ⟨⟨c, rfl, hc, vc⟩, hb1⟩
  have HXB1 := hide (HXB.out.kept hb1)
  have HB1 := hide (HB0.out.trans (hb1.mono HB0.out.size))
  clear hb1 HMA HXB HB0
  obtain ⟨z0, z1, z2, _, _, _, zlt⟩ := HXB1.out.cells
  go_wp2_with fail
  obtain ⟨bC, hbC⟩ : ∃ b, b = w1.heap.size := ⟨_, rfl⟩
  have HXC : Hid (conBox bC (w1.alloc (.cells #[.int .i64 c.k, .int .i64 c.n, .string c.s] 23)) c.k c.n c.s) := by rw [hbC]; exact heap_alloc_new w1 _
  have HBC := hide (HB1.out.trans ((below1 w1 (.cells #[.int .i64 c.k, .int .i64 c.n, .string c.s] 23)).mono HB1.out.size))
  rw [← hbC]
  clear hbC HB1 z0 z1 z2 zlt HXB1
  generalize w1.alloc (.cells #[.int .i64 c.k, .int .i64 c.n, .string c.s] 23) = WC at *
  refine (HMB.out _).mono ?_
  rintro e w2 ⟨⟨d, rfl, hd, vd⟩, hb2⟩
  have HB2 := hide (HBC.out.trans (hb2.mono HBC.out.size))
  have HXC2 := hide (HXC.out.kept hb2)
  clear hb2 HMB HXC HBC
  obtain ⟨x0, x1, x2, _, _, _, xlt⟩ := HXC2.out.cells
  go_wp2_with fail
  obtain ⟨bD, hbD⟩ : ∃ b, b = w2.heap.size := ⟨_, rfl⟩
  have HXD : Hid (conBox bD (w2.alloc (.cells #[.int .i64 d.k, .int .i64 d.n, .string d.s] 23)) d.k d.n d.s) := by rw [hbD]; exact heap_alloc_new w2 _
  have HBD := hide (HB2.out.trans ((below1 w2 (.cells #[.int .i64 d.k, .int .i64 d.n, .string d.s] 23)).mono HB2.out.size))
  rw [← hbD]
  have HXC3 := hide (HXC2.out.kept (below1 w2 (.cells #[.int .i64 d.k, .int .i64 d.n, .string d.s] 23)))
  clear hbD HB2 HXC2 x0 x1 x2 xlt
  generalize w2.alloc (.cells #[.int .i64 d.k, .int .i64 d.n, .string d.s] 23) = WD at *
  have HTc : Hid (∀ W, Below w.heap.size w W → Calls Tryd.prog 8 #[.agg #[.int .i64 c.k, .int .i64 c.n, .string c.s]] W fun e w' => e = .returned (.string (textC c)) ∧ Below W.heap.size W w') := fun W h => symText_any c W hc (HL.out.kept h).tab
  have HTd : Hid (∀ W, Below w.heap.size w W → Calls Tryd.prog 8 #[.agg #[.int .i64 d.k, .int .i64 d.n, .string d.s]] W fun e w' => e = .returned (.string (textC d)) ∧ Below W.heap.size W w') := fun W h => symText_any d W hd (HL.out.kept h).tab
  have HVc : Hid (∀ W, Calls Tryd.prog 7 #[.agg #[.int .i64 c.k, .int .i64 c.n, .string c.s]] W fun e w' => e = .returned (.bool true) ∧ Below W.heap.size W w') := fun W => by rw [← vc]; exact valid_any c W hc
  have HVd : Hid (∀ W, Calls Tryd.prog 7 #[.agg #[.int .i64 d.k, .int .i64 d.n, .string d.s]] W fun e w' => e = .returned (.bool true) ∧ Below W.heap.size W w') := fun W => by rw [← vd]; exact valid_any d W hd
  have HRd : Hid (∀ W, Below w.heap.size w W → Calls Tryd.prog 6 #[.string (textC c)] W fun e w' => e = .returned (.tuple #[.agg #[.int .i64 c.k, .int .i64 c.n, .string c.s], .int .i64 0]) ∧ Below W.heap.size W w') := fun W h => read_back c hc vc W (HL.out.kept h)
  have hsz := text_size hc vc
  obtain ⟨hn1, hn2⟩ := not_nil hsz.1
  obtain ⟨hp0, hkind⟩ := kind_of vc
  have HSeen := hide (text_seen hc vc)
  have HEq := hide (eqSelf c)
  have hcmp : (c = d) ∨ (c ≠ d ∧ textC c ≠ textC d) := by
    by_cases h : c = d
    · exact .inl h
    · exact .inr ⟨h, fun e => h (text_inj hc hd vc vd e)⟩
  clear hc hd vc vd HL
  rcases hcmp with rfl | ⟨hne, hst⟩
  · have hse := fun w => eqSelf c w
    have hss : ((textC c).toList == (textC c).toList) = true := str_eq rfl
    generalize textC c = S at *
    obtain ⟨x0, x1, x2, _, _, _, xlt⟩ := HXC3.out.cells
    refine (HTc.out _ HBD.out).mono ?_
    rintro e w3 ⟨rfl, hb3⟩
    have HB3 := hide (HBD.out.trans (hb3.mono HBD.out.size))
    have HXC4 := hide (HXC3.out.kept hb3)
    have HXD4 := hide (HXD.out.kept hb3)
    clear hb3 HBD HXC3 HXD HTc x0 x1 x2 xlt
    obtain ⟨y0, y1, y2, _, _, _, ylt⟩ := HXD4.out.cells
    go_wp2_with fail
    refine (HTd.out _ HB3.out).mono ?_
    rintro e w4 ⟨rfl, hb4⟩
    have HB4 := hide (HB3.out.trans (hb4.mono HB3.out.size))
    have HXC5 := hide (HXC4.out.kept hb4)
    have HXD5 := hide (HXD4.out.kept hb4)
    clear hb4 HB3 HXC4 HXD4 HTd y0 y1 y2 ylt
    obtain ⟨x0, x1, x2, _, _, _, xlt⟩ := HXC5.out.cells
    go_wp2_with fail
    refine (HVc.out _).mono ?_
    rintro e w5 ⟨rfl, hb5⟩
    have HB5 := hide (HB4.out.trans (hb5.mono HB4.out.size))
    have HXC6 := hide (HXC5.out.kept hb5)
    have HXD6 := hide (HXD5.out.kept hb5)
    clear hb5 HB4 HXC5 HXD5 HVc x0 x1 x2 xlt
    obtain ⟨y0, y1, y2, _, _, _, ylt⟩ := HXD6.out.cells
    go_wp2_with fail
    refine (HVd.out _).mono ?_
    rintro e w6 ⟨rfl, hb6⟩
    have HB6 := hide (HB5.out.trans (hb6.mono HB5.out.size))
    have HXC7 := hide (HXC6.out.kept hb6)
    have HXD7 := hide (HXD6.out.kept hb6)
    clear hb6 HB5 HXC6 HXD6 HVd y0 y1 y2 ylt
    obtain ⟨x0, x1, x2, _, _, _, xlt⟩ := HXC7.out.cells
    obtain ⟨y0, y1, y2, _, _, _, ylt⟩ := HXD7.out.cells
    go_wp2_with fail
    clear x0 x1 x2 xlt y0 y1 y2 ylt hss hn1 hn2 hse HXD7
    go_loopw [9] (fun i wr => ∃ k : Nat, k ≤ S.size ∧ i = .int .i64 k ∧ wr = w6) (fun i _ => S.size - (intOf i).toNat)
    case atStart => exact ⟨0, Nat.zero_le _, rfl, rfl⟩
    case round =>
      obtain ⟨k, hk, rfl, rfl⟩ := hrel
      by_cases hlt : k < S.size
      · have hi : (k : Int) < (S.size : Int) := by omega
        obtain ⟨s1, s2⟩ := HSeen.out k hlt
        obtain ⟨x, hx⟩ : ∃ x : Int, (S[k].toNat : Int) = x := ⟨_, rfl⟩
        have g1 : 32 ≤ x := by omega
        have g2 : x ≤ 126 := by omega
        clear s1 s2 hkind
        go_wp2
        go_roundw
        case rel => exact ⟨k + 1, by omega, by go_num, trivial⟩
        case measure => simp [intOf]; omega
      · have hi : ¬ (k : Int) < (S.size : Int) := by omega
        have hi0 : (0 : Int) < (S.size : Int) := by omega
        clear hlt
        obtain ⟨y, hy⟩ : ∃ y : Int, (S[0].toNat : Int) = y := ⟨_, rfl⟩
        rw [hy] at hkind
        have hseq := HEq.out
        rcases hkind with ⟨hk1, q1, q2⟩ | ⟨hk1, q1, q2, q3⟩ | ⟨hk1, q1⟩
        · have y34 : (y == 34) = false := by simp; omega
          have hkk : ((1 : Int) == c.k) = true := by simp [hk1]
          clear hk1 q1
          go_wp2_with fail
          refine (HRd.out _ HB6.out).mono ?_
          rintro e w7 ⟨rfl, hb7⟩
          have HB7 := hide (HB6.out.trans (hb7.mono HB6.out.size))
          obtain ⟨x0, x1, x2, _, _, _, xlt⟩ := (HXC7.out.kept hb7).cells
          clear hb7 HRd
          go_wp2
          go_ret
          exact ⟨rfl, HB7.out.trans ((below1 w7 _).mono HB7.out.size)⟩
        · have y34 : (y == 34) = false := by simp; omega
          have hkk : ((2 : Int) == c.k) = true := by simp [hk1]
          clear hk1 q1
          go_wp2_with fail
          refine (HRd.out _ HB6.out).mono ?_
          rintro e w7 ⟨rfl, hb7⟩
          have HB7 := hide (HB6.out.trans (hb7.mono HB6.out.size))
          obtain ⟨x0, x1, x2, _, _, _, xlt⟩ := (HXC7.out.kept hb7).cells
          clear hb7 HRd
          go_wp2
          go_ret
          exact ⟨rfl, HB7.out.trans ((below1 w7 _).mono HB7.out.size)⟩
        · have y34 : (y == 34) = true := by simp; omega
          have hkk : ((3 : Int) == c.k) = true := by simp [hk1]
          clear hk1 q1
          go_wp2_with fail
          refine (HRd.out _ HB6.out).mono ?_
          rintro e w7 ⟨rfl, hb7⟩
          have HB7 := hide (HB6.out.trans (hb7.mono HB6.out.size))
          obtain ⟨x0, x1, x2, _, _, _, xlt⟩ := (HXC7.out.kept hb7).cells
          clear hb7 HRd
          go_wp2
          go_ret
          exact ⟨rfl, HB7.out.trans ((below1 w7 _).mono HB7.out.size)⟩
  · have hse := fun w => eqTwo c d hne w
    have hss := str_ne hst
    clear hne hst
    generalize textC c = S at *
    generalize textC d = T at *
    obtain ⟨x0, x1, x2, _, _, _, xlt⟩ := HXC3.out.cells
    refine (HTc.out _ HBD.out).mono ?_
    rintro e w3 ⟨rfl, hb3⟩
    have HB3 := hide (HBD.out.trans (hb3.mono HBD.out.size))
    have HXC4 := hide (HXC3.out.kept hb3)
    have HXD4 := hide (HXD.out.kept hb3)
    clear hb3 HBD HXC3 HXD HTc x0 x1 x2 xlt
    obtain ⟨y0, y1, y2, _, _, _, ylt⟩ := HXD4.out.cells
    go_wp2_with fail
    refine (HTd.out _ HB3.out).mono ?_
    rintro e w4 ⟨rfl, hb4⟩
    have HB4 := hide (HB3.out.trans (hb4.mono HB3.out.size))
    have HXC5 := hide (HXC4.out.kept hb4)
    have HXD5 := hide (HXD4.out.kept hb4)
    clear hb4 HB3 HXC4 HXD4 HTd y0 y1 y2 ylt
    obtain ⟨x0, x1, x2, _, _, _, xlt⟩ := HXC5.out.cells
    go_wp2_with fail
    refine (HVc.out _).mono ?_
    rintro e w5 ⟨rfl, hb5⟩
    have HB5 := hide (HB4.out.trans (hb5.mono HB4.out.size))
    have HXC6 := hide (HXC5.out.kept hb5)
    have HXD6 := hide (HXD5.out.kept hb5)
    clear hb5 HB4 HXC5 HXD5 HVc x0 x1 x2 xlt
    obtain ⟨y0, y1, y2, _, _, _, ylt⟩ := HXD6.out.cells
    go_wp2_with fail
    refine (HVd.out _).mono ?_
    rintro e w6 ⟨rfl, hb6⟩
    have HB6 := hide (HB5.out.trans (hb6.mono HB5.out.size))
    have HXC7 := hide (HXC6.out.kept hb6)
    have HXD7 := hide (HXD6.out.kept hb6)
    clear hb6 HB5 HXC6 HXD6 HVd y0 y1 y2 ylt
    obtain ⟨x0, x1, x2, _, _, _, xlt⟩ := HXC7.out.cells
    obtain ⟨y0, y1, y2, _, _, _, ylt⟩ := HXD7.out.cells
    go_wp2_with fail
    clear x0 x1 x2 xlt y0 y1 y2 ylt hss hn1 hn2 hse HXD7
    go_loopw [9] (fun i wr => ∃ k : Nat, k ≤ S.size ∧ i = .int .i64 k ∧ wr = w6) (fun i _ => S.size - (intOf i).toNat)
    case atStart => exact ⟨0, Nat.zero_le _, rfl, rfl⟩
    case round =>
      obtain ⟨k, hk, rfl, rfl⟩ := hrel
      by_cases hlt : k < S.size
      · have hi : (k : Int) < (S.size : Int) := by omega
        obtain ⟨s1, s2⟩ := HSeen.out k hlt
        obtain ⟨x, hx⟩ : ∃ x : Int, (S[k].toNat : Int) = x := ⟨_, rfl⟩
        have g1 : 32 ≤ x := by omega
        have g2 : x ≤ 126 := by omega
        clear s1 s2 hkind
        go_wp2
        go_roundw
        case rel => exact ⟨k + 1, by omega, by go_num, trivial⟩
        case measure => simp [intOf]; omega
      · have hi : ¬ (k : Int) < (S.size : Int) := by omega
        have hi0 : (0 : Int) < (S.size : Int) := by omega
        clear hlt
        obtain ⟨y, hy⟩ : ∃ y : Int, (S[0].toNat : Int) = y := ⟨_, rfl⟩
        rw [hy] at hkind
        have hseq := HEq.out
        rcases hkind with ⟨hk1, q1, q2⟩ | ⟨hk1, q1, q2, q3⟩ | ⟨hk1, q1⟩
        · have y34 : (y == 34) = false := by simp; omega
          have hkk : ((1 : Int) == c.k) = true := by simp [hk1]
          clear hk1 q1
          go_wp2_with fail
          refine (HRd.out _ HB6.out).mono ?_
          rintro e w7 ⟨rfl, hb7⟩
          have HB7 := hide (HB6.out.trans (hb7.mono HB6.out.size))
          obtain ⟨x0, x1, x2, _, _, _, xlt⟩ := (HXC7.out.kept hb7).cells
          clear hb7 HRd
          go_wp2
          go_ret
          exact ⟨rfl, HB7.out.trans ((below1 w7 _).mono HB7.out.size)⟩
        · have y34 : (y == 34) = false := by simp; omega
          have hkk : ((2 : Int) == c.k) = true := by simp [hk1]
          clear hk1 q1
          go_wp2_with fail
          refine (HRd.out _ HB6.out).mono ?_
          rintro e w7 ⟨rfl, hb7⟩
          have HB7 := hide (HB6.out.trans (hb7.mono HB6.out.size))
          obtain ⟨x0, x1, x2, _, _, _, xlt⟩ := (HXC7.out.kept hb7).cells
          clear hb7 HRd
          go_wp2
          go_ret
          exact ⟨rfl, HB7.out.trans ((below1 w7 _).mono HB7.out.size)⟩
        · have y34 : (y == 34) = true := by simp; omega
          have hkk : ((3 : Int) == c.k) = true := by simp [hk1]
          clear hk1 q1
          go_wp2_with fail
          refine (HRd.out _ HB6.out).mono ?_
          rintro e w7 ⟨rfl, hb7⟩
          have HB7 := hide (HB6.out.trans (hb7.mono HB6.out.size))
          obtain ⟨x0, x1, x2, _, _, _, xlt⟩ := (HXC7.out.kept hb7).cells
          clear hb7 HRd
          go_wp2
          go_ret
          exact ⟨rfl, HB7.out.trans ((below1 w7 _).mono HB7.out.size)⟩
end Go.Proofs.YtleakainhpgldaaDoor
