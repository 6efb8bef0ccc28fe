/- edictlaw02.LexAlone returns true: each token's spelling, scanned alone, is that token. -/
import Derived.Test.YtgbnoggapejinaaDoorProg
import Derived.Test.YtgbnoggapejinaaDoorLexSame
namespace Go.Proofs.YtgbnoggapejinaaDoor
set_option linter.unusedSimpArgs false
set_option linter.unusedVariables false
open Go.RowKit
attribute [local go_sem] over_cellAt over_frozenAt over_setAt

set_option maxHeartbeats 1000000 in
theorem moved_any (a b : Tok) (w : World) (h1 : a.k = b.k) (h2 : a.t = b.t) (h3 : a.n = b.n) (h4 : a.op = b.op) (h5 : (a.en : Int) - (a.off : Int) = (b.en : Int) - (b.off : Int)) (h6 : a.en ≤ 65536 ∧ a.off ≤ 65536 ∧ b.en ≤ 65536 ∧ b.off ≤ 65536) :
    Calls Tryd.prog 15 #[a.val, b.val] w fun e w' => e = .returned (.bool true) ∧ Below w.heap.size w w' := by
  obtain ⟨k, t, n, op, off, en⟩ := a
  obtain ⟨k', t', n', op', off', en'⟩ := b
  simp only at h1 h2 h3 h4 h5 h6
  subst h1 h2 h3 h4
  unfold Tok.val
  simp only
  have e5 : ((en : Int) - (off : Int) == (en' : Int) - (off' : Int)) = true := by simpa using h5
  clear h5
  go_enter Tryd.func15, Tryd.ntmps15
  go_wp2
  go_ret
  exact ⟨rfl, ((Below.refl _ _).alloc (Nat.le_refl _) _).alloc (by simp) _⟩

theorem tok_box (W : World) (t : Tok) : TokAt (W.alloc (.cells #[.int .i64 t.k, .string t.t, .int .i64 t.n, .int .i64 t.op, .int .i64 (t.off : Int), .int .i64 (t.en : Int)] 36)) W.heap.size 0 t := by
  have h := heap_alloc_new W (.cells #[.int .i64 t.k, .string t.t, .int .i64 t.n, .int .i64 t.op, .int .i64 (t.off : Int), .int .i64 (t.en : Int)] 36)
  constructor <;> (simp only [World.cell?, h]; simp only [Option.isSome_none, Bool.false_eq_true, if_false]; rfl)

def oneTok (t : Tok) : Tok := ⟨t.k, t.t, t.n, t.op, 0, t.en - t.off⟩

/-- Scan of a token's spelling. -/
theorem alone_one {T0 : ByteArray} {o : Nat} {t : Tok} (hT : T0.size ≤ 65536) (ho : o ≤ T0.size) (h : nextX T0 o = .tok t) (hk : t.k ≠ 0) (W : World) (hW : LexLaid W) :
    Calls Tryd.prog 12 #[.string (T0.extract t.off t.en)] W fun e w' => ∃ g2 cp2, e = .returned (.tuple #[.slice (some ⟨g2, 0, none⟩) 2 cp2, .agg #[.int .i64 0, .int .i64 0, .int .i64 0]]) ∧ Below W.heap.size W w' ∧ TokAt w' g2 0 (oneTok t) ∧
      (∀ W', Below w'.heap.size w' W' → Calls Tryd.prog 14 #[.slice (some ⟨g2, 0, none⟩) 2 cp2, .agg #[.int .i64 0, .int .i64 0, .int .i64 0], .int .i64 ((t.en : Int) - (t.off : Int))] W' fun e w'' => e = .returned (.bool true) ∧ Below W'.heap.size W' w'') := by
  obtain ⟨_, _, _, h4⟩ := next_tok ho h
  obtain ⟨_, h5, h6⟩ := h4.resolve_left (fun h => hk h.1)
  have hz : (T0.extract t.off t.en).size = t.en - t.off := by rw [ByteArray.size_extract]; omega
  have hscan := alone_scan hT ho h hk
  refine (scan_any (T0.extract t.off t.en) W hW (by omega)).mono ?_
  rintro e w' ⟨v, he, hown, hbl⟩
  have hes := ended_scan (T0.extract t.off t.en) v _ w' (by omega) hown
  rw [hscan] at he hown hes
  obtain ⟨g2, cp2, rfl, _, _, hrow⟩ := own_toks hown (by simp)
  obtain ⟨ao, cp', hv, hen⟩ := hes
  injection hv with e1 _ e2
  subst e1 e2
  rw [hz, show ((t.en - t.off : Nat) : Int) = (t.en : Int) - (t.off : Int) by omega] at hen
  exact ⟨g2, cp2, he, hbl, hrow 0 _ rfl, hen⟩

set_option maxHeartbeats 4000000 in
set_option maxRecDepth 100000 in
theorem lexAlone_walk (s : ByteArray) (w : World) (hs : s.size ≤ 140737488351232) (hl : LexLaid w) :
    Calls Tryd.prog 4 #[.string s] w fun e w' => e = .returned (.bool true) ∧ Below w.heap.size w w' := by
  have HH := hide (fun W => head_any s W hs)
  obtain ⟨hT2, hT6⟩ := head_size s
  obtain ⟨r, hr, -⟩ := head_begun s
  have T := scan_toks (headS s) hT6
  generalize headS s = T0 at *
  have hlen := toks_len T
  have hL0 : 0 < (scanX T0).1.length := by rw [hr]; simp
  have h0 : (scanX T0).1[0]? = some aTok := by rw [hr]; rfl
  have HS := hide (fun W hW => scan_any T0 W hW (by omega))
  have HAt := hide (toks_at T)
  clear hr T
  generalize scanX T0 = R at *
  obtain ⟨L, c, f⟩ := R
  simp only at hL0 h0 hlen HS HAt
  obtain ⟨n, hn⟩ : ∃ n, n = L.length := ⟨_, rfl⟩
  have hn0 : 0 < n := by omega
  have hn1 : n ≤ 65537 := by omega
  have HN := hide hn
  have HL := hide hl
  have H0 := hide h0
  have HL0 := hide hL0
  unfold faultVal at HS
  clear hlen hL0 h0 hn hl
  go_enter Tryd.func4, Tryd.ntmps4
  go_wp2_with (first
    | (go_at_call 11; refine (HH.out _).mono ?_; rintro e w' ⟨rfl, hw'⟩; have hw' := hw'.symm; subst hw')
    | (go_at_call 12; refine (HS.out _ HL.out).mono ?_; rintro e w1 ⟨v, rfl, hown, hb1⟩; obtain ⟨g, cp, rfl, hg1, hg2, hrow⟩ := own_toks hown HL0.out; rw [← HN.out]; have HRow : Hid (∀ i t, L[i]? = some t → TokAt w1 g (i * 6) t) := hrow; have HB1 := hide hb1; clear hown hrow hb1 HS)
    | (go_at_call 13; refine (begun_any g n cp _ hn0 ((HRow.out 0 aTok H0.out).kept ((Below.refl _ _).alloc (Nat.le_refl _) _))).mono ?_; rintro e w' ⟨rfl, hw'⟩; have hw' := hw'.symm; subst hw'))
  go_loopw [6, 7, 8, 9] (fun i _ _ _ wr => ∃ k : Nat, k ≤ n ∧ i = .int .i64 k ∧ Hid (Below w1.heap.size w1 wr)) (fun i _ _ _ _ => n - (intOf i).toNat)
  case atStart => exact ⟨0, Nat.zero_le _, rfl, (Below.refl _ _).alloc (Nat.le_refl _) _⟩
  case round =>
    obtain ⟨k, hk, rfl, HB⟩ := hrel
    by_cases hlt : k < n
    · have hi : (k : Int) < (n : Int) := by omega
      obtain ⟨t, ht⟩ : ∃ t, L[k]? = some t := ⟨_, List.getElem?_eq_getElem (by have := HN.out; omega)⟩
      obtain ⟨hx, hle⟩ := HAt.out k t ht
      obtain ⟨-, -, -, hcase⟩ := next_tok hle hx
      obtain ⟨c0, c1, c2, c3, c4, c5⟩ := (HRow.out k t ht).kept HB.out
      clear ht
      have hBt : Below wr.heap.size wr (wr.alloc (.cells #[.int .i64 t.k, .string t.t, .int .i64 t.n, .int .i64 t.op, .int .i64 (t.off : Int), .int .i64 (t.en : Int)] 36)) := (Below.refl _ _).alloc (Nat.le_refl _) _
      by_cases hk0 : t.k = 0
      · have ek : (t.k == 0) = true := by simpa using hk0
        have HBt := hide hBt
        clear hcase hx hle hk0 hBt
        go_wp2
        go_roundw
        case rel => exact ⟨k + 1, by omega, by go_num, HB.out.trans (HBt.out.mono HB.out.size)⟩
        case measure => simp [intOf]; omega
      · obtain ⟨-, h5, h6⟩ := hcase.resolve_left (fun h => hk0 h.1)
        have HS1 := hide (fun W hW => alone_one hT6 hle hx hk0 W hW)
        have ek : (t.k == 0) = false := by simpa using hk0
        have g1 : ¬ (t.off : Int) < 0 := by omega
        have g2 : ¬ (T0.size : Int) < (t.en : Int) := by omega
        have g3 : ¬ (t.en : Int) ≤ (t.off : Int) := by omega
        have g4 : (t.off : Int) ≤ (t.en : Int) := by omega
        have g5 : (t.en : Int) ≤ (T0.size : Int) := by omega
        have g6 : t.en ≤ 65536 ∧ t.off ≤ 65536 := by omega
        have HBt := hide hBt
        have HG6 := hide g6
        have HTb := hide (tok_box wr t)
        clear hcase hx hle hk0 hBt g6 h5 h6
        go_wp2_with (first
          | (go_at_call 12; refine (HS1.out _ ((HL.out.kept (HB1.out.trans (HB.out.mono HB1.out.size))).kept HBt.out)).mono ?_; rintro e w2 ⟨g2', cp2, rfl, hb2, htk, hen⟩; have HB2 := hide hb2; have HTk := hide htk; have HE2 := hide hen; clear hb2 htk hen HS1))
        clear c0 c1 c2 c3 c4 c5
        have hU : Below w2.heap.size w2 (w2.alloc (.cells #[.int .i64 0, .int .i64 0, .int .i64 0] 31)) := (Below.refl _ _).alloc (Nat.le_refl _) _
        have HE3 : Hid (∀ y, Calls Tryd.prog 14 #[.slice (some ⟨g2', 0, none⟩) 2 cp2, .agg #[.int .i64 0, .int .i64 0, .int .i64 0], .int .i64 ((t.en : Int) - (t.off : Int))] (over (w2.alloc (.cells #[.int .i64 0, .int .i64 0, .int .i64 0] 31)) y) fun e w' => e = .returned (.bool true) ∧ Below (over (w2.alloc (.cells #[.int .i64 0, .int .i64 0, .int .i64 0] 31)) y).heap.size (over (w2.alloc (.cells #[.int .i64 0, .int .i64 0, .int .i64 0] 31)) y) w') := fun y => HE2.out _ (hU.trans ((over_below _ y).mono hU.size))
        have HM3 : Hid (∀ y, Calls Tryd.prog 15 #[.agg #[.int .i64 t.k, .string t.t, .int .i64 t.n, .int .i64 t.op, .int .i64 0, .int .i64 ((t.en - t.off : Nat) : Int)], .agg #[.int .i64 t.k, .string t.t, .int .i64 t.n, .int .i64 t.op, .int .i64 (t.off : Int), .int .i64 (t.en : Int)]] (over (w2.alloc (.cells #[.int .i64 0, .int .i64 0, .int .i64 0] 31)) y) fun e w' => e = .returned (.bool true) ∧ Below (over (w2.alloc (.cells #[.int .i64 0, .int .i64 0, .int .i64 0] 31)) y).heap.size (over (w2.alloc (.cells #[.int .i64 0, .int .i64 0, .int .i64 0] 31)) y) w') := fun y => by
          have := HG6.out
          exact moved_any (oneTok t) t (over (w2.alloc (.cells #[.int .i64 0, .int .i64 0, .int .i64 0] 31)) y) rfl rfl rfl rfl (by show ((t.en - t.off : Nat) : Int) - ((0 : Nat) : Int) = _; omega) ⟨by show t.en - t.off ≤ _; omega, by show 0 ≤ _; omega, this.1, this.2⟩
        have hTt := (HTb.out.kept HB2.out).kept hU
        have hTo := HTk.out.kept hU
        unfold oneTok at hTo
        obtain ⟨x0, x1, x2, x3, x4, x5⟩ := hTt
        obtain ⟨y0, y1, y2, y3, y4, y5⟩ := hTo
        obtain ⟨z0, z1, z2, _⟩ := box3.cells (show box3 w2.heap.size (w2.alloc (.cells #[.int .i64 0, .int .i64 0, .int .i64 0] 31)) 0 0 0 from heap_alloc_new w2 _)
        have x0' := over_cell x0
        have x1' := over_cell x1
        have x2' := over_cell x2
        have x3' := over_cell x3
        have x4' := over_cell x4
        have x5' := over_cell x5
        have y0' := over_cell y0
        have y1' := over_cell y1
        have y2' := over_cell y2
        have y3' := over_cell y3
        have y4' := over_cell y4
        have y5' := over_cell y5
        have z0' := over_cell z0
        have z1' := over_cell z1
        have z2' := over_cell z2
        simp only [Nat.zero_add] at x0' x1' x2' x3' x4' x5' y0' y1' y2' y3' y4' y5'
        have HBw : Hid (Below w1.heap.size w1 (w2.alloc (.cells #[.int .i64 0, .int .i64 0, .int .i64 0] 31))) := by
          have h1 := HB.out.trans (HBt.out.mono HB.out.size)
          have h2 := h1.trans (HB2.out.mono h1.size)
          exact h2.trans (hU.mono h2.size)
        clear x0 x1 x2 x3 x4 x5 y0 y1 y2 y3 y4 y5 z0 z1 z2 hU
        refine wp_region_over (fun W => W = (w2.alloc (.cells #[.int .i64 0, .int .i64 0, .int .i64 0] 31))) (by kernel_rfl) (by kernel_rfl) rfl ?_
        rintro W rfl
        repeat (go_big_quiet_step (first | (go_at_call 14; exact calls_over (HE3.out _)) | (go_at_call 15; exact calls_over (HM3.out _))))
        refine wpQuiet_nil ?_
        rintro _ ⟨y, rfl⟩
        clear x0' x1' x2' x3' x4' x5' y0' y1' y2' y3' y4' y5' z0' z1' z2'
        go_wp2
        go_roundw
        case rel => exact ⟨k + 1, by omega, by go_num, HBw.out.trans ((over_below _ y).mono HBw.out.size)⟩
        case measure => simp [intOf]; omega
    · have hi : ¬ (k : Int) < (n : Int) := by omega
      go_wp2
      go_ret
      exact ⟨rfl, HB1.out.trans (HB.out.mono HB1.out.size)⟩

end Go.Proofs.YtgbnoggapejinaaDoor
