/- edictlaw02.LexScan: lex.Scan answers as the document's Scan. -/
import Derived.Test.YtojgfngpndmfoaaDoorProg
import Derived.Test.YtojgfngpndmfoaaDoorRefScan
import Derived.Test.YtojgfngpndmfoaaDoorSameTok
namespace Go.Proofs.YtojgfngpndmfoaaDoor
set_option linter.unusedSimpArgs false
set_option linter.unusedVariables false
open Go.RowKit

theorem each_len (ans : Nat → Bool) (s : ByteArray) : ∀ (n o : Nat) (L : List Tok), s.size - o = n → o ≤ s.size → L.length ≤ o → (eachF ans s o L).1.length ≤ s.size + 1 := by
  intro n
  induction n using Nat.strongRecOn with
  | ind n ih =>
    intro o L hn ho hL
    rw [eachF]
    split
    · show L.length ≤ _; omega
    · next t ht =>
      split
      · show (L ++ [t]).length ≤ _; simp; omega
      · split
        · next h => exact ih (s.size - t.en) (by omega) t.en (L ++ [t]) rfl h.2 (by simp; omega)
        · show (L ++ [t]).length ≤ _; simp; omega

theorem scan_len (s : ByteArray) : (scanX s).1.length ≤ 65537 := by
  by_cases h : 65536 < s.size
  · rw [scan_long h]; exact Nat.zero_le _
  · rw [scan_short h]
    have := each_len (fun _ => true) s s.size 0 [] rfl (Nat.zero_le _) (Nat.le_refl _)
    omega

theorem scan_w1w2 {w1 w2 : World} {o : Obj} (h : Below (w1.alloc o).heap.size (w1.alloc o) w2) : Below w1.heap.size w1 w2 := ((Below.refl _ _).alloc (Nat.le_refl _) _).trans (h.mono (by simp))
theorem scan_box {w1 w2 : World} {c : Int} {f : Int} (h : Below (w1.alloc (.cells #[.int .i64 c, .int .i64 0, .int .i64 f] 25)).heap.size (w1.alloc (.cells #[.int .i64 c, .int .i64 0, .int .i64 f] 25)) w2) :
    w2.cell? ⟨w1.heap.size, 0, none⟩ = some (.int .i64 c) ∧ w2.cell? ⟨w1.heap.size, 1, none⟩ = some (.int .i64 0) ∧ w2.cell? ⟨w1.heap.size, 2, none⟩ = some (.int .i64 f) ∧ w1.heap.size < w2.heap.size := by
  have hbx : box3 w1.heap.size (w1.alloc (.cells #[.int .i64 c, .int .i64 0, .int .i64 f] 25)) c 0 f := heap_alloc_new w1 _
  obtain ⟨x0, x1, x2, _, _, _, x3⟩ := (hbx.kept h).cells
  exact ⟨x0, x1, x2, x3⟩

set_option maxHeartbeats 2000000 in
set_option maxRecDepth 100000 in
theorem lexScan_walk (s : ByteArray) (w : World) (hs : s.size ≤ 140737488351232) (hl : LexLaid w) :
    Calls Tryd.prog 4 #[.string s] w fun e w' => e = .returned (.bool true) ∧ Below w.heap.size w w' := by
  have HS := hide (scan_any s w hl hs)
  have HR := hide (fun W => rscan_any s W hs)
  have hlen := scan_len s
  generalize scanX s = R at *
  obtain ⟨L, c, f⟩ := R
  simp only at HS HR hlen
  unfold faultVal at HS HR
  have HM := hide (fun v1 v2 W h1 h2 => same_self v1 v2 L W hlen h1 h2)
  clear hl
  go_enter Tryd.func4, Tryd.ntmps4
  have hq := fault_eq c (f : Int)
  go_wp2_with (first
    | (go_at_call 11; refine HS.out.mono ?_; rintro e w1 ⟨v1, rfl, hown, hb1⟩; obtain ⟨a1, p1, rfl⟩ := own_shape hown; have HT1 := hide (own_isToks hown); have HB1 := hide hb1; clear hown hb1)
    | (go_at_call 7; refine (HR.out _).mono ?_; rintro e w2 ⟨v2, rfl, hown, hb2⟩; obtain ⟨a2, p2, rfl⟩ := own_shape hown; have HT2 := hide (own_isToks hown); have HB2 := hide hb2; clear hown hb2
       obtain ⟨x0, x1, x2, hlt⟩ := (scan_box HB2.out); have n1 : ¬ w1.heap.size = w2.heap.size := (by omega))
    | (go_at_call 10; refine (HM.out _ _ _ ((HT1.out.kept (scan_w1w2 HB2.out)).kept ((Below.refl _ _).alloc (Nat.le_refl _) _)) (HT2.out.kept ((Below.refl _ _).alloc (Nat.le_refl _) _))).mono ?_; rintro e w3 ⟨rfl, hb3⟩; have HB3 := hide hb3; clear hb3))
  go_ret
  have h := HB1.out.trans ((scan_w1w2 HB2.out).mono HB1.out.size)
  have h2 := h.alloc h.size (.cells #[.int .i64 c, .int .i64 0, .int .i64 (f : Int)] 25)
  exact ⟨rfl, h2.trans (HB3.out.mono h2.size)⟩

end Go.Proofs.YtojgfngpndmfoaaDoor
