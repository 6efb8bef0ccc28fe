/- lint's writeLine: a builder that holds a line more. -/
import Derived.Test.YtfopnijgkhpoiaaDoorFindWords
import Derived.Test.YtfopnijgkhpoiaaDoorPlace
import Derived.Test.YtfopnijgkhpoiaaDoorBldLay
import Derived.Shelf.Strings.Builder1
namespace Go.Proofs.YtfopnijgkhpoiaaDoor
set_option linter.unusedSimpArgs false
set_option linter.unusedVariables false
open Go.RowKit

theorem bx166 : Builder.Extra Tryd.prog Tryd.lays166_ren where
  sizeBuilder := by kernel_rfl
  liesBuilder := by kernel_rfl
  t5 := Tryd.underlying5
  a5 := Tryd.isAgg5
  z5 := Tryd.sizeOf5
  v5 := Tryd.zeroValue5
  infoByte := by kernel_rfl
  cellsByte := by kernel_rfl
  sizeByte := by kernel_rfl
  neB5 := by decide
theorem bx167 : Builder.Extra Tryd.prog Tryd.lays167_ren where
  sizeBuilder := by kernel_rfl
  liesBuilder := by kernel_rfl
  t5 := Tryd.underlying5
  a5 := Tryd.isAgg5
  z5 := Tryd.sizeOf5
  v5 := Tryd.zeroValue5
  infoByte := by kernel_rfl
  cellsByte := by kernel_rfl
  sizeByte := by kernel_rfl
  neB5 := by decide
theorem bx169 : Builder.Extra Tryd.prog Tryd.lays169_ren where
  sizeBuilder := by kernel_rfl
  liesBuilder := by kernel_rfl
  t5 := Tryd.underlying5
  a5 := Tryd.isAgg5
  z5 := Tryd.sizeOf5
  v5 := Tryd.zeroValue5
  infoByte := by kernel_rfl
  cellsByte := by kernel_rfl
  sizeByte := by kernel_rfl
  neB5 := by decide

/-- A builder in block B that holds the bytes l. -/
def BIs (B : Nat) (l : List UInt8) (w : World) : Prop := Lib.IsBuilder 34 5 B B (Lib.byteCells l) w
theorem BIs.lt {B : Nat} {l : List UInt8} {w : World} (h : BIs B l w) : B < w.heap.size := by
  rcases h with h | h
  · exact h.lt
  · exact h.lt
theorem BIs.kept {B : Nat} {l : List UInt8} {w w' : World} (h : BIs B l w) (hb : Below w.heap.size w w') : BIs B l w' := by
  have hlt := h.lt
  rcases h with ⟨h1, v, h2, h3, h4⟩ | ⟨h1, v, h2, h3, h4⟩
  · exact .inl ⟨h1, v, by rw [hb.block _ hlt]; exact h2, own_kept h3 hb, h4⟩
  · exact .inr ⟨h1, v, by rw [hb.block _ hlt]; exact h2, own_kept h3 hb, h4⟩
theorem byteCells_add (l m : List UInt8) : Lib.byteCells l ++ Lib.byteCells m = Lib.byteCells (l ++ m) := by simp [Lib.byteCells]
theorem strCells_arr (l : List UInt8) : Lib.strCells ⟨l.toArray⟩ = Lib.byteCells l := by simp [Lib.strCells, Lib.byteCells]

theorem ws_any {B : Nat} {l : List UInt8} {w : World} {s : ByteArray} (m : List UInt8) (hs : s = ⟨m.toArray⟩) (h : BIs B l w) (hn : l.length + m.length ≤ 140737488355328) :
    Calls Tryd.prog 15 #[.pointer (some ⟨B, 0, none⟩), .string s] w fun e w' => (∃ v, e = .returned v) ∧ BIs B (l ++ m) w' ∧ Below B w w' := by
  have hm : s.size = m.length := by rw [hs]; exact ar_size m
  refine (Any.Builder_WriteString Tryd.lays166 bx166 B B (Lib.byteCells l) s w h (by rw [Lib.byteCells_length]; omega) (Nat.le_of_lt h.lt)).mono ?_
  rintro e w' ⟨rfl, h2, hb⟩
  rw [hs, strCells_arr, byteCells_add] at h2
  exact ⟨⟨_, rfl⟩, .inr h2, hb⟩
theorem wb_any {B : Nat} {l : List UInt8} {w : World} (c : UInt8) (z : Int) (hz : z = c.toNat) (h : BIs B l w) (hn : l.length + 1 ≤ 140737488355328) :
    Calls Tryd.prog 16 #[.pointer (some ⟨B, 0, none⟩), .int .u8 z] w fun e w' => (∃ v, e = .returned v) ∧ BIs B (l ++ [c]) w' ∧ Below B w w' := by
  subst hz
  refine (Any.Builder_WriteByte Tryd.lays167 bx167 B B (Lib.byteCells l) c.toNat w h (by rw [Lib.byteCells_length]; omega) (Nat.le_of_lt h.lt)).mono ?_
  rintro e w' ⟨rfl, h2, hb⟩
  have e1 : Lib.byteCells l ++ [Value.int .u8 c.toNat] = Lib.byteCells (l ++ [c]) := by simp [Lib.byteCells]
  rw [e1] at h2
  exact ⟨⟨_, rfl⟩, .inr h2, hb⟩
theorem str_any {B : Nat} {l : List UInt8} {w : World} (h : BIs B l w) :
    Calls Tryd.prog 11 #[.pointer (some ⟨B, 0, none⟩)] w fun e w' => e = .returned (.string ⟨l.toArray⟩) ∧ Below B w w' :=
  Any.Builder_String_any Tryd.lays169 bx169 B B l w h (Nat.le_of_lt h.lt)

/-- A finding's line. -/
def lineL (src : ByteArray) (off : Int) (m : List UInt8) : List UInt8 := Lib.itoa (placeW src off).1 ++ ([58] ++ (Lib.itoa (placeW src off).2 ++ ([58, 32] ++ (m ++ [10]))))
theorem place_i64 (s : ByteArray) (off : Int) (hs : s.size ≤ 2000000) : I64 (placeW s off).1 ∧ I64 (placeW s off).2 := by
  unfold placeW I64
  split
  · rename_i h
    obtain ⟨a, b, _, _⟩ := placeL_le s off.toNat (by omega)
    constructor <;> constructor <;> dsimp only <;> omega
  · exact ⟨⟨by decide, by decide⟩, ⟨by decide, by decide⟩⟩
theorem lineL_len (s : ByteArray) (off : Int) (m : List UInt8) (hs : s.size ≤ 2000000) : (lineL s off m).length ≤ m.length + 50 := by
  obtain ⟨h1, h2⟩ := place_i64 s off hs
  have l1 := itoa_le h1
  have l2 := itoa_le h2
  unfold lineL
  simp only [List.length_append, List.length_cons, List.length_nil]
  omega

set_option maxHeartbeats 4000000 in
set_option maxRecDepth 100000 in
theorem writeLine_any {B : Nat} {l : List UInt8} {w : World} (src ms : ByteArray) (off : Int) (m : List UInt8) (hms : ms = ⟨m.toArray⟩) (hs : src.size ≤ 2000000) (ho : I64 off) (hm : m.length ≤ 2000000) (hl : l.length ≤ 100000000000000) (h : BIs B l w) (ht : TabI w) (hg : 1 < B) :
    Calls Tryd.prog 10 #[.pointer (some ⟨B, 0, none⟩), .string src, .int .i64 off, .string ms] w fun e w' => e = .returned (.tuple #[]) ∧ BIs B (l ++ lineL src off m) w' ∧ Below B w w' := by
  subst hms
  have HP := hide (fun W => place_any src off W (by omega) ho)
  obtain ⟨q1, q2⟩ := place_i64 src off hs
  have HL : Hid (lineL src off m = Lib.itoa (placeW src off).1 ++ ([58] ++ (Lib.itoa (placeW src off).2 ++ ([58, 32] ++ (m ++ [10]))))) := rfl
  rw [HL.out]
  clear HL ho
  generalize placeW src off = P at *
  obtain ⟨ln, cn⟩ := P
  dsimp only at q1 q2 HP ⊢
  have l1 := itoa_le q1
  have l2 := itoa_le q2
  have HT : Hid (∀ W, Below B w W → TabI W) := fun W hb => ht.keptB hb hg
  have HI1 : Hid (∀ W, Below B w W → Calls Tryd.prog 13 #[.int .i64 ln] W fun e w' => e = .returned (.string ⟨(Lib.itoa ln).toArray⟩) ∧ Below W.heap.size W w') := fun W hb => itoa_any ln W q1 (HT.out W hb)
  have HI2 : Hid (∀ W, Below B w W → Calls Tryd.prog 13 #[.int .i64 cn] W fun e w' => e = .returned (.string ⟨(Lib.itoa cn).toArray⟩) ∧ Below W.heap.size W w') := fun W hb => itoa_any cn W q2 (HT.out W hb)
  have HH := hide h
  clear h ht q1 q2
  generalize Lib.itoa ln = L1 at *
  generalize Lib.itoa cn = L2 at *
  have e1 : l ++ L1 ++ [58] ++ L2 ++ [58, 32] ++ m ++ [10] = l ++ (L1 ++ ([58] ++ (L2 ++ ([58, 32] ++ (m ++ [10]))))) := by simp only [List.append_assoc]
  rw [← e1]
  have HE := hide e1
  clear e1 HE
  have hBw := HH.out.lt
  go_enter Tryd.func10, Tryd.ntmps10
  go_wp2_with (go_at_call 14; refine (HP.out _).mono ?_; rintro e w' ⟨rfl, hw'⟩; have hw' := hw'.symm; subst hw')
  refine (HI1.out _ (Below.refl _ _)).mono ?_
  rintro e w1 ⟨rfl, hb1⟩
  have H1 := hide (HH.out.kept hb1)
  have B1 := hide (hb1.mono (Nat.le_of_lt hBw))
  clear hb1 HI1 HH hBw
  go_wp2_with fail
  refine (ws_any L1 rfl H1.out (by omega)).mono ?_
  rintro e w2 ⟨⟨v, rfl⟩, h2, b2⟩
  have H2 := hide h2
  have B2 := hide (B1.out.trans b2)
  clear h2 b2 H1 B1
  go_wp2_with fail
  refine (wb_any 58 58 (by rfl) H2.out (by simp only [List.length_append]; omega)).mono ?_
  rintro e w3 ⟨⟨v3, rfl⟩, h3, b3⟩
  have H3 := hide h3
  have B3 := hide (B2.out.trans b3)
  clear h3 b3 H2 B2
  go_wp2_with fail
  refine (HI2.out _ B3.out).mono ?_
  rintro e w4 ⟨rfl, hb4⟩
  have H4 := hide (H3.out.kept hb4)
  have B4 := hide (B3.out.trans (hb4.mono (Nat.le_of_lt H3.out.lt)))
  clear hb4 HI2 H3 B3
  go_wp2_with fail
  refine (ws_any L2 rfl H4.out (by simp only [List.length_append, List.length_cons, List.length_nil]; omega)).mono ?_
  rintro e w5 ⟨⟨v5, rfl⟩, h5, b5⟩
  have H5 := hide h5
  have B5 := hide (B4.out.trans b5)
  clear h5 b5 H4 B4
  go_wp2_with fail
  refine (ws_any [58, 32] rfl H5.out (by simp only [List.length_append, List.length_cons, List.length_nil]; omega)).mono ?_
  rintro e w6 ⟨⟨v6, rfl⟩, h6, b6⟩
  have H6 := hide h6
  have B6 := hide (B5.out.trans b6)
  clear h6 b6 H5 B5
  go_wp2_with fail
  refine (ws_any m rfl H6.out (by simp only [List.length_append, List.length_cons, List.length_nil]; omega)).mono ?_
  rintro e w7 ⟨⟨v7, rfl⟩, h7, b7⟩
  have H7 := hide h7
  have B7 := hide (B6.out.trans b7)
  clear h7 b7 H6 B6
  go_wp2_with fail
  refine (wb_any 10 10 (by rfl) H7.out (by simp only [List.length_append, List.length_cons, List.length_nil]; omega)).mono ?_
  rintro e w8 ⟨⟨v8, rfl⟩, h8, b8⟩
  have H8 := hide h8
  have B8 := hide (B7.out.trans b8)
  clear h8 b8 H7 B7
  go_wp2
  go_end0
  exact ⟨rfl, H8.out, B8.out⟩
end Go.Proofs.YtfopnijgkhpoiaaDoor
