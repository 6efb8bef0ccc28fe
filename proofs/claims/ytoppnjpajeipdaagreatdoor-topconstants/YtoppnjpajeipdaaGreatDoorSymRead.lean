/- What sym.Read answers to the two texts that edicttop.TopNames asks. -/
import Derived.Test.YtoppnjpajeipdaaGreatDoorProg
import Derived.Test.YtoppnjpajeipdaaGreatDoorValid
import Derived.Test.YtoppnjpajeipdaaGreatDoorIntLay
import Derived.Test.YtoppnjpajeipdaaGreatDoorFmtLay
import Derived.Lib.SmallJoins
namespace Go.Proofs.YtoppnjpajeipdaaGreatDoor
set_option linter.unusedSimpArgs false
set_option linter.unusedVariables false
open Go.RowKit

theorem over_cellAt (w x : World) (p : Addr) (h : p.block < w.heap.size) : (over w x).cell? p = w.cell? p := (over_below w x).cell h
theorem over_frozenAt (w x : World) (p : Addr) (h : p.block < w.heap.size) : (over w x).frozen? p = w.frozen? p := (over_below w x).frozen h
theorem modify_append (a t : Array Obj) (b : Nat) (f : Obj → Obj) (h : b < a.size) : (a ++ t).modify b f = a.modify b f ++ t := by
  apply Array.ext_getElem?
  intro i
  rw [Array.getElem?_modify]
  by_cases hi : i < a.size
  · rw [Array.getElem?_append_left hi, Array.getElem?_append_left (by simpa using hi), Array.getElem?_modify]
  · rw [Array.getElem?_append_right (by omega), Array.getElem?_append_right (by simp; omega), if_neg (by omega)]; simp
theorem over_setAt (w x : World) (p : Addr) (v : Value) (h : p.block < w.heap.size) : (over w x).setCell p v = over (w.setCell p v) x := by
  have hs : (w.setCell p v).heap.size = w.heap.size := by simp [World.setCell]
  unfold over
  rw [hs]
  unfold World.setCell
  rw [modify_append _ _ _ _ h]
attribute [local go_sem] over_cellAt over_frozenAt over_setAt
theorem over_of {w w' : World} (h : Below w.heap.size w w') : ∃ x, w' = over w x := ⟨_, over_eq h⟩

theorem below_growN (w : World) (k : Nat) (os : Array Obj) : Below w.heap.size w (Sort.grow (w.drewN k) os) :=
  ⟨rfl, rfl, rfl, by show w.heap.size ≤ (w.heap ++ os).size; simp, fun j hj => by show (w.heap ++ os)[j]? = w.heap[j]?; exact Array.getElem?_append_left hj⟩

/-- The table that strconv counts digits by. -/
def TabLaid (w : World) : Prop := Lib.TabIs Tryz.prog w "internal/strconv.uint64pow10" .u64 Lib.pow10Tab

theorem TabLaid.kept {w w' : World} (h : TabLaid w) (hb : Below w.heap.size w w') : TabLaid w' := by
  have hgn : Tryz.prog.globalNamed "internal/strconv.uint64pow10" = some 1 := by kernel_rfl
  unfold TabLaid Lib.TabIs World.var? at h ⊢
  rw [hgn] at h ⊢
  simp only [Option.bind_some] at h ⊢
  have hlt : 1 < w.heap.size := by
    rcases Nat.lt_or_ge 1 w.heap.size with h' | h'
    · exact h'
    · rw [Array.getElem?_eq_none h'] at h; cases h
  rw [hb.block _ hlt]; exact h

theorem parse_ok (s : ByteArray) (w : World) (hs : s.size ≤ 140737488351232) {v : Int} (h : Lib.parseIntB 64 s.data.toList = .ok v) :
    Calls Tryz.prog 40 #[.string s, .int .i64 10, .int .i64 64] w fun e w' => e = .returned (.tuple #[.int .i64 v, .nilIface]) ∧ Below w.heap.size w w' :=
  (Any.strconv_ParseInt_10_at64_ok Tryz.lays174 s (by omega) v h w).mono fun e w' ⟨he, hw⟩ => ⟨he, by
    rcases hw with rfl | ⟨t, rfl⟩
    · exact Below.refl _ _
    · exact Go.Joins.below_bytesWorld _ _ _ _ (Nat.le_refl _)⟩

theorem format_any (n : Int) (w : World) (hn : I64 n) (ht : TabLaid w) :
    Calls Tryz.prog 20 #[.int .i64 n, .int .i64 10] w fun e w' => e = .returned (.string ⟨(Lib.itoa n).toArray⟩) ∧ Below w.heap.size w w' :=
  (Any.strconv_FormatInt_10 Tryz.lays173 n hn.1 hn.2 w ht).mono fun e w' ⟨he, k, os, hw⟩ => ⟨he, by rw [hw]; exact below_growN _ _ _⟩

def zeroC : Con := ⟨0, 0, ⟨#[]⟩⟩
def notC : Con := ⟨2, 0, ⟨#[110, 111, 116]⟩⟩
def sevenC : Con := ⟨1, -7, ⟨#[]⟩⟩

theorem dig_any (n : Int) (w : World) (h : 0 ≤ n ∧ n ≤ 255) :
    Calls Tryz.prog 39 #[.int .u8 n] w fun e w' => e = .returned (.bool (digN n)) ∧ w' = w := by
  by_cases h1 : 48 ≤ n
  · by_cases h2 : n ≤ 57
    · rw [show digN n = true from by simp [digN, h1, h2]]
      go_enter Tryz.func39, Tryz.ntmps39
      go_wp2
      go_ret
      exact ⟨rfl, rfl⟩
    · rw [show digN n = false from by simp [digN, h1, h2]]
      go_enter Tryz.func39, Tryz.ntmps39
      go_wp2
      go_ret
      exact ⟨rfl, rfl⟩
  · rw [show digN n = false from by simp [digN, h1]]
    go_enter Tryz.func39, Tryz.ntmps39
    go_wp2
    go_ret
    exact ⟨rfl, rfl⟩

theorem below1 (w : World) (o : Obj) : Below w.heap.size w (w.alloc o) := (Below.refl _ _).alloc (Nat.le_refl _) _
theorem below1_over (w x : World) (o : Obj) : Below w.heap.size w (over (w.alloc o) x) := (below1 w o).trans ((over_below _ x).mono (by simp))

set_option maxHeartbeats 1000000 in
theorem loose_not (w : World) : Calls Tryz.prog 25 #[.string ⟨#[110, 111, 116]⟩] w fun e w' => e = .returned (.agg #[.int .i64 2, .int .i64 0, .string ⟨#[110, 111, 116]⟩]) ∧ Below w.heap.size w w' := by
  have HD := hide (fun W => dig_any 110 W (by decide))
  rw [show digN 110 = false from rfl] at HD
  go_enter Tryz.func25, Tryz.ntmps25
  go_wp2_with (go_at_call 39; refine (HD.out _).mono ?_; rintro e w' ⟨rfl, hw'⟩; have hw' := hw'.symm; subst hw')
  exact bodyPost_ret (v := .agg #[.int .i64 2, .int .i64 0, .string ⟨#[110, 111, 116]⟩]) (by simp [results, Tryz.results25, go_sem]) rfl ⟨rfl, below1 _ _⟩

set_option maxHeartbeats 1000000 in
theorem loose_seven (w : World) : Calls Tryz.prog 25 #[.string ⟨#[45, 55]⟩] w fun e w' => e = .returned (.agg #[.int .i64 1, .int .i64 (-7), .string ⟨#[]⟩]) ∧ Below w.heap.size w w' := by
  have HP := hide (fun W => parse_ok ⟨#[45, 55]⟩ W (by decide) (v := -7) (by kernel_rfl))
  go_enter Tryz.func25, Tryz.ntmps25
  go_wp2_with (go_at_call 40; refine (HP.out _).mono ?_; rintro e w' ⟨rfl, hb⟩; obtain ⟨x, rfl⟩ := over_of hb; clear hb)
  exact bodyPost_ret (v := .agg #[.int .i64 1, .int .i64 (-7), .string ⟨#[]⟩]) (by simp [results, Tryz.results25, go_sem]) rfl ⟨rfl, below1_over _ _ _⟩

set_option maxHeartbeats 1000000 in
theorem text_not (w : World) : Calls Tryz.prog 5 #[.agg #[.int .i64 2, .int .i64 0, .string ⟨#[110, 111, 116]⟩]] w fun e w' => e = .returned (.string ⟨#[]⟩) ∧ Below w.heap.size w w' := by
  have HV := hide (fun W => valid_any notC W ⟨by unfold I64 notC; decide, by unfold I64 notC; decide, by decide⟩)
  rw [show validC notC = false from by kernel_rfl] at HV
  unfold notC Con.val at HV
  go_enter Tryz.func5, Tryz.ntmps5
  go_wp2_with (go_at_call 8; refine (HV.out _).mono ?_; rintro e w1 ⟨rfl, hb⟩; have HB := hide hb; clear hb)
  go_ret
  exact ⟨rfl, (below1 w _).trans (HB.out.mono (by simp))⟩

set_option maxHeartbeats 1000000 in
theorem text_seven (w : World) (ht : TabLaid w) : Calls Tryz.prog 5 #[.agg #[.int .i64 1, .int .i64 (-7), .string ⟨#[]⟩]] w fun e w' => e = .returned (.string ⟨#[45, 55]⟩) ∧ Below w.heap.size w w' := by
  have HV := hide (fun W => valid_any sevenC W ⟨by unfold I64 sevenC; decide, by unfold I64 sevenC; decide, by decide⟩)
  rw [show validC sevenC = true from by kernel_rfl] at HV
  unfold sevenC Con.val at HV
  have HF := hide (fun W hW => format_any (-7) W (by unfold I64; decide) hW)
  rw [show (Lib.itoa (-7)).toArray = #[45, 55] from by kernel_rfl] at HF
  have HT := hide ht
  clear ht
  go_enter Tryz.func5, Tryz.ntmps5
  go_wp2_with (first
    | (go_at_call 8; refine (HV.out _).mono ?_; rintro e w1 ⟨rfl, hb⟩; obtain ⟨x, rfl⟩ := over_of hb; clear hb)
    | (go_at_call 20; refine (HF.out _ (HT.out.kept (below1_over _ _ _))).mono ?_; rintro e w2 ⟨rfl, hb2⟩; have HB2 := hide hb2; clear hb2))
  go_ret
  have h := below1_over w x (.cells #[.int .i64 1, .int .i64 (-7), .string ⟨#[]⟩] 26)
  exact ⟨rfl, h.trans (HB2.out.mono h.size)⟩

end Go.Proofs.YtoppnjpajeipdaaGreatDoor
