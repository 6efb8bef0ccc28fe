/- The texts of edictlaw02.LexNames, cut into tokens: no program in sight. -/
import Derived.Test.YtgbnoggapejinaaDoorKinds
namespace Go.Proofs.YtgbnoggapejinaaDoor
set_option linter.unusedSimpArgs false
set_option linter.unusedVariables false
open Go.RowKit

def nameT : ByteArray := ⟨#[97, 32, 88, 32, 49, 32, 34, 116, 34, 32, 40, 32, 41, 32, 44, 32, 46, 32, 58, 45, 32, 110, 111, 116, 32, 61, 32, 33, 61, 32, 60, 32, 60, 61, 32, 62, 32, 62, 61]⟩
def nameL : List Int := [10, 20, 30, 40, 50, 60, 70, 80, 90, 100, 111, 112, 113, 114, 115, 116, 0]

theorem scan_names : ((scanX nameT).1.map kindV, (scanX nameT).2.1, (scanX nameT).1.length) = (nameL.map (Value.int .i64), 0, 17) := by kernel_rfl
theorem scan_hash : ((scanX ⟨#[35]⟩).1, (scanX ⟨#[35]⟩).2.1) = ([], 10) := by kernel_rfl
theorem scan_quote : ((scanX ⟨#[34]⟩).1, (scanX ⟨#[34]⟩).2.1) = ([], 11) := by kernel_rfl
theorem scan_esc : ((scanX ⟨#[34, 92, 113]⟩).1, (scanX ⟨#[34, 92, 113]⟩).2.1) = ([], 12) := by kernel_rfl
theorem scan_int : ((scanX ⟨#[49, 97]⟩).1, (scanX ⟨#[49, 97]⟩).2.1) = ([], 13) := by kernel_rfl
theorem scan_open : ((scanX ⟨#[47, 42]⟩).1, (scanX ⟨#[47, 42]⟩).2.1) = ([], 16) := by kernel_rfl

/-- So many letters a. -/
def rep (n : Nat) : ByteArray := ⟨(List.replicate n 97).toArray⟩
theorem rep_size (n : Nat) : (rep n).size = n := by show (List.replicate n (97 : UInt8)).toArray.size = n; simp
theorem rep_list (n : Nat) : (rep n).data.toList = List.replicate n 97 := by unfold rep; simp
theorem rep_append (a b : Nat) : rep a ++ rep b = rep (a + b) := by
  apply ByteArray.ext
  apply Array.ext'
  rw [ByteArray.data_append, Array.toList_append, rep_list, rep_list, rep_list, List.replicate_append_replicate]
theorem rep_extract (n m : Nat) (h : m ≤ n) : (rep n).extract 0 m = rep m := by
  apply ByteArray.ext
  apply Array.ext'
  rw [ByteArray.data_extract, Array.toList_extract, List.extract_eq_take_drop, rep_list, rep_list, List.drop_zero, Nat.sub_zero, List.take_replicate, Nat.min_eq_left h]
theorem run_rep : ∀ n, runC (List.replicate n 97) = n
  | 0 => rfl
  | n + 1 => by
    rw [List.replicate_succ]
    unfold runC
    rw [if_pos (by rfl), run_rep n]
theorem rep_scan (n : Nat) (h : 64 < n) (h2 : n ≤ 65536) : scanX (rep n) = ([], 14, 0) := by
  have hs := rep_size n
  have hr : rest (rep n) 0 = List.replicate n 97 := by unfold rest; rw [rep_list, List.drop_zero]
  have hb : ((rep n)[0]'(by omega)) = 97 := by
    have := first_byte (rep n) 0 (by omega)
    rw [hr] at this
    obtain ⟨m, rfl⟩ : ∃ m, n = m + 1 := ⟨n - 1, by omega⟩
    rw [List.replicate_succ] at this
    exact (Option.some.inj this).symm
  have hg : gapW (rep n) 0 = (0, true) := gapW_stop (rep n) 0 (by omega) (by rw [hb]; rfl) (by rw [hb]; decide) (by
    rw [rest_cons (rep n) 0 (by omega), hb]
    cases rest (rep n) (0 + 1) <;> rfl)
  have hn : nextX (rep n) 0 = .bad 14 0 := by
    unfold nextX
    rw [hg]
    simp only [if_true]
    unfold tokAt
    rw [dif_pos (by omega : 0 < (rep n).size), if_pos (by rw [hb]; rfl)]
    unfold wordX
    simp only [hr, run_rep]
    rw [if_pos h]
  unfold scanX eachX
  rw [if_neg (by omega), eachF_bad hn]
theorem scan_64 : ((scanX (rep 64)).1.map kindV, (scanX (rep 64)).2.1, (scanX (rep 64)).1.length) = ([.int .i64 10, .int .i64 0], 0, 2) := by kernel_rfl
theorem scan_256 : ((scanX (⟨#[34]⟩ ++ rep 256 ++ ⟨#[34]⟩)).1, (scanX (⟨#[34]⟩ ++ rep 256 ++ ⟨#[34]⟩)).2.1) = ([], 15) := by kernel_rfl
theorem scan_over (s : ByteArray) (h : 65536 < s.size) : scanX s = ([], 1, 0) := if_pos h

end Go.Proofs.YtgbnoggapejinaaDoor
