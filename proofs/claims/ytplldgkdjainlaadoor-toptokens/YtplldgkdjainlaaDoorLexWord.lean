/- Tokens as values; what lex.word answers. -/
import Derived.Test.YtplldgkdjainlaaDoorProg
import Derived.Test.YtplldgkdjainlaaDoorLexBytes
namespace Go.Proofs.YtplldgkdjainlaaDoor
set_option linter.unusedSimpArgs false
set_option linter.unusedVariables false
open Go.RowKit

structure Tok where
  k : Int
  t : ByteArray
  n : Int
  op : Int
  off : Nat
  en : Nat

def Tok.val (t : Tok) : Value := .agg #[.int .i64 t.k, .string t.t, .int .i64 t.n, .int .i64 t.op, .int .i64 (t.off : Int), .int .i64 (t.en : Int)]
def tokZero : Value := .agg #[.int .i64 0, .string ⟨#[]⟩, .int .i64 0, .int .i64 0, .int .i64 0, .int .i64 0]
def faultVal (c : Int) (o : Nat) : Value := .agg #[.int .i64 c, .int .i64 0, .int .i64 (o : Int)]

/-- What stands at a place: a token, or a fault. -/
inductive Nx where
  | tok (t : Tok)
  | bad (code : Int) (off : Nat)

def Nx.val : Nx → Value
  | .tok t => .tuple #[t.val, faultVal 0 0]
  | .bad c o => .tuple #[tokZero, faultVal c o]

theorem below2 (w : World) (o p : Obj) : Below w.heap.size w ((w.alloc o).alloc p) := ((Below.refl _ _).alloc (Nat.le_refl _) _).alloc (by simp) _
theorem below4 (w : World) (o p q r : Obj) : Below w.heap.size w ((((w.alloc o).alloc p).alloc q).alloc r) := ((below2 w o p).alloc (by simp; omega) _).alloc (by simp; omega) _

theorem refuse_any (c : Int) (o : Nat) (w : World) :
    Calls Tryd.prog 21 #[.int .i64 c, .int .i64 o] w fun e w' => e = .returned (Nx.bad c o).val ∧
      w' = (w.alloc (.cells #[.int .i64 0, .string ⟨#[]⟩, .int .i64 0, .int .i64 0, .int .i64 0, .int .i64 0] 32)).alloc (.cells #[.int .i64 c, .int .i64 0, .int .i64 (o : Int)] 25) := by
  go_enter Tryd.func21, Tryd.ntmps21
  go_wp2
  exact bodyPost_ret (v := (Nx.bad c o).val) (by simp [results, Tryd.results21, go_sem, Nx.val, tokZero, faultVal]) rfl ⟨rfl, rfl⟩

def wordX (s : ByteArray) (o : Nat) : Nx :=
  let m := runC (rest s o)
  if 64 < m then .bad 14 o
  else if (s.extract o (o + m)).toList == [110, 111, 116] then .tok ⟨10, ⟨#[]⟩, 0, 0, o, o + m⟩
  else if bLow ((s.extract o (o + m)).data[0]!).toNat then .tok ⟨1, s.extract o (o + m), 0, 0, o, o + m⟩
  else .tok ⟨2, s.extract o (o + m), 0, 0, o, o + m⟩

set_option maxHeartbeats 1000000 in
theorem word_any (s : ByteArray) (o : Nat) (w : World) (hs : s.size ≤ 140737488351232) (ho : o < s.size) (hw : bWord (s[o].toNat : Int) = true) :
    Calls Tryd.prog 24 #[.string s, .int .i64 o] w fun e w' => e = .returned (wordX s o).val ∧ Below w.heap.size w w' := by
  have hm1 : 1 ≤ runC (rest s o) := by rw [rest_cons s o ho]; unfold runC; rw [if_pos hw]; omega
  have hm2 := runC_le (rest s o)
  rw [rest_len] at hm2
  have HR := hide (fun W => runEnd_any s o W hs (by omega))
  have HX : Hid (wordX s o = if 64 < runC (rest s o) then .bad 14 o
    else if (s.extract o (o + runC (rest s o))).toList == [110, 111, 116] then .tok ⟨10, ⟨#[]⟩, 0, 0, o, o + runC (rest s o)⟩
    else if bLow ((s.extract o (o + runC (rest s o))).data[0]!).toNat then .tok ⟨1, s.extract o (o + runC (rest s o)), 0, 0, o, o + runC (rest s o)⟩
    else .tok ⟨2, s.extract o (o + runC (rest s o)), 0, 0, o, o + runC (rest s o)⟩) := rfl
  generalize runC (rest s o) = m at *
  rw [HX.out]
  clear HX
  obtain ⟨q, hq⟩ : ∃ q : Nat, q = o + m := ⟨_, rfl⟩
  have hq1 : (o : Int) < (q : Int) := by omega
  have hq2 : (q : Int) ≤ (s.size : Int) := by omega
  have hq3 : (o : Int) ≤ (q : Int) := by omega
  have hqs : (s.extract o q).size = q - o := by rw [ByteArray.size_extract]; omega
  have hz : 0 < (s.extract o q).size := by omega
  rw [← hq] at HR ⊢
  have hb0 : (s.extract o q).data[0]! = (s.extract o q)[0]'hz := getElem!_pos _ _ _
  have hbb : (0 : Int) ≤ (((s.extract o q)[0]'hz).toNat : Int) ∧ (((s.extract o q)[0]'hz).toNat : Int) ≤ 255 := by have := ((s.extract o q)[0]'hz).toNat_lt; omega
  have HL := hide (fun W => low_any _ W hbb)
  rw [hb0]
  have hqz : (0 : Int) < ((s.extract o q).size : Int) := by omega
  by_cases h64 : 64 < m
  · rw [if_pos h64]
    have g1 : (64 : Int) < (q : Int) - (o : Int) := by omega
    replace hq := hide hq
    clear hb0 hbb HL hqs hqz hm1 hm2 h64
    go_enter Tryd.func24, Tryd.ntmps24
    go_wp2_with (first
      | (go_at_call 33; refine (HR.out _).mono ?_; rintro e w' ⟨rfl, hw'⟩; have hw' := hw'.symm; subst hw')
      | (go_at_call 21; refine (refuse_any _ _ _).mono ?_; unfold Nx.val tokZero faultVal; rintro e w' ⟨rfl, rfl⟩))
    exact bodyPost_ret (v := (Nx.bad 14 o).val) (by simp [results, Tryd.results24, go_sem, Nx.val, tokZero, faultVal]) rfl ⟨rfl, below4 _ _ _ _ _⟩
  rw [if_neg h64]
  have g1 : ¬ (64 : Int) < (q : Int) - (o : Int) := by omega
  replace hq := hide hq
  clear hb0 h64 hm1 hm2
  cases hn : (s.extract o q).toList == [110, 111, 116] with
  | true =>
    rw [if_pos rfl]
    clear HL hbb hqs hqz
    go_enter Tryd.func24, Tryd.ntmps24
    go_wp2_with (first
      | (go_at_call 33; refine (HR.out _).mono ?_; rintro e w' ⟨rfl, hw'⟩; have hw' := hw'.symm; subst hw'))
    exact bodyPost_ret (v := (Nx.tok ⟨10, ⟨#[]⟩, 0, 0, o, q⟩).val) (by simp [results, Tryd.results24, go_sem, Nx.val, Tok.val, faultVal]) rfl ⟨rfl, below2 _ _ _⟩
  | false =>
    rw [if_neg (by simp)]
    cases hlow : bLow (((s.extract o q)[0]'hz).toNat : Int) with
    | true =>
      rw [if_pos rfl]
      rw [hlow] at HL
      go_enter Tryd.func24, Tryd.ntmps24
      go_wp2_with (first
        | (go_at_call 33; refine (HR.out _).mono ?_; rintro e w' ⟨rfl, hw'⟩; have hw' := hw'.symm; subst hw')
        | (go_at_call 22; refine (HL.out _).mono ?_; rintro e w' ⟨rfl, hw'⟩; have hw' := hw'.symm; subst hw'))
      exact bodyPost_ret (v := (Nx.tok ⟨1, s.extract o q, 0, 0, o, q⟩).val) (by simp [results, Tryd.results24, go_sem, Nx.val, Tok.val, faultVal]) rfl ⟨rfl, below2 _ _ _⟩
    | false =>
      rw [if_neg (by simp)]
      rw [hlow] at HL
      go_enter Tryd.func24, Tryd.ntmps24
      go_wp2_with (first
        | (go_at_call 33; refine (HR.out _).mono ?_; rintro e w' ⟨rfl, hw'⟩; have hw' := hw'.symm; subst hw')
        | (go_at_call 22; refine (HL.out _).mono ?_; rintro e w' ⟨rfl, hw'⟩; have hw' := hw'.symm; subst hw'))
      exact bodyPost_ret (v := (Nx.tok ⟨2, s.extract o q, 0, 0, o, q⟩).val) (by simp [results, Tryd.results24, go_sem, Nx.val, Tok.val, faultVal]) rfl ⟨rfl, below2 _ _ _⟩

end Go.Proofs.YtplldgkdjainlaaDoor
