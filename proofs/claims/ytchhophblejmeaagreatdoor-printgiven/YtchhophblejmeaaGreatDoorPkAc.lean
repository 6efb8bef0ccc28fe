/- sym.IsVar; the document's byte tests, IsName, IsVar and Valid: the same plain tests on bytes. print's and the document's reasons for a term, an atom: what whyNoTerm, whyNoAtom answer, and edictref04's term and atom. '==' and '!=' between two constants (structs of three fields): all three fields are the same. print's and the document's reasons for an atom; whether a term is empty. The document's reason for an atom. print's and the document's reasons for a literal. print's reasons for a body, a clause and a program. print's facts as parts. print's facts texts as parts. print's reasons for facts. print.Query, Facts: the text of what is well formed. -/
import Derived.Test.YtchhophblejmeaaGreatDoorProg
import Derived.Test.YtchhophblejmeaaGreatDoorPkB1
import Derived.Test.YtchhophblejmeaaGreatDoorPkB5
import Derived.Test.YtchhophblejmeaaGreatDoorOrder
import Derived.WalkKit
import Derived.Test.YtchhophblejmeaaGreatDoorPkB6
import Derived.Test.YtchhophblejmeaaGreatDoorPkB8
import Derived.Test.YtchhophblejmeaaGreatDoorPkB7

namespace Go.Proofs.YtchhophblejmeaaGreatDoor
set_option linter.unusedSimpArgs false
set_option linter.unusedVariables false
open Go.RowKit

theorem isUpper_any (n : Int) (w : World) (h : 0 ≤ n ∧ n ≤ 255) :
    Calls Tryz.prog 102 #[.int .u8 n] w fun e w' => e = .returned (.bool (upN n)) ∧ w' = w := by
  by_cases h1 : 65 ≤ n
  · by_cases h2 : n ≤ 90
    · rw [show upN n = true from by simp [upN, h1, h2]]
      go_enter Tryz.func102, Tryz.ntmps102
      go_wp2
      go_ret
      exact ⟨rfl, rfl⟩
    · rw [show upN n = false from by simp [upN, h1, h2]]
      go_enter Tryz.func102, Tryz.ntmps102
      go_wp2
      go_ret
      exact ⟨rfl, rfl⟩
  · rw [show upN n = false from by simp [upN, h1]]
    go_enter Tryz.func102, Tryz.ntmps102
    go_wp2
    go_ret
    exact ⟨rfl, rfl⟩




theorem isVar_any (s : ByteArray) (w : World) (hs : s.size ≤ maxLen) :
    Calls Tryz.prog 101 #[.string s] w fun e w' => e = .returned (.bool (isVarL s.toList)) ∧ w' = w := by
  have HW := hide (isWord_any s w hs)
  have hd : Hid (isVarL s.toList = (isWordL s.toList && (upN (headN s.toList) || headN s.toList == 95))) := rfl
  rw [hd.out]
  clear hd
  cases hw : isWordL s.toList
  · go_enter Tryz.func101, Tryz.ntmps101
    go_wp2_with (go_at_call 79; refine HW.out.mono ?_; rintro e w' ⟨rfl, hw'⟩; have hw' := hw'.symm; subst hw')
    go_ret
    exact ⟨rfl, rfl⟩
  · have hpos := word_pos hw
    rw [head_of s hpos]
    have hi : (0 : Int) < (s.size : Int) := by omega
    have hb : (0 : Int) ≤ (s[0].toNat : Int) ∧ (s[0].toNat : Int) ≤ 255 := by have := s[0].toNat_lt; omega
    have HC := hide (isUpper_any (s[0].toNat : Int) w hb)
    cases hl : upN (s[0].toNat : Int)
    · go_enter Tryz.func101, Tryz.ntmps101
      go_wp2_with (first | (go_at_call 79; refine HW.out.mono ?_; rintro e w' ⟨rfl, hw'⟩; have hw' := hw'.symm; subst hw') | (go_at_call 102; refine HC.out.mono ?_; rintro e w' ⟨rfl, hw'⟩; have hw' := hw'.symm; subst hw'))
      go_ret
      first | exact ⟨rfl, rfl⟩ | exact ⟨ret_bool (by simp), rfl⟩
    · go_enter Tryz.func101, Tryz.ntmps101
      go_wp2_with (first | (go_at_call 79; refine HW.out.mono ?_; rintro e w' ⟨rfl, hw'⟩; have hw' := hw'.symm; subst hw') | (go_at_call 102; refine HC.out.mono ?_; rintro e w' ⟨rfl, hw'⟩; have hw' := hw'.symm; subst hw'))
      go_ret
      first | exact ⟨rfl, rfl⟩ | exact ⟨ret_bool (by simp), rfl⟩

def tailL (l : List UInt8) : Bool := (l.drop 1).all wordB


theorem drop_snoc (s : ByteArray) (k : Nat) (h : k < s.size) (h1 : 1 ≤ k) : (s.toList.take (k + 1)).drop 1 = (s.toList.take k).drop 1 ++ [s[k]] := by
  rw [take_snoc s k h, List.drop_append_of_le_length (by rw [List.length_take, toListLen]; omega)]

theorem mem_drop (s : ByteArray) (k : Nat) (h : k < s.size) (h1 : 1 ≤ k) : s[k] ∈ s.toList.drop 1 := by
  have e : (s.toList.drop 1)[k - 1]? = some s[k] := by
    rw [List.getElem?_drop, show 1 + (k - 1) = k from by omega, ByteArray.toList_eq]
    exact List.getElem?_eq_getElem (l := s.data.toList) (by simpa using h)
  exact List.mem_of_getElem? e


theorem low_word {n : Int} (h : lowN n = true) : wordN n = true := by unfold wordN; rw [h]; rfl
theorem up_word {n : Int} (h : (upN n || n == 95) = true) : wordN n = true := by
  unfold wordN
  rcases Bool.or_eq_true_iff.1 h with h | h
  · rw [h]; simp
  · rw [h]; simp
theorem word_split (s : ByteArray) (h0 : 0 < s.size) (h64 : s.size ≤ 64) : isWordL s.toList = (wordN (headN s.toList) && tailL s.toList) := by
  unfold isWordL tailL
  rw [toListLen, show decide (1 ≤ s.size) = true from by simp; omega, show decide (s.size ≤ 64) = true from by simp; omega]
  obtain ⟨r, hr⟩ := toList_cons s h0
  rw [hr]; rfl
theorem name_split (s : ByteArray) (h0 : 0 < s.size) (h64 : s.size ≤ 64) : isNameL s.toList = (!(s.toList == [110, 111, 116]) && (lowN (headN s.toList) && tailL s.toList)) := by
  unfold isNameL
  rw [word_split s h0 h64]
  cases h : lowN (headN s.toList) with
  | true => rw [low_word h]; cases tailL s.toList <;> cases (s.toList == [110, 111, 116]) <;> rfl
  | false => cases tailL s.toList <;> cases (s.toList == [110, 111, 116]) <;> cases wordN (headN s.toList) <;> rfl
theorem var_split (s : ByteArray) (h0 : 0 < s.size) (h64 : s.size ≤ 64) : isVarL s.toList = ((upN (headN s.toList) || headN s.toList == 95) && tailL s.toList) := by
  unfold isVarL
  rw [word_split s h0 h64]
  cases h : (upN (headN s.toList) || headN s.toList == 95) with
  | true => rw [up_word h]; cases tailL s.toList <;> rfl
  | false => cases tailL s.toList <;> cases wordN (headN s.toList) <;> rfl


theorem word_short {s : ByteArray} (h : s.size = 0 ∨ 64 < s.size) : isWordL s.toList = false := by
  unfold isWordL
  rw [toListLen]
  simp
  omega




end Go.Proofs.YtchhophblejmeaaGreatDoor

namespace Go.Proofs.YtchhophblejmeaaGreatDoor
set_option linter.unusedSimpArgs false
set_option linter.unusedVariables false
open Go.RowKit

theorem below1t {w w' : World} {x : Obj} (h : Below (w.alloc x).heap.size (w.alloc x) w') : Below w.heap.size w w' := (below1 w x).trans (h.mono (by simp))
theorem belowt {w w' w'' : World} (h : Below w.heap.size w w') (h2 : Below w'.heap.size w' w'') : Below w.heap.size w w'' := h.trans (h2.mono h.size)

theorem constOf_any (t : Trm) (w : World) :
    Calls Tryz.prog 100 #[t.val] w fun e w' => e = .returned t.con.val ∧ Below w.heap.size w w' := by
  obtain ⟨k, n, s, off⟩ := t
  unfold Trm.val Trm.con Con.val
  go_enter Tryz.func100, Tryz.ntmps100
  go_wp2
  exact bodyPost_ret (v := .agg #[.int .i64 k, .int .i64 n, .string s]) (by simp [results, Tryz.results100, go_sem]) rfl ⟨rfl, ((Below.refl _ _).alloc (Nat.le_refl _) _).alloc (by simp) _⟩

theorem whyConst (c : Con) (w : World) (hc : c.ok) :
    Calls Tryz.prog 47 #[c.val] w fun e w' => e = .returned (.int .i64 (if validC c then 0 else 5)) ∧ Below w.heap.size w w' := by
  have HV := hide (fun w => valid_any c w hc)
  unfold Con.val at *
  cases hv : validC c
  · go_enter Tryz.func47, Tryz.ntmps47
    rw [hv] at HV
    go_wp2_with (go_at_call 64; refine (HV.out _).mono ?_; rintro e w' ⟨rfl, hb⟩)
    go_ret
    exact ⟨rfl, below1t hb⟩
  · go_enter Tryz.func47, Tryz.ntmps47
    rw [hv] at HV
    go_wp2_with (go_at_call 64; refine (HV.out _).mono ?_; rintro e w' ⟨rfl, hb⟩)
    go_ret
    exact ⟨rfl, below1t hb⟩

set_option maxHeartbeats 1000000 in
theorem whyTerm (t : Trm) (w : World) (h : t.ok) :
    Calls Tryz.prog 86 #[t.val] w fun e w' => e = .returned (.int .i64 (termE t)) ∧ Below w.heap.size w w' := by
  have HC := hide (fun w => constOf_any t w)
  have HW := hide (fun w => whyConst t.con w h.1)
  have HV := hide (fun w => isVar_any t.s w (by have := h.1.2.2; unfold maxLen; simp only [Trm.con] at this; omega))
  obtain ⟨k, n, s, off⟩ := t
  clear h
  unfold Trm.val Trm.con Con.val at *
  by_cases h4 : k = 4
  · subst h4
    by_cases hn : n = 0
    · subst hn
      cases hv : isVarL s.toList
      · have HE : Hid (termE ⟨4, 0, s, off⟩ = 14) := by show termE _ = 14; unfold termE; simp [hv]
        rw [HE.out]
        dsimp only at HV
        rw [hv] at HV
        clear HE
        go_enter Tryz.func86, Tryz.ntmps86
        go_wp2_with (first | (go_at_call 101; refine (HV.out _).mono ?_; rintro e w' ⟨rfl, hw'⟩; have hw' := hw'.symm; subst hw') | (go_at_call 100; refine (HC.out _).mono ?_; rintro e w' ⟨rfl, hb1⟩) | (go_at_call 47; refine (HW.out _).mono ?_; rintro e w' ⟨rfl, hb2⟩))
        go_ret
        exact ⟨rfl, below1 _ _⟩
      · have HE : Hid (termE ⟨4, 0, s, off⟩ = 0) := by show termE _ = 0; unfold termE; simp [hv]
        rw [HE.out]
        dsimp only at HV
        rw [hv] at HV
        clear HE
        go_enter Tryz.func86, Tryz.ntmps86
        go_wp2_with (first | (go_at_call 101; refine (HV.out _).mono ?_; rintro e w' ⟨rfl, hw'⟩; have hw' := hw'.symm; subst hw') | (go_at_call 100; refine (HC.out _).mono ?_; rintro e w' ⟨rfl, hb1⟩) | (go_at_call 47; refine (HW.out _).mono ?_; rintro e w' ⟨rfl, hb2⟩))
        go_ret
        exact ⟨rfl, below1 _ _⟩
    · have en : (n != 0) = true := by simpa using hn
      have HE : Hid (termE ⟨4, n, s, off⟩ = 14) := by show termE _ = 14; unfold termE; simp [hn]
      rw [HE.out]
      clear HE hn
      go_enter Tryz.func86, Tryz.ntmps86
      go_wp2_with (first | (go_at_call 101; refine (HV.out _).mono ?_; rintro e w' ⟨rfl, hw'⟩; have hw' := hw'.symm; subst hw') | (go_at_call 100; refine (HC.out _).mono ?_; rintro e w' ⟨rfl, hb1⟩) | (go_at_call 47; refine (HW.out _).mono ?_; rintro e w' ⟨rfl, hb2⟩))
      go_ret
      exact ⟨rfl, below1 _ _⟩
  · have e4 : (k != 4) = true := by simpa using h4
    have HE : Hid (termE ⟨k, n, s, off⟩ = if validC ⟨k, n, s⟩ then 0 else 5) := by show termE _ = _; unfold termE Trm.con; simp only [h4, if_false]
    rw [HE.out]
    clear HE h4
    dsimp only at HW
    generalize validC ⟨k, n, s⟩ = v at *
    cases v
    · go_enter Tryz.func86, Tryz.ntmps86
      go_wp2_with (first | (go_at_call 101; refine (HV.out _).mono ?_; rintro e w' ⟨rfl, hw'⟩; have hw' := hw'.symm; subst hw') | (go_at_call 100; refine (HC.out _).mono ?_; rintro e w' ⟨rfl, hb1⟩) | (go_at_call 47; refine (HW.out _).mono ?_; rintro e w' ⟨rfl, hb2⟩))
      go_ret
      exact ⟨rfl, below1t (belowt hb1 hb2)⟩
    · go_enter Tryz.func86, Tryz.ntmps86
      go_wp2_with (first | (go_at_call 101; refine (HV.out _).mono ?_; rintro e w' ⟨rfl, hw'⟩; have hw' := hw'.symm; subst hw') | (go_at_call 100; refine (HC.out _).mono ?_; rintro e w' ⟨rfl, hb1⟩) | (go_at_call 47; refine (HW.out _).mono ?_; rintro e w' ⟨rfl, hb2⟩))
      go_ret
      exact ⟨rfl, below1t (belowt hb1 hb2)⟩


end Go.Proofs.YtchhophblejmeaaGreatDoor

namespace Go.Proofs.YtchhophblejmeaaGreatDoor
set_option linter.unusedSimpArgs false
set_option linter.unusedVariables false
open Go.RowKit

def conEq (a b : Con) : Bool := a.k == b.k && (a.n == b.n && a.s.toList == b.s.toList)

theorem conEq_iff (a b : Con) : conEq a b = true ↔ a = b := by
  unfold conEq
  simp only [Bool.and_eq_true, beq_iff_eq]
  constructor
  · rintro ⟨h1, h2, h3⟩
    cases a; cases b
    simp only at h1 h2 h3
    rw [h1, h2, toList_inj h3]
  · rintro rfl; exact ⟨rfl, rfl, rfl⟩

theorem conEq_cmp (a b : Con) : (cmpC a b == 0) = conEq a b := by
  unfold conEq
  rw [Bool.eq_iff_iff]
  simp only [beq_iff_eq, Bool.and_eq_true]
  exact cmpC_zero a b

theorem conEq_refl (a : Con) : conEq a a = true := (conEq_iff a a).2 rfl

theorem eqCon (a b : Con) (w : World) : (binOp .eql 68 (.agg #[.int .i64 a.k, .int .i64 a.n, .string a.s]) (.agg #[.int .i64 b.k, .int .i64 b.n, .string b.s])).run Tryz.prog w = .ok (.bool (conEq a b)) w := by
  have h1 := run_equalIn_struct (P := Tryz.prog) w 9999 68 #[.int .i64 a.k, .int .i64 a.n, .string a.s] #[.int .i64 b.k, .int .i64 b.n, .string b.s] (by kernel_rfl) (by kernel_rfl)
  simp only [binOp]
  simp only [Op.equal, Op.maxDepth, Sem.run_bind]
  unfold conEq
  by_cases e1 : a.k = b.k
  · by_cases e2 : a.n = b.n
    · by_cases e3 : a.s.toList = b.s.toList
      · go_simp
      · go_simp
    · go_simp
  · go_simp

theorem neqCon (a b : Con) (w : World) : (binOp .neq 68 (.agg #[.int .i64 a.k, .int .i64 a.n, .string a.s]) (.agg #[.int .i64 b.k, .int .i64 b.n, .string b.s])).run Tryz.prog w = .ok (.bool (!conEq a b)) w := by
  have h1 := run_equalIn_struct (P := Tryz.prog) w 9999 68 #[.int .i64 a.k, .int .i64 a.n, .string a.s] #[.int .i64 b.k, .int .i64 b.n, .string b.s] (by kernel_rfl) (by kernel_rfl)
  simp only [binOp]
  simp only [Op.equal, Op.maxDepth, Sem.run_bind]
  unfold conEq
  by_cases e1 : a.k = b.k
  · by_cases e2 : a.n = b.n
    · by_cases e3 : a.s.toList = b.s.toList
      · go_simp
      · go_simp
    · go_simp
  · go_simp
end Go.Proofs.YtchhophblejmeaaGreatDoor

namespace Go.Proofs.YtchhophblejmeaaGreatDoor
set_option linter.unusedSimpArgs false
set_option linter.unusedVariables false
open Go.RowKit

theorem isEmpty_any (t : Trm) (w : World) :
    Calls Tryz.prog 87 #[t.val] w fun e w' => e = .returned (.bool (noTerm t)) ∧ Below w.heap.size w w' := by
  have HC := hide (fun w => constOf_any t w)
  obtain ⟨k, n, s, off⟩ := t
  unfold Trm.val Trm.con Con.val at *
  have hq := eqCon ⟨k, n, s⟩ ⟨0, 0, ⟨#[]⟩⟩
  have HE : Hid (noTerm ⟨k, n, s, off⟩ = conEq ⟨k, n, s⟩ ⟨0, 0, ⟨#[]⟩⟩) := by show noTerm _ = conEq _ _; unfold noTerm conEq; rw [show (⟨#[]⟩ : ByteArray).toList = [] from by rw [ByteArray.toList_eq]]
  rw [HE.out]
  go_enter Tryz.func87, Tryz.ntmps87
  go_wp2_with (go_at_call 100; refine (HC.out _).mono ?_; rintro e w' ⟨rfl, hb1⟩)
  go_ret
  exact ⟨rfl, below1t hb1⟩


set_option maxHeartbeats 1000000 in
theorem firstTerm (ao : Option Addr) (len cap : Nat) (ts : List Trm) (w : World) (h : IsTrms w ao len ts) :
    Calls Tryz.prog 99 #[.slice ao len cap, .func (.func 86) #[] #[]] w fun e w' => e = .returned (.int .i64 (firstE termE ts)) ∧ Below w.heap.size w w' := by
  have H1 := hide h
  have hl : len ≤ 140737488351232 := by have := h.2.1; omega
  clear h
  go_enter Tryz.func99, Tryz.ntmps99
  go_wp2
  go_loopw [4, 10] (fun _ i wr => ∃ k : Nat, k ≤ len ∧ i = .int .i64 k ∧ Hid (∀ y ∈ ts.take k, termE y = 0) ∧ Hid (Below w.heap.size w wr)) (fun _ i _ => len - (intOf i).toNat)
  case atStart => exact ⟨0, Nat.zero_le _, rfl, fun y hy => by simp at hy, Below.refl _ _⟩
  case round =>
    obtain ⟨k, hk, rfl, HA, HB⟩ := hrel
    by_cases hlt : k < len
    · have hi : (k : Int) < (len : Int) := by omega
      obtain ⟨hlen, -, hok, hrow⟩ := H1.out
      obtain ⟨b, off, rfl, hr⟩ := hrow (by omega)
      obtain ⟨t, ht⟩ : ∃ t, ts[k]? = some t := ⟨_, List.getElem?_eq_getElem (by omega)⟩
      obtain ⟨x0, x1, x2, x3⟩ := (hr k t ht).kept HB.out
      have HT : Hid (∀ w1, Below w.heap.size w w1 → Calls Tryz.prog 86 #[t.val] w1 fun e w' => e = .returned (.int .i64 (termE t)) ∧ Below w1.heap.size w1 w') := fun w1 _ => whyTerm t w1 (hok t (List.mem_of_getElem? ht))
      unfold Trm.val at HT
      by_cases hz : termE t = 0
      · have HN := hide (take_zero_more HA.out ht hz)
        rw [hz] at HT
        clear hz HA hlen hok hrow hr ht
        go_wp2_with (go_at_call 86; refine (HT.out _ (belowt HB.out (below1 _ _))).mono ?_; rintro e w' ⟨rfl, hb⟩)
        go_roundw
        case rel => exact ⟨k + 1, by omega, by go_num, HN, hide (belowt HB.out (below1t hb))⟩
        case measure => simp [intOf]; omega
      · have HF := hide (firstE_at HA.out ht hz)
        have hz' : (termE t != 0) = true := by simpa using hz
        clear hz HA hlen hok hrow hr ht
        go_wp2_with (go_at_call 86; refine (HT.out _ (belowt HB.out (below1 _ _))).mono ?_; rintro e w' ⟨rfl, hb⟩)
        go_ret
        exact ⟨by rw [HF.out]; rfl, belowt HB.out (below1t hb)⟩
    · have hi : ¬ (k : Int) < (len : Int) := by omega
      have HF : Hid (firstE termE ts = 0) := firstE_zero fun y hy => HA.out y (by rw [List.take_of_length_le (by have := H1.out.1; omega)]; exact hy)
      go_wp2
      go_ret
      exact ⟨by rw [HF.out]; rfl, HB.out⟩

set_option maxHeartbeats 1000000 in
theorem whyAtomOf (a : Atm) (w : World) (h : a.at w) :
    Calls Tryz.prog 85 #[.string a.p, .slice a.ao a.len a.cap, .func (.func 86) #[] #[]] w fun e w' => e = .returned (.int .i64 (atomE a.p a.ts)) ∧ Below w.heap.size w w' := by
  have HN := hide (isName_any a.p w (by have := h.1; unfold maxLen; omega))
  have HT := hide (firstTerm a.ao a.len a.cap a.ts w h.2.2)
  have hl : Hid (a.ts.length = a.len) := h.2.2.1
  have hl2 : a.len ≤ 140737488351232 := by have := h.2.2.2.1; omega
  clear h
  cases hn : isNameL a.p.toList
  · have HE : Hid (atomE a.p a.ts = 14) := by show atomE _ _ = 14; unfold atomE; rw [hn]; rfl
    rw [HE.out]
    rw [hn] at HN
    clear HE
    go_enter Tryz.func85, Tryz.ntmps85
    go_wp2_with (first | (go_at_call 62; refine HN.out.mono ?_; rintro e w' ⟨rfl, hw'⟩; have hw' := hw'.symm; subst hw') | (go_at_call 99; refine HT.out.mono ?_; rintro e w' ⟨rfl, hb⟩))
    go_ret
    exact ⟨rfl, Below.refl _ _⟩
  · rw [hn] at HN
    by_cases h8 : 8 < a.len
    · have HE : Hid (atomE a.p a.ts = 22) := by show atomE _ _ = 22; unfold atomE; rw [hn, hl.out]; simp [h8]
      rw [HE.out]
      have hi : (8 : Int) < (a.len : Int) := by omega
      clear HE
      go_enter Tryz.func85, Tryz.ntmps85
      go_wp2_with (first | (go_at_call 62; refine HN.out.mono ?_; rintro e w' ⟨rfl, hw'⟩; have hw' := hw'.symm; subst hw') | (go_at_call 99; refine HT.out.mono ?_; rintro e w' ⟨rfl, hb⟩))
      go_ret
      exact ⟨rfl, Below.refl _ _⟩
    · have HE : Hid (atomE a.p a.ts = firstE termE a.ts) := by show atomE _ _ = _; unfold atomE; rw [hn, hl.out]; simp [h8]
      rw [HE.out]
      have hi : ¬ (8 : Int) < (a.len : Int) := by omega
      clear HE
      go_enter Tryz.func85, Tryz.ntmps85
      go_wp2_with (first | (go_at_call 62; refine HN.out.mono ?_; rintro e w' ⟨rfl, hw'⟩; have hw' := hw'.symm; subst hw') | (go_at_call 99; refine HT.out.mono ?_; rintro e w' ⟨rfl, hb⟩))
      go_ret
      exact ⟨rfl, hb⟩

set_option maxHeartbeats 1000000 in
theorem whyAtom (a : Atm) (w : World) (h : a.at w) :
    Calls Tryz.prog 74 #[a.val] w fun e w' => e = .returned (.int .i64 (atomE a.p a.ts)) ∧ Below w.heap.size w w' := by
  have HT := hide (fun w1 (hb : Below w.heap.size w w1) => whyAtomOf a w1 (h.kept hb))
  clear h
  unfold Atm.val
  go_enter Tryz.func74, Tryz.ntmps74
  go_wp2_with (go_at_call 85; refine (HT.out _ (below1 _ _)).mono ?_; rintro e w' ⟨rfl, hb⟩)
  go_ret
  exact ⟨rfl, below1t hb⟩

end Go.Proofs.YtchhophblejmeaaGreatDoor

namespace Go.Proofs.YtchhophblejmeaaGreatDoor
set_option linter.unusedSimpArgs false
set_option linter.unusedVariables false
open Go.RowKit

end Go.Proofs.YtchhophblejmeaaGreatDoor

namespace Go.Proofs.YtchhophblejmeaaGreatDoor
set_option linter.unusedSimpArgs false
set_option linter.unusedVariables false
open Go.RowKit

theorem lit_cells (w : World) (k : Int) (p : ByteArray) (ao : Option Addr) (len cap : Nat) (aoff op lk ln : Int) (ls : ByteArray) (lo rk rn : Int) (rs : ByteArray) (ro off : Int) (w' : World) (hb : Below (w.alloc (.cells #[.int .i64 k, .string p, .slice ao len cap, .int .i64 aoff, .int .i64 op, .int .i64 lk, .int .i64 ln, .string ls, .int .i64 lo, .int .i64 rk, .int .i64 rn, .string rs, .int .i64 ro, .int .i64 off] 56)).heap.size (w.alloc (.cells #[.int .i64 k, .string p, .slice ao len cap, .int .i64 aoff, .int .i64 op, .int .i64 lk, .int .i64 ln, .string ls, .int .i64 lo, .int .i64 rk, .int .i64 rn, .string rs, .int .i64 ro, .int .i64 off] 56)) w') :
    w'.cell? ⟨w.heap.size, 1, none⟩ = some (.string p) ∧ w'.cell? ⟨w.heap.size, 2, none⟩ = some (.slice ao len cap) ∧ w'.cell? ⟨w.heap.size, 3, none⟩ = some (.int .i64 aoff) ∧ w'.cell? ⟨w.heap.size, 9, none⟩ = some (.int .i64 rk) ∧ w'.cell? ⟨w.heap.size, 10, none⟩ = some (.int .i64 rn) ∧ w'.cell? ⟨w.heap.size, 11, none⟩ = some (.string rs) ∧ w'.cell? ⟨w.heap.size, 12, none⟩ = some (.int .i64 ro) :=
  ⟨kept_cell hb (by go_simp), kept_cell hb (by go_simp), kept_cell hb (by go_simp), kept_cell hb (by go_simp), kept_cell hb (by go_simp), kept_cell hb (by go_simp), kept_cell hb (by go_simp)⟩

set_option maxHeartbeats 2000000 in
theorem whyLit (x : Ltr) (w : World) (h : x.at w) :
    Calls Tryz.prog 77 #[x.val] w fun e w' => e = .returned (.int .i64 (litE x)) ∧ Below w.heap.size w w' := by
  obtain ⟨k, a, op, ⟨lk, ln, ls, lo⟩, ⟨rk, rn, rs, ro⟩, off⟩ := x
  obtain ⟨-, ha, -, hL, hR, -⟩ := h
  have HA := hide (fun w1 (hb : Below w.heap.size w w1) => whyAtom a w1 (ha.kept hb))
  have HZ : Hid (∀ k n s o w1, Calls Tryz.prog 87 #[.agg #[.int .i64 k, .int .i64 n, .string s, .int .i64 o]] w1 fun e w' => e = .returned (.bool (noTerm ⟨k, n, s, o⟩)) ∧ Below w1.heap.size w1 w') := fun k n s o w1 => isEmpty_any ⟨k, n, s, o⟩ w1
  have HT : Hid (∀ k n s o w1, Trm.ok ⟨k, n, s, o⟩ → Calls Tryz.prog 86 #[.agg #[.int .i64 k, .int .i64 n, .string s, .int .i64 o]] w1 fun e w' => e = .returned (.int .i64 (termE ⟨k, n, s, o⟩)) ∧ Below w1.heap.size w1 w') := fun k n s o w1 hh => whyTerm ⟨k, n, s, o⟩ w1 hh
  have HL : Hid (Trm.ok ⟨lk, ln, ls, lo⟩) := hL
  have HR : Hid (Trm.ok ⟨rk, rn, rs, ro⟩) := hR
  obtain ⟨p, ao, len, cap, aoff, ts⟩ := a
  have HS : Hid (ts.length = len) := ha.2.2.1
  have hl2 : len ≤ 140737488351232 := by have := ha.2.2.2.1; dsimp only at this; omega
  have hp2 : p.size ≤ 140737488351232 := ha.1
  clear ha hL hR
  unfold Atm.val at HA
  unfold Ltr.val
  dsimp only at HA ⊢

  by_cases k1 : k = 1
  · subst k1
    by_cases h0 : op = 0
    · subst h0
      cases z1 : noTerm ⟨lk, ln, ls, lo⟩
      · have HE : Hid (litE ⟨1, ⟨p, ao, len, cap, aoff, ts⟩, 0, ⟨lk, ln, ls, lo⟩, ⟨rk, rn, rs, ro⟩, off⟩ = 2) := by show litE _ = _; unfold litE; simp [z1]
        rw [HE.out]
        clear HE
        go_enter Tryz.func77, Tryz.ntmps77
        have HB := hide (Below.refl (w.alloc (.cells #[.int .i64 1, .string p, .slice ao len cap, .int .i64 aoff, .int .i64 0, .int .i64 lk, .int .i64 ln, .string ls, .int .i64 lo, .int .i64 rk, .int .i64 rn, .string rs, .int .i64 ro, .int .i64 off] 56)).heap.size (w.alloc (.cells #[.int .i64 1, .string p, .slice ao len cap, .int .i64 aoff, .int .i64 0, .int .i64 lk, .int .i64 ln, .string ls, .int .i64 lo, .int .i64 rk, .int .i64 rn, .string rs, .int .i64 ro, .int .i64 off] 56)))
        have HX := hide (fun w' (hb : Below (w.alloc (.cells #[.int .i64 1, .string p, .slice ao len cap, .int .i64 aoff, .int .i64 0, .int .i64 lk, .int .i64 ln, .string ls, .int .i64 lo, .int .i64 rk, .int .i64 rn, .string rs, .int .i64 ro, .int .i64 off] 56)).heap.size (w.alloc (.cells #[.int .i64 1, .string p, .slice ao len cap, .int .i64 aoff, .int .i64 0, .int .i64 lk, .int .i64 ln, .string ls, .int .i64 lo, .int .i64 rk, .int .i64 rn, .string rs, .int .i64 ro, .int .i64 off] 56)) w') => lit_cells w 1 p ao len cap aoff 0 lk ln ls lo rk rn rs ro off w' hb)
        go_wp2_with (first | (go_at_call 87; refine (HZ.out _ _ _ _ _).mono ?_; rintro e w' ⟨rfl, hz⟩; have HB := hide (belowt HB.out hz); clear hz; obtain ⟨c1, c2, c3, c9, c10, c11, c12⟩ := HX.out _ HB.out) | (go_at_call 74; refine (HA.out _ (below1t HB.out)).mono ?_; rintro e w' ⟨rfl, hz⟩; have HB := hide (belowt HB.out hz); clear hz; obtain ⟨c1, c2, c3, c9, c10, c11, c12⟩ := HX.out _ HB.out) | (go_at_call 86; refine (HT.out _ _ _ _ _ (by first | exact HL.out | exact HR.out)).mono ?_; rintro e w' ⟨rfl, hz⟩; have HB := hide (belowt HB.out hz); clear hz; obtain ⟨c1, c2, c3, c9, c10, c11, c12⟩ := HX.out _ HB.out))
        go_ret
        exact ⟨rfl, below1t HB.out⟩
      · cases z2 : noTerm ⟨rk, rn, rs, ro⟩
        · have HE : Hid (litE ⟨1, ⟨p, ao, len, cap, aoff, ts⟩, 0, ⟨lk, ln, ls, lo⟩, ⟨rk, rn, rs, ro⟩, off⟩ = 2) := by show litE _ = _; unfold litE; simp [z1, z2]
          rw [HE.out]
          clear HE
          go_enter Tryz.func77, Tryz.ntmps77
          have HB := hide (Below.refl (w.alloc (.cells #[.int .i64 1, .string p, .slice ao len cap, .int .i64 aoff, .int .i64 0, .int .i64 lk, .int .i64 ln, .string ls, .int .i64 lo, .int .i64 rk, .int .i64 rn, .string rs, .int .i64 ro, .int .i64 off] 56)).heap.size (w.alloc (.cells #[.int .i64 1, .string p, .slice ao len cap, .int .i64 aoff, .int .i64 0, .int .i64 lk, .int .i64 ln, .string ls, .int .i64 lo, .int .i64 rk, .int .i64 rn, .string rs, .int .i64 ro, .int .i64 off] 56)))
          have HX := hide (fun w' (hb : Below (w.alloc (.cells #[.int .i64 1, .string p, .slice ao len cap, .int .i64 aoff, .int .i64 0, .int .i64 lk, .int .i64 ln, .string ls, .int .i64 lo, .int .i64 rk, .int .i64 rn, .string rs, .int .i64 ro, .int .i64 off] 56)).heap.size (w.alloc (.cells #[.int .i64 1, .string p, .slice ao len cap, .int .i64 aoff, .int .i64 0, .int .i64 lk, .int .i64 ln, .string ls, .int .i64 lo, .int .i64 rk, .int .i64 rn, .string rs, .int .i64 ro, .int .i64 off] 56)) w') => lit_cells w 1 p ao len cap aoff 0 lk ln ls lo rk rn rs ro off w' hb)
          go_wp2_with (first | (go_at_call 87; refine (HZ.out _ _ _ _ _).mono ?_; rintro e w' ⟨rfl, hz⟩; have HB := hide (belowt HB.out hz); clear hz; obtain ⟨c1, c2, c3, c9, c10, c11, c12⟩ := HX.out _ HB.out) | (go_at_call 74; refine (HA.out _ (below1t HB.out)).mono ?_; rintro e w' ⟨rfl, hz⟩; have HB := hide (belowt HB.out hz); clear hz; obtain ⟨c1, c2, c3, c9, c10, c11, c12⟩ := HX.out _ HB.out) | (go_at_call 86; refine (HT.out _ _ _ _ _ (by first | exact HL.out | exact HR.out)).mono ?_; rintro e w' ⟨rfl, hz⟩; have HB := hide (belowt HB.out hz); clear hz; obtain ⟨c1, c2, c3, c9, c10, c11, c12⟩ := HX.out _ HB.out))
          go_ret
          exact ⟨rfl, below1t HB.out⟩
        · have HE : Hid (litE ⟨1, ⟨p, ao, len, cap, aoff, ts⟩, 0, ⟨lk, ln, ls, lo⟩, ⟨rk, rn, rs, ro⟩, off⟩ = atomE p ts) := by show litE _ = _; unfold litE; simp [z1, z2]
          rw [HE.out]
          clear HE
          go_enter Tryz.func77, Tryz.ntmps77
          have HB := hide (Below.refl (w.alloc (.cells #[.int .i64 1, .string p, .slice ao len cap, .int .i64 aoff, .int .i64 0, .int .i64 lk, .int .i64 ln, .string ls, .int .i64 lo, .int .i64 rk, .int .i64 rn, .string rs, .int .i64 ro, .int .i64 off] 56)).heap.size (w.alloc (.cells #[.int .i64 1, .string p, .slice ao len cap, .int .i64 aoff, .int .i64 0, .int .i64 lk, .int .i64 ln, .string ls, .int .i64 lo, .int .i64 rk, .int .i64 rn, .string rs, .int .i64 ro, .int .i64 off] 56)))
          have HX := hide (fun w' (hb : Below (w.alloc (.cells #[.int .i64 1, .string p, .slice ao len cap, .int .i64 aoff, .int .i64 0, .int .i64 lk, .int .i64 ln, .string ls, .int .i64 lo, .int .i64 rk, .int .i64 rn, .string rs, .int .i64 ro, .int .i64 off] 56)).heap.size (w.alloc (.cells #[.int .i64 1, .string p, .slice ao len cap, .int .i64 aoff, .int .i64 0, .int .i64 lk, .int .i64 ln, .string ls, .int .i64 lo, .int .i64 rk, .int .i64 rn, .string rs, .int .i64 ro, .int .i64 off] 56)) w') => lit_cells w 1 p ao len cap aoff 0 lk ln ls lo rk rn rs ro off w' hb)
          go_wp2_with (first | (go_at_call 87; refine (HZ.out _ _ _ _ _).mono ?_; rintro e w' ⟨rfl, hz⟩; have HB := hide (belowt HB.out hz); clear hz; obtain ⟨c1, c2, c3, c9, c10, c11, c12⟩ := HX.out _ HB.out) | (go_at_call 74; refine (HA.out _ (below1t HB.out)).mono ?_; rintro e w' ⟨rfl, hz⟩; have HB := hide (belowt HB.out hz); clear hz; obtain ⟨c1, c2, c3, c9, c10, c11, c12⟩ := HX.out _ HB.out) | (go_at_call 86; refine (HT.out _ _ _ _ _ (by first | exact HL.out | exact HR.out)).mono ?_; rintro e w' ⟨rfl, hz⟩; have HB := hide (belowt HB.out hz); clear hz; obtain ⟨c1, c2, c3, c9, c10, c11, c12⟩ := HX.out _ HB.out))
          go_ret
          exact ⟨rfl, below1t HB.out⟩
    · have h0' : (op != 0) = true := by simpa using h0
      have HE : Hid (litE ⟨1, ⟨p, ao, len, cap, aoff, ts⟩, op, ⟨lk, ln, ls, lo⟩, ⟨rk, rn, rs, ro⟩, off⟩ = 2) := by show litE _ = _; unfold litE; simp [h0]
      rw [HE.out]
      clear HE h0
      go_enter Tryz.func77, Tryz.ntmps77
      have HB := hide (Below.refl (w.alloc (.cells #[.int .i64 1, .string p, .slice ao len cap, .int .i64 aoff, .int .i64 op, .int .i64 lk, .int .i64 ln, .string ls, .int .i64 lo, .int .i64 rk, .int .i64 rn, .string rs, .int .i64 ro, .int .i64 off] 56)).heap.size (w.alloc (.cells #[.int .i64 1, .string p, .slice ao len cap, .int .i64 aoff, .int .i64 op, .int .i64 lk, .int .i64 ln, .string ls, .int .i64 lo, .int .i64 rk, .int .i64 rn, .string rs, .int .i64 ro, .int .i64 off] 56)))
      have HX := hide (fun w' (hb : Below (w.alloc (.cells #[.int .i64 1, .string p, .slice ao len cap, .int .i64 aoff, .int .i64 op, .int .i64 lk, .int .i64 ln, .string ls, .int .i64 lo, .int .i64 rk, .int .i64 rn, .string rs, .int .i64 ro, .int .i64 off] 56)).heap.size (w.alloc (.cells #[.int .i64 1, .string p, .slice ao len cap, .int .i64 aoff, .int .i64 op, .int .i64 lk, .int .i64 ln, .string ls, .int .i64 lo, .int .i64 rk, .int .i64 rn, .string rs, .int .i64 ro, .int .i64 off] 56)) w') => lit_cells w 1 p ao len cap aoff op lk ln ls lo rk rn rs ro off w' hb)
      go_wp2_with (first | (go_at_call 87; refine (HZ.out _ _ _ _ _).mono ?_; rintro e w' ⟨rfl, hz⟩; have HB := hide (belowt HB.out hz); clear hz; obtain ⟨c1, c2, c3, c9, c10, c11, c12⟩ := HX.out _ HB.out) | (go_at_call 74; refine (HA.out _ (below1t HB.out)).mono ?_; rintro e w' ⟨rfl, hz⟩; have HB := hide (belowt HB.out hz); clear hz; obtain ⟨c1, c2, c3, c9, c10, c11, c12⟩ := HX.out _ HB.out) | (go_at_call 86; refine (HT.out _ _ _ _ _ (by first | exact HL.out | exact HR.out)).mono ?_; rintro e w' ⟨rfl, hz⟩; have HB := hide (belowt HB.out hz); clear hz; obtain ⟨c1, c2, c3, c9, c10, c11, c12⟩ := HX.out _ HB.out))
      go_ret
      exact ⟨rfl, below1t HB.out⟩

  by_cases k2 : k = 2
  · subst k2
    by_cases h0 : op = 0
    · subst h0
      cases z1 : noTerm ⟨lk, ln, ls, lo⟩
      · have HE : Hid (litE ⟨2, ⟨p, ao, len, cap, aoff, ts⟩, 0, ⟨lk, ln, ls, lo⟩, ⟨rk, rn, rs, ro⟩, off⟩ = 2) := by show litE _ = _; unfold litE; simp [z1]
        rw [HE.out]
        clear HE
        go_enter Tryz.func77, Tryz.ntmps77
        have HB := hide (Below.refl (w.alloc (.cells #[.int .i64 2, .string p, .slice ao len cap, .int .i64 aoff, .int .i64 0, .int .i64 lk, .int .i64 ln, .string ls, .int .i64 lo, .int .i64 rk, .int .i64 rn, .string rs, .int .i64 ro, .int .i64 off] 56)).heap.size (w.alloc (.cells #[.int .i64 2, .string p, .slice ao len cap, .int .i64 aoff, .int .i64 0, .int .i64 lk, .int .i64 ln, .string ls, .int .i64 lo, .int .i64 rk, .int .i64 rn, .string rs, .int .i64 ro, .int .i64 off] 56)))
        have HX := hide (fun w' (hb : Below (w.alloc (.cells #[.int .i64 2, .string p, .slice ao len cap, .int .i64 aoff, .int .i64 0, .int .i64 lk, .int .i64 ln, .string ls, .int .i64 lo, .int .i64 rk, .int .i64 rn, .string rs, .int .i64 ro, .int .i64 off] 56)).heap.size (w.alloc (.cells #[.int .i64 2, .string p, .slice ao len cap, .int .i64 aoff, .int .i64 0, .int .i64 lk, .int .i64 ln, .string ls, .int .i64 lo, .int .i64 rk, .int .i64 rn, .string rs, .int .i64 ro, .int .i64 off] 56)) w') => lit_cells w 2 p ao len cap aoff 0 lk ln ls lo rk rn rs ro off w' hb)
        go_wp2_with (first | (go_at_call 87; refine (HZ.out _ _ _ _ _).mono ?_; rintro e w' ⟨rfl, hz⟩; have HB := hide (belowt HB.out hz); clear hz; obtain ⟨c1, c2, c3, c9, c10, c11, c12⟩ := HX.out _ HB.out) | (go_at_call 74; refine (HA.out _ (below1t HB.out)).mono ?_; rintro e w' ⟨rfl, hz⟩; have HB := hide (belowt HB.out hz); clear hz; obtain ⟨c1, c2, c3, c9, c10, c11, c12⟩ := HX.out _ HB.out) | (go_at_call 86; refine (HT.out _ _ _ _ _ (by first | exact HL.out | exact HR.out)).mono ?_; rintro e w' ⟨rfl, hz⟩; have HB := hide (belowt HB.out hz); clear hz; obtain ⟨c1, c2, c3, c9, c10, c11, c12⟩ := HX.out _ HB.out))
        go_ret
        exact ⟨rfl, below1t HB.out⟩
      · cases z2 : noTerm ⟨rk, rn, rs, ro⟩
        · have HE : Hid (litE ⟨2, ⟨p, ao, len, cap, aoff, ts⟩, 0, ⟨lk, ln, ls, lo⟩, ⟨rk, rn, rs, ro⟩, off⟩ = 2) := by show litE _ = _; unfold litE; simp [z1, z2]
          rw [HE.out]
          clear HE
          go_enter Tryz.func77, Tryz.ntmps77
          have HB := hide (Below.refl (w.alloc (.cells #[.int .i64 2, .string p, .slice ao len cap, .int .i64 aoff, .int .i64 0, .int .i64 lk, .int .i64 ln, .string ls, .int .i64 lo, .int .i64 rk, .int .i64 rn, .string rs, .int .i64 ro, .int .i64 off] 56)).heap.size (w.alloc (.cells #[.int .i64 2, .string p, .slice ao len cap, .int .i64 aoff, .int .i64 0, .int .i64 lk, .int .i64 ln, .string ls, .int .i64 lo, .int .i64 rk, .int .i64 rn, .string rs, .int .i64 ro, .int .i64 off] 56)))
          have HX := hide (fun w' (hb : Below (w.alloc (.cells #[.int .i64 2, .string p, .slice ao len cap, .int .i64 aoff, .int .i64 0, .int .i64 lk, .int .i64 ln, .string ls, .int .i64 lo, .int .i64 rk, .int .i64 rn, .string rs, .int .i64 ro, .int .i64 off] 56)).heap.size (w.alloc (.cells #[.int .i64 2, .string p, .slice ao len cap, .int .i64 aoff, .int .i64 0, .int .i64 lk, .int .i64 ln, .string ls, .int .i64 lo, .int .i64 rk, .int .i64 rn, .string rs, .int .i64 ro, .int .i64 off] 56)) w') => lit_cells w 2 p ao len cap aoff 0 lk ln ls lo rk rn rs ro off w' hb)
          go_wp2_with (first | (go_at_call 87; refine (HZ.out _ _ _ _ _).mono ?_; rintro e w' ⟨rfl, hz⟩; have HB := hide (belowt HB.out hz); clear hz; obtain ⟨c1, c2, c3, c9, c10, c11, c12⟩ := HX.out _ HB.out) | (go_at_call 74; refine (HA.out _ (below1t HB.out)).mono ?_; rintro e w' ⟨rfl, hz⟩; have HB := hide (belowt HB.out hz); clear hz; obtain ⟨c1, c2, c3, c9, c10, c11, c12⟩ := HX.out _ HB.out) | (go_at_call 86; refine (HT.out _ _ _ _ _ (by first | exact HL.out | exact HR.out)).mono ?_; rintro e w' ⟨rfl, hz⟩; have HB := hide (belowt HB.out hz); clear hz; obtain ⟨c1, c2, c3, c9, c10, c11, c12⟩ := HX.out _ HB.out))
          go_ret
          exact ⟨rfl, below1t HB.out⟩
        · have HE : Hid (litE ⟨2, ⟨p, ao, len, cap, aoff, ts⟩, 0, ⟨lk, ln, ls, lo⟩, ⟨rk, rn, rs, ro⟩, off⟩ = atomE p ts) := by show litE _ = _; unfold litE; simp [z1, z2]
          rw [HE.out]
          clear HE
          go_enter Tryz.func77, Tryz.ntmps77
          have HB := hide (Below.refl (w.alloc (.cells #[.int .i64 2, .string p, .slice ao len cap, .int .i64 aoff, .int .i64 0, .int .i64 lk, .int .i64 ln, .string ls, .int .i64 lo, .int .i64 rk, .int .i64 rn, .string rs, .int .i64 ro, .int .i64 off] 56)).heap.size (w.alloc (.cells #[.int .i64 2, .string p, .slice ao len cap, .int .i64 aoff, .int .i64 0, .int .i64 lk, .int .i64 ln, .string ls, .int .i64 lo, .int .i64 rk, .int .i64 rn, .string rs, .int .i64 ro, .int .i64 off] 56)))
          have HX := hide (fun w' (hb : Below (w.alloc (.cells #[.int .i64 2, .string p, .slice ao len cap, .int .i64 aoff, .int .i64 0, .int .i64 lk, .int .i64 ln, .string ls, .int .i64 lo, .int .i64 rk, .int .i64 rn, .string rs, .int .i64 ro, .int .i64 off] 56)).heap.size (w.alloc (.cells #[.int .i64 2, .string p, .slice ao len cap, .int .i64 aoff, .int .i64 0, .int .i64 lk, .int .i64 ln, .string ls, .int .i64 lo, .int .i64 rk, .int .i64 rn, .string rs, .int .i64 ro, .int .i64 off] 56)) w') => lit_cells w 2 p ao len cap aoff 0 lk ln ls lo rk rn rs ro off w' hb)
          go_wp2_with (first | (go_at_call 87; refine (HZ.out _ _ _ _ _).mono ?_; rintro e w' ⟨rfl, hz⟩; have HB := hide (belowt HB.out hz); clear hz; obtain ⟨c1, c2, c3, c9, c10, c11, c12⟩ := HX.out _ HB.out) | (go_at_call 74; refine (HA.out _ (below1t HB.out)).mono ?_; rintro e w' ⟨rfl, hz⟩; have HB := hide (belowt HB.out hz); clear hz; obtain ⟨c1, c2, c3, c9, c10, c11, c12⟩ := HX.out _ HB.out) | (go_at_call 86; refine (HT.out _ _ _ _ _ (by first | exact HL.out | exact HR.out)).mono ?_; rintro e w' ⟨rfl, hz⟩; have HB := hide (belowt HB.out hz); clear hz; obtain ⟨c1, c2, c3, c9, c10, c11, c12⟩ := HX.out _ HB.out))
          go_ret
          exact ⟨rfl, below1t HB.out⟩
    · have h0' : (op != 0) = true := by simpa using h0
      have HE : Hid (litE ⟨2, ⟨p, ao, len, cap, aoff, ts⟩, op, ⟨lk, ln, ls, lo⟩, ⟨rk, rn, rs, ro⟩, off⟩ = 2) := by show litE _ = _; unfold litE; simp [h0]
      rw [HE.out]
      clear HE h0
      go_enter Tryz.func77, Tryz.ntmps77
      have HB := hide (Below.refl (w.alloc (.cells #[.int .i64 2, .string p, .slice ao len cap, .int .i64 aoff, .int .i64 op, .int .i64 lk, .int .i64 ln, .string ls, .int .i64 lo, .int .i64 rk, .int .i64 rn, .string rs, .int .i64 ro, .int .i64 off] 56)).heap.size (w.alloc (.cells #[.int .i64 2, .string p, .slice ao len cap, .int .i64 aoff, .int .i64 op, .int .i64 lk, .int .i64 ln, .string ls, .int .i64 lo, .int .i64 rk, .int .i64 rn, .string rs, .int .i64 ro, .int .i64 off] 56)))
      have HX := hide (fun w' (hb : Below (w.alloc (.cells #[.int .i64 2, .string p, .slice ao len cap, .int .i64 aoff, .int .i64 op, .int .i64 lk, .int .i64 ln, .string ls, .int .i64 lo, .int .i64 rk, .int .i64 rn, .string rs, .int .i64 ro, .int .i64 off] 56)).heap.size (w.alloc (.cells #[.int .i64 2, .string p, .slice ao len cap, .int .i64 aoff, .int .i64 op, .int .i64 lk, .int .i64 ln, .string ls, .int .i64 lo, .int .i64 rk, .int .i64 rn, .string rs, .int .i64 ro, .int .i64 off] 56)) w') => lit_cells w 2 p ao len cap aoff op lk ln ls lo rk rn rs ro off w' hb)
      go_wp2_with (first | (go_at_call 87; refine (HZ.out _ _ _ _ _).mono ?_; rintro e w' ⟨rfl, hz⟩; have HB := hide (belowt HB.out hz); clear hz; obtain ⟨c1, c2, c3, c9, c10, c11, c12⟩ := HX.out _ HB.out) | (go_at_call 74; refine (HA.out _ (below1t HB.out)).mono ?_; rintro e w' ⟨rfl, hz⟩; have HB := hide (belowt HB.out hz); clear hz; obtain ⟨c1, c2, c3, c9, c10, c11, c12⟩ := HX.out _ HB.out) | (go_at_call 86; refine (HT.out _ _ _ _ _ (by first | exact HL.out | exact HR.out)).mono ?_; rintro e w' ⟨rfl, hz⟩; have HB := hide (belowt HB.out hz); clear hz; obtain ⟨c1, c2, c3, c9, c10, c11, c12⟩ := HX.out _ HB.out))
      go_ret
      exact ⟨rfl, below1t HB.out⟩

  by_cases k3 : k = 3
  · subst k3
    by_cases o1 : op < 1
    · have HE : Hid (litE ⟨3, ⟨p, ao, len, cap, aoff, ts⟩, op, ⟨lk, ln, ls, lo⟩, ⟨rk, rn, rs, ro⟩, off⟩ = 2) := by show litE _ = _; unfold litE; simp [o1]
      rw [HE.out]
      clear HE
      go_enter Tryz.func77, Tryz.ntmps77
      have HB := hide (Below.refl (w.alloc (.cells #[.int .i64 3, .string p, .slice ao len cap, .int .i64 aoff, .int .i64 op, .int .i64 lk, .int .i64 ln, .string ls, .int .i64 lo, .int .i64 rk, .int .i64 rn, .string rs, .int .i64 ro, .int .i64 off] 56)).heap.size (w.alloc (.cells #[.int .i64 3, .string p, .slice ao len cap, .int .i64 aoff, .int .i64 op, .int .i64 lk, .int .i64 ln, .string ls, .int .i64 lo, .int .i64 rk, .int .i64 rn, .string rs, .int .i64 ro, .int .i64 off] 56)))
      have HX := hide (fun w' (hb : Below (w.alloc (.cells #[.int .i64 3, .string p, .slice ao len cap, .int .i64 aoff, .int .i64 op, .int .i64 lk, .int .i64 ln, .string ls, .int .i64 lo, .int .i64 rk, .int .i64 rn, .string rs, .int .i64 ro, .int .i64 off] 56)).heap.size (w.alloc (.cells #[.int .i64 3, .string p, .slice ao len cap, .int .i64 aoff, .int .i64 op, .int .i64 lk, .int .i64 ln, .string ls, .int .i64 lo, .int .i64 rk, .int .i64 rn, .string rs, .int .i64 ro, .int .i64 off] 56)) w') => lit_cells w 3 p ao len cap aoff op lk ln ls lo rk rn rs ro off w' hb)
      go_wp2_with (first | (go_at_call 87; refine (HZ.out _ _ _ _ _).mono ?_; rintro e w' ⟨rfl, hz⟩; have HB := hide (belowt HB.out hz); clear hz; obtain ⟨c1, c2, c3, c9, c10, c11, c12⟩ := HX.out _ HB.out) | (go_at_call 74; refine (HA.out _ (below1t HB.out)).mono ?_; rintro e w' ⟨rfl, hz⟩; have HB := hide (belowt HB.out hz); clear hz; obtain ⟨c1, c2, c3, c9, c10, c11, c12⟩ := HX.out _ HB.out) | (go_at_call 86; refine (HT.out _ _ _ _ _ (by first | exact HL.out | exact HR.out)).mono ?_; rintro e w' ⟨rfl, hz⟩; have HB := hide (belowt HB.out hz); clear hz; obtain ⟨c1, c2, c3, c9, c10, c11, c12⟩ := HX.out _ HB.out))
      go_ret
      exact ⟨rfl, below1t HB.out⟩
    · by_cases o6 : 6 < op
      · have HE : Hid (litE ⟨3, ⟨p, ao, len, cap, aoff, ts⟩, op, ⟨lk, ln, ls, lo⟩, ⟨rk, rn, rs, ro⟩, off⟩ = 2) := by show litE _ = _; unfold litE; simp [o1, o6]
        rw [HE.out]
        clear HE
        go_enter Tryz.func77, Tryz.ntmps77
        have HB := hide (Below.refl (w.alloc (.cells #[.int .i64 3, .string p, .slice ao len cap, .int .i64 aoff, .int .i64 op, .int .i64 lk, .int .i64 ln, .string ls, .int .i64 lo, .int .i64 rk, .int .i64 rn, .string rs, .int .i64 ro, .int .i64 off] 56)).heap.size (w.alloc (.cells #[.int .i64 3, .string p, .slice ao len cap, .int .i64 aoff, .int .i64 op, .int .i64 lk, .int .i64 ln, .string ls, .int .i64 lo, .int .i64 rk, .int .i64 rn, .string rs, .int .i64 ro, .int .i64 off] 56)))
        have HX := hide (fun w' (hb : Below (w.alloc (.cells #[.int .i64 3, .string p, .slice ao len cap, .int .i64 aoff, .int .i64 op, .int .i64 lk, .int .i64 ln, .string ls, .int .i64 lo, .int .i64 rk, .int .i64 rn, .string rs, .int .i64 ro, .int .i64 off] 56)).heap.size (w.alloc (.cells #[.int .i64 3, .string p, .slice ao len cap, .int .i64 aoff, .int .i64 op, .int .i64 lk, .int .i64 ln, .string ls, .int .i64 lo, .int .i64 rk, .int .i64 rn, .string rs, .int .i64 ro, .int .i64 off] 56)) w') => lit_cells w 3 p ao len cap aoff op lk ln ls lo rk rn rs ro off w' hb)
        go_wp2_with (first | (go_at_call 87; refine (HZ.out _ _ _ _ _).mono ?_; rintro e w' ⟨rfl, hz⟩; have HB := hide (belowt HB.out hz); clear hz; obtain ⟨c1, c2, c3, c9, c10, c11, c12⟩ := HX.out _ HB.out) | (go_at_call 74; refine (HA.out _ (below1t HB.out)).mono ?_; rintro e w' ⟨rfl, hz⟩; have HB := hide (belowt HB.out hz); clear hz; obtain ⟨c1, c2, c3, c9, c10, c11, c12⟩ := HX.out _ HB.out) | (go_at_call 86; refine (HT.out _ _ _ _ _ (by first | exact HL.out | exact HR.out)).mono ?_; rintro e w' ⟨rfl, hz⟩; have HB := hide (belowt HB.out hz); clear hz; obtain ⟨c1, c2, c3, c9, c10, c11, c12⟩ := HX.out _ HB.out))
        go_ret
        exact ⟨rfl, below1t HB.out⟩
      · cases hp : (p.toList == [])
        · have HE : Hid (litE ⟨3, ⟨p, ao, len, cap, aoff, ts⟩, op, ⟨lk, ln, ls, lo⟩, ⟨rk, rn, rs, ro⟩, off⟩ = 2) := by show litE _ = _; unfold litE; dsimp only; rw [hp]; simp [o1, o6]
          rw [HE.out]
          clear HE
          go_enter Tryz.func77, Tryz.ntmps77
          have HB := hide (Below.refl (w.alloc (.cells #[.int .i64 3, .string p, .slice ao len cap, .int .i64 aoff, .int .i64 op, .int .i64 lk, .int .i64 ln, .string ls, .int .i64 lo, .int .i64 rk, .int .i64 rn, .string rs, .int .i64 ro, .int .i64 off] 56)).heap.size (w.alloc (.cells #[.int .i64 3, .string p, .slice ao len cap, .int .i64 aoff, .int .i64 op, .int .i64 lk, .int .i64 ln, .string ls, .int .i64 lo, .int .i64 rk, .int .i64 rn, .string rs, .int .i64 ro, .int .i64 off] 56)))
          have HX := hide (fun w' (hb : Below (w.alloc (.cells #[.int .i64 3, .string p, .slice ao len cap, .int .i64 aoff, .int .i64 op, .int .i64 lk, .int .i64 ln, .string ls, .int .i64 lo, .int .i64 rk, .int .i64 rn, .string rs, .int .i64 ro, .int .i64 off] 56)).heap.size (w.alloc (.cells #[.int .i64 3, .string p, .slice ao len cap, .int .i64 aoff, .int .i64 op, .int .i64 lk, .int .i64 ln, .string ls, .int .i64 lo, .int .i64 rk, .int .i64 rn, .string rs, .int .i64 ro, .int .i64 off] 56)) w') => lit_cells w 3 p ao len cap aoff op lk ln ls lo rk rn rs ro off w' hb)
          go_wp2_with (first | (go_at_call 87; refine (HZ.out _ _ _ _ _).mono ?_; rintro e w' ⟨rfl, hz⟩; have HB := hide (belowt HB.out hz); clear hz; obtain ⟨c1, c2, c3, c9, c10, c11, c12⟩ := HX.out _ HB.out) | (go_at_call 74; refine (HA.out _ (below1t HB.out)).mono ?_; rintro e w' ⟨rfl, hz⟩; have HB := hide (belowt HB.out hz); clear hz; obtain ⟨c1, c2, c3, c9, c10, c11, c12⟩ := HX.out _ HB.out) | (go_at_call 86; refine (HT.out _ _ _ _ _ (by first | exact HL.out | exact HR.out)).mono ?_; rintro e w' ⟨rfl, hz⟩; have HB := hide (belowt HB.out hz); clear hz; obtain ⟨c1, c2, c3, c9, c10, c11, c12⟩ := HX.out _ HB.out))
          go_ret
          exact ⟨rfl, below1t HB.out⟩
        · by_cases hn : 0 < len
          · have HE : Hid (litE ⟨3, ⟨p, ao, len, cap, aoff, ts⟩, op, ⟨lk, ln, ls, lo⟩, ⟨rk, rn, rs, ro⟩, off⟩ = 2) := by show litE _ = _; unfold litE; dsimp only; rw [hp, HS.out]; simp [o1, o6, hn]
            rw [HE.out]
            clear HE
            have hn' : (0 : Int) < (len : Int) := by omega
            go_enter Tryz.func77, Tryz.ntmps77
            have HB := hide (Below.refl (w.alloc (.cells #[.int .i64 3, .string p, .slice ao len cap, .int .i64 aoff, .int .i64 op, .int .i64 lk, .int .i64 ln, .string ls, .int .i64 lo, .int .i64 rk, .int .i64 rn, .string rs, .int .i64 ro, .int .i64 off] 56)).heap.size (w.alloc (.cells #[.int .i64 3, .string p, .slice ao len cap, .int .i64 aoff, .int .i64 op, .int .i64 lk, .int .i64 ln, .string ls, .int .i64 lo, .int .i64 rk, .int .i64 rn, .string rs, .int .i64 ro, .int .i64 off] 56)))
            have HX := hide (fun w' (hb : Below (w.alloc (.cells #[.int .i64 3, .string p, .slice ao len cap, .int .i64 aoff, .int .i64 op, .int .i64 lk, .int .i64 ln, .string ls, .int .i64 lo, .int .i64 rk, .int .i64 rn, .string rs, .int .i64 ro, .int .i64 off] 56)).heap.size (w.alloc (.cells #[.int .i64 3, .string p, .slice ao len cap, .int .i64 aoff, .int .i64 op, .int .i64 lk, .int .i64 ln, .string ls, .int .i64 lo, .int .i64 rk, .int .i64 rn, .string rs, .int .i64 ro, .int .i64 off] 56)) w') => lit_cells w 3 p ao len cap aoff op lk ln ls lo rk rn rs ro off w' hb)
            go_wp2_with (first | (go_at_call 87; refine (HZ.out _ _ _ _ _).mono ?_; rintro e w' ⟨rfl, hz⟩; have HB := hide (belowt HB.out hz); clear hz; obtain ⟨c1, c2, c3, c9, c10, c11, c12⟩ := HX.out _ HB.out) | (go_at_call 74; refine (HA.out _ (below1t HB.out)).mono ?_; rintro e w' ⟨rfl, hz⟩; have HB := hide (belowt HB.out hz); clear hz; obtain ⟨c1, c2, c3, c9, c10, c11, c12⟩ := HX.out _ HB.out) | (go_at_call 86; refine (HT.out _ _ _ _ _ (by first | exact HL.out | exact HR.out)).mono ?_; rintro e w' ⟨rfl, hz⟩; have HB := hide (belowt HB.out hz); clear hz; obtain ⟨c1, c2, c3, c9, c10, c11, c12⟩ := HX.out _ HB.out))
            go_ret
            exact ⟨rfl, below1t HB.out⟩
          · have hn' : ¬ (0 : Int) < (len : Int) := by omega
            by_cases t1 : termE ⟨lk, ln, ls, lo⟩ = 0
            · have HE : Hid (litE ⟨3, ⟨p, ao, len, cap, aoff, ts⟩, op, ⟨lk, ln, ls, lo⟩, ⟨rk, rn, rs, ro⟩, off⟩ = termE ⟨rk, rn, rs, ro⟩) := by show litE _ = _; unfold litE; dsimp only; rw [hp, HS.out]; simp [o1, o6, hn, t1]
              rw [HE.out]
              clear HE
              go_enter Tryz.func77, Tryz.ntmps77
              have HB := hide (Below.refl (w.alloc (.cells #[.int .i64 3, .string p, .slice ao len cap, .int .i64 aoff, .int .i64 op, .int .i64 lk, .int .i64 ln, .string ls, .int .i64 lo, .int .i64 rk, .int .i64 rn, .string rs, .int .i64 ro, .int .i64 off] 56)).heap.size (w.alloc (.cells #[.int .i64 3, .string p, .slice ao len cap, .int .i64 aoff, .int .i64 op, .int .i64 lk, .int .i64 ln, .string ls, .int .i64 lo, .int .i64 rk, .int .i64 rn, .string rs, .int .i64 ro, .int .i64 off] 56)))
              have HX := hide (fun w' (hb : Below (w.alloc (.cells #[.int .i64 3, .string p, .slice ao len cap, .int .i64 aoff, .int .i64 op, .int .i64 lk, .int .i64 ln, .string ls, .int .i64 lo, .int .i64 rk, .int .i64 rn, .string rs, .int .i64 ro, .int .i64 off] 56)).heap.size (w.alloc (.cells #[.int .i64 3, .string p, .slice ao len cap, .int .i64 aoff, .int .i64 op, .int .i64 lk, .int .i64 ln, .string ls, .int .i64 lo, .int .i64 rk, .int .i64 rn, .string rs, .int .i64 ro, .int .i64 off] 56)) w') => lit_cells w 3 p ao len cap aoff op lk ln ls lo rk rn rs ro off w' hb)
              go_wp2_with (first | (go_at_call 87; refine (HZ.out _ _ _ _ _).mono ?_; rintro e w' ⟨rfl, hz⟩; have HB := hide (belowt HB.out hz); clear hz; obtain ⟨c1, c2, c3, c9, c10, c11, c12⟩ := HX.out _ HB.out) | (go_at_call 74; refine (HA.out _ (below1t HB.out)).mono ?_; rintro e w' ⟨rfl, hz⟩; have HB := hide (belowt HB.out hz); clear hz; obtain ⟨c1, c2, c3, c9, c10, c11, c12⟩ := HX.out _ HB.out) | (go_at_call 86; refine (HT.out _ _ _ _ _ (by first | exact HL.out | exact HR.out)).mono ?_; rintro e w' ⟨rfl, hz⟩; have HB := hide (belowt HB.out hz); clear hz; obtain ⟨c1, c2, c3, c9, c10, c11, c12⟩ := HX.out _ HB.out))
              go_ret
              exact ⟨rfl, below1t HB.out⟩
            · have t1' : (termE ⟨lk, ln, ls, lo⟩ != 0) = true := by simpa using t1
              have HE : Hid (litE ⟨3, ⟨p, ao, len, cap, aoff, ts⟩, op, ⟨lk, ln, ls, lo⟩, ⟨rk, rn, rs, ro⟩, off⟩ = termE ⟨lk, ln, ls, lo⟩) := by show litE _ = _; unfold litE; dsimp only; rw [hp, HS.out]; simp [o1, o6, hn, t1]
              rw [HE.out]
              clear HE t1
              go_enter Tryz.func77, Tryz.ntmps77
              have HB := hide (Below.refl (w.alloc (.cells #[.int .i64 3, .string p, .slice ao len cap, .int .i64 aoff, .int .i64 op, .int .i64 lk, .int .i64 ln, .string ls, .int .i64 lo, .int .i64 rk, .int .i64 rn, .string rs, .int .i64 ro, .int .i64 off] 56)).heap.size (w.alloc (.cells #[.int .i64 3, .string p, .slice ao len cap, .int .i64 aoff, .int .i64 op, .int .i64 lk, .int .i64 ln, .string ls, .int .i64 lo, .int .i64 rk, .int .i64 rn, .string rs, .int .i64 ro, .int .i64 off] 56)))
              have HX := hide (fun w' (hb : Below (w.alloc (.cells #[.int .i64 3, .string p, .slice ao len cap, .int .i64 aoff, .int .i64 op, .int .i64 lk, .int .i64 ln, .string ls, .int .i64 lo, .int .i64 rk, .int .i64 rn, .string rs, .int .i64 ro, .int .i64 off] 56)).heap.size (w.alloc (.cells #[.int .i64 3, .string p, .slice ao len cap, .int .i64 aoff, .int .i64 op, .int .i64 lk, .int .i64 ln, .string ls, .int .i64 lo, .int .i64 rk, .int .i64 rn, .string rs, .int .i64 ro, .int .i64 off] 56)) w') => lit_cells w 3 p ao len cap aoff op lk ln ls lo rk rn rs ro off w' hb)
              go_wp2_with (first | (go_at_call 87; refine (HZ.out _ _ _ _ _).mono ?_; rintro e w' ⟨rfl, hz⟩; have HB := hide (belowt HB.out hz); clear hz; obtain ⟨c1, c2, c3, c9, c10, c11, c12⟩ := HX.out _ HB.out) | (go_at_call 74; refine (HA.out _ (below1t HB.out)).mono ?_; rintro e w' ⟨rfl, hz⟩; have HB := hide (belowt HB.out hz); clear hz; obtain ⟨c1, c2, c3, c9, c10, c11, c12⟩ := HX.out _ HB.out) | (go_at_call 86; refine (HT.out _ _ _ _ _ (by first | exact HL.out | exact HR.out)).mono ?_; rintro e w' ⟨rfl, hz⟩; have HB := hide (belowt HB.out hz); clear hz; obtain ⟨c1, c2, c3, c9, c10, c11, c12⟩ := HX.out _ HB.out))
              go_ret
              exact ⟨rfl, below1t HB.out⟩
  have e1 : (k == 1) = false := by simpa using k1
  have e2 : (k == 2) = false := by simpa using k2
  have e3 : (k == 3) = false := by simpa using k3
  have HE : Hid (litE ⟨k, ⟨p, ao, len, cap, aoff, ts⟩, op, ⟨lk, ln, ls, lo⟩, ⟨rk, rn, rs, ro⟩, off⟩ = 2) := by show litE _ = _; unfold litE; simp [k1, k2, k3]
  rw [HE.out]
  clear HE k1 k2 k3
  go_enter Tryz.func77, Tryz.ntmps77
  have HB := hide (Below.refl (w.alloc (.cells #[.int .i64 k, .string p, .slice ao len cap, .int .i64 aoff, .int .i64 op, .int .i64 lk, .int .i64 ln, .string ls, .int .i64 lo, .int .i64 rk, .int .i64 rn, .string rs, .int .i64 ro, .int .i64 off] 56)).heap.size (w.alloc (.cells #[.int .i64 k, .string p, .slice ao len cap, .int .i64 aoff, .int .i64 op, .int .i64 lk, .int .i64 ln, .string ls, .int .i64 lo, .int .i64 rk, .int .i64 rn, .string rs, .int .i64 ro, .int .i64 off] 56)))
  have HX := hide (fun w' (hb : Below (w.alloc (.cells #[.int .i64 k, .string p, .slice ao len cap, .int .i64 aoff, .int .i64 op, .int .i64 lk, .int .i64 ln, .string ls, .int .i64 lo, .int .i64 rk, .int .i64 rn, .string rs, .int .i64 ro, .int .i64 off] 56)).heap.size (w.alloc (.cells #[.int .i64 k, .string p, .slice ao len cap, .int .i64 aoff, .int .i64 op, .int .i64 lk, .int .i64 ln, .string ls, .int .i64 lo, .int .i64 rk, .int .i64 rn, .string rs, .int .i64 ro, .int .i64 off] 56)) w') => lit_cells w k p ao len cap aoff op lk ln ls lo rk rn rs ro off w' hb)
  go_wp2_with (first | (go_at_call 87; refine (HZ.out _ _ _ _ _).mono ?_; rintro e w' ⟨rfl, hz⟩; have HB := hide (belowt HB.out hz); clear hz; obtain ⟨c1, c2, c3, c9, c10, c11, c12⟩ := HX.out _ HB.out) | (go_at_call 74; refine (HA.out _ (below1t HB.out)).mono ?_; rintro e w' ⟨rfl, hz⟩; have HB := hide (belowt HB.out hz); clear hz; obtain ⟨c1, c2, c3, c9, c10, c11, c12⟩ := HX.out _ HB.out) | (go_at_call 86; refine (HT.out _ _ _ _ _ (by first | exact HL.out | exact HR.out)).mono ?_; rintro e w' ⟨rfl, hz⟩; have HB := hide (belowt HB.out hz); clear hz; obtain ⟨c1, c2, c3, c9, c10, c11, c12⟩ := HX.out _ HB.out))
  go_ret
  exact ⟨rfl, below1t HB.out⟩


end Go.Proofs.YtchhophblejmeaaGreatDoor

namespace Go.Proofs.YtchhophblejmeaaGreatDoor
set_option linter.unusedSimpArgs false
set_option linter.unusedVariables false
open Go.RowKit

set_option maxHeartbeats 1000000 in
theorem firstLit (ao : Option Addr) (len cap : Nat) (ts : List Ltr) (w : World) (h : IsLtrs w ao len ts) :
    Calls Tryz.prog 76 #[.slice ao len cap, .func (.func 77) #[] #[]] w fun e w' => e = .returned (.int .i64 (firstE litE ts)) ∧ Below w.heap.size w w' := by
  have H1 := hide h
  have hl : len ≤ 140737488351232 := by have := h.2.1; omega
  clear h
  go_enter Tryz.func76, Tryz.ntmps76
  go_wp2
  go_loopw [4, 10] (fun _ i wr => ∃ k : Nat, k ≤ len ∧ i = .int .i64 k ∧ Hid (∀ y ∈ ts.take k, litE y = 0) ∧ Hid (Below w.heap.size w wr)) (fun _ i _ => len - (intOf i).toNat)
  case atStart => exact ⟨0, Nat.zero_le _, rfl, fun y hy => by simp at hy, Below.refl _ _⟩
  case round =>
    obtain ⟨k, hk, rfl, HA, HB⟩ := hrel
    by_cases hlt : k < len
    · have hi : (k : Int) < (len : Int) := by omega
      obtain ⟨hlen, -, hok, hrow⟩ := H1.out
      obtain ⟨b, off, rfl, hr⟩ := hrow (by omega)
      obtain ⟨t, ht⟩ : ∃ t, ts[k]? = some t := ⟨_, List.getElem?_eq_getElem (by omega)⟩
      obtain ⟨x0, x1, x2, x3, x4, ⟨x5, x6, x7, x8⟩, ⟨x9, x10, x11, x12⟩, x13⟩ := (hr k t ht).kept HB.out
      have HT : Hid (∀ w1, Below w.heap.size w w1 → Calls Tryz.prog 77 #[t.val] w1 fun e w' => e = .returned (.int .i64 (litE t)) ∧ Below w1.heap.size w1 w') := fun w1 hb => whyLit t w1 ((hok t (List.mem_of_getElem? ht)).kept hb)
      rw [show off + k * 14 + 5 + 1 = off + k * 14 + 6 from rfl] at x6
      rw [show off + k * 14 + 5 + 2 = off + k * 14 + 7 from rfl] at x7
      rw [show off + k * 14 + 5 + 3 = off + k * 14 + 8 from rfl] at x8
      rw [show off + k * 14 + 9 + 1 = off + k * 14 + 10 from rfl] at x10
      rw [show off + k * 14 + 9 + 2 = off + k * 14 + 11 from rfl] at x11
      rw [show off + k * 14 + 9 + 3 = off + k * 14 + 12 from rfl] at x12

      unfold Ltr.val at HT
      by_cases hz : litE t = 0
      · have HN := hide (take_zero_more HA.out ht hz)
        rw [hz] at HT
        clear hz HA hlen hok hrow hr ht
        go_wp2_with (go_at_call 77; refine (HT.out _ (belowt HB.out (below1 _ _))).mono ?_; rintro e w' ⟨rfl, hb⟩)
        go_roundw
        case rel => exact ⟨k + 1, by omega, by go_num, HN, hide (belowt HB.out (below1t hb))⟩
        case measure => simp [intOf]; omega
      · have HF := hide (firstE_at HA.out ht hz)
        have hz' : (litE t != 0) = true := by simpa using hz
        clear hz HA hlen hok hrow hr ht
        go_wp2_with (go_at_call 77; refine (HT.out _ (belowt HB.out (below1 _ _))).mono ?_; rintro e w' ⟨rfl, hb⟩)
        go_ret
        exact ⟨by rw [HF.out]; rfl, belowt HB.out (below1t hb)⟩
    · have hi : ¬ (k : Int) < (len : Int) := by omega
      have HF : Hid (firstE litE ts = 0) := firstE_zero fun y hy => HA.out y (by rw [List.take_of_length_le (by have := H1.out.1; omega)]; exact hy)
      go_wp2
      go_ret
      exact ⟨by rw [HF.out]; rfl, HB.out⟩

set_option maxHeartbeats 1000000 in
theorem whyBody (ao : Option Addr) (len cap : Nat) (ls : List Ltr) (w : World) (h : IsLtrs w ao len ls) :
    Calls Tryz.prog 59 #[.slice ao len cap] w fun e w' => e = .returned (.int .i64 (bodyE ls)) ∧ Below w.heap.size w w' := by
  have HT := hide (firstLit ao len cap ls w h)
  have hl : Hid (ls.length = len) := h.1
  have hl2 : len ≤ 140737488351232 := by have := h.2.1; omega
  clear h
  by_cases h8 : 16 < len
  · have HE : Hid (bodyE ls = 23) := by show bodyE _ = 23; unfold bodyE; rw [hl.out]; simp [h8]
    rw [HE.out]
    have hi : (16 : Int) < (len : Int) := by omega
    clear HE
    go_enter Tryz.func59, Tryz.ntmps59
    go_wp2_with (go_at_call 76; refine HT.out.mono ?_; rintro e w' ⟨rfl, hb⟩)
    go_ret
    exact ⟨rfl, Below.refl _ _⟩
  · have HE : Hid (bodyE ls = firstE litE ls) := by show bodyE _ = _; unfold bodyE; rw [hl.out]; simp [h8]
    rw [HE.out]
    have hi : ¬ (16 : Int) < (len : Int) := by omega
    clear HE
    go_enter Tryz.func59, Tryz.ntmps59
    go_wp2_with (go_at_call 76; refine HT.out.mono ?_; rintro e w' ⟨rfl, hb⟩)
    go_ret
    exact ⟨rfl, hb⟩

set_option maxHeartbeats 1000000 in
theorem whyClause (c : Cls) (w : World) (h : c.at w) :
    Calls Tryz.prog 57 #[c.val] w fun e w' => e = .returned (.int .i64 (clauseE c)) ∧ Below w.heap.size w w' := by
  obtain ⟨⟨p, hao, hlen, hcap, hoff, ts⟩, ao, len, cap, ls⟩ := c
  obtain ⟨h1, h2⟩ := h
  have HA := hide (fun w1 (hb : Below w.heap.size w w1) => whyAtom ⟨p, hao, hlen, hcap, hoff, ts⟩ w1 (h1.kept hb))
  have HL := hide (fun w1 (hb : Below w.heap.size w w1) => whyBody ao len cap ls w1 (h2.kept hb))
  clear h1 h2
  unfold Atm.val at HA
  unfold Cls.val
  dsimp only at HA ⊢
  have HX := hide (fun w' (hb : Below (w.alloc (.cells #[.string p, .slice hao hlen hcap, .int .i64 hoff, .slice ao len cap] 88)).heap.size (w.alloc (.cells #[.string p, .slice hao hlen hcap, .int .i64 hoff, .slice ao len cap] 88)) w') => kept_cell hb (show (w.alloc (.cells #[.string p, .slice hao hlen hcap, .int .i64 hoff, .slice ao len cap] 88)).cell? ⟨w.heap.size, 3, none⟩ = some (.slice ao len cap) from by go_simp))
  by_cases hz : atomE p ts = 0
  · have HE : Hid (clauseE ⟨⟨p, hao, hlen, hcap, hoff, ts⟩, ao, len, cap, ls⟩ = bodyE ls) := by show clauseE _ = _; unfold clauseE; simp [hz]
    rw [HE.out]
    rw [hz] at HA
    clear HE hz
    go_enter Tryz.func57, Tryz.ntmps57
    go_wp2_with (first | (go_at_call 74; refine (HA.out _ (below1 _ _)).mono ?_; rintro e w' ⟨rfl, hb1⟩; have c3 := HX.out _ hb1) | (go_at_call 59; refine (HL.out _ (below1t hb1)).mono ?_; rintro e w' ⟨rfl, hb2⟩))
    go_ret
    exact ⟨rfl, below1t (belowt hb1 hb2)⟩
  · have HE : Hid (clauseE ⟨⟨p, hao, hlen, hcap, hoff, ts⟩, ao, len, cap, ls⟩ = atomE p ts) := by show clauseE _ = _; unfold clauseE; simp [hz]
    rw [HE.out]
    have hz' : (atomE p ts != 0) = true := by simpa using hz
    clear HE hz
    go_enter Tryz.func57, Tryz.ntmps57
    go_wp2_with (go_at_call 74; refine (HA.out _ (below1 _ _)).mono ?_; rintro e w' ⟨rfl, hb1⟩)
    go_ret
    exact ⟨rfl, below1t hb1⟩

set_option maxHeartbeats 1000000 in
theorem firstClause (ao : Option Addr) (len cap : Nat) (ts : List Cls) (w : World) (h : IsClss w ao len ts) :
    Calls Tryz.prog 56 #[.slice ao len cap, .func (.func 57) #[] #[]] w fun e w' => e = .returned (.int .i64 (firstE clauseE ts)) ∧ Below w.heap.size w w' := by
  have H1 := hide h
  have hl : len ≤ 140737488351232 := by have := h.2.1; omega
  clear h
  go_enter Tryz.func56, Tryz.ntmps56
  go_wp2
  go_loopw [4, 10] (fun _ i wr => ∃ k : Nat, k ≤ len ∧ i = .int .i64 k ∧ Hid (∀ y ∈ ts.take k, clauseE y = 0) ∧ Hid (Below w.heap.size w wr)) (fun _ i _ => len - (intOf i).toNat)
  case atStart => exact ⟨0, Nat.zero_le _, rfl, fun y hy => by simp at hy, Below.refl _ _⟩
  case round =>
    obtain ⟨k, hk, rfl, HA, HB⟩ := hrel
    by_cases hlt : k < len
    · have hi : (k : Int) < (len : Int) := by omega
      obtain ⟨hlen, -, hok, hrow⟩ := H1.out
      obtain ⟨b, off, rfl, hr⟩ := hrow (by omega)
      obtain ⟨t, ht⟩ : ∃ t, ts[k]? = some t := ⟨_, List.getElem?_eq_getElem (by omega)⟩
      obtain ⟨x0, x1, x2, x3⟩ := (hr k t ht).kept HB.out
      have HT : Hid (∀ w1, Below w.heap.size w w1 → Calls Tryz.prog 57 #[t.val] w1 fun e w' => e = .returned (.int .i64 (clauseE t)) ∧ Below w1.heap.size w1 w') := fun w1 hb => whyClause t w1 ((hok t (List.mem_of_getElem? ht)).kept hb)
      unfold Cls.val at HT
      by_cases hz : clauseE t = 0
      · have HN := hide (take_zero_more HA.out ht hz)
        rw [hz] at HT
        clear hz HA hlen hok hrow hr ht
        go_wp2_with (go_at_call 57; refine (HT.out _ (belowt HB.out (below1 _ _))).mono ?_; rintro e w' ⟨rfl, hb⟩)
        go_roundw
        case rel => exact ⟨k + 1, by omega, by go_num, HN, hide (belowt HB.out (below1t hb))⟩
        case measure => simp [intOf]; omega
      · have HF := hide (firstE_at HA.out ht hz)
        have hz' : (clauseE t != 0) = true := by simpa using hz
        clear hz HA hlen hok hrow hr ht
        go_wp2_with (go_at_call 57; refine (HT.out _ (belowt HB.out (below1 _ _))).mono ?_; rintro e w' ⟨rfl, hb⟩)
        go_ret
        exact ⟨by rw [HF.out]; rfl, belowt HB.out (below1t hb)⟩
    · have hi : ¬ (k : Int) < (len : Int) := by omega
      have HF : Hid (firstE clauseE ts = 0) := firstE_zero fun y hy => HA.out y (by rw [List.take_of_length_le (by have := H1.out.1; omega)]; exact hy)
      go_wp2
      go_ret
      exact ⟨by rw [HF.out]; rfl, HB.out⟩

set_option maxHeartbeats 1000000 in
theorem whyProgram (ao : Option Addr) (len cap : Nat) (cs : List Cls) (w : World) (h : IsClss w ao len cs) :
    Calls Tryz.prog 36 #[.agg #[.slice ao len cap]] w fun e w' => e = .returned (.int .i64 (progE cs)) ∧ Below w.heap.size w w' := by
  have HT := hide (fun w1 (hb : Below w.heap.size w w1) => firstClause ao len cap cs w1 (h.kept hb))
  have hl : Hid (cs.length = len) := h.1
  have hl2 : len ≤ 140737488351232 := by have := h.2.1; omega
  clear h
  by_cases h8 : 512 < len
  · have HE : Hid (progE cs = 24) := by show progE _ = 24; unfold progE; rw [hl.out]; simp [h8]
    rw [HE.out]
    have hi : (512 : Int) < (len : Int) := by omega
    clear HE
    go_enter Tryz.func36, Tryz.ntmps36
    go_wp2_with (go_at_call 56; refine (HT.out _ (below1 _ _)).mono ?_; rintro e w' ⟨rfl, hb⟩)
    go_ret
    exact ⟨rfl, below1 _ _⟩
  · have HE : Hid (progE cs = firstE clauseE cs) := by show progE _ = _; unfold progE; rw [hl.out]; simp [h8]
    rw [HE.out]
    have hi : ¬ (512 : Int) < (len : Int) := by omega
    clear HE
    go_enter Tryz.func36, Tryz.ntmps36
    go_wp2_with (go_at_call 56; refine (HT.out _ (below1 _ _)).mono ?_; rintro e w' ⟨rfl, hb⟩)
    go_ret
    exact ⟨rfl, below1t hb⟩

theorem well_any (ao : Option Addr) (len cap : Nat) (cs : List Cls) (w : World) (h : IsClss w ao len cs) :
    Calls Tryz.prog 18 #[.agg #[.slice ao len cap]] w fun e w' => e = .returned (.int .i64 (progE cs)) ∧ Below w.heap.size w w' := by
  have HT := hide (fun w1 (hb : Below w.heap.size w w1) => whyProgram ao len cap cs w1 (h.kept hb))
  clear h
  go_enter Tryz.func18, Tryz.ntmps18
  go_wp2_with (go_at_call 36; refine (HT.out _ (below1 _ _)).mono ?_; rintro e w' ⟨rfl, hb⟩)
  go_ret
  exact ⟨rfl, below1t hb⟩
end Go.Proofs.YtchhophblejmeaaGreatDoor

namespace Go.Proofs.YtchhophblejmeaaGreatDoor
set_option linter.unusedSimpArgs false
set_option linter.unusedVariables false
open Go.RowKit

/-- A fact: a name and constants. -/
structure Ftx where
  p : ByteArray
  v : Value
  cs : List Con
def elFtx : El Ftx where
  cells c := [.string c.p, c.v]
  size := 2
  pos := by decide
  len _ := rfl
  ok w F c := c.p.size ≤ 140737488351232 ∧ Lst elCon w F c.v c.cs
  one h u hu := by
    simp only [List.mem_cons, List.not_mem_nil, or_false] at hu
    rcases hu with rfl | rfl
    · rfl
    · exact h.2.one
  move h hm := ⟨h.1, h.2.move hm⟩
theorem elFtx_ok {w : World} {F : Nat → Prop} {c : Ftx} (h : elFtx.ok w F c) : c.p.size ≤ 140737488351232 ∧ Lst elCon w F c.v c.cs := h
/-- A fact's text. -/
def conT (c : Con) : List UInt8 := (textC c).data.toList
def fctT (p : ByteArray) (ts : List Con) : List UInt8 := p.data.toList ++ argT (ts.map conT)
def pvFtx (a : Ftx) : Value := .iface 78 (.agg #[.string a.p, a.v])
theorem m_fact (d : Nat) (v : Value) (w : World) : (method (d + 1) 78 v "edict/print.write").run Tryz.prog w = .ok (159, v) w := by kernel_rfl
theorem en_fact (args : Array Value) (w : World) : (callFunc 159 args).run Tryz.prog w = .ok (.enter 159 args) w := enters_of Tryz.func159 (by kernel_rfl) rfl args w

set_option maxRecDepth 100000 in
set_option maxHeartbeats 4000000 in
theorem fact_write {w0 : World} (a : Ftx) (ha : elFtx.ok w0 (fun _ => True) a) (ht : TabLaid w0) {B : Nat} {l : List UInt8} {W : World} (hW : Below w0.heap.size w0 W) (hB : w0.heap.size ≤ B) (h : BFs B l W) (hl : l.length + (fctT a.p a.cs).length ≤ 100000000000000) :
    Calls Tryz.prog 159 #[.agg #[.string a.p, a.v], .pointer (some ⟨B, 0, none⟩)] W fun e w' => e = .returned (.tuple #[]) ∧ BFs B (l ++ fctT a.p a.cs) w' ∧ Kp B W w' := by
  obtain ⟨hp, hts⟩ := elFtx_ok ha
  obtain ⟨va, vc, hv, -, -, hlen⟩ := hts.shape
  have hlt := h.lt
  have HB1 : Hid (∀ o, Below W.heap.size W (W.alloc o)) := fun o => (Below.refl _ _).alloc (Nat.le_refl _) o
  have HPa : Hid (∀ V, Below W.heap.size W V → Calls Tryz.prog 161 #[a.v, .func (.func 162) #[] #[]] V fun e w' => ∃ v', e = .returned v' ∧ w'.ownsRow V.heap.size 99 1 v' a.cs.length (a.cs.map pvCon) ∧ Below V.heap.size V w') := fun V hb => partsCon (hts.kept (hW.trans (hb.mono hW.size)))
  have HWa : Hid (∀ V pv, Below W.heap.size W V → V.ownsRow (B + 1) 99 1 pv a.cs.length (a.cs.map pvCon) → Calls Tryz.prog 160 #[.pointer (some ⟨B, 0, none⟩), .string a.p, pv] V fun e w' => e = .returned (.tuple #[]) ∧ BFs B (l ++ fctT a.p a.cs) w' ∧ Kp B V w') := fun V pv hb hr => by
    have hm : (a.cs.map fun t => (pvCon t, conT t)).map (·.2) = a.cs.map conT := by rw [List.map_map]; rfl
    have hm1 : (a.cs.map fun t => (pvCon t, conT t)).map (·.1) = a.cs.map pvCon := by rw [List.map_map]; rfl
    have := writeAtom_any (w0 := w0) (W := V) (B := B) (base := B + 1) (l := l) a.p (ps := a.cs.map fun t => (pvCon t, conT t)) (pv := pv) (fun x hx => by
      obtain ⟨t, ht2, rfl⟩ := List.mem_map.1 hx
      exact wr_con t (hts.ok ht2) ht) (by rw [hm1, List.length_map]; exact hr) (Nat.lt_succ_self B) (hW.trans (hb.mono hW.size)) hB (h.kept hb) (by rw [hm]; exact hl) (by rw [List.length_map]; exact hlen)
    rw [hm] at this
    exact this
  rw [hv] at HPa ⊢
  clear hp hts hv hlen ha ht hW h hl
  generalize fctT a.p a.cs = T at *
  generalize a.cs.map pvCon = PS at *
  generalize a.cs.length = n at *
  go_enter Tryz.func159, Tryz.ntmps159
  go_wp2_with fail
  obtain ⟨bx, hbx⟩ : ∃ bx, bx = W.heap.size := ⟨_, rfl⟩
  have hbk : (W.alloc (.cells #[.string a.p, .slice va n vc] 78)).heap[bx]? = some (.cells #[.string a.p, .slice va n vc] 78 (0, 0)) := by rw [hbx]; exact heap_alloc_new W _
  have HW1 := hide (HB1.out (.cells #[.string a.p, .slice va n vc] 78))
  have hs1 : B + 1 ≤ (W.alloc (.cells #[.string a.p, .slice va n vc] 78)).heap.size := by simp; omega
  rw [← hbx]
  clear hbx HB1
  generalize W.alloc (.cells #[.string a.p, .slice va n vc] 78) = W1 at *
  have x0 : W1.cell? ⟨bx, 0, none⟩ = some (.string a.p) := by rw [Lib.cell_of_heap hbk]; rfl
  have x1 : W1.cell? ⟨bx, 1, none⟩ = some (.slice va n vc) := by rw [Lib.cell_of_heap hbk]; rfl
  have HPb : Hid (∀ V, V = W1 ∨ V = W1.drew → Calls Tryz.prog 161 #[.slice va n vc, .func (.func 162) #[] #[]] V fun e w' => ∃ v', e = .returned v' ∧ w'.ownsRow (B + 1) 99 1 v' n PS ∧ Below W1.heap.size W1 w') := fun V hV => by
    rcases hV with rfl | rfl
    · exact (HPa.out _ HW1.out).mono fun e w' ⟨v', h1, h2, h3⟩ => ⟨v', h1, own_low hs1 h2, h3⟩
    · exact (HPa.out _ HW1.out.drew).mono fun e w' ⟨v', h1, h2, h3⟩ => ⟨v', h1, own_low hs1 h2, ((Below.refl W1.heap.size W1).drew).trans h3⟩
  clear HPa hbk
  go_region_with (first
    | (go_at_call 161; refine (HPb.out _ (by first | exact .inl rfl | exact .inr rfl)).mono ?_; rintro e w2 ⟨pv, rfl, hr2, hb2⟩; have z0 := kept_cell hb2 x0; have z1 := kept_cell hb2 x1; have HR2 := hide hr2; have HB2 := hide hb2; clear hr2 hb2)
    | (go_at_call 160; refine (HWa.out _ _ (HW1.out.trans (HB2.out.mono HW1.out.size)) HR2.out).mono ?_; rintro e w3 ⟨rfl, h3, k3⟩; have H3 := hide h3; have K3 := hide ((Kp.of (HW1.out.trans (HB2.out.mono HW1.out.size)) (Nat.le_of_lt hlt)).trans k3); clear h3 k3))
  all_goals (try go_wp2)
  all_goals go_end0
  all_goals exact ⟨rfl, H3.out, K3.out⟩
theorem wr_fact {w0 : World} (a : Ftx) (ha : elFtx.ok w0 (fun _ => True) a) (ht : TabLaid w0) : Wr w0 (pvFtx a) (fctT a.p a.cs) :=
  ⟨_, _, _, rfl, fun d W => m_fact d _ W, en_fact, fun W B l hW hB h hl => fact_write a ha ht hW hB h hl⟩
end Go.Proofs.YtchhophblejmeaaGreatDoor

namespace Go.Proofs.YtchhophblejmeaaGreatDoor
set_option linter.unusedSimpArgs false
set_option linter.unusedVariables false
open Go.RowKit

def fctsT (cs : List Ftx) : List UInt8 := cs.flatMap fun c => fctT c.p c.cs ++ [46, 10]
theorem fctsT_take (cs : List Ftx) {k : Nat} {c : Ftx} (h : cs[k]? = some c) : fctsT (cs.take (k + 1)) = fctsT (cs.take k) ++ (fctT c.p c.cs ++ [46, 10]) ∧ (fctsT (cs.take (k + 1))).length ≤ (fctsT cs).length := by
  constructor
  · unfold fctsT
    rw [List.take_add_one, h, Option.toList_some, List.flatMap_append]
    simp
  · have : fctsT cs = fctsT (cs.take (k + 1)) ++ fctsT (cs.drop (k + 1)) := by
      unfold fctsT
      rw [← List.flatMap_append, List.take_append_drop]
    rw [this, List.length_append]
    omega
theorem m_facts (d : Nat) (v : Value) (w : World) : (method (d + 1) 71 v "edict/print.write").run Tryz.prog w = .ok (154, v) w := by kernel_rfl
theorem en_facts (args : Array Value) (w : World) : (callFunc 154 args).run Tryz.prog w = .ok (.enter 154 args) w := enters_of Tryz.func154 (by kernel_rfl) rfl args w

set_option maxRecDepth 100000 in
set_option maxHeartbeats 8000000 in
theorem facts_write {w0 : World} {v : Value} {cs : List Ftx} (hx : Lst elFtx w0 (fun _ => True) v cs) (ht : TabLaid w0) {B : Nat} {l : List UInt8} {W : World} (hW : Below w0.heap.size w0 W) (hB : w0.heap.size ≤ B) (h : BFs B l W) (hl : l.length + (fctsT cs).length ≤ 100000000000000) :
    Calls Tryz.prog 154 #[v, .pointer (some ⟨B, 0, none⟩)] W fun e w' => e = .returned (.tuple #[]) ∧ BFs B (l ++ fctsT cs) w' ∧ Kp B W w' := by
  obtain ⟨va, vc, hv, -, -, hlen⟩ := hx.shape
  have hlt := h.lt
  have HX := hide hx
  have HT := hide ht
  have HH := hide h
  have HW0 := hide hW
  obtain ⟨n, hn⟩ : ∃ n, n = cs.length := ⟨_, rfl⟩
  rw [← hn] at hv hlen
  have HN := hide hn
  rw [hv]
  rw [hv] at HX
  have HB1 : Hid (Below W.heap.size W W) := Below.refl _ _
  clear hx ht h hW hn hv
  go_enter Tryz.func154, Tryz.ntmps154
  go_wp2
  go_loopw [8] (fun t V => ∃ k : Nat, k ≤ n ∧ t = .int .i64 k ∧ Hid (BFs B (l ++ fctsT (cs.take k)) V) ∧ Hid (Kp B W V)) (fun t _ => n - (intOf t).toNat)
  case atStart => exact ⟨0, Nat.zero_le _, rfl, (by show BFs _ _ _; rw [List.take_zero]; show BFs B (l ++ []) _; rw [List.append_nil]; exact HH.out.kept HB1.out), Kp.of HB1.out (Nat.le_of_lt hlt)⟩
  case round =>
    clear HB1
    obtain ⟨k, hk, rfl, HI, HK⟩ := hrel
    by_cases hlk : k < n
    · have hi : (k : Int) < (n : Int) := by omega
      have hi0' : (0 : Int) ≤ (k : Int) := by omega
      obtain ⟨c, hc⟩ : ∃ c, cs[k]? = some c := ⟨_, List.getElem?_eq_getElem (by have := HN.out; omega)⟩
      have hX2 : Lst elFtx w0 (fun _ => True) (.slice va cs.length vc) cs := by rw [← HN.out]; exact HX.out
      obtain ⟨pb, off, rfl, hpb, -, hrow⟩ := hX2.row (by have := HN.out; omega)
      have hok := hX2.ok (List.mem_of_getElem? hc)
      obtain ⟨hca, hcb⟩ := elFtx_ok hok
      obtain ⟨ha1, hc1, hv1, -, -, -⟩ := hcb.shape
      have hWw : Below w0.heap.size w0 wr := HW0.out.trans (HK.out.1.mono hB)
      have c0 := kept_cell hWw (hrow k c hc 0 _ rfl)
      have c1 := kept_cell hWw (hrow k c hc 1 _ rfl)
      simp only [elFtx, Nat.add_zero] at c0 c1
      rw [hv1] at c1
      have HWc : Hid (Wr w0 (.iface 78 (.agg #[.string c.p, .slice ha1 c.cs.length hc1])) (fctT c.p c.cs)) := by
        have := wr_fact c hok HT.out
        unfold pvFtx at this
        rw [hv1] at this
        exact this
      obtain ⟨hj, hjl⟩ := fctsT_take cs hc
      have HJt := hide hj
      rw [hj, List.length_append] at hjl
      have hwl := HI.out.lt
      have hwB : B < wr.heap.size := hwl
      have HJ : Hid (∀ V g, Below wr.heap.size wr V → V.heap[g]? = some (.cells #[.iface 78 (.agg #[.string c.p, .slice ha1 c.cs.length hc1]), .iface 212 (.string ⟨#[46, 10]⟩)] 99 (0, 0)) → B < g → Calls Tryz.prog 155 #[.pointer (some ⟨B, 0, none⟩), .string ⟨#[]⟩, .slice (some ⟨g, 0, none⟩) 2 2] V fun e w' => e = .returned (.tuple #[]) ∧ BFs B (l ++ fctsT (cs.take (k + 1))) w' ∧ Kp B V w') := fun V g hb hblk hg => by
        have := join_lit (w0 := w0) (V := V) (B := B) (l := l ++ fctsT (cs.take k)) (bl := []) (btw := ⟨#[]⟩) rfl (ps := [(_, fctT c.p c.cs), (_, [46, 10])]) (g := g) (pc := 2) (n := 2) (fun y hy => by
          simp only [List.mem_cons, List.not_mem_nil, or_false] at hy
          rcases hy with rfl | rfl
          · exact HWc.out
          · exact wr_word w0 ⟨#[46, 10]⟩) hblk hg rfl (hWw.trans (hb.mono hWw.size)) hB (HI.out.kept hb) (by simp only [List.map_cons, List.map_nil, jn_cons, jnT_cons, jnT, List.append_nil, List.nil_append, List.length_append, List.length_cons, List.length_nil] at *; omega) (by show 2 < _; omega)
        simp only [List.map_cons, List.map_nil, jn_cons, jnT_cons, jnT, List.append_nil, List.nil_append] at this
        rw [HJt.out]
        rw [List.append_assoc] at this
        exact this
      clear hc hX2 hrow hok hca hcb hv1 HWc hj hjl hWw HX
      generalize c.cs.length = n1 at *
      obtain ⟨W1, hW1⟩ : ∃ W1, W1 = wr.alloc (.cells #[.string c.p, .slice ha1 n1 hc1] 28) := ⟨_, rfl⟩
      have HB2 : Hid (Below wr.heap.size wr W1) := by rw [hW1]; exact (Below.refl _ _).alloc (Nat.le_refl _) _
      have hsz : W1.heap.size = wr.heap.size + 1 := by rw [hW1]; simp
      go_wp2_with fail
      rw [← hW1, ← hsz]
      refine (HJ.out _ _ (HB2.out.alloc HB2.out.size _) (heap_alloc_new W1 _) (by omega)).mono ?_
      rintro e w2 ⟨rfl, h2, k2⟩
      have H2 := hide h2
      have K2 := hide (HK.out.trans ((Kp.of (HB2.out.alloc HB2.out.size _) (Nat.le_of_lt hwB)).trans k2))
      clear h2 k2 HJ hW1 hsz c0 c1
      go_wp2
      go_roundw
      case rel => exact ⟨k + 1, by omega, by go_num, H2.out, K2.out⟩
      case measure => simp [intOf]; omega
    · obtain rfl : k = n := by omega
      have hi : ¬ (k : Int) < (k : Int) := by omega
      have HF : Hid (BFs B (l ++ fctsT cs) wr) := by
        have := HI.out
        rw [List.take_of_length_le (by rw [HN.out]; exact Nat.le_refl _)] at this
        exact this
      go_wp2
      go_end0
      exact ⟨rfl, HF.out, HK.out⟩
theorem wr_facts {w0 : World} {v : Value} {cs : List Ftx} (hx : Lst elFtx w0 (fun _ => True) v cs) (ht : TabLaid w0) : Wr w0 (.iface 71 (v)) (fctsT cs) :=
  ⟨_, _, _, rfl, fun d W => m_facts d _ W, en_facts, fun W B l hW hB h hl => facts_write hx ht hW hB h hl⟩
end Go.Proofs.YtchhophblejmeaaGreatDoor

namespace Go.Proofs.YtchhophblejmeaaGreatDoor
set_option linter.unusedSimpArgs false
set_option linter.unusedVariables false
open Go.RowKit

def conE (c : Con) : Int := if validC c then 0 else 5
def factE (p : ByteArray) (ts : List Con) : Int := if isNameL p.toList then (if 8 < ts.length then 22 else firstE conE ts) else 14
def ftxE (f : Ftx) : Int := factE f.p f.cs
set_option maxHeartbeats 1000000 in
theorem firstCon (ao : Option Addr) (len cap : Nat) (ts : List Con) (w : World) (h : Lst elCon w (fun _ => True) (.slice ao len cap) ts) :
    Calls Tryz.prog 63 #[.slice ao len cap, .func (.func 47) #[] #[]] w fun e w' => e = .returned (.int .i64 (firstE conE ts)) ∧ Below w.heap.size w w' := by
  have H1 := hide h
  obtain ⟨_, _, hvv, -, -, hl1⟩ := h.shape
  have hlen : len = ts.length := by cases hvv; rfl
  have HLen := hide hlen
  have hl : len ≤ 140737488351232 := by omega
  clear h hvv hlen hl1
  go_enter Tryz.func63, Tryz.ntmps63
  go_wp2
  go_loopw [4, 10] (fun _ i wr => ∃ k : Nat, k ≤ len ∧ i = .int .i64 k ∧ Hid (∀ y ∈ ts.take k, conE y = 0) ∧ Hid (Below w.heap.size w wr)) (fun _ i _ => len - (intOf i).toNat)
  case atStart => exact ⟨0, Nat.zero_le _, rfl, fun y hy => by simp at hy, Below.refl _ _⟩
  case round =>
    obtain ⟨k, hk, rfl, HA, HB⟩ := hrel
    by_cases hlt : k < len
    · have hi : (k : Int) < (len : Int) := by omega
      obtain ⟨b, off, rfl, -, -, hr⟩ := H1.out.row (by have := HLen.out; omega)
      obtain ⟨t, ht⟩ : ∃ t, ts[k]? = some t := ⟨_, List.getElem?_eq_getElem (by have := HLen.out; omega)⟩
      have x0 := kept_cell HB.out (hr k t ht 0 _ rfl)
      have x1 := kept_cell HB.out (hr k t ht 1 _ rfl)
      have x2 := kept_cell HB.out (hr k t ht 2 _ rfl)
      simp only [elCon, Nat.add_zero] at x0 x1 x2
      have HT : Hid (∀ w1, Below w.heap.size w w1 → Calls Tryz.prog 47 #[t.val] w1 fun e w' => e = .returned (.int .i64 (conE t)) ∧ Below w1.heap.size w1 w') := fun w1 _ => whyConst t w1 (H1.out.ok (List.mem_of_getElem? ht))
      unfold Con.val at HT
      by_cases hz : conE t = 0
      · have HN := hide (take_zero_more HA.out ht hz)
        rw [hz] at HT
        clear hz HA hr ht
        go_wp2_with (go_at_call 47; refine (HT.out _ (belowt HB.out (below1 _ _))).mono ?_; rintro e w' ⟨rfl, hb⟩)
        go_roundw
        case rel => exact ⟨k + 1, by omega, by go_num, HN, hide (belowt HB.out (below1t hb))⟩
        case measure => simp [intOf]; omega
      · have HF := hide (firstE_at HA.out ht hz)
        have hz' : (conE t != 0) = true := by simpa using hz
        clear hz HA hr ht
        go_wp2_with (go_at_call 47; refine (HT.out _ (belowt HB.out (below1 _ _))).mono ?_; rintro e w' ⟨rfl, hb⟩)
        go_ret
        exact ⟨by rw [HF.out]; rfl, belowt HB.out (below1t hb)⟩
    · have hi : ¬ (k : Int) < (len : Int) := by omega
      have HF : Hid (firstE conE ts = 0) := firstE_zero fun y hy => HA.out y (by rw [List.take_of_length_le (by have := HLen.out; omega)]; exact hy)
      go_wp2
      go_ret
      exact ⟨by rw [HF.out]; rfl, HB.out⟩

set_option maxHeartbeats 1000000 in
theorem whyFactOf (p : ByteArray) (ao : Option Addr) (cap : Nat) (cs : List Con) (w : World) (hp : p.size ≤ 140737488351232) (h : Lst elCon w (fun _ => True) (.slice ao cs.length cap) cs) :
    Calls Tryz.prog 46 #[.string p, .slice ao cs.length cap, .func (.func 47) #[] #[]] w fun e w' => e = .returned (.int .i64 (factE p cs)) ∧ Below w.heap.size w w' := by
  have HN := hide (isName_any p w (by unfold maxLen; omega))
  have HT := hide (firstCon ao cs.length cap cs w h)
  obtain ⟨_, _, -, -, -, hl2⟩ := h.shape
  clear h
  cases hn : isNameL p.toList
  · have HE : Hid (factE p cs = 14) := by show factE _ _ = 14; unfold factE; rw [hn]; rfl
    rw [HE.out]
    rw [hn] at HN
    clear HE
    go_enter Tryz.func46, Tryz.ntmps46
    go_wp2_with (first | (go_at_call 62; refine HN.out.mono ?_; rintro e w' ⟨rfl, hw'⟩; have hw' := hw'.symm; subst hw') | (go_at_call 63; refine HT.out.mono ?_; rintro e w' ⟨rfl, hb⟩))
    go_ret
    exact ⟨rfl, Below.refl _ _⟩
  · rw [hn] at HN
    by_cases h8 : 8 < cs.length
    · have HE : Hid (factE p cs = 22) := by show factE _ _ = 22; unfold factE; rw [hn]; simp [h8]
      rw [HE.out]
      have hi : (8 : Int) < (cs.length : Int) := by omega
      clear HE
      go_enter Tryz.func46, Tryz.ntmps46
      go_wp2_with (first | (go_at_call 62; refine HN.out.mono ?_; rintro e w' ⟨rfl, hw'⟩; have hw' := hw'.symm; subst hw') | (go_at_call 63; refine HT.out.mono ?_; rintro e w' ⟨rfl, hb⟩))
      go_ret
      exact ⟨rfl, Below.refl _ _⟩
    · have HE : Hid (factE p cs = firstE conE cs) := by show factE _ _ = _; unfold factE; rw [hn]; simp [h8]
      rw [HE.out]
      have hi : ¬ (8 : Int) < (cs.length : Int) := by omega
      clear HE
      go_enter Tryz.func46, Tryz.ntmps46
      go_wp2_with (first | (go_at_call 62; refine HN.out.mono ?_; rintro e w' ⟨rfl, hw'⟩; have hw' := hw'.symm; subst hw') | (go_at_call 63; refine HT.out.mono ?_; rintro e w' ⟨rfl, hb⟩))
      go_ret
      exact ⟨rfl, hb⟩

set_option maxHeartbeats 1000000 in
theorem whyFact (f : Ftx) (w : World) (h : elFtx.ok w (fun _ => True) f) :
    Calls Tryz.prog 29 #[.agg #[.string f.p, f.v]] w fun e w' => e = .returned (.int .i64 (factE f.p f.cs)) ∧ Below w.heap.size w w' := by
  obtain ⟨hp, hc⟩ := elFtx_ok h
  obtain ⟨ao, cap, hv, -⟩ := hc.shape
  rw [hv] at hc ⊢
  have HT := hide (fun w1 (hb : Below w.heap.size w w1) => whyFactOf f.p ao cap f.cs w1 hp (hc.kept hb))
  clear h hp hc hv
  generalize f.cs.length = n at *
  go_enter Tryz.func29, Tryz.ntmps29
  go_wp2_with (go_at_call 46; refine (HT.out _ (below1 _ _)).mono ?_; rintro e w' ⟨rfl, hb⟩)
  go_ret
  exact ⟨rfl, below1t hb⟩

set_option maxHeartbeats 1000000 in
theorem firstFact (ao : Option Addr) (len cap : Nat) (ts : List Ftx) (w : World) (h : Lst elFtx w (fun _ => True) (.slice ao len cap) ts) :
    Calls Tryz.prog 28 #[.slice ao len cap, .func (.func 29) #[] #[]] w fun e w' => e = .returned (.int .i64 (firstE ftxE ts)) ∧ Below w.heap.size w w' := by
  have H1 := hide h
  obtain ⟨_, _, hvv, -, -, hl1⟩ := h.shape
  have hlen : len = ts.length := by cases hvv; rfl
  have HLen := hide hlen
  have hl : len ≤ 140737488351232 := by omega
  clear h hvv hlen hl1
  go_enter Tryz.func28, Tryz.ntmps28
  go_wp2
  go_loopw [4, 10] (fun _ i wr => ∃ k : Nat, k ≤ len ∧ i = .int .i64 k ∧ Hid (∀ y ∈ ts.take k, ftxE y = 0) ∧ Hid (Below w.heap.size w wr)) (fun _ i _ => len - (intOf i).toNat)
  case atStart => exact ⟨0, Nat.zero_le _, rfl, fun y hy => by simp at hy, Below.refl _ _⟩
  case round =>
    obtain ⟨k, hk, rfl, HA, HB⟩ := hrel
    by_cases hlt : k < len
    · have hi : (k : Int) < (len : Int) := by omega
      obtain ⟨b, off, rfl, -, -, hr⟩ := H1.out.row (by have := HLen.out; omega)
      obtain ⟨t, ht⟩ : ∃ t, ts[k]? = some t := ⟨_, List.getElem?_eq_getElem (by have := HLen.out; omega)⟩
      have x0 := kept_cell HB.out (hr k t ht 0 _ rfl)
      have x1 := kept_cell HB.out (hr k t ht 1 _ rfl)
      simp only [elFtx, Nat.add_zero] at x0 x1
      have HT : Hid (∀ w1, Below w.heap.size w w1 → Calls Tryz.prog 29 #[.agg #[.string t.p, t.v]] w1 fun e w' => e = .returned (.int .i64 (ftxE t)) ∧ Below w1.heap.size w1 w') := fun w1 hb1 => whyFact t w1 (elFtx.kept (H1.out.ok (List.mem_of_getElem? ht)) hb1)
      obtain ⟨va, vc, hvv, -, -, -⟩ := (elFtx_ok (H1.out.ok (List.mem_of_getElem? ht))).2.shape
      rw [hvv] at HT x1
      clear hvv
      generalize t.cs.length = tn at HT x1
      by_cases hz : ftxE t = 0
      · have HN := hide (take_zero_more HA.out ht hz)
        rw [hz] at HT
        clear hz HA hr ht
        go_wp2_with (go_at_call 29; refine (HT.out _ (belowt HB.out (below1 _ _))).mono ?_; rintro e w' ⟨rfl, hb⟩)
        go_roundw
        case rel => exact ⟨k + 1, by omega, by go_num, HN, hide (belowt HB.out (below1t hb))⟩
        case measure => simp [intOf]; omega
      · have HF := hide (firstE_at HA.out ht hz)
        have hz' : (ftxE t != 0) = true := by simpa using hz
        clear hz HA hr ht
        go_wp2_with (go_at_call 29; refine (HT.out _ (belowt HB.out (below1 _ _))).mono ?_; rintro e w' ⟨rfl, hb⟩)
        go_ret
        exact ⟨by rw [HF.out]; rfl, belowt HB.out (below1t hb)⟩
    · have hi : ¬ (k : Int) < (len : Int) := by omega
      have HF : Hid (firstE ftxE ts = 0) := firstE_zero fun y hy => HA.out y (by rw [List.take_of_length_le (by have := HLen.out; omega)]; exact hy)
      go_wp2
      go_ret
      exact ⟨by rw [HF.out]; rfl, HB.out⟩

end Go.Proofs.YtchhophblejmeaaGreatDoor

namespace Go.Proofs.YtchhophblejmeaaGreatDoor
set_option linter.unusedSimpArgs false
set_option linter.unusedVariables false
open Go.RowKit

set_option maxRecDepth 100000 in
set_option maxHeartbeats 4000000 in
theorem whyQuery (ao : Option Addr) (len cap : Nat) (ls : List Ltr) (w : World) (h : IsLtrs w ao len ls) (hn : 0 < len) :
    Calls Tryz.prog 39 #[.slice ao len cap] w fun e w' => e = .returned (.int .i64 (bodyE ls)) ∧ Below w.heap.size w w' := by
  have HB := hide (whyBody ao len cap ls w h)
  have hi : ((len : Int) == 0) = false := by simp; omega
  have hl2 : len ≤ 140737488351232 := by have := h.2.1; omega
  clear h
  go_enter Tryz.func39, Tryz.ntmps39
  go_wp2_with (go_at_call 59; refine HB.out.mono ?_; rintro e w' ⟨rfl, hb⟩)
  go_ret
  exact ⟨rfl, hb⟩

set_option maxRecDepth 100000 in
set_option maxHeartbeats 4000000 in
theorem printQuery {w0 W : World} {v : Value} {ls : List Lix} (hx : Lst elLix w0 (fun _ => True) v ls) (ht : TabLaid w0) (hW : Below w0.heap.size w0 W) (hn : 0 < ls.length) (he : bodyE (ls.map ltrOf) = 0) (hl : (qryT ls).length ≤ 100000000000000) :
    Calls Tryz.prog 21 #[v] W fun e w' => e = .returned (.string ⟨(qryT ls).toArray⟩) ∧ Below W.heap.size W w' := by
  obtain ⟨va, vc, hv, -, -, hlen⟩ := hx.shape
  have HW : Hid (Wr w0 (.iface 90 v) (qryT ls)) := wr_query hx ht
  have HT := hide (fun V (hb : Below W.heap.size W V) => textOf_any HW.out (hW.trans (hb.mono hW.size)) hl)
  rw [hv] at hx HT ⊢
  have HR := hide (fun V (hb : Below W.heap.size W V) => whyQuery va ls.length vc (ls.map ltrOf) V (ltrs_of (hx.kept (hW.trans (hb.mono hW.size)))) hn)
  rw [he] at HR
  clear hx ht hW he hl hv HW hn
  generalize qryT ls = T at *
  generalize ls.map ltrOf = CS at *
  generalize ls.length = n at *
  go_enter Tryz.func21, Tryz.ntmps21
  go_wp2_with fail
  refine (HR.out _ (Below.refl _ _)).mono ?_
  rintro e w1 ⟨rfl, hb⟩
  have HB := hide hb
  clear hb HR
  go_wp2_with fail
  refine (HT.out _ HB.out).mono ?_
  rintro e w2 ⟨rfl, hb2⟩
  go_wp2
  go_ret
  exact ⟨rfl, belowt HB.out hb2⟩

set_option maxRecDepth 100000 in
set_option maxHeartbeats 4000000 in
theorem printFacts {w0 W : World} {v : Value} {fs : List Ftx} (hx : Lst elFtx w0 (fun _ => True) v fs) (ht : TabLaid w0) (hW : Below w0.heap.size w0 W) (he : firstE ftxE fs = 0) (hl : (fctsT fs).length ≤ 100000000000000) :
    Calls Tryz.prog 8 #[v] W fun e w' => e = .returned (.string ⟨(fctsT fs).toArray⟩) ∧ Below W.heap.size W w' := by
  obtain ⟨va, vc, hv, -, -, hlen⟩ := hx.shape
  have HW : Hid (Wr w0 (.iface 71 v) (fctsT fs)) := wr_facts hx ht
  have HT := hide (fun V (hb : Below W.heap.size W V) => textOf_any HW.out (hW.trans (hb.mono hW.size)) hl)
  rw [hv] at hx HT ⊢
  have HR := hide (fun V (hb : Below W.heap.size W V) => firstFact va fs.length vc fs V (hx.kept (hW.trans (hb.mono hW.size))))
  rw [he] at HR
  clear hx ht hW he hl hv HW
  generalize fctsT fs = T at *
  generalize fs.length = n at *
  go_enter Tryz.func8, Tryz.ntmps8
  go_wp2_with fail
  refine (HR.out _ (Below.refl _ _)).mono ?_
  rintro e w1 ⟨rfl, hb⟩
  have HB := hide hb
  clear hb HR
  go_wp2_with fail
  refine (HT.out _ HB.out).mono ?_
  rintro e w2 ⟨rfl, hb2⟩
  go_wp2
  go_ret
  exact ⟨rfl, belowt HB.out hb2⟩
end Go.Proofs.YtchhophblejmeaaGreatDoor
