/- The document's Text: the findings' lines, one behind the other. -/
import Derived.Test.YtfopnijgkhpoiaaDoorProg
import Derived.Test.YtfopnijgkhpoiaaDoorFindMem
import Derived.Test.YtfopnijgkhpoiaaDoorRefPlace
namespace Go.Proofs.YtfopnijgkhpoiaaDoor
set_option linter.unusedSimpArgs false
set_option linter.unusedVariables false
open Go.RowKit

set_option maxHeartbeats 8000000 in
set_option maxRecDepth 100000 in
theorem refFinds_any {w : World} {v : Value} {fs : List Fnd} (src : ByteArray) (h : Has elFnd w v fs) (hs : src.size ≤ 2000000) (hfl : fs.length ≤ 1048576) :
    Calls Tryd.prog 4 #[.string src, v] w fun e w' => e = .returned (.string ⟨(textL src fs).toArray⟩) ∧ Below w.heap.size w w' := by
  obtain ⟨ao, cap, rfl, -, -, hlen⟩ := h.shape
  have HOk : Hid (∀ p ∈ fs, p.ok) := fun p hp => h.ok hp
  have HP := hide h
  clear h
  obtain ⟨n, hn⟩ : ∃ n, n = fs.length := ⟨_, rfl⟩
  rw [← hn] at hlen hfl ⊢
  have HN := hide hn
  clear hn
  go_enter Tryd.func4, Tryd.ntmps4
  go_wp2
  go_loopw [5, 6] (fun s i wl => ∃ (k : Nat) (S : ByteArray), k ≤ n ∧ i = .int .i64 k ∧ s = .string S ∧ Hid (S = ⟨(textL src (fs.take k)).toArray⟩) ∧ Hid (Below w.heap.size w wl)) (fun _ i _ => n - (intOf i).toNat)
  case atStart => exact ⟨0, ⟨#[]⟩, Nat.zero_le _, rfl, rfl, rfl, Below.refl _ _⟩
  case round =>
    obtain ⟨k, S, hk, rfl, rfl, HS, HB⟩ := hrel
    by_cases hlt : k < n
    · have hi : (k : Int) < (n : Int) := by omega
      have hi0' : (0 : Int) ≤ (k : Int) := by omega
      obtain ⟨x, hx⟩ : ∃ x, fs[k]? = some x := ⟨_, List.getElem?_eq_getElem (by have := HN.out; omega)⟩
      obtain ⟨pb, off, rfl, hpb, -, hrow⟩ := (HP.out).row (by have := HN.out; omega)
      have hok := HOk.out x (List.mem_of_getElem? hx)
      have c0 := kept_cell HB.out (hrow k x hx 0 _ rfl)
      have c1 := kept_cell HB.out (hrow k x hx 1 _ rfl)
      have c2 := kept_cell HB.out (hrow k x hx 2 _ rfl)
      have c3 := kept_cell HB.out (hrow k x hx 3 _ rfl)
      have c4 := kept_cell HB.out (hrow k x hx 4 _ rfl)
      simp only [elFnd, Nat.add_zero] at c0 c1 c2 c3 c4
      have C3 : Hid (∀ W, Below wr.heap.size wr W → W.cell? ⟨pb, off + k * 5 + 3, none⟩ = some (.int .i64 x.f)) := fun W hb => kept_cell hb c3
      have HTk : Hid (textL src (fs.take (k + 1)) = textL src (fs.take k) ++ x.line src) := text_take src fs hx
      have hTl : (textL src (fs.take k)).length ≤ 10000000000000 := by
        have := text_len hs (take_ok HOk.out k)
        have h2 : (fs.take k).length ≤ k := by rw [List.length_take]; omega
        omega
      have hml := Fnd.msg_len hok
      obtain ⟨q1, q2, q3, q4⟩ := hok
      have HW : Hid (∀ W, Calls Tryd.prog 6 #[.agg #[.int .i64 x.k, .int .i64 x.c, .int .i64 x.o, .int .i64 x.f, .string x.nm]] W fun e w' => e = .returned (.string ⟨x.msg.toArray⟩) ∧ Below W.heap.size W w') := fun W => words_any x.k x.c x.o x.f x.nm W q1 q2 (by omega)
      have HPl : Hid (∀ W, Calls Tryd.prog 7 #[.string src, .int .i64 x.f] W fun e w' => e = .returned (.tuple #[.int .i64 (placeW src x.f).1, .int .i64 (placeW src x.f).2]) ∧ w' = W) := fun W => refPlace_any src x.f W (by omega) q3
      have HLn : Hid (x.line src = if x.msg = [] then [] else Lib.itoa (placeW src x.f).1 ++ ([58] ++ (Lib.itoa (placeW src x.f).2 ++ ([58, 32] ++ (x.msg ++ [10]))))) := rfl
      obtain ⟨p1, p2⟩ := place_i64 src x.f hs
      obtain ⟨M, hM⟩ : ∃ M, M = x.msg := ⟨_, rfl⟩
      rw [← hM] at HW HLn hml
      obtain ⟨MB, hMB⟩ : ∃ MB : ByteArray, MB = ⟨M.toArray⟩ := ⟨_, rfl⟩
      rw [← hMB] at HW
      generalize placeW src x.f = P at *
      obtain ⟨ln, cn⟩ := P
      dsimp only at p1 p2 HPl HLn
      have HD1 : Hid (∀ W, Calls Tryd.prog 8 #[.int .i64 ln] W fun e w' => e = .returned (.string ⟨(Lib.itoa ln).toArray⟩) ∧ Below W.heap.size W w') := fun W => dec18 ln W p1
      have HD2 : Hid (∀ W, Calls Tryd.prog 8 #[.int .i64 cn] W fun e w' => e = .returned (.string ⟨(Lib.itoa cn).toArray⟩) ∧ Below W.heap.size W w') := fun W => dec18 cn W p2
      have l1 := itoa_le p1
      have l2 := itoa_le p2
      generalize Lib.itoa ln = L1 at *
      generalize Lib.itoa cn = L2 at *
      generalize textL src (fs.take k) = T at *
      obtain ⟨D1, hD1⟩ : ∃ D1 : ByteArray, D1 = ⟨L1.toArray⟩ := ⟨_, rfl⟩
      obtain ⟨D2, hD2⟩ : ∃ D2 : ByteArray, D2 = ⟨L2.toArray⟩ := ⟨_, rfl⟩
      rw [← hD1] at HD1
      rw [← hD2] at HD2
      obtain ⟨X1, e1, g1⟩ := cat_is T L1 (a := S) (b := D1) HS.out hD1 (by omega)
      obtain ⟨X2, e2, g2⟩ := cat_is (T ++ L1) [58] (a := X1) (b := ⟨#[58]⟩) e1 rfl (by simp only [List.length_append, List.length_cons, List.length_nil]; omega)
      obtain ⟨X3, e3, g3⟩ := cat_is (T ++ L1 ++ [58]) L2 (a := X2) (b := D2) e2 hD2 (by simp only [List.length_append, List.length_cons, List.length_nil]; omega)
      obtain ⟨X4, e4, g4⟩ := cat_is (T ++ L1 ++ [58] ++ L2) [58, 32] (a := X3) (b := ⟨#[58, 32]⟩) e3 rfl (by simp only [List.length_append, List.length_cons, List.length_nil]; omega)
      obtain ⟨X5, e5, g5⟩ := cat_is (T ++ L1 ++ [58] ++ L2 ++ [58, 32]) M (a := X4) (b := MB) e4 hMB (by simp only [List.length_append, List.length_cons, List.length_nil]; omega)
      obtain ⟨X6, e6, g6⟩ := cat_is (T ++ L1 ++ [58] ++ L2 ++ [58, 32] ++ M) [10] (a := X5) (b := ⟨#[10]⟩) e5 rfl (by simp only [List.length_append, List.length_cons, List.length_nil]; omega)
      have HX6 := hide e6
      have HMB := hide hMB
      clear hrow hx q1 q2 q3 q4 hml hM HP hMB e1 e2 e3 e4 e5 e6 hD1 hD2 hTl p1 p2 l1 l2
      by_cases hm : M = []
      · have hMe := mt_nil HMB.out hm
        rw [hMe] at HW
        have HLe : Hid (x.line src = []) := by show _ = _; rw [HLn.out, if_pos hm]
        clear hMe hm HMB g1 g2 g3 g4 g5 g6
        go_wp2_with (go_at_call 6; refine (HW.out _).mono ?_; rintro e w2 ⟨rfl, hb2⟩; have HB2 := hide (HB.out.trans (hb2.mono HB.out.size)); clear hb2)
        go_roundw
        case rel => exact ⟨k + 1, S, by omega, by go_num, rfl, by (show S = _; rw [HTk.out, HLe.out, List.append_nil]; exact HS.out), HB2.out⟩
        case measure => simp [intOf]; omega
      · obtain ⟨hn1, hn2⟩ := mt_not HMB.out hm
        have HLe : Hid (T ++ x.line src = T ++ L1 ++ [58] ++ L2 ++ [58, 32] ++ M ++ [10]) := by show _ = _; rw [HLn.out, if_neg hm]; simp only [List.append_assoc]
        clear hm HMB HLn
        go_wp2_with fail
        refine (HW.out _).mono ?_
        rintro e w2 ⟨rfl, hb2⟩
        have z3 := C3.out _ hb2
        have HB2 := hide (HB.out.trans (hb2.mono HB.out.size))
        clear hb2 c0 c1 c2 c3 c4
        go_wp2_with (go_at_call 7; refine (HPl.out _).mono ?_; rintro e w' ⟨rfl, hw'⟩; have hw' := hw'.symm; subst hw')
        refine (HD1.out _).mono ?_
        rintro e w3 ⟨rfl, hb3⟩
        have HB3 := hide (HB2.out.trans (hb3.mono HB2.out.size))
        clear hb3 z3
        go_wp2_with fail
        refine (HD2.out _).mono ?_
        rintro e w4 ⟨rfl, hb4⟩
        have HB4 := hide (HB3.out.trans (hb4.mono HB3.out.size))
        clear hb4
        go_wp2
        go_roundw
        case rel => exact ⟨k + 1, X6, by omega, by go_num, rfl, by (show X6 = _; rw [HTk.out, HLe.out]; exact HX6.out), HB4.out⟩
        case measure => simp [intOf]; omega
    · obtain rfl : k = n := by omega
      have hi : ¬ (k : Int) < (k : Int) := by omega
      have HF : Hid (S = ⟨(textL src fs).toArray⟩) := by
        have := HS.out
        rw [List.take_of_length_le (by rw [HN.out]; exact Nat.le_refl _)] at this
        exact this
      go_wp2
      go_ret
      exact ⟨by rw [← HF.out]; rfl, HB.out⟩
end Go.Proofs.YtfopnijgkhpoiaaDoor
