/- bound's Tokens: the sum of the powers. -/
import Derived.Test.YtihkhnljjegopaaBoundFire
import Derived.Test.YtihkhnljjegopaaNodeMem
namespace Go.Proofs.Ytihkhnljjegopaa
set_option linter.unusedSimpArgs false
set_option linter.unusedVariables false
open Go.RowKit

/-- What one node adds. -/
def nodeP (d : Int) (n : Nod) : List Nat := if n.k = 0 then [] else [d.toNat ^ n.w.toNat]
def tokL (d : Int) (l : List Nod) : List Nat := l.flatMap (nodeP d)
def toks (d : Int) (l : List Nod) : Nat := (tokL d l).sum
theorem tokL_snoc (d : Int) {l : List Nod} {k : Nat} {n : Nod} (hx : l[k]? = some n) : tokL d (l.take (k + 1)) = tokL d (l.take k) ++ nodeP d n := by
  unfold tokL
  rw [List.take_add_one, hx]
  simp
theorem tokL_len (d : Int) (l : List Nod) : (tokL d l).length ≤ l.length := by
  induction l with
  | nil => exact Nat.le_refl _
  | cons a r ih =>
    have : (nodeP d a).length ≤ 1 := by unfold nodeP; split <;> simp
    unfold tokL at ih ⊢
    rw [List.flatMap_cons, List.length_append, List.length_cons]
    omega
def tokC (d : Int) (l : List Nod) : List Nat := (tokL d l).map cutN
theorem tokC_len (d : Int) (l : List Nod) : (tokC d l).length ≤ l.length := by unfold tokC; rw [List.length_map]; exact tokL_len d l
theorem tokC_sum (d : Int) (l : List Nod) : cutN (tokC d l).sum = cutN (toks d l) := sum_cut _
theorem tokC_root (d : Int) {l : List Nod} {k : Nat} {n : Nod} (hx : l[k]? = some n) (h0 : n.k = 0) : tokC d (l.take (k + 1)) = tokC d (l.take k) := by
  unfold tokC
  rw [tokL_snoc d hx, nodeP, if_pos h0, List.append_nil]
theorem tokC_node (d : Int) {l : List Nod} {k : Nat} {n : Nod} (hx : l[k]? = some n) (h0 : n.k ≠ 0) : tokC d (l.take (k + 1)) = tokC d (l.take k) ++ [cutN (d.toNat ^ n.w.toNat)] := by
  unfold tokC
  rw [tokL_snoc d hx, nodeP, if_neg h0, List.map_append]
  rfl

set_option maxHeartbeats 1000000 in
theorem tokens_any {w : World} {av nv ev : Value} {l : List Nod} (h : Has elNod w nv l) {d : Int} (hd : I64 d) :
    Calls Try.prog 10 #[.int .i64 d, .agg #[av, nv, ev]] w fun e w' => e = .returned (.int .u64 ((cutN (toks d l) : Nat) : Int)) ∧ Below w.heap.size w w' := by
  obtain ⟨i0, hi0, hz0, hz1, hz2⟩ := info_parts Try.infoU
  obtain ⟨va, vc, rfl, -, -, hlen⟩ := h.shape
  obtain ⟨W, hW⟩ : ∃ W, w.alloc (.cells #[av, .slice va l.length vc, ev] 34) = W := ⟨_, rfl⟩
  have c1 : W.cell? ⟨w.heap.size, 1, none⟩ = some (.slice va l.length vc) := by rw [← hW]; exact new_cells 1 _ rfl
  have BW : Hid (Below w.heap.size w W) := by rw [← hW]; exact belo1 _ _
  obtain ⟨o, hmk, hgo⟩ := makeU W l.length hlen
  have hs : W.heap.size = w.heap.size + 1 := by rw [← hW]; simp
  rw [hs] at hgo
  have HL := hide (h.kept BW.out)
  have HD := hide hd
  have HC1 := hide c1
  have HG0 := hide (hgo W.heap.size (by omega))
  have HB0 := hide (belo1 W o)
  have c1' := kept_cell HB0.out c1
  rw [← hW] at hmk
  have HW := hide hW
  clear h hd hgo hW hs
  go_enter Try.func10, Try.ntmps10
  go_wp2
  rw [HW.out]
  go_loopw [5, 14] (fun v y wl => ∃ k : Nat, k ≤ l.length ∧ y = .int .i64 k ∧ Hid (Grow elU 27 W.heap.size wl v (tokC d (l.take k))) ∧ Hid (Below W.heap.size W wl)) (fun _ y _ => l.length - (intOf y).toNat)
  case atStart => exact ⟨0, by omega, rfl, HG0, HB0⟩
  case round =>
    clear HG0 HB0 hmk c1 c1'
    obtain ⟨k, hk, rfl, HG, HB⟩ := hrel
    obtain ⟨pa, pc, rfl, -, -⟩ := HG.out.shape
    have c1 := kept_cell HB.out HC1.out
    obtain ⟨L, hL⟩ : ∃ L, tokC d (l.take k) = L := ⟨_, rfl⟩
    obtain ⟨m, hm⟩ : ∃ m, L.length = m := ⟨_, rfl⟩
    have hmk : m ≤ k := by rw [← hm, ← hL]; have := tokC_len d (l.take k); rw [List.length_take] at this; omega
    have HTk0 := hide hL
    have HLn := hide hm
    rw [hL, hm] at HG ⊢
    clear hL hm
    by_cases hlt : k < l.length
    · have hi : (k : Int) < (l.length : Int) := by omega
      have hi0' : (0 : Int) ≤ (k : Int) := by omega
      obtain ⟨b, off, rfl, -, -, hrow⟩ := HL.out.row (by omega)
      obtain ⟨r, hx⟩ : ∃ r, l[k]? = some r := ⟨_, List.getElem?_eq_getElem hlt⟩
      have y0 := kept_cell HB.out (hrow k r hx 0 _ rfl)
      have y1 := kept_cell HB.out (hrow k r hx 10 _ rfl)
      simp only [elNod, Nat.add_zero] at y0 y1
      have hok := elNod_ok (HL.out.ok (List.mem_of_getElem? hx))
      by_cases h0 : r.k = 0
      · have HT := hide (tokC_root d hx h0)
        rw [HTk0.out] at HT
        rw [h0] at y0
        clear hrow hx hok
        go_wp2
        go_roundw
        case rel => exact ⟨k + 1, by omega, by go_num, by rw [HT.out]; exact HG, HB⟩
        case measure => simp [intOf]; omega
      · have HT := hide (tokC_node d hx h0)
        rw [HTk0.out] at HT
        have hne : (r.k != 0) = true := by simpa using h0
        have HP := hide (subs_any HD.out hok.2.2.2.2.2.2 wr)
        obtain ⟨z, hz⟩ : ∃ z, cutN (d.toNat ^ r.w.toNat) = z := ⟨_, rfl⟩
        have HZ : Hid (z < 18446744073709551616) := by rw [← hz]; exact cutN_lt _
        rw [hz] at HP HT
        have HG2 := hide (HG.out.kept (belo1 wr (.cells #[.int .u64 (z : Int)] 27)))
        have HB2 := hide (HB.out.alloc HB.out.size (.cells #[.int .u64 (z : Int)] 27))
        have HS := hide HB.out.size
        clear hrow hx HG hz hok h0
        go_wp2_with (first
          | (go_at_call 15; refine HP.out.mono ?_; rintro e w2 ⟨rfl, hw⟩; have hw := hw.symm; subst hw)
          | (at_builtin; refine wpList_push (w0 := W) elU rfl _ _ 55 rfl W.heap.size 27 i0 _ 8 Try.underlying55 hi0 hz0 hz1 hz2 rfl (by decide) _ L m HLn.out rfl HG2.out z wr.heap.size 1 rfl (fun j u hu => new_cells j u hu) HZ.out (by omega) HB2.out (by simp; have := HS.out; omega) ?_))
        intro g cap' w1 HG1 HB1 HGr
        clear HGr
        go_wp2
        go_roundw
        case rel => exact ⟨k + 1, by omega, by go_num, by rw [HT.out]; exact HG1, HB1⟩
        case measure => simp [intOf]; omega
    · obtain rfl : k = l.length := by omega
      have hi : ¬ (l.length : Int) < (l.length : Int) := by omega
      rw [List.take_of_length_le (Nat.le_refl _)] at HTk0
      have HS := hide (bsum_any (HG.out.list (by rw [HLn.out]; omega)))
      have HE : Hid (cutN (toks d l) = cutN L.sum) := by show _ = _; rw [← tokC_sum, HTk0.out]
      go_wp2_with (go_at_call 16; refine HS.out.mono ?_; rintro e w2 ⟨rfl, hw⟩; have hw := hw.symm; subst hw)
      go_ret
      exact ⟨by rw [HE.out]; rfl, BW.out.trans (HB.out.mono BW.out.size)⟩
end Go.Proofs.Ytihkhnljjegopaa
