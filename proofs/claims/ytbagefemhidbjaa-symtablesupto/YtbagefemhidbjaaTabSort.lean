/- The document's Table: Sorted and Ranks are the same lists as sym's. -/
import Derived.Test.YtbagefemhidbjaaRTab4
import Derived.Test.YtbagefemhidbjaaRefSort
import Derived.Test.YtbagefemhidbjaaRefCmp
import Derived.Test.YtbagefemhidbjaaSortIdsMem
import Derived.Test.YtbagefemhidbjaaRIds
namespace Go.Proofs.Ytbagefemhidbjaa
set_option linter.unusedSimpArgs false
set_option linter.unusedVariables false
open Go.RowKit Go.Maps Go.Sort

variable {base : Nat} {w w' : World} {p : Nat} {v : Value} {ks : List Con}

/-- A list of numbers in memory made since w. -/
structure NL (w W : World) (v : Value) (xs : List Nat) : Prop where
  row : W.ownsRow w.heap.size 3 1 v xs.length (xs.map encI)
  bel : Below w.heap.size w W
theorem NL.nil (w : World) : NL w w (.slice none 0 0) [] := ⟨World.ownsRow_nil _ _ _ _, Below.refl _ _⟩
theorem NL.shape {W : World} {xs : List Nat} (h : NL w W v xs) : ∃ a cap, v = .slice a xs.length cap := by
  rcases h.row.2 with ⟨rfl, h0⟩ | ⟨g, cap, cur, rfl, _⟩
  · exact ⟨none, 0, by rw [h0]⟩
  · exact ⟨_, cap, rfl⟩
theorem NL.grow {W W' : World} {xs : List Nat} (h : NL w W v xs) (hb : Below W.heap.size W W') : NL w W' v xs := ⟨own_keptS h.row hb, h.bel.trans (hb.mono h.bel.size)⟩
theorem NL.push {W W4 : World} {xs : List Nat} (h : NL w W v xs) {tmp : Obj} {k : Nat} {gg cap' : Nat} (hown : W4.ownsRow w.heap.size 3 1 (.slice (some ⟨gg, 0, none⟩) (xs.length + 1) cap') (xs.length + 1) (xs.map encI ++ [encI k]))
    (hg : (W.alloc tmp).grownBy W4 v.ownBlock) : NL w W4 (.slice (some ⟨gg, 0, none⟩) (xs.length + 1) cap') (xs ++ [k]) := by
  refine ⟨?_, ?_⟩
  · rw [List.map_append, List.length_append]; exact hown
  · have hb := h.bel.alloc h.bel.size tmp
    exact hb.grown hg hb.size (fun q hq => (h.row.lt q hq).1)

theorem own_mono0 {b b' : Nat} {W : World} {e : TypeId} {n : Nat} {xs : List Value} (h : W.ownsRow b e 1 v n xs) (hb : b' ≤ b) : W.ownsRow b' e 1 v n xs := by
  refine ⟨h.1, ?_⟩
  rcases h.2 with h0 | ⟨g, cap, cur, hv, hbase, rest⟩
  · exact .inl h0
  · exact .inr ⟨g, cap, cur, hv, by omega, rest⟩

theorem int_new {w : World} {k : Nat} : ∀ j u, [encI k][j]? = some u → (w.alloc (.cells #[.int .i64 (k : Int)] 3)).cell? ((⟨w.heap.size, 0, none⟩ : Addr).add j) = some u :=
  World.news_of_block (cs := #[.int .i64 (k : Int)]) (t := 3) (fr := (0, 0)) (heap_alloc_new w _)

theorem Try.infoI2 : (Try.prog.info? 3).map (fun i => (i.zero, i.size, i.bytes)) = some (some (.int .i64 0), 1, 8) := by kernel_rfl

/-- The constants in their order, by the ids in their order. -/
def keysOf (ks : List Con) (L : List Nat) : List Con := L.map fun i => ks[i]?.getD Con.zero

theorem keys_range (ks : List Con) : keysOf ks (List.range ks.length) = ks := by
  apply List.ext_getElem
  · simp [keysOf]
  · intro i h1 h2; simp [keysOf, h2]

theorem keys_perm {L : List Nat} (h : IdSort ks L) : (keysOf ks L).Perm ks := by
  have := h.perm.map (fun i => ks[i]?.getD Con.zero)
  rw [show (List.range ks.length).map (fun i => ks[i]?.getD Con.zero) = ks from keys_range ks] at this
  exact this

theorem keys_srt {L : List Nat} (h : IdSort ks L) : Srt (keysOf ks L) := by
  unfold Srt keysOf
  rw [List.pairwise_map]
  refine List.Pairwise.imp_of_mem ?_ h.srt
  intro i j hi hj hs
  have h1 : i < ks.length := h.mem.1 hi
  have h2 : j < ks.length := h.mem.1 hj
  rw [List.getElem?_eq_getElem h1, List.getElem?_eq_getElem h2]
  have := hs ks[i] ks[j] (List.getElem?_eq_getElem h1) (List.getElem?_eq_getElem h2)
  unfold leC
  simp only [Option.getD_some, decide_eq_true_eq]
  omega

theorem sorted_keys {L : List Nat} (h : IdSort ks L) {K : List Con} (hp : K.Perm ks) (hs : Srt K) : K = keysOf ks L := sorted_unique (hp.trans (keys_perm h).symm) hs (keys_srt h)

/-- The rank of a constant is how many come ahead of it. -/
theorem rank_count {L : List Nat} (h : IdSort ks L) {i : Nat} {c : Con} (hi : ks[i]? = some c) : ks.countP (fun d => decide (cmpC d c < 0)) = L.idxOf i := by
  have hil : i < ks.length := (List.getElem?_eq_some_iff.1 hi).1
  obtain ⟨h1, h2⟩ := h.at hil
  rw [← (keys_perm h).countP_eq]
  unfold keysOf
  rw [List.countP_map]
  have hsplit := List.take_append_drop (L.idxOf i) L
  rw [← hsplit, List.countP_append]
  have ha : ∀ j ∈ L, (cmpC (ks[j]?.getD Con.zero) c < 0) ↔ L.idxOf j < L.idxOf i := by
    intro j hj
    have hjl : j < ks.length := h.mem.1 hj
    rw [List.getElem?_eq_getElem hjl, Option.getD_some, h.ahead hi (List.getElem?_eq_getElem hjl)]
    have := cmpC_rng ks[j] c
    omega
  have t1 : (L.take (L.idxOf i)).countP ((fun d => decide (cmpC d c < 0)) ∘ fun i => ks[i]?.getD Con.zero) = (L.take (L.idxOf i)).length := by
    rw [List.countP_eq_length]
    intro j hj
    obtain ⟨q, hq⟩ := List.getElem?_of_mem hj
    rw [List.getElem?_take] at hq
    split at hq
    · next hlt =>
      have hjm := List.mem_of_getElem? hq
      simp only [Function.comp, decide_eq_true_eq]
      rw [ha j hjm, h.back hq]
      exact hlt
    · cases hq
  have t2 : (L.drop (L.idxOf i)).countP ((fun d => decide (cmpC d c < 0)) ∘ fun i => ks[i]?.getD Con.zero) = 0 := by
    rw [List.countP_eq_zero]
    intro j hj
    obtain ⟨q, hq⟩ := List.getElem?_of_mem hj
    rw [List.getElem?_drop] at hq
    have hjm := List.mem_of_getElem? hq
    simp only [Function.comp, decide_eq_true_eq]
    rw [ha j hjm, h.back hq]
    omega
  rw [t1, t2, List.length_take]
  rw [hsplit]
  omega

set_option maxRecDepth 100000 in
set_option maxHeartbeats 2000000 in
theorem tsorted_any (h : RTab base w p v ks) (hl : ks.length ≤ 65536) (hnd : ks.Nodup) (hok : ∀ c ∈ ks, c.ok) :
    Calls Try.prog 61 #[.pointer (some ⟨p, 0, none⟩)] w fun e w' => ∃ v', e = .returned v' ∧ Hid (NL w w' v' (sortL ks)) := by
  obtain ⟨i0, hi0, hz0, hz1, hz2⟩ := info_parts Try.infoI2
  have hIS := sortL_is hnd
  obtain ⟨a, cap, hva, _, hI⟩ := holds_cons h.row hok (by omega)
  have c0 := h.c0
  rw [hva] at c0
  have HS := hide (refSort_any a ks.length cap ks w hI.1 (by omega))
  have HFd : Hid (∀ (W : World) (q : Nat) (c : Con), Below w.heap.size w W → ks[q]? = some c → Calls Try.prog 51 #[.pointer (some ⟨p, 0, none⟩), .agg #[.int .i64 c.k, .int .i64 c.n, .string c.s]] W fun e w' => e = .returned (.int .i64 (q : Int)) ∧ Below W.heap.size W w') := fun W q c hb hq => tfind_any (h.grow hb) hl c q (.inr ⟨q, rfl, hq, fun j hj e => by have := nodupC_at hnd e hq; omega⟩)
  have HIS := hide hIS
  obtain ⟨len, hlen⟩ : ∃ len, len = ks.length := ⟨_, rfl⟩
  have HL := hide hlen
  rw [← hlen] at hl c0 HS
  clear hlen h hIS hI hva
  go_enter Try.func61, Try.ntmps61
  go_upto_region 2 with (go_at_call 73; refine HS.out.mono ?_; rintro e W1 ⟨vK, K, rfl, hH, hs, hp, hb⟩; have HH := hide hH; have HB1 := hide hb; have HK : Hid (K = keysOf ks (sortL ks)) := sorted_keys HIS.out hp hs; have HKL : Hid (K.length = len) := (by show _ = _; rw [HL.out]; exact hp.length_eq); clear hH hs hp hb HS)
  have hshp : ∃ aK cK, vK = .slice aK len cK := by
    rcases HH.out.2 with ⟨rfl, h0⟩ | ⟨g, cap, cur, rfl, _⟩
    · exact ⟨none, 0, by rw [← HKL.out, h0]⟩
    · exact ⟨_, _, by rw [HKL.out]⟩
  obtain ⟨aK, cK, rfl⟩ := hshp
  go_wp2
  go_loopw [4, 5] (fun t i wr => ∃ (j : Nat) (b : Option Addr) (cp : Nat), j ≤ len ∧ i = .int .i64 j ∧ t = .slice b j cp ∧ Hid (NL W1 wr (.slice b j cp) ((sortL ks).take j))) (fun _ i _ => len - (intOf i).toNat)
  case atStart => exact ⟨0, none, 0, by omega, rfl, rfl, NL.nil W1⟩
  case round =>
    obtain ⟨j, b, cp, hj, rfl, rfl, HN⟩ := hrel
    have HLL : Hid ((sortL ks).length = len) := by show _ = _; rw [HL.out]; exact sortL_len ks
    have HTk : Hid (((sortL ks).take j).length = j) := by show _ = _; rw [List.length_take, HLL.out]; omega
    by_cases hlt : j < len
    · have hjl : (j : Int) < (len : Int) := by omega
      obtain ⟨q, hq⟩ : ∃ q, (sortL ks)[j]? = some q := ⟨_, List.getElem?_eq_getElem (by rw [HLL.out]; exact hlt)⟩
      have hql : q < ks.length := HIS.out.mem.1 (List.mem_of_getElem? hq)
      obtain ⟨c, hc⟩ : ∃ c, ks[q]? = some c := ⟨_, List.getElem?_eq_getElem hql⟩
      have hKj : K[j]? = some c := by rw [HK.out]; unfold keysOf; rw [List.getElem?_map, hq]; simp [hc]
      obtain ⟨g, cap', hv', hcc⟩ := con_cell HH.out hKj
      simp only [Value.slice.injEq] at hv'
      obtain ⟨rfl, -, -⟩ := hv'
      obtain ⟨x0, x1, x2⟩ := conAt_kept hcc HN.out.bel
      have HF := hide (HFd.out wr q c (HB1.out.trans (HN.out.bel.mono HB1.out.size)) hc)
      have HNx : Hid ((sortL ks).take (j + 1) = (sortL ks).take j ++ [q]) := by show _ = _; rw [List.take_add_one, hq]; rfl
      have hws := HN.out.bel.size
      clear hcc hKj hc hq
      go_wp2_with (first
        | (go_at_call 51; refine HF.out.mono ?_; rintro e W2 ⟨rfl, hb2⟩; have HN2 := hide (HN.out.grow hb2); have hws2 : W1.heap.size ≤ W2.heap.size := Nat.le_trans hws hb2.size; have hrow := (HN.out.grow hb2).row; rw [HTk.out] at hrow; have HRow := hide hrow; clear hb2 HF hrow)
        | (at_builtin; refine wpList_append_lies _ rfl _ _ 45 rfl W1.heap.size 3 i0 (.int .i64 0) 1 8 Try.underlying45 hi0 hz0 hz1 hz2 rfl (by decide) (.slice b j cp) j (((sortL ks).take j).map encI) rfl (HRow.out.alloc _) ⟨W2.heap.size, 0, none⟩ 1 1 [encI q] rfl rfl int_new (by simp [encI, Value.oneCell']) (by decide) (by unfold maxLen; omega) (by omega) (by rw [World.size_alloc]; omega) (W2.heap.size + 1) (by rw [World.size_alloc]) ?_; intro gg cap' W4 hown1 hgrow hat hlt1; have hS4 := HN2.out.push (by rw [HTk.out]; exact hown1) hgrow; rw [HTk.out] at hS4; have HS4 := hide hS4; clear hown1 hgrow hat hlt1 hS4))
      go_roundw
      case rel => exact ⟨j + 1, _, cap', by omega, by go_num, rfl, by rw [HNx.out]; exact HS4⟩
      case measure => simp [intOf]; omega
    · obtain rfl : j = len := by omega
      have hjl : ¬ (j : Int) < (j : Int) := by omega
      have HX : Hid (NL W1 wr (.slice b j cp) (sortL ks)) := by
        have := HN.out
        rw [List.take_of_length_le (by rw [HLL.out]; exact Nat.le_refl _)] at this
        exact this
      go_wp2
      go_ret
      refine ⟨_, rfl, ⟨own_mono0 HX.out.row HB1.out.size, HB1.out.trans (HX.out.bel.mono HB1.out.size)⟩⟩
end Go.Proofs.Ytbagefemhidbjaa
