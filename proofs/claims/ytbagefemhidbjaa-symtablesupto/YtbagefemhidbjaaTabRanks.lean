/- The document's Table: Ranks; and edictlaw01's ints. -/
import Derived.Test.YtbagefemhidbjaaTabSort
namespace Go.Proofs.Ytbagefemhidbjaa
set_option linter.unusedSimpArgs false
set_option linter.unusedVariables false
open Go.RowKit Go.Maps Go.Sort

variable {base : Nat} {w w' : World} {p : Nat} {v : Value} {ks : List Con}

def ranksL (ks : List Con) : List Nat := (List.range ks.length).map fun i => (sortL ks).idxOf i

set_option maxRecDepth 100000 in
set_option maxHeartbeats 4000000 in
theorem tranks_any (h : RTab base w p v ks) (hl : ks.length ≤ 65536) (hnd : ks.Nodup) (hok : ∀ c ∈ ks, c.ok) :
    Calls Try.prog 62 #[.pointer (some ⟨p, 0, none⟩)] w fun e w' => ∃ v', e = .returned v' ∧ Hid (NL w w' v' (ranksL ks)) := by
  obtain ⟨i0, hi0, hz0, hz1, hz2⟩ := info_parts Try.infoI2
  have HIS := hide (sortL_is hnd)
  obtain ⟨a, cap, rfl⟩ := h.shape
  have c0 := h.c0
  have HC : Hid (∀ j s, ks[j]? = some s → ∃ g, a = some ⟨g, 0, none⟩ ∧ conAt w g (j * 3) s) := fun j s hj => h.at rfl hj
  have HCm : Hid (∀ (W : World) (d c : Con), d ∈ ks → c ∈ ks → ∀ z, Calls Try.prog 74 #[.agg #[.int .i64 d.k, .int .i64 d.n, .string d.s], .agg #[.int .i64 c.k, .int .i64 c.n, .string c.s]] (over W z) fun e w' => e = .returned (.int .i64 (cmpC d c)) ∧ ∃ y, w' = over W y) := fun W d c hd hc z => calls_over (refCompare_any d c (over W z) (by have := (hok d hd).2.2; unfold maxLen; omega) (by have := (hok c hc).2.2; unfold maxLen; omega))
  obtain ⟨len, hlen⟩ : ∃ len, len = ks.length := ⟨_, rfl⟩
  have HL := hide hlen
  rw [← hlen] at hl c0
  clear hlen h
  go_enter Try.func62, Try.ntmps62
  go_wp2
  go_loopw [3, 4] (fun t i wr => ∃ (j : Nat) (b : Option Addr) (cp : Nat), j ≤ len ∧ i = .int .i64 j ∧ t = .slice b j cp ∧ Hid (NL w wr (.slice b j cp) ((ranksL ks).take j))) (fun _ i _ => len - (intOf i).toNat)
  case atStart => exact ⟨0, none, 0, by omega, rfl, rfl, NL.nil w⟩
  case round =>
    obtain ⟨j, b, cp, hj, rfl, rfl, HN⟩ := hrel
    have HLL : Hid ((ranksL ks).length = len) := by show _ = _; rw [HL.out]; simp [ranksL]
    have HTk : Hid (((ranksL ks).take j).length = j) := by show _ = _; rw [List.length_take, HLL.out]; omega
    have c0' := kept_cell HN.out.bel c0
    by_cases hlt : j < len
    · have hjl : (j : Int) < (len : Int) := by omega
      obtain ⟨c, hc⟩ : ∃ c, ks[j]? = some c := ⟨_, List.getElem?_eq_getElem (by have := HL.out; omega)⟩
      obtain ⟨g, rfl, hcc⟩ := HC.out j c hc
      have HCC := hide hcc
      have HCj := hide hc
      have HNx : Hid ((ranksL ks).take (j + 1) = (ranksL ks).take j ++ [(sortL ks).idxOf j]) := by
        show _ = _
        have : (ranksL ks)[j]? = some ((sortL ks).idxOf j) := by unfold ranksL; rw [List.getElem?_map, List.getElem?_range (by have := HL.out; omega)]; rfl
        rw [List.take_add_one, this]; rfl
      clear hc hcc
      go_wp2
      generalize wr = wo at *
      go_loopw [5, 6] (fun t i wq => ∃ (q n : Nat), q ≤ len ∧ n ≤ q ∧ i = .int .i64 q ∧ t = .int .i64 n ∧ Hid ((ks.take q).countP (fun d => decide (cmpC d c < 0)) = n) ∧ Hid (Below wo.heap.size wo wq)) (fun _ i _ => len - (intOf i).toNat)
      case atStart => exact ⟨0, 0, by omega, by omega, rfl, rfl, rfl, Below.refl _ _⟩
      case round =>
        obtain ⟨q, n, hq, hnq, rfl, rfl, HCn, HB⟩ := hrel
        have c0q := kept_cell HB.out c0'
        by_cases hlq : q < len
        · have hql : (q : Int) < (len : Int) := by omega
          obtain ⟨d, hd⟩ : ∃ d, ks[q]? = some d := ⟨_, List.getElem?_eq_getElem (by have := HL.out; omega)⟩
          obtain ⟨g', hg', hdc⟩ := HC.out q d hd
          simp only [Option.some.injEq, Addr.mk.injEq, and_true] at hg'
          subst hg'
          have HBw : Hid (Below w.heap.size w wr) := HN.out.bel.trans (HB.out.mono HN.out.bel.size)
          obtain ⟨x0, x1, x2⟩ := conAt_kept hdc HBw.out
          obtain ⟨y0, y1, y2⟩ := conAt_kept HCC.out HBw.out
          have G := hide (HCm.out wr d c (List.mem_of_getElem? hd) (List.mem_of_getElem? HCj.out))
          have HCn2 : Hid ((ks.take (q + 1)).countP (fun d => decide (cmpC d c < 0)) = n + (if cmpC d c < 0 then 1 else 0)) := by
            show _ = _
            rw [List.take_add_one, hd, Option.toList_some, List.countP_append, List.countP_singleton, HCn.out]
            simp only [decide_eq_true_eq]
          clear hd hdc
          obtain ⟨y, hy⟩ : ∃ y, y = cmpC d c := ⟨_, rfl⟩
          rw [← hy] at G HCn2
          clear hy
          go_wp2
          refine wp_region_over (fun V => wr = V) (by kernel_rfl) (by kernel_rfl) rfl ?_
          rintro _ rfl
          have c0o := over_cell c0q
          have x0' := over_cell x0
          have x1' := over_cell x1
          have x2' := over_cell x2
          have y0' := over_cell y0
          have y1' := over_cell y1
          have y2' := over_cell y2
          clear x0 x1 x2 y0 y1 y2 c0q
          repeat (go_big_quiet_step ((go_at_call 74; exact G.out _)))
          refine wpQuiet_nil ?_
          rintro _ ⟨z, rfl⟩
          have HB2 : Hid (Below wo.heap.size wo (over wr z)) := HB.out.trans ((over_below _ z).mono HB.out.size)
          clear x0' x1' x2' y0' y1' y2' c0o G
          by_cases hneg : y < 0
          · rw [if_pos hneg] at HCn2
            go_wp2
            go_roundw
            case rel => exact ⟨q + 1, n + 1, by omega, by omega, by go_num, by go_num, HCn2, HB2⟩
            case measure => simp [intOf]; omega
          · rw [if_neg hneg] at HCn2
            go_wp2
            go_roundw
            case rel => exact ⟨q + 1, n, by omega, by omega, by go_num, rfl, HCn2, HB2⟩
            case measure => simp [intOf]; omega
        · obtain rfl : q = len := by omega
          have hql : ¬ (q : Int) < (q : Int) := by omega
          have HEq : Hid ((sortL ks).idxOf j = n) := by
            show _ = _
            rw [← rank_count HIS.out HCj.out, ← HCn.out, List.take_of_length_le (by rw [HL.out]; exact Nat.le_refl _)]
          have HN2 := hide (HN.out.grow HB.out)
          have hrow := HN2.out.row
          rw [HTk.out] at hrow
          have HRow := hide hrow
          have hws := HN2.out.bel.size
          clear hrow
          go_wp2_with (at_builtin; refine wpList_append_lies _ rfl _ _ 45 rfl w.heap.size 3 i0 (.int .i64 0) 1 8 Try.underlying45 hi0 hz0 hz1 hz2 rfl (by decide) (.slice b j cp) j (((ranksL ks).take j).map encI) rfl (HRow.out.alloc _) ⟨wr.heap.size, 0, none⟩ 1 1 [encI n] rfl rfl int_new (by simp [encI, Value.oneCell']) (by decide) (by unfold maxLen; omega) (by omega) (by rw [World.size_alloc]; omega) (wr.heap.size + 1) (by rw [World.size_alloc]) ?_; intro gg cap' W4 hown1 hgrow hat hlt1; have hS4 := HN2.out.push (by rw [HTk.out]; exact hown1) hgrow; rw [HTk.out] at hS4; have HS4 := hide hS4; clear hown1 hgrow hat hlt1 hS4)
          go_roundw
          case rel => exact ⟨j + 1, _, cap', by omega, by go_num, rfl, by rw [HNx.out, HEq.out]; exact HS4⟩
          case measure => simp [intOf]; omega
    · obtain rfl : j = len := by omega
      have hjl : ¬ (j : Int) < (j : Int) := by omega
      have HX : Hid (NL w wr (.slice b j cp) (ranksL ks)) := by
        have := HN.out
        rw [List.take_of_length_le (by rw [HLL.out]; exact Nat.le_refl _)] at this
        exact this
      go_wp2
      go_ret
      exact ⟨_, rfl, HX⟩

/-- A slice value leads to the n numbers f 0, f 1, .. -/
def NumsF (W : World) (a : Option Addr) (n : Nat) (f : Nat → Nat) : Prop := 0 < n → ∃ g, a = some ⟨g, 0, none⟩ ∧ ∀ i, i < n → W.cell? ⟨g, i, none⟩ = some (.int .i64 (f i : Nat))
theorem NumsF.kept {W W' : World} {a : Option Addr} {n : Nat} {f : Nat → Nat} (h : NumsF W a n f) (hb : Below W.heap.size W W') : NumsF W' a n f := fun h0 => by
  obtain ⟨g, hg, hc⟩ := h h0
  exact ⟨g, hg, fun i hi => kept_cell hb (hc i hi)⟩
theorem NL.nums {w W : World} {a : Option Addr} {n cap : Nat} {xs : List Nat} (h : NL w W (.slice a n cap) xs) (hn : xs.length = n) : NumsF W a n (fun i => xs.getD i 0) := fun h0 => by
  rcases h.row.2 with ⟨h1, h2⟩ | ⟨g, cap', cur, hv, _, hb, h1, h2, h3, h4⟩
  · omega
  · simp only [Value.slice.injEq] at hv
    refine ⟨g, hv.1, fun i hi => ?_⟩
    have e1 : (cur.toList.take (xs.length * 1))[i]? = (xs.map encI)[i]? := by rw [h4]
    rw [List.getElem?_take_of_lt (by omega), List.getElem?_map, Array.getElem?_toList] at e1
    simp only [World.cell?, hb]
    simp only [Option.isSome_none, Bool.false_eq_true, if_false]
    rw [e1, List.getD_eq_getElem?_getD, List.getElem?_eq_getElem (by omega)]
    rfl

set_option maxRecDepth 100000 in
set_option maxHeartbeats 1000000 in
theorem ints_same (a1 a2 : Option Addr) (n c1 c2 : Nat) (f : Nat → Nat) (w : World) (h1 : NumsF w a1 n f) (h2 : NumsF w a2 n f) (hn : n ≤ 65536) :
    Calls Try.prog 18 #[.slice a1 n c1, .slice a2 n c2] w fun e w' => e = .returned (.bool true) ∧ Below w.heap.size w w' := by
  have H1 := hide h1
  have H2 := hide h2
  clear h1 h2
  go_enter Try.func18, Try.ntmps18
  go_wp2
  go_loopw [5] (fun t wr => ∃ j : Nat, j ≤ n ∧ t = .int .i64 j ∧ Hid (Below w.heap.size w wr)) (fun t _ => n - (intOf t).toNat)
  case atStart => exact ⟨0, by omega, rfl, Below.refl _ _⟩
  case round =>
    obtain ⟨j, hj, rfl, HB⟩ := hrel
    by_cases hlt : j < n
    · have hi : (j : Int) < (n : Int) := by omega
      obtain ⟨b1, rfl, r1⟩ := H1.out (by omega)
      obtain ⟨b2, rfl, r2⟩ := H2.out (by omega)
      have e1 := kept_cell HB.out (r1 j hlt)
      have e2 := kept_cell HB.out (r2 j hlt)
      obtain ⟨y, hy⟩ : ∃ y, y = f j := ⟨_, rfl⟩
      rw [← hy] at e1 e2
      have q : ((y : Int) != (y : Int)) = false := by simp
      clear r1 r2 hy
      go_wp2
      go_quiet (fail)
      go_wp2
      go_roundw
      case rel => exact ⟨j + 1, by omega, by go_num, HB.out.trans (below_drewN _ _ _)⟩
      case measure => simp [intOf]; omega
    · obtain rfl : j = n := by omega
      have hi : ¬ (j : Int) < (j : Int) := by omega
      go_wp2
      go_ret
      exact ⟨rfl, HB.out⟩
end Go.Proofs.Ytbagefemhidbjaa
