/- The document's Ids: Cut, NewIds. -/
import Derived.Test.YtbagefemhidbjaaRIds2
namespace Go.Proofs.Ytbagefemhidbjaa
set_option linter.unusedSimpArgs false
set_option linter.unusedVariables false
open Go.RowKit Go.Maps

variable {base : Nat} {w w' : World} {p : Nat} {v : Value} {ks : List ByteArray}

theorem ddS_nodup (ss : List ByteArray) : (ddS ss).Nodup := by
  have h : ∀ (ss ks : List ByteArray), ks.Nodup → (ss.foldl addS ks).Nodup := by
    intro ss
    induction ss with
    | nil => intro ks h; exact h
    | cons s r ih => intro ks h; exact ih _ (addS_nodup h s)
  exact h ss [] List.nodup_nil

theorem own_monoS {b b' : Nat} {W : World} {e : TypeId} {n : Nat} {xs : List Value} (h : W.ownsRow b e 1 v n xs) (hb : b' ≤ b) : W.ownsRow b' e 1 v n xs := by
  refine ⟨h.1, ?_⟩
  rcases h.2 with h0 | ⟨g, cap, cur, hv, hbase, rest⟩
  · exact .inl h0
  · exact .inr ⟨g, cap, cur, hv, by omega, rest⟩

theorem RIds.reset (h : RIds base w p v ks) (hb : base ≤ w.heap.size) {W : World} {v' : Value} {xs : List ByteArray} (hs : SL w W v' xs) : RIds base (W.setCell ⟨p, 0, none⟩ v') p v' xs ∧ Only (fun k => k = p) w (W.setCell ⟨p, 0, none⟩ v') ∧ ∀ g, v'.ownBlock = some g → w.heap.size ≤ g := by
  have hplt := h.plt
  have hbx : Boxed W p 70 v := (hs.bel.block p hplt).trans h.fields
  refine ⟨⟨hbx.set _, h.hp, ?_⟩, ?_, fun g hg => (hs.row.lt g hg).1⟩
  · refine ownsRow_setCell_other (own_monoS hs.row hb) (a := ⟨p, 0, none⟩) (fun e => ?_) _
    have := (hs.row.lt p e).1
    omega
  · exact (Only.of_below hs.bel (fun k => k = p)).setCell (p := ⟨p, 0, none⟩) rfl _

set_option maxRecDepth 100000 in
set_option maxHeartbeats 2000000 in
theorem rcut_any (h : RIds base w p v ks) (hb : base ≤ w.heap.size) (hl : ks.length < 2199023255552) (n : Int) (d : Nat) (hd : (d = ks.length ∧ d ≤ n.toNat) ∨ (d = n.toNat ∧ d ≤ ks.length)) :
    Calls Try.prog 37 #[.pointer (some ⟨p, 0, none⟩), .int .i64 n] w fun e w' => e = .returned (.tuple #[]) ∧ Hid (∃ v', RIds base w' p v' (ks.take d) ∧ Only (fun k => k = p) w w' ∧ ∀ g, v'.ownBlock = some g → w.heap.size ≤ g) := by
  obtain ⟨i0, hi0, hz0, hz1, hz2⟩ := info_parts Try.infoStr
  obtain ⟨a, cap, rfl⟩ := h.shape
  have c0 := h.c0
  have HC : Hid (∀ j s, ks[j]? = some s → ∃ g, a = some ⟨g, 0, none⟩ ∧ w.cell? ⟨g, j, none⟩ = some (.string s)) := fun j s hj => by
    obtain ⟨g', cap', hv, hc⟩ := str_cell h.row hj
    simp only [Value.slice.injEq] at hv
    exact ⟨g', hv.1, hc⟩
  have HR := hide h
  obtain ⟨len, hlen⟩ : ∃ len, len = ks.length := ⟨_, rfl⟩
  have HL := hide hlen
  rw [← hlen] at c0 hl hd
  obtain ⟨M, hM⟩ : ∃ M, M = n.toNat := ⟨_, rfl⟩
  have HM := hide hM
  rw [← hM] at hd
  clear hlen h hM
  have hdl : d ≤ len := by omega
  have hdm : d ≤ M := by omega
  go_enter Try.func37, Try.ntmps37
  go_upto_region 0 with fail
  go_cut [4] (fun t wc => t = .int .i64 (M : Int) ∧ w = wc)
  case first =>
    by_cases h0 : n ≤ 0
    · have e : M = 0 := by have := HM.out; omega
      have h1 : ¬ 0 < n := by omega
      go_wp2
      all_goals go_meet
      all_goals exact ⟨by first | (simp [e]; done) | (simp [e]; omega), rfl⟩
    · have e : (M : Int) = n := by have := HM.out; omega
      have h1 : 0 < n := by omega
      go_wp2
      all_goals go_meet
      all_goals exact ⟨by first | rw [e] | (simp [e]; done) | (simp; omega), rfl⟩
  case rest =>
    obtain ⟨rfl, rfl⟩ := hcut
    go_wp2
    go_loopw [5, 6] (fun t i wr => ∃ (j : Nat) (b : Option Addr) (cp : Nat), j ≤ d ∧ i = .int .i64 j ∧ t = .slice b j cp ∧ Hid (SL w wr (.slice b j cp) (ks.take j))) (fun _ i _ => d - (intOf i).toNat)
    case atStart => exact ⟨0, none, 0, by omega, rfl, rfl, SL.nil w⟩
    case round =>
      obtain ⟨j, b, cp, hj, rfl, rfl, HS⟩ := hrel
      have HTk : Hid ((ks.take j).length = j) := by show _ = _; rw [List.length_take]; have := HL.out; omega
      have c0' := kept_cell HS.out.bel c0
      by_cases hlt : j < d
      · have hjl : (j : Int) < (len : Int) := by omega
        have hjm : (j : Int) < (M : Int) := by omega
        obtain ⟨s, hs⟩ : ∃ s, ks[j]? = some s := ⟨_, List.getElem?_eq_getElem (by have := HL.out; omega)⟩
        obtain ⟨g, rfl, hc⟩ := HC.out j s hs
        have hc' := kept_cell HS.out.bel hc
        have hrow := HS.out.row
        rw [HTk.out] at hrow
        have HRow := hide hrow
        have HNx : Hid (ks.take (j + 1) = ks.take j ++ [s]) := by show _ = _; rw [List.take_add_one, hs]; rfl
        have hws := HS.out.bel.size
        clear hrow hs hc
        go_wp2_with (at_builtin; refine wpList_append_lies _ rfl _ _ 22 rfl w.heap.size 9 i0 (.string ⟨#[]⟩) 1 16 Try.underlying22 hi0 hz0 hz1 hz2 rfl (by decide) (.slice b j cp) j ((ks.take j).map Value.string) rfl (HRow.out.alloc _) ⟨wr.heap.size, 0, none⟩ 1 1 [.string s] rfl rfl str_new (by simp [Value.oneCell']) (by decide) (by unfold maxLen; omega) (by omega) (by rw [World.size_alloc]; omega) (wr.heap.size + 1) (by rw [World.size_alloc]) ?_; intro gg cap' W4 hown1 hgrow hat hlt1; have hS4 := HS.out.push (by rw [HTk.out]; exact hown1) hgrow; rw [HTk.out] at hS4; have HS4 := hide hS4; clear hown1 hgrow hat hlt1 hS4)
        go_roundw
        case rel => exact ⟨j + 1, _, cap', by omega, by go_num, rfl, by rw [HNx.out]; exact HS4⟩
        case measure => simp [intOf]; omega
      · obtain rfl : j = d := by omega
        go_upto_region 3 with fail
        go_cut [20] (fun t wc => t = .bool false ∧ wr = wc)
        case first =>
          by_cases h1 : j < len
          · have hi : (j : Int) < (len : Int) := by omega
            have hi2 : ¬ (j : Int) < (M : Int) := by omega
            go_wp2
            all_goals go_meet
            all_goals exact ⟨rfl, rfl⟩
          · have hi : ¬ (j : Int) < (len : Int) := by omega
            go_wp2
            all_goals go_meet
            all_goals exact ⟨rfl, rfl⟩
        case rest =>
          obtain ⟨rfl, rfl⟩ := hcut
          have hbx : Boxed wr p 70 (.slice a len cap) := (HS.out.bel.block p HR.out.plt).trans (by rw [HL.out]; exact HR.out.fields)
          have f0' := hbx.frozen
          have HFin := hide (HR.out.reset hb HS.out)
          go_wp2
          go_end0
          exact ⟨rfl, _, HFin.out⟩

set_option maxRecDepth 100000 in
set_option maxHeartbeats 1000000 in
theorem rnew_any (ao : Option Addr) (len cap : Nat) (ss : List ByteArray) (w : World) (h : IsStrs w ao len ss) (hl : len < 2199023255552) :
    Calls Try.prog 7 #[.slice ao len cap] w fun e w' => e = .returned (.pointer (some ⟨w.heap.size, 0, none⟩)) ∧ Hid (∃ v', RIds w.heap.size w' w.heap.size v' (ddS ss) ∧ Below w.heap.size w w') := by
  obtain ⟨hlen, _, hok0, hrow⟩ := h
  have HLen := hide hlen
  have HRow := hide hrow
  clear hok0 hlen hrow
  go_enter Try.func7, Try.ntmps7
  go_wp2
  go_loopw [4] (fun i wr => ∃ (k : Nat) (v : Value), k ≤ len ∧ i = .int .i64 k ∧ Hid (RIds w.heap.size wr w.heap.size v (ddS (ss.take k))) ∧ Hid (Below w.heap.size w wr)) (fun i _ => len - (intOf i).toNat)
  case atStart => exact ⟨0, .slice none 0 0, by omega, rfl, ⟨heap_alloc_new w _, Nat.le_refl _, World.ownsRow_nil _ _ _ _⟩, (Below.refl _ _).alloc (Nat.le_refl _) _⟩
  case round =>
    obtain ⟨k, v, hk, rfl, HI, HB⟩ := hrel
    by_cases hlt : k < len
    · have hi : (k : Int) < (len : Int) := by omega
      obtain ⟨b, off, rfl, hr⟩ := HRow.out (by omega)
      obtain ⟨s, hs⟩ : ∃ s, ss[k]? = some s := ⟨_, List.getElem?_eq_getElem (by have := HLen.out; omega)⟩
      have hc := kept_cell HB.out (hr k s hs)
      have HNx : Hid (ddS (ss.take (k + 1)) = addS (ddS (ss.take k)) s) := by show _ = _; rw [List.take_add_one, hs]; exact ddS_snoc _ _
      have hkl : (ddS (ss.take k)).length < 2199023255552 := by
        have := ddS_len (ss.take k)
        rw [List.length_take] at this
        omega
      have hint : Calls Try.prog 27 #[.pointer (some ⟨w.heap.size, 0, none⟩), .string s] wr fun e w' => (∃ z, e = .returned (.int .i64 z)) ∧ Hid (∃ v', RIds w.heap.size w' w.heap.size v' (ddS (ss.take (k + 1))) ∧ Below w.heap.size w w') := by
        rw [HNx.out]
        by_cases hin : s ∈ ddS (ss.take k)
        · obtain ⟨j, hj⟩ := List.getElem?_of_mem hin
          refine (rintern_old HI.out (ddS_nodup _) hkl hj).mono ?_
          rintro e w' ⟨rfl, rfl⟩
          refine ⟨⟨_, rfl⟩, v, ?_, HB.out⟩
          unfold addS; rw [if_pos hin]; exact HI.out
        · refine (rintern_new HI.out HB.out.size hkl hin).mono ?_
          rintro e w' ⟨rfl, hp⟩
          obtain ⟨v', h1, h2, h3⟩ := hp.out
          refine ⟨⟨_, rfl⟩, v', ?_, ?_⟩
          · unfold addS; rw [if_neg hin]; exact h1
          · exact HB.out.trans (h2.below HB.out.size (fun q hq hf => by
              rcases hf with rfl | hf
              · omega
              · have := (HI.out.own_lt hf).1; omega))
      have HInt := hide hint
      clear hint hr hs
      go_wp2_with (go_at_call 27; refine HInt.out.mono ?_; rintro e w2 ⟨⟨z, rfl⟩, hp⟩; obtain ⟨v', h1, h2⟩ := hp.out; have H1 := hide h1; have H2 := hide h2; clear hp h1 h2)
      go_roundw
      case rel => exact ⟨k + 1, v', by omega, by go_num, H1, H2⟩
      case measure => simp [intOf]; omega
    · obtain rfl : k = len := by omega
      have hi : ¬ (k : Int) < (k : Int) := by omega
      have HX : Hid (RIds w.heap.size wr w.heap.size v (ddS ss)) := by
        have := HI.out
        rw [List.take_of_length_le (by rw [HLen.out]; exact Nat.le_refl _)] at this
        exact this
      go_wp2
      go_ret
      exact ⟨rfl, ⟨v, HX.out⟩, HB.out⟩
end Go.Proofs.Ytbagefemhidbjaa
