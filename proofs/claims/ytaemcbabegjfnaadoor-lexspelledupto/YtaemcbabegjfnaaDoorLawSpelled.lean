/- edictlaw02.LexSpelled returns true. -/
import Derived.Test.YtaemcbabegjfnaaDoorProg
import Derived.Test.YtaemcbabegjfnaaDoorPartMem
import Derived.Test.YtaemcbabegjfnaaDoorSmallCat
import Derived.Test.YtaemcbabegjfnaaDoorLexSame
import Derived.Test.YtaemcbabegjfnaaDoorLexScan
import Derived.Deep.AppendLies
import Derived.Laws.OwnMore
namespace Go.Proofs.YtaemcbabegjfnaaDoor
set_option linter.unusedSimpArgs false
set_option linter.unusedVariables false
open Go.RowKit

def sp0 : Sp := ⟨[97], [⟨1, ⟨#[97]⟩, 0, 0, 0, 1⟩]⟩
def spTok (x : Tok) (o e : Nat) : Tok := ⟨x.k, x.t, x.n, x.op, o, e⟩

set_option maxRecDepth 100000 in
set_option maxHeartbeats 16000000 in
theorem lexSpelled_walk {w : World} {v : Value} {ps : List Prt} (h : Has elPrt w v ps) (ht : TabLaidL w) (hL : LexLaid w) :
    Calls Tryd.prog 3 #[v] w fun e w' => e = .returned (.bool true) ∧ Below w.heap.size w w' := by
  obtain ⟨i0, hi0, hz0, hz1, hz2⟩ := info_parts Tryd.infoTok
  obtain ⟨ao, cap, rfl, -, -, hlen⟩ := h.shape
  have HP := hide h
  have HT := hide ht
  have HLx := hide hL
  have HOk : Hid (∀ p ∈ ps, I64 p.n ∧ p.w.size ≤ 10000000) := fun p hp => h.ok hp
  clear h ht hL
  obtain ⟨n, hn⟩ : ∃ n, n = ps.length := ⟨_, rfl⟩
  rw [← hn] at hlen ⊢
  have HN := hide hn
  clear hn
  have HO0 : Hid ((w.alloc (.cells (cells6 ⟨1, ⟨#[97]⟩, 0, 0, 0, 1⟩).toArray 24)).ownsRow w.heap.size 24 6 (.slice (some ⟨w.heap.size, 0, none⟩) 1 1) sp0.w.length (sp0.w.flatMap cells6)) := World.ownsRow_lit w _ 1 (Nat.le_refl _) (by decide) rfl
  go_enter Tryd.func3, Tryd.ntmps3
  go_wp2
  go_loopw [3, 4, 5] (fun tv wv i wl => ∃ (k : Nat) (q : Sp), k ≤ n ∧ i = .int .i64 k ∧ tv = .string ⟨q.t.toArray⟩ ∧ Hid (q = (ps.take k).foldl spStep sp0) ∧ Hid (SpInv q) ∧ Hid (wl.ownsRow w.heap.size 24 6 wv q.w.length (q.w.flatMap cells6)) ∧ Hid (Below w.heap.size w wl)) (fun _ _ i _ => n - (intOf i).toNat)
  case atStart => exact ⟨0, sp0, by omega, rfl, rfl, rfl, sp_start, HO0.out, (Below.refl w.heap.size w).alloc (Nat.le_refl _) _⟩
  case round =>
    clear HO0
    obtain ⟨k, q, hk, rfl, rfl, HQ, HI, HO, HB⟩ := hrel
    have hqs := HI.out.sz
    have hql := HI.out.wl
    have hq0 : 0 < q.t.length := List.length_pos_iff.2 HI.out.ne
    obtain ⟨TB, hTB⟩ : ∃ TB : ByteArray, TB = ⟨q.t.toArray⟩ := ⟨_, rfl⟩
    have hTz : TB.size = q.t.length := by rw [hTB]; show q.t.toArray.size = _; simp
    rw [← hTB]
    have HTB := hide hTB
    by_cases hlt : k < n
    · have hi : (k : Int) < (n : Int) := by omega
      have hi0' : (0 : Int) ≤ (k : Int) := by omega
      obtain ⟨p, hp⟩ : ∃ p, ps[k]? = some p := ⟨_, List.getElem?_eq_getElem (by have := HN.out; omega)⟩
      obtain ⟨pb, off, rfl, hpb, -, hrow⟩ := (HP.out).row (by have := HN.out; omega)
      have hok := HOk.out p (List.mem_of_getElem? hp)
      have HStep : Hid ((ps.take (k + 1)).foldl spStep sp0 = spStep q p) := by
        show _ = _
        rw [List.take_add_one, hp, Option.toList_some, List.foldl_append, ← HQ.out]
        rfl
      have c0 := kept_cell HB.out (hrow k p hp 0 _ rfl)
      have c1 := kept_cell HB.out (hrow k p hp 1 _ rfl)
      have c2 := kept_cell HB.out (hrow k p hp 2 _ rfl)
      have c3 := kept_cell HB.out (hrow k p hp 3 _ rfl)
      have c4 := kept_cell HB.out (hrow k p hp 4 _ rfl)
      have c5 := kept_cell HB.out (hrow k p hp 5 _ rfl)
      simp only [elPrt, Nat.add_zero] at c0 c1 c2 c3 c4 c5
      clear hrow
      have hpbl : pb < wr.heap.size := Nat.lt_of_lt_of_le hpb HB.out.size
      obtain ⟨S, x, b, hsp, hcall⟩ := spelling_any p w hok.1 hok.2 HT.out
      have HC : Hid (∀ W, Below w.heap.size w W → SpOk p S x b W) := hcall
      unfold SpOk partV spV at HC
      clear hcall hp HP
      cases b with
      | false =>
        rw [if_neg (by decide)] at hsp
        have HSt : Hid (spStep q p = q) := by show _ = _; unfold spStep; rw [hsp]
        clear hsp hok hqs hql hq0 hTz hTB
        go_wp2_with (first
          | (go_at_call 4; refine (HC.out _ HB.out).mono ?_; rintro e w2 ⟨rfl, hb2⟩; have HB2 := hide (HB.out.trans (hb2.mono HB.out.size)); have HO2 := hide (own_kept HO.out hb2); clear hb2))
        go_roundw
        case rel => exact ⟨k + 1, q, by omega, by go_num, (by rw [HTB.out]), (by show q = _; rw [HStep.out, HSt.out]), HI.out, (by first | exact World.ownsRow.alloc HO2.out _ | exact HO2.out), (by first | exact HB2.out.alloc HB2.out.size _ | exact HB2.out)⟩
        case measure => simp [intOf]; omega
      | true =>
        rw [if_pos rfl] at hsp
        have hSl : S.data.toList.length = S.size := rfl
        have hS2 : S.size ≤ 2000 := by rw [← hSl]; exact spell_len hok.1 hsp
        have hS0 : 0 < S.size := by
          obtain ⟨okk, hT, -⟩ := spell_tkn hok.1 hsp
          rw [← hSl]; exact List.length_pos_iff.2 (tkn_ne hT)
        have hTl : TB.data.toList = q.t := by rw [hTB]
        obtain ⟨G, hG⟩ : ∃ G, G = betwL (q.t.getLastD 0) (S.data.toList.headD 0) p.g := ⟨_, rfl⟩
        have hGl : G.length ≤ 17 := by rw [hG]; exact betw_len _ _ _
        obtain ⟨GB, hGB⟩ : ∃ GB : ByteArray, GB = ⟨G.toArray⟩ := ⟨_, rfl⟩
        have hGz : GB.size = G.length := by rw [hGB]; show G.toArray.size = _; simp
        have HBt : Hid (∀ W, Calls Tryd.prog 5 #[.string TB, .string S, .int .i64 p.g] W fun e w' => e = .returned (.string GB) ∧ w' = W) := fun W => by
          have := between_any TB S p.g W (by omega) hS0 (by omega)
          rw [hTl, ← hG, ← hGB] at this
          exact this
        have hst : spStep q p = spOne q S.data.toList x G := by unfold spStep; rw [hsp, hG]
        have b1 : TB.size ≤ 100000 := by omega
        have b2 : GB.size ≤ 17 := by omega
        by_cases hov : 65536 < q.t.length + G.length + S.data.toList.length
        · have HSt : Hid (spStep q p = q) := by show _ = _; rw [hst]; unfold spOne; rw [if_pos hov]
          have hd : decide ((65536 : Int) < (TB.size : Int) + (GB.size : Int) + (S.size : Int)) = true := decide_eq_true (by omega)
          clear hsp hok hqs hql hq0 hTz hTl hG hGl hGB hGz hst hov hSl hS0 hTB
          go_wp2_with (first
            | (go_at_call 4; refine (HC.out _ HB.out).mono ?_; rintro e w2 ⟨rfl, hb2⟩; have HB2 := hide (HB.out.trans (hb2.mono HB.out.size)); have HO2 := hide (own_kept HO.out hb2); have z4 := kept_cell hb2 c4; have hpb2 := Nat.lt_of_lt_of_le hpbl hb2.size; clear hb2)
            | (go_at_call 5; refine (HBt.out _).mono ?_; rintro e w3 ⟨rfl, hw3⟩; have hw3 := hw3.symm; subst hw3))
          go_roundw
          case rel => exact ⟨k + 1, q, by omega, by go_num, (by rw [HTB.out]), (by show q = _; rw [HStep.out, HSt.out]), HI.out, (by first | exact World.ownsRow.alloc HO2.out _ | exact HO2.out), (by first | exact HB2.out.alloc HB2.out.size _ | exact HB2.out)⟩
          case measure => simp [intOf]; omega
        · obtain ⟨T1, hT1⟩ : ∃ T1, T1 = TB ++ GB := ⟨_, rfl⟩
          obtain ⟨T2, hT2⟩ : ∃ T2, T2 = T1 ++ S := ⟨_, rfl⟩
          have z1 : T1.size = q.t.length + G.length := by rw [hT1, ByteArray.size_append]; omega
          have z2 : T2.size = q.t.length + G.length + S.data.toList.length := by rw [hT2, ByteArray.size_append]; omega
          have hcat1 : ∀ W : World, (Op.stringOp .add TB GB).run Tryd.prog W = .ok (.string T1) W := fun W => by rw [hT1]; exact small_cat _ _ (by omega) W
          have hcat2 : ∀ W : World, (Op.stringOp .add T1 S).run Tryd.prog W = .ok (.string T2) W := fun W => by rw [hT2]; exact small_cat _ _ (by omega) W
          have HQ2 : Hid (spStep q p = ⟨q.t ++ G ++ S.data.toList, q.w ++ [spTok x T1.size T2.size]⟩) := by
            show _ = _
            rw [hst]; unfold spOne; rw [if_neg hov, z1, z2]; rfl
          have HT2e : Hid (T2 = ⟨(q.t ++ G ++ S.data.toList).toArray⟩) := by
            show _ = _
            rw [hT2, hT1, hTB, hGB]
            apply ByteArray.ext
            apply Array.ext'
            rw [ByteArray.data_append, ByteArray.data_append, Array.toList_append, Array.toList_append]
          have HI2 : Hid (SpInv (spStep q p)) := sp_step HI.out hok.1
          have hd : decide ((65536 : Int) < (TB.size : Int) + (GB.size : Int) + (S.size : Int)) = false := decide_eq_false (by omega)
          have hwl : q.w.length ≤ 70000 := by omega
          clear hsp hok hqs hql hq0 hTz hTl hG hGl hGB hGz hst hov hSl hS0 z1 z2 hT1 hT2 hTB
          go_wp2_with (first
            | (go_at_call 4; refine (HC.out _ HB.out).mono ?_; rintro e w2 ⟨rfl, hb2⟩; have HB2 := hide (HB.out.trans (hb2.mono HB.out.size)); have HO2 := hide (own_kept HO.out hb2); have z4 := kept_cell hb2 c4; have hpb2 := Nat.lt_of_lt_of_le hpbl hb2.size; have hbs2 := HB2.out.size; clear hb2)
            | (go_at_call 5; refine (HBt.out _).mono ?_; rintro e w3 ⟨rfl, hw3⟩; have hw3 := hw3.symm; subst hw3)
            | (at_builtin; refine wpList_append_lies _ rfl _ _ 25 rfl w.heap.size 24 i0 (.agg #[.int .i64 0, .string ⟨#[]⟩, .int .i64 0, .int .i64 0, .int .i64 0, .int .i64 0]) 6 56 Tryd.underlying25 hi0 hz0 hz1 hz2 rfl (by decide) _ q.w.length (q.w.flatMap cells6) rfl (World.ownsRow.alloc (World.ownsRow.alloc HO2.out _) _) ⟨w2.heap.size + 1, 0, none⟩ 1 1 (cells6 (spTok x T1.size T2.size)) rfl rfl (news6 w2 (spTok x T1.size T2.size) _) (one6 _) (by decide) (by unfold maxLen; omega) (by omega) (by simp; omega) (w2.heap.size + 2) (by simp) ?_; intro g cap' w4 hown1 hgrow hat hlt1; have HOn := hide hown1; have HB4 := hide (grown_belowW (HB2.out.alloc HB2.out.size _) (by simp; omega) (World.ownsRow.alloc HO2.out _) hgrow); clear hown1 hgrow hat hlt1))
          go_roundw
          case rel => exact ⟨k + 1, spStep q p, by omega, by go_num, (by rw [HQ2.out, HT2e.out]), HStep.out.symm, HI2.out, (by rw [HQ2.out]; have h9 := HOn.out; simp only [List.length_append, List.length_singleton, List.flatMap_append, List.flatMap_singleton]; exact h9), HB4.out⟩
          case measure => simp [intOf]; omega
    · obtain rfl : k = n := by omega
      have hi : ¬ (k : Int) < (k : Int) := by omega
      have hscan := sp_scan HI.out
      rw [← hTB, ← hTz] at hscan
      have hz := toks_zero (scan_toks TB (by omega)) (by rw [hscan])
      rw [hscan] at hz
      simp only at hz
      obtain ⟨m, hm⟩ : ∃ m, m = q.w.length := ⟨_, rfl⟩
      obtain ⟨L, hLe⟩ : ∃ L, L = q.w ++ [endTok TB.size] := ⟨_, rfl⟩
      have hLl : L.length = m + 1 := by rw [hLe, hm]; simp
      have hLt : L.take m = q.w := by rw [hLe, hm, List.take_left']; rfl
      have HSc : Hid (∀ W, LexLaid W → Calls Tryd.prog 6 #[.string TB] W fun e w' => ∃ v, e = .returned (.tuple #[v, .agg #[.int .i64 0, .int .i64 0, .int .i64 0]]) ∧ w'.ownsRow W.heap.size 24 6 v L.length (L.flatMap cells6) ∧ Below W.heap.size W w') := fun W hW => by
        have := scan_any TB W hW (by omega)
        rw [hscan] at this
        rw [hLe]
        exact this
      have HEn : Hid (∀ g cp W, (∀ i t, L[i]? = some t → TokAt W g (i * 6) t) → Calls Tryd.prog 7 #[.slice (some ⟨g, 0, none⟩) (m + 1) cp, .agg #[.int .i64 0, .int .i64 0, .int .i64 0], .int .i64 (TB.size : Int)] W fun e w' => e = .returned (.bool true) ∧ Below W.heap.size W w') := fun g cp W hh => by
        have := ended_any g cp TB.size L W (by omega) (by omega) hh (by rw [hLe]; exact hz.2.2.2) (by rw [hLe]; exact hz.2.2.1)
        rw [hLl] at this
        exact this
      have HSm : Hid (∀ g cp wv W, (∀ i t, L[i]? = some t → TokAt W g (i * 6) t) → IsToks W wv q.w → Calls Tryd.prog 8 #[.slice (some ⟨g, 0, none⟩) m cp, wv] W fun e w' => e = .returned (.bool true) ∧ Below W.heap.size W w') := fun g cp wv W hh h2 => by
        have h3 := take_isToks (cp := cp) hh m (by omega)
        rw [hLt] at h3
        exact same_self _ _ q.w W (by omega) h3 h2
      have b1 : TB.size ≤ 100000 := by omega
      have b2 : m ≤ 70000 := by omega
      have HLl := hide hLl
      clear hTB hscan hz hLe hLt hqs hql hq0 hTz hm hLl
      go_wp2_with (first
        | (go_at_call 6; refine (HSc.out _ (HLx.out.kept HB.out)).mono ?_; rintro e w2 ⟨lv, rfl, hown, hb2⟩; obtain ⟨g, cp, rfl, -, hg, hat⟩ := own_toks hown (by rw [HLl.out]; omega); rw [HLl.out]; have hcp : m + 1 ≤ cp := (by have := own_cap hown; rw [HLl.out] at this; exact this); have HTk := hide hat; have HW2 := hide ((own_isToks HO.out).kept hb2); have HB2 := hide (HB.out.trans (hb2.mono HB.out.size)); clear hown hb2 hat)
        | (go_at_call 7; refine (HEn.out _ _ _ (fun i t hi => (HTk.out i t hi).kept ((Below.refl _ _).alloc (Nat.le_refl _) _))).mono ?_; rintro e w3 ⟨rfl, hb3⟩; have hb4 := (((Below.refl w2.heap.size w2).alloc (Nat.le_refl _) _).trans (hb3.mono (by simp))); have HB3 := hide (HB2.out.trans (hb4.mono HB2.out.size)); have HW3 := hide (HW2.out.kept hb4); have HTk3 := hide (fun i t hi => (HTk.out i t hi).kept hb4); clear hb3 hb4)
        | (go_at_call 8; refine (HSm.out _ _ _ _ HTk3.out HW3.out).mono ?_; rintro e w5 ⟨rfl, hb5⟩; have HB5 := hide (HB3.out.trans (hb5.mono HB3.out.size)); clear hb5))
      go_ret
      exact ⟨rfl, HB5.out⟩
end Go.Proofs.YtaemcbabegjfnaaDoor
