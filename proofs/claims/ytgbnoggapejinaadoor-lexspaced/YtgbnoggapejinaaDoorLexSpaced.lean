/- edictlaw02.LexSpaced returns true: the spellings, a blank between, are the same tokens. -/
import Derived.Test.YtgbnoggapejinaaDoorProg
import Derived.Test.YtgbnoggapejinaaDoorSpacedMem
import Derived.Test.YtgbnoggapejinaaDoorLexAlone
namespace Go.Proofs.YtgbnoggapejinaaDoor
set_option linter.unusedSimpArgs false
set_option linter.unusedVariables false
open Go.RowKit
attribute [local go_sem] over_cellAt over_frozenAt over_setAt

/-- One byte more of a token's spelling. -/
theorem rest_take (T : ByteArray) (o m : Nat) (h : o + m < T.size) : (rest T o).take (m + 1) = (rest T o).take m ++ [T[o + m]] := by
  rw [List.take_add_one, nth_byte T o m h]; rfl

theorem take_len {T : ByteArray} {K : List Tok} (k : Nat) (hK : K.length ≤ 65537) (hT : T.size ≤ 65536) : (allB T (K.take k)).length ≤ 8590196736 := by
  have h := allB_len T (K.take k)
  have h1 : (K.take k).length ≤ 65537 := Nat.le_trans (List.length_take_le' ..) hK
  have h2 : (K.take k).length * T.size ≤ 65537 * 65536 := Nat.mul_le_mul h1 hT
  omega

theorem news1 (W : World) (o : Obj) (x : Value) (T : TypeId) : ∀ j u, [x][j]? = some u → ((W.alloc o).alloc (.cells #[x] T)).cell? ((⟨W.heap.size + 1, 0, none⟩ : Addr).add j) = some u := by
  have h := heap_alloc_new (W.alloc o) (.cells #[x] T)
  rw [World.size_alloc] at h
  exact World.news_of_block (cs := #[x]) (t := T) (fr := (0, 0)) h

set_option maxHeartbeats 8000000 in
set_option maxRecDepth 100000 in
theorem lexSpaced_walk (s : ByteArray) (w : World) (hs : s.size ≤ 140737488351232) (hl : LexLaid w) :
    Calls Tryd.prog 5 #[.string s] w fun e w' => e = .returned (.bool true) ∧ Below w.heap.size w w' := by
  obtain ⟨i8, hi8, hz80, hz81, hz82⟩ := info_parts Tryd.infoByte
  obtain ⟨i6, hi6, hz60, hz61, hz62⟩ := info_parts Tryd.infoInt
  have HH := hide (fun W => head_any s W hs)
  obtain ⟨hT2, hT6⟩ := head_size s
  obtain ⟨r, hr, -⟩ := head_begun s
  have T := scan_toks (headS s) hT6
  generalize headS s = T0 at *
  have hlen := toks_len T
  have hL0 : 0 < (scanX T0).1.length := by rw [hr]; simp
  have h0 : (scanX T0).1[0]? = some aTok := by rw [hr]; rfl
  have HS := hide (fun W hW => scan_any T0 W hW (by omega))
  obtain ⟨K, hK, hKL⟩ := chain_toks T
  clear hr T
  generalize scanX T0 = R at *
  obtain ⟨L, c, f⟩ := R
  simp only at hL0 h0 hlen HS hKL
  obtain ⟨n, hn⟩ : ∃ n, n = L.length := ⟨_, rfl⟩
  have hn0 : 0 < n := by omega
  have hn1 : n ≤ 65537 := by omega
  have hK0 : 0 < K.length := by
    rcases hKL with ⟨_, e⟩ | ⟨_, e⟩
    · rcases Nat.eq_zero_or_pos K.length with h | h
      · rw [List.length_eq_zero_iff.1 h] at e
        rw [e] at h0
        exact absurd (congrArg Tok.k (Option.some.inj h0)) (fun h => by cases h)
      · exact h
    · rw [← e]; exact hL0
  have hKn : K.length ≤ n ∧ (∀ (i : Nat) (t : Tok), L[i]? = some t → (i < K.length ∧ K[i]? = some t ∧ t.k ≠ 0) ∨ (K.length ≤ i ∧ t.k = 0)) ∧ (∀ (i : Nat) (t : Tok), K[i]? = some t → L[i]? = some t) := by
    rcases hKL with ⟨_, rfl⟩ | ⟨_, rfl⟩
    · refine ⟨by rw [hn]; simp, ?_, ?_⟩
      · intro i t hi
        by_cases h : i < K.length
        · rw [List.getElem?_append_left h] at hi
          exact .inl ⟨h, hi, (hK t (List.mem_of_getElem? hi)).at.2⟩
        · rw [List.getElem?_append_right (by omega)] at hi
          rcases Nat.eq_zero_or_pos (i - K.length) with h2 | h2
          · rw [h2] at hi
            obtain rfl := Option.some.inj hi
            exact .inr ⟨by omega, rfl⟩
          · rw [List.getElem?_eq_none (by simp; omega)] at hi; cases hi
      · intro i t hi
        rw [List.getElem?_append_left (List.getElem?_eq_some_iff.1 hi).1]; exact hi
    · refine ⟨by rw [hn]; exact Nat.le_refl _, ?_, fun i t hi => hi⟩
      intro i t hi
      exact .inl ⟨(List.getElem?_eq_some_iff.1 hi).1, hi, (hK t (List.mem_of_getElem? hi)).at.2⟩
  obtain ⟨hKn1, hKn2, hKn3⟩ := hKn
  have HN := hide hn
  have HL := hide hl
  have H0 := hide h0
  have HL0 := hide hL0
  have HK := hide hK
  have HK2 := hide hKn2
  have HK3 := hide hKn3
  have HK0 := hide hK0
  have HKn := hide hKn1
  unfold faultVal at HS
  clear hlen hL0 h0 hn hl hKL hK hKn2 hKn3 hK0 hKn1
  go_enter Tryd.func5, Tryd.ntmps5
  go_wp2_with (first
    | (go_at_call 11; refine (HH.out _).mono ?_; rintro e w' ⟨rfl, hw'⟩; have hw' := hw'.symm; subst hw')
    | (go_at_call 12; refine (HS.out _ HL.out).mono ?_; rintro e w1 ⟨v, rfl, hown, hb1⟩; obtain ⟨g, cp, rfl, hg1, hg2, hrow⟩ := own_toks hown HL0.out; rw [← HN.out]; have HRow : Hid (∀ i t, L[i]? = some t → TokAt w1 g (i * 6) t) := hrow; have HB1 := hide hb1; clear hown hrow hb1 HS)
    | (go_at_call 13; refine (begun_any g n cp _ hn0 ((HRow.out 0 aTok H0.out).kept ((Below.refl _ _).alloc (Nat.le_refl _) _))).mono ?_; rintro e w' ⟨rfl, hw'⟩; have hw' := hw'.symm; subst hw'))
  obtain ⟨U, hU⟩ : ∃ U, U = w1.alloc (.cells #[.int .i64 c, .int .i64 0, .int .i64 (f : Int)] 31) := ⟨_, rfl⟩
  have hUb : Below w1.heap.size w1 U := by rw [hU]; exact (Below.refl _ _).alloc (Nat.le_refl _) _
  rw [← hU]
  clear hU
  have HRU : Hid (∀ i t, L[i]? = some t → TokAt U g (i * 6) t) := fun i t hi => (HRow.out i t hi).kept hUb
  have HBU : Hid (Below w.heap.size w U) := HB1.out.trans (hUb.mono HB1.out.size)
  clear hUb HRow HB1
  go_loopw [6, 7, 8, 9, 10] (fun sp of i _ _ wr => ∃ k : Nat, k ≤ n ∧ i = .int .i64 k ∧ Hid (St U wr sp of (allB T0 (K.take k)) (((List.range K.length).take k).map (posOf T0 K)))) (fun _ _ i _ _ _ => n - (intOf i).toNat)
  case atStart => exact ⟨0, Nat.zero_le _, rfl, Below.refl _ _, World.ownsRow_nil _ _ _ _, World.ownsRow_nil _ _ _ _⟩
  case round =>
    obtain ⟨k, hk, rfl, HSt⟩ := hrel
    by_cases hlt : k < n
    · have hi : (k : Int) < (n : Int) := by omega
      obtain ⟨t, ht⟩ : ∃ t, L[k]? = some t := ⟨_, List.getElem?_eq_getElem (by have := HN.out; omega)⟩
      obtain ⟨c0, c1, c2, c3, c4, c5⟩ := (HRU.out k t ht).kept HSt.out.b
      rcases HK2.out k t ht with ⟨hkK, hkt, hk0⟩ | ⟨hkK, hk0⟩
      · have hst := HK.out t (List.mem_of_getElem? hkt)
        obtain ⟨h5, h6⟩ := hst.bounds
        have hlenk := take_len (T := T0) (K := K) k (by have := HKn.out; omega) hT6
        have ek : (t.k == 0) = false := by simpa using hk0
        have g1 : ¬ (t.off : Int) < 0 := by omega
        have g2 : ¬ (T0.size : Int) < (t.en : Int) := by omega
        have g3 : ¬ (t.en : Int) ≤ (t.off : Int) := by omega
        have HAll := hide (allB_snoc T0 K k t hkt)
        have HPos := hide (pos_eq T0 K k)
        have HOs : Hid (((List.range K.length).take (k + 1)).map (posOf T0 K) = ((List.range K.length).take k).map (posOf T0 K) ++ [posOf T0 K k]) := by
          show _ = _
          rw [List.take_add_one, List.getElem?_range hkK, List.map_append]; rfl
        have hol : (((List.range K.length).take k).map (posOf T0 K)).length ≤ 65537 := by
          rw [List.length_map, List.length_take, List.length_range]; have := HKn.out; omega
        obtain ⟨bs, hbs⟩ : ∃ bs, bs = allB T0 (K.take k) := ⟨_, rfl⟩
        obtain ⟨os, hos⟩ : ∃ os, os = ((List.range K.length).take k).map (posOf T0 K) := ⟨_, rfl⟩
        rw [← hbs] at HSt HAll HPos hlenk
        rw [← hos] at HSt HOs hol
        have HSt1 : Hid (St U (wr.alloc (.cells #[.int .i64 t.k, .string t.t, .int .i64 t.n, .int .i64 t.op, .int .i64 (t.off : Int), .int .i64 (t.en : Int)] 36)) u6 u7 bs os) := HSt.out.alloc _
        have HTb : Hid (BoxT (wr.alloc (.cells #[.int .i64 t.k, .string t.t, .int .i64 t.n, .int .i64 t.op, .int .i64 (t.off : Int), .int .i64 (t.en : Int)] 36)) wr.heap.size t) := heap_alloc_new wr _
        clear hbs hos ht hkt hk0 hst HSt
        by_cases hk0 : k = 0
        · have gk : ¬ (0 : Int) < (k : Int) := by omega
          rw [if_pos hk0, List.append_nil] at HAll HPos
          clear hk0
          obtain ⟨ao3, cp3, rfl⟩ := own_shape HSt1.out.r1
          go_wp2_with ((at_builtin; refine wpList_append_own _ rfl _ _ 22 rfl U.heap.size 3 i6 (.int .i64 0) 1 8 Tryd.underlying22 hi6 hz60 hz61 hz62 rfl (by decide) _ os.length (ov os) rfl (HSt1.out.alloc _).r2 ⟨wr.heap.size + 1, 0, none⟩ 1 1 [.int .i64 (bs.length : Int)] rfl rfl (news1 wr (.cells #[.int .i64 t.k, .string t.t, .int .i64 t.n, .int .i64 t.op, .int .i64 (t.off : Int), .int .i64 (t.en : Int)] 36) (.int .i64 (bs.length : Int)) 3) (by simp [Value.oneCell']) (by unfold maxLen; omega) (by omega) (HSt1.out.alloc _).b.size ?_; intro v'' w4 hown2 hgrow2 hnil2; have HSt3 : Hid (St U w4 (.slice ao3 bs.length cp3) v'' bs (os ++ [posOf T0 K k])) := ((HSt1.out.alloc _).push2 (by rw [HPos.out]; exact hown2) hgrow2); have HTb4 : Hid (BoxT w4 wr.heap.size t) := ((HTb.out.kept ((Below.refl _ _).alloc (Nat.le_refl _) _)).grown hgrow2 (HSt1.out.alloc _).r2 (by decide)); obtain ⟨-, -, -, -, x4, x5⟩ := HTb4.out.tok; clear hown2 hgrow2 hnil2))
          clear x4 x5
          generalize hbq : wr.heap.size = bq at *
          clear hbq
          go_loopw [6, 10] (fun sp j wr2 => ∃ i : Nat, t.off ≤ i ∧ i ≤ t.en ∧ j = .int .i64 (i : Int) ∧ Hid (St U wr2 sp v'' (bs ++ (rest T0 t.off).take (i - t.off)) (os ++ [posOf T0 K k])) ∧ Hid (BoxT wr2 bq t)) (fun _ j _ => t.en - (intOf j).toNat)
          case atStart => exact ⟨t.off, Nat.le_refl _, by omega, rfl, by rw [Nat.sub_self, List.take_zero, List.append_nil]; exact HSt3, HTb4⟩
          case round =>
            clear HSt3 HTb4
            obtain ⟨i, hm1, hm2, rfl, HStm, HTm⟩ := hrel
            obtain ⟨-, -, -, -, x4, x5⟩ := HTm.out.tok
            simp only [Nat.zero_add] at x4 x5
            by_cases hmlt : i < t.en
            · have hj : (i : Int) < (t.en : Int) := by omega
              have hj2 : (i : Int) < (T0.size : Int) := by omega
              have hjT : i < T0.size := by omega
              have HTk : Hid ((rest T0 t.off).take (i + 1 - t.off) = (rest T0 t.off).take (i - t.off) ++ [T0[i]]) := by
                have h := rest_take T0 t.off (i - t.off) (by omega)
                show _ = _
                rw [show i + 1 - t.off = i - t.off + 1 by omega, h]
                congr 3
                omega
              have hlm : (bs ++ (rest T0 t.off).take (i - t.off)).length ≤ 8590300000 := by
                rw [List.length_append, List.length_take, rest_len]
                omega
              obtain ⟨bs2, hbs2⟩ : ∃ bs2, bs2 = bs ++ (rest T0 t.off).take (i - t.off) := ⟨_, rfl⟩
              have HB2 : Hid (bs2 ++ [T0[i]] = bs ++ (rest T0 t.off).take (i + 1 - t.off)) := by show _ = _; rw [HTk.out, hbs2, List.append_assoc]
              rw [← hbs2] at HStm hlm
              clear hbs2 HTk
              go_wp2_with (at_builtin; refine wpList_append_own _ rfl _ _ 40 rfl U.heap.size 5 i8 (.int .u8 0) 1 1 Tryd.underlying40 hi8 hz80 hz81 hz82 rfl (by decide) _ bs2.length (bv bs2) rfl (HStm.out.alloc _).r1 ⟨wr.heap.size, 0, none⟩ 1 1 [.int .u8 (T0[i].toNat : Int)] rfl rfl (World.news_of_block (cs := #[.int .u8 (T0[i].toNat : Int)]) (t := 5) (fr := (0, 0)) (heap_alloc_new wr _)) (by simp [Value.oneCell']) (by unfold maxLen; omega) (by omega) (HStm.out.alloc _).b.size ?_; intro v5 w5 hown5 hgrow5 hnil5; have HSt5 : Hid (St U w5 v5 v'' (bs2 ++ [T0[i]]) (os ++ [posOf T0 K k])) := ((HStm.out.alloc _).push1 hown5 hgrow5); have HTb5 : Hid (BoxT w5 bq t) := ((HTm.out.kept ((Below.refl _ _).alloc (Nat.le_refl _) _)).grown hgrow5 (HStm.out.alloc _).r1 (by decide)); clear hown5 hgrow5 hnil5)
              rw [HB2.out] at HSt5
              go_roundw
              case rel => exact ⟨i + 1, by omega, by omega, by go_num, HSt5, HTb5⟩
              case measure => simp [intOf]; omega
            · obtain rfl : i = t.en := by omega
              have hj : ¬ (t.en : Int) < (t.en : Int) := by omega
              have HStn : Hid (St U wr u6 v'' (allB T0 (K.take (k + 1))) (((List.range K.length).take (k + 1)).map (posOf T0 K))) := by
                rw [HAll.out, HOs.out]; exact HStm.out
              go_wp2
              go_roundw
              case rel => exact ⟨k + 1, by omega, by go_num, HStn⟩
              case measure => simp [intOf]; omega
        · have gk : (0 : Int) < (k : Int) := by omega
          rw [if_neg hk0] at HAll HPos
          have HLen1 : Hid ((((bs ++ [(32 : UInt8)]).length : Nat) : Int) = (bs.length : Int) + 1) := by show _ = _; rw [List.length_append, List.length_singleton]; omega
          go_wp2_with (first
            | (at_builtin; refine wpList_append_own _ rfl _ _ 40 rfl U.heap.size 5 i8 (.int .u8 0) 1 1 Tryd.underlying40 hi8 hz80 hz81 hz82 rfl (by decide) _ bs.length (bv bs) rfl (HSt1.out.alloc _).r1 ⟨wr.heap.size + 1, 0, none⟩ 1 1 [.int .u8 32] rfl rfl (news1 wr (.cells #[.int .i64 t.k, .string t.t, .int .i64 t.n, .int .i64 t.op, .int .i64 (t.off : Int), .int .i64 (t.en : Int)] 36) (.int .u8 32) 5) (by simp [Value.oneCell']) (by unfold maxLen; omega) (by omega) (HSt1.out.alloc _).b.size ?_; intro v' w3 hown1 hgrow hnil; have HSt2 : Hid (St U w3 v' u7 (bs ++ [32]) os) := ((HSt1.out.alloc _).push1 (b := 32) hown1 hgrow); have HTb3 : Hid (BoxT w3 wr.heap.size t) := ((HTb.out.kept ((Below.refl _ _).alloc (Nat.le_refl _) _)).grown hgrow (HSt1.out.alloc _).r1 (by decide)); obtain ⟨ao3, cp3, rfl⟩ := own_shape hown1; clear hown1 hgrow hnil)
            | (at_builtin; refine wpList_append_own _ rfl _ _ 22 rfl U.heap.size 3 i6 (.int .i64 0) 1 8 Tryd.underlying22 hi6 hz60 hz61 hz62 rfl (by decide) _ os.length (ov os) rfl (HSt2.out.alloc _).r2 ⟨w3.heap.size, 0, none⟩ 1 1 [.int .i64 ((bs.length : Int) + 1)] rfl rfl (World.news_of_block (cs := #[.int .i64 ((bs.length : Int) + 1)]) (t := 3) (fr := (0, 0)) (heap_alloc_new w3 _)) (by simp [Value.oneCell']) (by unfold maxLen; omega) (by omega) (HSt2.out.alloc _).b.size ?_; intro v'' w4 hown2 hgrow2 hnil2; have HSt3 : Hid (St U w4 (.slice ao3 (bs.length + 1) cp3) v'' (bs ++ [32]) (os ++ [posOf T0 K k])) := ((HSt2.out.alloc _).push2 (by rw [HPos.out, HLen1.out]; exact hown2) hgrow2); have HTb4 : Hid (BoxT w4 wr.heap.size t) := ((HTb3.out.kept ((Below.refl _ _).alloc (Nat.le_refl _) _)).grown hgrow2 (HSt2.out.alloc _).r2 (by decide)); obtain ⟨-, -, -, -, x4, x5⟩ := HTb4.out.tok; clear hown2 hgrow2 hnil2))
          clear x4 x5
          generalize hbq : wr.heap.size = bq at *
          clear hbq
          go_loopw [6, 10] (fun sp j wr2 => ∃ i : Nat, t.off ≤ i ∧ i ≤ t.en ∧ j = .int .i64 (i : Int) ∧ Hid (St U wr2 sp v'' (bs ++ [32] ++ (rest T0 t.off).take (i - t.off)) (os ++ [posOf T0 K k])) ∧ Hid (BoxT wr2 bq t)) (fun _ j _ => t.en - (intOf j).toNat)
          case atStart => exact ⟨t.off, Nat.le_refl _, by omega, rfl, by rw [Nat.sub_self, List.take_zero, List.append_nil]; exact HSt3, HTb4⟩
          case round =>
            clear HSt3 HTb4
            obtain ⟨i, hm1, hm2, rfl, HStm, HTm⟩ := hrel
            obtain ⟨-, -, -, -, x4, x5⟩ := HTm.out.tok
            simp only [Nat.zero_add] at x4 x5
            by_cases hmlt : i < t.en
            · have hj : (i : Int) < (t.en : Int) := by omega
              have hj2 : (i : Int) < (T0.size : Int) := by omega
              have hjT : i < T0.size := by omega
              have HTk : Hid ((rest T0 t.off).take (i + 1 - t.off) = (rest T0 t.off).take (i - t.off) ++ [T0[i]]) := by
                have h := rest_take T0 t.off (i - t.off) (by omega)
                show _ = _
                rw [show i + 1 - t.off = i - t.off + 1 by omega, h]
                congr 3
                omega
              have hlm : (bs ++ [32] ++ (rest T0 t.off).take (i - t.off)).length ≤ 8590300000 := by
                rw [List.length_append, List.length_take, rest_len]; rw [List.length_append, List.length_singleton]
                omega
              obtain ⟨bs2, hbs2⟩ : ∃ bs2, bs2 = bs ++ [32] ++ (rest T0 t.off).take (i - t.off) := ⟨_, rfl⟩
              have HB2 : Hid (bs2 ++ [T0[i]] = bs ++ [32] ++ (rest T0 t.off).take (i + 1 - t.off)) := by show _ = _; rw [HTk.out, hbs2, List.append_assoc]
              rw [← hbs2] at HStm hlm
              clear hbs2 HTk
              go_wp2_with (at_builtin; refine wpList_append_own _ rfl _ _ 40 rfl U.heap.size 5 i8 (.int .u8 0) 1 1 Tryd.underlying40 hi8 hz80 hz81 hz82 rfl (by decide) _ bs2.length (bv bs2) rfl (HStm.out.alloc _).r1 ⟨wr.heap.size, 0, none⟩ 1 1 [.int .u8 (T0[i].toNat : Int)] rfl rfl (World.news_of_block (cs := #[.int .u8 (T0[i].toNat : Int)]) (t := 5) (fr := (0, 0)) (heap_alloc_new wr _)) (by simp [Value.oneCell']) (by unfold maxLen; omega) (by omega) (HStm.out.alloc _).b.size ?_; intro v5 w5 hown5 hgrow5 hnil5; have HSt5 : Hid (St U w5 v5 v'' (bs2 ++ [T0[i]]) (os ++ [posOf T0 K k])) := ((HStm.out.alloc _).push1 hown5 hgrow5); have HTb5 : Hid (BoxT w5 bq t) := ((HTm.out.kept ((Below.refl _ _).alloc (Nat.le_refl _) _)).grown hgrow5 (HStm.out.alloc _).r1 (by decide)); clear hown5 hgrow5 hnil5)
              rw [HB2.out] at HSt5
              go_roundw
              case rel => exact ⟨i + 1, by omega, by omega, by go_num, HSt5, HTb5⟩
              case measure => simp [intOf]; omega
            · obtain rfl : i = t.en := by omega
              have hj : ¬ (t.en : Int) < (t.en : Int) := by omega
              have HStn : Hid (St U wr u6 v'' (allB T0 (K.take (k + 1))) (((List.range K.length).take (k + 1)).map (posOf T0 K))) := by
                rw [HAll.out, HOs.out]; exact HStm.out
              go_wp2
              go_roundw
              case rel => exact ⟨k + 1, by omega, by go_num, HStn⟩
              case measure => simp [intOf]; omega
      · have ek : (t.k == 0) = true := by simpa using hk0
        have e1 : K.take (k + 1) = K.take k := by rw [List.take_of_length_le (by omega), List.take_of_length_le (by omega)]
        have e2 : (List.range K.length).take (k + 1) = (List.range K.length).take k := by rw [List.take_of_length_le (by simp; omega), List.take_of_length_le (by simp; omega)]
        have HSt2 : Hid (St U (wr.alloc (.cells #[.int .i64 t.k, .string t.t, .int .i64 t.n, .int .i64 t.op, .int .i64 (t.off : Int), .int .i64 (t.en : Int)] 36)) u6 u7 (allB T0 (K.take (k + 1))) (((List.range K.length).take (k + 1)).map (posOf T0 K))) := by
          rw [e1, e2]; exact HSt.out.alloc _
        clear ht hkK hk0 e1 e2
        go_wp2
        go_roundw
        case rel => exact ⟨k + 1, by omega, by go_num, HSt2⟩
        case measure => simp [intOf]; omega
    · obtain rfl : k = n := by omega
      have hi : ¬ (k : Int) < (k : Int) := by omega
      have e1 : K.take k = K := List.take_of_length_le HKn.out
      have e2 : (List.range K.length).take k = List.range K.length := List.take_of_length_le (by rw [List.length_range]; exact HKn.out)
      rw [e1, e2] at HSt
      clear e1 e2 hlt
      have hbl := take_len (T := T0) (K := K) K.length (by have := HKn.out; omega) hT6
      rw [List.take_length] at hbl
      have HOsL : Hid (((List.range K.length).map (posOf T0 K)).length = K.length) := by show _ = _; rw [List.length_map, List.length_range]
      have HOsAt : Hid (∀ (i : Nat), i < K.length → ((List.range K.length).map (posOf T0 K))[i]? = some (posOf T0 K i)) := fun i hi => by rw [List.getElem?_map, List.getElem?_range hi]; rfl
      generalize (List.range K.length).map (posOf T0 K) = os at *
      obtain ⟨ao3, cp3, rfl⟩ := own_shape HSt.out.r1
      obtain ⟨g2, cp2, rfl, hg2lt, hoff⟩ := ov_at HSt.out.r2 (by rw [HOsL.out]; exact HK0.out)
      have hstr := HSt.out.str
      have HOff := hide hoff
      obtain ⟨bs, hbs⟩ : ∃ bs, bs = allB T0 K := ⟨_, rfl⟩
      rw [← hbs] at HSt hbl hstr ⊢
      have HBs := hide hbs
      clear hbs hoff
      have hol : os.length ≤ 65537 := by rw [HOsL.out]; have := HKn.out; omega
      by_cases hbig : (65536 : Int) < (bs.length : Int)
      · clear hstr
        go_wp2
        go_ret
        exact ⟨rfl, HBU.out.trans (HSt.out.b.mono HBU.out.size)⟩
      · have hS : (⟨bs.toArray⟩ : ByteArray).size = bs.length := by show bs.toArray.size = _; simp
        obtain ⟨A, hscan, hAl, hAt⟩ := spaced_scan (S := ⟨bs.toArray⟩) HK.out HK0.out (by rw [← HBs.out]) (by omega)
        have hAb : ∀ (i : Nat) (t : Tok), A[i]? = some t → t.off ≤ 65536 ∧ t.en ≤ 65536 := by
          intro i t hi
          have T2 := scan_toks ⟨bs.toArray⟩ (by omega)
          rw [hscan] at T2
          obtain ⟨x1, x2⟩ := toks_at T2 i t (by rw [List.getElem?_append_left (List.getElem?_eq_some_iff.1 hi).1]; exact hi)
          obtain ⟨_, _, _, x3⟩ := next_tok x2 x1
          rcases x3 with ⟨_, y1, y2⟩ | ⟨_, y1, y2⟩ <;> omega
        have HAb := hide hAb
        clear hAb
        rw [hS] at hscan
        have HS2 : Hid (∀ W, LexLaid W → Calls Tryd.prog 12 #[.string ⟨bs.toArray⟩] W fun e w' => ∃ g3 cp4, e = .returned (.tuple #[.slice (some ⟨g3, 0, none⟩) (os.length + 1) cp4, .agg #[.int .i64 0, .int .i64 0, .int .i64 0]]) ∧ Below W.heap.size W w' ∧ (∀ i t, A[i]? = some t → TokAt w' g3 (i * 6) t) ∧
            (∀ W', Below w'.heap.size w' W' → Calls Tryd.prog 14 #[.slice (some ⟨g3, 0, none⟩) (os.length + 1) cp4, .agg #[.int .i64 0, .int .i64 0, .int .i64 0], .int .i64 (bs.length : Int)] W' fun e w'' => e = .returned (.bool true) ∧ Below W'.heap.size W' w'')) := by
          intro W hW
          refine (scan_any ⟨bs.toArray⟩ W hW (by omega)).mono ?_
          rintro e w' ⟨v, he, hown, hb⟩
          have hes := ended_scan ⟨bs.toArray⟩ v _ w' (by omega) hown
          rw [hscan] at he hown hes
          obtain ⟨g3, cp4, rfl, _, _, hrow⟩ := own_toks hown (by simp)
          obtain ⟨ao5, cp5, hv, hen⟩ := hes
          injection hv with q1 _ q2
          subst q1 q2
          rw [hS] at hen
          have hl1 : (A ++ [endTok bs.length]).length = os.length + 1 := by rw [List.length_append, hAl, HOsL.out]; rfl
          simp only [hl1] at he hen
          exact ⟨g3, cp4, he, hb, fun i t hi => hrow i t (by rw [List.getElem?_append_left (List.getElem?_eq_some_iff.1 hi).1]; exact hi), hen⟩
        have HAt := hide hAt
        have HAl := hide hAl
        have HLw : Hid (LexLaid wr) := HL.out.kept (HBU.out.trans (HSt.out.b.mono HBU.out.size))
        have hdec : decide ((65536 : Int) < (bs.length : Int)) = false := by simpa using hbig
        clear hscan hAl hAt hS hbig
        go_wp2_with (first
          | (go_at_call 12; refine (HS2.out _ HLw.out).mono ?_; rintro e w5 ⟨g3, cp4, rfl, hb5, hrow5, hen5⟩; have HB5 := hide hb5; have HR5 := hide hrow5; have HE5 := hide hen5; clear hb5 hrow5 hen5 HS2)
          | (go_at_call 14; refine (HE5.out _ ((Below.refl _ _).alloc (Nat.le_refl _) _)).mono ?_; rintro e w6 ⟨rfl, hb6⟩; have HB6 := hide hb6; clear hb6 HE5))
        have hb06 : Below wr.heap.size wr w6 := by
          have h1 := HB5.out.alloc HB5.out.size (.cells #[.int .i64 0, .int .i64 0, .int .i64 0] 31)
          exact h1.trans (HB6.out.mono h1.size)
        have hb56 : Below w5.heap.size w5 w6 := ((Below.refl _ _).alloc (Nat.le_refl _) _).trans (HB6.out.mono (by simp))
        have HRA : Hid (∀ i t, A[i]? = some t → TokAt w6 g3 (i * 6) t) := fun i t hi => (HR5.out i t hi).kept hb56
        have HRL : Hid (∀ i t, L[i]? = some t → TokAt w6 g (i * 6) t) := fun i t hi => ((HRU.out i t hi).kept HSt.out.b).kept hb06
        have HRO : Hid (∀ (i n : Nat), os[i]? = some n → w6.cell? ⟨g2, i, none⟩ = some (.int .i64 (n : Int))) := fun i n hi => kept_cell hb06 (HOff.out i n hi)
        have HBw6 : Hid (Below w.heap.size w w6) := by
          have h1 := HBU.out.trans (HSt.out.b.mono HBU.out.size)
          exact h1.trans (hb06.mono h1.size)
        have HKos : Hid (K.length = os.length) := HOsL.out.symm
        clear hb06 hb56 HR5 HRU HOff HB5 HB6 HSt hstr
        go_loopw [13] (fun i wx => ∃ j : Nat, j ≤ os.length ∧ i = .int .i64 j ∧ Hid (Below w6.heap.size w6 wx)) (fun i _ => os.length - (intOf i).toNat)
        case atStart => exact ⟨0, Nat.zero_le _, rfl, Below.refl _ _⟩
        case round =>
          obtain ⟨j, hj, rfl, HBx⟩ := hrel
          by_cases hjlt : j < os.length
          · have hi2 : (j : Int) < (os.length : Int) := by omega
            have hi3 : (j : Int) < (os.length : Int) + 1 := by omega
            have hi4 : (j : Int) < (k : Int) := by have := HKos.out; have := HKn.out; omega
            obtain ⟨t, ht⟩ : ∃ t, K[j]? = some t := ⟨_, List.getElem?_eq_getElem (by rw [HKos.out]; exact hjlt)⟩
            have hAj := HAt.out j t ht
            obtain ⟨y0, y1, y2, y3, y4, y5⟩ := (HRL.out j t (HK3.out j t ht)).kept HBx.out
            obtain ⟨x0, x1, x2, x3, x4, x5⟩ := (HRA.out j _ hAj).kept HBx.out
            have z0 := kept_cell HBx.out (HRO.out j _ (HOsAt.out j (by rw [HKos.out]; exact hjlt)))
            obtain ⟨q1, q2⟩ := HAb.out j _ hAj
            obtain ⟨q3, q4⟩ := (HK.out t (List.mem_of_getElem? ht)).bounds
            generalize hpp : posOf T0 K j = pp at *
            have HM : Hid (∀ y, Calls Tryd.prog 15 #[.agg #[.int .i64 t.k, .string t.t, .int .i64 t.n, .int .i64 t.op, .int .i64 (pp : Int), .int .i64 ((pp + (t.en - t.off) : Nat) : Int)], .agg #[.int .i64 t.k, .string t.t, .int .i64 t.n, .int .i64 t.op, .int .i64 (t.off : Int), .int .i64 (t.en : Int)]] (over wr y) fun e w' => e = .returned (.bool true) ∧ Below (over wr y).heap.size (over wr y) w') := fun y =>
              moved_any (mv t pp) t (over wr y) rfl rfl rfl rfl (by show ((pp + (t.en - t.off) : Nat) : Int) - ((pp : Nat) : Int) = _; omega) ⟨q2, q1, by omega, by omega⟩
            unfold mv at x0 x1 x2 x3 x4 x5
            simp only at x0 x1 x2 x3 x4 x5
            have x0' := over_cell x0
            have x1' := over_cell x1
            have x2' := over_cell x2
            have x3' := over_cell x3
            have x4' := over_cell x4
            have x5' := over_cell x5
            have y0' := over_cell y0
            have y1' := over_cell y1
            have y2' := over_cell y2
            have y3' := over_cell y3
            have y4' := over_cell y4
            have y5' := over_cell y5
            have z0' := over_cell z0
            clear x0 x1 x2 x3 x4 x5 y0 y1 y2 y3 y4 y5 z0 ht hAj hpp q1 q2 q3 q4
            go_wp2
            refine wp_region_over (fun W => W = wr) (by kernel_rfl) (by kernel_rfl) rfl ?_
            rintro W rfl
            repeat (go_big_quiet_step (first | (go_at_call 15; exact calls_over (HM.out _))))
            refine wpQuiet_nil ?_
            rintro _ ⟨y, rfl⟩
            have HBy : Hid (Below w6.heap.size w6 (over W y)) := HBx.out.trans ((over_below _ y).mono HBx.out.size)
            clear x0' x1' x2' x3' x4' x5' y0' y1' y2' y3' y4' y5' z0' HM
            go_wp2
            go_roundw
            case rel => exact ⟨j + 1, by omega, by go_num, HBy⟩
            case measure => simp [intOf]; omega
          · have hi2 : ¬ (j : Int) < (os.length : Int) := by omega
            go_wp2
            go_ret
            exact ⟨rfl, HBw6.out.trans (HBx.out.mono HBw6.out.size)⟩

end Go.Proofs.YtgbnoggapejinaaDoor
