/- What lex.text answers. -/
import Derived.Test.YtplldgkdjainlaaDoorProg
import Derived.Test.YtplldgkdjainlaaDoorLexEsc
import Derived.Test.YtplldgkdjainlaaDoorByteRow
import Derived.Laws.BytesString
import Derived.OwnWalk
import Derived.Deep.AppendLies
import Derived.Deep.DeepCutAuto
import Derived.Deep.LoopGhost
import Derived.Laws.AppendOwn
namespace Go.Proofs.YtplldgkdjainlaaDoor
set_option linter.unusedSimpArgs false
set_option linter.unusedVariables false
open Go.RowKit
attribute [local go_sem] over_cellAt over_frozenAt over_setAt

/-- The text that begins at o, read on from i, the value so far being vs. -/
def textF (s : ByteArray) (o i : Nat) (vs : List Int) : Nx :=
  if h : i < s.size then
    if (s[i].toNat : Int) < 32 then .bad 11 o
    else if (s[i].toNat : Int) = 34 then .tok ⟨4, strOf vs, 0, 0, o, i + 1⟩
    else if (s[i].toNat : Int) = 92 then
      if hn : (escX (s.extract i s.size)).2.toNat = 0 then .bad 12 i
      else if vs.length = 255 then .bad 15 o
      else textF s o (i + (escX (s.extract i s.size)).2.toNat) (vs ++ [(escX (s.extract i s.size)).1])
    else if vs.length = 255 then .bad 15 o
    else textF s o (i + 1) (vs ++ [(s[i].toNat : Int)])
  else .bad 11 o
termination_by s.size - i
decreasing_by all_goals omega

def textX (s : ByteArray) (o : Nat) : Nx := textF s o (o + 1) []

theorem hexX_bounds (r : ByteArray) : ((hexX r).2 = 0 ∨ ((hexX r).2 = 4 ∧ 4 ≤ r.size)) ∧ 0 ≤ (hexX r).1 ∧ (hexX r).1 ≤ 255 := by
  unfold hexX
  split
  · exact ⟨.inl rfl, by decide, by decide⟩
  · next h4 =>
    cases hu : hexU 0 (r.extract 2 4).data.toList with
    | none => exact ⟨.inl rfl, by decide, by decide⟩
    | some v =>
      refine ⟨.inr ⟨rfl, by omega⟩, by show (0 : Int) ≤ (v : Int); omega, ?_⟩
      have hz : (r.extract 2 4).size = 2 := by rw [ByteArray.size_extract]; omega
      obtain ⟨a, b, hab⟩ : ∃ a b, (r.extract 2 4).data.toList = [a, b] := by
        match hl2 : (r.extract 2 4).data.toList with
        | [a, b] => exact ⟨a, b, rfl⟩
        | [] => have := congrArg List.length hl2; simp at this; omega
        | [_] => have := congrArg List.length hl2; simp at this; omega
        | _ :: _ :: _ :: _ => have := congrArg List.length hl2; simp at this; omega
      rw [hab] at hu
      have := hexU_le a b hu
      show (v : Int) ≤ 255
      omega

theorem escX_bounds (r : ByteArray) : ((escX r).2 = 0 ∨ (0 < (escX r).2 ∧ (escX r).2 ≤ r.size)) ∧ 0 ≤ (escX r).1 ∧ (escX r).1 ≤ 255 := by
  unfold escX
  split
  · next h =>
    unfold escOf
    have hx := hexX_bounds r
    repeat' split
    all_goals first
      | exact ⟨.inr ⟨by decide, by show (2 : Int) ≤ _; omega⟩, by decide, by decide⟩
      | exact ⟨.inl rfl, by decide, by decide⟩
      | exact ⟨by rcases hx.1 with h | ⟨h, h'⟩; exact .inl h; exact .inr ⟨by omega, by omega⟩, hx.2⟩
  · exact ⟨.inl rfl, by decide, by decide⟩

theorem grown_over {U V w1 : World} {v : Value} {e : TypeId} {size n : Nat} {xs : List Value} {o : Obj} (hV : Below U.heap.size U V) (hown : V.ownsRow U.heap.size e size v n xs) (hg : (V.alloc o).grownBy w1 v.ownBlock) : ∃ z, w1 = over U z :=
  over_of ((hV.alloc hV.size o).grown hg (Nat.le_trans hV.size (by simp)) (fun k hk => by
    rcases hown.2 with ⟨rfl, _⟩ | ⟨g, cap, cur, rfl, hbase, _⟩
    · cases hk
    · have : g = k := by simpa [Value.ownBlock] using hk
      omega))

theorem map_snoc8 {vs : List Int} {b : Int} {w : World} {base : Nat} {e : TypeId} {v : Value} (h : w.ownsRow base e 1 v (vs.length + 1) (vs.map (Value.int .u8) ++ [.int .u8 b])) :
    w.ownsRow base e 1 v (vs ++ [b]).length ((vs ++ [b]).map (Value.int .u8)) := by
  rw [List.length_append, List.map_append]; exact h

set_option maxHeartbeats 4000000 in
set_option maxRecDepth 100000 in
theorem text_any (s : ByteArray) (o : Nat) (w : World) (hs : s.size ≤ 140737488351232) (ho : o < s.size) (hl : LexLaid w) :
    Calls Tryd.prog 27 #[.string s, .int .i64 o] w fun e w' => e = .returned (textX s o).val ∧ Below w.heap.size w w' := by
  have HL := hide hl
  clear hl
  obtain ⟨i0, hi0, hz0, hz1, hz2⟩ := info_parts Tryd.infoByte
  go_enter Tryd.func27, Tryd.ntmps27
  go_wp2
  go_loopw [6, 7, 8, 9] (fun v i _ _ wr => ∃ (I : Nat) (vs : List Int) (x : World), I ≤ s.size ∧ vs.length ≤ 255 ∧ i = .int .i64 I ∧ Hid (textX s o = textF s o I vs) ∧ wr = over ((w.alloc (.cells #[.int .i64 0, .string ⟨#[]⟩, .int .i64 0, .int .i64 0, .int .i64 0, .int .i64 0] 32)).alloc (.cells #[.int .i64 0, .int .i64 0, .int .i64 0] 25)) x ∧
    Hid (wr.ownsRow ((w.alloc (.cells #[.int .i64 0, .string ⟨#[]⟩, .int .i64 0, .int .i64 0, .int .i64 0, .int .i64 0] 32)).alloc (.cells #[.int .i64 0, .int .i64 0, .int .i64 0] 25)).heap.size 5 1 v vs.length (vs.map (Value.int .u8)))) (fun _ i _ _ _ => s.size - (intOf i).toNat)
  case atStart => exact ⟨o + 1, [], _, by omega, by simp, by go_num, rfl, over_eq (Below.refl _ _), World.ownsRow_nil _ _ _ _⟩
  case round =>
    obtain ⟨I, vs, x, hI, hvs, rfl, HE, rfl, HO⟩ := hrel
    by_cases hlt : I < s.size
    · have hi : (I : Int) < (s.size : Int) := by omega
      obtain ⟨b, hb⟩ : ∃ b : Int, b = (s[I].toNat : Int) := ⟨_, rfl⟩
      have hb256 : 0 ≤ b ∧ b ≤ 255 := by have := s[I].toNat_lt; omega
      have HF : Hid (textF s o I vs = if b < 32 then .bad 11 o
          else if b = 34 then .tok ⟨4, strOf vs, 0, 0, o, I + 1⟩
          else if b = 92 then
            if (escX (s.extract I s.size)).2.toNat = 0 then .bad 12 I
            else if vs.length = 255 then .bad 15 o
            else textF s o (I + (escX (s.extract I s.size)).2.toNat) (vs ++ [(escX (s.extract I s.size)).1])
          else if vs.length = 255 then .bad 15 o
          else textF s o (I + 1) (vs ++ [b])) := by
        show textF s o I vs = _
        rw [textF, dif_pos hlt, hb]; rfl
      replace hb := hb.symm
      by_cases h32 : b < 32
      · have HX : Hid (textX s o = .bad 11 o) := HE.out.trans (HF.out.trans (if_pos h32))
        have h32' : ¬ (32 : Int) ≤ b := by omega
        clear HF HE
        go_wp2_with (go_at_call 21; refine (calls_over (refuse_below _ _ _)).mono ?_; unfold Nx.val tokZero faultVal; rintro e w' ⟨rfl, y, rfl⟩)
        exact bodyPost_ret (v := (Nx.bad 11 o).val) (by simp [results, Tryd.results27, go_sem, Nx.val, tokZero, faultVal]) rfl ⟨by rw [HX.out], below2_over _ _ _ _⟩
      have h32' : (32 : Int) ≤ b := by omega
      by_cases h34 : b = 34
      · have HX : Hid (textX s o = .tok ⟨4, strOf vs, 0, 0, o, I + 1⟩) := HE.out.trans (HF.out.trans (by rw [if_neg h32, if_pos h34]))
        have hconv := text_string HO.out
        subst h34
        clear HF HE
        go_wp2
        exact bodyPost_ret (v := (Nx.tok ⟨4, strOf vs, 0, 0, o, I + 1⟩).val) (by simp [results, Tryd.results27, go_sem, Nx.val, Tok.val, faultVal]) rfl ⟨by rw [HX.out], below2_over _ _ _ _⟩
      have e34 : (b == 34) = false := by simpa using h34
      by_cases h92 : b = 92
      · subst h92
        obtain ⟨hbd, hc0, hc1⟩ := escX_bounds (s.extract I s.size)
        have hesz : (s.extract I s.size).size = s.size - I := by rw [ByteArray.size_extract]; omega
        rw [hesz] at hbd
        have HQ : Hid (Calls Tryd.prog 36 #[.string (s.extract I s.size)] (over ((w.alloc (.cells #[.int .i64 0, .string ⟨#[]⟩, .int .i64 0, .int .i64 0, .int .i64 0, .int .i64 0] 32)).alloc (.cells #[.int .i64 0, .int .i64 0, .int .i64 0] 25)) x) fun e w' => e = .returned (.tuple #[.int .u8 (escX (s.extract I s.size)).1, .int .i64 (escX (s.extract I s.size)).2]) ∧ Below (over ((w.alloc (.cells #[.int .i64 0, .string ⟨#[]⟩, .int .i64 0, .int .i64 0, .int .i64 0, .int .i64 0] 32)).alloc (.cells #[.int .i64 0, .int .i64 0, .int .i64 0] 25)) x).heap.size (over ((w.alloc (.cells #[.int .i64 0, .string ⟨#[]⟩, .int .i64 0, .int .i64 0, .int .i64 0, .int .i64 0] 32)).alloc (.cells #[.int .i64 0, .int .i64 0, .int .i64 0] 25)) x) w') :=
          escape_any (s.extract I s.size) _ (by omega) (HL.out.kept (below2_over _ _ _ _))
        generalize escX (s.extract I s.size) = P at *
        obtain ⟨c, n⟩ := P
        simp only at hbd hc0 hc1 HF HQ
        obtain ⟨ao, cp, rfl⟩ := own_shape HO.out
        by_cases hn : n = 0
        · subst hn
          have HX : Hid (textX s o = .bad 12 I) := HE.out.trans (HF.out.trans (by rw [if_neg h32, if_neg h34, if_pos trivial, if_pos (by decide)]))
          clear HF HE hbd HO
          go_wp2_with (first
            | (go_at_call 36; refine (calls_over HQ.out).mono ?_; rintro e w' ⟨rfl, y, rfl⟩)
            | (go_at_call 21; refine (calls_over (refuse_below _ _ _)).mono ?_; unfold Nx.val tokZero faultVal; rintro e w' ⟨rfl, y, rfl⟩))
          exact bodyPost_ret (v := (Nx.bad 12 I).val) (by simp [results, Tryd.results27, go_sem, Nx.val, tokZero, faultVal]) rfl ⟨by rw [HX.out], below2_over _ _ _ _⟩
        obtain ⟨hn1, hn2⟩ : 0 < n ∧ n ≤ ((s.size - I : Nat) : Int) := hbd.resolve_left hn
        have en : (n == 0) = false := by simpa using hn
        have hn3 : (I : Int) + n ≤ (s.size : Int) := by omega
        by_cases h255 : vs.length = 255
        · have HX : Hid (textX s o = .bad 15 o) := HE.out.trans (HF.out.trans (by rw [if_neg h32, if_neg h34, if_pos trivial, if_neg (by omega), if_pos h255]))
          have e255 : ((vs.length : Int) == 255) = true := by simp [h255]
          clear HF HE HO
          replace h255 := hide h255
          go_wp2_with (first
            | (go_at_call 36; refine (calls_over HQ.out).mono ?_; rintro e w' ⟨rfl, y, rfl⟩)
            | (go_at_call 21; refine (calls_over (refuse_below _ _ _)).mono ?_; unfold Nx.val tokZero faultVal; rintro e w' ⟨rfl, y, rfl⟩))
          exact bodyPost_ret (v := (Nx.bad 15 o).val) (by simp [results, Tryd.results27, go_sem, Nx.val, tokZero, faultVal]) rfl ⟨by rw [HX.out], below2_over _ _ _ _⟩
        · have HX : Hid (textX s o = textF s o (I + n.toNat) (vs ++ [c])) := HE.out.trans (HF.out.trans (by rw [if_neg h32, if_neg h34, if_pos trivial, if_neg (by omega), if_neg h255]))
          have e255 : ((vs.length : Int) == 255) = false := by simp; omega
          clear HF HE
          have HO0 := HO
          clear HO
          have hVb0 := over_below ((w.alloc (.cells #[.int .i64 0, .string ⟨#[]⟩, .int .i64 0, .int .i64 0, .int .i64 0, .int .i64 0] 32)).alloc (.cells #[.int .i64 0, .int .i64 0, .int .i64 0] 25)) x
          obtain ⟨V0, hV0⟩ : ∃ V0, V0 = over ((w.alloc (.cells #[.int .i64 0, .string ⟨#[]⟩, .int .i64 0, .int .i64 0, .int .i64 0, .int .i64 0] 32)).alloc (.cells #[.int .i64 0, .int .i64 0, .int .i64 0] 25)) x := ⟨_, rfl⟩
          rw [← hV0] at HQ HO0 hVb0 ⊢
          clear hV0
          replace hVb0 := hide hVb0
          go_wp2_with (first
            | (go_at_call 36; refine HQ.out.mono ?_; rintro e V ⟨rfl, hb⟩; have HO := hide (own_kept HO0.out hb); have hVb := hide (hVb0.out.trans (hb.mono hVb0.out.size)); have hVs : ((w.alloc (.cells #[.int .i64 0, .string ⟨#[]⟩, .int .i64 0, .int .i64 0, .int .i64 0, .int .i64 0] 32)).alloc (.cells #[.int .i64 0, .int .i64 0, .int .i64 0] 25)).heap.size ≤ V.heap.size := hVb.out.size; clear hb)
            | (at_builtin; refine wpList_append_own _ rfl _ _ 60 rfl ((w.alloc (.cells #[.int .i64 0, .string ⟨#[]⟩, .int .i64 0, .int .i64 0, .int .i64 0, .int .i64 0] 32)).alloc (.cells #[.int .i64 0, .int .i64 0, .int .i64 0] 25)).heap.size 5 i0 (.int .u8 0) 1 1 Tryd.underlying60 hi0 hz0 hz1 hz2 rfl (by decide) _ vs.length (vs.map (Value.int .u8)) rfl (World.ownsRow.alloc HO.out _) ⟨V.heap.size, 0, none⟩ 1 1 [.int .u8 c] rfl rfl (World.news_of_block (cs := #[.int .u8 c]) (t := 5) (fr := (0, 0)) (heap_alloc_new V _)) (by simp [Value.oneCell']) (by unfold maxLen; omega) (by omega) (Nat.le_trans hVs (by simp)) ?_; intro v' w1 hown1 hgrow hnil))
          obtain ⟨z, rfl⟩ := grown_over hVb.out HO.out hgrow
          have HN := hide (map_snoc8 hown1)
          clear hown1 hgrow hnil
          go_wp2
          go_roundw
          case rel => exact ⟨I + n.toNat, vs ++ [c], z, by omega, by simp; omega, by first | go_num | (congr 1; omega), HX, rfl, HN⟩
          case measure => simp [intOf]; omega
      · have e92 : (b == 92) = false := by simpa using h92
        by_cases h255 : vs.length = 255
        · have HX : Hid (textX s o = .bad 15 o) := HE.out.trans (HF.out.trans (by rw [if_neg h32, if_neg h34, if_neg h92, if_pos h255]))
          have e255 : ((vs.length : Int) == 255) = true := by simp [h255]
          clear HF HE
          obtain ⟨ao, cp, rfl⟩ := own_shape HO.out
          replace h255 := hide h255
          go_wp2_with (go_at_call 21; refine (calls_over (refuse_below _ _ _)).mono ?_; unfold Nx.val tokZero faultVal; rintro e w' ⟨rfl, y, rfl⟩)
          exact bodyPost_ret (v := (Nx.bad 15 o).val) (by simp [results, Tryd.results27, go_sem, Nx.val, tokZero, faultVal]) rfl ⟨by rw [HX.out], below2_over _ _ _ _⟩
        · have HX : Hid (textX s o = textF s o (I + 1) (vs ++ [b])) := HE.out.trans (HF.out.trans (by rw [if_neg h32, if_neg h34, if_neg h92, if_neg h255]))
          have e255 : ((vs.length : Int) == 255) = false := by simp; omega
          clear HF HE
          obtain ⟨ao, cp, rfl⟩ := own_shape HO.out
          obtain ⟨V, hV⟩ : ∃ V, V = over ((w.alloc (.cells #[.int .i64 0, .string ⟨#[]⟩, .int .i64 0, .int .i64 0, .int .i64 0, .int .i64 0] 32)).alloc (.cells #[.int .i64 0, .int .i64 0, .int .i64 0] 25)) x := ⟨_, rfl⟩
          have hVb := hide (hV ▸ over_below ((w.alloc (.cells #[.int .i64 0, .string ⟨#[]⟩, .int .i64 0, .int .i64 0, .int .i64 0, .int .i64 0] 32)).alloc (.cells #[.int .i64 0, .int .i64 0, .int .i64 0] 25)) x)
          rw [← hV] at HO ⊢
          clear hV
          have hVs : ((w.alloc (.cells #[.int .i64 0, .string ⟨#[]⟩, .int .i64 0, .int .i64 0, .int .i64 0, .int .i64 0] 32)).alloc (.cells #[.int .i64 0, .int .i64 0, .int .i64 0] 25)).heap.size ≤ V.heap.size := hVb.out.size
          go_wp2_with (at_builtin; refine wpList_append_own _ rfl _ _ 60 rfl ((w.alloc (.cells #[.int .i64 0, .string ⟨#[]⟩, .int .i64 0, .int .i64 0, .int .i64 0, .int .i64 0] 32)).alloc (.cells #[.int .i64 0, .int .i64 0, .int .i64 0] 25)).heap.size 5 i0 (.int .u8 0) 1 1 Tryd.underlying60 hi0 hz0 hz1 hz2 rfl (by decide) _ vs.length (vs.map (Value.int .u8)) rfl (World.ownsRow.alloc HO.out _) ⟨V.heap.size, 0, none⟩ 1 1 [.int .u8 b] rfl rfl (World.news_of_block (cs := #[.int .u8 b]) (t := 5) (fr := (0, 0)) (heap_alloc_new V _)) (by simp [Value.oneCell']) (by unfold maxLen; omega) (by omega) (Nat.le_trans hVs (by simp)) ?_; intro v' w1 hown1 hgrow hnil)
          obtain ⟨z, rfl⟩ := grown_over hVb.out HO.out hgrow
          have HN := hide (map_snoc8 hown1)
          clear hown1 hgrow hnil
          go_wp2
          go_roundw
          case rel => exact ⟨I + 1, vs ++ [b], z, by omega, by simp; omega, by go_num, HX, rfl, HN⟩
          case measure => simp [intOf]; omega
    · have hi : ¬ (I : Int) < (s.size : Int) := by omega
      have HX : Hid (textX s o = .bad 11 o) := HE.out.trans (by rw [textF, dif_neg hlt])
      clear HE
      go_wp2_with (go_at_call 21; refine (calls_over (refuse_below _ _ _)).mono ?_; unfold Nx.val tokZero faultVal; rintro e w' ⟨rfl, y, rfl⟩)
      exact bodyPost_ret (v := (Nx.bad 11 o).val) (by simp [results, Tryd.results27, go_sem, Nx.val, tokZero, faultVal]) rfl ⟨by rw [HX.out], below2_over _ _ _ _⟩

end Go.Proofs.YtplldgkdjainlaaDoor
