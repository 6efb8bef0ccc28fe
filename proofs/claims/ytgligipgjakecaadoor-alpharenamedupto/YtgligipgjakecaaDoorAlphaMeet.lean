/- alpha.meeting.isNew: shapes that were met, by their texts. -/
import Derived.Test.YtgligipgjakecaaDoorAlphaText
import Derived.Test.YtgligipgjakecaaDoorValMap
namespace Go.Proofs.YtgligipgjakecaaDoor
set_option linter.unusedSimpArgs false
set_option linter.unusedVariables false
open Go.RowKit Go.Maps

theorem lawStr10 : Keyed Tryd.prog 9 := string_keyed Tryd.underlying9
theorem zeroUnit10 (w : World) : (zeroValue 51).run Tryd.prog w = .ok (.agg #[]) w := by kernel_rfl
theorem keyText {T : List UInt8} (h : T.length ≤ 140737488351232) : keyOf Tryd.prog 9 (.string ⟨T.toArray⟩) = some (.string T) := by
  have h1 : (⟨T.toArray⟩ : ByteArray).size = T.length := rfl
  have : (⟨T.toArray⟩ : ByteArray).size ≤ maxLen := by rw [h1]; unfold maxLen; omega
  simp [keyOf, mapKey, Tryd.underlying9, this]

/-- Block m is the map of the shapes L. -/
def MeetAt (w : World) (m n : Nat) (L : List (Int × List Int)) : Prop :=
  ∃ V : Lit → Option Value, MapVal Tryd.prog 9 w m n V ∧ (∀ q cs, (q, cs) ∈ L → V (.string (textL q cs)) = some (.agg #[])) ∧ (∀ q cs, (q, cs) ∉ L → V (.string (textL q cs)) = none)
theorem MeetAt.same {w w' : World} {m n : Nat} {L : List (Int × List Int)} (h : MeetAt w m n L) (hb : w'.heap[m]? = w.heap[m]?) : MeetAt w' m n L := by
  obtain ⟨V, h1, h2⟩ := h
  exact ⟨V, h1.same hb, h2⟩
theorem MeetAt.lt {w : World} {m n : Nat} {L : List (Int × List Int)} (h : MeetAt w m n L) : m < w.heap.size := by
  obtain ⟨V, h1, _⟩ := h
  exact h1.lt
theorem MeetAt.kept {w w' : World} {m n : Nat} {L : List (Int × List Int)} (h : MeetAt w m n L) (hb : Below w.heap.size w w') : MeetAt w' m n L := h.same (hb.block _ h.lt)
theorem MeetAt.mono {w : World} {m n n' : Nat} {L : List (Int × List Int)} (h : MeetAt w m n L) (hn : n ≤ n') : MeetAt w m n' L := by
  obtain ⟨V, h1, h2⟩ := h
  exact ⟨V, h1.mono hn, h2⟩

section
variable {w : World} {m n : Nat} {L : List (Int × List Int)} {q : Int} {v : Value} {cs : List Int}
set_option maxHeartbeats 1000000 in
theorem isNew_old (hM : MeetAt w m n L) (hq : I64 q) (h : Has elInt w v cs) (ht : TabLaid w) (hin : (q, cs) ∈ L) :
    Calls Tryd.prog 20 #[.map (some m), .agg #[.int .i64 q, v]] w fun e w' => e = .returned (.bool false) ∧ Below w.heap.size w w' := by
  obtain ⟨va, vc, rfl, -, -, hlen⟩ := h.shape
  have hb := belo1 w (.cells #[.int .i64 q, .slice va cs.length vc] 25)
  have HB := hide hb
  have HC := hide (textOf_any hq (h.kept hb) (ht.kept hb))
  have htl := textL_len hq (fun c hc => h.ok hc)
  have HK := hide (keyText (T := textL q cs) (by omega))
  have HM := hide (hM.kept hb)
  obtain ⟨T, hT⟩ : ∃ T, textL q cs = T := ⟨_, rfl⟩
  have HTd := hide hT
  rw [hT] at HC HK
  clear h ht hM hb htl hT
  go_enter Tryd.func20, Tryd.ntmps20
  go_wp2_with (go_at_call 23; refine HC.out.mono ?_; rintro e w2 ⟨rfl, h2⟩; obtain ⟨V, hV, h3, h4⟩ := HM.out.kept h2; have hlk := hV.look_ok (t := 46) lawStr10 Tryd.underlying46 (zeroUnit10 w2) HK.out; rw [← HTd.out, h3 q cs hin, HTd.out] at hlk; simp only [Option.getD_some, Option.isSome_some] at hlk; have HB2 := hide (belot HB.out h2); clear h2 hV h3 h4)
  go_ret
  exact ⟨rfl, belot HB2.out (belo1 _ _)⟩

set_option maxHeartbeats 1000000 in
theorem isNew_new (hM : MeetAt w m n L) (hn : n < 1073741824) (hq : I64 q) (h : Has elInt w v cs) (ht : TabLaid w) (hin : (q, cs) ∉ L) :
    Calls Tryd.prog 20 #[.map (some m), .agg #[.int .i64 q, v]] w fun e w' => e = .returned (.bool true) ∧ MeetAt w' m (n + 1) (L ++ [(q, cs)]) ∧ Only (fun b => b = m) w w' := by
  obtain ⟨va, vc, rfl, -, -, hlen⟩ := h.shape
  have hb := belo1 w (.cells #[.int .i64 q, .slice va cs.length vc] 25)
  have HB := hide hb
  have HC := hide (textOf_any hq (h.kept hb) (ht.kept hb))
  have htl := textL_len hq (fun c hc => h.ok hc)
  have HK := hide (keyText (T := textL q cs) (by omega))
  have HM := hide (hM.kept hb)
  obtain ⟨T, hT⟩ : ∃ T, textL q cs = T := ⟨_, rfl⟩
  have HTd := hide hT
  rw [hT] at HC HK
  clear h ht hM hb htl hT
  go_enter Tryd.func20, Tryd.ntmps20
  go_wp2_with (go_at_call 23; refine HC.out.mono ?_; rintro e w2 ⟨rfl, h2⟩; obtain ⟨V, hV, h3, h4⟩ := HM.out.kept h2; have hlk := hV.look_ok (t := 46) lawStr10 Tryd.underlying46 (zeroUnit10 w2) HK.out; rw [← HTd.out, h4 q cs hin, HTd.out] at hlk; simp only [Option.getD_none, Option.isSome_none] at hlk; have HB2 := hide (belot HB.out (belot h2 (belo1 w2 (.cells #[] 51)))); have H3 := hide h3; have H4 := hide h4; have hV' : MapVal Tryd.prog 9 (w2.alloc (.cells #[] 51)) m n V := hV.same ((belo1 w2 _).block _ hV.lt); obtain ⟨w3, hup, hM3, hO3⟩ := hV'.store (t := 46) lawStr10 Tryd.underlying46 (by unfold maxLen; omega) HK.out (.agg #[]); have HM3 := hide hM3; have HO3 := hide hO3; clear h2 hV hV' h3 h4 hM3 hO3)
  go_ret
  refine ⟨rfl, ⟨_, HM3.out, fun q' cs' hm => ?_, fun q' cs' hm => ?_⟩, (Only.of_below HB2.out _).trans HO3.out⟩
  · rcases List.mem_append.1 hm with h1 | h1
    · rw [setV_other _ _ (fun e => ?_)]
      · exact H3.out q' cs' h1
      · have e2 : textL q' cs' = textL q cs := by rw [HTd.out]; simpa using e
        obtain ⟨rfl, rfl⟩ := textL_inj e2
        exact hin h1
    · simp only [List.mem_singleton, Prod.mk.injEq] at h1
      obtain ⟨rfl, rfl⟩ := h1
      rw [HTd.out, setV_same]
  · rw [setV_other _ _ (fun e => ?_)]
    · exact H4.out q' cs' (fun h1 => hm (List.mem_append.2 (.inl h1)))
    · have e2 : textL q' cs' = textL q cs := by rw [HTd.out]; simpa using e
      obtain ⟨rfl, rfl⟩ := textL_inj e2
      exact hm (List.mem_append.2 (.inr (by simp)))
end
end Go.Proofs.YtgligipgjakecaaDoor
