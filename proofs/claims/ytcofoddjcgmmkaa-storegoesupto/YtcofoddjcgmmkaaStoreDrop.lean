/- What dropLast does to a store's two maps of lists. -/
import Derived.Test.YtcofoddjcgmmkaaStoreCut
import Derived.Test.YtcofoddjcgmmkaaStoreAsk
namespace Go.Proofs.Ytcofoddjcgmmkaa
set_option linter.unusedSimpArgs false
set_option linter.unusedVariables false
open Go.RowKit Go.Maps

set_option maxRecDepth 100000 in
set_option maxHeartbeats 2000000 in
theorem dropInt_any {w : World} {own : Own} {p : Nat} {L : Loc} {S : Sto} (h : Raw w own p L S) {q : Int} (hq : I64 q) {zs : List Int} {x : Int} (hl : S.O (.int .i64 q) = zs ++ [x]) (hz : zs.length < 1099511627776) (hn : L.n2 < 1099511627776) :
    Calls Try.prog 46 #[.map (some L.m2), .int .i64 q] w fun e w' => e = .returned (.tuple #[]) ∧ ∃ n2, n2 ≤ L.n2 + 1 ∧ Raw w' own p { L with n2 := n2 } { S with O := setL S.O (.int .i64 q) zs } ∧ Turn (fun t => t = .ofl (.int .i64 q) ∨ t = .ofm) own own w w' := by
  obtain ⟨v, hrun, hv⟩ := h.of.look (t := 62) (te := 22) lawInt Try.underlying62 (zeroInts w) (keyOf_pred hq)
  rw [hl, List.length_append, List.length_singleton] at hv
  obtain ⟨ao, cap, rfl, hg, hcap⟩ := hv.form
  obtain ⟨g, rfl⟩ := hg (by omega)
  by_cases hz0 : zs = []
  · subst hz0
    obtain ⟨w2, hdel, hM, hT⟩ := h.of.gone (t := 62) lawInt Try.underlying62 (fun l e => by cases e) (keyOf_pred hq) 0
    have hT2 : Turn (fun t => t = .ofl (.int .i64 q) ∨ t = .ofm) own own w w2 := hT.mono (fun _ e => .inr e)
    have HP := hide (And.intro (h.set_of hM hT2) hT2)
    clear h hv hM hT hT2 hl hz hcap
    go_enter Try.func46, Try.ntmps46
    go_wp2
    (try simp only [Exit.inBlock, Exit.then])
    refine bodyPost_ret (results_none rfl _ _ _) rfl ?_
    exact ⟨rfl, L.n2, by omega, HP.out⟩
  · obtain ⟨w2, hup, hM, hT⟩ := h.of.less (t := 62) lawInt Try.underlying62 (by unfold maxLen; omega) (fun a b e => by cases e; rfl) (fun l e => by cases e) (keyOf_pred hq) hl hz0 hv
    have hT2 : Turn (fun t => t = .ofl (.int .i64 q) ∨ t = .ofm) own own w w2 := hT.mono (fun _ e => .inr e)
    have HP := hide (And.intro (h.set_of hM hT2) hT2)
    have hzl : 0 < zs.length := List.length_pos_iff.2 hz0
    obtain ⟨k, hk⟩ : ∃ k, zs.length = k := ⟨_, rfl⟩
    rw [hk] at hz hup hzl hrun hcap
    have hne : ((((k + 1 : Nat) : Int)) == 1) = false := by simp; omega
    clear h hv hM hT hT2 hl hz0 hk
    go_enter Try.func46, Try.ntmps46
    go_wp2
    go_end0
    exact ⟨rfl, L.n2 + 1, by omega, HP.out⟩
set_option maxRecDepth 100000 in
set_option maxHeartbeats 2000000 in
theorem dropSpot_any {w : World} {own : Own} {p : Nat} {L : Loc} {S : Sto} (h : Raw w own p L S) {q y z : Int} (hq : I64 q) (hy : I64 y) (hz3 : I64 z) {zs : List Int} {x : Int} (hl : S.W (litI [q, y, z]) = zs ++ [x]) (hz : zs.length < 1099511627776) (hn : L.n3 < 1099511627776) :
    Calls Try.prog 45 #[.map (some L.m3), .agg #[.int .i64 q, .int .i64 y, .int .i64 z]] w fun e w' => e = .returned (.tuple #[]) ∧ ∃ n3, n3 ≤ L.n3 + 1 ∧ Raw w' own p { L with n3 := n3 } { S with W := setL S.W (litI [q, y, z]) zs } ∧ Turn (fun t => t = .whl (litI [q, y, z]) ∨ t = .whm) own own w w' := by
  have hb : Below w.heap.size w (w.alloc (.cells #[.int .i64 q, .int .i64 y, .int .i64 z] 78)) := (Below.refl _ _).alloc (Nat.le_refl _) _
  replace h := h.below hb
  obtain ⟨v, hrun, hv⟩ := h.wh.look (t := 63) (te := 22) (Keyed.of_law lawSpot) Try.underlying63 (zeroInts _) (keyOf_spot (c := [q, y, z]) rfl (by intro a ha; simp at ha; rcases ha with rfl | rfl | rfl <;> assumption))
  rw [hl, List.length_append, List.length_singleton] at hv
  obtain ⟨ao, cap, rfl, hg, hcap⟩ := hv.form
  obtain ⟨g, rfl⟩ := hg (by omega)
  by_cases hz0 : zs = []
  · subst hz0
    obtain ⟨w2, hdel, hM, hT⟩ := h.wh.gone (t := 63) (Keyed.of_law lawSpot) Try.underlying63 (fun l e => by cases e) (keyOf_spot (c := [q, y, z]) rfl (by intro a ha; simp at ha; rcases ha with rfl | rfl | rfl <;> assumption)) 0
    have hT2 : Turn (fun t => t = .whl (litI [q, y, z]) ∨ t = .whm) own own (w.alloc (.cells #[.int .i64 q, .int .i64 y, .int .i64 z] 78)) w2 := hT.mono (fun _ e => .inr e)
    have HP := hide (And.intro (h.set_wh hM hT2) ((Turn.below hb).trans hT2))
    have hrun2 : (Instr.lookup 63 (.map (some L.m3)) (.agg #[.int .i64 q, .int .i64 y, .int .i64 z]) false).run Try.prog (w.alloc (.cells #[.int .i64 q, .int .i64 y, .int .i64 z] 78)) = .ok (.slice (some ⟨g, 0, none⟩) (0 + 1) cap) (w.alloc (.cells #[.int .i64 q, .int .i64 y, .int .i64 z] 78)) := hrun
    have hdel2 : (Builtin.delete_ #[63, 78] 0 #[.map (some L.m3), .agg #[.int .i64 q, .int .i64 y, .int .i64 z]]).run Try.prog (w.alloc (.cells #[.int .i64 q, .int .i64 y, .int .i64 z] 78)) = .ok (.tuple #[]) w2 := hdel
    clear h hb hv hM hT hT2 hl hz hcap hrun hdel
    go_enter Try.func45, Try.ntmps45
    go_wp2
    (try simp only [Exit.inBlock, Exit.then])
    refine bodyPost_ret (results_none rfl _ _ _) rfl ?_
    exact ⟨rfl, L.n3, by omega, HP.out⟩
  · have hb2 : Below (w.alloc (.cells #[.int .i64 q, .int .i64 y, .int .i64 z] 78)).heap.size (w.alloc (.cells #[.int .i64 q, .int .i64 y, .int .i64 z] 78)) (w.alloc (.cells #[.int .i64 q, .int .i64 y, .int .i64 z] 78)).drew := (Below.refl _ _).drew
    replace h := h.below hb2
    replace hv := hv.keep (A := fun _ => False) (Turn.below hb2) id
    obtain ⟨w2, hup, hM, hT⟩ := h.wh.less (t := 63) (Keyed.of_law lawSpot) Try.underlying63 (by unfold maxLen; omega) (fun a b e => by cases e; rfl) (fun l e => by cases e) (keyOf_spot (c := [q, y, z]) rfl (by intro a ha; simp at ha; rcases ha with rfl | rfl | rfl <;> assumption)) hl hz0 hv
    have hT2 : Turn (fun t => t = .whl (litI [q, y, z]) ∨ t = .whm) own own (w.alloc (.cells #[.int .i64 q, .int .i64 y, .int .i64 z] 78)).drew w2 := hT.mono (fun _ e => .inr e)
    have HP := hide (And.intro (h.set_wh hM hT2) (((Turn.below hb).trans (Turn.below hb2)).trans hT2))
    have hzl : 0 < zs.length := List.length_pos_iff.2 hz0
    obtain ⟨k, hk⟩ : ∃ k, zs.length = k := ⟨_, rfl⟩
    rw [hk] at hz hup hzl hrun hcap
    have hne : ((((k + 1 : Nat) : Int)) == 1) = false := by simp; omega
    have hrun2 : (Instr.lookup 63 (.map (some L.m3)) (.agg #[.int .i64 q, .int .i64 y, .int .i64 z]) false).run Try.prog (w.alloc (.cells #[.int .i64 q, .int .i64 y, .int .i64 z] 78)) = .ok (.slice (some ⟨g, 0, none⟩) (k + 1) cap) (w.alloc (.cells #[.int .i64 q, .int .i64 y, .int .i64 z] 78)) := hrun
    have hup2 : (Instr.mapUpdate 63 (.map (some L.m3)) (.agg #[.int .i64 q, .int .i64 y, .int .i64 z]) (.slice (some ⟨g, 0, none⟩) k cap)).run Try.prog (w.alloc (.cells #[.int .i64 q, .int .i64 y, .int .i64 z] 78)).drew = .ok () w2 := hup
    clear h hb hb2 hv hM hT hT2 hl hz0 hk hrun hup
    go_enter Try.func45, Try.ntmps45
    go_wp2
    go_region
    go_wp2
    go_end0
    exact ⟨rfl, L.n3 + 1, by omega, HP.out⟩
end Go.Proofs.Ytcofoddjcgmmkaa
