/- edictlaw01's idsStep: one call on both answers alike, and leaves both alike. -/
import Derived.Test.YtbagefemhidbjaaDuo
import Derived.Test.YtbagefemhidbjaaEveryA
import Derived.Test.YtbagefemhidbjaaEveryB
import Derived.Test.YtbagefemhidbjaaStrLaw
import Derived.Deep.RegionHeld3
namespace Go.Proofs.Ytbagefemhidbjaa
set_option linter.unusedSimpArgs false
set_option linter.unusedVariables false
open Go.RowKit Go.Maps

variable {w0 W : World} {p m py : Nat} {ao : Option Addr} {v : Value} {ks : List ByteArray} {b : Nat}

/-- What a step is to do. -/
def StepOk (w0 : World) (p m py : Nat) (b : Nat) (e : Ending) (w' : World) : Prop := e = .returned (.bool true) ∧ ∃ ao' v' ks', Duo w0 w' p m py ao' v' ks' ks' (b + 1)

theorem Duo.up (h : Duo w0 W p m py ao v ks ks b) {b' : Nat} (hb : b ≤ b') : Duo w0 W p m py ao v ks ks b' := by
  obtain ⟨n, cap, hn, hI⟩ := h.x
  have := h.lx
  exact { h with x := ⟨n, cap, by omega, hI⟩, lx := by omega, ly := by omega }

theorem Duo.boxed (h : Duo w0 W p m py ao v ks ks b) (o : Obj) : Duo w0 (W.alloc o) p m py ao v ks ks b := h.grow ((Below.refl _ _).alloc (Nat.le_refl _) _)

set_option maxRecDepth 100000 in
set_option maxHeartbeats 2000000 in
theorem step_intern (h : Duo w0 W p m py ao v ks ks b) (hbl : b + 1 < 2097152) (k : ByteArray) (z : Int) (hk : k.size ≤ 140737488351232) :
    Calls Try.prog 9 #[.pointer (some ⟨p, 0, none⟩), .pointer (some ⟨py, 0, none⟩), .agg #[.int .i64 1, .string k, .int .i64 z]] W (StepOk w0 p m py b) := by
  have HD := hide (h.boxed (.cells #[.int .i64 1, .string k, .int .i64 z] 30))
  have hplt := h.xlt (q := p) (.inl rfl)
  have hylt := h.ylt (q := py) (.inl rfl)
  have c1 : (W.alloc (.cells #[.int .i64 1, .string k, .int .i64 z] 30)).cell? ⟨W.heap.size, 1, none⟩ = some (.string k) := by simp
  have hnf : ¬ foot p m ao W.heap.size := fun hf => by have := h.xlt hf; omega
  have HNF := hide hnf
  have HNR : Hid (¬ footR py v W.heap.size) := fun hf => by have := h.ylt hf; omega
  clear h hnf
  go_enter Try.func9, Try.ntmps9
  go_wp2
  obtain ⟨W1, hW1⟩ : ∃ W1, W1 = W.alloc (.cells #[.int .i64 1, .string k, .int .i64 z] 30) := ⟨_, rfl⟩
  rw [← hW1] at c1 HD ⊢
  have hs1 : W.heap.size < W1.heap.size := by rw [hW1]; simp
  clear hW1
  obtain ⟨B, hB⟩ : ∃ B, B = W.heap.size := ⟨_, rfl⟩
  rw [← hB] at c1 HNF HNR hs1 ⊢
  clear hB
  have HX := hide (fun V hb => HD.out.int (by omega) hk (W' := V) hb)
  go_region_held3 (fun V => V.cell? ⟨B, 1, none⟩ = some (.string k))
    (first
      | go_keep
      | exact hc2
      | exact hc3)
    (first
      | (go_at_call 28; refine (HX.out _ (below_drewN _ W1 1)).mono ?_; rintro e W2 ⟨rfl, hI⟩; obtain ⟨ao2, hD2⟩ := (HD.out.grow (below_drewN _ W1 1)).symTo hI.out (Nat.le_refl _) (by omega) (addS_nodup HD.out.ndx k) (addS_ok (fun s hs => HD.out.ok s (.inl hs)) hk) (by have := addS_len ks k; have := HD.out.lx; omega); obtain ⟨_, _, _, _, _, i3, _⟩ := hI.out; have hc2 : W2.cell? ⟨B, 1, none⟩ = some (.string k) := i3.cell c1 HNF.out; have HD2 := hide hD2; have HY := hide (hD2.rint (by omega) hk (by have := addS_len ks k; have := HD.out.lx; omega)); clear hI hD2 i3)
      | (go_at_call 27; refine HY.out.mono ?_; rintro e W3 ⟨rfl, hJ⟩; obtain ⟨v3, hD3, hO3⟩ := hJ.out; have hc3 : W3.cell? ⟨B, 1, none⟩ = some (.string k) := hO3.cell hc2 HNR.out; have HD3 := hide hD3; clear hJ hO3 hD3))
  go_wp2
  go_ret
  exact ⟨rfl, _, _, _, HD3.out⟩
end Go.Proofs.Ytbagefemhidbjaa
