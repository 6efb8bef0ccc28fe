/- What the methods of an Ids of strings do, at every Ids that the calls themselves made and every argument. -/
import Derived.Test.YthhoiejjejdffaaProg
import Derived.Test.YthhoiejjejdffaaIdsBase
import Derived.Test.YthhoiejjejdffaaIdsCut
import Derived.WalkSpells
import Derived.Deep.DeepCutAuto
import Derived.Deep.AppendLies
import Derived.WalkLawsBesides
namespace Go.Proofs.Ythhoiejjejdffaa
set_option linter.unusedSimpArgs false
set_option linter.unusedVariables false
open Go.RowKit Go.Maps

abbrev StrIds (base : Nat) (w : World) (p m n : Nat) (ao : Option Addr) (cap : Nat) (ks : List ByteArray) : Prop :=
  IdsAt Try.prog 9 3 73 1 (fun k : ByteArray => [Value.string k]) (fun k => Lit.string k.data.toList) base w p m n ao cap ks

theorem lawStr : Keyed Try.prog 9 := string_keyed Try.underlying9
theorem keyOf_strS {s : ByteArray} (h : s.size ≤ maxLen) : keyOf Try.prog 9 (.string s) = some (.string s.data.toList) := by
  simp [keyOf, mapKey, Try.underlying9, h]
theorem data_inj {a b : ByteArray} (h : a.data.toList = b.data.toList) : a = b := by cases a; cases b; simp_all
theorem zeroIntS (w : World) : (zeroValue 3).run Try.prog w = .ok (.int .i64 0) w := by kernel_rfl
theorem zeroStr (w : World) : (zeroValue 9).run Try.prog w = .ok (.string ⟨#[]⟩) w := by kernel_rfl
theorem wfIntS {k : Int} (h : -9223372036854775808 ≤ k ∧ k ≤ 9223372036854775807) : (Lit.int .i64 k).wf = true := WalkArith.wf_i64 (by omega)

variable {base : Nat} {w : World} {p m n : Nat} {ao : Option Addr} {cap : Nat} {ks : List ByteArray}

theorem lenStr_any (h : StrIds base w p m n ao cap ks) :
    Calls Try.prog 21 #[.pointer (some ⟨p, 0, none⟩)] w fun e w' => e = .returned (.int .i64 ks.length) ∧ w' = w := by
  have c0 := h.c0
  clear h
  generalize ks.length = len at *
  go_enter Try.func21, Try.ntmps21
  go_wp2
  go_ret
  exact ⟨rfl, rfl⟩

theorem findStr_some (h : StrIds base w p m n ao cap ks) {k : ByteArray} (hk : k.size ≤ maxLen) {i : Nat} (hi : ks[i]? = some k) :
    Calls Try.prog 23 #[.pointer (some ⟨p, 0, none⟩), .string k] w fun e w' => e = .returned (.int .i64 i) ∧ w' = w := by
  have c1 := h.c1
  have hrun := h.map.look_some (t := 71) lawStr Try.underlying71 Try.underlying3 (zeroIntS w) (keyOf_strS hk) (i := i) ⟨k, hi, rfl⟩
  clear h hi
  go_enter Try.func23, Try.ntmps23
  go_wp2
  go_ret
  exact ⟨rfl, rfl⟩

theorem findStr_none (h : StrIds base w p m n ao cap ks) {k : ByteArray} (hk : k.size ≤ maxLen) (hi : k ∉ ks) :
    Calls Try.prog 23 #[.pointer (some ⟨p, 0, none⟩), .string k] w fun e w' => e = .returned (.int .i64 (-1)) ∧ w' = w := by
  have c1 := h.c1
  have hrun := h.map.look_none (t := 71) lawStr Try.underlying71 Try.underlying3 (zeroIntS w) (keyOf_strS hk) (fun i ⟨k', h1, h2⟩ => hi (by
    simp only [Lit.string.injEq] at h2
    exact data_inj h2 ▸ List.mem_of_getElem? h1))
  clear h hi
  go_enter Try.func23, Try.ntmps23
  go_wp2
  go_ret
  exact ⟨rfl, rfl⟩

theorem internStr_old (h : StrIds base w p m n ao cap ks) {k : ByteArray} (hk : k.size ≤ maxLen) {i : Nat} (hi : ks[i]? = some k) :
    Calls Try.prog 28 #[.pointer (some ⟨p, 0, none⟩), .string k] w fun e w' => e = .returned (.int .i64 i) ∧ w' = w := by
  have c1 := h.c1
  have hrun := h.map.look_some (t := 71) lawStr Try.underlying71 Try.underlying3 (zeroIntS w) (keyOf_strS hk) (i := i) ⟨k, hi, rfl⟩
  clear h hi
  go_enter Try.func28, Try.ntmps28
  go_wp2
  go_ret
  exact ⟨rfl, rfl⟩

theorem Try.infoStr : (Try.prog.info? 9).map (fun i => (i.zero, i.size, i.bytes)) = some (some (.string ⟨#[]⟩), 1, 16) := by kernel_rfl

set_option maxHeartbeats 400000 in
theorem internStr_new (h : StrIds base w p m n ao cap ks) (hb : base ≤ w.heap.size) {k : ByteArray} (hk : k.size ≤ maxLen) (hi : k ∉ ks) (hn : n < 2199023255552) (hl : ks.length < 2199023255552) :
    Calls Try.prog 28 #[.pointer (some ⟨p, 0, none⟩), .string k] w fun e w' => e = .returned (.int .i64 ks.length) ∧ ∃ ao' cap', StrIds base w' p m (n + 1) ao' cap' (ks ++ [k]) ∧ Only (foot p m ao) w w' ∧ (∀ a, ao' = some a → ao = some a ∨ w.heap.size ≤ a.block) := by
  have c0 := h.c0
  have c1 := h.c1
  have f0 := h.f0
  have hown := h.row
  have hrun := h.map.look_none (t := 71) lawStr Try.underlying71 Try.underlying3 (zeroIntS w) (keyOf_strS hk) (fun i ⟨k', h1, h2⟩ => hi (by
    simp only [Lit.string.injEq] at h2
    exact data_inj h2 ▸ List.mem_of_getElem? h1))
  have hplt := h.plt
  obtain ⟨len, hlen⟩ : ∃ len, len = ks.length := ⟨_, rfl⟩
  rw [← hlen] at c0 hown hl ⊢
  have HL := hide hlen
  clear hlen
  obtain ⟨i0, hi0, hz0, hz1, hz2⟩ := info_parts Try.infoStr
  go_enter Try.func28, Try.ntmps28
  go_wp2_with (at_builtin; refine wpList_append_lies _ rfl _ _ 22 rfl base 9 i0 (.string ⟨#[]⟩) 1 16 Try.underlying22 hi0 hz0 hz1 hz2 rfl (by decide) _ _ _ rfl (hown.alloc _) ⟨w.heap.size, 0, none⟩ 1 1 [.string k] rfl rfl ?c1 ?c2 (by decide) ?c3 ?c4 ?c5 (w.heap.size + 1) ?c6 ?_)
  case c1 => exact cell_one_new _ _ _
  case c2 => intro u hu; simp at hu; subst hu; rfl
  case c3 => unfold maxLen; omega
  case c4 => omega
  case c5 => simp; omega
  case c6 => simp
  intro g cap' w1 hown1 hgrow hat hlt
  obtain ⟨d1, d2, d3, z1, z2, hmid⟩ := h.pushed (by decide) HL.out ((Below.refl _ _).alloc (Nat.le_refl _) _) hown1 hgrow (hat.imp id (fun e => by omega))
  obtain ⟨w2, hup, hI, hO, hA⟩ := hmid.finish (t := 71) lawStr Try.underlying71 Try.underlying3 (by unfold maxLen; omega) HL.out (by omega) (keyOf_strS hk) (fun k' hk' e => hi (by simp only [Lit.string.injEq] at e; exact data_inj e ▸ hk'))
  have HMID := hide hmid
  clear hmid
  clear c0 c1 f0 hown hrun hplt hown1 hgrow hat
  go_wp2
  go_ret
  exact ⟨rfl, _, _, hI, hO, hA⟩

theorem cellsStr (k : ByteArray) : [Value.string k].length = 1 := rfl

theorem atStr_in (h : StrIds base w p m n ao cap ks) (hl : ks.length < 2199023255552) {i : Nat} {k : ByteArray} (hi : ks[i]? = some k) :
    Calls Try.prog 22 #[.pointer (some ⟨p, 0, none⟩), .int .i64 i] w fun e w' => e = .returned (.tuple #[.string k, .bool true]) ∧ w' = w := by
  have hlt : i < ks.length := (List.getElem?_eq_some_iff.1 hi).1
  obtain ⟨g, cur, hao, _⟩ := h.lies (by omega)
  have hc := h.cellAt (j := 0) (v := .string k) cellsStr hao hi rfl
  simp only [Nat.mul_one, Nat.add_zero] at hc
  subst hao
  have c0 := h.c0
  have H := hide h
  clear h hi
  generalize ks.length = len at *
  have h1 : ¬ (i : Int) < 0 := by omega
  have h2 : (i : Int) < (len : Int) := by omega
  go_enter Try.func22, Try.ntmps22
  go_wp2
  go_ret2
  exact ⟨rfl, rfl⟩

theorem atStr_out (h : StrIds base w p m n ao cap ks) (hl : ks.length < 2199023255552) {i : Int} (hi : i < 0 ∨ (ks.length : Int) ≤ i) :
    Calls Try.prog 22 #[.pointer (some ⟨p, 0, none⟩), .int .i64 i] w fun e w' => e = .returned (.tuple #[.string ⟨#[]⟩, .bool false]) ∧ w' = w := by
  have c0 := h.c0
  have H := hide h
  clear h
  generalize ks.length = len at *
  rcases hi with hi | hi
  · go_enter Try.func22, Try.ntmps22
    go_wp2
    go_ret2
    exact ⟨rfl, rfl⟩
  · have h1 : ¬ i < 0 := by omega
    have h2 : ¬ i < (len : Int) := by omega
    go_enter Try.func22, Try.ntmps22
    go_wp2
    go_ret2
    exact ⟨rfl, rfl⟩

theorem cutStr_none (h : StrIds base w p m n ao cap ks) (hl : ks.length < 2199023255552) {c : Int} (hc : (ks.length : Int) ≤ c ∨ (c ≤ 0 ∧ ks.length = 0)) :
    Calls Try.prog 36 #[.pointer (some ⟨p, 0, none⟩), .int .i64 c] w fun e w' => e = .returned (.tuple #[]) ∧ w' = w := by
  have hL := lenStr_any h
  clear h
  generalize ks.length = len at *
  have h1 : ¬ max c 0 < (len : Int) := by omega
  go_enter Try.func36, Try.ntmps36
  go_wp2_with (go_at_call 21; refine hL.mono ?_; rintro e w' ⟨rfl, rfl⟩)
  all_goals exact bodyPost_ret (v := .tuple #[]) (by simp [results, Try.results36, go_sem]) rfl ⟨rfl, rfl⟩

theorem nodupS_at {ks : List ByteArray} (hnd : ks.Nodup) {i j : Nat} {a : ByteArray} (h1 : ks[i]? = some a) (h2 : ks[j]? = some a) : i = j := by
  have hi : i < ks.length := (List.getElem?_eq_some_iff.1 h1).1
  exact (List.getElem?_inj hi hnd).1 (h1.trans h2.symm)

/-- Which keys are left in the map when the keys c up to c + j have been taken out. -/
def leftStr (ks : List ByteArray) (c j : Nat) (l : Lit) (i : Nat) : Prop := keyAt (fun k => Lit.string k.data.toList) ks l i ∧ (i < c ∨ c + j ≤ i)

theorem leftStr_here {ks : List ByteArray} (hnd : ks.Nodup) {c j : Nat} {k : ByteArray} (hk : ks[c + j]? = some k) (i : Nat) : ¬ leftStr ks c (j + 1) (Lit.string k.data.toList) i := by
  rintro ⟨⟨k', h1, h2⟩, h3⟩
  simp only [Lit.string.injEq] at h2
  have h2 := data_inj h2
  subst h2
  have := nodupS_at hnd h1 hk
  omega

theorem leftStr_other {ks : List ByteArray} {c j : Nat} {k : ByteArray} (hk : ks[c + j]? = some k) {l : Lit} (hl : l ≠ Lit.string k.data.toList) (i : Nat) : leftStr ks c (j + 1) l i ↔ leftStr ks c j l i := by
  constructor
  · rintro ⟨h1, h2⟩; exact ⟨h1, by omega⟩
  · rintro ⟨⟨k', h1, h3⟩, h2⟩
    refine ⟨⟨k', h1, h3⟩, ?_⟩
    rcases h2 with h2 | h2
    · exact .inl h2
    · rcases Nat.lt_or_ge (c + j) i with h4 | h4
      · exact .inr (by omega)
      · obtain rfl : i = c + j := by omega
        rw [hk] at h1
        simp only [Option.some.injEq] at h1
        subst h1
        exact absurd h3.symm hl

set_option maxHeartbeats 1000000 in
theorem cutStr_some (h : StrIds base w p m n ao cap ks) (hnd : ks.Nodup) (hkk : ∀ k ∈ ks, k.size ≤ maxLen) (hl : ks.length < 2199023255552) {c : Int} {d : Nat} (hc : c = d ∨ (c < 0 ∧ d = 0)) (hd : d < ks.length) :
    Calls Try.prog 36 #[.pointer (some ⟨p, 0, none⟩), .int .i64 c] w fun e w' => e = .returned (.tuple #[]) ∧ StrIds base w' p m n ao cap (ks.take d) ∧ Only (foot p m ao) w w' := by
  have hL := lenStr_any h
  obtain ⟨g, cur, hao, _, hlc, _⟩ := h.lies (by omega)
  have c0 := h.c0
  have c1 := h.c1
  have hM0 := h.map
  have cells : ∀ i k, ks[i]? = some k → w.cell? ⟨g, i, none⟩ = some (.string k) := fun i k hi => by
    have := h.cellAt (j := 0) (v := .string k) cellsStr hao hi rfl
    simpa using this
  have hrp := h.rp (by decide) _ hao
  have hpm := h.pm
  subst hao
  have HC := fun w1 (hO : Only (fun k => k = m) w w1) hM => h.cutAt (by decide) cellsStr (c := d) hd rfl hO hM
  have H := hide h
  clear h
  obtain ⟨len, hlen⟩ : ∃ len, len = ks.length := ⟨_, rfl⟩
  rw [← hlen] at hl hd hlc hL c0 HC
  have HL := hide hlen
  clear hlen
  have HC2 := hide HC
  clear HC
  have h1 : ¬ (len : Int) ≤ (d : Int) := by omega
  have h2 : (d : Int) ≤ (len : Int) := by omega
  have h3 : (len : Int) ≤ (cap : Int) := by omega
  go_enter Try.func36, Try.ntmps36
  go_upto_region 0 with fail
  go_cut [1] (fun t wc => t = .int .i64 d ∧ w = wc)
  case first =>
    rcases hc with rfl | ⟨hc, rfl⟩
    · have hnn : ¬ (d : Int) < 0 := by omega
      go_wp2
      all_goals go_meet
      all_goals exact ⟨rfl, rfl⟩
    · go_wp2
      all_goals go_meet
      all_goals exact ⟨rfl, rfl⟩
  case rest =>
    obtain ⟨rfl, rfl⟩ := hcut
    clear hc
    go_wp2_with (go_at_call 21; refine hL.mono ?_; rintro e w' ⟨rfl, hw⟩; have hw := hw.symm; subst hw)
    clear hL
    go_loopw [5, 19] (fun _ i wr => ∃ j : Nat, j ≤ len - d ∧ i = .int .i64 j ∧ Hid (Only (fun k => k = m) w wr) ∧ MapIs Try.prog 9 3 wr m n (leftStr ks d j)) (fun _ i _ => len - d - (intOf i).toNat)
    case atStart => exact ⟨0, Nat.zero_le _, rfl, Only.refl _ _, hM0.congr (fun l i => ⟨fun h => ⟨h, by omega⟩, fun h => h.1⟩)⟩
    case round =>
      obtain ⟨j, hj, rfl, HO, hM⟩ := hrel
      by_cases hlt : j < len - d
      · obtain ⟨k, hk⟩ : ∃ k, ks[d + j]? = some k := ⟨_, List.getElem?_eq_getElem (by rw [← HL.out]; omega)⟩
        have ck := HO.out.cell (cells _ _ hk) hrp.2.1
        have cm := HO.out.cell c1 hpm.symm
        obtain ⟨w2, hdel, hM2, hO2⟩ := hM.drop (t := 71) lawStr Try.underlying71 (keyOf_strS (hkk k (List.mem_of_getElem? hk))) 0 (leftStr ks d (j + 1)) (leftStr_here hnd hk) (fun l' hl' i => leftStr_other hk hl' i)
        have HO2 := hide (HO.out.trans hO2)
        have hi : (j : Int) < (len : Int) - (d : Int) := by omega
        clear hO2 hM hk
        go_wp2
        go_roundw
        case rel => exact ⟨j + 1, by omega, by go_num, HO2, hM2⟩
        case measure => simp [intOf]; omega
      · obtain rfl : j = len - d := by omega
        have hM3 : MapIs Try.prog 9 3 wr m n (keyAt (fun k => Lit.string k.data.toList) (ks.take d)) := hM.congr (fun l i => by
          rw [keyAt_take]
          constructor
          · rintro ⟨h1, h2⟩
            refine ⟨h1, ?_⟩
            obtain ⟨k', h3, _⟩ := h1
            have := (List.getElem?_eq_some_iff.1 h3).1
            rw [← HL.out] at this
            omega
          · rintro ⟨h1, h2⟩; exact ⟨h1, .inl h2⟩)
        obtain ⟨q1, q2, q3, q4⟩ := HC2.out wr HO.out hM3
        simp only [Nat.mul_one] at q1 q2 q4
        obtain ⟨L, hclr⟩ := run_clear_rows (P := Try.prog) wr 22 9 (.string ⟨#[]⟩) Try.underlying22 zeroStr (by simp [Value.cells]; rfl) (by decide) g d (len - d) (cap - d) (by omega) (by simpa [Value.cells] using q1) (by simpa [Value.cells] using q2)
        obtain ⟨e1, e2, e3, e4⟩ := q4 L
        have hi : ¬ ((len - d : Nat) : Int) < (len : Int) - (d : Int) := by omega
        have E3 := hide e3
        have E4 := hide e4
        clear q1 q2 q4 hM hM3 e3 e4 cells c0 c1 hM0
        go_wp2
        go_end0
        exact ⟨rfl, E3.out, E4.out⟩
end Go.Proofs.Ythhoiejjejdffaa
