/- NewIds of strings: an Ids of these keys, each once, in the order of their first coming. -/
import Derived.Test.YthhoiejjejdffaaIdsStr
import Derived.Test.YthhoiejjejdffaaOpen
namespace Go.Proofs.Ythhoiejjejdffaa
set_option linter.unusedSimpArgs false
set_option linter.unusedVariables false
open Go.RowKit Go.Maps

open Classical in
/-- One more key, put behind the others where it is new. -/
noncomputable def addS (ks : List ByteArray) (k : ByteArray) : List ByteArray := if k ∈ ks then ks else ks ++ [k]
noncomputable def ddS (ss : List ByteArray) : List ByteArray := ss.foldl addS []

theorem ddS_snoc (ss : List ByteArray) (k : ByteArray) : ddS (ss ++ [k]) = addS (ddS ss) k := by unfold ddS; rw [List.foldl_append]; rfl
theorem addS_nodup {ks : List ByteArray} (h : ks.Nodup) (k : ByteArray) : (addS ks k).Nodup := by
  unfold addS
  split
  · exact h
  · next hk => exact List.nodup_append.2 ⟨h, by simp, by intro a ha b hb; simp at hb; subst hb; exact fun e => hk (e ▸ ha)⟩
theorem addS_len (ks : List ByteArray) (k : ByteArray) : (addS ks k).length ≤ ks.length + 1 := by unfold addS; split <;> simp
theorem addS_mem {ks : List ByteArray} {k x : ByteArray} : x ∈ addS ks k ↔ x ∈ ks ∨ x = k := by
  unfold addS
  split
  · next h => exact ⟨.inl, fun h' => h'.elim id (fun e => e ▸ h)⟩
  · simp

theorem ddS_len (ss : List ByteArray) : (ddS ss).length ≤ ss.length := by
  have h : ∀ (ss ks : List ByteArray), (ss.foldl addS ks).length ≤ ks.length + ss.length := by
    intro ss
    induction ss with
    | nil => intro ks; simp
    | cons s r ih =>
      intro ks
      have := ih (addS ks s)
      have := addS_len ks s
      simp only [List.foldl_cons, List.length_cons]
      omega
  have := h ss []
  unfold ddS
  simpa using this

set_option maxHeartbeats 1000000 in
theorem newStr_any (ao : Option Addr) (len cap : Nat) (ss : List ByteArray) (w : World) {base : Nat} (hb : base ≤ w.heap.size) (h : IsStrs w ao len ss) (hl : len < 2199023255552) :
    Calls Try.prog 8 #[.slice ao len cap] w fun e w' => e = .returned (.pointer (some ⟨w.heap.size + 1, 0, none⟩)) ∧ Hid (∃ n ao' cap', StrIds base w' (w.heap.size + 1) w.heap.size n ao' cap' (ddS ss) ∧ n ≤ len ∧ Below w.heap.size w w' ∧ (∀ a, ao' = some a → w.heap.size ≤ a.block)) := by
  obtain ⟨hlen, _, hok0, hrow⟩ := h
  have hok : ∀ s ∈ ss, s.size ≤ maxLen := fun s hs => by have := hok0 s hs; unfold maxLen; omega
  have HOk := hide hok
  have HLen := hide hlen
  have HRow := hide hrow
  have hmm := @run_makeMap Try.prog
  have HMade := hide (IdsAt.made Try.prog 9 3 73 1 (fun k : ByteArray => [Value.string k]) (fun k => Lit.string k.data.toList) base w hb)
  clear hok hok0 hlen hrow
  go_enter Try.func8, Try.ntmps8
  go_wp2
  clear hmm
  go_loopw [5, 11] (fun _ i wr => ∃ (k n : Nat) (ao' : Option Addr) (cap' : Nat), k ≤ len ∧ i = .int .i64 k ∧ Hid (StrIds base wr (w.heap.size + 1) w.heap.size n ao' cap' (ddS (ss.take k))) ∧ n ≤ k ∧ Hid (Below w.heap.size w wr) ∧ Hid (∀ a, ao' = some a → w.heap.size ≤ a.block)) (fun _ i _ => len - (intOf i).toNat)
  case atStart => exact ⟨0, 0, none, 0, Nat.zero_le _, rfl, HMade.out, Nat.le_refl _, ((Below.refl _ _).alloc (Nat.le_refl _) _).alloc (by simp) _, fun a h => by cases h⟩
  case round =>
    obtain ⟨k, n, ao', cap', hk, rfl, HI, hn, HB, HA⟩ := hrel
    by_cases hlt : k < len
    · have hi : (k : Int) < (len : Int) := by omega
      obtain ⟨b, off, rfl, hr⟩ := HRow.out (by omega)
      obtain ⟨s, hs⟩ : ∃ s, ss[k]? = some s := ⟨_, List.getElem?_eq_getElem (by rw [HLen.out]; exact hlt)⟩
      have hc := kept_cell HB.out (hr k s hs)
      have hsz := HOk.out s (List.mem_of_getElem? hs)
      have htk : ss.take (k + 1) = ss.take k ++ [s] := by rw [List.take_add_one, hs]; rfl
      have hdd : ddS (ss.take (k + 1)) = addS (ddS (ss.take k)) s := by rw [htk, ddS_snoc]
      by_cases hm : s ∈ ddS (ss.take k)
      · have hadd : ddS (ss.take (k + 1)) = ddS (ss.take k) := by rw [hdd]; exact if_pos hm
        obtain ⟨j, hj⟩ := List.mem_iff_getElem?.1 hm
        have HC := hide (internStr_old HI.out hsz hj)
        have HI2 : Hid (StrIds base wr (w.heap.size + 1) w.heap.size n ao' cap' (ddS (ss.take (k + 1)))) := by rw [hadd]; exact HI.out
        clear hadd hj hm hdd htk hs hr hsz
        go_wp2_with (go_at_call 28; refine HC.out.mono ?_; rintro e w' ⟨rfl, hw'⟩; have hw' := hw'.symm; subst hw')
        go_roundw
        case rel => exact ⟨k + 1, n, ao', cap', by omega, by go_num, HI2, by omega, HB, HA⟩
        case measure => simp [intOf]; omega
      · have hadd : ddS (ss.take (k + 1)) = ddS (ss.take k) ++ [s] := by rw [hdd]; exact if_neg hm
        have HLn := ddS_len (ss.take k)
        have hlk : (ss.take k).length = k := by rw [List.length_take, HLen.out]; omega
        have HC := hide (internStr_new HI.out (Nat.le_trans hb HB.out.size) hsz hm (by omega) (by omega))
        rw [← hadd] at HC
        clear hadd hm hdd htk hs hr hsz HLn hlk
        generalize (ddS (ss.take k)).length = jj at *
        go_wp2_with (go_at_call 28; refine HC.out.mono ?_; rintro e w' ⟨rfl, ao2, cap2, hI2, hO2, hA2⟩; have HI2 := hide hI2; have HO2 := hide hO2; have HA2 := hide hA2; clear hI2 hO2 hA2)
        go_roundw
        case rel =>
          refine ⟨k + 1, n + 1, ao2, cap2, by omega, by go_num, HI2, by omega, ?_, ?_⟩
          · exact HB.out.trans (HO2.out.below HB.out.size (by
              rintro j hj (rfl | rfl | ⟨a, ha, rfl⟩)
              · omega
              · omega
              · have := HA.out a ha; omega))
          · intro a ha
            rcases HA2.out a ha with h | h
            · exact HA.out a h
            · exact Nat.le_trans HB.out.size h
        case measure => simp [intOf]; omega
    · obtain rfl : k = len := by omega
      have hi : ¬ (k : Int) < (k : Int) := by omega
      have hfull : ss.take k = ss := List.take_of_length_le (by rw [HLen.out]; exact Nat.le_refl _)
      have HI2 : Hid (StrIds base wr (w.heap.size + 1) w.heap.size n ao' cap' (ddS ss)) := by have := HI.out; rw [hfull] at this; exact this
      clear hfull
      go_wp2
      go_ret
      exact ⟨rfl, n, ao', ⟨cap', HI2.out⟩, hn, HB.out, HA.out⟩
end Go.Proofs.Ythhoiejjejdffaa
