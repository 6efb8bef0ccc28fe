/- A list of names beside a map of the names that are not blank, as core keeps the variables of a clause. -/
import Derived.Test.YthbfkbkcfcpibaaOpenCore
import Derived.Test.YthbfkbkcfcpibaaValMap
import Derived.Test.YthbfkbkcfcpibaaWellBase
import Derived.Deep.AppendLies
import Derived.WalkSpells
import Derived.Deep.DeepCutAuto
import Derived.WalkLawsBesides
import Derived.Carry
namespace Go.Proofs.Ythbfkbkcfcpibaa
set_option linter.unusedSimpArgs false
set_option linter.unusedVariables false
open Go.RowKit Go.Maps

theorem size_alloc1' (w : World) (o : Obj) : (w.alloc o).heap.size = w.heap.size + 1 := by simp
theorem lt_of_heap' {w : World} {b : Nat} {o : Obj} (h : w.heap[b]? = some o) : b < w.heap.size := (Array.getElem?_eq_some_iff.1 h).1
def isB (s : ByteArray) : Bool := s.toList == [95]
def inL (L : List ByteArray) (s : ByteArray) : Bool := L.any fun x => x.toList == s.toList
theorem inL_iff (L : List ByteArray) (s : ByteArray) : inL L s = true ↔ s ∈ L := by
  unfold inL
  rw [List.any_eq_true]
  constructor
  · rintro ⟨x, hx, h⟩
    rw [beq_iff_eq] at h
    rw [← toList_inj h]; exact hx
  · intro h; exact ⟨s, h, by simp⟩
/-- A name that comes. -/
def takeP (L : List ByteArray) (s : ByteArray) : List ByteArray := if isB s then L ++ [s] else if inL L s then L else L ++ [s]
def meetP (L : List ByteArray) (t : Trm) : List ByteArray := if t.k = 4 then takeP L t.s else L
def strL (s : ByteArray) : Lit := .string s.data.toList
theorem strL_inj {a b : ByteArray} (h : strL a = strL b) : a = b := by
  unfold strL at h
  simp only [Lit.string.injEq] at h
  cases a; cases b; simp_all

theorem takeP_len (L : List ByteArray) (s : ByteArray) : (takeP L s).length ≤ L.length + 1 := by
  unfold takeP
  split
  · simp
  · split
    · omega
    · simp
theorem meetP_len (L : List ByteArray) (t : Trm) : (meetP L t).length ≤ L.length + 1 := by
  unfold meetP
  split
  · exact takeP_len _ _
  · omega

/-- Block p holds the list L (v) and the map at block m. -/
structure VarsAt (B : Nat) (w : World) (p m n : Nat) (v : Value) (L : List ByteArray) : Prop where
  box : w.heap[p]? = some (.cells #[v, .map (some m)] 86 (0, 0))
  row : Grow elStr 9 B w v L
  map : ∃ V : Lit → Option Value, MapVal Try.prog 9 w m n V ∧ ∀ s : ByteArray, (V (strL s)).isSome = (inL L s && !isB s) ∧ ∀ u, V (strL s) = some u → ∃ i : Int, u = .int .i64 i
  pB : B ≤ p
  mB : B ≤ m

section
variable {B : Nat} {w w' : World} {p m n : Nat} {v : Value} {L : List ByteArray}
theorem VarsAt.kept (h : VarsAt B w p m n v L) (hb : Below w.heap.size w w') : VarsAt B w' p m n v L := by
  obtain ⟨h1, h2, ⟨V, h3, h4⟩, h5, h6⟩ := h
  exact ⟨by rw [hb.block _ (Array.getElem?_eq_some_iff.1 h1).1]; exact h1, h2.kept hb, ⟨V, h3.same (hb.block _ h3.lt), h4⟩, h5, h6⟩
theorem VarsAt.c0 (h : VarsAt B w p m n v L) : w.cell? ⟨p, 0, none⟩ = some v := by simp [World.cell?, h.box]
theorem VarsAt.c1 (h : VarsAt B w p m n v L) : w.cell? ⟨p, 1, none⟩ = some (.map (some m)) := by simp [World.cell?, h.box]
theorem VarsAt.f0 (h : VarsAt B w p m n v L) : w.frozen? ⟨p, 0, none⟩ = false := by simp [World.frozen?, h.box]
theorem VarsAt.plt (h : VarsAt B w p m n v L) : p < w.heap.size := lt_of_cell h.c0
theorem VarsAt.pm (h : VarsAt B w p m n v L) : m ≠ p := fun e => by
  obtain ⟨V, h3, _⟩ := h.map
  obtain ⟨es, c, hb⟩ := h3.block
  rw [e, h.box] at hb
  cases hb
theorem VarsAt.own (h : VarsAt B w p m n v L) : v.ownBlock ≠ some p ∧ v.ownBlock ≠ some m := by
  have hr := h.row.1.2
  rcases hr with ⟨e, _⟩ | ⟨g, cap, cur, e, _, hb, _⟩
  · rw [e]; exact ⟨(fun h => by cases h), (fun h => by cases h)⟩
  · rw [e]
    simp only [Value.ownBlock]
    constructor
    · intro e2
      simp only [Option.some.injEq] at e2
      rw [e2, h.box] at hb
      simp only [Option.some.injEq, Obj.cells.injEq] at hb
      exact absurd hb.2.1 (by decide)
    · intro e2
      simp only [Option.some.injEq] at e2
      obtain ⟨V, h3, _⟩ := h.map
      obtain ⟨es, c, hb2⟩ := h3.block
      rw [e2, hb2] at hb
      cases hb
theorem VarsAt.shape (h : VarsAt B w p m n v L) : ∃ ao cap, v = .slice ao L.length cap := by
  obtain ⟨ao, cap, e, _⟩ := h.row.shape
  exact ⟨ao, cap, e⟩

/-- The list has grown by append and lies in the box anew; the map is as it was. -/
theorem VarsAt.pushed (h : VarsAt B w p m n v L) {W w1 : World} (hW : Below w.heap.size w W) {s : ByteArray} (hs : s.size ≤ 140737488351232) {g cap H len : Nat} (hlen : L.length = len) (hH : W.heap.size = H)
    (ho : w1.ownsRow B 9 1 (.slice (some ⟨g, 0, none⟩) (len + 1) cap) (len + 1) (L.flatMap elStr.cells ++ [.string s])) (hgr : W.grownBy w1 v.ownBlock) (hat : v.ownBlock = some g ∨ g = H) :
    w1.cell? ⟨p, 0, none⟩ = some v ∧ w1.cell? ⟨p, 1, none⟩ = some (.map (some m)) ∧ w1.frozen? ⟨p, 0, none⟩ = false ∧
    (w1.setCell ⟨p, 0, none⟩ (.slice (some ⟨g, 0, none⟩) (len + 1) cap)).heap[p]? = some (.cells #[.slice (some ⟨g, 0, none⟩) (len + 1) cap, .map (some m)] 86 (0, 0)) ∧
    Grow elStr 9 B (w1.setCell ⟨p, 0, none⟩ (.slice (some ⟨g, 0, none⟩) (len + 1) cap)) (.slice (some ⟨g, 0, none⟩) (len + 1) cap) (L ++ [s]) ∧
    (w1.setCell ⟨p, 0, none⟩ (.slice (some ⟨g, 0, none⟩) (len + 1) cap)).heap[m]? = w.heap[m]? ∧
    Below B w (w1.setCell ⟨p, 0, none⟩ (.slice (some ⟨g, 0, none⟩) (len + 1) cap)) := by
  have hk := h.kept hW
  have hown := hk.own
  have hplt := hk.plt
  have hmlt : m < W.heap.size := by obtain ⟨V, h3, _⟩ := hk.map; exact h3.lt
  have hbx : w1.heap[p]? = some (.cells #[v, .map (some m)] 86 (0, 0)) := by rw [hgr.block p hplt (fun e => hown.1 e.symm)]; exact hk.box
  have hgp : g ≠ p := fun e => by
    rcases hat with h1 | h1
    · exact hown.1 (by rw [h1, e])
    · omega
  have hpush := hk.row.push (x := s) hs hlen hH ho hgr hat
  have hBW : B ≤ W.heap.size := Nat.le_trans hk.pB (Nat.le_of_lt hplt)
  refine ⟨by simp [World.cell?, hbx], by simp [World.cell?, hbx], by simp [World.frozen?, hbx], ?_, ?_, ?_, ?_⟩
  · simp [World.setCell, Array.getElem?_modify, hbx]
  · refine ⟨⟨hpush.1.1, ?_⟩, fun x hx => hpush.2 x hx⟩
    rcases hpush.1.2 with h0 | ⟨g', cap', cur, hv, hbase, hblk, rest⟩
    · exact .inl h0
    · refine .inr ⟨g', cap', cur, hv, hbase, ?_, rest⟩
      have hg' : g = g' := by injection hv with e1; simpa using e1
      subst hg'
      rw [show (w1.setCell ⟨p, 0, none⟩ (.slice (some ⟨g, 0, none⟩) (len + 1) cap)).heap[g]? = w1.heap[g]? from by simp [World.setCell, Array.getElem?_modify, Ne.symm hgp]]
      exact hblk
  · rw [show (w1.setCell ⟨p, 0, none⟩ (.slice (some ⟨g, 0, none⟩) (len + 1) cap)).heap[m]? = w1.heap[m]? from by simp [World.setCell, Array.getElem?_modify, Ne.symm h.pm], hgr.block m hmlt (fun e => hown.2 e.symm)]
    have hm0 : m < w.heap.size := by obtain ⟨V, h3, _⟩ := h.map; exact h3.lt
    exact hW.block m hm0
  · have h0 : B ≤ w.heap.size := Nat.le_trans h.pB (Nat.le_of_lt h.plt)
    refine ((hW.mono h0).grown hgr hBW (fun j hj => own_new hk.row.1 j hj)).setCell ?_ _
    exact h.pB
end

theorem keyOf_str7 {s : ByteArray} (h : s.size ≤ 140737488351232) : keyOf Try.prog 9 (.string s) = some (strL s) := by
  have : s.size ≤ maxLen := by unfold maxLen; omega
  simp [keyOf, mapKey, Try.underlying9, this, strL]
theorem lawStr7 : Keyed Try.prog 9 := string_keyed Try.underlying9
theorem zeroInt7 (w : World) : (zeroValue 3).run Try.prog w = .ok (.int .i64 0) w := by kernel_rfl
theorem Try.infoStr7 : (Try.prog.info? 9).map (fun i => (i.zero, i.size, i.bytes)) = some (some (.string ⟨#[]⟩), 1, 16) := by kernel_rfl

set_option maxHeartbeats 1000000 in
theorem newVars_any (w : World) :
    Calls Try.prog 33 #[] w fun e w' => ∃ p m, e = .returned (.pointer (some ⟨p, 0, none⟩)) ∧ VarsAt w.heap.size w' p m 0 (.slice none 0 0) [] ∧ Below w.heap.size w w' := by
  have hroll : Calls Try.prog 40 #[] w fun e w' => e = .returned (.pointer (some ⟨w.heap.size + 1, 0, none⟩)) ∧ w' = (w.alloc (.map #[] 0)).alloc (.cells #[.slice none 0 0, .map (some w.heap.size)] 84) := by
    have hmm := @run_makeMap Try.prog
    go_enter Try.func40, Try.ntmps40
    go_wp2
    go_ret
    exact ⟨rfl, rfl⟩
  have HR := hide hroll
  clear hroll
  go_enter Try.func33, Try.ntmps33
  go_wp2_with (go_at_call 40; refine HR.out.mono ?_; rintro e w' ⟨rfl, hw'⟩; subst hw')
  go_ret
  have hb : Below w.heap.size w (((w.alloc (.map #[] 0)).alloc (.cells #[.slice none 0 0, .map (some w.heap.size)] 84)).alloc (.cells #[.slice none 0 0, .map (some w.heap.size)] 86)) := (((Below.refl _ w).alloc (Nat.le_refl _) _).alloc (by simp) _).alloc (by simp; omega) _
  refine ⟨w.heap.size + 1 + 1, w.heap.size, rfl, ⟨?_, Grow.nil _ _ _ _, ⟨fun _ => none, (MapVal.made Try.prog 9 w).same ?_, fun s => ⟨by simp [inL], fun u h => by cases h⟩⟩, by omega, Nat.le_refl _⟩, hb⟩
  · have := heap_alloc_new ((w.alloc (.map #[] 0)).alloc (.cells #[.slice none 0 0, .map (some w.heap.size)] 84)) (.cells #[.slice none 0 0, .map (some w.heap.size)] 86)
    simpa using this
  · rw [heap_alloc_old _ _ (by simp; omega), heap_alloc_old _ _ (by simp)]

/-- What a call that takes names in leaves. -/
def VarsGo (B : Nat) (w w' : World) (p m n : Nat) (L : List ByteArray) : Prop := ∃ v, VarsAt B w' p m (n + 1) v L ∧ Below B w w'

theorem VarsAt.mono {B : Nat} {w : World} {p m n n' : Nat} {v : Value} {L : List ByteArray} (h : VarsAt B w p m n v L) (hn : n ≤ n') : VarsAt B w p m n' v L := by
  obtain ⟨h1, h2, ⟨V, h3, h4⟩, h5, h6⟩ := h
  exact ⟨h1, h2, ⟨V, h3.mono hn, h4⟩, h5, h6⟩

theorem inL_snoc (L : List ByteArray) (s x : ByteArray) : inL (L ++ [s]) x = (inL L x || s.toList == x.toList) := by simp [inL]

set_option maxRecDepth 100000 in
set_option maxHeartbeats 1000000 in
theorem number_any {B : Nat} {w : World} {p m n : Nat} {v : Value} {L : List ByteArray} (h : VarsAt B w p m n v L) {s : ByteArray} (hs : s.size ≤ 140737488351232) (hb : isB s = false) (hl : L.length < 1073741824) (hn : n < 1073741824) :
    Calls Try.prog 42 #[.pointer (some ⟨p, 0, none⟩), .string s, .string s] w fun e w' => (∃ x y, e = .returned (.tuple #[x, y])) ∧ VarsGo B w w' p m n (takeP L s) := by
  obtain ⟨V, hV, hk⟩ := h.map
  have hrun := hV.look_ok (t := 82) lawStr7 Try.underlying82 (zeroInt7 w) (keyOf_str7 hs)
  have c1 := h.c1
  have hhas := (hk s).1
  rw [hb, Bool.not_false, Bool.and_true] at hhas
  cases hi : inL L s with
  | true =>
    rw [hi] at hhas
    obtain ⟨u, hu⟩ := Option.isSome_iff_exists.1 hhas
    have hT : takeP L s = L := by unfold takeP; rw [hb, hi]; rfl
    rw [hu] at hrun
    simp only [Option.getD_some, Option.isSome_some] at hrun
    have HF : Hid (VarsGo B w w p m n (takeP L s)) := ⟨v, by rw [hT]; exact h.mono (by omega), Below.refl _ _⟩
    clear h hV hk hhas hu hT
    go_enter Try.func42, Try.ntmps42
    go_wp2
    go_ret2
    exact ⟨⟨_, _, rfl⟩, HF.out⟩
  | false =>
    rw [hi] at hhas
    have hu : V (strL s) = none := by cases hx : V (strL s) with
      | none => rfl
      | some u => rw [hx] at hhas; cases hhas
    have hT : takeP L s = L ++ [s] := by unfold takeP; rw [hb, hi]; rfl
    rw [hu] at hrun
    simp only [Option.getD_none, Option.isSome_none] at hrun
    obtain ⟨va, vc, rfl⟩ := h.shape
    have c0 := h.c0
    have f0 := h.f0
    have hplt := h.plt
    have hpB := h.pB
    obtain ⟨i0, hi0, hz0, hz1, hz2⟩ := info_parts Try.infoStr7
    have hown := (h.row.kept (belo1 w (.cells #[.string s] 9))).1
    obtain ⟨len, hlen⟩ : ∃ len, L.length = len := ⟨_, rfl⟩
    rw [hlen] at c0 hown hl
    have HL := hide hlen
    have HH := hide h
    have HV := hide hV
    have HK := hide hk
    have HT := hide hT
    rw [hlen] at HH
    clear h hV hk hhas hu hT hlen
    go_enter Try.func42, Try.ntmps42
    go_wp2_with (at_builtin; refine wpList_append_lies _ rfl _ _ 49 rfl B 9 i0 (.string ⟨#[]⟩) 1 16 Try.underlying49 hi0 hz0 hz1 hz2 rfl (by decide) (.slice va len vc) len (L.flatMap elStr.cells) rfl hown ⟨w.heap.size, 0, none⟩ 1 1 [.string s] rfl rfl (World.news_of_block (cs := #[.string s]) (t := 9) (fr := (0, 0)) (heap_alloc_new w _)) (by simp [Value.oneCell']) (by decide) (by unfold maxLen; omega) (by omega) (by simp; omega) (w.heap.size + 1) (by simp) ?_)
    intro g cap' w1 hown1 hgrow hat hlt1
    obtain ⟨d0, d1, d2, hbox, hrow, hmp, hbel⟩ := HH.out.pushed (s := s) (belo1 w _) hs HL.out (size_alloc1' w _) hown1 hgrow hat
    have hV2 := HV.out.same hmp
    obtain ⟨w3, hup, hV3, hon⟩ := hV2.store (t := 82) lawStr7 Try.underlying82 (by unfold maxLen; omega) (keyOf_str7 hs) (.int .i64 len)
    have hc1 : (w1.setCell ⟨p, 0, none⟩ (.slice (some ⟨g, 0, none⟩) (len + 1) cap')).cell? ⟨p, 1, none⟩ = some (.map (some m)) := by simp [World.cell?, hbox]
    have HF : Hid (VarsGo B w w3 p m n (takeP L s)) := by
      have hpm := HH.out.pm
      have hlt3 : ∀ k, k < (w1.setCell ⟨p, 0, none⟩ (.slice (some ⟨g, 0, none⟩) (len + 1) cap')).heap.size → k ≠ m → w3.heap[k]? = (w1.setCell ⟨p, 0, none⟩ (.slice (some ⟨g, 0, none⟩) (len + 1) cap')).heap[k]? := fun k hk hne => hon.block k hk hne
      have hgm : g ≠ m := fun e => by
        obtain ⟨es, c, hb2⟩ := hV2.block
        rcases hrow.1.2 with ⟨h0, _⟩ | ⟨g', cap2, cur, hv, _, hblk, _⟩
        · cases h0
        · have hg' : g = g' := by injection hv with e1; simpa using e1
          have e2 : g' = m := by rw [← hg']; exact e
          rw [e2, hb2] at hblk
          cases hblk
      refine ⟨.slice (some ⟨g, 0, none⟩) (len + 1) cap', ⟨?_, ?_, ⟨_, hV3, fun x => ?_⟩, HH.out.pB, HH.out.mB⟩, ?_⟩
      · rw [hlt3 p (lt_of_heap' hbox) hpm.symm]; exact hbox
      · rw [HT.out]
        refine ⟨⟨hrow.1.1, ?_⟩, fun x hx => hrow.2 x hx⟩
        rcases hrow.1.2 with h0 | ⟨g', cap2, cur, hv, hbase, hblk, rest⟩
        · exact .inl h0
        · refine .inr ⟨g', cap2, cur, hv, hbase, ?_, rest⟩
          have hg' : g = g' := by injection hv with e1; simpa using e1
          rw [hlt3 g' (lt_of_heap' hblk) (by omega)]; exact hblk
      · rw [HT.out, inL_snoc]
        by_cases hx : x = s
        · subst hx
          rw [setV_same]
          exact ⟨by simp [hb], fun u hu => by cases hu; exact ⟨_, rfl⟩⟩
        · rw [setV_other _ _ (fun e => hx (strL_inj e))]
          have hne : (s.toList == x.toList) = false := by
            cases hq : (s.toList == x.toList) with
            | false => rfl
            | true => rw [beq_iff_eq] at hq; exact absurd (toList_inj hq).symm hx
          rw [hne, Bool.or_false]
          exact HK.out x
      · exact hbel.trans (hon.below (Nat.le_trans (by omega) hbel.size) (fun k hk e => by have := HH.out.mB; omega))
    clear hown1 hgrow hat hlt1 hV2 hV3 hon hrow hmp hbel c0 c1 f0 hrun hown
    go_wp2
    go_ret2
    exact ⟨⟨_, _, rfl⟩, HF.out⟩

theorem strEq_B (s : ByteArray) : (s.toList == [95]) = isB s := rfl

set_option maxRecDepth 100000 in
set_option maxHeartbeats 1000000 in
theorem take_any {B : Nat} {w : World} {p m n : Nat} {v : Value} {L : List ByteArray} (h : VarsAt B w p m n v L) {s : ByteArray} (hs : s.size ≤ 140737488351232) (hl : L.length < 1073741824) (hn : n < 1073741824) :
    Calls Try.prog 41 #[.pointer (some ⟨p, 0, none⟩), .string s] w fun e w' => (∃ x, e = .returned x) ∧ VarsGo B w w' p m n (takeP L s) := by
  cases hb : isB s with
  | false =>
    have HN := hide (number_any h hs hb hl hn)
    have hb' : (s.toList == [95]) = false := hb
    clear h hb
    go_enter Try.func41, Try.ntmps41
    go_wp2_with (go_at_call 42; refine HN.out.mono ?_; rintro e w' ⟨⟨x, y, rfl⟩, hg⟩; have HG := hide hg; clear hg)
    go_ret
    exact ⟨⟨_, rfl⟩, HG.out⟩
  | true =>
    have hb' : (s.toList == [95]) = true := hb
    have hT : takeP L s = L ++ [s] := by unfold takeP; rw [hb]; rfl
    obtain ⟨va, vc, rfl⟩ := h.shape
    have c0 := h.c0
    have hplt := h.plt
    have hpB := h.pB
    obtain ⟨i0, hi0, hz0, hz1, hz2⟩ := info_parts Try.infoStr7
    have hown := (h.row.kept (belo1 w (.cells #[.string s] 9))).1
    obtain ⟨len, hlen⟩ : ∃ len, L.length = len := ⟨_, rfl⟩
    rw [hlen] at c0 hown hl
    have HL := hide hlen
    have HH := hide h
    have HT := hide hT
    have HBb := hide hb
    rw [hlen] at HH
    clear h hT hlen hb
    go_enter Try.func41, Try.ntmps41
    go_wp2_with (at_builtin; refine wpList_append_lies _ rfl _ _ 49 rfl B 9 i0 (.string ⟨#[]⟩) 1 16 Try.underlying49 hi0 hz0 hz1 hz2 rfl (by decide) (.slice va len vc) len (L.flatMap elStr.cells) rfl hown ⟨w.heap.size, 0, none⟩ 1 1 [.string s] rfl rfl (World.news_of_block (cs := #[.string s]) (t := 9) (fr := (0, 0)) (heap_alloc_new w _)) (by simp [Value.oneCell']) (by decide) (by unfold maxLen; omega) (by omega) (by simp; omega) (w.heap.size + 1) (by simp) ?_)
    intro g cap' w1 hown1 hgrow hat hlt1
    obtain ⟨d0, d1, d2, hbox, hrow, hmp, hbel⟩ := HH.out.pushed (s := s) (belo1 w _) hs HL.out (size_alloc1' w _) hown1 hgrow hat
    have hc0 : (w1.setCell ⟨p, 0, none⟩ (.slice (some ⟨g, 0, none⟩) (len + 1) cap')).cell? ⟨p, 0, none⟩ = some (.slice (some ⟨g, 0, none⟩) (len + 1) cap') := by simp [World.cell?, hbox]
    have HF : Hid (VarsGo B w (w1.setCell ⟨p, 0, none⟩ (.slice (some ⟨g, 0, none⟩) (len + 1) cap')) p m n (takeP L s)) := by
      obtain ⟨V, hV, hk⟩ := HH.out.map
      rw [HT.out]
      refine ⟨.slice (some ⟨g, 0, none⟩) (len + 1) cap', ⟨hbox, hrow, ⟨V, (hV.same hmp).mono (by omega), fun x => ?_⟩, HH.out.pB, HH.out.mB⟩, hbel⟩
      rw [inL_snoc]
      obtain ⟨k1, k2⟩ := hk x
      refine ⟨?_, k2⟩
      rw [k1]
      cases hq : (s.toList == x.toList) with
      | false => rw [Bool.or_false]
      | true =>
        rw [beq_iff_eq] at hq
        have hxs := toList_inj hq
        subst hxs
        rw [HBb.out]
        simp
    clear hown1 hgrow hat hlt1 hrow hmp hbel c0 hown
    go_wp2
    go_ret
    exact ⟨⟨_, rfl⟩, HF.out⟩

set_option maxHeartbeats 1000000 in
theorem meet_any {B : Nat} {w : World} {p m n : Nat} {v : Value} {L : List ByteArray} (h : VarsAt B w p m n v L) {t : Trm} (ht : t.ok) (hl : L.length < 1073741824) (hn : n < 1073741824) :
    Calls Try.prog 34 #[.pointer (some ⟨p, 0, none⟩), t.val] w fun e w' => e = .returned (.tuple #[]) ∧ VarsGo B w w' p m n (meetP L t) := by
  obtain ⟨tk, tn, ts, tq⟩ := t
  unfold Trm.val
  have hb := belo1 w (.cells #[.int .i64 tk, .int .i64 tn, .string ts, .int .i64 tq] 66)
  have hB : B ≤ w.heap.size := Nat.le_trans h.pB (Nat.le_of_lt h.plt)
  by_cases hk : tk = 4
  · subst hk
    have HT := hide (take_any (h.kept hb) (s := ts) ht.1.2.2 hl hn)
    have HE : Hid (meetP L ⟨4, tn, ts, tq⟩ = takeP L ts) := rfl
    have HBb := hide (hb.mono hB)
    clear h hb ht
    go_enter Try.func34, Try.ntmps34
    go_wp2_with (go_at_call 41; refine HT.out.mono ?_; rintro e w' ⟨⟨x, rfl⟩, hg⟩; have HG := hide hg; clear hg)
    go_end0
    obtain ⟨v', h1, h2⟩ := HG.out
    exact ⟨rfl, v', by rw [HE.out]; exact h1, HBb.out.trans h2⟩
  · have e4 : (tk == 4) = false := by simpa using hk
    have HE : Hid (meetP L ⟨tk, tn, ts, tq⟩ = L) := by show _ = _; simp [meetP, hk]
    have HV := hide (And.intro ((h.kept hb).mono (Nat.le_succ n)) (hb.mono hB))
    clear h hb ht hk
    go_enter Try.func34, Try.ntmps34
    go_wp2
    go_end0
    exact ⟨rfl, v, by rw [HE.out]; exact HV.out.1, HV.out.2⟩
end Go.Proofs.Ythbfkbkcfcpibaa
