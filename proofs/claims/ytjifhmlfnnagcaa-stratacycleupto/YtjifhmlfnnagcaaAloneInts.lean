/- The law's alone: lists of numbers written over, each grown by two, all looked at. -/
import Derived.Test.YtjifhmlfnnagcaaPushMany
import Derived.Test.YtjifhmlfnnagcaaIdsBase
namespace Go.Proofs.Ytjifhmlfnnagcaa
set_option linter.unusedSimpArgs false
set_option linter.unusedVariables false
open Go.RowKit Go.Maps

/-- A slice in a cell. -/
def elSl : El Value where
  cells v := [v]
  size := 1
  pos := by decide
  len _ := rfl
  ok _ _ v := v.oneCell' = true
  one h u hu := by simp only [List.mem_singleton] at hu; rw [hu]; exact h
  move h _ := h
theorem Try.infoSl8 : (Try.prog.info? 33).map (fun i => (i.zero, i.size, i.bytes)) = some (some (.slice none 0 0), 1, 24) := by kernel_rfl

theorem growI_other {α : Type} {E : El α} {e : TypeId} {base : Nat} {w w' : World} {v : Value} {l : List α} {row : Option Nat} (hE : ∀ x ∈ l, ∀ (V : World) F, E.ok V F x) (h : Grow E e base w v l) (hg : w.grownBy w' row) (hne : v.ownBlock = none ∨ v.ownBlock ≠ row) : Grow E e base w' v l := ⟨h.1.kept hg hne, fun x hx => hE x hx _ _⟩
theorem growI_ok {e : TypeId} {base : Nat} {w : World} {v : Value} {l : List Int} (h : Grow elInt e base w v l) : ∀ x ∈ l, ∀ (V : World) F, elInt.ok V F x := fun x hx _ _ => h.2 x hx
theorem grown_refl (w : World) (row : Option Nat) : w.grownBy w row := ⟨rfl, rfl, rfl, Nat.le_refl _, fun _ _ _ => rfl⟩
theorem grown_cell {w w' : World} {row : Option Nat} (hg : w.grownBy w' row) {b i : Nat} {u : Value} (hc : w.cell? ⟨b, i, none⟩ = some u) (hne : row ≠ some b) : w'.cell? ⟨b, i, none⟩ = some u := by
  have hlt : b < w.heap.size := by
    rcases Nat.lt_or_ge b w.heap.size with h | h
    · exact h
    · unfold World.cell? at hc; rw [Array.getElem?_eq_none h] at hc; cases hc
  rw [World.cell?_of_block (w := w) (hg.block b hlt fun e => hne e.symm)]
  exact hc

/-- The lists that the slices vs, which stand in block b, lead to are one's own; the first k hold their marks alone. -/
structure Alo (base b : Nat) (w : World) (vs : List Value) (k : Nat) : Prop where
  out : ∀ (i : Nat) (v : Value), vs[i]? = some v → w.cell? ⟨b, i, none⟩ = some v
  own : ∀ (i : Nat) (v : Value), vs[i]? = some v → ∃ l, Grow elInt 3 base w v l ∧ l.length ≤ 1048576 ∧ (i < k → ∀ y ∈ l, y = -1 - (i : Int))
/-- They lie apart. -/
structure Apt (b : Nat) (vs : List Value) : Prop where
  ne : ∀ (i : Nat) (v : Value), vs[i]? = some v → v.ownBlock ≠ some b
  pw : ∀ (i j : Nat) (u v : Value), i ≠ j → vs[i]? = some u → vs[j]? = some v → u.ownBlock = none ∨ u.ownBlock ≠ v.ownBlock

theorem Alo.put {base b : Nat} {w w' : World} {vs : List Value} {k k' i : Nat} {v : Value} {l : List Int} (h : Alo base b w vs k) (hA : Apt b vs) (hi : vs[i]? = some v) (hg : w.grownBy w' v.ownBlock) (hG : Grow elInt 3 base w' v l) (hl : l.length ≤ 1048576) (hk : ∀ j, j ≠ i → j < k' → j < k) (hm : i < k' → ∀ y ∈ l, y = -1 - (i : Int)) : Alo base b w' vs k' := by
  refine ⟨fun j u hj => grown_cell hg (h.out j u hj) (hA.ne i v hi), fun j u hj => ?_⟩
  by_cases e : j = i
  · subst e
    rw [hi] at hj
    cases hj
    exact ⟨l, hG, hl, hm⟩
  · obtain ⟨m, h1, h2, h3⟩ := h.own j u hj
    exact ⟨m, growI_other (growI_ok h1) h1 hg (hA.pw j i u v e hj hi), h2, fun hj => h3 (hk j e hj)⟩
theorem Alo.kept {base b : Nat} {w w' : World} {vs : List Value} {k : Nat} (h : Alo base b w vs k) (hb : Below w.heap.size w w') : Alo base b w' vs k :=
  ⟨fun i v hi => kept_cell hb (h.out i v hi), fun i v hi => by obtain ⟨l, h1, h2⟩ := h.own i v hi; exact ⟨l, h1.kept hb, h2⟩⟩
theorem Grow.setI {e : TypeId} {base : Nat} {w : World} {g cap n : Nat} {l : List Int} (h : Grow elInt e base w (.slice (some ⟨g, 0, none⟩) n cap) l) {j : Nat} (hj : j < l.length) {x : Int} (hx : I64 x) :
    (∃ y, w.cell? ⟨g, j, none⟩ = some (.int .i64 y)) ∧ w.frozen? ⟨g, j, none⟩ = false ∧ Grow elInt e base (w.setCell ⟨g, j, none⟩ (.int .i64 x)) (.slice (some ⟨g, 0, none⟩) n cap) (l.set j x) ∧ base ≤ g ∧ w.grownBy (w.setCell ⟨g, j, none⟩ (.int .i64 x)) (some g) := by
  obtain ⟨⟨y, -, h1⟩, h2, h3, h4⟩ := h.setInt hj hx
  have hn := grow_num h
  subst hn
  exact ⟨⟨y, h1⟩, h2, h3, h4, (h.1.stored j (.int .i64 x)).2⟩
theorem imarks_succ {x : Int} {n i : Nat} {m : List Int} (h : m.length = n ∧ ∀ j, j < i → m[j]? = some x) (hi : i < n) : (m.set i x).length = n ∧ ∀ j, j < i + 1 → (m.set i x)[j]? = some x := by
  refine ⟨by rw [List.length_set]; exact h.1, fun j hj => ?_⟩
  rw [List.getElem?_set]
  by_cases hij : i = j
  · rw [if_pos hij, if_pos (by rw [h.1]; exact hi)]
  · rw [if_neg hij]; exact h.2 j (by omega)
theorem imarks_all {x : Int} {n : Nat} {m : List Int} (h : m.length = n ∧ ∀ j, j < n → m[j]? = some x) : ∀ y ∈ m, y = x := by
  intro y hy
  obtain ⟨j, hj⟩ := List.getElem?_of_mem hy
  have h1 := h.2 j (by rw [← h.1]; exact (List.getElem?_eq_some_iff.1 hj).1)
  rw [hj] at h1
  exact Option.some.inj h1
theorem grow_cellI {e : TypeId} {base : Nat} {w : World} {g cap n : Nat} {l : List Int} (h : Grow elInt e base w (.slice (some ⟨g, 0, none⟩) n cap) l) {x : Int} (hx : ∀ y ∈ l, y = x) {j : Nat} (hj : j < n) : w.cell? ⟨g, j, none⟩ = some (.int .i64 x) := by
  have hn := grow_num h
  subst hn
  obtain ⟨⟨y, hy, h1⟩, -⟩ := h.setInt hj (x := 0) ⟨by decide, by decide⟩
  rw [hx y (List.mem_of_getElem? hy)] at h1
  exact h1

theorem Alo.above {base b S : Nat} {w w' : World} {vs : List Value} {k : Nat} {row : Option Nat} (h : Alo base b w vs k) (hg : w.grownBy w' row) (hr : ∀ t, row = some t → S ≤ t) (hb : b < S) (hv : ∀ (i : Nat) (v : Value), vs[i]? = some v → ∀ t, v.ownBlock = some t → t < S) : Alo base b w' vs k :=
  ⟨fun i v hi => grown_cell hg (h.out i v hi) (fun e => by have := hr b e; omega), fun i v hi => by
    obtain ⟨l, h1, h2⟩ := h.own i v hi
    refine ⟨l, growI_other (growI_ok h1) h1 hg ?_, h2⟩
    rcases Option.eq_none_or_eq_some v.ownBlock with h3 | ⟨t, h3⟩
    · exact .inl h3
    · exact .inr fun e => by have h4 := hv i v hi t h3; have h5 := hr t (by rw [← e]; exact h3); omega⟩
theorem sl_at {e : TypeId} {base : Nat} {w : World} {g cap n : Nat} {l : List Value} (h : Grow elSl e base w (.slice (some ⟨g, 0, none⟩) n cap) l) {i : Nat} {x : Value} (hx : l[i]? = some x) : w.cell? ⟨g, i, none⟩ = some x := by
  have h1 := flatE_at elSl l i 0 x hx (by decide)
  simp only [elSl, Nat.mul_one, Nat.add_zero, List.getElem?_cons_zero] at h1
  have h2 := grow_num h
  subst h2
  exact own_at h.1 h1
theorem own_apart2 {v v1 lv : Value} {S T : Nat} (ho : v.ownBlock = v1.ownBlock ∨ ∀ k, v.ownBlock = some k → T ≤ k) (h1 : ∀ k, v1.ownBlock = some k → k < S) (hl : ∀ k, lv.ownBlock = some k → S ≤ k ∧ k < T) : v.ownBlock = none ∨ v.ownBlock ≠ lv.ownBlock := by
  rcases Option.eq_none_or_eq_some v.ownBlock with h3 | ⟨k, h3⟩
  · exact .inl h3
  · refine .inr fun e => ?_
    have h4 := hl k (by rw [← e]; exact h3)
    rcases ho with h5 | h5
    · have := h1 k (by rw [← h5]; exact h3); omega
    · have := h5 k h3; omega

/-- The longer lists so far. -/
structure Lgr (base S : Nat) (w : World) (vs ws : List Value) (lv : Value) : Prop where
  grow : Grow elSl 33 S w lv ws
  own : ∀ (i : Nat) (u : Value), ws[i]? = some u → ∃ (v : Value) (m : List Int), vs[i]? = some v ∧ Grow elInt 3 base w u m ∧ m.length ≤ 1048578 ∧ (∀ y ∈ m, y = -1 - (i : Int)) ∧ (u.ownBlock = v.ownBlock ∨ ∀ k, u.ownBlock = some k → S ≤ k) ∧ (u.ownBlock = none ∨ u.ownBlock ≠ lv.ownBlock)

theorem Lgr.kept {base S : Nat} {w w' : World} {vs ws : List Value} {lv : Value} (h : Lgr base S w vs ws lv) (hb : Below w.heap.size w w') : Lgr base S w' vs ws lv :=
  ⟨h.grow.kept hb, fun i u hi => by obtain ⟨v, m, h1, h2, h3⟩ := h.own i u hi; exact ⟨v, m, h1, h2.kept hb, h3⟩⟩
/-- An append behind the list that stands at place ws.length. -/
theorem Lgr.other {base S b : Nat} {w w' : World} {vs ws : List Value} {lv v : Value} (h : Lgr base S w vs ws lv) (hA : Apt b vs) (hi : vs[ws.length]? = some v) (hv : ∀ k, v.ownBlock = some k → k < S) (hg : w.grownBy w' v.ownBlock) : Lgr base S w' vs ws lv := by
  refine ⟨growI_other (fun x hx _ _ => h.grow.2 x hx) h.grow hg ?_, fun i u hu => ?_⟩
  · rcases Option.eq_none_or_eq_some lv.ownBlock with h3 | ⟨k, h3⟩
    · exact .inl h3
    · exact .inr fun e => by have h4 := own_new h.grow.1 k h3; have h5 := hv k (by rw [← e]; exact h3); omega
  · obtain ⟨x, m, h1, h2, h3, h4, h5, h6⟩ := h.own i u hu
    have hlt := (List.getElem?_eq_some_iff.1 hu).1
    refine ⟨x, m, h1, growI_other (growI_ok h2) h2 hg ?_, h3, h4, h5, h6⟩
    rcases h5 with h5 | h5
    · rw [h5]; exact hA.pw i _ x v (by omega) h1 hi
    · rcases Option.eq_none_or_eq_some u.ownBlock with h7 | ⟨k, h7⟩
      · exact .inl h7
      · exact .inr fun e => by have h8 := h5 k h7; have h9 := hv k (by rw [← e]; exact h7); omega
/-- The new list put behind. -/
theorem Lgr.push {base S : Nat} {w w' : World} {vs ws : List Value} {lv lv' u v : Value} {m : List Int} (h : Lgr base S w vs ws lv) (hg : w.grownBy w' lv.ownBlock) (hG : Grow elSl 33 S w' lv' (ws ++ [u])) (hat : lv'.ownBlock = lv.ownBlock ∨ ∀ k, lv'.ownBlock = some k → w.heap.size ≤ k)
    (hi : vs[ws.length]? = some v) (hu : Grow elInt 3 base w u m) (hm : m.length ≤ 1048578) (hy : ∀ y ∈ m, y = -1 - (ws.length : Int)) (ho : u.ownBlock = v.ownBlock ∨ ∀ k, u.ownBlock = some k → S ≤ k) (hn : u.ownBlock = none ∨ u.ownBlock ≠ lv.ownBlock) : Lgr base S w' vs (ws ++ [u]) lv' := by
  have hne : ∀ (x : Value) (l : List Int), Grow elInt 3 base w x l → (x.ownBlock = none ∨ x.ownBlock ≠ lv.ownBlock) → (x.ownBlock = none ∨ x.ownBlock ≠ lv'.ownBlock) := fun x l hx h1 => by
    rcases h1 with h1 | h1
    · exact .inl h1
    · rcases hat with h2 | h2
      · rw [h2]; exact .inr h1
      · rcases Option.eq_none_or_eq_some x.ownBlock with h3 | ⟨k, h3⟩
        · exact .inl h3
        · exact .inr fun e => by have h4 := own_lt6 hx.1 k h3; have h5 := h2 k (by rw [← e]; exact h3); omega
  refine ⟨hG, fun i x hx => ?_⟩
  rcases Nat.lt_or_ge i ws.length with hlt | hge
  · rw [List.getElem?_append_left hlt] at hx
    obtain ⟨y, l, h1, h2, h3, h4, h5, h6⟩ := h.own i x hx
    exact ⟨y, l, h1, growI_other (growI_ok h2) h2 hg h6, h3, h4, h5, hne x l h2 h6⟩
  · rw [List.getElem?_append_right hge] at hx
    obtain ⟨hz, hx2⟩ : i - ws.length = 0 ∧ u = x := by
      rcases Nat.eq_zero_or_pos (i - ws.length) with h0 | h0
      · rw [h0] at hx; exact ⟨h0, Option.some.inj hx⟩
      · rw [List.getElem?_eq_none (by simp; omega)] at hx; cases hx
    subst hx2
    obtain rfl : i = ws.length := by omega
    exact ⟨v, m, hi, growI_other (growI_ok hu) hu hg hn, hm, hy, ho, hne u m hu hn⟩

/-- The blocks of the lists. -/
def ownS (vs : List Value) (k : Nat) : Prop := ∃ (i : Nat) (v : Value), vs[i]? = some v ∧ v.ownBlock = some k

set_option maxRecDepth 100000 in
set_option maxHeartbeats 2000000 in
theorem alone_only {base b c : Nat} {w : World} {vs : List Value} (h : Alo base b w vs 0) (hA : Apt b vs) (hl : vs.length ≤ 1048576) (hb : base ≤ w.heap.size) :
    Calls Try.prog 11 #[.slice (some ⟨b, 0, none⟩) vs.length c] w fun e w' => e = .returned (.bool true) ∧ Below base w w' ∧ Only (ownS vs) w w' := by
  obtain ⟨is, his, hs0, hs1, hs2⟩ := info_parts Try.infoSl8
  obtain ⟨ii, hii, hz0, hz1, hz2⟩ := info_parts Try.infoInt8
  obtain ⟨n, hn⟩ : ∃ n, vs.length = n := ⟨_, rfl⟩
  rw [hn] at hl ⊢
  have HN := hide hn
  have HH := hide h
  have HA := hide hA
  have HBb := hide hb
  have HLow : Hid (∀ (i : Nat) (v : Value), vs[i]? = some v → ∀ k, v.ownBlock = some k → k < w.heap.size) := fun i v hi k hk => by obtain ⟨l, h1, -⟩ := h.own i v hi; exact own_lt6 h1.1 k hk
  have HBl : Hid (0 < n → b < w.heap.size) := fun hp => by
    obtain ⟨v, hv⟩ : ∃ v, vs[0]? = some v := ⟨_, List.getElem?_eq_getElem (by omega)⟩
    have hc := h.out 0 v hv
    rcases Nat.lt_or_ge b w.heap.size with h | h
    · exact h
    · unfold World.cell? at hc; rw [Array.getElem?_eq_none h] at hc; cases hc
  clear h hA hb hn
  go_enter Try.func11, Try.ntmps11
  go_wp2
  go_loopw [3] (fun y wl => ∃ i : Nat, i ≤ n ∧ y = .int .i64 i ∧ Hid (Alo base b wl vs i) ∧ Hid (Below base w wl) ∧ Hid (Only (ownS vs) w wl)) (fun y _ => n - (intOf y).toNat)
  case atStart => exact ⟨0, by omega, rfl, HH, Below.refl _ _, Only.refl _ _⟩
  case round =>
    clear HH
    obtain ⟨i, hi, rfl, HH, HB, HO⟩ := hrel
    by_cases hlt : i < n
    · have hi1 : (i : Int) < (n : Int) := by omega
      have hi0 : (0 : Int) ≤ (i : Int) := by omega
      obtain ⟨v, hv⟩ : ∃ v, vs[i]? = some v := ⟨_, List.getElem?_eq_getElem (by rw [HN.out]; exact hlt)⟩
      have HV := hide hv
      obtain ⟨l, hg, hll, -⟩ := HH.out.own i v hv
      obtain ⟨a1, c1, hv1, -, -⟩ := hg.shape
      obtain ⟨q, hq⟩ : ∃ q, l.length = q := ⟨_, rfl⟩
      rw [hq] at hv1 hll
      subst hv1
      have HG := hide hg
      have HQ := hide hq
      clear hg hv hq
      go_wp2
      go_loopw [4] (fun y wl => ∃ (j : Nat) (m : List Int), j ≤ q ∧ y = .int .i64 j ∧ Hid (m.length = q ∧ ∀ t, t < j → m[t]? = some (-1 - (i : Int))) ∧ Hid (Grow elInt 3 base wl (.slice a1 q c1) m) ∧ Hid (Alo base b wl vs i) ∧ Hid (Below base w wl) ∧ Hid (Only (ownS vs) w wl)) (fun y _ => q - (intOf y).toNat)
      case atStart => exact ⟨0, l, by omega, rfl, ⟨HQ.out, fun j hj => absurd hj (Nat.not_lt_zero j)⟩, HG, HH, HB, HO⟩
      case round =>
        clear HG HH HB HQ HO
        obtain ⟨j, m, hj, rfl, HM, HG, HH, HB, HO⟩ := hrel
        have x0 := HH.out.out i _ HV.out
        by_cases hlt2 : j < q
        · have hj1 : (j : Int) < (q : Int) := by omega
          have hj0 : (0 : Int) ≤ (j : Int) := by omega
          obtain ⟨g, cap, hgv, hbg, -⟩ := HG.out.1.form (by rw [HM.out.1]; omega)
          rw [HM.out.1] at hgv
          cases hgv
          obtain ⟨⟨y, y0⟩, f0, hs, hbg2, hgr⟩ := HG.out.setI (j := j) (by rw [HM.out.1]; exact hlt2) (x := -1 - (i : Int)) ⟨by omega, by omega⟩
          have HMs := hide (imarks_succ HM.out hlt2)
          have HS := hide hs
          have HAs := hide (HH.out.put HA.out HV.out hgr hs (by rw [HMs.out.1]; omega) (k' := i) (fun j _ hj => hj) (fun h => absurd h (Nat.lt_irrefl _)))
          have HBg := hide hbg
          clear hs hgr hbg hbg2
          go_wp2
          go_roundw
          case rel => exact ⟨j + 1, _, by omega, by go_num, HMs, HS, HAs, HB.out.setCell HBg.out _, HO.out.setCell (p := ⟨g, j, none⟩) ⟨i, _, HV.out, rfl⟩ _⟩
          case measure => simp [intOf]; omega
        · obtain rfl : q = j := by omega
          have hj1 : ¬ (q : Int) < (q : Int) := by omega
          have HAs := hide (HH.out.put HA.out HV.out (grown_refl _ _) HG.out (by rw [HM.out.1]; omega) (k' := i + 1) (fun j hj hk => by omega) (fun _ => imarks_all HM.out))
          go_wp2
          go_roundw
          case rel => exact ⟨i + 1, by omega, by go_num, HAs, HB, HO⟩
          case measure => simp [intOf]; omega
    · obtain rfl : n = i := by omega
      have hi1 : ¬ (n : Int) < (n : Int) := by omega
      go_wp2
      go_loopw [5, 6] (fun lv y wl => ∃ (i : Nat) (ws : List Value), i ≤ n ∧ y = .int .i64 i ∧ Hid (ws.length = i) ∧ Hid (Alo base b wl vs n) ∧ Hid (Lgr base w.heap.size wl vs ws lv) ∧ Hid (Below base w wl) ∧ Hid (Only (ownS vs) w wl)) (fun _ y _ => n - (intOf y).toNat)
      case atStart => exact ⟨0, [], by omega, rfl, rfl, HH, ⟨Grow.nil _ _ _ _, fun i u hu => by simp at hu⟩, HB, HO⟩
      case round =>
        clear HH HB HO
        obtain ⟨i, ws, hi, rfl, HW, HH, HL, HB, HO⟩ := hrel
        obtain ⟨la, lc, hlv, -, -⟩ := HL.out.grow.shape
        rw [HW.out] at hlv
        subst hlv
        by_cases hlt : i < n
        · have hi1 : (i : Int) < (n : Int) := by omega
          have hi0 : (0 : Int) ≤ (i : Int) := by omega
          obtain ⟨v, hv⟩ : ∃ v, vs[i]? = some v := ⟨_, List.getElem?_eq_getElem (by rw [HN.out]; exact hlt)⟩
          have HV := hide hv
          have y0 := HH.out.out i v hv
          obtain ⟨l, hg, hll, hmk⟩ := HH.out.own i v hv
          obtain ⟨a1, c1, hv1, -, -⟩ := hg.shape
          obtain ⟨q, hq⟩ : ∃ q, l.length = q := ⟨_, rfl⟩
          rw [hq] at hv1 hll
          subst hv1
          have HG := hide hg
          have HQ := hide hq
          have HMk := hide (hmk hlt)
          have hx64 : I64 (-1 - (i : Int)) := ⟨by omega, by omega⟩
          have HX := hide hx64
          have HYs : Hid (∀ z ∈ l ++ [-1 - (i : Int), -1 - (i : Int)], z = -1 - (i : Int)) := fun z hz => by
            rcases List.mem_append.1 hz with h | h
            · exact hmk hlt z h
            · simpa using h
          have HYl : Hid ((l ++ [-1 - (i : Int), -1 - (i : Int)]).length = q + 2) := by show _ = _; rw [List.length_append, hq]; rfl
          have HSi : Hid (w.heap.size ≤ wr.heap.size) := HB.out.size
          have HGa := hide (HG.out.kept (belo1 wr (.cells #[.int .i64 (-1 - (i : Int)), .int .i64 (-1 - (i : Int))] 3)))
          have HHa := hide (HH.out.kept (belo1 wr (.cells #[.int .i64 (-1 - (i : Int)), .int .i64 (-1 - (i : Int))] 3)))
          have HLa := hide (HL.out.kept (belo1 wr (.cells #[.int .i64 (-1 - (i : Int)), .int .i64 (-1 - (i : Int))] 3)))
          have HBa := hide (HB.out.alloc (Nat.le_trans HBb.out HB.out.size) (.cells #[.int .i64 (-1 - (i : Int)), .int .i64 (-1 - (i : Int))] 3))
          have HOa := hide (HO.out.alloc (.cells #[.int .i64 (-1 - (i : Int)), .int .i64 (-1 - (i : Int))] 3))
          have HLl : Hid (∀ k, (Value.slice la i lc).ownBlock = some k → w.heap.size ≤ k ∧ k < wr.heap.size) := fun k hk => ⟨own_new HL.out.grow.1 k hk, own_lt6 HL.out.grow.1 k hk⟩
          clear hg hv hq hmk hx64 HH HL HB HG
          go_wp2_with (first
            | (at_builtin; refine wpList_pushs_keep (w0 := w) elInt rfl _ _ 33 rfl base 3 ii _ 8 Try.underlying33 hii hz0 hz1 hz2 rfl (by decide) _ l rfl HGa.out [-1 - (i : Int), -1 - (i : Int)] 2 rfl wr.heap.size 2 rfl (fun j u hu => new_cells (w := wr) (cs := #[.int .i64 (-1 - (i : Int)), .int .i64 (-1 - (i : Int))]) j u hu) (fun z hz _ _ => by rw [HYs.out z hz]; exact HX.out) (by rw [HQ.out]; omega) HBa.out (Nat.le_trans HBb.out HBa.out.size) ?_; intro v3 W3 HX3 HG3 HB3 HGr3 HOw3; obtain ⟨g3, c3, hv3, -, -⟩ := HX3.out.1.form (by rw [HYl.out]; omega); rw [HYl.out] at hv3; subst hv3; have hz3 := belo1 W3 (.cells #[.slice (some ⟨g3, 0, none⟩) (q + 2) c3] 33); have HHc := hide ((HHa.out.put HA.out HV.out HGr3.out HG3.out (by rw [HQ.out]; omega) (k' := n) (fun j _ hj => hj) (fun _ => HMk.out)).kept hz3); have HOc := hide ((HOa.out.grown HGr3.out (fun k hk _ => ⟨i, _, HV.out, hk⟩)).alloc (.cells #[.slice (some ⟨g3, 0, none⟩) (q + 2) c3] 33)); have HLc := hide ((HLa.out.other HA.out (by rw [HW.out]; exact HV.out) (HLow.out i _ HV.out) HGr3.out).kept hz3); have HXc := hide (HX3.out.kept hz3); have HBc := hide (HB3.out.alloc (Nat.le_trans HBb.out HB3.out.size) (.cells #[.slice (some ⟨g3, 0, none⟩) (q + 2) c3] 33)); have hsz : w.heap.size ≤ (W3.alloc (.cells #[.slice (some ⟨g3, 0, none⟩) (q + 2) c3] 33)).heap.size := HBc.out.size; have HSz := hide hsz; have ho3 := HOw3.out; have hal := (belo1 wr (.cells #[.int .i64 (-1 - (i : Int)), .int .i64 (-1 - (i : Int))] 3)).size; have HOw : Hid ((Value.slice (some ⟨g3, 0, none⟩) (q + 2) c3).ownBlock = (Value.slice a1 q c1).ownBlock ∨ ∀ k, (Value.slice (some ⟨g3, 0, none⟩) (q + 2) c3).ownBlock = some k → wr.heap.size ≤ k) := ho3.imp id (fun h k hk => Nat.le_trans hal (h k hk)); clear hz3 hsz ho3 hal HX3 HG3 HB3 HGr3 HOw3 HGa HHa HLa HBa HOa)
            | (at_builtin; refine wpList_pushs_keep (w0 := W3.alloc (.cells #[.slice (some ⟨g3, 0, none⟩) (q + 2) c3] 33)) elSl rfl _ _ 26 rfl w.heap.size 33 is _ 24 Try.underlying26 his hs0 hs1 hs2 rfl (by decide) _ ws rfl HLc.out.grow [.slice (some ⟨g3, 0, none⟩) (q + 2) c3] 1 rfl W3.heap.size 1 rfl (fun j u hu => new_cells (w := W3) (cs := #[.slice (some ⟨g3, 0, none⟩) (q + 2) c3]) j u hu) (fun z hz _ _ => by rcases List.mem_append.1 hz with h | h; exact HLc.out.grow.2 z h; rw [List.mem_singleton.1 h]; rfl) (by rw [HW.out]; omega) (Below.refl _ _) HSz.out ?_; intro v4 W4 HX4 HG4 HB4 HGr4 HOw4; obtain ⟨g4, c4, hv4, -, -⟩ := HX4.out.1.form (by rw [List.length_append]; exact Nat.succ_pos _); rw [show (ws ++ [Value.slice (some ⟨g3, 0, none⟩) (q + 2) c3]).length = i + 1 by rw [List.length_append, HW.out]; rfl] at hv4; subst hv4))
          have HBl2 := hide (HBl.out (by omega))
          have HH4 := hide (HHc.out.above (S := w.heap.size) HGr4.out (fun t ht => (HLl.out t ht).1) HBl2.out HLow.out)
          have HL4 := hide (HLc.out.push HGr4.out HX4.out HOw4.out (v := .slice a1 q c1) (by rw [HW.out]; exact HV.out) HXc.out (by rw [HYl.out]; omega) (by rw [HW.out]; exact HYs.out) (HOw.out.imp id fun h k hk => Nat.le_trans HSi.out (h k hk)) (own_apart2 HOw.out (HLow.out i _ HV.out) HLl.out))
          have HOn := hide (HOc.out.grown HGr4.out (fun k hk hlt => absurd (HLl.out k hk).1 (by omega)))
          have HBn := hide (HBc.out.trans (HB4.out.mono HBb.out))
          have HWn : Hid ((ws ++ [Value.slice (some ⟨g3, 0, none⟩) (q + 2) c3]).length = i + 1) := by show _ = _; rw [List.length_append, HW.out]; rfl
          clear HX4 HG4 HB4 HGr4 HOw4 HHc HLc HXc HBc HOc
          go_wp2
          go_roundw
          case rel => exact ⟨i + 1, _, by omega, by go_num, HWn, HH4, HL4, HBn, HOn⟩
          case measure => simp [intOf]; omega
        · obtain rfl : n = i := by omega
          have hi1 : ¬ (n : Int) < (n : Int) := by omega
          obtain ⟨V, hV⟩ : ∃ V, V = wr := ⟨_, rfl⟩
          subst hV
          go_wp2
          go_loopw [7] (fun y wl => ∃ i : Nat, i ≤ n ∧ y = .int .i64 i ∧ Hid (Below base w wl) ∧ Hid (Below V.heap.size V wl)) (fun y _ => n - (intOf y).toNat)
          case atStart => exact ⟨0, by omega, rfl, HB, Below.refl _ _⟩
          case round =>
            clear HB
            obtain ⟨i, hi, rfl, HB, HBW⟩ := hrel
            by_cases hlt : i < n
            · have hi1 : (i : Int) < (n : Int) := by omega
              have hi0 : (0 : Int) ≤ (i : Int) := by omega
              obtain ⟨gl, cl, hgl, -, -⟩ := HL.out.grow.1.form (by rw [HW.out]; omega)
              rw [HW.out] at hgl
              cases hgl
              obtain ⟨v, hv⟩ : ∃ v, vs[i]? = some v := ⟨_, List.getElem?_eq_getElem (by rw [HN.out]; exact hlt)⟩
              obtain ⟨u, hu⟩ : ∃ u, ws[i]? = some u := ⟨_, List.getElem?_eq_getElem (by rw [HW.out]; exact hlt)⟩
              obtain ⟨l, hg, hll, hmk⟩ := HH.out.own i v hv
              obtain ⟨-, m, -, hgu, hlm, hmm, -, -⟩ := HL.out.own i u hu
              have HV0 := hide (HH.out.out i v hv)
              have HU0 := hide (sl_at HL.out.grow hu)
              obtain ⟨a1, c1, hv1, -, -⟩ := hg.shape
              obtain ⟨a2, c2, hv2, -, -⟩ := hgu.shape
              obtain ⟨q, hq⟩ : ∃ q, l.length = q := ⟨_, rfl⟩
              obtain ⟨r, hr⟩ : ∃ r, m.length = r := ⟨_, rfl⟩
              rw [hq] at hv1 hll
              rw [hr] at hv2 hlm
              subst hv1 hv2
              have HGl := hide hg
              have HGm := hide hgu
              have HQ := hide hq
              have HR := hide hr
              have HMl := hide (hmk hlt)
              have HMm := hide hmm
              have z0 := kept_cell HBW.out HU0.out
              clear hg hgu hq hr hmk hmm hv hu
              go_wp2
              go_loopw [8] (fun y wl => ∃ j : Nat, j ≤ r ∧ y = .int .i64 j ∧ Hid (Below base w wl) ∧ Hid (Below V.heap.size V wl)) (fun y _ => r - (intOf y).toNat)
              case atStart => exact ⟨0, by omega, rfl, HB, HBW⟩
              case round =>
                clear HB HBW z0
                obtain ⟨j, hj, rfl, HB, HBW⟩ := hrel
                have z0 := kept_cell HBW.out HU0.out
                have x0 := kept_cell HBW.out HV0.out
                by_cases hlt2 : j < r
                · have hj1 : (j : Int) < (r : Int) := by omega
                  have hj0 : (0 : Int) ≤ (j : Int) := by omega
                  obtain ⟨g2, k2, hg2, -, -⟩ := HGm.out.1.form (by rw [HR.out]; omega)
                  rw [HR.out] at hg2
                  cases hg2
                  have y0 := kept_cell HBW.out (grow_cellI HGm.out HMm.out hlt2)
                  by_cases hla : j < q
                  · have hk1 : (j : Int) < (q : Int) := by omega
                    obtain ⟨g1, k1, hg1, -, -⟩ := HGl.out.1.form (by rw [HQ.out]; omega)
                    rw [HQ.out] at hg1
                    cases hg1
                    have y1 := kept_cell HBW.out (grow_cellI HGl.out HMl.out hla)
                    go_wp2
                    go_roundw
                    case rel => exact ⟨j + 1, by omega, by go_num, HB, HBW⟩
                    case measure => simp [intOf]; omega
                  · have hk1 : ¬ (j : Int) < (q : Int) := by omega
                    go_wp2
                    go_roundw
                    case rel => exact ⟨j + 1, by omega, by go_num, HB, HBW⟩
                    case measure => simp [intOf]; omega
                · obtain rfl : r = j := by omega
                  have hj1 : ¬ (r : Int) < (r : Int) := by omega
                  go_wp2
                  go_roundw
                  case rel => exact ⟨i + 1, by omega, by go_num, HB, HBW⟩
                  case measure => simp [intOf]; omega
            · obtain rfl : n = i := by omega
              have hi1 : ¬ (n : Int) < (n : Int) := by omega
              go_wp2
              go_ret
              exact ⟨rfl, HB.out, HO.out.trans (Only.of_below HBW.out _)⟩
theorem alone_any {base b c : Nat} {w : World} {vs : List Value} (h : Alo base b w vs 0) (hA : Apt b vs) (hl : vs.length ≤ 1048576) (hb : base ≤ w.heap.size) :
    Calls Try.prog 11 #[.slice (some ⟨b, 0, none⟩) vs.length c] w fun e w' => e = .returned (.bool true) ∧ Below base w w' :=
  (alone_only h hA hl hb).mono fun _ _ ⟨a, b, _⟩ => ⟨a, b⟩
end Go.Proofs.Ytjifhmlfnnagcaa
