/- What the methods of an Ids of constants do, at every Ids that the calls themselves made and every argument. -/
import Derived.Test.YtoppnjpajeipdaaGreatDoorProg
import Derived.Test.YtoppnjpajeipdaaGreatDoorIdsBase
import Derived.Test.YtoppnjpajeipdaaGreatDoorIdsCut
import Derived.Test.YtoppnjpajeipdaaGreatDoorOpen
import Derived.Test.YtoppnjpajeipdaaGreatDoorBox
import Derived.DeepKeys4
import Derived.WalkSpells
import Derived.Deep.DeepCutAuto
import Derived.Deep.AppendLies
import Derived.Deep.RegionLaw
import Derived.WalkLawsBesides
namespace Go.Proofs.YtoppnjpajeipdaaGreatDoor
set_option linter.unusedSimpArgs false
set_option linter.unusedVariables false
open Go.RowKit Go.Maps

def cellsC (c : Con) : List Value := [.int .i64 c.k, .int .i64 c.n, .string c.s]
def litC (c : Con) : Lit := .string (keyBytes [.int .i64 c.k, .int .i64 c.n, .string c.s.data.toList])

abbrev ConIdsT (ts : TypeId) (base : Nat) (w : World) (p m n : Nat) (ao : Option Addr) (cap : Nat) (ks : List Con) : Prop :=
  IdsAt Tryz.prog 26 3 ts 3 cellsC litC base w p m n ao cap ks
abbrev ConIds (base : Nat) (w : World) (p m n : Nat) (ao : Option Addr) (cap : Nat) (ks : List Con) : Prop := ConIdsT 35 base w p m n ao cap ks

theorem lawCon : Keyed Tryz.prog 26 := Keyed.of_law (deep_law_laid (m := 20) (by kernel_rfl) (by decide) (of_decide_eq_true (by kernel_rfl)) (by kernel_rfl) (by kernel_rfl))
theorem zeroIntC (w : World) : (zeroValue 3).run Tryz.prog w = .ok (.int .i64 0) w := by kernel_rfl
theorem wfI {k : Int} (h : I64 k) : (Lit.int .i64 k).wf = true := WalkArith.wf_i64 h

theorem keyLits_con {c : Con} (h : c.ok) (d : Nat) : Tryz.prog.keyLits (d + 1 + 1) 26 [.int .i64 c.k, .int .i64 c.n, .string c.s] = some [.int .i64 c.k, .int .i64 c.n, .string c.s.data.toList] := by
  have hs : c.s.size ≤ maxLen := by have := h.2.2; unfold maxLen; omega
  have c3 : Tryz.prog.cellsOf 26 = 3 := by kernel_rfl
  have ci : Tryz.prog.cellsOf 3 = 1 := by kernel_rfl
  have cj : Tryz.prog.cellsOf 2 = 1 := by kernel_rfl
  have cs : Tryz.prog.cellsOf 9 = 1 := by kernel_rfl
  have k0 : Tryz.prog.keyLits (d + 1) 3 [.int .i64 c.k] = some [.int .i64 c.k] := by unfold Program.keyLits; simp only [Tryz.underlying3]; rw [if_pos ⟨trivial, wfI h.1⟩]
  have k1 : Tryz.prog.keyLits (d + 1) 2 [.int .i64 c.n] = some [.int .i64 c.n] := by unfold Program.keyLits; simp only [Tryz.underlying2]; rw [if_pos ⟨trivial, wfI h.2.1⟩]
  have k2 : Tryz.prog.keyLits (d + 1) 9 [.string c.s] = some [.string c.s.data.toList] := by unfold Program.keyLits; simp only [Tryz.underlying9]; rw [if_pos hs]
  unfold Program.keyLits
  simp only [Tryz.underlying26]
  rw [if_pos ⟨by rw [c3]; rfl, by simp⟩]
  simp only [List.mapM_cons, List.mapM_nil, List.drop_zero, List.drop_succ_cons, ci, cj, cs, List.take_succ_cons, List.take_zero, k0, k1, k2, Option.bind_eq_bind, Option.bind_some, Option.pure_def, Option.map_some]
  rfl

theorem keyOf_con {c : Con} (h : c.ok) : keyOf Tryz.prog 26 (.agg #[.int .i64 c.k, .int .i64 c.n, .string c.s]) = some (litC c) := by
  have e1 : Tryz.prog.keyType 26 = true := by kernel_rfl
  have c3 : Tryz.prog.cellsOf 26 = 3 := by kernel_rfl
  obtain ⟨d, hd⟩ : ∃ d, Tryz.prog.types.size + 1 = d + 1 + 1 := ⟨Tryz.prog.types.size - 1, by have : 0 < Tryz.prog.types.size := of_decide_eq_true (by kernel_rfl); omega⟩
  unfold keyOf
  simp only [Tryz.underlying26, hd]
  rw [if_pos (by rw [e1]; simp [Value.formed, Tryz.underlying26, c3])]
  have := keyLits_con h d
  simp only [Value.cells]
  rw [this]
  rfl

theorem litC_inj {a b : Con} (ha : a.ok) (hb : b.ok) (h : litC a = litC b) : a = b := by
  have h1 := keyOf_con ha
  have h2 := keyOf_con hb
  rw [← h] at h2
  have := lawCon.inj h1 h2
  simp only [Value.agg.injEq, Array.mk.injEq, List.cons.injEq, Value.int.injEq, Value.string.injEq, true_and, and_true] at this
  obtain ⟨a1, a2, a3⟩ := a
  obtain ⟨b1, b2, b3⟩ := b
  simp only at this
  rw [this.1, this.2.1, this.2.2]

theorem lenCells (c : Con) : (cellsC c).length = 3 := rfl

variable {ts : TypeId} {base : Nat} {w : World} {p m n : Nat} {ao : Option Addr} {cap : Nat} {ks : List Con}

theorem lenCon_any (h : ConIdsT ts base w p m n ao cap ks) :
    Calls Tryz.prog 12 #[.pointer (some ⟨p, 0, none⟩)] w fun e w' => e = .returned (.int .i64 ks.length) ∧ w' = w := by
  have c0 := h.c0
  clear h
  generalize ks.length = len at *
  go_enter Tryz.func12, Tryz.ntmps12
  go_wp2
  go_ret
  exact ⟨rfl, rfl⟩

/-- The look-up's outcome, in every world that has kept what w had. -/
theorem lookCon_some (h : ConIdsT ts base w p m n ao cap ks) {c : Con} (hc : c.ok) {i : Nat} (hi : ks[i]? = some c) {w' : World} (hb : Below w.heap.size w w') :
    (Instr.lookup 33 (.map (some m)) (.agg #[.int .i64 c.k, .int .i64 c.n, .string c.s]) true).run Tryz.prog w' = .ok (.tuple #[.int .i64 i, .bool true]) w' :=
  (h.map.same (hb.block m h.map.lt)).look_some lawCon Tryz.underlying33 Tryz.underlying3 (zeroIntC w') (keyOf_con hc) ⟨c, hi, rfl⟩

theorem lookCon_none (h : ConIdsT ts base w p m n ao cap ks) {c : Con} (hc : c.ok) (hks : ∀ k ∈ ks, k.ok) (hi : c ∉ ks) {w' : World} (hb : Below w.heap.size w w') :
    (Instr.lookup 33 (.map (some m)) (.agg #[.int .i64 c.k, .int .i64 c.n, .string c.s]) true).run Tryz.prog w' = .ok (.tuple #[.int .i64 0, .bool false]) w' :=
  (h.map.same (hb.block m h.map.lt)).look_none lawCon Tryz.underlying33 Tryz.underlying3 (zeroIntC w') (keyOf_con hc) (fun i ⟨k', h1, h2⟩ => hi (by
    have hm := List.mem_of_getElem? h1
    rw [← litC_inj (hks k' hm) hc h2]; exact hm))

theorem box_draws (w : World) (o : Obj) (q : Nat) : Below w.heap.size w ((w.alloc o).drewN q) := ((Below.refl _ _).alloc (Nat.le_refl _) _).trans (below_drewN _ _ _)

theorem findCon_some (h : ConIdsT ts base w p m n ao cap ks) {c : Con} (hc : c.ok) {i : Nat} (hi : ks[i]? = some c) :
    Calls Tryz.prog 9 #[.pointer (some ⟨p, 0, none⟩), c.val] w fun e w' => e = .returned (.int .i64 i) ∧ Below w.heap.size w w' := by
  have c1 := h.c1
  have hplt := h.plt
  have hrun := fun q => lookCon_some h hc hi (box_draws w (.cells #[.int .i64 c.k, .int .i64 c.n, .string c.s] 26) q)
  unfold Con.val
  clear h hi
  go_enter Tryz.func9, Tryz.ntmps9
  go_wp2
  go_quiet (fail)
  go_wp2
  go_ret
  exact ⟨rfl, box_draws _ _ _⟩

theorem findCon_none (h : ConIdsT ts base w p m n ao cap ks) {c : Con} (hc : c.ok) (hks : ∀ k ∈ ks, k.ok) (hi : c ∉ ks) :
    Calls Tryz.prog 9 #[.pointer (some ⟨p, 0, none⟩), c.val] w fun e w' => e = .returned (.int .i64 (-1)) ∧ Below w.heap.size w w' := by
  have c1 := h.c1
  have hplt := h.plt
  have hrun := fun q => lookCon_none h hc hks hi (box_draws w (.cells #[.int .i64 c.k, .int .i64 c.n, .string c.s] 26) q)
  unfold Con.val
  clear h hi
  go_enter Tryz.func9, Tryz.ntmps9
  go_wp2
  go_quiet (fail)
  go_wp2
  go_ret
  exact ⟨rfl, box_draws _ _ _⟩

theorem internCon_old (h : ConIdsT ts base w p m n ao cap ks) {c : Con} (hc : c.ok) {i : Nat} (hi : ks[i]? = some c) :
    Calls Tryz.prog 23 #[.pointer (some ⟨p, 0, none⟩), c.val] w fun e w' => e = .returned (.int .i64 i) ∧ Below w.heap.size w w' := by
  have c1 := h.c1
  have hplt := h.plt
  have hrun := fun q => lookCon_some h hc hi (box_draws w (.cells #[.int .i64 c.k, .int .i64 c.n, .string c.s] 26) q)
  unfold Con.val
  clear h hi
  go_enter Tryz.func23, Tryz.ntmps23
  go_wp2
  go_quiet (fail)
  go_wp2
  go_ret
  exact ⟨rfl, box_draws _ _ _⟩

theorem Tryz.infoCon : (Tryz.prog.info? 26).map (fun i => (i.zero, i.size, i.bytes)) = some (some (.agg #[.int .i64 0, .int .i64 0, .string ⟨#[]⟩]), 3, 32) := by kernel_rfl

set_option maxRecDepth 100000 in
set_option maxHeartbeats 1000000 in
theorem internCon_new (h : ConIdsT ts base w p m n ao cap ks) (hb : base ≤ w.heap.size) {c : Con} (hc : c.ok) (hks : ∀ k ∈ ks, k.ok) (hi : c ∉ ks) (hn : n < 2199023255552) (hl : ks.length < 2199023255552) (hts : 26 ≠ ts := by decide) :
    Calls Tryz.prog 23 #[.pointer (some ⟨p, 0, none⟩), c.val] w fun e w' => e = .returned (.int .i64 ks.length) ∧ ∃ ao' cap', ConIdsT ts base w' p m (n + 1) ao' cap' (ks ++ [c]) ∧ Only (foot p m ao) w w' ∧ (∀ a, ao' = some a → ao = some a ∨ w.heap.size ≤ a.block) := by
  have hinj : ∀ k', k' ∈ ks → litC k' ≠ litC c := fun k' hk' e => hi (by rw [← litC_inj (hks k' hk') hc e]; exact hk')
  have c1 := h.c1
  have hplt := h.plt
  have hrun := fun q => lookCon_none h hc hks hi (box_draws w (.cells #[.int .i64 c.k, .int .i64 c.n, .string c.s] 26) q)
  unfold Con.val
  obtain ⟨i0, hi0, hz0, hz1, hz2⟩ := info_parts Tryz.infoCon
  have c0 := h.c0
  have HI := hide h
  clear h
  obtain ⟨len, hlen⟩ : ∃ len, len = ks.length := ⟨_, rfl⟩
  rw [← hlen] at hl c0 ⊢
  have HL := hide hlen
  clear hlen
  go_enter Tryz.func23, Tryz.ntmps23
  go_wp2
  go_quiet (fail)
  go_wp2
  have hWB := box_draws w (.cells #[.int .i64 c.k, .int .i64 c.n, .string c.s] 26) nq
  have hI := HI.out.only (Only.of_below hWB (fun _ => False)) id id (fun _ _ => id)
  have hbx : conAt ((w.alloc (.cells #[.int .i64 c.k, .int .i64 c.n, .string c.s] 26)).drewN nq) w.heap.size 0 c := conAt_kept (conAt_new w c _) (below_drewN _ _ _)
  have hbs : base ≤ ((w.alloc (.cells #[.int .i64 c.k, .int .i64 c.n, .string c.s] 26)).drewN nq).heap.size := Nat.le_trans hb hWB.size
  clear hrun c0 c1
  generalize (w.alloc (.cells #[.int .i64 c.k, .int .i64 c.n, .string c.s] 26)).drewN nq = W at *
  have c0 := hI.c0
  have c1 := hI.c1
  have hrow := hI.row
  have hpW := hI.plt
  rw [← HL.out] at c0 hrow
  have hbx' := hbx
  obtain ⟨b0, b1, b2⟩ := hbx'
  have hbW : w.heap.size < W.heap.size := lt_of_cell b0
  have hfoot : ¬ foot p m ao w.heap.size := by
    rintro (e | e | ⟨a, e1, e2⟩)
    · omega
    · have := HI.out.map.lt; omega
    · have := (HI.out.rp hts a e1).2.2.2; omega
  have HI2 := hide hI
  clear hI
  go_region_law ((refine step_append_lies _ (by rfl) _ _ _ (by rfl) base 26 i0 _ 3 32 Tryz.underlying22 hi0 hz0 hz1 hz2 rfl (by decide) (.slice ao len cap) len (ks.flatMap cellsC) (by rfl) ((hrow.alloc _).drew) ⟨W.heap.size, 0, none⟩ 1 1 [.int .i64 c.k, .int .i64 c.n, .string c.s] (by rfl) (by rfl) (World.news_of_block (cs := #[.int .i64 c.k, .int .i64 c.n, .string c.s]) (t := 26) (fr := (0, 0)) (heap_alloc_new W _)) (by simp [Value.oneCell']) (by decide) (by unfold maxLen; omega) (by omega) (by simp; omega) (W.heap.size + 1) (by simp) ?_; intro g cap' w1 hown1 hgrow hat hlt; obtain ⟨d1, d2, d3, z1, z2, hmid⟩ := HI2.out.pushed (k := c) hts HL.out (((Below.refl _ _).alloc (Nat.le_refl _) _).drew) hown1 hgrow (hat.imp id (fun e => by omega)); have HM := hide hmid; clear hmid))
  all_goals
    have hM := HM.out
    have hb1 : conAt (w1.setCell ⟨p, 0, none⟩ (.slice (some ⟨g, 0, none⟩) (len + 1) cap')) w.heap.size 0 c := ⟨hM.only.cell hbx.1 hfoot, hM.only.cell hbx.2.1 hfoot, hM.only.cell hbx.2.2 hfoot⟩
    clear b0 b1 b2 c0 c1 d1 d2 d3 z2 hgrow hat hlt hrow hown1 HM
    generalize w1.setCell ⟨p, 0, none⟩ (.slice (some ⟨g, 0, none⟩) (len + 1) cap') = W1 at *
    obtain ⟨w2, hup, hI3, hO3, hA3⟩ := (hM.same ((Below.refl _ W1).drew)).finish (t := 33) lawCon Tryz.underlying33 Tryz.underlying3 (by unfold maxLen; omega) HL.out (by omega) (keyOf_con hc) hinj
    have c1 := hM.c1
    obtain ⟨b0, b1, b2⟩ := hb1
    have HM2 := hide hM
    have HI3 := hide hI3
    clear hM hI3
    go_wp2
    go_region
    go_wp2
    go_ret
    exact ⟨rfl, _, _, HI3.out, (Only.of_below hWB _).trans hO3, fun a ha => (hA3 a ha).imp id (fun e => Nat.le_trans hWB.size e)⟩

theorem atCon_in (h : ConIdsT ts base w p m n ao cap ks) (hl : ks.length < 2199023255552) {i : Nat} {c : Con} (hi : ks[i]? = some c) :
    Calls Tryz.prog 27 #[.pointer (some ⟨p, 0, none⟩), .int .i64 i] w fun e w' => e = .returned (.tuple #[c.val, .bool true]) ∧ Below w.heap.size w w' := by
  have hlt : i < ks.length := (List.getElem?_eq_some_iff.1 hi).1
  obtain ⟨g, cur, hao, _⟩ := h.lies (by omega)
  have e0 := h.cellAt (j := 0) lenCells hao hi rfl
  have e1 := h.cellAt (j := 1) lenCells hao hi rfl
  have e2 := h.cellAt (j := 2) lenCells hao hi rfl
  simp only [Nat.add_zero] at e0
  have hplt := h.plt
  have hglt : g < w.heap.size := lt_of_cell e0
  subst hao
  have c0 := h.c0
  have H := hide h
  clear h hi
  unfold Con.val
  generalize ks.length = len at *
  have h1 : ¬ (i : Int) < 0 := by omega
  have h2 : (i : Int) < (len : Int) := by omega
  go_enter Tryz.func27, Tryz.ntmps27
  go_wp2
  exact bodyPost_ret (v := .tuple #[.agg #[.int .i64 c.k, .int .i64 c.n, .string c.s], .bool true]) (by simp [results, Tryz.results27, go_sem]) rfl ⟨rfl, (Below.refl _ _).alloc (Nat.le_refl _) _⟩

def Con.zero : Con := ⟨0, 0, ⟨#[]⟩⟩

theorem atCon_out (h : ConIdsT ts base w p m n ao cap ks) (hl : ks.length < 2199023255552) {i : Int} (hi : i < 0 ∨ (ks.length : Int) ≤ i) :
    Calls Tryz.prog 27 #[.pointer (some ⟨p, 0, none⟩), .int .i64 i] w fun e w' => e = .returned (.tuple #[Con.zero.val, .bool false]) ∧ Below w.heap.size w w' := by
  have hplt := h.plt
  have c0 := h.c0
  have H := hide h
  clear h
  unfold Con.val Con.zero
  generalize ks.length = len at *
  rcases hi with hi | hi
  · go_enter Tryz.func27, Tryz.ntmps27
    go_wp2
    exact bodyPost_ret (v := .tuple #[.agg #[.int .i64 0, .int .i64 0, .string ⟨#[]⟩], .bool false]) (by simp [results, Tryz.results27, go_sem]) rfl ⟨rfl, ((Below.refl _ _).alloc (Nat.le_refl _) _).alloc (by simp) _⟩
  · have h1 : ¬ i < 0 := by omega
    have h2 : ¬ i < (len : Int) := by omega
    go_enter Tryz.func27, Tryz.ntmps27
    go_wp2
    exact bodyPost_ret (v := .tuple #[.agg #[.int .i64 0, .int .i64 0, .string ⟨#[]⟩], .bool false]) (by simp [results, Tryz.results27, go_sem]) rfl ⟨rfl, ((Below.refl _ _).alloc (Nat.le_refl _) _).alloc (by simp) _⟩

theorem nodupC_at {ks : List Con} (hnd : ks.Nodup) {i j : Nat} {a : Con} (h1 : ks[i]? = some a) (h2 : ks[j]? = some a) : i = j := by
  have hi : i < ks.length := (List.getElem?_eq_some_iff.1 h1).1
  exact (List.getElem?_inj hi hnd).1 (h1.trans h2.symm)

/-- Which keys are left in the map when the keys c up to c + j have been taken out. -/
def leftCon (ks : List Con) (c j : Nat) (l : Lit) (i : Nat) : Prop := keyAt litC ks l i ∧ (i < c ∨ c + j ≤ i)

theorem leftCon_here {ks : List Con} (hks : ∀ k ∈ ks, k.ok) (hnd : ks.Nodup) {c j : Nat} {k : Con} (hk : ks[c + j]? = some k) (i : Nat) : ¬ leftCon ks c (j + 1) (litC k) i := by
  rintro ⟨⟨k', h1, h2⟩, h3⟩
  have := litC_inj (hks k' (List.mem_of_getElem? h1)) (hks k (List.mem_of_getElem? hk)) h2
  subst this
  have := nodupC_at hnd h1 hk
  omega

theorem leftCon_other {ks : List Con} {c j : Nat} {k : Con} (hk : ks[c + j]? = some k) {l : Lit} (hl : l ≠ litC k) (i : Nat) : leftCon ks c (j + 1) l i ↔ leftCon ks c j l i := by
  constructor
  · rintro ⟨h1, h2⟩; exact ⟨h1, by omega⟩
  · rintro ⟨⟨k', h1, h3⟩, h2⟩
    refine ⟨⟨k', h1, h3⟩, ?_⟩
    rcases h2 with h2 | h2
    · exact .inl h2
    · rcases Nat.lt_or_ge (c + j) i with h4 | h4
      · exact .inr (by omega)
      · obtain rfl : i = c + j := by omega
        rw [hk] at h1
        simp only [Option.some.injEq] at h1
        subst h1
        exact absurd h3.symm hl

theorem zeroCon (w : World) : (zeroValue 26).run Tryz.prog w = .ok (.agg #[.int .i64 0, .int .i64 0, .string ⟨#[]⟩]) w := by kernel_rfl

end Go.Proofs.YtoppnjpajeipdaaGreatDoor
