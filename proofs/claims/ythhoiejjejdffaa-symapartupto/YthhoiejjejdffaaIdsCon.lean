/- What the methods of an Ids of constants do, at every Ids that the calls themselves made and every argument. -/
import Derived.Test.YthhoiejjejdffaaProg
import Derived.Test.YthhoiejjejdffaaIdsBase
import Derived.Test.YthhoiejjejdffaaIdsCut
import Derived.Test.YthhoiejjejdffaaOpen
import Derived.Test.YthhoiejjejdffaaBox
import Derived.DeepKeys4
import Derived.WalkSpells
import Derived.Deep.DeepCutAuto
import Derived.Deep.AppendLies
import Derived.Deep.RegionLaw
import Derived.WalkLawsBesides
namespace Go.Proofs.Ythhoiejjejdffaa
set_option linter.unusedSimpArgs false
set_option linter.unusedVariables false
open Go.RowKit Go.Maps

def cellsC (c : Con) : List Value := [.int .i64 c.k, .int .i64 c.n, .string c.s]
def litC (c : Con) : Lit := .string (keyBytes [.int .i64 c.k, .int .i64 c.n, .string c.s.data.toList])

abbrev ConIdsT (ts : TypeId) (base : Nat) (w : World) (p m n : Nat) (ao : Option Addr) (cap : Nat) (ks : List Con) : Prop :=
  IdsAt Try.prog 34 3 ts 3 cellsC litC base w p m n ao cap ks
abbrev ConIds (base : Nat) (w : World) (p m n : Nat) (ao : Option Addr) (cap : Nat) (ks : List Con) : Prop := ConIdsT 42 base w p m n ao cap ks

theorem lawCon : Keyed Try.prog 34 := Keyed.of_law (deep_law_laid (m := 20) (by kernel_rfl) (by decide) (of_decide_eq_true (by kernel_rfl)) (by kernel_rfl) (by kernel_rfl))
theorem zeroIntC (w : World) : (zeroValue 3).run Try.prog w = .ok (.int .i64 0) w := by kernel_rfl
theorem wfI {k : Int} (h : I64 k) : (Lit.int .i64 k).wf = true := WalkArith.wf_i64 h

theorem keyLits_con {c : Con} (h : c.ok) (d : Nat) : Try.prog.keyLits (d + 1 + 1) 34 [.int .i64 c.k, .int .i64 c.n, .string c.s] = some [.int .i64 c.k, .int .i64 c.n, .string c.s.data.toList] := by
  have hs : c.s.size ≤ maxLen := by have := h.2.2; unfold maxLen; omega
  have c3 : Try.prog.cellsOf 34 = 3 := by kernel_rfl
  have ci : Try.prog.cellsOf 3 = 1 := by kernel_rfl
  have cj : Try.prog.cellsOf 2 = 1 := by kernel_rfl
  have cs : Try.prog.cellsOf 9 = 1 := by kernel_rfl
  have k0 : Try.prog.keyLits (d + 1) 3 [.int .i64 c.k] = some [.int .i64 c.k] := by unfold Program.keyLits; simp only [Try.underlying3]; rw [if_pos ⟨trivial, wfI h.1⟩]
  have k1 : Try.prog.keyLits (d + 1) 2 [.int .i64 c.n] = some [.int .i64 c.n] := by unfold Program.keyLits; simp only [Try.underlying2]; rw [if_pos ⟨trivial, wfI h.2.1⟩]
  have k2 : Try.prog.keyLits (d + 1) 9 [.string c.s] = some [.string c.s.data.toList] := by unfold Program.keyLits; simp only [Try.underlying9]; rw [if_pos hs]
  unfold Program.keyLits
  simp only [Try.underlying34]
  rw [if_pos ⟨by rw [c3]; rfl, by simp⟩]
  simp only [List.mapM_cons, List.mapM_nil, List.drop_zero, List.drop_succ_cons, ci, cj, cs, List.take_succ_cons, List.take_zero, k0, k1, k2, Option.bind_eq_bind, Option.bind_some, Option.pure_def, Option.map_some]
  rfl

theorem keyOf_con {c : Con} (h : c.ok) : keyOf Try.prog 34 (.agg #[.int .i64 c.k, .int .i64 c.n, .string c.s]) = some (litC c) := by
  have e1 : Try.prog.keyType 34 = true := by kernel_rfl
  have c3 : Try.prog.cellsOf 34 = 3 := by kernel_rfl
  obtain ⟨d, hd⟩ : ∃ d, Try.prog.types.size + 1 = d + 1 + 1 := ⟨Try.prog.types.size - 1, by have : 0 < Try.prog.types.size := of_decide_eq_true (by kernel_rfl); omega⟩
  unfold keyOf
  simp only [Try.underlying34, hd]
  rw [if_pos (by rw [e1]; simp [Value.formed, Try.underlying34, c3])]
  have := keyLits_con h d
  simp only [Value.cells]
  rw [this]
  rfl

theorem litC_inj {a b : Con} (ha : a.ok) (hb : b.ok) (h : litC a = litC b) : a = b := by
  have h1 := keyOf_con ha
  have h2 := keyOf_con hb
  rw [← h] at h2
  have := lawCon.inj h1 h2
  simp only [Value.agg.injEq, Array.mk.injEq, List.cons.injEq, Value.int.injEq, Value.string.injEq, true_and, and_true] at this
  obtain ⟨a1, a2, a3⟩ := a
  obtain ⟨b1, b2, b3⟩ := b
  simp only at this
  rw [this.1, this.2.1, this.2.2]

theorem lenCells (c : Con) : (cellsC c).length = 3 := rfl

variable {ts : TypeId} {base : Nat} {w : World} {p m n : Nat} {ao : Option Addr} {cap : Nat} {ks : List Con}

theorem lenCon_any (h : ConIdsT ts base w p m n ao cap ks) :
    Calls Try.prog 12 #[.pointer (some ⟨p, 0, none⟩)] w fun e w' => e = .returned (.int .i64 ks.length) ∧ w' = w := by
  have c0 := h.c0
  clear h
  generalize ks.length = len at *
  go_enter Try.func12, Try.ntmps12
  go_wp2
  go_ret
  exact ⟨rfl, rfl⟩

/-- The look-up's outcome, in every world that has kept what w had. -/
theorem lookCon_some (h : ConIdsT ts base w p m n ao cap ks) {c : Con} (hc : c.ok) {i : Nat} (hi : ks[i]? = some c) {w' : World} (hb : Below w.heap.size w w') :
    (Instr.lookup 40 (.map (some m)) (.agg #[.int .i64 c.k, .int .i64 c.n, .string c.s]) true).run Try.prog w' = .ok (.tuple #[.int .i64 i, .bool true]) w' :=
  (h.map.same (hb.block m h.map.lt)).look_some lawCon Try.underlying40 Try.underlying3 (zeroIntC w') (keyOf_con hc) ⟨c, hi, rfl⟩

theorem lookCon_none (h : ConIdsT ts base w p m n ao cap ks) {c : Con} (hc : c.ok) (hks : ∀ k ∈ ks, k.ok) (hi : c ∉ ks) {w' : World} (hb : Below w.heap.size w w') :
    (Instr.lookup 40 (.map (some m)) (.agg #[.int .i64 c.k, .int .i64 c.n, .string c.s]) true).run Try.prog w' = .ok (.tuple #[.int .i64 0, .bool false]) w' :=
  (h.map.same (hb.block m h.map.lt)).look_none lawCon Try.underlying40 Try.underlying3 (zeroIntC w') (keyOf_con hc) (fun i ⟨k', h1, h2⟩ => hi (by
    have hm := List.mem_of_getElem? h1
    rw [← litC_inj (hks k' hm) hc h2]; exact hm))

theorem box_draws (w : World) (o : Obj) (q : Nat) : Below w.heap.size w ((w.alloc o).drewN q) := ((Below.refl _ _).alloc (Nat.le_refl _) _).trans (below_drewN _ _ _)

theorem findCon_some (h : ConIdsT ts base w p m n ao cap ks) {c : Con} (hc : c.ok) {i : Nat} (hi : ks[i]? = some c) :
    Calls Try.prog 16 #[.pointer (some ⟨p, 0, none⟩), c.val] w fun e w' => e = .returned (.int .i64 i) ∧ Below w.heap.size w w' := by
  have c1 := h.c1
  have hplt := h.plt
  have hrun := fun q => lookCon_some h hc hi (box_draws w (.cells #[.int .i64 c.k, .int .i64 c.n, .string c.s] 34) q)
  unfold Con.val
  clear h hi
  go_enter Try.func16, Try.ntmps16
  go_wp2
  go_quiet (fail)
  go_wp2
  go_ret
  exact ⟨rfl, box_draws _ _ _⟩

theorem findCon_none (h : ConIdsT ts base w p m n ao cap ks) {c : Con} (hc : c.ok) (hks : ∀ k ∈ ks, k.ok) (hi : c ∉ ks) :
    Calls Try.prog 16 #[.pointer (some ⟨p, 0, none⟩), c.val] w fun e w' => e = .returned (.int .i64 (-1)) ∧ Below w.heap.size w w' := by
  have c1 := h.c1
  have hplt := h.plt
  have hrun := fun q => lookCon_none h hc hks hi (box_draws w (.cells #[.int .i64 c.k, .int .i64 c.n, .string c.s] 34) q)
  unfold Con.val
  clear h hi
  go_enter Try.func16, Try.ntmps16
  go_wp2
  go_quiet (fail)
  go_wp2
  go_ret
  exact ⟨rfl, box_draws _ _ _⟩

theorem internCon_old (h : ConIdsT ts base w p m n ao cap ks) {c : Con} (hc : c.ok) {i : Nat} (hi : ks[i]? = some c) :
    Calls Try.prog 63 #[.pointer (some ⟨p, 0, none⟩), c.val] w fun e w' => e = .returned (.int .i64 i) ∧ Below w.heap.size w w' := by
  have c1 := h.c1
  have hplt := h.plt
  have hrun := fun q => lookCon_some h hc hi (box_draws w (.cells #[.int .i64 c.k, .int .i64 c.n, .string c.s] 34) q)
  unfold Con.val
  clear h hi
  go_enter Try.func63, Try.ntmps63
  go_wp2
  go_quiet (fail)
  go_wp2
  go_ret
  exact ⟨rfl, box_draws _ _ _⟩

theorem Try.infoCon : (Try.prog.info? 34).map (fun i => (i.zero, i.size, i.bytes)) = some (some (.agg #[.int .i64 0, .int .i64 0, .string ⟨#[]⟩]), 3, 32) := by kernel_rfl

set_option maxRecDepth 100000 in
set_option maxHeartbeats 1000000 in
theorem internCon_new (h : ConIdsT ts base w p m n ao cap ks) (hb : base ≤ w.heap.size) {c : Con} (hc : c.ok) (hks : ∀ k ∈ ks, k.ok) (hi : c ∉ ks) (hn : n < 2199023255552) (hl : ks.length < 2199023255552) (hts : 34 ≠ ts := by decide) :
    Calls Try.prog 63 #[.pointer (some ⟨p, 0, none⟩), c.val] w fun e w' => e = .returned (.int .i64 ks.length) ∧ ∃ ao' cap', ConIdsT ts base w' p m (n + 1) ao' cap' (ks ++ [c]) ∧ Only (foot p m ao) w w' ∧ (∀ a, ao' = some a → ao = some a ∨ w.heap.size ≤ a.block) := by
  have hinj : ∀ k', k' ∈ ks → litC k' ≠ litC c := fun k' hk' e => hi (by rw [← litC_inj (hks k' hk') hc e]; exact hk')
  have c1 := h.c1
  have hplt := h.plt
  have hrun := fun q => lookCon_none h hc hks hi (box_draws w (.cells #[.int .i64 c.k, .int .i64 c.n, .string c.s] 34) q)
  unfold Con.val
  obtain ⟨i0, hi0, hz0, hz1, hz2⟩ := info_parts Try.infoCon
  have c0 := h.c0
  have HI := hide h
  clear h
  obtain ⟨len, hlen⟩ : ∃ len, len = ks.length := ⟨_, rfl⟩
  rw [← hlen] at hl c0 ⊢
  have HL := hide hlen
  clear hlen
  go_enter Try.func63, Try.ntmps63
  go_wp2
  go_quiet (fail)
  go_wp2
  have hWB := box_draws w (.cells #[.int .i64 c.k, .int .i64 c.n, .string c.s] 34) nq
  have hI := HI.out.only (Only.of_below hWB (fun _ => False)) id id (fun _ _ => id)
  have hbx : conAt ((w.alloc (.cells #[.int .i64 c.k, .int .i64 c.n, .string c.s] 34)).drewN nq) w.heap.size 0 c := conAt_kept (conAt_new w c _) (below_drewN _ _ _)
  have hbs : base ≤ ((w.alloc (.cells #[.int .i64 c.k, .int .i64 c.n, .string c.s] 34)).drewN nq).heap.size := Nat.le_trans hb hWB.size
  clear hrun c0 c1
  generalize (w.alloc (.cells #[.int .i64 c.k, .int .i64 c.n, .string c.s] 34)).drewN nq = W at *
  have c0 := hI.c0
  have c1 := hI.c1
  have hrow := hI.row
  have hpW := hI.plt
  rw [← HL.out] at c0 hrow
  have hbx' := hbx
  obtain ⟨b0, b1, b2⟩ := hbx'
  have hbW : w.heap.size < W.heap.size := lt_of_cell b0
  have hfoot : ¬ foot p m ao w.heap.size := by
    rintro (e | e | ⟨a, e1, e2⟩)
    · omega
    · have := HI.out.map.lt; omega
    · have := (HI.out.rp hts a e1).2.2.2; omega
  have HI2 := hide hI
  clear hI
  go_region_law ((refine step_append_lies _ (by rfl) _ _ _ (by rfl) base 34 i0 _ 3 32 Try.underlying32 hi0 hz0 hz1 hz2 rfl (by decide) (.slice ao len cap) len (ks.flatMap cellsC) (by rfl) ((hrow.alloc _).drew) ⟨W.heap.size, 0, none⟩ 1 1 [.int .i64 c.k, .int .i64 c.n, .string c.s] (by rfl) (by rfl) (World.news_of_block (cs := #[.int .i64 c.k, .int .i64 c.n, .string c.s]) (t := 34) (fr := (0, 0)) (heap_alloc_new W _)) (by simp [Value.oneCell']) (by decide) (by unfold maxLen; omega) (by omega) (by simp; omega) (W.heap.size + 1) (by simp) ?_; intro g cap' w1 hown1 hgrow hat hlt; obtain ⟨d1, d2, d3, z1, z2, hmid⟩ := HI2.out.pushed (k := c) hts HL.out (((Below.refl _ _).alloc (Nat.le_refl _) _).drew) hown1 hgrow (hat.imp id (fun e => by omega)); have HM := hide hmid; clear hmid))
  all_goals
    have hM := HM.out
    have hb1 : conAt (w1.setCell ⟨p, 0, none⟩ (.slice (some ⟨g, 0, none⟩) (len + 1) cap')) w.heap.size 0 c := ⟨hM.only.cell hbx.1 hfoot, hM.only.cell hbx.2.1 hfoot, hM.only.cell hbx.2.2 hfoot⟩
    clear b0 b1 b2 c0 c1 d1 d2 d3 z2 hgrow hat hlt hrow hown1 HM
    generalize w1.setCell ⟨p, 0, none⟩ (.slice (some ⟨g, 0, none⟩) (len + 1) cap') = W1 at *
    obtain ⟨w2, hup, hI3, hO3, hA3⟩ := (hM.same ((Below.refl _ W1).drew)).finish (t := 40) lawCon Try.underlying40 Try.underlying3 (by unfold maxLen; omega) HL.out (by omega) (keyOf_con hc) hinj
    have c1 := hM.c1
    obtain ⟨b0, b1, b2⟩ := hb1
    have HM2 := hide hM
    have HI3 := hide hI3
    clear hM hI3
    go_wp2
    go_region
    go_wp2
    go_ret
    exact ⟨rfl, _, _, HI3.out, (Only.of_below hWB _).trans hO3, fun a ha => (hA3 a ha).imp id (fun e => Nat.le_trans hWB.size e)⟩

theorem atCon_in (h : ConIdsT ts base w p m n ao cap ks) (hl : ks.length < 2199023255552) {i : Nat} {c : Con} (hi : ks[i]? = some c) :
    Calls Try.prog 47 #[.pointer (some ⟨p, 0, none⟩), .int .i64 i] w fun e w' => e = .returned (.tuple #[c.val, .bool true]) ∧ Below w.heap.size w w' := by
  have hlt : i < ks.length := (List.getElem?_eq_some_iff.1 hi).1
  obtain ⟨g, cur, hao, _⟩ := h.lies (by omega)
  have e0 := h.cellAt (j := 0) lenCells hao hi rfl
  have e1 := h.cellAt (j := 1) lenCells hao hi rfl
  have e2 := h.cellAt (j := 2) lenCells hao hi rfl
  simp only [Nat.add_zero] at e0
  have hplt := h.plt
  have hglt : g < w.heap.size := lt_of_cell e0
  subst hao
  have c0 := h.c0
  have H := hide h
  clear h hi
  unfold Con.val
  generalize ks.length = len at *
  have h1 : ¬ (i : Int) < 0 := by omega
  have h2 : (i : Int) < (len : Int) := by omega
  go_enter Try.func47, Try.ntmps47
  go_wp2
  exact bodyPost_ret (v := .tuple #[.agg #[.int .i64 c.k, .int .i64 c.n, .string c.s], .bool true]) (by simp [results, Try.results47, go_sem]) rfl ⟨rfl, (Below.refl _ _).alloc (Nat.le_refl _) _⟩

def Con.zero : Con := ⟨0, 0, ⟨#[]⟩⟩

theorem atCon_out (h : ConIdsT ts base w p m n ao cap ks) (hl : ks.length < 2199023255552) {i : Int} (hi : i < 0 ∨ (ks.length : Int) ≤ i) :
    Calls Try.prog 47 #[.pointer (some ⟨p, 0, none⟩), .int .i64 i] w fun e w' => e = .returned (.tuple #[Con.zero.val, .bool false]) ∧ Below w.heap.size w w' := by
  have hplt := h.plt
  have c0 := h.c0
  have H := hide h
  clear h
  unfold Con.val Con.zero
  generalize ks.length = len at *
  rcases hi with hi | hi
  · go_enter Try.func47, Try.ntmps47
    go_wp2
    exact bodyPost_ret (v := .tuple #[.agg #[.int .i64 0, .int .i64 0, .string ⟨#[]⟩], .bool false]) (by simp [results, Try.results47, go_sem]) rfl ⟨rfl, ((Below.refl _ _).alloc (Nat.le_refl _) _).alloc (by simp) _⟩
  · have h1 : ¬ i < 0 := by omega
    have h2 : ¬ i < (len : Int) := by omega
    go_enter Try.func47, Try.ntmps47
    go_wp2
    exact bodyPost_ret (v := .tuple #[.agg #[.int .i64 0, .int .i64 0, .string ⟨#[]⟩], .bool false]) (by simp [results, Try.results47, go_sem]) rfl ⟨rfl, ((Below.refl _ _).alloc (Nat.le_refl _) _).alloc (by simp) _⟩

theorem cutCon_none (h : ConIdsT ts base w p m n ao cap ks) (hl : ks.length < 2199023255552) {c : Int} (hc : (ks.length : Int) ≤ c ∨ (c ≤ 0 ∧ ks.length = 0)) :
    Calls Try.prog 59 #[.pointer (some ⟨p, 0, none⟩), .int .i64 c] w fun e w' => e = .returned (.tuple #[]) ∧ w' = w := by
  have hL := lenCon_any h
  clear h
  generalize ks.length = len at *
  have h1 : ¬ max c 0 < (len : Int) := by omega
  go_enter Try.func59, Try.ntmps59
  go_wp2_with (go_at_call 12; refine hL.mono ?_; rintro e w' ⟨rfl, rfl⟩)
  all_goals exact bodyPost_ret (v := .tuple #[]) (by simp [results, Try.results59, go_sem]) rfl ⟨rfl, rfl⟩

theorem nodupC_at {ks : List Con} (hnd : ks.Nodup) {i j : Nat} {a : Con} (h1 : ks[i]? = some a) (h2 : ks[j]? = some a) : i = j := by
  have hi : i < ks.length := (List.getElem?_eq_some_iff.1 h1).1
  exact (List.getElem?_inj hi hnd).1 (h1.trans h2.symm)

/-- Which keys are left in the map when the keys c up to c + j have been taken out. -/
def leftCon (ks : List Con) (c j : Nat) (l : Lit) (i : Nat) : Prop := keyAt litC ks l i ∧ (i < c ∨ c + j ≤ i)

theorem leftCon_here {ks : List Con} (hks : ∀ k ∈ ks, k.ok) (hnd : ks.Nodup) {c j : Nat} {k : Con} (hk : ks[c + j]? = some k) (i : Nat) : ¬ leftCon ks c (j + 1) (litC k) i := by
  rintro ⟨⟨k', h1, h2⟩, h3⟩
  have := litC_inj (hks k' (List.mem_of_getElem? h1)) (hks k (List.mem_of_getElem? hk)) h2
  subst this
  have := nodupC_at hnd h1 hk
  omega

theorem leftCon_other {ks : List Con} {c j : Nat} {k : Con} (hk : ks[c + j]? = some k) {l : Lit} (hl : l ≠ litC k) (i : Nat) : leftCon ks c (j + 1) l i ↔ leftCon ks c j l i := by
  constructor
  · rintro ⟨h1, h2⟩; exact ⟨h1, by omega⟩
  · rintro ⟨⟨k', h1, h3⟩, h2⟩
    refine ⟨⟨k', h1, h3⟩, ?_⟩
    rcases h2 with h2 | h2
    · exact .inl h2
    · rcases Nat.lt_or_ge (c + j) i with h4 | h4
      · exact .inr (by omega)
      · obtain rfl : i = c + j := by omega
        rw [hk] at h1
        simp only [Option.some.injEq] at h1
        subst h1
        exact absurd h3.symm hl

theorem zeroCon (w : World) : (zeroValue 34).run Try.prog w = .ok (.agg #[.int .i64 0, .int .i64 0, .string ⟨#[]⟩]) w := by kernel_rfl

set_option maxRecDepth 100000 in
set_option maxHeartbeats 1000000 in
theorem cutCon_some (h : ConIdsT ts base w p m n ao cap ks) (hnd : ks.Nodup) (hks : ∀ k ∈ ks, k.ok) (hl : ks.length < 2199023255552) {c : Int} {d : Nat} (hc : c = d ∨ (c < 0 ∧ d = 0)) (hd : d < ks.length) (hts : 34 ≠ ts := by decide) :
    Calls Try.prog 59 #[.pointer (some ⟨p, 0, none⟩), .int .i64 c] w fun e w' => e = .returned (.tuple #[]) ∧ ConIdsT ts base w' p m n ao cap (ks.take d) ∧ Only (foot p m ao) w w' := by
  have hL := lenCon_any h
  obtain ⟨g, cur, hao, _, hlc, _⟩ := h.lies (by omega)
  have c0 := h.c0
  have c1 := h.c1
  have hM0 := h.map
  have cells : ∀ i k, ks[i]? = some k → conAt w g (i * 3) k := fun i k hi => ⟨h.cellAt (j := 0) lenCells hao hi rfl, h.cellAt (j := 1) lenCells hao hi rfl, h.cellAt (j := 2) lenCells hao hi rfl⟩
  have hrp := h.rp hts _ hao
  have hpm := h.pm
  have hplt := h.plt
  subst hao
  have HC := fun w1 (hO : Only (fun k => k = m) w w1) hM => h.cutAt hts lenCells (c := d) hd rfl hO hM
  have H := hide h
  clear h
  obtain ⟨len, hlen⟩ : ∃ len, len = ks.length := ⟨_, rfl⟩
  rw [← hlen] at hl hd hlc hL c0 HC
  have HL := hide hlen
  clear hlen
  have HC2 := hide HC
  clear HC
  have h1 : ¬ (len : Int) ≤ (d : Int) := by omega
  have h2 : (d : Int) ≤ (len : Int) := by omega
  have h3 : (len : Int) ≤ (cap : Int) := by omega
  go_enter Try.func59, Try.ntmps59
  go_upto_region 0 with fail
  go_cut [1] (fun t wc => t = .int .i64 d ∧ w = wc)
  case first =>
    rcases hc with rfl | ⟨hc, rfl⟩
    · have hnn : ¬ (d : Int) < 0 := by omega
      go_wp2
      all_goals go_meet
      all_goals exact ⟨rfl, rfl⟩
    · go_wp2
      all_goals go_meet
      all_goals exact ⟨rfl, rfl⟩
  case rest =>
    obtain ⟨rfl, rfl⟩ := hcut
    clear hc
    go_wp2_with (go_at_call 12; refine hL.mono ?_; rintro e w' ⟨rfl, hw⟩; have hw := hw.symm; subst hw)
    clear hL
    go_loopw [5, 19] (fun _ i wr => ∃ j : Nat, j ≤ len - d ∧ i = .int .i64 j ∧ Hid (Only (fun k => k = m) w wr) ∧ MapIs Try.prog 34 3 wr m n (leftCon ks d j)) (fun _ i _ => len - d - (intOf i).toNat)
    case atStart => exact ⟨0, Nat.zero_le _, rfl, Only.refl _ _, hM0.congr (fun l i => ⟨fun h => ⟨h, by omega⟩, fun h => h.1⟩)⟩
    case round =>
      obtain ⟨j, hj, rfl, HO, hM⟩ := hrel
      by_cases hlt : j < len - d
      · obtain ⟨k, hk⟩ : ∃ k, ks[d + j]? = some k := ⟨_, List.getElem?_eq_getElem (by rw [← HL.out]; omega)⟩
        obtain ⟨q0, q1, q2⟩ := cells _ _ hk
        rw [Nat.add_mul] at q0 q1 q2
        have k0 := HO.out.cell q0 hrp.2.1
        have k1 := HO.out.cell q1 hrp.2.1
        have k2 := HO.out.cell q2 hrp.2.1
        have cm := HO.out.cell c1 hpm.symm
        have zp : p < wr.heap.size := lt_of_cell cm
        have hbx : Below wr.heap.size wr (wr.alloc (.cells #[.int .i64 k.k, .int .i64 k.n, .string k.s] 34)).drew := ((Below.refl _ _).alloc (Nat.le_refl _) _).drew
        obtain ⟨w2, hdel, hM2, hO2⟩ := (hM.same (hbx.block m hM.lt)).drop (t := 40) lawCon Try.underlying40 (keyOf_con (hks k (List.mem_of_getElem? hk))) 0 (leftCon ks d (j + 1)) (leftCon_here hks hnd hk) (fun l' hl' i => leftCon_other hk hl' i)
        have HO2 := hide (HO.out.trans ((Only.of_below hbx _).trans hO2))
        have hi : (j : Int) < (len : Int) - (d : Int) := by omega
        clear hO2 hM hk q0 q1 q2 hbx
        go_wp2
        go_region
        go_wp2
        go_roundw
        case rel => exact ⟨j + 1, by omega, by go_num, HO2, hM2⟩
        case measure => simp [intOf]; omega
      · obtain rfl : j = len - d := by omega
        have hM3 : MapIs Try.prog 34 3 wr m n (keyAt litC (ks.take d)) := hM.congr (fun l i => by
          rw [keyAt_take]
          constructor
          · rintro ⟨h1, h2⟩
            refine ⟨h1, ?_⟩
            obtain ⟨k', h3, _⟩ := h1
            have := (List.getElem?_eq_some_iff.1 h3).1
            rw [← HL.out] at this
            omega
          · rintro ⟨h1, h2⟩; exact ⟨h1, .inl h2⟩)
        obtain ⟨q1, q2, q3, q4⟩ := HC2.out wr HO.out hM3
        obtain ⟨L, hclr⟩ := run_clear_rows (P := Try.prog) wr 32 34 (.agg #[.int .i64 0, .int .i64 0, .string ⟨#[]⟩]) Try.underlying32 zeroCon (by intro u hu; simp [Value.cells] at hu; rcases hu with rfl | rfl <;> rfl) (by decide) g (d * 3) (len - d) (cap - d) (by omega) (by simpa [Value.cells] using q1) (by simpa [Value.cells] using q2)
        obtain ⟨e1, e2, e3, e4⟩ := q4 L
        have hi : ¬ ((len - d : Nat) : Int) < (len : Int) - (d : Int) := by omega
        have E3 := hide e3
        have E4 := hide e4
        clear q1 q2 q4 hM hM3 e3 e4 cells c0 c1 hM0
        go_wp2
        go_end0
        exact ⟨rfl, E3.out, E4.out⟩
end Go.Proofs.Ythhoiejjejdffaa
