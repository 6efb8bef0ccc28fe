/- edictlaw01.SymTally returns true at every list of constants. -/
import Derived.Test.YtpkpajjdpiebfaaProg
import Derived.Test.YtpkpajjdpiebfaaAloneWalk
import Derived.Laws.AppendOwnNone
import Derived.Maps.AppendAt
namespace Go.Proofs.Ytpkpajjdpiebfaa
set_option linter.unusedSimpArgs false
set_option linter.unusedVariables false
open Go.RowKit

theorem below1a (w : World) (x : Obj) : Below w.heap.size w (w.alloc x) := (Below.refl _ _).alloc (Nat.le_refl _) _
theorem lit_own {w : World} {base k : Nat} {xs : List Value} (hl : xs.length = k * 3) (hb : base ≤ w.heap.size) (hk : k ≤ 1000) : (w.alloc (.cells xs.toArray 24)).ownsRow base 24 3 (.slice (some ⟨w.heap.size, 0, none⟩) k k) k xs :=
  ⟨hl, .inr ⟨w.heap.size, k, xs.toArray, rfl, hb, heap_alloc_new w _, Nat.le_refl _, by unfold maxLen; omega, by simpa using hl, by simp [List.take_of_length_le (Nat.le_of_eq hl)]⟩⟩

theorem src_cons {w : World} {a : Addr} {n : Nat} {cs : List Con} (h : IsCons w (some a) n cs) : ∀ j u, (cs.flatMap cells3)[j]? = some u → w.cell? (a.add j) = some u := by
  intro j u hu
  obtain ⟨h1, -, -, h4⟩ := h
  have hj := (List.getElem?_eq_some_iff.1 hu).1
  rw [len3] at hj
  obtain ⟨b, off, e, hr⟩ := h4 (by omega)
  obtain rfl := Option.some.inj e
  exact flat3_src hr j u hu

theorem own_some {w : World} {base n : Nat} {v : Value} {xs : List Value} (h : w.ownsRow base 24 3 v n xs) (hne : v ≠ .slice none 0 0) : ∃ g c, v = .slice (some ⟨g, 0, none⟩) n c ∧ base ≤ g ∧ g < w.heap.size ∧ n ≤ c := by
  rcases h.2 with ⟨e, _⟩ | ⟨g, cap, cur, e, hb, hh, r1, _⟩
  · exact absurd e hne
  · exact ⟨g, cap, e, hb, (Array.getElem?_eq_some_iff.1 hh).1, r1⟩

theorem own_row {w : World} {base g n c : Nat} {cs : List Con} (h : w.ownsRow base 24 3 (.slice (some ⟨g, 0, none⟩) n c) n (cs.flatMap cells3)) (hl : cs.length = n) : conRow w g 0 cs := by
  subst hl
  intro i x hi
  have hn := holds_news (cs := cs) h
  have key : ∀ j v, j < 3 → (cells3 x)[j]? = some v → w.cell? ⟨g, i * 3 + j, none⟩ = some v := fun j v hj hv => by
    have := hn (i * 3 + j) v (by rw [flat3 _ i j _ hi hj]; exact hv)
    rw [addr_add, Nat.zero_add] at this
    exact this
  rw [Nat.zero_add]
  exact ⟨key 0 _ (by omega) rfl, key 1 _ (by omega) rfl, key 2 _ (by omega) rfl⟩

theorem row_cons {w : World} {g n : Nat} {cs : List Con} (h : conRow w g 0 cs) (hl : cs.length = n) (hok : ∀ x ∈ cs, x.ok) (hz : n * 32 ≤ 140737488355328) : IsCons w (some ⟨g, 0, none⟩) n cs :=
  ⟨hl, hz, hok, fun _ => ⟨g, 0, rfl, h⟩⟩

theorem conRow.kept {w w' : World} {g : Nat} {cs : List Con} (h : conRow w g 0 cs) (hb : Below w.heap.size w w') : conRow w' g 0 cs := fun i c hc => conAt_kept (h i c hc) hb

theorem conRow.left {w : World} {g : Nat} {cs ds : List Con} (h : conRow w g 0 (cs ++ ds)) : conRow w g 0 cs := fun i c hc => h i c (by rw [List.getElem?_append_left (List.getElem?_eq_some_iff.1 hc).1]; exact hc)

def c77 : Con := ⟨77, 0, ⟨#[]⟩⟩
def cOne : Con := ⟨3, 0, ⟨#[111, 110, 101, 32, 109, 111, 114, 101]⟩⟩
def cFive : Con := ⟨1, -5, ⟨#[]⟩⟩
theorem cOne_ok : cOne.ok := ⟨by unfold I64 cOne; decide, by unfold I64 cOne; decide, by decide⟩
theorem cFive_ok : cFive.ok := ⟨by unfold I64 cFive; decide, by unfold I64 cFive; decide, by decide⟩

/-- A new value in a fresh block: what a statement 'x := append([]T{..}, y...)' has changed. -/
theorem fresh_below {W w' : World} {o : Obj} {n c : Nat} (hg : (W.alloc o).grownBy w' (Value.ownBlock (.slice (some ⟨W.heap.size, 0, none⟩) n c))) : Below W.heap.size W w' :=
  (below1a W o).trans ((Below.refl _ _).grown hg (by simp) (fun k hk => by
    have : W.heap.size = k := by simpa [Value.ownBlock] using hk
    omega))

theorem block_of {w : World} {base g n : Nat} {L : List Con} (h : Holds3 base w (.slice (some ⟨g, 0, none⟩) n n) L) : ∃ cur : Array Value, w.heap[g]? = some (.cells cur 24 (0, 0)) ∧ cur.size = n * 3 := by
  rcases h.2 with ⟨e, _⟩ | ⟨g', cap, cur, e, _, hh, _, _, r3, _⟩
  · cases e
  · cases e; exact ⟨cur, hh, r3⟩

theorem alone3 {W : World} {g0 g1 g2 n0 n1 n2 : Nat} (b0 : ∃ cur : Array Value, W.heap[g0]? = some (.cells cur 24 (0, 0)) ∧ cur.size = n0 * 3) (b1 : ∃ cur : Array Value, W.heap[g1]? = some (.cells cur 24 (0, 0)) ∧ cur.size = n1 * 3) (b2 : ∃ cur : Array Value, W.heap[g2]? = some (.cells cur 24 (0, 0)) ∧ cur.size = n2 * 3)
    (h01 : g0 < g1) (h12 : g1 < g2) (h2W : g2 < W.heap.size) (hn0 : n0 ≤ 4398046510978) (hn1 : n1 ≤ 4398046510978) (hn2 : n2 ≤ 4398046510978) :
    Calls Try.prog 7 #[.slice (some ⟨W.heap.size, 0, none⟩) 3 3] (W.alloc (.cells #[.slice (some ⟨g0, 0, none⟩) n0 n0, .slice (some ⟨g1, 0, none⟩) n1 n1, .slice (some ⟨g2, 0, none⟩) n2 n2] 22)) fun e w' => e = .returned (.bool true) ∧ Only (fun b => b = g0 ∨ b = g1 ∨ b = g2) (W.alloc (.cells #[.slice (some ⟨g0, 0, none⟩) n0 n0, .slice (some ⟨g1, 0, none⟩) n1 n1, .slice (some ⟨g2, 0, none⟩) n2 n2] 22)) w' := by
  have hz : (W.alloc (.cells #[.slice (some ⟨g0, 0, none⟩) n0 n0, .slice (some ⟨g1, 0, none⟩) n1 n1, .slice (some ⟨g2, 0, none⟩) n2 n2] 22)).heap.size = W.heap.size + 1 := by simp
  have blk : ∀ g n, g < W.heap.size → (∃ cur : Array Value, W.heap[g]? = some (.cells cur 24 (0, 0)) ∧ cur.size = n * 3) → ∃ cur : Array Value, (W.alloc (.cells #[.slice (some ⟨g0, 0, none⟩) n0 n0, .slice (some ⟨g1, 0, none⟩) n1 n1, .slice (some ⟨g2, 0, none⟩) n2 n2] 22)).heap[g]? = some (.cells cur 24 (0, 0)) ∧ cur.size = n * 3 := fun g n hg ⟨cur, e1, e2⟩ =>
    ⟨cur, by rw [(below1a W _).block g hg]; exact e1, e2⟩
  refine (alone_any (fun k => if k = 0 then g0 else if k = 1 then g1 else g2) (fun k => if k = 0 then n0 else if k = 1 then n1 else n2) W.heap.size _ ⟨fun k hk => ?_, fun k i _ hi => by omega, fun k hk => ?_⟩ (fun a b ha hb => ?_) (fun a ha => ?_) (fun k => ?_) (fun a ha => ?_) (by omega)).mono fun e w' ⟨he, ho⟩ => ⟨he, ho.mono fun b _ ⟨k, hk, e⟩ => ?_⟩
  · rcases (show k = 0 ∨ k = 1 ∨ k = 2 by omega) with rfl | rfl | rfl
    · exact blk g0 n0 (by omega) b0
    · exact blk g1 n1 (by omega) b1
    · exact blk g2 n2 (by omega) b2
  · rcases (show k = 0 ∨ k = 1 ∨ k = 2 by omega) with rfl | rfl | rfl
    · simp only [if_true]; go_simp
    · simp only [if_true]; go_simp
    · go_simp
  · rcases (show a = 0 ∨ a = 1 ∨ a = 2 by omega) with rfl | rfl | rfl <;> rcases (show b = 0 ∨ b = 1 ∨ b = 2 by omega) with rfl | rfl | rfl <;> simp <;> omega
  · rcases (show a = 0 ∨ a = 1 ∨ a = 2 by omega) with rfl | rfl | rfl <;> simp <;> omega
  · show (if k = 0 then n0 else if k = 1 then n1 else n2) ≤ _
    split
    · omega
    · split <;> omega
  · rw [hz]
    rcases (show a = 0 ∨ a = 1 ∨ a = 2 by omega) with rfl | rfl | rfl <;> simp <;> omega
  · rcases (show k = 0 ∨ k = 1 ∨ k = 2 by omega) with rfl | rfl | rfl
    · exact .inl e
    · exact .inr (.inl e)
    · exact .inr (.inr e)

theorem blk_kept {w w' : World} {g n : Nat} (h : ∃ cur : Array Value, w.heap[g]? = some (.cells cur 24 (0, 0)) ∧ cur.size = n * 3) (hb : Below w.heap.size w w') : ∃ cur : Array Value, w'.heap[g]? = some (.cells cur 24 (0, 0)) ∧ cur.size = n * 3 := by
  obtain ⟨cur, e1, e2⟩ := h
  exact ⟨cur, by rw [hb.block g (Array.getElem?_eq_some_iff.1 e1).1]; exact e1, e2⟩

theorem conRow.only {S : Nat → Prop} {w w' : World} {g : Nat} {cs : List Con} (h : conRow w g 0 cs) (ho : Only S w w') (hg : ¬ S g) : conRow w' g 0 cs := fun i c hc =>
  ⟨ho.cell (h i c hc).1 hg, ho.cell (h i c hc).2.1 hg, ho.cell (h i c hc).2.2 hg⟩

theorem hold_goal {p : Prop} (h : Hid p) : p := h.out

theorem perm_ok {L cs : List Con} (hp : L.Perm cs) (h : ∀ x ∈ cs, x.ok) : ∀ x ∈ L, x.ok := fun x hx => h x (hp.mem_iff.1 hx)

set_option maxHeartbeats 4000000 in
set_option maxRecDepth 100000 in
theorem symTally_walk (ao : Option Addr) (n cap : Nat) (cs : List Con) (w : World) (h : IsCons w ao n cs) (hc : n ≤ cap ∧ (ao = none → n = 0 ∧ cap = 0)) (hn : n * 32 ≤ 140737488351232) :
    Calls Try.prog 3 #[.slice ao n cap] w fun e w' => e = .returned (.bool true) ∧ Below w.heap.size w w' := by
  obtain ⟨i0, hi0, hz0, hz1, hz2⟩ := info_parts Try.info3
  have H1 := hide h
  have hl : Hid (cs.length = n) := h.1
  have hok : Hid (∀ x ∈ cs, x.ok) := h.2.2.1
  obtain ⟨hc1, hc2⟩ := hc
  clear h
  cases ao with
  | none =>
    obtain ⟨rfl, rfl⟩ := hc2 rfl
    go_enter Try.func3, Try.ntmps3
    go_wp2_with (at_builtin; refine wpList_append_own_none rfl _ _ 22 rfl w.heap.size 24 i0 3 Try.underlying22 hi0 (.slice (some ⟨w.heap.size, 0, none⟩) 0 0) 0 [] rfl (lit_own (k := 0) (xs := []) rfl (Nat.le_refl _) (by omega)) rfl ?_; refine hold_goal ?_)
    unfold Hid
    obtain ⟨w1, hw1⟩ : ∃ w1, w1 = w.alloc (.cells #[] 24) := ⟨_, rfl⟩
    rw [← hw1]
    have hcs : cs = [] := List.length_eq_zero_iff.1 hl.out
    have HK1 : Hid (w1.ownsRow w.heap.size 24 3 (.slice (some ⟨w.heap.size, 0, none⟩) 0 0) 0 (cs.flatMap cells3)) := by show World.ownsRow _ _ _ _ _ _ _; rw [hcs, hw1]; exact lit_own (k := 0) (xs := []) rfl (Nat.le_refl _) (by omega)
    have HB1 : Hid (Below w.heap.size w w1) := by show Below _ _ _; rw [hw1]; exact below1a _ _
    have hg1 : w.heap.size ≤ w.heap.size := Nat.le_refl _
    have hg1' : w.heap.size < w1.heap.size := by rw [hw1]; simp
    clear hw1 hcs H1
    have HR1 := hide (own_row HK1.out hl.out)
    go_wp2_with (at_builtin; refine wpList_append_own_at _ rfl _ _ 22 rfl w1.heap.size 24 i0 (.agg #[.int .i64 0, .int .i64 0, .string ⟨#[]⟩]) 3 32 Try.underlying22 hi0 hz0 hz1 hz2 rfl (by decide) (.slice (some ⟨w1.heap.size, 0, none⟩) 0 0) 0 [] rfl (lit_own (k := 0) (xs := []) rfl (Nat.le_refl _) (by omega)) ⟨w.heap.size, 0, none⟩ 0 0 (cs.flatMap cells3) rfl (by rw [len3, hl.out]) (flat3_src (HR1.out.kept (below1a _ _))) (one3 _) (by unfold maxLen; omega) (by omega) (by simp) ?_)
    intro v2 w2 hown2 hgrow2 hnil2 hat2
    try rw [Nat.zero_add, List.nil_append] at hown2
    obtain ⟨g2, c2, rfl, hg2, hg2', hc2⟩ := own_some hown2 hnil2
    have HB2 : Hid (Below w1.heap.size w1 w2) := fresh_below hgrow2
    have HK2 := hide hown2
    clear hown2 hgrow2 hnil2 hat2
    go_wp2_with (at_builtin; refine wpList_append_lies _ rfl _ _ 22 rfl w1.heap.size 24 i0 (.agg #[.int .i64 0, .int .i64 0, .string ⟨#[]⟩]) 3 32 Try.underlying22 hi0 hz0 hz1 hz2 rfl (by decide) (.slice (some ⟨g2, 0, none⟩) 0 c2) 0 (cs.flatMap cells3) rfl (World.ownsRow.alloc HK2.out _) ⟨w2.heap.size, 0, none⟩ 1 1 (cells3 c77) rfl rfl (World.news_of_block (cs := #[.int .i64 77, .int .i64 0, .string ⟨#[]⟩]) (t := 24) (fr := (0, 0)) (heap_alloc_new w2 _)) (by simp [cells3, Value.oneCell']) (by decide) (by unfold maxLen; omega) (by omega) (by have := HB2.out.size; simp; omega) (w2.heap.size + 1) (by simp) ?_)
    intro g3 c3 w3 hown3 hgrow3 hat3 hlt3
    have HB3 : Hid (Below w1.heap.size w1 w3) := (HB2.out.alloc HB2.out.size _).grown hgrow3 (Nat.le_trans HB2.out.size (by simp)) (fun k hk => by
      have : g2 = k := by simpa [Value.ownBlock] using hk
      omega)
    have HR3 : Hid (conRow w3 g3 0 (cs ++ [c77])) := own_row (base := w1.heap.size) (n := 1) (c := c3) (by rw [List.flatMap_append]; exact hown3) (by simp [hl.out])
    have hn3 : 1 ≤ c3 := by
      rcases hown3.2 with ⟨e, _⟩ | ⟨g', cap', cur, e, _, _, r1, _⟩
      · cases e
      · cases e; exact r1
    have hn3' : (0 : Int) ≤ (c3 : Int) := by omega
    clear hown3 hgrow3 hat3 HK2 HB2 hc2
    have HR1b := hide (HR1.out.kept HB3.out)
    go_wp2_with (at_builtin; refine wpList_append_own_at _ rfl _ _ 22 rfl w3.heap.size 24 i0 (.agg #[.int .i64 0, .int .i64 0, .string ⟨#[]⟩]) 3 32 Try.underlying22 hi0 hz0 hz1 hz2 rfl (by decide) (.slice (some ⟨w3.heap.size, 0, none⟩) 2 2) 2 ([cOne, cFive].flatMap cells3) rfl (lit_own (k := 2) (xs := ([cOne, cFive].flatMap cells3)) rfl (Nat.le_refl _) (by omega)) ⟨w.heap.size, 0, none⟩ 0 0 (cs.flatMap cells3) rfl (by rw [len3, hl.out]) (flat3_src (HR1b.out.kept (below1a _ _))) (one3 _) (by unfold maxLen; omega) (by omega) (by simp) ?_)
    intro v4 w4 hown4 hgrow4 hnil4 hat4
    obtain ⟨g4, c4, rfl, hg4, hg4', hc4⟩ := own_some hown4 hnil4
    have HB4 : Hid (Below w3.heap.size w3 w4) := fresh_below hgrow4
    have HR4 : Hid (conRow w4 g4 0 ([cOne, cFive] ++ cs)) := own_row (base := w3.heap.size) (n := 2) (c := c4) (by rw [List.flatMap_append]; exact hown4) (by simp [hl.out] <;> omega)
    clear hown4 hgrow4 hnil4 hat4 HR1b
    have hok2 : Hid (∀ x ∈ [cOne, cFive] ++ cs, x.ok) := fun x hx => by
      rcases List.mem_append.1 hx with hx | hx
      · simp only [List.mem_cons, List.not_mem_nil, or_false] at hx
        rcases hx with rfl | rfl
        · exact cOne_ok
        · exact cFive_ok
      · exact hok.out x hx
    have HK4 : Hid (conRow w4 w.heap.size 0 cs) := (HR1.out.kept HB3.out).kept HB4.out
    have HC4 : Hid (conRow w4 g3 0 (cs ++ [c77])) := HR3.out.kept HB4.out
    have HS1 := hide (sort_at (some ⟨g3, 0, none⟩) 0 c3 cs w4 (row_cons HC4.out.left hl.out hok.out (by omega)))
    go_wp2_with (go_at_call 5; refine HS1.out.mono ?_; rintro e w5 ⟨Ll, rfl, hl5⟩; revert hl5)
    intro h5 s5 p5 b5
    have HH5 := hide h5
    have S5 := hide s5
    have P5 := hide p5
    have B5 := hide b5
    clear h5 s5 p5 b5 HS1
    have HS2 := hide (sort_at (some ⟨g4, 0, none⟩) (2) c4 ([cOne, cFive] ++ cs) w5 (row_cons (HR4.out.kept B5.out) (by simp [hl.out] <;> omega) hok2.out (by omega)))
    go_wp2_with (go_at_call 5; refine HS2.out.mono ?_; rintro e w6 ⟨Lm, rfl, hl6⟩; revert hl6)
    intro h6 s6 p6 b6
    have HH6 := hide h6
    have S6 := hide s6
    have P6 := hide p6
    have B6 := hide b6
    clear h6 s6 p6 b6 HS2
    have HC6 : Hid (conRow w6 g3 0 (cs ++ [c77])) := (HC4.out.kept B5.out).kept B6.out
    have HS3 := hide (sort_at (some ⟨g3, 0, none⟩) 0 c3 cs w6 (row_cons HC6.out.left hl.out hok.out (by omega)))
    go_wp2_with (go_at_call 5; refine HS3.out.mono ?_; rintro e w7 ⟨Lk, rfl, hl7⟩; revert hl7)
    intro h7 s7 p7 b7
    have HH7 := hide h7
    have S7 := hide s7
    have P7 := hide p7
    have B7 := hide b7
    clear h7 s7 p7 b7 HS3
    have eL : Hid (Ll.length = 0) := P5.out.length_eq.trans hl.out
    have eM : Hid (Lm.length = 2) := P6.out.length_eq.trans (by simp [hl.out] <;> omega)
    have eK : Hid (Lk.length = 0) := P7.out.length_eq.trans hl.out
    have RL : Hid (conRow w7 w4.heap.size 0 Ll) := ((own_row (base := w4.heap.size) (n := 0) (c := 0) (by have := HH5.out; unfold Holds3 at this; rw [eL.out] at this; exact this) eL.out).kept B6.out).kept B7.out
    have RM : Hid (conRow w7 w5.heap.size 0 Lm) := (own_row (base := w5.heap.size) (n := 2) (c := 2) (by have := HH6.out; unfold Holds3 at this; rw [eM.out] at this; exact this) eM.out).kept B7.out
    have RK : Hid (conRow w7 w6.heap.size 0 Lk) := own_row (base := w6.heap.size) (n := 0) (c := 0) (by have := HH7.out; unfold Holds3 at this; rw [eK.out] at this; exact this) eK.out
    have B47 : Hid (Below w4.heap.size w4 w7) := B5.out.trans ((B6.out.trans (B7.out.mono B6.out.size)).mono B5.out.size)
    have RC : Hid (conRow w7 w.heap.size 0 cs) := HK4.out.kept B47.out
    have RO : Hid (conRow w7 g4 0 ([cOne, cFive] ++ cs)) := HR4.out.kept B47.out
    have T1 := hide (fun W (hb : Below w7.heap.size w7 W) => told_sorted (some ⟨w4.heap.size, 0, none⟩) (some ⟨w.heap.size, 0, none⟩) 0 0 0 Ll cs W (row_cons (RL.out.kept hb) eL.out (perm_ok P5.out hok.out) (by omega)) (row_cons (RC.out.kept hb) hl.out hok.out (by omega)) S5.out P5.out)
    have T2 := hide (fun W (hb : Below w7.heap.size w7 W) => told_sorted (some ⟨w5.heap.size, 0, none⟩) (some ⟨g4, 0, none⟩) (2) (2) c4 Lm ([cOne, cFive] ++ cs) W (row_cons (RM.out.kept hb) eM.out (perm_ok P6.out hok2.out) (by omega)) (row_cons (RO.out.kept hb) (by simp [hl.out] <;> omega) hok2.out (by omega)) S6.out P6.out)
    have T3 := hide (fun W (hb : Below w7.heap.size w7 W) => told_sorted (some ⟨w6.heap.size, 0, none⟩) (some ⟨w.heap.size, 0, none⟩) 0 0 0 Lk cs W (row_cons (RK.out.kept hb) eK.out (perm_ok P7.out hok.out) (by omega)) (row_cons (RC.out.kept hb) hl.out hok.out (by omega)) S7.out P7.out)
    have z5 := B5.out.size
    have z6 := B6.out.size
    have z7 := B7.out.size
    have y4 : w4.heap.size < w5.heap.size := by obtain ⟨cur, hh, _⟩ := block_of HH5.out; exact (Array.getElem?_eq_some_iff.1 hh).1
    have y5 : w5.heap.size < w6.heap.size := by obtain ⟨cur, hh, _⟩ := block_of HH6.out; exact (Array.getElem?_eq_some_iff.1 hh).1
    have y6 : w6.heap.size < w7.heap.size := by obtain ⟨cur, hh, _⟩ := block_of HH7.out; exact (Array.getElem?_eq_some_iff.1 hh).1
    have HTo : Hid (∀ v u W, ((v = .slice (some ⟨w4.heap.size, 0, none⟩) 0 0 ∧ u = .slice (some ⟨w.heap.size, 0, none⟩) 0 0) ∨ (v = .slice (some ⟨w5.heap.size, 0, none⟩) (2) (2) ∧ u = .slice (some ⟨g4, 0, none⟩) (2) c4) ∨ (v = .slice (some ⟨w6.heap.size, 0, none⟩) 0 0 ∧ u = .slice (some ⟨w.heap.size, 0, none⟩) 0 0)) → Below w7.heap.size w7 W → Calls Try.prog 6 #[v, u] W fun e w' => e = .returned (.bool true) ∧ Below W.heap.size W w') := by
      rintro v u W (⟨rfl, rfl⟩ | ⟨rfl, rfl⟩ | ⟨rfl, rfl⟩) hb
      · exact T1.out W hb
      · exact T2.out W hb
      · exact T3.out W hb
    have HAl : Hid (∀ W, Below w7.heap.size w7 W → Calls Try.prog 7 #[.slice (some ⟨W.heap.size, 0, none⟩) 3 3] (W.alloc (.cells #[.slice (some ⟨w4.heap.size, 0, none⟩) 0 0, .slice (some ⟨w5.heap.size, 0, none⟩) (2) (2), .slice (some ⟨w6.heap.size, 0, none⟩) 0 0] 22)) fun e w' => e = .returned (.bool true) ∧ Only (fun b => b = w4.heap.size ∨ b = w5.heap.size ∨ b = w6.heap.size) (W.alloc (.cells #[.slice (some ⟨w4.heap.size, 0, none⟩) 0 0, .slice (some ⟨w5.heap.size, 0, none⟩) (2) (2), .slice (some ⟨w6.heap.size, 0, none⟩) 0 0] 22)) w') := fun W hb =>
      alone3 (blk_kept (blk_kept (blk_kept (block_of HH5.out) B6.out) B7.out) hb) (blk_kept (blk_kept (block_of HH6.out) B7.out) hb) (blk_kept (block_of HH7.out) hb) y4 y5 (Nat.lt_of_lt_of_le y6 hb.size) (by omega) (by omega) (by omega)
    have HC7 := hide (HC6.out.kept B7.out)
    clear T1 T2 T3 HH5 HH6 HH7 S5 S6 S7 P5 P6 P7 RL RM RK RO eL eM eK HR3 HR4 HC4 HK4 HR1 HC6
    have HB := hide (Below.refl w7.heap.size w7)
    go_wp2_with (first
      | (go_at_call 6; refine (HTo.out _ _ _ (by first | exact .inl ⟨rfl, rfl⟩ | exact .inr (.inl ⟨rfl, rfl⟩) | exact .inr (.inr ⟨rfl, rfl⟩)) HB.out).mono ?_; rintro e w8 ⟨rfl, hz8⟩; have HB := hide (HB.out.trans (hz8.mono HB.out.size)); clear hz8)
      | (go_at_call 7; refine (HAl.out _ HB.out).mono ?_; rintro e w11 ⟨rfl, hO⟩; revert hO))
    intro hO
    have x3 := HB3.out.size
    have x4 := HB4.out.size
    have x7 := B47.out.size
    have xB := HB.out.size
    have x1 := HB1.out.size
    have R1 : Hid (conRow w11 w.heap.size 0 cs) := ((RC.out.kept HB.out).kept (below1a _ _)).only hO (by rintro (e | e | e) <;> omega)
    have R3 : Hid (conRow w11 g3 0 (cs ++ [c77])) := ((HC7.out.kept HB.out).kept (below1a _ _)).only hO (by rintro (e | e | e) <;> omega)
    have BE : Hid (Below w.heap.size w w11) := by
      have a1 := HB1.out.trans (HB3.out.mono x1)
      have a2 := a1.trans (HB4.out.mono (by omega))
      have a3 := a2.trans (B47.out.mono (by omega))
      have a4 := a3.trans (HB.out.mono (by omega))
      have a5 := a4.alloc (by omega) (.cells #[.slice (some ⟨w4.heap.size, 0, none⟩) 0 0, .slice (some ⟨w5.heap.size, 0, none⟩) (2) (2), .slice (some ⟨w6.heap.size, 0, none⟩) 0 0] 22)
      exact a5.trans (hO.below (by simp; omega) (fun k hk => by rintro (e | e | e) <;> omega))
    clear hO HTo HAl HC7 RC HB B47 HB1 HB3 HB4 B5 B6 B7 x3 x4 x7 xB x1 y4 y5 y6 z5 z6 z7
    go_wp2
    go_loopw [10] (fun i wr => ∃ k : Nat, k ≤ 0 ∧ i = .int .i64 k ∧ Hid (Below w11.heap.size w11 wr)) (fun i _ => 0 - (intOf i).toNat)
    case atStart => exact ⟨0, by omega, rfl, Below.refl _ _⟩
    case round =>
      obtain ⟨k, hk, rfl, HB⟩ := hrel
      by_cases hlt : k < 0
      · exact absurd hlt (by omega)
      · have hi : ¬ (k : Int) < (0 : Int) := by omega
        have hx2 : (cs ++ [c77])[0]? = some c77 := by rw [List.getElem?_append_right (by rw [hl.out]; exact Nat.le_refl _), hl.out]; simp
        have q1 := conAt_kept (R3.out 0 c77 hx2) HB.out
        rw [Nat.zero_add] at q1
        have x0 : wr.cell? ⟨g3, 0, none⟩ = some (.int .i64 77) := q1.1
        have hin : (0 : Int) < (0 : Int) + 1 := by omega
        have HE := hide (BE.out.trans (HB.out.mono BE.out.size))
        clear q1 hx2
        go_wp2
        go_ret
        exact ⟨rfl, HE.out⟩
  | some a =>
    clear hc2
    have hc3 : (n : Int) ≤ (cap : Int) := by omega
    go_enter Try.func3, Try.ntmps3
    go_wp2_with (at_builtin; refine wpList_append_own_at _ rfl _ _ 22 rfl w.heap.size 24 i0 (.agg #[.int .i64 0, .int .i64 0, .string ⟨#[]⟩]) 3 32 Try.underlying22 hi0 hz0 hz1 hz2 rfl (by decide) (.slice (some ⟨w.heap.size, 0, none⟩) 0 0) 0 [] rfl (lit_own (k := 0) (xs := []) rfl (Nat.le_refl _) (by omega)) a n cap (cs.flatMap cells3) rfl (by rw [len3, hl.out]) (src_cons (H1.out.kept (below1a _ _))) (one3 _) (by unfold maxLen; omega) (by omega) (by simp) ?_)
    intro v1 w1 hown1 hgrow1 hnil1 hat1
    try rw [Nat.zero_add, List.nil_append] at hown1
    obtain ⟨g1, c1, rfl, hg1, hg1', hc1'⟩ := own_some hown1 hnil1
    have HB1 : Hid (Below w.heap.size w w1) := fresh_below hgrow1
    have HK1 := hide hown1
    clear hown1 hgrow1 hnil1 hat1 H1
    have HR1 := hide (own_row HK1.out hl.out)
    go_wp2_with (at_builtin; refine wpList_append_own_at _ rfl _ _ 22 rfl w1.heap.size 24 i0 (.agg #[.int .i64 0, .int .i64 0, .string ⟨#[]⟩]) 3 32 Try.underlying22 hi0 hz0 hz1 hz2 rfl (by decide) (.slice (some ⟨w1.heap.size, 0, none⟩) 0 0) 0 [] rfl (lit_own (k := 0) (xs := []) rfl (Nat.le_refl _) (by omega)) ⟨g1, 0, none⟩ n c1 (cs.flatMap cells3) rfl (by rw [len3, hl.out]) (flat3_src (HR1.out.kept (below1a _ _))) (one3 _) (by unfold maxLen; omega) (by omega) (by simp) ?_)
    intro v2 w2 hown2 hgrow2 hnil2 hat2
    try rw [Nat.zero_add, List.nil_append] at hown2
    obtain ⟨g2, c2, rfl, hg2, hg2', hc2⟩ := own_some hown2 hnil2
    have HB2 : Hid (Below w1.heap.size w1 w2) := fresh_below hgrow2
    have HK2 := hide hown2
    clear hown2 hgrow2 hnil2 hat2
    go_wp2_with (at_builtin; refine wpList_append_lies _ rfl _ _ 22 rfl w1.heap.size 24 i0 (.agg #[.int .i64 0, .int .i64 0, .string ⟨#[]⟩]) 3 32 Try.underlying22 hi0 hz0 hz1 hz2 rfl (by decide) (.slice (some ⟨g2, 0, none⟩) n c2) n (cs.flatMap cells3) rfl (World.ownsRow.alloc HK2.out _) ⟨w2.heap.size, 0, none⟩ 1 1 (cells3 c77) rfl rfl (World.news_of_block (cs := #[.int .i64 77, .int .i64 0, .string ⟨#[]⟩]) (t := 24) (fr := (0, 0)) (heap_alloc_new w2 _)) (by simp [cells3, Value.oneCell']) (by decide) (by unfold maxLen; omega) (by omega) (by have := HB2.out.size; simp; omega) (w2.heap.size + 1) (by simp) ?_)
    intro g3 c3 w3 hown3 hgrow3 hat3 hlt3
    have HB3 : Hid (Below w1.heap.size w1 w3) := (HB2.out.alloc HB2.out.size _).grown hgrow3 (Nat.le_trans HB2.out.size (by simp)) (fun k hk => by
      have : g2 = k := by simpa [Value.ownBlock] using hk
      omega)
    have HR3 : Hid (conRow w3 g3 0 (cs ++ [c77])) := own_row (base := w1.heap.size) (n := n + 1) (c := c3) (by rw [List.flatMap_append]; exact hown3) (by simp [hl.out])
    have hn3 : n + 1 ≤ c3 := by
      rcases hown3.2 with ⟨e, _⟩ | ⟨g', cap', cur, e, _, _, r1, _⟩
      · cases e
      · cases e; exact r1
    have hn3' : (n : Int) ≤ (c3 : Int) := by omega
    clear hown3 hgrow3 hat3 HK2 HB2 hc2
    have HR1b := hide (HR1.out.kept HB3.out)
    go_wp2_with (at_builtin; refine wpList_append_own_at _ rfl _ _ 22 rfl w3.heap.size 24 i0 (.agg #[.int .i64 0, .int .i64 0, .string ⟨#[]⟩]) 3 32 Try.underlying22 hi0 hz0 hz1 hz2 rfl (by decide) (.slice (some ⟨w3.heap.size, 0, none⟩) 2 2) 2 ([cOne, cFive].flatMap cells3) rfl (lit_own (k := 2) (xs := ([cOne, cFive].flatMap cells3)) rfl (Nat.le_refl _) (by omega)) ⟨g1, 0, none⟩ n c1 (cs.flatMap cells3) rfl (by rw [len3, hl.out]) (flat3_src (HR1b.out.kept (below1a _ _))) (one3 _) (by unfold maxLen; omega) (by omega) (by simp) ?_)
    intro v4 w4 hown4 hgrow4 hnil4 hat4
    obtain ⟨g4, c4, rfl, hg4, hg4', hc4⟩ := own_some hown4 hnil4
    have HB4 : Hid (Below w3.heap.size w3 w4) := fresh_below hgrow4
    have HR4 : Hid (conRow w4 g4 0 ([cOne, cFive] ++ cs)) := own_row (base := w3.heap.size) (n := 2 + n) (c := c4) (by rw [List.flatMap_append]; exact hown4) (by simp [hl.out] <;> omega)
    clear hown4 hgrow4 hnil4 hat4 HR1b
    have hok2 : Hid (∀ x ∈ [cOne, cFive] ++ cs, x.ok) := fun x hx => by
      rcases List.mem_append.1 hx with hx | hx
      · simp only [List.mem_cons, List.not_mem_nil, or_false] at hx
        rcases hx with rfl | rfl
        · exact cOne_ok
        · exact cFive_ok
      · exact hok.out x hx
    have HK4 : Hid (conRow w4 g1 0 cs) := (HR1.out.kept HB3.out).kept HB4.out
    have HC4 : Hid (conRow w4 g3 0 (cs ++ [c77])) := HR3.out.kept HB4.out
    have HS1 := hide (sort_at (some ⟨g3, 0, none⟩) n c3 cs w4 (row_cons HC4.out.left hl.out hok.out (by omega)))
    go_wp2_with (go_at_call 5; refine HS1.out.mono ?_; rintro e w5 ⟨Ll, rfl, hl5⟩; revert hl5)
    intro h5 s5 p5 b5
    have HH5 := hide h5
    have S5 := hide s5
    have P5 := hide p5
    have B5 := hide b5
    clear h5 s5 p5 b5 HS1
    have HS2 := hide (sort_at (some ⟨g4, 0, none⟩) (2 + n) c4 ([cOne, cFive] ++ cs) w5 (row_cons (HR4.out.kept B5.out) (by simp [hl.out] <;> omega) hok2.out (by omega)))
    go_wp2_with (go_at_call 5; refine HS2.out.mono ?_; rintro e w6 ⟨Lm, rfl, hl6⟩; revert hl6)
    intro h6 s6 p6 b6
    have HH6 := hide h6
    have S6 := hide s6
    have P6 := hide p6
    have B6 := hide b6
    clear h6 s6 p6 b6 HS2
    have HC6 : Hid (conRow w6 g3 0 (cs ++ [c77])) := (HC4.out.kept B5.out).kept B6.out
    have HS3 := hide (sort_at (some ⟨g3, 0, none⟩) n c3 cs w6 (row_cons HC6.out.left hl.out hok.out (by omega)))
    go_wp2_with (go_at_call 5; refine HS3.out.mono ?_; rintro e w7 ⟨Lk, rfl, hl7⟩; revert hl7)
    intro h7 s7 p7 b7
    have HH7 := hide h7
    have S7 := hide s7
    have P7 := hide p7
    have B7 := hide b7
    clear h7 s7 p7 b7 HS3
    have eL : Hid (Ll.length = n) := P5.out.length_eq.trans hl.out
    have eM : Hid (Lm.length = 2 + n) := P6.out.length_eq.trans (by simp [hl.out] <;> omega)
    have eK : Hid (Lk.length = n) := P7.out.length_eq.trans hl.out
    have RL : Hid (conRow w7 w4.heap.size 0 Ll) := ((own_row (base := w4.heap.size) (n := n) (c := n) (by have := HH5.out; unfold Holds3 at this; rw [eL.out] at this; exact this) eL.out).kept B6.out).kept B7.out
    have RM : Hid (conRow w7 w5.heap.size 0 Lm) := (own_row (base := w5.heap.size) (n := 2 + n) (c := 2 + n) (by have := HH6.out; unfold Holds3 at this; rw [eM.out] at this; exact this) eM.out).kept B7.out
    have RK : Hid (conRow w7 w6.heap.size 0 Lk) := own_row (base := w6.heap.size) (n := n) (c := n) (by have := HH7.out; unfold Holds3 at this; rw [eK.out] at this; exact this) eK.out
    have B47 : Hid (Below w4.heap.size w4 w7) := B5.out.trans ((B6.out.trans (B7.out.mono B6.out.size)).mono B5.out.size)
    have RC : Hid (conRow w7 g1 0 cs) := HK4.out.kept B47.out
    have RO : Hid (conRow w7 g4 0 ([cOne, cFive] ++ cs)) := HR4.out.kept B47.out
    have T1 := hide (fun W (hb : Below w7.heap.size w7 W) => told_sorted (some ⟨w4.heap.size, 0, none⟩) (some ⟨g1, 0, none⟩) n n c1 Ll cs W (row_cons (RL.out.kept hb) eL.out (perm_ok P5.out hok.out) (by omega)) (row_cons (RC.out.kept hb) hl.out hok.out (by omega)) S5.out P5.out)
    have T2 := hide (fun W (hb : Below w7.heap.size w7 W) => told_sorted (some ⟨w5.heap.size, 0, none⟩) (some ⟨g4, 0, none⟩) (2 + n) (2 + n) c4 Lm ([cOne, cFive] ++ cs) W (row_cons (RM.out.kept hb) eM.out (perm_ok P6.out hok2.out) (by omega)) (row_cons (RO.out.kept hb) (by simp [hl.out] <;> omega) hok2.out (by omega)) S6.out P6.out)
    have T3 := hide (fun W (hb : Below w7.heap.size w7 W) => told_sorted (some ⟨w6.heap.size, 0, none⟩) (some ⟨g1, 0, none⟩) n n c1 Lk cs W (row_cons (RK.out.kept hb) eK.out (perm_ok P7.out hok.out) (by omega)) (row_cons (RC.out.kept hb) hl.out hok.out (by omega)) S7.out P7.out)
    have z5 := B5.out.size
    have z6 := B6.out.size
    have z7 := B7.out.size
    have y4 : w4.heap.size < w5.heap.size := by obtain ⟨cur, hh, _⟩ := block_of HH5.out; exact (Array.getElem?_eq_some_iff.1 hh).1
    have y5 : w5.heap.size < w6.heap.size := by obtain ⟨cur, hh, _⟩ := block_of HH6.out; exact (Array.getElem?_eq_some_iff.1 hh).1
    have y6 : w6.heap.size < w7.heap.size := by obtain ⟨cur, hh, _⟩ := block_of HH7.out; exact (Array.getElem?_eq_some_iff.1 hh).1
    have HTo : Hid (∀ v u W, ((v = .slice (some ⟨w4.heap.size, 0, none⟩) n n ∧ u = .slice (some ⟨g1, 0, none⟩) n c1) ∨ (v = .slice (some ⟨w5.heap.size, 0, none⟩) (2 + n) (2 + n) ∧ u = .slice (some ⟨g4, 0, none⟩) (2 + n) c4) ∨ (v = .slice (some ⟨w6.heap.size, 0, none⟩) n n ∧ u = .slice (some ⟨g1, 0, none⟩) n c1)) → Below w7.heap.size w7 W → Calls Try.prog 6 #[v, u] W fun e w' => e = .returned (.bool true) ∧ Below W.heap.size W w') := by
      rintro v u W (⟨rfl, rfl⟩ | ⟨rfl, rfl⟩ | ⟨rfl, rfl⟩) hb
      · exact T1.out W hb
      · exact T2.out W hb
      · exact T3.out W hb
    have HAl : Hid (∀ W, Below w7.heap.size w7 W → Calls Try.prog 7 #[.slice (some ⟨W.heap.size, 0, none⟩) 3 3] (W.alloc (.cells #[.slice (some ⟨w4.heap.size, 0, none⟩) n n, .slice (some ⟨w5.heap.size, 0, none⟩) (2 + n) (2 + n), .slice (some ⟨w6.heap.size, 0, none⟩) n n] 22)) fun e w' => e = .returned (.bool true) ∧ Only (fun b => b = w4.heap.size ∨ b = w5.heap.size ∨ b = w6.heap.size) (W.alloc (.cells #[.slice (some ⟨w4.heap.size, 0, none⟩) n n, .slice (some ⟨w5.heap.size, 0, none⟩) (2 + n) (2 + n), .slice (some ⟨w6.heap.size, 0, none⟩) n n] 22)) w') := fun W hb =>
      alone3 (blk_kept (blk_kept (blk_kept (block_of HH5.out) B6.out) B7.out) hb) (blk_kept (blk_kept (block_of HH6.out) B7.out) hb) (blk_kept (block_of HH7.out) hb) y4 y5 (Nat.lt_of_lt_of_le y6 hb.size) (by omega) (by omega) (by omega)
    have HC7 := hide (HC6.out.kept B7.out)
    clear T1 T2 T3 HH5 HH6 HH7 S5 S6 S7 P5 P6 P7 RL RM RK RO eL eM eK HR3 HR4 HC4 HK4 HR1 HC6
    have HB := hide (Below.refl w7.heap.size w7)
    go_wp2_with (first
      | (go_at_call 6; refine (HTo.out _ _ _ (by first | exact .inl ⟨rfl, rfl⟩ | exact .inr (.inl ⟨rfl, rfl⟩) | exact .inr (.inr ⟨rfl, rfl⟩)) HB.out).mono ?_; rintro e w8 ⟨rfl, hz8⟩; have HB := hide (HB.out.trans (hz8.mono HB.out.size)); clear hz8)
      | (go_at_call 7; refine (HAl.out _ HB.out).mono ?_; rintro e w11 ⟨rfl, hO⟩; revert hO))
    intro hO
    have x3 := HB3.out.size
    have x4 := HB4.out.size
    have x7 := B47.out.size
    have xB := HB.out.size
    have x1 := HB1.out.size
    have R1 : Hid (conRow w11 g1 0 cs) := ((RC.out.kept HB.out).kept (below1a _ _)).only hO (by rintro (e | e | e) <;> omega)
    have R3 : Hid (conRow w11 g3 0 (cs ++ [c77])) := ((HC7.out.kept HB.out).kept (below1a _ _)).only hO (by rintro (e | e | e) <;> omega)
    have BE : Hid (Below w.heap.size w w11) := by
      have a1 := HB1.out.trans (HB3.out.mono x1)
      have a2 := a1.trans (HB4.out.mono (by omega))
      have a3 := a2.trans (B47.out.mono (by omega))
      have a4 := a3.trans (HB.out.mono (by omega))
      have a5 := a4.alloc (by omega) (.cells #[.slice (some ⟨w4.heap.size, 0, none⟩) n n, .slice (some ⟨w5.heap.size, 0, none⟩) (2 + n) (2 + n), .slice (some ⟨w6.heap.size, 0, none⟩) n n] 22)
      exact a5.trans (hO.below (by simp; omega) (fun k hk => by rintro (e | e | e) <;> omega))
    clear hO HTo HAl HC7 RC HB B47 HB1 HB3 HB4 B5 B6 B7 x3 x4 x7 xB x1 y4 y5 y6 z5 z6 z7
    go_wp2
    go_loopw [10] (fun i wr => ∃ k : Nat, k ≤ n ∧ i = .int .i64 k ∧ Hid (Below w11.heap.size w11 wr)) (fun i _ => n - (intOf i).toNat)
    case atStart => exact ⟨0, by omega, rfl, Below.refl _ _⟩
    case round =>
      obtain ⟨k, hk, rfl, HB⟩ := hrel
      by_cases hlt : k < n
      · have hi : (k : Int) < (n : Int) := by omega
        obtain ⟨x, hx⟩ : ∃ x, cs[k]? = some x := ⟨_, List.getElem?_eq_getElem (by rw [hl.out]; exact hlt)⟩
        have hx2 : (cs ++ [c77])[k]? = some x := by rw [List.getElem?_append_left (by rw [hl.out]; exact hlt)]; exact hx
        have q1 := conAt_kept (R3.out k x hx2) HB.out
        have q2 := conAt_kept (R1.out k x hx) HB.out
        rw [Nat.zero_add] at q1 q2
        obtain ⟨x0, x1, x2⟩ := q1
        obtain ⟨y0, y1, y2⟩ := q2
        have hq : ∀ W, (binOp .neq 24 (.agg #[.int .i64 x.k, .int .i64 x.n, .string x.s]) (.agg #[.int .i64 x.k, .int .i64 x.n, .string x.s])).run Try.prog W = .ok (.bool false) W := fun W => by
          have := neqCon x x W
          rw [conEq_refl] at this
          exact this
        clear hx hx2
        go_wp2
        refine wp_region_over (fun W => W = wr) (by kernel_rfl) (by kernel_rfl) rfl ?_
        rintro W rfl
        have x0' := over_cell x0
        have x1' := over_cell x1
        have x2' := over_cell x2
        have y0' := over_cell y0
        have y1' := over_cell y1
        have y2' := over_cell y2
        clear x0 x1 x2 y0 y1 y2
        repeat (go_big_quiet_step (first | fail))
        refine wpQuiet_nil ?_
        rintro _ ⟨z, rfl⟩
        have HB3 := hide (HB.out.trans ((over_below W z).mono HB.out.size))
        clear x0' x1' x2' y0' y1' y2'
        go_wp2
        go_roundw
        case rel => exact ⟨k + 1, by omega, by go_num, HB3⟩
        case measure => simp [intOf]; omega
      · have hi : ¬ (k : Int) < (n : Int) := by omega
        have hx2 : (cs ++ [c77])[n]? = some c77 := by rw [List.getElem?_append_right (by rw [hl.out]; exact Nat.le_refl _), hl.out]; simp
        have q1 := conAt_kept (R3.out n c77 hx2) HB.out
        rw [Nat.zero_add] at q1
        have x0 : wr.cell? ⟨g3, n * 3, none⟩ = some (.int .i64 77) := q1.1
        have hin : (n : Int) < (n : Int) + 1 := by omega
        have HE := hide (BE.out.trans (HB.out.mono BE.out.size))
        clear q1 hx2
        go_wp2
        go_ret
        exact ⟨rfl, HE.out⟩
end Go.Proofs.Ytpkpajjdpiebfaa
