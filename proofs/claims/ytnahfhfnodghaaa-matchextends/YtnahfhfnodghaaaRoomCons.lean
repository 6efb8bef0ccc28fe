/- edictlaw06.roomyConsts, untouchedConsts. -/
import Derived.Test.YtnahfhfnodghaaaRoomMem
import Derived.Test.YtnahfhfnodghaaaConEq
namespace Go.Proofs.Ytnahfhfnodghaaa
set_option linter.unusedSimpArgs false
set_option linter.unusedVariables false
open Go.RowKit

/-- Rows of things of one size, laid flat. -/
theorem flatN {α : Type} (f : α → List Value) (size : Nat) (hs : ∀ x, (f x).length = size) : ∀ (ks : List α) (i j : Nat) (k : α), ks[i]? = some k → j < size → (ks.flatMap f)[i * size + j]? = (f k)[j]?
  | [], i, j, k, h, _ => by simp at h
  | a :: r, 0, j, k, h, hj => by
    simp only [List.getElem?_cons_zero, Option.some.injEq] at h
    subst h
    rw [List.flatMap_cons, Nat.zero_mul, Nat.zero_add, List.getElem?_append_left (by rw [hs]; exact hj)]
  | a :: r, i + 1, j, k, h, hj => by
    rw [List.getElem?_cons_succ] at h
    rw [List.flatMap_cons, List.getElem?_append_right (by rw [hs, Nat.succ_mul]; omega), hs, ← flatN f size hs r i j k h hj]
    congr 1
    rw [Nat.succ_mul]
    omega

theorem flatN_len {α : Type} (f : α → List Value) (size : Nat) (hs : ∀ x, (f x).length = size) (l : List α) : (l.flatMap f).length = l.length * size := by
  induction l with
  | nil => simp
  | cons a r ih => rw [List.flatMap_cons, List.length_append, ih, hs, List.length_cons, Nat.succ_mul]; omega

/-- Every place of the flat row is a place of one thing. -/
theorem flatN_at {α : Type} (f : α → List Value) (size : Nat) (hs : ∀ x, (f x).length = size) (hsz : 0 < size) {l : List α} {j : Nat} {u : Value} (h : (l.flatMap f)[j]? = some u) : ∃ i k x, j = i * size + k ∧ k < size ∧ l[i]? = some x ∧ (f x)[k]? = some u := by
  have hj : j < l.length * size := by
    have := (List.getElem?_eq_some_iff.1 h).1
    rw [flatN_len f size hs] at this; exact this
  have hd : j / size < l.length := (Nat.div_lt_iff_lt_mul hsz).2 hj
  obtain ⟨x, hx⟩ : ∃ x, l[j / size]? = some x := ⟨_, List.getElem?_eq_getElem hd⟩
  have e : j = j / size * size + j % size := by rw [Nat.mul_comm]; exact (Nat.div_add_mod j size).symm
  have hm : j % size < size := Nat.mod_lt _ hsz
  refine ⟨j / size, j % size, x, e, hm, hx, ?_⟩
  rw [← flatN f size hs l _ _ x hx hm, ← e]
  exact h

theorem isCons_kept {w w' : World} {ao : Option Addr} {len : Nat} {cs : List Con} (h : IsCons w ao len cs) (hb : Below w.heap.size w w') : IsCons w' ao len cs :=
  ⟨h.1, h.2.1, h.2.2.1, fun hl => by obtain ⟨b, o, e, hr⟩ := h.2.2.2 hl; exact ⟨b, o, e, fun i c hi => conAt_kept (hr i c hi) hb⟩⟩

def conV (c : Con) : List Value := [.int .i64 c.k, .int .i64 c.n, .string c.s]
theorem conV_len (c : Con) : (conV c).length = 3 := rfl
theorem conV_one (cs : List Con) : ∀ u ∈ cs.flatMap conV, u.oneCell' = true := by
  intro u hu
  obtain ⟨c, _, hc⟩ := List.mem_flatMap.1 hu
  simp only [conV, List.mem_cons, List.not_mem_nil, or_false] at hc
  rcases hc with rfl | rfl | rfl <;> rfl

theorem conAt_get {w : World} {b off : Nat} {c : Con} (h : conAt w b off c) {j : Nat} {u : Value} (hu : (conV c)[j]? = some u) : w.cell? ⟨b, off + j, none⟩ = some u := by
  match j with
  | 0 => simp only [conV, List.getElem?_cons_zero, Option.some.injEq] at hu; subst hu; exact h.1
  | 1 => simp only [conV, List.getElem?_cons_succ, List.getElem?_cons_zero, Option.some.injEq] at hu; subst hu; exact h.2.1
  | 2 => simp only [conV, List.getElem?_cons_succ, List.getElem?_cons_zero, Option.some.injEq] at hu; subst hu; exact h.2.2
  | j + 3 => simp [conV] at hu

theorem conAt_of {w : World} {b off : Nat} {c : Con} (h : ∀ j u, (conV c)[j]? = some u → w.cell? ⟨b, off + j, none⟩ = some u) : conAt w b off c :=
  ⟨h 0 _ rfl, h 1 _ rfl, h 2 _ rfl⟩

theorem cons_src {w : World} {ao : Option Addr} {len : Nat} {cs : List Con} (h : IsCons w ao len cs) : ∀ ad, ao = some ad → ∀ j u, (cs.flatMap conV)[j]? = some u → w.cell? (ad.add j) = some u := by
  intro ad had j u hu
  obtain ⟨i, k, x, e, hk, hx, hxk⟩ := flatN_at conV 3 conV_len (by omega) hu
  have hlt := (List.getElem?_eq_some_iff.1 hx).1
  obtain ⟨b, off, e2, hc⟩ := h.2.2.2 (by have := h.1; omega)
  rw [had] at e2
  cases e2
  rw [addr_add, e, ← Nat.add_assoc]
  exact conAt_get (hc i x hx) hxk

theorem Try.infoCon6 : (Try.prog.info? 36).map (fun i => (i.zero, i.size, i.bytes)) = some (some (.agg #[.int .i64 0, .int .i64 0, .string ⟨#[]⟩]), 3, 32) := by kernel_rfl

/-- Constants with one more, of kind -99, in the spare room, all of it new. -/
def RoomC (w : World) (base : Nat) (v : Value) (cs : List Con) : Prop :=
  ∃ g cap, v = .slice (some ⟨g, 0, none⟩) cs.length cap ∧ cs.length + 1 ≤ cap ∧ base ≤ g ∧ conRow w g 0 (cs ++ [⟨-99, 0, ⟨#[]⟩⟩])

theorem RoomC.kept {w w' : World} {base : Nat} {v : Value} {cs : List Con} (h : RoomC w base v cs) (hb : Below w.heap.size w w') : RoomC w' base v cs := by
  obtain ⟨g, cap, h1, h2, h3, h4⟩ := h
  exact ⟨g, cap, h1, h2, h3, fun i x hx => conAt_kept (h4 i x hx) hb⟩

theorem roomC_of_own {w : World} {base g n cap : Nat} {cs : List Con} (hl : cs.length = n) (h : w.ownsRow base 36 3 (.slice (some ⟨g, 0, none⟩) (n + 1) cap) (n + 1) (cs.flatMap conV ++ [.int .i64 (-99), .int .i64 0, .string ⟨#[]⟩])) : RoomC w base (.slice (some ⟨g, 0, none⟩) n cap) cs := by
  subst hl
  obtain ⟨ao, cap', e, h1, _, h2⟩ := own_shape6 h
  cases e
  obtain ⟨g', e2, hg⟩ := h2 _ rfl
  cases e2
  refine ⟨g, cap, rfl, h1, hg, fun i x hx => conAt_of fun j u hu => ?_⟩
  rw [Nat.zero_add]
  refine own_at h ?_
  have hj : j < 3 := (List.getElem?_eq_some_iff.1 hu).1
  have := flatN conV 3 conV_len (cs ++ [⟨-99, 0, ⟨#[]⟩⟩]) i j x hx hj
  rw [List.flatMap_append] at this
  rw [show cs.flatMap conV ++ [.int .i64 (-99), .int .i64 0, .string ⟨#[]⟩] = cs.flatMap conV ++ [⟨-99, 0, ⟨#[]⟩⟩].flatMap conV from rfl, this]
  exact hu

set_option maxRecDepth 100000 in
set_option maxHeartbeats 1000000 in
theorem roomyConsts_any {w : World} {ao : Option Addr} {len cap : Nat} {cs : List Con} (h : IsCons w ao len cs) (hn : ao = none → len = 0 ∧ cap = 0) (hz : len * 32 ≤ 140737488351232) :
    Calls Try.prog 19 #[.slice ao len cap] w fun e w' => ∃ v, e = .returned v ∧ RoomC w' w.heap.size v cs ∧ Below w.heap.size w w' := by
  obtain ⟨i0, hi0, hz0, hz1, hz2⟩ := info_parts Try.infoCon6
  have H2 := hide (cons_src h)
  have HL := hide h.1
  have HN := hide hn
  clear h hn
  go_enter Try.func19, Try.ntmps19
  go_wp2_with (first
    | (at_builtin; refine wpList_append_any rfl _ _ 41 rfl w.heap.size 36 i0 _ 3 32 Try.underlying41 hi0 hz0 hz1 hz2 rfl (by decide) _ 0 [] rfl (World.ownsRow_nil _ _ _ _) ao len cap (cs.flatMap conV) rfl HN.out (by rw [flatN_len conV 3 conV_len, HL.out]) H2.out (conV_one cs) (by unfold maxLen; omega) (by omega) (Nat.le_refl _) ?_))
  intro v1 w1 hown1 hgrow
  have hB1 : Below w.heap.size w w1 := below_grown (Below.refl _ _) (World.ownsRow_nil w w.heap.size 36 3) hgrow (Nat.le_refl _)
  obtain ⟨a1, c1, rfl, _, _, _⟩ := own_shape6 hown1
  have H0 := hide hB1
  have H4 : Hid (w.heap.size ≤ w1.heap.size) := hB1.size
  have H5 := hide hown1
  clear hown1 hgrow hB1
  have H3 : Hid ((w1.alloc (.cells #[.int .i64 (-99), .int .i64 0, .string ⟨#[]⟩] 36)).ownsRow w.heap.size 36 3 (.slice a1 len c1) len (cs.flatMap conV)) := own_kept6 H5.out ((Below.refl _ _).alloc (Nat.le_refl _) _)
  clear H5
  go_wp2_with (first
    | (at_builtin; refine wpList_append_any rfl _ _ 41 rfl w.heap.size 36 i0 _ 3 32 Try.underlying41 hi0 hz0 hz1 hz2 rfl (by decide) _ len (cs.flatMap conV) rfl H3.out (some ⟨w1.heap.size, 0, none⟩) 1 1 [.int .i64 (-99), .int .i64 0, .string ⟨#[]⟩] rfl (fun h => by cases h) rfl (fun ad h => by cases h; exact World.news_of_block (cs := #[.int .i64 (-99), .int .i64 0, .string ⟨#[]⟩]) (t := 36) (fr := (0, 0)) (heap_alloc_new w1 _)) (by simp [Value.oneCell']) (by unfold maxLen; omega) (by omega) (by simp; have := H4.out; omega) ?_))
  intro v2 w2 hown2 hgrow
  have hB2 : Below w.heap.size w w2 := below_grown (H0.out.alloc H0.out.size _) H3.out hgrow (by simp; have := H4.out; omega)
  obtain ⟨a2, cap2, rfl, hcap, hnn, hg⟩ := own_shape6 hown2
  obtain ⟨g2, rfl⟩ : ∃ g, a2 = some ⟨g, 0, none⟩ := by
    cases a2 with
    | none => exact absurd (hnn rfl).1 (by omega)
    | some ad => obtain ⟨g, rfl, _⟩ := hg ad rfl; exact ⟨g, rfl⟩
  have HR : Hid (RoomC w2 w.heap.size (.slice (some ⟨g2, 0, none⟩) len cap2) cs) := roomC_of_own HL.out hown2
  have HB := hide hB2
  have hc1 : len ≤ cap2 := by omega
  have hc2 : ((len : Nat) : Int) ≤ ((cap2 : Nat) : Int) := by omega
  clear hown2 hgrow hB2 hcap H3 H4 hnn hg
  go_wp2
  go_ret
  exact ⟨_, rfl, HR.out, HB.out⟩

theorem RoomC.cons {w : World} {base : Nat} {v : Value} {cs : List Con} (h : RoomC w base v cs) (hok : ∀ c ∈ cs, c.ok) (hz : cs.length * 32 ≤ 140737488355328) : ∃ g cap, v = .slice (some ⟨g, 0, none⟩) cs.length cap ∧ cs.length + 1 ≤ cap ∧ IsCons w (some ⟨g, 0, none⟩) cs.length cs ∧ conAt w g (cs.length * 3) ⟨-99, 0, ⟨#[]⟩⟩ := by
  obtain ⟨g, cap, rfl, h1, h2, h3⟩ := h
  refine ⟨g, cap, rfl, h1, ⟨rfl, hz, hok, fun _ => ⟨g, 0, rfl, fun i x hx => ?_⟩⟩, ?_⟩
  · exact h3 i x (by rw [List.getElem?_append_left (List.getElem?_eq_some_iff.1 hx).1]; exact hx)
  · have := h3 cs.length ⟨-99, 0, ⟨#[]⟩⟩ (by simp)
    rw [Nat.zero_add] at this
    exact this

set_option maxRecDepth 100000 in
set_option maxHeartbeats 1000000 in
theorem untouchedConsts_any {w : World} {base : Nat} {v : Value} {ao : Option Addr} {len cap : Nat} {cs : List Con} (hr : RoomC w base v cs) (h : IsCons w ao len cs) :
    Calls Try.prog 21 #[v, .slice ao len cap] w fun e w' => e = .returned (.bool true) ∧ Below w.heap.size w w' := by
  obtain ⟨g, c1, rfl, hc, hn, hm⟩ := hr.cons h.2.2.1 (by rw [h.1]; exact h.2.1)
  have hl := h.1
  have hlen := h.2.1
  have HR1 := hide hn.2.2.2
  have HR2 := hide h.2.2.2
  have HL := hide hl
  clear h hn hr
  rw [hl] at hc hm HR1 ⊢
  clear hl
  have k1 : (len : Int) + 1 ≤ (c1 : Int) := by omega
  have HM := hide hm
  clear hm
  go_enter Try.func21, Try.ntmps21
  go_wp2
  go_loopw [5, 8] (fun _ i wr => ∃ k : Nat, k ≤ len ∧ i = .int .i64 k ∧ Hid (Below w.heap.size w wr)) (fun _ i _ => len - (intOf i).toNat)
  case atStart => exact ⟨0, by omega, rfl, Below.refl _ _⟩
  case round =>
    obtain ⟨k, hk, rfl, HB⟩ := hrel
    by_cases hlt : k < len
    · have hi : (k : Int) < (len : Int) := by omega
      have hi0 : (0 : Int) ≤ (k : Int) := by omega
      obtain ⟨b1, o1, e1, hr1⟩ := HR1.out (by omega)
      cases e1
      obtain ⟨b2, o2, rfl, hr2⟩ := HR2.out (by omega)
      obtain ⟨x, hx⟩ : ∃ x, cs[k]? = some x := ⟨_, List.getElem?_eq_getElem (by rw [HL.out]; omega)⟩
      have X0 := conAt_kept (hr1 k x hx) HB.out
      rw [Nat.zero_add] at X0
      obtain ⟨x0, x1, x2⟩ := X0
      obtain ⟨y0, y1, y2⟩ := conAt_kept (hr2 k x hx) HB.out
      have hq := neqCon x x
      rw [conEq_refl] at hq
      clear hr1 hr2 hx
      go_wp2
      refine wp_region_over (fun W => W = wr) (by kernel_rfl) (by kernel_rfl) rfl ?_
      rintro W rfl
      have x0' := over_cell x0
      have x1' := over_cell x1
      have x2' := over_cell x2
      have y0' := over_cell y0
      have y1' := over_cell y1
      have y2' := over_cell y2
      clear x0 x1 x2 y0 y1 y2
      repeat (go_big_quiet_step (first | fail))
      refine wpQuiet_nil ?_
      rintro _ ⟨z, rfl⟩
      have HB3 := hide (HB.out.trans ((over_below W z).mono HB.out.size))
      clear x0' x1' x2' y0' y1' y2'
      go_wp2
      go_roundw
      case rel => exact ⟨k + 1, by omega, by go_num, HB3⟩
      case measure => simp [intOf]; omega
    · obtain rfl : k = len := by omega
      have hi : ¬ (k : Int) < (k : Int) := by omega
      obtain ⟨m0, m1, m2⟩ := conAt_kept HM.out HB.out
      go_wp2
      go_ret
      exact ⟨rfl, HB.out⟩
end Go.Proofs.Ytnahfhfnodghaaa
