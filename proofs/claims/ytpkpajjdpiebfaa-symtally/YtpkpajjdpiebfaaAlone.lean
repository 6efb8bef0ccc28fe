/- edictlaw01.alone: three lists in memory of their own are written full, appended to, and looked at. -/
import Derived.Test.YtpkpajjdpiebfaaProg
import Derived.Test.YtpkpajjdpiebfaaTally
import Derived.Test.YtpkpajjdpiebfaaIdsBase
import Derived.Test.YtpkpajjdpiebfaaHolds
import Derived.Deep.RegionWith
import Derived.Deep.RegionLawGrows
import Derived.Deep.RegionHeld3
namespace Go.Proofs.Ytpkpajjdpiebfaa
set_option linter.unusedSimpArgs false
set_option linter.unusedVariables false
open Go.RowKit

def markC (k : Nat) : Con := ⟨90 + (k : Int), -(k : Int), ⟨#[]⟩⟩

/-- Three lists, each in a block of its own, of which the first m k elements are marks. -/
structure Trio (G N : Nat → Nat) (B : Nat) (wr : World) (m : Nat → Nat) : Prop where
  blk : ∀ k, k < 3 → ∃ cur : Array Value, wr.heap[G k]? = some (.cells cur 24 (0, 0)) ∧ cur.size = N k * 3
  marks : ∀ k i, k < 3 → i < m k → conAt wr (G k) (i * 3) (markC k)
  ls : ∀ k, k < 3 → wr.cell? ⟨B, k, none⟩ = some (.slice (some ⟨G k, 0, none⟩) (N k) (N k))

theorem Trio.kept {G N : Nat → Nat} {B : Nat} {wr w' : World} {m : Nat → Nat} (h : Trio G N B wr m) (hb : Below wr.heap.size wr w') : Trio G N B w' m :=
  ⟨fun k hk => by
    obtain ⟨cur, h1, h2⟩ := h.blk k hk
    exact ⟨cur, by rw [hb.block _ (Array.getElem?_eq_some_iff.1 h1).1]; exact h1, h2⟩, fun k i hk hi => conAt_kept (h.marks k i hk hi) hb, fun k hk => kept_cell hb (h.ls k hk)⟩

theorem Trio.cells {G N : Nat → Nat} {B : Nat} {wr : World} {m : Nat → Nat} (h : Trio G N B wr m) {k o : Nat} (hk : k < 3) (ho : o < N k * 3) : (∃ v, wr.cell? ⟨G k, o, none⟩ = some v) ∧ wr.frozen? ⟨G k, o, none⟩ = false := by
  obtain ⟨cur, hc, hs⟩ := h.blk k hk
  have : cur[o]? = some cur[o] := Array.getElem?_eq_getElem (by omega)
  refine ⟨⟨cur[o], ?_⟩, ?_⟩
  · simp [World.cell?, hc, this]
  · simp [World.frozen?, hc]

def put3 (W : World) (g o : Nat) (c : Con) : World := ((W.setCell ⟨g, o, none⟩ (.int .i64 c.k)).setCell ⟨g, o + 1, none⟩ (.int .i64 c.n)).setCell ⟨g, o + 2, none⟩ (.string c.s)

theorem put3_blk {W : World} {g o : Nat} {cur : Array Value} {c : Con} (h : W.heap[g]? = some (.cells cur 24 (0, 0))) :
    (put3 W g o c).heap[g]? = some (.cells (((cur.setIfInBounds o (.int .i64 c.k)).setIfInBounds (o + 1) (.int .i64 c.n)).setIfInBounds (o + 2) (.string c.s)) 24 (0, 0)) := by
  simp [put3, World.setCell, Array.getElem?_modify, h]
theorem put3_far {W : World} {g o b : Nat} {c : Con} (h : b ≠ g) : (put3 W g o c).heap[b]? = W.heap[b]? := by
  simp [put3, World.setCell, Array.getElem?_modify, Ne.symm h]
theorem put3_size (W : World) (g o : Nat) (c : Con) : (put3 W g o c).heap.size = W.heap.size := by simp [put3, World.setCell]

theorem Trio.next {G N : Nat → Nat} {B : Nat} {wr : World} {m : Nat → Nat} (h : Trio G N B wr m) {k i : Nat} (hk : k < 3) (hi : i < N k) (hm : m k = i) (hG : ∀ a b, a < 3 → b < 3 → G a = G b → a = b) (hB : ∀ a, a < 3 → G a ≠ B) :
    Trio G N B (put3 wr (G k) (i * 3) (markC k)) (fun j => if j = k then i + 1 else m j) := by
  refine ⟨fun j hj => ?_, fun j a hj ha => ?_, fun j hj => ?_⟩
  · obtain ⟨cur, h1, h2⟩ := h.blk j hj
    by_cases e : j = k
    · subst e
      exact ⟨_, put3_blk h1, by simpa using h2⟩
    · exact ⟨cur, by rw [put3_far (fun hh => e (hG j k hj hk hh))]; exact h1, h2⟩
  · by_cases e : j = k
    · subst e
      rw [if_pos rfl] at ha
      obtain ⟨cur, h1, h2⟩ := h.blk j hj
      have hnew := put3_blk (o := i * 3) (c := markC j) h1
      have key : ∀ o v, (((cur.setIfInBounds (i * 3) (.int .i64 (markC j).k)).setIfInBounds (i * 3 + 1) (.int .i64 (markC j).n)).setIfInBounds (i * 3 + 2) (.string (markC j).s))[o]? = some v → (put3 wr (G j) (i * 3) (markC j)).cell? ⟨G j, o, none⟩ = some v := fun o v hv => by
        simp [World.cell?, hnew, hv]
      by_cases ea : a = i
      · subst ea
        refine ⟨key _ _ ?_, key _ _ ?_, key _ _ ?_⟩ <;> simp [Array.getElem?_setIfInBounds] <;> omega
      · have hold := h.marks j a hj (by omega)
        have old : ∀ o v, wr.cell? ⟨G j, o, none⟩ = some v → cur[o]? = some v := fun o v hv => by
          simpa [World.cell?, h1] using hv
        obtain ⟨c0, c1, c2⟩ := hold
        refine ⟨key _ _ ?_, key _ _ ?_, key _ _ ?_⟩
        · simp only [Array.getElem?_setIfInBounds]; rw [if_neg (by omega), if_neg (by omega), if_neg (by omega)]; exact old _ _ c0
        · simp only [Array.getElem?_setIfInBounds]; rw [if_neg (by omega), if_neg (by omega), if_neg (by omega)]; exact old _ _ c1
        · simp only [Array.getElem?_setIfInBounds]; rw [if_neg (by omega), if_neg (by omega), if_neg (by omega)]; exact old _ _ c2
    · rw [if_neg e] at ha
      have hb : (put3 wr (G k) (i * 3) (markC k)).heap[G j]? = wr.heap[G j]? := put3_far (fun hh => e (hG j k hj hk hh))
      obtain ⟨c0, c1, c2⟩ := h.marks j a hj ha
      exact ⟨by rw [World.cell?_of_block (w := wr) hb]; exact c0, by rw [World.cell?_of_block (w := wr) hb]; exact c1, by rw [World.cell?_of_block (w := wr) hb]; exact c2⟩
  · have hb : (put3 wr (G k) (i * 3) (markC k)).heap[B]? = wr.heap[B]? := put3_far (Ne.symm (hB k hk))
    rw [World.cell?_of_block (w := wr) hb]; exact h.ls j hj

theorem Trio.step {G N : Nat → Nat} {B : Nat} {wr : World} {k i : Nat} (h : Trio G N B wr (fun j => if j = k then i else if j < k then N j else 0)) (hk : k < 3) (hi : i < N k) (hG : ∀ a b, a < 3 → b < 3 → G a = G b → a = b) (hB : ∀ a, a < 3 → G a ≠ B) :
    Trio G N B (put3 wr (G k) (i * 3) (markC k)) (fun j => if j = k then i + 1 else if j < k then N j else 0) := by
  have := h.next (k := k) (i := i) hk hi (by simp) hG hB
  have e : (fun j => if j = k then i + 1 else (fun j => if j = k then i else if j < k then N j else 0) j) = (fun j => if j = k then i + 1 else if j < k then N j else 0) := by
    funext j
    by_cases hj : j = k <;> simp [hj]
  rw [e] at this
  exact this

theorem Trio.full {G N : Nat → Nat} {B : Nat} {wr : World} {k : Nat} (h : Trio G N B wr (fun j => if j = k then N k else if j < k then N j else 0)) : Trio G N B wr (fun j => if j < k + 1 then N j else 0) := by
  refine ⟨h.blk, fun j i hj hi => h.marks j i hj ?_, h.ls⟩
  by_cases e : j = k
  · subst e; simpa using hi
  · by_cases hlt : j < k
    · rw [if_pos (by omega)] at hi; simpa [e, hlt] using hi
    · rw [if_neg (by omega)] at hi; omega

theorem Trio.all {G N : Nat → Nat} {B : Nat} {wr : World} (h : Trio G N B wr (fun j => if j < 3 then N j else 0)) : Trio G N B wr N :=
  ⟨h.blk, fun j i hj hi => h.marks j i hj (by simpa [hj] using hi), h.ls⟩

def marksOf (n k : Nat) : List Con := List.replicate n (markC k)

theorem marks_flat (n k : Nat) : (marksOf n k).flatMap cells3 ++ (cells3 (markC k)) = (marksOf (n + 1) k).flatMap cells3 := by
  unfold marksOf
  rw [List.replicate_succ', List.flatMap_append]; rfl

theorem marks_len (n k : Nat) : ((marksOf n k).flatMap cells3).length = n * 3 := by rw [len3]; unfold marksOf; rw [List.length_replicate]

theorem marks_src {wr : World} {g n k : Nat} (h : ∀ i, i < n → conAt wr g (i * 3) (markC k)) : ∀ j u, ((marksOf n k).flatMap cells3)[j]? = some u → wr.cell? ((⟨g, 0, none⟩ : Addr).add j) = some u := by
  have hr : conRow wr g 0 (marksOf n k) := fun i c hc => by
    unfold marksOf at hc
    obtain ⟨hi, e⟩ := List.getElem?_eq_some_iff.1 hc
    rw [List.length_replicate] at hi
    rw [List.getElem_replicate] at e
    rw [← e, Nat.zero_add]
    exact h i hi
  exact flat3_src hr

theorem own_marks {w : World} {base g n cap k : Nat} (h : w.ownsRow base 24 3 (.slice (some ⟨g, 0, none⟩) n cap) n ((marksOf n k).flatMap cells3)) : ∀ i, i < n → conAt w g (i * 3) (markC k) := by
  intro i hi
  have hl : (marksOf n k).length = n := by unfold marksOf; rw [List.length_replicate]
  have hn := holds_news (cs := marksOf n k) (g := g) (n := n) (cap := cap) (base := base) (w := w) (by rw [hl]; exact h)
  have hm : (marksOf n k)[i]? = some (markC k) := by unfold marksOf; rw [List.getElem?_replicate]; simp [hi]
  have key : ∀ j v, j < 3 → (cells3 (markC k))[j]? = some v → w.cell? ⟨g, i * 3 + j, none⟩ = some v := fun j v hj hv => by
    have := hn (i * 3 + j) v (by rw [flat3 _ i j _ hm hj]; exact hv)
    rw [addr_add, Nat.zero_add] at this
    exact this
  exact ⟨key 0 _ (by omega) rfl, key 1 _ (by omega) rfl, key 2 _ (by omega) rfl⟩

/-- What the second loop keeps: k longer lists, each in a block of its own, in a row of one's own. -/
structure More (G N : Nat → Nat) (B : Nat) (w wr : World) (v : Value) (k : Nat) (Hf Cf : Nat → Nat) : Prop where
  trio : Trio G N B wr N
  own : wr.ownsRow w.heap.size 22 1 v k ((List.range k).map fun j => Value.slice (some ⟨Hf j, 0, none⟩) (N j + 1) (Cf j))
  marks : ∀ j i, j < k → i < N j + 1 → conAt wr (Hf j) (i * 3) (markC j)
  apart : ∀ j, j < k → v.ownBlock ≠ some (Hf j)
  only : Only (fun b => ∃ k, k < 3 ∧ b = G k) w wr

theorem More.grow {G N : Nat → Nat} {B : Nat} {w wr w3 w4 w6 : World} {v : Value} {k h c g cap : Nat} {Hf Cf : Nat → Nat} (hm : More G N B w wr v k Hf Cf) (hG : ∀ a, a < 3 → G a < w.heap.size) (hB : B < w.heap.size)
    (h3 : Below wr.heap.size wr w3) (h4 : w3.grownBy w4 none) (ho4 : w4.ownsRow w3.heap.size 24 3 (.slice (some ⟨h, 0, none⟩) (N k + 1) c) (N k + 1) ((marksOf (N k + 1) k).flatMap cells3)) (hh : h < w4.heap.size)
    {w5 : World} (h5 : w5 = w4.alloc (.cells #[.slice (some ⟨h, 0, none⟩) (N k + 1) c] 22))
    (h6 : w5.grownBy w6 v.ownBlock) (ho6 : w6.ownsRow w.heap.size 22 1 (.slice (some ⟨g, 0, none⟩) (k + 1) cap) (k + 1) ((List.range k).map (fun j => Value.slice (some ⟨Hf j, 0, none⟩) (N j + 1) (Cf j)) ++ [.slice (some ⟨h, 0, none⟩) (N k + 1) c])) (hat : v.ownBlock = some g ∨ g = w5.heap.size) :
    More G N B w w6 (.slice (some ⟨g, 0, none⟩) (k + 1) cap) (k + 1) (fun j => if j = k then h else Hf j) (fun j => if j = k then c else Cf j) := by
  have hw : w.heap.size ≤ wr.heap.size := hm.only.size
  have s4 : Below w3.heap.size w3 w4 := (Below.refl _ _).grown h4 (Nat.le_refl _) (by simp)
  have hb4 : Below wr.heap.size wr w4 := h3.trans (s4.mono h3.size)
  have hb5 : Below wr.heap.size wr w5 := by rw [h5]; exact hb4.alloc hb4.size _
  have hge : w3.heap.size ≤ h := by
    rcases ho4.2 with ⟨e, _⟩ | ⟨g', cap', cur, e, hbase, _⟩
    · cases e
    · cases e; exact hbase
  have z5 : w5.heap.size = w4.heap.size + 1 := by rw [h5]; simp
  have hvlt : ∀ b, v.ownBlock = some b → w.heap.size ≤ b ∧ b < wr.heap.size := fun b hb => by
    rcases hm.own.2 with ⟨e, _⟩ | ⟨g', cap', cur, e, hbase, hblk, _⟩
    · rw [e] at hb; cases hb
    · rw [e] at hb
      have : g' = b := by simpa [Value.ownBlock] using hb
      subst this
      exact ⟨hbase, (Array.getElem?_eq_some_iff.1 hblk).1⟩
  have far : ∀ b, b < w5.heap.size → v.ownBlock ≠ some b → w6.heap[b]? = w5.heap[b]? := fun b hb hne => h6.block b hb (Ne.symm hne)
  have h3s := h3.size
  have h4s := s4.size
  have cellFar : ∀ b off c0, b < w5.heap.size → v.ownBlock ≠ some b → conAt w5 b off c0 → conAt w6 b off c0 := fun b off c0 hb hne ⟨x0, x1, x2⟩ =>
    ⟨by rw [World.cell?_of_block (w := w5) (far b hb hne)]; exact x0, by rw [World.cell?_of_block (w := w5) (far b hb hne)]; exact x1, by rw [World.cell?_of_block (w := w5) (far b hb hne)]; exact x2⟩
  have vG : ∀ j, j < 3 → v.ownBlock ≠ some (G j) := fun j hj e => by have := (hvlt _ e).1; have := hG j hj; omega
  have t5 := hm.trio.kept hb5
  refine ⟨⟨fun j hj => ?_, fun j i hj hi => ?_, fun j hj => ?_⟩, ?_, fun j i hj hi => ?_, fun j hj => ?_, ?_⟩
  · obtain ⟨cur, e1, e2⟩ := t5.blk j hj
    exact ⟨cur, by rw [far _ (by have := hG j hj; omega) (vG j hj)]; exact e1, e2⟩
  · exact cellFar _ _ _ (by have := hG j hj; omega) (vG j hj) (t5.marks j i hj hi)
  · have hne : v.ownBlock ≠ some B := fun e => by have := (hvlt _ e).1; omega
    rw [World.cell?_of_block (w := w5) (far B (by omega) hne)]; exact t5.ls j hj
  · have e : (List.range (k + 1)).map (fun j => Value.slice (some ⟨if j = k then h else Hf j, 0, none⟩) (N j + 1) (if j = k then c else Cf j)) = (List.range k).map (fun j => Value.slice (some ⟨Hf j, 0, none⟩) (N j + 1) (Cf j)) ++ [.slice (some ⟨h, 0, none⟩) (N k + 1) c] := by
      rw [List.range_succ, List.map_append]
      congr 1
      · refine List.map_congr_left fun j hj => ?_
        have : j ≠ k := by have := List.mem_range.1 hj; omega
        simp [this]
      · simp
    rw [e]; exact ho6
  · by_cases e : j = k
    · subst e
      simp only [if_true]
      have hne : v.ownBlock ≠ some h := fun e => by have := (hvlt _ e).2; omega
      refine cellFar _ _ _ (by omega) hne ?_
      rw [h5]
      exact conAt_alloc (own_marks ho4 i hi) _
    · have hj' : j < k := by omega
      simp only [e, if_false]
      have hold := hm.marks j i hj' hi
      exact cellFar _ _ _ (Nat.lt_of_lt_of_le (lt_of_cell hold.1) hb5.size) (hm.apart j hj') (conAt_kept hold hb5)
  · show some g ≠ some _
    intro e0
    have e0 : g = if j = k then h else Hf j := Option.some.inj e0
    have hHj : ∀ j, j < k → Hf j < wr.heap.size := fun j hj => lt_of_cell (hm.marks j 0 hj (by omega)).1
    by_cases e : j = k
    · rw [if_pos e] at e0
      rcases hat with hat | hat
      · have := (hvlt _ hat).2; omega
      · omega
    · rw [if_neg e] at e0
      rcases hat with hat | hat
      · exact hm.apart j (by omega) (by rw [hat, e0])
      · have := hHj j (by omega); omega
  · have o5 : Only (fun b => ∃ k, k < 3 ∧ b = G k) w w5 := hm.only.trans (Only.of_below hb5 _)
    exact o5.grown h6 (fun b hb hlt => by have := (hvlt b hb).1; omega)

theorem Only.put3 {S : Nat → Prop} {a W : World} (h : Only S a W) {g o : Nat} {c : Con} (hg : S g) : Only S a (put3 W g o c) := ((h.setCell hg _).setCell hg _).setCell hg _

end Go.Proofs.Ytpkpajjdpiebfaa
