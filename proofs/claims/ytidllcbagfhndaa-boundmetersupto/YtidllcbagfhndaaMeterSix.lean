/- Three meters of each kind in two rows of four, the fourth none: from call to call. -/
import Derived.Test.YtidllcbagfhndaaMeterRef
import Derived.Test.YtidllcbagfhndaaLawKeeps
namespace Go.Proofs.Ytidllcbagfhndaa
set_option linter.unusedSimpArgs false
set_option linter.unusedVariables false
open Go.RowKit

abbrev U64 (n : Nat) : Prop := n < 18446744073709551616
def upF (f : Nat → Nat) (i v : Nat) : Nat → Nat := fun j => if j = i then v else f j
theorem upF_at (f : Nat → Nat) (i v : Nat) : upF f i v i = v := if_pos rfl
theorem upF_ne {f : Nat → Nat} {i v j : Nat} (h : j ≠ i) : upF f i v j = f j := if_neg h
theorem upF_same (f : Nat → Nat) (i : Nat) : upF f i (f i) = f := by funext j; unfold upF; split; rename_i h; rw [h]; rfl
/-- What stands at place i, the first m of which are taken. -/
def ptrM (bm : Nat → Nat) (m i : Nat) : Value := if i < m then .pointer (some ⟨bm i, 0, none⟩) else .pointer none
theorem ptrM_at {bm : Nat → Nat} {m i : Nat} (h : i < m) : ptrM bm m i = .pointer (some ⟨bm i, 0, none⟩) := if_pos h
theorem ptrM_no {bm : Nat → Nat} {m i : Nat} (h : ¬ i < m) : ptrM bm m i = .pointer none := if_neg h
theorem ptrM_up {bm : Nat → Nat} {m m' k b : Nat} (h : (m' = m ∧ k < m) ∨ (m' = m + 1 ∧ k = m)) (j : Nat) : ptrM (upF bm k b) m' j = if j = k then .pointer (some ⟨b, 0, none⟩) else ptrM bm m j := by
  by_cases e : j = k
  · subst e
    rw [if_pos rfl, ptrM_at (by omega), upF_at]
  · rw [if_neg e]
    by_cases h2 : j < m
    · rw [ptrM_at (by omega), ptrM_at h2, upF_ne e]
    · rw [ptrM_no (by omega), ptrM_no h2]

/-- One kind of meters: the row A of pointers, the meters that they lead to. -/
structure RowM (T : TypeId) (At : World → Nat → Nat → Nat → Prop) (base : Nat) (w : World) (A m : Nat) (bm L U : Nat → Nat) : Prop where
  arr : w.heap[A]? = some (.cells #[ptrM bm m 0, ptrM bm m 1, ptrM bm m 2, ptrM bm m 3] T (0, 0))
  met : ∀ i, i < m → At w (bm i) (L i) (U i)
  inj : ∀ i j, i < m → j < m → i ≠ j → bm i ≠ bm j
  low : base ≤ A ∧ ∀ i, i < m → base ≤ bm i
  le : m ≤ 3
/-- What is asked of a kind. -/
structure Kind (At : World → Nat → Nat → Nat → Prop) (O : Nat → Nat → Obj) : Prop where
  blk : ∀ {w b l u}, At w b l u → w.heap[b]? = some (O l u)
  put : ∀ {w w' b l u}, At w b l u → w'.heap[b]? = w.heap[b]? → At w' b l u

section
variable {T : TypeId} {At : World → Nat → Nat → Nat → Prop} {O : Nat → Nat → Obj} {base A m : Nat} {w w' : World} {bm L U : Nat → Nat}
theorem RowM.inA (h : RowM T At base w A m bm L U) : A < w.heap.size := (Array.getElem?_eq_some_iff.1 h.arr).1
theorem RowM.inB (K : Kind At O) (h : RowM T At base w A m bm L U) {i : Nat} (hi : i < m) : bm i < w.heap.size := (Array.getElem?_eq_some_iff.1 (K.blk (h.met i hi))).1
/-- Nothing of it was written. -/
theorem RowM.same (K : Kind At O) (h : RowM T At base w A m bm L U) (hA : w'.heap[A]? = w.heap[A]?) (hB : ∀ i, i < m → w'.heap[bm i]? = w.heap[bm i]?) : RowM T At base w' A m bm L U :=
  ⟨hA.trans h.arr, fun i hi => K.put (h.met i hi) (hB i hi), h.inj, h.low, h.le⟩
theorem RowM.kept (K : Kind At O) (h : RowM T At base w A m bm L U) (g : Below w.heap.size w w') : RowM T At base w' A m bm L U :=
  h.same K (g.block _ h.inA) fun i hi => g.block _ (h.inB K hi)
theorem RowM.cell (h : RowM T At base w A m bm L U) {i : Nat} (hi : i < m) : w.cell? ⟨A, i, none⟩ = some (.pointer (some ⟨bm i, 0, none⟩)) := by
  have := h.le
  have e : i = 0 ∨ i = 1 ∨ i = 2 := by omega
  rw [← ptrM_at (bm := bm) hi]
  rcases e with rfl | rfl | rfl <;> simp [World.cell?, h.arr]
theorem RowM.cell3 (h : RowM T At base w A m bm L U) : w.cell? ⟨A, 3, none⟩ = some (.pointer none) := by
  have := h.le
  rw [← ptrM_no (bm := bm) (m := m) (i := 3) (by omega)]
  simp [World.cell?, h.arr]
theorem RowM.any (h : RowM T At base w A m bm L U) {i : Nat} (hi : i < 4) : ∃ v, w.cell? ⟨A, i, none⟩ = some v := by
  have e : i = 0 ∨ i = 1 ∨ i = 2 ∨ i = 3 := by omega
  rcases e with rfl | rfl | rfl | rfl <;> simp [World.cell?, h.arr]
theorem RowM.fz (h : RowM T At base w A m bm L U) (i : Nat) : w.frozen? ⟨A, i, none⟩ = false := by simp [World.frozen?, h.arr]
/-- A call on meter i. -/
theorem RowM.call (K : Kind At O) (hO : ∀ l u, (∃ c, O l u = .cells c T (0, 0)) → False) (h : RowM T At base w A m bm L U) {i u : Nat} (hi : i < m) (g : At w' (bm i) (L i) u) (t : Touch (bm i) w w') : RowM T At base w' A m bm L (upF U i u) := by
  refine ⟨(t.other A ?_).trans h.arr, fun j hj => ?_, h.inj, h.low, h.le⟩
  · intro e
    have h1 := K.blk (h.met i hi)
    rw [← e, h.arr] at h1
    injection h1 with h1
    exact hO _ _ ⟨_, h1.symm⟩
  · by_cases e : j = i
    · subst e
      rw [upF_at]
      exact g
    · rw [upF_ne e]
      exact K.put (h.met j hj) (t.other _ (h.inj j i hj hi e))
/-- A new meter at place k. -/
theorem RowM.new (K : Kind At O) (hO : ∀ l u, (∃ c, O l u = .cells c T (0, 0)) → False) (h : RowM T At base w A m bm L U) {k b l m' : Nat} (hk : (m' = m ∧ k < m) ∨ (m' = m + 1 ∧ k = m)) (hk3 : k < 3) (g : At w' b l 0) (hb : w.heap.size ≤ b) (hB : Below w.heap.size w w') (hbase : base ≤ w.heap.size) :
    RowM T At base (w'.setCell ⟨A, k, none⟩ (.pointer (some ⟨b, 0, none⟩))) A m' (upF bm k b) (upF L k l) (upF U k 0) := by
  have h' := h.kept K hB
  have hAb : A ≠ b := by have := h.inA; omega
  have oth : ∀ c, c ≠ A → (w'.setCell ⟨A, k, none⟩ (.pointer (some ⟨b, 0, none⟩))).heap[c]? = w'.heap[c]? := fun c hc => (Touch.set A w' k _).other c hc
  have neA : ∀ c l u, w'.heap[c]? = some (O l u) → c ≠ A := fun c l u hc e => by
    rw [e, h'.arr] at hc
    injection hc with hc
    exact hO _ _ ⟨_, hc.symm⟩
  refine ⟨?_, fun j hj => ?_, fun i j hi hj hij => ?_, ⟨h.low.1, fun j hj => ?_⟩, by have := h.le; omega⟩
  · have e : k = 0 ∨ k = 1 ∨ k = 2 := by omega
    simp only [ptrM_up hk]
    rcases e with rfl | rfl | rfl <;> simp [World.setCell, Array.getElem?_modify, h'.arr]
  · by_cases e : j = k
    · subst e
      rw [upF_at, upF_at, upF_at]
      exact K.put g (oth b (Ne.symm hAb))
    · rw [upF_ne e, upF_ne e, upF_ne e]
      have hm := h'.met j (by omega)
      exact K.put hm (oth _ (neA _ _ _ (K.blk hm)))
  · by_cases e : i = k
    · subst e
      rw [upF_at, upF_ne (Ne.symm hij)]
      have := h.inB K (show j < m by omega)
      omega
    · rw [upF_ne e]
      by_cases e2 : j = k
      · subst e2
        rw [upF_at]
        have := h.inB K (show i < m by omega)
        omega
      · rw [upF_ne e2]
        exact h.inj i j (by omega) (by omega) hij
  · by_cases e : j = k
    · subst e
      rw [upF_at]; omega
    · rw [upF_ne e]
      exact h.low.2 j (by omega)
end

def metO (l u : Nat) : Obj := .cells #[.int .i32 0, .int .u32 0, .int .u64 (l : Int), .int .u64 (u : Int)] 47 (0, 0)
def refO (l u : Nat) : Obj := .cells #[.int .u64 (l : Int), .int .u64 (u : Int)] 49 (0, 0)
theorem kindM : Kind MetAt metO := ⟨fun h => h.blk, fun h e => ⟨e.trans h.blk, h.le, h.lt⟩⟩
theorem kindR : Kind RefAt refO := ⟨fun h => h.blk, fun h e => ⟨e.trans h.blk, h.le, h.lt⟩⟩
theorem metO_no (l u : Nat) : (∃ c, metO l u = .cells c 31 (0, 0)) → False := fun ⟨c, h⟩ => by unfold metO at h; injection h with _ h2 _; exact absurd h2 (by decide)
theorem refO_no (l u : Nat) : (∃ c, refO l u = .cells c 33 (0, 0)) → False := fun ⟨c, h⟩ => by unfold refO at h; injection h with _ h2 _; exact absurd h2 (by decide)

/-- All six, and nothing else was written since w0. -/
structure SixAt (w0 w : World) (A C m n : Nat) (bm LM UM cm LR UR : Nat → Nat) : Prop where
  one : RowM 31 MetAt w0.heap.size w A m bm LM UM
  two : RowM 33 RefAt w0.heap.size w C n cm LR UR
  below : Below w0.heap.size w0 w

section
variable {w0 w w' : World} {A C m n : Nat} {bm LM UM cm LR UR : Nat → Nat}
theorem SixAt.kept (h : SixAt w0 w A C m n bm LM UM cm LR UR) (g : Below w.heap.size w w') : SixAt w0 w' A C m n bm LM UM cm LR UR :=
  ⟨h.one.kept kindM g, h.two.kept kindR g, h.below.trans (g.mono h.below.size)⟩
theorem metRef {w : World} {b c l u l' u' : Nat} (h : MetAt w b l u) (g : RefAt w c l' u') : b ≠ c := fun e => by
  subst e
  have h1 := h.blk
  rw [g.blk] at h1
  injection h1 with h1
  injection h1 with _ h2 _
  exact absurd h2 (by decide)
theorem SixAt.call1 (h : SixAt w0 w A C m n bm LM UM cm LR UR) {i u : Nat} (hi : i < m) (g : MetAt w' (bm i) (LM i) u) (t : Touch (bm i) w w') : SixAt w0 w' A C m n bm LM (upF UM i u) cm LR UR :=
  ⟨h.one.call kindM metO_no hi g t, h.two.same kindR (t.other _ fun e => by
      have h1 := (h.one.met i hi).blk
      rw [← e, h.two.arr] at h1
      injection h1 with h1
      injection h1 with _ h2 _
      exact absurd h2 (by decide)) (fun j hj => t.other _ (Ne.symm (metRef (h.one.met i hi) (h.two.met j hj)))), t.below h.below (h.one.low.2 i hi)⟩
theorem SixAt.call2 (h : SixAt w0 w A C m n bm LM UM cm LR UR) {i u : Nat} (hi : i < n) (g : RefAt w' (cm i) (LR i) u) (t : Touch (cm i) w w') : SixAt w0 w' A C m n bm LM UM cm LR (upF UR i u) :=
  ⟨h.one.same kindM (t.other _ fun e => by
      have h1 := (h.two.met i hi).blk
      rw [← e, h.one.arr] at h1
      injection h1 with h1
      injection h1 with _ h2 _
      exact absurd h2 (by decide)) (fun j hj => t.other _ (metRef (h.one.met j hj) (h.two.met i hi))), h.two.call kindR refO_no hi g t, t.below h.below (h.two.low.2 i hi)⟩
theorem SixAt.new1 (h : SixAt w0 w A C m n bm LM UM cm LR UR) {k b l m' : Nat} (hk : (m' = m ∧ k < m) ∨ (m' = m + 1 ∧ k = m)) (hk3 : k < 3) (g : MetAt w' b l 0) (hb : w.heap.size ≤ b) (hB : Below w.heap.size w w') :
    SixAt w0 (w'.setCell ⟨A, k, none⟩ (.pointer (some ⟨b, 0, none⟩))) A C m' n (upF bm k b) (upF LM k l) (upF UM k 0) cm LR UR := by
  have t := Touch.set A w' k (.pointer (some ⟨b, 0, none⟩))
  have h1 := h.one.kept kindM hB
  have h2 := h.two.kept kindR hB
  refine ⟨h.one.new kindM metO_no hk hk3 g hb hB h.below.size, h2.same kindR (t.other _ fun e => ?_) (fun j hj => t.other _ fun e => ?_), t.below (h.below.trans (hB.mono h.below.size)) h.one.low.1⟩
  · have h3 := h1.arr
    rw [← e, h2.arr] at h3
    injection h3 with h3
    injection h3 with _ h3 _
    exact absurd h3 (by decide)
  · have h3 := h1.arr
    rw [← e, (h2.met j hj).blk] at h3
    injection h3 with h3
    injection h3 with _ h3 _
    exact absurd h3 (by decide)
theorem SixAt.new2 (h : SixAt w0 w A C m n bm LM UM cm LR UR) {k b l n' : Nat} (hk : (n' = n ∧ k < n) ∨ (n' = n + 1 ∧ k = n)) (hk3 : k < 3) (g : RefAt w' b l 0) (hb : w.heap.size ≤ b) (hB : Below w.heap.size w w') :
    SixAt w0 (w'.setCell ⟨C, k, none⟩ (.pointer (some ⟨b, 0, none⟩))) A C m n' bm LM UM (upF cm k b) (upF LR k l) (upF UR k 0) := by
  have t := Touch.set C w' k (.pointer (some ⟨b, 0, none⟩))
  have h1 := h.one.kept kindM hB
  have h2 := h.two.kept kindR hB
  refine ⟨h1.same kindM (t.other _ fun e => ?_) (fun j hj => t.other _ fun e => ?_), h.two.new kindR refO_no hk hk3 g hb hB h.below.size, t.below (h.below.trans (hB.mono h.below.size)) h.two.low.1⟩
  · have h3 := h2.arr
    rw [← e, h1.arr] at h3
    injection h3 with h3
    injection h3 with _ h3 _
    exact absurd h3 (by decide)
  · have h3 := h2.arr
    rw [← e, (h1.met j hj).blk] at h3
    injection h3 with h3
    injection h3 with _ h3 _
    exact absurd h3 (by decide)
end
end Go.Proofs.Ytidllcbagfhndaa
