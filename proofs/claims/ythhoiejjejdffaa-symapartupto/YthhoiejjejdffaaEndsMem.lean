/- Two Ids side by side, cut and interned in: what edictlaw01's ends needs. -/
import Derived.Test.YthhoiejjejdffaaAllTurn
import Derived.Test.YthhoiejjejdffaaNewStr
namespace Go.Proofs.Ythhoiejjejdffaa
set_option linter.unusedSimpArgs false
set_option linter.unusedVariables false
open Go.RowKit Go.Maps Go.Shelf

theorem ids_notfoot {base : Nat} {W : World} {p m n : Nat} {ao : Option Addr} {cap : Nat} {ks : List ByteArray} {B : Nat} {t : TypeId} {v : Value} (h : StrIds base W p m n ao cap ks) (hb : Boxed W B t v) (h1 : t ≠ 9) (h2 : t ≠ 73) : ¬ foot p m ao B := by
  intro hf
  have hb' : W.heap[B]? = _ := hb
  rcases h.kind hf with ⟨c, hk⟩ | rfl | ⟨c, hk⟩
  · rw [hb'] at hk
    simp only [Option.some.injEq, Obj.cells.injEq] at hk
    exact h2 hk.2.1
  · obtain ⟨es, cl, hm⟩ := h.map.block
    rw [hb'] at hm
    cases hm
  · rw [hb'] at hk
    simp only [Option.some.injEq, Obj.cells.injEq] at hk
    exact h1 hk.2.1

theorem boxed_only {S : Nat → Prop} {W W' : World} {B : Nat} {t : TypeId} {v : Value} (h : Boxed W B t v) (ho : Only S W W') (hn : ¬ S B) : Boxed W' B t v := (ho.block B h.lt hn).trans h

theorem keepsFrom_only {S : Nat → Prop} {W W' : World} {B : Nat} (ho : Only S W W') (hS : ∀ k, B ≤ k → S k → ∃ c t f, W.heap[k]? = some (.cells c t f)) : KeepsFrom B W W' :=
  ⟨ho.size, fun k o hB hk hc => (ho.block k (Array.getElem?_eq_some_iff.1 hk).1 (fun hs => by
    obtain ⟨c, t, f, e⟩ := hS k hB hs
    rw [e] at hk
    cases hk
    cases hc)).trans hk⟩

theorem ids_cells {base : Nat} {W : World} {p m n : Nat} {ao : Option Addr} {cap : Nat} {ks : List ByteArray} (h : StrIds base W p m n ao cap ks) {k : Nat} (hf : foot p m ao k) (hk : k ≠ m) : ∃ c t f, W.heap[k]? = some (.cells c t f) := by
  rcases h.kind hf with ⟨c, e⟩ | e | ⟨c, e⟩
  · exact ⟨_, _, _, e⟩
  · exact absurd e hk
  · exact ⟨_, _, _, e⟩

theorem cutStr_any {base : Nat} {w : World} {p m n : Nat} {ao : Option Addr} {cap : Nat} {ks : List ByteArray} (h : StrIds base w p m n ao cap ks) (hnd : ks.Nodup) (hkk : ∀ k ∈ ks, k.size ≤ maxLen) (hl : ks.length < 2199023255552) (d : Nat) :
    Calls Try.prog 36 #[.pointer (some ⟨p, 0, none⟩), .int .i64 d] w fun e w' => e = .returned (.tuple #[]) ∧ StrIds base w' p m n ao cap (ks.take d) ∧ Only (foot p m ao) w w' := by
  by_cases hd : d < ks.length
  · exact cutStr_some h hnd hkk hl (.inl rfl) hd
  · refine (cutStr_none h hl (c := d) (.inl (by omega))).mono ?_
    rintro e w' ⟨rfl, rfl⟩
    exact ⟨rfl, by rw [List.take_of_length_le (by omega)]; exact h, Only.refl _ _⟩

theorem internStr_any {base : Nat} {w : World} {p m n : Nat} {ao : Option Addr} {cap : Nat} {ks : List ByteArray} (h : StrIds base w p m n ao cap ks) (hb : base ≤ w.heap.size) {k : ByteArray} (hk : k.size ≤ maxLen) (hn : n < 2199023255552) (hl : ks.length < 2199023255552) :
    Calls Try.prog 28 #[.pointer (some ⟨p, 0, none⟩), .string k] w fun e w' => ∃ i, e = .returned (.int .i64 i) ∧ ∃ n' ao' cap' ks', StrIds base w' p m n' ao' cap' ks' ∧ n' ≤ n + 1 ∧ ks'.length ≤ ks.length + 1 ∧ Only (foot p m ao) w w' ∧ (∀ a, ao' = some a → ao = some a ∨ w.heap.size ≤ a.block) := by
  by_cases hi : k ∈ ks
  · obtain ⟨i, hi⟩ := List.mem_iff_getElem?.1 hi
    refine (internStr_old h hk hi).mono ?_
    rintro e w' ⟨rfl, rfl⟩
    exact ⟨_, rfl, n, ao, cap, ks, h, by omega, by omega, Only.refl _ _, fun a ha => .inl ha⟩
  · refine (internStr_new h hb hk hi hn hl).mono ?_
    rintro e w' ⟨rfl, ao', cap', hI, hO, hA⟩
    exact ⟨_, rfl, n + 1, ao', cap', ks ++ [k], hI, by omega, by simp, hO, hA⟩

theorem ids_base0 {base : Nat} {W : World} {p m n : Nat} {ao : Option Addr} {cap : Nat} {ks : List ByteArray} (h : StrIds base W p m n ao cap ks) : StrIds 0 W p m n ao cap ks :=
  { h with
    hp := Nat.zero_le _
    hm := Nat.zero_le _
    row := by
      refine ⟨h.row.1, ?_⟩
      rcases h.row.2 with h0 | ⟨g, c, cur, hv, hbase, rest⟩
      · exact .inl h0
      · exact .inr ⟨g, c, cur, hv, Nat.zero_le _, rest⟩ }

theorem only_own0 {β : Type} {S : Nat → Prop} {w0 : World} : OwnFrom w0.heap.size (fun (_ : β) W => Only S w0 W) :=
  fun _ _ _ _ hs hg hr => hs.grown hg (fun k e hk => by have := (hr k e).1; omega)

/-- An Ids whose map is older stays as the range's own book-keeping goes on. -/
theorem ids_ownFrom {B m : Nat} (hm : m < B) {W W' : World} {row : Option Nat} {base p n : Nat} {ao : Option Addr} {cap : Nat} {ks : List ByteArray} (h : StrIds base W p m n ao cap ks) (hg : W.grownBy W' row) (hr : ∀ r, row = some r → B ≤ r ∧ ∃ o : Obj, W.heap[r]? = some o ∧ o.isCells = false) : StrIds base W' p m n ao cap ks :=
  ids_noncell h (only_grown hg) fun k hk => ⟨by have := (hr k hk).1; omega, fun o ho => by obtain ⟨o', e1, e2⟩ := (hr k hk).2; rw [e1] at ho; cases ho; exact e2⟩

theorem only_trans2 {S S' : Nat → Prop} {a b c : World} (h : Only S a b) (k : Only S' b c) (hs : ∀ q, q < a.heap.size → S' q → S q) : Only S a c :=
  ⟨k.os.trans h.os, k.tape.trans h.tape, k.output.trans h.output, Nat.le_trans h.size k.size, fun i hi hn => (k.block i (Nat.lt_of_lt_of_le hi h.size) (fun e => hn (hs i hi e))).trans (h.block i hi hn)⟩

theorem tmod2 (n : Nat) : ((n : Int) + 1).tmod 2 = (((n + 1) % 2 : Nat) : Int) := by
  rw [Int.tmod_eq_emod_of_nonneg (by omega)]
  omega

theorem ddS_nodup0 (ss : List ByteArray) : (ddS ss).Nodup := by
  have h : ∀ (ss ks : List ByteArray), ks.Nodup → (ss.foldl addS ks).Nodup := by
    intro ss
    induction ss with
    | nil => intro ks h; exact h
    | cons s r ih => intro ks h; exact ih _ (addS_nodup h s)
  exact h ss [] List.nodup_nil

theorem ddS_mem0 {ss : List ByteArray} {k : ByteArray} : k ∈ ddS ss ↔ k ∈ ss := by
  have h : ∀ (ss ks : List ByteArray), k ∈ ss.foldl addS ks ↔ k ∈ ks ∨ k ∈ ss := by
    intro ss
    induction ss with
    | nil => intro ks; simp
    | cons s r ih => intro ks; rw [List.foldl_cons, ih, addS_mem, List.mem_cons, or_assoc]
  have := h ss []
  simpa [ddS] using this

theorem strs_kept0 {W W' : World} {a : Option Addr} {n : Nat} {xs : List ByteArray} (h : IsStrs W a n xs) (hb : Below W.heap.size W W') : IsStrs W' a n xs := by
  obtain ⟨h1, h2, h3, h4⟩ := h
  refine ⟨h1, h2, h3, fun hp => ?_⟩
  obtain ⟨b, off, rfl, hr⟩ := h4 hp
  exact ⟨b, off, rfl, fun i s hs => kept_cell hb (hr i s hs)⟩
end Go.Proofs.Ythhoiejjejdffaa
