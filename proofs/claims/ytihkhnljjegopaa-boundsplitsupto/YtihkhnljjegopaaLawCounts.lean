/- The law of counts: its walk. -/
import Derived.Test.YtihkhnljjegopaaBoundToks
import Derived.Test.YtihkhnljjegopaaLawLists
namespace Go.Proofs.Ytihkhnljjegopaa
set_option linter.unusedSimpArgs false
set_option linter.unusedVariables false
open Go.RowKit

theorem Try.infoStr9 : (Try.prog.info? 9).map (fun i => (i.zero, i.size, i.bytes)) = some (some (.string ⟨#[]⟩), 1, 16) := by kernel_rfl

def emR (v : Value) (b : Nat) : Rul := ⟨⟨0, .slice none 0 0, []⟩, .slice none 0 0, [], .slice none 0 0, [], .slice none 0 0, [], v, List.replicate b ⟨#[]⟩, 0⟩
def emN (k w : Int) : Nod := ⟨k, 0, 0, .slice none 0 0, [], .slice none 0 0, [], ⟨0, ⟨false, 0⟩, ⟨false, 0⟩⟩, w⟩
theorem i64_0 : I64 0 := ⟨by decide, by decide⟩
theorem emN_ok {k x : Int} (hk : I64 k) (hx : I64 x) (w : World) (F : Nat → Prop) : elNod.ok w F (emN k x) :=
  ⟨hk, i64_0, i64_0, Lst.nil _ _ _, Lst.nil _ _ _, ⟨i64_0, i64_0, i64_0⟩, hx⟩
theorem row_strs {w : World} {g n : Nat} (h : w.rowIs g 9 n (fun _ => .string ⟨#[]⟩)) (hn : n < 1073741824) {F : Nat → Prop} (hF : F g) : Lst elStr w F (.slice (some ⟨g, 0, none⟩) n n) (List.replicate n ⟨#[]⟩) := by
  refine ⟨_, _, by rw [List.length_replicate], by rw [List.length_replicate]; exact Nat.le_refl _, fun h => (by cases h), by rw [List.length_replicate]; exact hn, fun x hx => ?_, fun hp => ⟨g, 0, rfl, h.lt, hF, fun i x hx j u hu => ?_⟩⟩
  · rw [(List.mem_replicate.1 hx).2]
    show (0 : Nat) ≤ _
    omega
  · rw [List.getElem?_replicate] at hx
    split at hx
    · cases hx
      rename_i hi
      have hj : j = 0 := by have := (List.getElem?_eq_some_iff.1 hu).1; rw [elStr.len] at this; simp [elStr] at this; exact this
      subst hj
      simp only [elStr, List.getElem?_cons_zero, Option.some.injEq] at hu
      subst hu
      have := h.cell hi
      simpa [elStr] using this
    · cases hx
theorem fires_em (a b : Nat) (v : Value) : fires (a : Int) [emR v b] = a ^ b := by simp [fires, emR]
theorem toks_em (a b : Nat) : toks (a : Int) [emN 0 3, emN 1 (b : Int)] = a ^ b := by simp [toks, tokL, nodeP, emN]

/-- What lies there when the law has made its rule and its plan. -/
structure MadeAt (V W : World) (b : Nat) : Prop where
  rules : Has elRul W (.slice (some ⟨V.heap.size + 1 + 1 + 1 + 1, 0, none⟩) 1 1) [emR (.slice (some ⟨V.heap.size, 0, none⟩) b b) b]
  nodes : Has elNod W (.slice (some ⟨V.heap.size + 1 + 1, 0, none⟩) 2 2) [emN 0 3, emN 1 (b : Int)]
  c0 : W.cell? ⟨V.heap.size + 1 + 1 + 1, 0, none⟩ = some (.slice none 0 0)
  c1 : W.cell? ⟨V.heap.size + 1 + 1 + 1, 1, none⟩ = some (.slice (some ⟨V.heap.size + 1 + 1, 0, none⟩) 2 2)
  c2 : W.cell? ⟨V.heap.size + 1 + 1 + 1, 2, none⟩ = some (.slice none 0 0)
  below : Below V.heap.size V W
theorem made_at (V : World) {b : Nat} (hb : b ≤ 4) : MadeAt V (((((V.alloc (.cells (madeCells #[.string ⟨#[]⟩] b) 9)).alloc (.cells #[.int .i64 0, .slice none 0 0, .slice none 0 0, .slice none 0 0, .slice none 0 0, .slice (some ⟨V.heap.size, 0, none⟩) b b, .int .i64 0] 42)).alloc
    (.cells #[.int .i64 0, .int .i64 0, .int .i64 0, .slice none 0 0, .slice none 0 0, .int .i64 0, .bool false, .int .i64 0, .bool false, .int .i64 0, .int .i64 3, .int .i64 1, .int .i64 0, .int .i64 0, .slice none 0 0, .slice none 0 0, .int .i64 0, .bool false, .int .i64 0, .bool false, .int .i64 0, .int .i64 (b : Int)] 51)).alloc
    (.cells #[.slice none 0 0, .slice (some ⟨V.heap.size + 1 + 1, 0, none⟩) 2 2, .slice none 0 0] 34)).alloc (.cells #[.int .i64 0, .slice none 0 0, .slice none 0 0, .slice none 0 0, .slice none 0 0, .slice (some ⟨V.heap.size, 0, none⟩) b b, .int .i64 0] 42)) b := by
  have hrow := World.rowIs_made V (.string ⟨#[]⟩) b 9
  obtain ⟨W1, h1⟩ : ∃ W1, V.alloc (.cells (madeCells #[.string ⟨#[]⟩] b) 9) = W1 := ⟨_, rfl⟩
  have s1 : W1.heap.size = V.heap.size + 1 := by rw [← h1]; simp
  have b1 : Below V.heap.size V W1 := by rw [← h1]; exact belo1 _ _
  rw [h1] at hrow ⊢
  clear h1
  generalize he2 : (Obj.cells #[Value.int .i64 0, .slice none 0 0, .slice none 0 0, .slice none 0 0, .slice none 0 0, .slice (some ⟨V.heap.size, 0, none⟩) b b, .int .i64 0] 42) = o2
  obtain ⟨W2, h2⟩ : ∃ W2, W1.alloc o2 = W2 := ⟨_, rfl⟩
  have s2 : W2.heap.size = V.heap.size + 1 + 1 := by rw [← h2]; simp [s1]
  have b2 : Below W1.heap.size W1 W2 := by rw [← h2]; exact belo1 _ _
  rw [h2]
  clear h2
  have hN := has_new elNod W2 51 [emN 0 3, emN 1 (b : Int)] #[.int .i64 0, .int .i64 0, .int .i64 0, .slice none 0 0, .slice none 0 0, .int .i64 0, .bool false, .int .i64 0, .bool false, .int .i64 0, .int .i64 3, .int .i64 1, .int .i64 0, .int .i64 0, .slice none 0 0, .slice none 0 0, .int .i64 0, .bool false, .int .i64 0, .bool false, .int .i64 0, .int .i64 (b : Int)] rfl (F := fun _ => True) trivial (fun x hx => by
    simp only [List.mem_cons, List.not_mem_nil, or_false] at hx
    rcases hx with rfl | rfl
    · exact emN_ok i64_0 ⟨by decide, by decide⟩ _ _
    · exact emN_ok ⟨by decide, by decide⟩ ⟨by omega, by omega⟩ _ _) (by simp)
  generalize (Obj.cells #[Value.int .i64 0, .int .i64 0, .int .i64 0, .slice none 0 0, .slice none 0 0, .int .i64 0, .bool false, .int .i64 0, .bool false, .int .i64 0, .int .i64 3, .int .i64 1, .int .i64 0, .int .i64 0, .slice none 0 0, .slice none 0 0, .int .i64 0, .bool false, .int .i64 0, .bool false, .int .i64 0, .int .i64 (b : Int)] 51) = o3 at hN ⊢
  rw [s2] at hN
  obtain ⟨W3, h3⟩ : ∃ W3, W2.alloc o3 = W3 := ⟨_, rfl⟩
  have s3 : W3.heap.size = V.heap.size + 1 + 1 + 1 := by rw [← h3]; simp [s2]
  have b3 : Below W2.heap.size W2 W3 := by rw [← h3]; exact belo1 _ _
  rw [h3] at hN ⊢
  clear h3
  have p0 : ∀ (j : Nat) (u : Value), _ → _ := new_cells (w := W3) (cs := #[.slice none 0 0, .slice (some ⟨V.heap.size + 1 + 1, 0, none⟩) 2 2, .slice none 0 0]) (t := 34)
  generalize (Obj.cells #[Value.slice none 0 0, .slice (some ⟨V.heap.size + 1 + 1, 0, none⟩) 2 2, .slice none 0 0] 34) = o4 at p0 ⊢
  obtain ⟨W4, h4⟩ : ∃ W4, W3.alloc o4 = W4 := ⟨_, rfl⟩
  have s4 : W4.heap.size = V.heap.size + 1 + 1 + 1 + 1 := by rw [← h4]; simp [s3]
  have b4 : Below W3.heap.size W3 W4 := by rw [← h4]; exact belo1 _ _
  rw [h4] at p0 ⊢
  rw [s3] at p0
  clear h4
  have b5 : Below W4.heap.size W4 (W4.alloc o2) := belo1 _ _
  have b13 := belot b2 b3
  have b14 := belot b13 b4
  have b15 := belot b14 b5
  have hS := (row_strs (F := fun _ => True) hrow (by omega) trivial).kept b15
  refine ⟨?_, (hN.kept b4).kept b5, kept_cell b5 (p0 0 _ rfl), kept_cell b5 (p0 1 _ rfl), kept_cell b5 (p0 2 _ rfl), belot b1 b15⟩
  subst he2
  have hR := has_new elRul W4 42 [emR (.slice (some ⟨V.heap.size, 0, none⟩) b b) b] #[.int .i64 0, .slice none 0 0, .slice none 0 0, .slice none 0 0, .slice none 0 0, .slice (some ⟨V.heap.size, 0, none⟩) b b, .int .i64 0] rfl (F := fun _ => True) trivial (fun x hx => by
    simp only [List.mem_singleton] at hx
    subst hx
    exact ⟨⟨i64_0, Lst.nil _ _ _⟩, Lst.nil _ _ _, Lst.nil _ _ _, Lst.nil _ _ _, hS, i64_0⟩) (by simp)
  rw [s4] at hR
  exact hR

set_option maxHeartbeats 1000000 in
theorem boundCounts_walk (d n : Int) (w : World) (hd : I64 d) (hn : I64 n) :
    Calls Try.prog 4 #[.int .i64 d, .int .i64 n] w fun e w' => e = .returned (.bool true) ∧ Below w.heap.size w w' := by
  obtain ⟨a, ha⟩ : ∃ a : Nat, d % 6 = a := ⟨(d % 6).toNat, by omega⟩
  obtain ⟨b, hb⟩ : ∃ b : Nat, n % 5 = b := ⟨(n % 5).toNat, by omega⟩
  have H1 := hide (mod_any (k := 6) hd (by decide) (by decide) w)
  have H2 := hide (mod_any (k := 5) hn (by decide) (by decide) w)
  rw [ha] at H1
  rw [hb] at H2
  have ha5 : a ≤ 5 := by omega
  have hb4 : b ≤ 4 := by omega
  have H3 := hide (lists_any ha5 hb4 w)
  have hmk := fun W : World => run_make_row' (P := Try.prog) 35 9 (.string ⟨#[]⟩) 16 Try.underlying35 Try.infoStr9 rfl .i64 .i64 b (by omega) (by omega) W
  have HPw := hide (fun V => bpow_any (a := a) (n := b) (by omega) (by omega) V)
  have HC : Hid (cutN (a ^ b) = a ^ b) := cutN_of (by have := pow625 ha5 hb4; omega)
  obtain ⟨z, hz⟩ : ∃ z, a ^ b = z := ⟨_, rfl⟩
  rw [HC.out] at HPw
  rw [hz] at H3 HPw
  have HZ := hide hz
  have w1 : IntKind.u64.wrap (a : Int) = (a : Int) := by rw [IntKind.wrap_u64]; omega
  have w2 : IntKind.u64.wrap (b : Int) = (b : Int) := by rw [IntKind.wrap_u64]; omega
  clear hd hn ha hb hz
  go_enter Try.func4, Try.ntmps4
  go_wp2_with (first
    | (go_at_call 7; refine H1.out.mono ?_; rintro e w2 ⟨rfl, hw⟩; have hw := hw.symm; subst hw; clear H1)
    | (go_at_call 7; refine H2.out.mono ?_; rintro e w2 ⟨rfl, hw⟩; have hw := hw.symm; subst hw; clear H2)
    | (go_at_call 11; refine H3.out.mono ?_; rintro e w3 ⟨rfl, hb⟩; have B1 := hide hb; clear hb H3)
    | (go_at_call 12; refine (HPw.out _).mono ?_; rintro e w4 ⟨rfl, hw⟩; have hw := hw.symm; subst hw; clear HPw)
    | (go_at_call 8; refine (firings_any (made_at w3 hb4).rules (d := (a : Int)) ⟨by omega, by omega⟩).mono ?_; rw [fires_em, HC.out, HZ.out]; rintro e w4 ⟨rfl, hb⟩; have B2 := hide ((made_at w3 hb4).below.trans (hb.mono (made_at w3 hb4).below.size)); have c0 := kept_cell hb (made_at w3 hb4).c0; have c1 := kept_cell hb (made_at w3 hb4).c1; have c2 := kept_cell hb (made_at w3 hb4).c2; have HT := hide (tokens_any (av := .slice none 0 0) (ev := .slice none 0 0) ((made_at w3 hb4).nodes.kept hb) (d := (a : Int)) ⟨by omega, by omega⟩); rw [toks_em, HC.out, HZ.out] at HT; clear hb)
    | (go_at_call 10; refine HT.out.mono ?_; rintro e w5 ⟨rfl, hb⟩; have B3 := hide (B2.out.trans (hb.mono B2.out.size)); clear hb))
  go_ret
  exact ⟨rfl, B1.out.trans (B3.out.mono B1.out.size)⟩
end Go.Proofs.Ytihkhnljjegopaa
