/- edictlaw01's filled: a table of all valid constants that came, each once. -/
import Derived.Test.YthhoiejjejdffaaFillMem
import Derived.Deep.RegionHeld3
namespace Go.Proofs.Ythhoiejjejdffaa
set_option linter.unusedSimpArgs false
set_option linter.unusedVariables false
open Go.RowKit Go.Maps

theorem con_new {w : World} {c : Con} : ∀ j u, (cells3 c)[j]? = some u → (w.alloc (.cells #[.int .i64 c.k, .int .i64 c.n, .string c.s] 34)).cell? ((⟨w.heap.size, 0, none⟩ : Addr).add j) = some u :=
  World.news_of_block (cs := #[.int .i64 c.k, .int .i64 c.n, .string c.s]) (t := 34) (fr := (0, 0)) (heap_alloc_new w _)

theorem Try.infoC3 : (Try.prog.info? 34).map (fun i => (i.zero, i.size, i.bytes)) = some (some (.agg #[.int .i64 0, .int .i64 0, .string ⟨#[]⟩]), 3, 32) := by kernel_rfl

theorem con_cell {base : Nat} {W : World} {v : Value} {ss : List Con} (h : Holds3 base W v ss) {i : Nat} {c : Con} (hi : ss[i]? = some c) : ∃ g cap, v = .slice (some ⟨g, 0, none⟩) ss.length cap ∧ conAt W g (i * 3) c := by
  have hlt : i < ss.length := (List.getElem?_eq_some_iff.1 hi).1
  rcases h.2 with ⟨_, h0⟩ | ⟨g, cap, cur, rfl, _⟩
  · omega
  · have hn := holds_news (n := ss.length) (cap := cap) h
    refine ⟨g, cap, rfl, ?_, ?_, ?_⟩
    · have := hn (i * 3 + 0) _ ((flat3 ss i 0 c hi (by omega)).trans rfl); rwa [addr_add, Nat.zero_add] at this
    · have := hn (i * 3 + 1) _ ((flat3 ss i 1 c hi (by omega)).trans rfl); rwa [addr_add, Nat.zero_add] at this
    · have := hn (i * 3 + 2) _ ((flat3 ss i 2 c hi (by omega)).trans rfl); rwa [addr_add, Nat.zero_add] at this

theorem Fld.times {w W : World} {p m n cp : Nat} {a : Option Addr} {ks ss : List Con} (h : Fld w W p m (.slice a n cp) ks ss) (hok : ∀ c ∈ ss, c.ok) (hn : ss.length = n) (hl : n ≤ 65536) (c : Con) :
    Calls Try.prog 42 #[.slice a n cp, c.val] W fun e W' => e = .returned (.int .i64 (timesC c ss : Int)) ∧ Hid (Fld w W' p m (.slice a n cp) ks ss) := by
  obtain ⟨ao, cap, hv, _, hI⟩ := holds_cons h.seen hok (by omega)
  simp only [Value.slice.injEq] at hv
  obtain ⟨rfl, _, _⟩ := hv
  rw [hn] at hI
  exact (times_any a n cp ss c W hI.1 (by omega)).mono fun e W' ⟨he, hb⟩ => ⟨he, h.grow hb⟩

theorem neqSelf (c : Con) (w : World) : (binOp .neq 34 (.agg #[.int .i64 c.k, .int .i64 c.n, .string c.s]) (.agg #[.int .i64 c.k, .int .i64 c.n, .string c.s])).run Try.prog w = .ok (.bool false) w := by
  rw [neqCon, conEq_refl]; rfl

set_option maxRecDepth 100000 in
set_option maxHeartbeats 4000000 in
theorem filled_any (ao : Option Addr) (len cap : Nat) (cs : List Con) (w : World) (h : IsCons w ao len cs) (hl : len ≤ 65536) :
    Calls Try.prog 11 #[.slice ao len cap] w fun e w' => ∃ p, e = .returned (.tuple #[.pointer (some ⟨p, 0, none⟩), .int .i64 (ddV cs).length, .bool true]) ∧ ∃ m v, Fld w w' p m v (ddV cs) (ddV cs) := by
  obtain ⟨i0, hi0, hz0, hz1, hz2⟩ := info_parts Try.infoC3
  obtain ⟨hlen, hrest⟩ := h
  have HR := hide hrest
  have HN := hide hlen
  clear hrest hlen
  have HNew := hide (newTable_any w (base := w.heap.size) (Nat.le_refl _))
  go_enter Try.func11, Try.ntmps11
  go_wp2_with (go_at_call 24; refine HNew.out.mono ?_; rintro e w1 ⟨p, m, rfl, hT1, hb1, hp1, hm1⟩; have HT1 := hide hT1; have HB1 := hide hb1; clear hT1 hb1 HNew)
  go_loopw [6, 7] (fun v i wr => ∃ (k n : Nat) (a : Option Addr) (cp : Nat), k ≤ len ∧ n ≤ k ∧ i = .int .i64 k ∧ v = .slice a n cp ∧ Hid ((ddV (cs.take k)).length = n) ∧ Hid (Fld w wr p m v (ddV (cs.take k)) (ddV (cs.take k)))) (fun _ i _ => len - (intOf i).toNat)
  case atStart =>
    refine ⟨0, 0, none, 0, by omega, by omega, rfl, rfl, rfl, ⟨⟨0, none, 0, Nat.zero_le _, HT1.out, ?_⟩, ?_, HB1.out⟩⟩
    · intro k _ hk; simp [Value.ownBlock] at hk
    · exact World.ownsRow_nil _ _ _ _
  case round =>
    obtain ⟨k, n, a, cp, hk, hnk, rfl, rfl, HKN, HF⟩ := hrel
    by_cases hlt : k < len
    · have hi : (k : Int) < (len : Int) := by omega
      obtain ⟨b, off, rfl, hr⟩ := HR.out.2.2 (by omega)
      obtain ⟨c, hc⟩ : ∃ c, cs[k]? = some c := ⟨_, List.getElem?_eq_getElem (by have := HN.out; omega)⟩
      have hok : c.ok := HR.out.2.1 c (List.mem_of_getElem? hc)
      have HOK : Hid (∀ d ∈ ddV (cs.take k), d.ok) := fun d hd => HR.out.2.1 d (List.mem_of_mem_take (ddV_mem hd))
      have HCat := hide (fun W hb => conAt_kept (w' := W) (hr k c hc) hb)
      have HST : Hid (ddV (cs.take (k + 1)) = addV (ddV (cs.take k)) c) := ddV_take cs hc
      obtain ⟨x0, x1, x2⟩ := HCat.out wr HF.out.bel
      have HHok := hide hok
      clear hr hc hok
      cases hv : validC c with
      | false =>
        have hI := HF.out.bad HHok.out hv
        have hV : ∀ W, Calls Try.prog 41 #[c.val] W fun e w' => e = .returned (.bool false) ∧ Below W.heap.size W w' := fun W => by have := valid_any c W HHok.out; rw [hv] at this; exact this
        unfold Con.val at hI hV
        have HI := hide hI
        have HV := hide hV
        have HX : Hid (ddV (cs.take (k + 1)) = ddV (cs.take k)) := by
          show _ = _
          rw [HST.out]; unfold addV; rw [if_neg (fun h => by rw [hv] at h; exact absurd h.1 (by simp))]
        clear hI hV
        go_wp2_with (first
          | (go_at_call 40; refine HI.out.mono ?_; rintro e W1 ⟨rfl, HF1⟩; obtain ⟨y0, y1, y2⟩ := HCat.out W1 HF1.out.bel; clear HI)
          | (go_at_call 41; refine (HV.out _).mono ?_; rintro e W2 ⟨rfl, hb2⟩; have HF2 := hide (HF1.out.grow hb2); clear hb2 HV))
        go_roundw
        case rel => exact ⟨k + 1, n, a, cp, by omega, by omega, by go_num, rfl, by rw [HX.out]; exact HKN, by rw [HX.out]; exact HF2⟩
        case measure => simp [intOf]; omega
      | true =>
        have hV : ∀ W, Calls Try.prog 41 #[c.val] W fun e w' => e = .returned (.bool true) ∧ Below W.heap.size W w' := fun W => by have := valid_any c W HHok.out; rw [hv] at this; exact this
        unfold Con.val at hV
        have HV := hide hV
        clear hV
        by_cases hin : c ∈ ddV (cs.take k)
        · obtain ⟨j, hj⟩ := List.getElem?_of_mem hin
          have hjn : j < n := by have := (List.getElem?_eq_some_iff.1 hj).1; rw [HKN.out] at this; exact this
          obtain ⟨g, cp', hga, -⟩ := con_cell HF.out.seen hj
          simp only [Value.slice.injEq] at hga
          obtain ⟨rfl, -, -⟩ := hga
          have hI := HF.out.old HHok.out hv hj
          unfold Con.val at hI
          have HI := hide hI
          have HX : Hid (ddV (cs.take (k + 1)) = ddV (cs.take k)) := by
            show _ = _
            rw [HST.out]; unfold addV; rw [if_neg (fun h => h.2 hin)]
          have HT0 : Hid (¬ timesC c (ddV (cs.take k)) = 0) := fun h => (times_zero c _).1 h hin
          have HJ := hide hj
          clear hI hin hj
          obtain ⟨T, hT⟩ : ∃ T, T = timesC c (ddV (cs.take k)) := ⟨_, rfl⟩
          have HTT := hide hT
          have hT0 : ((T : Int) == 0) = false := by rw [beq_eq_false_iff_ne]; have := HT0.out; rw [← hT] at this; omega
          clear hT HT0
          have q1 : decide ((j : Int) < 0) = false := decide_eq_false (by omega)
          have q2 : decide ((n : Int) ≤ (j : Int)) = false := decide_eq_false (by omega)
          have q3 := neqSelf c
          have q4 : (j : Int) < (n : Int) := by omega
          go_wp2_with (first
            | (go_at_call 40; refine HI.out.mono ?_; rintro e W1 ⟨rfl, HF1⟩; obtain ⟨y0, y1, y2⟩ := HCat.out W1 HF1.out.bel; clear HI)
            | (go_at_call 41; refine (HV.out _).mono ?_; rintro e W2 ⟨rfl, hb2⟩; have HF2 := hide (HF1.out.grow hb2); obtain ⟨z0, z1, z2⟩ := HCat.out W2 HF2.out.bel; have hTm := HF2.out.times HOK.out HKN.out (by omega) c; unfold Con.val at hTm; rw [← HTT.out] at hTm; have HTm := hide hTm; clear hb2 HV hTm)
            | (go_at_call 42; refine HTm.out.mono ?_; rintro e W3 ⟨rfl, HF3⟩; obtain ⟨t0, t1, t2⟩ := HCat.out W3 HF3.out.bel; obtain ⟨g', cp'', hga, u0, u1, u2⟩ := con_cell HF3.out.seen HJ.out; simp only [Value.slice.injEq, Option.some.injEq, Addr.mk.injEq] at hga; obtain ⟨⟨rfl, -⟩, -, -⟩ := hga; clear HTm))
          go_quiet (fail)
          go_wp2
          go_roundw
          case rel => exact ⟨k + 1, n, _, cp, by omega, by omega, by go_num, rfl, by rw [HX.out]; exact HKN, by rw [HX.out]; exact HF3.out.grow (below_drewN _ _ _)⟩
          case measure => simp [intOf]; omega
        · have hI := HF.out.new HHok.out HOK.out hv hin (by have := HKN.out; omega)
          rw [HKN.out] at hI
          unfold Con.val at hI
          have HI := hide hI
          have HX : Hid (ddV (cs.take (k + 1)) = ddV (cs.take k) ++ [c]) := by
            show _ = _
            rw [HST.out]; unfold addV; rw [if_pos ⟨hv, hin⟩]
          have HT0 : Hid (timesC c (ddV (cs.take k)) = 0) := (times_zero c _).2 hin
          have HLn : Hid ((ddV (cs.take k) ++ [c])[n]? = some c) := by show _ = _; rw [List.getElem?_append_right (by rw [HKN.out]; exact Nat.le_refl _), HKN.out]; simp
          clear hI hin
          have q1 : decide ((n : Int) < 0) = false := decide_eq_false (by omega)
          have q2 : decide (((n + 1 : Nat) : Int) ≤ (n : Int)) = false := decide_eq_false (by omega)
          have q2' : decide ((n : Int) + 1 ≤ (n : Int)) = false := decide_eq_false (by omega)
          have q3 := neqSelf c
          have q4 : (n : Int) < ((n + 1 : Nat) : Int) := by omega
          have q4' : (n : Int) < (n : Int) + 1 := by omega
          go_wp2_with (first
            | (go_at_call 40; refine HI.out.mono ?_; rintro e W1 ⟨rfl, HF1⟩; obtain ⟨y0, y1, y2⟩ := HCat.out W1 HF1.out.bel; clear HI)
            | (go_at_call 41; refine (HV.out _).mono ?_; rintro e W2 ⟨rfl, hb2⟩; have HF2 := hide (HF1.out.grow hb2); obtain ⟨z0, z1, z2⟩ := HCat.out W2 HF2.out.bel; have hTm := HF2.out.times HOK.out HKN.out (by omega) c; unfold Con.val at hTm; rw [HT0.out] at hTm; have HTm := hide hTm; clear hb2 HV hTm)
            | (go_at_call 42; refine HTm.out.mono ?_; rintro e W3 ⟨rfl, HF3⟩; obtain ⟨t0, t1, t2⟩ := HCat.out W3 HF3.out.bel; clear HTm)
            | (at_builtin; refine wpList_append_lies _ rfl _ _ 32 rfl w.heap.size 34 i0 (.agg #[.int .i64 0, .int .i64 0, .string ⟨#[]⟩]) 3 32 Try.underlying32 hi0 hz0 hz1 hz2 rfl (by decide) (.slice a n cp) n ((ddV (cs.take k)).flatMap cells3) rfl (by have := World.ownsRow.alloc HF3.out.seen (.cells #[.int .i64 c.k, .int .i64 c.n, .string c.s] 34); rw [HKN.out] at this; exact this) ⟨W3.heap.size, 0, none⟩ 1 1 (cells3 c) rfl rfl con_new (by simp [cells3, Value.oneCell']) (by decide) (by unfold maxLen; omega) (by omega) (by have := HF3.out.bel.size; simp; omega) (W3.heap.size + 1) (by simp) ?_; intro gg cap' W4 hown1 hgrow hat hlt1; have HF4 := hide (HF3.out.push (by rw [HKN.out]; exact hown1) hgrow hat); rw [HKN.out] at HF4; obtain ⟨v0, v1, v2⟩ := HCat.out W4 HF4.out.bel; obtain ⟨g', cp'', hga, u0, u1, u2⟩ := con_cell HF4.out.seen HLn.out; simp only [Value.slice.injEq, Option.some.injEq, Addr.mk.injEq] at hga; obtain ⟨⟨rfl, -⟩, -, -⟩ := hga; clear hown1 hgrow hat hlt1))
          go_quiet (fail)
          go_wp2
          go_roundw
          case rel => exact ⟨k + 1, n + 1, _, cap', by omega, by omega, by go_num, rfl, by rw [HX.out, List.length_append, HKN.out]; rfl, by rw [HX.out]; exact HF4.out.grow (below_drewN _ _ _)⟩
          case measure => simp [intOf]; omega
    · obtain rfl : k = len := by omega
      have hi : ¬ (k : Int) < (k : Int) := by omega
      have hall : cs.take k = cs := List.take_of_length_le (by rw [HN.out]; exact Nat.le_refl _)
      rw [hall] at HF HKN
      go_wp2
      exact bodyPost_ret (v := .tuple #[.pointer (some ⟨p, 0, none⟩), .int .i64 n, .bool true]) (by simp [results, Try.results11, go_sem]) rfl ⟨_, by rw [HKN.out], m, _, HF.out⟩
end Go.Proofs.Ythhoiejjejdffaa
