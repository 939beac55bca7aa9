/- The walk of laws.FnWcetMonotone, for whatever code. Conditions: the argument is a slice of bytes; Impl8. -/
import Derived.Test.YtlcdmjcikbgnpaaPrgCon
import Derived.BigQuiet
namespace Go.Proofs.Ytlcdmjcikbgnpaa
open Go.RowKit Go.Deep

theorem one_flat (ps : List N5) : ∀ u ∈ flatN ps, u.oneCell' = true := by
  intro u hu
  unfold flatN at hu
  obtain ⟨n, -, hn⟩ := List.mem_flatMap.1 hu
  simp only [List.mem_cons, List.not_mem_nil, or_false] at hn
  rcases hn with rfl | rfl | rfl | rfl | rfl <;> rfl
/-- Where the nodes of one's own lie. -/
theorem OwnN.src {w : World} {base : Nat} {v : Value} {ps : List N5} (h : OwnN w base v ps) (hn : 0 < ps.length) : ∃ g cap, v = .slice (some ⟨g, 0, none⟩) ps.length cap ∧ ∀ j u, (flatN ps)[j]? = some u → w.cell? ((⟨g, 0, none⟩ : Addr).add j) = some u := by
  obtain ⟨g, cap, rfl, -⟩ := h.at hn
  exact ⟨g, cap, rfl, World.ownsRow.cells h rfl⟩

theorem OwnN.cellsN {w : World} {base g n gc k : Nat} {ps : List N5} {q c a b m : Int} (h : OwnN w base (.slice (some ⟨g, 0, none⟩) n gc) ps) (hk : k < ps.length) (hn : nd8 ps k = (q, c, a, b, m)) :
    w.cell? ⟨g, k * 5, none⟩ = some (.int .i64 q) ∧ w.cell? ⟨g, k * 5 + 1, none⟩ = some (.int .i64 c) ∧ ∀ j, w.frozen? ⟨g, j, none⟩ = false := by
  obtain ⟨b', off', e', -, c0, c1, -, -, -⟩ := rowN_at (OwnN.rowOf h) hk hn
  simp only [Option.some.injEq, Addr.mk.injEq, and_true] at e'
  obtain ⟨rfl, rfl⟩ := e'
  rw [Nat.zero_add] at c0 c1
  obtain ⟨g9, gc9, e9, -, -, -, hfz⟩ := h.at (by omega)
  simp only [Value.slice.injEq, Option.some.injEq, Addr.mk.injEq, and_true] at e9
  obtain ⟨rfl, -⟩ := e9
  exact ⟨c0, c1, hfz⟩

set_option maxRecDepth 100000 in
set_option maxHeartbeats 4000000 in
/-- laws.FnWcetMonotone. -/
theorem fnWcetMonotone_walk (I8 : Impl8) (a : Option Addr) (len cap : Nat) (w : World) (hb : Byts w a len cap) :
    Calls Try.prog 7 #[.slice a len cap] w fun e w' => e = .returned (.bool true) ∧ Below w.heap.size w w' := by
  have hm : cap ≤ maxLen := hb.2.2
  have hlc : len ≤ cap := hb.2.1
  unfold maxLen at hm
  have HB := Lib.hid hb
  clear hb
  by_cases hl : 1048576 < len
  · have hl' : (1048576 : Int) < len := by omega
    go_enter Try.func7, Try.ntmps7
    go_wp2
    go_ret
    exact ⟨rfl, Below.refl _ _⟩
  have hl' : ¬ (1048576 : Int) < len := by omega
  go_enter Try.func7, Try.ntmps7
  go_wp2_with fail
  refine (drawBcet_any _ _ _ _ HB.out).mono ?_
  rintro e w1 ⟨s, ps, rfl, hn, ho1, b1⟩
  obtain ⟨pa, pc, rfl, hr1, -, -⟩ := ho1.row
  have R1 := Lib.hid hr1
  have O1 := Lib.hid ho1
  have HI := Lib.hid I8
  obtain ⟨L, hL⟩ : ∃ L, L = bd8 false ps := ⟨_, rfl⟩
  obtain ⟨U, hU⟩ : ∃ U, U = bd8 true ps := ⟨_, rfl⟩
  have HL := Lib.hid hL
  have HU := Lib.hid hU
  clear hr1 ho1 I8 HB hL hU
  go_wp2_with fail
  refine (HI.out.bcet _ _ ps _ R1.out (by omega)).mono ?_
  rintro e w2 ⟨rfl, b2⟩
  rw [← HL.out]
  have B2 := b1.trans (b2.mono b1.size)
  have R2 := Lib.hid (R1.out.below b2)
  have O2 := Lib.hid (O1.out.below b2)
  clear b1 b2 R1 O1
  go_wp2_with fail
  refine (specBcet_any _ _ ps _ R2.out (by omega)).mono ?_
  rintro e w3 ⟨rfl, b3⟩
  rw [← HL.out]
  have B3 := B2.trans (b3.mono B2.size)
  have R3 := Lib.hid (R2.out.below b3)
  have O3 := Lib.hid (O2.out.below b3)
  clear b3 R2 B2 O2
  go_wp2_with fail
  refine (specProgramValid_any _ _ ps _ R3.out (by omega)).mono ?_
  rintro e w4 ⟨rfl, b4⟩
  have B4 := B3.trans (b4.mono B3.size)
  have R4 := Lib.hid (R3.out.below b4)
  have O4 := Lib.hid (O3.out.below b4)
  clear b4 R3 B3 O3
  cases hv : pvB ps with
  | false =>
    obtain rfl : L = -1 := by rw [HL.out]; exact if_neg (by rw [hv]; simp)
    clear hv HL
    go_wp2_with fail
    refine (alive_any _).mono ?_
    rintro e w7 ⟨rfl, b7⟩
    have B7 := B4.trans (b7.mono B4.size)
    clear b7 B4
    go_wp2
    go_ret
    exact ⟨rfl, B7⟩
  | true =>
    obtain ⟨q1, q2, q3, q4⟩ := ex8_le hv []
    have hLU : L ≤ U := by rw [HL.out, HU.out]; omega
    obtain ⟨⟨hl1, hl2⟩, hpv, -⟩ := pv_iff.1 hv
    have HPV := Lib.hid hpv
    have HV := Lib.hid hv
    obtain ⟨A, hA⟩ : ∃ A, A = len % ps.length := ⟨_, rfl⟩
    have hAl : A < ps.length := by rw [hA]; exact Nat.mod_lt _ (by omega)
    have htm : (len : Int).tmod (ps.length : Int) = (A : Int) := by rw [hA]; rfl
    have hA0 : (0 : Int) ≤ A := by omega
    have hA1 : (A : Int) < ps.length := by omega
    have hp0 : ¬ (ps.length : Int) = 0 := by omega
    obtain ⟨i0, xi, xz, xsz, xby⟩ := info_parts nodeInfo
    have HX := Lib.hid (And.intro xi (And.intro xz (And.intro xsz xby)))
    obtain ⟨g, gc, e, hsrc⟩ := O4.out.src (by omega)
    obtain ⟨rfl, rfl⟩ : pa = some ⟨g, 0, none⟩ ∧ pc = gc := by simp only [Value.slice.injEq, true_and] at e; exact e
    have HS := Lib.hid hsrc
    have hgl := O4.out.lt g rfl
    obtain ⟨hgl1, hgl2⟩ := hgl
    clear xi xz xsz xby hv hpv hA q1 q2 q3 q4 e hsrc
    have HS5 := Lib.hid (show ∀ j u, (flatN ps)[j]? = some u → (w4.alloc (.cells #[] 28)).cell? ((⟨g, 0, none⟩ : Addr).add j) = some u from fun j u h => ((below_box w4 _).cell (p := (⟨g, 0, none⟩ : Addr).add j) (by unfold Addr.add; split <;> exact hgl2)).trans (HS.out j u h))
    cases nv_of (HPV.out A hAl) with
    | block c h h1 h9 =>
      by_cases h8 : c = 9
      · subst h8
        have HND := Lib.hid h
        go_wp2_with (at_builtin; refine wpList_append_own _ rfl (.tmp 31) (.tmp 32) 23 rfl w4.heap.size 28 i0 _ 5 40 Try.underlying23 HX.out.1 HX.out.2.1 HX.out.2.2.1 HX.out.2.2.2 rfl (by decide) _ 0 (flatN []) rfl (OwnN.empty w4) ⟨g, 0, none⟩ ps.length pc (flatN ps) rfl (flatN_len ps) HS5.out (one_flat ps) (by unfold maxLen; omega) (by omega) (below_box w4 _).size ?_; intro v5 w5 hown hgrow hnil; have HB5 := Lib.hid (show Below w4.heap.size w4 w5 from (below_box w4 _).grown hgrow (below_box w4 _).size (fun k hk => (World.ownsRow.lt (OwnN.empty w4) k hk).1)); have O5 := Lib.hid (show OwnN w5 w4.heap.size v5 ps by have h := hown; rw [Nat.zero_add] at h; exact h); clear hown hgrow hnil; obtain ⟨g5, gc5, rfl, _, _, _, _⟩ := O5.out.at (by omega); obtain ⟨e0, e1, hfz⟩ := O5.out.cellsN hAl HND.out; have f1 := hfz (A * 5 + 1); clear hfz)
        have B5 := B4.trans (HB5.out.mono B4.size)
        have R5 := Lib.hid (R4.out.below HB5.out)
        clear B4 R4 e0 e1 f1
        go_wp2_with fail
        refine (HI.out.wcet _ _ ps _ R5.out (by omega)).mono ?_
        rintro e w6 ⟨rfl, b6⟩
        rw [← HU.out]
        have B6 := B5.trans (b6.mono B5.size)
        have R6 := Lib.hid (R5.out.below b6)
        clear b6 R5 B5
        go_wp2
        go_ret
        exact ⟨rfl, B6⟩
      · have h8' : ¬ (c : Int) = 9 := by omega
        have hw : IntKind.i64.wrap ((c : Int) + 1) = (c : Int) + 1 := IntWalk.i64_in _ (by omega)
        have HND := Lib.hid h
        go_wp2_with (at_builtin; refine wpList_append_own _ rfl (.tmp 31) (.tmp 32) 23 rfl w4.heap.size 28 i0 _ 5 40 Try.underlying23 HX.out.1 HX.out.2.1 HX.out.2.2.1 HX.out.2.2.2 rfl (by decide) _ 0 (flatN []) rfl (OwnN.empty w4) ⟨g, 0, none⟩ ps.length pc (flatN ps) rfl (flatN_len ps) HS5.out (one_flat ps) (by unfold maxLen; omega) (by omega) (below_box w4 _).size ?_; intro v5 w5 hown hgrow hnil; have HB5 := Lib.hid (show Below w4.heap.size w4 w5 from (below_box w4 _).grown hgrow (below_box w4 _).size (fun k hk => (World.ownsRow.lt (OwnN.empty w4) k hk).1)); have O5 := Lib.hid (show OwnN w5 w4.heap.size v5 ps by have h := hown; rw [Nat.zero_add] at h; exact h); clear hown hgrow hnil; obtain ⟨g5, gc5, rfl, _, _, _, _⟩ := O5.out.at (by omega); obtain ⟨e0, e1, hfz⟩ := O5.out.cellsN hAl HND.out; have f1 := hfz (A * 5 + 1); clear hfz)
        obtain ⟨w6, hW6⟩ : ∃ w6, w6 = w5.setCell ⟨g5, A * 5 + 1, none⟩ (.int .i64 ((c : Int) + 1)) := ⟨_, rfl⟩
        have hg5 := (O5.out.lt g5 rfl).1
        have b6 : Below w4.heap.size w4 w6 := by rw [hW6]; exact HB5.out.setCell hg5 _
        obtain ⟨P, hP⟩ : ∃ P, P = ps.set A (1, (c : Int) + 1, 0, 0, 0) := ⟨_, rfl⟩
        have HL6 := Lib.hid (show P.length = ps.length by rw [hP, List.length_set])
        have N6 := Lib.hid (show RowN w6 (some ⟨g5, 0, none⟩) P by
          have h9 := O5.out.set hAl (show 1 < 5 by omega) ((c : Int) + 1)
          rw [HND.out, ← hW6] at h9
          rw [hP]
          exact OwnN.rowOf h9)
        have HMO := Lib.hid (show pvB P = true → bd8 false ps ≤ bd8 false P ∧ bd8 true ps ≤ bd8 true P from fun hv' => by
          rw [hP] at hv' ⊢
          exact ⟨bd8_more HV.out HND.out hAl hv', bd8_more HV.out HND.out hAl hv'⟩)
        have B6 := B4.trans (b6.mono B4.size)
        have R6 := Lib.hid (R4.out.below b6)
        rw [← hW6]
        clear B4 R4 e0 e1 f1 hW6 hg5 b6 hP
        go_wp2_with fail
        refine (HI.out.wcet _ _ ps _ R6.out (by omega)).mono ?_
        rintro e w7 ⟨rfl, b7⟩
        rw [← HU.out]
        have B7 := B6.trans (b7.mono B6.size)
        have R7 := Lib.hid (R6.out.below b7)
        have N7 := Lib.hid (N6.out.below b7)
        clear b7 R6 B6 N6
        go_wp2_with fail
        refine (show Calls Try.prog _ _ w7 _ from by have h := HI.out.valid (some ⟨g5, 0, none⟩) gc5 P w7 N7.out (by rw [HL6.out]; omega); rw [HL6.out] at h; exact h).mono ?_
        rintro e w8 ⟨rfl, b8⟩
        have B8 := B7.trans (b8.mono B7.size)
        have R8 := Lib.hid (R7.out.below b8)
        have N8 := Lib.hid (N7.out.below b8)
        clear b8 R7 B7 N7
        cases hv6 : pvB P with
        | false =>
          clear hv6 HMO
          go_wp2
          go_ret
          exact ⟨rfl, B8⟩
        | true =>
          obtain ⟨m1, m2⟩ := HMO.out hv6
          rw [← HL.out] at m1
          rw [← HU.out] at m2
          obtain ⟨L6, hL6⟩ : ∃ L6, L6 = bd8 false P := ⟨_, rfl⟩
          obtain ⟨U6, hU6⟩ : ∃ U6, U6 = bd8 true P := ⟨_, rfl⟩
          rw [← hL6] at m1
          rw [← hU6] at m2
          have HL7 := Lib.hid hL6
          have HU7 := Lib.hid hU6
          clear hv6 HMO hL6 hU6
          go_wp2_with fail
          refine (show Calls Try.prog _ _ w8 _ from by have h := HI.out.bcet (some ⟨g5, 0, none⟩) gc5 P w8 N8.out (by rw [HL6.out]; omega); rw [HL6.out] at h; exact h).mono ?_
          rintro e w9 ⟨rfl, b9⟩
          have B9 := B8.trans (b9.mono B8.size)
          have R9 := Lib.hid (R8.out.below b9)
          have N9 := Lib.hid (N8.out.below b9)
          clear b9 R8 B8 N8
          rw [← HL7.out]
          go_wp2_with fail
          refine (show Calls Try.prog _ _ w9 _ from by have h := HI.out.wcet (some ⟨g5, 0, none⟩) gc5 P w9 N9.out (by rw [HL6.out]; omega); rw [HL6.out] at h; exact h).mono ?_
          rintro e w10 ⟨rfl, b10⟩
          have B10 := B9.trans (b10.mono B9.size)
          have R10 := Lib.hid (R9.out.below b10)
          have N10 := Lib.hid (N9.out.below b10)
          clear b10 R9 B9 N9
          rw [← HU7.out]
          go_wp2_with fail
          refine (HI.out.wcet _ _ ps _ R10.out (by omega)).mono ?_
          rintro e w11 ⟨rfl, b11⟩
          rw [← HU.out]
          have B11 := B10.trans (b11.mono B10.size)
          have R11 := Lib.hid (R10.out.below b11)
          have N11 := Lib.hid (N10.out.below b11)
          clear b11 R10 B10 N10
          go_wp2
          go_ret
          exact ⟨rfl, B11⟩
    | seq x y h ha hb =>
      have HND := Lib.hid h
      go_wp2_with (at_builtin; refine wpList_append_own _ rfl (.tmp 31) (.tmp 32) 23 rfl w4.heap.size 28 i0 _ 5 40 Try.underlying23 HX.out.1 HX.out.2.1 HX.out.2.2.1 HX.out.2.2.2 rfl (by decide) _ 0 (flatN []) rfl (OwnN.empty w4) ⟨g, 0, none⟩ ps.length pc (flatN ps) rfl (flatN_len ps) HS5.out (one_flat ps) (by unfold maxLen; omega) (by omega) (below_box w4 _).size ?_; intro v5 w5 hown hgrow hnil; have HB5 := Lib.hid (show Below w4.heap.size w4 w5 from (below_box w4 _).grown hgrow (below_box w4 _).size (fun k hk => (World.ownsRow.lt (OwnN.empty w4) k hk).1)); have O5 := Lib.hid (show OwnN w5 w4.heap.size v5 ps by have h := hown; rw [Nat.zero_add] at h; exact h); clear hown hgrow hnil; obtain ⟨g5, gc5, rfl, _, _, _, _⟩ := O5.out.at (by omega); obtain ⟨e0, e1, hfz⟩ := O5.out.cellsN hAl HND.out; have f1 := hfz (A * 5 + 1); clear hfz)
      have B5 := B4.trans (HB5.out.mono B4.size)
      have R5 := Lib.hid (R4.out.below HB5.out)
      clear B4 R4 e0 e1 f1
      go_wp2_with fail
      refine (HI.out.wcet _ _ ps _ R5.out (by omega)).mono ?_
      rintro e w6 ⟨rfl, b6⟩
      rw [← HU.out]
      have B6 := B5.trans (b6.mono B5.size)
      have R6 := Lib.hid (R5.out.below b6)
      clear b6 R5 B5
      go_wp2
      go_ret
      exact ⟨rfl, B6⟩
    | branch c x y h h1 h9 ha hb =>
      have HND := Lib.hid h
      go_wp2_with (at_builtin; refine wpList_append_own _ rfl (.tmp 31) (.tmp 32) 23 rfl w4.heap.size 28 i0 _ 5 40 Try.underlying23 HX.out.1 HX.out.2.1 HX.out.2.2.1 HX.out.2.2.2 rfl (by decide) _ 0 (flatN []) rfl (OwnN.empty w4) ⟨g, 0, none⟩ ps.length pc (flatN ps) rfl (flatN_len ps) HS5.out (one_flat ps) (by unfold maxLen; omega) (by omega) (below_box w4 _).size ?_; intro v5 w5 hown hgrow hnil; have HB5 := Lib.hid (show Below w4.heap.size w4 w5 from (below_box w4 _).grown hgrow (below_box w4 _).size (fun k hk => (World.ownsRow.lt (OwnN.empty w4) k hk).1)); have O5 := Lib.hid (show OwnN w5 w4.heap.size v5 ps by have h := hown; rw [Nat.zero_add] at h; exact h); clear hown hgrow hnil; obtain ⟨g5, gc5, rfl, _, _, _, _⟩ := O5.out.at (by omega); obtain ⟨e0, e1, hfz⟩ := O5.out.cellsN hAl HND.out; have f1 := hfz (A * 5 + 1); clear hfz)
      have B5 := B4.trans (HB5.out.mono B4.size)
      have R5 := Lib.hid (R4.out.below HB5.out)
      clear B4 R4 e0 e1 f1
      go_wp2_with fail
      refine (HI.out.wcet _ _ ps _ R5.out (by omega)).mono ?_
      rintro e w6 ⟨rfl, b6⟩
      rw [← HU.out]
      have B6 := B5.trans (b6.mono B5.size)
      have R6 := Lib.hid (R5.out.below b6)
      clear b6 R5 B5
      go_wp2
      go_ret
      exact ⟨rfl, B6⟩
    | loop c x m h h1 h9 ha hm =>
      have HND := Lib.hid h
      go_wp2_with (at_builtin; refine wpList_append_own _ rfl (.tmp 31) (.tmp 32) 23 rfl w4.heap.size 28 i0 _ 5 40 Try.underlying23 HX.out.1 HX.out.2.1 HX.out.2.2.1 HX.out.2.2.2 rfl (by decide) _ 0 (flatN []) rfl (OwnN.empty w4) ⟨g, 0, none⟩ ps.length pc (flatN ps) rfl (flatN_len ps) HS5.out (one_flat ps) (by unfold maxLen; omega) (by omega) (below_box w4 _).size ?_; intro v5 w5 hown hgrow hnil; have HB5 := Lib.hid (show Below w4.heap.size w4 w5 from (below_box w4 _).grown hgrow (below_box w4 _).size (fun k hk => (World.ownsRow.lt (OwnN.empty w4) k hk).1)); have O5 := Lib.hid (show OwnN w5 w4.heap.size v5 ps by have h := hown; rw [Nat.zero_add] at h; exact h); clear hown hgrow hnil; obtain ⟨g5, gc5, rfl, _, _, _, _⟩ := O5.out.at (by omega); obtain ⟨e0, e1, hfz⟩ := O5.out.cellsN hAl HND.out; have f1 := hfz (A * 5 + 1); clear hfz)
      have B5 := B4.trans (HB5.out.mono B4.size)
      have R5 := Lib.hid (R4.out.below HB5.out)
      clear B4 R4 e0 e1 f1
      go_wp2_with fail
      refine (HI.out.wcet _ _ ps _ R5.out (by omega)).mono ?_
      rintro e w6 ⟨rfl, b6⟩
      rw [← HU.out]
      have B6 := B5.trans (b6.mono B5.size)
      have R6 := Lib.hid (R5.out.below b6)
      clear b6 R5 B5
      go_wp2
      go_ret
      exact ⟨rfl, B6⟩

end Go.Proofs.Ytlcdmjcikbgnpaa
