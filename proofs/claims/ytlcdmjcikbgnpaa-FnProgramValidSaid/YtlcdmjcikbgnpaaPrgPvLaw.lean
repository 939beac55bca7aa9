/- The walk of laws.FnProgramValid, for whatever code. Conditions: the argument is a slice of bytes; Impl8. -/
import Derived.Test.YtlcdmjcikbgnpaaPrgWmLaw
import Derived.ArgAppend
import Derived.BigQuiet
namespace Go.Proofs.Ytlcdmjcikbgnpaa
open Go.RowKit Go.Deep

theorem below_setCells {B b : Nat} (hb : B ≤ b) : ∀ (vs : List Value) (o : Nat) (w : World), Below B w (w.setCells b o vs)
  | [], _, w => Below.refl _ _
  | v :: r, o, w => by
    rw [World.setCells]
    exact ((Below.refl B w).setCell (p := ⟨b, o, none⟩) hb v).trans (below_setCells hb r (o + 1) _)
theorem OwnN.spare {w : World} {base g gc : Nat} {ps : List N5} (h : OwnN w base (.slice (some ⟨g, 0, none⟩) ps.length gc) ps) (j : Nat) (hj : j < gc * 5) : (w.cell? ⟨g, j, none⟩).isSome = true ∧ w.frozen? ⟨g, j, none⟩ = false := by
  obtain ⟨_, ⟨e, _⟩ | ⟨g', cap', cur, e, h3, hb, hnc, hcm, hsz, hx⟩⟩ := h
  · simp at e
  · simp only [Value.slice.injEq, Option.some.injEq, Addr.mk.injEq, and_true, true_and] at e
    obtain ⟨rfl, rfl⟩ := e
    have hj2 : j < cur.size := by omega
    exact ⟨by simp [World.cell?, hb, hj2], by simp [World.frozen?, hb]⟩
/-- append of one node to a slice of nodes wherever it lies: what it answers holds the nodes and the new one. -/
theorem append_rowN {w : World} {ops : Array Oper} {rest : List Oper} {o : Oper} {a : Act} {Q : Exit → Act → World → Prop} (hg : o.guard = none) (s x : Operand)
    (hop : o.op = Op.call { callee := Callee.builtin Builtin.append, args := #[s, x], argTypes := #[23, 23] })
    (base b off cap : Nat) (ps : List N5) (q c y z m : Int) (hs : a.eval s = .slice (some ⟨b, off, none⟩) ps.length cap) (hr : RowN w (some ⟨b, off, none⟩) ps) (hb : base ≤ b) (hbl : b < w.heap.size) (_hbase : base ≤ w.heap.size) (hn : ps.length ≤ 1000)
    (ad : Addr) (c' : Nat) (hx : a.eval x = .slice (some ad) 1 c') (hc : ∀ j u, [Value.int .i64 q, .int .i64 c, .int .i64 y, .int .i64 z, .int .i64 m][j]? = some u → w.cell? (ad.add j) = some u)
    (hspare : ps.length + 1 ≤ cap → ∀ j, j < 5 → (w.cell? ⟨b, off + ps.length * 5 + j, none⟩).isSome = true ∧ w.frozen? ⟨b, off + ps.length * 5 + j, none⟩ = false)
    (h : ∀ v' w' a' k', v' = .slice a' (ps.length + 1) k' → RowN w' a' (ps ++ [(q, c, y, z, m)]) → Below base w w' → wpList Try.prog ops Q rest (a.put o.dst v') w') : wpList Try.prog ops Q (o :: rest) a w := by
  obtain ⟨i0, xi, xz, xsz, xby⟩ := info_parts nodeInfo
  have hcell : ∀ k, k < ps.length → ∀ j, j < 5 → ∀ u, (flatN ps)[k * 5 + j]? = some u → w.cell? ⟨b, off + k * 5 + j, none⟩ = some u := fun k hk j hj u hu => by
    obtain ⟨b', off', e, -, c0, c1, c2, c3, c4⟩ := hr k hk
    simp only [Option.some.injEq, Addr.mk.injEq, and_true] at e
    obtain ⟨rfl, rfl⟩ := e
    obtain ⟨f0, f1, f2, f3, f4⟩ := flatN_at ps k hk
    rcases (show j = 0 ∨ j = 1 ∨ j = 2 ∨ j = 3 ∨ j = 4 by omega) with rfl | rfl | rfl | rfl | rfl
    · rw [Nat.add_zero] at hu ⊢; rw [c0, ← f0, hu]
    · rw [c1, ← f1, hu]
    · rw [c2, ← f2, hu]
    · rw [c3, ← f3, hu]
    · rw [c4, ← f4, hu]
  refine wpList_append_arg w hg s x 23 hop 28 i0 _ 5 40 Try.underlying23 xi xz xsz xby rfl (by decide) b off ps.length cap (flatN ps) hs (flatN_len ps) (fun j u hu => ?_) ad 1 c' [.int .i64 q, .int .i64 c, .int .i64 y, .int .i64 z, .int .i64 m] hx rfl hc (one5 q c y z m) (fun hroom j hj => hspare hroom j (by simpa using hj)) (by unfold maxLen; omega) (by omega) (fun hroom => ?_) (fun hcap v' w' hown hgr => ?_)
  · have hjl := (List.getElem?_eq_some_iff.1 hu).1
    rw [flatN_len] at hjl
    have := hcell (j / 5) (by omega) (j % 5) (by omega) u (by rw [show j / 5 * 5 + j % 5 = j by omega]; exact hu)
    rw [show off + j / 5 * 5 + j % 5 = off + j by omega] at this
    exact this
  · refine h _ _ (some ⟨b, off, none⟩) cap rfl (fun k hk => ?_) (below_setCells hb _ _ w)
    simp only [List.length_append, List.length_singleton] at hk
    have hsz : b < (w.setCells b (off + ps.length * 5) [.int .i64 q, .int .i64 c, .int .i64 y, .int .i64 z, .int .i64 m]).heap.size := Nat.lt_of_lt_of_le hbl (below_setCells (Nat.zero_le b) _ _ w).size
    by_cases e : k < ps.length
    · have hnd : nd8 (ps ++ [(q, c, y, z, m)]) k = nd8 ps k := by simp [nd8, List.getD_eq_getElem?_getD, List.getElem?_append_left e]
      rw [hnd]
      obtain ⟨b', off', e', -, c0, c1, c2, c3, c4⟩ := hr k e
      simp only [Option.some.injEq, Addr.mk.injEq, and_true] at e'
      obtain ⟨rfl, rfl⟩ := e'
      have out : ∀ j, j < 5 → (w.setCells b (off + ps.length * 5) [.int .i64 q, .int .i64 c, .int .i64 y, .int .i64 z, .int .i64 m]).cell? ⟨b, off + k * 5 + j, none⟩ = w.cell? ⟨b, off + k * 5 + j, none⟩ := fun j hj => World.cell?_setCells_out b _ _ w _ (fun _ _ => .inl (by simp only; omega))
      exact ⟨b, off, rfl, hsz, (out 0 (by omega)).trans c0, (out 1 (by omega)).trans c1, (out 2 (by omega)).trans c2, (out 3 (by omega)).trans c3, (out 4 (by omega)).trans c4⟩
    · obtain rfl : k = ps.length := by omega
      have hnd : nd8 (ps ++ [(q, c, y, z, m)]) ps.length = (q, c, y, z, m) := by simp [nd8, List.getD_eq_getElem?_getD]
      rw [hnd]
      have hin := World.cell?_setCells_in b [.int .i64 q, .int .i64 c, .int .i64 y, .int .i64 z, .int .i64 m] (off + ps.length * 5) w (fun j hj => (hspare hroom j (by simpa using hj)).1)
      exact ⟨b, off, rfl, hsz, hin 0 (by simp), hin 1 (by simp), hin 2 (by simp), hin 3 (by simp), hin 4 (by simp)⟩
  · have ho : OwnN w' w.heap.size v' (ps ++ [(q, c, y, z, m)]) := OwnN.push hown
    obtain ⟨a', k', rfl, hrow, -, -⟩ := ho.row
    refine h _ _ a' k' (by simp) hrow ⟨hgr.os, hgr.tape, hgr.output, hgr.size, fun k hk => hgr.block k (by omega) (by simp)⟩

theorem rowN_drop {w : World} {g : Nat} {ps : List N5} (h : RowN w (some ⟨g, 0, none⟩) ps) : RowN w (some ⟨g, 5, none⟩) (ps.drop 1) := by
  intro k hk
  rw [List.length_drop] at hk
  obtain ⟨b, off, e, hb, c0, c1, c2, c3, c4⟩ := h (k + 1) (by omega)
  simp only [Option.some.injEq, Addr.mk.injEq, and_true] at e
  obtain ⟨rfl, rfl⟩ := e
  have hn : nd8 (ps.drop 1) k = nd8 ps (k + 1) := by simp [nd8, List.getD_eq_getElem?_getD]
  rw [hn]
  have e0 : 0 + (k + 1) * 5 = 5 + k * 5 := by omega
  rw [e0] at c0 c1 c2 c3 c4
  exact ⟨g, 5, rfl, hb, c0, c1, c2, c3, c4⟩
theorem rowN_take {w : World} {a : Option Addr} {ps : List N5} (h : RowN w a ps) (n : Nat) : RowN w a (ps.take n) := by
  intro k hk
  rw [List.length_take] at hk
  have hn : nd8 (ps.take n) k = nd8 ps k := by simp [nd8, List.getD_eq_getElem?_getD, show k < n by omega]
  rw [hn]
  exact h k (by omega)

set_option maxRecDepth 100000 in
set_option maxHeartbeats 4000000 in
/-- laws.FnProgramValid. -/
theorem fnProgramValid_walk (I8 : Impl8) (a : Option Addr) (len cap : Nat) (w : World) (hb : Byts w a len cap) :
    Calls Try.prog 3 #[.slice a len cap] w fun e w' => e = .returned (.bool true) ∧ Below w.heap.size w w' := by
  have hm : cap ≤ maxLen := hb.2.2
  have hlc : len ≤ cap := hb.2.1
  unfold maxLen at hm
  have HB := Lib.hid hb
  clear hb
  by_cases hl : 1048576 < len
  · have hl' : (1048576 : Int) < len := by omega
    go_enter Try.func3, Try.ntmps3
    go_wp2
    go_ret
    exact ⟨rfl, Below.refl _ _⟩
  have hl' : ¬ (1048576 : Int) < len := by omega
  go_enter Try.func3, Try.ntmps3
  go_wp2_with fail
  refine (drawProgramValid_any _ _ _ _ HB.out).mono ?_
  rintro e w1 ⟨s, ps, rfl, hn, ho1, b1⟩
  obtain ⟨pa, pc, rfl, hr1, hpc, -⟩ := ho1.row
  have R1 := Lib.hid hr1
  have O1 := Lib.hid ho1
  have HI := Lib.hid I8
  obtain ⟨r, hrr⟩ : ∃ r, r = pvB ps := ⟨_, rfl⟩
  have HRR := Lib.hid hrr
  clear hr1 ho1 I8 HB hrr
  go_wp2_with fail
  refine (HI.out.valid _ _ ps _ R1.out (by omega)).mono ?_
  rintro e w2 ⟨rfl, b2⟩
  rw [← HRR.out]
  have B2 := b1.trans (b2.mono b1.size)
  have R2 := Lib.hid (R1.out.below b2)
  have O2 := Lib.hid (O1.out.below b2)
  clear b1 b2 R1 O1
  go_wp2_with fail
  refine (specProgramValid_any _ _ ps _ R2.out (by omega)).mono ?_
  rintro e w3 ⟨rfl, b3⟩
  rw [← HRR.out]
  have B3 := B2.trans (b3.mono B2.size)
  have R3 := Lib.hid (R2.out.below b3)
  have O3 := Lib.hid (O2.out.below b3)
  clear b3 R2 B2 O2
  cases r with
  | false =>
    go_wp2_with fail
    refine (alive_any _).mono ?_
    rintro e w4 ⟨rfl, b4⟩
    have B4 := B3.trans (b4.mono B3.size)
    clear b4 B3
    go_wp2
    go_ret
    exact ⟨rfl, B4⟩
  | true =>
    have hv := HRR.out.symm
    have hl1 := (pv_iff.1 hv).1.1
    have hl2 := (pv_iff.1 hv).1.2
    have HF := Lib.hid (pv_first hv)
    obtain ⟨i0, xi, xz, xsz, xby⟩ := info_parts nodeInfo
    have HX := Lib.hid (And.intro xi (And.intro xz (And.intro xsz xby)))
    obtain ⟨g3, gc3, e, hs3⟩ := O3.out.src hl1
    simp only [Value.slice.injEq, true_and] at e
    obtain ⟨rfl, rfl⟩ := e
    have HG3 := Lib.hid (show g3 < w3.heap.size from (O3.out.lt g3 rfl).2)
    have HS3 := Lib.hid (show ∀ j u, (flatN ps)[j]? = some u → (w3.alloc (.cells #[] 28)).cell? ((⟨g3, 0, none⟩ : Addr).add j) = some u from fun j u h => ((below_box w3 _).cell (p := (⟨g3, 0, none⟩ : Addr).add j) (by unfold Addr.add; split <;> exact HG3.out)).trans (hs3 j u h))
    clear hs3 hv xi xz xsz xby HRR
    by_cases h12 : ps.length = 12
    · have H12 := Lib.hid h12
      have hb12 : ((ps.length : Int) == 12) = true := by rw [h12]; rfl
      clear h12
      have hpl : (ps.drop 1).length = ps.length - 1 := by rw [List.length_drop]
      have hl9 : 1 < ps.length := by rw [H12.out]; decide
      have HPL := Lib.hid hpl
      clear hpl
      go_wp2_with (at_builtin; refine wpList_append_own _ rfl (.tmp 20) (.tmp 21) 23 rfl w3.heap.size 28 i0 _ 5 40 Try.underlying23 HX.out.1 HX.out.2.1 HX.out.2.2.1 HX.out.2.2.2 rfl (by decide) _ 0 (flatN []) rfl (OwnN.empty w3) ⟨g3, 0, none⟩ ps.length pc (flatN ps) rfl (flatN_len ps) HS3.out (one_flat ps) (by unfold maxLen; omega) (by omega) (below_box w3 _).size ?_; intro v5 w5 hown hgrow hnil; have HB5 := Lib.hid (show Below w3.heap.size w3 w5 from (below_box w3 _).grown hgrow (below_box w3 _).size (fun k hk => (World.ownsRow.lt (OwnN.empty w3) k hk).1)); have O5 := Lib.hid (show OwnN w5 w3.heap.size v5 ps by have h := hown; rw [Nat.zero_add] at h; exact h); clear hown hgrow hnil; obtain ⟨g5, gc5, rfl, hg5, hz5, hc5, -⟩ := O5.out.at (by omega); have hgn : 1 < gc5 := (by omega); have HG5 := Lib.hid (And.intro hg5 hz5); have RL := Lib.hid (show RowN w5 (some ⟨g5, 5, none⟩) (ps.drop 1) from rowN_drop (OwnN.rowOf O5.out)); clear hg5 hz5; go_wp2_with (at_builtin; refine append_rowN rfl (.tmp 28) (.tmp 32) rfl w3.heap.size g5 5 (gc5 - 1) (ps.drop 1) 2 0 (((ps.length - 1) : Nat) : Int) 0 0 (congrArg (fun n => Value.slice (some ⟨g5, 5, none⟩) n (gc5 - 1)) HPL.out.symm) (RL.out.below (below_box w5 _)) HG5.out.1 (Nat.lt_of_lt_of_le HG5.out.2 (below_box w5 _).size) (Nat.le_trans HB5.out.size (below_box w5 _).size) (by have h := HPL.out; omega) ⟨w5.heap.size, 0, none⟩ 1 rfl (news5 _ _ _ _ _ _ _) (fun hroom j hj => by have hr := hroom; rw [HPL.out] at hr ⊢; have h := O5.out.spare (5 + (ps.length - 1) * 5 + j) (by omega); exact ⟨by rw [(below_box w5 _).cell (p := ⟨g5, 5 + (ps.length - 1) * 5 + j, none⟩) HG5.out.2]; exact h.1, by rw [(below_box w5 _).frozen (p := ⟨g5, 5 + (ps.length - 1) * 5 + j, none⟩) HG5.out.2]; exact h.2⟩) ?_; rintro v6 w6 a6 k6 rfl r6 b6; have HR6 := Lib.hid r6; have HB6 := Lib.hid (show Below w3.heap.size w3 w6 from (HB5.out.trans ((below_box w5 _).mono HB5.out.size)).trans b6); clear r6 b6; have B6 := B3.trans (HB6.out.mono B3.size); have R6 := Lib.hid (R3.out.below HB6.out); have K6 := Lib.hid (show Calls Try.prog 14 #[.slice a6 ps.length k6] w6 fun e w' => e = .returned (.bool false) ∧ Below w6.heap.size w6 w' from by (have h := HI.out.valid a6 k6 ((ps.drop 1) ++ [(2, 0, ((ps.length - 1 : Nat) : Int), 0, 0)]) w6 HR6.out (by rw [List.length_append, List.length_singleton]; rw [HPL.out]; omega); rw [List.length_append, List.length_singleton, HPL.out, show pvB ((ps.drop 1) ++ [(2, 0, ((ps.length - 1 : Nat) : Int), 0, 0)]) = false from (by (have h := pv_self (ps.drop 1); rw [HPL.out] at h; exact h))] at h; rw [show ps.length - 1 + 1 = ps.length from Nat.sub_add_cancel hl1] at h; exact h)); go_wp2_with fail; refine K6.out.mono ?_; rintro e w7 ⟨rfl, b7⟩; have B7 := B6.trans (b7.mono B6.size); have R7 := Lib.hid (R6.out.below b7); clear b7 B6 R6; have K7 := Lib.hid (show Calls Try.prog 14 #[.slice (some ⟨g3, 0, none⟩) 1 pc] w7 fun e w' => e = .returned (.bool true) ∧ Below w7.heap.size w7 w' from by (have h := HI.out.valid (some ⟨g3, 0, none⟩) pc (ps.take 1) w7 (rowN_take R7.out 1) (by rw [List.length_take]; omega); rw [show (ps.take 1).length = 1 from by (rw [List.length_take]; omega), HF.out] at h; exact h)); go_wp2_with fail; refine K7.out.mono ?_; rintro e w8 ⟨rfl, b8⟩; have B8 := B7.trans (b8.mono B7.size); clear b8 B7 R7; go_wp2_with fail; refine (show Calls Try.prog 14 #[.slice (some ⟨w8.heap.size, 0, none⟩) 0 0] _ fun e w' => e = .returned (.bool false) ∧ Below _ _ w' from HI.out.valid _ 0 [] _ (rowN_nil _ _) (by simp)).mono ?_; rintro e w9 ⟨rfl, b9⟩; have B9 := (B8.trans ((below_box w8 _).mono B8.size)).trans (b9.mono (Nat.le_trans B8.size (below_box w8 _).size)); clear b9 B8; go_wp2; go_ret; exact ⟨rfl, B9⟩))
    · have h12' : ¬ (ps.length : Int) = 12 := by omega
      go_wp2_with (at_builtin; refine wpList_append_own _ rfl (.tmp 20) (.tmp 21) 23 rfl w3.heap.size 28 i0 _ 5 40 Try.underlying23 HX.out.1 HX.out.2.1 HX.out.2.2.1 HX.out.2.2.2 rfl (by decide) _ 0 (flatN []) rfl (OwnN.empty w3) ⟨g3, 0, none⟩ ps.length pc (flatN ps) rfl (flatN_len ps) HS3.out (one_flat ps) (by unfold maxLen; omega) (by omega) (below_box w3 _).size ?_; intro v5 w5 hown hgrow hnil; have HB5 := Lib.hid (show Below w3.heap.size w3 w5 from (below_box w3 _).grown hgrow (below_box w3 _).size (fun k hk => (World.ownsRow.lt (OwnN.empty w3) k hk).1)); have O5 := Lib.hid (show OwnN w5 w3.heap.size v5 ps by have h := hown; rw [Nat.zero_add] at h; exact h); clear hown hgrow hnil; obtain ⟨g5, gc5, rfl, hg5, hz5, hc5, -⟩ := O5.out.at (by omega); have HG5 := Lib.hid (And.intro hg5 hz5); have RL := Lib.hid (show RowN w5 (some ⟨g5, 0, none⟩) ps from OwnN.rowOf O5.out); clear hg5 hz5; go_wp2_with (at_builtin; refine append_rowN rfl (.tmp 28) (.tmp 32) rfl w3.heap.size g5 0 gc5 ps 2 0 ((ps.length : Nat) : Int) 0 0 rfl (RL.out.below (below_box w5 _)) HG5.out.1 (Nat.lt_of_lt_of_le HG5.out.2 (below_box w5 _).size) (Nat.le_trans HB5.out.size (below_box w5 _).size) (by omega) ⟨w5.heap.size, 0, none⟩ 1 rfl (news5 _ _ _ _ _ _ _) (fun hroom j hj => by have h := O5.out.spare (0 + ps.length * 5 + j) (by omega); exact ⟨by rw [(below_box w5 _).cell (p := ⟨g5, 0 + ps.length * 5 + j, none⟩) HG5.out.2]; exact h.1, by rw [(below_box w5 _).frozen (p := ⟨g5, 0 + ps.length * 5 + j, none⟩) HG5.out.2]; exact h.2⟩) ?_; rintro v6 w6 a6 k6 rfl r6 b6; have HR6 := Lib.hid r6; have HB6 := Lib.hid (show Below w3.heap.size w3 w6 from (HB5.out.trans ((below_box w5 _).mono HB5.out.size)).trans b6); clear r6 b6; have B6 := B3.trans (HB6.out.mono B3.size); have R6 := Lib.hid (R3.out.below HB6.out); have K6 := Lib.hid (show Calls Try.prog 14 #[.slice a6 (ps.length + 1) k6] w6 fun e w' => e = .returned (.bool false) ∧ Below w6.heap.size w6 w' from by (have h := HI.out.valid a6 k6 (ps ++ [(2, 0, (ps.length : Int), 0, 0)]) w6 HR6.out (by rw [List.length_append, List.length_singleton]; omega); rw [List.length_append, List.length_singleton, show pvB (ps ++ [(2, 0, (ps.length : Int), 0, 0)]) = false from pv_self ps] at h; exact h)); go_wp2_with fail; refine K6.out.mono ?_; rintro e w7 ⟨rfl, b7⟩; have B7 := B6.trans (b7.mono B6.size); have R7 := Lib.hid (R6.out.below b7); clear b7 B6 R6; have K7 := Lib.hid (show Calls Try.prog 14 #[.slice (some ⟨g3, 0, none⟩) 1 pc] w7 fun e w' => e = .returned (.bool true) ∧ Below w7.heap.size w7 w' from by (have h := HI.out.valid (some ⟨g3, 0, none⟩) pc (ps.take 1) w7 (rowN_take R7.out 1) (by rw [List.length_take]; omega); rw [show (ps.take 1).length = 1 from by (rw [List.length_take]; omega), HF.out] at h; exact h)); go_wp2_with fail; refine K7.out.mono ?_; rintro e w8 ⟨rfl, b8⟩; have B8 := B7.trans (b8.mono B7.size); clear b8 B7 R7; go_wp2_with fail; refine (show Calls Try.prog 14 #[.slice (some ⟨w8.heap.size, 0, none⟩) 0 0] _ fun e w' => e = .returned (.bool false) ∧ Below _ _ w' from HI.out.valid _ 0 [] _ (rowN_nil _ _) (by simp)).mono ?_; rintro e w9 ⟨rfl, b9⟩; have B9 := (B8.trans ((below_box w8 _).mono B8.size)).trans (b9.mono (Nat.le_trans B8.size (below_box w8 _).size)); clear b9 B8; go_wp2; go_ret; exact ⟨rfl, B9⟩))

end Go.Proofs.Ytlcdmjcikbgnpaa
