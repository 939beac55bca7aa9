/- Walks: laws.FnEdfFeasible. Conditions: the argument is a slice of bytes. -/
import Derived.Test.YtnpgndeoakignaaWithout
import Derived.Test.YtnpgndeoakignaaDemImpl
namespace Go.Proofs.Ytnpgndeoakignaa
open Go.RowKit Go.Deep

theorem own_empty0 (w : World) : (w.alloc (.cells #[] 31)).ownsRow w.heap.size 31 3 (.slice (some ⟨w.heap.size, 0, none⟩) 0 0) 0 [] :=
  ⟨rfl, .inr ⟨w.heap.size, 0, #[], rfl, Nat.le_refl _, blk_alloc_new _ _, Nat.le_refl _, by simp [maxLen], rfl, rfl⟩⟩
theorem Row.lies0 {w : World} {g : Nat} {ts : List (Int × Int × Int)} (h : Row w (some ⟨g, 0, none⟩) ts) (o : Obj) : ∀ (j : Nat) (u : Value), (flat ts)[j]? = some u → (w.alloc o).cell? ((⟨g, 0, none⟩ : Addr).add j) = some u := by
  intro j u hj
  obtain ⟨k, t, hk, _⟩ := flat_find ts j u hj
  obtain ⟨b, off, e, hb, _⟩ := h k t hk
  simp only [Option.some.injEq, Addr.mk.injEq, and_true] at e
  have hl := Row.lies (m := 0) (us := ts) h (by rw [e.1]; exact hb) (fun k t hk => by rw [Nat.zero_add]; exact hk)
  have := hl.2 j u hj
  rw [addr_add] at this ⊢
  simp only [Nat.zero_mul, Nat.add_zero] at this
  exact ((below_box w o).cell (p := ⟨g, 0 + j, none⟩) (by rw [e.1]; exact hb)).trans this

theorem row_nil' (w : World) (a : Option Addr) : Row w a [] := fun k t hk => by simp at hk

/-- A copy in new memory. -/
theorem copied {w wx : World} {v : Value} {ts : List (Int × Int × Int)} (ho : wx.ownsRow w.heap.size 31 3 v (0 + ts.length) ([] ++ flat ts)) (hg : (w.alloc (.cells #[] 31)).grownBy wx (Value.ownBlock (.slice (some ⟨w.heap.size, 0, none⟩) 0 0)))
    (hnil : v = .slice none 0 0 ↔ (Value.slice (some ⟨w.heap.size, 0, none⟩) 0 0 = .slice none 0 0 ∧ ts.length = 0)) :
    ∃ g cap, v = .slice (some ⟨g, 0, none⟩) ts.length cap ∧ w.heap.size ≤ g ∧ g < wx.heap.size ∧ Own wx w.heap.size (.slice (some ⟨g, 0, none⟩) ts.length cap) ts ∧ Below w.heap.size w wx := by
  have hown : Own wx w.heap.size v ts := by
    unfold Own
    simpa using ho
  have hn : v ≠ .slice none 0 0 := fun e => by have := (hnil.1 e).1; simp at this
  obtain ⟨g, cap, rfl⟩ := hown.notNil hn
  refine ⟨g, cap, rfl, own_from hown g rfl, ?_, hown, (below_box _ _).grown hg (by simp) (by simp [Value.ownBlock])⟩
  obtain ⟨_, ⟨h, _⟩ | ⟨g', cap', cur, h, _, hb, _⟩⟩ := hown
  · simp at h
  · simp only [Value.slice.injEq, Option.some.injEq, Addr.mk.injEq, and_true, true_and] at h
    rw [h.1]
    exact (Array.getElem?_eq_some_iff.1 hb).1
theorem upd_length {ts : List (Int × Int × Int)} {i : Nat} (h : i < ts.length) (t : Int × Int × Int) : (upd ts i t).length = ts.length := by
  simp only [upd, List.length_append, List.length_take, List.length_drop, List.length_singleton]
  omega
theorem flat_app (l r : List (Int × Int × Int)) : flat (l ++ r) = flat l ++ flat r := by simp [flat]
theorem flat_set {ts : List (Int × Int × Int)} {i : Nat} (h : i < ts.length) {c d p : Int} (ht : (c, d, p) = ts[i]) (x : Int) :
    (flat ts).set (i * 3) (.int .i64 x) = flat (upd ts i (x, d, p)) ∧ (flat ts).set (i * 3 + 1) (.int .i64 x) = flat (upd ts i (c, x, p)) := by
  have e := congrArg flat (split_at h)
  have hl : (flat (ts.take i)).length = i * 3 := by rw [flat_length, List.length_take, Nat.min_eq_left (by omega)]
  rw [← ht, flat_app, flat_app] at e
  have e1 : ∀ a b c : Int, flat [(a, b, c)] = [.int .i64 a, .int .i64 b, .int .i64 c] := fun a b c => by simp [flat]
  rw [e1] at e
  constructor
  · rw [e, upd, flat_app, flat_app, e1, List.append_assoc, List.append_assoc, List.set_append_right _ _ (by omega), hl]
    simp
  · rw [e, upd, flat_app, flat_app, e1, List.append_assoc, List.append_assoc, List.set_append_right _ _ (by omega), hl]
    simp
theorem Own.put0 {w : World} {base g cap i : Nat} {ts : List (Int × Int × Int)} (h : Own w base (.slice (some ⟨g, 0, none⟩) ts.length cap) ts) (hi : i < ts.length) {c d p : Int} (ht : (c, d, p) = ts[i]) (x : Int) :
    Own (w.setCell ⟨g, i * 3, none⟩ (.int .i64 x)) base (.slice (some ⟨g, 0, none⟩) ts.length cap) (upd ts i (x, d, p)) := by
  have h1 := (World.ownsRow.stored h (i * 3) (.int .i64 x)).1
  unfold Own
  rw [upd_length hi, ← (flat_set hi ht x).1]
  exact h1
theorem Own.put1 {w : World} {base g cap i : Nat} {ts : List (Int × Int × Int)} (h : Own w base (.slice (some ⟨g, 0, none⟩) ts.length cap) ts) (hi : i < ts.length) {c d p : Int} (ht : (c, d, p) = ts[i]) (x : Int) :
    Own (w.setCell ⟨g, i * 3 + 1, none⟩ (.int .i64 x)) base (.slice (some ⟨g, 0, none⟩) ts.length cap) (upd ts i (c, x, p)) := by
  have h1 := (World.ownsRow.stored h (i * 3 + 1) (.int .i64 x)).1
  unfold Own
  rw [upd_length hi, ← (flat_set hi ht x).2]
  exact h1
theorem Own.rowAt {w : World} {base g n cap : Nat} {ts : List (Int × Int × Int)} (h : Own w base (.slice (some ⟨g, 0, none⟩) n cap) ts) : Row w (some ⟨g, 0, none⟩) ts ∧ n = ts.length := by
  obtain ⟨a, cap', e, hr, _⟩ := h.row
  simp only [Value.slice.injEq] at e
  obtain ⟨e1, e2, _⟩ := e
  rw [← e1] at hr
  exact ⟨hr, e2⟩
/-- What the law does to a feasible set keeps it feasible. -/
theorem edf_less {ts : List T3} (h : edf ts = true) {i : Nat} (hi : i < ts.length) {c d p : Int} (ht : (c, d, p) = ts[i]) : edf (upd ts i (mx 1 (c - 1), d, p)) = true ∧ edf (upd ts i (c, p, p)) = true := by
  have hs := (edf_iff.1 h).1
  have htv := all_at (sv_all hs).1 hi ht
  have hb := (tvB_iff c d p).1 htv
  have hm : 1 ≤ mx 1 (c - 1) ∧ mx 1 (c - 1) ≤ c := by unfold mx; split <;> omega
  constructor
  · refine edf_upd h hi (t := (mx 1 (c - 1), d, p)) ((tvB_iff (mx 1 (c - 1)) d p).2 (by omega)) (by rw [← ht]; rfl) fun x => ?_
    rw [← ht]
    exact dem1_cost (t := (mx 1 (c - 1), d, p)) (s := (c, d, p)) rfl rfl (by simp only [cst]; omega) x
  · refine edf_upd h hi (t := (c, p, p)) ((tvB_iff c p p).2 (by omega)) (by rw [← ht]; rfl) fun x => ?_
    rw [← ht]
    exact dem1_late (t := (c, p, p)) (s := (c, d, p)) rfl (by simp only [dln]; omega) rfl x

set_option maxRecDepth 100000 in
set_option maxHeartbeats 2000000 in
/-- laws.FnEdfFeasible. -/
theorem fnEdfFeasible_any (a : Option Addr) (len cap : Nat) (w : World) (hb : Byts w a len cap) :
    Calls Try.prog 6 #[.slice a len cap] w fun e w' => e = .returned (.bool true) ∧ Below w.heap.size w w' := by
  obtain ⟨i0, hi0, hz, hsz, hby⟩ := info_parts taskInfo
  have HI := Lib.hid (And.intro hi0 (And.intro hz (And.intro hsz hby)))
  clear hi0 hz hsz hby
  have hm : cap ≤ maxLen := hb.2.2
  have hlc : len ≤ cap := hb.2.1
  unfold maxLen at hm
  have HB := Lib.hid hb
  clear hb
  by_cases hl : 1048576 < len
  · have hl' : (1048576 : Int) < len := by omega
    go_enter Try.func6, Try.ntmps6
    go_wp2
    go_ret
    exact ⟨rfl, Below.refl _ _⟩
  have hl' : ¬ (1048576 : Int) < len := by omega
  go_enter Try.func6, Try.ntmps6
  go_wp2_with fail
  refine (drawEdfFeasible_some _ _ _ _ HB.out).mono ?_
  rintro e w1 ⟨g, cap1, ts, rfl, hn, hlc1, hcm1, hr1, b1⟩
  have R1 := Lib.hid hr1
  clear hr1 HB
  go_wp2_with fail
  refine (edfFeasible_any _ _ _ _ R1.out (by omega)).mono ?_
  rintro e w2 ⟨rfl, b2⟩
  have B2 := b1.trans (b2.mono b1.size)
  have R2 := Lib.hid (R1.out.below b2)
  clear b1 b2 R1
  go_wp2_with fail
  refine (specEdfFeasible_any _ _ _ _ R2.out (by omega)).mono ?_
  rintro e w3 ⟨rfl, b3⟩
  have B3 := B2.trans (b3.mono B2.size)
  have R3 := Lib.hid (R2.out.below b3)
  clear b3 R2
  obtain ⟨ok, hok⟩ : ∃ ok, ok = edf ts := ⟨_, rfl⟩
  rw [← hok]
  have HOK := Lib.hid hok
  clear hok
  have hneq : (ok != ok) = false := by cases ok <;> rfl
  go_wp2_with fail
  refine (specSetValid_any _ _ _ _ R3.out (by omega)).mono ?_
  rintro e w4 ⟨rfl, b4⟩
  have B4 := B3.trans (b4.mono B3.size)
  have R4 := Lib.hid (R3.out.below b4)
  clear b4 R3 hneq
  cases ok with
  | true =>
    have he : edf ts = true := HOK.out.symm
    obtain ⟨hsv, _⟩ := edf_iff.1 he
    have hfo : (fo ts == -1) = true := by rw [edf_dec hsv]; exact he
    have HE := Lib.hid he
    clear he
    go_wp2_with fail
    refine (firstOverload_any _ _ _ _ R4.out (by omega)).mono ?_
    rintro e w5 ⟨rfl, b5⟩
    have B5 := B4.trans (b5.mono B4.size)
    have R5 := Lib.hid (R4.out.below b5)
    clear b5 R4
    go_wp2
    clear hfo hsv
    go_loopg [5] ts.length (fun m i wr => ∃ k : Nat, m + k = ts.length ∧ i = .int .i64 k ∧ Below w.heap.size w wr ∧ Row wr (some ⟨g, 0, none⟩) ts)
    case atStart => exact ⟨0, rfl, rfl, B5, R5.out⟩
    case round =>
      clear B5 R5
      obtain ⟨k, hk, rfl, B, hrow⟩ := hrel
      have HK := Lib.hid hk
      have hkk : k ≤ ts.length := by omega
      have RW := Lib.hid hrow
      clear hk hrow
      by_cases hlt : k < ts.length
      · obtain ⟨⟨c, d, p⟩, ht⟩ : ∃ t, t = ts[k] := ⟨_, rfl⟩
        have HT := Lib.hid ht
        have htv := all_at (sv_all (edf_iff.1 HE.out).1).1 hlt ht
        have hcb := (tvB_iff c d p).1 htv
        clear ht htv
        have hlt' : (k : Int) < ts.length := by omega
        go_upto_region 13 with (at_builtin; refine wpList_append_own _ rfl (.tmp 39) (.tmp 40) 23 rfl wr.heap.size 31 i0 _ 3 24 Try.underlying23 HI.out.1 HI.out.2.1 HI.out.2.2.1 HI.out.2.2.2 rfl (by decide) (.slice (some ⟨wr.heap.size, 0, none⟩) 0 0) 0 [] rfl (own_empty0 wr) ⟨g, 0, none⟩ ts.length _ (flat ts) rfl (flat_length ts) (RW.out.lies0 _) (flat_one _) (by unfold maxLen; omega) (by omega) (by simp) ?_; intro v1 x1 hown1 hgrow1 hnil1)
        obtain ⟨g1, cap2, rfl, hg1, hg1', ho1, bx1⟩ := copied hown1 hgrow1 hnil1
        clear hown1 hgrow1 hnil1
        have HO1 := Lib.hid ho1
        have RX1 := Lib.hid (RW.out.below bx1)
        obtain ⟨_, _, e1, hgl, y0, y1, y2⟩ := RX1.out k _ (List.getElem?_eq_getElem hlt)
        simp only [Option.some.injEq, Addr.mk.injEq, and_true] at e1
        obtain ⟨rfl, rfl⟩ := e1
        obtain ⟨_, _, e2, _, z0, z1, z2⟩ := ho1.rowAt.1 k _ (List.getElem?_eq_getElem hlt)
        simp only [Option.some.injEq, Addr.mk.injEq, and_true] at e2
        obtain ⟨rfl, rfl⟩ := e2
        rw [← HT.out] at y0 y1 y2 z0 z1 z2
        simp only [Nat.zero_add] at y0 y1 y2 z0 z1 z2
        have fz := World.ownsRow.frozenAt ho1 (k * 3)
        clear ho1
        have hmx := mx_rule
        have B1 := B.trans (bx1.mono B.size)
        go_upto_region 14 with fail
        clear y0 y1 y2 z0 z1 z2 fz hmx
        have HO2 := Lib.hid (HO1.out.put0 hlt HT.out (mx 1 (c - 1)))
        have B2 := B1.setCell (p := ⟨g1, k * 3, none⟩) (Nat.le_trans B.size hg1) (.int .i64 (mx 1 (c - 1)))
        have by1 : Below wr.heap.size wr (x1.setCell ⟨g1, k * 3, none⟩ (.int .i64 (mx 1 (c - 1)))) := bx1.setCell hg1 _
        have RY1 := Lib.hid (RW.out.below by1)
        have hgy : g1 < (x1.setCell ⟨g1, k * 3, none⟩ (.int .i64 (mx 1 (c - 1)))).heap.size := by simpa [World.setCell] using hg1'
        generalize hy : x1.setCell ⟨g1, k * 3, none⟩ (.int .i64 (mx 1 (c - 1))) = v1 at *
        clear hy B1 bx1 RX1 HO1 hg1'
        go_upto_region 15 with (at_builtin; refine wpList_append_own _ rfl (.tmp 53) (.tmp 54) 23 rfl v1.heap.size 31 i0 _ 3 24 Try.underlying23 HI.out.1 HI.out.2.1 HI.out.2.2.1 HI.out.2.2.2 rfl (by decide) (.slice (some ⟨v1.heap.size, 0, none⟩) 0 0) 0 [] rfl (own_empty0 v1) ⟨g, 0, none⟩ ts.length _ (flat ts) rfl (flat_length ts) (RY1.out.lies0 _) (flat_one _) (by unfold maxLen; omega) (by omega) (by simp) ?_; intro v2 x2 hown2 hgrow2 hnil2)
        obtain ⟨g2, cap3, rfl, hg2, hg2', ho2, bx2⟩ := copied hown2 hgrow2 hnil2
        clear hown2 hgrow2 hnil2
        have HO3 := Lib.hid ho2
        have RX2 := Lib.hid (RY1.out.below bx2)
        obtain ⟨_, _, e1, hgl2, y0, y1, y2⟩ := RX2.out k _ (List.getElem?_eq_getElem hlt)
        simp only [Option.some.injEq, Addr.mk.injEq, and_true] at e1
        obtain ⟨rfl, rfl⟩ := e1
        obtain ⟨_, _, e2, _, z0, z1, z2⟩ := ho2.rowAt.1 k _ (List.getElem?_eq_getElem hlt)
        simp only [Option.some.injEq, Addr.mk.injEq, and_true] at e2
        obtain ⟨rfl, rfl⟩ := e2
        rw [← HT.out] at y0 y1 y2 z0 z1 z2
        simp only [Nat.zero_add] at y0 y1 y2 z0 z1 z2
        have fz := World.ownsRow.frozenAt ho2 (k * 3 + 1)
        clear ho2
        go_upto_region 16 with fail
        clear y0 y1 y2 z0 z1 z2 fz
        have HO4 := Lib.hid (HO3.out.put1 hlt HT.out p)
        have bx3 : Below v1.heap.size v1 (x2.setCell ⟨g2, k * 3 + 1, none⟩ (.int .i64 p)) := bx2.setCell hg2 _
        have B3 := B2.trans (bx3.mono B2.size)
        have RL := Lib.hid (HO2.out.rowAt.1.below bx3)
        have RT := Lib.hid HO4.out.rowAt.1
        have RS := Lib.hid (RY1.out.below bx3)
        generalize hy : x2.setCell ⟨g2, k * 3 + 1, none⟩ (.int .i64 p) = v2 at *
        clear hy bx2 bx3 HO2 HO3 HO4 RX2 RY1 B2 by1
        obtain ⟨hel, hlate⟩ := edf_less HE.out hlt HT.out
        have hwo := edf_wo HE.out hlt
        have CL := Lib.hid (fun W hr => edfFeasible_any (some ⟨g1, 0, none⟩) cap2 (upd ts k (mx 1 (c - 1), d, p)) W hr (by rw [upd_length hlt]; omega))
        have CT := Lib.hid (fun W hr => edfFeasible_any (some ⟨g2, 0, none⟩) cap3 (upd ts k (c, p, p)) W hr (by rw [upd_length hlt]; omega))
        rw [upd_length hlt, hel] at CL
        rw [upd_length hlt, hlate] at CT
        clear hel hlate
        go_wp2_with fail
        refine (without_any _ _ k _ _ RS.out hlt hn hlc1 hcm1).mono ?_
        rintro e w6 ⟨a6, cap6, rfl, _, _, r6, b6⟩
        have R6 := Lib.hid r6
        have B6 := B3.trans (b6.mono B3.size)
        have RL6 := Lib.hid (RL.out.below b6)
        have RT6 := Lib.hid (RT.out.below b6)
        have RS6 := Lib.hid (RS.out.below b6)
        clear r6 b6 B3 RL RT RS
        go_wp2_with fail
        refine (edfFeasible_any _ _ _ _ R6.out (by have := wo_length hlt; omega)).mono ?_
        rintro e w7 ⟨rfl, b7⟩
        have B7 := B6.trans (b7.mono B6.size)
        have RL7 := Lib.hid (RL6.out.below b7)
        have RT7 := Lib.hid (RT6.out.below b7)
        have RS7 := Lib.hid (RS6.out.below b7)
        clear b7 B6 RL6 RT6 RS6
        go_wp2_with fail
        refine (CL.out _ RL7.out).mono ?_
        rintro e w8 ⟨rfl, b8⟩
        have B8 := B7.trans (b8.mono B7.size)
        have RT8 := Lib.hid (RT7.out.below b8)
        have RS8 := Lib.hid (RS7.out.below b8)
        clear b8 B7 RL7 RT7 RS7
        go_wp2_with fail
        refine (CT.out _ RT8.out).mono ?_
        rintro e w9 ⟨rfl, b9⟩
        have B9 := B8.trans (b9.mono B8.size)
        have RS9 := Lib.hid (RS8.out.below b9)
        clear b9 B8 RT8 RS8
        go_wp2
        go_roundg (gk - 1)
        case measure => have := HK.out; omega
        case rel => exact ⟨k + 1, by have := HK.out; omega, by go_num, B9, RS9.out⟩
      · have hlt' : ¬ (k : Int) < ts.length := by omega
        have hnil : edf [] = true := edf_iff.2 ⟨rfl, fun t _ _ => by simp [dem]⟩
        go_wp2_with fail
        refine (edfFeasible_any _ _ [] _ (row_nil' _ _) (by simp)).mono ?_
        rintro e w6 ⟨rfl, b6⟩
        go_wp2
        go_ret
        exact ⟨ret_bool hnil, (B.alloc B.size _).trans (b6.mono (Nat.le_trans B.size (by simp)))⟩
  | false =>
    by_cases hsv : svB ts = true
    · have hfo : (fo ts == -1) = false := by rw [edf_dec hsv]; exact HOK.out.symm
      go_wp2_with fail
      refine (firstOverload_any _ _ _ _ R4.out (by omega)).mono ?_
      rintro e w5 ⟨rfl, b5⟩
      have B5 := B4.trans (b5.mono B4.size)
      clear b5 R4
      go_wp2_with fail
      refine (alive_any _).mono ?_
      rintro e w6 ⟨rfl, b6⟩
      go_wp2
      go_ret
      exact ⟨rfl, B5.trans (b6.mono B5.size)⟩
    · have hsv' : svB ts = false := by simpa using hsv
      clear hsv
      go_wp2_with fail
      refine (alive_any _).mono ?_
      rintro e w6 ⟨rfl, b6⟩
      go_wp2
      go_ret
      exact ⟨rfl, B4.trans (b6.mono B4.size)⟩
end Go.Proofs.Ytnpgndeoakignaa
