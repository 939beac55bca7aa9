/- The program's Report: contracts of parsedTasks, of the five lines, then of Report. Conditions: those of each theorem (what strconv's table and error variables hold). -/
import Derived.Test.YtdgihkmiolnglaaGreatDoorTxtRep
import Derived.Test.YtdgihkmiolnglaaGreatDoorTxtLex
import Derived.Test.YtdgihkmiolnglaaGreatDoorTxtLine
import Derived.Test.YtdgihkmiolnglaaGreatDoorDemImpl
import Derived.Test.YtdgihkmiolnglaaGreatDoorPartImpl
import Derived.Test.YtdgihkmiolnglaaGreatDoorSortImpl
namespace Go.Proofs.YtdgihkmiolnglaaGreatDoor
open Go.RowKit Go.Deep

/-- What strconv's variables hold. -/
def TabP (w : World) : Prop := Lib.TabIs Tryz.prog w "internal/strconv.uint64pow10" .u64 Lib.pow10Tab
theorem TabP.below {w w' : World} (h : TabP w) (hb : Below w.heap.size w w') : TabP w' := Lib.tabBelow_of_tabIs h w' hb
def RepG (w : World) : Prop := ErrsG w ∧ TabP w
theorem RepG.below {w w' : World} (h : RepG w) (hb : Below w.heap.size w w') : RepG w' := ⟨h.1.below h.1.lt hb, h.2.below hb⟩

/-- A line that begins with a word and ends with a number. -/
def kwLine : List UInt8 := [108, 105, 110, 101]
def kwUtil : List UInt8 := [117, 116, 105, 108, 105, 122, 97, 116, 105, 111, 110]
def kwOver : List UInt8 := [101, 100, 102, 32, 111, 118, 101, 114, 108, 111, 97, 100, 32, 97, 116]
def kwCore : List UInt8 := [99, 111, 114, 101, 115]
def kwLate : List UInt8 := [108, 97, 116, 101]

set_option maxRecDepth 100000 in
set_option maxHeartbeats 1000000 in
theorem malformed_any (n : Nat) (w : World) (hn : n < 1000000000000) (hT : TabP w) :
    Calls Tryz.prog 24 #[.int .i64 (n : Int)] w fun e w' => e = .returned (.string (bs (lineW ++ Lib.decDigits n))) ∧ Below w.heap.size w w' := by
  have hL := TL.fresh w
  have hb0 := below_box w (.cells #[.pointer none, .slice none 0 0] 69)
  have hs0 : (w.alloc (.cells #[.pointer none, .slice none 0 0] 69)).heap.size = w.heap.size + 1 := by simp
  go_enter Tryz.func24, Tryz.ntmps24
  go_wp2_with fail
  refine (word_any _ _ [] kwLine _ hL (by decide) (by omega)).mono ?_
  rintro e w1 ⟨rfl, h1, b1⟩
  rw [jw_nil] at h1
  have B1 := hb0.trans b1
  have s1 := B1.size
  have T1 := hT.below B1
  clear hb0 b1 hL hs0
  go_wp2_with fail
  refine (number_any _ _ kwLine n _ h1.tl (by decide) hn (.inr T1) s1).mono ?_
  rintro e w2 ⟨rfl, h2, b2⟩
  have B2 := B1.trans b2
  clear h1 T1 b2 B1
  go_wp2_with fail
  refine (text_any _ _ _ _ h2.tl (jw_ne (dec_ne_nil n))).mono ?_
  rintro e w3 ⟨rfl, b3⟩
  have HE := Lib.hid (And.intro (show jw kwLine (Lib.decDigits n) = lineW ++ Lib.decDigits n by rw [jw_more (by decide)]; rfl) (B2.trans b3))
  clear h2 B2 b3 s1
  go_wp2
  go_ret
  exact ⟨ret_str HE.out.1, HE.out.2⟩

set_option maxRecDepth 100000 in
set_option maxHeartbeats 1000000 in
theorem coresLine_any (a : Option Addr) (cap : Nat) (ts : List T3) (w : World) (hr : Row w a ts) (hn : ts.length ≤ 1048576) :
    Calls Tryz.prog 28 #[.slice a ts.length cap] w fun e w' => e = .returned (.string (bs (coreW ++ Lib.decDigits (mcO ts)))) ∧ Below w.heap.size w w' := by
  have hL := TL.fresh w
  have hb0 := below_box w (.cells #[.pointer none, .slice none 0 0] 69)
  have hs0 : (w.alloc (.cells #[.pointer none, .slice none 0 0] 69)).heap.size = w.heap.size + 1 := by simp
  have HR := Lib.hid hr
  clear hr
  go_enter Tryz.func28, Tryz.ntmps28
  go_wp2_with fail
  refine (word_any _ _ [] kwCore _ hL (by decide) (by omega)).mono ?_
  rintro e w1 ⟨rfl, h1, b1⟩
  rw [jw_nil] at h1
  have B1 := hb0.trans b1
  have s1 := B1.size
  clear hb0 b1 hL hs0
  go_wp2_with fail
  refine (minCores_any a cap ts _ (HR.out.below B1) (by omega)).mono ?_
  rintro e w2 ⟨rfl, b2⟩
  have h2 := h1.tl.below b2
  have B2 := B1.trans (b2.mono s1)
  have s2 := B2.size
  have hm := mcO_small ts
  obtain ⟨n, hN⟩ : ∃ n, n = mcO ts := ⟨_, rfl⟩
  rw [← hN] at hm ⊢
  have HN := Lib.hid hN
  clear h1 b2 B1 hN
  go_wp2_with fail
  refine (number_any _ _ kwCore n _ h2 (by decide) (by omega) (.inl (by omega)) s2).mono ?_
  rintro e w3 ⟨rfl, h3, b3⟩
  have B3 := B2.trans b3
  clear h2 B2 b3
  go_wp2_with fail
  refine (text_any _ _ _ _ h3.tl (jw_ne (dec_ne_nil n))).mono ?_
  rintro e w4 ⟨rfl, b4⟩
  have HE := Lib.hid (And.intro (show jw kwCore (Lib.decDigits n) = coreW ++ Lib.decDigits (mcO ts) by rw [← HN.out, jw_more (by decide)]; rfl) (B3.trans b4))
  clear h3 B3 b4 s1 s2
  go_wp2
  go_ret
  exact ⟨ret_str HE.out.1, HE.out.2⟩

set_option maxRecDepth 100000 in
set_option maxHeartbeats 1000000 in
theorem edfLine_any (a : Option Addr) (cap : Nat) (ts : List T3) (w : World) (hr : Row w a ts) (hn : ts.length ≤ 1048576) (hsv : svB ts = true) (hT : TabP w) :
    Calls Tryz.prog 26 #[.slice a ts.length cap] w fun e w' => e = .returned (.string (bs (edfL (fo ts)))) ∧ Below w.heap.size w w' := by
  have HR := Lib.hid hr
  have hfo := fo_bd hsv
  have hed : edf ts = decide (fo ts = -1) := by unfold edf; rw [hsv, Bool.true_and]
  clear hr
  obtain ⟨FO, hFO⟩ : ∃ z, z = fo ts := ⟨_, rfl⟩
  have HFO := Lib.hid hFO
  rw [← hFO] at hfo hed ⊢
  clear hFO hsv
  go_enter Tryz.func26, Tryz.ntmps26
  go_wp2_with fail
  refine (edfFeasible_any a cap ts _ HR.out (by omega)).mono ?_
  rintro e w1 ⟨rfl, b1⟩
  rw [hed]
  clear hed
  rcases hfo with rfl | ⟨x, rfl, hx1, hx2⟩
  · have HB := Lib.hid b1
    clear b1
    rw [show decide ((-1 : Int) = -1) = true by decide]
    go_wp2
    go_ret
    exact ⟨ret_str (l := feasW) rfl, HB.out⟩
  · rw [show decide ((x : Int) = -1) = false from decide_eq_false (by omega)]
    have hL := TL.fresh w1
    have hb0 := below_box w1 (.cells #[.pointer none, .slice none 0 0] 69)
    have hs0 : (w1.alloc (.cells #[.pointer none, .slice none 0 0] 69)).heap.size = w1.heap.size + 1 := by simp
    have sw := b1.size
    go_wp2_with fail
    refine (word_any _ _ [] kwOver _ hL (by decide) (by omega)).mono ?_
    rintro e w2 ⟨rfl, h2, b2⟩
    rw [jw_nil] at h2
    have B2 := hb0.trans b2
    have s2 := B2.size
    clear hb0 b2 hL hs0
    go_wp2_with fail
    refine (firstOverload_any a cap ts _ (HR.out.below (b1.trans (B2.mono sw))) (by omega)).mono ?_
    rintro e w3 ⟨rfl, b3⟩
    rw [← HFO.out]
    have h3 := h2.tl.below b3
    have B3 := B2.trans (b3.mono s2)
    have s3 := B3.size
    have T3 := hT.below (b1.trans (B3.mono sw))
    clear h2 b3 B2
    go_wp2_with fail
    refine (number_any _ _ kwOver x _ h3 (by decide) (by omega) (.inr T3) s3).mono ?_
    rintro e w4 ⟨rfl, h4, b4⟩
    have B4 := B3.trans b4
    clear h3 B3 b4 T3
    go_wp2_with fail
    refine (text_any _ _ _ _ h4.tl (jw_ne (dec_ne_nil x))).mono ?_
    rintro e w5 ⟨rfl, b5⟩
    have HE := Lib.hid (And.intro (show jw kwOver (Lib.decDigits x) = edfL (x : Int) by rw [jw_more (by decide), edfL, if_neg (by omega), Int.toNat_natCast]; rfl) (b1.trans ((B4.trans b5).mono sw)))
    clear h4 B4 b5 s2 s3 b1
    go_wp2
    go_ret
    exact ⟨ret_str HE.out.1, HE.out.2⟩

set_option maxRecDepth 100000 in
set_option maxHeartbeats 2000000 in
theorem utilLine_any (a : Option Addr) (cap : Nat) (ts : List T3) (w : World) (hr : Row w a ts) (hn : ts.length ≤ 1048576) (hsv : svB ts = true) (hT : TabP w) :
    Calls Tryz.prog 25 #[.slice a ts.length cap] w fun e w' => e = .returned (.string (bs (utilW ++ Lib.decDigits (utN ts) ++ [47] ++ Lib.decDigits (utD ts)))) ∧ Below w.heap.size w w' := by
  have HR := Lib.hid hr
  have HT := Lib.hid hT
  have hub := ut_bd hsv
  clear hr hT hsv
  go_enter Tryz.func25, Tryz.ntmps25
  go_wp2_with fail
  refine (utilization_any a cap ts _ HR.out (by omega)).mono ?_
  rintro e w1 ⟨rfl, b1⟩
  obtain ⟨UN, hUN⟩ : ∃ N, N = utN ts := ⟨_, rfl⟩
  obtain ⟨UD, hUD⟩ : ∃ N, N = utD ts := ⟨_, rfl⟩
  rw [← hUN, ← hUD] at hub ⊢
  obtain ⟨FW, hFW⟩ : ∃ W, W = w1.alloc (.cells #[.int .i64 (UN : Int), .int .i64 (UD : Int)] 49) := ⟨_, rfl⟩
  have x0 : FW.cell? ⟨w1.heap.size, 0, none⟩ = some (.int .i64 (UN : Int)) := by rw [hFW]; simp [go_sem]
  have x1 : FW.cell? ⟨w1.heap.size, 1, none⟩ = some (.int .i64 (UD : Int)) := by rw [hFW]; simp [go_sem]
  have BF : Below w.heap.size w FW := by rw [hFW]; exact b1.alloc b1.size _
  have hFs : FW.heap.size = w1.heap.size + 1 := by rw [hFW]; simp
  have hL := TL.fresh FW
  have hb0 := below_box FW (.cells #[.pointer none, .slice none 0 0] 69)
  have hs0 : (FW.alloc (.cells #[.pointer none, .slice none 0 0] 69)).heap.size = w1.heap.size + 2 := by simp [hFs]
  rw [hFs] at hL hb0
  have sw := b1.size
  have HFW := Lib.hid hFW
  have HUN := Lib.hid (And.intro hUN hUD)
  clear hFW hUN hUD b1
  go_wp2_with fail
  rw [← HFW.out]
  refine (word_any (w1.heap.size + 1) (w1.heap.size + 1) [] kwUtil _ hL (by decide) (by omega)).mono ?_
  rintro e WL ⟨rfl, h2, b2⟩
  rw [jw_nil] at h2
  have B2 := hb0.trans b2
  have s2 := b2.size
  have x0 := (B2.cell (p := ⟨w1.heap.size, 0, none⟩) (Nat.lt_succ_self _)).trans x0
  have x1 := (B2.cell (p := ⟨w1.heap.size, 1, none⟩) (Nat.lt_succ_self _)).trans x1
  have hLlt : w1.heap.size + 1 < WL.heap.size := by omega
  have HWL := Lib.hid (BF.trans (B2.mono (by omega)))
  have HLB := Lib.hid (show w.heap.size ≤ w1.heap.size + 1 by omega)
  have hFL : w1.heap.size < w1.heap.size + 1 := Nat.lt_succ_self _
  have hTL0 := h2.tl
  have l1 := dec_len_big 11 UN (by omega)
  have l2 := dec_len_big 11 UD (by omega)
  obtain ⟨X, hX⟩ : ∃ X, X = Lib.decDigits UN := ⟨_, rfl⟩
  obtain ⟨Y, hY⟩ : ∃ X, X = Lib.decDigits UD := ⟨_, rfl⟩
  have hXn : X ≠ [] := by rw [hX]; exact dec_ne_nil _
  rw [← hX] at l1
  rw [← hY] at l2
  obtain ⟨A1, hA1⟩ : ∃ A, A = X ++ [47] := ⟨_, rfl⟩
  obtain ⟨A2, hA2⟩ : ∃ A, A = A1 ++ Y := ⟨_, rfl⟩
  have m1 : A1.length ≤ 13 := by rw [hA1, List.length_append, List.length_singleton]; omega
  have m2 : A2.length ≤ 25 := by rw [hA2, List.length_append]; omega
  have hku : kwUtil.length = 11 := rfl
  have s1 : ∀ w : World, (Op.stringOp .add (bs X) ⟨#[47]⟩).run Tryz.prog w = .ok (.string (bs A1)) w := fun w => by rw [hA1]; exact run_add_bs w _ [47] (by simp; omega)
  have s3 : ∀ w : World, (Op.stringOp .add (bs A1) (bs Y)).run Tryz.prog w = .ok (.string (bs A2)) w := fun w => by rw [hA2]; exact run_add_bs w _ _ (by omega)
  have HA2 := Lib.hid (show A2 ≠ [] ∧ jw kwUtil A2 = utilW ++ Lib.decDigits (utN ts) ++ [47] ++ Lib.decDigits (utD ts) by
    constructor
    · rw [hA2, hA1]; simp
    · rw [jw_more (by decide), hA2, hA1, hX, hY, HUN.out.1, HUN.out.2]
      simp [kwUtil, utilW])
  have HN1 := Lib.hid hX.symm
  have HN2 := Lib.hid hY.symm
  have hUNb : UN < 1000000000000 := by omega
  have hUDb : UD < 1000000000000 := by omega
  clear hX hY hA1 hA2 l1 l2 hXn B2 b2 h2 hL hb0 hs0 BF hub s2
  go_wp2_with fail
  refine wp_region_held_drew (S := fun v => v.cell? ⟨w1.heap.size, 0, none⟩ = some (.int .i64 (UN : Int)) ∧ v.cell? ⟨w1.heap.size, 1, none⟩ = some (.int .i64 (UD : Int)) ∧ Below (w1.heap.size + 1) WL v ∧ (w1.heap.size + 1) < v.heap.size) (by kernel_rfl) ?_ (fun hHeld => ?_)
  · (try dsimp only)
    exact ⟨x0, x1, (Below.refl _ _).drew, hLlt⟩
  have hTL := hTL0.below (Below.refl _ _).drew
  refine wpAnyH_take (i := 0) (v := ?_) (toArr_get _ 0 _ rfl) (by kernel_rfl) (by kernel_rfl) (by kernel_rfl) (fun _ _ _ h => h) (Or.inl ⟨by rfl, ?_⟩) (by assumption) ?_
  rotate_left
  · (intro w hSw; (try dsimp only at hSw); go_simp; (try with_reducible rfl))
  (try simp only [Act.put, List.setIfInBounds_toArray, List.set_cons_zero, List.set_cons_succ])
  refine wpAnyH_take (i := 1) (v := ?_) (toArr_get _ 1 _ rfl) (by kernel_rfl) (by kernel_rfl) (by kernel_rfl) (fun _ _ _ h => h) (Or.inl ⟨by rfl, ?_⟩) (by assumption) ?_
  rotate_left
  · (intro w hSw; (try dsimp only at hSw); go_simp; (try with_reducible rfl))
  (try simp only [Act.put, List.setIfInBounds_toArray, List.set_cons_zero, List.set_cons_succ])
  refine wpAnyH_take (i := 4) (v := ?_) (toArr_get _ 4 _ rfl) (by kernel_rfl) (by kernel_rfl) (by kernel_rfl) (fun _ _ _ h => h) (Or.inl ⟨by rfl, ?_⟩) (by assumption) ?_
  rotate_left
  · (intro w hSw; (try dsimp only at hSw); go_simp; (try with_reducible rfl))
  (try simp only [Act.put, List.setIfInBounds_toArray, List.set_cons_zero, List.set_cons_succ])
  refine wpAnyH_take (i := 5) (v := ?_) (toArr_get _ 5 _ rfl) (by kernel_rfl) (by kernel_rfl) (by kernel_rfl) (fun _ _ _ h => h) (Or.inl ⟨by rfl, ?_⟩) (by assumption) ?_
  rotate_left
  · (intro w hSw; (try dsimp only at hSw); go_simp; (try with_reducible rfl))
  (try simp only [Act.put, List.setIfInBounds_toArray, List.set_cons_zero, List.set_cons_succ])
  refine wpAnyH_ready (rs := [2]) (by kernel_rfl) (by simp) ?_
  refine AllReadyH.cons (toArr_get _ 2 _ rfl) (fun K hK => ?_) ?_
  · go_simp
    refine (itoa_any UN _ (by omega) (.inr (HT.out.below (HWL.out.trans (hHeld.2.2.1.mono HLB.out))))).mono ?_
    rintro e v2 ⟨rfl, b2⟩
    rw [HN1.out]
    have hTL := hTL.below b2
    go_wp2_with fail
    refine hK.out _ _ ?_ (fun hHeld2 => ?_)
    · (try dsimp only)
      obtain ⟨k0, k1, kb, kl⟩ := hHeld; exact ⟨(b2.cell (p := ⟨w1.heap.size, 0, none⟩) (by simp only; omega)).trans k0, (b2.cell (p := ⟨w1.heap.size, 1, none⟩) (by simp only; omega)).trans k1, kb.trans (b2.mono (Nat.le_of_lt kl)), Nat.lt_of_lt_of_le kl b2.size⟩
    clear hK K hHeld
    have hHeld := hHeld2
    clear hHeld2
    (try simp only [Act.put, List.setIfInBounds_toArray, List.set_cons_zero, List.set_cons_succ])
    refine wpAnyH_take (i := 3) (v := ?_) (toArr_get _ 3 _ rfl) (by kernel_rfl) (by kernel_rfl) (by kernel_rfl) (fun _ _ _ h => h) (Or.inl ⟨by rfl, ?_⟩) (by assumption) ?_
    rotate_left
    · (intro w hSw; (try dsimp only at hSw); go_simp; (try with_reducible rfl))
    (try simp only [Act.put, List.setIfInBounds_toArray, List.set_cons_zero, List.set_cons_succ])
    refine wpAnyH_ready (rs := [6]) (by kernel_rfl) (by simp) ?_
    refine AllReadyH.cons (toArr_get _ 6 _ rfl) (fun K hK => ?_) ?_
    · go_simp
      refine (itoa_any UD _ (by omega) (.inr (HT.out.below (HWL.out.trans (hHeld.2.2.1.mono HLB.out))))).mono ?_
      rintro e v2 ⟨rfl, b2⟩
      rw [HN2.out]
      have hTL := hTL.below b2
      go_wp2_with fail
      refine hK.out _ _ ?_ (fun hHeld2 => ?_)
      · (try dsimp only)
        obtain ⟨k0, k1, kb, kl⟩ := hHeld; exact ⟨(b2.cell (p := ⟨w1.heap.size, 0, none⟩) (by simp only; omega)).trans k0, (b2.cell (p := ⟨w1.heap.size, 1, none⟩) (by simp only; omega)).trans k1, kb.trans (b2.mono (Nat.le_of_lt kl)), Nat.lt_of_lt_of_le kl b2.size⟩
      clear hK K hHeld
      have hHeld := hHeld2
      clear hHeld2
      (try simp only [Act.put, List.setIfInBounds_toArray, List.set_cons_zero, List.set_cons_succ])
      refine wpAnyH_take (i := 7) (v := ?_) (toArr_get _ 7 _ rfl) (by kernel_rfl) (by kernel_rfl) (by kernel_rfl) (fun _ _ _ h => h) (Or.inl ⟨by rfl, ?_⟩) (by assumption) ?_
      rotate_left
      · (intro w hSw; (try dsimp only at hSw); go_simp; (try with_reducible rfl))
      (try simp only [Act.put, List.setIfInBounds_toArray, List.set_cons_zero, List.set_cons_succ])
      refine wpAnyH_ready (rs := [8]) (by kernel_rfl) (by simp) ?_
      refine AllReadyH.cons (toArr_get _ 8 _ rfl) (fun K hK => ?_) ?_
      · go_simp
        refine (word_any (w1.heap.size + 1) (w1.heap.size + 1) kwUtil A2 _ hTL (by omega) (Nat.le_of_lt hHeld.2.2.2)).mono ?_
        rintro e v2 ⟨rfl, hTU, b2⟩
        go_wp2_with fail
        refine hK.out _ _ ?_ (fun hHeld2 => ?_)
        · (try dsimp only)
          obtain ⟨k0, k1, kb, kl⟩ := hHeld; exact ⟨(b2.cell (p := ⟨w1.heap.size, 0, none⟩) hFL).trans k0, (b2.cell (p := ⟨w1.heap.size, 1, none⟩) hFL).trans k1, kb.trans b2, Nat.lt_of_lt_of_le kl b2.size⟩
        clear hK K hHeld
        have hHeld := hHeld2
        clear hHeld2
        (try simp only [Act.put, List.setIfInBounds_toArray, List.set_cons_zero, List.set_cons_succ])
        refine wpAnyH_done (by kernel_rfl) ?_ _
        have BV := hHeld.2.2.1
        clear hHeld b2 x0 x1
        go_wp2_with fail
        refine (text_any _ _ _ _ hTU.tl (jw_ne HA2.out.1)).mono ?_
        rintro e v3 ⟨rfl, b3⟩
        have HE := Lib.hid (And.intro HA2.out.2 (HWL.out.trans ((BV.trans b3).mono HLB.out)))
        clear b3 BV hTU
        go_wp2
        go_ret
        exact ⟨ret_str HE.out.1, HE.out.2⟩
      exact AllReadyH.nil
    exact AllReadyH.nil
  exact AllReadyH.nil

theorem ownI_others {w w' : World} {base n b : Nat} {v : Value} {f : Nat → Int} (h : OwnI w base v n f) (hk : Lib.OthersKept 5 (some b) w w') (hb : b < base) : OwnI w' base v n f := by
  obtain ⟨h0, hx⟩ := h
  refine ⟨h0, ?_⟩
  rcases hx with hx | ⟨g, cap, cur, e, hbg, hg, hr⟩
  · exact .inl hx
  · exact .inr ⟨g, cap, cur, e, hbg, hk g _ hg (by simp only [ne_eq, Option.some.injEq]; omega) (by intro c fz e; simp only [Obj.cells.injEq] at e; exact absurd e.2.1 (by decide)), hr⟩
theorem rtF_neg {ts : List T3} {os : List Int} {k : Nat} (h : rtF ts os k < 0) : rtF ts os k = -1 := by
  unfold rtF at h ⊢
  cases he : rspO ts os (rk os k) with
  | none => rfl
  | some r => rw [he] at h; simp only [optI] at h; omega

set_option maxRecDepth 100000 in
set_option maxHeartbeats 2000000 in
theorem respLine_any (a : Option Addr) (cap : Nat) (ts : List T3) (w : World) (hr : Row w a ts) (hn : ts.length ≤ 5) (hsv : svB ts = true) (hT : TabP w) :
    Calls Tryz.prog 27 #[.slice a ts.length cap] w fun e w' => e = .returned (.string (bs (respW ++ tmsL (rtF ts (dmB' ts)) (rtN ts (dmB' ts))))) ∧ Below w.heap.size w w' := by
  have HR := Lib.hid hr
  have HT := Lib.hid hT
  have HSV := Lib.hid hsv
  have hL := TL.fresh w
  have hb0 := below_box w (.cells #[.pointer none, .slice none 0 0] 69)
  have hs0 : (w.alloc (.cells #[.pointer none, .slice none 0 0] 69)).heap.size = w.heap.size + 1 := by simp
  clear hr hT hsv
  go_enter Tryz.func27, Tryz.ntmps27
  go_wp2_with fail
  refine (word_any _ _ [] respW _ hL (by decide) (by omega)).mono ?_
  rintro e w1 ⟨rfl, h1, b1⟩
  rw [jw_nil] at h1
  have B1 := hb0.trans b1
  have s1 : w.heap.size + 1 ≤ w1.heap.size := by have := b1.size; omega
  clear hb0 b1 hL hs0
  have R1 := Lib.hid (HR.out.below B1)
  go_wp2_with fail
  refine (deadlineMonotonic_any a cap ts _ R1.out (by omega)).mono ?_
  rintro e w2 ⟨⟨v2, rfl, ho2⟩, b2⟩
  obtain ⟨oa, oc, rfl⟩ := own_shape ho2
  have I2 := Lib.hid ho2.intF'
  have hoc : (dmB' ts).length ≤ oc := by
    obtain ⟨a', cap', e', -, hlc, -⟩ := ho2.intF
    simp only [Value.slice.injEq] at e'
    omega
  have h2 := h1.tl.below b2
  have B2 := B1.trans (b2.mono (by omega))
  have R2 := Lib.hid (R1.out.below b2)
  have s2 := b2.size
  clear ho2 b2 h1 B1
  go_wp2_with fail
  refine (responseTimes_any a oa cap oc ts (dmB' ts) _ R2.out I2.out (by omega) hoc).mono ?_
  rintro e w3 ⟨⟨v3, rfl, ho3⟩, b3⟩
  obtain ⟨ua, uc, rfl⟩ := own_shape ho3
  have h3 := h2.below b3
  have B3 := B2.trans (b3.mono (by omega))
  have s3 := b3.size
  have hrn : rtN ts (dmB' ts) ≤ 5 := Nat.le_trans (rtN_small _) hn
  have HNEG := Lib.hid (fun k (h : rtF ts (dmB' ts) k < 0) => rtF_neg h)
  have HSM := Lib.hid (fun k => rtF_small HSV.out (dmB' ts) k)
  obtain ⟨RN, hRN⟩ : ∃ n, n = rtN ts (dmB' ts) := ⟨_, rfl⟩
  obtain ⟨RF, hRF⟩ : ∃ f, f = rtF ts (dmB' ts) := ⟨_, rfl⟩
  have HRR := Lib.hid (And.intro hRN hRF)
  rw [← hRN, ← hRF] at ho3
  rw [← hRN] at hrn ⊢
  rw [← hRF] at HNEG HSM
  have hwu : w.heap.size < w2.heap.size := by omega
  have HO3 := Lib.hid ho3
  clear b3 h2 B2 hoc I2 R1 R2 hRN hRF ho3 s2
  go_wp2
  go_loopg [12] RN (fun q vi wr => ∃ i : Nat, q + i = RN ∧ vi = .int .i64 (i : Int) ∧ TL w.heap.size w.heap.size (respW ++ tmsL RF i) wr ∧ Below w.heap.size w wr ∧ OwnI wr w2.heap.size (.slice ua RN uc) RN RF)
  case atStart => exact ⟨0, by simp, rfl, by rw [tmsL, List.append_nil]; exact h3, B3, HO3.out⟩
  case round =>
    obtain ⟨i, hq, rfl, hTL, B, hO⟩ := hrel
    have HQ := Lib.hid hq
    have hil : i ≤ RN := by omega
    obtain ⟨L, hLd⟩ : ∃ L, L = respW ++ tmsL RF i := ⟨_, rfl⟩
    have hLl : L.length ≤ 33 := by
      have h1 := tmsL_len RF i (fun k _ => HSM.out k)
      have h2 : respW.length = 8 := rfl
      rw [hLd, List.length_append]; omega
    have hLn : L ≠ [] := by rw [hLd, respW]; simp
    rw [← hLd] at hTL
    have HLD := Lib.hid hLd
    have sr := B.size
    clear hq hLd h3 B3
    by_cases hi : i < RN
    · have hi0 : (0 : Int) ≤ i := by omega
      have hi1 : (i : Int) < RN := by omega
      obtain ⟨b, off, hua, hblt, k0⟩ := hO.intF' i hi
      subst hua
      have HS := Lib.hid (show respW ++ tmsL RF (i + 1) = L ++ tmL (RF i) by rw [HLD.out, tmsL, List.append_assoc])
      have hneg := HNEG.out i
      have hsm := HSM.out i
      obtain ⟨x, hx⟩ : ∃ x, x = RF i := ⟨_, rfl⟩
      rw [← hx] at k0 hneg hsm HS
      clear hx
      by_cases hx0 : x < 0
      · obtain rfl : x = -1 := hneg hx0
        go_wp2_with fail
        refine (word_k _ _ L kwLate _ hTL (by have : kwLate.length = 4 := rfl; omega) sr).mono ?_
        rintro e w5 ⟨rfl, h5, b5, k5⟩
        have hst : respW ++ tmsL RF (i + 1) = jw L kwLate := by rw [HS.out, jw_more hLn]; simp [tmL, lateW, kwLate]
        have HX := Lib.hid (And.intro hst (And.intro h5 (And.intro (B.trans b5) (ownI_others hO k5 hwu))))
        clear hst h5 b5 k5 B hO hTL k0
        go_wp2
        go_roundg (gk - 1)
        case measure => have := HQ.out; omega
        case rel => exact ⟨i + 1, by have := HQ.out; omega, by go_num, by rw [HX.out.1]; exact HX.out.2.1.tl, HX.out.2.2.1, HX.out.2.2.2⟩
      · obtain ⟨y, rfl⟩ : ∃ y : Nat, x = (y : Int) := ⟨x.toNat, by omega⟩
        have hxm : ((y : Int) == -1) = false := by rw [beq_eq_false_iff_ne]; omega
        have TT := HT.out.below B
        go_wp2_with fail
        refine (number_k _ _ L y _ hTL (by omega) (by omega) (.inr TT) sr).mono ?_
        rintro e w5 ⟨rfl, h5, b5, k5⟩
        have hst : respW ++ tmsL RF (i + 1) = jw L (Lib.decDigits y) := by rw [HS.out, jw_more hLn, tmL, if_neg (by omega), Int.toNat_natCast, List.append_assoc]
        have HX := Lib.hid (And.intro hst (And.intro h5 (And.intro (B.trans b5) (ownI_others hO k5 hwu))))
        clear hst h5 b5 k5 B hO hTL k0 TT
        go_wp2
        go_roundg (gk - 1)
        case measure => have := HQ.out; omega
        case rel => exact ⟨i + 1, by have := HQ.out; omega, by go_num, by rw [HX.out.1]; exact HX.out.2.1.tl, HX.out.2.2.1, HX.out.2.2.2⟩
    · obtain rfl : i = RN := by omega
      go_wp2_with fail
      refine (text_any _ _ L _ hTL hLn).mono ?_
      rintro e w5 ⟨rfl, b5⟩
      have HX := Lib.hid (B.trans b5)
      clear b5 B hO hTL
      go_wp2
      go_ret
      exact ⟨ret_str (by rw [HLD.out, ← HRR.out.1, ← HRR.out.2]), HX.out⟩

/-- What parsedTasks hands back. -/
def GotP (w : World) (ls : List (List UInt8)) (e : Ending) (w' : World) : Prop :=
  ∃ (v : Value) (ts : List T3) (ok : Bool), e = .returned (.tuple #[v, .bool ok]) ∧ Own w' w.heap.size v ts ∧ Below w.heap.size w w' ∧
    ((ok = true ∧ ts = taskL ls ∧ ∀ j (hj : j < ls.length), (prs (ls[j]'hj)).isNone = false) ∨
     (ok = false ∧ ∃ (i : Nat) (hi : i < ls.length), ts.length = i ∧ (∀ j (hj : j < ls.length), j < i → (prs (ls[j]'hj)).isNone = false) ∧ prs (ls[i]'hi) = none))
theorem own_none (w : World) (base : Nat) : Own w base (.slice none 0 0) [] := ⟨rfl, .inl ⟨rfl, rfl⟩⟩
theorem taskL_take_len {ls : List (List UInt8)} {i : Nat} (hi : i ≤ ls.length) (h : ∀ j (hj : j < ls.length), j < i → (prs (ls[j]'hj)).isNone = false) : (taskL (ls.take i)).length = i := by
  rw [taskL_len, List.length_take]
  · omega
  · intro j hj
    have hj' := hj
    rw [List.length_take] at hj'
    rw [List.getElem_take]
    exact h j (by omega) (by omega)

set_option maxRecDepth 100000 in
set_option maxHeartbeats 8000000 in
theorem parsedTasks_any (a : Option Addr) (cap : Nat) (ls : List (List UInt8)) (w : World) (hr : RowL w a ls) (hn : ls.length ≤ 1048576) (hl : ∀ l ∈ ls, l.length ≤ 1048576) (hG : ErrsG w) :
    Calls Tryz.prog 23 #[.slice a ls.length cap] w (GotP w ls) := by
  obtain ⟨i0, hi, hz, hsz, hby⟩ := info_parts taskInfo
  have HI := Lib.hid (And.intro hi (And.intro hz (And.intro hsz hby)))
  have HR := Lib.hid hr
  have HL := Lib.hid hl
  have HG0 := Lib.hid hG
  clear hi hz hsz hby hr hl hG
  go_enter Tryz.func23, Tryz.ntmps23
  go_wp2
  go_loopg [4, 11] ls.length (fun q vs vi wr => ∃ i : Nat, q + i = ls.length ∧ vi = .int .i64 (i : Int) ∧ Own wr w.heap.size vs (taskL (ls.take i)) ∧ (∀ j (hj : j < ls.length), j < i → (prs (ls[j]'hj)).isNone = false) ∧ Below w.heap.size w wr)
  case atStart => exact ⟨0, by simp, rfl, own_none w _, fun j _ hj => absurd hj (Nat.not_lt_zero _), Below.refl _ _⟩
  case round =>
    obtain ⟨i, hq, rfl, hO, hgood, B⟩ := hrel
    obtain ⟨sa, scap, rfl, hRow, hlc, hcm⟩ := hO.row
    have HQ := Lib.hid hq
    have HB := Lib.hid B
    have HO := Lib.hid hO
    have HG := Lib.hid hgood
    have hil : i ≤ ls.length := by omega
    obtain ⟨ts, hts⟩ : ∃ ts, ts = taskL (ls.take i) := ⟨_, rfl⟩
    have HTS := Lib.hid hts
    have htl : ts.length = i := by rw [hts]; exact taskL_take_len hil hgood
    rw [← hts] at HO ⊢
    have HTL := Lib.hid htl
    clear hq B hO hgood hts hRow hlc hcm
    by_cases hi : i < ls.length
    · have hi0 : (0 : Int) ≤ i := by omega
      have hi1 : (i : Int) < (ls.length : Nat) := by omega
      obtain ⟨b, off, rfl, hblt, k0⟩ := (HR.out.below HB.out) i hi
      obtain ⟨l, hlx⟩ : ∃ l, l = ln ls i := ⟨_, rfl⟩
      have hli : l = (ls[i]'hi) := by rw [hlx, ln_get hi]
      have hlm : l.length ≤ 1048576 := HL.out l (by rw [hli]; exact List.getElem_mem hi)
      rw [← hlx] at k0
      have HLI := Lib.hid hli
      clear hlx hli
      go_wp2_with fail
      refine (parseTask_any l _ hlm (HG0.out.below HG0.out.lt HB.out)).mono ?_
      rintro e w2 ⟨⟨c, d, p, ok, rfl, hP⟩, b2⟩
      have B2 := Lib.hid (HB.out.trans (b2.mono HB.out.size))
      have HO2 := Lib.hid (HO.out.below' b2)
      rcases hP.prs with ⟨rfl, hp⟩ | ⟨rfl, rfl, rfl, rfl, hp⟩
      · have HT := Lib.hid (show taskL (ls.take (i + 1)) = ts ++ [(c, d, p)] by rw [HTS.out]; exact taskL_take hi (by rw [← HLI.out]; exact hp))
        have HG2 := Lib.hid (show ∀ j (hj : j < ls.length), j < i + 1 → (prs (ls[j]'hj)).isNone = false from fun j hj hlt => by
          rcases Nat.lt_succ_iff_lt_or_eq.1 hlt with h | rfl
          · exact HG.out j hj h
          · rw [← HLI.out, hp]; rfl)
        have htl' : ts.length + 1 ≤ maxLen := by unfold maxLen; omega
        have htle : ts.length ≤ 1048576 := by omega
        clear hP hp b2 k0 htl
        have hnews : ∀ (j : Nat) (u : Value), [Value.int .i64 c, .int .i64 d, .int .i64 p][j]? = some u → ((w2.alloc (.cells #[.int .i64 c, .int .i64 d, .int .i64 p] 29)).alloc (.cells #[.int .i64 c, .int .i64 d, .int .i64 p] 29)).cell? ((⟨w2.heap.size + 1, 0, none⟩ : Addr).add j) = some u := by
          have h := news3 (w2.alloc (.cells #[.int .i64 c, .int .i64 d, .int .i64 p] 29)) c d p 29
          have e : (w2.alloc (.cells #[.int .i64 c, .int .i64 d, .int .i64 p] 29)).heap.size = w2.heap.size + 1 := by simp
          rw [e] at h
          exact h
        have hown2 := World.ownsRow.alloc (World.ownsRow.alloc HO2.out (.cells #[.int .i64 c, .int .i64 d, .int .i64 p] 29)) (.cells #[.int .i64 c, .int .i64 d, .int .i64 p] 29)
        have BX := (B2.out.alloc B2.out.size (.cells #[.int .i64 c, .int .i64 d, .int .i64 p] 29)).alloc (by simp; have := B2.out.size; omega) (.cells #[.int .i64 c, .int .i64 d, .int .i64 p] 29)
        have BXs := BX.size
        have HX := Lib.hid (And.intro hnews (And.intro hown2 (And.intro BX BXs)))
        clear hnews hown2 BX BXs
        go_wp2_with (at_builtin; refine wpList_append_own _ rfl (.tmp 23) (.tmp 25) 27 rfl w.heap.size 29 i0 _ 3 24 Tryz.underlying27 HI.out.1 HI.out.2.1 HI.out.2.2.1 HI.out.2.2.2 rfl (by decide) _ ts.length (flat ts) rfl HX.out.2.1 ⟨w2.heap.size + 1, 0, none⟩ 1 1 [.int .i64 c, .int .i64 d, .int .i64 p] rfl rfl HX.out.1 (one3 _ _ _) htl' (by omega) HX.out.2.2.2 ?_; intro v' w' hown' hgrow hnil)
        have B3 : Below w.heap.size w w' := HX.out.2.2.1.grown hgrow HX.out.2.2.2 (fun k hk => (HO2.out.lt' k hk).1)
        have HO3 := Lib.hid (own_push hown')
        clear hown' hgrow hnil
        go_roundg (gk - 1)
        case measure => have := HQ.out; omega
        case rel => exact ⟨i + 1, by have := HQ.out; omega, by go_num, by rw [HT.out]; exact HO3.out, HG2.out, B3⟩
      · have HBX := Lib.hid (HO2.out.below' (below_box w2 (.cells #[.int .i64 0, .int .i64 0, .int .i64 0] 29)))
        have HBad := Lib.hid (show prs (ls[i]'hi) = none by rw [← HLI.out]; exact hp)
        clear hP hp b2 k0 htl
        go_wp2
        go_ret2
        exact ⟨_, ts, false, rfl, HBX.out, B2.out.alloc B2.out.size _, .inr ⟨rfl, i, hi, HTL.out, HG.out, HBad.out⟩⟩
    · obtain rfl : i = ls.length := by omega
      have hts := HTS.out
      rw [List.take_length] at hts
      have HT2 := Lib.hid hts
      clear hts htl
      go_wp2
      go_ret2
      exact ⟨_, ts, true, rfl, HO.out, HB.out, .inl ⟨rfl, HT2.out, fun j hj => HG.out j hj hj⟩⟩

set_option maxRecDepth 100000 in
set_option maxHeartbeats 8000000 in
/-- impl.Report. -/
theorem report_any (a : Option Addr) (cap : Nat) (ls : List (List UInt8)) (w : World) (hr : RowL w a ls) (hn : ls.length ≤ 1048576) (hl : ∀ l ∈ ls, l.length ≤ 1048576) (hG : RepG w) :
    Calls Tryz.prog 6 #[.slice a ls.length cap] w fun e w' => GotL w.heap.size (repL ls) e w' ∧ Below w.heap.size w w' := by
  have HT := Lib.hid hG.2
  go_enter Tryz.func6, Tryz.ntmps6
  go_wp2_with fail
  refine (parsedTasks_any a cap ls _ hr hn hl hG.1).mono ?_
  rintro e w1 ⟨v, ts, ok, rfl, hO, b1, hcase⟩
  obtain ⟨sa, scap, rfl, hRow, hlc, hcm⟩ := hO.row
  clear hr hl hG hO hlc hcm
  rcases hcase with ⟨rfl, hts, hall⟩ | ⟨rfl, i, hi, hti, hgood, hbad⟩
  · have hlen : ts.length = ls.length := by rw [hts]; exact taskL_len hall
    by_cases h5 : 5 < ls.length
    · have h5' : (5 : Int) < (ts.length : Nat) := by omega
      have HN := Lib.hid (repL_many hall h5)
      have HB := Lib.hid b1
      clear h5 hall hts hlen b1
      go_wp2
      go_ret
      exact ⟨⟨_, rfl, by rw [HN.out]; exact (laid_one w1 manyW).mono HB.out.size⟩, HB.out.alloc HB.out.size _⟩
    have h5' : ¬ (5 : Int) < (ts.length : Nat) := by omega
    have HN := Lib.hid (repL_four hall h5 hts)
    have hsv : svB ts = true := by rw [hts]; exact taskL_sv h5
    have htl5 : ts.length ≤ 5 := by omega
    clear h5 hall hts hlen hn
    go_wp2_with fail
    refine (utilLine_any sa scap ts _ hRow (by omega) hsv (HT.out.below b1)).mono ?_
    rintro e w2 ⟨rfl, b2⟩
    obtain ⟨l1, h1⟩ : ∃ l, l = utilW ++ Lib.decDigits (utN ts) ++ [47] ++ Lib.decDigits (utD ts) := ⟨_, rfl⟩
    rw [← h1]
    have H1 := Lib.hid h1
    clear h1
    have B2 := b1.trans (b2.mono b1.size)
    have R2 := hRow.below b2
    clear b1 b2 hRow
    go_wp2_with fail
    refine (edfLine_any sa scap ts _ R2 (by omega) hsv (HT.out.below B2)).mono ?_
    rintro e w3 ⟨rfl, b3⟩
    obtain ⟨l2, h2⟩ : ∃ l, l = edfL (fo ts) := ⟨_, rfl⟩
    rw [← h2]
    have H2 := Lib.hid h2
    clear h2
    have B3 := B2.trans (b3.mono B2.size)
    have R3 := R2.below b3
    clear B2 b3 R2
    go_wp2_with fail
    refine (respLine_any sa scap ts _ R3 htl5 hsv (HT.out.below B3)).mono ?_
    rintro e w4 ⟨rfl, b4⟩
    obtain ⟨l3, h3⟩ : ∃ l, l = respW ++ tmsL (rtF ts (dmB' ts)) (rtN ts (dmB' ts)) := ⟨_, rfl⟩
    rw [← h3]
    have H3 := Lib.hid h3
    clear h3
    have B4 := B3.trans (b4.mono B3.size)
    have R4 := R3.below b4
    clear B3 b4 R3
    go_wp2_with fail
    refine (coresLine_any sa scap ts _ R4 (by omega)).mono ?_
    rintro e w5 ⟨rfl, b5⟩
    obtain ⟨l4, h4⟩ : ∃ l, l = coreW ++ Lib.decDigits (mcO ts) := ⟨_, rfl⟩
    rw [← h4]
    have H4 := Lib.hid h4
    clear h4
    have B5 := B4.trans (b5.mono B4.size)
    clear B4 b5 R4
    have HF := Lib.hid (show repL ls = [l1, l2, l3, l4] by rw [HN.out, four, H1.out, H2.out, H3.out, H4.out])
    have HB := Lib.hid B5
    clear B5 hsv
    go_wp2
    go_ret
    exact ⟨⟨_, rfl, by rw [HF.out]; exact (OwnL.laid w5 [l1, l2, l3, l4] (by unfold maxLen; simp)).mono HB.out.size⟩, HB.out.alloc HB.out.size _⟩
  · have HN := Lib.hid (repL_bad (hi := hi) hgood hbad)
    have hi20 : ts.length < 1048576 := by omega
    have HTI := Lib.hid hti
    clear hgood hbad hti
    go_wp2_with fail
    refine (malformed_any (ts.length + 1) _ (by omega) (HT.out.below b1)).mono ?_
    rintro e w2 ⟨rfl, b2⟩
    have HB := Lib.hid (b1.trans (b2.mono b1.size))
    clear b1 b2 hRow
    go_wp2
    go_ret
    exact ⟨⟨_, rfl, by rw [HN.out, ← HTI.out]; exact (laid_one w2 _).mono HB.out.size⟩, HB.out.alloc HB.out.size _⟩

end Go.Proofs.YtdgihkmiolnglaaGreatDoor
