/- The walk of laws.FnReport over the program's and the reference's contracts: for every slice of bytes the law returns true. Conditions: those of each theorem (what strconv's variables hold). -/
import Derived.Test.YtdgihkmiolnglaaGreatDoorTxtPrg
import Derived.Test.YtdgihkmiolnglaaGreatDoorTxtDrawR
namespace Go.Proofs.YtdgihkmiolnglaaGreatDoor
open Go.RowKit Go.Deep

theorem six_at (v : World) {n : Nat} {l : List UInt8} (h : n ≤ 5) (hl : Lib.decDigits n = l) : (v.alloc (.cells #[.string ⟨#[48]⟩, .string ⟨#[49]⟩, .string ⟨#[50]⟩, .string ⟨#[51]⟩, .string ⟨#[52]⟩, .string ⟨#[53]⟩] 9)).cell? ⟨v.heap.size, n, none⟩ = some (.string (bs l)) := by
  rw [dec_one (by omega)] at hl
  subst hl
  match n, h with
  | 0, _ => simp [go_sem]; rfl
  | 1, _ => simp [go_sem]; rfl
  | 2, _ => simp [go_sem]; rfl
  | 3, _ => simp [go_sem]; rfl
  | 4, _ => simp [go_sem]; rfl
  | 5, _ => simp [go_sem]; rfl
  | n + 6, h => omega
theorem edfL_feas {ts : List T3} (h : svB ts = true) : (edfL (fo ts) == feasW) = edf ts := by
  unfold edf
  rw [h, Bool.true_and]
  rcases fo_bd h with e | ⟨x, e, h1, -⟩
  · rw [e]; rfl
  · rw [e, show decide ((x : Int) = -1) = false from decide_eq_false (by omega), beq_eq_false_iff_ne, edfL, if_neg (by omega)]
    intro hx
    have := congrArg (fun l : List UInt8 => l.getD 4 0) hx
    simp [overW, feasW] at this

set_option maxRecDepth 100000 in
set_option maxHeartbeats 8000000 in
theorem fnReport_walk (a : Option Addr) (len cap : Nat) (w : World) (hG : RepG w) (hb : Byts w a len cap) :
    Calls Tryz.prog 3 #[.slice a len cap] w fun e w' => e = .returned (.bool true) ∧ Below w.heap.size w w' := by
  have hm := hb.2.2
  have hc := hb.2.1
  unfold maxLen at hm
  have HB0 := Lib.hid hb
  have HG := Lib.hid hG
  clear hb hG
  by_cases hl : 1048576 < len
  · have hl' : (1048576 : Int) < len := by omega
    clear hl
    go_enter Tryz.func3, Tryz.ntmps3
    go_wp2
    go_ret
    exact ⟨rfl, Below.refl _ _⟩
  have hl' : ¬ (1048576 : Int) < len := by omega
  obtain ⟨i0, hi, hz, hsz, hby⟩ := info_parts taskInfo
  have HI := Lib.hid (And.intro hi (And.intro hz (And.intro hsz hby)))
  clear hl hm hc hi hz hsz hby
  go_enter Tryz.func3, Tryz.ntmps3
  go_wp2_with fail
  refine (drawReport_any _ _ _ _ HB0.out).mono ?_
  rintro e w1 ⟨v, ls, rfl, hO, hn13, hall, b1⟩
  obtain ⟨sa, scap, rfl⟩ := hO.shape
  have hR1 := hO.rowL
  have HAL := Lib.hid (fun l h => Nat.le_trans (hall l h) (by decide : 20 ≤ 1048576))
  have G1 := HG.out.below b1
  clear hO hall
  go_wp2_with fail
  refine (report_any sa scap ls _ hR1 (by omega) HAL.out G1).mono ?_
  rintro e w2 ⟨⟨v2, rfl, hO2⟩, b2⟩
  obtain ⟨oa, ocap, rfl⟩ := hO2.shape
  have hR2 := hR1.below b2
  have hQ2 := hO2.rowL
  have B2 := b1.trans (b2.mono b1.size)
  clear hO2 b2 b1 hR1 G1
  go_wp2_with fail
  refine (specReport_any sa scap ls _ hR2 (by omega) HAL.out).mono ?_
  rintro e w3 ⟨⟨v3, rfl, hO3⟩, b3⟩
  obtain ⟨ra, rcap, rfl⟩ := hO3.shape
  have hR3 := hR2.below b3
  have hQ3 := hQ2.below b3
  have hP3 := hO3.rowL
  have B3 := B2.trans (b3.mono B2.size)
  have hrl : (repL ls).length ≤ 4 := by
    unfold repL four
    split
    · exact (by decide : 1 ≤ 4)
    · split
      · decide
      · exact (by decide : 4 ≤ 4)
  clear hO3 b3 hR2 hQ2 B2
  go_wp2_with fail
  refine (sameStrings_any oa ra ocap rcap (repL ls) _ hQ3 hP3 (by omega)).mono ?_
  rintro e w4 ⟨rfl, b4⟩
  have HR := Lib.hid (hR3.below b4)
  have HQ4 := Lib.hid (hQ3.below b4)
  have B4 := Lib.hid (B3.trans (b4.mono B3.size))
  obtain ⟨R, hRL⟩ : ∃ R, R = repL ls := ⟨_, rfl⟩
  rw [← hRL] at HQ4 hrl ⊢
  have HRL := Lib.hid hRL
  clear hR3 hQ3 hP3 b4 B3 hRL
  go_wp2
  go_loopg [5, 6] ls.length (fun q vs vi wr => ∃ i : Nat, q + i = ls.length ∧ vi = .int .i64 (i : Int) ∧ Own wr w4.heap.size vs (taskL (ls.take i)) ∧ (∀ j (hj : j < ls.length), j < i → (prs (ls[j]'hj)).isNone = false) ∧ Below w4.heap.size w4 wr)
  case atStart => exact ⟨0, by simp, rfl, own_emptyT w4, fun j _ hj => absurd hj (Nat.not_lt_zero _), below_box _ _⟩
  case round =>
    obtain ⟨i, hq, rfl, hO, hgood, B⟩ := hrel
    obtain ⟨ga, gcap, rfl, hRow, hlc, hcm⟩ := hO.row
    have HQ := Lib.hid hq
    have HBB := Lib.hid B
    have HB := Lib.hid (B4.out.trans (B.mono B4.out.size))
    have HO := Lib.hid hO
    have HGD := Lib.hid hgood
    have hil : i ≤ ls.length := by omega
    obtain ⟨ts, hts⟩ : ∃ ts, ts = taskL (ls.take i) := ⟨_, rfl⟩
    have HTS := Lib.hid hts
    have htl : ts.length ≤ i := by rw [hts]; exact Nat.le_trans (taskL_len_le _) (by rw [List.length_take]; omega)
    rw [← hts] at HO ⊢
    have HTR := Lib.hid hRow
    rw [← hts] at HTR
    clear hq B hO hgood hts hRow hlc hcm
    by_cases hi : i < ls.length
    · have hi0 : (0 : Int) ≤ i := by omega
      have hi1 : (i : Int) < (ls.length : Nat) := by omega
      obtain ⟨b, off, rfl, hblt, k0⟩ := (HR.out.below HBB.out) i hi
      obtain ⟨l, hlx⟩ : ∃ l, l = ln ls i := ⟨_, rfl⟩
      have hli : l = (ls[i]'hi) := by rw [hlx, ln_get hi]
      have hlm : l.length ≤ 1048576 := HAL.out l (by rw [hli]; exact List.getElem_mem hi)
      rw [← hlx] at k0
      have HLI := Lib.hid hli
      clear hlx hli
      go_wp2_with fail
      refine (parseTask_any l _ hlm (HG.out.below HB.out).1).mono ?_
      rintro e w2 ⟨⟨c, d, p, ok, rfl, hP⟩, b2⟩
      have B2 := Lib.hid (HBB.out.trans (b2.mono HBB.out.size))
      have HO2 := Lib.hid (HO.out.below' b2)
      rcases hP.prs with ⟨rfl, hp⟩ | ⟨rfl, rfl, rfl, rfl, hp⟩
      · have HT := Lib.hid (show taskL (ls.take (i + 1)) = ts ++ [(c, d, p)] by rw [HTS.out]; exact taskL_take hi (by rw [← HLI.out]; exact hp))
        have HG2 := Lib.hid (show ∀ j (hj : j < ls.length), j < i + 1 → (prs (ls[j]'hj)).isNone = false from fun j hj hlt => by
          rcases Nat.lt_succ_iff_lt_or_eq.1 hlt with h | rfl
          · exact HGD.out j hj h
          · rw [← HLI.out, hp]; rfl)
        have htl' : ts.length + 1 ≤ maxLen := by unfold maxLen; omega
        clear hP hp b2 k0
        have hnews : ∀ (j : Nat) (u : Value), [Value.int .i64 c, .int .i64 d, .int .i64 p][j]? = some u → ((w2.alloc (.cells #[.int .i64 c, .int .i64 d, .int .i64 p] 29)).alloc (.cells #[.int .i64 c, .int .i64 d, .int .i64 p] 29)).cell? ((⟨w2.heap.size + 1, 0, none⟩ : Addr).add j) = some u := by
          have h := news3 (w2.alloc (.cells #[.int .i64 c, .int .i64 d, .int .i64 p] 29)) c d p 29
          have e : (w2.alloc (.cells #[.int .i64 c, .int .i64 d, .int .i64 p] 29)).heap.size = w2.heap.size + 1 := by simp
          rw [e] at h
          exact h
        have hown2 := World.ownsRow.alloc (World.ownsRow.alloc HO2.out (.cells #[.int .i64 c, .int .i64 d, .int .i64 p] 29)) (.cells #[.int .i64 c, .int .i64 d, .int .i64 p] 29)
        have BX := (B2.out.alloc B2.out.size (.cells #[.int .i64 c, .int .i64 d, .int .i64 p] 29)).alloc (by simp; have := B2.out.size; omega) (.cells #[.int .i64 c, .int .i64 d, .int .i64 p] 29)
        have BXs := BX.size
        have HX := Lib.hid (And.intro hnews (And.intro hown2 (And.intro BX BXs)))
        clear hnews hown2 BX BXs
        go_wp2_with (at_builtin; refine wpList_append_own _ rfl (.tmp 58) (.tmp 60) 27 rfl w4.heap.size 29 i0 _ 3 24 Tryz.underlying27 HI.out.1 HI.out.2.1 HI.out.2.2.1 HI.out.2.2.2 rfl (by decide) _ ts.length (flat ts) rfl HX.out.2.1 ⟨w2.heap.size + 1, 0, none⟩ 1 1 [.int .i64 c, .int .i64 d, .int .i64 p] rfl rfl HX.out.1 (one3 _ _ _) htl' (by omega) HX.out.2.2.2 ?_; intro v' w' hown' hgrow hnil)
        have B3 : Below w4.heap.size w4 w' := HX.out.2.2.1.grown hgrow HX.out.2.2.2 (fun k hk => (HO2.out.lt' k hk).1)
        have HO3 := Lib.hid (own_push hown')
        clear hown' hgrow hnil
        go_roundg (gk - 1)
        case measure => have := HQ.out; omega
        case rel => exact ⟨i + 1, by have := HQ.out; omega, by go_num, by rw [HT.out]; exact HO3.out, HG2.out, B3⟩
      · have hbad : R = [lineW ++ Lib.decDigits (i + 1)] := by rw [HRL.out]; exact repL_bad (hi := hi) HGD.out (by rw [← HLI.out]; exact hp)
        subst hbad
        have HB3 := Lib.hid (B4.out.trans (B2.out.mono B4.out.size))
        have HQ5 := (HQ4.out.below (B2.out)) 0 (by simp)
        obtain ⟨ob, oo, rfl, holt, x0⟩ := HQ5
        have hdl := dec_len_big 11 (i + 1) (by omega)
        have hd0 : (Lib.decDigits (i + 1)).length ≠ 0 := fun e => dec_ne_nil (i + 1) (List.length_eq_zero_iff.1 e)
        obtain ⟨D, hD⟩ : ∃ D, D = lineW ++ Lib.decDigits (i + 1) := ⟨_, rfl⟩
        have hln : ln [lineW ++ Lib.decDigits (i + 1)] 0 = D := by rw [hD]; rfl
        have hlw : lineW.length = 5 := rfl
        have hDs : (bs D).size = D.length := bs_size D
        have hD6 : (6 : Int) ≤ (D.length : Nat) := by rw [hD, List.length_append]; omega
        have hex : (bs D).extract 0 5 = bs lineW := by rw [bs_extract, List.drop_zero, hD]; exact congrArg bs (List.take_left' rfl)
        have hle : ((bs lineW).toList == [108, 105, 110, 101, 32]) = true := by rw [bs_toList]; rfl
        rw [hln, Nat.add_zero] at x0
        clear hP hp b2 k0 htl hD hln hlw hdl hd0 HQ4
        go_wp2_with fail
        refine (alive_any _).mono ?_
        rintro e w5 ⟨rfl, b5⟩
        have HX := Lib.hid ((HB3.out.alloc HB3.out.size _).trans (b5.mono (by have := HB3.out.size; simp; omega)))
        clear b5
        go_wp2
        go_ret
        exact ⟨rfl, HX.out⟩
    · obtain rfl : i = ls.length := by omega
      have hts := HTS.out
      rw [List.take_length] at hts
      have hall : ∀ j (hj : j < ls.length), (prs (ls[j]'hj)).isNone = false := fun j hj => HGD.out j hj hj
      have hlen : ts.length = ls.length := by rw [hts]; exact taskL_len hall
      by_cases h5 : 5 < ls.length
      · have h5' : (5 : Int) < (ts.length : Nat) := by omega
        have hR : R = [manyW] := by rw [HRL.out]; exact repL_many hall h5
        subst hR
        clear h5 hall hts hlen hi
        go_wp2_with fail
        refine (sameStrings_any oa _ ocap 1 [manyW] _ ((HQ4.out.below HBB.out).below (below_box _ _)) (OwnL.rowL (laid_one wr manyW)) (by decide)).mono ?_
        rintro e w5 ⟨rfl, b5⟩
        have HX := Lib.hid ((HB.out.alloc HB.out.size _).trans (b5.mono (by have := HB.out.size; simp; omega)))
        clear b5
        go_wp2
        go_ret
        exact ⟨rfl, HX.out⟩
      have h5' : ¬ (5 : Int) < (ts.length : Nat) := by omega
      have hR : R = four (utN ts) (utD ts) (fo ts) (rtN ts (dmB' ts)) (rtF ts (dmB' ts)) (mcO ts) := by rw [HRL.out]; exact repL_four hall h5 hts
      have hsv : svB ts = true := by rw [hts]; exact taskL_sv h5
      have htl5 : ts.length ≤ 5 := by omega
      have hR4 : R.length = 4 := by rw [hR]; rfl
      obtain ⟨ob, off, hoa, hob, x1⟩ := (HQ4.out.below HBB.out) 1 (by omega)
      obtain ⟨ob', off', hoa', -, x3⟩ := (HQ4.out.below HBB.out) 3 (by omega)
      obtain ⟨rfl, rfl⟩ : ob = ob' ∧ off = off' := by rw [hoa] at hoa'; simpa using hoa'
      subst hoa
      obtain ⟨L2, hL2⟩ : ∃ l, l = edfL (fo ts) := ⟨_, rfl⟩
      obtain ⟨DM, hDM⟩ : ∃ l, l = Lib.decDigits (mcO ts) := ⟨_, rfl⟩
      obtain ⟨S4, hS4⟩ : ∃ l, l = coreW ++ DM := ⟨_, rfl⟩
      have e1 : ln R 1 = L2 := by rw [hR, hL2]; rfl
      have e3 : ln R 3 = S4 := by rw [hR, hS4, hDM]; rfl
      rw [e1] at x1
      rw [e3] at x3
      have hmc := mcO_small ts
      have hdm := dec_len_big 11 (mcO ts) (by omega)
      rw [← hDM] at hdm
      have sC : ∀ w : World, (Op.stringOp .add ⟨#[99, 111, 114, 101, 115, 32]⟩ (bs DM)).run Tryz.prog w = .ok (.string (bs S4)) w := fun w => by rw [hS4]; exact run_add_bs w coreW _ (by have : coreW.length = 6 := rfl; omega)
      obtain ⟨EB, hEB⟩ : ∃ b, b = edf ts := ⟨_, rfl⟩
      obtain ⟨MC, hMC⟩ : ∃ n, n = mcO ts := ⟨_, rfl⟩
      have hcmp : ((bs L2).toList == [101, 100, 102, 32, 102, 101, 97, 115, 105, 98, 108, 101]) = EB := by rw [bs_toList, hL2, hEB]; exact edfL_feas hsv
      have HEB := Lib.hid hEB.symm
      have HMC := Lib.hid (show ((mcO ts : Nat) : Int) = (MC : Int) by rw [hMC])
      have HDM := Lib.hid (show Lib.decDigits MC = DM by rw [hMC, hDM])
      have hMC5 : MC ≤ 5 := by omega
      have hMC0 : (0 : Int) ≤ (MC : Int) := by omega
      have hMC6 : (MC : Int) < 6 := by omega
      rw [hR4]
      clear h5 hall hts hlen hi hR hL2 hDM hS4 e1 e3 hmc hdm hEB hMC hR4 hsv HQ4
      go_wp2_with fail
      refine wp_region_held_drew (S := fun v => v.cell? ⟨ob, off + 1, none⟩ = some (.string (bs L2)) ∧ v.cell? ⟨ob, off + 3, none⟩ = some (.string (bs S4)) ∧ Below wr.heap.size wr v) (by kernel_rfl) ?_ (fun hHeld => ?_)
      · (try dsimp only)
        exact ⟨x1, x3, (Below.refl _ _).drew⟩
      refine wpAnyH_take (i := 0) (v := ?_) (toArr_get _ 0 _ rfl) (by kernel_rfl) (by kernel_rfl) (by kernel_rfl) (fun _ _ _ h => h) (Or.inl ⟨by rfl, ?_⟩) (by assumption) ?_
      rotate_left
      · (intro w hSw; (try dsimp only at hSw); go_simp; (try with_reducible rfl))
      (try simp only [Act.put, List.setIfInBounds_toArray, List.set_cons_zero, List.set_cons_succ])
      refine wpAnyH_take (i := 1) (v := ?_) (toArr_get _ 1 _ rfl) (by kernel_rfl) (by kernel_rfl) (by kernel_rfl) (fun _ _ _ h => h) (Or.inl ⟨by rfl, ?_⟩) (by assumption) ?_
      rotate_left
      · (intro w hSw; (try dsimp only at hSw); go_simp; (try with_reducible rfl))
      (try simp only [Act.put, List.setIfInBounds_toArray, List.set_cons_zero, List.set_cons_succ])
      refine wpAnyH_take (i := 2) (v := ?_) (toArr_get _ 2 _ rfl) (by kernel_rfl) (by kernel_rfl) (by kernel_rfl) (fun _ _ _ h => h) (Or.inl ⟨by rfl, ?_⟩) (by assumption) ?_
      rotate_left
      · (intro w hSw; (try dsimp only at hSw); go_simp; (try with_reducible rfl))
      (try simp only [Act.put, List.setIfInBounds_toArray, List.set_cons_zero, List.set_cons_succ])
      refine wpAnyH_take (i := 3) (v := ?_) (toArr_get _ 3 _ rfl) (by kernel_rfl) (by kernel_rfl) (by kernel_rfl) (fun _ _ _ h => h) (Or.inl ⟨by rfl, ?_⟩) (by assumption) ?_
      rotate_left
      · (intro w hSw; (try dsimp only at hSw); go_simp; (try with_reducible rfl))
      (try simp only [Act.put, List.setIfInBounds_toArray, List.set_cons_zero, List.set_cons_succ])
      refine wpAnyH_take (i := 4) (v := ?_) (toArr_get _ 4 _ rfl) (by kernel_rfl) (by kernel_rfl) (by kernel_rfl) (fun _ _ _ h => h) (Or.inl ⟨by rfl, ?_⟩) (by assumption) ?_
      rotate_left
      · (intro w hSw; (try dsimp only at hSw); go_simp; (try with_reducible rfl))
      (try simp only [Act.put, List.setIfInBounds_toArray, List.set_cons_zero, List.set_cons_succ])
      refine wpAnyH_take (i := 5) (v := ?_) (toArr_get _ 5 _ rfl) (by kernel_rfl) (by kernel_rfl) (by kernel_rfl) (fun _ _ _ h => h) (Or.inl ⟨by rfl, ?_⟩) (by assumption) ?_
      rotate_left
      · (intro w hSw; (try dsimp only at hSw); go_simp; (try with_reducible rfl))
      (try simp only [Act.put, List.setIfInBounds_toArray, List.set_cons_zero, List.set_cons_succ])
      refine wpAnyH_take (i := 6) (v := ?_) (toArr_get _ 6 _ rfl) (by kernel_rfl) (by kernel_rfl) (by kernel_rfl) (fun _ _ _ h => h) (Or.inl ⟨by rfl, ?_⟩) (by assumption) ?_
      rotate_left
      · (intro w hSw; (try dsimp only at hSw); go_simp; (try with_reducible rfl))
      (try simp only [Act.put, List.setIfInBounds_toArray, List.set_cons_zero, List.set_cons_succ])
      refine wpAnyH_take (i := 7) (v := ?_) (toArr_get _ 7 _ rfl) (by kernel_rfl) (by kernel_rfl) (by kernel_rfl) (fun _ _ _ h => h) (Or.inl ⟨by rfl, ?_⟩) (by assumption) ?_
      rotate_left
      · (intro w hSw; (try dsimp only at hSw); go_simp; (try with_reducible rfl))
      (try simp only [Act.put, List.setIfInBounds_toArray, List.set_cons_zero, List.set_cons_succ])
      refine wpAnyH_take (i := 8) (v := ?_) (toArr_get _ 8 _ rfl) (by kernel_rfl) (by kernel_rfl) (by kernel_rfl) (fun _ _ _ h => h) (Or.inl ⟨by rfl, ?_⟩) (by assumption) ?_
      rotate_left
      · (intro w hSw; (try dsimp only at hSw); go_simp; (try with_reducible rfl))
      (try simp only [Act.put, List.setIfInBounds_toArray, List.set_cons_zero, List.set_cons_succ])
      refine wpAnyH_ready (rs := [9]) (by kernel_rfl) (by simp) ?_
      refine AllReadyH.cons (toArr_get _ 9 _ rfl) (fun K hK => ?_) ?_
      · go_simp
        refine (edfFeasible_any ga gcap ts _ (HTR.out.below hHeld.2.2) (by omega)).mono ?_
        rintro e v9 ⟨rfl, b9⟩
        rw [HEB.out]
        go_wp2_with fail
        refine hK.out _ _ ?_ (fun hHeld2 => ?_)
        · (try dsimp only)
          obtain ⟨k1, k3, kb⟩ := hHeld; exact ⟨(b9.cell (p := ⟨ob, off + 1, none⟩) (Nat.lt_of_lt_of_le hob kb.size)).trans k1, (b9.cell (p := ⟨ob, off + 3, none⟩) (Nat.lt_of_lt_of_le hob kb.size)).trans k3, kb.trans (b9.mono kb.size)⟩
        clear hK K hHeld
        have hHeld := hHeld2
        clear hHeld2
        (try simp only [Act.put, List.setIfInBounds_toArray, List.set_cons_zero, List.set_cons_succ])
        refine wpAnyH_take (i := 10) (v := ?_) (toArr_get _ 10 _ rfl) (by kernel_rfl) (by kernel_rfl) (by kernel_rfl) (fun _ _ _ h => h) (Or.inl ⟨by rfl, ?_⟩) (by assumption) ?_
        rotate_left
        · (intro w hSw; (try dsimp only at hSw); go_simp; (try with_reducible rfl))
        (try simp only [Act.put, List.setIfInBounds_toArray, List.set_cons_zero, List.set_cons_succ])
        refine wpAnyH_take (i := 11) (v := ?_) (toArr_get _ 11 _ rfl) (by kernel_rfl) (by kernel_rfl) (by kernel_rfl) (fun _ _ _ h => h) (Or.inl ⟨by rfl, ?_⟩) (by assumption) ?_
        rotate_left
        · (intro w hSw; (try dsimp only at hSw); go_simp; (try with_reducible rfl))
        (try simp only [Act.put, List.setIfInBounds_toArray, List.set_cons_zero, List.set_cons_succ])
        refine wpAnyH_take (i := 12) (v := ?_) (toArr_get _ 12 _ rfl) (by kernel_rfl) (by kernel_rfl) (by kernel_rfl) (fun _ _ _ h => h) (Or.inl ⟨by rfl, ?_⟩) (by assumption) ?_
        rotate_left
        · (intro w hSw; (try dsimp only at hSw); go_simp; (try with_reducible rfl))
        (try simp only [Act.put, List.setIfInBounds_toArray, List.set_cons_zero, List.set_cons_succ])
        refine wpAnyH_take (i := 13) (v := ?_) (toArr_get _ 13 _ rfl) (by kernel_rfl) (by kernel_rfl) (by kernel_rfl) (fun _ _ _ h => h) (Or.inl ⟨by rfl, ?_⟩) (by assumption) ?_
        rotate_left
        · (intro w hSw; (try dsimp only at hSw); go_simp; (try with_reducible rfl))
        (try simp only [Act.put, List.setIfInBounds_toArray, List.set_cons_zero, List.set_cons_succ])
        refine wpAnyH_take (i := 14) (v := ?_) (toArr_get _ 14 _ rfl) (by kernel_rfl) (by kernel_rfl) (by kernel_rfl) (fun _ _ _ h => h) (Or.inl ⟨by rfl, ?_⟩) (by assumption) ?_
        rotate_left
        · (intro w hSw; (try dsimp only at hSw); go_simp; (try with_reducible rfl))
        (try simp only [Act.put, List.setIfInBounds_toArray, List.set_cons_zero, List.set_cons_succ])
        refine wpAnyH_take (i := 15) (v := ?_) (toArr_get _ 15 _ rfl) (by kernel_rfl) (by kernel_rfl) (by kernel_rfl) (fun _ _ _ h => h) (Or.inl ⟨by rfl, ?_⟩) (by assumption) ?_
        rotate_left
        · (intro w hSw; (try dsimp only at hSw); go_simp; (try with_reducible rfl))
        (try simp only [Act.put, List.setIfInBounds_toArray, List.set_cons_zero, List.set_cons_succ])
        refine wpAnyH_take (i := 17) (v := ?_) (toArr_get _ 17 _ rfl) (by kernel_rfl) (by kernel_rfl) (by kernel_rfl) (fun _ _ _ h => h) (Or.inl ⟨by rfl, ?_⟩) (by assumption) ?_
        rotate_left
        · (intro w hSw; (try dsimp only at hSw); go_simp; (try with_reducible rfl))
        (try simp only [Act.put, List.setIfInBounds_toArray, List.set_cons_zero, List.set_cons_succ])
        refine wpAnyH_ready (rs := [16, 18]) (by kernel_rfl) (by simp) ?_
        refine AllReadyH.cons (toArr_get _ 16 _ rfl) (fun K hK => ?_) ?_
        · go_simp
          obtain ⟨v16, hv16⟩ : ∃ V, V = v9.alloc (.cells #[.string ⟨#[48]⟩, .string ⟨#[49]⟩, .string ⟨#[50]⟩, .string ⟨#[51]⟩, .string ⟨#[52]⟩, .string ⟨#[53]⟩] 9) := ⟨_, rfl⟩
          rw [← hv16]
          have b16 : Below v9.heap.size v9 v16 := by rw [hv16]; exact below_box _ _
          have hy : v16.cell? ⟨v9.heap.size, MC, none⟩ = some (.string (bs DM)) := by rw [hv16]; exact six_at _ hMC5 HDM.out
          have hylt : v9.heap.size < v16.heap.size := by rw [hv16]; simp
          clear hv16
          refine hK.out _ _ ?_ (fun hHeld2 => ?_)
          · (try dsimp only)
            obtain ⟨k1, k3, kb⟩ := hHeld; exact ⟨(b16.cell (p := ⟨ob, off + 1, none⟩) (Nat.lt_of_lt_of_le hob kb.size)).trans k1, (b16.cell (p := ⟨ob, off + 3, none⟩) (Nat.lt_of_lt_of_le hob kb.size)).trans k3, kb.trans (b16.mono kb.size)⟩
          clear hK K hHeld
          have hHeld := hHeld2
          clear hHeld2
          (try simp only [Act.put, List.setIfInBounds_toArray, List.set_cons_zero, List.set_cons_succ])
          refine wpAnyH_ready (rs := [18]) (by kernel_rfl) (by simp) ?_
          refine AllReadyH.cons (toArr_get _ 18 _ rfl) (fun K hK => ?_) ?_
          · go_simp
            refine (minCores_any ga gcap ts _ (HTR.out.below hHeld.2.2) (by omega)).mono ?_
            rintro e v18 ⟨rfl, b18⟩
            rw [HMC.out]
            have hy := (b18.cell (p := ⟨v9.heap.size, MC, none⟩) hylt).trans hy
            go_wp2_with fail
            refine hK.out _ _ ?_ (fun hHeld2 => ?_)
            · (try dsimp only)
              obtain ⟨k1, k3, kb⟩ := hHeld; exact ⟨(b18.cell (p := ⟨ob, off + 1, none⟩) (Nat.lt_of_lt_of_le hob kb.size)).trans k1, (b18.cell (p := ⟨ob, off + 3, none⟩) (Nat.lt_of_lt_of_le hob kb.size)).trans k3, kb.trans (b18.mono kb.size)⟩
            clear hK K hHeld
            have hHeld := hHeld2
            clear hHeld2
            (try simp only [Act.put, List.setIfInBounds_toArray, List.set_cons_zero, List.set_cons_succ])
            refine wpAnyH_take (i := 19) (v := ?_) (toArr_get _ 19 _ rfl) (by kernel_rfl) (by kernel_rfl) (by kernel_rfl) (fun _ _ _ h => h) (Or.inl ⟨by rfl, ?_⟩) (by assumption) ?_
            rotate_left
            · (intro w hSw; (try dsimp only at hSw); go_simp; (try with_reducible rfl))
            (try simp only [Act.put, List.setIfInBounds_toArray, List.set_cons_zero, List.set_cons_succ])
            refine wpAnyH_ready (rs := [20]) (by kernel_rfl) (by simp) ?_
            refine AllReadyH.cons (toArr_get _ 20 _ rfl) (fun K hK => ?_) ?_
            · go_simp
              refine hK.out _ _ ?_ (fun hHeld2 => ?_)
              · (try dsimp only)
                exact hHeld
              clear hK K hHeld
              have hHeld := hHeld2
              clear hHeld2
              (try simp only [Act.put, List.setIfInBounds_toArray, List.set_cons_zero, List.set_cons_succ])
              refine wpAnyH_take (i := 21) (v := ?_) (toArr_get _ 21 _ rfl) (by kernel_rfl) (by kernel_rfl) (by kernel_rfl) (fun _ _ _ h => h) (Or.inl ⟨by rfl, ?_⟩) (by assumption) ?_
              rotate_left
              · (intro w hSw; (try dsimp only at hSw); go_simp; (try with_reducible rfl))
              (try simp only [Act.put, List.setIfInBounds_toArray, List.set_cons_zero, List.set_cons_succ])
              refine wpAnyH_take (i := 22) (v := ?_) (toArr_get _ 22 _ rfl) (by kernel_rfl) (by kernel_rfl) (by kernel_rfl) (fun _ _ _ h => h) (Or.inl ⟨by rfl, ?_⟩) (by assumption) ?_
              rotate_left
              · (intro w hSw; (try dsimp only at hSw); go_simp; (try with_reducible rfl))
              (try simp only [Act.put, List.setIfInBounds_toArray, List.set_cons_zero, List.set_cons_succ])
              refine wpAnyH_take (i := 23) (v := ?_) (toArr_get _ 23 _ rfl) (by kernel_rfl) (by kernel_rfl) (by kernel_rfl) (fun _ _ _ h => h) (Or.inl ⟨by rfl, ?_⟩) (by assumption) ?_
              rotate_left
              · (intro w hSw; (try dsimp only at hSw); go_simp; (try with_reducible rfl))
              (try simp only [Act.put, List.setIfInBounds_toArray, List.set_cons_zero, List.set_cons_succ])
              refine wpAnyH_take (i := 24) (v := ?_) (toArr_get _ 24 _ rfl) (by kernel_rfl) (by kernel_rfl) (by kernel_rfl) (fun _ _ _ h => h) (Or.inl ⟨by rfl, ?_⟩) (by assumption) ?_
              rotate_left
              · (intro w hSw; (try dsimp only at hSw); go_simp; (try with_reducible rfl))
              (try simp only [Act.put, List.setIfInBounds_toArray, List.set_cons_zero, List.set_cons_succ])
              refine wpAnyH_done (by kernel_rfl) ?_ _
              have HEND := Lib.hid (HB.out.trans (hHeld.2.2.mono HB.out.size))
              go_wp2
              go_ret
              exact ⟨rfl, HEND.out⟩
            exact AllReadyH.nil
          exact AllReadyH.nil
        refine AllReadyH.cons (toArr_get _ 18 _ rfl) (fun K hK => ?_) ?_
        · go_simp
          refine (minCores_any ga gcap ts _ (HTR.out.below hHeld.2.2) (by omega)).mono ?_
          rintro e v18 ⟨rfl, b18⟩
          rw [HMC.out]
          go_wp2_with fail
          refine hK.out _ _ ?_ (fun hHeld2 => ?_)
          · (try dsimp only)
            obtain ⟨k1, k3, kb⟩ := hHeld; exact ⟨(b18.cell (p := ⟨ob, off + 1, none⟩) (Nat.lt_of_lt_of_le hob kb.size)).trans k1, (b18.cell (p := ⟨ob, off + 3, none⟩) (Nat.lt_of_lt_of_le hob kb.size)).trans k3, kb.trans (b18.mono kb.size)⟩
          clear hK K hHeld
          have hHeld := hHeld2
          clear hHeld2
          (try simp only [Act.put, List.setIfInBounds_toArray, List.set_cons_zero, List.set_cons_succ])
          refine wpAnyH_ready (rs := [16]) (by kernel_rfl) (by simp) ?_
          refine AllReadyH.cons (toArr_get _ 16 _ rfl) (fun K hK => ?_) ?_
          · go_simp
            obtain ⟨v16, hv16⟩ : ∃ V, V = v18.alloc (.cells #[.string ⟨#[48]⟩, .string ⟨#[49]⟩, .string ⟨#[50]⟩, .string ⟨#[51]⟩, .string ⟨#[52]⟩, .string ⟨#[53]⟩] 9) := ⟨_, rfl⟩
            rw [← hv16]
            have b16 : Below v18.heap.size v18 v16 := by rw [hv16]; exact below_box _ _
            have hy : v16.cell? ⟨v18.heap.size, MC, none⟩ = some (.string (bs DM)) := by rw [hv16]; exact six_at _ hMC5 HDM.out
            have hylt : v18.heap.size < v16.heap.size := by rw [hv16]; simp
            clear hv16
            refine hK.out _ _ ?_ (fun hHeld2 => ?_)
            · (try dsimp only)
              obtain ⟨k1, k3, kb⟩ := hHeld; exact ⟨(b16.cell (p := ⟨ob, off + 1, none⟩) (Nat.lt_of_lt_of_le hob kb.size)).trans k1, (b16.cell (p := ⟨ob, off + 3, none⟩) (Nat.lt_of_lt_of_le hob kb.size)).trans k3, kb.trans (b16.mono kb.size)⟩
            clear hK K hHeld
            have hHeld := hHeld2
            clear hHeld2
            (try simp only [Act.put, List.setIfInBounds_toArray, List.set_cons_zero, List.set_cons_succ])
            refine wpAnyH_take (i := 19) (v := ?_) (toArr_get _ 19 _ rfl) (by kernel_rfl) (by kernel_rfl) (by kernel_rfl) (fun _ _ _ h => h) (Or.inl ⟨by rfl, ?_⟩) (by assumption) ?_
            rotate_left
            · (intro w hSw; (try dsimp only at hSw); go_simp; (try with_reducible rfl))
            (try simp only [Act.put, List.setIfInBounds_toArray, List.set_cons_zero, List.set_cons_succ])
            refine wpAnyH_ready (rs := [20]) (by kernel_rfl) (by simp) ?_
            refine AllReadyH.cons (toArr_get _ 20 _ rfl) (fun K hK => ?_) ?_
            · go_simp
              refine hK.out _ _ ?_ (fun hHeld2 => ?_)
              · (try dsimp only)
                exact hHeld
              clear hK K hHeld
              have hHeld := hHeld2
              clear hHeld2
              (try simp only [Act.put, List.setIfInBounds_toArray, List.set_cons_zero, List.set_cons_succ])
              refine wpAnyH_take (i := 21) (v := ?_) (toArr_get _ 21 _ rfl) (by kernel_rfl) (by kernel_rfl) (by kernel_rfl) (fun _ _ _ h => h) (Or.inl ⟨by rfl, ?_⟩) (by assumption) ?_
              rotate_left
              · (intro w hSw; (try dsimp only at hSw); go_simp; (try with_reducible rfl))
              (try simp only [Act.put, List.setIfInBounds_toArray, List.set_cons_zero, List.set_cons_succ])
              refine wpAnyH_take (i := 22) (v := ?_) (toArr_get _ 22 _ rfl) (by kernel_rfl) (by kernel_rfl) (by kernel_rfl) (fun _ _ _ h => h) (Or.inl ⟨by rfl, ?_⟩) (by assumption) ?_
              rotate_left
              · (intro w hSw; (try dsimp only at hSw); go_simp; (try with_reducible rfl))
              (try simp only [Act.put, List.setIfInBounds_toArray, List.set_cons_zero, List.set_cons_succ])
              refine wpAnyH_take (i := 23) (v := ?_) (toArr_get _ 23 _ rfl) (by kernel_rfl) (by kernel_rfl) (by kernel_rfl) (fun _ _ _ h => h) (Or.inl ⟨by rfl, ?_⟩) (by assumption) ?_
              rotate_left
              · (intro w hSw; (try dsimp only at hSw); go_simp; (try with_reducible rfl))
              (try simp only [Act.put, List.setIfInBounds_toArray, List.set_cons_zero, List.set_cons_succ])
              refine wpAnyH_take (i := 24) (v := ?_) (toArr_get _ 24 _ rfl) (by kernel_rfl) (by kernel_rfl) (by kernel_rfl) (fun _ _ _ h => h) (Or.inl ⟨by rfl, ?_⟩) (by assumption) ?_
              rotate_left
              · (intro w hSw; (try dsimp only at hSw); go_simp; (try with_reducible rfl))
              (try simp only [Act.put, List.setIfInBounds_toArray, List.set_cons_zero, List.set_cons_succ])
              refine wpAnyH_done (by kernel_rfl) ?_ _
              have HEND := Lib.hid (HB.out.trans (hHeld.2.2.mono HB.out.size))
              go_wp2
              go_ret
              exact ⟨rfl, HEND.out⟩
            exact AllReadyH.nil
          exact AllReadyH.nil
        exact AllReadyH.nil
      exact AllReadyH.nil

end Go.Proofs.YtdgihkmiolnglaaGreatDoor
