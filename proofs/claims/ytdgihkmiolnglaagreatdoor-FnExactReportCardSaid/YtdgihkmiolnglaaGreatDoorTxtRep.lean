/- The reference's Report: what it answers, as a list of lines (repL), and its contract. Conditions: those of each theorem. -/
import Derived.Test.YtdgihkmiolnglaaGreatDoorTxtTask
import Derived.Test.YtdgihkmiolnglaaGreatDoorRtImpl
import Derived.Test.YtdgihkmiolnglaaGreatDoorDmSpec
import Derived.Test.YtdgihkmiolnglaaGreatDoorPartMin
import Derived.Test.YtdgihkmiolnglaaGreatDoorDemSpec
import Derived.Test.YtdgihkmiolnglaaGreatDoorDrawSet
import Derived.Lib.Builder
import Derived.Deep.RegionWith
import Derived.BigQuiet
namespace Go.Proofs.YtdgihkmiolnglaaGreatDoor
open Go.RowKit Go.Deep

/-- What Report answers. -/
noncomputable def repL (ls : List (List UInt8)) : List (List UInt8) :=
  if badN ls < ls.length then [lineW ++ Lib.decDigits (badN ls + 1)] else if 5 < ls.length then [manyW]
  else four (utN (taskL ls)) (utD (taskL ls)) (fo (taskL ls)) (rtN (taskL ls) (dmB' (taskL ls))) (rtF (taskL ls) (dmB' (taskL ls))) (mcO (taskL ls))
theorem repL_bad {ls : List (List UInt8)} {i : Nat} (h : ∀ j (hj : j < ls.length), j < i → (prs (ls[j]'hj)).isNone = false) {hi : i < ls.length} (hb : prs (ls[i]'hi) = none) : repL ls = [lineW ++ Lib.decDigits (i + 1)] := by
  rw [repL, if_pos (by rw [bad_all h hb]; exact hi), bad_all h hb]
theorem repL_many {ls : List (List UInt8)} (h : ∀ j (hj : j < ls.length), (prs (ls[j]'hj)).isNone = false) (h5 : 5 < ls.length) : repL ls = [manyW] := by
  rw [repL, if_neg (by rw [bad_none h]; omega), if_pos h5]
theorem repL_four {ls : List (List UInt8)} {ts : List T3} (h : ∀ j (hj : j < ls.length), (prs (ls[j]'hj)).isNone = false) (h5 : ¬ 5 < ls.length) (ht : ts = taskL ls) : repL ls = four (utN ts) (utD ts) (fo ts) (rtN ts (dmB' ts)) (rtF ts (dmB' ts)) (mcO ts) := by
  rw [repL, if_neg (by rw [bad_none h]; omega), if_neg h5, ht]
theorem taskL_sv {ls : List (List UInt8)} (h5 : ¬ 5 < ls.length) : svB (taskL ls) = true := by
  have h1 := taskL_len_le ls
  refine sv_of (List.all_eq_true.2 fun t ht => ?_) (by omega)
  exact taskL_valid ls t ht
theorem rtF_small {ts : List T3} (h : svB ts = true) (os : List Int) (k : Nat) : rtF ts os k < 10000 := by
  unfold rtF rspO resp
  have hall : ts.all tv = true := by simp only [svB, Bool.and_eq_true] at h; exact h.1
  cases hr : lfp (rF ts (fun j => decide ((j : Int) ∈ os.take (rk os k))) (os.getD (rk os k) 0).toNat) (dln (tk ts (os.getD (rk os k) 0).toNat)) with
  | none => simp [optI]
  | some r =>
    have hb := (lfp_some hr).2.1
    have hd : dln (tk ts (os.getD (rk os k) 0).toNat) ≤ 12 := by
      unfold tk dln
      rw [List.getD_eq_getElem?_getD]
      cases hg : ts[(os.getD (rk os k) 0).toNat]? with
      | none => simp
      | some t =>
        have ht := List.all_eq_true.1 hall t (List.mem_of_getElem? hg)
        have := (tvB_iff t.1 t.2.1 t.2.2).1 ht
        simp only [Option.getD_some]
        omega
    simp only [optI]
    omega
theorem rtN_small {ts : List T3} (os : List Int) : rtN ts os ≤ ts.length := by unfold rtN; split <;> omega
theorem mcO_small (ts : List T3) : mcO ts ≤ 5 := by
  unfold mcO
  split
  · rename_i h; exact (mcN_part h).2.1
  · omega
theorem fo_bd {ts : List T3} (h : svB ts = true) : fo ts = -1 ∨ ∃ x : Nat, fo ts = x ∧ 1 ≤ x ∧ x ≤ 27720 := by
  have hall : ts.all tv = true := by simp only [svB, Bool.and_eq_true] at h; exact h.1
  rcases fo_cases h with ⟨e, _⟩ | ⟨x, e, h1, h2, _⟩
  · exact .inl e
  · exact .inr ⟨x, e, h1, Nat.le_trans h2 (hyp_bd ts hall).2⟩
theorem own_push {w' : World} {base : Nat} {v' : Value} {ts : List T3} {c d p : Int} (h : w'.ownsRow base 29 3 v' (ts.length + 1) (flat ts ++ [.int .i64 c, .int .i64 d, .int .i64 p])) : Own w' base v' (ts ++ [(c, d, p)]) := by
  unfold Own
  rw [List.length_append, flat_snoc]
  exact h
theorem Own.below' {w w' : World} {base : Nat} {v : Value} {ts : List T3} (h : Own w base v ts) (hb : Below w.heap.size w w') : Own w' base v ts :=
  World.ownsRow.kept h (gb_of_below hb none) (by cases e : v.ownBlock with
    | none => exact .inl rfl
    | some k => exact .inr (by simp))
theorem Own.lt' {w : World} {base : Nat} {v : Value} {ts : List T3} (h : Own w base v ts) : ∀ k, v.ownBlock = some k → base ≤ k ∧ k < w.heap.size := World.ownsRow.lt h
theorem own_emptyT (w : World) : Own (w.alloc (.cells #[] 29)) w.heap.size (.slice (some ⟨w.heap.size, 0, none⟩) 0 0) [] :=
  ⟨rfl, .inr ⟨w.heap.size, 0, #[], rfl, Nat.le_refl _, blk_alloc_new _ _, Nat.le_refl _, by simp [maxLen], rfl, rfl⟩⟩
theorem own_kept {w w' : World} {base n : Nat} {v : Value} {xs : List Value} (h : w.ownsRow base 9 1 v n xs) (hb : Below w.heap.size w w') : w'.ownsRow base 9 1 v n xs :=
  World.ownsRow.kept h (gb_of_below hb none) (by cases e : v.ownBlock with
    | none => exact .inl rfl
    | some k => exact .inr (by simp))
theorem cell_alloc_far {v : World} {b : Nat} (h : b < v.heap.size) (j : Nat) (o : Obj) : (v.alloc o).cell? ⟨b, j, none⟩ = v.cell? ⟨b, j, none⟩ := World.cell?_of_block (a := ⟨b, j, none⟩) (Lib.alloc_old v o b h)
theorem laid_one (w : World) (l : List UInt8) : OwnL (w.alloc (.cells #[.string (bs l)] 9)) w.heap.size (.slice (some ⟨w.heap.size, 0, none⟩) 1 1) [l] :=
  OwnL.laid w [l] (by simp [maxLen])

set_option maxRecDepth 100000 in
set_option maxHeartbeats 8000000 in
/-- spec.Report. -/
theorem specReport_any (a : Option Addr) (cap : Nat) (ls : List (List UInt8)) (w : World) (hr : RowL w a ls) (hn : ls.length ≤ 1048576) (hl : ∀ l ∈ ls, l.length ≤ 1048576) :
    Calls Tryz.prog 8 #[.slice a ls.length cap] w fun e w' => GotL w.heap.size (repL ls) e w' ∧ Below w.heap.size w w' := by
  obtain ⟨i0, hi, hz, hsz, hby⟩ := info_parts taskInfo
  have HI := Lib.hid (And.intro hi (And.intro hz (And.intro hsz hby)))
  obtain ⟨s0, hsi, hszr, hssz, hsby⟩ := info_parts strInfo
  have HS := Lib.hid (And.intro hsi (And.intro hszr (And.intro hssz hsby)))
  have HR := Lib.hid hr
  have HL := Lib.hid hl
  clear hi hz hsz hby hsi hszr hssz hsby hr hl
  go_enter Tryz.func8, Tryz.ntmps8
  go_wp2
  go_loopg [3, 4] ls.length (fun q vs vi wr => ∃ i : Nat, q + i = ls.length ∧ vi = .int .i64 (i : Int) ∧ Own wr w.heap.size vs (taskL (ls.take i)) ∧ (∀ j (hj : j < ls.length), j < i → (prs (ls[j]'hj)).isNone = false) ∧ Below w.heap.size w wr)
  case atStart => exact ⟨0, by simp, rfl, own_emptyT w, fun j _ hj => absurd hj (Nat.not_lt_zero _), below_box _ _⟩
  case round =>
    obtain ⟨i, hq, rfl, hO, hgood, B⟩ := hrel
    obtain ⟨sa, scap, rfl, hRow, hlc, hcm⟩ := hO.row
    have HQ := Lib.hid hq
    have HB := Lib.hid B
    have HO := Lib.hid hO
    have HG := Lib.hid hgood
    have hil : i ≤ ls.length := by omega
    obtain ⟨ts, hts⟩ : ∃ ts, ts = taskL (ls.take i) := ⟨_, rfl⟩
    have HTS := Lib.hid hts
    have htl : ts.length ≤ i := by rw [hts]; exact Nat.le_trans (taskL_len_le _) (by rw [List.length_take]; omega)
    rw [← hts] at HO ⊢
    have HRow := Lib.hid hRow
    rw [← hts] at HRow
    clear hq B hO hgood hts hRow hlc hcm
    by_cases hi : i < ls.length
    · have hi0 : (0 : Int) ≤ i := by omega
      have hi1 : (i : Int) < (ls.length : Nat) := by omega
      obtain ⟨b, off, rfl, hblt, k0⟩ := (HR.out.below HB.out) i hi
      obtain ⟨l, hlx⟩ : ∃ l, l = ln ls i := ⟨_, rfl⟩
      have hli : l = (ls[i]'hi) := by rw [hlx, ln_get hi]
      have hlm : l.length ≤ 1048576 := HL.out l (by rw [hli]; exact List.getElem_mem hi)
      rw [← hlx] at k0
      have HLI := Lib.hid hli
      clear hlx hli
      go_wp2_with fail
      refine (specParseTask_any l _ hlm).mono ?_
      rintro e w2 ⟨⟨c, d, p, ok, rfl, hP⟩, b2⟩
      have B2 := Lib.hid (HB.out.trans (b2.mono HB.out.size))
      have HO2 := Lib.hid (HO.out.below' b2)
      rcases hP.prs with ⟨rfl, hp⟩ | ⟨rfl, rfl, rfl, rfl, hp⟩
      · have HT := Lib.hid (show taskL (ls.take (i + 1)) = ts ++ [(c, d, p)] by rw [HTS.out]; exact taskL_take hi (by rw [← HLI.out]; exact hp))
        have HG2 := Lib.hid (show ∀ j (hj : j < ls.length), j < i + 1 → (prs (ls[j]'hj)).isNone = false from fun j hj hlt => by
          rcases Nat.lt_succ_iff_lt_or_eq.1 hlt with h | rfl
          · exact HG.out j hj h
          · rw [← HLI.out, hp]; rfl)
        have htl' : ts.length + 1 ≤ maxLen := by unfold maxLen; omega
        clear hP hp b2 k0
        have hnews : ∀ (j : Nat) (u : Value), [Value.int .i64 c, .int .i64 d, .int .i64 p][j]? = some u → ((w2.alloc (.cells #[.int .i64 c, .int .i64 d, .int .i64 p] 29)).alloc (.cells #[.int .i64 c, .int .i64 d, .int .i64 p] 29)).cell? ((⟨w2.heap.size + 1, 0, none⟩ : Addr).add j) = some u := by
          have h := news3 (w2.alloc (.cells #[.int .i64 c, .int .i64 d, .int .i64 p] 29)) c d p 29
          have e : (w2.alloc (.cells #[.int .i64 c, .int .i64 d, .int .i64 p] 29)).heap.size = w2.heap.size + 1 := by simp
          rw [e] at h
          exact h
        have hown2 := World.ownsRow.alloc (World.ownsRow.alloc HO2.out (.cells #[.int .i64 c, .int .i64 d, .int .i64 p] 29)) (.cells #[.int .i64 c, .int .i64 d, .int .i64 p] 29)
        have BX := (B2.out.alloc B2.out.size (.cells #[.int .i64 c, .int .i64 d, .int .i64 p] 29)).alloc (by simp; have := B2.out.size; omega) (.cells #[.int .i64 c, .int .i64 d, .int .i64 p] 29)
        have BXs := BX.size
        have HX := Lib.hid (And.intro hnews (And.intro hown2 (And.intro BX BXs)))
        clear hnews hown2 BX BXs
        go_wp2_with (at_builtin; refine wpList_append_own _ rfl (.tmp 32) (.tmp 34) 27 rfl w.heap.size 29 i0 _ 3 24 Tryz.underlying27 HI.out.1 HI.out.2.1 HI.out.2.2.1 HI.out.2.2.2 rfl (by decide) _ ts.length (flat ts) rfl HX.out.2.1 ⟨w2.heap.size + 1, 0, none⟩ 1 1 [.int .i64 c, .int .i64 d, .int .i64 p] rfl rfl HX.out.1 (one3 _ _ _) htl' (by omega) HX.out.2.2.2 ?_; intro v' w' hown' hgrow hnil)
        have B3 : Below w.heap.size w w' := HX.out.2.2.1.grown hgrow HX.out.2.2.2 (fun k hk => (HO2.out.lt' k hk).1)
        have HO3 := Lib.hid (own_push hown')
        clear hown' hgrow hnil
        go_roundg (gk - 1)
        case measure => have := HQ.out; omega
        case rel => exact ⟨i + 1, by have := HQ.out; omega, by go_num, by rw [HT.out]; exact HO3.out, HG2.out, B3⟩
      · have HN := Lib.hid (repL_bad (hi := hi) HG.out (by rw [← HLI.out]; exact hp))
        clear hP hp b2 k0
        have hadd : ∀ w : World, (Op.stringOp .add ⟨#[108, 105, 110, 101, 32]⟩ (bs (Lib.decDigits (i + 1)))).run Tryz.prog w = .ok (.string (bs (lineW ++ Lib.decDigits (i + 1)))) w := fun w => run_add_bs w lineW _ (by have := dec_len_big 11 (i + 1) (by omega); simp [lineW]; omega)
        go_wp2_with fail
        refine (l10Plain_any (i + 1) _ (by omega)).mono ?_
        rintro e w3 ⟨rfl, b3⟩
        have hs3 := b3.size
        simp only [World.size_alloc] at hs3
        have B3 : Below w.heap.size w w3 := B2.out.trans ((below_box w2 _).trans (b3.mono (by simp))|>.mono B2.out.size)
        have HB3 := Lib.hid B3
        clear b3 B3
        go_wp2
        go_ret
        exact ⟨⟨_, rfl, by rw [HN.out]; exact (laid_one w3 _).mono HB3.out.size⟩, HB3.out.alloc HB3.out.size _⟩
    · obtain rfl : i = ls.length := by omega
      have hts := HTS.out
      rw [List.take_length] at hts
      have hall : ∀ j (hj : j < ls.length), (prs (ls[j]'hj)).isNone = false := fun j hj => HG.out j hj hj
      have hlen : ts.length = ls.length := by rw [hts]; exact taskL_len hall
      by_cases h5 : 5 < ls.length
      · have h5' : (5 : Int) < (ts.length : Nat) := by omega
        have HN := Lib.hid (repL_many hall h5)
        clear h5 hall hts hlen hi
        go_wp2
        go_ret
        exact ⟨⟨_, rfl, by rw [HN.out]; exact (laid_one wr manyW).mono HB.out.size⟩, HB.out.alloc HB.out.size _⟩
      have h5' : ¬ (5 : Int) < (ts.length : Nat) := by omega
      have HN := Lib.hid (repL_four hall h5 hts)
      have hsv : svB ts = true := by rw [hts]; exact taskL_sv h5
      have htl5 : ts.length ≤ 5 := by omega
      have hub := ut_bd hsv
      have HSV := Lib.hid hsv
      clear h5 hall hts hlen hi hn htl hsv
      go_wp2_with fail
      refine (specUtilization_any sa scap ts _ HRow.out (by omega)).mono ?_
      rintro e w3 ⟨rfl, b3⟩
      obtain ⟨UN, hUN⟩ : ∃ N, N = utN ts := ⟨_, rfl⟩
      obtain ⟨UD, hUD⟩ : ∃ N, N = utD ts := ⟨_, rfl⟩
      rw [← hUN, ← hUD] at hub ⊢
      obtain ⟨FW, hFW⟩ : ∃ W, W = w3.alloc (.cells #[.int .i64 (UN : Int), .int .i64 (UD : Int)] 49) := ⟨_, rfl⟩
      obtain ⟨FB, hFB⟩ : ∃ b, b = w3.heap.size := ⟨_, rfl⟩
      have x0 : FW.cell? ⟨FB, 0, none⟩ = some (.int .i64 (UN : Int)) := by rw [hFW, hFB]; simp [go_sem]
      have x1 : FW.cell? ⟨FB, 1, none⟩ = some (.int .i64 (UD : Int)) := by rw [hFW, hFB]; simp [go_sem]
      have BF : Below wr.heap.size wr FW := by rw [hFW]; exact b3.alloc b3.size _
      have hwF : wr.heap.size ≤ FB := by rw [hFB]; exact b3.size
      have hFlt : FB < FW.heap.size := by rw [hFW, hFB]; simp
      have l1 := dec_len_big 11 UN (by omega)
      have l2 := dec_len_big 11 UD (by omega)
      obtain ⟨X, hX⟩ : ∃ X, X = Lib.decDigits UN := ⟨_, rfl⟩
      obtain ⟨Y, hY⟩ : ∃ X, X = Lib.decDigits UD := ⟨_, rfl⟩
      rw [← hX] at l1
      rw [← hY] at l2
      obtain ⟨A1, hA1⟩ : ∃ A, A = utilW ++ X := ⟨_, rfl⟩
      obtain ⟨A2, hA2⟩ : ∃ A, A = A1 ++ [47] := ⟨_, rfl⟩
      obtain ⟨A3, hA3⟩ : ∃ A, A = A2 ++ Y := ⟨_, rfl⟩
      have m1 : A1.length ≤ 24 := by rw [hA1, List.length_append]; have : utilW.length = 12 := rfl; omega
      have m2 : A2.length ≤ 25 := by rw [hA2, List.length_append, List.length_singleton]; omega
      have s1 : ∀ w : World, (Op.stringOp .add ⟨#[117, 116, 105, 108, 105, 122, 97, 116, 105, 111, 110, 32]⟩ (bs X)).run Tryz.prog w = .ok (.string (bs A1)) w := fun w => by rw [hA1]; exact run_add_bs w utilW _ (by have : utilW.length = 12 := rfl; omega)
      have s2 : ∀ w : World, (Op.stringOp .add (bs A1) ⟨#[47]⟩).run Tryz.prog w = .ok (.string (bs A2)) w := fun w => by rw [hA2]; exact run_add_bs w _ [47] (by simp; omega)
      have s3 : ∀ w : World, (Op.stringOp .add (bs A2) (bs Y)).run Tryz.prog w = .ok (.string (bs A3)) w := fun w => by rw [hA3]; exact run_add_bs w _ _ (by omega)
      have HA := Lib.hid (show A3 = utilW ++ Lib.decDigits (utN ts) ++ [47] ++ Lib.decDigits (utD ts) by rw [hA3, hA2, hA1, hX, hY, hUN, hUD])
      have HN1 := Lib.hid hX.symm
      have HN2 := Lib.hid hY.symm
      have hUNb : UN < 1000000000000 := by omega
      have hUDb : UD < 1000000000000 := by omega
      have HFW := Lib.hid (And.intro hFW hFB)
      clear hA1 hA2 hA3 m1 m2 hX hY l1 l2 hUN hUD hub b3 hFW hFB
      go_wp2_with fail
      rw [← HFW.out.1, ← HFW.out.2]
      refine wp_region_held_drew (S := fun v => v.cell? ⟨FB, 0, none⟩ = some (.int .i64 (UN : Int)) ∧ v.cell? ⟨FB, 1, none⟩ = some (.int .i64 (UD : Int)) ∧ Below wr.heap.size wr v ∧ FB < v.heap.size) (by kernel_rfl) ?_ (fun hHeld => ?_)
      · (try dsimp only)
        exact ⟨x0, x1, BF.drew, hFlt⟩
      refine wpAnyH_take (i := 0) (v := ?_) (toArr_get _ 0 _ rfl) (by kernel_rfl) (by kernel_rfl) (by kernel_rfl) (fun _ _ _ h => h) (Or.inl ⟨by rfl, ?_⟩) (by assumption) ?_
      rotate_left
      · (intro w hSw; (try dsimp only at hSw); go_simp; (try with_reducible rfl))
      (try simp only [Act.put, List.setIfInBounds_toArray, List.set_cons_zero, List.set_cons_succ])
      refine wpAnyH_take (i := 1) (v := ?_) (toArr_get _ 1 _ rfl) (by kernel_rfl) (by kernel_rfl) (by kernel_rfl) (fun _ _ _ h => h) (Or.inl ⟨by rfl, ?_⟩) (by assumption) ?_
      rotate_left
      · (intro w hSw; (try dsimp only at hSw); go_simp; (try with_reducible rfl))
      (try simp only [Act.put, List.setIfInBounds_toArray, List.set_cons_zero, List.set_cons_succ])
      refine wpAnyH_take (i := 5) (v := ?_) (toArr_get _ 5 _ rfl) (by kernel_rfl) (by kernel_rfl) (by kernel_rfl) (fun _ _ _ h => h) (Or.inl ⟨by rfl, ?_⟩) (by assumption) ?_
      rotate_left
      · (intro w hSw; (try dsimp only at hSw); go_simp; (try with_reducible rfl))
      (try simp only [Act.put, List.setIfInBounds_toArray, List.set_cons_zero, List.set_cons_succ])
      refine wpAnyH_take (i := 6) (v := ?_) (toArr_get _ 6 _ rfl) (by kernel_rfl) (by kernel_rfl) (by kernel_rfl) (fun _ _ _ h => h) (Or.inl ⟨by rfl, ?_⟩) (by assumption) ?_
      rotate_left
      · (intro w hSw; (try dsimp only at hSw); go_simp; (try with_reducible rfl))
      (try simp only [Act.put, List.setIfInBounds_toArray, List.set_cons_zero, List.set_cons_succ])
      refine wpAnyH_ready (rs := [2]) (by kernel_rfl) (by simp) ?_
      refine AllReadyH.cons (toArr_get _ 2 _ rfl) (fun K hK => ?_) ?_
      · go_simp
        refine (l10Plain_any UN _ (by omega)).mono ?_
        rintro e v2 ⟨rfl, b2⟩
        rw [HN1.out]
        go_wp2_with fail
        refine hK.out _ _ ?_ (fun hHeld2 => ?_)
        · (try dsimp only)
          obtain ⟨k0, k1, kb, kl⟩ := hHeld; exact ⟨(b2.cell (p := ⟨FB, 0, none⟩) kl).trans k0, (b2.cell (p := ⟨FB, 1, none⟩) kl).trans k1, kb.trans (b2.mono kb.size), Nat.lt_of_lt_of_le kl b2.size⟩
        clear hK K hHeld
        have hHeld := hHeld2
        clear hHeld2
        (try simp only [Act.put, List.setIfInBounds_toArray, List.set_cons_zero, List.set_cons_succ])
        refine wpAnyH_take (i := 3) (v := ?_) (toArr_get _ 3 _ rfl) (by kernel_rfl) (by kernel_rfl) (by kernel_rfl) (fun _ _ _ h => h) (Or.inl ⟨by rfl, ?_⟩) (by assumption) ?_
        rotate_left
        · (intro w hSw; (try dsimp only at hSw); go_simp; (try with_reducible rfl))
        (try simp only [Act.put, List.setIfInBounds_toArray, List.set_cons_zero, List.set_cons_succ])
        refine wpAnyH_take (i := 4) (v := ?_) (toArr_get _ 4 _ rfl) (by kernel_rfl) (by kernel_rfl) (by kernel_rfl) (fun _ _ _ h => h) (Or.inl ⟨by rfl, ?_⟩) (by assumption) ?_
        rotate_left
        · (intro w hSw; (try dsimp only at hSw); go_simp; (try with_reducible rfl))
        (try simp only [Act.put, List.setIfInBounds_toArray, List.set_cons_zero, List.set_cons_succ])
        refine wpAnyH_ready (rs := [7]) (by kernel_rfl) (by simp) ?_
        refine AllReadyH.cons (toArr_get _ 7 _ rfl) (fun K hK => ?_) ?_
        · go_simp
          refine (l10Plain_any UD _ (by omega)).mono ?_
          rintro e v2 ⟨rfl, b2⟩
          rw [HN2.out]
          go_wp2_with fail
          refine hK.out _ _ ?_ (fun hHeld2 => ?_)
          · (try dsimp only)
            obtain ⟨k0, k1, kb, kl⟩ := hHeld; exact ⟨(b2.cell (p := ⟨FB, 0, none⟩) kl).trans k0, (b2.cell (p := ⟨FB, 1, none⟩) kl).trans k1, kb.trans (b2.mono kb.size), Nat.lt_of_lt_of_le kl b2.size⟩
          clear hK K hHeld
          have hHeld := hHeld2
          clear hHeld2
          (try simp only [Act.put, List.setIfInBounds_toArray, List.set_cons_zero, List.set_cons_succ])
          refine wpAnyH_take (i := 8) (v := ?_) (toArr_get _ 8 _ rfl) (by kernel_rfl) (by kernel_rfl) (by kernel_rfl) (fun _ _ _ h => h) (Or.inl ⟨by rfl, ?_⟩) (by assumption) ?_
          rotate_left
          · (intro w hSw; (try dsimp only at hSw); go_simp; (try with_reducible rfl))
          (try simp only [Act.put, List.setIfInBounds_toArray, List.set_cons_zero, List.set_cons_succ])
          refine wpAnyH_ready (rs := [9]) (by kernel_rfl) (by simp) ?_
          refine AllReadyH.cons (toArr_get _ 9 _ rfl) (fun K hK => ?_) ?_
          · go_simp
            refine hK.out _ _ ?_ (fun hHeld2 => ?_)
            · (try dsimp only)
              obtain ⟨k0, k1, kb, kl⟩ := hHeld; exact ⟨(cell_alloc_far kl _ _).trans k0, (cell_alloc_far kl _ _).trans k1, kb.alloc kb.size _, by simp; omega⟩
            clear hK K hHeld
            have hHeld := hHeld2
            clear hHeld2
            (try simp only [Act.put, List.setIfInBounds_toArray, List.set_cons_zero, List.set_cons_succ])
            refine wpAnyH_take (i := 10) (v := ?_) (toArr_get _ 10 _ rfl) (by kernel_rfl) (by kernel_rfl) (by kernel_rfl) (fun _ _ _ h => h) (Or.inl ⟨by rfl, ?_⟩) (by assumption) ?_
            rotate_left
            · (intro w hSw; (try dsimp only at hSw); go_simp; (try with_reducible rfl))
            (try simp only [Act.put, List.setIfInBounds_toArray, List.set_cons_zero, List.set_cons_succ])
            refine wpAnyH_done (by kernel_rfl) ?_ _
            have hvs : wr.heap.size ≤ v2.heap.size := by have h := hHeld.2.2.2; simp only [World.size_alloc] at h; omega
            have BL := hHeld.2.2.1
            have hO := (laid_one v2 A3).mono hvs
            obtain ⟨o1, ho1⟩ : ∃ o : Addr, o = ⟨v2.heap.size, 0, none⟩ := ⟨_, rfl⟩
            obtain ⟨WL, hWL⟩ : ∃ W, W = v2.alloc (.cells #[.string (bs A3)] 9) := ⟨_, rfl⟩
            have own1 : WL.ownsRow wr.heap.size 9 1 (.slice (some o1) 1 1) 1 (svals [A3]) := by rw [hWL, ho1]; exact hO
            rw [← hWL] at BL hHeld
            refine Eq.mp (congrArg (fun X => Exit.then _ _ Exit.normal _ X) hWL) ?_
            rw [← ho1]
            clear hWL hvs hO ho1 hHeld b2 x0 x1 BF hFlt hwF s1 s2 s3
            have R4 := Lib.hid (HRow.out.below BL)
            go_wp2_with fail
            refine (specFirstOverload_any sa scap ts _ R4.out (by omega)).mono ?_
            rintro e w5 ⟨rfl, b5⟩
            have D5 := BL.trans (b5.mono BL.size)
            have own5 := own_kept own1 b5
            have hfo := fo_bd HSV.out
            obtain ⟨FO, hFO⟩ : ∃ z, z = fo ts := ⟨_, rfl⟩
            rw [← hFO] at hfo ⊢
            have HFO := Lib.hid hFO
            clear b5 own1 BL R4 hFO
            rcases hfo with rfl | ⟨x, rfl, hx1, hx2⟩
            · have HED := Lib.hid (show edfL (fo ts) = feasW by rw [← HFO.out]; rfl)
              have hsz := D5.size
              go_wp2_with (at_builtin; refine wpList_append_own _ rfl (.tmp 56) (.tmp 57) 23 rfl wr.heap.size 9 s0 _ 1 16 Tryz.underlying23 HS.out.1 HS.out.2.1 HS.out.2.2.1 HS.out.2.2.2 rfl (by decide) _ 1 _ rfl (World.ownsRow.alloc own5 _) ⟨w5.heap.size, 0, none⟩ 1 1 [.string (bs feasW)] rfl rfl (newsS _ _ _) (oneS _) (by unfold maxLen; omega) (by omega) (Nat.le_trans hsz (below_box _ _).size) ?_; intro v' w' hown' hgrow hnil)
              have C' : Below wr.heap.size wr w' := (D5.alloc hsz _).grown hgrow (Nat.le_trans hsz (below_box _ _).size) (fun g hg => (World.ownsRow.lt own5 g hg).1)
              clear hgrow hnil hsz
              clear own5 D5
              obtain ⟨ga, gc, rfl⟩ := own_shape hown'
              have R6 := Lib.hid (HRow.out.below C')
              go_wp2_with fail
              refine (specDeadlineMonotonic_any sa scap ts _ R6.out (by omega)).mono ?_
              rintro e w6 ⟨⟨v6, rfl, ho6⟩, b6⟩
              obtain ⟨oa, oc, rfl⟩ := own_shape ho6
              have I6 := Lib.hid ho6.intF'
              have hoc : (dmB' ts).length ≤ oc := by
                obtain ⟨a', cap', e', -, hlc, -⟩ := ho6.intF
                simp only [Value.slice.injEq] at e'
                omega
              have D6 := C'.trans (b6.mono C'.size)
              have own6 := own_kept hown' b6
              have R7 := Lib.hid (HRow.out.below D6)
              clear ho6 b6 hown' C' R6
              go_wp2_with fail
              refine (specResponseTimes_any sa oa scap oc ts (dmB' ts) _ R7.out I6.out (by omega) hoc).mono ?_
              rintro e w7 ⟨⟨v7, rfl, ho7⟩, b7⟩
              obtain ⟨ua, uc, rfl⟩ := own_shape ho7
              have U7 := Lib.hid ho7.intF'
              have D7 := D6.trans (b7.mono D6.size)
              have own7 := own_kept own6 b7
              have hrn : rtN ts (dmB' ts) ≤ 5 := Nat.le_trans (rtN_small _) htl5
              have HRF := Lib.hid (fun k (_ : k < rtN ts (dmB' ts)) => rtF_small HSV.out (dmB' ts) k)
              have HTL := tmsL_len (rtF ts (dmB' ts)) _ HRF.out
              obtain ⟨RN, hRN⟩ : ∃ n, n = rtN ts (dmB' ts) := ⟨_, rfl⟩
              obtain ⟨RF, hRF⟩ : ∃ f, f = rtF ts (dmB' ts) := ⟨_, rfl⟩
              have HRR := Lib.hid (And.intro hRN hRF)
              rw [← hRN, ← hRF] at HTL U7 HRF
              rw [← hRN] at hrn ⊢
              clear ho7 b7 own6 D6 R7 I6 hoc hRN hRF
              go_wp2_with fail
              refine (l10Times_any ua RN uc RF _ U7.out (by omega) HRF.out).mono ?_
              rintro e w8 ⟨rfl, b8⟩
              have D8 := D7.trans (b8.mono D7.size)
              have own8 := own_kept own7 b8
              obtain ⟨TM, hTM⟩ : ∃ t, t = tmsL RF RN := ⟨_, rfl⟩
              rw [← hTM] at HTL ⊢
              have HTM := Lib.hid hTM
              have hwR : respW.length = 8 := rfl
              have sR : ∀ w : World, (Op.stringOp .add ⟨#[114, 101, 115, 112, 111, 110, 115, 101]⟩ (bs TM)).run Tryz.prog w = .ok (.string (bs (respW ++ TM))) w := fun w => run_add_bs w respW _ (by omega)
              obtain ⟨S3, hS3⟩ : ∃ t, t = respW ++ TM := ⟨_, rfl⟩
              rw [← hS3] at sR
              have HS3 := Lib.hid hS3
              clear b8 own7 D7 U7 HRF hTM hS3 HTL hwR
              have hsz := D8.size
              go_wp2_with (at_builtin; refine wpList_append_own _ rfl (.tmp 65) (.tmp 72) 23 rfl wr.heap.size 9 s0 _ 1 16 Tryz.underlying23 HS.out.1 HS.out.2.1 HS.out.2.2.1 HS.out.2.2.2 rfl (by decide) _ 2 _ rfl (World.ownsRow.alloc own8 _) ⟨w8.heap.size, 0, none⟩ 1 1 [.string (bs S3)] rfl rfl (newsS _ _ _) (oneS _) (by unfold maxLen; omega) (by omega) (Nat.le_trans hsz (below_box _ _).size) ?_; intro v' w' hown' hgrow hnil)
              have C' : Below wr.heap.size wr w' := (D8.alloc hsz _).grown hgrow (Nat.le_trans hsz (below_box _ _).size) (fun g hg => (World.ownsRow.lt own8 g hg).1)
              clear hgrow hnil hsz
              obtain ⟨ha, hc, rfl⟩ := own_shape hown'
              clear own8 D8 sR
              have R9 := Lib.hid (HRow.out.below C')
              go_wp2_with fail
              refine (specMinCores_any sa scap ts _ R9.out (by omega)).mono ?_
              rintro e w9 ⟨rfl, b9⟩
              have D9 := C'.trans (b9.mono C'.size)
              have own9 := own_kept hown' b9
              have hmc := mcO_small ts
              obtain ⟨MC, hMC⟩ : ∃ n, n = mcO ts := ⟨_, rfl⟩
              rw [← hMC] at hmc ⊢
              have HMC := Lib.hid hMC
              clear b9 hown' C' R9 hMC
              go_wp2_with fail
              refine (l10Plain_any MC _ (by omega)).mono ?_
              rintro e wa ⟨rfl, ba⟩
              have DA := D9.trans (ba.mono D9.size)
              have ownA := own_kept own9 ba
              have hdm := dec_len_big 11 MC (by omega)
              obtain ⟨DM, hDM⟩ : ∃ d, d = Lib.decDigits MC := ⟨_, rfl⟩
              rw [← hDM] at hdm ⊢
              have HDM := Lib.hid hDM
              have hwC : coreW.length = 6 := rfl
              have sC : ∀ w : World, (Op.stringOp .add ⟨#[99, 111, 114, 101, 115, 32]⟩ (bs DM)).run Tryz.prog w = .ok (.string (bs (coreW ++ DM))) w := fun w => run_add_bs w coreW _ (by omega)
              obtain ⟨S4, hS4⟩ : ∃ t, t = coreW ++ DM := ⟨_, rfl⟩
              rw [← hS4] at sC
              have HS4 := Lib.hid hS4
              clear ba own9 D9 hDM hS4 hdm hwC
              have hsz := DA.size
              go_wp2_with (at_builtin; refine wpList_append_own _ rfl (.tmp 74) (.tmp 79) 23 rfl wr.heap.size 9 s0 _ 1 16 Tryz.underlying23 HS.out.1 HS.out.2.1 HS.out.2.2.1 HS.out.2.2.2 rfl (by decide) _ 3 _ rfl (World.ownsRow.alloc ownA _) ⟨wa.heap.size, 0, none⟩ 1 1 [.string (bs S4)] rfl rfl (newsS _ _ _) (oneS _) (by unfold maxLen; omega) (by omega) (Nat.le_trans hsz (below_box _ _).size) ?_; intro v' w' hown' hgrow hnil)
              have C' : Below wr.heap.size wr w' := (DA.alloc hsz _).grown hgrow (Nat.le_trans hsz (below_box _ _).size) (fun g hg => (World.ownsRow.lt ownA g hg).1)
              clear hgrow hnil hsz
              have hfin : repL ls = [A3, feasW, S3, S4] := by
                rw [HN.out, four, HA.out, HS3.out, HTM.out, HS4.out, HDM.out, HMC.out, HRR.out.1, HRR.out.2, HED.out]
              have HFIN := Lib.hid hfin
              have HGOT := Lib.hid (show OwnL w' w.heap.size v' [A3, feasW, S3, S4] from OwnL.mono (base := wr.heap.size) hown' HB.out.size)
              have HBEL := Lib.hid (HB.out.trans (C'.mono HB.out.size))
              clear ownA DA sC hown' C' hfin
              go_ret
              exact ⟨⟨_, rfl, by rw [HFIN.out]; exact HGOT.out⟩, HBEL.out⟩
            · have hx0 : ¬ (x : Int) < 0 := by omega
              have hED : edfL (fo ts) = overW ++ Lib.decDigits x := by rw [← HFO.out, edfL, if_neg hx0, Int.toNat_natCast]
              go_wp2_with fail
              refine (l10Plain_any x _ (by omega)).mono ?_
              rintro e wb ⟨rfl, bb⟩
              have DB := D5.trans (bb.mono D5.size)
              have ownB := own_kept own5 bb
              have hdx := dec_len_big 11 x (by omega)
              obtain ⟨DX, hDX⟩ : ∃ d, d = Lib.decDigits x := ⟨_, rfl⟩
              rw [← hDX] at hdx hED ⊢
              have hwO : overW.length = 16 := rfl
              have sO : ∀ w : World, (Op.stringOp .add ⟨#[101, 100, 102, 32, 111, 118, 101, 114, 108, 111, 97, 100, 32, 97, 116, 32]⟩ (bs DX)).run Tryz.prog w = .ok (.string (bs (overW ++ DX))) w := fun w => run_add_bs w overW _ (by omega)
              obtain ⟨S2, hS2⟩ : ∃ t, t = overW ++ DX := ⟨_, rfl⟩
              rw [← hS2] at sO hED
              have HED := Lib.hid hED
              clear bb own5 D5 hDX hS2 hdx hwO hED
              have hsz := DB.size
              go_wp2_with (at_builtin; refine wpList_append_own _ rfl (.tmp 59) (.tmp 63) 23 rfl wr.heap.size 9 s0 _ 1 16 Tryz.underlying23 HS.out.1 HS.out.2.1 HS.out.2.2.1 HS.out.2.2.2 rfl (by decide) _ 1 _ rfl (World.ownsRow.alloc ownB _) ⟨wb.heap.size, 0, none⟩ 1 1 [.string (bs S2)] rfl rfl (newsS _ _ _) (oneS _) (by unfold maxLen; omega) (by omega) (Nat.le_trans hsz (below_box _ _).size) ?_; intro v' w' hown' hgrow hnil)
              have C' : Below wr.heap.size wr w' := (DB.alloc hsz _).grown hgrow (Nat.le_trans hsz (below_box _ _).size) (fun g hg => (World.ownsRow.lt ownB g hg).1)
              clear hgrow hnil hsz
              clear ownB DB sO
              obtain ⟨ga, gc, rfl⟩ := own_shape hown'
              have R6 := Lib.hid (HRow.out.below C')
              go_wp2_with fail
              refine (specDeadlineMonotonic_any sa scap ts _ R6.out (by omega)).mono ?_
              rintro e w6 ⟨⟨v6, rfl, ho6⟩, b6⟩
              obtain ⟨oa, oc, rfl⟩ := own_shape ho6
              have I6 := Lib.hid ho6.intF'
              have hoc : (dmB' ts).length ≤ oc := by
                obtain ⟨a', cap', e', -, hlc, -⟩ := ho6.intF
                simp only [Value.slice.injEq] at e'
                omega
              have D6 := C'.trans (b6.mono C'.size)
              have own6 := own_kept hown' b6
              have R7 := Lib.hid (HRow.out.below D6)
              clear ho6 b6 hown' C' R6
              go_wp2_with fail
              refine (specResponseTimes_any sa oa scap oc ts (dmB' ts) _ R7.out I6.out (by omega) hoc).mono ?_
              rintro e w7 ⟨⟨v7, rfl, ho7⟩, b7⟩
              obtain ⟨ua, uc, rfl⟩ := own_shape ho7
              have U7 := Lib.hid ho7.intF'
              have D7 := D6.trans (b7.mono D6.size)
              have own7 := own_kept own6 b7
              have hrn : rtN ts (dmB' ts) ≤ 5 := Nat.le_trans (rtN_small _) htl5
              have HRF := Lib.hid (fun k (_ : k < rtN ts (dmB' ts)) => rtF_small HSV.out (dmB' ts) k)
              have HTL := tmsL_len (rtF ts (dmB' ts)) _ HRF.out
              obtain ⟨RN, hRN⟩ : ∃ n, n = rtN ts (dmB' ts) := ⟨_, rfl⟩
              obtain ⟨RF, hRF⟩ : ∃ f, f = rtF ts (dmB' ts) := ⟨_, rfl⟩
              have HRR := Lib.hid (And.intro hRN hRF)
              rw [← hRN, ← hRF] at HTL U7 HRF
              rw [← hRN] at hrn ⊢
              clear ho7 b7 own6 D6 R7 I6 hoc hRN hRF
              go_wp2_with fail
              refine (l10Times_any ua RN uc RF _ U7.out (by omega) HRF.out).mono ?_
              rintro e w8 ⟨rfl, b8⟩
              have D8 := D7.trans (b8.mono D7.size)
              have own8 := own_kept own7 b8
              obtain ⟨TM, hTM⟩ : ∃ t, t = tmsL RF RN := ⟨_, rfl⟩
              rw [← hTM] at HTL ⊢
              have HTM := Lib.hid hTM
              have hwR : respW.length = 8 := rfl
              have sR : ∀ w : World, (Op.stringOp .add ⟨#[114, 101, 115, 112, 111, 110, 115, 101]⟩ (bs TM)).run Tryz.prog w = .ok (.string (bs (respW ++ TM))) w := fun w => run_add_bs w respW _ (by omega)
              obtain ⟨S3, hS3⟩ : ∃ t, t = respW ++ TM := ⟨_, rfl⟩
              rw [← hS3] at sR
              have HS3 := Lib.hid hS3
              clear b8 own7 D7 U7 HRF hTM hS3 HTL hwR
              have hsz := D8.size
              go_wp2_with (at_builtin; refine wpList_append_own _ rfl (.tmp 65) (.tmp 72) 23 rfl wr.heap.size 9 s0 _ 1 16 Tryz.underlying23 HS.out.1 HS.out.2.1 HS.out.2.2.1 HS.out.2.2.2 rfl (by decide) _ 2 _ rfl (World.ownsRow.alloc own8 _) ⟨w8.heap.size, 0, none⟩ 1 1 [.string (bs S3)] rfl rfl (newsS _ _ _) (oneS _) (by unfold maxLen; omega) (by omega) (Nat.le_trans hsz (below_box _ _).size) ?_; intro v' w' hown' hgrow hnil)
              have C' : Below wr.heap.size wr w' := (D8.alloc hsz _).grown hgrow (Nat.le_trans hsz (below_box _ _).size) (fun g hg => (World.ownsRow.lt own8 g hg).1)
              clear hgrow hnil hsz
              obtain ⟨ha, hc, rfl⟩ := own_shape hown'
              clear own8 D8 sR
              have R9 := Lib.hid (HRow.out.below C')
              go_wp2_with fail
              refine (specMinCores_any sa scap ts _ R9.out (by omega)).mono ?_
              rintro e w9 ⟨rfl, b9⟩
              have D9 := C'.trans (b9.mono C'.size)
              have own9 := own_kept hown' b9
              have hmc := mcO_small ts
              obtain ⟨MC, hMC⟩ : ∃ n, n = mcO ts := ⟨_, rfl⟩
              rw [← hMC] at hmc ⊢
              have HMC := Lib.hid hMC
              clear b9 hown' C' R9 hMC
              go_wp2_with fail
              refine (l10Plain_any MC _ (by omega)).mono ?_
              rintro e wa ⟨rfl, ba⟩
              have DA := D9.trans (ba.mono D9.size)
              have ownA := own_kept own9 ba
              have hdm := dec_len_big 11 MC (by omega)
              obtain ⟨DM, hDM⟩ : ∃ d, d = Lib.decDigits MC := ⟨_, rfl⟩
              rw [← hDM] at hdm ⊢
              have HDM := Lib.hid hDM
              have hwC : coreW.length = 6 := rfl
              have sC : ∀ w : World, (Op.stringOp .add ⟨#[99, 111, 114, 101, 115, 32]⟩ (bs DM)).run Tryz.prog w = .ok (.string (bs (coreW ++ DM))) w := fun w => run_add_bs w coreW _ (by omega)
              obtain ⟨S4, hS4⟩ : ∃ t, t = coreW ++ DM := ⟨_, rfl⟩
              rw [← hS4] at sC
              have HS4 := Lib.hid hS4
              clear ba own9 D9 hDM hS4 hdm hwC
              have hsz := DA.size
              go_wp2_with (at_builtin; refine wpList_append_own _ rfl (.tmp 74) (.tmp 79) 23 rfl wr.heap.size 9 s0 _ 1 16 Tryz.underlying23 HS.out.1 HS.out.2.1 HS.out.2.2.1 HS.out.2.2.2 rfl (by decide) _ 3 _ rfl (World.ownsRow.alloc ownA _) ⟨wa.heap.size, 0, none⟩ 1 1 [.string (bs S4)] rfl rfl (newsS _ _ _) (oneS _) (by unfold maxLen; omega) (by omega) (Nat.le_trans hsz (below_box _ _).size) ?_; intro v' w' hown' hgrow hnil)
              have C' : Below wr.heap.size wr w' := (DA.alloc hsz _).grown hgrow (Nat.le_trans hsz (below_box _ _).size) (fun g hg => (World.ownsRow.lt ownA g hg).1)
              clear hgrow hnil hsz
              have hfin : repL ls = [A3, S2, S3, S4] := by
                rw [HN.out, four, HA.out, HS3.out, HTM.out, HS4.out, HDM.out, HMC.out, HRR.out.1, HRR.out.2, HED.out]
              have HFIN := Lib.hid hfin
              have HGOT := Lib.hid (show OwnL w' w.heap.size v' [A3, S2, S3, S4] from OwnL.mono (base := wr.heap.size) hown' HB.out.size)
              have HBEL := Lib.hid (HB.out.trans (C'.mono HB.out.size))
              clear ownA DA sC hown' C' hfin
              go_ret
              exact ⟨⟨_, rfl, by rw [HFIN.out]; exact HGOT.out⟩, HBEL.out⟩
          exact AllReadyH.nil
        exact AllReadyH.nil
      exact AllReadyH.nil

end Go.Proofs.YtdgihkmiolnglaaGreatDoor
