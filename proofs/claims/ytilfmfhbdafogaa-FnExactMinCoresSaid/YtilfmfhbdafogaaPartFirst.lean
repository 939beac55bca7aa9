/- Contracts of spec.l7First and spec.FirstFit. Conditions: the slices hold what is said; what each theorem names. -/
import Derived.Test.YtilfmfhbdafogaaPartSpec
namespace Go.Proofs.Ytilfmfhbdafogaa
open Go.RowKit Go.Deep

set_option maxRecDepth 100000 in
set_option maxHeartbeats 4000000 in
/-- spec.l7First. -/
theorem l7First_any (a oa : Option Addr) (cap ocap : Nat) (ts : List T3) (n i : Nat) (f : Nat → Int) (w : World) (hr : Row w a ts) (ho : IntF w oa i f) (hv : svB ts = true) (hi : i < ts.length) (hn : n ≤ 5) :
    Calls Try.prog 40 #[.slice a ts.length cap, .int .i64 (n : Int), .slice oa i ocap, .int .i64 (i : Int)] w fun e w' => e = .returned (.int .i64 (optI (low (fit ts f i) n))) ∧ Below w.heap.size w w' := by
  obtain ⟨i0, hi0, hz, hsz, hby⟩ := info_parts taskInfo
  have HI := Lib.hid (And.intro hi0 (And.intro hz (And.intro hsz hby)))
  have HR := Lib.hid hr
  have HO := Lib.hid ho
  have HV := Lib.hid hv
  have hl5 : ts.length ≤ 5 := (sv_all hv).2
  clear hr ho hi0 hz hsz hby hv
  go_enter Try.func40, Try.ntmps40
  go_wp2
  go_loopg [9] n (fun q z wr => ∃ c : Nat, q + c = n ∧ z = .int .i64 c ∧ (∀ d, d < c → fit ts f i d = false) ∧ Below w.heap.size w wr)
  case atStart => exact ⟨0, by omega, rfl, fun d hd => absurd hd (Nat.not_lt_zero _), Below.refl _ _⟩
  case round =>
    obtain ⟨c, hq, rfl, hall, B⟩ := hrel
    have HQ := Lib.hid hq
    have HA := Lib.hid hall
    have HBW := Lib.hid B
    have hcn : c ≤ n := by omega
    clear hq hall
    by_cases hlt : c < n
    · have hc1 : (c : Int) < n := by omega
      have hc0 : (0 : Int) ≤ c := by omega
      have HRW := Lib.hid (HR.out.below B)
      have HOW := Lib.hid (HO.out.below B)
      obtain ⟨bt, ot, rfl, hbt, e0, e1, e2⟩ := HRW.out.at hi
      have HSV := Lib.hid (fit_sv HV.out (f := f) (c := (c : Int)) hi)
      have HFT := Lib.hid (show fit ts f i c = edf (onN ts f (c : Int) i ++ [tk ts i]) from rfl)
      have HLE := Lib.hid (onN_len ts f (c : Int) i)
      obtain ⟨⟨C, D, Q⟩, ht⟩ : ∃ t, t = tk ts i := ⟨_, rfl⟩
      rw [← ht] at e0 e1 e2 HSV HFT
      simp only at e0 e1 e2
      have HE := Lib.hid (And.intro e0 (And.intro e1 e2))
      have HBT := Lib.hid hbt
      have HBS := Lib.hid (Nat.le_refl wr.heap.size)
      have hi0 : (0 : Int) ≤ i := by omega
      have hi1 : (i : Int) < ts.length := by omega
      clear B ht
      go_wp2
      refine wp_region_held_drew (S := fun w' => w'.cell? ⟨bt, ot + i * 3, none⟩ = some (.int .i64 C) ∧ w'.cell? ⟨bt, ot + i * 3 + 1, none⟩ = some (.int .i64 D) ∧ w'.cell? ⟨bt, ot + i * 3 + 2, none⟩ = some (.int .i64 Q)) (by kernel_rfl) ?_ (fun hHeld => ?_)
      · (try dsimp only)
        exact KPt HE.out HBT.out ((Below.refl _ _).drew.mono HBS.out)
      refine wpAnyH_take (i := 0) (v := ?_) (toArr_get _ 0 _ rfl) (by kernel_rfl) (by kernel_rfl) (by kernel_rfl) (fun _ _ _ h => h) (Or.inl ⟨by rfl, ?_⟩) (by assumption) ?_
      rotate_left
      · (intro w hSw; (try dsimp only at hSw); go_simp; (try with_reducible rfl))
      (try simp only [Act.put, List.setIfInBounds_toArray, List.set_cons_zero, List.set_cons_succ])
      refine wpAnyH_take (i := 1) (v := ?_) (toArr_get _ 1 _ rfl) (by kernel_rfl) (by kernel_rfl) (by kernel_rfl) (fun _ _ _ h => h) (Or.inl ⟨by rfl, ?_⟩) (by assumption) ?_
      rotate_left
      · (intro w hSw; (try dsimp only at hSw); go_simp; (try with_reducible rfl))
      (try simp only [Act.put, List.setIfInBounds_toArray, List.set_cons_zero, List.set_cons_succ])
      refine wpAnyH_take (i := 2) (v := ?_) (toArr_get _ 2 _ rfl) (by kernel_rfl) (by kernel_rfl) (by kernel_rfl) (fun _ _ _ h => h) (Or.inl ⟨by rfl, ?_⟩) (by assumption) ?_
      rotate_left
      · (intro w hSw; (try dsimp only at hSw); go_simp; (try with_reducible rfl))
      (try simp only [Act.put, List.setIfInBounds_toArray, List.set_cons_zero, List.set_cons_succ])
      refine wpAnyH_take (i := 4) (v := ?_) (toArr_get _ 4 _ rfl) (by kernel_rfl) (by kernel_rfl) (by kernel_rfl) (fun _ _ _ h => h) (Or.inl ⟨by rfl, ?_⟩) (by assumption) ?_
      rotate_left
      · (intro w hSw; (try dsimp only at hSw); go_simp; (try with_reducible rfl))
      (try simp only [Act.put, List.setIfInBounds_toArray, List.set_cons_zero, List.set_cons_succ])
      refine wpAnyH_take (i := 5) (v := ?_) (toArr_get _ 5 _ rfl) (by kernel_rfl) (by kernel_rfl) (by kernel_rfl) (fun _ _ _ h => h) (Or.inl ⟨by rfl, ?_⟩) (by assumption) ?_
      rotate_left
      · (intro w hSw; (try dsimp only at hSw); go_simp; (try with_reducible rfl))
      (try simp only [Act.put, List.setIfInBounds_toArray, List.set_cons_zero, List.set_cons_succ])
      refine wpAnyH_take (i := 6) (v := ?_) (toArr_get _ 6 _ rfl) (by kernel_rfl) (by kernel_rfl) (by kernel_rfl) (fun _ _ _ h => h) (Or.inl ⟨by rfl, ?_⟩) (by assumption) ?_
      rotate_left
      · (intro w hSw; (try dsimp only at hSw); go_simp; (try with_reducible rfl))
      (try simp only [Act.put, List.setIfInBounds_toArray, List.set_cons_zero, List.set_cons_succ])
      refine wpAnyH_take (i := 7) (v := ?_) (toArr_get _ 7 _ rfl) (by kernel_rfl) (by kernel_rfl) (by kernel_rfl) (fun _ _ _ h => h) (Or.inl ⟨by rfl, ?_⟩) (by assumption) ?_
      rotate_left
      · (intro w hSw; (try dsimp only at hSw); go_simp; (try with_reducible rfl))
      (try simp only [Act.put, List.setIfInBounds_toArray, List.set_cons_zero, List.set_cons_succ])
      refine wpAnyH_ready (rs := [3, 8]) (by kernel_rfl) (by simp) ?_
      refine AllReadyH.cons (toArr_get _ 3 _ rfl) (fun K hK => ?_) ?_
      · go_simp
        refine (l7On_any _ _ _ _ i ts f (c : Int) _ (HRW.out.below (Below.refl _ _).drew) (HOW.out.below (Below.refl _ _).drew) (by omega) (by omega)).mono ?_
        rintro e w3 ⟨v3, rfl, ho3, b3⟩
        have HB3 := Lib.hid (show Below wr.heap.size wr w3 from (Below.refl _ _).drew.trans b3)
        have HO3 := Lib.hid (show Own w3 wr.heap.size v3 (onN ts f (c : Int) i) from ho3)
        clear ho3 b3
        go_wp2_with fail
        refine hK.out _ _ ?_ (fun hHeld2 => ?_)
        · (try dsimp only)
          exact KPt HE.out HBT.out HB3.out
        clear hK K hHeld
        have hHeld := hHeld2
        clear hHeld2
        (try simp only [Act.put, List.setIfInBounds_toArray, List.set_cons_zero, List.set_cons_succ])
        refine wpAnyH_ready (rs := [8]) (by kernel_rfl) (by simp) ?_
        refine AllReadyH.cons (toArr_get _ 8 _ rfl) (fun K hK => ?_) ?_
        · go_simp
          refine hK.out _ _ ?_ (fun hHeld2 => ?_)
          · (try dsimp only)
            (first | exact KPt HE.out HBT.out (HB3.out.alloc (by have := HB3.out.size; have := HBS.out; omega) _) | exact KPt HE.out HBT.out (((Below.refl _ _).drew.mono HBS.out).alloc (by simp) _))
          clear hK K hHeld
          have hHeld := hHeld2
          clear hHeld2
          (try simp only [Act.put, List.setIfInBounds_toArray, List.set_cons_zero, List.set_cons_succ])
          refine wpAnyH_ready (rs := [9]) (by kernel_rfl) (by simp) ?_
          refine AllReadyH.cons (toArr_get _ 9 _ rfl) (fun K hK => ?_) ?_
          · (try rw [if_pos (by rfl)])
            refine wp_append_own _ (.tmp 18) (.tmp 23) 26 rfl wr.heap.size 44 i0 _ 3 24 Try.underlying26 HI.out.1 HI.out.2.1 HI.out.2.2.1 HI.out.2.2.2 rfl (by decide) v3 (onN ts f (c : Int) i).length (flat (onN ts f (c : Int) i)) rfl (World.ownsRow.alloc HO3.out _) ⟨w3.heap.size, 0, none⟩ 1 1 [.int .i64 C, .int .i64 D, .int .i64 Q] rfl rfl (news3 _ _ _ _ _) (one3 _ _ _) (by have := HLE.out; unfold maxLen; omega) (by have := HLE.out; omega) (by have := HB3.out.size; simp; omega) ?_
            intro v9 w9 hown hgrow hnil
            have HB9 := Lib.hid (show Below wr.heap.size wr w9 from (HB3.out.alloc HB3.out.size _).grown hgrow (by have := HB3.out.size; simp; omega) (fun k hk => (World.ownsRow.lt HO3.out k hk).1))
            have ho9 : Own w9 wr.heap.size v9 (onN ts f (c : Int) i ++ [(C, D, Q)]) := by unfold Own; rw [flat_snoc, List.length_append]; exact hown
            obtain ⟨L9, hL9⟩ : ∃ L9, L9 = onN ts f (c : Int) i ++ [(C, D, Q)] := ⟨_, rfl⟩
            rw [← hL9] at ho9
            have HL9 := Lib.hid hL9
            obtain ⟨a9, c9, rfl, hr9, -, -⟩ := ho9.row
            have HR9 := Lib.hid hr9
            clear hown hgrow hnil ho9 hr9 hL9
            refine hK.out _ _ ?_ (fun hHeld2 => ?_)
            · (try dsimp only)
              exact KPt HE.out HBT.out HB9.out
            clear hK K hHeld
            have hHeld := hHeld2
            clear hHeld2
            (try simp only [Act.put, List.setIfInBounds_toArray, List.set_cons_zero, List.set_cons_succ])
            refine wpAnyH_ready (rs := [10]) (by kernel_rfl) (by simp) ?_
            refine AllReadyH.cons (toArr_get _ 10 _ rfl) (fun K hK => ?_) ?_
            · go_simp
              refine (l2Edf_any _ _ L9 _ HR9.out (by rw [HL9.out]; exact HSV.out)).mono ?_
              rintro e w10 ⟨rfl, b10⟩
              have HB10 := Lib.hid (HB9.out.trans (b10.mono HB9.out.size))
              clear b10
              go_wp2_with fail
              refine hK.out _ _ ?_ (fun hHeld2 => ?_)
              · (try dsimp only)
                exact KPt HE.out HBT.out HB10.out
              clear hK K hHeld
              have hHeld := hHeld2
              clear hHeld2
              (try simp only [Act.put, List.setIfInBounds_toArray, List.set_cons_zero, List.set_cons_succ])
              refine wpAnyH_done (by kernel_rfl) ?_ _
              rw [HL9.out, ← HFT.out]
              cases hfit : fit ts f i c with
              | true =>
                have HLW := Lib.hid (low_is hlt hfit HA.out)
                clear hfit
                go_wp2
                go_ret
                exact ⟨by rw [HLW.out]; rfl, HBW.out.trans (HB10.out.mono HBW.out.size)⟩
              | false =>
                have HFF := Lib.hid hfit
                clear hfit
                go_wp2
                go_roundg (gk - 1)
                case measure => have := HQ.out; omega
                case rel => exact ⟨c + 1, by have := HQ.out; omega, by go_num, fun d hd => by
                    by_cases e : d = c
                    · subst e; exact HFF.out
                    · exact HA.out d (by omega), HBW.out.trans (HB10.out.mono HBW.out.size)⟩
            exact AllReadyH.nil
          exact AllReadyH.nil
        exact AllReadyH.nil
      refine AllReadyH.cons (toArr_get _ 8 _ rfl) (fun K hK => ?_) ?_
      · go_simp
        refine hK.out _ _ ?_ (fun hHeld2 => ?_)
        · (try dsimp only)
          (first | exact KPt HE.out HBT.out (HB3.out.alloc (by have := HB3.out.size; have := HBS.out; omega) _) | exact KPt HE.out HBT.out (((Below.refl _ _).drew.mono HBS.out).alloc (by simp) _))
        clear hK K hHeld
        have hHeld := hHeld2
        clear hHeld2
        (try simp only [Act.put, List.setIfInBounds_toArray, List.set_cons_zero, List.set_cons_succ])
        refine wpAnyH_ready (rs := [3]) (by kernel_rfl) (by simp) ?_
        refine AllReadyH.cons (toArr_get _ 3 _ rfl) (fun K hK => ?_) ?_
        · go_simp
          refine (l7On_any _ _ _ _ i ts f (c : Int) _ (HRW.out.below ((Below.refl _ _).drew.alloc (by simp) _)) (HOW.out.below ((Below.refl _ _).drew.alloc (by simp) _)) (by omega) (by omega)).mono ?_
          rintro e w3 ⟨v3, rfl, ho3, b3⟩
          have HN3 := Lib.hid (fun j u hj => (b3.cell (p := (⟨wr.heap.size, 0, none⟩ : Addr).add j) (by rw [Addr.add_lit]; simp)).trans (news3 wr.drew C D Q 44 j u hj))
          have HB3 := Lib.hid (show Below wr.heap.size wr w3 from ((Below.refl _ _).drew.alloc (by simp) _).trans (b3.mono (by simp)))
          have HO3 := Lib.hid (show Own w3 wr.heap.size v3 (onN ts f (c : Int) i) from own_mono ho3 (by simp))
          clear ho3 b3
          go_wp2_with fail
          refine hK.out _ _ ?_ (fun hHeld2 => ?_)
          · (try dsimp only)
            exact KPt HE.out HBT.out HB3.out
          clear hK K hHeld
          have hHeld := hHeld2
          clear hHeld2
          (try simp only [Act.put, List.setIfInBounds_toArray, List.set_cons_zero, List.set_cons_succ])
          refine wpAnyH_ready (rs := [9]) (by kernel_rfl) (by simp) ?_
          refine AllReadyH.cons (toArr_get _ 9 _ rfl) (fun K hK => ?_) ?_
          · (try rw [if_pos (by rfl)])
            refine wp_append_own _ (.tmp 18) (.tmp 23) 26 rfl wr.heap.size 44 i0 _ 3 24 Try.underlying26 HI.out.1 HI.out.2.1 HI.out.2.2.1 HI.out.2.2.2 rfl (by decide) v3 (onN ts f (c : Int) i).length (flat (onN ts f (c : Int) i)) rfl HO3.out ⟨wr.heap.size, 0, none⟩ 1 1 [.int .i64 C, .int .i64 D, .int .i64 Q] rfl rfl HN3.out (one3 _ _ _) (by have := HLE.out; unfold maxLen; omega) (by have := HLE.out; omega) HB3.out.size ?_
            intro v9 w9 hown hgrow hnil
            have HB9 := Lib.hid (show Below wr.heap.size wr w9 from HB3.out.grown hgrow HB3.out.size (fun k hk => (World.ownsRow.lt HO3.out k hk).1))
            have ho9 : Own w9 wr.heap.size v9 (onN ts f (c : Int) i ++ [(C, D, Q)]) := by unfold Own; rw [flat_snoc, List.length_append]; exact hown
            obtain ⟨L9, hL9⟩ : ∃ L9, L9 = onN ts f (c : Int) i ++ [(C, D, Q)] := ⟨_, rfl⟩
            rw [← hL9] at ho9
            have HL9 := Lib.hid hL9
            obtain ⟨a9, c9, rfl, hr9, -, -⟩ := ho9.row
            have HR9 := Lib.hid hr9
            clear hown hgrow hnil ho9 hr9 hL9
            refine hK.out _ _ ?_ (fun hHeld2 => ?_)
            · (try dsimp only)
              exact KPt HE.out HBT.out HB9.out
            clear hK K hHeld
            have hHeld := hHeld2
            clear hHeld2
            (try simp only [Act.put, List.setIfInBounds_toArray, List.set_cons_zero, List.set_cons_succ])
            refine wpAnyH_ready (rs := [10]) (by kernel_rfl) (by simp) ?_
            refine AllReadyH.cons (toArr_get _ 10 _ rfl) (fun K hK => ?_) ?_
            · go_simp
              refine (l2Edf_any _ _ L9 _ HR9.out (by rw [HL9.out]; exact HSV.out)).mono ?_
              rintro e w10 ⟨rfl, b10⟩
              have HB10 := Lib.hid (HB9.out.trans (b10.mono HB9.out.size))
              clear b10
              go_wp2_with fail
              refine hK.out _ _ ?_ (fun hHeld2 => ?_)
              · (try dsimp only)
                exact KPt HE.out HBT.out HB10.out
              clear hK K hHeld
              have hHeld := hHeld2
              clear hHeld2
              (try simp only [Act.put, List.setIfInBounds_toArray, List.set_cons_zero, List.set_cons_succ])
              refine wpAnyH_done (by kernel_rfl) ?_ _
              rw [HL9.out, ← HFT.out]
              cases hfit : fit ts f i c with
              | true =>
                have HLW := Lib.hid (low_is hlt hfit HA.out)
                clear hfit
                go_wp2
                go_ret
                exact ⟨by rw [HLW.out]; rfl, HBW.out.trans (HB10.out.mono HBW.out.size)⟩
              | false =>
                have HFF := Lib.hid hfit
                clear hfit
                go_wp2
                go_roundg (gk - 1)
                case measure => have := HQ.out; omega
                case rel => exact ⟨c + 1, by have := HQ.out; omega, by go_num, fun d hd => by
                    by_cases e : d = c
                    · subst e; exact HFF.out
                    · exact HA.out d (by omega), HBW.out.trans (HB10.out.mono HBW.out.size)⟩
            exact AllReadyH.nil
          exact AllReadyH.nil
        exact AllReadyH.nil
      exact AllReadyH.nil
    · obtain rfl : c = n := by omega
      have HLN := Lib.hid (low_not HA.out)
      go_wp2
      go_ret
      exact ⟨by rw [HLN.out]; rfl, HBW.out⟩

theorem valsP_congr {f g : Nat → Int} {n : Nat} (e : ∀ k, k < n → f k = g k) : vals f n = vals g n := by
  simp only [vals]
  exact List.map_congr_left fun k hk => by rw [e k (List.mem_range.1 hk)]
theorem own_pushI {w' : World} {base : Nat} {v' : Value} {n : Nat} {f g : Nat → Int} {x : Int} (ho : w'.ownsRow base 3 1 v' (n + 1) (vals f n ++ [.int .i64 x])) (e : ∀ k, k < n → g k = f k) (ex : g n = x) : OwnI w' base v' (n + 1) g := by
  unfold OwnI
  rw [vals_succ, ex, valsP_congr e]
  exact ho

theorem own_capI {w : World} {base n c : Nat} {a : Option Addr} {f : Nat → Int} (h : OwnI w base (.slice a n c) n f) : n ≤ c := by
  obtain ⟨_, ⟨e, hn⟩ | ⟨g, cap', cur, e, _, hb, hnc, hcm, hsz, hx⟩⟩ := h
  · simp only [Value.slice.injEq] at e
    omega
  · simp only [Value.slice.injEq] at e
    rw [e.2.2]
    exact hnc

theorem ffN_stop {ts : List T3} {n i : Nat} (h : ffN ts n i = none) : ∀ {j : Nat}, i ≤ j → ffN ts n j = none := by
  intro j
  induction j with
  | zero => intro hj; obtain rfl : i = 0 := by omega
            exact h
  | succ j ih =>
    intro hj
    by_cases e : i = j + 1
    · subst e; exact h
    · simp only [ffN]
      rw [ih (by omega)]
theorem ffN_next {ts : List T3} {n : Nat} {gs : List Nat} (h : ffN ts n gs.length = some gs) : ffN ts n (gs.length + 1) = match low (fit ts (nz gs) gs.length) n with
    | none => none
    | some c => some (gs ++ [c]) := by
  show (match ffN ts n gs.length with
    | none => none
    | some l => match low (fit ts (nz l) gs.length) n with
      | none => none
      | some c => some (l ++ [c])) = _
  rw [h]
/-- What spec.FirstFit answers, what spec.Partition answers. -/
def ffO (ts : List T3) (n : Int) : Option (List Nat) := if svB ts = true ∧ 1 ≤ n ∧ n ≤ 5 then ff ts n.toNat else none
def prO (ts : List T3) (n : Int) : Option (List Nat) := if svB ts = true ∧ 1 ≤ n ∧ n ≤ 5 then part ts n.toNat else none
/-- Two results: the list, or nothing, and whether there is one. -/
def GotAsg (base : Nat) (r : Option (List Nat)) (e : Ending) (w' : World) : Prop := ∃ v, e = .returned (.tuple #[v, .bool r.isSome]) ∧ OwnI w' base v (r.getD []).length (nz (r.getD []))
theorem owni_belowP {w w' : World} {base n : Nat} {v : Value} {f : Nat → Int} (h : OwnI w base v n f) (hb : Below w.heap.size w w') : OwnI w' base v n f := h.below hb

set_option maxRecDepth 100000 in
set_option maxHeartbeats 2000000 in
/-- spec.FirstFit. -/
theorem specFirstFit_any (a : Option Addr) (cap : Nat) (ts : List T3) (n : Int) (w : World) (hr : Row w a ts) (hn : ts.length ≤ 1099511627776) :
    Calls Try.prog 23 #[.slice a ts.length cap, .int .i64 n] w fun e w' => GotAsg w.heap.size (ffO ts n) e w' ∧ Below w.heap.size w w' := by
  obtain ⟨i0, hi0, hz, hsz, hby⟩ := info_parts intInfo
  have HI := Lib.hid (And.intro hi0 (And.intro hz (And.intro hsz hby)))
  have HR := Lib.hid hr
  clear hr hi0 hz hsz hby
  go_enter Try.func23, Try.ntmps23
  go_wp2_with fail
  refine (specSetValid_any _ _ ts _ HR.out hn).mono ?_
  rintro e w1 ⟨rfl, b1⟩
  have B1 := Lib.hid b1
  clear b1
  cases hs : svB ts with
  | false =>
    have HN := Lib.hid (show ffO ts n = none from if_neg (by rw [hs]; simp))
    clear hs
    go_wp2
    go_ret2
    exact ⟨⟨_, by rw [HN.out]; rfl, by rw [HN.out]; exact (OwnI.empty w1 _).mono B1.out.size⟩, B1.out.alloc B1.out.size _⟩
  | true =>
    have HS := Lib.hid hs
    have hl5 : ts.length ≤ 5 := (sv_all hs).2
    clear hs
    go_wp2_with fail
    refine (l1In_any n 1 5 _).mono ?_
    rintro e w' ⟨rfl, rfl⟩
    by_cases hc : 1 ≤ n ∧ n ≤ 5
    · rw [show inB n 1 5 = true from decide_eq_true hc]
      obtain ⟨N, hN⟩ : ∃ N : Nat, n = (N : Int) := ⟨n.toNat, by omega⟩
      subst hN
      have HF := Lib.hid (show ffO ts (N : Int) = ffN ts N ts.length from if_pos ⟨HS.out, hc⟩)
      have hN5 : N ≤ 5 := by omega
      clear hc
      go_wp2
      go_loopg [6, 7] ts.length (fun q s z wr => ∃ (gs : List Nat), q + gs.length = ts.length ∧ z = .int .i64 gs.length ∧ ffN ts N gs.length = some gs ∧ OwnI wr w.heap.size s gs.length (nz gs) ∧ Below w.heap.size w wr)
      case atStart => exact ⟨[], by simp, rfl, rfl, (OwnI.empty w1 _).mono B1.out.size, B1.out.alloc B1.out.size _⟩
      case round =>
        obtain ⟨gs, hq, rfl, hff, hown, B⟩ := hrel
        have HQ := Lib.hid hq
        have HFF := Lib.hid hff
        have HO := Lib.hid hown
        have HB := Lib.hid B
        have hal : gs.length ≤ ts.length := by omega
        obtain ⟨sa, sc, rfl⟩ := own_shape hown
        clear hq hff hown B
        by_cases hlt : gs.length < ts.length
        · have hi0 : (0 : Int) ≤ gs.length := by omega
          have hi1 : (gs.length : Int) < ts.length := by omega
          go_wp2_with fail
          refine (l7First_any _ _ _ _ ts N gs.length (nz gs) _ (HR.out.below HB.out) HO.out.intF' HS.out hlt hN5).mono ?_
          rintro e w2 ⟨rfl, b2⟩
          have HB2 := Lib.hid (HB.out.trans (b2.mono HB.out.size))
          have HO2 := Lib.hid (HO.out.below b2)
          have HNX := Lib.hid (ffN_next HFF.out)
          clear b2 HO HB
          cases hlo : low (fit ts (nz gs) gs.length) N with
          | none =>
            have HN := Lib.hid (show ffO ts (N : Int) = none by rw [HF.out]; exact ffN_stop (i := gs.length + 1) (by rw [HNX.out, hlo]) (by omega))
            rw [show optI (none : Option Nat) = -1 from rfl]
            clear hlo
            go_wp2
            go_ret2
            exact ⟨⟨_, by rw [HN.out]; rfl, by rw [HN.out]; exact (OwnI.empty w2 _).mono HB2.out.size⟩, HB2.out.alloc HB2.out.size _⟩
          | some c =>
            have hcn := (low_some hlo).1
            have HNY := Lib.hid (show ffN ts N (gs ++ [c]).length = some (gs ++ [c]) by rw [List.length_append, show [c].length = 1 from rfl, HNX.out, hlo])
            have HZ := Lib.hid (nz_snoc gs c)
            rw [show optI (some c) = (c : Int) from rfl]
            have hc0 : ¬ (c : Int) < 0 := by omega
            clear hlo
            go_wp2_with (at_builtin; refine wpList_append_at _ rfl (.tmp 33) (.tmp 35) 23 rfl w.heap.size 3 i0 _ 1 8 Try.underlying23 HI.out.1 HI.out.2.1 HI.out.2.2.1 HI.out.2.2.2 rfl (by decide) _ gs.length (vals (nz gs) gs.length) rfl (HO2.out.alloc _) ⟨w2.heap.size, 0, none⟩ 1 1 [.int .i64 (c : Int)] rfl rfl (news1 _ _ _) (one1 _) (by unfold maxLen; omega) (by omega) (Nat.le_trans HB2.out.size (below_box _ _).size) (by decide) ?_; intro v3 w3 ho3 hg3 hp3 hn3; have HO3 := Lib.hid (own_pushI ho3 HZ.out.1 HZ.out.2); have HB3 := Lib.hid (show Below w.heap.size w w3 from (HB2.out.alloc HB2.out.size _).grown hg3 (Nat.le_trans HB2.out.size (below_box _ _).size) (fun k hk => (HO2.out.lt k hk).1)); clear ho3 hg3 hp3 hn3)
            go_roundg (gk - 1)
            case measure => have := HQ.out; omega
            case rel => exact ⟨gs ++ [c], by have := HQ.out; rw [List.length_append]; simp; omega, by rw [List.length_append]; go_num, HNY.out, by rw [List.length_append]; exact HO3.out, HB3.out⟩
        · have hal2 : gs.length = ts.length := by omega
          have HN := Lib.hid (show ffO ts (N : Int) = some gs by rw [HF.out, ← hal2]; exact HFF.out)
          have hlt' : ¬ (gs.length : Int) < ts.length := by omega
          clear hal2
          go_wp2
          go_ret2
          exact ⟨⟨_, by rw [HN.out]; rfl, by rw [HN.out]; exact HO.out⟩, HB.out⟩
    · rw [show inB n 1 5 = false from decide_eq_false hc]
      have HN := Lib.hid (show ffO ts n = none from if_neg (fun h => hc h.2))
      clear hc
      go_wp2
      go_ret2
      exact ⟨⟨_, by rw [HN.out]; rfl, by rw [HN.out]; exact (OwnI.empty w1 _).mono B1.out.size⟩, B1.out.alloc B1.out.size _⟩

end Go.Proofs.Ytilfmfhbdafogaa
