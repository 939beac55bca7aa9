/- Contract of spec.l7Search. Conditions: the slices hold what is said; what each theorem names. -/
import Derived.Test.YtdgihkmiolnglaaGreatDoorPartFirst
namespace Go.Proofs.YtdgihkmiolnglaaGreatDoor
open Go.RowKit Go.Deep

theorem own_someP {w : World} {base n : Nat} {a : Option Addr} {cap : Nat} {f : Nat → Int} (h : OwnI w base (.slice a n cap) n f) (hn : 0 < n) : ∃ g, a = some ⟨g, 0, none⟩ := by
  obtain ⟨g, c, e, _⟩ := h.at hn
  simp only [Value.slice.injEq] at e
  exact ⟨g, e.1⟩

theorem firstR_is {α : Type} {p : Nat → Option α} {r : α} {c m : Nat} (hc : c < m) (hp : p c = some r) (hno : ∀ d, d < c → p d = none) : firstR p 0 m = some r := by
  cases e : firstR p 0 m with
  | none => have := firstR_none e c (Nat.zero_le _) (by omega); rw [hp] at this; simp at this
  | some q =>
    obtain ⟨d, _, h2, h3, h4⟩ := firstR_some e
    rcases Nat.lt_trichotomy d c with h | h | h
    · have := hno d h; rw [h3] at this; simp at this
    · subst h; rw [hp] at h3; rw [← h3]
    · have := h4 c (Nat.zero_le _) h; rw [hp] at this; simp at this
theorem firstR_no {α : Type} {p : Nat → Option α} {m : Nat} (hno : ∀ d, d < m → p d = none) : firstR p 0 m = none := by
  cases e : firstR p 0 m with
  | none => rfl
  | some q =>
    obtain ⟨d, _, h2, h3, _⟩ := firstR_some e
    have := hno d (by omega)
    rw [h3] at this
    simp at this
theorem top_take (gs : List Nat) {k : Nat} (hk : k < gs.length) : top (gs.take (k + 1)) = max (top (gs.take k)) (gs.getD k 0 + 1) := by
  rw [List.take_succ_eq_append_getElem hk, top_snoc]
  simp [List.getD_eq_getElem?_getD, List.getElem?_eq_getElem hk]
/-- Two results: the list, somewhere, and whether there is one. -/
def GotSr (r : Option (List Nat)) (e : Ending) (w' : World) : Prop := ∃ va vc, e = .returned (.tuple #[.slice va (r.getD []).length vc, .bool r.isSome]) ∧ IntF w' va (r.getD []).length (nz (r.getD []))
theorem intF_none (w : World) (a : Option Addr) (f : Nat → Int) : IntF w a 0 f := fun _ hk => absurd hk (Nat.not_lt_zero _)
theorem news_asg {w : World} {b off n : Nat} {f : Nat → Int} (h : IntF w (some ⟨b, off, none⟩) n f) : ∀ (j : Nat) (u : Value), (vals f n)[j]? = some u → w.cell? ((⟨b, off, none⟩ : Addr).add j) = some u := by
  intro j u hj
  have hjl : j < n := by
    have := (List.getElem?_eq_some_iff.1 hj).1
    rwa [vals_len] at this
  rw [vals_at _ hjl] at hj
  obtain rfl := Option.some.inj hj
  obtain ⟨b', off', e, _, c0⟩ := h j hjl
  simp only [Option.some.injEq, Addr.mk.injEq, and_true] at e
  obtain ⟨rfl, rfl⟩ := e
  rw [Addr.add_lit]
  exact c0
theorem one_asg (f : Nat → Int) (n : Nat) : ∀ u ∈ vals f n, u.oneCell' = true := by
  intro u hu
  obtain ⟨k, _, rfl⟩ := List.mem_map.1 hu
  rfl

set_option maxRecDepth 100000 in
set_option maxHeartbeats 8000000 in
/-- spec.l7Search. -/
theorem l7Search_any (a : Option Addr) (cap n : Nat) (ts : List T3) (hv : svB ts = true) (hn : n ≤ 5) : ∀ (m : Nat) (gs : List Nat) (b off ocap : Nat) (w : World), Row w a ts → IntF w (some ⟨b, off, none⟩) gs.length (nz gs) → b < w.heap.size → gs.length ≤ ocap → gs.length + m = ts.length → (∀ k, k < gs.length → gs.getD k 0 < n) →
    Calls Tryz.prog 63 #[.slice a ts.length cap, .int .i64 (n : Int), .slice (some ⟨b, off, none⟩) gs.length ocap] w fun e w' => GotSr (srch ts n m gs) e w' ∧ Below w.heap.size w w' := by
  obtain ⟨i0, hi0, hz, hsz, hby⟩ := info_parts taskInfo
  have HI := Lib.hid (And.intro hi0 (And.intro hz (And.intro hsz hby)))
  obtain ⟨j0, hj0, hjz, hjsz, hjby⟩ := info_parts intInfo
  have HJ := Lib.hid (And.intro hj0 (And.intro hjz (And.intro hjsz hjby)))
  have HV := Lib.hid hv
  have hl5 : ts.length ≤ 5 := (sv_all hv).2
  clear hi0 hz hsz hby hj0 hjz hjsz hjby hv
  intro m
  induction m with
  | zero =>
    intro gs b off ocap w hr ho hb hoc hl hbd
    have hl' : gs.length = ts.length := by omega
    have HO := Lib.hid ho
    rw [hl'] at HO ⊢
    have HL := Lib.hid hl'
    clear hr ho hl hl' hbd
    go_enter Tryz.func63, Tryz.ntmps63
    go_wp2
    go_ret2
    exact ⟨⟨_, _, by rw [← HL.out]; rfl, by have := HO.out; rw [← HL.out] at this; exact this⟩, Below.refl _ _⟩
  | succ m ih =>
    intro gs b off ocap w hr ho hb hoc hl hbd
    have HR := Lib.hid hr
    have HO := Lib.hid ho
    have HL := Lib.hid hl
    have HBD := Lib.hid hbd
    have IH := Lib.hid ih
    have hlt : gs.length < ts.length := by omega
    have hne : ((gs.length : Int) == (ts.length : Int)) = false := by simp; omega
    clear hr ho hl hbd ih
    go_enter Tryz.func63, Tryz.ntmps63
    go_wp2
    go_loopg [9, 10] gs.length (fun q x y wr => ∃ k : Nat, q + k = gs.length ∧ x = .int .i64 (top (gs.take k) : Nat) ∧ y = .int .i64 k ∧ w = wr)
    case atStart => exact ⟨0, rfl, rfl, rfl, rfl⟩
    case round =>
      obtain ⟨k, hk, rfl, rfl, rfl⟩ := hrel
      have HK := Lib.hid hk
      have hkk : k ≤ gs.length := by omega
      have ht5 : top (gs.take k) ≤ 5 := Nat.le_trans (top_le fun j hj => by
        rw [List.length_take] at hj
        have := HBD.out j (by omega)
        simp only [List.getD_eq_getElem?_getD, List.getElem?_take_of_lt (show j < k by omega)] at this ⊢
        exact this) hn
      clear hk
      by_cases hkl : k < gs.length
      · obtain ⟨b', off', e', -, x0⟩ := HO.out k hkl
        simp only [Option.some.injEq, Addr.mk.injEq, and_true] at e'
        obtain ⟨rfl, rfl⟩ := e'
        have hx5 := HBD.out k hkl
        have HT := Lib.hid (top_take gs hkl)
        have hnk : nz gs k = ((gs.getD k 0 : Nat) : Int) := rfl
        rw [hnk] at x0
        obtain ⟨x, hx⟩ : ∃ x, x = gs.getD k 0 := ⟨_, rfl⟩
        rw [← hx] at x0 hx5 HT
        obtain ⟨T, hT⟩ : ∃ T, T = top (gs.take k) := ⟨_, rfl⟩
        rw [← hT] at ht5 HT ⊢
        have hk0 : (0 : Int) ≤ k := by omega
        have hk1 : (k : Int) < gs.length := by omega
        clear hx hT hnk
        go_wp2
        all_goals
          go_roundg (gk - 1)
          case measure => have := HK.out; omega
          case rel => exact ⟨k + 1, by have := HK.out; omega, by rw [HT.out]; congr 1; omega, by go_num, rfl⟩
      · obtain rfl : k = gs.length := by omega
        rw [List.take_length] at ht5 ⊢
        obtain ⟨P, hP⟩ : ∃ P : Nat → Option (List Nat), P = fun c => if fit ts (nz gs) gs.length c = true then srch ts n m (gs ++ [c]) else none := ⟨_, rfl⟩
        have HSR := Lib.hid (show srch ts n (m + 1) gs = firstR P 0 (min n (top gs + 1)) by rw [hP]; rfl)
        have HPF := Lib.hid (show ∀ c, fit ts (nz gs) gs.length c = false → P c = none from fun c h => by rw [hP]; simp [h])
        have HPT := Lib.hid (show ∀ c, fit ts (nz gs) gs.length c = true → P c = srch ts n m (gs ++ [c]) from fun c h => by rw [hP]; simp [h])
        obtain ⟨T, hT⟩ : ∃ T, T = top gs := ⟨_, rfl⟩
        rw [← hT] at ht5 HSR ⊢
        obtain ⟨M, hM⟩ : ∃ M, M = min n (T + 1) := ⟨_, rfl⟩
        rw [← hM] at HSR
        have hMn : M ≤ n := by omega
        have HK2 := Lib.hid HK.out
        clear hP hT HK
        go_wp2
        go_loopg [11] M (fun q z wr => ∃ c : Nat, q + c = M ∧ z = .int .i64 c ∧ (∀ d, d < c → P d = none) ∧ Below w.heap.size w wr)
        case atStart => exact ⟨0, by omega, rfl, fun d hd => absurd hd (Nat.not_lt_zero _), Below.refl _ _⟩
        case round =>
          obtain ⟨c, hq, rfl, hall, B⟩ := hrel
          have HQ := Lib.hid hq
          have HA := Lib.hid hall
          have HBW := Lib.hid B
          have hcM : c ≤ M := by omega
          clear hq hall
          by_cases hlt2 : c < M
          · have hc0 : (0 : Int) ≤ c := by omega
            have hcn : (c : Int) < n := by omega
            have hcT : (c : Int) < (T : Int) + 1 := by omega
            have HCN := Lib.hid (show c < n by omega)
            have HRW := Lib.hid (HR.out.below B)
            have HOW := Lib.hid (HO.out.below B)
            obtain ⟨bt, ot, rfl, hbt, e0, e1, e2⟩ := HRW.out.at hlt
            have HSV := Lib.hid (fit_sv HV.out (f := nz gs) (c := (c : Int)) hlt)
            have HFT := Lib.hid (show fit ts (nz gs) gs.length c = edf (onN ts (nz gs) (c : Int) gs.length ++ [tk ts gs.length]) from rfl)
            have HLE := Lib.hid (onN_len ts (nz gs) (c : Int) gs.length)
            obtain ⟨⟨C, D, Q⟩, ht⟩ : ∃ t, t = tk ts gs.length := ⟨_, rfl⟩
            rw [← ht] at e0 e1 e2 HSV HFT
            simp only at e0 e1 e2
            have HE := Lib.hid (And.intro e0 (And.intro e1 e2))
            have HBT := Lib.hid hbt
            have HBS := Lib.hid (Nat.le_refl wr.heap.size)
            have hi0 : (0 : Int) ≤ gs.length := by omega
            have hi1 : (gs.length : Int) < ts.length := by omega
            have HMT := Lib.hid hM
            clear B ht hM
            go_wp2
            all_goals first | (exfalso; have := HMT.out; omega) | skip
            all_goals
              refine wp_region_held_drew (S := fun w' => w'.cell? ⟨bt, ot + gs.length * 3, none⟩ = some (.int .i64 C) ∧ w'.cell? ⟨bt, ot + gs.length * 3 + 1, none⟩ = some (.int .i64 D) ∧ w'.cell? ⟨bt, ot + gs.length * 3 + 2, none⟩ = some (.int .i64 Q)) (by kernel_rfl) ?_ (fun hHeld => ?_)
              · (try dsimp only)
                exact KPt HE.out HBT.out ((Below.refl _ _).drew.mono HBS.out)
              refine wpAnyH_take (i := 0) (v := ?_) (toArr_get _ 0 _ rfl) (by kernel_rfl) (by kernel_rfl) (by kernel_rfl) (fun _ _ _ h => h) (Or.inl ⟨by rfl, ?_⟩) (by assumption) ?_
              rotate_left
              · (intro w hSw; (try dsimp only at hSw); go_simp; (try with_reducible rfl))
              (try simp only [Act.put, List.setIfInBounds_toArray, List.set_cons_zero, List.set_cons_succ])
              refine wpAnyH_take (i := 1) (v := ?_) (toArr_get _ 1 _ rfl) (by kernel_rfl) (by kernel_rfl) (by kernel_rfl) (fun _ _ _ h => h) (Or.inl ⟨by rfl, ?_⟩) (by assumption) ?_
              rotate_left
              · (intro w hSw; (try dsimp only at hSw); go_simp; (try with_reducible rfl))
              (try simp only [Act.put, List.setIfInBounds_toArray, List.set_cons_zero, List.set_cons_succ])
              refine wpAnyH_take (i := 2) (v := ?_) (toArr_get _ 2 _ rfl) (by kernel_rfl) (by kernel_rfl) (by kernel_rfl) (fun _ _ _ h => h) (Or.inl ⟨by rfl, ?_⟩) (by assumption) ?_
              rotate_left
              · (intro w hSw; (try dsimp only at hSw); go_simp; (try with_reducible rfl))
              (try simp only [Act.put, List.setIfInBounds_toArray, List.set_cons_zero, List.set_cons_succ])
              refine wpAnyH_take (i := 4) (v := ?_) (toArr_get _ 4 _ rfl) (by kernel_rfl) (by kernel_rfl) (by kernel_rfl) (fun _ _ _ h => h) (Or.inl ⟨by rfl, ?_⟩) (by assumption) ?_
              rotate_left
              · (intro w hSw; (try dsimp only at hSw); go_simp; (try with_reducible rfl))
              (try simp only [Act.put, List.setIfInBounds_toArray, List.set_cons_zero, List.set_cons_succ])
              refine wpAnyH_take (i := 5) (v := ?_) (toArr_get _ 5 _ rfl) (by kernel_rfl) (by kernel_rfl) (by kernel_rfl) (fun _ _ _ h => h) (Or.inl ⟨by rfl, ?_⟩) (by assumption) ?_
              rotate_left
              · (intro w hSw; (try dsimp only at hSw); go_simp; (try with_reducible rfl))
              (try simp only [Act.put, List.setIfInBounds_toArray, List.set_cons_zero, List.set_cons_succ])
              refine wpAnyH_take (i := 6) (v := ?_) (toArr_get _ 6 _ rfl) (by kernel_rfl) (by kernel_rfl) (by kernel_rfl) (fun _ _ _ h => h) (Or.inl ⟨by rfl, ?_⟩) (by assumption) ?_
              rotate_left
              · (intro w hSw; (try dsimp only at hSw); go_simp; (try with_reducible rfl))
              (try simp only [Act.put, List.setIfInBounds_toArray, List.set_cons_zero, List.set_cons_succ])
              refine wpAnyH_take (i := 7) (v := ?_) (toArr_get _ 7 _ rfl) (by kernel_rfl) (by kernel_rfl) (by kernel_rfl) (fun _ _ _ h => h) (Or.inl ⟨by rfl, ?_⟩) (by assumption) ?_
              rotate_left
              · (intro w hSw; (try dsimp only at hSw); go_simp; (try with_reducible rfl))
              (try simp only [Act.put, List.setIfInBounds_toArray, List.set_cons_zero, List.set_cons_succ])
              refine wpAnyH_ready (rs := [3, 8]) (by kernel_rfl) (by simp) ?_
              refine AllReadyH.cons (toArr_get _ 3 _ rfl) (fun K hK => ?_) ?_
              · go_simp
                refine (l7On_any _ _ _ _ gs.length ts (nz gs) (c : Int) _ (HRW.out.below (Below.refl _ _).drew) (HOW.out.below (Below.refl _ _).drew) (by omega) (by omega)).mono ?_
                rintro e w3 ⟨v3, rfl, ho3, b3⟩
                have HB3 := Lib.hid (show Below wr.heap.size wr w3 from (Below.refl _ _).drew.trans b3)
                have HO3 := Lib.hid (show Own w3 wr.heap.size v3 (onN ts (nz gs) (c : Int) gs.length) from ho3)
                clear ho3 b3
                go_wp2_with fail
                refine hK.out _ _ ?_ (fun hHeld2 => ?_)
                · (try dsimp only)
                  exact KPt HE.out HBT.out HB3.out
                clear hK K hHeld
                have hHeld := hHeld2
                clear hHeld2
                (try simp only [Act.put, List.setIfInBounds_toArray, List.set_cons_zero, List.set_cons_succ])
                refine wpAnyH_ready (rs := [8]) (by kernel_rfl) (by simp) ?_
                refine AllReadyH.cons (toArr_get _ 8 _ rfl) (fun K hK => ?_) ?_
                · go_simp
                  refine hK.out _ _ ?_ (fun hHeld2 => ?_)
                  · (try dsimp only)
                    (first | exact KPt HE.out HBT.out (HB3.out.alloc (by have := HB3.out.size; have := HBS.out; omega) _) | exact KPt HE.out HBT.out (((Below.refl _ _).drew.mono HBS.out).alloc (by simp) _))
                  clear hK K hHeld
                  have hHeld := hHeld2
                  clear hHeld2
                  (try simp only [Act.put, List.setIfInBounds_toArray, List.set_cons_zero, List.set_cons_succ])
                  refine wpAnyH_ready (rs := [9]) (by kernel_rfl) (by simp) ?_
                  refine AllReadyH.cons (toArr_get _ 9 _ rfl) (fun K hK => ?_) ?_
                  · (try rw [if_pos (by rfl)])
                    refine wp_append_own _ (.tmp 44) (.tmp 49) 27 rfl wr.heap.size 29 i0 _ 3 24 Tryz.underlying27 HI.out.1 HI.out.2.1 HI.out.2.2.1 HI.out.2.2.2 rfl (by decide) v3 (onN ts (nz gs) (c : Int) gs.length).length (flat (onN ts (nz gs) (c : Int) gs.length)) rfl (World.ownsRow.alloc HO3.out _) ⟨w3.heap.size, 0, none⟩ 1 1 [.int .i64 C, .int .i64 D, .int .i64 Q] rfl rfl (news3 _ _ _ _ _) (one3 _ _ _) (by have := HLE.out; unfold maxLen; omega) (by have := HLE.out; omega) (by have := HB3.out.size; simp; omega) ?_
                    intro v9 w9 hown hgrow hnil
                    have HB9 := Lib.hid (show Below wr.heap.size wr w9 from (HB3.out.alloc HB3.out.size _).grown hgrow (by have := HB3.out.size; simp; omega) (fun k hk => (World.ownsRow.lt HO3.out k hk).1))
                    have ho9 : Own w9 wr.heap.size v9 (onN ts (nz gs) (c : Int) gs.length ++ [(C, D, Q)]) := by unfold Own; rw [flat_snoc, List.length_append]; exact hown
                    obtain ⟨L9, hL9⟩ : ∃ L9, L9 = onN ts (nz gs) (c : Int) gs.length ++ [(C, D, Q)] := ⟨_, rfl⟩
                    rw [← hL9] at ho9
                    have HL9 := Lib.hid hL9
                    obtain ⟨a9, c9, rfl, hr9, -, -⟩ := ho9.row
                    have HR9 := Lib.hid hr9
                    clear hown hgrow hnil ho9 hr9 hL9
                    refine hK.out _ _ ?_ (fun hHeld2 => ?_)
                    · (try dsimp only)
                      exact KPt HE.out HBT.out HB9.out
                    clear hK K hHeld
                    have hHeld := hHeld2
                    clear hHeld2
                    (try simp only [Act.put, List.setIfInBounds_toArray, List.set_cons_zero, List.set_cons_succ])
                    refine wpAnyH_ready (rs := [10]) (by kernel_rfl) (by simp) ?_
                    refine AllReadyH.cons (toArr_get _ 10 _ rfl) (fun K hK => ?_) ?_
                    · go_simp
                      refine (l2Edf_any _ _ L9 _ HR9.out (by rw [HL9.out]; exact HSV.out)).mono ?_
                      rintro e w10 ⟨rfl, b10⟩
                      have HB10 := Lib.hid (HB9.out.trans (b10.mono HB9.out.size))
                      clear b10
                      go_wp2_with fail
                      refine hK.out _ _ ?_ (fun hHeld2 => ?_)
                      · (try dsimp only)
                        exact KPt HE.out HBT.out HB10.out
                      clear hK K hHeld
                      have hHeld := hHeld2
                      clear hHeld2
                      (try simp only [Act.put, List.setIfInBounds_toArray, List.set_cons_zero, List.set_cons_succ])
                      refine wpAnyH_take (i := 11) (v := ?_) (toArr_get _ 11 _ rfl) (by kernel_rfl) (by kernel_rfl) (by kernel_rfl) (fun _ _ _ h => h) (Or.inl ⟨by rfl, ?_⟩) (by assumption) ?_
                      rotate_left
                      · (intro w hSw; (try dsimp only at hSw); go_simp; (try with_reducible rfl))
                      (try simp only [Act.put, List.setIfInBounds_toArray, List.set_cons_zero, List.set_cons_succ])
                      refine wpAnyH_done (by kernel_rfl) ?_ _
                      rw [HL9.out, ← HFT.out]
                      cases hfit : fit ts (nz gs) gs.length c with
                      | false =>
                        have HPN := Lib.hid (HPF.out c hfit)
                        clear hfit
                        go_wp2
                        go_roundg (gk - 1)
                        case measure => have := HQ.out; omega
                        case rel => exact ⟨c + 1, by have := HQ.out; omega, by go_num, fun d hd => by
                            by_cases e : d = c
                            · subst e; exact HPN.out
                            · exact HA.out d (by omega), HBW.out.trans (HB10.out.mono HBW.out.size)⟩
                      | true =>
                        have HPS := Lib.hid (HPT.out c hfit)
                        have HZ := Lib.hid (nz_snoc gs c)
                        have HOX := Lib.hid (HOW.out.below HB10.out)
                        have HRX := Lib.hid (HRW.out.below HB10.out)
                        have hbx : b < w10.heap.size := by have h1 := HBW.out.size; have h2 := HB10.out.size; omega
                        have HLO := Lib.hid (HBW.out.trans (HB10.out.mono HBW.out.size))
                        clear hfit
                        go_wp2_with (at_builtin; first
                          | (refine wpList_append_own _ rfl (.tmp 56) (.tmp 57) 52 rfl w10.heap.size 3 j0 _ 1 8 Tryz.underlying52 HJ.out.1 HJ.out.2.1 HJ.out.2.2.1 HJ.out.2.2.2 rfl (by decide) (.slice (some ⟨w10.heap.size, 0, none⟩) 0 0) 0 [] rfl (OwnI.empty w10 (nz gs)) ⟨b, off, none⟩ gs.length ocap (vals (nz gs) gs.length) rfl (by rw [vals_len]; omega) (news_asg (HOX.out.below (below_box _ _))) (one_asg _ _) (by unfold maxLen; omega) (by omega) (by simp) ?_; intro v11 w11 ho11 hg11 hn11; have HO11 := Lib.hid (show OwnI w11 w10.heap.size v11 gs.length (nz gs) by unfold OwnI; simpa using ho11); have HB11 := Lib.hid (show Below w10.heap.size w10 w11 from (below_box _ _).grown hg11 (by simp) (by simp [Value.ownBlock])); clear ho11 hg11 hn11)
                          | (refine wpList_append_at _ rfl (.tmp 58) (.tmp 60) 52 rfl w10.heap.size 3 j0 _ 1 8 Tryz.underlying52 HJ.out.1 HJ.out.2.1 HJ.out.2.2.1 HJ.out.2.2.2 rfl (by decide) _ gs.length (vals (nz gs) gs.length) rfl (HO11.out.alloc _) ⟨w11.heap.size, 0, none⟩ 1 1 [.int .i64 (c : Int)] rfl rfl (news1 _ _ _) (one1 _) (by unfold maxLen; omega) (by omega) (Nat.le_trans HB11.out.size (below_box _ _).size) (by decide) ?_; intro v12 w12 ho12 hg12 hp12 hn12; have HO12 := Lib.hid (own_pushI ho12 HZ.out.1 HZ.out.2); have HB12 := Lib.hid (show Below w10.heap.size w10 w12 from (HB11.out.alloc HB11.out.size _).grown hg12 (Nat.le_trans HB11.out.size (below_box _ _).size) (fun k hk => (HO11.out.lt k hk).1)); obtain ⟨s12, c12, rfl⟩ := own_shape ho12; clear ho12 hg12 hp12 hn12; obtain ⟨g12, rfl⟩ := own_someP HO12.out (by omega)))
                        have hcall := IH.out (gs ++ [c]) g12 0 c12 w12 (HRX.out.below HB12.out) (by rw [List.length_append]; exact HO12.out.intF') (HO12.out.lt g12 rfl).2 (by rw [List.length_append]; exact (own_capI HO12.out)) (by have := HL.out; rw [List.length_append]; simp; omega) (fun k hk => by
                          rw [List.length_append] at hk
                          by_cases e : k = gs.length
                          · subst e; simp [List.getD_eq_getElem?_getD]; exact HCN.out
                          · have hk' : k < gs.length := by simp at hk; omega
                            have e2 : (gs ++ [c]).getD k 0 = gs.getD k 0 := by simp [List.getD_eq_getElem?_getD, List.getElem?_append_left hk']
                            rw [e2]; exact HBD.out k hk')
                        rw [List.length_append, show [c].length = 1 from rfl] at hcall
                        have HC := Lib.hid hcall
                        clear hcall
                        go_wp2_with fail
                        refine HC.out.mono ?_
                        rintro e w13 ⟨⟨va, vc, rfl, hi13⟩, b13⟩
                        have HB13 := Lib.hid (HLO.out.trans ((HB12.out.trans (b13.mono HB12.out.size)).mono HLO.out.size))
                        have HI13 := Lib.hid hi13
                        clear hi13 b13 HC
                        cases hsr : srch ts n m (gs ++ [c]) with
                        | none =>
                          have HPN := Lib.hid (HPS.out.trans hsr)
                          rw [hsr] at HI13
                          clear hsr
                          simp only [Option.getD_none, List.length_nil, Option.isSome_none]
                          go_wp2
                          go_roundg (gk - 1)
                          case measure => have := HQ.out; omega
                          case rel => exact ⟨c + 1, by have := HQ.out; omega, by go_num, fun d hd => by
                              by_cases e : d = c
                              · subst e; exact HPN.out
                              · exact HA.out d (by omega), HB13.out⟩
                        | some r =>
                          have HRS := Lib.hid (show srch ts n (m + 1) gs = some r by rw [HSR.out]; exact firstR_is hlt2 (HPS.out.trans hsr) HA.out)
                          rw [hsr] at HI13
                          clear hsr
                          simp only [Option.getD_some, Option.isSome_some]
                          go_wp2
                          go_ret2
                          exact ⟨⟨_, _, by rw [HRS.out]; rfl, by rw [HRS.out]; exact HI13.out⟩, HB13.out⟩
                    exact AllReadyH.nil
                  exact AllReadyH.nil
                exact AllReadyH.nil
              refine AllReadyH.cons (toArr_get _ 8 _ rfl) (fun K hK => ?_) ?_
              · go_simp
                refine hK.out _ _ ?_ (fun hHeld2 => ?_)
                · (try dsimp only)
                  (first | exact KPt HE.out HBT.out (HB3.out.alloc (by have := HB3.out.size; have := HBS.out; omega) _) | exact KPt HE.out HBT.out (((Below.refl _ _).drew.mono HBS.out).alloc (by simp) _))
                clear hK K hHeld
                have hHeld := hHeld2
                clear hHeld2
                (try simp only [Act.put, List.setIfInBounds_toArray, List.set_cons_zero, List.set_cons_succ])
                refine wpAnyH_ready (rs := [3]) (by kernel_rfl) (by simp) ?_
                refine AllReadyH.cons (toArr_get _ 3 _ rfl) (fun K hK => ?_) ?_
                · go_simp
                  refine (l7On_any _ _ _ _ gs.length ts (nz gs) (c : Int) _ (HRW.out.below ((Below.refl _ _).drew.alloc (by simp) _)) (HOW.out.below ((Below.refl _ _).drew.alloc (by simp) _)) (by omega) (by omega)).mono ?_
                  rintro e w3 ⟨v3, rfl, ho3, b3⟩
                  have HN3 := Lib.hid (fun j u hj => (b3.cell (p := (⟨wr.heap.size, 0, none⟩ : Addr).add j) (by rw [Addr.add_lit]; simp)).trans (news3 wr.drew C D Q 29 j u hj))
                  have HB3 := Lib.hid (show Below wr.heap.size wr w3 from ((Below.refl _ _).drew.alloc (by simp) _).trans (b3.mono (by simp)))
                  have HO3 := Lib.hid (show Own w3 wr.heap.size v3 (onN ts (nz gs) (c : Int) gs.length) from own_mono ho3 (by simp))
                  clear ho3 b3
                  go_wp2_with fail
                  refine hK.out _ _ ?_ (fun hHeld2 => ?_)
                  · (try dsimp only)
                    exact KPt HE.out HBT.out HB3.out
                  clear hK K hHeld
                  have hHeld := hHeld2
                  clear hHeld2
                  (try simp only [Act.put, List.setIfInBounds_toArray, List.set_cons_zero, List.set_cons_succ])
                  refine wpAnyH_ready (rs := [9]) (by kernel_rfl) (by simp) ?_
                  refine AllReadyH.cons (toArr_get _ 9 _ rfl) (fun K hK => ?_) ?_
                  · (try rw [if_pos (by rfl)])
                    refine wp_append_own _ (.tmp 44) (.tmp 49) 27 rfl wr.heap.size 29 i0 _ 3 24 Tryz.underlying27 HI.out.1 HI.out.2.1 HI.out.2.2.1 HI.out.2.2.2 rfl (by decide) v3 (onN ts (nz gs) (c : Int) gs.length).length (flat (onN ts (nz gs) (c : Int) gs.length)) rfl HO3.out ⟨wr.heap.size, 0, none⟩ 1 1 [.int .i64 C, .int .i64 D, .int .i64 Q] rfl rfl HN3.out (one3 _ _ _) (by have := HLE.out; unfold maxLen; omega) (by have := HLE.out; omega) HB3.out.size ?_
                    intro v9 w9 hown hgrow hnil
                    have HB9 := Lib.hid (show Below wr.heap.size wr w9 from HB3.out.grown hgrow HB3.out.size (fun k hk => (World.ownsRow.lt HO3.out k hk).1))
                    have ho9 : Own w9 wr.heap.size v9 (onN ts (nz gs) (c : Int) gs.length ++ [(C, D, Q)]) := by unfold Own; rw [flat_snoc, List.length_append]; exact hown
                    obtain ⟨L9, hL9⟩ : ∃ L9, L9 = onN ts (nz gs) (c : Int) gs.length ++ [(C, D, Q)] := ⟨_, rfl⟩
                    rw [← hL9] at ho9
                    have HL9 := Lib.hid hL9
                    obtain ⟨a9, c9, rfl, hr9, -, -⟩ := ho9.row
                    have HR9 := Lib.hid hr9
                    clear hown hgrow hnil ho9 hr9 hL9
                    refine hK.out _ _ ?_ (fun hHeld2 => ?_)
                    · (try dsimp only)
                      exact KPt HE.out HBT.out HB9.out
                    clear hK K hHeld
                    have hHeld := hHeld2
                    clear hHeld2
                    (try simp only [Act.put, List.setIfInBounds_toArray, List.set_cons_zero, List.set_cons_succ])
                    refine wpAnyH_ready (rs := [10]) (by kernel_rfl) (by simp) ?_
                    refine AllReadyH.cons (toArr_get _ 10 _ rfl) (fun K hK => ?_) ?_
                    · go_simp
                      refine (l2Edf_any _ _ L9 _ HR9.out (by rw [HL9.out]; exact HSV.out)).mono ?_
                      rintro e w10 ⟨rfl, b10⟩
                      have HB10 := Lib.hid (HB9.out.trans (b10.mono HB9.out.size))
                      clear b10
                      go_wp2_with fail
                      refine hK.out _ _ ?_ (fun hHeld2 => ?_)
                      · (try dsimp only)
                        exact KPt HE.out HBT.out HB10.out
                      clear hK K hHeld
                      have hHeld := hHeld2
                      clear hHeld2
                      (try simp only [Act.put, List.setIfInBounds_toArray, List.set_cons_zero, List.set_cons_succ])
                      refine wpAnyH_take (i := 11) (v := ?_) (toArr_get _ 11 _ rfl) (by kernel_rfl) (by kernel_rfl) (by kernel_rfl) (fun _ _ _ h => h) (Or.inl ⟨by rfl, ?_⟩) (by assumption) ?_
                      rotate_left
                      · (intro w hSw; (try dsimp only at hSw); go_simp; (try with_reducible rfl))
                      (try simp only [Act.put, List.setIfInBounds_toArray, List.set_cons_zero, List.set_cons_succ])
                      refine wpAnyH_done (by kernel_rfl) ?_ _
                      rw [HL9.out, ← HFT.out]
                      cases hfit : fit ts (nz gs) gs.length c with
                      | false =>
                        have HPN := Lib.hid (HPF.out c hfit)
                        clear hfit
                        go_wp2
                        go_roundg (gk - 1)
                        case measure => have := HQ.out; omega
                        case rel => exact ⟨c + 1, by have := HQ.out; omega, by go_num, fun d hd => by
                            by_cases e : d = c
                            · subst e; exact HPN.out
                            · exact HA.out d (by omega), HBW.out.trans (HB10.out.mono HBW.out.size)⟩
                      | true =>
                        have HPS := Lib.hid (HPT.out c hfit)
                        have HZ := Lib.hid (nz_snoc gs c)
                        have HOX := Lib.hid (HOW.out.below HB10.out)
                        have HRX := Lib.hid (HRW.out.below HB10.out)
                        have hbx : b < w10.heap.size := by have h1 := HBW.out.size; have h2 := HB10.out.size; omega
                        have HLO := Lib.hid (HBW.out.trans (HB10.out.mono HBW.out.size))
                        clear hfit
                        go_wp2_with (at_builtin; first
                          | (refine wpList_append_own _ rfl (.tmp 56) (.tmp 57) 52 rfl w10.heap.size 3 j0 _ 1 8 Tryz.underlying52 HJ.out.1 HJ.out.2.1 HJ.out.2.2.1 HJ.out.2.2.2 rfl (by decide) (.slice (some ⟨w10.heap.size, 0, none⟩) 0 0) 0 [] rfl (OwnI.empty w10 (nz gs)) ⟨b, off, none⟩ gs.length ocap (vals (nz gs) gs.length) rfl (by rw [vals_len]; omega) (news_asg (HOX.out.below (below_box _ _))) (one_asg _ _) (by unfold maxLen; omega) (by omega) (by simp) ?_; intro v11 w11 ho11 hg11 hn11; have HO11 := Lib.hid (show OwnI w11 w10.heap.size v11 gs.length (nz gs) by unfold OwnI; simpa using ho11); have HB11 := Lib.hid (show Below w10.heap.size w10 w11 from (below_box _ _).grown hg11 (by simp) (by simp [Value.ownBlock])); clear ho11 hg11 hn11)
                          | (refine wpList_append_at _ rfl (.tmp 58) (.tmp 60) 52 rfl w10.heap.size 3 j0 _ 1 8 Tryz.underlying52 HJ.out.1 HJ.out.2.1 HJ.out.2.2.1 HJ.out.2.2.2 rfl (by decide) _ gs.length (vals (nz gs) gs.length) rfl (HO11.out.alloc _) ⟨w11.heap.size, 0, none⟩ 1 1 [.int .i64 (c : Int)] rfl rfl (news1 _ _ _) (one1 _) (by unfold maxLen; omega) (by omega) (Nat.le_trans HB11.out.size (below_box _ _).size) (by decide) ?_; intro v12 w12 ho12 hg12 hp12 hn12; have HO12 := Lib.hid (own_pushI ho12 HZ.out.1 HZ.out.2); have HB12 := Lib.hid (show Below w10.heap.size w10 w12 from (HB11.out.alloc HB11.out.size _).grown hg12 (Nat.le_trans HB11.out.size (below_box _ _).size) (fun k hk => (HO11.out.lt k hk).1)); obtain ⟨s12, c12, rfl⟩ := own_shape ho12; clear ho12 hg12 hp12 hn12; obtain ⟨g12, rfl⟩ := own_someP HO12.out (by omega)))
                        have hcall := IH.out (gs ++ [c]) g12 0 c12 w12 (HRX.out.below HB12.out) (by rw [List.length_append]; exact HO12.out.intF') (HO12.out.lt g12 rfl).2 (by rw [List.length_append]; exact (own_capI HO12.out)) (by have := HL.out; rw [List.length_append]; simp; omega) (fun k hk => by
                          rw [List.length_append] at hk
                          by_cases e : k = gs.length
                          · subst e; simp [List.getD_eq_getElem?_getD]; exact HCN.out
                          · have hk' : k < gs.length := by simp at hk; omega
                            have e2 : (gs ++ [c]).getD k 0 = gs.getD k 0 := by simp [List.getD_eq_getElem?_getD, List.getElem?_append_left hk']
                            rw [e2]; exact HBD.out k hk')
                        rw [List.length_append, show [c].length = 1 from rfl] at hcall
                        have HC := Lib.hid hcall
                        clear hcall
                        go_wp2_with fail
                        refine HC.out.mono ?_
                        rintro e w13 ⟨⟨va, vc, rfl, hi13⟩, b13⟩
                        have HB13 := Lib.hid (HLO.out.trans ((HB12.out.trans (b13.mono HB12.out.size)).mono HLO.out.size))
                        have HI13 := Lib.hid hi13
                        clear hi13 b13 HC
                        cases hsr : srch ts n m (gs ++ [c]) with
                        | none =>
                          have HPN := Lib.hid (HPS.out.trans hsr)
                          rw [hsr] at HI13
                          clear hsr
                          simp only [Option.getD_none, List.length_nil, Option.isSome_none]
                          go_wp2
                          go_roundg (gk - 1)
                          case measure => have := HQ.out; omega
                          case rel => exact ⟨c + 1, by have := HQ.out; omega, by go_num, fun d hd => by
                              by_cases e : d = c
                              · subst e; exact HPN.out
                              · exact HA.out d (by omega), HB13.out⟩
                        | some r =>
                          have HRS := Lib.hid (show srch ts n (m + 1) gs = some r by rw [HSR.out]; exact firstR_is hlt2 (HPS.out.trans hsr) HA.out)
                          rw [hsr] at HI13
                          clear hsr
                          simp only [Option.getD_some, Option.isSome_some]
                          go_wp2
                          go_ret2
                          exact ⟨⟨_, _, by rw [HRS.out]; rfl, by rw [HRS.out]; exact HI13.out⟩, HB13.out⟩
                    exact AllReadyH.nil
                  exact AllReadyH.nil
                exact AllReadyH.nil
              exact AllReadyH.nil
          · obtain rfl : c = M := by omega
            have HN := Lib.hid (show srch ts n (m + 1) gs = none by rw [HSR.out]; exact firstR_no HA.out)
            have hM1 : ¬ ((c : Int) < n ∧ (c : Int) < (T : Int) + 1) := by omega
            clear B
            go_wp2
            all_goals first | (exfalso; omega) | skip
            all_goals (
              go_ret2
              exact ⟨⟨_, _, by rw [HN.out]; rfl, by rw [HN.out]; exact intF_none _ _ _⟩, HBW.out.alloc HBW.out.size _⟩)

end Go.Proofs.YtdgihkmiolnglaaGreatDoor
