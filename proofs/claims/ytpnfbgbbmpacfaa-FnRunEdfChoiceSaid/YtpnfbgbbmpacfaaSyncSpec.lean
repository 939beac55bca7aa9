/- Contract of spec.Synchronous. Conditions: the slice's cells hold tasks; its length is at most 2^40. -/
import Derived.Test.YtpnfbgbbmpacfaaJobsB
import Derived.Test.YtpnfbgbbmpacfaaLegalSpec
namespace Go.Proofs.Ytpnfbgbbmpacfaa
open Go.RowKit Go.Deep

/-- The synchronous pattern up to L; none for invalid arguments. -/
def syB (ts : List T3) (L : Int) : List J4 := if svB ts = true ∧ 0 ≤ L ∧ L ≤ 120 then sy ts L.toNat L.toNat else []
theorem news4D (w : World) (i r d e : Int) (t : TypeId) : ∀ (j : Nat) (u : Value), [Value.int .i64 i, .int .i64 r, .int .i64 d, .int .i64 e][j]? = some u → (w.alloc (.cells #[.int .i64 i, .int .i64 r, .int .i64 d, .int .i64 e] t)).drew.cell? ((⟨w.heap.size, 0, none⟩ : Addr).add j) = some u := news4 w i r d e t

set_option maxRecDepth 100000 in
set_option maxHeartbeats 4000000 in
/-- spec.Synchronous. -/
theorem specSynchronous_any (a : Option Addr) (cap : Nat) (ts : List T3) (L : Int) (w : World) (hr : Row w a ts) (hn : ts.length ≤ 1099511627776) :
    Calls Try.prog 21 #[.slice a ts.length cap, .int .i64 L] w fun e w' =>
      ∃ v, e = .returned v ∧ OwnJ w' w.heap.size v (syB ts L) ∧ Below w.heap.size w w' := by
  obtain ⟨i0, hi, hz, hsz, hby⟩ := info_parts jobInfo
  have HI := Lib.hid (And.intro hi (And.intro hz (And.intro hsz hby)))
  clear hi hz hsz hby
  have b0 := below_box w (.cells #[] 30)
  have HR := Lib.hid (hr.below b0)
  have HW := Lib.hid hr
  clear hr
  by_cases hv : svB ts = true
  · have HV := Lib.hid hv
    have hl5 := (sv_all hv).2
    by_cases hL : 0 ≤ L ∧ L ≤ 120
    · have hL' : inB L 0 120 = true := decide_eq_true hL
      have HY0 := Lib.hid (show syB ts L = sy ts L.toNat L.toNat by rw [syB, if_pos ⟨hv, hL⟩])
      obtain ⟨M, rfl⟩ := Int.eq_ofNat_of_zero_le hL.1
      have hM : M ≤ 120 := by omega
      go_enter Try.func21, Try.ntmps21
      go_wp2_with fail
      refine (specSetValid_any _ _ _ _ HR.out hn).mono ?_
      rintro e w1 ⟨rfl, b1⟩
      have R1 := Lib.hid (HR.out.below b1)
      have O1 := Lib.hid ((OwnJ.empty w).below b1)
      have B1 := b0.trans (b1.mono b0.size)
      go_wp2_with fail
      refine (l1In_any _ _ _ _).mono ?_
      rintro e w2 ⟨rfl, rfl⟩
      rw [hL']
      clear hL' hv b0 b1 HR
      go_wp2
      go_loopg [5, 6] M (fun m s t wr => ∃ k : Nat, m + k = M ∧ t = .int .i64 k ∧ OwnJ wr w.heap.size s (sy ts M k) ∧ Below w.heap.size w wr)
      case atStart => exact ⟨0, by omega, rfl, O1.out, B1⟩
      case round =>
        clear O1 R1
        obtain ⟨t, hk, rfl, ho, B⟩ := hrel
        have HKO := Lib.hid hk
        obtain ⟨G, hG⟩ : ∃ G, G = gk := ⟨_, rfl⟩
        have HG := Lib.hid hG
        clear hG
        have HO := Lib.hid ho
        have htt : t ≤ M := by omega
        clear hk ho
        by_cases hlt : t < M
        · have hlt' : (t : Int) < M := by omega
          have HSY := Lib.hid (sy_sy (ts := ts) (L := M) (all_of_sv HV.out) hM htt)
          go_wp2
          go_loopg [5, 7] ts.length (fun m s j wr => ∃ i : Nat, m + i = ts.length ∧ j = .int .i64 i ∧ OwnJ wr w.heap.size s (syI ts M t (sy ts M t) i) ∧ Below w.heap.size w wr)
          case atStart => exact ⟨0, by omega, rfl, HO.out, B⟩
          case round =>
            clear HO B
            obtain ⟨i, hk, rfl, ho, B⟩ := hrel
            have HK := Lib.hid hk
            have HO := Lib.hid ho
            have RW := Lib.hid (HW.out.below B)
            have hii : i ≤ ts.length := by omega
            clear hk ho
            by_cases hil : i < ts.length
            · obtain ⟨bt, ot, rfl, hbt, y0, y1, y2⟩ := RW.out.at hil
              have hbd := tv_bd (tk_tv (sv_all HV.out).1 hil)
              have hlen := (syI_sy HSY.out (all_of_sv HV.out) hlt hM (Nat.le_of_lt hil)).len
              have HY := Lib.hid (show syI ts M t (sy ts M t) (i + 1) = if syC ts M t i = true ∧ (syI ts M t (sy ts M t) i).length < 60 then syI ts M t (sy ts M t) i ++ [syJ ts t i] else syI ts M t (sy ts M t) i from rfl)
              unfold syC syJ at HY
              obtain ⟨q, hq⟩ : ∃ q, q = per (tk ts i) := ⟨_, rfl⟩
              obtain ⟨c, hc⟩ : ∃ c, c = cst (tk ts i) := ⟨_, rfl⟩
              obtain ⟨d, hd⟩ : ∃ d, d = dln (tk ts i) := ⟨_, rfl⟩
              rw [← hq, ← hc, ← hd] at hbd
              obtain ⟨p1, p2, p3, p4, p5, p6, p7, p8⟩ := hbd
              rw [← p6] at y0 HY
              rw [← p7] at y1 HY
              rw [← p8] at y2
              rw [← hq, ← hd] at HY
              obtain ⟨o, hoo⟩ : ∃ o, o = syI ts M t (sy ts M t) i := ⟨_, rfl⟩
              rw [← hoo] at hlen
              rw [← hoo] at HY HO
              have P6 := p6
              have P7 := p7
              clear hq hc hd hoo p6 p7 p8
              obtain ⟨ao, capo, rfl⟩ := HO.out.shape
              obtain ⟨bt', ot', e', hbtw, z0, z1, _⟩ := HW.out.at hil
              simp only [Option.some.injEq, Addr.mk.injEq, and_true] at e'
              obtain ⟨rfl, rfl⟩ := e'
              rw [← P6] at z0
              rw [← P7] at z1
              clear P6 P7
              have hi0 : (0 : Int) ≤ i := by omega
              have hi1 : (i : Int) < ts.length := by omega
              have hqn : ((q : Int) == 0) = false := by simp; omega
              have hq0 : (0 : Int) < q := by omega
              by_cases h1 : t % q = 0
              · have h1' : ((t : Int) % q == 0) = true := by simp; omega
                by_cases h2 : t + d ≤ M
                · have h2' : (t : Int) + d ≤ M := by omega
                  by_cases h3 : o.length < 60
                  · have h3' : (o.length : Int) < 60 := by omega
                    go_wp2
                    have hwtd : IntKind.i64.wrap ((t : Int) + d) = (t : Int) + d := IntWalk.i64_in _ (by omega)
                    refine wp_region_noPanic ?_
                    refine wp_region_held_drew (S := fun w' => w'.cell? ⟨bt, ot + i * 3, none⟩ = some (.int .i64 (c : Int)) ∧ w'.cell? ⟨bt, ot + i * 3 + 1, none⟩ = some (.int .i64 (d : Int))) (by kernel_rfl) ?_ (fun hHeld => ?_)
                    · (try dsimp only)
                      (first | exact ⟨y0, y1⟩ | exact hHeld | exact ⟨((below_box wr _).drew.cell (p := ⟨bt, ot + i * 3, none⟩) hbt).trans y0, ((below_box wr _).drew.cell (p := ⟨bt, ot + i * 3 + 1, none⟩) hbt).trans y1⟩ | exact ⟨(HX.out.cell (p := ⟨bt, ot + i * 3, none⟩) hbtw).trans z0, (HX.out.cell (p := ⟨bt, ot + i * 3 + 1, none⟩) hbtw).trans z1⟩)
                    refine wpAnyH_take (i := 0) (v := ?_) (toArr_get _ 0 _ rfl) (by kernel_rfl) (by kernel_rfl) (by kernel_rfl) (fun _ _ _ h => h) (Or.inl ⟨by rfl, ?_⟩) (by assumption) ?_
                    rotate_left
                    · (intro w hSw; (try dsimp only at hSw); go_simp; (try with_reducible rfl))
                    (try simp only [Act.put, List.setIfInBounds_toArray, List.set_cons_zero, List.set_cons_succ])
                    refine wpAnyH_take (i := 1) (v := ?_) (toArr_get _ 1 _ rfl) (by kernel_rfl) (by kernel_rfl) (by kernel_rfl) (fun _ _ _ h => h) (Or.inl ⟨by rfl, ?_⟩) (by assumption) ?_
                    rotate_left
                    · (intro w hSw; (try dsimp only at hSw); go_simp; (try with_reducible rfl))
                    (try simp only [Act.put, List.setIfInBounds_toArray, List.set_cons_zero, List.set_cons_succ])
                    refine wpAnyH_take (i := 2) (v := ?_) (toArr_get _ 2 _ rfl) (by kernel_rfl) (by kernel_rfl) (by kernel_rfl) (fun _ _ _ h => h) (Or.inl ⟨by rfl, ?_⟩) (by assumption) ?_
                    rotate_left
                    · (intro w hSw; (try dsimp only at hSw); go_simp; (try with_reducible rfl))
                    (try simp only [Act.put, List.setIfInBounds_toArray, List.set_cons_zero, List.set_cons_succ])
                    refine wpAnyH_take (i := 3) (v := ?_) (toArr_get _ 3 _ rfl) (by kernel_rfl) (by kernel_rfl) (by kernel_rfl) (fun _ _ _ h => h) (Or.inl ⟨by rfl, ?_⟩) (by assumption) ?_
                    rotate_left
                    · (intro w hSw; (try dsimp only at hSw); go_simp; (try with_reducible rfl))
                    (try simp only [Act.put, List.setIfInBounds_toArray, List.set_cons_zero, List.set_cons_succ])
                    refine wpAnyH_take (i := 4) (v := ?_) (toArr_get _ 4 _ rfl) (by kernel_rfl) (by kernel_rfl) (by kernel_rfl) (fun _ _ _ h => h) (Or.inl ⟨by rfl, ?_⟩) (by assumption) ?_
                    rotate_left
                    · (intro w hSw; (try dsimp only at hSw); go_simp; (try with_reducible rfl))
                    (try simp only [Act.put, List.setIfInBounds_toArray, List.set_cons_zero, List.set_cons_succ])
                    refine wpAnyH_take (i := 5) (v := ?_) (toArr_get _ 5 _ rfl) (by kernel_rfl) (by kernel_rfl) (by kernel_rfl) (fun _ _ _ h => h) (Or.inl ⟨by rfl, ?_⟩) (by assumption) ?_
                    rotate_left
                    · (intro w hSw; (try dsimp only at hSw); go_simp; (try with_reducible rfl))
                    (try simp only [Act.put, List.setIfInBounds_toArray, List.set_cons_zero, List.set_cons_succ])
                    refine wpAnyH_take (i := 6) (v := ?_) (toArr_get _ 6 _ rfl) (by kernel_rfl) (by kernel_rfl) (by kernel_rfl) (fun _ _ _ h => h) (Or.inl ⟨by rfl, ?_⟩) (by assumption) ?_
                    rotate_left
                    · (intro w hSw; (try dsimp only at hSw); go_simp; (try with_reducible rfl))
                    (try simp only [Act.put, List.setIfInBounds_toArray, List.set_cons_zero, List.set_cons_succ])
                    refine wpAnyH_take (i := 7) (v := ?_) (toArr_get _ 7 _ rfl) (by kernel_rfl) (by kernel_rfl) (by kernel_rfl) (fun _ _ _ h => h) (Or.inl ⟨by rfl, ?_⟩) (by assumption) ?_
                    rotate_left
                    · (intro w hSw; (try dsimp only at hSw); go_simp; (try with_reducible rfl))
                    (try simp only [Act.put, List.setIfInBounds_toArray, List.set_cons_zero, List.set_cons_succ])
                    refine wpAnyH_take (i := 8) (v := ?_) (toArr_get _ 8 _ rfl) (by kernel_rfl) (by kernel_rfl) (by kernel_rfl) (fun _ _ _ h => h) (Or.inl ⟨by rfl, ?_⟩) (by assumption) ?_
                    rotate_left
                    · (intro w hSw; (try dsimp only at hSw); go_simp; (try with_reducible rfl))
                    (try simp only [Act.put, List.setIfInBounds_toArray, List.set_cons_zero, List.set_cons_succ])
                    refine wpAnyH_take (i := 9) (v := ?_) (toArr_get _ 9 _ rfl) (by kernel_rfl) (by kernel_rfl) (by kernel_rfl) (fun _ _ _ h => h) (Or.inl ⟨by rfl, ?_⟩) (by assumption) ?_
                    rotate_left
                    · (intro w hSw; (try dsimp only at hSw); go_simp; (try with_reducible rfl))
                    (try simp only [Act.put, List.setIfInBounds_toArray, List.set_cons_zero, List.set_cons_succ])
                    refine wpAnyH_take (i := 10) (v := ?_) (toArr_get _ 10 _ rfl) (by kernel_rfl) (by kernel_rfl) (by kernel_rfl) (fun _ _ _ h => h) (Or.inl ⟨by rfl, ?_⟩) (by assumption) ?_
                    rotate_left
                    · (intro w hSw; (try dsimp only at hSw); go_simp; (try with_reducible rfl))
                    (try simp only [Act.put, List.setIfInBounds_toArray, List.set_cons_zero, List.set_cons_succ])
                    refine wpAnyH_take (i := 11) (v := ?_) (toArr_get _ 11 _ rfl) (by kernel_rfl) (by kernel_rfl) (by kernel_rfl) (fun _ _ _ h => h) (Or.inl ⟨by rfl, ?_⟩) (by assumption) ?_
                    rotate_left
                    · (intro w hSw; (try dsimp only at hSw); go_simp; (try with_reducible rfl))
                    (try simp only [Act.put, List.setIfInBounds_toArray, List.set_cons_zero, List.set_cons_succ])
                    refine wpAnyH_take (i := 12) (v := ?_) (toArr_get _ 12 _ rfl) (by kernel_rfl) (by kernel_rfl) (by kernel_rfl) (fun _ _ _ h => h) (Or.inl ⟨by rfl, ?_⟩) (by assumption) ?_
                    rotate_left
                    · (intro w hSw; (try dsimp only at hSw); go_simp; (try with_reducible rfl))
                    (try simp only [Act.put, List.setIfInBounds_toArray, List.set_cons_zero, List.set_cons_succ])
                    refine wpAnyH_take (i := 13) (v := ?_) (toArr_get _ 13 _ rfl) (by kernel_rfl) (by kernel_rfl) (by kernel_rfl) (fun _ _ _ h => h) (Or.inl ⟨by rfl, ?_⟩) (by assumption) ?_
                    rotate_left
                    · (intro w hSw; (try dsimp only at hSw); go_simp; (try with_reducible rfl))
                    (try simp only [Act.put, List.setIfInBounds_toArray, List.set_cons_zero, List.set_cons_succ])
                    refine wpAnyH_take (i := 14) (v := ?_) (toArr_get _ 14 _ rfl) (by kernel_rfl) (by kernel_rfl) (by kernel_rfl) (fun _ _ _ h => h) (Or.inl ⟨by rfl, ?_⟩) (by assumption) ?_
                    rotate_left
                    · (intro w hSw; (try dsimp only at hSw); go_simp; (try with_reducible rfl))
                    (try simp only [Act.put, List.setIfInBounds_toArray, List.set_cons_zero, List.set_cons_succ])
                    refine wpAnyH_take (i := 15) (v := ?_) (toArr_get _ 15 _ rfl) (by kernel_rfl) (by kernel_rfl) (by kernel_rfl) (fun _ _ _ h => h) (Or.inl ⟨by rfl, ?_⟩) (by assumption) ?_
                    rotate_left
                    · (intro w hSw; (try dsimp only at hSw); go_simp; (try with_reducible rfl))
                    (try simp only [Act.put, List.setIfInBounds_toArray, List.set_cons_zero, List.set_cons_succ])
                    refine wpAnyH_ready (rs := [16]) (by kernel_rfl) (by simp) ?_
                    refine AllReadyH.cons (toArr_get _ 16 _ rfl) (fun K hK => ?_) ?_
                    · go_simp
                      refine hK.out _ _ ?_ (fun hHeld2 => ?_)
                      · (try dsimp only)
                        (first | exact ⟨y0, y1⟩ | exact hHeld | exact ⟨((below_box wr _).drew.cell (p := ⟨bt, ot + i * 3, none⟩) hbt).trans y0, ((below_box wr _).drew.cell (p := ⟨bt, ot + i * 3 + 1, none⟩) hbt).trans y1⟩ | exact ⟨(HX.out.cell (p := ⟨bt, ot + i * 3, none⟩) hbtw).trans z0, (HX.out.cell (p := ⟨bt, ot + i * 3 + 1, none⟩) hbtw).trans z1⟩)
                      clear hK K hHeld
                      have hHeld := hHeld2
                      clear hHeld2
                      (try simp only [Act.put, List.setIfInBounds_toArray, List.set_cons_zero, List.set_cons_succ])
                      refine wpAnyH_ready (rs := [17]) (by kernel_rfl) (by simp) ?_
                      refine AllReadyH.cons (toArr_get _ 17 _ rfl) (fun K hK => ?_) ?_
                      · rw [if_pos (by rfl)]
                        refine wp_append_own _ (.tmp 53) (.tmp 69) 24 rfl w.heap.size 30 i0 _ 4 32 Try.underlying24 HI.out.1 HI.out.2.1 HI.out.2.2.1 HI.out.2.2.2 rfl (by decide) _ o.length (vals (fJ o) (o.length * 4)) rfl (World.ownsRow.drew (World.ownsRow.alloc HO.out _)) ⟨wr.heap.size, 0, none⟩ 1 1 [.int .i64 (i : Int), .int .i64 (t : Int), .int .i64 ((t : Int) + d), .int .i64 (c : Int)] rfl rfl (news4D wr (i : Int) (t : Int) ((t : Int) + d) (c : Int) _) (one4 _ _ _ _) (by unfold maxLen; omega) (by omega) (by simp; exact Nat.le_succ_of_le B.size) ?_
                        intro v' w' hown' hgrow hnil
                        have HO1 := Lib.hid (OwnJ.push hown')
                        have HB1 := Lib.hid ((B.alloc B.size _).drew.grown hgrow (by simp; exact Nat.le_succ_of_le B.size) (fun k hk => (HO.out.lt k hk).1))
                        have HX := HB1
                        clear hown' hgrow hnil
                        refine hK.out _ _ ?_ (fun hHeld2 => ?_)
                        · (try dsimp only)
                          (first | exact ⟨y0, y1⟩ | exact hHeld | exact ⟨((below_box wr _).drew.cell (p := ⟨bt, ot + i * 3, none⟩) hbt).trans y0, ((below_box wr _).drew.cell (p := ⟨bt, ot + i * 3 + 1, none⟩) hbt).trans y1⟩ | exact ⟨(HX.out.cell (p := ⟨bt, ot + i * 3, none⟩) hbtw).trans z0, (HX.out.cell (p := ⟨bt, ot + i * 3 + 1, none⟩) hbtw).trans z1⟩)
                        clear hK K hHeld
                        have hHeld := hHeld2
                        clear hHeld2
                        (try simp only [Act.put, List.setIfInBounds_toArray, List.set_cons_zero, List.set_cons_succ])
                        refine wpAnyH_take (i := 18) (v := ?_) (toArr_get _ 18 _ rfl) (by kernel_rfl) (by kernel_rfl) (by kernel_rfl) (fun _ _ _ h => h) (Or.inl ⟨by rfl, ?_⟩) (by assumption) ?_
                        rotate_left
                        · (intro w hSw; (try dsimp only at hSw); go_simp; (try with_reducible rfl))
                        (try simp only [Act.put, List.setIfInBounds_toArray, List.set_cons_zero, List.set_cons_succ])
                        refine wpAnyH_done (by kernel_rfl) ?_ _
                        refine NoPanic.normal ?_
                        go_wp2
                        go_roundg (gk - 1)
                        case measure => have := HK.out; omega
                        case rel => exact ⟨i + 1, by have := HK.out; omega, by go_num, by rw [HY.out, if_pos (by simp [*])]; exact HO1.out, HB1.out⟩
                      exact AllReadyH.nil
                    exact AllReadyH.nil
                  · have h3' : ¬ (o.length : Int) < 60 := by omega
                    go_wp2
                    go_roundg (gk - 1)
                    case measure => have := HK.out; omega
                    case rel => exact ⟨i + 1, by have := HK.out; omega, by go_num, by rw [HY.out, if_neg (fun h => h3 h.2)]; exact HO.out, B⟩
                · have h2' : ¬ (t : Int) + d ≤ M := by omega
                  go_wp2
                  go_roundg (gk - 1)
                  case measure => have := HK.out; omega
                  case rel => exact ⟨i + 1, by have := HK.out; omega, by go_num, by rw [HY.out, if_neg (by simp; omega)]; exact HO.out, B⟩
              · have h1' : ((t : Int) % q == 0) = false := by simp; omega
                go_wp2
                go_roundg (gk - 1)
                case measure => have := HK.out; omega
                case rel => exact ⟨i + 1, by have := HK.out; omega, by go_num, by rw [HY.out, if_neg (by simp [h1])]; exact HO.out, B⟩
            · obtain rfl : i = ts.length := by omega
              go_wp2
              go_roundg (G - 1)
              case measure => have := HKO.out; have := HG.out; omega
              case rel => exact ⟨t + 1, by have := HKO.out; have := HG.out; omega, by go_num, HO.out, B⟩
        · obtain rfl : t = M := by omega
          go_wp2
          go_ret
          exact ⟨_, rfl, by rw [HY0.out]; exact HO.out, B⟩
    · have hL' : inB L 0 120 = false := decide_eq_false hL
      have HY0 := Lib.hid (show syB ts L = [] by rw [syB, if_neg (fun h => hL h.2)])
      go_enter Try.func21, Try.ntmps21
      go_wp2_with fail
      refine (specSetValid_any _ _ _ _ HR.out hn).mono ?_
      rintro e w1 ⟨rfl, b1⟩
      have O1 := Lib.hid ((OwnJ.empty w).below b1)
      have B1 := b0.trans (b1.mono b0.size)
      go_wp2_with fail
      refine (l1In_any _ _ _ _).mono ?_
      rintro e w2 ⟨rfl, rfl⟩
      rw [hL']
      go_wp2
      go_ret
      exact ⟨_, rfl, by rw [HY0.out]; exact O1.out, B1⟩
  · have hv' : svB ts = false := by simpa using hv
    have HY0 := Lib.hid (show syB ts L = [] by rw [syB, if_neg (fun h => hv h.1)])
    clear hv
    go_enter Try.func21, Try.ntmps21
    go_wp2_with fail
    refine (specSetValid_any _ _ _ _ HR.out hn).mono ?_
    rintro e w1 ⟨rfl, b1⟩
    have O1 := Lib.hid ((OwnJ.empty w).below b1)
    have B1 := b0.trans (b1.mono b0.size)
    go_wp2
    go_ret
    exact ⟨_, rfl, by rw [HY0.out]; exact O1.out, B1⟩

end Go.Proofs.Ytpnfbgbbmpacfaa
