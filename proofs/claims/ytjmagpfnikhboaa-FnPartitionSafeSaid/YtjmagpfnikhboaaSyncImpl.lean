/- Contract of impl.Synchronous. Conditions: the slice's cells hold tasks; its length is at most 2^40. -/
import Derived.Test.YtjmagpfnikhboaaSyncSpec
namespace Go.Proofs.Ytjmagpfnikhboaa
open Go.RowKit Go.Deep

/-- impl.Task.job. -/
theorem job_any (c d q i t : Int) (w : World) (hd : 0 ≤ d ∧ d ≤ 1000) (ht : 0 ≤ t ∧ t ≤ 1000) :
    Calls Try.prog 63 #[.agg #[.int .i64 c, .int .i64 d, .int .i64 q], .int .i64 i, .int .i64 t] w fun e w' =>
      e = .returned (.agg #[.int .i64 i, .int .i64 t, .int .i64 (t + d), .int .i64 c]) ∧ Below w.heap.size w w' := by
  obtain ⟨d0, d1⟩ := hd
  obtain ⟨t0, t1⟩ := ht
  go_enter Try.func63, Try.ntmps63
  go_wp2
  refine bodyPost_ret (v := .agg #[.int .i64 i, .int .i64 t, .int .i64 (t + d), .int .i64 c]) ?_ rfl ⟨rfl, ?_⟩
  · simp [results, Try.results63, go_sem]
  · exact (below_box _ _).alloc (by simp) _

set_option maxRecDepth 100000 in
set_option maxHeartbeats 4000000 in
/-- impl.Synchronous. -/
theorem synchronous_any (a : Option Addr) (cap : Nat) (ts : List T3) (L : Int) (w : World) (hr : Row w a ts) (hn : ts.length ≤ 1099511627776) :
    Calls Try.prog 36 #[.slice a ts.length cap, .int .i64 L] w fun e w' =>
      ∃ v, e = .returned v ∧ OwnJ w' w.heap.size v (syB ts L) ∧ Below w.heap.size w w' := by
  obtain ⟨i0, hi, hz, hsz, hby⟩ := info_parts jobInfo
  have HI := Lib.hid (And.intro hi (And.intro hz (And.intro hsz hby)))
  clear hi hz hsz hby
  have HW := Lib.hid hr
  clear hr
  by_cases hv : svB ts = true
  · have HV := Lib.hid hv
    have hl5 := (sv_all hv).2
    by_cases hL : 0 ≤ L ∧ L ≤ 120
    · have HY0 := Lib.hid (show syB ts L = sy ts L.toNat L.toNat by rw [syB, if_pos ⟨hv, hL⟩])
      obtain ⟨M, rfl⟩ := Int.eq_ofNat_of_zero_le hL.1
      have hM : M ≤ 120 := by omega
      have hm1 : ¬ (M : Int) < 0 := by omega
      have hm2 : ¬ (120 : Int) < M := by omega
      go_enter Try.func36, Try.ntmps36
      go_wp2_with fail
      refine (setValid_any _ _ _ _ HW.out hn).mono ?_
      rintro e w1 ⟨rfl, B1⟩
      rw [HV.out]
      clear hv
      go_wp2
      go_loopg [5, 21] M (fun m s t wr => ∃ k : Nat, m + k = M ∧ t = .int .i64 k ∧ OwnJ wr w.heap.size s (sy ts M k) ∧ Below w.heap.size w wr)
      case atStart => exact ⟨0, by omega, rfl, OwnJ.nil _ _, B1⟩
      case round =>
        obtain ⟨t, hk, rfl, ho, B⟩ := hrel
        have HKO := Lib.hid hk
        obtain ⟨G, hG⟩ : ∃ G, G = gk := ⟨_, rfl⟩
        have HG := Lib.hid hG
        clear hG
        have HO := Lib.hid ho
        have htt : t ≤ M := by omega
        clear hk ho
        by_cases hlt : t < M
        · have hlt' : (t : Int) < M := by omega
          have HSY := Lib.hid (sy_sy (ts := ts) (L := M) (all_of_sv HV.out) hM htt)
          go_wp2
          go_loopg [5, 26] ts.length (fun m s j wr => ∃ i : Nat, m + i = ts.length ∧ j = .int .i64 i ∧ OwnJ wr w.heap.size s (syI ts M t (sy ts M t) i) ∧ Below w.heap.size w wr)
          case atStart => exact ⟨0, by omega, rfl, HO.out, B⟩
          case round =>
            clear HO B
            obtain ⟨i, hk, rfl, ho, B⟩ := hrel
            have HK := Lib.hid hk
            have HO := Lib.hid ho
            have RW := Lib.hid (HW.out.below B)
            have hii : i ≤ ts.length := by omega
            clear hk ho
            by_cases hil : i < ts.length
            · obtain ⟨bt, ot, rfl, hbt, y0, y1, y2⟩ := RW.out.at hil
              have hbd := tv_bd (tk_tv (sv_all HV.out).1 hil)
              have hlen := (syI_sy HSY.out (all_of_sv HV.out) hlt hM (Nat.le_of_lt hil)).len
              have HY := Lib.hid (show syI ts M t (sy ts M t) (i + 1) = if syC ts M t i = true ∧ (syI ts M t (sy ts M t) i).length < 60 then syI ts M t (sy ts M t) i ++ [syJ ts t i] else syI ts M t (sy ts M t) i from rfl)
              unfold syC syJ at HY
              obtain ⟨q, hq⟩ : ∃ q, q = per (tk ts i) := ⟨_, rfl⟩
              obtain ⟨c, hc⟩ : ∃ c, c = cst (tk ts i) := ⟨_, rfl⟩
              obtain ⟨d, hd⟩ : ∃ d, d = dln (tk ts i) := ⟨_, rfl⟩
              rw [← hq, ← hc, ← hd] at hbd
              obtain ⟨p1, p2, p3, p4, p5, p6, p7, p8⟩ := hbd
              rw [← p6] at y0 HY
              rw [← p7] at y1 HY
              rw [← p8] at y2
              rw [← hq, ← hd] at HY
              obtain ⟨o, hoo⟩ : ∃ o, o = syI ts M t (sy ts M t) i := ⟨_, rfl⟩
              rw [← hoo] at hlen
              rw [← hoo] at HY HO
              clear hq hc hd hoo p6 p7 p8
              obtain ⟨ao, capo, rfl⟩ := HO.out.shape
              have hi0 : (0 : Int) ≤ i := by omega
              have hi1 : (i : Int) < ts.length := by omega
              have hqn : ((q : Int) == 0) = false := by simp; omega
              have hq0 : (0 : Int) < q := by omega
              have HB2 := Lib.hid (B.alloc B.size (.cells #[.int .i64 (c : Int), .int .i64 (d : Int), .int .i64 (q : Int)] 36))
              have HO2 := Lib.hid (HO.out.below (below_box wr (.cells #[.int .i64 (c : Int), .int .i64 (d : Int), .int .i64 (q : Int)] 36)))
              by_cases h1 : t % q = 0
              · have h1' : ((t : Int) % q == 0) = true := by simp; omega
                by_cases h2 : t + d ≤ M
                · have h2' : (t : Int) + d ≤ M := by omega
                  by_cases h3 : o.length < 60
                  · have h3' : (o.length : Int) < 60 := by omega
                    go_wp2_with fail
                    refine (job_any _ _ _ _ _ _ (by omega) (by omega)).mono ?_
                    rintro e w3 ⟨rfl, b3⟩
                    have HB3 := Lib.hid (HB2.out.trans (b3.mono HB2.out.size))
                    have HO3 := Lib.hid (HO2.out.below b3)
                    clear b3 HB2 HO2
                    go_wp2_with (at_builtin; refine wpList_append_own _ rfl (.tmp 49) (.tmp 54) 48 rfl w.heap.size 82 i0 _ 4 32 Try.underlying48 HI.out.1 HI.out.2.1 HI.out.2.2.1 HI.out.2.2.2 rfl (by decide) _ o.length (vals (fJ o) (o.length * 4)) rfl (World.ownsRow.alloc HO3.out _) ⟨w3.heap.size, 0, none⟩ 1 1 [.int .i64 (i : Int), .int .i64 (t : Int), .int .i64 ((t : Int) + d), .int .i64 (c : Int)] rfl rfl (news4 w3 (i : Int) (t : Int) ((t : Int) + d) (c : Int) _) (one4 _ _ _ _) (by unfold maxLen; omega) (by omega) (Nat.le_trans HB3.out.size (by simp)) ?_; intro v' w' hown' hgrow hnil)
                    have HO4 := Lib.hid (OwnJ.push hown')
                    have HB4 := Lib.hid ((HB3.out.alloc HB3.out.size _).grown hgrow (Nat.le_trans HB3.out.size (by simp)) (fun k hk => (HO3.out.lt k hk).1))
                    clear hown' hgrow hnil
                    go_roundg (gk - 1)
                    case measure => have := HK.out; omega
                    case rel => exact ⟨i + 1, by have := HK.out; omega, by go_num, by rw [HY.out, if_pos (by simp [*])]; exact HO4.out, HB4.out⟩
                  · have h3' : ¬ (o.length : Int) < 60 := by omega
                    go_wp2
                    go_roundg (gk - 1)
                    case measure => have := HK.out; omega
                    case rel => exact ⟨i + 1, by have := HK.out; omega, by go_num, by rw [HY.out, if_neg (fun h => h3 h.2)]; exact HO2.out, HB2.out⟩
                · have h2' : ¬ (t : Int) + d ≤ M := by omega
                  go_wp2
                  go_roundg (gk - 1)
                  case measure => have := HK.out; omega
                  case rel => exact ⟨i + 1, by have := HK.out; omega, by go_num, by rw [HY.out, if_neg (by simp; omega)]; exact HO2.out, HB2.out⟩
              · have h1' : ((t : Int) % q == 0) = false := by simp; omega
                go_wp2
                go_roundg (gk - 1)
                case measure => have := HK.out; omega
                case rel => exact ⟨i + 1, by have := HK.out; omega, by go_num, by rw [HY.out, if_neg (by simp; omega)]; exact HO2.out, HB2.out⟩
            · obtain rfl : i = ts.length := by omega
              go_wp2
              go_roundg (G - 1)
              case measure => have := HG.out; have := HKO.out; omega
              case rel => exact ⟨t + 1, by have := HG.out; have := HKO.out; omega, by go_num, HO.out, B⟩
        · obtain rfl : t = M := by omega
          go_wp2
          go_ret
          exact ⟨_, rfl, by rw [HY0.out, Int.toNat_natCast]; exact HO.out, B⟩
    · have HY0 := Lib.hid (show syB ts L = [] by rw [syB, if_neg (fun h => hL h.2)])
      go_enter Try.func36, Try.ntmps36
      go_wp2_with fail
      refine (setValid_any _ _ _ _ HW.out hn).mono ?_
      rintro e w1 ⟨rfl, B1⟩
      rw [HV.out]
      have HNL := Lib.hid hL
      clear hv hL
      by_cases hL0 : L < 0
      · go_wp2
        go_ret
        exact ⟨_, rfl, by rw [HY0.out]; exact OwnJ.nil _ _, B1⟩
      · have hL1 : (120 : Int) < L := by have := HNL.out; omega
        go_wp2
        go_ret
        exact ⟨_, rfl, by rw [HY0.out]; exact OwnJ.nil _ _, B1⟩
  · have hv' : svB ts = false := by simpa using hv
    have HY0 := Lib.hid (show syB ts L = [] by rw [syB, if_neg (fun h => hv h.1)])
    go_enter Try.func36, Try.ntmps36
    go_wp2_with fail
    refine (setValid_any _ _ _ _ HW.out hn).mono ?_
    rintro e w1 ⟨rfl, B1⟩
    rw [hv']
    clear hv hv'
    go_wp2
    go_ret
    exact ⟨_, rfl, by rw [HY0.out]; exact OwnJ.nil _ _, B1⟩

end Go.Proofs.Ytjmagpfnikhboaa
