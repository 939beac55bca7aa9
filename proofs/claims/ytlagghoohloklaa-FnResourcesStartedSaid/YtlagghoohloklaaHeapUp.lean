/- Contracts of container/heap's up, down, Push and Pop over impl.readyJobs. Conditions: the cells hold what is said; at most 60 jobs. -/
import Derived.Test.YtlagghoohloklaaHeapOps
namespace Go.Proofs.Ytlagghoohloklaa
open Go.RowKit Go.Deep
variable {w0 w w' : World} {R N n : Nat} {cb v : Value} {f : Nat → Nat}

def rdyV (R : Nat) : Value := .iface 76 (.pointer (some ⟨R, 0, none⟩))

theorem m_less (R : Nat) (w : World) : (method 240 76 (.pointer (some ⟨R, 0, none⟩)) "Less").run Try.prog w = .ok (154, .pointer (some ⟨R, 0, none⟩)) w := by kernel_rfl
theorem m_swap (R : Nat) (w : World) : (method 240 76 (.pointer (some ⟨R, 0, none⟩)) "Swap").run Try.prog w = .ok (157, .pointer (some ⟨R, 0, none⟩)) w := by kernel_rfl
theorem m_len (R : Nat) (w : World) : (method 240 76 (.pointer (some ⟨R, 0, none⟩)) "Len").run Try.prog w = .ok (92, .pointer (some ⟨R, 0, none⟩)) w := by kernel_rfl
theorem m_push (R : Nat) (w : World) : (method 240 76 (.pointer (some ⟨R, 0, none⟩)) "Push").run Try.prog w = .ok (156, .pointer (some ⟨R, 0, none⟩)) w := by kernel_rfl
theorem m_pop (R : Nat) (w : World) : (method 240 76 (.pointer (some ⟨R, 0, none⟩)) "Pop").run Try.prog w = .ok (155, .pointer (some ⟨R, 0, none⟩)) w := by kernel_rfl
theorem par_quo {k : Nat} (h : 0 < k) : ((k : Int) - 1).tdiv 2 = (par k : Nat) := by
  obtain ⟨q, rfl⟩ : ∃ q, k = q + 1 := ⟨k - 1, by omega⟩
  rw [show ((q + 1 : Nat) : Int) - 1 = (q : Nat) by omega]
  simp [par]

set_option maxRecDepth 100000 in
/-- container/heap.up. -/
theorem up_any {ja : Option Addr} {jcap : Nat} {js : List J4} {K : Nat → Nat} {j : Nat} (hC : Cmp w0 cb ja jcap js K) (h : HS w0 R cb js.length w v n f) (hj : j < n) (hn : n ≤ 61) (hu : UpOk K f n j) :
    Calls Try.prog 115 #[rdyV R, .int .i64 (j : Int)] w fun e w' =>
      e = .returned (.tuple #[]) ∧ ∃ f', HS w0 R cb js.length w' v n f' ∧ HeapOk K f' n ∧ Mixed n f f' ∧ Chg R v.ownBlock w w' := by
  obtain ⟨g, cap, rfl, -⟩ := h.own.at (Nat.zero_lt_of_lt hj)
  have HC := Lib.hid hC
  have HH := Lib.hid h
  have HU := Lib.hid hu
  clear hC h hu
  unfold rdyV
  have ml := m_less R
  have ms := m_swap R
  go_enter Try.func115, Try.ntmps115
  go_wp2
  go_loopg [1] j (fun m s wr => ∃ (k : Nat) (f' : Nat → Nat), m = k ∧ s = .int .i64 k ∧ k < n ∧ HS w0 R cb js.length wr (.slice (some ⟨g, 0, none⟩) n cap) n f' ∧ UpOk K f' n k ∧ Mixed n f f' ∧ Chg R (some g) w wr)
  case atStart => exact ⟨j, f, rfl, rfl, hj, HH.out, HU.out, Mixed.refl _ _, Chg.refl _ _ _⟩
  case round =>
    obtain ⟨k, f', hgk, rfl, hk, hS, hU, hM, hG⟩ := hrel
    have HGK := Lib.hid hgk
    have HS1 := Lib.hid hS
    have HU1 := Lib.hid hU
    have HM1 := Lib.hid hM
    have HG1 := Lib.hid hG
    clear hgk hS hU hM hG HH HU
    by_cases hk0 : k = 0
    · subst hk0
      go_wp2
      go_end0
      exact ⟨rfl, _, HS1.out, HU1.out.done0, HM1.out, HG1.out⟩
    · have hp := par_quo (Nat.pos_of_ne_zero hk0)
      have hpk : par k < k := by unfold par; omega
      obtain ⟨p, hpp⟩ : ∃ p, p = par k := ⟨_, rfl⟩
      rw [← hpp] at hp hpk
      have HP := Lib.hid hpp
      have hb : ((p : Int) == (k : Int)) = false := by simp; omega
      clear hpp hk0
      go_wp2_with fail
      refine (less_any HC.out HS1.out hk (by omega)).mono ?_
      rintro e w1 ⟨rfl, b1⟩
      have HS2 := Lib.hid (HS1.out.below b1)
      have HG2 := Lib.hid (HG1.out.trans (Chg.of_below (g := some g) b1) (fun _ h => .inl h))
      by_cases hlt : K (f' k) < K (f' p)
      · rw [decide_eq_true hlt]
        have HLT := Lib.hid hlt
        clear hlt
        go_wp2_with fail
        refine (swap_any HS2.out (by omega) hk).mono ?_
        rintro e w2 ⟨rfl, h2, g2⟩
        have HS3 := Lib.hid h2
        have HG3 := Lib.hid (HG2.out.trans g2 (fun _ h => .inl h))
        clear h2 g2
        go_wp2
        go_roundg p
        case measure => have := HGK.out; omega
        case rel => exact ⟨p, swp f' p k, rfl, rfl, by omega, HS3.out, by have h := HU1.out.step (by omega) hk (by rw [← HP.out]; exact HLT.out); rwa [← HP.out] at h, HM1.out.trans (Mixed.ofSwp f' (by omega) hk), HG3.out⟩
      · rw [decide_eq_false hlt]
        go_wp2
        go_end0
        exact ⟨rfl, _, HS2.out, HU1.out.done (by rw [← HP.out]; omega), HM1.out, HG2.out⟩

theorem two_le {K f : Nat → Nat} {k c1 c2 c x : Nat} (h : c1 = 2 * k + 1 ∧ c2 = 2 * k + 2) (hp : par c = k) (h0 : 0 < c) (a : x ≤ K (f c1)) (b : x ≤ K (f c2)) : x ≤ K (f c) := by
  rcases par_two hp h0 with e | e
  · rw [e, ← h.1]; exact a
  · rw [e, ← h.2]; exact b
theorem one_le {K f : Nat → Nat} {k c1 c2 c m : Nat} (h : c1 = 2 * k + 1 ∧ c2 = 2 * k + 2) (hp : par c = k) (h0 : 0 < c) (hc : c < m) (hm : m ≤ c2) : K (f c1) ≤ K (f c) := by
  rcases par_two hp h0 with e | e
  · rw [e, ← h.1]; exact Nat.le_refl _
  · omega
def SomeB (e : Ending) : Prop := ∃ b, e = .returned (.bool b)

set_option maxRecDepth 100000 in
set_option maxHeartbeats 2000000 in
/-- container/heap.down from the top, over the first m of m + 1 elements. -/
theorem down_any {ja : Option Addr} {jcap : Nat} {js : List J4} {K : Nat → Nat} {m : Nat} (hC : Cmp w0 cb ja jcap js K) (h : HS w0 R cb js.length w v (m + 1) f) (hn : m ≤ 60) (hd : DownOk K f m 0) :
    Calls Try.prog 117 #[rdyV R, .int .i64 0, .int .i64 (m : Int)] w fun e w' =>
      SomeB e ∧ ∃ f', HS w0 R cb js.length w' v (m + 1) f' ∧ HeapOk K f' m ∧ Mixed m f f' ∧ f' m = f m ∧ Chg R v.ownBlock w w' := by
  obtain ⟨g, cap, rfl, -⟩ := h.own.at (Nat.succ_pos m)
  have HC := Lib.hid hC
  have HH := Lib.hid h
  have HU := Lib.hid hd
  clear hC h hd
  unfold rdyV
  have ml := m_less R
  have ms := m_swap R
  go_enter Try.func117, Try.ntmps117
  go_wp2
  go_loopg [7] m (fun q s wr => ∃ (k : Nat) (f' : Nat → Nat), q + k = m ∧ s = .int .i64 k ∧ HS w0 R cb js.length wr (.slice (some ⟨g, 0, none⟩) (m + 1) cap) (m + 1) f' ∧ DownOk K f' m k ∧ Mixed m f f' ∧ f' m = f m ∧ Chg R (some g) w wr)
  case atStart => exact ⟨0, f, rfl, rfl, HH.out, HU.out, Mixed.refl _ _, rfl, Chg.refl _ _ _⟩
  case round =>
    obtain ⟨k, f', hgk, rfl, hS, hU, hM, hE, hG⟩ := hrel
    have HGK := Lib.hid hgk
    have HS1 := Lib.hid hS
    have HU1 := Lib.hid hU
    have HM1 := Lib.hid (And.intro hM hE)
    have HG1 := Lib.hid hG
    have hk : k ≤ m := by omega
    clear hgk hS hU hM hE hG HH HU
    by_cases h1 : 2 * k + 1 < m
    · have h1' : (2 : Int) * k + 1 < m := by omega
      have h1'' : ¬ (m : Int) ≤ 2 * k + 1 := by omega
      obtain ⟨c1, hc1⟩ : ∃ c, c = 2 * k + 1 := ⟨_, rfl⟩
      obtain ⟨c2, hc2⟩ : ∃ c, c = 2 * k + 2 := ⟨_, rfl⟩
      have HC1 := Lib.hid (And.intro hc1 hc2)
      have E1 := Lib.hid (show (2 : Int) * k + 1 = (c1 : Nat) by omega)
      have E2 := Lib.hid (show (c1 : Int) + 1 = (c2 : Nat) by omega)
      have g1 : c1 < m := by omega
      have g0 : k < c1 := by omega
      have g01 : c1 < c2 := by omega
      by_cases h2 : 2 * k + 2 < m
      · have h2' : (2 : Int) * k + 1 + 1 < m := by omega
        have g2 : c2 < m := by omega
        clear hc1 hc2
        go_wp2_with fail
        rw [E1.out]
        rw [E2.out]
        clear h1' h1'' h2' h1 h2
        refine (less_any HC.out HS1.out (show c2 < m + 1 by omega) (show c1 < m + 1 by omega)).mono ?_
        rintro e w2 ⟨rfl, b2⟩
        have HS2 := Lib.hid (HS1.out.below b2)
        have HG2 := Lib.hid (HG1.out.trans (Chg.of_below (g := some g) b2) (fun _ h => .inl h))
        by_cases hq : K (f' c2) < K (f' c1)
        · rw [decide_eq_true hq]
          have HQ := Lib.hid hq
          clear hq
          go_wp2_with fail
          refine (less_any HC.out HS2.out (show c2 < m + 1 by omega) (show k < m + 1 by omega)).mono ?_
          rintro e w3 ⟨rfl, b3⟩
          have HS3 := Lib.hid (HS2.out.below b3)
          have HG3 := Lib.hid (HG2.out.trans (Chg.of_below (g := some g) b3) (fun _ h => .inl h))
          by_cases hlt : K (f' c2) < K (f' k)
          · rw [decide_eq_true hlt]
            have HLT := Lib.hid hlt
            clear hlt
            go_wp2_with fail
            refine (swap_any HS3.out (show k < m + 1 by omega) (show c2 < m + 1 by omega)).mono ?_
            rintro e w4 ⟨rfl, h4, g4⟩
            have HS4 := Lib.hid h4
            have HG4 := Lib.hid (HG3.out.trans g4 (fun _ h => .inl h))
            clear h4 g4
            go_wp2
            go_roundg (m - c2)
            case measure => have := HGK.out; have := HC1.out; omega
            case rel => exact ⟨c2, swp f' k c2, by omega, rfl, HS4.out, HU1.out.step (show c2 < m by omega) (by rw [HC1.out.2]; exact par_right k) (by have := HC1.out; omega) HLT.out (fun c h0 hc hp => two_le HC1.out hp h0 (Nat.le_of_lt HQ.out) (Nat.le_refl _)), HM1.out.1.trans (Mixed.ofSwp f' (by omega) (by omega)), by rw [swp_other f' (by omega) (by omega)]; exact HM1.out.2, HG4.out⟩
          · rw [decide_eq_false hlt]
            have HLT := Lib.hid hlt
            clear hlt
            go_wp2
            go_ret
            exact ⟨⟨_, rfl⟩, _, HS3.out, HU1.out.done (fun c h0 hc hp => Nat.le_trans (Nat.le_of_not_lt HLT.out) (two_le HC1.out hp h0 (Nat.le_of_lt HQ.out) (Nat.le_refl _))), HM1.out.1, HM1.out.2, HG3.out⟩
        · rw [decide_eq_false hq]
          have HQ := Lib.hid hq
          clear hq
          go_wp2_with fail
          refine (less_any HC.out HS2.out (show c1 < m + 1 by omega) (show k < m + 1 by omega)).mono ?_
          rintro e w3 ⟨rfl, b3⟩
          have HS3 := Lib.hid (HS2.out.below b3)
          have HG3 := Lib.hid (HG2.out.trans (Chg.of_below (g := some g) b3) (fun _ h => .inl h))
          by_cases hlt : K (f' c1) < K (f' k)
          · rw [decide_eq_true hlt]
            have HLT := Lib.hid hlt
            clear hlt
            go_wp2_with fail
            refine (swap_any HS3.out (show k < m + 1 by omega) (show c1 < m + 1 by omega)).mono ?_
            rintro e w4 ⟨rfl, h4, g4⟩
            have HS4 := Lib.hid h4
            have HG4 := Lib.hid (HG3.out.trans g4 (fun _ h => .inl h))
            clear h4 g4
            go_wp2
            go_roundg (m - c1)
            case measure => have := HGK.out; have := HC1.out; omega
            case rel => exact ⟨c1, swp f' k c1, by omega, rfl, HS4.out, HU1.out.step (show c1 < m by omega) (by rw [HC1.out.1]; exact par_left k) (by have := HC1.out; omega) HLT.out (fun c h0 hc hp => two_le HC1.out hp h0 (Nat.le_refl _) (Nat.le_of_not_lt HQ.out)), HM1.out.1.trans (Mixed.ofSwp f' (by omega) (by omega)), by rw [swp_other f' (by omega) (by omega)]; exact HM1.out.2, HG4.out⟩
          · rw [decide_eq_false hlt]
            have HLT := Lib.hid hlt
            clear hlt
            go_wp2
            go_ret
            exact ⟨⟨_, rfl⟩, _, HS3.out, HU1.out.done (fun c h0 hc hp => Nat.le_trans (Nat.le_of_not_lt HLT.out) (two_le HC1.out hp h0 (Nat.le_refl _) (Nat.le_of_not_lt HQ.out))), HM1.out.1, HM1.out.2, HG3.out⟩
      · have h2' : ¬ (2 : Int) * k + 1 + 1 < m := by omega
        have g2 : m ≤ c2 := by omega
        clear hc1 hc2
        go_wp2_with fail
        rw [E1.out]
        clear h1' h1'' h2' h1 h2
        have HS2 := HS1
        have HG2 := HG1
        refine (less_any HC.out HS2.out (show c1 < m + 1 by omega) (show k < m + 1 by omega)).mono ?_
        rintro e w3 ⟨rfl, b3⟩
        have HS3 := Lib.hid (HS2.out.below b3)
        have HG3 := Lib.hid (HG2.out.trans (Chg.of_below (g := some g) b3) (fun _ h => .inl h))
        by_cases hlt : K (f' c1) < K (f' k)
        · rw [decide_eq_true hlt]
          have HLT := Lib.hid hlt
          clear hlt
          go_wp2_with fail
          refine (swap_any HS3.out (show k < m + 1 by omega) (show c1 < m + 1 by omega)).mono ?_
          rintro e w4 ⟨rfl, h4, g4⟩
          have HS4 := Lib.hid h4
          have HG4 := Lib.hid (HG3.out.trans g4 (fun _ h => .inl h))
          clear h4 g4
          go_wp2
          go_roundg (m - c1)
          case measure => have := HGK.out; have := HC1.out; omega
          case rel => exact ⟨c1, swp f' k c1, by omega, rfl, HS4.out, HU1.out.step (show c1 < m by omega) (by rw [HC1.out.1]; exact par_left k) (by have := HC1.out; omega) HLT.out (fun c h0 hc hp => one_le HC1.out hp h0 hc g2), HM1.out.1.trans (Mixed.ofSwp f' (by omega) (by omega)), by rw [swp_other f' (by omega) (by omega)]; exact HM1.out.2, HG4.out⟩
        · rw [decide_eq_false hlt]
          have HLT := Lib.hid hlt
          clear hlt
          go_wp2
          go_ret
          exact ⟨⟨_, rfl⟩, _, HS3.out, HU1.out.done (fun c h0 hc hp => Nat.le_trans (Nat.le_of_not_lt HLT.out) (one_le HC1.out hp h0 hc g2)), HM1.out.1, HM1.out.2, HG3.out⟩
    · have h1' : (m : Int) ≤ 2 * k + 1 := by omega
      go_wp2
      go_ret
      exact ⟨⟨_, rfl⟩, _, HS1.out, HU1.out.leaf (by omega), HM1.out.1, HM1.out.2, HG1.out⟩

end Go.Proofs.Ytlagghoohloklaa
