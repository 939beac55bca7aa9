/- Contract of spec.l5Pick: the busy server with the earliest deadline below a limit. Conditions: the slice holds the states, at most 2^20 of them. -/
import Derived.Test.YtlkibehieekceaaSrvSpec
import Derived.BigQuiet
namespace Go.Proofs.Ytlkibehieekceaa
open Go.RowKit Go.Deep

/-- A slice that holds the states of n servers. -/
def RowSt (w : World) (a : Option Addr) (n : Nat) (st : Nat → SV) : Prop :=
  ∀ k, k < n → ∃ b off, a = some ⟨b, off, none⟩ ∧ b < w.heap.size ∧ ∀ c, c < 5 → w.cell? ⟨b, off + k * 5 + c, none⟩ = some (svF (st k) c)
theorem RowSt.below {w w' : World} {a : Option Addr} {n : Nat} {st : Nat → SV} (h : RowSt w a n st) (hb : Below w.heap.size w w') : RowSt w' a n st := fun k hk => by
  obtain ⟨b, off, h1, h2, h3⟩ := h k hk
  exact ⟨b, off, h1, Nat.lt_of_lt_of_le h2 hb.size, fun c hc => (hb.cell (p := ⟨b, _, none⟩) h2).trans (h3 c hc)⟩
/-- The server that is picked among the first n. -/
def pickS (st : Nat → SV) (lim n : Nat) : Option Nat := best (fun _ => 0) (fun k => Cb.wants lim (st k)) (fun k => (st k).dl) 0 n
theorem pickS_no {st : Nat → SV} {lim n : Nat} (h : ¬ ((st n).head < (st n).come ∧ (st n).dl < lim)) : pickS st lim (n + 1) = pickS st lim n := by
  have hw : Cb.wants lim (st n) = 0 := if_neg h
  unfold pickS
  simp only [best, hw]
  cases best (fun _ => 0) (fun k => Cb.wants lim (st k)) (fun k => (st k).dl) 0 n <;> simp
theorem pickS_new {st : Nat → SV} {lim n : Nat} (h : (st n).head < (st n).come ∧ (st n).dl < lim) (hb : pickS st lim n = none) : pickS st lim (n + 1) = some n := by
  have hw : Cb.wants lim (st n) = 1 := if_pos h
  unfold pickS at hb ⊢
  simp only [best, hw, hb]
  simp
theorem pickS_more {st : Nat → SV} {lim n b : Nat} (h : (st n).head < (st n).come ∧ (st n).dl < lim) (hb : pickS st lim n = some b) : pickS st lim (n + 1) = if (st n).dl < (st b).dl then some n else some b := by
  have hw : Cb.wants lim (st n) = 1 := if_pos h
  unfold pickS at hb ⊢
  simp only [best, hw, hb]
  simp
theorem pickS_lt {st : Nat → SV} {lim n b : Nat} (h : pickS st lim n = some b) : b < n := (best_some h).1

set_option maxRecDepth 100000 in
set_option maxHeartbeats 4000000 in
/-- spec.l5Pick. -/
theorem l5Pick_any (a : Option Addr) (cap n lim : Nat) (st : Nat → SV) (w : World) (hr : RowSt w a n st) (hn : n ≤ 1048576) :
    Calls Try.prog 119 #[.slice a n cap, .int .i64 (lim : Int)] w fun e w' => e = .returned (.int .i64 (optI (pickS st lim n))) ∧ Below w.heap.size w w' := by
  have HR := Lib.hid hr
  clear hr
  go_enter Try.func119, Try.ntmps119
  go_wp2
  go_loopg [5, 6] n (fun m x i wr => ∃ k : Nat, m + k = n ∧ i = .int .i64 k ∧ x = .int .i64 (optI (pickS st lim k)) ∧ Below w.heap.size w wr)
  case atStart => exact ⟨0, rfl, rfl, rfl, Below.refl _ _⟩
  case round =>
    obtain ⟨k, hk, rfl, rfl, B⟩ := hrel
    have HK := Lib.hid hk
    have hkk : k ≤ n := by omega
    clear hk
    by_cases hlt : k < n
    · have hk0 : (0 : Int) ≤ k := by omega
      have hk1 : (k : Int) < n := by omega
      obtain ⟨b, off, rfl, hbs, hx⟩ := (HR.out.below B) k hlt
      have x0 := hx 0 (by omega)
      have x1 := hx 1 (by omega)
      have x2 := hx 2 (by omega)
      have x3 := hx 3 (by omega)
      have x4 := hx 4 (by omega)
      simp only [svF, Nat.add_zero] at x0 x1 x2 x3 x4
      have HNO := Lib.hid (pickS_no (st := st) (lim := lim) (n := k))
      have HNEW := Lib.hid (pickS_new (st := st) (lim := lim) (n := k))
      have HMORE := Lib.hid (fun b => pickS_more (st := st) (lim := lim) (n := k) (b := b))
      obtain ⟨c, hc⟩ : ∃ c, c = st k := ⟨_, rfl⟩
      rw [← hc] at x0 x1 x2 x3 x4 HNO HNEW HMORE
      clear hx hc
      obtain ⟨W, hW⟩ : ∃ W, W = wr.alloc (.cells #[.int .i64 (c.left : Int), .int .i64 (c.dl : Int), .int .i64 (c.come : Int), .int .i64 (c.head : Int), .int .i64 (c.rest : Int)] 149) := ⟨_, rfl⟩
      have bW : Below wr.heap.size wr W := by rw [hW]; exact below_box _ _
      have y1 : W.cell? ⟨wr.heap.size, 1, none⟩ = some (.int .i64 (c.dl : Int)) := by rw [hW]; simp [go_sem]
      have y2 : W.cell? ⟨wr.heap.size, 2, none⟩ = some (.int .i64 (c.come : Int)) := by rw [hW]; simp [go_sem]
      have y3 : W.cell? ⟨wr.heap.size, 3, none⟩ = some (.int .i64 (c.head : Int)) := by rw [hW]; simp [go_sem]
      have BW := B.trans (bW.mono B.size)
      have HWW := Lib.hid hW
      obtain ⟨z, hz⟩ : ∃ z, z = pickS st lim k := ⟨_, rfl⟩
      rw [← hz] at HNEW HNO HMORE ⊢
      have HZ := Lib.hid hz
      clear hW hz bW
      by_cases h1 : c.head < c.come
      · have h1' : decide (c.head < c.come) = true := decide_eq_true h1
        by_cases h2 : c.dl < lim
        · have h2' : decide (c.dl < lim) = true := decide_eq_true h2
          cases z with
          | none =>
            have HE := Lib.hid (HNEW.out ⟨h1, h2⟩ rfl)
            clear h1 h2 HNO HNEW HMORE
            simp only [optI]
            go_wp2
            rw [← HWW.out]
            clear x0 x1 x2 x3 x4
            go_quiet (fail)
            go_wp2
            go_roundg (gk - 1)
            case measure => have := HK.out; omega
            case rel => exact ⟨k + 1, by have := HK.out; omega, by go_num, by rw [HE.out]; rfl, below_drewN' BW _⟩
          | some d =>
            have hd : d < n := by have := pickS_lt HZ.out.symm; omega
            have HE := Lib.hid (HMORE.out d ⟨h1, h2⟩ rfl)
            obtain ⟨b', off', ea, _, hx⟩ := (HR.out.below BW) d hd
            simp only [Option.some.injEq, Addr.mk.injEq, and_true] at ea
            obtain ⟨rfl, rfl⟩ := ea
            have u1 := hx 1 (by omega)
            simp only [svF] at u1
            obtain ⟨e, he⟩ : ∃ e, e = (st d).dl := ⟨_, rfl⟩
            rw [← he] at u1 HE
            have hd0 : (0 : Int) ≤ d := by omega
            have hd1 : (d : Int) < n := by omega
            have hdm : decide ((d : Int) < 0) = false := decide_eq_false (by omega)
            clear h1 h2 HNO HNEW HMORE hx he
            simp only [optI]
            by_cases h3 : c.dl < e
            · have h3' : decide (c.dl < e) = true := decide_eq_true h3
              rw [if_pos h3] at HE
              clear h3
              go_wp2
              rw [← HWW.out]
              clear x0 x1 x2 x3 x4
              go_quiet (fail)
              go_wp2
              go_roundg (gk - 1)
              case measure => have := HK.out; omega
              case rel => exact ⟨k + 1, by have := HK.out; omega, by go_num, by rw [HE.out]; rfl, below_drewN' BW _⟩
            · have h3' : decide (c.dl < e) = false := decide_eq_false h3
              rw [if_neg h3] at HE
              clear h3
              go_wp2
              rw [← HWW.out]
              clear x0 x1 x2 x3 x4
              go_quiet (fail)
              go_wp2
              go_roundg (gk - 1)
              case measure => have := HK.out; omega
              case rel => exact ⟨k + 1, by have := HK.out; omega, by go_num, by rw [HE.out]; rfl, below_drewN' BW _⟩
        · have h2' : decide (c.dl < lim) = false := decide_eq_false h2
          have HE := Lib.hid (HNO.out (fun h => h2 h.2))
          clear h1 h2 HNO HNEW HMORE
          go_wp2
          rw [← HWW.out]
          clear x0 x1 x2 x3 x4
          go_quiet (fail)
          go_wp2
          go_roundg (gk - 1)
          case measure => have := HK.out; omega
          case rel => exact ⟨k + 1, by have := HK.out; omega, by go_num, by rw [HE.out], below_drewN' BW _⟩
      · have h1' : decide (c.head < c.come) = false := decide_eq_false h1
        have HE := Lib.hid (HNO.out (fun h => h1 h.1))
        clear h1 HNO HNEW HMORE
        go_wp2
        rw [← HWW.out]
        clear x0 x1 x2 x3 x4
        go_quiet (fail)
        go_wp2
        go_roundg (gk - 1)
        case measure => have := HK.out; omega
        case rel => exact ⟨k + 1, by have := HK.out; omega, by go_num, by rw [HE.out], below_drewN' BW _⟩
    · obtain rfl : k = n := by omega
      go_wp2
      go_ret
      exact ⟨rfl, B⟩

end Go.Proofs.Ytlkibehieekceaa
