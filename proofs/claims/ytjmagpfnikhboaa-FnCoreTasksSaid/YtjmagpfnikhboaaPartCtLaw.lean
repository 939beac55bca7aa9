/- The walk of laws.FnCoreTasks, for whatever code. Condition: the argument is a slice of bytes. -/
import Derived.Test.YtjmagpfnikhboaaPartImpl
import Derived.Test.YtjmagpfnikhboaaPartDraws
import Derived.BigQuiet
namespace Go.Proofs.Ytjmagpfnikhboaa
open Go.RowKit Go.Deep

/-- laws.sameTasks, of two slices that hold the same. -/
theorem sameTasks_same (a a' : Option Addr) (cap cap' : Nat) (ts : List T3) (w : World) (h : Row w a ts) (h' : Row w a' ts) (hn : ts.length ≤ 1048576) :
    Calls Try.prog 19 #[.slice a ts.length cap, .slice a' ts.length cap'] w fun e w' =>
      e = .returned (.bool true) ∧ ∃ m, w' = w.drewN m := by
  go_enter Try.func19, Try.ntmps19
  go_wp2
  go_loopg [5] ts.length (fun m i wr => ∃ k : Nat, m + k = ts.length ∧ i = .int .i64 k ∧ ∃ l, wr = w.drewN l)
  case atStart => exact ⟨0, rfl, rfl, 0, rfl⟩
  case round =>
    obtain ⟨k, hk, rfl, l, hwr⟩ := hrel
    have HK := Lib.hid hk
    have HW := Lib.hid hwr
    have hkk : k ≤ ts.length := by omega
    clear hk
    by_cases hlt : k < ts.length
    · obtain ⟨b, off, rfl, _, x0, x1, x2⟩ := h.at hlt
      obtain ⟨b', off', rfl, _, y0, y1, y2⟩ := h'.at hlt
      obtain ⟨⟨i, r, d⟩, hJ⟩ : ∃ j, j = tk ts k := ⟨_, rfl⟩
      rw [← hJ] at x0 x1 x2 y0 y1 y2
      simp only at x0 x1 x2 y0 y1 y2
      have g0 : wr.cell? ⟨b, off + k * 3, none⟩ = some (.int .i64 i) := by rw [hwr]; exact x0
      have g1 : wr.cell? ⟨b, off + k * 3 + 1, none⟩ = some (.int .i64 r) := by rw [hwr]; exact x1
      have g2 : wr.cell? ⟨b, off + k * 3 + 2, none⟩ = some (.int .i64 d) := by rw [hwr]; exact x2
      have i0 : wr.cell? ⟨b', off' + k * 3, none⟩ = some (.int .i64 i) := by rw [hwr]; exact y0
      have i1 : wr.cell? ⟨b', off' + k * 3 + 1, none⟩ = some (.int .i64 r) := by rw [hwr]; exact y1
      have i2 : wr.cell? ⟨b', off' + k * 3 + 2, none⟩ = some (.int .i64 d) := by rw [hwr]; exact y2
      have hk0 : (0 : Int) ≤ k := by omega
      have hk1 : (k : Int) < ts.length := by omega
      clear x0 x1 x2 y0 y1 y2 h h' hwr hJ
      go_wp2
      go_quiet (fail)
      go_wp2
      go_roundg (gk - 1)
      case measure => have := HK.out; omega
      case rel => exact ⟨k + 1, by have := HK.out; omega, by go_num, l + nq, by rw [HW.out, World.drewN_drewN]⟩
    · obtain rfl : k = ts.length := by omega
      clear hwr
      go_wp2
      go_ret
      exact ⟨rfl, l, HW.out⟩
theorem onN_pre (ts : List T3) (f : Nat → Int) (c : Int) {m : Nat} : ∀ {k : Nat}, m ≤ k → ∃ t, onN ts f c k = onN ts f c m ++ t := by
  intro k h
  induction k with
  | zero => obtain rfl : m = 0 := by omega
            exact ⟨[], by simp⟩
  | succ k ih =>
    by_cases e : m = k + 1
    · subst e; exact ⟨[], by simp⟩
    · obtain ⟨t, ht⟩ := ih (by omega)
      simp only [onN]
      split
      · exact ⟨t ++ [tk ts k], by rw [ht, List.append_assoc]⟩
      · exact ⟨t, ht⟩
theorem onN_at {ts : List T3} {f : Nat → Int} {c : Int} {i k : Nat} (hi : i < k) (hf : f i = c) : (onN ts f c i).length < (onN ts f c k).length ∧ tk (onN ts f c k) (onN ts f c i).length = tk ts i := by
  obtain ⟨t, ht⟩ := onN_pre ts f c (m := i + 1) (k := k) (by omega)
  rw [show onN ts f c (i + 1) = onN ts f c i ++ [tk ts i] from if_pos hf] at ht
  rw [ht]
  constructor
  · simp
  · unfold tk
    simp [List.getD_eq_getElem?_getD]
theorem onN_step (ts : List T3) (f : Nat → Int) (c : Int) (i : Nat) : (onN ts f c (i + 1)).length = if f i = c then (onN ts f c i).length + 1 else (onN ts f c i).length := by
  simp only [onN]
  split <;> simp
/-- How many tasks the first processors have. -/
def cntN (ts : List T3) (f : Nat → Int) (k : Nat) : Nat := sumN (fun c => (onN ts f c ts.length).length) k
theorem cntN_succ (ts : List T3) (f : Nat → Int) (k : Nat) : cntN ts f (k + 1) = cntN ts f k + (onN ts f k ts.length).length := rfl
theorem cntN_le (ts : List T3) (f : Nat → Int) : ∀ k, cntN ts f k ≤ k * ts.length
  | 0 => by simp [cntN, sumN]
  | k + 1 => by
    have h1 := cntN_le ts f k
    have h2 := onN_len ts f (k : Int) ts.length
    rw [cntN_succ, Nat.succ_mul]
    omega

set_option maxRecDepth 100000 in
set_option maxHeartbeats 4000000 in
/-- laws.FnCoreTasks. -/
theorem fnCoreTasks_walk (a : Option Addr) (len cap : Nat) (w : World) (hb : Byts w a len cap) :
    Calls Try.prog 4 #[.slice a len cap] w fun e w' => e = .returned (.bool true) ∧ Below w.heap.size w w' := by
  have hm : cap ≤ maxLen := hb.2.2
  have hlc : len ≤ cap := hb.2.1
  unfold maxLen at hm
  have HB := Lib.hid hb
  clear hb
  by_cases hl : 1048576 < len
  · have hl' : (1048576 : Int) < len := by omega
    go_enter Try.func4, Try.ntmps4
    go_wp2
    go_ret
    exact ⟨rfl, Below.refl _ _⟩
  have hl' : ¬ (1048576 : Int) < len := by omega
  go_enter Try.func4, Try.ntmps4
  go_wp2_with fail
  refine (drawCoreTasks_any _ _ _ _ HB.out).mono ?_
  rintro e w1 ⟨g, cap1, ts, c, va, ocap, os, d, rfl, hn, hlc1, hcm1, hcb, hos, hd, hr1, ho1, b1⟩
  have R1 := Lib.hid hr1
  have O1 := Lib.hid ho1.intF'
  clear hr1 ho1
  clear HB
  go_wp2_with fail
  refine (coreTasks_any _ _ _ _ ts c os d _ R1.out O1.out (by omega) (by omega)).mono ?_
  rintro e w2 ⟨v, rfl, ho2, b2⟩
  have B2 := b1.trans (b2.mono b1.size)
  have R2 := Lib.hid (R1.out.below b2)
  have O2 := Lib.hid (O1.out.below b2)
  obtain ⟨L, hL⟩ : ∃ L, L = ctL ts c os d := ⟨_, rfl⟩
  rw [← hL] at ho2
  have HLL := Lib.hid hL
  obtain ⟨la, lc, rfl, hlr, -, -⟩ := ho2.row
  have LR := Lib.hid hlr
  clear b1 b2 R1 O1 ho2 hlr hL
  go_wp2_with fail
  refine (specCoreTasks_any _ _ _ _ ts c os d _ R2.out O2.out (by omega) (by omega)).mono ?_
  rintro e w3 ⟨v, rfl, ho3, b3⟩
  rw [← HLL.out] at ho3
  obtain ⟨ma, mc, rfl, hmr, -, -⟩ := ho3.row
  have MR := Lib.hid hmr
  have B3 := B2.trans (b3.mono B2.size)
  have R3 := Lib.hid (R2.out.below b3)
  have O3 := Lib.hid (O2.out.below b3)
  have LR3 := Lib.hid (LR.out.below b3)
  have hLn : L.length ≤ 13 := by
    rw [HLL.out, ctL]
    split
    · exact Nat.le_trans (onN_len _ _ _ _) (by omega)
    · simp
  clear b3 ho3 hmr R2 O2 LR B2
  go_wp2_with fail
  refine (sameTasks_same _ _ _ _ L _ LR3.out MR.out (by omega)).mono ?_
  rintro e w4 ⟨rfl, m4, hw4⟩
  have b4 : Below w3.heap.size w3 w4 := by rw [hw4]; exact below_drewN _ _
  have B4 := B3.trans (b4.mono B3.size)
  have R4 := Lib.hid (R3.out.below b4)
  have O4 := Lib.hid (O3.out.below b4)
  clear hw4 b4 R3 O3 LR3 MR B3
  go_wp2_with fail
  refine (specAssignmentValid_any _ _ _ _ ts c os _ R4.out O4.out (by omega) (by omega)).mono ?_
  rintro e w5 ⟨rfl, b5⟩
  have B5 := B4.trans (b5.mono B4.size)
  have R5 := Lib.hid (R4.out.below b5)
  have O5 := Lib.hid (O4.out.below b5)
  clear b5 R4 O4 B4
  cases hv : avB ts c os with
  | false =>
    have hL0 : L.length = 0 := by rw [HLL.out, ctL, if_neg (by rw [hv]; simp)]; rfl
    rw [hL0]
    clear hv hL0
    go_wp2_with fail
    refine (alive_any _).mono ?_
    rintro e w6 ⟨rfl, b6⟩
    go_wp2
    go_ret
    exact ⟨rfl, B5.trans (b6.mono B5.size)⟩
  | true =>
    have hav := avB_iff.1 hv
    have hl5 : ts.length ≤ 5 := (sv_all hav.1).2
    obtain ⟨N, hN⟩ : ∃ N : Nat, c = (N : Int) := ⟨c.toNat, by omega⟩
    subst hN
    have hN5 : N ≤ 5 := by omega
    have hol := hav.2.2.1
    obtain ⟨f, hf⟩ : ∃ f : Nat → Int, f = fun k => os.getD k 0 := ⟨_, rfl⟩
    have HCT := Lib.hid (fun k (hk : k < N) => show ctL ts (N : Int) os (k : Int) = onN ts f (k : Int) ts.length by
      unfold ctL
      rw [if_pos ⟨hv, by omega, by omega⟩, hf, hol])
    have HCN := Lib.hid (show cntN ts f N = ts.length from onN_count fun j hj => by rw [hf]; exact hav.2.2.2 j (by omega))
    have OF := Lib.hid (show IntF w5 va ts.length f by have := O5.out; rw [hol, ← hf] at this; exact this)
    have HOL := Lib.hid hol
    have HFO := Lib.hid hf
    clear hv hav hol hf
    go_wp2
    go_loopg [8, 9] N (fun q x z wr => ∃ k : Nat, q + k = N ∧ x = .int .i64 (cntN ts f k : Nat) ∧ z = .int .i64 k ∧ Below w5.heap.size w5 wr)
    case atStart => exact ⟨0, by omega, rfl, rfl, Below.refl _ _⟩
    case round =>
      obtain ⟨k, hq, rfl, rfl, B⟩ := hrel
      have HQ := Lib.hid hq
      have HBK := Lib.hid B
      have hkN : k ≤ N := by omega
      obtain ⟨GG, hGG⟩ : ∃ GG, GG = gk := ⟨_, rfl⟩
      have HGG := Lib.hid hGG
      have hcl : cntN ts f k ≤ 25 := Nat.le_trans (cntN_le ts f k) (Nat.mul_le_mul (by omega : k ≤ 5) hl5)
      clear hq B hGG
      by_cases hlt : k < N
      · have hk1 : (k : Int) < N := by omega
        go_wp2_with fail
        refine (coreTasks_any _ _ _ _ ts (N : Int) os (k : Int) _ (R5.out.below HBK.out) (O5.out.below HBK.out) (by omega) (by omega)).mono ?_
        rintro e w6 ⟨v, rfl, ho6, b6⟩
        rw [HCT.out k hlt] at ho6
        have hone := onN_len ts f (k : Int) ts.length
        have HAT := Lib.hid (fun i (hi : i < ts.length) (hf : f i = (k : Int)) => onN_at (ts := ts) (k := ts.length) hi hf)
        have HST := Lib.hid (fun i => onN_step ts f (k : Int) i)
        have HSU := Lib.hid (cntN_succ ts f k)
        obtain ⟨on, hon⟩ : ∃ on, on = onN ts f (k : Int) ts.length := ⟨_, rfl⟩
        rw [← hon] at ho6 hone HAT HSU
        obtain ⟨oa, oc, rfl, hor, -, -⟩ := ho6.row
        have RON := Lib.hid hor
        have B6 := Lib.hid (HBK.out.trans (b6.mono HBK.out.size))
        have HON := Lib.hid hon
        clear ho6 hor b6 hon
        go_wp2
        go_loopg [11, 12] ts.length (fun q x z wr2 => ∃ i l : Nat, q + i = ts.length ∧ x = .int .i64 ((onN ts f (k : Int) i).length : Nat) ∧ z = .int .i64 i ∧ wr2 = w6.drewN l)
        case atStart => exact ⟨0, 0, by omega, rfl, rfl, rfl⟩
        case round =>
          obtain ⟨i, l, hi, rfl, rfl, rfl⟩ := hrel
          have HI := Lib.hid hi
          have hii : i ≤ ts.length := by omega
          have hni := onN_len ts f (k : Int) i
          clear hi
          by_cases hin : i < ts.length
          · have hi0 : (0 : Int) ≤ i := by omega
            have hi1 : (i : Int) < ts.length := by omega
            obtain ⟨b, off, rfl, hbs, x0⟩ := (OF.out.below B6.out) i hin
            have hil : (i : Int) < os.length := by have := HOL.out; omega
            obtain ⟨y, hy⟩ : ∃ y, y = f i := ⟨_, rfl⟩
            rw [← hy] at x0
            have HY := Lib.hid hy
            by_cases he : y = (k : Int)
            · obtain ⟨ha1, ha2⟩ := HAT.out i hin (hy.symm.trans he)
              have hs := HST.out i
              rw [if_pos (hy.symm.trans he)] at hs
              have HS := Lib.hid hs
              have heb : (y == (k : Int)) = true := beq_iff_eq.2 he
              obtain ⟨n, hnn⟩ : ∃ n, n = (onN ts f (k : Int) i).length := ⟨_, rfl⟩
              rw [← hnn] at ha1 ha2 HS hni ⊢
              obtain ⟨bo, oo, rfl, hbo, z0, z1, z2⟩ := RON.out.at ha1
              obtain ⟨bt, ot, et, hbt, e0, e1, e2⟩ := (R5.out.below B6.out).at hin
              simp only [Option.some.injEq, Addr.mk.injEq, and_true] at et
              obtain ⟨rfl, rfl⟩ := et
              rw [ha2] at z0 z1 z2
              simp only [Nat.zero_add] at e0 e1 e2
              obtain ⟨⟨C, D, Q⟩, ht⟩ : ∃ t, t = tk ts i := ⟨_, rfl⟩
              rw [← ht] at z0 z1 z2 e0 e1 e2
              simp only at z0 z1 z2 e0 e1 e2
              have hn0 : (0 : Int) ≤ n := by omega
              have hn1 : (n : Int) < on.length := by omega
              have hna : ¬ (on.length : Int) ≤ n := by omega
              clear hy he hs hnn ht ha2
              go_wp2
              have hq1 : decide (on.length ≤ n) = false := decide_eq_false (by omega)
              go_quiet (fail)
              go_wp2
              go_roundg (gk - 1)
              case measure => have := HI.out; omega
              case rel => exact ⟨i + 1, l + nq, by have := HI.out; omega, by rw [HS.out]; go_num, by go_num, by first | rfl | (rw [World.drewN_drewN]) | simp⟩
            · have hs := HST.out i
              rw [if_neg (by rw [← hy]; exact he)] at hs
              have HS := Lib.hid hs
              have heb : (y == (k : Int)) = false := by simpa using he
              obtain ⟨n, hnn⟩ : ∃ n, n = (onN ts f (k : Int) i).length := ⟨_, rfl⟩
              rw [← hnn] at HS hni ⊢
              clear hy he hs hnn
              go_wp2
              go_roundg (gk - 1)
              case measure => have := HI.out; omega
              case rel => exact ⟨i + 1, l, by have := HI.out; omega, by rw [HS.out], by go_num, rfl⟩
          · obtain rfl : i = ts.length := by omega
            rw [← HON.out]
            have HSU2 := Lib.hid HSU.out
            obtain ⟨C, hC⟩ : ∃ C, C = cntN ts f k := ⟨_, rfl⟩
            rw [← hC] at hcl HSU2 ⊢
            clear hC hni
            go_wp2
            go_roundg (GG - 1)
            case measure => have := HQ.out; have := HGG.out; omega
            case rel => exact ⟨k + 1, by have := HQ.out; have := HGG.out; omega, by rw [HSU2.out]; go_num, by go_num, B6.out.trans ((below_drewN _ _).mono B6.out.size)⟩
      · obtain rfl : k = N := by omega
        rw [HCN.out]
        go_wp2
        go_ret
        exact ⟨rfl, B5.trans (HBK.out.mono B5.size)⟩

end Go.Proofs.Ytjmagpfnikhboaa
