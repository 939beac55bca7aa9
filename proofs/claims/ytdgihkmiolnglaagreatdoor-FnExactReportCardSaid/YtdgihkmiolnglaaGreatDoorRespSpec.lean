/- Contract of spec.l4Response. Conditions: a valid set, indices of it, at most 1000 tasks above. -/
import Derived.Test.YtdgihkmiolnglaaGreatDoorOrdSpec
namespace Go.Proofs.YtdgihkmiolnglaaGreatDoor
open Go.RowKit Go.Deep

/-- The cost of task i and the interference of the tasks hs in an interval of length x. -/
def rL (ts : List T3) (hs : List Nat) (i : Nat) : Nat → Nat := fun x => cst (tk ts i) + wkL ts hs x
theorem tk_at {ts : List T3} {i : Nat} (h : i < ts.length) : ts[i] = tk ts i := by simp [tk, List.getD, List.getElem?_eq_getElem h]
theorem Row.tkv {w : World} {a : Option Addr} {ts : List T3} (h : Row w a ts) (hv : ts.all tv = true) {i : Nat} (hi : i < ts.length) : ∃ b off, a = some ⟨b, off, none⟩ ∧ b < w.heap.size ∧
    w.cell? ⟨b, off + i * 3, none⟩ = some (.int .i64 (cst (tk ts i) : Nat)) ∧ w.cell? ⟨b, off + i * 3 + 1, none⟩ = some (.int .i64 (dln (tk ts i) : Nat)) ∧ w.cell? ⟨b, off + i * 3 + 2, none⟩ = some (.int .i64 (per (tk ts i) : Nat)) := by
  obtain ⟨b, off, h1, h2, h3, h4, h5⟩ := h i _ (List.getElem?_eq_getElem hi)
  rw [tk_at hi] at h3 h4 h5
  have := tv_bd (tk_tv hv hi)
  rw [this.2.2.2.2.2.1, this.2.2.2.2.2.2.1, this.2.2.2.2.2.2.2]
  exact ⟨b, off, h1, h2, h3, h4, h5⟩
theorem cl_le {ts : List T3} (hv : ts.all tv = true) {j x : Nat} (hj : j < ts.length) (hx : x ≤ 12) : cl ts j x ≤ 184 := by
  have := tv_bd (tk_tv hv hj)
  unfold cl
  exact Nat.le_trans (Nat.mul_le_mul (show _ ≤ 23 from Nat.le_trans (Nat.div_le_self _ _) (by omega)) this.2.2.2.2.1) (by omega)
theorem wkL_step {ts : List T3} {hs : List Nat} {k x : Nat} (hk : k < hs.length) : wkL ts (hs.take (k + 1)) x = wkL ts (hs.take k) x + cl ts (hs.getD k 0) x := by
  have e : hs.getD k 0 = hs[k] := by simp [List.getD, List.getElem?_eq_getElem hk]
  rw [List.take_succ_eq_append_getElem hk, e]
  unfold wkL
  rw [List.map_append, List.sum_append]
  simp only [List.map_cons, List.map_nil, List.sum_cons, List.sum_nil, Nat.add_zero]
theorem wkL_le {ts : List T3} (hv : ts.all tv = true) {hs : List Nat} (hm : ∀ k, k < hs.length → hs.getD k 0 < ts.length) {x : Nat} (hx : x ≤ 12) : ∀ k, k ≤ hs.length → wkL ts (hs.take k) x ≤ 184 * k
  | 0, _ => by simp [wkL]
  | k + 1, h => by
    rw [wkL_step (by omega)]
    have := wkL_le hv hm hx k (by omega)
    have := cl_le hv (hm k (by omega)) hx
    omega
theorem rL_mono (ts : List T3) (hs : List Nat) (i : Nat) : ∀ x y, x ≤ y → rL ts hs i x ≤ rL ts hs i y := fun x y h => by
  unfold rL wkL
  have : ∀ l : List Nat, (l.map fun h => cl ts h x).sum ≤ (l.map fun h => cl ts h y).sum := fun l => by
    induction l with
    | nil => exact Nat.le_refl _
    | cons a l ih => simp only [List.map_cons, List.sum_cons]; exact Nat.add_le_add (cl_mono ts a h) ih
  exact Nat.add_le_add_left (this hs) _
theorem add_step {S S' r q c : Nat} (hq : 1 ≤ q) (h : S' = S + (r + q - 1) / q * c) : Value.int .i64 ((S : Int) + ((r : Int) + q - 1) / q * c) = .int .i64 (S' : Nat) := by
  have e : (r : Int) + q - 1 = ((r + q - 1 : Nat) : Int) := by omega
  rw [e, h]
  simp

set_option maxHeartbeats 2000000 in
/-- spec.l4Response. -/
theorem l4Response_any (ta ha : Option Addr) (tcap hcap : Nat) (ts : List T3) (hs : List Nat) (i : Nat) (w : World) (hr : Row w ta ts) (hh : IntF w ha hs.length fun k => (hs.getD k 0 : Nat)) (hv : ts.all tv = true)
    (hm : ∀ k, k < hs.length → hs.getD k 0 < ts.length) (hl : hs.length ≤ 1000) (hi : i < ts.length) :
    Calls Tryz.prog 62 #[.slice ta ts.length tcap, .slice ha hs.length hcap, .int .i64 i] w fun e w' =>
      e = .returned (.int .i64 (optI (lfp (rL ts hs i) (dln (tk ts i))))) ∧ Below w.heap.size w w' := by
  have HR := Lib.hid hr
  have HH := Lib.hid hh
  have HV := Lib.hid hv
  have HM := Lib.hid hm
  obtain ⟨b, off, rfl, hbs, c0, c1, c2⟩ := hr.tkv hv hi
  have htv := tv_bd (tk_tv hv hi)
  have HI := Lib.hid (show Iter (rL ts hs i) (cst (tk ts i)) from Iter.start htv.1 fun x => Nat.le_add_right _ _)
  have HS := Lib.hid (show ∀ x, rL ts hs i x = cst (tk ts i) + wkL ts hs x from fun _ => rfl)
  obtain ⟨C, hC⟩ : ∃ C, C = cst (tk ts i) := ⟨_, rfl⟩
  obtain ⟨D, hD⟩ : ∃ D, D = dln (tk ts i) := ⟨_, rfl⟩
  rw [← hC] at HI HS c0
  rw [← hD] at c1
  rw [← hD]
  have hC1 : 1 ≤ C := by rw [hC]; exact htv.1
  have hC2 : C ≤ 8 := by rw [hC]; exact htv.2.2.2.2.1
  have hD2 : D ≤ 12 := by rw [hD]; omega
  have HC := Lib.hid (And.intro c0 c1)
  clear htv hC hD hr hh hv hm c2
  have hi0 : (0 : Int) ≤ i := by omega
  have hi1 : (i : Int) < ts.length := by omega
  go_enter Tryz.func62, Tryz.ntmps62
  go_wp2
  go_loopg [7] (D + 1 - C) (fun m s wr => ∃ r : Nat, m = D + 1 - r ∧ s = .int .i64 r ∧ Iter (rL ts hs i) r ∧ r ≤ 200000 ∧ Below w.heap.size w wr)
  case atStart => exact ⟨C, rfl, rfl, HI.out, by omega, Below.refl _ _⟩
  case round =>
    obtain ⟨r, hk, rfl, hit, hr2, hb⟩ := hrel
    have HK := Lib.hid hk
    have HT := Lib.hid hit
    clear hk hit c0 c1
    have c0 := (hb.cell (p := ⟨b, off + i * 3, none⟩) hbs).trans HC.out.1
    have c1 := (hb.cell (p := ⟨b, off + i * 3 + 1, none⟩) hbs).trans HC.out.2
    by_cases hlt : r ≤ D
    · have hlt' : (r : Int) ≤ D := by omega
      go_wp2
      clear c0 c1
      go_loopg [8, 9] hs.length (fun m s j w2 => ∃ k : Nat, m + k = hs.length ∧ j = .int .i64 k ∧ s = .int .i64 (C + wkL ts (hs.take k) r : Nat) ∧ Below w.heap.size w w2)
      case atStart => exact ⟨0, rfl, rfl, by simp [wkL], hb⟩
      case round =>
        clear hb
        obtain ⟨k, hk, rfl, rfl, hb⟩ := hrel
        have HK2 := Lib.hid hk
        have hk' : k ≤ hs.length := by omega
        clear hk
        have hle := wkL_le HV.out HM.out (show r ≤ 12 by omega) k hk'
        obtain ⟨S, hS⟩ : ∃ S, S = C + wkL ts (hs.take k) r := ⟨_, rfl⟩
        have hS2 : S ≤ 200000 := by omega
        have HSS := Lib.hid hS
        rw [← hS]
        clear hS hle
        by_cases hkl : k < hs.length
        · obtain ⟨j, hj⟩ : ∃ j, j = hs.getD k 0 := ⟨_, rfl⟩
          have hjl : j < ts.length := by rw [hj]; exact HM.out k hkl
          obtain ⟨b1, off1, rfl, hbs1, d0⟩ := (HH.out.below hb) k hkl
          simp only [← hj] at d0
          have HR2 := Lib.hid (HR.out.below hb)
          obtain ⟨b2, off2, hbb, _, e0, e1, e2⟩ := HR2.out.tkv HV.out hjl
          simp only [Option.some.injEq, Addr.mk.injEq, and_true] at hbb
          obtain ⟨rfl, rfl⟩ := hbb
          have htv := tv_bd (tk_tv HV.out hjl)
          have HJ := Lib.hid (show wkL ts (hs.take (k + 1)) r = wkL ts (hs.take k) r + (r + per (tk ts j) - 1) / per (tk ts j) * cst (tk ts j) by rw [wkL_step hkl, ← hj]; rfl)
          obtain ⟨c, hc⟩ : ∃ c, c = cst (tk ts j) := ⟨_, rfl⟩
          obtain ⟨d, hd⟩ : ∃ d, d = dln (tk ts j) := ⟨_, rfl⟩
          obtain ⟨q, hq⟩ : ∃ q, q = per (tk ts j) := ⟨_, rfl⟩
          rw [← hc, ← hd, ← hq] at htv
          rw [← hc] at e0
          rw [← hd] at e1
          rw [← hq] at e2
          rw [← hc, ← hq] at HJ
          have p1 : 1 ≤ c := htv.1
          have p2 : 1 ≤ q := by omega
          have p4 : q ≤ 12 := htv.2.2.2.1
          have p5 : c ≤ 8 := htv.2.2.2.2.1
          clear hc hd hq hj htv
          have hj0 : (0 : Int) ≤ j := by omega
          have hj1 : (j : Int) < ts.length := by omega
          have hk0 : (0 : Int) ≤ k := by omega
          have hk1 : (k : Int) < hs.length := by omega
          have hne : ((q : Int) == 0) = false := by simp; omega
          have hs0 : (0 : Int) ≤ (r : Int) + q - 1 := by omega
          have hq0 : (0 : Int) ≤ ((r : Int) + q - 1) / q := Int.ediv_nonneg (by omega) (by omega)
          have hq1 : ((r : Int) + q - 1) / q ≤ 23 := Int.le_trans (Int.ediv_le_self _ hs0) (by omega)
          have hm0 : (0 : Int) ≤ ((r : Int) + q - 1) / q * c := Int.mul_nonneg (by omega) (by omega)
          have hm1 : ((r : Int) + q - 1) / q * c ≤ 184 := Int.le_trans (Int.mul_le_mul hq1 (show (c : Int) ≤ 8 by omega) (by omega) (by omega)) (by omega)
          go_wp2
          go_quiet (fail)
          go_wp2
          go_roundg (gk - 1)
          case measure => have := HK2.out; omega
          case rel => exact ⟨k + 1, by have := HK2.out; omega, by go_num, add_step (by omega) (by rw [HSS.out, HJ.out, Nat.add_assoc]), (hb.alloc hb.size _).trans ((below_drewN _ _).mono (hb.alloc hb.size _).size)⟩
        · obtain rfl : k = hs.length := by omega
          have HF := Lib.hid (show S = rL ts hs i r by rw [HSS.out, HS.out, List.take_length])
          by_cases hx : S = r
          · subst hx
            go_wp2
            go_ret
            exact ⟨by rw [HT.out.done HF.out.symm hlt]; rfl, hb⟩
          · have hx' : ¬ (S : Int) = r := by omega
            have HX := Lib.hid hx
            clear hx
            go_wp2
            go_roundg (D + 1 - S)
            case measure => have h1 := HK.out; have h2 := HT.out.step (rL_mono ts hs i); have h3 := HT.out.up; have h4 := HF.out; have h5 := HX.out; omega
            case rel => exact ⟨S, rfl, rfl, by rw [HF.out]; exact HT.out.step (rL_mono ts hs i), hS2, hb⟩
    · have hlt' : ¬ (r : Int) ≤ D := by omega
      go_wp2
      go_ret
      exact ⟨by rw [HT.out.over (by omega)]; rfl, hb⟩

end Go.Proofs.YtdgihkmiolnglaaGreatDoor
