/- Contracts of the functions of chapter 1 (impl, spec). Conditions: those that each theorem names. -/
import Derived.Test.YtdgihkmiolnglaaGreatDoorProg
import Derived.Test.YtdgihkmiolnglaaGreatDoorPlain
import Derived.WalkKit
import Derived.WalkSpells
import Derived.Below
import Derived.Lib.Hide
import Derived.Deep.LoopGhost
import Derived.Deep.QuietTactic
import Derived.BigQuiet
import Derived.RegionTactic
import Derived.Deep.RegionWith
import Derived.Deep.RegionLaw
import Derived.Deep.RegionHeld3
namespace Go.Proofs.YtdgihkmiolnglaaGreatDoor
open Go.RowKit

def inB (n lo hi : Int) : Bool := decide (lo ≤ n ∧ n ≤ hi)

theorem ret_bool {a b : Bool} (h : a = b) : Ending.returned (.bool a) = .returned (.bool b) := by rw [h]
theorem below_box (w : World) (o : Obj) : Below w.heap.size w (w.alloc o) := (Below.refl _ _).alloc (Nat.le_refl _) _

/-- What lay below reads as it did. -/
theorem bcell {W w1 : World} (hb : Below W.heap.size W w1) : (∀ b o, b < W.heap.size → w1.cell? ⟨b, o, none⟩ = W.cell? ⟨b, o, none⟩) ∧ (∀ b o, b < W.heap.size → w1.frozen? ⟨b, o, none⟩ = W.frozen? ⟨b, o, none⟩) :=
  ⟨fun b o h => hb.cell (p := ⟨b, o, none⟩) h, fun b o h => hb.frozen (p := ⟨b, o, none⟩) h⟩

/-- impl.Task.valid. -/
theorem valid_any (c d p : Int) (w : World) :
    Calls Tryz.prog 40 #[.agg #[.int .i64 c, .int .i64 d, .int .i64 p]] w fun e w' =>
      e = .returned (.bool (tvB c d p)) ∧ Below w.heap.size w w' := by
  go_enter Tryz.func40, Tryz.ntmps40
  go_wp2
  all_goals (go_ret; exact ⟨ret_bool (by simp only [tvB]; rw [eq_comm]; first | (apply decide_eq_decide.2; omega) | (apply decide_eq_false; omega)), below_box _ _⟩)

/-- spec.l1In. -/
theorem l1In_any (n lo hi : Int) (w : World) :
    Calls Tryz.prog 75 #[.int .i64 n, .int .i64 lo, .int .i64 hi] w fun e w' =>
      e = .returned (.bool (inB n lo hi)) ∧ w = w' := by
  go_enter Tryz.func75, Tryz.ntmps75
  go_wp2
  all_goals (go_ret; exact ⟨ret_bool (by simp only [inB]; rw [eq_comm]; first | (apply decide_eq_decide.2; omega) | (apply decide_eq_false; omega)), rfl⟩)

/-- impl.TaskValid. -/
theorem taskValid_any (c d p : Int) (w : World) :
    Calls Tryz.prog 41 #[.agg #[.int .i64 c, .int .i64 d, .int .i64 p]] w fun e w' =>
      e = .returned (.bool (tvB c d p)) ∧ Below w.heap.size w w' := by
  go_enter Tryz.func41, Tryz.ntmps41
  go_wp2_with (go_at_call 40; refine (valid_any _ _ _ _).mono ?_; rintro e w' ⟨rfl, hb⟩)
  go_ret
  exact ⟨rfl, (below_box _ _).trans (hb.mono (by simp))⟩

/-- spec.TaskValid. -/
theorem specTaskValid_any (c d p : Int) (w : World) :
    Calls Tryz.prog 47 #[.agg #[.int .i64 c, .int .i64 d, .int .i64 p]] w fun e w' =>
      e = .returned (.bool (tvB c d p)) ∧ Below w.heap.size w w' := by
  go_enter Tryz.func47, Tryz.ntmps47
  go_wp2_with (go_at_call 75; refine (l1In_any _ _ _ _).mono ?_; rintro e w' ⟨rfl, rfl⟩)
  all_goals (go_ret; refine ⟨ret_bool ?_, below_box _ _⟩; simp only [inB, decide_eq_true_eq] at *; simp only [tvB]; rw [eq_comm]; first | (apply decide_eq_decide.2; omega) | (apply decide_eq_false; omega))

/-- laws.alive. -/
theorem alive_any (w : World) :
    Calls Tryz.prog 10 #[] w fun e w' => e = .returned (.bool true) ∧ Below w.heap.size w w' := by
  go_enter Tryz.func10, Tryz.ntmps10
  go_wp2_with (go_at_call 41; refine (taskValid_any _ _ _ _).mono ?_; rintro e w' ⟨rfl, hb⟩)
  go_ret
  exact ⟨rfl, hb⟩

end Go.Proofs.YtdgihkmiolnglaaGreatDoor

namespace Go.Proofs.YtdgihkmiolnglaaGreatDoor
open Go.RowKit

/-- A slice's array 'a' holds, in world w, the tasks ts. -/
def Row (w : World) (a : Option Addr) (ts : List (Int × Int × Int)) : Prop :=
  ∀ (k : Nat) (t : Int × Int × Int), ts[k]? = some t → ∃ b off, a = some ⟨b, off, none⟩ ∧ b < w.heap.size ∧
    w.cell? ⟨b, off + k * 3, none⟩ = some (.int .i64 t.1) ∧ w.cell? ⟨b, off + k * 3 + 1, none⟩ = some (.int .i64 t.2.1) ∧ w.cell? ⟨b, off + k * 3 + 2, none⟩ = some (.int .i64 t.2.2)

theorem Row.below {w w' : World} {a : Option Addr} {ts : List (Int × Int × Int)} (h : Row w a ts) (hb : Below w.heap.size w w') : Row w' a ts := by
  intro k t hk
  obtain ⟨b, off, ha, hlt, h0, h1, h2⟩ := h k t hk
  exact ⟨b, off, ha, Nat.lt_of_lt_of_le hlt hb.size, (hb.cell (p := ⟨b, _, none⟩) hlt).trans h0, (hb.cell (p := ⟨b, _, none⟩) hlt).trans h1, (hb.cell (p := ⟨b, _, none⟩) hlt).trans h2⟩

theorem all_snoc {ts : List (Int × Int × Int)} {k : Nat} {c d p : Int} (ha : (ts.take k).all tv = true) (hlt : k < ts.length) (ht : (c, d, p) = ts[k]) (hv : tvB c d p = true) : (ts.take (k + 1)).all tv = true := by
  rw [List.take_succ_eq_append_getElem hlt, List.all_append, ha, ← ht]; simp [tv, hv]
theorem all_no {ts : List (Int × Int × Int)} {k : Nat} {c d p : Int} (hlt : k < ts.length) (ht : (c, d, p) = ts[k]) (hv : tvB c d p = false) : svB ts = false := by
  have : ts.all tv = false := by rw [List.all_eq_false]; exact ⟨ts[k], List.getElem_mem hlt, by rw [← ht]; simp [tv, hv]⟩
  simp [svB, this]
theorem all_end {ts : List (Int × Int × Int)} (ha : (ts.take ts.length).all tv = true) : svB ts = decide ((ts.length : Int) ≤ 5) := by
  rw [List.take_length] at ha; simp [svB, ha]; omega

/-- spec.SetValid. -/
theorem specSetValid_any (a : Option Addr) (cap : Nat) (ts : List (Int × Int × Int)) (w : World) (hr : Row w a ts) (hn : ts.length ≤ 1099511627776) :
    Calls Tryz.prog 57 #[.slice a ts.length cap] w fun e w' =>
      e = .returned (.bool (svB ts)) ∧ Below w.heap.size w w' := by
  go_enter Tryz.func57, Tryz.ntmps57
  go_wp2
  go_loopg [3] ts.length (fun n i wr => ∃ k : Nat, n + k = ts.length ∧ i = .int .i64 k ∧ (ts.take k).all tv = true ∧ Below w.heap.size w wr)
  case atStart => exact ⟨0, rfl, rfl, rfl, Below.refl _ _⟩
  case round =>
    obtain ⟨k, hk, rfl, hall, hb⟩ := hrel
    have HK := Lib.hid hk
    have HA := Lib.hid hall
    have hk' : k ≤ ts.length := by omega
    clear hk hall
    by_cases hlt : k < ts.length
    · obtain ⟨b, off, rfl, hbs, hc0, hc1, hc2⟩ := hr k _ (List.getElem?_eq_getElem hlt)
      obtain ⟨⟨c, d, p⟩, ht⟩ : ∃ t, t = ts[k] := ⟨_, rfl⟩
      rw [← ht] at hc0 hc1 hc2
      have g0 := (hb.cell (p := ⟨b, off + k * 3, none⟩) hbs).trans hc0
      have g1 := (hb.cell (p := ⟨b, off + k * 3 + 1, none⟩) hbs).trans hc1
      have g2 := (hb.cell (p := ⟨b, off + k * 3 + 2, none⟩) hbs).trans hc2
      have HT := Lib.hid ht
      clear ht hc0 hc1 hc2
      simp only at g0 g1 g2
      clear hr
      by_cases hv : tvB c d p = true
      · go_wp2_with (go_at_call 47; refine (specTaskValid_any _ _ _ _).mono ?_; rintro e w1 ⟨rfl, hb1⟩)
        go_roundg (gk - 1)
        case measure => have := HK.out; omega
        case rel => exact ⟨k + 1, by have := HK.out; omega, by go_num, all_snoc HA.out hlt HT.out hv, hb.trans (hb1.mono hb.size)⟩
      · have hv' : tvB c d p = false := by simpa using hv
        clear hv
        go_wp2_with (go_at_call 47; refine (specTaskValid_any _ _ _ _).mono ?_; rintro e w1 ⟨rfl, hb1⟩)
        go_ret
        exact ⟨ret_bool (all_no hlt HT.out hv').symm, hb.trans (hb1.mono hb.size)⟩
    · have hk2 : k = ts.length := by omega
      subst hk2
      go_wp2
      go_ret
      exact ⟨ret_bool (all_end HA.out).symm, hb⟩

theorem method_valid (n : Nat) (v : Value) (w : World) :
    (method (n + 1) 29 v "loop.example/deadlinescheduler/impl.valid").run Tryz.prog w = .ok (40, v) w := by kernel_rfl

/-- impl.allValid at impl.Task. -/
theorem allValid_any (a : Option Addr) (cap : Nat) (ts : List (Int × Int × Int)) (w : World) (hr : Row w a ts) (hn : ts.length ≤ 1099511627776) :
    Calls Tryz.prog 68 #[.slice a ts.length cap, .int .i64 5] w fun e w' =>
      e = .returned (.bool (svB ts)) ∧ Below w.heap.size w w' := by
  by_cases h5 : (5 : Int) < ts.length
  · go_enter Tryz.func68, Tryz.ntmps68
    go_wp2
    go_ret
    exact ⟨ret_bool (by rw [svB, decide_eq_false (by omega), Bool.and_false]), Below.refl _ _⟩
  have h5' : (ts.length : Int) ≤ 5 := by omega
  clear h5
  go_enter Tryz.func68, Tryz.ntmps68
  go_wp2
  go_loopg [13] ts.length (fun n i wr => ∃ k : Nat, n + k = ts.length ∧ i = .int .i64 k ∧ (ts.take k).all tv = true ∧ Below w.heap.size w wr)
  case atStart => exact ⟨0, rfl, rfl, rfl, Below.refl _ _⟩
  case round =>
    obtain ⟨k, hk, rfl, hall, hb⟩ := hrel
    have HK := Lib.hid hk
    have HA := Lib.hid hall
    have hk' : k ≤ ts.length := by omega
    clear hk hall
    by_cases hlt : k < ts.length
    · obtain ⟨b, off, rfl, hbs, hc0, hc1, hc2⟩ := hr k _ (List.getElem?_eq_getElem hlt)
      obtain ⟨⟨c, d, p⟩, ht⟩ : ∃ t, t = ts[k] := ⟨_, rfl⟩
      rw [← ht] at hc0 hc1 hc2
      have g0 := (hb.cell (p := ⟨b, off + k * 3, none⟩) hbs).trans hc0
      have g1 := (hb.cell (p := ⟨b, off + k * 3 + 1, none⟩) hbs).trans hc1
      have g2 := (hb.cell (p := ⟨b, off + k * 3 + 2, none⟩) hbs).trans hc2
      have HT := Lib.hid ht
      clear ht hc0 hc1 hc2
      simp only at g0 g1 g2
      clear hr
      have hm := method_valid
      by_cases hv : tvB c d p = true
      · go_wp2_with (go_at_call 40; refine (valid_any _ _ _ _).mono ?_; rintro e w1 ⟨rfl, hb1⟩)
        go_roundg (gk - 1)
        case measure => have := HK.out; omega
        case rel => exact ⟨k + 1, by have := HK.out; omega, by go_num, all_snoc HA.out hlt HT.out hv, (hb.alloc hb.size _).trans (hb1.mono (by have := hb.size; simp; omega))⟩
      · have hv' : tvB c d p = false := by simpa using hv
        clear hv
        go_wp2_with (go_at_call 40; refine (valid_any _ _ _ _).mono ?_; rintro e w1 ⟨rfl, hb1⟩)
        go_ret
        exact ⟨ret_bool (all_no hlt HT.out hv').symm, (hb.alloc hb.size _).trans (hb1.mono (by have := hb.size; simp; omega))⟩
    · have hk2 : k = ts.length := by omega
      subst hk2
      go_wp2
      go_ret
      exact ⟨ret_bool (by rw [all_end HA.out]; exact (decide_eq_true h5').symm), hb⟩

/-- impl.SetValid. -/
theorem setValid_any (a : Option Addr) (cap : Nat) (ts : List (Int × Int × Int)) (w : World) (hr : Row w a ts) (hn : ts.length ≤ 1099511627776) :
    Calls Tryz.prog 42 #[.slice a ts.length cap] w fun e w' =>
      e = .returned (.bool (svB ts)) ∧ Below w.heap.size w w' := by
  have HR := Lib.hid hr
  clear hr
  go_enter Tryz.func42, Tryz.ntmps42
  go_wp2_with (go_at_call 68; refine (allValid_any _ _ _ _ HR.out hn).mono ?_; rintro e w1 ⟨rfl, hb1⟩)
  go_ret
  exact ⟨rfl, hb1⟩
end Go.Proofs.YtdgihkmiolnglaaGreatDoor

namespace Go.Proofs.YtdgihkmiolnglaaGreatDoor
open Go.RowKit

theorem ret_int {k : IntKind} {a b : Int} (h : a = b) : Ending.returned (.int k a) = .returned (.int k b) := by rw [h]
theorem below_drewN (w : World) (n : Nat) : Below w.heap.size w (w.drewN n) := ⟨rfl, rfl, rfl, Nat.le_refl _, fun _ _ => rfl⟩

/-- spec.l1Gcd. -/
theorem l1Gcd_any (x y : Nat) (w : World) (hx : x ≤ 1099511627776) (hy : y ≤ 1099511627776) :
    Calls Tryz.prog 59 #[.int .i64 x, .int .i64 y] w fun e w' => e = .returned (.int .i64 (Nat.gcd x y : Nat)) ∧ w = w' := by
  go_enter Tryz.func59, Tryz.ntmps59
  go_wp2
  go_loopg [0, 1] y (fun n a b wr => ∃ u v : Nat, v ≤ n ∧ u ≤ 1099511627776 ∧ v ≤ 1099511627776 ∧ a = .int .i64 u ∧ b = .int .i64 v ∧ Nat.gcd u v = Nat.gcd x y ∧ w = wr)
  case atStart => exact ⟨x, y, Nat.le_refl _, hx, hy, rfl, rfl, rfl, rfl⟩
  case round =>
    obtain ⟨u, v, hvn, hu, hv, rfl, rfl, hg, rfl⟩ := hrel
    have HG := Lib.hid hg
    clear hg
    by_cases h0 : 0 < v
    · have h0' : (0 : Int) < v := by omega
      go_wp2
      go_roundg (u % v)
      case measure => have := Nat.mod_lt u h0; omega
      case rel => exact ⟨v, u % v, Nat.le_refl _, hv, by have := Nat.mod_lt u h0; omega, rfl, by go_num, by rw [← HG.out, Nat.gcd_comm u v, Nat.gcd_rec v u, Nat.gcd_comm], rfl⟩
    · obtain rfl : v = 0 := by omega
      go_wp2
      go_ret
      exact ⟨ret_int (by rw [← HG.out]; simp), rfl⟩

/-- impl.greatestCommonDivisor. -/
theorem gcd_any (x y : Nat) (w : World) (hx : x ≤ 1099511627776) (hy : y ≤ 1099511627776) :
    Calls Tryz.prog 121 #[.int .i64 x, .int .i64 y] w fun e w' => e = .returned (.int .i64 (Nat.gcd x y : Nat)) ∧ ∃ n, w' = w.drewN n := by
  go_enter Tryz.func121, Tryz.ntmps121
  go_wp2
  go_loopg [0, 1] y (fun n a b wr => ∃ u v : Nat, v ≤ n ∧ u ≤ 1099511627776 ∧ v ≤ 1099511627776 ∧ a = .int .i64 u ∧ b = .int .i64 v ∧ Nat.gcd u v = Nat.gcd x y ∧ ∃ m, wr = w.drewN m)
  case atStart => exact ⟨x, y, Nat.le_refl _, hx, hy, rfl, rfl, rfl, 0, rfl⟩
  case round =>
    obtain ⟨u, v, hvn, hu, hv, rfl, rfl, hg, m, rfl⟩ := hrel
    have HG := Lib.hid hg
    clear hg
    by_cases h0 : 0 < v
    · have h0' : (0 : Int) < v := by omega
      have hne : ((v : Int) != 0) = true := by simp; omega
      go_wp2
      go_quiet (fail)
      go_wp2
      go_roundg (u % v)
      case measure => have := Nat.mod_lt u h0; omega
      case rel => exact ⟨v, u % v, Nat.le_refl _, hv, by have := Nat.mod_lt u h0; omega, rfl, by go_num, by rw [← HG.out, Nat.gcd_comm u v, Nat.gcd_rec v u, Nat.gcd_comm], m + nq, World.drewN_drewN _ _ _⟩
    · obtain rfl : v = 0 := by omega
      go_wp2
      go_ret
      exact ⟨ret_int (by rw [← HG.out]; simp), _, rfl⟩

/-- impl.leastCommonMultiple. -/
theorem lcm_any (x y : Nat) (w : World) (hx : x ≤ 27720) (hx1 : 1 ≤ x) (hy : y ≤ 12) (hy1 : 1 ≤ y) :
    Calls Tryz.prog 101 #[.int .i64 x, .int .i64 y] w fun e w' => e = .returned (.int .i64 (Nat.lcm x y : Nat)) ∧ ∃ n, w' = w.drewN n := by
  obtain ⟨g, hg⟩ : ∃ g, g = Nat.gcd x y := ⟨_, rfl⟩
  have hg1 : 1 ≤ g := by rw [hg]; exact Nat.gcd_pos_of_pos_left _ hx1
  have hg2 : g ≤ 12 := by rw [hg]; exact Nat.le_trans (Nat.le_of_dvd hy1 (Nat.gcd_dvd_right x y)) hy
  have hg1' : (1 : Int) ≤ g := by omega
  have hne : ((g : Int) == 0) = false := by simp; omega
  have hq0 : (0 : Int) ≤ (x : Int) / g := Int.ediv_nonneg (by omega) (by omega)
  have hq1 : (x : Int) / g ≤ 27720 := Int.le_trans (Int.ediv_le_self _ (by omega)) (by omega)
  have hm0 : (0 : Int) ≤ (x : Int) / g * y := Int.mul_nonneg hq0 (by omega)
  have hm1 : (x : Int) / g * y ≤ 332640 := Int.le_trans (Int.mul_le_mul hq1 (show (y : Int) ≤ 12 by omega) (by omega) (by omega)) (by omega)
  have C := Lib.hid (gcd_any x y w (by omega) (by omega))
  rw [← hg] at C
  have HG := Lib.hid hg
  clear hg
  go_enter Tryz.func101, Tryz.ntmps101
  go_wp2_with fail
  refine C.out.mono ?_
  rintro e w' ⟨rfl, n, rfl⟩
  go_wp2
  go_ret
  exact ⟨ret_int (by rw [← lcm_step, ← HG.out]; simp), n, rfl⟩

theorem quiet_left {P : Program} {f : FuncId} {args : Array Value} {w : World} {n : Nat} {v : Value}
    (h : Calls P f args (w.drewN n) fun e w' => e = .returned v ∧ w.drewN n = w') : Calls P f args (w.drewN n) fun e w'' => e = .returned v ∧ ∃ m, w'' = w.drewN m :=
  h.mono fun _ _ hh => ⟨hh.1, n, hh.2.symm⟩

theorem take_succ {ts : List (Int × Int × Int)} {k : Nat} {t : Int × Int × Int} (hlt : k < ts.length) (ht : t = ts[k]) : ts.take (k + 1) = ts.take k ++ [t] := by
  rw [List.take_succ_eq_append_getElem hlt, ht]
theorem all_take {ts : List (Int × Int × Int)} (h : ts.all tv = true) (k : Nat) : (ts.take k).all tv = true := by
  rw [List.all_eq_true] at h ⊢
  exact fun t ht => h t (List.mem_of_mem_take ht)
theorem all_at {ts : List (Int × Int × Int)} {k : Nat} {t : Int × Int × Int} (h : ts.all tv = true) (hlt : k < ts.length) (ht : t = ts[k]) : tv t = true := by
  rw [List.all_eq_true] at h
  rw [ht]
  exact h _ (List.getElem_mem hlt)

theorem hyp_step {ts : List (Int × Int × Int)} {k H q g : Nat} {t : Int × Int × Int} (hlt : k < ts.length) (ht : t = ts[k]) (hq : q = per t) (hH : H = hyp (ts.take k)) (hg : g = Nat.gcd H q) :
    Value.int .i64 ((H : Int) / g * q) = .int .i64 (hyp (ts.take (k + 1)) : Nat) := by
  rw [take_succ hlt ht, hyp_snoc, ← hH, ← hq, ← lcm_step, ← hg]
  simp

/-- spec.l1Hyper, of valid tasks. -/
theorem l1Hyper_any (a : Option Addr) (cap : Nat) (ts : List (Int × Int × Int)) (w : World) (hr : Row w a ts) (hn : ts.length ≤ 1099511627776) (hv : ts.all tv = true) :
    Calls Tryz.prog 58 #[.slice a ts.length cap] w fun e w' =>
      e = .returned (.int .i64 (hyp ts : Nat)) ∧ ∃ n, w' = w.drewN n := by
  have HV := Lib.hid hv
  clear hv
  go_enter Tryz.func58, Tryz.ntmps58
  go_wp2
  go_loopg [3, 4] ts.length (fun n h i wr => ∃ k : Nat, n + k = ts.length ∧ i = .int .i64 k ∧ h = .int .i64 (hyp (ts.take k) : Nat) ∧ ∃ m, wr = w.drewN m)
  case atStart => exact ⟨0, rfl, rfl, rfl, 0, rfl⟩
  case round =>
    obtain ⟨k, hk, rfl, rfl, m, hwr⟩ := hrel
    have HW := Lib.hid hwr
    have HK := Lib.hid hk
    have hk' : k ≤ ts.length := by omega
    clear hk
    obtain ⟨H, hH⟩ : ∃ H, H = hyp (ts.take k) := ⟨_, rfl⟩
    have hbd := hyp_bd (ts.take k) (all_take HV.out k)
    rw [← hH] at hbd ⊢
    have HH := Lib.hid hH
    clear hH
    obtain ⟨hb1, hb2⟩ := hbd
    by_cases hlt : k < ts.length
    · obtain ⟨b, off, rfl, hbs, hc0, hc1, hc2⟩ := hr k _ (List.getElem?_eq_getElem hlt)
      obtain ⟨t, ht⟩ : ∃ t, t = ts[k] := ⟨_, rfl⟩
      rw [← ht] at hc2
      have htv := all_at HV.out hlt ht
      obtain ⟨q, hq⟩ : ∃ q, q = per t := ⟨_, rfl⟩
      have hp := per_dvd htv
      rw [← hq] at hp
      obtain ⟨_, hp1, hp2, hp3⟩ := hp
      rw [← hp3] at hc2
      have g2 : wr.cell? ⟨b, off + k * 3 + 2, none⟩ = some (.int .i64 q) := by rw [hwr]; exact hc2
      have HT := Lib.hid ht
      have HQ := Lib.hid hq
      clear ht hq hp3 hc0 hc1 hc2 hr htv hwr
      obtain ⟨g, hg⟩ : ∃ g, g = Nat.gcd H q := ⟨_, rfl⟩
      have hg1 : 1 ≤ g := by rw [hg]; exact Nat.gcd_pos_of_pos_left _ hb1
      have hg2 : g ≤ 12 := by rw [hg]; exact Nat.le_trans (Nat.le_of_dvd hp1 (Nat.gcd_dvd_right H q)) hp2
      have C := Lib.hid (fun W => l1Gcd_any H q W (by omega) (by omega))
      rw [← hg] at C
      have HG := Lib.hid hg
      clear hg
      have hg1' : (1 : Int) ≤ g := by omega
      have hne : ((g : Int) == 0) = false := by simp; omega
      have hq0 : (0 : Int) ≤ (H : Int) / g := Int.ediv_nonneg (by omega) (by omega)
      have hq1 : (H : Int) / g ≤ 27720 := Int.le_trans (Int.ediv_le_self _ (by omega)) (by omega)
      have hm0 : (0 : Int) ≤ (H : Int) / g * q := Int.mul_nonneg hq0 (by omega)
      have hm1 : (H : Int) / g * q ≤ 332640 := Int.le_trans (Int.mul_le_mul hq1 (show (q : Int) ≤ 12 by omega) (by omega) (by omega)) (by omega)
      have hk0 : (0 : Int) ≤ k := by omega
      have hk1 : (k : Int) < ts.length := by omega
      go_wp2
      go_quiet ((go_at_call 59; exact quiet_left (C.out _)))
      go_wp2
      go_roundg (gk - 1)
      case measure => have := HK.out; omega
      case rel => exact ⟨k + 1, by have := HK.out; omega, by go_num, hyp_step hlt HT.out HQ.out HH.out HG.out, m + nq, by rw [HW.out, World.drewN_drewN]⟩
    · clear hwr
      obtain rfl : k = ts.length := by omega
      go_wp2
      go_ret
      exact ⟨ret_int (by rw [HH.out, List.take_length]), m, HW.out⟩

theorem hyB_no {ts : List (Int × Int × Int)} (h : svB ts = false) : hyB ts = 0 := by simp [hyB, h]
theorem hyB_yes {ts : List (Int × Int × Int)} (h : svB ts = true) : hyB ts = hyp ts := by simp [hyB, h]
theorem sv_all {ts : List (Int × Int × Int)} (h : svB ts = true) : ts.all tv = true ∧ ts.length ≤ 5 := by simpa [svB] using h

/-- impl.Hyperperiod. -/
theorem hyperperiod_any (a : Option Addr) (cap : Nat) (ts : List (Int × Int × Int)) (w : World) (hr : Row w a ts) (hn : ts.length ≤ 1099511627776) :
    Calls Tryz.prog 71 #[.slice a ts.length cap] w fun e w' =>
      e = .returned (.int .i64 (hyB ts : Nat)) ∧ Below w.heap.size w w' := by
  have HR := Lib.hid hr
  clear hr
  by_cases hv : svB ts = true
  · go_enter Tryz.func71, Tryz.ntmps71
    go_wp2_with fail
    refine (setValid_any _ _ _ _ HR.out hn).mono ?_
    rintro e w1 ⟨rfl, b1⟩
    have HV := Lib.hid (sv_all hv).1
    go_wp2
    go_loopg [3, 11] ts.length (fun n h i wr => ∃ k : Nat, n + k = ts.length ∧ i = .int .i64 k ∧ h = .int .i64 (hyp (ts.take k) : Nat) ∧ Below w.heap.size w wr)
    case atStart => exact ⟨0, rfl, rfl, rfl, b1⟩
    case round =>
      obtain ⟨k, hk, rfl, rfl, hb⟩ := hrel
      have HK := Lib.hid hk
      have hk' : k ≤ ts.length := by omega
      clear hk
      obtain ⟨H, hH⟩ : ∃ H, H = hyp (ts.take k) := ⟨_, rfl⟩
      have hbd := hyp_bd (ts.take k) (all_take HV.out k)
      rw [← hH] at hbd ⊢
      have HH := Lib.hid hH
      clear hH
      obtain ⟨hb1, hb2⟩ := hbd
      by_cases hlt : k < ts.length
      · obtain ⟨b, off, rfl, hbs, hc0, hc1, hc2⟩ := HR.out k _ (List.getElem?_eq_getElem hlt)
        obtain ⟨t, ht⟩ : ∃ t, t = ts[k] := ⟨_, rfl⟩
        rw [← ht] at hc0 hc1 hc2
        have htv := all_at HV.out hlt ht
        obtain ⟨q, hq⟩ : ∃ q, q = per t := ⟨_, rfl⟩
        have hp := per_dvd htv
        rw [← hq] at hp
        obtain ⟨_, hp1, hp2, hp3⟩ := hp
        rw [← hp3] at hc2
        have g0 := (hb.cell (p := ⟨b, off + k * 3, none⟩) hbs).trans hc0
        have g1 := (hb.cell (p := ⟨b, off + k * 3 + 1, none⟩) hbs).trans hc1
        have g2 := (hb.cell (p := ⟨b, off + k * 3 + 2, none⟩) hbs).trans hc2
        have HT := Lib.hid ht
        have HQ := Lib.hid hq
        clear ht hq hp3 hc0 hc1 hc2 htv
        have C := Lib.hid (fun W => lcm_any H q W (by omega) (by omega) (by omega) (by omega))
        go_wp2_with (go_at_call 101; refine (C.out _).mono ?_; rintro e w2 ⟨rfl, n, rfl⟩)
        go_roundg (gk - 1)
        case measure => have := HK.out; omega
        case rel => exact ⟨k + 1, by have := HK.out; omega, by go_num, by rw [take_succ hlt HT.out, hyp_snoc, ← HH.out, ← HQ.out], (hb.alloc hb.size _).trans ((below_drewN _ _).mono (by have := hb.size; simp; omega))⟩
      · obtain rfl : k = ts.length := by omega
        go_wp2
        go_ret
        exact ⟨ret_int (by rw [HH.out, List.take_length, hyB_yes hv]), hb⟩
  · have hv' : svB ts = false := by simpa using hv
    clear hv
    go_enter Tryz.func71, Tryz.ntmps71
    go_wp2_with fail
    refine (setValid_any _ _ _ _ HR.out hn).mono ?_
    rintro e w1 ⟨rfl, b1⟩
    go_wp2
    go_ret
    exact ⟨ret_int (by rw [hyB_no hv']; rfl), b1⟩
end Go.Proofs.YtdgihkmiolnglaaGreatDoor

namespace Go.Proofs.YtdgihkmiolnglaaGreatDoor
open Go.RowKit

theorem quo_nat (x g : Nat) (hx : x ≤ 1099511627776) : wrap64 ((x : Int) / g) = ((x / g : Nat) : Int) := by
  have h1 : x / g ≤ x := Nat.div_le_self _ _
  rw [← Int.natCast_ediv]
  generalize x / g = z at *
  exact IntWalk.wrap64_in _ (by omega)
theorem below_drewN' {B : Nat} {a w : World} (h : Below B a w) (n : Nat) : Below B a (w.drewN n) := ⟨h.os, h.tape, h.output, h.size, h.block⟩
theorem mul_bd (a b : Nat) (ha : a ≤ 200000) (hb : b ≤ 200000) : (0 : Int) ≤ (a : Int) * b ∧ (a : Int) * b ≤ 40000000000 ∧ a * b ≤ 40000000000 := by
  have h : a * b ≤ 200000 * 200000 := Nat.mul_le_mul ha hb
  have e : (a : Int) * b = ((a * b : Nat) : Int) := by simp
  rw [e]
  omega

/-- impl.Fraction.reduced. -/
theorem reduced_any (x y : Nat) (w : World) (hx : x ≤ 1099511627776) (hy : y ≤ 1099511627776) (hy1 : 1 ≤ y) :
    Calls Tryz.prog 106 #[.agg #[.int .i64 x, .int .i64 y]] w fun e w' =>
      e = .returned (.agg #[.int .i64 (rn x y : Nat), .int .i64 (rd x y : Nat)]) ∧ Below w.heap.size w w' := by
  obtain ⟨g, hg⟩ : ∃ g, g = Nat.gcd x y := ⟨_, rfl⟩
  have hg1 : 1 ≤ g := by rw [hg]; exact Nat.gcd_pos_of_pos_right _ hy1
  have hg1' : (1 : Int) ≤ g := by omega
  have hne : ((g : Int) == 0) = false := by simp; omega
  have C := Lib.hid (fun W => gcd_any x y W hx hy)
  rw [← hg] at C
  have HG := Lib.hid hg
  clear hg
  go_enter Tryz.func106, Tryz.ntmps106
  go_wp2_with fail
  refine (C.out _).mono ?_
  rintro e w' ⟨rfl, n, rfl⟩
  go_wp2
  go_region
  go_wp2
  simp [bodyPost, results, Tryz.results106, go_sem]
  refine ⟨⟨?_, ?_⟩, ((below_drewN' (((below_box _ _).alloc (by simp) _)) _).setCell (by simp) _).setCell (by simp) _⟩
  · rw [quo_nat _ _ hx]; simp only [rn]; rw [HG.out]
  · rw [quo_nat _ _ hy]; simp only [rd]; rw [HG.out]

/-- impl.Task.utilization. -/
theorem utilization1_any (c p : Nat) (d : Int) (w : World) (hc : c ≤ 1099511627776) (hp : p ≤ 1099511627776) (hp1 : 1 ≤ p) :
    Calls Tryz.prog 81 #[.agg #[.int .i64 c, .int .i64 d, .int .i64 p]] w fun e w' =>
      e = .returned (.agg #[.int .i64 (rn c p : Nat), .int .i64 (rd c p : Nat)]) ∧ Below w.heap.size w w' := by
  have C := Lib.hid (fun W => reduced_any c p W hc hp hp1)
  go_enter Tryz.func81, Tryz.ntmps81
  go_wp2_with fail
  refine (C.out _).mono ?_
  rintro e w1 ⟨rfl, hb⟩
  have x0 : w1.cell? ⟨w.heap.size + 1, 0, none⟩ = some (.int .i64 0) := by rw [hb.cell (p := ⟨w.heap.size + 1, 0, none⟩) (by simp)]; go_simp
  have x1 : w1.cell? ⟨w.heap.size + 1, 1, none⟩ = some (.int .i64 0) := by rw [hb.cell (p := ⟨w.heap.size + 1, 1, none⟩) (by simp)]; go_simp
  have f0 : w1.frozen? ⟨w.heap.size + 1, 0, none⟩ = false := by rw [hb.frozen (p := ⟨w.heap.size + 1, 0, none⟩) (by simp)]; go_simp
  have f1 : w1.frozen? ⟨w.heap.size + 1, 1, none⟩ = false := by rw [hb.frozen (p := ⟨w.heap.size + 1, 1, none⟩) (by simp)]; go_simp
  go_wp2
  simp [bodyPost, results, Tryz.results81, go_sem, x0, x1]
  exact ((((below_box _ _).alloc (by simp) _).trans (hb.mono (by simp; omega))).setCell (by simp) _).setCell (by simp) _

/-- impl.Fraction.plus. -/
theorem plus_any (a b c d : Nat) (w : World) (ha : a ≤ 200000) (hb : b ≤ 200000) (hb1 : 1 ≤ b) (hc : c ≤ 200000) (hd : d ≤ 200000) (hd1 : 1 ≤ d) :
    Calls Tryz.prog 80 #[.agg #[.int .i64 a, .int .i64 b], .agg #[.int .i64 c, .int .i64 d]] w fun e w' =>
      e = .returned (.agg #[.int .i64 (rn (a * d + c * b) (b * d) : Nat), .int .i64 (rd (a * d + c * b) (b * d) : Nat)]) ∧ Below w.heap.size w w' := by
  have m1 := mul_bd a d ha hd
  have m2 := mul_bd c b hc hb
  have m3 := mul_bd b d hb hd
  have m4 : 1 ≤ b * d := Nat.mul_pos hb1 hd1
  have C := Lib.hid (fun W => reduced_any (a * d + c * b) (b * d) W (by have := m1.2.2; have := m2.2.2; omega) (by have := m3.2.2; omega) m4)
  simp only [Int.natCast_add, Int.natCast_mul] at C
  obtain ⟨p1, p2, _⟩ := m1
  obtain ⟨p3, p4, _⟩ := m2
  obtain ⟨p5, p6, _⟩ := m3
  clear m4
  go_enter Tryz.func80, Tryz.ntmps80
  go_wp2_with fail
  refine (C.out _).mono ?_
  rintro e w1 ⟨rfl, hbw⟩
  have x0 : w1.cell? ⟨w.heap.size + 1 + 1, 0, none⟩ = some (.int .i64 0) := by rw [hbw.cell (p := ⟨w.heap.size + 1 + 1, 0, none⟩) (by simp)]; go_simp
  have x1 : w1.cell? ⟨w.heap.size + 1 + 1, 1, none⟩ = some (.int .i64 0) := by rw [hbw.cell (p := ⟨w.heap.size + 1 + 1, 1, none⟩) (by simp)]; go_simp
  have f0 : w1.frozen? ⟨w.heap.size + 1 + 1, 0, none⟩ = false := by rw [hbw.frozen (p := ⟨w.heap.size + 1 + 1, 0, none⟩) (by simp)]; go_simp
  have f1 : w1.frozen? ⟨w.heap.size + 1 + 1, 1, none⟩ = false := by rw [hbw.frozen (p := ⟨w.heap.size + 1 + 1, 1, none⟩) (by simp)]; go_simp
  go_wp2
  simp [bodyPost, results, Tryz.results80, go_sem, x0, x1]
  exact (((((below_box _ _).alloc (by simp) _).alloc (by simp; omega) _).trans (hbw.mono (by simp; omega))).setCell (by simp; omega) _).setCell (by simp; omega) _

theorem ut_no {ts : List (Int × Int × Int)} (h : svB ts = false) : utN ts = 0 ∧ utD ts = 0 := by simp [utN, utD, h]
theorem ut_yes {ts : List (Int × Int × Int)} (h : svB ts = true) : utN ts = wrk (hyp ts) ts / Nat.gcd (hyp ts) (wrk (hyp ts) ts) ∧ utD ts = hyp ts / Nat.gcd (hyp ts) (wrk (hyp ts) ts) := by simp [utN, utD, h]
theorem wrk_take_le {ts : List (Int × Int × Int)} (h : svB ts = true) (H k : Nat) : wrk H (ts.take k) ≤ 5 * H := by
  obtain ⟨h1, h2⟩ := sv_all h
  refine Nat.le_trans (wrk_le H (ts.take k) (all_take h1 k)) (Nat.mul_le_mul_right _ ?_)
  rw [List.length_take]
  omega
theorem wrk_step {ts : List (Int × Int × Int)} {k H S c q : Nat} {t : Int × Int × Int} (hlt : k < ts.length) (ht : t = ts[k]) (hc : c = cst t) (hq : q = per t) (hS : S = wrk H (ts.take k)) :
    Value.int .i64 ((S : Int) + c * ((H : Int) / q)) = .int .i64 (wrk H (ts.take (k + 1)) : Nat) := by
  rw [take_succ hlt ht, wrk_snoc, ← hS, ← hc, ← hq]
  simp

/-- spec.Utilization. -/
theorem specUtilization_any (a : Option Addr) (cap : Nat) (ts : List (Int × Int × Int)) (w : World) (hr : Row w a ts) (hn : ts.length ≤ 1099511627776) :
    Calls Tryz.prog 31 #[.slice a ts.length cap] w fun e w' =>
      e = .returned (.agg #[.int .i64 (utN ts : Nat), .int .i64 (utD ts : Nat)]) ∧ Below w.heap.size w w' := by
  have HR := Lib.hid (hr.below (below_box w (.cells #[.int .i64 0, .int .i64 0] 49)))
  clear hr
  by_cases hv : svB ts = true
  · go_enter Tryz.func31, Tryz.ntmps31
    go_wp2_with fail
    refine (specSetValid_any _ _ _ _ HR.out hn).mono ?_
    rintro e w1 ⟨rfl, b1⟩
    have HV := Lib.hid (sv_all hv).1
    have HSV := Lib.hid hv
    go_wp2_with fail
    refine (l1Hyper_any _ _ _ _ (HR.out.below b1) hn HV.out).mono ?_
    rintro e w2 ⟨rfl, n2, hw2⟩
    have b2 : Below w.heap.size w w2 := by rw [hw2]; exact below_drewN' ((below_box _ _).trans (b1.mono (by simp))) _
    have hR2 := Lib.hid ((HR.out.below b1).below (w' := w2) (by rw [hw2]; exact below_drewN _ _))
    have x0 : w2.cell? ⟨w.heap.size, 0, none⟩ = some (.int .i64 0) := by rw [hw2]; show w1.cell? _ = _; rw [b1.cell (p := ⟨w.heap.size, 0, none⟩) (by simp)]; go_simp
    have x1 : w2.cell? ⟨w.heap.size, 1, none⟩ = some (.int .i64 0) := by rw [hw2]; show w1.cell? _ = _; rw [b1.cell (p := ⟨w.heap.size, 1, none⟩) (by simp)]; go_simp
    have f0 : w2.frozen? ⟨w.heap.size, 0, none⟩ = false := by rw [hw2]; show w1.frozen? _ = _; rw [b1.frozen (p := ⟨w.heap.size, 0, none⟩) (by simp)]; go_simp
    have f1 : w2.frozen? ⟨w.heap.size, 1, none⟩ = false := by rw [hw2]; show w1.frozen? _ = _; rw [b1.frozen (p := ⟨w.heap.size, 1, none⟩) (by simp)]; go_simp
    clear hw2 b1 HR hv
    obtain ⟨H, hH⟩ : ∃ H, H = hyp ts := ⟨_, rfl⟩
    have hbd := hyp_bd ts HV.out
    rw [← hH] at hbd ⊢
    have HH := Lib.hid hH
    clear hH
    obtain ⟨hb1, hb2⟩ := hbd
    go_wp2
    go_loopg [4, 5] ts.length (fun n h i wr => ∃ k : Nat, n + k = ts.length ∧ i = .int .i64 k ∧ h = .int .i64 (wrk H (ts.take k) : Nat) ∧ ∃ m, wr = w2.drewN m)
    case atStart => exact ⟨0, rfl, rfl, rfl, 0, rfl⟩
    case round =>
      obtain ⟨k, hk, rfl, rfl, m, hwr⟩ := hrel
      have HW := Lib.hid hwr
      have HK := Lib.hid hk
      have hk' : k ≤ ts.length := by omega
      clear hk
      obtain ⟨S, hS⟩ : ∃ S, S = wrk H (ts.take k) := ⟨_, rfl⟩
      have hsb := wrk_take_le HSV.out H k
      rw [← hS] at hsb ⊢
      have HS := Lib.hid hS
      clear hS
      by_cases hlt : k < ts.length
      · obtain ⟨b, off, rfl, hbs, hc0, _, hc2⟩ := hR2.out k _ (List.getElem?_eq_getElem hlt)
        obtain ⟨t, ht⟩ : ∃ t, t = ts[k] := ⟨_, rfl⟩
        rw [← ht] at hc0 hc2
        have htv := all_at HV.out hlt ht
        obtain ⟨q, hq⟩ : ∃ q, q = per t := ⟨_, rfl⟩
        obtain ⟨c, hc⟩ : ∃ c, c = cst t := ⟨_, rfl⟩
        have hp := per_dvd htv
        have hcs := cst_le htv
        rw [← hq] at hp hcs
        rw [← hc] at hcs
        obtain ⟨_, hp1, hp2, hp3⟩ := hp
        obtain ⟨hcs1, hcs2, hcs3⟩ := hcs
        rw [← hp3] at hc2
        rw [← hcs3] at hc0
        have g0 : wr.cell? ⟨b, off + k * 3, none⟩ = some (.int .i64 c) := by rw [hwr]; exact hc0
        have g2 : wr.cell? ⟨b, off + k * 3 + 2, none⟩ = some (.int .i64 q) := by rw [hwr]; exact hc2
        have HT := Lib.hid ht
        have HQ := Lib.hid hq
        have HC := Lib.hid hc
        clear ht hq hc hp3 hcs3 hc0 hc2 htv hwr x0 x1 f0 f1
        have hne : ((q : Int) == 0) = false := by simp; omega
        have hq0 : (0 : Int) ≤ (H : Int) / q := Int.ediv_nonneg (by omega) (by omega)
        have hq1 : (H : Int) / q ≤ 27720 := Int.le_trans (Int.ediv_le_self _ (by omega)) (by omega)
        have hm0 : (0 : Int) ≤ (c : Int) * ((H : Int) / q) := Int.mul_nonneg (by omega) hq0
        have hm1 : (c : Int) * ((H : Int) / q) ≤ 332640 := Int.le_trans (Int.mul_le_mul (show (c : Int) ≤ 12 by omega) hq1 hq0 (by omega)) (by omega)
        have hk0 : (0 : Int) ≤ k := by omega
        have hk1 : (k : Int) < ts.length := by omega
        go_wp2
        go_quiet (fail)
        go_wp2
        go_roundg (gk - 1)
        case measure => have := HK.out; omega
        case rel => exact ⟨k + 1, by have := HK.out; omega, by go_num, wrk_step hlt HT.out HC.out HQ.out HS.out, m + nq, by rw [HW.out, World.drewN_drewN]⟩
      · obtain rfl : k = ts.length := by omega
        have y0 : wr.cell? ⟨w.heap.size, 0, none⟩ = some (.int .i64 0) := by rw [hwr]; exact x0
        have y1 : wr.cell? ⟨w.heap.size, 1, none⟩ = some (.int .i64 0) := by rw [hwr]; exact x1
        have z0 : wr.frozen? ⟨w.heap.size, 0, none⟩ = false := by rw [hwr]; exact f0
        have z1 : wr.frozen? ⟨w.heap.size, 1, none⟩ = false := by rw [hwr]; exact f1
        clear hwr x0 x1 f0 f1
        obtain ⟨g, hg⟩ : ∃ g, g = Nat.gcd H S := ⟨_, rfl⟩
        have hg1 : 1 ≤ g := by rw [hg]; exact Nat.gcd_pos_of_pos_left _ hb1
        have C := Lib.hid (fun W => l1Gcd_any H S W (by omega) (by omega))
        rw [← hg] at C
        have HG := Lib.hid hg
        clear hg
        have hg1' : (1 : Int) ≤ g := by omega
        have hne : ((g : Int) == 0) = false := by simp; omega
        go_wp2_with fail
        refine (C.out _).mono ?_
        rintro e w' ⟨rfl, rfl⟩
        go_wp2
        go_region
        go_wp2
        simp [bodyPost, results, Tryz.results31, go_sem, y0, y1]
        have hbw : Below w.heap.size w wr := by rw [HW.out]; exact below_drewN' b2 _
        refine ⟨⟨?_, ?_⟩, ((hbw.setCell (Nat.le_refl _) _).setCell (Nat.le_refl _) _).drew⟩
        · rw [quo_nat _ _ (by omega), (ut_yes HSV.out).1, HG.out, HS.out, HH.out, List.take_length]
        · rw [quo_nat _ _ (by omega), (ut_yes HSV.out).2, HG.out, HS.out, HH.out, List.take_length]
  · have hv' : svB ts = false := by simpa using hv
    clear hv
    go_enter Tryz.func31, Tryz.ntmps31
    go_wp2_with fail
    refine (specSetValid_any _ _ _ _ HR.out hn).mono ?_
    rintro e w1 ⟨rfl, b1⟩
    have x0 : w1.cell? ⟨w.heap.size, 0, none⟩ = some (.int .i64 0) := by rw [b1.cell (p := ⟨w.heap.size, 0, none⟩) (by simp)]; go_simp
    have x1 : w1.cell? ⟨w.heap.size, 1, none⟩ = some (.int .i64 0) := by rw [b1.cell (p := ⟨w.heap.size, 1, none⟩) (by simp)]; go_simp
    have f0 : w1.frozen? ⟨w.heap.size, 0, none⟩ = false := by rw [b1.frozen (p := ⟨w.heap.size, 0, none⟩) (by simp)]; go_simp
    have f1 : w1.frozen? ⟨w.heap.size, 1, none⟩ = false := by rw [b1.frozen (p := ⟨w.heap.size, 1, none⟩) (by simp)]; go_simp
    go_wp2
    simp [bodyPost, results, Tryz.results31, go_sem, x0, x1]
    refine ⟨⟨?_, ?_⟩, (((below_box _ _).trans (b1.mono (by simp))).setCell (Nat.le_refl _) _).setCell (Nat.le_refl _) _⟩
    · rw [(ut_no hv').1]; rfl
    · rw [(ut_no hv').2]; rfl
end Go.Proofs.YtdgihkmiolnglaaGreatDoor

namespace Go.Proofs.YtdgihkmiolnglaaGreatDoor
open Go.RowKit

theorem frac_step {ts : List (Int × Int × Int)} {k H N D c q : Nat} {t : Int × Int × Int} (hlt : k < ts.length) (ht : t = ts[k]) (hc : c = cst t) (hq : q = per t) (hH : H = hyp ts) (hp : 1 ≤ q) (h : Frac N D (wrk H (ts.take k)) H) :
    Frac (rn (N * rd c q + rn c q * D) (D * rd c q)) (rd (N * rd c q + rn c q * D) (D * rd c q)) (wrk H (ts.take (k + 1))) H := by
  rw [take_succ hlt ht, wrk_snoc, ← hc, ← hq]
  exact h.step hp (by rw [hq, hH, ht]; exact per_dvd_hyp (List.getElem_mem hlt))

set_option maxHeartbeats 2000000 in
/-- impl.Utilization. -/
theorem utilization_any (a : Option Addr) (cap : Nat) (ts : List (Int × Int × Int)) (w : World) (hr : Row w a ts) (hn : ts.length ≤ 1099511627776) :
    Calls Tryz.prog 51 #[.slice a ts.length cap] w fun e w' =>
      e = .returned (.agg #[.int .i64 (utN ts : Nat), .int .i64 (utD ts : Nat)]) ∧ Below w.heap.size w w' := by
  have HR := Lib.hid (hr.below (below_box w (.cells #[.int .i64 0, .int .i64 0] 49)))
  clear hr
  by_cases hv : svB ts = true
  · go_enter Tryz.func51, Tryz.ntmps51
    go_wp2_with fail
    refine (setValid_any _ _ _ _ HR.out hn).mono ?_
    rintro e w1 ⟨rfl, b1⟩
    have HV := Lib.hid (sv_all hv).1
    have HSV := Lib.hid hv
    have x0 : w1.cell? ⟨w.heap.size, 0, none⟩ = some (.int .i64 0) := by rw [b1.cell (p := ⟨w.heap.size, 0, none⟩) (by simp)]; go_simp
    have x1 : w1.cell? ⟨w.heap.size, 1, none⟩ = some (.int .i64 0) := by rw [b1.cell (p := ⟨w.heap.size, 1, none⟩) (by simp)]; go_simp
    have f0 : w1.frozen? ⟨w.heap.size, 0, none⟩ = false := by rw [b1.frozen (p := ⟨w.heap.size, 0, none⟩) (by simp)]; go_simp
    have f1 : w1.frozen? ⟨w.heap.size, 1, none⟩ = false := by rw [b1.frozen (p := ⟨w.heap.size, 1, none⟩) (by simp)]; go_simp
    have bw1 : Below w.heap.size w w1 := (below_box _ _).trans (b1.mono (by simp))
    have HR1 := Lib.hid (HR.out.below b1)
    have hs1 := b1.size
    simp at hs1
    have hwlt : w.heap.size < w1.heap.size := by omega
    obtain ⟨H, hH⟩ : ∃ H, H = hyp ts := ⟨_, rfl⟩
    have hbd := hyp_bd ts HV.out
    rw [← hH] at hbd
    have HH := Lib.hid hH
    clear hH
    obtain ⟨hb1, hb2⟩ := hbd
    go_wp2
    clear hv
    go_loopg [13] ts.length (fun n i wr => ∃ k N D : Nat, n + k = ts.length ∧ i = .int .i64 k ∧ Frac N D (wrk H (ts.take k)) H ∧ Below w1.heap.size w1 wr ∧ w1.heap.size < wr.heap.size ∧
      wr.cell? ⟨w1.heap.size, 0, none⟩ = some (.int .i64 N) ∧ wr.cell? ⟨w1.heap.size, 1, none⟩ = some (.int .i64 D) ∧ wr.frozen? ⟨w1.heap.size, 0, none⟩ = false ∧ wr.frozen? ⟨w1.heap.size, 1, none⟩ = false)
    case atStart => exact ⟨0, 0, 1, rfl, rfl, Frac.start H, below_box _ _, by simp, by go_simp, by go_simp, by go_simp, by go_simp⟩
    case round =>
      obtain ⟨k, N, D, hk, rfl, hfr, hb, hsz, y0, y1, z0, z1⟩ := hrel
      have HK := Lib.hid hk
      have hk' : k ≤ ts.length := by omega
      clear hk
      have HF := Lib.hid hfr
      have hD1 := hfr.2.1
      have hD2 : D ≤ 27720 := Nat.le_trans (Nat.le_of_dvd hb1 hfr.dvd) hb2
      have hN2 : N ≤ 138600 := Nat.le_trans (hfr.num_le hb1 (wrk_take_le HSV.out H k)) (by omega)
      clear hfr
      by_cases hlt : k < ts.length
      · obtain ⟨b, off, rfl, hbs, hc0, hc1, hc2⟩ := HR1.out k _ (List.getElem?_eq_getElem hlt)
        obtain ⟨t, ht⟩ : ∃ t, t = ts[k] := ⟨_, rfl⟩
        rw [← ht] at hc0 hc1 hc2
        have htv := all_at HV.out hlt ht
        obtain ⟨q, hq⟩ : ∃ q, q = per t := ⟨_, rfl⟩
        obtain ⟨c, hc⟩ : ∃ c, c = cst t := ⟨_, rfl⟩
        obtain ⟨d, hd⟩ : ∃ d, d = t.2.1 := ⟨_, rfl⟩
        have hp := per_dvd htv
        have hcs := cst_le htv
        rw [← hq] at hp hcs
        rw [← hc] at hcs
        obtain ⟨_, hp1, hp2, hp3⟩ := hp
        obtain ⟨hcs1, hcs2, hcs3⟩ := hcs
        rw [← hp3] at hc2
        rw [← hcs3] at hc0
        rw [← hd] at hc1
        have g0 := (hb.cell (p := ⟨b, off + k * 3, none⟩) hbs).trans hc0
        have g1 := (hb.cell (p := ⟨b, off + k * 3 + 1, none⟩) hbs).trans hc1
        have g2 := (hb.cell (p := ⟨b, off + k * 3 + 2, none⟩) hbs).trans hc2
        have HT := Lib.hid ht
        have HQ := Lib.hid hq
        have HC := Lib.hid hc
        clear ht hq hc hd hp3 hcs3 hc0 hc1 hc2 htv x0 x1 f0 f1
        have hrr := rn_rd c q hp1
        have U := Lib.hid (fun W => utilization1_any c q d W (by omega) (by omega) hp1)
        have A := Lib.hid (fun W => plus_any N D (rn c q) (rd c q) W (by omega) (by omega) hD1 (by omega) (by omega) hrr.2.1)
        clear hrr
        have hsz' : w1.heap.size < wr.heap.size + 1 := by omega
        have hne : w1.heap.size ≠ wr.heap.size := by omega
        go_wp2
        go_region_with (first | (go_at_call 81; refine (U.out _).mono ?_; rintro e w2 ⟨rfl, hb2⟩; have hz2 := hb2.size; simp at hz2; have p0 : w2.cell? ⟨w1.heap.size, 0, none⟩ = some (.int .i64 N) := (by rw [hb2.cell (p := ⟨w1.heap.size, 0, none⟩) (by simp; omega)]; go_simp); have p1 : w2.cell? ⟨w1.heap.size, 1, none⟩ = some (.int .i64 D) := (by rw [hb2.cell (p := ⟨w1.heap.size, 1, none⟩) (by simp; omega)]; go_simp); have p2 : w2.frozen? ⟨w1.heap.size, 0, none⟩ = false := (by rw [hb2.frozen (p := ⟨w1.heap.size, 0, none⟩) (by simp; omega)]; go_simp); have p3 : w2.frozen? ⟨w1.heap.size, 1, none⟩ = false := (by rw [hb2.frozen (p := ⟨w1.heap.size, 1, none⟩) (by simp; omega)]; go_simp)) | (go_at_call 80; refine (A.out _).mono ?_; rintro e w3 ⟨rfl, hb3⟩; have hz3 := hb3.size; have hz4 : w1.heap.size < w2.heap.size := (by omega); have q0 : w3.cell? ⟨w1.heap.size, 0, none⟩ = some (.int .i64 N) := (hb3.cell (p := ⟨w1.heap.size, 0, none⟩) hz4).trans p0; have q1 : w3.cell? ⟨w1.heap.size, 1, none⟩ = some (.int .i64 D) := (hb3.cell (p := ⟨w1.heap.size, 1, none⟩) hz4).trans p1; have q2 : w3.frozen? ⟨w1.heap.size, 0, none⟩ = false := (hb3.frozen (p := ⟨w1.heap.size, 0, none⟩) hz4).trans p2; have q3 : w3.frozen? ⟨w1.heap.size, 1, none⟩ = false := (hb3.frozen (p := ⟨w1.heap.size, 1, none⟩) hz4).trans p3))
        all_goals
          go_wp2
          go_roundg (gk - 1)
          case measure => have := HK.out; omega
          case rel =>
            have hbz := hb.size
            exact ⟨k + 1, _, _, by have := HK.out; omega, by go_num, frac_step hlt HT.out HC.out HQ.out HH.out hp1 HF.out,
              ((((hb.alloc hb.size _).drew.trans (hb2.mono (by simp; omega))).trans (hb3.mono (by omega))).setCell (Nat.le_refl _) _).setCell (Nat.le_refl _) _, by simp [World.setCell]; omega, by simp [go_sem, q0], by simp [go_sem, q1], by simp [go_sem, q2], by simp [go_sem, q3]⟩
      · obtain rfl : k = ts.length := by omega
        have xx0 := (hb.cell (p := ⟨w.heap.size, 0, none⟩) hwlt).trans x0
        have xx1 := (hb.cell (p := ⟨w.heap.size, 1, none⟩) hwlt).trans x1
        have ff0 := (hb.frozen (p := ⟨w.heap.size, 0, none⟩) hwlt).trans f0
        have ff1 := (hb.frozen (p := ⟨w.heap.size, 1, none⟩) hwlt).trans f1
        clear x0 x1 f0 f1
        go_wp2
        simp [bodyPost, results, Tryz.results51, go_sem, xx0, xx1]
        obtain ⟨u1, u2⟩ := HF.out.unique hb1
        rw [HH.out, List.take_length] at u1 u2
        have hbw := bw1.trans (hb.mono (by omega))
        exact ⟨⟨by rw [(ut_yes HSV.out).1, u1], by rw [(ut_yes HSV.out).2, u2]⟩, (hbw.setCell (Nat.le_refl _) _).setCell (Nat.le_refl _) _⟩
  · have hv' : svB ts = false := by simpa using hv
    clear hv
    go_enter Tryz.func51, Tryz.ntmps51
    go_wp2_with fail
    refine (setValid_any _ _ _ _ HR.out hn).mono ?_
    rintro e w1 ⟨rfl, b1⟩
    have x0 : w1.cell? ⟨w.heap.size, 0, none⟩ = some (.int .i64 0) := by rw [b1.cell (p := ⟨w.heap.size, 0, none⟩) (by simp)]; go_simp
    have x1 : w1.cell? ⟨w.heap.size, 1, none⟩ = some (.int .i64 0) := by rw [b1.cell (p := ⟨w.heap.size, 1, none⟩) (by simp)]; go_simp
    have f0 : w1.frozen? ⟨w.heap.size, 0, none⟩ = false := by rw [b1.frozen (p := ⟨w.heap.size, 0, none⟩) (by simp)]; go_simp
    have f1 : w1.frozen? ⟨w.heap.size, 1, none⟩ = false := by rw [b1.frozen (p := ⟨w.heap.size, 1, none⟩) (by simp)]; go_simp
    go_wp2
    simp [bodyPost, results, Tryz.results51, go_sem, x0, x1]
    refine ⟨⟨?_, ?_⟩, (((below_box _ _).trans (b1.mono (by simp))).setCell (Nat.le_refl _) _).setCell (Nat.le_refl _) _⟩
    · rw [(ut_no hv').1]; rfl
    · rw [(ut_no hv').2]; rfl
end Go.Proofs.YtdgihkmiolnglaaGreatDoor
