/- Contracts of the functions that look at a task set: impl.SetValid, spec.SetValid. Conditions: the slice's cells hold tasks (three ints each); its length is at most 2^40. -/
import Derived.Test.YtnhbmegglpgkoaaTask
import Derived.Deep.LoopGhost
namespace Go.Proofs.Ytnhbmegglpgkoaa
open Go.RowKit

/-- A slice's array 'a' holds, in world w, the tasks ts. -/
def Row (w : World) (a : Option Addr) (ts : List (Int × Int × Int)) : Prop :=
  ∀ (k : Nat) (t : Int × Int × Int), ts[k]? = some t → ∃ b off, a = some ⟨b, off, none⟩ ∧ b < w.heap.size ∧
    w.cell? ⟨b, off + k * 3, none⟩ = some (.int .i64 t.1) ∧ w.cell? ⟨b, off + k * 3 + 1, none⟩ = some (.int .i64 t.2.1) ∧ w.cell? ⟨b, off + k * 3 + 2, none⟩ = some (.int .i64 t.2.2)

theorem Row.below {w w' : World} {a : Option Addr} {ts : List (Int × Int × Int)} (h : Row w a ts) (hb : Below w.heap.size w w') : Row w' a ts := by
  intro k t hk
  obtain ⟨b, off, ha, hlt, h0, h1, h2⟩ := h k t hk
  exact ⟨b, off, ha, Nat.lt_of_lt_of_le hlt hb.size, (hb.cell (p := ⟨b, _, none⟩) hlt).trans h0, (hb.cell (p := ⟨b, _, none⟩) hlt).trans h1, (hb.cell (p := ⟨b, _, none⟩) hlt).trans h2⟩

theorem all_snoc {ts : List (Int × Int × Int)} {k : Nat} {c d p : Int} (ha : (ts.take k).all tv = true) (hlt : k < ts.length) (ht : (c, d, p) = ts[k]) (hv : tvB c d p = true) : (ts.take (k + 1)).all tv = true := by
  rw [List.take_succ_eq_append_getElem hlt, List.all_append, ha, ← ht]; simp [tv, hv]
theorem all_no {ts : List (Int × Int × Int)} {k : Nat} {c d p : Int} (hlt : k < ts.length) (ht : (c, d, p) = ts[k]) (hv : tvB c d p = false) : svB ts = false := by
  have : ts.all tv = false := by rw [List.all_eq_false]; exact ⟨ts[k], List.getElem_mem hlt, by rw [← ht]; simp [tv, hv]⟩
  simp [svB, this]
theorem all_end {ts : List (Int × Int × Int)} (ha : (ts.take ts.length).all tv = true) : svB ts = decide ((ts.length : Int) ≤ 5) := by
  rw [List.take_length] at ha; simp [svB, ha]; omega

/-- spec.SetValid. -/
theorem specSetValid_any (a : Option Addr) (cap : Nat) (ts : List (Int × Int × Int)) (w : World) (hr : Row w a ts) (hn : ts.length ≤ 1099511627776) :
    Calls Try.prog 31 #[.slice a ts.length cap] w fun e w' =>
      e = .returned (.bool (svB ts)) ∧ Below w.heap.size w w' := by
  go_enter Try.func31, Try.ntmps31
  go_wp2
  go_loopg [3] ts.length (fun n i wr => ∃ k : Nat, n + k = ts.length ∧ i = .int .i64 k ∧ (ts.take k).all tv = true ∧ Below w.heap.size w wr)
  case atStart => exact ⟨0, rfl, rfl, rfl, Below.refl _ _⟩
  case round =>
    obtain ⟨k, hk, rfl, hall, hb⟩ := hrel
    have HK := Lib.hid hk
    have HA := Lib.hid hall
    have hk' : k ≤ ts.length := by omega
    clear hk hall
    by_cases hlt : k < ts.length
    · obtain ⟨b, off, rfl, hbs, hc0, hc1, hc2⟩ := hr k _ (List.getElem?_eq_getElem hlt)
      obtain ⟨⟨c, d, p⟩, ht⟩ : ∃ t, t = ts[k] := ⟨_, rfl⟩
      rw [← ht] at hc0 hc1 hc2
      have g0 := (hb.cell (p := ⟨b, off + k * 3, none⟩) hbs).trans hc0
      have g1 := (hb.cell (p := ⟨b, off + k * 3 + 1, none⟩) hbs).trans hc1
      have g2 := (hb.cell (p := ⟨b, off + k * 3 + 2, none⟩) hbs).trans hc2
      have HT := Lib.hid ht
      clear ht hc0 hc1 hc2
      simp only at g0 g1 g2
      clear hr
      by_cases hv : tvB c d p = true
      · go_wp2_with (go_at_call 52; refine (specTaskValid_any _ _ _ _).mono ?_; rintro e w1 ⟨rfl, hb1⟩)
        go_roundg (gk - 1)
        case measure => have := HK.out; omega
        case rel => exact ⟨k + 1, by have := HK.out; omega, by go_num, all_snoc HA.out hlt HT.out hv, hb.trans (hb1.mono hb.size)⟩
      · have hv' : tvB c d p = false := by simpa using hv
        clear hv
        go_wp2_with (go_at_call 52; refine (specTaskValid_any _ _ _ _).mono ?_; rintro e w1 ⟨rfl, hb1⟩)
        go_ret
        exact ⟨ret_bool (all_no hlt HT.out hv').symm, hb.trans (hb1.mono hb.size)⟩
    · have hk2 : k = ts.length := by omega
      subst hk2
      go_wp2
      go_ret
      exact ⟨ret_bool (all_end HA.out).symm, hb⟩

theorem method_valid (n : Nat) (v : Value) (w : World) :
    (method (n + 1) 57 v "loop.example/deadlinescheduler/impl.valid").run Try.prog w = .ok (49, v) w := by kernel_rfl

/-- impl.allValid at impl.Task. -/
theorem allValid_any (a : Option Addr) (cap : Nat) (ts : List (Int × Int × Int)) (w : World) (hr : Row w a ts) (hn : ts.length ≤ 1099511627776) :
    Calls Try.prog 61 #[.slice a ts.length cap, .int .i64 5] w fun e w' =>
      e = .returned (.bool (svB ts)) ∧ Below w.heap.size w w' := by
  by_cases h5 : (5 : Int) < ts.length
  · go_enter Try.func61, Try.ntmps61
    go_wp2
    go_ret
    exact ⟨ret_bool (by rw [svB, decide_eq_false (by omega), Bool.and_false]), Below.refl _ _⟩
  have h5' : (ts.length : Int) ≤ 5 := by omega
  clear h5
  go_enter Try.func61, Try.ntmps61
  go_wp2
  go_loopg [13] ts.length (fun n i wr => ∃ k : Nat, n + k = ts.length ∧ i = .int .i64 k ∧ (ts.take k).all tv = true ∧ Below w.heap.size w wr)
  case atStart => exact ⟨0, rfl, rfl, rfl, Below.refl _ _⟩
  case round =>
    obtain ⟨k, hk, rfl, hall, hb⟩ := hrel
    have HK := Lib.hid hk
    have HA := Lib.hid hall
    have hk' : k ≤ ts.length := by omega
    clear hk hall
    by_cases hlt : k < ts.length
    · obtain ⟨b, off, rfl, hbs, hc0, hc1, hc2⟩ := hr k _ (List.getElem?_eq_getElem hlt)
      obtain ⟨⟨c, d, p⟩, ht⟩ : ∃ t, t = ts[k] := ⟨_, rfl⟩
      rw [← ht] at hc0 hc1 hc2
      have g0 := (hb.cell (p := ⟨b, off + k * 3, none⟩) hbs).trans hc0
      have g1 := (hb.cell (p := ⟨b, off + k * 3 + 1, none⟩) hbs).trans hc1
      have g2 := (hb.cell (p := ⟨b, off + k * 3 + 2, none⟩) hbs).trans hc2
      have HT := Lib.hid ht
      clear ht hc0 hc1 hc2
      simp only at g0 g1 g2
      clear hr
      have hm := method_valid
      by_cases hv : tvB c d p = true
      · go_wp2_with (go_at_call 49; refine (valid_any _ _ _ _).mono ?_; rintro e w1 ⟨rfl, hb1⟩)
        go_roundg (gk - 1)
        case measure => have := HK.out; omega
        case rel => exact ⟨k + 1, by have := HK.out; omega, by go_num, all_snoc HA.out hlt HT.out hv, (hb.alloc hb.size _).trans (hb1.mono (by have := hb.size; simp; omega))⟩
      · have hv' : tvB c d p = false := by simpa using hv
        clear hv
        go_wp2_with (go_at_call 49; refine (valid_any _ _ _ _).mono ?_; rintro e w1 ⟨rfl, hb1⟩)
        go_ret
        exact ⟨ret_bool (all_no hlt HT.out hv').symm, (hb.alloc hb.size _).trans (hb1.mono (by have := hb.size; simp; omega))⟩
    · have hk2 : k = ts.length := by omega
      subst hk2
      go_wp2
      go_ret
      exact ⟨ret_bool (by rw [all_end HA.out]; exact (decide_eq_true h5').symm), hb⟩

/-- impl.SetValid. -/
theorem setValid_any (a : Option Addr) (cap : Nat) (ts : List (Int × Int × Int)) (w : World) (hr : Row w a ts) (hn : ts.length ≤ 1099511627776) :
    Calls Try.prog 42 #[.slice a ts.length cap] w fun e w' =>
      e = .returned (.bool (svB ts)) ∧ Below w.heap.size w w' := by
  have HR := Lib.hid hr
  clear hr
  go_enter Try.func42, Try.ntmps42
  go_wp2_with (go_at_call 61; refine (allValid_any _ _ _ _ HR.out hn).mono ?_; rintro e w1 ⟨rfl, hb1⟩)
  go_ret
  exact ⟨rfl, hb1⟩
end Go.Proofs.Ytnhbmegglpgkoaa
