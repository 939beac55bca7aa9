/- Contracts of impl.ServersValid and impl.ArrivalsLegal, with the functions that they call. Conditions: the slices hold what is said, at most 2^40 entries. -/
import Derived.Test.YtnhbmegglpgkoaaSrv
import Derived.Test.YtnhbmegglpgkoaaSet
import Derived.Test.YtnhbmegglpgkoaaCmpBase
namespace Go.Proofs.Ytnhbmegglpgkoaa
open Go.RowKit

/-- impl.Server.valid. -/
theorem srvValid_any (q p : Int) (w : World) :
    Calls Try.prog 88 #[.agg #[.int .i64 q, .int .i64 p]] w fun e w' =>
      e = .returned (.bool (ss1 (q, p))) ∧ Below w.heap.size w w' := by
  go_enter Try.func88, Try.ntmps88
  go_wp2
  all_goals (go_ret; exact ⟨ret_bool (by simp only [ss1]; rw [eq_comm]; first | (apply decide_eq_decide.2; omega) | (apply decide_eq_false; omega)), below_box _ _⟩)

/-- One request by itself. -/
def ar1 (a : A2) : Bool := decide (0 ≤ a.1 ∧ a.1 ≤ 119 ∧ 1 ≤ a.2 ∧ a.2 ≤ 20)
/-- impl.Arrival.valid. -/
theorem arrValid_any (q p : Int) (w : World) :
    Calls Try.prog 89 #[.agg #[.int .i64 q, .int .i64 p]] w fun e w' =>
      e = .returned (.bool (ar1 (q, p))) ∧ Below w.heap.size w w' := by
  go_enter Try.func89, Try.ntmps89
  go_wp2
  all_goals (go_ret; exact ⟨ret_bool (by simp only [ar1]; rw [eq_comm]; first | (apply decide_eq_decide.2; omega) | (apply decide_eq_false; omega)), below_box _ _⟩)

theorem method_srvValid (n : Nat) (v : Value) (w : World) :
    (method (n + 1) 27 v "loop.example/deadlinescheduler/impl.valid").run Try.prog w = .ok (88, v) w := by kernel_rfl
theorem method_arrValid (n : Nat) (v : Value) (w : World) :
    (method (n + 1) 34 v "loop.example/deadlinescheduler/impl.valid").run Try.prog w = .ok (89, v) w := by kernel_rfl

/-- impl.allValid at impl.Server. -/
theorem allValidS_any (a : Option Addr) (cap : Nat) (ss : List A2) (w : World) (hr : Row2 w a ss) (hn : ss.length ≤ 1099511627776) :
    Calls Try.prog 21 #[.slice a ss.length cap, .int .i64 2] w fun e w' =>
      e = .returned (.bool (ssB ss)) ∧ Below w.heap.size w w' := by
  by_cases h5 : (2 : Int) < ss.length
  · go_enter Try.func21, Try.ntmps21
    go_wp2
    go_ret
    exact ⟨ret_bool (by rw [ssB, decide_eq_false (by omega), Bool.false_and]), Below.refl _ _⟩
  have h5' : (ss.length : Int) ≤ 2 := by omega
  have HR := Lib.hid hr
  clear h5 hr
  go_enter Try.func21, Try.ntmps21
  go_wp2
  go_loopg [13] ss.length (fun n i wr => ∃ k : Nat, n + k = ss.length ∧ i = .int .i64 k ∧ (∀ j, j < k → ss1 (ab ss j) = true) ∧ Below w.heap.size w wr)
  case atStart => exact ⟨0, rfl, rfl, fun j hj => absurd hj (Nat.not_lt_zero _), Below.refl _ _⟩
  case round =>
    obtain ⟨k, hk, rfl, hall, B⟩ := hrel
    have HK := Lib.hid hk
    have HA := Lib.hid hall
    have hkk : k ≤ ss.length := by omega
    clear hk hall
    by_cases hlt : k < ss.length
    · obtain ⟨b, off, rfl, hbs, x0, x1⟩ := (HR.out.below B) k hlt
      obtain ⟨⟨q, p⟩, hQ⟩ : ∃ s, s = ab ss k := ⟨_, rfl⟩
      rw [← hQ] at x0 x1
      simp only at x0 x1
      have HQ := Lib.hid hQ
      clear hQ
      have hm := method_srvValid
      by_cases hv : ss1 (q, p) = true
      · go_wp2_with (go_at_call 88; refine (srvValid_any _ _ _).mono ?_; rintro e w1 ⟨rfl, hb1⟩)
        go_roundg (gk - 1)
        case measure => have := HK.out; omega
        case rel => exact ⟨k + 1, by have := HK.out; omega, by go_num, fun j hj => by
          by_cases e : j = k
          · subst e; rw [← HQ.out]; exact hv
          · exact HA.out j (by omega), (B.alloc B.size _).trans (hb1.mono (by have := B.size; simp; omega))⟩
      · have hv' : ss1 (q, p) = false := by simpa using hv
        clear hv
        go_wp2_with (go_at_call 88; refine (srvValid_any _ _ _).mono ?_; rintro e w1 ⟨rfl, hb1⟩)
        go_ret
        exact ⟨ret_bool (ssB_no hlt (by rw [← HQ.out]; exact hv')).symm, (B.alloc B.size _).trans (hb1.mono (by have := B.size; simp; omega))⟩
    · obtain rfl : k = ss.length := by omega
      go_wp2
      go_ret
      exact ⟨ret_bool (by rw [ssB_yes HA.out]; exact (decide_eq_true (by omega)).symm), B⟩

/-- impl.ServersValid. -/
theorem serversValid_any (a : Option Addr) (cap : Nat) (ss : List A2) (w : World) (hr : Row2 w a ss) (hn : ss.length ≤ 1099511627776) :
    Calls Try.prog 7 #[.slice a ss.length cap] w fun e w' =>
      e = .returned (.bool (ssB ss)) ∧ Below w.heap.size w w' := by
  have HR := Lib.hid hr
  clear hr
  go_enter Try.func7, Try.ntmps7
  go_wp2_with (go_at_call 21; refine (allValidS_any _ _ _ _ HR.out hn).mono ?_; rintro e w1 ⟨rfl, hb1⟩)
  go_ret
  exact ⟨rfl, hb1⟩

/-- At most twenty requests, each fine by itself. -/
def arB (al : List A2) : Bool := decide (al.length ≤ 20) && (List.range al.length).all fun k => ar1 (ab al k)
theorem arB_yes {al : List A2} (h : ∀ j, j < al.length → ar1 (ab al j) = true) : arB al = decide (al.length ≤ 20) := by
  rw [arB, Bool.and_eq_left_iff_imp.2]
  exact fun _ => List.all_eq_true.2 fun k hk => h k (List.mem_range.1 hk)
theorem arB_no {al : List A2} {k : Nat} (hk : k < al.length) (h : ar1 (ab al k) = false) : arB al = false := by
  rw [arB, Bool.and_eq_false_iff]
  exact .inr (List.all_eq_false.2 ⟨k, List.mem_range.2 hk, by rw [h]; simp⟩)

/-- impl.allValid at impl.Arrival. -/
theorem allValidA_any (a : Option Addr) (cap : Nat) (al : List A2) (w : World) (hr : Row2 w a al) (hn : al.length ≤ 1099511627776) :
    Calls Try.prog 25 #[.slice a al.length cap, .int .i64 20] w fun e w' =>
      e = .returned (.bool (arB al)) ∧ Below w.heap.size w w' := by
  by_cases h5 : (20 : Int) < al.length
  · go_enter Try.func25, Try.ntmps25
    go_wp2
    go_ret
    exact ⟨ret_bool (by rw [arB, decide_eq_false (by omega), Bool.false_and]), Below.refl _ _⟩
  have h5' : (al.length : Int) ≤ 20 := by omega
  have HR := Lib.hid hr
  clear h5 hr
  go_enter Try.func25, Try.ntmps25
  go_wp2
  go_loopg [13] al.length (fun n i wr => ∃ k : Nat, n + k = al.length ∧ i = .int .i64 k ∧ (∀ j, j < k → ar1 (ab al j) = true) ∧ Below w.heap.size w wr)
  case atStart => exact ⟨0, rfl, rfl, fun j hj => absurd hj (Nat.not_lt_zero _), Below.refl _ _⟩
  case round =>
    obtain ⟨k, hk, rfl, hall, B⟩ := hrel
    have HK := Lib.hid hk
    have HA := Lib.hid hall
    have hkk : k ≤ al.length := by omega
    clear hk hall
    by_cases hlt : k < al.length
    · obtain ⟨b, off, rfl, hbs, x0, x1⟩ := (HR.out.below B) k hlt
      obtain ⟨⟨q, p⟩, hQ⟩ : ∃ s, s = ab al k := ⟨_, rfl⟩
      rw [← hQ] at x0 x1
      simp only at x0 x1
      have HQ := Lib.hid hQ
      clear hQ
      have hm := method_arrValid
      by_cases hv : ar1 (q, p) = true
      · go_wp2_with (go_at_call 89; refine (arrValid_any _ _ _).mono ?_; rintro e w1 ⟨rfl, hb1⟩)
        go_roundg (gk - 1)
        case measure => have := HK.out; omega
        case rel => exact ⟨k + 1, by have := HK.out; omega, by go_num, fun j hj => by
          by_cases e : j = k
          · subst e; rw [← HQ.out]; exact hv
          · exact HA.out j (by omega), (B.alloc B.size _).trans (hb1.mono (by have := B.size; simp; omega))⟩
      · have hv' : ar1 (q, p) = false := by simpa using hv
        clear hv
        go_wp2_with (go_at_call 89; refine (arrValid_any _ _ _).mono ?_; rintro e w1 ⟨rfl, hb1⟩)
        go_ret
        exact ⟨ret_bool (arB_no hlt (by rw [← HQ.out]; exact hv')).symm, (B.alloc B.size _).trans (hb1.mono (by have := B.size; simp; omega))⟩
    · obtain rfl : k = al.length := by omega
      go_wp2
      go_ret
      exact ⟨ret_bool (by rw [arB_yes HA.out]; exact (decide_eq_true (by omega)).symm), B⟩

/-- The comparison of requests by their times. -/
theorem cmpArr_any (q p q' p' : Int) (w : World) :
    Calls Try.prog 27 #[.agg #[.int .i64 q, .int .i64 p], .agg #[.int .i64 q', .int .i64 p']] w fun e w' =>
      e = .returned (.int .i64 (cmpI q q')) ∧ Below w.heap.size w w' := by
  go_enter Try.func27, Try.ntmps27
  go_wp2_with fail
  refine (compare_any _ _ _).mono ?_
  rintro e w1 ⟨rfl, rfl⟩
  go_wp2
  go_ret
  exact ⟨rfl, (below_box _ _).alloc (by simp) _⟩

/-- The times ascend. -/
def upB (al : List A2) : Bool := (List.range al.length).all fun k => decide (k = 0 ∨ (ab al (k - 1)).1 ≤ (ab al k).1)
theorem alB_two (al : List A2) : alB al = (arB al && upB al) := by
  have h : alB al = true ↔ (arB al && upB al) = true := by
    rw [alB_iff]
    simp only [arB, ar1, upB, Bool.and_eq_true, decide_eq_true_eq, List.all_eq_true, List.mem_range]
    refine ⟨fun h => ⟨⟨h.1, fun k hk => ?_⟩, fun k hk => (h.2 k hk).2.2.2.2⟩, fun h => ⟨h.1.1, fun k hk => ?_⟩⟩
    · have := h.2 k hk
      exact ⟨this.1, this.2.1, this.2.2.1, this.2.2.2.1⟩
    · have h1 := h.1.2 k hk
      exact ⟨h1.1, h1.2.1, h1.2.2.1, h1.2.2.2, h.2 k hk⟩
  cases h1 : alB al <;> cases h2 : (arB al && upB al) <;> simp_all

set_option maxRecDepth 100000 in
set_option maxHeartbeats 2000000 in
/-- slices.IsSortedFunc over requests, by their times. -/
theorem sortedA_any (a : Option Addr) (cap : Nat) (al : List A2) (w : World) (hr : Row2 w a al) (hn : al.length ≤ 1099511627776) :
    Calls Try.prog 26 #[.slice a al.length cap, .func (.func 27) #[] #[]] w fun e w' =>
      e = .returned (.bool (upB al)) ∧ Below w.heap.size w w' := by
  have HR := Lib.hid hr
  clear hr
  go_enter Try.func26, Try.ntmps26
  go_wp2
  go_loopg [5] al.length (fun m i wr => ∃ k : Nat, m = k ∧ k ≤ al.length ∧ i = .int .i64 ((k : Int) - 1) ∧ (∀ j, k ≤ j → j < al.length → j = 0 ∨ (ab al (j - 1)).1 ≤ (ab al j).1) ∧ Below w.heap.size w wr)
  case atStart => exact ⟨al.length, rfl, Nat.le_refl _, by go_num, fun j h1 h2 => by omega, Below.refl _ _⟩
  case round =>
    obtain ⟨k, hgk, hk, rfl, hall, B⟩ := hrel
    have HGK := Lib.hid hgk
    have HA := Lib.hid hall
    clear hgk hall
    by_cases hk1 : k ≤ 1
    · have hd : ¬ (0 : Int) < (k : Int) - 1 := by omega
      go_wp2
      go_ret
      refine ⟨ret_bool (Eq.symm (List.all_eq_true.2 fun j hj => decide_eq_true ?_)), B⟩
      by_cases e : j = 0
      · exact .inl e
      · exact HA.out j (by omega) (List.mem_range.1 hj)
    · obtain ⟨k', rfl⟩ : ∃ k', k = k' + 2 := ⟨k - 2, by omega⟩
      clear hk1
      rw [show ((k' + 2 : Nat) : Int) - 1 = ((k' + 1 : Nat) : Int) by omega]
      obtain ⟨b, off, rfl, hbs, x0, x1⟩ := (HR.out.below B) (k' + 1) (by omega)
      obtain ⟨b', off', ea, -, y0, y1⟩ := (HR.out.below B) k' (by omega)
      simp only [Option.some.injEq, Addr.mk.injEq, and_true] at ea
      obtain ⟨rfl, rfl⟩ := ea
      obtain ⟨⟨q, p⟩, hQ⟩ : ∃ s, s = ab al (k' + 1) := ⟨_, rfl⟩
      obtain ⟨⟨q', p'⟩, hQ'⟩ : ∃ s, s = ab al k' := ⟨_, rfl⟩
      rw [← hQ] at x0 x1
      rw [← hQ'] at y0 y1
      simp only at x0 x1 y0 y1
      have HQ := Lib.hid (And.intro hQ hQ')
      clear hQ hQ'
      have hw : IntKind.i64.wrap (k' : Int) = (k' : Int) := IntWalk.i64_in _ (by omega)
      have hj0 : (0 : Int) ≤ k' := by omega
      have hj1 : (k' : Int) < al.length := by omega
      have hj2 : (0 : Int) ≤ (k' : Int) + 1 := by omega
      have hj3 : (k' : Int) + 1 < al.length := by omega
      go_wp2
      refine wp_region_still_tail 10 (by kernel_rfl) (by kernel_rfl) ?_
      simp only [List.take_succ_cons, List.take_zero, List.drop_succ_cons, List.drop_zero]
      change wpStill _ _ wr.drew (fun a' => wpList _ _ _ _ a' wr.drew) _ _
      iterate 10 still_step
      refine wpStill_nil ?_
      go_wp2_with fail
      refine (cmpArr_any q p q' p' _).mono ?_
      rintro e w1 ⟨rfl, b1⟩
      have HB := Lib.hid (B.drew.trans (b1.mono (by have := B.size; simpa using this)))
      by_cases hlt : q < q'
      · have hc : cmpI q q' < 0 := by unfold cmpI; rw [if_pos hlt]; decide
        go_wp2
        go_ret
        refine ⟨ret_bool (Eq.symm (List.all_eq_false.2 ⟨k' + 1, List.mem_range.2 (by omega), ?_⟩)), HB.out⟩
        rw [Nat.add_sub_cancel, ← HQ.out.1, ← HQ.out.2]
        simp only [decide_eq_true_eq]
        omega
      · have hc : ¬ cmpI q q' < 0 := by
          unfold cmpI
          rw [if_neg hlt]
          split <;> omega
        go_wp2
        go_roundg (k' + 1)
        case measure => have := HGK.out; omega
        case rel => exact ⟨k' + 1, rfl, by omega, by go_num, fun j h1 h2 => by
          by_cases e : j = k' + 1
          · subst e
            right
            rw [Nat.add_sub_cancel, ← HQ.out.1, ← HQ.out.2]
            show q' ≤ q
            omega
          · exact HA.out j (by omega) h2, HB.out⟩

/-- impl.ArrivalsLegal. -/
theorem arrivalsLegal_any (a : Option Addr) (cap : Nat) (al : List A2) (w : World) (hr : Row2 w a al) (hn : al.length ≤ 1099511627776) :
    Calls Try.prog 11 #[.slice a al.length cap] w fun e w' =>
      e = .returned (.bool (alB al)) ∧ Below w.heap.size w w' := by
  have HR := Lib.hid hr
  have HE := Lib.hid (alB_two al)
  clear hr
  go_enter Try.func11, Try.ntmps11
  go_wp2_with fail
  refine (allValidA_any _ _ _ _ HR.out hn).mono ?_
  rintro e w1 ⟨rfl, b1⟩
  cases h1 : arB al with
  | false =>
    go_wp2
    go_ret
    exact ⟨ret_bool (by rw [HE.out, h1, Bool.false_and]), b1⟩
  | true =>
    go_wp2_with fail
    refine (sortedA_any _ _ _ _ (HR.out.below b1) hn).mono ?_
    rintro e w2 ⟨rfl, b2⟩
    go_wp2
    go_ret
    exact ⟨ret_bool (by rw [HE.out, h1, Bool.true_and]), b1.trans (b2.mono b1.size)⟩

end Go.Proofs.Ytnhbmegglpgkoaa
