/- Contracts of spec.l4Index and spec.OrderValid. Conditions: the slices hold what is said, at most 2^20 entries. -/
import Derived.Test.YtdgihkmiolnglaaGreatDoorPlain
import Derived.Test.YtdgihkmiolnglaaGreatDoorMem
namespace Go.Proofs.YtdgihkmiolnglaaGreatDoor
open Go.RowKit Go.Deep

/-- The first index below n at which f has x, or -1. -/
def idF (f : Nat → Int) (x : Int) : Nat → Int
  | 0 => -1
  | n + 1 => if 0 ≤ idF f x n then idF f x n else if f n = x then (n : Int) else -1
theorem idF_none {f : Nat → Int} {x : Int} : ∀ {n : Nat}, (∀ k, k < n → f k ≠ x) → idF f x n = -1
  | 0, _ => rfl
  | n + 1, h => by
    have h1 := idF_none (n := n) fun k hk => h k (by omega)
    simp only [idF, h1]
    rw [if_neg (by omega), if_neg (h n (by omega))]
theorem idF_hit {f : Nat → Int} {x : Int} {k : Nat} (h0 : ∀ j, j < k → f j ≠ x) (h1 : f k = x) : ∀ n, k < n → idF f x n = k
  | 0, h => absurd h (by omega)
  | n + 1, h => by
    by_cases e : k = n
    · subst e
      simp only [idF, idF_none h0]
      rw [if_neg (by omega), if_pos h1]
    · have := idF_hit h0 h1 n (by omega)
      simp only [idF, this]
      rw [if_pos (by omega)]
theorem idF_neg {f : Nat → Int} {x : Int} {n : Nat} : idF f x n < 0 ↔ ∀ k, k < n → f k ≠ x := by
  constructor
  · induction n with
    | zero => intro _ k hk; omega
    | succ n ih =>
      intro h k hk
      simp only [idF] at h
      split at h
      · omega
      · split at h
        · omega
        · by_cases e : k = n
          · subst e; assumption
          · exact ih (by omega) k (by omega)
  · intro h; rw [idF_none h]; omega

/-- spec.l4Index. -/
theorem l4Index_any (a : Option Addr) (cap n : Nat) (f : Nat → Int) (x : Int) (w : World) (hf : IntF w a n f) (hn : n ≤ 1048576) :
    Calls Tryz.prog 92 #[.slice a n cap, .int .i64 x] w fun e w' =>
      e = .returned (.int .i64 (idF f x n)) ∧ w = w' := by
  have HF := Lib.hid hf
  clear hf
  go_enter Tryz.func92, Tryz.ntmps92
  go_wp2
  go_loopg [5] n (fun m i wr => ∃ k : Nat, m + k = n ∧ i = .int .i64 k ∧ (∀ j, j < k → f j ≠ x) ∧ w = wr)
  case atStart => exact ⟨0, rfl, rfl, fun j hj => by omega, rfl⟩
  case round =>
    obtain ⟨k, hk, rfl, hno, rfl⟩ := hrel
    have HK := Lib.hid hk
    have HN := Lib.hid hno
    have hk' : k ≤ n := by omega
    clear hk hno
    by_cases hlt : k < n
    · obtain ⟨b, off, rfl, hbs, c0⟩ := HF.out k hlt
      obtain ⟨y, hy⟩ : ∃ y, y = f k := ⟨_, rfl⟩
      rw [← hy] at c0
      have HY := Lib.hid hy
      clear hy
      by_cases hv : y = x
      · subst hv
        go_wp2
        go_ret
        exact ⟨by rw [idF_hit HN.out HY.out.symm n hlt]; rfl, rfl⟩
      · have HV := Lib.hid hv
        go_wp2
        go_roundg (gk - 1)
        case measure => have := HK.out; omega
        case rel => exact ⟨k + 1, by have := HK.out; omega, by go_num, fun j hj => by
          by_cases e : j = k
          · subst e; rw [← HY.out]; exact HV.out
          · exact HN.out j (by omega), rfl⟩
    · obtain rfl : k = n := by omega
      go_wp2
      go_ret
      exact ⟨by rw [idF_none HN.out]; rfl, rfl⟩

/-- What spec.OrderValid asks of the entries below k. -/
def ordF (f : Nat → Int) (n k : Nat) : Prop := ∀ j, j < k → (0 ≤ f j ∧ f j < n) ∧ ∀ i, i < j → f i ≠ f j
theorem ordF_list {ts : List T3} {os : List Int} (hs : svB ts = true) (hl : os.length = ts.length) : ordB ts os = true ↔ ordF (fun k => os.getD k 0) ts.length os.length := by
  rw [ordB_iff]
  have g : ∀ j, j < os.length → ∃ h : j < os.length, os.getD j 0 = os[j] := fun j h => ⟨h, by simp [List.getD, List.getElem?_eq_getElem h]⟩
  constructor
  · rintro ⟨_, _, h1, h2⟩ j hj
    obtain ⟨_, e⟩ := g j hj
    refine ⟨?_, fun i hi => ?_⟩
    · simp only [e]; exact h1 _ (List.getElem_mem _)
    · obtain ⟨_, e1⟩ := g i (by omega)
      simp only [e, e1]
      intro h
      have := (List.getElem_inj h2).1 h
      omega
  · intro h
    refine ⟨hs, hl, fun x hx => ?_, ?_⟩
    · obtain ⟨j, hj, rfl⟩ := List.getElem_of_mem hx
      obtain ⟨_, e⟩ := g j hj
      have := (h j hj).1
      simp only [e] at this
      exact this
    · rw [List.Nodup, List.pairwise_iff_getElem]
      intro i j hi hj hij
      have := (h j hj).2 i hij
      obtain ⟨_, e⟩ := g j hj
      obtain ⟨_, e1⟩ := g i (by omega)
      simp only [e, e1] at this
      exact this
theorem ordF_next {f : Nat → Int} {n k : Nat} {y : Int} (h : ordF f n k) (hy : y = f k) (h1 : 0 ≤ y ∧ y ≤ (n : Int) - 1) (h2 : idF f y k < 0) : ordF f n (k + 1) := fun j hj => by
  by_cases e : j = k
  · subst e
    rw [← hy]
    exact ⟨⟨h1.1, by omega⟩, fun i hi => idF_neg.1 h2 i hi⟩
  · exact h j (by omega)

/-- spec.OrderValid. -/
theorem specOrderValid_any (ta oa : Option Addr) (tcap ocap : Nat) (ts : List T3) (os : List Int) (w : World) (hr : Row w ta ts) (ho : IntF w oa os.length fun k => os.getD k 0) (hn : ts.length ≤ 1048576) (hc : os.length ≤ ocap) :
    Calls Tryz.prog 61 #[.slice ta ts.length tcap, .slice oa os.length ocap] w fun e w' =>
      e = .returned (.bool (ordB ts os)) ∧ Below w.heap.size w w' := by
  have HR := Lib.hid hr
  have HO := Lib.hid ho
  clear hr ho
  go_enter Tryz.func61, Tryz.ntmps61
  cases hs : svB ts with
  | false =>
    have hv : ordB ts os = false := by simp [ordB, hs]
    go_wp2_with (go_at_call 57; refine (specSetValid_any _ _ ts _ HR.out (by omega)).mono ?_; rintro e w1 ⟨rfl, hb1⟩; rw [hs])
    go_ret
    exact ⟨by rw [hv]; rfl, hb1⟩
  | true =>
    by_cases hl : os.length = ts.length
    · have HL := Lib.hid hl
      go_wp2_with (go_at_call 57; refine (specSetValid_any _ _ ts _ HR.out (by omega)).mono ?_; rintro e w1 ⟨rfl, hb1⟩; rw [hs])
      obtain ⟨f, hf⟩ : ∃ f : Nat → Int, f = fun k => os.getD k 0 := ⟨_, rfl⟩
      have HV := Lib.hid (show ordB ts os = true ↔ ordF f ts.length ts.length by rw [ordF_list hs hl, hf, hl])
      have HF := Lib.hid (show IntF w oa ts.length f by have := HO.out; rw [hl, ← hf] at this; exact this)
      rw [hl] at hc
      clear hf HO hl HL HR
      obtain ⟨n, hnn⟩ : ∃ n, n = ts.length := ⟨_, rfl⟩
      rw [← hnn] at HF HV hn hc ⊢
      clear hnn
      go_loopg [5] n (fun m i wr => ∃ k : Nat, m + k = n ∧ i = .int .i64 k ∧ ordF f n k ∧ Below w.heap.size w wr)
      case atStart => exact ⟨0, rfl, rfl, fun j hj => by omega, hb1⟩
      case round =>
        obtain ⟨k, hk, rfl, hall, hb⟩ := hrel
        have HK := Lib.hid hk
        have HA := Lib.hid hall
        have hk' : k ≤ n := by omega
        clear hk hall hb1
        by_cases hlt : k < n
        · have RF := Lib.hid (HF.out.below hb)
          have RF0 := Lib.hid (show IntF wr oa k f from fun j hj => RF.out j (by omega))
          obtain ⟨b, off, rfl, hbs, c0⟩ := RF.out k hlt
          obtain ⟨y, hy⟩ : ∃ y, y = f k := ⟨_, rfl⟩
          rw [← hy] at c0
          have hw : IntKind.i64.wrap ((n : Int) - 1) = (n : Int) - 1 := IntWalk.i64_in _ (by omega)
          have hk0 : (0 : Int) ≤ k := by omega
          have hk1 : (k : Int) < n := by omega
          have hk2 : (k : Int) ≤ ocap := by omega
          have CI := Lib.hid (fun W => l1In_any y 0 ((n : Int) - 1) W)
          have CX := Lib.hid (fun m => l4Index_any _ ocap k f y (wr.drewN m) (RF0.out.below (below_drewN _ _)) (by omega))
          by_cases hv : 0 ≤ y ∧ y ≤ (n : Int) - 1
          · have e1 : inB y 0 ((n : Int) - 1) = true := decide_eq_true hv
            rw [e1] at CI
            by_cases hx : idF f y k < 0
            · have HX := Lib.hid hx
              have HY := Lib.hid hy
              have HW := Lib.hid hv
              obtain ⟨z, hz⟩ : ∃ z, z = idF f y k := ⟨_, rfl⟩
              rw [← hz] at CX hx
              have hx' : ¬ 0 ≤ z := by omega
              clear hz hy hv e1
              go_wp2
              go_quiet (first | (go_at_call 75; exact quiet_left (CI.out _)) | (go_at_call 92; exact quiet_left (CX.out _)))
              go_wp2
              go_roundg (gk - 1)
              case measure => have := HK.out; omega
              case rel => exact ⟨k + 1, by have := HK.out; omega, by go_num, ordF_next HA.out HY.out HW.out HX.out, hb.trans ((below_drewN _ _).mono hb.size)⟩
            · have hno : ordB ts os = false := by
                rw [← Bool.not_eq_true, HV.out]
                intro h
                exact hx (by rw [hy]; exact idF_neg.2 fun j hj => (h k hlt).2 j hj)
              obtain ⟨z, hz⟩ : ∃ z, z = idF f y k := ⟨_, rfl⟩
              rw [← hz] at CX hx
              have hx' : 0 ≤ z := by omega
              clear hz hy hv e1 hx HV
              go_wp2
              go_quiet (first | (go_at_call 75; exact quiet_left (CI.out _)) | (go_at_call 92; exact quiet_left (CX.out _)))
              go_wp2
              go_ret
              exact ⟨ret_bool hno.symm, hb.trans ((below_drewN _ _).mono hb.size)⟩
          · have hno : ordB ts os = false := by
              rw [← Bool.not_eq_true, HV.out]
              intro h
              have := (h k hlt).1
              rw [← hy] at this
              omega
            have e1 : inB y 0 ((n : Int) - 1) = false := decide_eq_false hv
            rw [e1] at CI
            clear hy hv e1 HV CX
            go_wp2
            go_quiet ((go_at_call 75; exact quiet_left (CI.out _)))
            go_wp2
            go_ret
            exact ⟨ret_bool hno.symm, hb.trans ((below_drewN _ _).mono hb.size)⟩
        · obtain rfl : k = n := by omega
          go_wp2
          go_ret
          exact ⟨ret_bool (HV.out.2 HA.out).symm, hb⟩
    · have hv : ordB ts os = false := by simp [ordB, hl]
      go_wp2_with (go_at_call 57; refine (specSetValid_any _ _ ts _ HR.out (by omega)).mono ?_; rintro e w1 ⟨rfl, hb1⟩; rw [hs])
      go_ret
      exact ⟨by rw [hv]; rfl, hb1⟩

end Go.Proofs.YtdgihkmiolnglaaGreatDoor
