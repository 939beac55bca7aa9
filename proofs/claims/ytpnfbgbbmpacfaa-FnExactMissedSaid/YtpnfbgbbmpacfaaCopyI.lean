/- Contracts of the exact laws' helpers on schedules: laws.szIntS, szSchedule, toIntS, toSchedule. Conditions: the slices hold what is said; their lengths are at most 2^40. -/
import Derived.Test.YtpnfbgbbmpacfaaRunSpec
import Derived.Test.YtpnfbgbbmpacfaaSame
namespace Go.Proofs.Ytpnfbgbbmpacfaa
open Go.RowKit Go.Deep

/-- laws.szIntS. -/
theorem szIntS_small (a : Option Addr) (len cap left : Nat) (w : World) (h : len ≤ left) (hl : left ≤ 1048576) :
    Calls Try.prog 80 #[.slice a len cap, .int .i64 (left : Int)] w fun e w' =>
      e = .returned (.int .i64 ((left : Int) - len)) ∧ w = w' := by
  have h' : (0 : Int) ≤ (left : Int) - len := by omega
  go_enter Try.func80, Try.ntmps80
  go_wp2
  go_ret
  exact ⟨rfl, rfl⟩
theorem szIntS_big (a : Option Addr) (len cap left : Nat) (w : World) (h : left < len) (hm : len ≤ maxLen) (hl : left ≤ 1048576) :
    Calls Try.prog 80 #[.slice a len cap, .int .i64 (left : Int)] w fun e w' =>
      e = .returned (.int .i64 (-1)) ∧ w = w' := by
  unfold maxLen at hm
  have h' : (left : Int) - len < 0 := by omega
  go_enter Try.func80, Try.ntmps80
  go_wp2
  go_ret
  exact ⟨rfl, rfl⟩
/-- laws.szSchedule. -/
theorem szSchedule_small (r f : Option Addr) (n m c1 c2 left : Nat) (w : World) (h : n + m ≤ left) (hl : left ≤ 1048576) :
    Calls Try.prog 48 #[.agg #[.slice r n c1, .slice f m c2], .int .i64 (left : Int)] w fun e w' =>
      e = .returned (.int .i64 ((left : Int) - n - m)) ∧ Below w.heap.size w w' := by
  obtain ⟨l1, hl1⟩ : ∃ l : Nat, (left : Int) - (n : Int) = (l : Int) := ⟨left - n, by omega⟩
  have h1 : ¬ (l1 : Int) < 0 := by omega
  have h2 : ¬ (l1 : Int) - (m : Int) < 0 := by omega
  have HL := Lib.hid hl1
  clear hl1
  go_enter Try.func48, Try.ntmps48
  go_wp2_with fail
  refine (szIntS_small _ _ _ left _ (by omega) hl).mono ?_
  rintro e w1 ⟨rfl, rfl⟩
  rw [HL.out]
  go_wp2_with fail
  refine (szIntS_small _ _ _ l1 _ (by have := HL.out; omega) (by have := HL.out; omega)).mono ?_
  rintro e w1 ⟨rfl, rfl⟩
  go_wp2
  go_ret
  exact ⟨ret_int (by have := HL.out; omega), below_box _ _⟩
theorem szSchedule_big (r f : Option Addr) (n m c1 c2 left : Nat) (w : World) (h : left < n + m) (hn : n ≤ maxLen) (hm : m ≤ maxLen) (hl : left ≤ 1048576) :
    Calls Try.prog 48 #[.agg #[.slice r n c1, .slice f m c2], .int .i64 (left : Int)] w fun e w' =>
      e = .returned (.int .i64 (-1)) ∧ Below w.heap.size w w' := by
  by_cases h1 : n ≤ left
  · obtain ⟨l1, hl1⟩ : ∃ l : Nat, (left : Int) - (n : Int) = (l : Int) := ⟨left - n, by omega⟩
    have h1 : ¬ (l1 : Int) < 0 := by omega
    have HL := Lib.hid hl1
    clear hl1
    go_enter Try.func48, Try.ntmps48
    go_wp2_with fail
    refine (szIntS_small _ _ _ left _ (by omega) hl).mono ?_
    rintro e w1 ⟨rfl, rfl⟩
    rw [HL.out]
    go_wp2_with fail
    refine (szIntS_big _ _ _ l1 _ (by have := HL.out; omega) hm (by have := HL.out; omega)).mono ?_
    rintro e w1 ⟨rfl, rfl⟩
    go_wp2
    go_ret
    exact ⟨rfl, below_box _ _⟩
  · go_enter Try.func48, Try.ntmps48
    go_wp2_with fail
    refine (szIntS_big _ _ _ left _ (by omega) hn hl).mono ?_
    rintro e w1 ⟨rfl, rfl⟩
    go_wp2
    go_ret
    exact ⟨rfl, below_box _ _⟩

theorem rowIs_ownI {w : World} {base b n : Nat} {f : Nat → Int} (h : w.rowIs b 3 n (fun k => .int .i64 (f k))) (hb : base ≤ b) (hn : n ≤ maxLen) : OwnI w base (.slice (some ⟨b, 0, none⟩) n n) n f := by
  obtain ⟨cur, hc, hsz, hat⟩ := h
  refine ⟨by rw [vals_len, Nat.mul_one], .inr ⟨b, n, cur, rfl, hb, hc, Nat.le_refl _, hn, by omega, ?_⟩⟩
  apply List.ext_getElem?
  intro k
  by_cases hk : k < n
  · rw [vals_at f hk, List.getElem?_take_of_lt (by omega), Array.getElem?_toList]
    exact hat k hk
  · rw [List.getElem?_eq_none (by rw [List.length_take]; omega), List.getElem?_eq_none (by rw [vals_len]; omega)]

set_option maxHeartbeats 1000000 in
/-- laws.toIntS. -/
theorem toIntS_any (a : Option Addr) (cap n : Nat) (f : Nat → Int) (w : World) (h : IntF w a n f) (hn : n ≤ 1099511627776) :
    Calls Try.prog 81 #[.slice a n cap] w fun e w' =>
      e = .returned (.slice (some ⟨w.heap.size, 0, none⟩) n n) ∧ OwnI w' w.heap.size (.slice (some ⟨w.heap.size, 0, none⟩) n n) n f ∧ Below w.heap.size w w' := by
  have hmk := run_make_ints n hn
  have HF := Lib.hid h
  clear h
  go_enter Try.func81, Try.ntmps81
  go_wp2
  clear hmk
  go_loopg [4] n (fun m i wr => ∃ k : Nat, m + k = n ∧ i = .int .i64 k ∧ wr.rowIs w.heap.size 3 n (fun j => .int .i64 (if j < k then f j else 0)) ∧ Below w.heap.size w wr)
  case atStart => exact ⟨0, rfl, rfl, (World.rowIs_made w (.int .i64 0) n 3).congr fun j _ => by rw [if_neg (Nat.not_lt_zero _)], below_box _ _⟩
  case round =>
    obtain ⟨k, hk, rfl, hr, B⟩ := hrel
    have HK := Lib.hid hk
    have HW := Lib.hid hr
    have hkk : k ≤ n := by omega
    clear hk hr
    by_cases hlt : k < n
    · obtain ⟨bf, of, rfl, hbf, y0⟩ := HF.out.below B k hlt
      have z0 := HW.out.cell hlt
      have z1 := HW.out.frozen k
      have hk0 : (0 : Int) ≤ k := by omega
      have hk1 : (k : Int) < n := by omega
      go_wp2
      go_roundg (gk - 1)
      case measure => have := HK.out; omega
      case rel => exact ⟨k + 1, by have := HK.out; omega, by go_num, (HW.out.set k (.int .i64 (f k))).congr fun j _ => by
          by_cases e : j = k
          · subst e; rw [if_pos rfl, if_pos (by omega)]
          · rw [if_neg e]
            by_cases e2 : j < k
            · rw [if_pos e2, if_pos (by omega)]
            · rw [if_neg e2, if_neg (by omega)], B.setCell (Nat.le_refl _) _⟩
    · obtain rfl : k = n := by omega
      go_wp2
      go_ret
      exact ⟨rfl, rowIs_ownI (HW.out.congr fun j hj => by rw [if_pos hj]) (Nat.le_refl _) (by unfold maxLen; omega), B⟩

/-- laws.toSchedule. -/
theorem toSchedule_any (r f : Option Addr) (n m c1 c2 : Nat) (fr ff : Nat → Int) (w : World) (h1 : IntF w r n fr) (h2 : IntF w f m ff) (hn : n ≤ 1099511627776) (hm : m ≤ 1099511627776) :
    Calls Try.prog 49 #[.agg #[.slice r n c1, .slice f m c2]] w fun e w' =>
      ∃ p1 p2, e = .returned (.agg #[.slice (some ⟨p1, 0, none⟩) n n, .slice (some ⟨p2, 0, none⟩) m m]) ∧ OwnI w' w.heap.size (.slice (some ⟨p1, 0, none⟩) n n) n fr ∧ OwnI w' w.heap.size (.slice (some ⟨p2, 0, none⟩) m m) m ff ∧ p1 < p2 ∧ Below w.heap.size w w' := by
  obtain ⟨W, hW⟩ : ∃ W, W = ((w.alloc (.cells #[.slice r n c1, .slice f m c2] 63)).alloc (.cells #[.slice none 0 0, .slice none 0 0] 43)).alloc (.cells #[.slice none 0 0, .slice none 0 0] 43) := ⟨_, rfl⟩
  have BW : Below w.heap.size w W := by rw [hW]; exact ((below_box _ _).alloc (by simp) _).alloc (by simp; omega) _
  have sW : W.heap.size = w.heap.size + 3 := by rw [hW]; simp
  have F1 := Lib.hid (h1.below BW)
  have F2 := Lib.hid (h2.below BW)
  have a0 : W.cell? ⟨w.heap.size, 0, none⟩ = some (.slice r n c1) := by rw [hW]; simp [go_sem]
  have a1 : W.cell? ⟨w.heap.size, 1, none⟩ = some (.slice f m c2) := by rw [hW]; simp [go_sem]
  have q0 : W.cell? ⟨w.heap.size + 1, 0, none⟩ = some (.slice none 0 0) := by rw [hW]; simp [go_sem]
  have q1 : W.cell? ⟨w.heap.size + 1, 1, none⟩ = some (.slice none 0 0) := by rw [hW]; simp [go_sem]
  have q2 : W.frozen? ⟨w.heap.size + 1, 0, none⟩ = false := by rw [hW]; simp [go_sem]
  have q3 : W.frozen? ⟨w.heap.size + 1, 1, none⟩ = false := by rw [hW]; simp [go_sem]
  have s0 : W.cell? ⟨w.heap.size + 2, 0, none⟩ = some (.slice none 0 0) := by rw [hW]; simp [go_sem]
  have s1 : W.cell? ⟨w.heap.size + 2, 1, none⟩ = some (.slice none 0 0) := by rw [hW]; simp [go_sem]
  have s2 : W.frozen? ⟨w.heap.size + 2, 0, none⟩ = false := by rw [hW]; simp [go_sem]
  have s3 : W.frozen? ⟨w.heap.size + 2, 1, none⟩ = false := by rw [hW]; simp [go_sem]
  have HW := Lib.hid hW
  have HS := Lib.hid sW
  clear hW h1 sW
  go_enter Try.func49, Try.ntmps49
  go_wp2_with fail
  rw [← HW.out]
  refine (toIntS_any _ _ _ fr _ F1.out hn).mono ?_
  rintro e w1 ⟨rfl, o1, b1⟩
  have z1 := b1.size
  have cl : ∀ k j, k < w.heap.size + 3 → w1.cell? ⟨k, j, none⟩ = W.cell? ⟨k, j, none⟩ ∧ w1.frozen? ⟨k, j, none⟩ = W.frozen? ⟨k, j, none⟩ := fun k j hk =>
    ⟨b1.cell (p := ⟨k, j, none⟩) (show k < _ by have := HS.out; omega), b1.frozen (p := ⟨k, j, none⟩) (show k < _ by have := HS.out; omega)⟩
  have a1' := (cl w.heap.size 1 (by omega)).1.trans a1
  have q0' := (cl (w.heap.size + 1) 0 (by omega)).1.trans q0
  have q1' := (cl (w.heap.size + 1) 1 (by omega)).1.trans q1
  have q2' := (cl (w.heap.size + 1) 0 (by omega)).2.trans q2
  have q3' := (cl (w.heap.size + 1) 1 (by omega)).2.trans q3
  have s0' := (cl (w.heap.size + 2) 0 (by omega)).1.trans s0
  have s1' := (cl (w.heap.size + 2) 1 (by omega)).1.trans s1
  have s2' := (cl (w.heap.size + 2) 0 (by omega)).2.trans s2
  have s3' := (cl (w.heap.size + 2) 1 (by omega)).2.trans s3
  have hlt : W.heap.size < w1.heap.size := (o1.lt W.heap.size rfl).2
  have F2' := Lib.hid ((F2.out.below b1))
  have F20 := Lib.hid h2
  have O1 := Lib.hid o1
  have B1 := Lib.hid (BW.trans (b1.mono BW.size))
  clear cl o1 b1 a0 a1 q0 q1 q2 q3 s0 s1 s2 s3 z1 F1 F2 h2
  generalize hp1 : W.heap.size = p1 at O1 hlt HS ⊢
  clear hp1
  have hp1 : p1 = w.heap.size + 3 := HS.out
  have HP := Lib.hid hp1
  have n1 : w.heap.size + 2 ≠ p1 := by omega
  clear hp1 HS
  go_wp2_with fail
  obtain ⟨W2, hW2⟩ : ∃ W2, W2 = w1.setCell ⟨w.heap.size + 2, 0, none⟩ (.slice (some ⟨p1, 0, none⟩) n n) := ⟨_, rfl⟩
  rw [← hW2]
  have B2 := Lib.hid (show Below w.heap.size w W2 by rw [hW2]; exact B1.out.setCell (by simp) _)
  have hsz2 : W2.heap.size = w1.heap.size := by rw [hW2]; simp [World.setCell]
  have O1' := Lib.hid (show OwnI W2 p1 (.slice (some ⟨p1, 0, none⟩) n n) n fr by rw [hW2]; exact O1.out.other (by simp [Value.ownBlock]; omega))
  have eb : ∀ k j, (k = w.heap.size ∨ k = w.heap.size + 1) → W2.cell? ⟨k, j, none⟩ = w1.cell? ⟨k, j, none⟩ ∧ W2.frozen? ⟨k, j, none⟩ = w1.frozen? ⟨k, j, none⟩ := fun k j hk => by
    have e := Below.heap_setCell w1 ⟨w.heap.size + 2, 0, none⟩ (.slice (some ⟨p1, 0, none⟩) n n) k (show k ≠ w.heap.size + 2 by omega)
    rw [hW2]
    exact ⟨World.cell?_of_block (a := ⟨k, j, none⟩) e, World.frozen?_of_block (a := ⟨k, j, none⟩) e⟩
  have q0 := (eb (w.heap.size + 1) 0 (.inr rfl)).1.trans q0'
  have q1 := (eb (w.heap.size + 1) 1 (.inr rfl)).1.trans q1'
  have q2 := (eb (w.heap.size + 1) 0 (.inr rfl)).2.trans q2'
  have q3 := (eb (w.heap.size + 1) 1 (.inr rfl)).2.trans q3'
  have s0 : W2.cell? ⟨w.heap.size + 2, 0, none⟩ = some (.slice (some ⟨p1, 0, none⟩) n n) := by rw [hW2]; simp [go_sem, s0']
  have s1 : W2.cell? ⟨w.heap.size + 2, 1, none⟩ = some (.slice none 0 0) := by rw [hW2]; simp [go_sem, s1']
  have s3 : W2.frozen? ⟨w.heap.size + 2, 1, none⟩ = false := by rw [hW2]; simp [go_sem, s3']
  have F3 := Lib.hid (show IntF W2 f m ff from fun k hk => by
    obtain ⟨bf, of, e, hb, hc⟩ := F2'.out k hk
    obtain ⟨bf', of', e', hb', _⟩ := F20.out k hk
    rw [e] at e'
    simp only [Option.some.injEq, Addr.mk.injEq, and_true] at e'
    obtain ⟨rfl, rfl⟩ := e'
    exact ⟨bf, of, e, by omega, by rw [hW2, World.cell?_of_block (a := ⟨bf, of + k, none⟩) (Below.heap_setCell w1 ⟨w.heap.size + 2, 0, none⟩ _ bf (show bf ≠ w.heap.size + 2 by omega))]; exact hc⟩)
  clear hW2 eb a1' q0' q1' q2' q3' s0' s1' s2' s3' F2' O1 B1 F20
  refine (toIntS_any _ _ _ ff _ F3.out hm).mono ?_
  rintro e w3 ⟨rfl, o2, b3⟩
  have z3 := b3.size
  have cl : ∀ k j, k < w.heap.size + 3 → w3.cell? ⟨k, j, none⟩ = W2.cell? ⟨k, j, none⟩ ∧ w3.frozen? ⟨k, j, none⟩ = W2.frozen? ⟨k, j, none⟩ := fun k j hk =>
    ⟨b3.cell (p := ⟨k, j, none⟩) (show k < _ by have := HP.out; omega), b3.frozen (p := ⟨k, j, none⟩) (show k < _ by have := HP.out; omega)⟩
  have q0' := (cl (w.heap.size + 1) 0 (by omega)).1.trans q0
  have q1' := (cl (w.heap.size + 1) 1 (by omega)).1.trans q1
  have q2' := (cl (w.heap.size + 1) 0 (by omega)).2.trans q2
  have q3' := (cl (w.heap.size + 1) 1 (by omega)).2.trans q3
  have s0' := (cl (w.heap.size + 2) 0 (by omega)).1.trans s0
  have s1' := (cl (w.heap.size + 2) 1 (by omega)).1.trans s1
  have s3' := (cl (w.heap.size + 2) 1 (by omega)).2.trans s3
  have O12 := Lib.hid (O1'.out.below b3)
  have O22 := Lib.hid o2
  have B3 := Lib.hid (B2.out.trans (b3.mono B2.out.size))
  have hpp : p1 < W2.heap.size := by omega
  clear cl o2 b3 q0 q1 q2 q3 s0 s1 s3 z3 F3 O1' B2
  generalize hp2 : W2.heap.size = p2 at O22 hpp hsz2 ⊢
  clear hp2
  have n2 : w.heap.size + 2 ≠ p2 := by have := HP.out; omega
  go_wp2
  refine bodyPost_ret (v := .agg #[.slice (some ⟨p1, 0, none⟩) n n, .slice (some ⟨p2, 0, none⟩) m m]) ?_ rfl ⟨p1, p2, rfl, ?_, ?_, hpp, ((B3.out.setCell (by dsimp only; omega) _).setCell (by dsimp only; omega) _).setCell (by dsimp only; omega) _⟩
  · simp [results, Try.results49, go_sem, q0', q1']
  · refine (((O12.out.other ?_).other ?_).other ?_).mono (by have := HP.out; omega) <;> (have := HP.out; simp [Value.ownBlock]; omega)
  · refine (((O22.out.other ?_).other ?_).other ?_).mono (by have := HP.out; omega) <;> (have := HP.out; simp [Value.ownBlock]; omega)

end Go.Proofs.Ytpnfbgbbmpacfaa
