/- Contracts of laws.eqIntS (of equal slices), markIntS, heldIntS; eqSchedule (of equal schedules), markSchedule, heldSchedule. Conditions: at most 2^20 numbers. -/
import Derived.Test.YtlagghoohloklaaMem
import Derived.Test.YtlagghoohloklaaBase
import Derived.Test.YtlagghoohloklaaRead
namespace Go.Proofs.Ytlagghoohloklaa
open Go.RowKit Go.Deep

/-- laws.eqIntS, of two slices that hold the same. -/
theorem eqIntS_same (a a' : Option Addr) (cap cap' n : Nat) (f : Nat → Int) (w : World) (h : IntF w a n f) (h' : IntF w a' n f) (hn : n ≤ 1048576) :
    Calls Try.prog 76 #[.slice a n cap, .slice a' n cap'] w fun e w' =>
      e = .returned (.bool true) ∧ ∃ m, w' = w.drewN m := by
  go_enter Try.func76, Try.ntmps76
  go_wp2
  go_loopg [5] n (fun m i wr => ∃ k : Nat, m + k = n ∧ i = .int .i64 k ∧ ∃ l, wr = w.drewN l)
  case atStart => exact ⟨0, rfl, rfl, 0, rfl⟩
  case round =>
    obtain ⟨k, hk, rfl, l, hwr⟩ := hrel
    have HK := Lib.hid hk
    have HW := Lib.hid hwr
    have hkk : k ≤ n := by omega
    clear hk
    by_cases hlt : k < n
    · obtain ⟨b, off, rfl, _, x0⟩ := h k hlt
      obtain ⟨b', off', rfl, _, y0⟩ := h' k hlt
      have g0 : wr.cell? ⟨b, off + k, none⟩ = some (.int .i64 (f k)) := by rw [hwr]; exact x0
      have g1 : wr.cell? ⟨b', off' + k, none⟩ = some (.int .i64 (f k)) := by rw [hwr]; exact y0
      obtain ⟨c, hc⟩ : ∃ c, c = f k := ⟨_, rfl⟩
      rw [← hc] at g0 g1
      have hk0 : (0 : Int) ≤ k := by omega
      have hk1 : (k : Int) < n := by omega
      clear x0 y0 h h' hwr hc
      go_wp2
      go_quiet (fail)
      go_wp2
      go_roundg (gk - 1)
      case measure => have := HK.out; omega
      case rel => exact ⟨k + 1, by have := HK.out; omega, by go_num, l + nq, by rw [HW.out, World.drewN_drewN]⟩
    · obtain rfl : k = n := by omega
      clear hwr
      go_wp2
      go_ret
      exact ⟨rfl, l, HW.out⟩

def mkI (f : Nat → Int) (k : Int) (i : Nat) : Nat → Int := fun m => if m < i then k + m else f m
theorem markI1 {w wr : World} {base g n cap i : Nat} {f : Nat → Int} {k : Int} (ho : OwnI wr base (.slice (some ⟨g, 0, none⟩) n cap) n (mkI f k i)) (hg : w.grownBy wr (some g)) (hi : i < n) :
    OwnI (wr.setCell ⟨g, i, none⟩ (.int .i64 (k + i))) base (.slice (some ⟨g, 0, none⟩) n cap) n (mkI f k (i + 1)) ∧ w.grownBy (wr.setCell ⟨g, i, none⟩ (.int .i64 (k + i))) (some g) := by
  refine ⟨(ho.set hi (k + i)).congr fun m _ => ?_, gb_set hg (p := ⟨g, i, none⟩) (.inl rfl) _⟩
  simp only [mkI]
  by_cases e : m = i
  · rw [if_pos e, if_pos (by omega), e]
  · rw [if_neg e]
    by_cases h : m < i
    · rw [if_pos h, if_pos (by omega)]
    · rw [if_neg h, if_neg (by omega)]

/-- laws.markIntS. -/
theorem markIntS_any (a : Option Addr) (cap n : Nat) (f : Nat → Int) (k : Nat) (base : Nat) (w : World) (h : OwnI w base (.slice a n cap) n f) (hn : n ≤ 1048576) (hk : k ≤ 100000000) :
    Calls Try.prog 80 #[.slice a n cap, .int .i64 (k : Int)] w fun e w' =>
      e = .returned (.int .i64 ((k : Int) + n)) ∧ OwnI w' base (.slice a n cap) n (fun m => (k : Int) + m) ∧ w.grownBy w' (Value.slice a n cap).ownBlock := by
  have HO := Lib.hid h
  clear h
  go_enter Try.func80, Try.ntmps80
  go_wp2
  go_loopg [1, 5] n (fun m s z wr => ∃ i : Nat, m + i = n ∧ z = .int .i64 i ∧ s = .int .i64 ((k : Int) + i) ∧ OwnI wr base (.slice a n cap) n (mkI f k i) ∧ w.grownBy wr (Value.slice a n cap).ownBlock)
  case atStart => exact ⟨0, by omega, rfl, by simp, HO.out.congr (fun m _ => by simp [mkI]), World.grownBy.refl _ _⟩
  case round =>
    clear HO
    obtain ⟨i, hi, rfl, rfl, ho, hg⟩ := hrel
    have HI := Lib.hid hi
    have HO := Lib.hid ho
    have HG := Lib.hid hg
    have hii : i ≤ n := by omega
    clear hi ho hg
    by_cases hlt : i < n
    · obtain ⟨g, cap', e', hgb, hgl, _, zf, yc⟩ := HO.out.at (by omega)
      simp only [Value.slice.injEq] at e'
      obtain ⟨rfl, _, rfl⟩ := e'
      have x0 := yc i (by omega)
      have z0 := zf i
      have hi0 : (0 : Int) ≤ i := by omega
      have hi1 : (i : Int) < n := by omega
      clear zf yc
      go_wp2
      go_roundg (gk - 1)
      case measure => have := HI.out; omega
      case rel =>
        have M1 := markI1 HO.out HG.out hlt
        exact ⟨i + 1, by have := HI.out; omega, by go_num, by go_num, M1.1, M1.2⟩
    · obtain rfl : i = n := by omega
      go_wp2
      go_ret
      exact ⟨rfl, HO.out.congr (fun m hm => by simp only [mkI]; rw [if_pos hm]), HG.out⟩

/-- laws.heldIntS, where the marks are held. -/
theorem heldIntS_any (a : Option Addr) (cap n : Nat) (k : Nat) (w : World) (h : IntF w a n (fun m => (k : Int) + m)) (hn : n ≤ 1048576) (hk : k ≤ 100000000) :
    Calls Try.prog 81 #[.slice a n cap, .int .i64 (k : Int)] w fun e w' =>
      e = .returned (.int .i64 ((k : Int) + n)) ∧ w' = w := by
  have HO := Lib.hid h
  clear h
  go_enter Try.func81, Try.ntmps81
  go_wp2
  go_loopg [1, 5] n (fun m s z wr => ∃ i : Nat, m + i = n ∧ z = .int .i64 i ∧ s = .int .i64 ((k : Int) + i) ∧ w = wr)
  case atStart => exact ⟨0, by omega, rfl, by simp, rfl⟩
  case round =>
    obtain ⟨i, hi, rfl, rfl, rfl⟩ := hrel
    have HI := Lib.hid hi
    have hii : i ≤ n := by omega
    clear hi
    by_cases hlt : i < n
    · obtain ⟨b, off, rfl, _, x0⟩ := HO.out i hlt
      have hi0 : (0 : Int) ≤ i := by omega
      have hi1 : (i : Int) < n := by omega
      simp only at x0
      go_wp2
      go_roundg (gk - 1)
      case measure => have := HI.out; omega
      case rel => exact ⟨i + 1, by have := HI.out; omega, by go_num, by go_num, rfl⟩
    · obtain rfl : i = n := by omega
      go_wp2
      go_ret
      exact ⟨rfl, rfl⟩

/-- laws.eqSchedule, of two schedules that hold the same. -/
theorem eqSchedule_same (r f r' f' : Option Addr) (c1 c2 c3 c4 n m : Nat) (fr ff : Nat → Int) (w : World) (h1 : IntF w r n fr) (h2 : IntF w f m ff) (h3 : IntF w r' n fr) (h4 : IntF w f' m ff) (hn : n ≤ 1048576) (hm : m ≤ 1048576) :
    Calls Try.prog 32 #[.agg #[.slice r n c1, .slice f m c2], .agg #[.slice r' n c3, .slice f' m c4]] w fun e w' =>
      e = .returned (.bool true) ∧ Below w.heap.size w w' := by
  have b0 : ∀ o1 o2, Below w.heap.size w ((w.alloc o1).alloc o2) := fun o1 o2 => (below_box _ _).alloc (by simp) _
  have H1 := Lib.hid fun o1 o2 => h1.below (b0 o1 o2)
  have H2 := Lib.hid fun o1 o2 => h2.below (b0 o1 o2)
  have H3 := Lib.hid fun o1 o2 => h3.below (b0 o1 o2)
  have H4 := Lib.hid fun o1 o2 => h4.below (b0 o1 o2)
  have B0 := Lib.hid b0
  clear h1 h2 h3 h4 b0
  go_enter Try.func32, Try.ntmps32
  go_wp2_with fail
  refine (eqIntS_same _ _ _ _ _ fr _ (H1.out _ _) (H3.out _ _) hn).mono ?_
  rintro e w1 ⟨rfl, m1, rfl⟩
  go_wp2_with fail
  refine (eqIntS_same _ _ _ _ _ ff _ ((H2.out _ _).below (below_drewN _ _)) ((H4.out _ _).below (below_drewN _ _)) hm).mono ?_
  rintro e w2 ⟨rfl, m2, rfl⟩
  go_wp2
  go_ret
  first | exact ⟨rfl, below_drewN' (B0.out _ _) _⟩ | exact ⟨rfl, below_drewN' (below_drewN' (B0.out _ _) _) _⟩

/-- laws.markSchedule: only the two slices turn. -/
theorem markSchedule_any (r f : Option Addr) (c1 c2 n m : Nat) (fr ff : Nat → Int) (k base : Nat) (w : World) (h1 : OwnI w base (.slice r n c1) n fr) (h2 : OwnI w base (.slice f m c2) m ff) (ha : Apart (.slice f m c2) (.slice r n c1)) (hb : base ≤ w.heap.size) (hn : n ≤ 1048576) (hm : m ≤ 1048576) (hk : k ≤ 10000000) :
    Calls Try.prog 39 #[.agg #[.slice r n c1, .slice f m c2], .int .i64 (k : Int)] w fun e w' =>
      e = .returned (.int .i64 ((k : Int) + n + m)) ∧ OwnI w' base (.slice r n c1) n (fun i => (k : Int) + i) ∧ OwnI w' base (.slice f m c2) m (fun i => (k : Int) + n + i) ∧ Below base w w' ∧
      ∀ j, j < w.heap.size → some j ≠ (Value.slice r n c1).ownBlock → some j ≠ (Value.slice f m c2).ownBlock → w'.heap[j]? = w.heap[j]? := by
  have H1 := Lib.hid fun o => h1.alloc o
  have H2 := Lib.hid fun o => h2.alloc o
  have LT := Lib.hid fun j hj => (h1.lt j hj).2
  have B0 := Lib.hid fun o => (below_box w o).mono hb
  have HA := Lib.hid ha
  clear h1 h2 ha
  go_enter Try.func39, Try.ntmps39
  go_wp2_with fail
  refine (markIntS_any _ _ _ _ k base _ (H1.out _) hn (by omega)).mono ?_
  rintro e w1 ⟨rfl, o1, g1⟩
  have O2 := Lib.hid ((H2.out (.cells #[.slice r n c1, .slice f m c2] 30)).grown g1 HA.out)
  have B1 := Lib.hid ((B0.out _).grown g1 (by simp; omega) (fun j hj => ((H1.out (.cells #[.slice r n c1, .slice f m c2] 30)).lt j hj).1))
  have x1 : w1.cell? ⟨w.heap.size, 1, none⟩ = some (.slice f m c2) := g1.cell (a := ⟨w.heap.size, 1, none⟩) (by simp [go_sem]) (fun e => by have := LT.out _ e.symm; simp at this)
  have O1 := Lib.hid o1
  have K1 := Lib.hid (show ∀ j, j < w.heap.size → some j ≠ (Value.slice r n c1).ownBlock → w1.heap[j]? = w.heap[j]? from fun j hj h1 => (g1.block j (by simp; omega) h1).trans (Below.heap_alloc w _ j hj))
  have Z1 := Lib.hid (show w.heap.size ≤ w1.heap.size from Nat.le_trans (by simp) g1.size)
  clear o1 g1
  have C := markIntS_any _ _ _ _ (k + n) base _ O2.out hm (by omega)
  rw [show ((k + n : Nat) : Int) = (k : Int) + n from by omega] at C
  have HC := Lib.hid C
  clear C
  go_wp2_with fail
  refine HC.out.mono ?_
  rintro e w2 ⟨rfl, o2, g2⟩
  have O12 := Lib.hid (O1.out.grown g2 HA.out.symm)
  have B2 := Lib.hid (B1.out.grown g2 (Nat.le_trans hb B1.out.size) (fun j hj => (O2.out.lt j hj).1))
  have O22 := Lib.hid o2
  have K2 := Lib.hid (show ∀ j, j < w.heap.size → some j ≠ (Value.slice r n c1).ownBlock → some j ≠ (Value.slice f m c2).ownBlock → w2.heap[j]? = w.heap[j]? from fun j hj h1 h2 => (g2.block j (Nat.lt_of_lt_of_le hj Z1.out) h2).trans (K1.out j hj h1))
  clear o2 g2
  go_wp2
  go_ret
  exact ⟨rfl, O12.out, O22.out, B2.out, K2.out⟩

/-- laws.heldSchedule, where the marks are held. -/
theorem heldSchedule_any (r f : Option Addr) (c1 c2 n m : Nat) (k : Nat) (w : World) (h1 : IntF w r n (fun i => (k : Int) + i)) (h2 : IntF w f m (fun i => (k : Int) + n + i)) (hn : n ≤ 1048576) (hm : m ≤ 1048576) (hk : k ≤ 10000000) :
    Calls Try.prog 40 #[.agg #[.slice r n c1, .slice f m c2], .int .i64 (k : Int)] w fun e w' =>
      e = .returned (.int .i64 ((k : Int) + n + m)) ∧ Below w.heap.size w w' := by
  have H1 := Lib.hid fun o => h1.below (below_box w o)
  have H2 := Lib.hid fun o => h2.below (below_box w o)
  clear h1 h2
  go_enter Try.func40, Try.ntmps40
  go_wp2_with fail
  refine (heldIntS_any _ _ _ k _ (H1.out _) hn (by omega)).mono ?_
  rintro e w1 ⟨rfl, rfl⟩
  have hp : ¬ (k : Int) + n < 0 := by omega
  have hp2 : ¬ (k : Int) + n + m < 0 := by omega
  have C := heldIntS_any f c2 m (k + n) (w.alloc (.cells #[.slice r n c1, .slice f m c2] 30)) (by rw [show ((k + n : Nat) : Int) = (k : Int) + n from by omega]; exact H2.out _) hm (by omega)
  rw [show ((k + n : Nat) : Int) = (k : Int) + n from by omega] at C
  have HC := Lib.hid C
  clear C
  go_wp2_with fail
  refine HC.out.mono ?_
  rintro e w2 ⟨rfl, rfl⟩
  go_wp2
  go_ret
  exact ⟨rfl, below_box _ _⟩

end Go.Proofs.Ytlagghoohloklaa
