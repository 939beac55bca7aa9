/- Contracts of laws.eqIntS (of equal slices), markIntS, heldIntS; eqSchedule (of equal schedules), markSchedule, heldSchedule. Conditions: at most 2^20 numbers. -/
import Derived.Test.YtlcdmjcikbgnpaaMem
import Derived.Test.YtlcdmjcikbgnpaaBase
import Derived.Test.YtlcdmjcikbgnpaaRead
namespace Go.Proofs.Ytlcdmjcikbgnpaa
open Go.RowKit Go.Deep

/-- laws.eqIntS, of two slices that hold the same. -/
theorem eqIntS_same (a a' : Option Addr) (cap cap' n : Nat) (f : Nat → Int) (w : World) (h : IntF w a n f) (h' : IntF w a' n f) (hn : n ≤ 1048576) :
    Calls Try.prog 33 #[.slice a n cap, .slice a' n cap'] w fun e w' =>
      e = .returned (.bool true) ∧ ∃ m, w' = w.drewN m := by
  go_enter Try.func33, Try.ntmps33
  go_wp2
  go_loopg [5] n (fun m i wr => ∃ k : Nat, m + k = n ∧ i = .int .i64 k ∧ ∃ l, wr = w.drewN l)
  case atStart => exact ⟨0, rfl, rfl, 0, rfl⟩
  case round =>
    obtain ⟨k, hk, rfl, l, hwr⟩ := hrel
    have HK := Lib.hid hk
    have HW := Lib.hid hwr
    have hkk : k ≤ n := by omega
    clear hk
    by_cases hlt : k < n
    · obtain ⟨b, off, rfl, _, x0⟩ := h k hlt
      obtain ⟨b', off', rfl, _, y0⟩ := h' k hlt
      have g0 : wr.cell? ⟨b, off + k, none⟩ = some (.int .i64 (f k)) := by rw [hwr]; exact x0
      have g1 : wr.cell? ⟨b', off' + k, none⟩ = some (.int .i64 (f k)) := by rw [hwr]; exact y0
      obtain ⟨c, hc⟩ : ∃ c, c = f k := ⟨_, rfl⟩
      rw [← hc] at g0 g1
      have hk0 : (0 : Int) ≤ k := by omega
      have hk1 : (k : Int) < n := by omega
      clear x0 y0 h h' hwr hc
      go_wp2
      go_quiet (fail)
      go_wp2
      go_roundg (gk - 1)
      case measure => have := HK.out; omega
      case rel => exact ⟨k + 1, by have := HK.out; omega, by go_num, l + nq, by rw [HW.out, World.drewN_drewN]⟩
    · obtain rfl : k = n := by omega
      clear hwr
      go_wp2
      go_ret
      exact ⟨rfl, l, HW.out⟩

def mkI (f : Nat → Int) (k : Int) (i : Nat) : Nat → Int := fun m => if m < i then k + m else f m
theorem markI1 {w wr : World} {base g n cap i : Nat} {f : Nat → Int} {k : Int} (ho : OwnI wr base (.slice (some ⟨g, 0, none⟩) n cap) n (mkI f k i)) (hg : w.grownBy wr (some g)) (hi : i < n) :
    OwnI (wr.setCell ⟨g, i, none⟩ (.int .i64 (k + i))) base (.slice (some ⟨g, 0, none⟩) n cap) n (mkI f k (i + 1)) ∧ w.grownBy (wr.setCell ⟨g, i, none⟩ (.int .i64 (k + i))) (some g) := by
  refine ⟨(ho.set hi (k + i)).congr fun m _ => ?_, gb_set hg (p := ⟨g, i, none⟩) (.inl rfl) _⟩
  simp only [mkI]
  by_cases e : m = i
  · rw [if_pos e, if_pos (by omega), e]
  · rw [if_neg e]
    by_cases h : m < i
    · rw [if_pos h, if_pos (by omega)]
    · rw [if_neg h, if_neg (by omega)]

/-- laws.markIntS. -/
theorem markIntS_any (a : Option Addr) (cap n : Nat) (f : Nat → Int) (k : Nat) (base : Nat) (w : World) (h : OwnI w base (.slice a n cap) n f) (hn : n ≤ 1048576) (hk : k ≤ 100000000) :
    Calls Try.prog 35 #[.slice a n cap, .int .i64 (k : Int)] w fun e w' =>
      e = .returned (.int .i64 ((k : Int) + n)) ∧ OwnI w' base (.slice a n cap) n (fun m => (k : Int) + m) ∧ w.grownBy w' (Value.slice a n cap).ownBlock := by
  have HO := Lib.hid h
  clear h
  go_enter Try.func35, Try.ntmps35
  go_wp2
  go_loopg [1, 5] n (fun m s z wr => ∃ i : Nat, m + i = n ∧ z = .int .i64 i ∧ s = .int .i64 ((k : Int) + i) ∧ OwnI wr base (.slice a n cap) n (mkI f k i) ∧ w.grownBy wr (Value.slice a n cap).ownBlock)
  case atStart => exact ⟨0, by omega, rfl, by simp, HO.out.congr (fun m _ => by simp [mkI]), World.grownBy.refl _ _⟩
  case round =>
    clear HO
    obtain ⟨i, hi, rfl, rfl, ho, hg⟩ := hrel
    have HI := Lib.hid hi
    have HO := Lib.hid ho
    have HG := Lib.hid hg
    have hii : i ≤ n := by omega
    clear hi ho hg
    by_cases hlt : i < n
    · obtain ⟨g, cap', e', hgb, hgl, _, zf, yc⟩ := HO.out.at (by omega)
      simp only [Value.slice.injEq] at e'
      obtain ⟨rfl, _, rfl⟩ := e'
      have x0 := yc i (by omega)
      have z0 := zf i
      have hi0 : (0 : Int) ≤ i := by omega
      have hi1 : (i : Int) < n := by omega
      clear zf yc
      go_wp2
      go_roundg (gk - 1)
      case measure => have := HI.out; omega
      case rel =>
        have M1 := markI1 HO.out HG.out hlt
        exact ⟨i + 1, by have := HI.out; omega, by go_num, by go_num, M1.1, M1.2⟩
    · obtain rfl : i = n := by omega
      go_wp2
      go_ret
      exact ⟨rfl, HO.out.congr (fun m hm => by simp only [mkI]; rw [if_pos hm]), HG.out⟩

/-- laws.heldIntS, where the marks are held. -/
theorem heldIntS_any (a : Option Addr) (cap n : Nat) (k : Nat) (w : World) (h : IntF w a n (fun m => (k : Int) + m)) (hn : n ≤ 1048576) (hk : k ≤ 100000000) :
    Calls Try.prog 36 #[.slice a n cap, .int .i64 (k : Int)] w fun e w' =>
      e = .returned (.int .i64 ((k : Int) + n)) ∧ w' = w := by
  have HO := Lib.hid h
  clear h
  go_enter Try.func36, Try.ntmps36
  go_wp2
  go_loopg [1, 5] n (fun m s z wr => ∃ i : Nat, m + i = n ∧ z = .int .i64 i ∧ s = .int .i64 ((k : Int) + i) ∧ w = wr)
  case atStart => exact ⟨0, by omega, rfl, by simp, rfl⟩
  case round =>
    obtain ⟨i, hi, rfl, rfl, rfl⟩ := hrel
    have HI := Lib.hid hi
    have hii : i ≤ n := by omega
    clear hi
    by_cases hlt : i < n
    · obtain ⟨b, off, rfl, _, x0⟩ := HO.out i hlt
      have hi0 : (0 : Int) ≤ i := by omega
      have hi1 : (i : Int) < n := by omega
      simp only at x0
      go_wp2
      go_roundg (gk - 1)
      case measure => have := HI.out; omega
      case rel => exact ⟨i + 1, by have := HI.out; omega, by go_num, by go_num, rfl⟩
    · obtain rfl : i = n := by omega
      go_wp2
      go_ret
      exact ⟨rfl, rfl⟩

end Go.Proofs.Ytlcdmjcikbgnpaa
