/- Contract of laws.markTaskS: writing marks in a slice of one's own. Conditions: at most 2^20 tasks. -/
import Derived.Test.YtilfmfhbdafogaaCopy
import Derived.Test.YtilfmfhbdafogaaRead
import Derived.Deep.OwnRows
namespace Go.Proofs.Ytilfmfhbdafogaa
open Go.RowKit Go.Deep

set_option maxHeartbeats 2000000 in
/-- laws.markTaskS, of a row of one's own. -/
theorem markTaskS_any (b cap n : Nat) (f : Nat → Value) (k : Nat) (w : World) (h : w.rowIs b 44 (n * 3) f) (hn : n ≤ 1048576) (hk : k ≤ 100000000) :
    Calls Try.prog 18 #[.slice (some ⟨b, 0, none⟩) n cap, .int .i64 (k : Int)] w fun e w' =>
      e = .returned (.int .i64 ((k : Int) + 3 * n)) ∧ w.grownBy w' (some b) := by
  have HO := Lib.hid h
  clear h
  go_enter Try.func18, Try.ntmps18
  go_wp2
  go_loopg [1, 5] n (fun m s z wr => ∃ (i : Nat) (f' : Nat → Value), m + i = n ∧ z = .int .i64 i ∧ s = .int .i64 ((k : Int) + 3 * i) ∧ wr.rowIs b 44 (n * 3) f' ∧ w.grownBy wr (some b))
  case atStart => exact ⟨0, f, by omega, rfl, by simp, HO.out, World.grownBy.refl _ _⟩
  case round =>
    clear HO
    obtain ⟨i, f', hi, rfl, rfl, ho, hg⟩ := hrel
    have HI := Lib.hid hi
    have hii : i ≤ n := by omega
    clear hi
    by_cases hlt : i < n
    · have x0 := ho.cell (i := i * 3) (by omega)
      have x1 := ho.cell (i := i * 3 + 1) (by omega)
      have x2 := ho.cell (i := i * 3 + 2) (by omega)
      have z0 := ho.frozen (i * 3)
      have z1 := ho.frozen (i * 3 + 1)
      have z2 := ho.frozen (i * 3 + 2)
      have hi0 : (0 : Int) ≤ i := by omega
      have hi1 : (i : Int) < n := by omega
      have HO := Lib.hid (show ∀ p q r, (((wr.setCell ⟨b, i * 3, none⟩ p).setCell ⟨b, i * 3 + 1, none⟩ q).setCell ⟨b, i * 3 + 2, none⟩ r).rowIs b 44 (n * 3) _ from fun p q r => ((ho.set (i * 3) p).set (i * 3 + 1) q).set (i * 3 + 2) r)
      have HG := Lib.hid (show ∀ p q r, w.grownBy (((wr.setCell ⟨b, i * 3, none⟩ p).setCell ⟨b, i * 3 + 1, none⟩ q).setCell ⟨b, i * 3 + 2, none⟩ r) (some b) from fun p q r => gb_set (gb_set (gb_set hg (p := ⟨b, i * 3, none⟩) (.inl rfl) p) (p := ⟨b, i * 3 + 1, none⟩) (.inl rfl) q) (p := ⟨b, i * 3 + 2, none⟩) (.inl rfl) r)
      clear ho hg
      go_wp2
      go_roundg (gk - 1)
      case measure => have := HI.out; omega
      case rel => exact ⟨i + 1, _, by have := HI.out; omega, by go_num, by go_num, HO.out _ _ _, HG.out _ _ _⟩
    · obtain rfl : i = n := by omega
      have HG := Lib.hid hg
      clear hg
      go_wp2
      go_ret
      exact ⟨rfl, HG.out⟩

end Go.Proofs.Ytilfmfhbdafogaa
