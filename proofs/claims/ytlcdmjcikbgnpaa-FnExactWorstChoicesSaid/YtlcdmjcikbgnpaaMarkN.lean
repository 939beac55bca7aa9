/- Contract of laws.markNodeS: writing marks in a slice of nodes of one's own. Conditions: at most 2^20 nodes. -/
import Derived.Test.YtlcdmjcikbgnpaaCopyN
import Derived.Test.YtlcdmjcikbgnpaaRead
import Derived.Deep.OwnRows
namespace Go.Proofs.Ytlcdmjcikbgnpaa
open Go.RowKit Go.Deep

set_option maxRecDepth 100000 in
set_option maxHeartbeats 4000000 in
/-- laws.markNodeS, of a row of one's own. -/
theorem markNodeS_any (b cap n : Nat) (f : Nat → Value) (k : Nat) (w : World) (h : w.rowIs b 28 (n * 5) f) (hn : n ≤ 1048576) (hk : k ≤ 100000000) :
    Calls Try.prog 34 #[.slice (some ⟨b, 0, none⟩) n cap, .int .i64 (k : Int)] w fun e w' =>
      e = .returned (.int .i64 ((k : Int) + 5 * n)) ∧ w.grownBy w' (some b) := by
  have HO := Lib.hid h
  clear h
  go_enter Try.func34, Try.ntmps34
  go_wp2
  go_loopg [1, 5] n (fun m s z wr => ∃ (i : Nat) (f' : Nat → Value), m + i = n ∧ z = .int .i64 i ∧ s = .int .i64 ((k : Int) + 5 * i) ∧ wr.rowIs b 28 (n * 5) f' ∧ w.grownBy wr (some b))
  case atStart => exact ⟨0, f, by omega, rfl, by simp, HO.out, World.grownBy.refl _ _⟩
  case round =>
    clear HO
    obtain ⟨i, f', hi, rfl, rfl, ho, hg⟩ := hrel
    have HI := Lib.hid hi
    have hii : i ≤ n := by omega
    clear hi
    by_cases hlt : i < n
    · have x0 := ho.cell (i := i * 5) (by omega)
      have z0 := ho.frozen (i * 5)
      have x1 := ho.cell (i := i * 5 + 1) (by omega)
      have z1 := ho.frozen (i * 5 + 1)
      have x2 := ho.cell (i := i * 5 + 2) (by omega)
      have z2 := ho.frozen (i * 5 + 2)
      have x3 := ho.cell (i := i * 5 + 3) (by omega)
      have z3 := ho.frozen (i * 5 + 3)
      have x4 := ho.cell (i := i * 5 + 4) (by omega)
      have z4 := ho.frozen (i * 5 + 4)
      have hi0 : (0 : Int) ≤ i := by omega
      have hi1 : (i : Int) < n := by omega
      have HO := Lib.hid (show ∀ p q r s t, (((((wr.setCell ⟨b, i * 5, none⟩ p).setCell ⟨b, i * 5 + 1, none⟩ q).setCell ⟨b, i * 5 + 2, none⟩ r).setCell ⟨b, i * 5 + 3, none⟩ s).setCell ⟨b, i * 5 + 4, none⟩ t).rowIs b 28 (n * 5) _ from fun p q r s t => (((((ho.set (i * 5) p).set (i * 5 + 1) q).set (i * 5 + 2) r).set (i * 5 + 3) s).set (i * 5 + 4) t))
      have HG := Lib.hid (show ∀ p q r s t, w.grownBy (((((wr.setCell ⟨b, i * 5, none⟩ p).setCell ⟨b, i * 5 + 1, none⟩ q).setCell ⟨b, i * 5 + 2, none⟩ r).setCell ⟨b, i * 5 + 3, none⟩ s).setCell ⟨b, i * 5 + 4, none⟩ t) (some b) from fun p q r s t => (gb_set (gb_set (gb_set (gb_set (gb_set hg (p := ⟨b, i * 5, none⟩) (.inl rfl) p) (p := ⟨b, i * 5 + 1, none⟩) (.inl rfl) q) (p := ⟨b, i * 5 + 2, none⟩) (.inl rfl) r) (p := ⟨b, i * 5 + 3, none⟩) (.inl rfl) s) (p := ⟨b, i * 5 + 4, none⟩) (.inl rfl) t))
      clear ho hg
      go_wp2
      go_roundg (gk - 1)
      case measure => have := HI.out; omega
      case rel => exact ⟨i + 1, _, by have := HI.out; omega, by go_num, by go_num, HO.out _ _ _ _ _, HG.out _ _ _ _ _⟩
    · obtain rfl : i = n := by omega
      have HG := Lib.hid hg
      clear hg
      go_wp2
      go_ret
      exact ⟨rfl, HG.out⟩

end Go.Proofs.Ytlcdmjcikbgnpaa
