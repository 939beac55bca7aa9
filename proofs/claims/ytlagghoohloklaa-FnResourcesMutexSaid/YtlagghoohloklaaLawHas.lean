/- The contract of laws.contains. Conditions: the slice holds what is said; its length is at most 2^20. -/
import Derived.Test.YtlagghoohloklaaMem
namespace Go.Proofs.Ytlagghoohloklaa
open Go.RowKit Go.Deep

def hasB (l : List Int) (k : Int) : Bool := decide (k ∈ l)

/-- laws.contains. -/
theorem lawHas_any (a : Option Addr) (cap : Nat) (l : List Int) (k : Int) (w : World) (h : IntF w a l.length (fun i => l.getD i 0)) (hn : l.length ≤ 1048576) :
    Calls Try.prog 20 #[.slice a l.length cap, .int .i64 k] w fun e w' => e = .returned (.bool (hasB l k)) ∧ w = w' := by
  have HF := Lib.hid h
  clear h
  go_enter Try.func20, Try.ntmps20
  go_wp2
  go_loopg [5] l.length (fun m s wr => ∃ i : Nat, m + i = l.length ∧ s = .int .i64 i ∧ (∀ j, j < i → l.getD j 0 ≠ k) ∧ w = wr)
  case atStart => exact ⟨0, rfl, rfl, fun j hj => absurd hj (Nat.not_lt_zero _), rfl⟩
  case round =>
    obtain ⟨i, hi, rfl, hne, rfl⟩ := hrel
    have HK := Lib.hid hi
    have HNE := Lib.hid hne
    have hii : i ≤ l.length := by omega
    clear hi hne
    by_cases hlt : i < l.length
    · obtain ⟨b, off, rfl, _, y0⟩ := HF.out i hlt
      obtain ⟨x, hx⟩ : ∃ x, x = l.getD i 0 := ⟨_, rfl⟩
      dsimp only at y0
      rw [← hx] at y0
      have HX := Lib.hid hx
      clear hx
      have hi0 : (0 : Int) ≤ i := by omega
      have hi1 : (i : Int) < l.length := by omega
      by_cases he : x = k
      · subst he
        go_wp2
        go_ret
        exact ⟨ret_bool (decide_eq_true (by rw [HX.out, List.getD, List.getElem?_eq_getElem hlt]; exact List.getElem_mem _)).symm, rfl⟩
      · have he' : (x == k) = false := by simpa using he
        have HE := Lib.hid he
        clear he
        go_wp2
        go_roundg (gk - 1)
        case measure => have := HK.out; omega
        case rel => exact ⟨i + 1, by have := HK.out; omega, by go_num, fun j hj => by
            by_cases e : j = i
            · subst e; rw [← HX.out]; exact HE.out
            · exact HNE.out j (by omega), rfl⟩
    · obtain rfl : i = l.length := by omega
      go_wp2
      go_ret
      refine ⟨ret_bool (decide_eq_false fun hm => ?_).symm, rfl⟩
      obtain ⟨j, hj, e⟩ := List.getElem_of_mem hm
      exact HNE.out j hj (by rw [List.getD, List.getElem?_eq_getElem hj]; exact e)
end Go.Proofs.Ytlagghoohloklaa
