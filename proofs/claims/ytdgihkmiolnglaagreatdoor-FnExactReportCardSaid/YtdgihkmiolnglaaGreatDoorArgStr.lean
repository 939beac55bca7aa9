/- How a slice of strings that came in is read. -/
import Derived.Test.YtdgihkmiolnglaaGreatDoorArg
import Derived.Test.YtdgihkmiolnglaaGreatDoorTxtMem
import Derived.SliceStrings
namespace Go.Proofs.YtdgihkmiolnglaaGreatDoor
open Go.ChangeShapes Go.WideShapes Go.ChangeAt Go.RowKit Go.Joins Go.Deep

set_option maxRecDepth 100000 in
theorem strings_of_arg {H : Type} {enc : TypeId × Value → H} {W : World} {base : Nat} {v : Value} {d : DataW H} {p : List MemPlace}
    (hv : Value.okWide Tryz.prog W .any base 23 v) (h : DataW.Trod enc Tryz.prog W 0 (fun _ => true) true 23 v d p) :
    ∃ (a : Option Addr) (cap : Nat) (ls : List (List UInt8)), v = .slice a ls.length cap ∧ RowL W a ls ∧ ls.length ≤ maxLen ∧ ∀ j, j < ls.length → (ln ls j).length ≤ maxLen := by
  obtain ⟨a0, len, cap, rfl⟩ := okWide_slice Tryz.underlying23 hv
  obtain ⟨fuel, hf⟩ := h
  rcases open_strings Tryz.underlying23 Tryz.underlying9 (by kernel_rfl) hf with ⟨hcs, _⟩ | ⟨x, l, c, ss, hcs, _, hl, hm, hz, _, hcell, hws⟩
  · simp [Value.cells] at hcs
    obtain ⟨rfl, rfl, rfl⟩ := hcs
    exact ⟨none, 0, [], rfl, fun k hk => absurd hk (Nat.not_lt_zero _), by simp [maxLen], fun k hk => absurd hk (Nat.not_lt_zero _)⟩
  · simp [Value.cells] at hcs
    obtain ⟨rfl, rfl, rfl⟩ := hcs
    have hz' : ss.length = cap := by simpa using hz
    obtain ⟨ls, hls⟩ : ∃ ls, ls = (ss.take len).map lst := ⟨_, rfl⟩
    have hlen : ls.length = len := by rw [hls, List.length_map, List.length_take]; omega
    have hat : ∀ k, k < len → bs (ln ls k) = ss.getD k ByteArray.empty := by
      intro k hk
      have hks : k < ss.length := by omega
      rw [ln_get (by rw [hlen]; exact hk)]
      simp only [hls, List.getElem_map, List.getElem_take, bs_lst]
      rw [List.getD_eq_getElem?_getD, List.getElem?_eq_getElem hks]
      rfl
    refine ⟨some x, cap, ls, by rw [hlen], ?_, by rw [hlen]; omega, ?_⟩
    · intro k hk
      rw [hlen] at hk
      obtain ⟨b, off, spot⟩ := x
      have h0 := hcell 0 (by omega)
      have hsp : spot = none := by
        have := World.cell?_spot h0
        simpa [Addr.add] using this
      subst hsp
      have hk0 := hcell k (by omega)
      have hadd : (⟨b, off, none⟩ : Addr).add k = ⟨b, off + k, none⟩ := by
        unfold Addr.add
        split
        · rename_i h; subst h; rfl
        · rfl
      rw [hadd] at hk0
      have hlt : b < W.heap.size := by
        rcases Nat.lt_or_ge b W.heap.size with h' | h'
        · exact h'
        · simp [World.cell?, Array.getElem?_eq_none h'] at hk0
      exact ⟨b, off, rfl, hlt, by rw [hk0, hat k hk]⟩
    · intro j hj
      rw [hlen] at hj
      have h1 := hws (ss.getD j ByteArray.empty) (by
        rw [List.getD_eq_getElem?_getD, List.getElem?_eq_getElem (show j < ss.length by omega)]
        exact List.getElem_mem _)
      rw [← hat j hj, bs_size] at h1
      exact h1

end Go.Proofs.YtdgihkmiolnglaaGreatDoor
