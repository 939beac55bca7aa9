/- Contracts of spec.l4Fits and spec.FixedFeasible. Conditions: the slices hold what is said, at most 2^20 entries. -/
import Derived.Test.YtdgihkmiolnglaaGreatDoorRespSpec
import Derived.StillTailTactics
namespace Go.Proofs.YtdgihkmiolnglaaGreatDoor
open Go.RowKit Go.Deep

/-- The tasks above place k. -/
def abv (os : List Int) (k : Nat) : List Nat := (os.take k).map Int.toNat
theorem abv_len {os : List Int} {k : Nat} (h : k ≤ os.length) : (abv os k).length = k := by simp [abv]; omega
theorem abv_at {os : List Int} {k j : Nat} (h : k ≤ os.length) (hj : j < k) : (abv os k).getD j 0 = (os.getD j 0).toNat := by
  have h1 : j < os.length := by omega
  simp [abv, List.getD, List.getElem?_take_of_lt hj, List.getElem?_eq_getElem h1]
theorem nodup_toNat : ∀ {l : List Int}, l.Nodup → (∀ x ∈ l, 0 ≤ x) → (l.map Int.toNat).Nodup
  | [], _, _ => List.nodup_nil
  | a :: l, h, h0 => by
    rw [List.nodup_cons] at h
    rw [List.map_cons, List.nodup_cons]
    refine ⟨fun hm => ?_, nodup_toNat h.2 fun x hx => h0 x (List.mem_cons_of_mem _ hx)⟩
    obtain ⟨b, hb, e⟩ := List.mem_map.1 hm
    have h1 := h0 b (List.mem_cons_of_mem _ hb)
    have h2 := h0 a List.mem_cons_self
    have : b = a := by omega
    exact h.1 (this ▸ hb)
theorem abv_mem {ts : List T3} {os : List Int} (h : ordB ts os = true) {k j : Nat} : j ∈ abv os k ↔ (j : Int) ∈ os.take k := by
  constructor
  · intro hm
    obtain ⟨b, hb, e⟩ := List.mem_map.1 hm
    have := (ordB_iff.1 h).2.2.1 b (List.mem_of_mem_take hb)
    have e2 : (j : Int) = b := by omega
    exact e2 ▸ hb
  · exact fun hm => List.mem_map.2 ⟨_, hm, by simp⟩
theorem abv_lt {ts : List T3} {os : List Int} (h : ordB ts os = true) {k : Nat} : ∀ j ∈ abv os k, j < ts.length := fun j hj => by
  have := (ordB_iff.1 h).2.2.1 _ (List.mem_of_mem_take ((abv_mem h).1 hj))
  omega
theorem ord_at {ts : List T3} {os : List Int} (h : ordB ts os = true) {k : Nat} (hk : k < os.length) : 0 ≤ os.getD k 0 ∧ os.getD k 0 < ts.length := by
  have e : os.getD k 0 = os[k] := by simp [List.getD, List.getElem?_eq_getElem hk]
  rw [e]
  exact (ordB_iff.1 h).2.2.1 _ (List.getElem_mem _)
theorem abv_getD {ts : List T3} {os : List Int} (h : ordB ts os = true) {k : Nat} : ∀ j, j < (abv os k).length → (abv os k).getD j 0 < ts.length := fun j hj => by
  have e : (abv os k).getD j 0 = (abv os k)[j] := by simp [List.getD, List.getElem?_eq_getElem hj]
  rw [e]
  exact abv_lt h _ (List.getElem_mem _)
theorem IntF.abv {ts : List T3} {os : List Int} (h : ordB ts os = true) {w : World} {a : Option Addr} (hf : IntF w a os.length fun k => os.getD k 0) {k : Nat} (hk : k ≤ os.length) : IntF w a (abv os k).length fun j => ((abv os k).getD j 0 : Nat) := fun j hj => by
  rw [abv_len hk] at hj
  obtain ⟨b, o, e1, e2, e3⟩ := hf j (by omega)
  have h0 := (ord_at h (show j < os.length by omega)).1
  refine ⟨b, o, e1, e2, e3.trans ?_⟩
  simp only [abv_at hk hj]
  congr 2
  omega
theorem rsp_list {ts : List T3} {os : List Int} (h : ordB ts os = true) (k : Nat) :
    lfp (rL ts (abv os k) (os.getD k 0).toNat) (dln (tk ts (os.getD k 0).toNat)) = rspO ts os k := by
  unfold rspO resp
  congr 1
  funext x
  unfold rL rF abv
  rw [wkL_eq (nodup_toNat ((List.take_sublist _ _).nodup (ordB_iff.1 h).2.2.2) fun x hx => ((ordB_iff.1 h).2.2.1 x (List.mem_of_mem_take hx)).1) (abv_lt (k := k) h)]
  congr 2
  funext j
  exact decide_eq_decide.2 (abv_mem h)

/-- All places up to n have a response time. -/
def fitN (ts : List T3) (os : List Int) (n : Nat) : Bool := (List.range n).all fun k => (rspO ts os k).isSome
theorem fitN_succ (ts : List T3) (os : List Int) (n : Nat) : fitN ts os (n + 1) = (fitN ts os n && (rspO ts os n).isSome) := by simp [fitN, List.range_succ, List.all_append]
theorem fitN_no {ts : List T3} {os : List Int} {k : Nat} (h : rspO ts os k = none) : ∀ n, k < n → fitN ts os n = false := fun n hn => by
  rw [fitN, List.all_eq_false]
  exact ⟨k, List.mem_range.2 hn, by simp [h]⟩

theorem fixB_fit (ts : List T3) (os : List Int) : fixB ts os = (ordB ts os && fitN ts os os.length) := rfl

end Go.Proofs.YtdgihkmiolnglaaGreatDoor
