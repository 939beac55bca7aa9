/- Contracts of spec.l7First and spec.FirstFit. Conditions: the slices hold what is said; what each theorem names. -/
import Derived.Test.YtdgihkmiolnglaaGreatDoorPartSpec
namespace Go.Proofs.YtdgihkmiolnglaaGreatDoor
open Go.RowKit Go.Deep

theorem valsP_congr {f g : Nat → Int} {n : Nat} (e : ∀ k, k < n → f k = g k) : vals f n = vals g n := by
  simp only [vals]
  exact List.map_congr_left fun k hk => by rw [e k (List.mem_range.1 hk)]
theorem own_pushI {w' : World} {base : Nat} {v' : Value} {n : Nat} {f g : Nat → Int} {x : Int} (ho : w'.ownsRow base 3 1 v' (n + 1) (vals f n ++ [.int .i64 x])) (e : ∀ k, k < n → g k = f k) (ex : g n = x) : OwnI w' base v' (n + 1) g := by
  unfold OwnI
  rw [vals_succ, ex, valsP_congr e]
  exact ho

theorem own_capI {w : World} {base n c : Nat} {a : Option Addr} {f : Nat → Int} (h : OwnI w base (.slice a n c) n f) : n ≤ c := by
  obtain ⟨_, ⟨e, hn⟩ | ⟨g, cap', cur, e, _, hb, hnc, hcm, hsz, hx⟩⟩ := h
  · simp only [Value.slice.injEq] at e
    omega
  · simp only [Value.slice.injEq] at e
    rw [e.2.2]
    exact hnc

theorem ffN_stop {ts : List T3} {n i : Nat} (h : ffN ts n i = none) : ∀ {j : Nat}, i ≤ j → ffN ts n j = none := by
  intro j
  induction j with
  | zero => intro hj; obtain rfl : i = 0 := by omega
            exact h
  | succ j ih =>
    intro hj
    by_cases e : i = j + 1
    · subst e; exact h
    · simp only [ffN]
      rw [ih (by omega)]
theorem ffN_next {ts : List T3} {n : Nat} {gs : List Nat} (h : ffN ts n gs.length = some gs) : ffN ts n (gs.length + 1) = match low (fit ts (nz gs) gs.length) n with
    | none => none
    | some c => some (gs ++ [c]) := by
  show (match ffN ts n gs.length with
    | none => none
    | some l => match low (fit ts (nz l) gs.length) n with
      | none => none
      | some c => some (l ++ [c])) = _
  rw [h]
/-- What spec.FirstFit answers, what spec.Partition answers. -/
def ffO (ts : List T3) (n : Int) : Option (List Nat) := if svB ts = true ∧ 1 ≤ n ∧ n ≤ 5 then ff ts n.toNat else none
def prO (ts : List T3) (n : Int) : Option (List Nat) := if svB ts = true ∧ 1 ≤ n ∧ n ≤ 5 then part ts n.toNat else none
/-- Two results: the list, or nothing, and whether there is one. -/
def GotAsg (base : Nat) (r : Option (List Nat)) (e : Ending) (w' : World) : Prop := ∃ v, e = .returned (.tuple #[v, .bool r.isSome]) ∧ OwnI w' base v (r.getD []).length (nz (r.getD []))
theorem owni_belowP {w w' : World} {base n : Nat} {v : Value} {f : Nat → Int} (h : OwnI w base v n f) (hb : Below w.heap.size w w') : OwnI w' base v n f := h.below hb

end Go.Proofs.YtdgihkmiolnglaaGreatDoor
