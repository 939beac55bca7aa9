/- Contract of spec.l4Response. Conditions: a valid set, indices of it, at most 1000 tasks above. -/
import Derived.Test.YtlagghoohloklaaOrdSpec
namespace Go.Proofs.Ytlagghoohloklaa
open Go.RowKit Go.Deep

/-- The cost of task i and the interference of the tasks hs in an interval of length x. -/
def rL (ts : List T3) (hs : List Nat) (i : Nat) : Nat → Nat := fun x => cst (tk ts i) + wkL ts hs x
theorem tk_at {ts : List T3} {i : Nat} (h : i < ts.length) : ts[i] = tk ts i := by simp [tk, List.getD, List.getElem?_eq_getElem h]
theorem Row.tkv {w : World} {a : Option Addr} {ts : List T3} (h : Row w a ts) (hv : ts.all tv = true) {i : Nat} (hi : i < ts.length) : ∃ b off, a = some ⟨b, off, none⟩ ∧ b < w.heap.size ∧
    w.cell? ⟨b, off + i * 3, none⟩ = some (.int .i64 (cst (tk ts i) : Nat)) ∧ w.cell? ⟨b, off + i * 3 + 1, none⟩ = some (.int .i64 (dln (tk ts i) : Nat)) ∧ w.cell? ⟨b, off + i * 3 + 2, none⟩ = some (.int .i64 (per (tk ts i) : Nat)) := by
  obtain ⟨b, off, h1, h2, h3, h4, h5⟩ := h i _ (List.getElem?_eq_getElem hi)
  rw [tk_at hi] at h3 h4 h5
  have := tv_bd (tk_tv hv hi)
  rw [this.2.2.2.2.2.1, this.2.2.2.2.2.2.1, this.2.2.2.2.2.2.2]
  exact ⟨b, off, h1, h2, h3, h4, h5⟩
theorem cl_le {ts : List T3} (hv : ts.all tv = true) {j x : Nat} (hj : j < ts.length) (hx : x ≤ 12) : cl ts j x ≤ 184 := by
  have := tv_bd (tk_tv hv hj)
  unfold cl
  exact Nat.le_trans (Nat.mul_le_mul (show _ ≤ 23 from Nat.le_trans (Nat.div_le_self _ _) (by omega)) this.2.2.2.2.1) (by omega)
theorem wkL_step {ts : List T3} {hs : List Nat} {k x : Nat} (hk : k < hs.length) : wkL ts (hs.take (k + 1)) x = wkL ts (hs.take k) x + cl ts (hs.getD k 0) x := by
  have e : hs.getD k 0 = hs[k] := by simp [List.getD, List.getElem?_eq_getElem hk]
  rw [List.take_succ_eq_append_getElem hk, e]
  unfold wkL
  rw [List.map_append, List.sum_append]
  simp only [List.map_cons, List.map_nil, List.sum_cons, List.sum_nil, Nat.add_zero]
theorem wkL_le {ts : List T3} (hv : ts.all tv = true) {hs : List Nat} (hm : ∀ k, k < hs.length → hs.getD k 0 < ts.length) {x : Nat} (hx : x ≤ 12) : ∀ k, k ≤ hs.length → wkL ts (hs.take k) x ≤ 184 * k
  | 0, _ => by simp [wkL]
  | k + 1, h => by
    rw [wkL_step (by omega)]
    have := wkL_le hv hm hx k (by omega)
    have := cl_le hv (hm k (by omega)) hx
    omega
theorem rL_mono (ts : List T3) (hs : List Nat) (i : Nat) : ∀ x y, x ≤ y → rL ts hs i x ≤ rL ts hs i y := fun x y h => by
  unfold rL wkL
  have : ∀ l : List Nat, (l.map fun h => cl ts h x).sum ≤ (l.map fun h => cl ts h y).sum := fun l => by
    induction l with
    | nil => exact Nat.le_refl _
    | cons a l ih => simp only [List.map_cons, List.sum_cons]; exact Nat.add_le_add (cl_mono ts a h) ih
  exact Nat.add_le_add_left (this hs) _
theorem add_step {S S' r q c : Nat} (hq : 1 ≤ q) (h : S' = S + (r + q - 1) / q * c) : Value.int .i64 ((S : Int) + ((r : Int) + q - 1) / q * c) = .int .i64 (S' : Nat) := by
  have e : (r : Int) + q - 1 = ((r + q - 1 : Nat) : Int) := by omega
  rw [e, h]
  simp

end Go.Proofs.Ytlagghoohloklaa
