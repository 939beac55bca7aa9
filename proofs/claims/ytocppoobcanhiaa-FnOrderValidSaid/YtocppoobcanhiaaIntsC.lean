/- Slices of integers: shapes, cells, make. -/
import Derived.Test.YtocppoobcanhiaaIntsB
import Derived.Test.YtocppoobcanhiaaLegal
import Derived.Laws.MakeOwn
namespace Go.Proofs.Ytocppoobcanhiaa
open Go.RowKit Go.Deep

theorem OwnI.intF' {w : World} {base : Nat} {a : Option Addr} {n cap : Nat} {f : Nat → Int} (h : OwnI w base (.slice a n cap) n f) : IntF w a n f := by
  obtain ⟨a', cap', e, h1, _⟩ := h.intF
  simp only [Value.slice.injEq] at e
  rw [e.1]
  exact h1
theorem own_shape {w : World} {base e size n : Nat} {v : Value} {xs : List Value} (h : w.ownsRow base e size v n xs) : ∃ a cap, v = .slice a n cap := by
  obtain ⟨_, ⟨rfl, rfl⟩ | ⟨g, cap, cur, rfl, _⟩⟩ := h
  · exact ⟨none, 0, rfl⟩
  · exact ⟨_, _, rfl⟩
theorem OwnI.cellAt {w : World} {base g n cap k : Nat} {f : Nat → Int} (h : OwnI w base (.slice (some ⟨g, 0, none⟩) n cap) n f) (hk : k < n) : w.cell? ⟨g, k, none⟩ = some (.int .i64 (f k)) ∧ w.frozen? ⟨g, k, none⟩ = false ∧ g < w.heap.size ∧ base ≤ g := by
  obtain ⟨g', cap', e, h1, h2, _, h3, h4⟩ := h.at (by omega)
  simp only [Value.slice.injEq, Option.some.injEq, Addr.mk.injEq, and_true, true_and] at e
  obtain ⟨rfl, _⟩ := e
  exact ⟨h4 k hk, h3 k, h2, h1⟩
theorem Row.at {w : World} {a : Option Addr} {ts : List T3} {i : Nat} (h : Row w a ts) (hi : i < ts.length) : ∃ b off, a = some ⟨b, off, none⟩ ∧ b < w.heap.size ∧
    w.cell? ⟨b, off + i * 3, none⟩ = some (.int .i64 (tk ts i).1) ∧ w.cell? ⟨b, off + i * 3 + 1, none⟩ = some (.int .i64 (tk ts i).2.1) ∧ w.cell? ⟨b, off + i * 3 + 2, none⟩ = some (.int .i64 (tk ts i).2.2) := by
  have e : tk ts i = ts[i] := by simp [tk, hi]
  rw [e]
  exact h i _ (List.getElem?_eq_getElem hi)
theorem run_make_ints (n : Nat) (hn : n ≤ 1099511627776) (w : World) :
    (Instr.makeSlice 23 (.int .i64 (n : Int)) (.int .i64 (n : Int))).run Try.prog w = .ok (.slice (some ⟨w.heap.size, 0, none⟩) n n) (w.alloc (.cells (madeCells #[.int .i64 0] n) 3)) := by
  obtain ⟨i, hi, hz, hs, hb⟩ := info_parts intInfo
  have h := run_make (P := Try.prog) w 23 3 i _ Try.underlying23 hi hz .i64 .i64 (n : Int) (n : Int) (by omega) (by omega) (by rw [hb]; omega) (by omega)
  rw [hs] at h
  simpa [Value.cells] using h
theorem IntF.congr {w : World} {a : Option Addr} {n : Nat} {f g : Nat → Int} (h : IntF w a n f) (e : ∀ k, k < n → f k = g k) : IntF w a n g := fun k hk => by
  obtain ⟨b, off, ha, hb, hc⟩ := h k hk
  exact ⟨b, off, ha, hb, by rw [hc, e k hk]⟩

theorem rowIs_ownI {w : World} {base b n : Nat} {f : Nat → Int} (h : w.rowIs b 3 n (fun k => .int .i64 (f k))) (hb : base ≤ b) (hn : n ≤ maxLen) : OwnI w base (.slice (some ⟨b, 0, none⟩) n n) n f := by
  obtain ⟨cur, hc, hsz, hat⟩ := h
  refine ⟨by rw [vals_len, Nat.mul_one], .inr ⟨b, n, cur, rfl, hb, hc, Nat.le_refl _, hn, by omega, ?_⟩⟩
  apply List.ext_getElem?
  intro k
  by_cases hk : k < n
  · rw [vals_at f hk, List.getElem?_take_of_lt (by omega), Array.getElem?_toList]
    exact hat k hk
  · rw [List.getElem?_eq_none (by rw [List.length_take]; omega), List.getElem?_eq_none (by rw [vals_len]; omega)]

end Go.Proofs.Ytocppoobcanhiaa
