/- Contracts of the functions of chapter 1 (impl, spec). Conditions: those that each theorem names. -/
import Derived.Test.YtdgihkmiolnglaaDoorProg
import Derived.Test.YtdgihkmiolnglaaDoorPlain
import Derived.WalkKit
import Derived.WalkSpells
import Derived.Below
import Derived.Lib.Hide
import Derived.Deep.LoopGhost
import Derived.Deep.QuietTactic
import Derived.BigQuiet
import Derived.RegionTactic
import Derived.Deep.RegionWith
import Derived.Deep.RegionLaw
import Derived.Deep.RegionHeld3
namespace Go.Proofs.YtdgihkmiolnglaaDoor
open Go.RowKit

def inB (n lo hi : Int) : Bool := decide (lo ≤ n ∧ n ≤ hi)

theorem ret_bool {a b : Bool} (h : a = b) : Ending.returned (.bool a) = .returned (.bool b) := by rw [h]
theorem below_box (w : World) (o : Obj) : Below w.heap.size w (w.alloc o) := (Below.refl _ _).alloc (Nat.le_refl _) _

/-- What lay below reads as it did. -/
theorem bcell {W w1 : World} (hb : Below W.heap.size W w1) : (∀ b o, b < W.heap.size → w1.cell? ⟨b, o, none⟩ = W.cell? ⟨b, o, none⟩) ∧ (∀ b o, b < W.heap.size → w1.frozen? ⟨b, o, none⟩ = W.frozen? ⟨b, o, none⟩) :=
  ⟨fun b o h => hb.cell (p := ⟨b, o, none⟩) h, fun b o h => hb.frozen (p := ⟨b, o, none⟩) h⟩

/-- impl.Task.valid. -/
theorem valid_any (c d p : Int) (w : World) :
    Calls Tryd.prog 21 #[.agg #[.int .i64 c, .int .i64 d, .int .i64 p]] w fun e w' =>
      e = .returned (.bool (tvB c d p)) ∧ Below w.heap.size w w' := by
  go_enter Tryd.func21, Tryd.ntmps21
  go_wp2
  all_goals (go_ret; exact ⟨ret_bool (by simp only [tvB]; rw [eq_comm]; first | (apply decide_eq_decide.2; omega) | (apply decide_eq_false; omega)), below_box _ _⟩)

/-- spec.l1In. -/
theorem l1In_any (n lo hi : Int) (w : World) :
    Calls Tryd.prog 31 #[.int .i64 n, .int .i64 lo, .int .i64 hi] w fun e w' =>
      e = .returned (.bool (inB n lo hi)) ∧ w = w' := by
  go_enter Tryd.func31, Tryd.ntmps31
  go_wp2
  all_goals (go_ret; exact ⟨ret_bool (by simp only [inB]; rw [eq_comm]; first | (apply decide_eq_decide.2; omega) | (apply decide_eq_false; omega)), rfl⟩)

/-- impl.TaskValid. -/
theorem taskValid_any (c d p : Int) (w : World) :
    Calls Tryd.prog 12 #[.agg #[.int .i64 c, .int .i64 d, .int .i64 p]] w fun e w' =>
      e = .returned (.bool (tvB c d p)) ∧ Below w.heap.size w w' := by
  go_enter Tryd.func12, Tryd.ntmps12
  go_wp2_with (go_at_call 21; refine (valid_any _ _ _ _).mono ?_; rintro e w' ⟨rfl, hb⟩)
  go_ret
  exact ⟨rfl, (below_box _ _).trans (hb.mono (by simp))⟩

/-- spec.TaskValid. -/
theorem specTaskValid_any (c d p : Int) (w : World) :
    Calls Tryd.prog 13 #[.agg #[.int .i64 c, .int .i64 d, .int .i64 p]] w fun e w' =>
      e = .returned (.bool (tvB c d p)) ∧ Below w.heap.size w w' := by
  go_enter Tryd.func13, Tryd.ntmps13
  go_wp2_with (go_at_call 31; refine (l1In_any _ _ _ _).mono ?_; rintro e w' ⟨rfl, rfl⟩)
  all_goals (go_ret; refine ⟨ret_bool ?_, below_box _ _⟩; simp only [inB, decide_eq_true_eq] at *; simp only [tvB]; rw [eq_comm]; first | (apply decide_eq_decide.2; omega) | (apply decide_eq_false; omega))

/-- laws.toTask: a copy. -/
theorem toTask_any (c d p : Int) (w : World) :
    Calls Tryd.prog 15 #[.agg #[.int .i64 c, .int .i64 d, .int .i64 p]] w fun e w' =>
      e = .returned (.agg #[.int .i64 c, .int .i64 d, .int .i64 p]) ∧ Below w.heap.size w w' := by
  go_enter Tryd.func15, Tryd.ntmps15
  go_wp2
  simp [bodyPost, results, Tryd.results15, go_sem]
  exact ((below_box _ _).alloc (by simp) _).alloc (by simp; omega) _

/-- laws.eqTask. -/
theorem eqTask_same (c d p : Int) (w : World) :
    Calls Tryd.prog 16 #[.agg #[.int .i64 c, .int .i64 d, .int .i64 p], .agg #[.int .i64 c, .int .i64 d, .int .i64 p]] w fun e w' =>
      e = .returned (.bool true) ∧ Below w.heap.size w w' := by
  go_enter Tryd.func16, Tryd.ntmps16
  go_wp2
  go_ret
  exact ⟨rfl, (below_box _ _).alloc (by simp) _⟩

/-- laws.alive. -/
theorem alive_any (w : World) :
    Calls Tryd.prog 14 #[] w fun e w' => e = .returned (.bool true) ∧ Below w.heap.size w w' := by
  go_enter Tryd.func14, Tryd.ntmps14
  go_wp2_with (go_at_call 12; refine (taskValid_any _ _ _ _).mono ?_; rintro e w' ⟨rfl, hb⟩)
  go_ret
  exact ⟨rfl, hb⟩

end Go.Proofs.YtdgihkmiolnglaaDoor

namespace Go.Proofs.YtdgihkmiolnglaaDoor
open Go.RowKit

/-- A slice's array 'a' holds, in world w, the tasks ts. -/
def Row (w : World) (a : Option Addr) (ts : List (Int × Int × Int)) : Prop :=
  ∀ (k : Nat) (t : Int × Int × Int), ts[k]? = some t → ∃ b off, a = some ⟨b, off, none⟩ ∧ b < w.heap.size ∧
    w.cell? ⟨b, off + k * 3, none⟩ = some (.int .i64 t.1) ∧ w.cell? ⟨b, off + k * 3 + 1, none⟩ = some (.int .i64 t.2.1) ∧ w.cell? ⟨b, off + k * 3 + 2, none⟩ = some (.int .i64 t.2.2)

theorem Row.below {w w' : World} {a : Option Addr} {ts : List (Int × Int × Int)} (h : Row w a ts) (hb : Below w.heap.size w w') : Row w' a ts := by
  intro k t hk
  obtain ⟨b, off, ha, hlt, h0, h1, h2⟩ := h k t hk
  exact ⟨b, off, ha, Nat.lt_of_lt_of_le hlt hb.size, (hb.cell (p := ⟨b, _, none⟩) hlt).trans h0, (hb.cell (p := ⟨b, _, none⟩) hlt).trans h1, (hb.cell (p := ⟨b, _, none⟩) hlt).trans h2⟩

theorem all_snoc {ts : List (Int × Int × Int)} {k : Nat} {c d p : Int} (ha : (ts.take k).all tv = true) (hlt : k < ts.length) (ht : (c, d, p) = ts[k]) (hv : tvB c d p = true) : (ts.take (k + 1)).all tv = true := by
  rw [List.take_succ_eq_append_getElem hlt, List.all_append, ha, ← ht]; simp [tv, hv]
theorem all_no {ts : List (Int × Int × Int)} {k : Nat} {c d p : Int} (hlt : k < ts.length) (ht : (c, d, p) = ts[k]) (hv : tvB c d p = false) : svB ts = false := by
  have : ts.all tv = false := by rw [List.all_eq_false]; exact ⟨ts[k], List.getElem_mem hlt, by rw [← ht]; simp [tv, hv]⟩
  simp [svB, this]
theorem all_end {ts : List (Int × Int × Int)} (ha : (ts.take ts.length).all tv = true) : svB ts = decide ((ts.length : Int) ≤ 5) := by
  rw [List.take_length] at ha; simp [svB, ha]; omega

theorem method_valid (n : Nat) (v : Value) (w : World) :
    (method (n + 1) 24 v "loop.example/deadlinescheduler/impl.valid").run Tryd.prog w = .ok (21, v) w := by kernel_rfl

end Go.Proofs.YtdgihkmiolnglaaDoor


namespace Go.Proofs.YtdgihkmiolnglaaDoor
open Go.RowKit

theorem ret_int {k : IntKind} {a b : Int} (h : a = b) : Ending.returned (.int k a) = .returned (.int k b) := by rw [h]
theorem below_drewN (w : World) (n : Nat) : Below w.heap.size w (w.drewN n) := ⟨rfl, rfl, rfl, Nat.le_refl _, fun _ _ => rfl⟩

theorem quiet_left {P : Program} {f : FuncId} {args : Array Value} {w : World} {n : Nat} {v : Value}
    (h : Calls P f args (w.drewN n) fun e w' => e = .returned v ∧ w.drewN n = w') : Calls P f args (w.drewN n) fun e w'' => e = .returned v ∧ ∃ m, w'' = w.drewN m :=
  h.mono fun _ _ hh => ⟨hh.1, n, hh.2.symm⟩

theorem take_succ {ts : List (Int × Int × Int)} {k : Nat} {t : Int × Int × Int} (hlt : k < ts.length) (ht : t = ts[k]) : ts.take (k + 1) = ts.take k ++ [t] := by
  rw [List.take_succ_eq_append_getElem hlt, ht]
theorem all_take {ts : List (Int × Int × Int)} (h : ts.all tv = true) (k : Nat) : (ts.take k).all tv = true := by
  rw [List.all_eq_true] at h ⊢
  exact fun t ht => h t (List.mem_of_mem_take ht)
theorem all_at {ts : List (Int × Int × Int)} {k : Nat} {t : Int × Int × Int} (h : ts.all tv = true) (hlt : k < ts.length) (ht : t = ts[k]) : tv t = true := by
  rw [List.all_eq_true] at h
  rw [ht]
  exact h _ (List.getElem_mem hlt)

theorem hyp_step {ts : List (Int × Int × Int)} {k H q g : Nat} {t : Int × Int × Int} (hlt : k < ts.length) (ht : t = ts[k]) (hq : q = per t) (hH : H = hyp (ts.take k)) (hg : g = Nat.gcd H q) :
    Value.int .i64 ((H : Int) / g * q) = .int .i64 (hyp (ts.take (k + 1)) : Nat) := by
  rw [take_succ hlt ht, hyp_snoc, ← hH, ← hq, ← lcm_step, ← hg]
  simp

theorem hyB_no {ts : List (Int × Int × Int)} (h : svB ts = false) : hyB ts = 0 := by simp [hyB, h]
theorem hyB_yes {ts : List (Int × Int × Int)} (h : svB ts = true) : hyB ts = hyp ts := by simp [hyB, h]
theorem sv_all {ts : List (Int × Int × Int)} (h : svB ts = true) : ts.all tv = true ∧ ts.length ≤ 5 := by simpa [svB] using h

end Go.Proofs.YtdgihkmiolnglaaDoor


namespace Go.Proofs.YtdgihkmiolnglaaDoor
open Go.RowKit

theorem quo_nat (x g : Nat) (hx : x ≤ 1099511627776) : wrap64 ((x : Int) / g) = ((x / g : Nat) : Int) := by
  have h1 : x / g ≤ x := Nat.div_le_self _ _
  rw [← Int.natCast_ediv]
  generalize x / g = z at *
  exact IntWalk.wrap64_in _ (by omega)
theorem below_drewN' {B : Nat} {a w : World} (h : Below B a w) (n : Nat) : Below B a (w.drewN n) := ⟨h.os, h.tape, h.output, h.size, h.block⟩
theorem mul_bd (a b : Nat) (ha : a ≤ 200000) (hb : b ≤ 200000) : (0 : Int) ≤ (a : Int) * b ∧ (a : Int) * b ≤ 40000000000 ∧ a * b ≤ 40000000000 := by
  have h : a * b ≤ 200000 * 200000 := Nat.mul_le_mul ha hb
  have e : (a : Int) * b = ((a * b : Nat) : Int) := by simp
  rw [e]
  omega

theorem ut_no {ts : List (Int × Int × Int)} (h : svB ts = false) : utN ts = 0 ∧ utD ts = 0 := by simp [utN, utD, h]
theorem ut_yes {ts : List (Int × Int × Int)} (h : svB ts = true) : utN ts = wrk (hyp ts) ts / Nat.gcd (hyp ts) (wrk (hyp ts) ts) ∧ utD ts = hyp ts / Nat.gcd (hyp ts) (wrk (hyp ts) ts) := by simp [utN, utD, h]
theorem wrk_take_le {ts : List (Int × Int × Int)} (h : svB ts = true) (H k : Nat) : wrk H (ts.take k) ≤ 5 * H := by
  obtain ⟨h1, h2⟩ := sv_all h
  refine Nat.le_trans (wrk_le H (ts.take k) (all_take h1 k)) (Nat.mul_le_mul_right _ ?_)
  rw [List.length_take]
  omega
theorem wrk_step {ts : List (Int × Int × Int)} {k H S c q : Nat} {t : Int × Int × Int} (hlt : k < ts.length) (ht : t = ts[k]) (hc : c = cst t) (hq : q = per t) (hS : S = wrk H (ts.take k)) :
    Value.int .i64 ((S : Int) + c * ((H : Int) / q)) = .int .i64 (wrk H (ts.take (k + 1)) : Nat) := by
  rw [take_succ hlt ht, wrk_snoc, ← hS, ← hc, ← hq]
  simp

end Go.Proofs.YtdgihkmiolnglaaDoor


namespace Go.Proofs.YtdgihkmiolnglaaDoor
open Go.RowKit

theorem frac_step {ts : List (Int × Int × Int)} {k H N D c q : Nat} {t : Int × Int × Int} (hlt : k < ts.length) (ht : t = ts[k]) (hc : c = cst t) (hq : q = per t) (hH : H = hyp ts) (hp : 1 ≤ q) (h : Frac N D (wrk H (ts.take k)) H) :
    Frac (rn (N * rd c q + rn c q * D) (D * rd c q)) (rd (N * rd c q + rn c q * D) (D * rd c q)) (wrk H (ts.take (k + 1))) H := by
  rw [take_succ hlt ht, wrk_snoc, ← hc, ← hq]
  exact h.step hp (by rw [hq, hH, ht]; exact per_dvd_hyp (List.getElem_mem hlt))

end Go.Proofs.YtdgihkmiolnglaaDoor
