/- Contracts of the program's executed, nonNegativeRest, RunProgram's closure, RunProgram. Conditions: the slices hold what is said; what each theorem names. -/
import Derived.Test.YtlcdmjcikbgnpaaPrgExecR
import Derived.Test.YtlcdmjcikbgnpaaPrgTop
import Derived.Test.YtlcdmjcikbgnpaaPrgRun
namespace Go.Proofs.Ytlcdmjcikbgnpaa
open Go.RowKit Go.Deep

/-- The cells of a new execution. -/
def exC (v fv : Value) : Array Value := #[v, .nilFunc, .nilFunc, .nilFunc, .func (.func 58) #[] #[], .func (.func 59) #[] #[], .func (.func 60) #[] #[], .func (.func 61) #[] #[], .func (.func 62) #[] #[], .func (.func 63) #[] #[], .func (.func 64) #[] #[], .func (.func 65) #[] #[], .func (.func 66) #[] #[], .func (.func 67) #[] #[], .func (.func 68) #[] #[], .func (.func 69) #[] #[], fv, .int .i64 0]
theorem exC_kinds (v fv : Value) (j : Nat) (hj : j < 15) : (exC v fv)[1 + j]? = kindsC[j]? := by
  rcases (show j = 0 ∨ j = 1 ∨ j = 2 ∨ j = 3 ∨ j = 4 ∨ j = 5 ∨ j = 6 ∨ j = 7 ∨ j = 8 ∨ j = 9 ∨ j = 10 ∨ j = 11 ∨ j = 12 ∨ j = 13 ∨ j = 14 by omega) with rfl | rfl | rfl | rfl | rfl | rfl | rfl | rfl | rfl | rfl | rfl | rfl | rfl | rfl | rfl <;> rfl
theorem ex_at {W : World} {g : Nat} {v fv : Value} {T : TypeId} (hb : W.heap[g]? = some (.cells (exC v fv) T (0, 0))) : ExAt W g v fv 0 := by
  have key : ∀ j u, (exC v fv)[j]? = some u → W.cell? ⟨g, j, none⟩ = some u := fun j u hu => by simp [World.cell?, hb, hu]
  refine ⟨(Array.getElem?_eq_some_iff.1 hb).1, key 0 _ rfl, fun j u hj => key (1 + j) u ?_, key 16 _ rfl, key 17 _ rfl, by simp [World.frozen?, hb]⟩
  have hj15 : j < 15 := by
    have := (Array.getElem?_eq_some_iff.1 hj).1
    simpa [kindsC] using this
  rw [exC_kinds v fv j hj15]
  exact hj

set_option maxRecDepth 100000 in
set_option maxHeartbeats 4000000 in
/-- impl.executed. -/
theorem executed_any {ps : List N5} {a : Option Addr} {B0 nB fn p1 p2 : Nat} {St : World → Nat → List Int → Prop} {ch : Nat → Nat → List Int → Nat × List Int} {rs : Nat → List Int → Nat × List Int} {Len : List Int → Nat → Prop} (cap : Nat) (w : World) (C : ∀ E, w.heap.size ≤ E → Chooser ps a B0 E nB fn p1 p2 St ch rs Len)
    (hr : RowN w a ps) (sb : Nat) (s : List Int) (hs : St w sb s) (hl : Len s 0) (L : Nat) (hL : L + 1 = ps.length) (h6 : wc8 true ps L ≤ 600) :
    Calls Try.prog 45 #[.slice a ps.length cap, .func (.func fn) #[] #[.pointer (some ⟨p1, 0, none⟩), .pointer (some ⟨p2, 0, none⟩)]] w fun e w' =>
      e = .returned (.int .i64 ((rs L s).1 : Nat)) ∧ ∃ sb', St w' sb' (rs L s).2 ∧ ChgP (fun b => b = nB ∨ b = sb) w w' ∧ (sb' = sb ∨ w.heap.size ≤ sb') := by
  have HC := Lib.hid C
  have HR := Lib.hid hr
  have HS := Lib.hid hs
  have HLN := Lib.hid hl
  have hn12 := (C _ (Nat.le_refl _)).n12
  have hw : IntKind.i64.wrap ((ps.length : Int) - 1) = (L : Int) := by rw [IntWalk.i64_in _ (by omega)]; omega
  have H6 := Lib.hid h6
  have HL := Lib.hid hL
  obtain ⟨R, hR⟩ : ∃ R, R = rs L s := ⟨_, rfl⟩
  have HRR := Lib.hid hR
  rw [← hR]
  clear C hr hs hl hL h6 hR
  go_enter Try.func45, Try.ntmps45
  go_wp2_with fail
  refine (nodeKinds_any _).mono ?_
  rintro e w1 ⟨rfl, b1⟩
  have B1 := Lib.hid b1
  clear b1
  unfold kindsV kindsC
  go_wp2_with fail
  obtain ⟨W, hW⟩ : ∃ W, W = w1.alloc (.cells (exC (.slice a ps.length cap) (.func (.func fn) #[] #[.pointer (some ⟨p1, 0, none⟩), .pointer (some ⟨p2, 0, none⟩)])) 79) := ⟨_, rfl⟩
  have HEX := Lib.hid (show ExAt W w1.heap.size (.slice a ps.length cap) (.func (.func fn) #[] #[.pointer (some ⟨p1, 0, none⟩), .pointer (some ⟨p2, 0, none⟩)]) 0 by rw [hW]; exact ex_at (blk_alloc_new w1 _))
  have HBW := Lib.hid (show Below w.heap.size w W by rw [hW]; exact B1.out.trans ((below_box _ _).mono B1.out.size))
  unfold exC at hW
  rw [← hW]
  clear hW
  have C := HC.out w1.heap.size B1.out.size
  obtain ⟨k1, k2, k3, k4⟩ := C.blk _ _ _ HS.out
  have hsz := B1.out.size
  have hx : Exs ps a cap w1.heap.size fn p1 p2 nB St Len W sb s 0 := ⟨HEX.out, C.keep _ _ _ _ HS.out HBW.out.size (fun b hq => HBW.out.block b (by rcases hq with hq | rfl | rfl <;> omega)), HR.out.below HBW.out, HLN.out, by omega⟩
  have K := run_any (cap := cap) C L (by have := HL.out; omega) H6.out W sb 0 s hx (by have := H6.out; omega)
  rw [← HRR.out] at K
  have HK := Lib.hid K
  have HSB := Lib.hid (show sb < w.heap.size from k4)
  clear C hx K k1 k2 k3 k4 hsz
  refine HK.out.mono ?_
  rintro e w2 ⟨rfl, sb2, hx2, hc2, hs2⟩
  have HX2 := Lib.hid hx2
  have HC2 := Lib.hid hc2
  have HS2 := Lib.hid hs2
  have d17 := hx2.ex.c17
  rw [Nat.zero_add] at d17
  clear hx2 hc2 hs2 hw
  go_wp2
  go_ret
  refine ⟨rfl, sb2, HX2.out.st, ?_, ?_⟩
  · have h1 : ChgP (fun b => b = nB ∨ b = sb) w W := ChgP.of HBW.out
    refine h1.trans HC2.out (fun b hb h => ?_)
    rcases h with h | h | h
    · have := B1.out.size; omega
    · exact .inl h
    · exact .inr h
  · have := HBW.out.size
    rcases HS2.out with h | h
    · exact .inl h
    · exact .inr (by omega)

/-- impl.nonNegativeRest. -/
theorem nonNegativeRest_any (c : Int) (m : Nat) (h1 : 1 ≤ m) (h5 : m ≤ 5) (w : World) :
    Calls Try.prog 47 #[.int .i64 c, .int .i64 (m : Int)] w fun e w' => e = .returned (.int .i64 (c % (m : Int))) ∧ w = w' := by
  have hm0 : (0 : Int) < m := by omega
  have hm1 : ¬ (m : Int) = 0 := by omega
  have ht1 : -(m : Int) < Int.tmod c m ∧ Int.tmod c m < m := by
    have h := Int.lt_tmod_of_pos c hm0
    have h' := Int.tmod_lt_of_pos c hm0
    omega
  have hw1 : IntKind.i64.wrap (Int.tmod c m) = Int.tmod c m := IntWalk.i64_in _ (by omega)
  have hw2 : IntKind.i64.wrap (Int.tmod c m + m) = Int.tmod c m + m := IntWalk.i64_in _ (by omega)
  have htm := take_mod c hm0
  have htn : 0 ≤ c % (m : Int) ∧ c % (m : Int) < m := ⟨Int.emod_nonneg _ (by omega), Int.emod_lt_of_pos _ hm0⟩
  have hw3 : IntKind.i64.wrap (c % (m : Int)) = c % (m : Int) := IntWalk.i64_in _ (by omega)
  clear ht1 htn
  go_enter Try.func47, Try.ntmps47
  go_wp2
  go_ret
  exact ⟨rfl, rfl⟩

end Go.Proofs.Ytlcdmjcikbgnpaa
